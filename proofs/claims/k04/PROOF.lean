import PyProof.Rows.All
import Wide.All
import OpenK.AllK
import Wide.FinOn
import HandS.ForMost
import HandS.Wide
import HandS.TupAny
import HandS.EndBits
import HandS.IsInst
import HandS.AnyAll
import HandS.EndTab
import HandS.Style
import HandS.StrMore
import HandS.WideBits
import HandS.Codes
import HandS.GenOver
import HandS.GenList
import HandS.EndOwn
import HandS.TupMul
import HandS.TupLe
import PySem.Challenge.RW_stemkeep_k04_stems
set_option Elab.async false
set_option linter.all false
set_option maxRecDepth 100000
namespace My
/-! ### what every law of these keys leans on: defs by name, powers, the bag, heaps that grow -/
open PySem PySem.Spec L2 TL
/-- a def of the text as its top leaves it -/
structure Ftx (K : PySem.W.Frag) (mg : Str → Option Value) (x : Str) (st : Stmt) (ps : List Str) : Prop where
  ex : ∃ (f : Addr) (fd : FuncData), Fun K x x st f fd ∧ mg x = some (.ref f) ∧ Binds K fd ps []
/-- a def that keeps a promise, called by its name -/
structure Cal (P : Program) (w : World) (K : PySem.W.Frag) (mg : Str → Option Value) (base : Heap) (k : Nat) (x : Str) (ps : List Str) (sp : Sp) : Prop where
  ex : ∃ (f : Addr) (fd : FuncData), FnOk P w K mg base CX0 k f fd ps sp ∧ PySem.W.keepIn K (.ref f) = true ∧ mg x = some (.ref f) ∧ Binds K fd ps [] ∧ ∃ (oc : Value) (od : Option Addr) (osl : Array (Option Value)), K.lookup f = some ⟨oc, od, .func fd, osl⟩
section
variable {P : Program} {w : World} {K : PySem.W.Frag} {mg : Str → Option Value} {base : Heap}
theorem Ftx.cal {x : Str} {st : Stmt} {N ps : List Str} {sp : Sp} {k : Nat} (F : Ftx K mg x st ps) (S : FnScope N ps (defScope st)) (len : ∀ vs H Q E, sp vs H Q E → vs.length = ps.length)
    (h : ∀ (f : Addr) (cdv : Value) (A : Around) (outer : List Env) (s : Shared) (H : Hp) (vs : List V) (Q : VK) (E : XK), Room k (A.deeper (PyProof.Rows.envOfC x (defScope st) s.heap.objs.size f cdv)) → sp vs H Q E →
      ∃ t, PSs (cxOf CX0 P w K mg base N x (defScope st) f cdv A outer s H E).nox (defBody st) t ∧ t { nx := fun _ H' => Q .non H', rt := Q } (start N vs) H) : Cal P w K mg base (k + 1) x ps sp := by
  obtain ⟨f, fd, F1, g, b⟩ := F.ex
  have F2 := F1.ok S len (h f)
  obtain ⟨oc, od, kV, doc, pm, an, cdv, ct, osl, e, lk, hcd⟩ := F1.ex
  exact ⟨f, fd, F2, F1.kp, g, b, oc, od, osl, lk⟩
theorem Cal.mono {j k : Nat} {x : Str} {ps : List Str} {sp : Sp} (C : Cal P w K mg base j x ps sp) (h : j ≤ k) : Cal P w K mg base k x ps sp := by
  obtain ⟨f, fd, F, a, b, c⟩ := C.ex
  exact ⟨f, fd, F.mono h, a, b, c⟩
end
section
variable {X : Cx}
theorem pe_cal {k : Nat} {x : Str} {ps : List Str} {sp : Sp} {e : Expr} {es : List Expr} {p pos : Pos} {t : TA} (C : Cal X.prog X.w X.K X.mg X.base k x ps sp) (hr : Room k X.A) (ha : PA X (e :: es) t) (hg : Gl X x := by rfl)
    (hdb : (x == ("__debug__" : Str)) = false := by decide) (he : starEach (e :: es) X.env = (false, eval e X.env) :: starEach es X.env := by rfl) (hpl : (backTo pos (starEach es X.env)).any (·.1) = false := by rfl) :
    PE X (.Call (.Name x p) (e :: es) [] pos) (tCall sp [] E0 t) := by
  obtain ⟨f, fd, F, a, b, c, _⟩ := C.ex
  exact pe_call F hr hg b a c .nil pass0 ha hdb he hpl
theorem pe_cal0 {k : Nat} {x : Str} {ps : List Str} {sp : Sp} {p pos : Pos} (C : Cal X.prog X.w X.K X.mg X.base k x ps sp) (hr : Room k X.A) (hg : Gl X x := by rfl)
    (hdb : (x == ("__debug__" : Str)) = false := by decide) : PE X (.Call (.Name x p) [] [] pos) (tCall sp [] E0 tNil) := by
  obtain ⟨f, fd, F, a, b, c, _⟩ := C.ex
  exact pe_call0 F hr hg b a c .nil pass0 hdb
/-- ** of an exponent up to 64 and a base below 2 ^ 10000 -/
def CPowW (i j : Int) : Prop := 0 ≤ j ∧ j ≤ 64 ∧ i.natAbs.log2 < 10000
theorem op_powW : OpR X (binaryOp .Pow) (rI CPowW fun i j => .int (i ^ j.toNat)) := opI fun i j _ _ _ _ _ hc q => by
  obtain ⟨h1, h2, h3⟩ := hc
  refine PyProof.Rows.pow_int h1 ?_ q
  have b : Builtin.Int.intBits i ≤ i.natAbs.log2 + 1 := by
    unfold Builtin.Int.intBits
    split <;> omega
  have h : (Builtin.Int.intBits i : Int) * j ≤ 10000 * j := Int.mul_le_mul_of_nonneg_right (by omega) h1
  omega
/-- a text some times -/
def rRepS : R2 := fun x y H Q => ∃ z i, x = .str z ∧ y = .int i ∧ PySem.MulOk z i ∧ Q (.str (Txt.mul z i)) H
theorem op_strRep : OpR X (binaryOp .Mult) rRepS := by
  intro pins s σ H x y v u Q I rx ry h
  obtain ⟨z, i, rfl, rfl, ok, q⟩ := h
  obtain ⟨t, rfl⟩ := rx
  obtain ⟨t', rfl⟩ := ry
  exact PySem.SB.mul ok fun t' k => ⟨.str _, H, I.tok _, ⟨t', rfl⟩, q⟩
end
theorem mul_ok {z : Str} {i : Int} (h0 : 0 ≤ i) (h1 : i ≤ 1000) (h2 : z.length ≤ 1000) : PySem.MulOk z i := by
  refine ⟨?_, fun a _ => ?_, fun a _ => ?_⟩
  · rw [decide_eq_false (by omega), decide_eq_false (by omega)]
    rfl
  · intro c
    have : (2 ^ 63 - 1 : Int) / 1000 ≤ (2 ^ 63 - 1) / i := by
      refine Int.le_ediv_of_mul_le (by omega) ?_
      have : (2 ^ 63 - 1 : Int) / 1000 * i ≤ (2 ^ 63 - 1 : Int) / 1000 * 1000 := Int.mul_le_mul_of_nonneg_left h1 (by decide)
      exact Int.le_trans this (by decide)
    have e : (2 ^ 63 - 1 : Int) / 1000 = 9223372036854775 := by decide
    omega
  · have : z.length * i.toNat ≤ 1000 * 1000 := Nat.mul_le_mul h2 (by omega)
    generalize z.length * i.toNat = n at this
    show decide (n > sizeLine) = false
    exact decide_eq_false (Nat.not_lt.mpr (Nat.le_trans this (by decide)))
theorem tl_mul (z : Str) (n : Nat) : tl (Txt.mul z (n : Int)) = (List.replicate n (tl z)).flatten := by
  unfold Txt.mul
  split
  · have : n = 0 := by omega
    subst this
    rfl
  · split
    · rename_i h
      rw [Bool.or_eq_true, beq_iff_eq, beq_iff_eq] at h
      rcases h with h | h
      · have : n = 1 := by omega
        subst this
        simp
      · have e : tl z = [] := (len0_tl z).mp h
        rw [e]
        simp
    · have key : ∀ (l : List (Array Nat)) (a : Array Nat), (l.foldl (· ++ ·) a).toList = a.toList ++ (l.map Array.toList).flatten := by
        intro l
        induction l with
        | nil => intro a; simp
        | cons x r ih => intro a; rw [List.foldl_cons, ih]; simp
      show ((List.replicate n z.cps).foldl (· ++ ·) #[]).toList = _
      rw [key, List.map_replicate]
      rfl
theorem pow_ok {i : Int} {n : Nat} (h : i.natAbs < 2 ^ n) (hn : 0 < n) (h2 : n ≤ 10000) : i.natAbs.log2 < 10000 := Nat.lt_of_lt_of_le (PySem.Flt.log2_lt_of hn h) h2
theorem small {n : Nat} (h : n ≤ 100000) : n ≤ sizeLine := Nat.le_trans h (by decide)
theorem small' {n : Nat} (h : n < 100000) : n < sizeLine := Nat.lt_of_lt_of_le h (by decide)

/-! ### heaps that grow: all stays but the tables of code objects, which grow -/
def notTbl : HO → Bool
  | .tbl _ => false
  | _ => true
class NT (o : HO) : Prop where
  is : notTbl o = true
instance nt1 {xs : List V} : NT (.lst xs) := ⟨rfl⟩
instance nt2 {xs : List V} : NT (.tup xs) := ⟨rfl⟩
instance nt3 {C dx : Addr} {fs : List (Str × V)} : NT (.ins C dx fs) := ⟨rfl⟩
instance nt4 {kvs : List (Key × V)} : NT (.dK kvs) := ⟨rfl⟩
instance nt5 {o : Obj} {u : HO} : NT (.frz o u) := ⟨rfl⟩
instance nt6 {x : Addr} : NT (.own x) := ⟨rfl⟩
instance nt7 {φ : Heap → Prop} : NT (.ext φ) := ⟨rfl⟩
structure Sm (H H' : Hp) : Prop where
  keep0 : ∀ (a : Addr) (o : HO), H a = some o → notTbl o = true → H' a = some o
  tab : ∀ P, GxR.TabG H P → GxR.TabG H' P
  gone : ∀ a, H' a = none → H a = none
theorem Sm.keep {H H' : Hp} (s : Sm H H') (a : Addr) (o : HO) (h : H a = some o) (nt : notTbl o = true := by rfl) : H' a = some o := s.keep0 a o h nt
theorem Sm.fn {H H' : Hp} (s : Sm H H') (a : Addr) (o : HO) [n : NT o] (h : H a = some o) : H' a = some o := s.keep0 a o h n.is
instance smFn {H H' : Hp} : CoeFun (Sm H H') (fun _ => ∀ (a : Addr) (o : HO) [NT o], H a = some o → H' a = some o) := ⟨fun s => @Sm.fn H H' s⟩
theorem Sm.refl (H : Hp) : Sm H H := ⟨fun _ _ h _ => h, fun _ h => h, fun _ h => h⟩
theorem Sm.trans {H H1 H2 : Hp} (a : Sm H H1) (b : Sm H1 H2) : Sm H H2 := ⟨fun c o h n => b.keep c o (a.keep c o h n) n, fun P h => b.tab P (a.tab P h), fun c h => a.gone c (b.gone c h)⟩
theorem Sm.free {H H' : Hp} (e : Sm H H') {l : Addr} (h : H' l = none) : H l = none := e.gone l h
theorem Sm.seq {K : PySem.W.Frag} {H H' : Hp} {a : Addr} {xs : List V} (e : Sm H H') (h : SqL K H a xs) : SqL K H' a xs := by
  rcases h with (h | ⟨o, h⟩) | h
  · exact .inl (.inl (e _ _ h))
  · exact .inl (.inr ⟨o, e _ _ h⟩)
  · exact .inr h
/-- a table stands apart from what is written -/
theorem TabG.upd {H : Hp} {P p : Addr} {o : HO} (h : GxR.TabG H P) (hp : ∀ qs, H p ≠ some (.tbl qs)) : GxR.TabG (upd H p o) P := by
  obtain ⟨ps, h1, h2⟩ := h
  have ne : P ≠ p := fun e => by
    rw [e] at h1
    exact hp ps h1
  exact ⟨ps, by rw [upd_ne ne]; exact h1, h2⟩
theorem Sm.new {H : Hp} {p : Addr} {o : HO} (h : H p = none) : Sm H (upd H p o) := ⟨fun a u e _ => by
  rw [upd_ne (ne_of_none e h)]
  exact e, fun P t => TabG.upd t (fun qs z => by rw [h] at z; cases z), fun a ha => by
  by_cases e : a = p
  · rw [e]
    exact h
  · rw [upd_ne e] at ha
    exact ha⟩
theorem Sm.over {H H' : Hp} {p : Addr} {o : HO} (S : Sm H H') (h : H p = none) (ht : ∀ qs, H' p ≠ some (.tbl qs)) : Sm H (upd H' p o) := by
  refine ⟨fun b u e n => ?_, fun P t => TabG.upd (S.tab P t) ht, fun b e => ?_⟩
  · rw [upd_ne (ne_of_none e h)]
    exact S.keep b u e n
  · by_cases z : b = p
    · rw [z]; exact h
    · rw [upd_ne z] at e
      exact S.gone b e
/-- a table grew -/
theorem Sm.tabbed {H H' : Hp} {P : Addr} (t : GxR.TabG H P) (h : GxR.Tabbed P H H') : Sm H H' := by
  obtain ⟨ps, h1, h2⟩ := t
  refine ⟨fun a o e n => ?_, fun Q q => ?_, fun a e => ?_⟩
  · have ne : a ≠ P := fun z => by
      rw [z, h1] at e
      rw [← Option.some.inj e] at n
      cases n
    rw [h.2 a ne]
    exact e
  · by_cases e : Q = P
    · rw [e]
      exact h.1
    · obtain ⟨qs, q1, q2⟩ := q
      exact ⟨qs, by rw [h.2 Q e]; exact q1, q2⟩
  · by_cases z : a = P
    · obtain ⟨qs, q1, _⟩ := h.1
      rw [z, q1] at e
      cases e
    · rw [h.2 a z] at e
      exact e
/-! ### the bag, and heaps in which it alone was turned -/
def LIM : Nat := 1000000000
/-- the bag at b: how many draws were mixed is at most m -/
def Bag (H : Hp) (b : Addr) (m : Nat) : Prop := ∃ x y z : Int, H b = some (.lst [.int x, .int y, .int z]) ∧ 0 ≤ y ∧ y < 2 ^ 200 ∧ 0 ≤ z ∧ z ≤ m
structure Go (b : Addr) (n : Nat) (H H' : Hp) : Prop where
  keep0 : ∀ (a : Addr) (o : HO), a ≠ b → H a = some o → notTbl o = true → H' a = some o
  bag : ∀ m, Bag H b m → Bag H' b (m + n)
  tab : ∀ P, GxR.TabG H P → GxR.TabG H' P
  gone : ∀ a, H' a = none → H a = none
theorem Go.keep {b : Addr} {n : Nat} {H H' : Hp} (G : Go b n H H') (a : Addr) (o : HO) (ne : a ≠ b) (h : H a = some o) (nt : notTbl o = true := by rfl) : H' a = some o := G.keep0 a o ne h nt
theorem Bag.mono {H : Hp} {b : Addr} {m n : Nat} (h : Bag H b m) (l : m ≤ n) : Bag H b n := by
  obtain ⟨x, y, z, h1, h2, h3, h4, h5⟩ := h
  exact ⟨x, y, z, h1, h2, h3, h4, by omega⟩
theorem Bag.some {H : Hp} {b : Addr} {m : Nat} (h : Bag H b m) : ∃ xs, H b = some (.lst xs) := by
  obtain ⟨x, y, z, h1, _⟩ := h
  exact ⟨_, h1⟩
theorem Go.refl (b : Addr) (H : Hp) : Go b 0 H H := ⟨fun _ _ _ h _ => h, fun _ h => h, fun _ h => h, fun _ h => h⟩
theorem Go.trans {b : Addr} {n m : Nat} {H H1 H2 : Hp} (x : Go b n H H1) (y : Go b m H1 H2) : Go b (n + m) H H2 :=
  ⟨fun a o e h n => y.keep a o e (x.keep a o e h n) n, fun k h => by
    have z := y.bag _ (x.bag k h)
    exact z.mono (by omega), fun P h => y.tab P (x.tab P h), fun a h => x.gone a (y.gone a h)⟩
theorem Go.mono {b : Addr} {n m : Nat} {H H' : Hp} (x : Go b n H H') (l : n ≤ m) : Go b m H H' := ⟨x.keep0, fun k h => (x.bag k h).mono (by omega), x.tab, x.gone⟩
theorem Go.same {b : Addr} {H H' : Hp} (s : Sm H H') : Go b 0 H H' := ⟨fun a o _ h n => s.keep a o h n, fun m h => by
  obtain ⟨x, y, z, h1, h2⟩ := h
  exact ⟨x, y, z, s _ _ h1, h2⟩, s.tab, s.gone⟩
theorem Go.new {b : Addr} {H : Hp} {p : Addr} {o : HO} (h : H p = none) : Go b 0 H (upd H p o) := Go.same (Sm.new h)
/-- a thing that is no list stands apart from the bag -/
theorem Go.at {b : Addr} {n m : Nat} {H H' : Hp} (G : Go b n H H') (B : Bag H b m) {a : Addr} {o : HO} (h : H a = some o) (no : ∀ xs, o ≠ .lst xs) (nt : notTbl o = true := by rfl) : H' a = some o := by
  refine G.keep a o (fun e => ?_) h nt
  obtain ⟨xs, hx⟩ := B.some
  rw [e, hx] at h
  exact no xs (Option.some.inj h).symm
theorem Go.seqT {K : PySem.W.Frag} {b : Addr} {n m : Nat} {H H' : Hp} (G : Go b n H H') (B : Bag H b m) {a : Addr} {xs : List V} (h : SqT K H a xs) : SqT K H' a xs := by
  rcases h with (h | ⟨o, h⟩) | h
  · exact .inl (.inl (G.at B h fun _ z => by cases z))
  · exact .inl (.inr ⟨o, G.at B h fun _ z => by cases z⟩)
  · exact .inr h
theorem Go.frz {b : Addr} {n m : Nat} {H H' : Hp} (G : Go b n H H') (B : Bag H b m) {a : Addr} {ob : Obj} {u : HO} (h : H a = some (.frz ob u)) : H' a = some (.frz ob u) := G.at B h fun _ z => by cases z
theorem Sm.seqT {K : PySem.W.Frag} {H H' : Hp} (e : Sm H H') {a : Addr} {xs : List V} (h : SqT K H a xs) : SqT K H' a xs := by
  rcases h with (h | ⟨o, h⟩) | h
  · exact .inl (.inl (e _ _ h))
  · exact .inl (.inr ⟨o, e _ _ h⟩)
  · exact .inr h
/-- what was free behind is free ahead -/
theorem Go.free {b : Addr} {n m : Nat} {H H' : Hp} (G : Go b n H H') (B : Bag H b m) {p : Addr} (h : H' p = none) : H p = none := G.gone p h
theorem Bag.ne {H : Hp} {b p : Addr} {m : Nat} (B : Bag H b m) (h : H p = none) : p ≠ b := fun e => by
  obtain ⟨xs, hx⟩ := B.some
  rw [← e, h] at hx
  cases hx
/-- a new list's own address may be written: the rest goes on -/
theorem Go.own {b : Addr} {n m : Nat} {H H' : Hp} {p : Addr} {o : HO} (G : Go b n H H') (B : Bag H b m) (h : H p = none) (hp' : ∀ qs, H' p ≠ some (.tbl qs)) : Go b n H (upd H' p o) := by
  have hp := B.ne h
  refine ⟨fun a u e ha nt => ?_, fun k hk => ?_, fun P t => TabG.upd (G.tab P t) hp', fun a ha => ?_⟩
  · rw [upd_ne (ne_of_none ha h)]
    exact G.keep a u e ha nt
  · obtain ⟨x, y, z, h1, h2⟩ := G.bag k hk
    exact ⟨x, y, z, by rw [upd_ne (Ne.symm hp)]; exact h1, h2⟩
  · by_cases e : a = p
    · rw [e]
      exact h
    · rw [upd_ne e] at ha
      exact G.gone a ha
theorem no_tbl {H : Hp} {p : Addr} {xs : List V} (h : H p = some (.lst xs)) : ∀ qs, H p ≠ some (.tbl qs) := fun qs z => by
  rw [h] at z
  cases z
/-! ### the rules over K alone (within a comprehension's block the context's own K is the same) -/
section
variable {X : Cx} (K : PySem.W.Frag)
theorem ixL (h : X.K = K := by rfl) : IxR X (rIxL K) := h ▸ ix_list
theorem ixT (h : X.K = K := by rfl) : IxR X (rIxT K) := h ▸ ix_tup
theorem eqD (hu : X.A.units + 64 < cLine) (h : X.K = K := by rfl) : OpR X (compareOp .Eq) (rEqD K) := h ▸ op_eqD hu
theorem neD (hu : X.A.units + 64 < cLine) (h : X.K = K := by rfl) : OpR X (compareOp .NotEq) (rNeD K) := h ▸ op_neD hu
def rLenQ (K : PySem.W.Frag) : List V → Hp → VK → Prop := fun xs H Q => ∃ p ys, xs = [.ref p] ∧ (SqL K H p ys ∨ SqT K H p ys) ∧ Q (.int ys.length) H
theorem lenQ (h : X.K = K := by rfl) : CallR X (.builtin "len") (rLenQ K) := h ▸ call_len_seq
def rLenT1 : List V → Hp → VK → Prop := fun xs H Q => ∃ z, xs = [.str z] ∧ z.length ≤ sizeLine ∧ Q (.int z.length) H
theorem lenT : CallR X (.builtin "len") rLenT1 := call_len_str
theorem slL (h : X.K = K := by rfl) : SlR X (rSlL K) := h ▸ sl_list
theorem slT (h : X.K = K := by rfl) : SlR X (rSlA K) := h ▸ sl_tupA
theorem catA (h : X.K = K := by rfl) : OpR X (binaryOp .Add) (rCatA K) := h ▸ op_catA
theorem inQ (h : X.K = K := by rfl) : OpR X (compareOp .In) (rIn K false) := h ▸ op_in_seq
theorem ninQ (h : X.K = K := by rfl) : OpR X (compareOp .NotIn) (rIn K true) := h ▸ op_notIn_seq
def rListOf (K : PySem.W.Frag) : List V → Hp → VK → Prop := fun xs H Q => ∃ p ys, xs = [.ref p] ∧ (SqL K H p ys ∨ SqT K H p ys) ∧ ∀ l, H l = none → Q (.ref l) (upd H l (.lst ys))
theorem listOf (h : X.K = K := by rfl) : CallR X (.type "list") (rListOf K) := h ▸ call_list_of
def rTupOf (K : PySem.W.Frag) : List V → Hp → VK → Prop := fun xs H Q => ∃ p ys, xs = [.ref p] ∧ ((SqL K H p ys ∧ ∀ l, H l = none → Q (.ref l) (upd H l (.tup ys))) ∨ (SqT K H p ys ∧ Q (.ref p) H))
theorem tupOf (h : X.K = K := by rfl) : CallR X (.type "tuple") (rTupOf K) := h ▸ call_tuple_of
theorem isI (h : X.K = K := by rfl) : CallR X (.builtin "isinstance") (rIsi K) := h ▸ call_isi
end
/-! ### defs whose code object is known; the end of a law with tables -/
structure Ftc (K : PySem.W.Frag) (mg : Str → Option Value) (x : Str) (st : Stmt) (ps : List Str) (c : Addr) : Prop where
  ex : ∃ (f : Addr) (oc : Value) (od : Option Addr) (kV doc pm : Value) (an : Option Addr) (ct : Value) (osl : Array (Option Value)),
    K.lookup f = some ⟨oc, od, .func (PySem.W.fnOf x x (defArgs st) (defBody st) (defScope st) .none kV doc pm an (.ref c) ct), osl⟩ ∧ PySem.W.codeIn K (.ref c) x = true ∧ PySem.W.keepIn K (.ref f) = true ∧ mg x = some (.ref f) ∧ Binds K (PySem.W.fnOf x x (defArgs st) (defBody st) (defScope st) .none kV doc pm an (.ref c) ct) ps []
section
variable {P : Program} {w : World} {K : PySem.W.Frag} {mg : Str → Option Value} {base : Heap}
theorem Ftc.cal {x : Str} {st : Stmt} {N ps : List Str} {c : Addr} {sp : Sp} {k : Nat} (F : Ftc K mg x st ps c) (S : FnScope N ps (defScope st)) (len : ∀ vs H Q E, sp vs H Q E → vs.length = ps.length)
    (h : ∀ (f : Addr) (A : Around) (outer : List Env) (s : Shared) (H : Hp) (vs : List V) (Q : VK) (E : XK), Room k (A.deeper (PyProof.Rows.envOfC x (defScope st) s.heap.objs.size f (.ref c))) → sp vs H Q E →
      ∃ t, PSs (cxOf CX0 P w K mg base N x (defScope st) f (.ref c) A outer s H E).nox (defBody st) t ∧ t { nx := fun _ H' => Q .non H', rt := Q } (start N vs) H) : Cal P w K mg base (k + 1) x ps sp := by
  obtain ⟨f, oc, od, kV, doc, pm, an, ct, osl, lk, hcd, kp, g, b⟩ := F.ex
  refine ⟨f, _, fn_of lk hcd S len (fun A outer s H vs Q E hr hsp => ?_), kp, g, b, oc, od, osl, lk⟩
  obtain ⟨t, h1, q⟩ := h f A outer s H vs Q E hr hsp
  exact ⟨t, h1.nox, q⟩
end
def hdOk (vs : Array Value) (c P : Addr) : Bool := (match (vs[11]? : Option Value) with | some (.ref P') => P' == P | _ => false) &&
  (match vs.getD 18 .none with | .str _ _ => true | _ => false) && (match vs.getD 7 .none with | .int _ _ => true | _ => false) &&
  (match vs.getD 9 .none with | .bool _ => true | _ => false) && (match vs.getD 10 .none with | .int _ _ => true | _ => false) && c != P
theorem hdOk_ok {K : PySem.W.Frag} {c P : Addr} {vs : Array Value} {dd : Option Addr} {sl : Array (Option Value)} (h : K.lookup c = some ⟨.type "code", dd, .fields vs, sl⟩) (o : hdOk vs c P = true) : PySem.W.codeHdIn K c P = true := by
  unfold PySem.W.codeHdIn
  rw [h]
  exact o
theorem tri0 : TriplesOk (#[] : Array Value).toList := by
  first
    | trivial
    | exact .nil
    | simp [TriplesOk]
    | decide
def OwnTabs (q : Program) (K : PySem.W.Frag) (mg : Str → Option Value) (h : Heap) : Prop := ∀ (x : Str) (f : Addr), ((PyProof.Rows.recsOf q).any fun e => e.name == x) = true → mg x = some (.ref f) → LamX.OwnTab K f h
theorem walk_ofAll {l : PySem.W.OpenLaw} {n k : Nat} {q : Program} {loose : List Str} {XP : (Str → Option Value) → Heap → Prop} {YP : World → Heap → Prop} {d : DefRec} {K : Params → PySem.W.Frag} {CX : World → CXT} {x : Str}
    (hn : l.most = some n) (hn2 : n ≤ sizeLine) (hdf : d.params.defaults = []) (hr : Room k callerA) (hY : ∀ (w : World) (h : Heap), YP w h → (K w.params).In h)
    (F : ∀ (w : World) (mg : Str → Option Value) (fa : Addr) (h : Heap), YP w h → (K w.params).In h → h.Ns mainGlobals mg → mg d.name = some (.ref fa) → OwnTabs q (K w.params) mg h → LamX.LawAtS l w (K w.params) (CX w) k n x mg fa h)
    (hCX : ∀ (w : World) (H : Hp) (s : Shared) (e : Value) (s' : Shared), CX w [] H s (fun _ _ _ => False) e s' → False) :
    PySem.W.WalkO q loose XP YP l.row.toRowW d [] (fun f vs => PySem.call f vs) := by
  refine Att.attach_callB hn hdf fun w s₀ s₁ mg mb fa o pm cd doc a vs ns G Y ho hd hcd hmg hobj hints hlen hbits hg => ?_
  have KX := hY w _ Y
  have own : OwnTabs q (K w.params) mg s₁.heap := fun x f hrec hx c P o1 fd1 e dd vs1 sl k1 k2 k3 k4 k5 => by
    obtain ⟨dL, hm, hn1⟩ := List.any_eq_true.mp hrec
    have hn2 : dL.name = x := beq_iff_eq.mp hn1
    obtain ⟨a', o', fd', c', P', h1, h2, h3, h4, h5, h6⟩ := G.T.tab dL hm
    rw [hn2, hx] at h1
    cases h1
    have g1 := KX _ _ k1
    rw [g1] at h2
    cases h2
    rw [k2] at h3
    cases h3
    rw [k3] at h4
    cases h4
    obtain ⟨⟨oc, vc, e1, _, e3, e4⟩, hP⟩ := h6
    have g2 := KX _ _ k4
    rw [g2] at e1
    cases e1
    cases e3
    rw [k5] at e4
    cases e4
    exact hP
  obtain ⟨fd, cs, sp, hT, nT, C, hb, hsp, hF⟩ := F w mg fa _ Y KX G.T.g hmg own
  exact LamX.law_callTs KX G.T.g G.T.b G.T.builtins G.T.nolimit hg hT nT C G.T.bmain hobj hints (Nat.le_trans hlen hn2) hr hF hb (fun H hH hS => hsp H a ns hlen hbits hH hS) fun H e s' => hCX w H s₁ e s'
def top (i : Nat) : Stmt := PySem.Challenge.pw_stemkeep_k04_stems.main.body.getD i (.Pass ⟨0, 0, 0, 0⟩)
abbrev sIsStem : Stmt := top 1
theorem scIsStem : FnScope ["one", "other"] ["one", "other"] (defScope sIsStem) := ⟨rfl, rfl, rfl, by decide +kernel, rfl, by decide +kernel, by decide +kernel⟩
abbrev sMeet : Stmt := top 2
theorem scMeet : FnScope ["one", "other"] ["one", "other"] (defScope sMeet) := ⟨rfl, rfl, rfl, by decide +kernel, rfl, by decide +kernel, by decide +kernel⟩
abbrev sLawCellAt : Stmt := top 4
theorem scLawCellAt : FnScope ["script", "k"] ["script", "k"] (defScope sLawCellAt) := ⟨rfl, rfl, rfl, by decide +kernel, rfl, by decide +kernel, by decide +kernel⟩
abbrev sLawBag : Stmt := top 5
theorem scLawBag : FnScope ["cell", "nth"] ["cell", "nth"] (defScope sLawBag) := ⟨rfl, rfl, rfl, by decide +kernel, rfl, by decide +kernel, by decide +kernel⟩
abbrev sLawDraw : Stmt := top 6
theorem scLawDraw : FnScope ["bag", "many", "mixed", "found"] ["bag", "many"] (defScope sLawDraw) := ⟨rfl, rfl, rfl, by decide +kernel, rfl, by decide +kernel, by decide +kernel⟩
abbrev sLawSigns : Stmt := top 7
theorem scLawSigns : FnScope ["few"] [] (defScope sLawSigns) := ⟨rfl, rfl, rfl, by decide +kernel, rfl, by decide +kernel, by decide +kernel⟩
abbrev sLawText : Stmt := top 8
theorem scLawText : FnScope ["bag", "most", "lot", "some", "many", "number", "near", "k"] ["bag", "most"] (defScope sLawText) := ⟨rfl, rfl, rfl, by decide +kernel, rfl, by decide +kernel, by decide +kernel⟩
abbrev sLawName : Stmt := top 9
theorem scLawName : FnScope ["bag", "some", "many", "k"] ["bag"] (defScope sLawName) := ⟨rfl, rfl, rfl, by decide +kernel, rfl, by decide +kernel, by decide +kernel⟩
abbrev sLawKey : Stmt := top 10
theorem scLawKey : FnScope ["bag", "found"] ["bag"] (defScope sLawKey) := ⟨rfl, rfl, rfl, by decide +kernel, rfl, by decide +kernel, by decide +kernel⟩
abbrev sLawRef : Stmt := top 11
theorem scLawRef : FnScope ["bag", "many", "k"] ["bag"] (defScope sLawRef) := ⟨rfl, rfl, rfl, by decide +kernel, rfl, by decide +kernel, by decide +kernel⟩
abbrev sLawStem : Stmt := top 12
theorem scLawStem : FnScope ["one", "other", "k"] ["one", "other"] (defScope sLawStem) := ⟨rfl, rfl, rfl, by decide +kernel, rfl, by decide +kernel, by decide +kernel⟩
abbrev sLawBeside : Stmt := top 13
theorem scLawBeside : FnScope ["bag", "ref", "name", "keys", "lot", "at"] ["bag", "ref"] (defScope sLawBeside) := ⟨rfl, rfl, rfl, by decide +kernel, rfl, by decide +kernel, by decide +kernel⟩
abbrev sLaw : Stmt := top 14
theorem scLaw : FnScope ["script", "k", "bag", "some", "turn", "one", "other", "found", "answer"] ["script"] (defScope sLaw) := ⟨rfl, rfl, rfl, by decide +kernel, rfl, by decide +kernel, by decide +kernel⟩
structure Tabs where
  no : Unit
theorem tabB_of {base : Heap} {mg : Str → Option Value} {c P : Addr} (h : LamX.TabB base mg c P) : GxR.TabB base mg c P := ⟨h.code, h.bm, h.gP⟩
structure Txt (K : PySem.W.Frag) (mg : Str → Option Value) (cs : Tabs) : Prop where
  f_is_stem : Ftx K mg "is_stem" sIsStem ["one", "other"]
  f_meet : Ftx K mg "meet" sMeet ["one", "other"]
  f_law_cell_at : Ftx K mg "_law_cell_at" sLawCellAt ["script", "k"]
  f_law_bag : Ftx K mg "_law_bag" sLawBag ["cell", "nth"]
  f_law_draw : Ftx K mg "_law_draw" sLawDraw ["bag", "many"]
  f_law_signs : Ftx K mg "_law_signs" sLawSigns []
  f_law_text : Ftx K mg "_law_text" sLawText ["bag", "most"]
  f_law_name : Ftx K mg "_law_name" sLawName ["bag"]
  f_law_key : Ftx K mg "_law_key" sLawKey ["bag"]
  f_law_ref : Ftx K mg "_law_ref" sLawRef ["bag"]
  f_law_stem : Ftx K mg "_law_stem" sLawStem ["one", "other"]
  f_law_beside : Ftx K mg "_law_beside" sLawBeside ["bag", "ref"]
  f_law : Ftx K mg "law" sLaw ["script"]
  n_range : mg "range" = none
  n_len : mg "len" = none
  n_max : mg "max" = none
  n_tuple : mg "tuple" = none
  n_str : mg "str" = none
  n_min : mg "min" = none
  n_isinstance : mg "isinstance" = none
  n_bool : mg "bool" = none
structure TBs (base : Heap) (mg : Str → Option Value) (cs : Tabs) : Prop where
  triv : True
structure TGs (H : Hp) (cs : Tabs) : Prop where
  triv : True
theorem TGs.sm {H H' : Hp} {cs : Tabs} (t : TGs H cs) (S : Sm H H') : TGs H' cs := ⟨trivial⟩
theorem TGs.go {b : Addr} {n : Nat} {H H' : Hp} {cs : Tabs} (t : TGs H cs) (S : Go b n H H') : TGs H' cs := ⟨trivial⟩
/-! ### a draw -/
def spDraw : Sp := fun vs H Q _ => ∃ (b : Addr) (many : Int) (m : Nat), vs = [.ref b, .int many] ∧ Bag H b m ∧ m ≤ LIM ∧ 0 < many ∧ many < 2 ^ 256 ∧ ∀ (r : Int) (H' : Hp), 0 ≤ r → r < many → Go b 1 H H' → Q (.int r) H'
theorem nat_lt {i : Int} {n : Nat} (h0 : 0 ≤ i) (h : i < ((2 ^ n : Nat) : Int)) : i.natAbs < 2 ^ n := by omega
theorem draw_set {b : Addr} {m : Nat} {H : Hp} {x y z x' z' : Int} (hb : H b = some (.lst [.int x, .int y, .int z])) (hz : z' = z ∨ z' = z + 1) : Go b 1 H (upd H b (.lst [.int x', .int y, .int z'])) := by
  refine ⟨fun a o e h _ => by rw [upd_ne e]; exact h, fun k hk => ?_, fun P t => TabG.upd t (no_tbl hb), fun a ha => by
    by_cases e : a = b
    · rw [e, upd_same] at ha
      cases ha
    · rw [upd_ne e] at ha
      exact ha⟩
  obtain ⟨x1, y1, z1, h1, h2, h3, h4, h5⟩ := hk
  rw [hb] at h1
  injection h1 with h1
  injection h1 with h1
  injection h1 with e1 h1
  injection h1 with e2 h1
  injection h1 with e3 h1
  injection e1 with e1
  injection e2 with e2
  injection e3 with e3
  subst e1 e2 e3
  exact ⟨x', y, z', upd_same, h2, h3, by omega, by omega⟩
section
variable {P : Program} {w : World} {K : PySem.W.Frag} {mg : Str → Option Value} {base : Heap} {cs : Tabs}
theorem ok_law_draw (T : Txt K mg cs) : Cal P w K mg base 1 "_law_draw" ["bag", "many"] spDraw := by
  refine T.f_law_draw.cal scLawDraw (fun vs H Q E h => ?_) (fun f cdv A outer s H vs Q E hr h => ?_)
  · obtain ⟨b, many, m, rfl, _⟩ := h
    rfl
  obtain ⟨b, many, m, rfl, B, hm, h0, h1, q⟩ := h
  obtain ⟨x, y, z, hb, y0, y1, z0, z1⟩ := id B
  refine ⟨_, (pss_cons (ps_if (pt_cmpR op_gt (pe_ix (ixL K) (pv 0) pe_int (fun _ _ => rfl)) pe_int (nomark _)) (pss_cons (ps_set (i := 3) scLawDraw.nd rfl (by first | exact Or.inl rfl | exact Or.inr rfl) (pe_op op_mod (pe_ix (ixL K) (pv 0) pe_int (fun _ _ => rfl)) (pv 1)))
        (pss_cons (ps_asg (pe_op op_fdivW (pe_ix (ixL K) (pv 0) pe_int (fun _ _ => rfl)) (pv 1)) (pg_sub (pv 0) pe_int set_list))
        (pss_one (ps_ret (pv 3))))) pss_nil)
    (pss_cons (ps_asg (pe_op op_add (pe_ix (ixL K) (pv 0) pe_int (fun _ _ => rfl)) pe_int) (pg_sub (pv 0) pe_int set_list))
    (pss_cons (ps_set (i := 2) scLawDraw.nd rfl (by first | exact Or.inl rfl | exact Or.inr rfl) (pe_op op_mod (pe_op op_powW (pe_op op_add (pe_ix (ixL K) (pv 0) pe_int (fun _ _ => rfl)) (pe_op op_mulW pe_int (pe_ix (ixL K) (pv 0) pe_int (fun _ _ => rfl)))) pe_int) pe_int))
    (pss_cons (ps_set (i := 2) scLawDraw.nd rfl (by first | exact Or.inl rfl | exact Or.inr rfl) (pe_op op_mod (pe_op op_powW (pe_op op_add (pv 2) (pe_op op_mulW pe_int (pe_ix (ixL K) (pv 0) pe_int (fun _ _ => rfl)))) pe_int) pe_int))
    (pss_one (ps_ret (pe_op op_mod (pe_op op_fdivW (pv 2) pe_int) (pv 1)))))))), ?_⟩
  have hS : SqL K H b [.int x, .int y, .int z] := SqL.of hb
  have hdiv : CDivW x many := wide_div (b := 256) h0 (nat_lt (by omega) h1) (by decide) (by decide)
  refine ⟨_, rfl, b, _, 0, .int x, rfl, rfl, hS, rfl, x, 1, rfl, rfl, _, rfl, ?_⟩
  refine ite2 (fun c => ?_) (fun c => ?_)
  · refine ⟨_, rfl, b, _, 0, .int x, rfl, rfl, hS, rfl, _, rfl, x, many, rfl, rfl, h0, ?_⟩
    refine ⟨_, rfl, b, _, 0, .int x, rfl, rfl, hS, rfl, _, rfl, x, many, rfl, rfl, hdiv, ?_⟩
    refine ⟨_, rfl, b, [.int x, .int y, .int z], 0, 0, rfl, rfl, hb, rfl, ?_⟩
    exact ⟨_, rfl, q _ _ (Int.emod_nonneg x (by omega)) (Int.emod_lt_of_pos x h0) (draw_set (m := m) hb (.inl rfl))⟩
  · refine ⟨_, rfl, b, _, 2, .int z, rfl, rfl, hS, rfl, z, 1, rfl, rfl, ?_⟩
    refine ⟨_, rfl, b, [.int x, .int y, .int z], 2, 2, rfl, rfl, hb, rfl, ?_⟩
    have hb1 : (upd H b (.lst [.int x, .int y, .int (z + 1)])) b = some (.lst [.int x, .int y, .int (z + 1)]) := upd_same
    have hS1 : SqL K (upd H b (.lst [.int x, .int y, .int (z + 1)])) b [.int x, .int y, .int (z + 1)] := SqL.of hb1
    unfold LIM at hm
    have e3 : ((3 : Int)).toNat = 3 := rfl
    have ez : (z + 1).natAbs < 2 ^ 40 := nat_lt (by omega) (by omega)
    refine ⟨_, rfl, b, _, 1, .int y, rfl, rfl, hS1, rfl, _, rfl, b, _, 2, .int (z + 1), rfl, rfl, hS1, rfl, 67867967, z + 1, rfl, rfl, wide_mul (a := 40) (b := 40) (by decide) ez (by decide) (by decide) (by decide), y, 67867967 * (z + 1), rfl, rfl,
      y + 67867967 * (z + 1), 3, rfl, rfl, ⟨by decide, by decide, pow_ok (n := 300) (nat_lt (by omega) (by omega)) (by decide) (by decide)⟩, _, 170141183460469231731687303715884105727, rfl, rfl, (show (0 : Int) < 170141183460469231731687303715884105727 by decide), ?_⟩
    have r0 := Int.emod_nonneg ((y + 67867967 * (z + 1)) ^ ((3 : Int)).toNat) (show (170141183460469231731687303715884105727 : Int) ≠ 0 by decide)
    have r1 := Int.emod_lt_of_pos ((y + 67867967 * (z + 1)) ^ ((3 : Int)).toNat) (show (0 : Int) < 170141183460469231731687303715884105727 by decide)
    obtain ⟨r, er⟩ : ∃ r : Int, (y + 67867967 * (z + 1)) ^ ((3 : Int)).toNat % 170141183460469231731687303715884105727 = r := ⟨_, rfl⟩
    rw [er] at r0 r1
    refine ⟨_, rfl, _, rfl, b, _, 2, .int (z + 1), rfl, rfl, hS1, rfl, 49979687, z + 1, rfl, rfl, wide_mul (a := 40) (b := 40) (by decide) ez (by decide) (by decide) (by decide), r, 49979687 * (z + 1), congrArg V.int er, rfl,
      r + 49979687 * (z + 1), 3, rfl, rfl, ⟨by decide, by decide, pow_ok (n := 300) (nat_lt (by omega) (by omega)) (by decide) (by decide)⟩, _, 162259276829213363391578010288127, rfl, rfl, (show (0 : Int) < 162259276829213363391578010288127 by decide), ?_⟩
    obtain ⟨t, et⟩ : ∃ t : Int, (r + 49979687 * (z + 1)) ^ ((3 : Int)).toNat % 162259276829213363391578010288127 = t := ⟨_, rfl⟩
    refine ⟨_, rfl, t, 4096, congrArg V.int et, rfl, wide_div (b := 1000) (by decide) (by decide) (by decide) (by decide), _, rfl, t / 4096, many, rfl, rfl, h0, ?_⟩
    exact q _ _ (Int.emod_nonneg _ (by omega)) (Int.emod_lt_of_pos _ h0) (draw_set (m := m) hb (.inr rfl))
end
/-! ### texts, menus, comprehensions of draws -/
/-- a sign of worths -/
def sgn (c : Nat) : Bool := decide (32 ≤ c) && (decide (c ≤ 126) && !decide (c = 37))
/-- a text of signs of worths, of at most n signs -/
structure WT (z : Str) (n : Nat) : Prop where
  len : (tl z).length ≤ n
  sg : ∀ c ∈ tl z, sgn c = true
theorem WT.mono {z : Str} {n m : Nat} (h : WT z n) (l : n ≤ m) : WT z m := ⟨Nat.le_trans h.len l, h.sg⟩
theorem WT.line {z : Str} {n : Nat} (h : WT z n) (l : n ≤ 100000) : z.length ≤ sizeLine := by
  rw [len_tl]
  exact small (Nat.le_trans h.len l)
theorem tl_cut (z : Str) (k : Nat) : tl (cutS z none (some (k : Int))) = (tl z).take k := by
  show (((z.cps.toList.drop (HT.sIx z.length 0 none)).take (HT.sIx z.length z.length (some (k : Int)) - HT.sIx z.length 0 none)).toArray).toList = _
  rw [HT.sIx_none, HT.sIx_nat, List.drop_zero, Nat.sub_zero, List.toList_toArray]
  have e : z.length = (tl z).length := len_tl z
  rw [e]
  show (tl z).take (min k (tl z).length) = _
  by_cases h : k ≤ (tl z).length
  · rw [Nat.min_eq_left h]
  · rw [Nat.min_eq_right (by omega), List.take_of_length_le (Nat.le_refl _), List.take_of_length_le (by omega)]
theorem WT.cut {z : Str} (h : ∀ c ∈ tl z, sgn c = true) (k : Nat) : WT (cutS z none (some (k : Int))) k :=
  ⟨by rw [tl_cut, List.length_take]; exact Nat.min_le_left _ _, fun c hc => h c (by rw [tl_cut] at hc; exact List.mem_of_mem_take hc)⟩
theorem WT.int {i : Int} {k : Nat} (hk : 0 < k) (h : i.natAbs < 10 ^ k) : WT (Str.ofString (toString i)) (k + 1) := by
  refine ⟨?_, fun c hc => ?_⟩
  · rw [← len_tl, PySem.ofString_length]
    exact PySem.int_text_length_le10 hk h
  · have f := fun q hq => PyProof.Rows.int_text_free' q hq i
    have z : ¬ (c ≠ 45 ∧ (c < 48 ∨ 57 < c)) := fun q => f c q hc
    unfold sgn
    by_cases e : c = 45
    · subst e; rfl
    · have q : 48 ≤ c ∧ c ≤ 57 := by omega
      rw [decide_eq_true (show 32 ≤ c by omega), decide_eq_true (show c ≤ 126 by omega), decide_eq_false (show ¬ c = 37 by omega)]
      rfl
theorem joinL_nil : ∀ ps : List (List Nat), joinL [] ps = ps.flatten
  | [] => rfl
  | [p] => by
    show p = [p].flatten
    simp
  | p :: q :: r => by
    show p ++ ([] ++ joinL [] (q :: r)) = _
    rw [joinL_nil (q :: r), List.nil_append]
    rfl
theorem tl_glue (ys : List Str) : tl (Txt.join "" ys) = (ys.map tl).flatten := by
  rw [join_eq, tl_join]
  exact joinL_nil _
theorem flat_len {k : Nat} : ∀ ys : List Str, (∀ y ∈ ys, (tl y).length ≤ k) → (ys.map tl).flatten.length ≤ k * ys.length
  | [], _ => by simp
  | y :: r, h => by
    have a := h y List.mem_cons_self
    have b := flat_len r fun z hz => h z (List.mem_cons_of_mem _ hz)
    rw [List.map_cons, List.flatten_cons, List.length_append, List.length_cons, Nat.mul_succ]
    omega
theorem WT.glue {k : Nat} {ys : List Str} (h : ∀ y ∈ ys, WT y k) : WT (Txt.join "" ys) (k * ys.length) := by
  refine ⟨by rw [tl_glue]; exact flat_len ys fun y hy => (h y hy).len, fun c hc => ?_⟩
  rw [tl_glue] at hc
  obtain ⟨l, hl, hcl⟩ := List.mem_flatten.mp hc
  obtain ⟨y, hy, rfl⟩ := List.mem_map.mp hl
  exact (h y hy).sg c hcl
theorem glue_sum {k : Nat} : ∀ ys : List Str, (∀ y ∈ ys, (tl y).length ≤ k) → (ys.map (·.length)).sum ≤ k * ys.length
  | [], _ => by simp
  | y :: r, h => by
    have a := h y List.mem_cons_self
    have b := glue_sum r fun z hz => h z (List.mem_cons_of_mem _ hz)
    have c : y.length = (tl y).length := len_tl y
    rw [List.map_cons, List.sum_cons, List.length_cons, Nat.mul_succ]
    omega
theorem glue_ok {k n : Nat} {ys : List Str} (h : ∀ y ∈ ys, (tl y).length ≤ k) (hl : ys.length = n) (hb : k * n ≤ 1000000) : (ys.map (·.length)).sum + ys.length * ("" : Str).length ≤ 16777216 := by
  have a := glue_sum ys h
  rw [hl] at a
  have e : ("" : Str).length = 0 := rfl
  rw [e]
  omega
/-- texts as values: what a list of values that are texts holds -/
theorem texts_of {P : Str → Prop} : ∀ vs : List V, (∀ v ∈ vs, ∃ y, v = .str y ∧ P y) → ∃ ys : List Str, vs = ys.map V.str ∧ ys.length = vs.length ∧ ∀ y ∈ ys, P y
  | [], _ => ⟨[], rfl, rfl, fun _ h => by cases h⟩
  | v :: r, h => by
    obtain ⟨y, rfl, hy⟩ := h v List.mem_cons_self
    obtain ⟨ys, rfl, e, hp⟩ := texts_of r fun z hz => h z (List.mem_cons_of_mem _ hz)
    refine ⟨y :: ys, rfl, by rw [List.length_cons, List.length_cons, e], fun z hz => ?_⟩
    rcases List.mem_cons.mp hz with rfl | hz
    · exact hy
    · exact hp z hz
section
variable {K : PySem.W.Frag}
/-- the n-th of a list that is written on the spot, n drawn -/
theorem menuG {A : V → Prop} {b : Addr} {i n c m : Nat} {σ : L2.St} {H : Hp} {ta : TA} {Q : VK} (ha : ∀ R : List V → Hp → Prop, (∀ xs H1, xs.length = n → (∀ v ∈ xs, A v) → Go b c H H1 → R xs H1) → ta σ H R)
    (hb : σ[i]? = some (some (.ref b))) (B : Bag H b m) (hm : m + c ≤ LIM) (h0 : 0 < n) (hn : n ≤ 1000) (q : ∀ v H', A v → Go b (c + 1) H H' → Q v H') : tOp (rIxL K) (tLst ta) (tCall spDraw [] E0 (tCons (tVar i) (tCons (tC (.int ((n : Nat) : Int))) tNil))) σ H Q := by
  refine ha _ fun xs H1 hl hA G => ⟨small (by omega), fun p hp => ?_⟩
  have B1 := (Go.new (o := .lst xs) hp).bag _ (G.bag _ B)
  refine ⟨_, hb, b, (n : Int), _, rfl, B1, by omega, by omega, by omega, fun r H' r0 r1 G' => ?_⟩
  have hp' : (upd H1 p (.lst xs)) p = some (.lst xs) := upd_same
  have np : p ≠ b := (G.bag _ B).ne hp
  obtain ⟨j, rfl⟩ : ∃ j : Nat, r = (j : Int) := ⟨r.toNat, by omega⟩
  have hj : j < xs.length := by omega
  refine ⟨p, xs, (j : Int), xs[j], rfl, rfl, SqL.of (G'.keep p _ np hp'), atI_nat (List.getElem?_eq_getElem hj), ?_⟩
  exact q _ _ (hA _ (List.getElem_mem hj)) ((G.trans ((Go.new hp).trans G')).mono (by omega))
/-- .. of values that are there -/
theorem menuC {A : V → Prop} {b : Addr} {i m : Nat} {xs : List V} {σ : L2.St} {H : Hp} {ta : TA} {Q : VK} (ha : ∀ R : List V → Hp → Prop, R xs H → ta σ H R) (hA : ∀ v ∈ xs, A v)
    (hb : σ[i]? = some (some (.ref b))) (B : Bag H b m) (hm : m ≤ LIM) (h0 : 0 < xs.length) (hn : xs.length ≤ 1000) (q : ∀ v H', A v → Go b 1 H H' → Q v H') : tOp (rIxL K) (tLst ta) (tCall spDraw [] E0 (tCons (tVar i) (tCons (tC (.int ((xs.length : Nat) : Int))) tNil))) σ H Q :=
  menuG (n := xs.length) (c := 0) (fun R h => ha R (h _ _ rfl hA (Go.refl b H))) hb B hm h0 hn fun v H' hv G => q v H' hv (G.mono (by omega))
theorem draw_here {b : Addr} {i m : Nat} {many : Int} {σ : L2.St} {H : Hp} {Q : VK} (hb : σ[i]? = some (some (.ref b))) (B : Bag H b m) (hm : m ≤ LIM) (h0 : 0 < many) (hn : many < 2 ^ 256) (q : ∀ (r : Int) (H' : Hp), 0 ≤ r → r < many → Go b 1 H H' → Q (.int r) H') :
    tCall spDraw [] E0 (tCons (tVar i) (tCons (tC (.int many)) tNil)) σ H Q := ⟨_, hb, b, many, m, rfl, B, hm, h0, hn, q⟩
/-- [e for k in range(n)], e by draws of the bag at b: a new list of n values that are so -/
theorem lc_draws {b : Addr} {i n c m : Nat} {σ : L2.St} {H1 : Hp} {D : Addr} {te : TE} {Q : VK} (A : V → Prop) (B : Bag H1 b m) (hD : H1 D = none) (hn : n ≤ 90000)
    (he : ∀ (j : Nat) (H : Hp), j < n → Bag H b (m + c * j) → Go b (c * j) H1 H → ∀ R : VK, (∀ y H', A y → Go b c H H' → R y H') → te ((σ.set i none).set i (some (.int (0 + (j : Int))))) H R)
    (hQ : ∀ ys H', ys.length = n → (∀ y ∈ ys, A y) → Go b (c * n) H1 H' → H' D = some (.lst ys) → Q (.ref D) H') :
    ∃ W : Nat → Nat → Hp → Prop, (∃ k, W 0 k (upd H1 D (.lst []))) ∧ ∀ j k H, W j k H →
      ((Itr 0 n).stop j H ∧ Q (.ref D) H) ∨ ((Itr 0 n).go j H ∧ ∃ Nx : Hp → Prop, (∀ H', Nx H' → ∃ k', k' < k ∧ W (j + 1) k' H') ∧ ∀ x H', (Itr 0 n).yld j H x H' → gName i x (wipe σ [i]) H' fun σ2 H2 => wipe σ2 [i] = wipe σ [i] ∧ tYes σ2 H2 fun b H3 =>
        if b = true then te σ2 H3 fun y H4 => ∃ acc, H4 D = some (.lst acc) ∧ acc.length < sizeLine ∧ Nx (upd H4 D (.lst (acc ++ [y]))) else Nx H3) := by
  have nD := B.ne hD
  refine lc_range (lo := 0) (n := n) (fun j H => ∃ ys : List V, ys.length = j ∧ (∀ y ∈ ys, A y) ∧ Go b (c * j) H1 H ∧ H D = some (.lst ys)) ⟨[], rfl, fun _ h => (by cases h), ?_, upd_same⟩ (fun j H hj hp => ?_) fun H hp => ?_
  · exact (Go.new hD).mono (by omega)
  · obtain ⟨ys, hl, hA, G, hy⟩ := hp
    refine ⟨?_, ?_⟩
    · show ((wipe σ [i]).set i (some (.int (0 + (j : Int))))).set i none = (σ.set i none)
      show ((σ.set i none).set i (some (.int (0 + (j : Int))))).set i none = (σ.set i none)
      rw [List.set_set, List.set_set]
    · show te ((σ.set i none).set i (some (.int (0 + (j : Int))))) H _
      refine he j H hj (G.bag _ B) G _ fun y H' hy' G' => ⟨ys, G'.keep D _ nD hy, small' (by omega), ys ++ [y], by rw [List.length_append, hl]; rfl, fun z hz => ?_, ?_, upd_same⟩
      · rcases List.mem_append.mp hz with hz | hz
        · exact hA z hz
        · rw [List.mem_singleton.mp hz]
          exact hy'
      · refine Go.own ((G.trans G').mono ?_) B hD (no_tbl (G'.keep D _ nD hy))
        rw [Nat.mul_succ]
        exact Nat.le_refl _
  · obtain ⟨ys, hl, hA, G, hy⟩ := hp
    exact hQ ys H hl hA G hy
theorem lc_drawn {b : Addr} {i N c c0 m : Nat} {σ : L2.St} {H : Hp} {ta : TA} {te : TE} {Q : VK} {A0 : Int → Prop} (A : V → Prop) (ha : ∀ R : List V → Hp → Prop, (∀ (k : Int) H1, A0 k → 0 ≤ k → k ≤ N → Go b c0 H H1 → R [.int k] H1) → ta σ H R) (B : Bag H b m) (hN : N ≤ 90000)
    (he : ∀ (j : Nat) (H2 : Hp), j < N → Bag H2 b (m + c0 + c * j) → Go b (c0 + c * j) H H2 → ∀ R : VK, (∀ y H', A y → Go b c H2 H' → R y H') → te ((σ.set i none).set i (some (.int (0 + (j : Int))))) H2 R)
    (hQ : ∀ (k : Int) D ys H', A0 k → 0 ≤ k → k ≤ N → ys.length = k.toNat → (∀ y ∈ ys, A y) → Go b (c0 + c * k.toNat) H H' → H' D = some (.lst ys) → H D = none → Q (.ref D) H') : tLc (iRng1 ta) (gName i) tYes te [i] σ H Q := by
  refine ha _ fun k H1 hk k0 k1 G => ⟨k, rfl, by omega, by omega, fun D hD => ?_⟩
  have B1 := G.bag _ B
  refine lc_draws (c := c) (i := i) (n := k.toNat) (te := te) A B1 hD (by omega) (fun j H2 hj B2 G2 R hR => ?_) fun ys H' hl hA G' hy => ?_
  · exact he j H2 (by omega) B2 (G.trans G2) R hR
  · exact hQ k D ys H' hk k0 k1 hl hA (G.trans G') hy (G.free B hD)
end
/-! ### the law's cells, bags, texts, names, keys, references -/
def spCellAt (K : PySem.W.Frag) : Sp := fun vs H Q _ => ∃ (a : Addr) (ns : List Int) (k : Nat), vs = [.ref a, .int (k : Int)] ∧ SqL K H a (ns.map V.int) ∧ ∀ c : Int, Q (.int c) H
def spBag : Sp := fun vs H Q _ => ∃ (c : Int) (k : Nat), vs = [.int c, .int (k : Int)] ∧ k ≤ 1000 ∧ ∀ (p : Addr) (H' : Hp), H p = none → Sm H H' → Bag H' p 0 → Q (.ref p) H'
def SIGNS : Str := " !\"#$&'()*+,-./0123456789:;<=>?@ABCDEFGHIJKLMNOPQRSTUVWXYZ[\\]^_`abcdefghijklmnopqrstuvwxyz{|}~"
def spSigns : Sp := fun vs H Q _ => vs = [] ∧ Q (.str SIGNS) H
def spText : Sp := fun vs H Q _ => ∃ (b : Addr) (most m : Nat), vs = [.ref b, .int (most : Int)] ∧ Bag H b m ∧ m + 2000 ≤ LIM ∧ most ≤ 1000 ∧ ∀ (z : Str) (H' : Hp), WT z most → Go b 1100 H H' → Q (.str z) H'
def AZ (c : Nat) : Bool := decide (97 ≤ c) && decide (c ≤ 122)
structure NM (z : Str) : Prop where
  len : (tl z).length ≤ 8
  pos : 1 ≤ (tl z).length
  sg : ∀ c ∈ tl z, AZ c = true
def spName : Sp := fun vs H Q _ => ∃ (b : Addr) (m : Nat), vs = [.ref b] ∧ Bag H b m ∧ m + 2000 ≤ LIM ∧ ∀ (z : Str) (H' : Hp), NM z → Go b 20 H H' → Q (.str z) H'
structure KEY (z : Str) : Prop where
  wt : WT z 40
  pos : 1 ≤ (tl z).length
def spKey : Sp := fun vs H Q _ => ∃ (b : Addr) (m : Nat), vs = [.ref b] ∧ Bag H b m ∧ m + 5000 ≤ LIM ∧ ∀ (z : Str) (H' : Hp), KEY z → Go b 1200 H H' → Q (.str z) H'
/-- a reference stands at p -/
structure RefAt (K : PySem.W.Frag) (H : Hp) (p : Addr) (name : Str) (keys : List Str) : Prop where
  ex : ∃ t : Addr, SqT K H p [.str name, .ref t] ∧ SqT K H t (keys.map V.str)
structure REF (name : Str) (keys : List Str) : Prop where
  nm : NM name
  le : keys.length ≤ 6
  ks : ∀ z ∈ keys, KEY z
def spRef (K : PySem.W.Frag) : Sp := fun vs H Q _ => ∃ (b : Addr) (m : Nat), vs = [.ref b] ∧ Bag H b m ∧ m + 20000 ≤ LIM ∧ ∀ (p : Addr) (name : Str) (keys : List Str) (H' : Hp), REF name keys → RefAt K H' p name keys → Go b 8000 H H' → Q (.ref p) H'
theorem sgn_of {z : Str} (h : (tl z).all sgn = true) : ∀ c ∈ tl z, sgn c = true := fun c hc => List.all_eq_true.mp h c hc
theorem WT.dec {z : Str} {n : Nat} (h : (decide ((tl z).length ≤ n) && (tl z).all sgn) = true) : WT z n := by
  rw [Bool.and_eq_true] at h
  exact ⟨of_decide_eq_true h.1, sgn_of h.2⟩
/-- all of a list of values are texts that are so -/
def allWT (n : Nat) (vs : List V) : Bool := vs.all fun v => match v with
  | .str z => decide ((tl z).length ≤ n) && (tl z).all sgn
  | _ => false
theorem allWT_ok {n : Nat} {vs : List V} (h : allWT n vs = true) : ∀ v ∈ vs, ∃ z, v = .str z ∧ WT z n := fun v hv => by
  have q := List.all_eq_true.mp h v hv
  cases v with
  | str z => exact ⟨z, rfl, WT.dec q⟩
  | _ => cases q
def allInt (lo hi : Int) (vs : List V) : Bool := vs.all fun v => match v with
  | .int z => decide (lo ≤ z) && decide (z ≤ hi)
  | _ => false
theorem allInt_ok {lo hi : Int} {vs : List V} (h : allInt lo hi vs = true) : ∀ v ∈ vs, ∃ z, v = .int z ∧ lo ≤ z ∧ z ≤ hi := fun v hv => by
  have q := List.all_eq_true.mp h v hv
  cases v with
  | int z =>
    have q' : (decide (lo ≤ z) && decide (z ≤ hi)) = true := q
    rw [Bool.and_eq_true] at q'
    exact ⟨z, rfl, of_decide_eq_true q'.1, of_decide_eq_true q'.2⟩
  | _ => cases q
theorem RefAt.go {K : PySem.W.Frag} {b : Addr} {n m : Nat} {H H' : Hp} {p : Addr} {name : Str} {keys : List Str} (R : RefAt K H p name keys) (G : Go b n H H') (B : Bag H b m) : RefAt K H' p name keys := by
  obtain ⟨t, h1, h2⟩ := R.ex
  exact ⟨t, G.seqT B h1, G.seqT B h2⟩
theorem RefAt.same {K : PySem.W.Frag} {H H' : Hp} {p : Addr} {name : Str} {keys : List Str} (R : RefAt K H p name keys) (G : Sm H H') : RefAt K H' p name keys := by
  obtain ⟨t, h1, h2⟩ := R.ex
  exact ⟨t, Sm.seqT G h1, Sm.seqT G h2⟩
section
variable {P : Program} {w : World} {K : PySem.W.Frag} {mg : Str → Option Value} {base : Heap} {cs : Tabs}
theorem ok_law_cell_at (T : Txt K mg cs) : Cal P w K mg base 1 "_law_cell_at" ["script", "k"] (spCellAt K) := by
  refine T.f_law_cell_at.cal scLawCellAt (fun vs H Q E h => ?_) (fun f cdv A outer s H vs Q E hr h => ?_)
  · obtain ⟨a, ns, k, rfl, _⟩ := h
    rfl
  obtain ⟨a, ns, k, rfl, hS, q⟩ := h
  refine ⟨_, (pss_cons (ps_if (pt_cmpR op_lt (pv 1) (pe_callB (lenQ K) rfl T.n_len (by decide +kernel) (pa_cons (pv 0) pa_nil)) (nomark _)) (pss_one (ps_ret (pe_ix (ixL K) (pv 0) (pv 1) (fun _ _ => rfl)))) pss_nil)
    (pss_one (ps_ret pe_int))), ?_⟩
  refine ⟨_, rfl, _, rfl, a, _, rfl, .inl hS, _, _, rfl, rfl, _, rfl, ?_⟩
  refine ite2 (fun c => ?_) (fun c => ?_)
  · have c' : (k : Int) < (((ns.map V.int).length : Nat) : Int) := of_decide_eq_true c
    have hk : k < ns.length := by
      rw [List.length_map] at c'
      omega
    have e : (ns.map V.int)[k]? = some (.int ns[k]) := by
      rw [List.getElem?_map, List.getElem?_eq_getElem hk]
      rfl
    exact ⟨_, rfl, _, rfl, a, _, (k : Int), _, rfl, rfl, hS, atI_nat e, q _⟩
  · exact q 0
end
section
variable {P : Program} {w : World} {K : PySem.W.Frag} {mg : Str → Option Value} {base : Heap} {cs : Tabs}
theorem ok_law_bag (T : Txt K mg cs) : Cal P w K mg base 1 "_law_bag" ["cell", "nth"] spBag := by
  refine T.f_law_bag.cal scLawBag (fun vs H Q E h => ?_) (fun f cdv A outer s H vs Q E hr h => ?_)
  · obtain ⟨a, k, rfl, _⟩ := h
    rfl
  obtain ⟨c, k, rfl, hk, q⟩ := h
  refine ⟨_, (pss_one (ps_ret (pe_lst (pa_cons (pe_callB (call_max2 rfl) rfl T.n_max (by decide +kernel) (pa_cons pe_int (pa_cons (pe_op op_sub (pv 0) (pe_op op_powW pe_int pe_int)) pa_nil))) (pa_cons (pe_op op_add (pe_op op_mod (pv 0) pe_int) (pe_op op_mulW pe_int (pv 1))) (pa_cons pe_int pa_nil)))))), ?_⟩
  refine ⟨_, rfl, 10, 18, rfl, rfl, ⟨by decide, by decide, by decide⟩, c, _, rfl, rfl, 0, _, rfl, ?_⟩
  refine ⟨_, rfl, c, _, rfl, rfl, (show (0 : Int) < 170141183460469231731687303715884105727 by decide), _, rfl, 104395303, (k : Int), rfl, rfl, wide_mul (a := 40) (b := 40) (by decide) (nat_lt (by omega) (by omega)) (by decide) (by decide) (by decide), _, _, rfl, rfl, ?_⟩
  refine ⟨(by show 3 ≤ sizeLine; decide), fun p hp => q p _ hp (Sm.new hp) ⟨_, _, 0, upd_same, ?_, ?_, Int.le_refl 0, Int.le_refl 0⟩⟩
  · have := Int.emod_nonneg c (show (170141183460469231731687303715884105727 : Int) ≠ 0 by decide)
    show 0 ≤ c % 170141183460469231731687303715884105727 + 104395303 * (k : Int)
    omega
  · have := Int.emod_lt_of_pos c (show (0 : Int) < 170141183460469231731687303715884105727 by decide)
    show c % 170141183460469231731687303715884105727 + 104395303 * (k : Int) < 2 ^ 200
    omega
theorem ok_law_signs (T : Txt K mg cs) : Cal P w K mg base 1 "_law_signs" [] spSigns := by
  refine T.f_law_signs.cal scLawSigns (fun vs H Q E h => ?_) (fun f cdv A outer s H vs Q E hr h => ?_)
  · obtain ⟨rfl, _⟩ := h
    rfl
  obtain ⟨rfl, q⟩ := h
  refine ⟨_, (pss_cons (ps_set (i := 0) scLawSigns.nd rfl (by first | exact Or.inl rfl | exact Or.inr rfl) pe_str)
    (pss_one (ps_ret (pe_op op_add_str (pe_op op_add_str (pe_op op_add_str (pe_op op_add_str pe_str (pe_upper (pv 0))) pe_str) (pv 0)) pe_str)))), ?_⟩
  refine ⟨_, rfl, ⟨_, rfl⟩, _, rfl, rfl, (by decide +kernel), _, _, rfl, rfl, (by decide +kernel), _, _, rfl, rfl, (by decide +kernel), _, rfl, _, _, rfl, rfl, (by decide +kernel), _, _, rfl, rfl, (by decide +kernel), ?_⟩
  have e : ((((" !\"#$&'()*+,-./0123456789:;<=>?@" : Str) ++ Txt.upper ("abcdefghijklmnopqrstuvwxyz" : Str)) ++ ("[\\]^_`" : Str)) ++ ("abcdefghijklmnopqrstuvwxyz" : Str)) ++ ("{|}~" : Str) = SIGNS := by decide +kernel
  exact (congrArg (fun z => Q (.str z) H) e).mpr q
end
section
variable {P : Program} {w : World} {K : PySem.W.Frag} {mg : Str → Option Value} {base : Heap} {cs : Tabs}
def JOINTS : List V := [.str "; ", .str ":", .str "=", .str ",", .str "|", .str "|  ", .str ")", .str "(", .str "\"", .str "\"\"", .str ")=\"", .str "; write 1", .str "=\"", .str "x", .str " "]
theorem SIGNS_wt : WT SIGNS 94 := WT.dec (by decide +kernel)
theorem some_sign {z : Str} {n j : Nat} (h : WT z n) (hj : j < (tl z).length) : ∃ c, atI (tl z) (j : Int) = some c ∧ sgn c = true := ⟨(tl z)[j], atI_nat (List.getElem?_eq_getElem hj), h.sg _ (List.getElem_mem hj)⟩
theorem WT.one {c : Nat} (h : sgn c = true) : WT ⟨#[c]⟩ 1 := ⟨Nat.le_refl _, fun d hd => by
  have e : d = c := List.mem_singleton.mp (show d ∈ [c] from hd)
  rw [e]
  exact h⟩
/-- some[draw(bag, len(some))], some a text -/
theorem sign_drawn {b : Addr} {i j m : Nat} {σ : L2.St} {H : Hp} {z : Str} {Q : VK} (hb : σ[i]? = some (some (.ref b))) (hs : σ[j]? = some (some (.str z))) (B : Bag H b m) (hm : m ≤ LIM) (hz : (tl z).length ≤ 1000) (h0 : 0 < (tl z).length)
    (q : ∀ c H', c ∈ tl z → Go b 1 H H' → Q (.str ⟨#[c]⟩) H') :
    tOp rIxS (tVar j) (tCall spDraw [] E0 (tCons (tVar i) (tCons (tCB rLenT1 (tCons (tVar j) tNil)) tNil))) σ H Q := by
  have e : z.length = (tl z).length := len_tl z
  refine ⟨_, hs, _, hb, _, hs, z, rfl, (by rw [e]; exact small (by omega)), b, (z.length : Int), m, rfl, B, hm, by omega, by omega, fun r H' r0 r1 G => ?_⟩
  obtain ⟨k, rfl⟩ : ∃ k : Nat, r = (k : Int) := ⟨r.toNat, by omega⟩
  have hk : k < (tl z).length := by omega
  exact ⟨z, (k : Int), _, rfl, rfl, (by rw [e]; exact small (by omega)), atI_nat (List.getElem?_eq_getElem hk), q _ _ (List.getElem_mem hk) G⟩
theorem list_drawn {A : V → Prop} {b p : Addr} {i j n m : Nat} {σ : L2.St} {H : Hp} {xs : List V} {Q : VK} (hb : σ[i]? = some (some (.ref b))) (hs : σ[j]? = some (some (.ref p))) (hp : H p = some (.lst xs)) (np : p ≠ b) (B : Bag H b m) (hm : m ≤ LIM) (hn : xs.length = n) (h0 : 0 < n ∧ n ≤ 1000)
    (hA : ∀ v ∈ xs, A v) (q : ∀ v H', A v → Go b 1 H H' → Q v H') : tOp (rIxL K) (tVar j) (tCall spDraw [] E0 (tCons (tVar i) (tCons (tC (.int ((n : Nat) : Int))) tNil))) σ H Q := by
  refine ⟨_, hs, _, hb, b, (n : Int), m, rfl, B, hm, by omega, by omega, fun r H' r0 r1 G => ?_⟩
  obtain ⟨k, rfl⟩ : ∃ k : Nat, r = (k : Int) := ⟨r.toNat, by omega⟩
  have hk : k < xs.length := by omega
  exact ⟨p, xs, (k : Int), _, rfl, rfl, SqL.of (G.keep p _ np hp), atI_nat (List.getElem?_eq_getElem hk), q _ _ (hA _ (List.getElem_mem hk)) G⟩
end
section
variable {P : Program} {w : World} {K : PySem.W.Frag} {mg : Str → Option Value} {base : Heap} {cs : Tabs}
theorem ok_law_text (T : Txt K mg cs) (C_law_draw : Cal P w K mg base 1 "_law_draw" ["bag", "many"] spDraw) (C_law_signs : Cal P w K mg base 1 "_law_signs" [] spSigns) : Cal P w K mg base 2 "_law_text" ["bag", "most"] spText := by
  refine T.f_law_text.cal scLawText (fun vs H Q E h => ?_) (fun f cdv A outer s H vs Q E hr h => ?_)
  · obtain ⟨b, most, m, rfl, _⟩ := h
    rfl
  obtain ⟨b, most, m, rfl, B, hm, hmost, q⟩ := h
  refine ⟨_, (pss_cons (ps_set (i := 2) scLawText.nd rfl (by first | exact Or.inl rfl | exact Or.inr rfl) (pe_cal C_law_draw (hr.mono (by first | decide | omega)) (pa_cons (pv 0) (pa_cons pe_int pa_nil))))
    (pss_cons (ps_if (pt_cmpR op_lt (pv 2) pe_int (nomark _)) (pss_cons (ps_set (i := 5) scLawText.nd rfl (by first | exact Or.inl rfl | exact Or.inr rfl) (pe_cal C_law_draw (hr.mono (by first | decide | omega)) (pa_cons (pv 0) (pa_cons (pe_ix (ixL K) (pe_lst (pa_cons pe_int (pa_cons pe_int (pa_cons (pe_op op_powW pe_int pe_int) (pa_cons (pe_op op_powW pe_int pe_int) pa_nil))))) (pe_cal C_law_draw (hr.mono (by first | decide | omega)) (pa_cons (pv 0) (pa_cons pe_int pa_nil))) (fun _ _ => rfl)) pa_nil))))
        (pss_one (ps_ret (pe_slice sl_str (pe_callTy call_str_int rfl T.n_str (by decide +kernel) (pa_cons (pe_op op_mulW (pv 5) (pe_ix (ixL K) (pe_lst (pa_cons pe_int (pa_cons pe_int (pa_cons (pe_un un_neg pe_int) pa_nil)))) (pe_cal C_law_draw (hr.mono (by first | decide | omega)) (pa_cons (pv 0) (pa_cons pe_int pa_nil))) (fun _ _ => rfl))) pa_nil)) po_none (po_some (pv 1)))))) pss_nil)
    (pss_cons (ps_if (pt_cmpR op_eq (pv 2) pe_int (nomark _)) (pss_cons (ps_set (i := 6) scLawText.nd rfl (by first | exact Or.inl rfl | exact Or.inr rfl) (pe_lst (pa_cons pe_str (pa_cons pe_str (pa_cons pe_str (pa_cons pe_str (pa_cons pe_str (pa_cons pe_str (pa_cons pe_str (pa_cons pe_str (pa_cons pe_str (pa_cons pe_str (pa_cons pe_str (pa_cons pe_str (pa_cons pe_str (pa_cons pe_str (pa_cons pe_str (pa_cons pe_str pa_nil))))))))))))))))))
        (pss_one (ps_ret (pe_slice sl_str (pe_ix (ixL K) (pv 6) (pe_cal C_law_draw (hr.mono (by first | decide | omega)) (pa_cons (pv 0) (pa_cons pe_int pa_nil))) (fun _ _ => rfl)) po_none (po_some (pv 1)))))) pss_nil)
    (pss_cons (ps_if (pt_cmpR op_eq (pv 2) pe_int (nomark _)) (pss_cons (ps_set (i := 3) scLawText.nd rfl (by first | exact Or.inl rfl | exact Or.inr rfl) (pe_lst (pa_cons pe_str (pa_cons pe_str (pa_cons pe_str (pa_cons pe_str (pa_cons pe_str (pa_cons pe_str (pa_cons pe_str (pa_cons pe_str (pa_cons pe_str (pa_cons pe_str (pa_cons pe_str (pa_cons pe_str (pa_cons pe_str (pa_cons pe_str (pa_cons pe_str pa_nil)))))))))))))))))
        (pss_one (ps_ret (pe_slice sl_str (pe_join pe_str (pe_lc (own := [("k", 7)]) (g := gName 7) (tt := tYes) rfl scLawText.nd (pi_range1 rfl T.n_range (pa_cons (pe_op op_add pe_int (pe_cal C_law_draw (hr.mono (by first | decide | omega)) (pa_cons (pv 0) (pa_cons pe_int pa_nil)))) pa_nil)) (blkOk_by (own := [("k", 7)]) (N := ["bag", "most", "lot", "some", "many", "number", "near", "k"]) (sc := defScope sLawText) (by decide +kernel)) (fun _ _ _ _ _ => (pg_name (i := 7) scLawText.nd rfl (by first | exact Or.inl rfl | exact Or.inr rfl))) (fun _ _ _ _ _ => pts_nil) (fun _ _ _ _ _ => (pe_ix (ixL K) (pv 3) (pe_cal C_law_draw (hr.mono (by first | decide | omega)) (pa_cons (pv 0) (pa_cons pe_int pa_nil))) (fun _ _ => rfl))))) po_none (po_some (pv 1)))))) pss_nil)
    (pss_cons (ps_set (i := 3) scLawText.nd rfl (by first | exact Or.inl rfl | exact Or.inr rfl) (pe_ix (ixL K) (pe_lst (pa_cons pe_str (pa_cons pe_str (pa_cons (pe_cal0 C_law_signs (hr.mono (by first | decide | omega))) pa_nil)))) (pe_op op_sub (pv 2) pe_int) (fun _ _ => rfl)))
    (pss_cons (ps_set (i := 4) scLawText.nd rfl (by first | exact Or.inl rfl | exact Or.inr rfl) (pe_ix (ixL K) (pe_lst (pa_cons pe_int (pa_cons pe_int (pa_cons (pe_cal C_law_draw (hr.mono (by first | decide | omega)) (pa_cons (pv 0) (pa_cons (pe_op op_add (pv 1) pe_int) pa_nil))) pa_nil)))) (pe_cal C_law_draw (hr.mono (by first | decide | omega)) (pa_cons (pv 0) (pa_cons pe_int pa_nil))) (fun _ _ => rfl)))
    (pss_one (ps_ret (pe_join pe_str (pe_lc (own := [("k", 7)]) (g := gName 7) (tt := tYes) rfl scLawText.nd (pi_range1 rfl T.n_range (pa_cons (pe_callB (call_min2 rfl) rfl T.n_min (by decide +kernel) (pa_cons (pv 4) (pa_cons (pv 1) pa_nil))) pa_nil)) (blkOk_by (own := [("k", 7)]) (N := ["bag", "most", "lot", "some", "many", "number", "near", "k"]) (sc := defScope sLawText) (by decide +kernel)) (fun _ _ _ _ _ => (pg_name (i := 7) scLawText.nd rfl (by first | exact Or.inl rfl | exact Or.inr rfl))) (fun _ _ _ _ _ => pts_nil) (fun _ _ _ _ _ => (pe_ix ix_str (pv 3) (pe_cal C_law_draw (hr.mono (by first | decide | omega)) (pa_cons (pv 0) (pa_cons (pe_callB lenT rfl T.n_len (by decide +kernel) (pa_cons (pv 3) pa_nil)) pa_nil))) (fun _ _ => rfl))))))))))))), ?_⟩
  unfold LIM at hm
  refine draw_here (i := 0) rfl B (by unfold LIM; omega) (by decide) (by decide) fun lot H1 l0 l1 G1 => ?_
  have B1 := G1.bag _ B
  refine ⟨_, rfl, lot, 2, rfl, rfl, _, rfl, ?_⟩
  refine ite2 (fun c => ?_) (fun c => ?_)
  · -- a number's text
    refine ⟨_, rfl, menuG (n := 4) (c := 0) (A := fun v => ∃ k : Int, v = .int k ∧ 0 < k ∧ k ≤ 10 ^ 40) (m := m + 1) (i := 0) (fun R h => ⟨10, 20, rfl, rfl, ⟨by decide, by decide, by decide⟩, 10, 40, rfl, rfl, ⟨by decide, by decide, by decide⟩, h _ _ rfl (fun v hv => ?_) (Go.refl b _)⟩) rfl B1 (by unfold LIM; omega) (by decide) (by decide) fun v H2 hv G2 => ?_⟩
    · rcases List.mem_cons.mp hv with rfl | hv
      · exact ⟨10, rfl, by decide, by decide⟩
      rcases List.mem_cons.mp hv with rfl | hv
      · exact ⟨200, rfl, by decide, by decide⟩
      rcases List.mem_cons.mp hv with rfl | hv
      · exact ⟨10 ^ 20, rfl, by decide, by decide⟩
      rcases List.mem_cons.mp hv with rfl | hv
      · exact ⟨10 ^ 40, rfl, by decide, by decide⟩
      · cases hv
    obtain ⟨k, rfl, k0, k1⟩ := hv
    have B2 := G2.bag _ B1
    refine ⟨b, k, m + 1 + (0 + 1), rfl, B2, by unfold LIM; omega, k0, by omega, fun num H3 n0 n1 G3 => ?_⟩
    have B3 := G3.bag _ B2
    refine ⟨_, rfl, menuG (n := 3) (c := 0) (A := fun v => ∃ k : Int, v = .int k ∧ k.natAbs ≤ 1) (m := m + 1 + (0 + 1) + 1) (i := 0) (fun R h => ⟨1, rfl, h _ _ rfl (fun v hv => ?_) (Go.refl b _)⟩) rfl B3 (by unfold LIM; omega) (by decide) (by decide) fun v H4 hv G4 => ?_⟩
    · rcases List.mem_cons.mp hv with rfl | hv
      · exact ⟨1, rfl, by decide⟩
      rcases List.mem_cons.mp hv with rfl | hv
      · exact ⟨1, rfl, by decide⟩
      rcases List.mem_cons.mp hv with rfl | hv
      · exact ⟨-1, rfl, by decide⟩
      · cases hv
    obtain ⟨j, rfl, j0⟩ := hv
    have hp : (num * j).natAbs < 10 ^ 40 := by
      rw [Int.natAbs_mul]
      have a1 : num.natAbs * j.natAbs ≤ num.natAbs * 1 := Nat.mul_le_mul_left _ j0
      omega
    have W := WT.int (by decide) hp
    refine ⟨num, j, rfl, rfl, wide_mul (a := 200) (b := 10) (nat_lt n0 (by omega)) (by omega) (by decide) (by decide) (by decide), num * j, rfl, Nat.lt_trans (PySem.Flt.log2_lt_of (n := (num * j).natAbs) (k := 200) (by decide) (by omega)) (by decide), ?_⟩
    refine ⟨_, rfl, (most : Int), rfl, _, rfl, W.line (by decide), ?_⟩
    exact q _ _ (WT.cut W.sg most) ((((G1.trans G2).trans G3).trans G4).mono (by omega))
  refine ⟨_, rfl, rfl, _, rfl, ?_⟩
  refine ite2 (fun c2 => ?_) (fun c2 => ?_)
  · -- a near one
    refine ⟨(by show 16 ≤ sizeLine; decide), fun p hp => ?_⟩
    refine list_drawn (i := 0) (j := 6) (n := 16) (A := fun v => ∃ z, v = .str z ∧ WT z 20) rfl rfl upd_same (B1.ne hp) ((Go.new hp).bag _ B1) (by unfold LIM; omega) rfl (by decide) (allWT_ok (by decide +kernel)) fun v H2 hv G2 => ?_
    obtain ⟨z, rfl, W⟩ := hv
    refine ⟨_, rfl, (most : Int), rfl, z, rfl, W.line (by decide), ?_⟩
    exact q _ _ (WT.cut W.sg most) (((G1.trans (Go.new hp)).trans G2).mono (by omega))
  refine ⟨_, rfl, rfl, _, rfl, ?_⟩
  refine ite2 (fun c3 => ?_) (fun c3 => ?_)
  · -- joints
    refine ⟨(by show 15 ≤ sizeLine; decide), fun p hp => ?_⟩
    have np := B1.ne hp
    have hp' : (upd H1 p (.lst JOINTS)) p = some (.lst JOINTS) := upd_same
    have B2 := (Go.new (o := .lst JOINTS) hp).bag _ B1
    refine ⟨⟨_, rfl⟩, lc_drawn (i := 7) (N := 4) (c0 := 1) (c := 1) (A0 := fun _ => True) (fun v => ∃ z, v = .str z ∧ WT z 20) (fun R h => draw_here (i := 0) (by rfl) B2 (by unfold LIM; omega) (by decide) (by decide) fun r H3 r0 r1 G3 => ⟨1, r, rfl, rfl, h _ _ trivial (by omega) (by omega) G3⟩) B2 (by decide) (fun j H4 hj B4 G4 R hR => ?_) fun k D ys H4 _ k0 k1 hl hA G4 hy _ => ?_⟩
    · exact list_drawn (i := 0) (j := 3) (n := 15) (by rfl) (by rfl) (G4.keep p _ np hp') np B4 (by unfold LIM; omega) rfl (by decide) (allWT_ok (by decide +kernel)) hR
    · obtain ⟨zs, rfl, hz, hW⟩ := texts_of ys hA
      have hl' : zs.length = k.toNat := by rw [hz]; exact hl
      refine ⟨_, D, zs, rfl, rfl, .inl (SqL.of hy), glue_ok (k := 20) (n := zs.length) (fun y hy => (hW y hy).len) rfl (by omega), ?_⟩
      have W := WT.glue hW
      refine ⟨_, rfl, (most : Int), rfl, _, rfl, W.line (by omega), ?_⟩
      exact q _ _ (WT.cut W.sg most) (((G1.trans (Go.new hp)).trans G4).mono (by omega))
  -- signs
  have q3 : lot = 3 ∨ lot = 4 ∨ lot = 5 := by
    have e1 : ¬ lot < 2 := of_decide_eq_false (Bool.eq_false_iff.mpr c)
    have e2 : ¬ lot = 2 := fun e => c2 (by rw [e]; rfl)
    have e3 : ¬ lot = 6 := fun e => c3 (by rw [e]; rfl)
    omega
  refine ⟨rfl, (by show 3 ≤ sizeLine; decide), fun p hp => ?_⟩
  have np := B1.ne hp
  have hsome : ∃ z : Str, WT z 94 ∧ 0 < (tl z).length ∧ atI [V.str "0123456789+-a ", V.str "ab", V.str SIGNS] (lot - 3) = some (.str z) := by
    rcases q3 with rfl | rfl | rfl
    · exact ⟨_, WT.dec (by decide +kernel), by decide +kernel, rfl⟩
    · exact ⟨_, WT.dec (by decide +kernel), by decide +kernel, rfl⟩
    · exact ⟨_, SIGNS_wt, by decide +kernel, rfl⟩
  obtain ⟨z, W, z0, hat⟩ := hsome
  refine ⟨_, rfl, lot, 3, rfl, rfl, p, _, lot - 3, .str z, rfl, rfl, SqL.of upd_same, hat, ?_⟩
  have B2 := (Go.new (o := .lst [V.str "0123456789+-a ", V.str "ab", V.str SIGNS]) hp).bag _ B1
  dsimp only [gName, tSeq, tAsg, tRet, tDrop, tNext]
  refine menuG (n := 3) (c := 1) (i := 0) (A := fun v => ∃ k : Int, v = .int k ∧ 0 ≤ k) (fun R h => ?_) (by rfl) B2 (by unfold LIM; omega) (by decide) (by decide) fun v H3 hv G3 => ?_
  · refine ⟨_, rfl, _, rfl, (most : Int), 1, rfl, rfl, b, (most : Int) + 1, m + 1 + 0, rfl, B2, by unfold LIM; omega, by omega, by omega, fun r H3 r0 r1 G3 => h _ _ rfl (fun v hv => ?_) G3⟩
    rcases List.mem_cons.mp hv with rfl | hv
    · exact ⟨1, rfl, by decide⟩
    rcases List.mem_cons.mp hv with rfl | hv
    · exact ⟨2, rfl, by decide⟩
    rcases List.mem_cons.mp hv with rfl | hv
    · exact ⟨r, rfl, r0⟩
    · cases hv
  obtain ⟨k, rfl, k0⟩ := hv
  have B3 := G3.bag _ B2
  refine ⟨⟨_, rfl⟩, lc_drawn (i := 7) (N := most) (c0 := 0) (c := 1) (A0 := fun _ => True) (fun v => ∃ z, v = .str z ∧ WT z 1) (fun R h => ⟨_, rfl, _, rfl, k, (most : Int), rfl, h _ _ trivial (by split <;> omega) (by split <;> omega) (Go.refl b _)⟩) B3 (by omega) (fun j H4 hj B4 G4 R hR => ?_) fun k' D ys H4 _ k0' k1' hl hA G4 hy _ => ?_⟩
  · exact sign_drawn (i := 0) (j := 3) (by rfl) (by rfl) B4 (by unfold LIM; omega) (Nat.le_trans W.len (by decide)) z0 fun c H' hc G' => hR _ _ ⟨_, rfl, WT.one (W.sg c hc)⟩ G'
  · obtain ⟨zs, rfl, hz, hW⟩ := texts_of ys hA
    have hl' : zs.length ≤ most := by rw [hz, hl]; omega
    refine ⟨_, D, zs, rfl, rfl, .inl (SqL.of hy), glue_ok (k := 1) (n := zs.length) (fun y hy => (hW y hy).len) rfl (by omega), ?_⟩
    have W' := WT.glue hW
    exact q _ _ (W'.mono (by omega)) ((((G1.trans (Go.new hp)).trans G3).trans G4).mono (by omega))
end
section
variable {P : Program} {w : World} {K : PySem.W.Frag} {mg : Str → Option Value} {base : Heap} {cs : Tabs}
theorem ok_law_name (T : Txt K mg cs) (C_law_draw : Cal P w K mg base 1 "_law_draw" ["bag", "many"] spDraw) : Cal P w K mg base 2 "_law_name" ["bag"] spName := by
  refine T.f_law_name.cal scLawName (fun vs H Q E h => ?_) (fun f cdv A outer s H vs Q E hr h => ?_)
  · obtain ⟨b, m, rfl, _⟩ := h
    rfl
  obtain ⟨b, m, rfl, B, hm, q⟩ := h
  refine ⟨_, (pss_cons (ps_set (i := 1) scLawName.nd rfl (by first | exact Or.inl rfl | exact Or.inr rfl) (pe_ix (ixL K) (pe_lst (pa_cons pe_str (pa_cons pe_str pa_nil))) (pe_cal C_law_draw (hr.mono (by first | decide | omega)) (pa_cons (pv 0) (pa_cons pe_int pa_nil))) (fun _ _ => rfl)))
    (pss_cons (ps_set (i := 2) scLawName.nd rfl (by first | exact Or.inl rfl | exact Or.inr rfl) (pe_ix (ixL K) (pe_lst (pa_cons pe_int (pa_cons pe_int (pa_cons (pe_op op_add pe_int (pe_cal C_law_draw (hr.mono (by first | decide | omega)) (pa_cons (pv 0) (pa_cons pe_int pa_nil)))) pa_nil)))) (pe_cal C_law_draw (hr.mono (by first | decide | omega)) (pa_cons (pv 0) (pa_cons pe_int pa_nil))) (fun _ _ => rfl)))
    (pss_one (ps_ret (pe_join pe_str (pe_lc (own := [("k", 3)]) (g := gName 3) (tt := tYes) rfl scLawName.nd (pi_range1 rfl T.n_range (pa_cons (pv 2) pa_nil)) (blkOk_by (own := [("k", 3)]) (N := ["bag", "some", "many", "k"]) (sc := defScope sLawName) (by decide +kernel)) (fun _ _ _ _ _ => (pg_name (i := 3) scLawName.nd rfl (by first | exact Or.inl rfl | exact Or.inr rfl))) (fun _ _ _ _ _ => pts_nil) (fun _ _ _ _ _ => (pe_ix ix_str (pv 1) (pe_cal C_law_draw (hr.mono (by first | decide | omega)) (pa_cons (pv 0) (pa_cons (pe_callB lenT rfl T.n_len (by decide +kernel) (pa_cons (pv 1) pa_nil)) pa_nil))) (fun _ _ => rfl))))))))), ?_⟩
  unfold LIM at hm
  dsimp only [gName, tSeq, tAsg, tRet, tDrop, tNext]
  refine menuG (n := 2) (c := 0) (i := 0) (A := fun v => ∃ z : Str, v = .str z ∧ (decide ((tl z).length ≤ 26 ∧ 0 < (tl z).length) && (tl z).all AZ) = true) (fun R h => h _ _ rfl (fun v hv => ?_) (Go.refl b _)) (by rfl) B (by unfold LIM; omega) (by decide) (by decide) fun v H1 hv G1 => ?_
  · rcases List.mem_cons.mp hv with rfl | hv
    · exact ⟨_, rfl, by decide +kernel⟩
    rcases List.mem_cons.mp hv with rfl | hv
    · exact ⟨_, rfl, by decide +kernel⟩
    · cases hv
  obtain ⟨z, rfl, hz⟩ := hv
  rw [Bool.and_eq_true] at hz
  have z1 := of_decide_eq_true hz.1
  have zA := List.all_eq_true.mp hz.2
  have B1 := G1.bag _ B
  refine menuG (n := 3) (c := 1) (i := 0) (A := fun v => ∃ k : Int, v = .int k ∧ 1 ≤ k ∧ k ≤ 8) (fun R h => draw_here (i := 0) (by rfl) B1 (by unfold LIM; omega) (by decide) (by decide) fun r H2 r0 r1 G2 => ⟨1, r, rfl, rfl, h _ _ rfl (fun v hv => ?_) G2⟩) (by rfl) B1 (by unfold LIM; omega) (by decide) (by decide) fun v H2 hv G2 => ?_
  · rcases List.mem_cons.mp hv with rfl | hv
    · exact ⟨1, rfl, by decide, by decide⟩
    rcases List.mem_cons.mp hv with rfl | hv
    · exact ⟨2, rfl, by decide, by decide⟩
    rcases List.mem_cons.mp hv with rfl | hv
    · exact ⟨1 + r, rfl, by omega, by omega⟩
    · cases hv
  obtain ⟨k, rfl, k0, k1⟩ := hv
  have B2 := G2.bag _ B1
  refine ⟨⟨_, rfl⟩, lc_drawn (i := 3) (N := 8) (c0 := 0) (c := 1) (A0 := fun j => j = k) (fun v => ∃ z, v = .str z ∧ ((tl z).length = 1 ∧ ∀ c ∈ tl z, AZ c = true)) (fun R h => ⟨_, rfl, h _ _ rfl (by omega) (by omega) (Go.refl b _)⟩) B2 (by decide) (fun j H4 hj B4 G4 R hR => ?_) fun k' D ys H4 hk k0' k1' hl hA G4 hy _ => ?_⟩
  · exact sign_drawn (i := 0) (j := 1) (by rfl) (by rfl) B4 (by unfold LIM; omega) (by omega) z1.2 fun c H' hc G' => hR _ _ ⟨_, rfl, rfl, fun d hd => by
      have e : d = c := List.mem_singleton.mp (show d ∈ [c] from hd)
      rw [e]
      exact zA c hc⟩ G'
  · obtain ⟨zs, rfl, hz, hW⟩ := texts_of ys hA
    have hl' : zs.length = k.toNat := by rw [hz, hl, hk]
    refine ⟨_, D, zs, rfl, rfl, .inl (SqL.of hy), glue_ok (k := 1) (n := zs.length) (fun y hy => Nat.le_of_eq (hW y hy).1) rfl (by omega), ?_⟩
    refine q _ _ ⟨?_, ?_, fun c hc => ?_⟩ (((G1.trans G2).trans G4).mono (by omega))
    · have := flat_len zs fun y hy => Nat.le_of_eq (hW y hy).1
      rw [tl_glue]
      omega
    · rw [tl_glue]
      cases zs with
      | nil =>
        have e0 : k.toNat = 0 := hl'.symm
        omega
      | cons y r =>
        have e1 := (hW y List.mem_cons_self).1
        rw [List.map_cons, List.flatten_cons, List.length_append]
        omega
    · rw [tl_glue] at hc
      obtain ⟨l, hl2, hcl⟩ := List.mem_flatten.mp hc
      obtain ⟨y, hy2, rfl⟩ := List.mem_map.mp hl2
      exact (hW y hy2).2 c hcl
end
section
variable {P : Program} {w : World} {K : PySem.W.Frag} {mg : Str → Option Value} {base : Heap} {cs : Tabs}
theorem KEY.zero : KEY "0" := ⟨WT.dec (by decide +kernel), by decide +kernel⟩
theorem KEY.of {z : Str} {n : Nat} (W : WT z n) (h : n ≤ 40) (hz : z ≠ "") : KEY z := ⟨W.mono h, by
  refine Nat.pos_of_ne_zero fun e => hz (ext_tl ?_)
  rw [List.length_eq_zero_iff.mp e]
  rfl⟩
theorem ok_law_key (T : Txt K mg cs) (C_law_draw : Cal P w K mg base 1 "_law_draw" ["bag", "many"] spDraw) (C_law_text : Cal P w K mg base 2 "_law_text" ["bag", "most"] spText) : Cal P w K mg base 3 "_law_key" ["bag"] spKey := by
  refine T.f_law_key.cal scLawKey (fun vs H Q E h => ?_) (fun f cdv A outer s H vs Q E hr h => ?_)
  · obtain ⟨b, m, rfl, _⟩ := h
    rfl
  obtain ⟨b, m, rfl, B, hm, q⟩ := h
  refine ⟨_, (pss_cons (ps_set (i := 1) scLawKey.nd rfl (by first | exact Or.inl rfl | exact Or.inr rfl) (pe_cal C_law_text (hr.mono (by first | decide | omega)) (pa_cons (pv 0) (pa_cons (pe_ix (ixL K) (pe_lst (pa_cons pe_int (pa_cons pe_int (pa_cons pe_int pa_nil)))) (pe_cal C_law_draw (hr.mono (by first | decide | omega)) (pa_cons (pv 0) (pa_cons pe_int pa_nil))) (fun _ _ => rfl)) pa_nil))))
    (pss_one (ps_ret (pe_ifExp (pt_cmpR op_ne (pv 1) pe_str (nomark _)) (pv 1) pe_str)))), ?_⟩
  unfold LIM at hm
  refine ⟨_, rfl, menuC (xs := [.int 3, .int 8, .int 40]) (i := 0) (A := fun v => ∃ k : Int, v = .int k ∧ 3 ≤ k ∧ k ≤ 40) (fun R h => h) (allInt_ok (by decide +kernel)) (by rfl) B (by unfold LIM; omega) (by decide) (by decide) fun v H1 hv G1 => ?_⟩
  obtain ⟨k, rfl, k0, k1⟩ := hv
  obtain ⟨k, rfl⟩ : ∃ j : Nat, k = (j : Int) := ⟨k.toNat, by omega⟩
  have B1 := G1.bag _ B
  refine ⟨b, k, m + 1, rfl, B1, by unfold LIM; omega, by omega, fun z H2 W G2 => ?_⟩
  refine ⟨_, rfl, rfl, _, rfl, ?_⟩
  have G : Go b 1200 H H2 := (G1.trans G2).mono (by omega)
  refine ite2 (fun c => ?_) (fun c => ?_)
  · have e : z ≠ "" := fun e => by
      have c' : (!decide (V.str z = V.str "")) = true := c
      rw [e] at c'
      exact absurd c' (by decide)
    exact ⟨_, rfl, q _ _ (KEY.of W (by omega) e) G⟩
  · exact q _ _ KEY.zero G
end
section
variable {P : Program} {w : World} {K : PySem.W.Frag} {mg : Str → Option Value} {base : Heap} {cs : Tabs}
theorem ok_law_ref (T : Txt K mg cs) (C_law_draw : Cal P w K mg base 1 "_law_draw" ["bag", "many"] spDraw) (C_law_name : Cal P w K mg base 2 "_law_name" ["bag"] spName) (C_law_key : Cal P w K mg base 3 "_law_key" ["bag"] spKey) : Cal P w K mg base 4 "_law_ref" ["bag"] (spRef K) := by
  refine T.f_law_ref.cal scLawRef (fun vs H Q E h => ?_) (fun f cdv A outer s H vs Q E hr h => ?_)
  · obtain ⟨b, m, rfl, _⟩ := h
    rfl
  obtain ⟨b, m, rfl, B, hm, q⟩ := h
  refine ⟨_, (pss_cons (ps_set (i := 1) scLawRef.nd rfl (by first | exact Or.inl rfl | exact Or.inr rfl) (pe_ix (ixL K) (pe_lst (pa_cons pe_int (pa_cons pe_int (pa_cons pe_int (pa_cons pe_int (pa_cons pe_int pa_nil)))))) (pe_cal C_law_draw (hr.mono (by first | decide | omega)) (pa_cons (pv 0) (pa_cons pe_int pa_nil))) (fun _ _ => rfl)))
    (pss_one (ps_ret (pe_tup (pa_cons (pe_cal C_law_name (hr.mono (by first | decide | omega)) (pa_cons (pv 0) pa_nil)) (pa_cons (pe_callTy (tupOf K) rfl T.n_tuple (by decide +kernel) (pa_cons (pe_lc (own := [("k", 2)]) (g := gName 2) (tt := tYes) rfl scLawRef.nd (pi_range1 rfl T.n_range (pa_cons (pv 1) pa_nil)) (blkOk_by (own := [("k", 2)]) (N := ["bag", "many", "k"]) (sc := defScope sLawRef) (by decide +kernel)) (fun _ _ _ _ _ => (pg_name (i := 2) scLawRef.nd rfl (by first | exact Or.inl rfl | exact Or.inr rfl))) (fun _ _ _ _ _ => pts_nil) (fun _ _ _ _ _ => (pe_cal C_law_key (hr.mono (by first | decide | omega)) (pa_cons (pv 0) pa_nil)))) pa_nil)) pa_nil)))))), ?_⟩
  unfold LIM at hm
  dsimp only [gName, tSeq, tAsg, tRet, tDrop, tNext]
  refine menuC (xs := [.int 0, .int 1, .int 2, .int 3, .int 6]) (i := 0) (A := fun v => ∃ k : Int, v = .int k ∧ 0 ≤ k ∧ k ≤ 6) (fun R h => h) (allInt_ok (by decide +kernel)) (by rfl) B (by unfold LIM; omega) (by decide) (by decide) fun v H1 hv G1 => ?_
  obtain ⟨k, rfl, k0, k1⟩ := hv
  have B1 := G1.bag _ B
  refine ⟨_, rfl, b, m + 1, rfl, B1, by unfold LIM; omega, fun z H2 W G2 => ?_⟩
  have B2 := G2.bag _ B1
  dsimp only [gName, tSeq, tAsg, tRet, tDrop, tNext, tCons, tNil, tTup, tCB]
  refine lc_drawn (i := 2) (N := 6) (c0 := 0) (c := 1200) (A0 := fun j => j = k) (fun v => ∃ z, v = .str z ∧ KEY z) (fun R h => ⟨_, rfl, h _ _ rfl (by omega) (by omega) (Go.refl b _)⟩) B2 (by decide) (fun j H4 hj B4 G4 R hR => ?_) fun k' D ys H4 hk k0' k1' hl hA G4 hy hD => ?_
  · exact ⟨_, rfl, b, _, rfl, B4, by unfold LIM; omega, fun z H' hz G' => hR _ _ ⟨z, rfl, hz⟩ G'⟩
  · obtain ⟨zs, rfl, hz, hW⟩ := texts_of ys hA
    have hl' : zs.length = k.toNat := by rw [hz, hl, hk]
    refine ⟨D, _, rfl, .inl ⟨SqL.of hy, fun t ht => ⟨(by show 2 ≤ sizeLine; decide), fun p hp => ?_⟩⟩⟩
    have B4 := G4.bag _ B2
    have B5 := (Go.new (o := .tup (zs.map V.str)) ht).bag _ B4
    refine q p z zs _ ⟨W, by omega, hW⟩ ⟨t, .inl (.inl upd_same), .inl (.inl ?_)⟩ ((((G1.trans G2).trans (G4.trans (Go.new ht))).trans (Go.new hp)).mono (by omega))
    rw [upd_ne (ne_of_none upd_same hp)]
    exact upd_same
end
/-! ### references compared -/
theorem strOk_of {z : Str} (h : ∀ c ∈ tl z, c < 128) : PyData.strOk z = true := by
  unfold PyData.strOk
  rw [← Array.all_toList, List.all_eq_true]
  intro c hc
  exact decide_eq_true (Nat.lt_trans (h c hc) (by decide))
def dS (ks : List Str) : List PyData := ks.map PyData.str
theorem dp_strs {K : PySem.W.Frag} {H : Hp} : ∀ ks : List Str, DpAll K H (ks.map V.str) (dS ks)
  | [] => .nil
  | x :: r => .cons (.str x) (dp_strs r)
theorem eqv_strs : ∀ a b : List Str, PyData.eqvAll (dS a) (dS b) = decide (a = b)
  | [], [] => by simp [dS, PyData.eqvAll]
  | [], _ :: _ => by simp [dS, PyData.eqvAll]
  | _ :: _, [] => by simp [dS, PyData.eqvAll]
  | x :: a, y :: b => by
    have ih := eqv_strs a b
    unfold dS at ih ⊢
    rw [List.map_cons, List.map_cons, PyData.eqvAll, ih]
    show ((x == y) && decide (a = b)) = decide (x :: a = y :: b)
    by_cases e : x = y
    · subst e
      simp
    · simp [e]
theorem lay_strs : ∀ ks : List Str, (∀ z ∈ ks, PyData.strOk z = true) → PyData.canLayAll0 (dS ks) = true
  | [], _ => rfl
  | x :: r, h => by
    show (PyData.strOk x && PyData.canLayAll0 (dS r)) = true
    rw [h x List.mem_cons_self, lay_strs r fun z hz => h z (List.mem_cons_of_mem _ hz)]
    rfl
theorem depth_strs : ∀ ks : List Str, PyData.depthAll (dS ks) = 0
  | [] => rfl
  | x :: r => by
    show max 0 (PyData.depthAll (dS r)) = 0
    rw [depth_strs r]
    rfl
theorem Sm.own {H0 H1 : Hp} {b : Addr} {o : HO} (S : Sm H0 H1) (hb : H0 b = none) (nt : ∀ qs, H1 b ≠ some (.tbl qs)) : Sm H0 (upd H1 b o) := ⟨fun a u h n => by
  rw [upd_ne (ne_of_none h hb)]
  exact S.keep a u h n, fun P t => TabG.upd (S.tab P t) nt, fun a ha => by
  by_cases e : a = b
  · rw [e]
    exact hb
  · rw [upd_ne e] at ha
    exact S.gone a ha⟩
/-! ### references compared -/
theorem shaped_tup {ks : List Str} (h : ∀ z ∈ ks, PyData.strOk z = true) : SeqAt.shaped (.tuple (dS ks)) = true := by
  show (PyData.canLayAll0 (dS ks) && decide (PyData.depthAll (dS ks) + 1 ≤ 64)) = true
  rw [lay_strs ks h, depth_strs]
  rfl
theorem KEY.ok {z : Str} (h : KEY z) : PyData.strOk z = true := strOk_of fun c hc => by
  have q := h.wt.sg c hc
  unfold sgn at q
  rw [Bool.and_eq_true, Bool.and_eq_true] at q
  have := of_decide_eq_true q.2.1
  omega

theorem cut_take (xs : List V) (k : Nat) : cutV xs none (some (k : Int)) = xs.take k := by
  unfold cutV
  rw [HT.sIx_none, HT.sIx_nat, List.drop_zero, Nat.sub_zero]
  by_cases h : k ≤ xs.length
  · rw [Nat.min_eq_left h]
  · rw [Nat.min_eq_right (by omega), List.take_of_length_le (Nat.le_refl _), List.take_of_length_le (by omega)]
theorem slice_take {K : PySem.W.Frag} {t : Addr} {xs : List V} {k : Nat} {H : Hp} {Q : VK} (h : SqT K H t xs) (q : ∀ p H', Sm H H' → SqT K H' p (xs.take k) → Q (.ref p) H') : rSlA K (.ref t) none (some (k : Int)) H Q := by
  refine ⟨t, xs, rfl, h, fun e => ?_, fun _ p hp => ?_⟩
  · refine q t H (Sm.refl H) ?_
    have e2 := e.2
    rw [HT.sIx_nat] at e2
    rw [List.take_of_length_le (by omega)]
    exact h
  · rw [cut_take]
    exact q p _ (Sm.new hp) (.inl (.inl upd_same))
/-- [g j for j in range(n) if p j], all of it told without a change of what stands -/
theorem lc_pick {i n : Nat} {σ : L2.St} {H1 : Hp} {D : Addr} {tt : TT} {te : TE} {Q : VK} (p : Nat → Bool) (g : Nat → V) (hD : H1 D = none) (hn : n ≤ 90000)
    (ht : ∀ j H, j < n → Sm H1 H → ∀ R : Bool → Hp → Prop, (∀ H', Sm H H' → R (p j) H') → tt ((σ.set i none).set i (some (.int (0 + (j : Int))))) H R)
    (he : ∀ j H, j < n → Sm H1 H → ∀ R : VK, (∀ H', Sm H H' → R (g j) H') → te ((σ.set i none).set i (some (.int (0 + (j : Int))))) H R)
    (hQ : ∀ H', Sm H1 H' → H' D = some (.lst (((List.range n).filter p).map g)) → Q (.ref D) H') :
    ∃ W : Nat → Nat → Hp → Prop, (∃ k, W 0 k (upd H1 D (.lst []))) ∧ ∀ j k H, W j k H →
      ((Itr 0 n).stop j H ∧ Q (.ref D) H) ∨ ((Itr 0 n).go j H ∧ ∃ Nx : Hp → Prop, (∀ H', Nx H' → ∃ k', k' < k ∧ W (j + 1) k' H') ∧ ∀ x H', (Itr 0 n).yld j H x H' → gName i x (wipe σ [i]) H' fun σ2 H2 => wipe σ2 [i] = wipe σ [i] ∧ tt σ2 H2 fun b H3 =>
        if b = true then te σ2 H3 fun y H4 => ∃ acc, H4 D = some (.lst acc) ∧ acc.length < sizeLine ∧ Nx (upd H4 D (.lst (acc ++ [y]))) else Nx H3) := by
  refine lc_range (lo := 0) (n := n) (fun j H => Sm H1 H ∧ H D = some (.lst (((List.range j).filter p).map g))) ⟨Sm.new hD, upd_same⟩ (fun j H hj hp => ?_) fun H hp => hQ H hp.1 hp.2
  obtain ⟨G, hy⟩ := hp
  have hl : (((List.range j).filter p).map g).length ≤ j := by
    rw [List.length_map]
    exact Nat.le_trans (List.length_filter_le _ _) (by rw [List.length_range]; exact Nat.le_refl _)
  refine ⟨?_, ?_⟩
  · show ((σ.set i none).set i (some (.int (0 + (j : Int))))).set i none = (σ.set i none)
    rw [List.set_set, List.set_set]
  · show tt ((σ.set i none).set i (some (.int (0 + (j : Int))))) H _
    refine ht j H hj G _ fun H' G' => ?_
    have er : (List.range (j + 1)).filter p = (List.range j).filter p ++ (if p j = true then [j] else []) := by
      rw [List.range_succ, List.filter_append]
      congr 1
      by_cases c : p j = true <;> simp [c]
    refine ite2 (fun c => ?_) (fun c => ?_)
    · refine he j H' hj (G.trans G') _ fun H4 G4 => ⟨_, G4 _ _ (G' _ _ hy), small' (by omega), ?_, ?_⟩
      · exact Sm.own ((G.trans G').trans G4) hD (no_tbl (G4 _ _ (G' _ _ hy)))
      · rw [er, if_pos c, List.map_append]
        exact upd_same
    · refine ⟨G.trans G', ?_⟩
      rw [er, if_neg c, List.append_nil]
      exact G' _ _ hy
theorem lc_picked {i n : Nat} {σ : L2.St} {H : Hp} {ta : TA} {tt : TT} {te : TE} {Q : VK} (p : Nat → Bool) (g : Nat → V) (ha : ∀ R : List V → Hp → Prop, (∀ H1, Sm H H1 → R [.int (n : Int)] H1) → ta σ H R) (hn : n ≤ 90000)
    (ht : ∀ j H2, j < n → Sm H H2 → ∀ R : Bool → Hp → Prop, (∀ H', Sm H2 H' → R (p j) H') → tt ((σ.set i none).set i (some (.int (0 + (j : Int))))) H2 R)
    (he : ∀ j H2, j < n → Sm H H2 → ∀ R : VK, (∀ H', Sm H2 H' → R (g j) H') → te ((σ.set i none).set i (some (.int (0 + (j : Int))))) H2 R)
    (hQ : ∀ D H', Sm H H' → H' D = some (.lst (((List.range n).filter p).map g)) → Q (.ref D) H') : tLc (iRng1 ta) (gName i) tt te [i] σ H Q := by
  refine ha _ fun H1 G => ⟨(n : Int), rfl, by omega, by omega, fun D hD => ?_⟩
  exact lc_pick (i := i) (n := n) (tt := tt) (te := te) p g hD (by omega) (fun j H2 hj G2 R hR => ht j H2 hj (G.trans G2) R hR) (fun j H2 hj G2 R hR => he j H2 hj (G.trans G2) R hR) fun H' G' hy => hQ D H' (G.trans G') hy
/-- a list of numbers against the empty one -/
theorem dp_ints {K : PySem.W.Frag} {H : Hp} : ∀ ns : List Int, DpAll K H (ns.map V.int) (ns.map PyData.int)
  | [] => .nil
  | x :: r => .cons (.int x) (dp_ints r)
theorem lay_ints : ∀ ns : List Int, PyData.canLayAll0 (ns.map PyData.int) = true
  | [] => rfl
  | x :: r => by
    show (true && PyData.canLayAll0 (r.map PyData.int)) = true
    rw [lay_ints r]
    rfl
theorem depth_ints : ∀ ns : List Int, PyData.depthAll (ns.map PyData.int) = 0
  | [] => rfl
  | x :: r => by
    show max 0 (PyData.depthAll (r.map PyData.int)) = 0
    rw [depth_ints r]
    rfl
theorem shaped_ints (ns : List Int) : SeqAt.shaped (.list (ns.map PyData.int)) = true := by
  show (PyData.canLayAll0 (ns.map PyData.int) && decide (PyData.depthAll (ns.map PyData.int) + 1 ≤ 64)) = true
  rw [lay_ints, depth_ints]
  rfl
theorem eqv_nil (ns : List PyData) : PyData.eqv (.list ns) (.list []) = ns.isEmpty := by
  show PyData.eqvAll ns [] = _
  cases ns with
  | nil => rfl
  | cons a r => rfl
def stemB (n1 : Str) (k1 : List Str) (n2 : Str) (k2 : List Str) : Bool := decide (n1 = n2) && decide (k1 = k2.take k1.length)
def spTwo (K : PySem.W.Frag) (B : Str → List Str → Str → List Str → Bool) : Sp := fun vs H Q _ => ∃ (p q : Addr) (n1 n2 : Str) (k1 k2 : List Str), vs = [.ref p, .ref q] ∧ RefAt K H p n1 k1 ∧ RefAt K H q n2 k2 ∧ REF n1 k1 ∧ REF n2 k2 ∧ ∀ H', Sm H H' → Q (.bl (B n1 k1 n2 k2)) H'
theorem cut_drop (xs : List V) (k : Nat) : cutV xs (some (k : Int)) none = xs.drop k := by
  unfold cutV
  rw [HT.sIx_none, HT.sIx_nat]
  by_cases h : k ≤ xs.length
  · rw [Nat.min_eq_left h, List.take_of_length_le]
    rw [List.length_drop]
    exact Nat.le_refl _
  · rw [Nat.min_eq_right (by omega), List.drop_eq_nil_of_le (Nat.le_refl _), List.drop_eq_nil_of_le (by omega), List.take_nil]
section
variable {P : Program} {w : World} {K : PySem.W.Frag} {mg : Str → Option Value} {base : Heap} {cs : Tabs}
theorem ok_is_stem (T : Txt K mg cs) : Cal P w K mg base 1 "is_stem" ["one", "other"] (spTwo K stemB) := by
  refine T.f_is_stem.cal scIsStem (fun vs H Q E h => ?_) (fun f cdv A outer s H vs Q E hr h => ?_)
  · obtain ⟨p, q, n1, n2, k1, k2, rfl, _⟩ := h
    rfl
  obtain ⟨p, q, n1, n2, k1, k2, rfl, R1, R2, O1, O2, q⟩ := h
  obtain ⟨t1, a1, a2⟩ := R1.ex
  obtain ⟨t2, b1, b2⟩ := R2.ex
  refine ⟨_, (pss_one (ps_ret (pe_and (pe_cmpR op_eq (pe_ix (ixT K) (pv 0) pe_int (fun _ _ => rfl)) (pe_ix (ixT K) (pv 1) pe_int (fun _ _ => rfl)) (nomark _)) (pe_one (pe_cmpR (eqD K hr.units) (pe_ix (ixT K) (pv 0) pe_int (fun _ _ => rfl)) (pe_slice (slT K) (pe_ix (ixT K) (pv 1) pe_int (fun _ _ => rfl)) po_none (po_some (pe_callB (lenQ K) rfl T.n_len (by decide +kernel) (pa_cons (pe_ix (ixT K) (pv 0) pe_int (fun _ _ => rfl)) pa_nil)))) (nomark _)))))), ?_⟩
  refine ⟨_, rfl, _, _, 0, _, rfl, rfl, a1, rfl, _, rfl, _, _, 0, _, rfl, rfl, b1, rfl, rfl, _, rfl, ?_⟩
  refine ite2 (fun c => ?_) (fun c => ?_)
  · have e : n1 = n2 := by
      have c' := of_decide_eq_true c
      injection c'
    refine ⟨_, rfl, _, _, 1, _, rfl, rfl, a1, rfl, _, rfl, _, _, 1, _, rfl, rfl, b1, rfl, _, rfl, _, _, 1, _, rfl, rfl, a1, rfl, t1, _, rfl, .inr a2, _, rfl, ?_⟩
    refine slice_take (k := (k1.map V.str).length) b2 fun p' H' S h' => ?_
    rw [List.length_map, ← List.map_take] at h'
    refine ⟨.tuple (dS k1), .tuple (dS (k2.take k1.length)), .tup (Sm.seqT S a2) (dp_strs _), .tup h' (dp_strs _), shaped_tup fun z hz => (O1.ks z hz).ok, shaped_tup fun z hz => (O2.ks z (List.mem_of_mem_take hz)).ok, ?_⟩
    have r : PyData.eqv (.tuple (dS k1)) (.tuple (dS (k2.take k1.length))) = stemB n1 k1 n2 k2 := by
      show PyData.eqvAll _ _ = _
      rw [eqv_strs]
      unfold stemB
      rw [decide_eq_true e, Bool.true_and]
    rw [r]
    exact q H' S
  · have e : ¬ n1 = n2 := fun e => c (by rw [e]; exact decide_eq_true rfl)
    have r : stemB n1 k1 n2 k2 = false := by
      unfold stemB
      rw [decide_eq_false e, Bool.false_and]
    have := q H (Sm.refl H)
    rw [r] at this
    exact this
end
/-! ### meet, the law's own look, what stands beside -/
def meetB (n1 : Str) (k1 : List Str) (n2 : Str) (k2 : List Str) : Bool := stemB n1 k1 n2 k2 || stemB n2 k2 n1 k1
theorem stem_iff {n1 n2 : Str} {k1 k2 : List Str} (hn : n1 = n2) (hl : k1.length ≤ k2.length) : ((List.range k1.length).filter fun j => !decide (k1[j]? = k2[j]?)).isEmpty = stemB n1 k1 n2 k2 := by
  have e : ((List.range k1.length).filter fun j => !decide (k1[j]? = k2[j]?)).isEmpty = true ↔ stemB n1 k1 n2 k2 = true := by
    rw [List.isEmpty_iff, List.filter_eq_nil_iff]
    unfold stemB
    rw [Bool.and_eq_true, decide_eq_true_eq, decide_eq_true_eq]
    constructor
    · intro h
      refine ⟨hn, List.ext_getElem? fun j => ?_⟩
      by_cases hj : j < k1.length
      · have q := h j (List.mem_range.mpr hj)
        rw [List.getElem?_take, if_pos hj]
        simpa using q
      · rw [List.getElem?_take, if_neg hj]
        exact List.getElem?_eq_none (by omega)
    · intro h j hj
      have hj' := List.mem_range.mp hj
      have q : k1[j]? = (k2.take k1.length)[j]? := by rw [← h.2]
      rw [List.getElem?_take, if_pos hj'] at q
      simp [q]
  cases a : ((List.range k1.length).filter fun j => !decide (k1[j]? = k2[j]?)).isEmpty with
  | true => exact (e.mp a).symm
  | false =>
    cases b : stemB n1 k1 n2 k2 with
    | true =>
      rw [e.mpr b] at a
      cases a
    | false => rfl
section
variable {P : Program} {w : World} {K : PySem.W.Frag} {mg : Str → Option Value} {base : Heap} {cs : Tabs}
theorem ok_meet (T : Txt K mg cs) (Cis_stem : Cal P w K mg base 1 "is_stem" ["one", "other"] (spTwo K stemB)) : Cal P w K mg base 2 "meet" ["one", "other"] (spTwo K meetB) := by
  refine T.f_meet.cal scMeet (fun vs H Q E h => ?_) (fun f cdv A outer s H vs Q E hr h => ?_)
  · obtain ⟨p, q, n1, n2, k1, k2, rfl, _⟩ := h
    rfl
  obtain ⟨p, q, n1, n2, k1, k2, rfl, R1, R2, O1, O2, q⟩ := h
  refine ⟨_, (pss_one (ps_ret (pe_or (pe_cal Cis_stem (hr.mono (by first | decide | omega)) (pa_cons (pv 0) (pa_cons (pv 1) pa_nil))) (pe_one (pe_cal Cis_stem (hr.mono (by first | decide | omega)) (pa_cons (pv 1) (pa_cons (pv 0) pa_nil))))))), ?_⟩
  refine ⟨_, rfl, _, rfl, _, _, _, _, _, _, rfl, R1, R2, O1, O2, fun H1 S1 => ⟨_, rfl, ?_⟩⟩
  refine ite2 (fun c => ?_) (fun c => ?_)
  · have r : meetB n1 k1 n2 k2 = true := by
      unfold meetB
      rw [c]
      rfl
    have := q H1 S1
    rw [r] at this
    exact this
  · refine ⟨_, rfl, _, rfl, _, _, _, _, _, _, rfl, R2.same S1, R1.same S1, O2, O1, fun H2 S2 => ?_⟩
    have r : meetB n1 k1 n2 k2 = stemB n2 k2 n1 k1 := by
      unfold meetB
      rw [Bool.eq_false_iff.mpr c]
      rfl
    have := q H2 (S1.trans S2)
    rw [r] at this
    exact this
end
theorem REF.take {n : Str} {ks : List Str} (h : REF n ks) (k : Nat) : REF n (ks.take k) := ⟨h.nm, by
  have := h.le
  rw [List.length_take]
  omega, fun z hz => h.ks z (List.mem_of_mem_take hz)⟩
section
variable {P : Program} {w : World} {K : PySem.W.Frag} {mg : Str → Option Value} {base : Heap} {cs : Tabs}
theorem ok_law_stem (T : Txt K mg cs) : Cal P w K mg base 1 "_law_stem" ["one", "other"] (spTwo K stemB) := by
  refine T.f_law_stem.cal scLawStem (fun vs H Q E h => ?_) (fun f cdv A outer s H vs Q E hr h => ?_)
  · obtain ⟨p, q, n1, n2, k1, k2, rfl, _⟩ := h
    rfl
  obtain ⟨p, q, n1, n2, k1, k2, rfl, R1, R2, O1, O2, q⟩ := h
  obtain ⟨t1, a1, a2⟩ := R1.ex
  obtain ⟨t2, b1, b2⟩ := R2.ex
  have no : (¬ n1 = n2 ∨ ¬ k1.length ≤ k2.length) → Q (.bl false) H := fun h => by
    have r : stemB n1 k1 n2 k2 = false := by
      unfold stemB
      rcases h with h | h
      · rw [decide_eq_false h, Bool.false_and]
      · rw [decide_eq_false (show ¬ k1 = k2.take k1.length from fun e => h (by
          have := congrArg List.length e
          rw [List.length_take] at this
          omega)), Bool.and_false]
    have := q H (Sm.refl H)
    rw [r] at this
    exact this
  refine ⟨_, (pss_cons (ps_if (PW.pt (pw_or (pt_cmpR op_ne (pe_ix (ixT K) (pv 0) pe_int (fun _ _ => rfl)) (pe_ix (ixT K) (pv 1) pe_int (fun _ _ => rfl)) (nomark _)) (pw_or1 (pt_cmpR op_gt (pe_callB (lenQ K) rfl T.n_len (by decide +kernel) (pa_cons (pe_ix (ixT K) (pv 0) pe_int (fun _ _ => rfl)) pa_nil)) (pe_callB (lenQ K) rfl T.n_len (by decide +kernel) (pa_cons (pe_ix (ixT K) (pv 1) pe_int (fun _ _ => rfl)) pa_nil)) (nomark _))))) (pss_one (ps_ret pe_bl)) pss_nil)
    (pss_one (ps_ret (pe_cmpR (eqD K hr.units) (pe_lc (own := [("k", 2)]) (g := gName 2) (tt := _) rfl scLawStem.nd (pi_range1 rfl T.n_range (pa_cons (pe_callB (lenQ K) rfl T.n_len (by decide +kernel) (pa_cons (pe_ix (ixT K) (pv 0) pe_int (fun _ _ => rfl)) pa_nil)) pa_nil)) (blkOk_by (own := [("k", 2)]) (N := ["one", "other", "k"]) (sc := defScope sLawStem) (by decide +kernel)) (fun _ _ _ _ _ => (pg_name (i := 2) scLawStem.nd rfl (by first | exact Or.inl rfl | exact Or.inr rfl))) (fun _ _ _ _ _ => (pts_one (pt_cmpR op_ne (pe_ix (ixT K) (pe_ix (ixT K) (pv 0) pe_int (fun _ _ => rfl)) (pv 2) (fun _ _ => rfl)) (pe_ix (ixT K) (pe_ix (ixT K) (pv 1) pe_int (fun _ _ => rfl)) (pv 2) (fun _ _ => rfl)) (nomark _)))) (fun _ _ _ _ _ => (pv 2))) (pe_lst pa_nil) (nomark _))))), ?_⟩
  refine ⟨_, rfl, _, _, 0, _, rfl, rfl, a1, rfl, _, rfl, _, _, 0, _, rfl, rfl, b1, rfl, rfl, _, rfl, ?_⟩
  refine ite2 (fun c => ?_) (fun c => ?_)
  · refine no (.inl fun e => ?_)
    rw [e] at c
    simp at c
  have e : n1 = n2 := by
    simpa using c
  refine ⟨_, rfl, _, _, 1, _, rfl, rfl, a1, rfl, t1, _, rfl, .inr a2, _, rfl, _, _, 1, _, rfl, rfl, b1, rfl, t2, _, rfl, .inr b2, _, _, rfl, rfl, _, rfl, ?_⟩
  refine ite2 (fun c2 => ?_) (fun c2 => ?_)
  · refine no (.inr fun e => ?_)
    have c3 := of_decide_eq_true c2
    rw [List.length_map, List.length_map] at c3
    omega
  have hl : k1.length ≤ k2.length := by
    have c3 := of_decide_eq_false (Bool.eq_false_iff.mpr c2)
    rw [List.length_map, List.length_map] at c3
    omega
  have s1 := O1.le
  dsimp only [gName, tSeq, tAsg, tRet, tDrop, tNext, tOp, tIfS, tTest]
  refine lc_picked (i := 2) (n := (k1.map V.str).length) (fun j => !decide (k1[j]? = k2[j]?)) (fun j => .int (0 + (j : Int))) (fun R h => ⟨_, rfl, _, _, 1, _, rfl, rfl, a1, rfl, t1, _, rfl, .inr a2, h H (Sm.refl H)⟩) (by rw [List.length_map]; omega) (fun j H2 hj S R h => ?_) (fun j H2 hj S R h => ⟨_, rfl, h H2 (Sm.refl H2)⟩) fun D H' S hD => ?_
  · rw [List.length_map] at hj
    have hj2 : j < k2.length := by omega
    have g1 : (k1.map V.str)[j]? = some (.str k1[j]) := by
      rw [List.getElem?_map, List.getElem?_eq_getElem hj]
      rfl
    have g2 : (k2.map V.str)[j]? = some (.str k2[j]) := by
      rw [List.getElem?_map, List.getElem?_eq_getElem hj2]
      rfl
    have z : ((0 : Int) + (j : Int)) = (j : Int) := by omega
    refine ⟨_, rfl, _, _, 1, _, rfl, rfl, Sm.seqT S a1, rfl, _, rfl, t1, _, _, _, rfl, rfl, Sm.seqT S a2, (by rw [z]; exact atI_nat g1), _, rfl, _, _, 1, _, rfl, rfl, Sm.seqT S b1, rfl, _, rfl, t2, _, _, _, rfl, rfl, Sm.seqT S b2, (by rw [z]; exact atI_nat g2), rfl, _, rfl, ?_⟩
    have r : (!decide (V.str k1[j] = V.str k2[j])) = !decide (k1[j]? = k2[j]?) := by
      rw [List.getElem?_eq_getElem hj, List.getElem?_eq_getElem hj2]
      simp
    have := h H2 (Sm.refl H2)
    rw [← r] at this
    exact this
  · have ez : ((List.range (k1.map V.str).length).filter fun j => !decide (k1[j]? = k2[j]?)).map (fun j : Nat => V.int (0 + (j : Int))) = (((List.range k1.length).filter fun j => !decide (k1[j]? = k2[j]?)).map fun j : Nat => (0 + (j : Int))).map V.int := by
      rw [List.length_map, List.map_map]
      rfl
    rw [ez] at hD
    refine ⟨Nat.zero_le _, fun p2 hp2 => ?_⟩
    have S2 : Sm H' (upd H' p2 (.lst [])) := Sm.new hp2
    refine ⟨.list _, .list [], .lst (SqL.of (S2 _ _ hD)) (dp_ints _), .lst (SqL.of upd_same) .nil, shaped_ints _, rfl, ?_⟩
    have r : PyData.eqv (.list ((((List.range k1.length).filter fun j => !decide (k1[j]? = k2[j]?)).map fun j : Nat => (0 + (j : Int))).map PyData.int)) (.list []) = stemB n1 k1 n2 k2 := by
      rw [eqv_nil, ← stem_iff e hl]
      simp
    rw [r]
    exact q _ (S.trans S2)
end
theorem slice_drop {K : PySem.W.Frag} {t : Addr} {xs : List V} {k : Nat} {H : Hp} {Q : VK} (h : SqT K H t xs) (q : ∀ p H', Sm H H' → SqT K H' p (xs.drop k) → Q (.ref p) H') : rSlA K (.ref t) (some (k : Int)) none H Q := by
  refine ⟨t, xs, rfl, h, fun e => ?_, fun _ p hp => ?_⟩
  · refine q t H (Sm.refl H) ?_
    have e2 := e.1
    rw [HT.sIx_nat] at e2
    by_cases hk : k = 0
    · rw [hk]
      exact h
    · have e3 : xs.length = 0 := by omega
      rw [List.length_eq_zero_iff.mp e3] at h ⊢
      rw [List.drop_nil]
      exact h
  · rw [cut_drop]
    exact q p _ (Sm.new hp) (.inl (.inl upd_same))
theorem cat_any {K : PySem.W.Frag} {a b : Addr} {xs ys : List V} {H : Hp} {Q : VK} (h1 : SqT K H a xs) (h2 : SqT K H b ys) (hl : xs.length + ys.length ≤ 90000) (q : ∀ p H', Sm H H' → SqT K H' p (xs ++ ys) → Q (.ref p) H') : rCatA K (.ref a) (.ref b) H Q := by
  refine ⟨a, b, xs, ys, rfl, rfl, h1, h2, small (by omega), fun e => ?_, fun e e2 => ?_, fun _ _ p hp => q p _ (Sm.new hp) (.inl (.inl upd_same))⟩
  · refine q b H (Sm.refl H) ?_
    rw [e]
    exact h2
  · refine q a H (Sm.refl H) ?_
    rw [e2, List.append_nil]
    exact h1
def spBeside (K : PySem.W.Frag) : Sp := fun vs H Q _ => ∃ (b p : Addr) (n : Str) (ks : List Str) (m : Nat), vs = [.ref b, .ref p] ∧ RefAt K H p n ks ∧ REF n ks ∧ Bag H b m ∧ m + 40000 ≤ LIM ∧ ∀ (p' : Addr) (n' : Str) (ks' : List Str) (H' : Hp), REF n' ks' → RefAt K H' p' n' ks' → Go b 12000 H H' → Q (.ref p') H'
/-- (name, keys), the tuple of keys at t -/
theorem tup_ref {K : PySem.W.Frag} {b t : Addr} {n : Str} {ks : List Str} {m c : Nat} {H H1 : Hp} {Q : VK} (G : Go b c H H1) (B : Bag H b m) (hc : c ≤ 12000) (h : SqT K H1 t (ks.map V.str)) (O : REF n ks)
    (q : ∀ (p' : Addr) (n' : Str) (ks' : List Str) (H' : Hp), REF n' ks' → RefAt K H' p' n' ks' → Go b 12000 H H' → Q (.ref p') H') : (([V.str n, V.ref t] : List V).length ≤ sizeLine ∧ ∀ p, H1 p = none → Q (.ref p) (upd H1 p (.tup [.str n, .ref t]))) :=
  ⟨(by show 2 ≤ sizeLine; decide), fun p hp => q p n ks _ O ⟨t, .inl (.inl upd_same), Sm.seqT (Sm.new hp) h⟩ ((G.trans (Go.new hp)).mono (by omega))⟩
section
variable {P : Program} {w : World} {K : PySem.W.Frag} {mg : Str → Option Value} {base : Heap} {cs : Tabs}
theorem ok_law_beside (T : Txt K mg cs) (C_law_draw : Cal P w K mg base 1 "_law_draw" ["bag", "many"] spDraw) (C_law_name : Cal P w K mg base 2 "_law_name" ["bag"] spName) (C_law_key : Cal P w K mg base 3 "_law_key" ["bag"] spKey) (C_law_ref : Cal P w K mg base 4 "_law_ref" ["bag"] (spRef K)) :
    Cal P w K mg base 5 "_law_beside" ["bag", "ref"] (spBeside K) := by
  refine T.f_law_beside.cal scLawBeside (fun vs H Q E h => ?_) (fun f cdv A outer s H vs Q E hr h => ?_)
  · obtain ⟨b, p, n, ks, m, rfl, _⟩ := h
    rfl
  obtain ⟨b, p, n, ks, m, rfl, R, O, B, hm, q⟩ := h
  obtain ⟨t, a1, a2⟩ := R.ex
  have hle := O.le
  have hlm : (ks.map V.str).length = ks.length := List.length_map _
  refine ⟨_, (pss_cons (ps_asg (pv 1) (pg_tup rfl (pgs_cons (pg_name (i := 2) scLawBeside.nd rfl (by first | exact Or.inl rfl | exact Or.inr rfl)) (pgs_cons (pg_name (i := 3) scLawBeside.nd rfl (by first | exact Or.inl rfl | exact Or.inr rfl)) pgs_nil))))
    (pss_cons (ps_set (i := 4) scLawBeside.nd rfl (by first | exact Or.inl rfl | exact Or.inr rfl) (pe_cal C_law_draw (hr.mono (by first | decide | omega)) (pa_cons (pv 0) (pa_cons pe_int pa_nil))))
    (pss_cons (ps_set (i := 5) scLawBeside.nd rfl (by first | exact Or.inl rfl | exact Or.inr rfl) (pe_cal C_law_draw (hr.mono (by first | decide | omega)) (pa_cons (pv 0) (pa_cons (pe_op op_add (pe_callB (lenQ K) rfl T.n_len (by decide +kernel) (pa_cons (pv 3) pa_nil)) pe_int) pa_nil))))
    (pss_cons (ps_if (pt_cmpR op_eq (pv 4) pe_int (nomark _)) (pss_one (ps_ret (pe_cal C_law_ref (hr.mono (by first | decide | omega)) (pa_cons (pv 0) pa_nil)))) pss_nil)
    (pss_cons (ps_if (pt_cmpR op_eq (pv 4) pe_int (nomark _)) (pss_one (ps_ret (pe_tup (pa_cons (pe_cal C_law_name (hr.mono (by first | decide | omega)) (pa_cons (pv 0) pa_nil)) (pa_cons (pv 3) pa_nil))))) pss_nil)
    (pss_cons (ps_if (pt_cmpR op_lt (pv 4) pe_int (nomark _)) (pss_one (ps_ret (pe_tup (pa_cons (pv 2) (pa_cons (pe_slice (slT K) (pv 3) po_none (po_some (pv 5))) pa_nil))))) pss_nil)
    (pss_cons (ps_if (pt_cmpR op_eq (pv 4) pe_int (nomark _)) (pss_one (ps_ret (pe_tup (pa_cons (pv 2) (pa_cons (pe_slice (slT K) (pe_op (catA K) (pv 3) (pe_tup (pa_cons (pe_cal C_law_key (hr.mono (by first | decide | omega)) (pa_cons (pv 0) pa_nil)) (pa_cons (pe_cal C_law_key (hr.mono (by first | decide | omega)) (pa_cons (pv 0) pa_nil)) pa_nil)))) po_none (po_some pe_int)) pa_nil))))) pss_nil)
    (pss_one (ps_ret (pe_tup (pa_cons (pv 2) (pa_cons (pe_slice (slT K) (pe_op (catA K) (pe_op (catA K) (pe_slice (slT K) (pv 3) po_none (po_some (pv 5))) (pe_tup (pa_cons (pe_cal C_law_key (hr.mono (by first | decide | omega)) (pa_cons (pv 0) pa_nil)) pa_nil))) (pe_slice (slT K) (pv 3) (po_some (pe_op op_add (pv 5) pe_int)) po_none)) po_none (po_some pe_int)) pa_nil)))))))))))), ?_⟩
  unfold LIM at hm
  refine ⟨_, rfl, p, _, rfl, a1, rfl, _, _, rfl, _, _, rfl, rfl, ?_⟩
  refine draw_here (i := 0) (by rfl) B (by unfold LIM; omega) (by decide) (by decide) fun lot H1 l0 l1 G1 => ?_
  have B1 := G1.bag _ B
  refine ⟨_, rfl, _, rfl, t, _, rfl, .inr (G1.seqT B a2), _, _, rfl, rfl, b, _, m + 1, rfl, B1, by unfold LIM; omega, by omega, by omega, fun at' H2 t0 t1 G2 => ?_⟩
  obtain ⟨k, rfl⟩ : ∃ k : Nat, at' = (k : Int) := ⟨at'.toNat, by omega⟩
  have B2 := G2.bag _ B1
  have G : Go b 2 H H2 := G1.trans G2
  have a2' : SqT K H2 t (ks.map V.str) := G.seqT B a2
  refine ⟨_, rfl, rfl, _, rfl, ?_⟩
  refine ite2 (fun c => ?_) (fun c => ?_)
  · exact ⟨_, rfl, b, _, rfl, B2, by unfold LIM; omega, fun p' n' ks' H' O' R' G' => q p' n' ks' H' O' R' ((G.trans G').mono (by omega))⟩
  refine ⟨_, rfl, rfl, _, rfl, ?_⟩
  refine ite2 (fun c1 => ?_) (fun c1 => ?_)
  · refine ⟨_, rfl, b, _, rfl, B2, by unfold LIM; omega, fun z H3 W G3 => ⟨_, rfl, ?_⟩⟩
    exact tup_ref (G.trans G3) B (by omega) (G3.seqT B2 a2') ⟨W, O.le, O.ks⟩ q
  refine ⟨_, rfl, _, _, rfl, rfl, _, rfl, ?_⟩
  refine ite2 (fun c2 => ?_) (fun c2 => ?_)
  · refine ⟨_, rfl, _, rfl, _, rfl, (k : Int), rfl, ?_⟩
    refine slice_take a2' fun p' H' S h' => ?_
    rw [← List.map_take] at h'
    exact tup_ref (G.trans (Go.same S)) B (by omega) h' (O.take k) q
  refine ⟨_, rfl, rfl, _, rfl, ?_⟩
  refine ite2 (fun c3 => ?_) (fun c3 => ?_)
  · refine ⟨_, rfl, _, rfl, _, rfl, b, _, rfl, B2, by unfold LIM; omega, fun z1 H3 W1 G3 => ⟨_, rfl, b, _, rfl, G3.bag _ B2, by unfold LIM; omega, fun z2 H4 W2 G4 => ?_⟩⟩
    refine ⟨(by show 2 ≤ sizeLine; decide), fun t2 ht2 => ?_⟩
    have S5 : Go b 0 H4 (upd H4 t2 (.tup [.str z1, .str z2])) := Go.new ht2
    have G5 : Go b (1200 + 1200 + 0) H2 (upd H4 t2 (.tup [.str z1, .str z2])) := (G3.trans G4).trans S5
    refine cat_any (G5.seqT B2 a2') (.inl (.inl upd_same)) (by rw [hlm]; show ks.length + 2 ≤ 90000; omega) fun p6 H6 S6 h6 => ?_
    refine ⟨6, rfl, ?_⟩
    refine slice_take (k := 6) h6 fun p7 H7 S7 h7 => ?_
    have h7' : SqT K H7 p7 (((ks ++ [z1, z2]).take 6).map V.str) := by
      rw [List.map_take, List.map_append]
      exact h7
    refine tup_ref (G.trans (G5.trans ((Go.same S6).trans (Go.same S7)))) B (by omega) h7' ⟨O.nm, by rw [List.length_take]; omega, fun z hz => ?_⟩ q
    rcases List.mem_append.mp (List.mem_of_mem_take hz) with hz | hz
    · exact O.ks z hz
    · rcases List.mem_cons.mp hz with rfl | hz
      · exact W1
      · rw [List.mem_singleton.mp hz]
        exact W2
  · refine ⟨_, rfl, _, rfl, _, rfl, (k : Int), rfl, ?_⟩
    refine slice_take a2' fun p5 H5 S5 h5 => ?_
    have B5 := (Go.same (b := b) S5).bag _ B2
    refine ⟨_, rfl, b, _, rfl, B5, by unfold LIM; omega, fun z1 H6 W1 G6 => ?_⟩
    refine ⟨(by show 1 ≤ sizeLine; decide), fun t2 ht2 => ?_⟩
    have B6 := G6.bag _ B5
    have h5' := Sm.seqT (Sm.new (o := .tup [.str z1]) ht2) (G6.seqT B5 h5)
    have lt : ((ks.map V.str).take k).length ≤ 6 := by
      rw [List.length_take, hlm]
      omega
    refine cat_any h5' (.inl (.inl upd_same)) (by show _ + 1 ≤ 90000; omega) fun p7 H7 S7 h7 => ?_
    have S57 : Go b (0 + 1200 + 0 + 0) H2 H7 := (((Go.same S5).trans G6).trans (Go.new ht2)).trans (Go.same S7)
    refine ⟨_, rfl, _, rfl, _, _, rfl, rfl, ((k + 1 : Nat) : Int), rfl, ?_⟩
    dsimp only [tNoPart]
    refine slice_drop (k := k + 1) (S57.seqT B2 a2') fun p8 H8 S8 h8 => ?_
    have ld : ((ks.map V.str).drop (k + 1)).length ≤ 6 := by
      rw [List.length_drop, hlm]
      omega
    refine cat_any (Sm.seqT S8 h7) h8 (by rw [List.length_append]; show (_ + 1) + _ ≤ 90000; omega) fun p9 H9 S9 h9 => ?_
    refine ⟨6, rfl, ?_⟩
    refine slice_take (k := 6) h9 fun pa Ha Sa ha => ?_
    have ha' : SqT K Ha pa (((ks.take k ++ [z1] ++ ks.drop (k + 1)).take 6).map V.str) := by
      rw [List.map_take, List.map_append, List.map_append, List.map_take, List.map_drop]
      exact ha
    refine tup_ref (G.trans (S57.trans ((Go.same S8).trans ((Go.same S9).trans (Go.same Sa))))) B (by omega) ha' ⟨O.nm, by rw [List.length_take]; omega, fun z hz => ?_⟩ q
    rcases List.mem_append.mp (List.mem_of_mem_take hz) with hz | hz
    · rcases List.mem_append.mp hz with hz | hz
      · exact O.ks z (List.mem_of_mem_take hz)
      · rw [List.mem_singleton.mp hz]
        exact W1
    · exact O.ks z (List.mem_of_mem_drop hz)
end
/-! ### loops, and heaps behind a bag that is one's own -/
theorem Sm.go {H0 H1 H2 : Hp} {b : Addr} {n : Nat} (S : Sm H0 H1) (G : Go b n H1 H2) (hb : H0 b = none) : Sm H0 H2 := ⟨fun a o h nt => G.keep a o (ne_of_none h hb) (S.keep a o h nt) nt, fun P t => G.tab P (S.tab P t), fun a ha => S.gone a (G.gone a ha)⟩
theorem SqT.upd {K : PySem.W.Frag} {H : Hp} {S t : Addr} {xs ys : List V} {o : HO} (h : SqT K H t xs) (hs : H S = some (.lst ys)) : SqT K (upd H S o) t xs := by
  have ne : ∀ {u : HO}, H t = some u → (∀ zs, u ≠ .lst zs) → t ≠ S := fun hu no e => by
    rw [e, hs] at hu
    exact no _ (Option.some.inj hu).symm
  rcases h with (h | ⟨ob, h⟩) | h
  · exact .inl (.inl (by rw [upd_ne (ne h fun _ z => by cases z)]; exact h))
  · exact .inl (.inr ⟨ob, by rw [upd_ne (ne h fun _ z => by cases z)]; exact h⟩)
  · exact .inr h
theorem RefAt.upd {K : PySem.W.Frag} {H : Hp} {S p : Addr} {n : Str} {ks : List Str} {ys : List V} {o : HO} (h : RefAt K H p n ks) (hs : H S = some (.lst ys)) : RefAt K (upd H S o) p n ks := by
  obtain ⟨t, h1, h2⟩ := h.ex
  exact ⟨t, SqT.upd h1 hs, SqT.upd h2 hs⟩
theorem Bag.upd {H : Hp} {b S : Addr} {m : Nat} {o : HO} (B : Bag H b m) (ne : S ≠ b) : Bag (upd H S o) b m := by
  obtain ⟨x, y, z, h1, h2⟩ := B
  exact ⟨x, y, z, by rw [upd_ne (Ne.symm ne)]; exact h1, h2⟩
section
variable {K : PySem.W.Frag}
theorem for_in {i j : Nat} {S : Addr} {xs : List V} {tb : TS} {D : Ends} {σ : L2.St} {H : Hp} (Pv : Nat → L2.St → Hp → Prop) (hj : σ[j]? = some (some (.ref S))) (hS : SqL K H S xs) (h0 : Pv 0 σ H) (hl : ∀ n σ H, n ≤ xs.length → Pv n σ H → SqL K H S xs)
    (hs : ∀ n x σ H, xs[n]? = some x → Pv n σ H → tb { D with nx := Pv (n + 1), ct := Pv (n + 1), bk := D.nx } (σ.set i (some x)) H) (hd : ∀ σ H, Pv xs.length σ H → D.nx σ H) : tFor (iList K (tVar j)) (gName i) tb D σ H :=
  ⟨_, hj, S, rfl, ⟨_, hS⟩, for_list (xs := xs) Pv h0 hl hs hd⟩
theorem for_rng {i n : Nat} {ta : TA} {tb : TS} {D : Ends} {σ : L2.St} {H : Hp} (Pv : Nat → L2.St → Hp → Prop) (ha : ∀ R : List V → Hp → Prop, (∀ H1, Sm H H1 → R [.int (n : Int)] H1) → ta σ H R) (hn : n ≤ 90000) (h0 : ∀ H1, Sm H H1 → Pv 0 σ H1)
    (hs : ∀ j σ H, j < n → Pv j σ H → tb { D with nx := Pv (j + 1), ct := Pv (j + 1), bk := D.nx } (σ.set i (some (.int (0 + (j : Int))))) H) (hd : ∀ σ H, Pv n σ H → D.nx σ H) : tFor (iRng1 ta) (gName i) tb D σ H := by
  refine ha _ fun H1 S => ⟨(n : Int), rfl, by omega, by omega, ?_⟩
  exact for_range (lo := 0) (n := n) Pv (h0 H1 S) hs hd
/-- a comprehension over a list that keeps nothing -/
theorem lc_empty {i j : Nat} {S : Addr} {xs : List V} {σ : L2.St} {H : Hp} {tt : TT} {te : TE} {Q : VK} (hj : σ[j]? = some (some (.ref S))) (hS : SqL K H S xs)
    (ht : ∀ x H2, x ∈ xs → Sm H H2 → ∀ R : Bool → Hp → Prop, (∀ H', Sm H2 H' → R false H') → tt ((σ.set i none).set i (some x)) H2 R)
    (hQ : ∀ D H', Sm H H' → H' D = some (.lst []) → Q (.ref D) H') : tLc (iList K (tVar j)) (gName i) tt te [i] σ H Q := by
  refine ⟨_, hj, S, rfl, ⟨_, hS⟩, fun D hD => ?_⟩
  refine lc_list (K := K) (a := S) (xs := xs) (fun _ H' => Sm H H' ∧ H' D = some (.lst [])) ⟨Sm.new hD, upd_same⟩ (fun _ H' _ h => Sm.seq h.1 hS) (fun n x H' hx h => ?_) fun H' h => hQ D H' h.1 h.2
  refine ⟨?_, ?_⟩
  · show ((σ.set i none).set i (some x)).set i none = (σ.set i none)
    rw [List.set_set, List.set_set]
  · exact ht x H' (List.mem_of_getElem? hx) h.1 _ fun H2 S2 => iteF ⟨h.1.trans S2, S2 _ _ h.2⟩
theorem isi_bool {k : Bool} {H : Hp} {Q : VK} (q : Q (.bl true) H) : rIsi K [.bl k, .ty "bool"] H Q :=
  ⟨_, _, .type "bool", .type "bool", true, rfl, .ty "bool", .base (.bl k), kit_ty (by decide +kernel), q⟩
end
/-! ### the law -/
def spLaw (K : PySem.W.Frag) (cs : Tabs) : Sp := fun vs H Q _ => ∃ (a : Addr) (ns : List Int), vs = [.ref a] ∧ SqL K H a (ns.map V.int) ∧ ns.length ≤ 63 ∧ TGs H cs ∧ ∀ H', Q (.bl true) H'
/-- the references made so far -/
structure Rs (K : PySem.W.Frag) (H : Hp) (S : Addr) (rs : List (Addr × Str × List Str)) : Prop where
  here : H S = some (.lst (rs.map fun r => V.ref r.1))
  each : ∀ r ∈ rs, RefAt K H r.1 r.2.1 r.2.2 ∧ REF r.2.1 r.2.2
theorem eqv_bools2 (a b : Bool) : PyData.eqv (.list [.bool a, .bool b]) (.list [.bool a, .bool b]) = true := by
  show ((a == a) && ((b == b) && true)) = true
  simp
section
variable {P : Program} {w : World} {K : PySem.W.Frag} {mg : Str → Option Value} {base : Heap} {cs : Tabs}
theorem ok_law (T : Txt K mg cs) (B : TBs base mg cs) {f : Addr} {fd : FuncData} (F : Fun K "law" "law" sLaw f fd) : FnOk P w K mg base CX0 7 f fd ["script"] (spLaw K cs) := by
  have C_law_cell_at := ok_law_cell_at (P := P) (w := w) (base := base) T
  have C_law_bag := ok_law_bag (P := P) (w := w) (base := base) T
  have C_law_draw := ok_law_draw (P := P) (w := w) (base := base) T
  have C_law_signs := ok_law_signs (P := P) (w := w) (base := base) T
  have C_law_text := ok_law_text T C_law_draw C_law_signs
  have C_law_name := ok_law_name T C_law_draw
  have C_law_key := ok_law_key T C_law_draw C_law_text
  have C_law_ref := ok_law_ref T C_law_draw C_law_name C_law_key
  have C_law_stem := ok_law_stem (P := P) (w := w) (base := base) T
  have C_law_beside := ok_law_beside T C_law_draw C_law_name C_law_key C_law_ref
  have Cis_stem := ok_is_stem (P := P) (w := w) (base := base) T
  have Cmeet := ok_meet T Cis_stem
  refine F.ok scLaw (fun vs H Q E h => ?_) (fun cdv A outer s H vs Q E hr h => ?_)
  · obtain ⟨a, ns, rfl, _⟩ := h
    rfl
  obtain ⟨a, ns, rfl, hS, h63, _, q⟩ := h
  refine ⟨_, (pss_cons (ps_for PassesOwn.never rfl (pi_range1 rfl T.n_range (pa_cons (pe_callB (call_max2 rfl) rfl T.n_max (by decide +kernel) (pa_cons pe_int (pa_cons (pe_callB (call_min2 rfl) rfl T.n_min (by decide +kernel) (pa_cons pe_int (pa_cons (pe_callB (lenQ K) rfl T.n_len (by decide +kernel) (pa_cons (pv 0) pa_nil)) pa_nil))) pa_nil))) pa_nil)) (pg_name (i := 1) scLaw.nd rfl (by first | exact Or.inl rfl | exact Or.inr rfl))
      (pss_cons (ps_set (i := 2) scLaw.nd rfl (by first | exact Or.inl rfl | exact Or.inr rfl) (pe_cal C_law_bag (hr.mono (by first | decide | omega)) (pa_cons (pe_cal C_law_cell_at (hr.mono (by first | decide | omega)) (pa_cons (pv 0) (pa_cons (pv 1) pa_nil))) (pa_cons (pv 1) pa_nil))))
        (pss_cons (ps_set (i := 3) scLaw.nd rfl (by first | exact Or.inl rfl | exact Or.inr rfl) (pe_lst (pa_cons (pe_cal C_law_ref (hr.mono (by first | decide | omega)) (pa_cons (pv 2) pa_nil)) pa_nil)))
        (pss_cons (ps_for PassesOwn.never rfl (pi_range1 rfl T.n_range (pa_cons pe_int pa_nil)) (pg_name (i := 4) scLaw.nd rfl (by first | exact Or.inl rfl | exact Or.inr rfl))
          (pss_one (ps_expr (pe_bm PySem.F.plainAttrs_list PySem.F.slot_list_append PySem.F.type_list_append mt_append (pv 3) (pa_cons (pe_cal C_law_beside (hr.mono (by first | decide | omega)) (pa_cons (pv 2) (pa_cons (pe_ix (ixL K) (pv 3) (pe_cal C_law_draw (hr.mono (by first | decide | omega)) (pa_cons (pv 2) (pa_cons (pe_callB (lenQ K) rfl T.n_len (by decide +kernel) (pa_cons (pv 3) pa_nil)) pa_nil))) (fun _ _ => rfl)) pa_nil))) pa_nil)))))
        (pss_one (ps_for PassesOwn.never rfl (pi_list (pv 3)) (pg_name (i := 5) scLaw.nd rfl (by first | exact Or.inl rfl | exact Or.inr rfl))
          (pss_one (ps_for PassesOwn.never rfl (pi_list (pv 3)) (pg_name (i := 6) scLaw.nd rfl (by first | exact Or.inl rfl | exact Or.inr rfl))
              (pss_cons (ps_set (i := 7) scLaw.nd rfl (by first | exact Or.inl rfl | exact Or.inr rfl) (pe_lst (pa_cons (pe_cal Cis_stem (hr.mono (by first | decide | omega)) (pa_cons (pv 5) (pa_cons (pv 6) pa_nil))) (pa_cons (pe_cal Cmeet (hr.mono (by first | decide | omega)) (pa_cons (pv 5) (pa_cons (pv 6) pa_nil))) pa_nil))))
                (pss_cons (ps_if (pt_cmpR (neD K hr.units) (pe_lc (own := [("answer", 8)]) (g := gName 8) (tt := _) rfl scLaw.nd (pi_list (pv 7)) (blkOk_by (own := [("answer", 8)]) (N := ["script", "k", "bag", "some", "turn", "one", "other", "found", "answer"]) (sc := defScope sLaw) (by decide +kernel)) (fun _ _ _ _ _ => (pg_name (i := 8) scLaw.nd rfl (by first | exact Or.inl rfl | exact Or.inr rfl))) (fun _ _ _ _ _ => (pts_one (pt_not (pt_val (pe_callB (isI K) rfl T.n_isinstance (by decide +kernel) (pa_cons (pv 8) (pa_cons (pe_bltn (v := .ty "bool") rfl T.n_bool (by decide +kernel) rfl) pa_nil))))))) (fun _ _ _ _ _ => (pv 8))) (pe_lst pa_nil) (nomark _)) (pss_one (ps_ret pe_bl)) pss_nil)
                (pss_one (ps_if (pt_cmpR (neD K hr.units) (pv 7) (pe_lst (pa_cons (pe_cal C_law_stem (hr.mono (by first | decide | omega)) (pa_cons (pv 5) (pa_cons (pv 6) pa_nil))) (pa_cons (pe_or (pe_cal C_law_stem (hr.mono (by first | decide | omega)) (pa_cons (pv 5) (pa_cons (pv 6) pa_nil))) (pe_one (pe_cal C_law_stem (hr.mono (by first | decide | omega)) (pa_cons (pv 6) (pa_cons (pv 5) pa_nil))))) pa_nil))) (nomark _)) (pss_one (ps_ret pe_bl)) pss_nil))))))))))))
    (pss_one (ps_ret pe_bl))), ?_⟩
  have hlm : (ns.map V.int).length = ns.length := List.length_map _
  -- for k in range(max(1, min(16, len(script))))
  refine for_rng (i := 1) (n := (max 1 (min 16 ns.length))) (fun _ σ H' => Sm H H' ∧ ∃ x1 x2 x3 x4 x5 x6 x7 x8, σ = [some (.ref a), x1, x2, x3, x4, x5, x6, x7, x8]) (fun R h => ?_) (by omega) (fun H1 S => ⟨S, _, _, _, _, _, _, _, _, rfl⟩) (fun j σ H1 hj hp => ?_) fun σ H1 hp => q H1
  · refine ⟨_, rfl, a, _, rfl, .inl hS, 16, _, rfl, 1, _, rfl, ?_⟩
    have e : (if (if ((ns.map V.int).length : Int) < 16 then ((ns.map V.int).length : Int) else 16) > 1 then (if ((ns.map V.int).length : Int) < 16 then ((ns.map V.int).length : Int) else 16) else (1 : Int)) = ((max 1 (min 16 ns.length) : Nat) : Int) := by
      rw [hlm]
      split <;> split at * <;> omega
    rw [e]
    exact h H (Sm.refl H)
  obtain ⟨S1, x1, x2, x3, x4, x5, x6, x7, x8, rfl⟩ := hp
  have hj16 : j ≤ 16 := by omega
  have z : ((0 : Int) + (j : Int)) = (j : Int) := by omega
  rw [z]
  -- bag
  refine ⟨_, rfl, _, rfl, a, ns, j, rfl, Sm.seq S1 hS, fun c => ⟨_, rfl, c, j, rfl, by omega, fun b H2 hb S2 B => ?_⟩⟩
  have hb0 : H b = none := S1.free hb
  have S02 := S1.trans S2
  -- some
  refine ⟨_, rfl, b, 0, rfl, B, by unfold LIM; omega, fun p1 n1 k1 H3 O1 R1 G3 => ?_⟩
  have B3 := G3.bag _ B
  refine ⟨(by show 1 ≤ sizeLine; decide), fun S hSn => ?_⟩
  have neS : S ≠ b := B3.ne hSn
  have S03 : Sm H H3 := Sm.go S02 G3 hb0
  have hS0 : H S = none := S03.free hSn
  -- for turn in range(4)
  dsimp only [gName, tSeq, tAsg, tRet, tDrop, tNext]
  refine for_rng (i := 4) (n := 4) (fun i σ H' => Sm H H' ∧ Bag H' b (10000 + 20000 * i) ∧ (∃ rs : List (Addr × Str × List Str), rs.length = i + 1 ∧ Rs K H' S rs) ∧ ∃ x4 x5 x6 x7 x8, σ = [some (.ref a), some (.int (j : Int)), some (.ref b), some (.ref S), x4, x5, x6, x7, x8])
    (fun R h => ?_) (by decide) (fun H4 S4 => ⟨(Sm.own S03 hS0 (fun qs z => by rw [hSn] at z; cases z)).trans S4, ?_, ⟨[(p1, n1, k1)], rfl, S4 _ _ upd_same, fun r hr => ?_⟩, _, _, _, _, _, rfl⟩) (fun i σ H4 hi hp => ?_) fun σ H4 hp => ?_
  · exact h _ (Sm.refl _)
  · exact ((Go.same S4).bag _ (B3.upd neS)).mono (by omega)
  · rw [List.mem_singleton.mp hr]
    exact ⟨(RefAt.same (R1.same (Sm.new hSn)) S4), O1⟩
  · -- some.append(..)
    obtain ⟨S5, B5, ⟨rs, hl, RS⟩, y4, y5, y6, y7, y8, rfl⟩ := hp
    have hll : (rs.map fun r => V.ref r.1).length = i + 1 := by rw [List.length_map, hl]
    refine ⟨_, rfl, .inl ⟨rfl, _, .inl (.inl RS.here)⟩, _, rfl, _, rfl, _, rfl, _, rfl, S, _, rfl, .inl (SqL.of RS.here), b, _, _, rfl, B5, by unfold LIM; omega, by omega, by omega, fun r H6 r0 r1 G6 => ?_⟩
    obtain ⟨k, rfl⟩ : ∃ k : Nat, r = (k : Int) := ⟨r.toNat, by omega⟩
    have hk : k < rs.length := by omega
    have hg : (rs.map fun r => V.ref r.1)[k]? = some (.ref rs[k].1) := by
      rw [List.getElem?_map, List.getElem?_eq_getElem hk]
      rfl
    have he := RS.each rs[k] (List.getElem_mem hk)
    have h6 := G6.keep S _ neS RS.here
    have B6 := G6.bag _ B5
    refine ⟨S, _, (k : Int), _, rfl, rfl, SqL.of h6, atI_nat hg, b, rs[k].1, rs[k].2.1, rs[k].2.2, _, rfl, he.1.go G6 B5, he.2, B6, by unfold LIM; omega, fun p' n' k' H7 O7 R7 G7 => ?_⟩
    have h7 := G7.keep S _ neS h6
    refine ⟨S, _, _, rfl, rfl, h7, small' (by omega), ?_⟩
    refine ⟨Sm.own (Sm.go (Sm.go S5 G6 hb0) G7 hb0) hS0 (no_tbl h7), (((G7.bag _ B6).upd neS).mono (by omega)), ⟨rs ++ [(p', n', k')], by rw [List.length_append, hl]; rfl, ?_, fun r hr => ?_⟩, _, _, _, _, _, rfl⟩
    · rw [List.map_append]
      exact upd_same
    · rcases List.mem_append.mp hr with hr | hr
      · have q := RS.each r hr
        exact ⟨((q.1.go G6 B5).go G7 B6).upd h7, q.2⟩
      · rw [List.mem_singleton.mp hr]
        exact ⟨R7.upd h7, O7⟩
  -- for one in some
  obtain ⟨S5, _, ⟨rs, hl, RS⟩, y4, y5, y6, y7, y8, rfl⟩ := hp
  have hgo : ∀ (H9 : Hp), Sm H4 H9 → Rs K H9 S rs := fun H9 S9 => ⟨S9 _ _ RS.here, fun r hr => ⟨(RS.each r hr).1.same S9, (RS.each r hr).2⟩⟩
  dsimp only [gName, tSeq, tAsg, tRet, tDrop, tNext]
  refine for_in (i := 5) (S := S) (xs := rs.map fun r => V.ref r.1) (fun _ σ H' => Sm H4 H' ∧ ∃ x4 x5 x6 x7 x8, σ = [some (.ref a), some (.int (j : Int)), some (.ref b), some (.ref S), x4, x5, x6, x7, x8]) rfl (SqL.of RS.here) ⟨Sm.refl _, _, _, _, _, _, rfl⟩
    (fun _ σ H' _ h => SqL.of (h.1 _ _ RS.here)) (fun n x σ H8 hx hp => ?_) fun σ H8 hp => ⟨S5.trans hp.1, by obtain ⟨_, w4, w5, w6, w7, w8, rfl⟩ := hp; exact ⟨_, _, _, _, _, _, _, _, rfl⟩⟩
  obtain ⟨S8, w4, w5, w6, w7, w8, rfl⟩ := hp
  obtain ⟨r1, hr1, rfl⟩ := List.mem_map.mp (List.mem_of_getElem? hx)
  have ve := (RS.each r1 hr1).2
  -- for other in some
  dsimp only [gName, tSeq, tAsg, tRet, tDrop, tNext]
  refine for_in (i := 6) (S := S) (xs := rs.map fun r => V.ref r.1) (fun _ σ H' => Sm H4 H' ∧ ∃ x4 x6 x7 x8, σ = [some (.ref a), some (.int (j : Int)), some (.ref b), some (.ref S), x4, some (.ref r1.1), x6, x7, x8]) rfl (SqL.of (S8 _ _ RS.here)) ⟨S8, _, _, _, _, rfl⟩
    (fun _ σ H' _ h => SqL.of (h.1 _ _ RS.here)) (fun n2 x2 σ H9 hx2 hp => ?_) fun σ H9 hp => ⟨hp.1, by obtain ⟨_, w4, w6, w7, w8, rfl⟩ := hp; exact ⟨_, _, _, _, _, rfl⟩⟩
  obtain ⟨S9, w4, w6, w7, w8, rfl⟩ := hp
  obtain ⟨r2, hr2, rfl⟩ := List.mem_map.mp (List.mem_of_getElem? hx2)
  have vo := (RS.each r2 hr2).2
  have rf : ∀ {Ha : Hp}, Sm H4 Ha → ∀ r ∈ rs, RefAt K Ha r.1 r.2.1 r.2.2 := fun Sa r hr => (RS.each r hr).1.same Sa
  -- found
  refine ⟨_, rfl, _, rfl, _, _, _, _, _, _, rfl, rf S9 r1 hr1, rf S9 r2 hr2, ve, vo, fun Ha Sa => ?_⟩
  refine ⟨_, rfl, _, rfl, _, _, _, _, _, _, rfl, rf (S9.trans Sa) r1 hr1, rf (S9.trans Sa) r2 hr2, ve, vo, fun Hb Sb => ?_⟩
  refine ⟨(by show 2 ≤ sizeLine; decide), fun Fd hF => ?_⟩
  have SF : Sm H4 (upd Hb Fd (.lst [.bl (stemB r1.2.1 r1.2.2 r2.2.1 r2.2.2), .bl (meetB r1.2.1 r1.2.2 r2.2.1 r2.2.2)])) := ((S9.trans Sa).trans Sb).trans (Sm.new hF)
  -- truths all
  dsimp only [gName, tSeq, tAsg, tRet, tDrop, tNext, tOp, tIfS, tTest]
  refine lc_empty (i := 8) (S := Fd) (by rfl) (SqL.of upd_same) (fun x Hc hx Sc R h => ?_) fun D Hc Sc hD => ?_
  · rcases List.mem_cons.mp hx with rfl | hx
    · exact ⟨_, rfl, _, _, .type "bool", .type "bool", true, rfl, ClsV.ty "bool", .base (.bl _), kit_ty (by decide +kernel), _, rfl, h Hc (Sm.refl _)⟩
    · rw [List.mem_singleton.mp hx]
      exact ⟨_, rfl, _, _, .type "bool", .type "bool", true, rfl, ClsV.ty "bool", .base (.bl _), kit_ty (by decide +kernel), _, rfl, h Hc (Sm.refl _)⟩
  refine ⟨Nat.zero_le _, fun D2 hD2 => ?_⟩
  refine ⟨.list [], .list [], .lst (SqL.of (Sm.new hD2 _ _ hD)) .nil, .lst (SqL.of upd_same) .nil, rfl, rfl, _, rfl, ?_⟩
  refine iteF ?_
  have Sd : Sm H4 (upd Hc D2 (.lst [])) := (SF.trans Sc).trans (Sm.new hD2)
  -- as the law's own look has it
  have hFd : (upd Hc D2 (.lst [])) Fd = some (.lst [.bl (stemB r1.2.1 r1.2.2 r2.2.1 r2.2.2), .bl (meetB r1.2.1 r1.2.2 r2.2.1 r2.2.2)]) := Sm.new hD2 _ _ (Sc _ _ upd_same)
  have fin : ∀ (He : Hp) (v w : Bool) (A B : Hp → Prop), v = stemB r1.2.1 r1.2.2 r2.2.1 r2.2.2 → w = meetB r1.2.1 r1.2.2 r2.2.1 r2.2.2 → Sm (upd Hc D2 (.lst [])) He → (∀ Hf, Sm H4 Hf → B Hf) →
      (([V.bl v, V.bl w] : List V).length ≤ sizeLine ∧ ∀ p, He p = none → rNeD K (.ref Fd) (.ref p) (upd He p (.lst [.bl v, .bl w])) fun x H' => ∃ k, x = .bl k ∧ if k = true then A H' else B H') := fun He v w A B ev ew Se hq => by
    subst ev ew
    refine ⟨(by show 2 ≤ sizeLine; decide), fun p hp => ?_⟩
    refine ⟨.list [.bool _, .bool _], .list [.bool _, .bool _], .lst (SqL.of (Sm.new hp _ _ (Se _ _ hFd))) (.cons (.bl _) (.cons (.bl _) .nil)), .lst (SqL.of upd_same) (.cons (.bl _) (.cons (.bl _) .nil)), rfl, rfl, _, rfl, ?_⟩
    rw [eqv_bools2]
    exact iteF (hq _ ((Sd.trans Se).trans (Sm.new hp)))
  refine ⟨_, rfl, _, rfl, _, rfl, _, _, _, _, _, _, rfl, rf Sd r1 hr1, rf Sd r2 hr2, ve, vo, fun He Se => ?_⟩
  refine ⟨_, rfl, _, rfl, _, _, _, _, _, _, rfl, rf (Sd.trans Se) r1 hr1, rf (Sd.trans Se) r2 hr2, ve, vo, fun Hf Sf => ⟨_, rfl, ?_⟩⟩
  refine ite2 (fun c => ?_) (fun c => ?_)
  · refine fin Hf _ true _ _ rfl ?_ (Se.trans Sf) fun Hg Sg => ⟨Sg, _, _, _, _, rfl⟩
    unfold meetB
    rw [c]
    rfl
  · refine ⟨_, rfl, _, rfl, _, _, _, _, _, _, rfl, rf ((Sd.trans Se).trans Sf) r2 hr2, rf ((Sd.trans Se).trans Sf) r1 hr1, vo, ve, fun Hg Sg => ?_⟩
    refine fin Hg _ _ _ _ rfl ?_ ((Se.trans Sf).trans Sg) fun Hh Sh => ⟨Sh, _, _, _, _, rfl⟩
    unfold meetB
    rw [Bool.eq_false_iff.mpr c]
    rfl
end
set_option maxHeartbeats 0 in
theorem all_mk {l : PySem.W.OpenLaw} {q : Program} {w : World} {K : PySem.W.Frag} {h : Heap} {mg : Str → Option Value} {fa f1 f2 f3 f4 f5 f6 f7 f8 f9 f10 f11 f12 f13 : Addr} (X : K.In h) (G : h.Ns mainGlobals mg) (hfa : mg "law" = some (.ref fa)) (OT : OwnTabs q K mg h)
    {od1 od2 od3 od4 od5 od6 od7 od8 od9 od10 od11 od12 od13 an1 an2 an3 an4 an5 an6 an7 an8 an9 an10 an11 an12 an13 : Option Addr} {sl1 sl2 sl3 sl4 sl5 sl6 sl7 sl8 sl9 sl10 sl11 sl12 sl13 : Array (Option Value)} {oc1 oc2 oc3 oc4 oc5 oc6 oc7 oc8 oc9 oc10 oc11 oc12 oc13 kV1 kV2 kV3 kV4 kV5 kV6 kV7 kV8 kV9 kV10 kV11 kV12 kV13 dc1 dc2 dc3 dc4 dc5 dc6 dc7 dc8 dc9 dc10 dc11 dc12 dc13 pm1 pm2 pm3 pm4 pm5 pm6 pm7 pm8 pm9 pm10 pm11 pm12 pm13 ct1 ct2 ct3 ct4 ct5 ct6 ct7 ct8 ct9 ct10 ct11 ct12 ct13 : Value}
    {cd1 cd2 cd3 cd4 cd5 cd6 cd7 cd8 cd9 cd10 cd11 cd12 cd13 : Value}
    (a1 : PySem.W.nsIn K mainGlobals "is_stem" = some (some (.ref f1)))
    (l1 : K.lookup f1 = some ⟨oc1, od1, .func (PySem.W.fnOf "is_stem" "is_stem" (defArgs sIsStem) (defBody sIsStem) (defScope sIsStem) .none kV1 dc1 pm1 an1 cd1 ct1), sl1⟩) (e1 : PySem.W.codeIn K cd1 "is_stem" = true) (k1 : PySem.W.keepIn K (.ref f1) = true)
    (a2 : PySem.W.nsIn K mainGlobals "meet" = some (some (.ref f2)))
    (l2 : K.lookup f2 = some ⟨oc2, od2, .func (PySem.W.fnOf "meet" "meet" (defArgs sMeet) (defBody sMeet) (defScope sMeet) .none kV2 dc2 pm2 an2 cd2 ct2), sl2⟩) (e2 : PySem.W.codeIn K cd2 "meet" = true) (k2 : PySem.W.keepIn K (.ref f2) = true)
    (a3 : PySem.W.nsIn K mainGlobals "_law_cell_at" = some (some (.ref f3)))
    (l3 : K.lookup f3 = some ⟨oc3, od3, .func (PySem.W.fnOf "_law_cell_at" "_law_cell_at" (defArgs sLawCellAt) (defBody sLawCellAt) (defScope sLawCellAt) .none kV3 dc3 pm3 an3 cd3 ct3), sl3⟩) (e3 : PySem.W.codeIn K cd3 "_law_cell_at" = true) (k3 : PySem.W.keepIn K (.ref f3) = true)
    (a4 : PySem.W.nsIn K mainGlobals "_law_bag" = some (some (.ref f4)))
    (l4 : K.lookup f4 = some ⟨oc4, od4, .func (PySem.W.fnOf "_law_bag" "_law_bag" (defArgs sLawBag) (defBody sLawBag) (defScope sLawBag) .none kV4 dc4 pm4 an4 cd4 ct4), sl4⟩) (e4 : PySem.W.codeIn K cd4 "_law_bag" = true) (k4 : PySem.W.keepIn K (.ref f4) = true)
    (a5 : PySem.W.nsIn K mainGlobals "_law_draw" = some (some (.ref f5)))
    (l5 : K.lookup f5 = some ⟨oc5, od5, .func (PySem.W.fnOf "_law_draw" "_law_draw" (defArgs sLawDraw) (defBody sLawDraw) (defScope sLawDraw) .none kV5 dc5 pm5 an5 cd5 ct5), sl5⟩) (e5 : PySem.W.codeIn K cd5 "_law_draw" = true) (k5 : PySem.W.keepIn K (.ref f5) = true)
    (a6 : PySem.W.nsIn K mainGlobals "_law_signs" = some (some (.ref f6)))
    (l6 : K.lookup f6 = some ⟨oc6, od6, .func (PySem.W.fnOf "_law_signs" "_law_signs" (defArgs sLawSigns) (defBody sLawSigns) (defScope sLawSigns) .none kV6 dc6 pm6 an6 cd6 ct6), sl6⟩) (e6 : PySem.W.codeIn K cd6 "_law_signs" = true) (k6 : PySem.W.keepIn K (.ref f6) = true)
    (a7 : PySem.W.nsIn K mainGlobals "_law_text" = some (some (.ref f7)))
    (l7 : K.lookup f7 = some ⟨oc7, od7, .func (PySem.W.fnOf "_law_text" "_law_text" (defArgs sLawText) (defBody sLawText) (defScope sLawText) .none kV7 dc7 pm7 an7 cd7 ct7), sl7⟩) (e7 : PySem.W.codeIn K cd7 "_law_text" = true) (k7 : PySem.W.keepIn K (.ref f7) = true)
    (a8 : PySem.W.nsIn K mainGlobals "_law_name" = some (some (.ref f8)))
    (l8 : K.lookup f8 = some ⟨oc8, od8, .func (PySem.W.fnOf "_law_name" "_law_name" (defArgs sLawName) (defBody sLawName) (defScope sLawName) .none kV8 dc8 pm8 an8 cd8 ct8), sl8⟩) (e8 : PySem.W.codeIn K cd8 "_law_name" = true) (k8 : PySem.W.keepIn K (.ref f8) = true)
    (a9 : PySem.W.nsIn K mainGlobals "_law_key" = some (some (.ref f9)))
    (l9 : K.lookup f9 = some ⟨oc9, od9, .func (PySem.W.fnOf "_law_key" "_law_key" (defArgs sLawKey) (defBody sLawKey) (defScope sLawKey) .none kV9 dc9 pm9 an9 cd9 ct9), sl9⟩) (e9 : PySem.W.codeIn K cd9 "_law_key" = true) (k9 : PySem.W.keepIn K (.ref f9) = true)
    (a10 : PySem.W.nsIn K mainGlobals "_law_ref" = some (some (.ref f10)))
    (l10 : K.lookup f10 = some ⟨oc10, od10, .func (PySem.W.fnOf "_law_ref" "_law_ref" (defArgs sLawRef) (defBody sLawRef) (defScope sLawRef) .none kV10 dc10 pm10 an10 cd10 ct10), sl10⟩) (e10 : PySem.W.codeIn K cd10 "_law_ref" = true) (k10 : PySem.W.keepIn K (.ref f10) = true)
    (a11 : PySem.W.nsIn K mainGlobals "_law_stem" = some (some (.ref f11)))
    (l11 : K.lookup f11 = some ⟨oc11, od11, .func (PySem.W.fnOf "_law_stem" "_law_stem" (defArgs sLawStem) (defBody sLawStem) (defScope sLawStem) .none kV11 dc11 pm11 an11 cd11 ct11), sl11⟩) (e11 : PySem.W.codeIn K cd11 "_law_stem" = true) (k11 : PySem.W.keepIn K (.ref f11) = true)
    (a12 : PySem.W.nsIn K mainGlobals "_law_beside" = some (some (.ref f12)))
    (l12 : K.lookup f12 = some ⟨oc12, od12, .func (PySem.W.fnOf "_law_beside" "_law_beside" (defArgs sLawBeside) (defBody sLawBeside) (defScope sLawBeside) .none kV12 dc12 pm12 an12 cd12 ct12), sl12⟩) (e12 : PySem.W.codeIn K cd12 "_law_beside" = true) (k12 : PySem.W.keepIn K (.ref f12) = true)
    (a13 : PySem.W.nsIn K mainGlobals "law" = some (some (.ref f13)))
    (l13 : K.lookup f13 = some ⟨oc13, od13, .func (PySem.W.fnOf "law" "law" (defArgs sLaw) (defBody sLaw) (defScope sLaw) .none kV13 dc13 pm13 an13 cd13 ct13), sl13⟩) (e13 : PySem.W.codeIn K cd13 "law" = true) (k13 : PySem.W.keepIn K (.ref f13) = true)
    (z1 : PySem.W.nsIn K mainGlobals "range" = some none) (z2 : PySem.W.nsIn K mainGlobals "len" = some none) (z3 : PySem.W.nsIn K mainGlobals "max" = some none) (z4 : PySem.W.nsIn K mainGlobals "tuple" = some none) (z5 : PySem.W.nsIn K mainGlobals "str" = some none) (z6 : PySem.W.nsIn K mainGlobals "min" = some none) (z7 : PySem.W.nsIn K mainGlobals "isinstance" = some none) (z8 : PySem.W.nsIn K mainGlobals "bool" = some none)
    : LamX.LawAtS l w K CX0 7 63 "script" mg fa h := by
  have e := hfa.symm.trans (PySem.W.mg_of X G a13)
  cases e
  let cs : Tabs := ⟨()⟩
  have F1 := fun_mk (st := sIsStem) l1 e1 k1
  have b1 := F1.binds (ps := ["one", "other"]) fun _ _ _ _ _ _ us hl => match us, hl with | [_, _], _ => rfl
  have F2 := fun_mk (st := sMeet) l2 e2 k2
  have b2 := F2.binds (ps := ["one", "other"]) fun _ _ _ _ _ _ us hl => match us, hl with | [_, _], _ => rfl
  have F3 := fun_mk (st := sLawCellAt) l3 e3 k3
  have b3 := F3.binds (ps := ["script", "k"]) fun _ _ _ _ _ _ us hl => match us, hl with | [_, _], _ => rfl
  have F4 := fun_mk (st := sLawBag) l4 e4 k4
  have b4 := F4.binds (ps := ["cell", "nth"]) fun _ _ _ _ _ _ us hl => match us, hl with | [_, _], _ => rfl
  have F5 := fun_mk (st := sLawDraw) l5 e5 k5
  have b5 := F5.binds (ps := ["bag", "many"]) fun _ _ _ _ _ _ us hl => match us, hl with | [_, _], _ => rfl
  have F6 := fun_mk (st := sLawSigns) l6 e6 k6
  have b6 := F6.binds (ps := []) fun _ _ _ _ _ _ us hl => match us, hl with | [], _ => rfl
  have F7 := fun_mk (st := sLawText) l7 e7 k7
  have b7 := F7.binds (ps := ["bag", "most"]) fun _ _ _ _ _ _ us hl => match us, hl with | [_, _], _ => rfl
  have F8 := fun_mk (st := sLawName) l8 e8 k8
  have b8 := F8.binds (ps := ["bag"]) fun _ _ _ _ _ _ us hl => match us, hl with | [_], _ => rfl
  have F9 := fun_mk (st := sLawKey) l9 e9 k9
  have b9 := F9.binds (ps := ["bag"]) fun _ _ _ _ _ _ us hl => match us, hl with | [_], _ => rfl
  have F10 := fun_mk (st := sLawRef) l10 e10 k10
  have b10 := F10.binds (ps := ["bag"]) fun _ _ _ _ _ _ us hl => match us, hl with | [_], _ => rfl
  have F11 := fun_mk (st := sLawStem) l11 e11 k11
  have b11 := F11.binds (ps := ["one", "other"]) fun _ _ _ _ _ _ us hl => match us, hl with | [_, _], _ => rfl
  have F12 := fun_mk (st := sLawBeside) l12 e12 k12
  have b12 := F12.binds (ps := ["bag", "ref"]) fun _ _ _ _ _ _ us hl => match us, hl with | [_, _], _ => rfl
  have F13 := fun_mk (st := sLaw) l13 e13 k13
  have b13 := F13.binds (ps := ["script"]) fun _ _ _ _ _ _ us hl => match us, hl with | [_], _ => rfl
  have T : Txt K mg cs := ⟨⟨_, _, F1, PySem.W.mg_of X G a1, b1⟩, ⟨_, _, F2, PySem.W.mg_of X G a2, b2⟩, ⟨_, _, F3, PySem.W.mg_of X G a3, b3⟩, ⟨_, _, F4, PySem.W.mg_of X G a4, b4⟩, ⟨_, _, F5, PySem.W.mg_of X G a5, b5⟩, ⟨_, _, F6, PySem.W.mg_of X G a6, b6⟩, ⟨_, _, F7, PySem.W.mg_of X G a7, b7⟩, ⟨_, _, F8, PySem.W.mg_of X G a8, b8⟩, ⟨_, _, F9, PySem.W.mg_of X G a9, b9⟩, ⟨_, _, F10, PySem.W.mg_of X G a10, b10⟩, ⟨_, _, F11, PySem.W.mg_of X G a11, b11⟩, ⟨_, _, F12, PySem.W.mg_of X G a12, b12⟩, ⟨_, _, F13, PySem.W.mg_of X G a13, b13⟩, PySem.W.mg_none_of X G z1, PySem.W.mg_none_of X G z2, PySem.W.mg_none_of X G z3, PySem.W.mg_none_of X G z4, PySem.W.mg_none_of X G z5, PySem.W.mg_none_of X G z6, PySem.W.mg_none_of X G z7, PySem.W.mg_none_of X G z8⟩
  refine ⟨PySem.W.fnOf "law" "law" (defArgs sLaw) (defBody sLaw) (defScope sLaw) .none kV13 dc13 pm13 an13 cd13 ct13, [], spLaw K cs, ?_, ?_, ?_, fun s v => .of_eq rfl, fun H a ns hl hb hT hS => ⟨a, ns, rfl, hS, hl, ?_, fun _ => rfl⟩, fun base _ _ hB => ?_⟩
  · exact fun p hp => absurd hp (by simp)
  · exact fun p hp => absurd hp (by simp)
  · exact fun p hp => absurd hp (by simp)
  · exact ⟨trivial⟩
  · exact ok_law T ⟨trivial⟩ F13
theorem walk {l : PySem.W.OpenLaw} {q : Program} {loose : List Str} {XP : (Str → Option Value) → Heap → Prop} {YP : World → Heap → Prop} {d : DefRec} {K : Params → PySem.W.Frag} (hn : l.most = some 63) (hdf : d.params.defaults = [])
    (hY : ∀ (w : World) (h : Heap), YP w h → (K w.params).In h)
    (F : ∀ (w : World) (mg : Str → Option Value) (fa : Addr) (h : Heap), (K w.params).In h → h.Ns mainGlobals mg → mg d.name = some (.ref fa) → OwnTabs q (K w.params) mg h → LamX.LawAtS l w (K w.params) CX0 7 63 "script" mg fa h) :
    PySem.W.WalkO q loose XP YP l.row.toRowW d [] (fun f vs => PySem.call f vs) :=
  walk_ofAll (n := 63) (k := 7) (x := "script") (CX := fun _ => CX0) hn (by decide) hdf ⟨rfl, by decide, by decide⟩ hY (fun w mg fa h _ KX G hm OT => F w mg fa h KX G hm OT) fun _ _ _ _ _ z => z
end My
open PySem PySem.W PyProof.Rows
set_option maxRecDepth 100000 in
set_option maxHeartbeats 0 in
theorem PySem.Challenge.cw_stemkeep_k04_stems_holds : PySem.Challenge.rw_stemkeep_k04_stems.Holds := by
  w_on; o_law; k_head; (case hw => w_witness2)
  k_fill
  refine My.walk (l := PySem.Challenge.rw_stemkeep_k04_stems) rfl rfl (fun w h Y => PySem.W.kIn_of Y) ?F
  case F =>
    intro w mg fa h KX G hmg OT
    refine' My.all_mk KX G hmg OT ?a1 ?l1 ?e1 ?k1 ?a2 ?l2 ?e2 ?k2 ?a3 ?l3 ?e3 ?k3 ?a4 ?l4 ?e4 ?k4 ?a5 ?l5 ?e5 ?k5 ?a6 ?l6 ?e6 ?k6 ?a7 ?l7 ?e7 ?k7 ?a8 ?l8 ?e8 ?k8 ?a9 ?l9 ?e9 ?k9 ?a10 ?l10 ?e10 ?k10 ?a11 ?l11 ?e11 ?k11 ?a12 ?l12 ?e12 ?k12 ?a13 ?l13 ?e13 ?k13 ?z1 ?z2 ?z3 ?z4 ?z5 ?z6 ?z7 ?z8
    (case a1 => k_is)
    (case l1 => k_is)
    (case e1 => k_is)
    (case k1 => k_is)
    (case a2 => k_is)
    (case l2 => k_is)
    (case e2 => k_is)
    (case k2 => k_is)
    (case a3 => k_is)
    (case l3 => k_is)
    (case e3 => k_is)
    (case k3 => k_is)
    (case a4 => k_is)
    (case l4 => k_is)
    (case e4 => k_is)
    (case k4 => k_is)
    (case a5 => k_is)
    (case l5 => k_is)
    (case e5 => k_is)
    (case k5 => k_is)
    (case a6 => k_is)
    (case l6 => k_is)
    (case e6 => k_is)
    (case k6 => k_is)
    (case a7 => k_is)
    (case l7 => k_is)
    (case e7 => k_is)
    (case k7 => k_is)
    (case a8 => k_is)
    (case l8 => k_is)
    (case e8 => k_is)
    (case k8 => k_is)
    (case a9 => k_is)
    (case l9 => k_is)
    (case e9 => k_is)
    (case k9 => k_is)
    (case a10 => k_is)
    (case l10 => k_is)
    (case e10 => k_is)
    (case k10 => k_is)
    (case a11 => k_is)
    (case l11 => k_is)
    (case e11 => k_is)
    (case k11 => k_is)
    (case a12 => k_is)
    (case l12 => k_is)
    (case e12 => k_is)
    (case k12 => k_is)
    (case a13 => k_is)
    (case l13 => k_is)
    (case e13 => k_is)
    (case k13 => k_is)
    (case z1 => k_is)
    (case z2 => k_is)
    (case z3 => k_is)
    (case z4 => k_is)
    (case z5 => k_is)
    (case z6 => k_is)
    (case z7 => k_is)
    (case z8 => k_is)
#print axioms PySem.Challenge.cw_stemkeep_k04_stems_holds
