import PyProof.Rows.All
import Wide.All
import OpenK.AllK
import Wide.FinOn
import HandS.ForMost
import HandS.Wide
import HandS.TupAny
import HandS.EndBits
import HandS.IsInst
import HandS.AnyAll
import HandS.EndTab
import HandS.Style
import HandS.StrMore
import HandS.WideBits
import HandS.Codes
import HandS.GenOver
import HandS.GenList
import HandS.EndOwn
import HandS.TupMul
import HandS.TupLe
import PySem.Challenge.RW_stemkeep_k01_worths_keys_references
set_option Elab.async false
set_option linter.all false
set_option maxRecDepth 100000
namespace My
/-! ### what every law of these keys leans on: defs by name, powers, the bag, heaps that grow -/
open PySem PySem.Spec L2 TL
/-- a def of the text as its top leaves it -/
structure Ftx (K : PySem.W.Frag) (mg : Str → Option Value) (x : Str) (st : Stmt) (ps : List Str) : Prop where
  ex : ∃ (f : Addr) (fd : FuncData), Fun K x x st f fd ∧ mg x = some (.ref f) ∧ Binds K fd ps []
/-- a def that keeps a promise, called by its name -/
structure Cal (P : Program) (w : World) (K : PySem.W.Frag) (mg : Str → Option Value) (base : Heap) (k : Nat) (x : Str) (ps : List Str) (sp : Sp) : Prop where
  ex : ∃ (f : Addr) (fd : FuncData), FnOk P w K mg base CX0 k f fd ps sp ∧ PySem.W.keepIn K (.ref f) = true ∧ mg x = some (.ref f) ∧ Binds K fd ps [] ∧ ∃ (oc : Value) (od : Option Addr) (osl : Array (Option Value)), K.lookup f = some ⟨oc, od, .func fd, osl⟩
section
variable {P : Program} {w : World} {K : PySem.W.Frag} {mg : Str → Option Value} {base : Heap}
theorem Ftx.cal {x : Str} {st : Stmt} {N ps : List Str} {sp : Sp} {k : Nat} (F : Ftx K mg x st ps) (S : FnScope N ps (defScope st)) (len : ∀ vs H Q E, sp vs H Q E → vs.length = ps.length)
    (h : ∀ (f : Addr) (cdv : Value) (A : Around) (outer : List Env) (s : Shared) (H : Hp) (vs : List V) (Q : VK) (E : XK), Room k (A.deeper (PyProof.Rows.envOfC x (defScope st) s.heap.objs.size f cdv)) → sp vs H Q E →
      ∃ t, PSs (cxOf CX0 P w K mg base N x (defScope st) f cdv A outer s H E).nox (defBody st) t ∧ t { nx := fun _ H' => Q .non H', rt := Q } (start N vs) H) : Cal P w K mg base (k + 1) x ps sp := by
  obtain ⟨f, fd, F1, g, b⟩ := F.ex
  have F2 := F1.ok S len (h f)
  obtain ⟨oc, od, kV, doc, pm, an, cdv, ct, osl, e, lk, hcd⟩ := F1.ex
  exact ⟨f, fd, F2, F1.kp, g, b, oc, od, osl, lk⟩
theorem Cal.mono {j k : Nat} {x : Str} {ps : List Str} {sp : Sp} (C : Cal P w K mg base j x ps sp) (h : j ≤ k) : Cal P w K mg base k x ps sp := by
  obtain ⟨f, fd, F, a, b, c⟩ := C.ex
  exact ⟨f, fd, F.mono h, a, b, c⟩
end
section
variable {X : Cx}
theorem pe_cal {k : Nat} {x : Str} {ps : List Str} {sp : Sp} {e : Expr} {es : List Expr} {p pos : Pos} {t : TA} (C : Cal X.prog X.w X.K X.mg X.base k x ps sp) (hr : Room k X.A) (ha : PA X (e :: es) t) (hg : Gl X x := by rfl)
    (hdb : (x == ("__debug__" : Str)) = false := by decide) (he : starEach (e :: es) X.env = (false, eval e X.env) :: starEach es X.env := by rfl) (hpl : (backTo pos (starEach es X.env)).any (·.1) = false := by rfl) :
    PE X (.Call (.Name x p) (e :: es) [] pos) (tCall sp [] E0 t) := by
  obtain ⟨f, fd, F, a, b, c, _⟩ := C.ex
  exact pe_call F hr hg b a c .nil pass0 ha hdb he hpl
theorem pe_cal0 {k : Nat} {x : Str} {ps : List Str} {sp : Sp} {p pos : Pos} (C : Cal X.prog X.w X.K X.mg X.base k x ps sp) (hr : Room k X.A) (hg : Gl X x := by rfl)
    (hdb : (x == ("__debug__" : Str)) = false := by decide) : PE X (.Call (.Name x p) [] [] pos) (tCall sp [] E0 tNil) := by
  obtain ⟨f, fd, F, a, b, c, _⟩ := C.ex
  exact pe_call0 F hr hg b a c .nil pass0 hdb
/-- ** of an exponent up to 64 and a base below 2 ^ 10000 -/
def CPowW (i j : Int) : Prop := 0 ≤ j ∧ j ≤ 64 ∧ i.natAbs.log2 < 10000
theorem op_powW : OpR X (binaryOp .Pow) (rI CPowW fun i j => .int (i ^ j.toNat)) := opI fun i j _ _ _ _ _ hc q => by
  obtain ⟨h1, h2, h3⟩ := hc
  refine PyProof.Rows.pow_int h1 ?_ q
  have b : Builtin.Int.intBits i ≤ i.natAbs.log2 + 1 := by
    unfold Builtin.Int.intBits
    split <;> omega
  have h : (Builtin.Int.intBits i : Int) * j ≤ 10000 * j := Int.mul_le_mul_of_nonneg_right (by omega) h1
  omega
/-- a text some times -/
def rRepS : R2 := fun x y H Q => ∃ z i, x = .str z ∧ y = .int i ∧ PySem.MulOk z i ∧ Q (.str (Txt.mul z i)) H
theorem op_strRep : OpR X (binaryOp .Mult) rRepS := by
  intro pins s σ H x y v u Q I rx ry h
  obtain ⟨z, i, rfl, rfl, ok, q⟩ := h
  obtain ⟨t, rfl⟩ := rx
  obtain ⟨t', rfl⟩ := ry
  exact PySem.SB.mul ok fun t' k => ⟨.str _, H, I.tok _, ⟨t', rfl⟩, q⟩
end
theorem mul_ok {z : Str} {i : Int} (h0 : 0 ≤ i) (h1 : i ≤ 1000) (h2 : z.length ≤ 1000) : PySem.MulOk z i := by
  refine ⟨?_, fun a _ => ?_, fun a _ => ?_⟩
  · rw [decide_eq_false (by omega), decide_eq_false (by omega)]
    rfl
  · intro c
    have : (2 ^ 63 - 1 : Int) / 1000 ≤ (2 ^ 63 - 1) / i := by
      refine Int.le_ediv_of_mul_le (by omega) ?_
      have : (2 ^ 63 - 1 : Int) / 1000 * i ≤ (2 ^ 63 - 1 : Int) / 1000 * 1000 := Int.mul_le_mul_of_nonneg_left h1 (by decide)
      exact Int.le_trans this (by decide)
    have e : (2 ^ 63 - 1 : Int) / 1000 = 9223372036854775 := by decide
    omega
  · have : z.length * i.toNat ≤ 1000 * 1000 := Nat.mul_le_mul h2 (by omega)
    generalize z.length * i.toNat = n at this
    show decide (n > sizeLine) = false
    exact decide_eq_false (Nat.not_lt.mpr (Nat.le_trans this (by decide)))
theorem tl_mul (z : Str) (n : Nat) : tl (Txt.mul z (n : Int)) = (List.replicate n (tl z)).flatten := by
  unfold Txt.mul
  split
  · have : n = 0 := by omega
    subst this
    rfl
  · split
    · rename_i h
      rw [Bool.or_eq_true, beq_iff_eq, beq_iff_eq] at h
      rcases h with h | h
      · have : n = 1 := by omega
        subst this
        simp
      · have e : tl z = [] := (len0_tl z).mp h
        rw [e]
        simp
    · have key : ∀ (l : List (Array Nat)) (a : Array Nat), (l.foldl (· ++ ·) a).toList = a.toList ++ (l.map Array.toList).flatten := by
        intro l
        induction l with
        | nil => intro a; simp
        | cons x r ih => intro a; rw [List.foldl_cons, ih]; simp
      show ((List.replicate n z.cps).foldl (· ++ ·) #[]).toList = _
      rw [key, List.map_replicate]
      rfl
theorem pow_ok {i : Int} {n : Nat} (h : i.natAbs < 2 ^ n) (hn : 0 < n) (h2 : n ≤ 10000) : i.natAbs.log2 < 10000 := Nat.lt_of_lt_of_le (PySem.Flt.log2_lt_of hn h) h2
theorem small {n : Nat} (h : n ≤ 100000) : n ≤ sizeLine := Nat.le_trans h (by decide)
theorem small' {n : Nat} (h : n < 100000) : n < sizeLine := Nat.lt_of_lt_of_le h (by decide)

/-! ### heaps that grow: all stays but the tables of code objects, which grow -/
def notTbl : HO → Bool
  | .tbl _ => false
  | _ => true
class NT (o : HO) : Prop where
  is : notTbl o = true
instance nt1 {xs : List V} : NT (.lst xs) := ⟨rfl⟩
instance nt2 {xs : List V} : NT (.tup xs) := ⟨rfl⟩
instance nt3 {C dx : Addr} {fs : List (Str × V)} : NT (.ins C dx fs) := ⟨rfl⟩
instance nt4 {kvs : List (Key × V)} : NT (.dK kvs) := ⟨rfl⟩
instance nt5 {o : Obj} {u : HO} : NT (.frz o u) := ⟨rfl⟩
instance nt6 {x : Addr} : NT (.own x) := ⟨rfl⟩
instance nt7 {φ : Heap → Prop} : NT (.ext φ) := ⟨rfl⟩
structure Sm (H H' : Hp) : Prop where
  keep0 : ∀ (a : Addr) (o : HO), H a = some o → notTbl o = true → H' a = some o
  tab : ∀ P, GxR.TabG H P → GxR.TabG H' P
  gone : ∀ a, H' a = none → H a = none
theorem Sm.keep {H H' : Hp} (s : Sm H H') (a : Addr) (o : HO) (h : H a = some o) (nt : notTbl o = true := by rfl) : H' a = some o := s.keep0 a o h nt
theorem Sm.fn {H H' : Hp} (s : Sm H H') (a : Addr) (o : HO) [n : NT o] (h : H a = some o) : H' a = some o := s.keep0 a o h n.is
instance smFn {H H' : Hp} : CoeFun (Sm H H') (fun _ => ∀ (a : Addr) (o : HO) [NT o], H a = some o → H' a = some o) := ⟨fun s => @Sm.fn H H' s⟩
theorem Sm.refl (H : Hp) : Sm H H := ⟨fun _ _ h _ => h, fun _ h => h, fun _ h => h⟩
theorem Sm.trans {H H1 H2 : Hp} (a : Sm H H1) (b : Sm H1 H2) : Sm H H2 := ⟨fun c o h n => b.keep c o (a.keep c o h n) n, fun P h => b.tab P (a.tab P h), fun c h => a.gone c (b.gone c h)⟩
theorem Sm.free {H H' : Hp} (e : Sm H H') {l : Addr} (h : H' l = none) : H l = none := e.gone l h
theorem Sm.seq {K : PySem.W.Frag} {H H' : Hp} {a : Addr} {xs : List V} (e : Sm H H') (h : SqL K H a xs) : SqL K H' a xs := by
  rcases h with (h | ⟨o, h⟩) | h
  · exact .inl (.inl (e _ _ h))
  · exact .inl (.inr ⟨o, e _ _ h⟩)
  · exact .inr h
/-- a table stands apart from what is written -/
theorem TabG.upd {H : Hp} {P p : Addr} {o : HO} (h : GxR.TabG H P) (hp : ∀ qs, H p ≠ some (.tbl qs)) : GxR.TabG (upd H p o) P := by
  obtain ⟨ps, h1, h2⟩ := h
  have ne : P ≠ p := fun e => by
    rw [e] at h1
    exact hp ps h1
  exact ⟨ps, by rw [upd_ne ne]; exact h1, h2⟩
theorem Sm.new {H : Hp} {p : Addr} {o : HO} (h : H p = none) : Sm H (upd H p o) := ⟨fun a u e _ => by
  rw [upd_ne (ne_of_none e h)]
  exact e, fun P t => TabG.upd t (fun qs z => by rw [h] at z; cases z), fun a ha => by
  by_cases e : a = p
  · rw [e]
    exact h
  · rw [upd_ne e] at ha
    exact ha⟩
theorem Sm.over {H H' : Hp} {p : Addr} {o : HO} (S : Sm H H') (h : H p = none) (ht : ∀ qs, H' p ≠ some (.tbl qs)) : Sm H (upd H' p o) := by
  refine ⟨fun b u e n => ?_, fun P t => TabG.upd (S.tab P t) ht, fun b e => ?_⟩
  · rw [upd_ne (ne_of_none e h)]
    exact S.keep b u e n
  · by_cases z : b = p
    · rw [z]; exact h
    · rw [upd_ne z] at e
      exact S.gone b e
/-- a table grew -/
theorem Sm.tabbed {H H' : Hp} {P : Addr} (t : GxR.TabG H P) (h : GxR.Tabbed P H H') : Sm H H' := by
  obtain ⟨ps, h1, h2⟩ := t
  refine ⟨fun a o e n => ?_, fun Q q => ?_, fun a e => ?_⟩
  · have ne : a ≠ P := fun z => by
      rw [z, h1] at e
      rw [← Option.some.inj e] at n
      cases n
    rw [h.2 a ne]
    exact e
  · by_cases e : Q = P
    · rw [e]
      exact h.1
    · obtain ⟨qs, q1, q2⟩ := q
      exact ⟨qs, by rw [h.2 Q e]; exact q1, q2⟩
  · by_cases z : a = P
    · obtain ⟨qs, q1, _⟩ := h.1
      rw [z, q1] at e
      cases e
    · rw [h.2 a z] at e
      exact e
/-! ### the bag, and heaps in which it alone was turned -/
def LIM : Nat := 1000000000
/-- the bag at b: how many draws were mixed is at most m -/
def Bag (H : Hp) (b : Addr) (m : Nat) : Prop := ∃ x y z : Int, H b = some (.lst [.int x, .int y, .int z]) ∧ 0 ≤ y ∧ y < 2 ^ 200 ∧ 0 ≤ z ∧ z ≤ m
structure Go (b : Addr) (n : Nat) (H H' : Hp) : Prop where
  keep0 : ∀ (a : Addr) (o : HO), a ≠ b → H a = some o → notTbl o = true → H' a = some o
  bag : ∀ m, Bag H b m → Bag H' b (m + n)
  tab : ∀ P, GxR.TabG H P → GxR.TabG H' P
  gone : ∀ a, H' a = none → H a = none
theorem Go.keep {b : Addr} {n : Nat} {H H' : Hp} (G : Go b n H H') (a : Addr) (o : HO) (ne : a ≠ b) (h : H a = some o) (nt : notTbl o = true := by rfl) : H' a = some o := G.keep0 a o ne h nt
theorem Bag.mono {H : Hp} {b : Addr} {m n : Nat} (h : Bag H b m) (l : m ≤ n) : Bag H b n := by
  obtain ⟨x, y, z, h1, h2, h3, h4, h5⟩ := h
  exact ⟨x, y, z, h1, h2, h3, h4, by omega⟩
theorem Bag.some {H : Hp} {b : Addr} {m : Nat} (h : Bag H b m) : ∃ xs, H b = some (.lst xs) := by
  obtain ⟨x, y, z, h1, _⟩ := h
  exact ⟨_, h1⟩
theorem Go.refl (b : Addr) (H : Hp) : Go b 0 H H := ⟨fun _ _ _ h _ => h, fun _ h => h, fun _ h => h, fun _ h => h⟩
theorem Go.trans {b : Addr} {n m : Nat} {H H1 H2 : Hp} (x : Go b n H H1) (y : Go b m H1 H2) : Go b (n + m) H H2 :=
  ⟨fun a o e h n => y.keep a o e (x.keep a o e h n) n, fun k h => by
    have z := y.bag _ (x.bag k h)
    exact z.mono (by omega), fun P h => y.tab P (x.tab P h), fun a h => x.gone a (y.gone a h)⟩
theorem Go.mono {b : Addr} {n m : Nat} {H H' : Hp} (x : Go b n H H') (l : n ≤ m) : Go b m H H' := ⟨x.keep0, fun k h => (x.bag k h).mono (by omega), x.tab, x.gone⟩
theorem Go.same {b : Addr} {H H' : Hp} (s : Sm H H') : Go b 0 H H' := ⟨fun a o _ h n => s.keep a o h n, fun m h => by
  obtain ⟨x, y, z, h1, h2⟩ := h
  exact ⟨x, y, z, s _ _ h1, h2⟩, s.tab, s.gone⟩
theorem Go.new {b : Addr} {H : Hp} {p : Addr} {o : HO} (h : H p = none) : Go b 0 H (upd H p o) := Go.same (Sm.new h)
/-- a thing that is no list stands apart from the bag -/
theorem Go.at {b : Addr} {n m : Nat} {H H' : Hp} (G : Go b n H H') (B : Bag H b m) {a : Addr} {o : HO} (h : H a = some o) (no : ∀ xs, o ≠ .lst xs) (nt : notTbl o = true := by rfl) : H' a = some o := by
  refine G.keep a o (fun e => ?_) h nt
  obtain ⟨xs, hx⟩ := B.some
  rw [e, hx] at h
  exact no xs (Option.some.inj h).symm
theorem Go.seqT {K : PySem.W.Frag} {b : Addr} {n m : Nat} {H H' : Hp} (G : Go b n H H') (B : Bag H b m) {a : Addr} {xs : List V} (h : SqT K H a xs) : SqT K H' a xs := by
  rcases h with (h | ⟨o, h⟩) | h
  · exact .inl (.inl (G.at B h fun _ z => by cases z))
  · exact .inl (.inr ⟨o, G.at B h fun _ z => by cases z⟩)
  · exact .inr h
theorem Go.frz {b : Addr} {n m : Nat} {H H' : Hp} (G : Go b n H H') (B : Bag H b m) {a : Addr} {ob : Obj} {u : HO} (h : H a = some (.frz ob u)) : H' a = some (.frz ob u) := G.at B h fun _ z => by cases z
theorem Sm.seqT {K : PySem.W.Frag} {H H' : Hp} (e : Sm H H') {a : Addr} {xs : List V} (h : SqT K H a xs) : SqT K H' a xs := by
  rcases h with (h | ⟨o, h⟩) | h
  · exact .inl (.inl (e _ _ h))
  · exact .inl (.inr ⟨o, e _ _ h⟩)
  · exact .inr h
/-- what was free behind is free ahead -/
theorem Go.free {b : Addr} {n m : Nat} {H H' : Hp} (G : Go b n H H') (B : Bag H b m) {p : Addr} (h : H' p = none) : H p = none := G.gone p h
theorem Bag.ne {H : Hp} {b p : Addr} {m : Nat} (B : Bag H b m) (h : H p = none) : p ≠ b := fun e => by
  obtain ⟨xs, hx⟩ := B.some
  rw [← e, h] at hx
  cases hx
/-- a new list's own address may be written: the rest goes on -/
theorem Go.own {b : Addr} {n m : Nat} {H H' : Hp} {p : Addr} {o : HO} (G : Go b n H H') (B : Bag H b m) (h : H p = none) (hp' : ∀ qs, H' p ≠ some (.tbl qs)) : Go b n H (upd H' p o) := by
  have hp := B.ne h
  refine ⟨fun a u e ha nt => ?_, fun k hk => ?_, fun P t => TabG.upd (G.tab P t) hp', fun a ha => ?_⟩
  · rw [upd_ne (ne_of_none ha h)]
    exact G.keep a u e ha nt
  · obtain ⟨x, y, z, h1, h2⟩ := G.bag k hk
    exact ⟨x, y, z, by rw [upd_ne (Ne.symm hp)]; exact h1, h2⟩
  · by_cases e : a = p
    · rw [e]
      exact h
    · rw [upd_ne e] at ha
      exact G.gone a ha
theorem no_tbl {H : Hp} {p : Addr} {xs : List V} (h : H p = some (.lst xs)) : ∀ qs, H p ≠ some (.tbl qs) := fun qs z => by
  rw [h] at z
  cases z
/-! ### the rules over K alone (within a comprehension's block the context's own K is the same) -/
section
variable {X : Cx} (K : PySem.W.Frag)
theorem ixL (h : X.K = K := by rfl) : IxR X (rIxL K) := h ▸ ix_list
theorem ixT (h : X.K = K := by rfl) : IxR X (rIxT K) := h ▸ ix_tup
theorem eqD (hu : X.A.units + 64 < cLine) (h : X.K = K := by rfl) : OpR X (compareOp .Eq) (rEqD K) := h ▸ op_eqD hu
theorem neD (hu : X.A.units + 64 < cLine) (h : X.K = K := by rfl) : OpR X (compareOp .NotEq) (rNeD K) := h ▸ op_neD hu
def rLenQ (K : PySem.W.Frag) : List V → Hp → VK → Prop := fun xs H Q => ∃ p ys, xs = [.ref p] ∧ (SqL K H p ys ∨ SqT K H p ys) ∧ Q (.int ys.length) H
theorem lenQ (h : X.K = K := by rfl) : CallR X (.builtin "len") (rLenQ K) := h ▸ call_len_seq
def rLenT1 : List V → Hp → VK → Prop := fun xs H Q => ∃ z, xs = [.str z] ∧ z.length ≤ sizeLine ∧ Q (.int z.length) H
theorem lenT : CallR X (.builtin "len") rLenT1 := call_len_str
theorem slL (h : X.K = K := by rfl) : SlR X (rSlL K) := h ▸ sl_list
theorem slT (h : X.K = K := by rfl) : SlR X (rSlA K) := h ▸ sl_tupA
theorem catA (h : X.K = K := by rfl) : OpR X (binaryOp .Add) (rCatA K) := h ▸ op_catA
theorem inQ (h : X.K = K := by rfl) : OpR X (compareOp .In) (rIn K false) := h ▸ op_in_seq
theorem ninQ (h : X.K = K := by rfl) : OpR X (compareOp .NotIn) (rIn K true) := h ▸ op_notIn_seq
def rListOf (K : PySem.W.Frag) : List V → Hp → VK → Prop := fun xs H Q => ∃ p ys, xs = [.ref p] ∧ (SqL K H p ys ∨ SqT K H p ys) ∧ ∀ l, H l = none → Q (.ref l) (upd H l (.lst ys))
theorem listOf (h : X.K = K := by rfl) : CallR X (.type "list") (rListOf K) := h ▸ call_list_of
def rTupOf (K : PySem.W.Frag) : List V → Hp → VK → Prop := fun xs H Q => ∃ p ys, xs = [.ref p] ∧ ((SqL K H p ys ∧ ∀ l, H l = none → Q (.ref l) (upd H l (.tup ys))) ∨ (SqT K H p ys ∧ Q (.ref p) H))
theorem tupOf (h : X.K = K := by rfl) : CallR X (.type "tuple") (rTupOf K) := h ▸ call_tuple_of
theorem isI (h : X.K = K := by rfl) : CallR X (.builtin "isinstance") (rIsi K) := h ▸ call_isi
end
/-! ### defs whose code object is known; the end of a law with tables -/
structure Ftc (K : PySem.W.Frag) (mg : Str → Option Value) (x : Str) (st : Stmt) (ps : List Str) (c : Addr) : Prop where
  ex : ∃ (f : Addr) (oc : Value) (od : Option Addr) (kV doc pm : Value) (an : Option Addr) (ct : Value) (osl : Array (Option Value)),
    K.lookup f = some ⟨oc, od, .func (PySem.W.fnOf x x (defArgs st) (defBody st) (defScope st) .none kV doc pm an (.ref c) ct), osl⟩ ∧ PySem.W.codeIn K (.ref c) x = true ∧ PySem.W.keepIn K (.ref f) = true ∧ mg x = some (.ref f) ∧ Binds K (PySem.W.fnOf x x (defArgs st) (defBody st) (defScope st) .none kV doc pm an (.ref c) ct) ps []
section
variable {P : Program} {w : World} {K : PySem.W.Frag} {mg : Str → Option Value} {base : Heap}
theorem Ftc.cal {x : Str} {st : Stmt} {N ps : List Str} {c : Addr} {sp : Sp} {k : Nat} (F : Ftc K mg x st ps c) (S : FnScope N ps (defScope st)) (len : ∀ vs H Q E, sp vs H Q E → vs.length = ps.length)
    (h : ∀ (f : Addr) (A : Around) (outer : List Env) (s : Shared) (H : Hp) (vs : List V) (Q : VK) (E : XK), Room k (A.deeper (PyProof.Rows.envOfC x (defScope st) s.heap.objs.size f (.ref c))) → sp vs H Q E →
      ∃ t, PSs (cxOf CX0 P w K mg base N x (defScope st) f (.ref c) A outer s H E).nox (defBody st) t ∧ t { nx := fun _ H' => Q .non H', rt := Q } (start N vs) H) : Cal P w K mg base (k + 1) x ps sp := by
  obtain ⟨f, oc, od, kV, doc, pm, an, ct, osl, lk, hcd, kp, g, b⟩ := F.ex
  refine ⟨f, _, fn_of lk hcd S len (fun A outer s H vs Q E hr hsp => ?_), kp, g, b, oc, od, osl, lk⟩
  obtain ⟨t, h1, q⟩ := h f A outer s H vs Q E hr hsp
  exact ⟨t, h1.nox, q⟩
end
def hdOk (vs : Array Value) (c P : Addr) : Bool := (match (vs[11]? : Option Value) with | some (.ref P') => P' == P | _ => false) &&
  (match vs.getD 18 .none with | .str _ _ => true | _ => false) && (match vs.getD 7 .none with | .int _ _ => true | _ => false) &&
  (match vs.getD 9 .none with | .bool _ => true | _ => false) && (match vs.getD 10 .none with | .int _ _ => true | _ => false) && c != P
theorem hdOk_ok {K : PySem.W.Frag} {c P : Addr} {vs : Array Value} {dd : Option Addr} {sl : Array (Option Value)} (h : K.lookup c = some ⟨.type "code", dd, .fields vs, sl⟩) (o : hdOk vs c P = true) : PySem.W.codeHdIn K c P = true := by
  unfold PySem.W.codeHdIn
  rw [h]
  exact o
theorem tri0 : TriplesOk (#[] : Array Value).toList := by
  first
    | trivial
    | exact .nil
    | simp [TriplesOk]
    | decide
def OwnTabs (q : Program) (K : PySem.W.Frag) (mg : Str → Option Value) (h : Heap) : Prop := ∀ (x : Str) (f : Addr), ((PyProof.Rows.recsOf q).any fun e => e.name == x) = true → mg x = some (.ref f) → LamX.OwnTab K f h
theorem walk_ofAll {l : PySem.W.OpenLaw} {n k : Nat} {q : Program} {loose : List Str} {XP : (Str → Option Value) → Heap → Prop} {YP : World → Heap → Prop} {d : DefRec} {K : Params → PySem.W.Frag} {CX : World → CXT} {x : Str}
    (hn : l.most = some n) (hn2 : n ≤ sizeLine) (hdf : d.params.defaults = []) (hr : Room k callerA) (hY : ∀ (w : World) (h : Heap), YP w h → (K w.params).In h)
    (F : ∀ (w : World) (mg : Str → Option Value) (fa : Addr) (h : Heap), YP w h → (K w.params).In h → h.Ns mainGlobals mg → mg d.name = some (.ref fa) → OwnTabs q (K w.params) mg h → LamX.LawAtS l w (K w.params) (CX w) k n x mg fa h)
    (hCX : ∀ (w : World) (H : Hp) (s : Shared) (e : Value) (s' : Shared), CX w [] H s (fun _ _ _ => False) e s' → False) :
    PySem.W.WalkO q loose XP YP l.row.toRowW d [] (fun f vs => PySem.call f vs) := by
  refine Att.attach_callB hn hdf fun w s₀ s₁ mg mb fa o pm cd doc a vs ns G Y ho hd hcd hmg hobj hints hlen hbits hg => ?_
  have KX := hY w _ Y
  have own : OwnTabs q (K w.params) mg s₁.heap := fun x f hrec hx c P o1 fd1 e dd vs1 sl k1 k2 k3 k4 k5 => by
    obtain ⟨dL, hm, hn1⟩ := List.any_eq_true.mp hrec
    have hn2 : dL.name = x := beq_iff_eq.mp hn1
    obtain ⟨a', o', fd', c', P', h1, h2, h3, h4, h5, h6⟩ := G.T.tab dL hm
    rw [hn2, hx] at h1
    cases h1
    have g1 := KX _ _ k1
    rw [g1] at h2
    cases h2
    rw [k2] at h3
    cases h3
    rw [k3] at h4
    cases h4
    obtain ⟨⟨oc, vc, e1, _, e3, e4⟩, hP⟩ := h6
    have g2 := KX _ _ k4
    rw [g2] at e1
    cases e1
    cases e3
    rw [k5] at e4
    cases e4
    exact hP
  obtain ⟨fd, cs, sp, hT, nT, C, hb, hsp, hF⟩ := F w mg fa _ Y KX G.T.g hmg own
  exact LamX.law_callTs KX G.T.g G.T.b G.T.builtins G.T.nolimit hg hT nT C G.T.bmain hobj hints (Nat.le_trans hlen hn2) hr hF hb (fun H hH hS => hsp H a ns hlen hbits hH hS) fun H e s' => hCX w H s₁ e s'
/-! ### all(e for x in it): the generator expression's own frame, its elements by rules (they may call) -/
namespace GA
open PySem PySem.Spec PyProof.Rows L2 GenW
/-- the context of a generator expression's frame: s, H: as it began; pn: the generator itself -/
abbrev genX (X : Cx) (A' : Around) (s : Shared) (H : Hp) (cenv : Env) (fp : List Addr) (pn : List (Addr × Obj)) : Cx :=
  { X with A := A', s_0 := s, H_0 := H, env := cenv, outer := X.stack, stack := cenv :: X.stack, ex := fp, fn := fun _ => false, pn := pn, xe := fun _ _ => False }
abbrev genE (X : Cx) (scope : Scope) (C : Addr) (code : Value) : Env := genEnv scope (cloFrom X.env.cells scope.names []) C code builtinsNs X.env
section
variable {X : Cx} {pins : List (Addr × Obj)} {σ : L2.St} {H : Hp} {s : Shared}
theorem gen_start {scope : Scope} {own : List (Str × Nat)} {fp : List Addr} {A' : Around} {code : Value} {gs : GenState} {a : Addr} {gobj : Obj} {h5 : Heap} {tk : Nat} (I : Inv X pins σ H s) (ok : BlkOk X.N X.env.scope scope own) (hN : X.N.Nodup) (hfp : ∀ b ∈ fp, FpOk X pins H b ∧ b < s.heap.objs.size)
    (hcell : ∀ y ∈ scope.names, y.2 ≠ .cell) (hA : A'.handled = none) (hfr : A'.frames = some (genE X scope s.heap.objs.size code :: X.stack)) (hgs : gs.bare = true) (hsz : s.heap.objs.size < a) (ha : h5.get? a = some gobj) (hgo : ∀ v, gobj.data ≠ .cell v)
    (kp : ∀ b o, s.heap.get? b = some o → h5.get? b = some o) (hns : ∃ m, h5.Ns s.heap.objs.size m) :
    Inv (genX X A' s H (genE X scope s.heap.objs.size code) fp [(a, gobj)]) [] (wipe σ (own.map (·.2))) H { s with gens := s.gens.push gs, toks := tk, heap := h5 } := by
  have hfree : ∀ y ∈ scope.names, y.2 = .free → ∃ c, X.env.cells.lookup y.1 = some c := fun y hy e => by
    rcases ok.free y hy e with k | k
    · exact I.ok.has _ (.inl k)
    · exact I.ok.has _ (.inr k)
  generalize hcenv : genE X scope s.heap.objs.size code = cenv at hfr ⊢
  have hL : cenv.locals = s.heap.objs.size := by rw [← hcenv]; rfl
  have hcl : cenv.cells = cloFrom X.env.cells scope.names [] := by rw [← hcenv]; rfl
  have hsc : cenv.scope = scope := by rw [← hcenv]; rfl
  have cm : ∀ {y c}, (y, c) ∈ cloFrom X.env.cells scope.names [] → X.env.cells.lookup y = some c ∧ c < s.heap.objs.size := fun {y c} hm => by
    rcases cloFrom_mem hm with hm | ⟨h1, rfl⟩
    · cases hm
    · obtain ⟨c, hc⟩ := hfree _ h1 rfl
      rw [hc]
      obtain ⟨w, z⟩ := I.cell _ _ hc
      exact ⟨rfl, z.lt⟩
  have mem : ∀ {y c}, cenv.cells.lookup y = some c → X.env.cells.lookup y = some c ∧ c < s.heap.objs.size := fun {y c} e => by
    rw [hcl] at e
    exact cm (PySem.mem_of_lookup e)
  have look : ∀ {y}, scope.names.lookup y = some .free → ∃ c, cenv.cells.lookup y = some c ∧ X.env.cells.lookup y = some c := fun {y} hl => by
    have hy : (y, NameKind.free) ∈ scope.names := PySem.mem_of_lookup hl
    obtain ⟨c', e'⟩ := mem_lookup (cloFrom_has (cells := X.env.cells) (acc := []) hy)
    rw [← hcl] at e'
    exact ⟨c', e', (mem e').1⟩
  have okB : (genX X A' s H cenv fp [(a, gobj)]).Ok := by
    refine ⟨I.ok.mod, by show cenv.scope.kind = _; rw [hsc]; exact ok.kind, by show cenv.globals = _; rw [← hcenv]; exact I.ok.glob, by show cenv.builtins = _; rw [← hcenv]; rfl, by show s.heap.objs.size ≤ cenv.locals; rw [hL]; exact Nat.le_refl _,
      fun y z c e1 e2 => ?_, fun y hy => ?_, fun y c z e => (by cases z), fun _ => hA, hfr, .inr ⟨rfl, ?_⟩, fun b hb => ⟨?_, fun y c e z => ?_⟩, I.bs, Nat.le_trans I.ok.bsz I.sz, fun b o e hb => ?_, fun b hb z => ?_, I.stack, I.stkFree⟩
    · exact I.ok.inj y z c (mem (show cenv.cells.lookup y = some c from e1)).1 (mem (show cenv.cells.lookup z = some c from e2)).1
    · show ∃ c, cenv.cells.lookup y = some c
      have key : cenv.kindOf y = some .free → ∃ c, cenv.cells.lookup y = some c := fun hk => by
        unfold Env.kindOf at hk
        rw [hsc] at hk
        obtain ⟨c, h1, _⟩ := look hk
        exact ⟨c, h1⟩
      rcases hy with hy | hy
      · exfalso
        have hy : cenv.scope.names.lookup y = some .cell := hy
        rw [hsc] at hy
        exact hcell _ (PySem.mem_of_lookup hy) rfl
      · exact key hy
    · show cenv.frame = some cenv.locals
      rw [← hcenv]
      rfl
    · show b ≠ cenv.locals
      rw [hL]; exact Nat.ne_of_lt (hfp b hb).2
    · have e : cenv.cells.lookup y = some c := e
      exact (hfp b hb).1.2.2.2.2.1 y c (mem e).1 z
    · rcases (hfp b hb).1.2.2.2.1 with z | z
      · exact I.ok.noex b o e z
      · exact absurd (Nat.lt_of_lt_of_le (Heap.lt_size e) (Nat.le_trans I.ok.bsz z)) (Nat.lt_irrefl _)
    · rcases List.mem_cons.mp (I.stkSub b z) with z | z
      · exact (hfp b hb).1.2.1 z
      · exact (hfp b hb).1.2.2.1 z
  obtain ⟨mm, hmm⟩ := hns
  refine ⟨okB, rfl, I.bare.push hgs, Un.kept kp, ⟨mm, ?_, fun i y av e1 e2 e3 => ?_⟩, fun y c e => ?_, ?_, fun y c e => ?_, fun p hp => ?_, I.hok.kept kp, by rw [wipe_length]; exact I.len⟩
  · show Heap.Ns _ cenv.locals _
    rw [hL]
    exact hmm
  · obtain ⟨e2, hne⟩ := wipe_some e2
    have hfr : scope.names.lookup y = some .free := by
      have key : ∀ k, scope.names.lookup y = some k → k = .local ∨ k = .cell ∨ k = .free → scope.names.lookup y = some .free := fun k hk hk' => by
        have no : ¬ (k = .local ∨ k = .cell) := fun hh => by
          rcases ok.own _ (PySem.mem_of_lookup hk) hh with e' | e'
          · obtain ⟨p, hp, hpy⟩ := List.mem_map.mp e'
            have e3 := ok.ix p hp
            have : p.1 = y := hpy
            rw [this] at e3
            exact hne (List.mem_map.mpr ⟨p, hp, nodup_ix hN e3 e1⟩)
          · exact e' (List.mem_of_getElem? e1)
        rcases hk' with rfl | rfl | rfl
        · exact absurd (.inl rfl) no
        · exact absurd (.inr rfl) no
        · exact hk
      have e3 : Vis cenv.scope y := e3
      rw [hsc] at e3
      rcases e3 with e3 | e3 | e3
      · exact key _ e3 (.inl rfl)
      · exact key _ e3 (.inr (.inl rfl))
      · exact key _ e3 (.inr (.inr rfl))
    obtain ⟨m, hn, hl⟩ := I.loc
    have hvis : Vis X.env.scope y := (ok.free _ (PySem.mem_of_lookup hfr) rfl).elim (fun k => .inr (.inl k)) (fun k => .inr (.inr k))
    obtain ⟨w, r, q⟩ := hl i y av e1 e2 hvis
    refine ⟨w, r, .inr ⟨.inr ?_, ?_⟩⟩
    · show cenv.kindOf y = some .free
      unfold Env.kindOf
      rw [hsc]
      exact hfr
    · obtain ⟨c, h1, h2⟩ := look hfr
      rcases q with ⟨k, _⟩ | ⟨_, c', e', z⟩
      · have k : X.env.scope.names.lookup y = some .local := k
        rcases ok.free _ (PySem.mem_of_lookup hfr) rfl with k' | k' <;> rw [show X.env.scope.names.lookup y = _ from k'] at k <;> cases k
      · rw [h2] at e'; cases e'
        exact ⟨c, h1, z.keeps kp⟩
  · have e : cenv.cells.lookup y = some c := e
    obtain ⟨w, z⟩ := I.cell y c (mem e).1
    exact ⟨w, z.keeps kp⟩
  · show H cenv.locals = none
    rw [hL]; exact I.hok.fresh (Nat.le_refl _)
  · have e : cenv.cells.lookup y = some c := e
    exact I.freeC y c (mem e).1
  · have hp' : p = (a, gobj) := List.mem_singleton.mp (by simpa using hp)
    subst hp'
    refine ⟨ha, I.hok.fresh (Nat.le_of_lt hsz), ?_, (fun z => by
      rcases List.mem_cons.mp (I.stkSub a z) with z | z
      · have q := I.lt
        rw [← z] at q
        exact absurd (Nat.lt_trans q hsz) (Nat.lt_irrefl _)
      · exact I.nofs (Nat.le_of_lt hsz) z), hgo⟩
    show a ≠ cenv.locals
    rw [hL]
    exact Nat.ne_of_gt hsz
/-- only generators, tokens, draws turned -/
theorem regens {s' : Shared} (I : Inv X pins σ H s) (ho : s'.os = s.os) (hh : s'.heap = s.heap) (hg : AllBare s'.gens) : Inv X pins σ H s' := by
  obtain ⟨h', g', d', t', o'⟩ := s'
  have e : o' = s.os := ho
  have e2 : h' = s.heap := hh
  subst e e2
  exact I.step (g' := g') (t' := t') (d' := d') (ch := []) (fun b hb => absurd hb (by simp)) (fun b o _ _ _ q _ => q) (fun b o _ _ _ q _ => ⟨o.slots, q⟩) (fun _ _ _ _ n => n) (fun b o _ q => ⟨o, q⟩) (fun _ _ q => q) (fun _ _ _ q => q) (fun b ps q => ⟨#[], by rw [q]; simp⟩) (fun m hm => hm) I.hok hg
end
/-! ### the loop of the frame, handing out a truth a turn -/
/-- the end of the frame: all items were walked -/
def Rg (Xg : Cx) (σw : L2.St) (Qt : Hp → Prop) : GenEnd := fun _ _ r s => r = .ok .next ∧ ∃ H', Inv Xg [] σw H' s ∧ Qt H'
/-- a truth is handed out: False ends it, behind True it goes on -/
def Yg (Xg : Cx) (σw : L2.St) (Qf : Hp → Prop) : Protocol := fun _ _ v s kap => ∃ (b : Bool) (H' : Hp) (pins' : List (Addr × Obj)) (σ' : L2.St), v = .bool b ∧ Inv Xg pins' σ' H' s ∧ (b = false → Qf H') ∧
  (b = true → ∀ s', s'.os = s.os → s'.heap = s.heap → AllBare s'.gens → kap (.send .none) s')
/-- the invariant of the turns -/
def TurnsG (J : It) (g : TG) (te : TE) (own : List Nat) (σ : L2.St) (Qt Qf : Hp → Prop) (W : Nat → Nat → Hp → Prop) : Prop := ∀ i m H, W i m H →
  (J.stop i H ∧ Qt H) ∨ (J.go i H ∧ ∃ Nx : Hp → Prop, (∀ H', Nx H' → ∃ m', m' < m ∧ W (i + 1) m' H') ∧ ∀ x H', J.yld i H x H' → g x (wipe σ own) H' fun σ2 H2 => wipe σ2 own = wipe σ own ∧ te σ2 H2 fun y H3 => ∃ b : Bool, y = .bl b ∧ if b = true then Nx H3 else Qf H3)
section
variable {X : Cx} {σ : L2.St} {elt tg iter : Expr} {scope : Scope} {pos : Pos} {it : Addr} {ce : Env} {fp : List Addr} {pn : List (Addr × Obj)} {sB : Shared} {HB : Hp} {Ar : Around} {J : It} {tn : Nat → Heap → Prop} {g : TG} {te : TE} {own : List Nat} {Qt Qf : Hp → Prop} {W : Nat → Nat → Hp → Prop}
theorem seg_allLoop (hc : X.calm = true) (T : Turn X.prog X.w X.K tg J fp it tn) (hW : TurnsG J g te own σ Qt Qf W) (hco : ce.scope.isCoroutine = false) (hpn : ∀ p ∈ pn, p.1 ∉ fp)
    (pg : PG (genX X (Ar.over (.compLoop (.GeneratorExp elt [⟨tg, iter, [], 0⟩] scope pos) 0 (.ref it) .none ce) []) sB HB ce fp pn) tg g) (pe : PE (genX X (Ar.over (.compLoop (.GeneratorExp elt [⟨tg, iter, [], 0⟩] scope pos) 0 (.ref it) .none ce) []) sB HB ce fp pn) elt te) :
    ∀ (k i m : Nat) (s₀ s : Shared) (H : Hp), m < k → W i m H → Inv (genX X (Ar.over (.compLoop (.GeneratorExp elt [⟨tg, iter, [], 0⟩] scope pos) 0 (.ref it) .none ce) []) sB HB ce fp pn) [] (wipe σ own) H s → tn i s.heap → (∀ b ∈ fp, H b = none) →
      Seg (model X.prog X.w) Ar (Rg (genX X (Ar.over (.compLoop (.GeneratorExp elt [⟨tg, iter, [], 0⟩] scope pos) 0 (.ref it) .none ce) []) sB HB ce fp pn) (wipe σ own) Qt) (Yg (genX X (Ar.over (.compLoop (.GeneratorExp elt [⟨tg, iter, [], 0⟩] scope pos) 0 (.ref it) .none ce) []) sB HB ce fp pn) (wipe σ own) Qf) k s₀ (.compLoop (.GeneratorExp elt [⟨tg, iter, [], 0⟩] scope pos) 0 (.ref it) .none ce) ((model X.prog X.w).den (.compLoop (.GeneratorExp elt [⟨tg, iter, [], 0⟩] scope pos) 0 (.ref it) .none ce)) [] s := by
  have stat : ∀ {σ' : L2.St} {H' : Hp} {s' : Shared}, Inv (genX X (Ar.over (.compLoop (.GeneratorExp elt [⟨tg, iter, [], 0⟩] scope pos) 0 (.ref it) .none ce) []) sB HB ce fp pn) [] σ' H' s' → (∀ b ∈ fp, H' b = none) → ∀ b ∈ fp, FpOk (genX X (Ar.over (.compLoop (.GeneratorExp elt [⟨tg, iter, [], 0⟩] scope pos) 0 (.ref it) .none ce) []) sB HB ce fp pn) [] H' b := fun {σ' H' s'} I' hn b hb =>
    ⟨hn b hb, (I'.ok.exf b hb).1, I'.ok.exfs b hb, .inl hb, fun x c e => (I'.ok.exf b hb).2 x c e, fun p hp z => by
      have hp' : p ∈ pn := by simpa using hp
      rw [← z] at hb
      exact hpn p hp' hb⟩
  intro k
  induction k with
  | zero => intro i m s₀ s H hm; omega
  | succ k ih =>
    intro i m s₀ s H hm w I st nf
    show Seg _ Ar _ _ _ s₀ _ ((compTurn (.GeneratorExp elt [⟨tg, iter, [], 0⟩] scope pos) 0 (.ref it) .none ce).onRaise (leaving ce)) [] s
    rw [compTurn_gen, Sem.onRaise_eq_wrap]
    refine seg_bind_wrap (wpAny_standAt ?_)
    rcases hW i m H w with ⟨stop, qt⟩ | ⟨go, Nx, hNx, step⟩
    · refine seg_bind_wrap (wpAny_mono (T.done (genX X (Ar.over (.compLoop (.GeneratorExp elt [⟨tg, iter, [], 0⟩] scope pos) 0 (.ref it) .none ce) []) sB HB ce fp pn) rfl rfl rfl hc i [] s _ H (fun _ _ => False) I (stat I nf) st stop) (fun r s6 ⟨hr, I6⟩ => ?_) fun _ _ e => e.elim)
      subst hr
      exact seg_end (.ok .next) ⟨rfl, H, I6, qt⟩
    · refine seg_bind_wrap (wpAny_mono (T.item (genX X (Ar.over (.compLoop (.GeneratorExp elt [⟨tg, iter, [], 0⟩] scope pos) 0 (.ref it) .none ce) []) sB HB ce fp pn) rfl rfl rfl hc i [] s _ H (fun _ _ => False) I (stat I nf) st go) (fun r s6 ⟨u, hr, h6⟩ => ?_) fun _ _ e => e.elim)
      subst hr
      refine seg_bind_wrap (wpAny_mono h6 (fun _ s7 ⟨x, H7, I7, r7, y7, st7, n7⟩ => ?_) fun _ _ e => e.elim)
      have I7' := I7.pinned (stat I7 n7) (T.obj _ _ st7)
      refine seg_bind_wrap (wpAny_mono (pg.run _ s7 _ H7 x u _ I7' r7 (step x H7 y7)) (fun _ s8 ⟨σ8, H8, I8, hw8, q8⟩ => ?_) fun _ _ e => e.elim)
      refine seg_bind_wrap ?_
      simp only [List.forIn_nil]
      refine wpAny_pure ?_
      simp only [if_true]
      have hy : ∀ v, yieldOut ce v = yieldValue v := fun v => by simp only [yieldOut, hco, Bool.false_eq_true, if_false]
      simp only [hy]
      rw [Sem.bind_eq_wrap', Sem.bind_eq_wrap', Sem.wrap_wrap, Sem.wrap_wrap]
      refine seg_wrap (wpAny_mono (pe.run _ s8 σ8 H8 _ I8 q8) (fun y s9 ⟨yv, H9, I9, r9, b, eb, q9⟩ => ?_) fun _ _ e => e.elim)
      subst eb
      obtain rfl : y = Value.bool b := r9
      refine seg_at (seg_yield rfl rfl rfl ⟨b, H9, _, σ8, rfl, I9, fun e => ?_, fun e s'' ho hh hg => ?_⟩)
      · subst e
        simpa using q9
      · subst e
        simp only [if_true] at q9
        obtain ⟨m', hm', w'⟩ := hNx H9 q9
        have I9' := regens I9 ho hh hg
        have pin' : ∀ b ∈ fp, ∀ o, s7.heap.get? b = some o → s''.heap.get? b = some o ∧ H9 b = none := fun b hb o e =>
          let z := I9'.pin (b, o) (List.mem_append_right _ (List.mem_append_right _ (mem_pinsAt hb e)))
          ⟨z.1, z.2.1⟩
        have hl : (wipe σ own).length = σ8.length := by rw [← hw8, wipe_length]
        refine seg_again rfl (ih (i + 1) m' s'' s'' H9 (by omega) w' ((I9'.unpinned (pins := [])).weak hl (fun j v e => ?_)) (T.keep _ _ _ st7 fun b hb o e => (pin' b hb o e).1) fun b hb => ?_)
        · rw [← hw8] at e
          exact (wipe_some e).1
        · obtain ⟨o, e, _⟩ := T.obj _ _ st7 b hb
          exact (pin' b hb o e).2
theorem seg_allStart (T : Turn X.prog X.w X.K tg J fp it tn) {R : GenEnd} {Y : Protocol} {k : Nat} {s₀ s : Shared} (st : tn 0 s.heap)
    (loop : Seg (model X.prog X.w) Ar R Y k s₀ (.compLoop (.GeneratorExp elt [⟨tg, iter, [], 0⟩] scope pos) 0 (.ref it) .none ce) ((model X.prog X.w).den (.compLoop (.GeneratorExp elt [⟨tg, iter, [], 0⟩] scope pos) 0 (.ref it) .none ce)) [] s) : Seg (model X.prog X.w) Ar R Y k s₀ (.compStart (.GeneratorExp elt [⟨tg, iter, [], 0⟩] scope pos) 0 (.ref it) .none ce) ((model X.prog X.w).den (.compStart (.GeneratorExp elt [⟨tg, iter, [], 0⟩] scope pos) 0 (.ref it) .none ce)) [] s := by
  show Seg _ Ar _ _ _ s₀ _ ((compStart (.GeneratorExp elt [⟨tg, iter, [], 0⟩] scope pos) 0 (.ref it) .none ce).onRaise (leaving ce)) [] s
  unfold compStart
  rw [Sem.onRaise_eq_wrap]
  show Seg _ Ar _ _ _ s₀ _ ((ask >>= _).wrap _ _ _ _) [] s
  refine seg_bind_wrap (wpAny_askSetting ?_)
  split
  · exact seg_again rfl loop
  · first
      | exact seg_bind_wrap (wpAny_rule (seg_bind_wrap (wpAny_standAt (seg_bind_wrap (T.self _ 0 s _ _ st (seg_again rfl loop))))))
      | (refine seg_bind_wrap (wpAny_rule ?_); show Seg _ Ar _ _ _ s₀ _ ((standAt iter.pos >>= _).wrap _ _ _ _) [] s; exact seg_bind_wrap (wpAny_standAt (seg_bind_wrap (T.self _ 0 s _ _ st (seg_again rfl loop)))))
/-- the consumer: all -/
theorem all_loop {A : Around} {R : Result → Shared → Prop} {a : Addr} {gn : Nat} {gobj : Obj} (hh : A.handled = none) (hd : A.depth < recursionLimit) (hpn : pn = [(a, gobj)]) (hgen : ∀ h : Heap, h.get? a = some gobj → h.IsGen a gn)
    (hT : ∀ (s1 : Shared) (H' : Hp), Inv (genX X (A.in1.in1.over (.compLoop (.GeneratorExp elt [⟨tg, iter, [], 0⟩] scope pos) 0 (.ref it) .none ce) []) sB HB ce fp pn) [] (wipe σ own) H' s1 → Qt H' → ∀ h' : Heap, (∀ b o, s1.heap.get? b = some o → h'.get? b = some o) → R (.ok (.ret (.bool true))) { s1.setGen gn .finished with heap := h' })
    (hF : ∀ (s1 : Shared) (H' : Hp) (pins' : List (Addr × Obj)) (σ' : L2.St) (gs' : GenState), gs'.bare = true → Inv (genX X (A.in1.in1.over (.compLoop (.GeneratorExp elt [⟨tg, iter, [], 0⟩] scope pos) 0 (.ref it) .none ce) []) sB HB ce fp pn) pins' σ' H' s1 → Qf H' → R (.ok (.ret (.bool false))) (s1.setGen gn gs')) :
    ∀ (k : Nat) (s : Shared), s.heap.IsGen a gn → s.heap.NoLimit →
      (∃ gs, s.gens[gn]? = some gs ∧ gs.Goes (model X.prog X.w) A.in1.in1 (Rg (genX X (A.in1.in1.over (.compLoop (.GeneratorExp elt [⟨tg, iter, [], 0⟩] scope pos) 0 (.ref it) .none ce) []) sB HB ce fp pn) (wipe σ own) Qt) (Yg (genX X (A.in1.in1.over (.compLoop (.GeneratorExp elt [⟨tg, iter, [], 0⟩] scope pos) 0 (.ref it) .none ce) []) sB HB ce fp pn) (wipe σ own) Qf) k (.send .none) (s.setGen gn .running)) →
      codeAny (model X.prog X.w) A (.builtin "all.loop" ⟨[.ref a], []⟩) R s := by
  intro k
  induction k with
  | zero =>
    intro s hg hl ⟨gs, hgs, hgo⟩
    refine codeAny_builtin F.entry_all_loop ?_
    rw [Around.under_plainId F.plain_all_loop _]
    show wpAny _ A.in1 (pyNext (.ref a) >>= _) _ _ s
    refine wpAny_bind (wpAny_pyNext_genexpQ (A := A.in1) (P := fun _ _ s => ∃ H', Inv (genX X (A.in1.in1.over (.compLoop (.GeneratorExp elt [⟨tg, iter, [], 0⟩] scope pos) 0 (.ref it) .none ce) []) sB HB ce fp pn) [] (wipe σ own) H' s ∧ Qt H') hh hl hd hg hgs hgo (fun v s1 gs' hb hv => ?_) (fun s1 hp h' hk => ?_))
    · obtain ⟨b, H', pins', σ', rfl, I1, hf, ht⟩ := hv
      refine wpAny_bind (wpAny_holding (wpAny_truthy_bool ?_))
      refine wpAny_bind (wpAny_letGo ?_)
      cases b with
      | true => exact (ht rfl s1 rfl rfl I1.bare).elim
      | false =>
        simp only [Bool.false_eq_true, if_false]
        exact wpAny_bind (wpAny_rule (wpAny_pure (hF s1 H' pins' σ' gs' hb I1 (hf rfl))))
    · obtain ⟨H', I1, qt⟩ := hp
      exact wpAny_bind (wpAny_rule (wpAny_pure (hT s1 H' I1 qt h' hk)))
  | succ k ih =>
    intro s hg hl ⟨gs, hgs, hgo⟩
    have hgl : gn < s.gens.size := (Array.getElem?_eq_some_iff.mp hgs).1
    refine codeAny_builtin F.entry_all_loop ?_
    rw [Around.under_plainId F.plain_all_loop _]
    show wpAny _ A.in1 (pyNext (.ref a) >>= _) _ _ s
    refine wpAny_bind (wpAny_gsz (n := gn + 1) hgl (wpAny_pyNext_genexpQ (A := A.in1) (P := fun _ _ s => ∃ H', Inv (genX X (A.in1.in1.over (.compLoop (.GeneratorExp elt [⟨tg, iter, [], 0⟩] scope pos) 0 (.ref it) .none ce) []) sB HB ce fp pn) [] (wipe σ own) H' s ∧ Qt H') hh hl hd hg hgs hgo (fun v s1 gs' hb hv => ?_) (fun s1 hp h' hk => ?_)))
    · intro hsz
      obtain ⟨b, H', pins', σ', rfl, I1, hf, ht⟩ := hv
      refine wpAny_bind (wpAny_holding (wpAny_truthy_bool ?_))
      refine wpAny_bind (wpAny_letGo ?_)
      cases b with
      | true =>
        simp only [if_true]
        have hsz1 : gn < s1.gens.size := by
          have q : (s1.setGen gn gs').gens.size = s1.gens.size := setGen_size _ _ _
          have hsz' : gn + 1 ≤ (s1.setGen gn gs').gens.size := hsz
          omega
        have ha : s1.heap.get? a = some gobj := (I1.pin (a, gobj) (List.mem_append_left _ (by rw [hpn]; exact List.mem_singleton.mpr rfl))).1
        refine wpAny_pure ⟨plainId_quiet F.plain_all_loop _, ih (s1.setGen gn gs') (hgen _ ha) I1.nolimit ⟨gs', setGen_at hsz1, ?_⟩⟩
        exact ht rfl _ rfl rfl (allBare_setGen (s := s1.setGen gn gs') (allBare_setGen I1.bare hb) rfl)
      | false =>
        simp only [Bool.false_eq_true, if_false]
        exact wpAny_bind (wpAny_rule (wpAny_pure (hF s1 H' pins' σ' gs' hb I1 (hf rfl))))
    · intro hsz
      obtain ⟨H', I1, qt⟩ := hp
      exact wpAny_bind (wpAny_rule (wpAny_pure (hT s1 H' I1 qt h' hk)))
end
/-- all(e for tg in iter); behind its making the def's table may have grown -/
def tAllG (P : Addr) (wi : TI) (g : TG) (te : TE) (own : List Nat) : TE := fun σ H Q => wi σ H fun J H1 => GxR.TabG H1 P ∧ ∀ H2, GxR.Tabbed P H1 H2 → ∃ W : Nat → Nat → Hp → Prop, (∃ m, W 0 m H2) ∧ TurnsG J g te own σ (Q (.bl true)) (Q (.bl false)) W
section
variable {X : Cx} {c P : Addr} {elt tg iter : Expr} {p pos gpos : Pos} {scope : Scope} {own : List (Str × Nat)} {wi : TI} {g : TG} {te : TE} {k : Nat}
def gobjOf (gn : Nat) (nm qn : Value) : Obj := { cls := .type "generator", data := .fields #[.int gn 0, nm, qn] }
theorem gen_made {pins : List (Addr × Obj)} {σ : L2.St} {H : Hp} {s : Shared} {Q' : Value → Shared → Prop} {R : It → Hp → Prop} (hr : Room (k + 1) X.A) (TB : GxR.TabB X.base X.mg c P) (hN : X.N.Nodup) (ok : BlkOk X.N X.env.scope scope own) (hcell' : (scope.names.all fun y => decide (y.2 ≠ .cell)) = true) (hi : PI X tg iter wi)
    (hcode : X.env.code = .ref c) (hco : scope.isCoroutine = false) (h0 : scope.names.lookup (".0" : Str) = some NameKind.local) (hs : ∀ v, genFold iter X.env v = pure v) (I : Inv X pins σ H s) (h : wi σ H fun J H1 => GxR.TabG H1 P ∧ R J H1)
    (hQ : ∀ (J : It) (H1 HB : Hp) (sB s5 : Shared) (it : Addr) (fp : List Addr) (tn : Nat → Heap → Prop) (a : Addr) (gobj : Obj) (gn : Nat) (code : Value), R J H1 → GxR.Tabbed P H1 HB → Inv X pins σ HB sB → Turn X.prog X.w X.K tg J fp it tn →
      (∀ b ∈ fp, FpOk X pins HB b ∧ b < sB.heap.objs.size) → tn 0 s5.heap → (∃ nm qn, gobj = gobjOf gn nm qn) → s5.heap.get? a = some gobj → a ∉ fp → s5.gens[gn]? = some (.fresh (.compStart (.GeneratorExp elt [⟨tg, iter, [], 0⟩] scope gpos) 0 (.ref it) .none (genE X scope sB.heap.objs.size code))) →
      Inv (genX X (X.A.in1.in1.over (.compLoop (.GeneratorExp elt [⟨tg, iter, [], 0⟩] scope gpos) 0 (.ref it) .none (genE X scope sB.heap.objs.size code)) []) sB HB (genE X scope sB.heap.objs.size code) fp [(a, gobj)]) [] (wipe σ (own.map (·.2))) HB s5 → Q' (.ref a) s5) :
    wpAny (model X.prog X.w) X.A (eval (.GeneratorExp elt [⟨tg, iter, [], 0⟩] scope gpos) X.env) Q' X.xe s := by
  have hcell : ∀ y ∈ scope.names, y.2 ≠ .cell := fun y hy => of_decide_eq_true (List.all_eq_true.mp hcell' y hy)
  have hfree : ∀ y ∈ scope.names, y.2 = .free → ∃ c, X.env.cells.lookup y.1 = some c := fun y hy e => by
    rcases ok.free y hy e with k | k
    · exact I.ok.has _ (.inl k)
    · exact I.ok.has _ (.inr k)
  refine wpAny_GeneratorExp_make hco (closure_ok hfree) hcell h0 ok.kind (by have := hr.dp; omega) ?_ hs
  refine thn (hi.run pins s σ H _ I h) fun xv s1 hx => thn hx fun itv s2 h2 => ?_
  obtain ⟨it, fp, tn, J, H2, rfl, I2, T, st2, f2, ⟨ps, hP, ht⟩, q⟩ := h2
  have hPs : s2.heap.get? P = some { cls := .none, data := .fields ps } := I2.hok P _ hP
  have cd : PySem.W.CodeHd s2.heap c P := TB.code.keeps fun b u e => I2.bk b u e
  refine ⟨I2.nolimit, ?_⟩
  have sz : ∀ b ∈ fp, b < s2.heap.objs.size := fun b hb => by
    obtain ⟨o, e, _⟩ := T.obj _ _ st2 b hb
    exact Heap.lt_size e
  have nP : ∀ b ∈ fp, b ≠ P := fun b hb z => by
    have := (f2 b hb).1
    rw [z, hP] at this
    cases this
  have cont : ∀ (code : Value) (h3 : Heap) (tk : Nat) (ps' : Array Value), Heap.ExtBut P s2.heap h3 → s2.heap.objs.size ≤ h3.objs.size → h3.get? P = some { cls := .none, data := .fields ps' } → (∃ more, ps' = ps ++ more) → TriplesOk ps'.toList →
      wpAny (model X.prog X.w) X.A (builtinsFor X.env.globals X.env.builtins) (fun bi s₄ =>
        ∀ h', h'.Ns s₄.heap.objs.size (fun y => if y = ".0" then some (Value.ref it) else none) → Heap.SameBut s₄.heap.objs.size (s₄.heap.push { cls := .type "frame", data := .dict #[] }) h' →
          Q' (.ref h'.objs.size) { s₄ with
            gens := s₄.gens.push (.fresh (.compStart (.GeneratorExp elt [⟨tg, iter, [], 0⟩] scope gpos) 0 (.ref it) .none (genEnv scope (cloFrom X.env.cells scope.names []) s₄.heap.objs.size code bi X.env))),
            toks := s₄.toks + 1 + 1 + 1,
            heap := h'.push { cls := .type "generator", data := .fields #[.int s₄.gens.size 0, .str "<genexpr>" (s₄.toks + 1), .str (X.env.qual ++ "<genexpr>") (s₄.toks + 1 + 1)] } }) X.xe { s2 with heap := h3, toks := tk } := by
    intro code h3 tk ps' hx hsz hP3 hmore ht3
    obtain ⟨more, em⟩ := hmore
    obtain ⟨bm, ob, e1, e2, e3, e4, e5, e6, e7, e8⟩ := TB.bm
    have I3 := GxR.inv_tab (more := more) (h' := h3) (g' := s2.gens) (d' := s2.drawn) (t' := tk) I2 hP (fun b u hb e => hx b u hb e) (by rw [← em]; exact hP3) I2.bare
    refine wpAny_builtinsFor (m := X.mg) (by rw [I2.ok.glob]; exact (I2.mod.glob.keeps I2.bk).extBut hx TB.gP) e1 e2 (hx _ _ e4 (I2.bk _ _ e5)) e6 e7 e8 ?_
    intro h' hn' hs'
    have hsz' : h'.objs.size = h3.objs.size + 1 := by rw [hs'.1, Heap.size_push]
    have keep' : ∀ b o, h3.get? b = some o → h'.get? b = some o := fun b o e => hs'.extBut b o (Nat.ne_of_lt (Heap.lt_size e)) (Heap.get?_push_of_some _ e)
    have keep5 : ∀ b o, h3.get? b = some o → (h'.push (gobjOf s2.gens.size (.str "<genexpr>" (tk + 1)) (.str (X.env.qual ++ "<genexpr>") (tk + 1 + 1)))).get? b = some o := fun b o e => Heap.get?_push_of_some _ (keep' b o e)
    have fB : ∀ b ∈ fp, FpOk X pins (upd H2 P (.tbl (ps ++ more))) b ∧ b < h3.objs.size := fun b hb => by
      refine ⟨⟨?_, (f2 b hb).2⟩, Nat.lt_of_lt_of_le (sz b hb) hsz⟩
      rw [upd_ne (nP b hb)]
      exact (f2 b hb).1
    have st3 : tn 0 h3 := T.keep _ _ _ st2 fun b hb o e => hx b o (nP b hb) e
    have st5 : tn 0 (h'.push (gobjOf s2.gens.size (.str "<genexpr>" (tk + 1)) (.str (X.env.qual ++ "<genexpr>") (tk + 1 + 1)))) := T.keep _ _ _ st3 fun b _ o e => keep5 b o e
    refine hQ J H2 (upd H2 P (.tbl (ps ++ more))) _ _ it fp tn h'.objs.size _ s2.gens.size code q ⟨⟨ps ++ more, upd_same, by rw [← em]; exact ht3⟩, fun b hb => upd_ne hb⟩ I3 T fB st5 ⟨_, _, rfl⟩ (Heap.get?_push_size _ rfl) (fun hb => ?_) (Array.getElem?_push_size ..) ?_
    · have q1 : h'.objs.size < h3.objs.size := (fB _ hb).2
      rw [hsz'] at q1
      exact absurd (Nat.lt_trans (Nat.lt_succ_self _) q1) (Nat.lt_irrefl _)
    · refine gen_start (code := code) I3 ok hN fB hcell hr.hd ?_ rfl (by show h3.objs.size < h'.objs.size; omega) (Heap.get?_push_size _ rfl) (fun v z => by cases z) keep5 ⟨_, hn'.push _⟩
      show pushEnvs [_] (pushEnvs [] X.A.frames) = _
      rw [I.ok.frames]
      rfl
  cases hf : codeAmong gpos ps.toList with
  | none =>
    refine wpAny_genexprCodeX hcode (cd.code hPs ht) (cd.tab hPs) hf fun c' h' tk hx hge hlt hco' _ htab' _ => ?_
    obtain ⟨o1, vs, f1, tf, fl, tg, inF, tx, tt, op, _, _, _, _, _, _, _, _, _, htr, _⟩ := hco'
    exact cont _ h' tk _ hx (Nat.le_trans hge (Nat.le_of_lt hlt)) htab'.2 ⟨_, rfl⟩ htr
  | some cv =>
    refine wpAny_genexprCode_hit hcode (cd.code hPs ht) hf ?_
    exact cont cv s2.heap s2.toks ps (Heap.ExtBut.refl _ _) (Nat.le_refl _) hPs ⟨#[], by simp⟩ ht
theorem pe_allG (hr : Room (k + 1) X.A) (TB : GxR.TabB X.base X.mg c P) (hN : X.N.Nodup) (ok : BlkOk X.N X.env.scope scope own) (hcell' : (scope.names.all fun y => decide (y.2 ≠ .cell)) = true) (hi : PI X tg iter wi) (hm : X.mg "all" = none)
    (hgt : ∀ (A' : Around) (s : Shared) (H : Hp) (C : Addr) (code : Value) (fp : List Addr) (pn : List (Addr × Obj)), Room k A' → PG (genX X A' s H (genE X scope C code) fp pn) tg g)
    (he : ∀ (A' : Around) (s : Shared) (H : Hp) (C : Addr) (code : Value) (fp : List Addr) (pn : List (Addr × Obj)), Room k A' → PE (genX X A' s H (genE X scope C code) fp pn) elt te)
    (hcode : X.env.code = .ref c := by rfl) (hc : X.calm = true := by rfl) (hg : Gl X "all" := by rfl) (hco : scope.isCoroutine = false := by rfl) (h0 : scope.names.lookup (".0" : Str) = some NameKind.local := by rfl)
    (hs : ∀ v, genFold iter X.env v = pure v := by intro _; rfl)
    (hse : starEach [(.GeneratorExp elt [⟨tg, iter, [], 0⟩] scope gpos)] X.env = (false, eval (.GeneratorExp elt [⟨tg, iter, [], 0⟩] scope gpos) X.env) :: starEach [] X.env := by rfl) :
    PE X (.Call (.Name "all" p) [(.GeneratorExp elt [⟨tg, iter, [], 0⟩] scope gpos)] [] pos) (tAllG P wi g te (own.map (·.2))) := by
  refine ⟨fun pins s σ H Q I h => ?_⟩
  refine wpAny_Call_Name_kw (ld_blt I hg hm (show bootBuiltins "all" = some (.builtin "all") by decide +kernel) ?_)
  refine PyProof.Rows.callWith_builtin1 ?_ hse (by rfl)
  rw [hse]
  show wpAny _ _ (spliced ((false, eval (.GeneratorExp elt [⟨tg, iter, [], 0⟩] scope gpos) X.env) :: backTo pos (starEach [] X.env))) _ _ s
  refine Calls.spliced_cons (gen_made hr TB hN ok hcell' hi hcode hco h0 hs I h fun J H1 HB sB s5 it fp tn a gobj gn code q hTb IB T fB st5 hgo ha haf hgs I5 => ?_)
  refine Calls.spliced_nil ?_
  obtain ⟨W, ⟨m0, w0⟩, turns⟩ := q HB hTb
  obtain ⟨nm, qn, rfl⟩ := hgo
  have hgen : ∀ h : Heap, h.get? a = some (gobjOf gn nm qn) → h.IsGen a gn := fun h e => ⟨_, nm, qn, e, rfl, rfl, rfl⟩
  have hA : Room k (X.A.in1.in1.over (.compLoop (.GeneratorExp elt [⟨tg, iter, [], 0⟩] scope gpos) 0 (.ref it) .none (genE X scope sB.heap.objs.size code)) []) := by
    refine ⟨hr.hd, ?_, ?_⟩
    · have := hr.dp
      show X.A.depth + 0 + 1 + 3 * k + 5 < _
      omega
    · have := hr.un
      show X.A.units + 1 + 1 + 0 + 3 + 16 * k + 200 < _
      omega
  have back : ∀ {s1 : Shared} {H' : Hp} {pins' : List (Addr × Obj)} {σ' : L2.St} (s' : Shared), Inv (genX X (X.A.in1.in1.over (.compLoop (.GeneratorExp elt [⟨tg, iter, [], 0⟩] scope gpos) 0 (.ref it) .none (genE X scope sB.heap.objs.size code)) []) sB HB (genE X scope sB.heap.objs.size code) fp [(a, gobjOf gn nm qn)]) pins' σ' H' s1 → s'.os = s1.os → (∀ b o, s1.heap.get? b = some o → s'.heap.get? b = some o) → AllBare s'.gens → Inv X pins σ H' s' :=
    fun s' I1 ho hk hgb => IB.call' (ch := fp) (ho.trans I1.os) (I1.base.trans (Un.kept hk)) (I1.hok.kept hk) hgb fun b hb => ⟨(fB b hb).1.2.2.2.1, (fB b hb).1.2.1, (fB b hb).1.2.2.2.2.1, (fB b hb).1.2.2.2.2.2⟩
  refine call_function_tree F.kind_all F.plain_all F.entry_all (F.args_all1 _) ?_
  unfold Builtin.«all»
  refine wpAny_bind (m := oneArg "all" _) (wpAny_pure ?_)
  refine wpAny_bind (wpAny_pyIter_gen (hgen _ ha) ?_)
  refine wpAny_pure ⟨plainId_quiet F.plain_all_loop _, all_loop (X := X) (sB := sB) (HB := HB) (own := own.map (·.2)) (σ := σ) (Qt := Q (.bl true)) (Qf := Q (.bl false)) (fp := fp) (pn := [(a, gobjOf gn nm qn)]) (gobj := gobjOf gn nm qn) (ce := (genE X scope sB.heap.objs.size code)) (tg := tg) (iter := iter) (elt := elt) (scope := scope) (pos := gpos) (it := it) hr.hd (by have := hr.dp; omega) rfl hgen
    (fun s1 H' I1 qt h' hk => ?_) (fun s1 H' pins' σ' gs' hb I1 qf => ?_) (m0 + 1) s5 (hgen _ ha) I5.nolimit ⟨_, hgs, rfl, ?_⟩⟩
  · exact ⟨.bl true, H', back _ I1 rfl hk (allBare_setGen I1.bare rfl), rfl, qt⟩
  · exact ⟨.bl false, H', back _ I1 rfl (fun _ _ e => e) (allBare_setGen I1.bare hb), rfl, qf⟩
  · have I5' := regens (s' := s5.setGen gn .running) I5 rfl rfl (allBare_setGen I5.bare rfl)
    refine seg_allStart T st5 (seg_allLoop (own := own.map (·.2)) hc T turns hco (fun p hp => ?_) (hgt _ _ _ _ _ _ _ hA) (he _ _ _ _ _ _ _ hA) (m0 + 1) 0 m0 _ _ HB (Nat.lt_succ_self _) w0 I5' st5 fun b hb => (fB b hb).1.1)
    rw [List.mem_singleton.mp hp]
    exact haf
end
end GA
def top (i : Nat) : Stmt := PySem.Challenge.pw_stemkeep_k01_worths_keys_references.main.body.getD i (.Pass ⟨0, 0, 0, 0⟩)
abbrev sIsWorth : Stmt := top 5
theorem scIsWorth : FnScope ["thing", "sign"] ["thing"] (defScope sIsWorth) := ⟨rfl, rfl, rfl, by decide +kernel, rfl, by decide +kernel, by decide +kernel⟩
abbrev sIsKey : Stmt := top 6
theorem scIsKey : FnScope ["thing"] ["thing"] (defScope sIsKey) := ⟨rfl, rfl, rfl, by decide +kernel, rfl, by decide +kernel, by decide +kernel⟩
abbrev sIsName : Stmt := top 7
theorem scIsName : FnScope ["thing", "sign"] ["thing"] (defScope sIsName) := ⟨rfl, rfl, rfl, by decide +kernel, rfl, by decide +kernel, by decide +kernel⟩
abbrev sIsRow : Stmt := top 8
theorem scIsRow : FnScope ["thing", "key"] ["thing"] (defScope sIsRow) := ⟨rfl, rfl, rfl, by decide +kernel, rfl, by decide +kernel, by decide +kernel⟩
abbrev sIsPair : Stmt := top 9
theorem scIsPair : FnScope ["thing"] ["thing"] (defScope sIsPair) := ⟨rfl, rfl, rfl, by decide +kernel, rfl, by decide +kernel, by decide +kernel⟩
abbrev sIsReference : Stmt := top 10
theorem scIsReference : FnScope ["thing"] ["thing"] (defScope sIsReference) := ⟨rfl, rfl, rfl, by decide +kernel, rfl, by decide +kernel, by decide +kernel⟩
abbrev sLawCellAt : Stmt := top 12
theorem scLawCellAt : FnScope ["script", "k"] ["script", "k"] (defScope sLawCellAt) := ⟨rfl, rfl, rfl, by decide +kernel, rfl, by decide +kernel, by decide +kernel⟩
abbrev sLawBag : Stmt := top 13
theorem scLawBag : FnScope ["cell", "nth"] ["cell", "nth"] (defScope sLawBag) := ⟨rfl, rfl, rfl, by decide +kernel, rfl, by decide +kernel, by decide +kernel⟩
abbrev sLawDraw : Stmt := top 14
theorem scLawDraw : FnScope ["bag", "many", "mixed", "found"] ["bag", "many"] (defScope sLawDraw) := ⟨rfl, rfl, rfl, by decide +kernel, rfl, by decide +kernel, by decide +kernel⟩
abbrev sLawSigns : Stmt := top 15
theorem scLawSigns : FnScope ["few"] [] (defScope sLawSigns) := ⟨rfl, rfl, rfl, by decide +kernel, rfl, by decide +kernel, by decide +kernel⟩
abbrev sLawText : Stmt := top 16
theorem scLawText : FnScope ["bag", "most", "lot", "some", "many", "number", "near", "k"] ["bag", "most"] (defScope sLawText) := ⟨rfl, rfl, rfl, by decide +kernel, rfl, by decide +kernel, by decide +kernel⟩
abbrev sLawName : Stmt := top 17
theorem scLawName : FnScope ["bag", "some", "many", "k"] ["bag"] (defScope sLawName) := ⟨rfl, rfl, rfl, by decide +kernel, rfl, by decide +kernel, by decide +kernel⟩
abbrev sLawKey : Stmt := top 18
theorem scLawKey : FnScope ["bag", "found"] ["bag"] (defScope sLawKey) := ⟨rfl, rfl, rfl, by decide +kernel, rfl, by decide +kernel, by decide +kernel⟩
abbrev sLawRef : Stmt := top 19
theorem scLawRef : FnScope ["bag", "many", "k"] ["bag"] (defScope sLawRef) := ⟨rfl, rfl, rfl, by decide +kernel, rfl, by decide +kernel, by decide +kernel⟩
abbrev sLawOdd : Stmt := top 20
theorem scLawOdd : FnScope ["bag", "some"] ["bag"] (defScope sLawOdd) := ⟨rfl, rfl, rfl, by decide +kernel, rfl, by decide +kernel, by decide +kernel⟩
abbrev sLawTurned : Stmt := top 21
theorem scLawTurned : FnScope ["bag", "thing", "deep", "row", "at", "lot", "some", "nth", "every", "sign"] ["bag", "thing", "deep"] (defScope sLawTurned) := ⟨rfl, rfl, rfl, by decide +kernel, rfl, by decide +kernel, by decide +kernel⟩
abbrev sLawIsWorth : Stmt := top 22
theorem scLawIsWorth : FnScope ["thing", "signs", "sign"] ["thing"] (defScope sLawIsWorth) := ⟨rfl, rfl, rfl, by decide +kernel, rfl, by decide +kernel, by decide +kernel⟩
abbrev sLawIsKey : Stmt := top 23
theorem scLawIsKey : FnScope ["thing"] ["thing"] (defScope sLawIsKey) := ⟨rfl, rfl, rfl, by decide +kernel, rfl, by decide +kernel, by decide +kernel⟩
abbrev sLawIsName : Stmt := top 24
theorem scLawIsName : FnScope ["thing", "sign"] ["thing"] (defScope sLawIsName) := ⟨rfl, rfl, rfl, by decide +kernel, rfl, by decide +kernel, by decide +kernel⟩
abbrev sLawIsReference : Stmt := top 25
theorem scLawIsReference : FnScope ["thing", "key"] ["thing"] (defScope sLawIsReference) := ⟨rfl, rfl, rfl, by decide +kernel, rfl, by decide +kernel, by decide +kernel⟩
abbrev sLawRight : Stmt := top 26
theorem scLawRight : FnScope ["thing", "due", "found", "one"] ["thing"] (defScope sLawRight) := ⟨rfl, rfl, rfl, by decide +kernel, rfl, by decide +kernel, by decide +kernel⟩
abbrev sLaw : Stmt := top 27
theorem scLaw : FnScope ["script", "k", "bag", "thing", "turn"] ["script"] (defScope sLaw) := ⟨rfl, rfl, rfl, by decide +kernel, rfl, by decide +kernel, by decide +kernel⟩
structure Tabs where
  c_is_worth : Addr
  p_is_worth : Addr
  c_is_name : Addr
  p_is_name : Addr
  c_is_row : Addr
  p_is_row : Addr
theorem tabB_of {base : Heap} {mg : Str → Option Value} {c P : Addr} (h : LamX.TabB base mg c P) : GxR.TabB base mg c P := ⟨h.code, h.bm, h.gP⟩
structure Txt (K : PySem.W.Frag) (mg : Str → Option Value) (cs : Tabs) : Prop where
  f_is_worth : Ftc K mg "is_worth" sIsWorth ["thing"] cs.c_is_worth
  f_is_key : Ftx K mg "is_key" sIsKey ["thing"]
  f_is_name : Ftc K mg "is_name" sIsName ["thing"] cs.c_is_name
  f_is_row : Ftc K mg "is_row" sIsRow ["thing"] cs.c_is_row
  f_is_pair : Ftx K mg "is_pair" sIsPair ["thing"]
  f_is_reference : Ftx K mg "is_reference" sIsReference ["thing"]
  f_law_cell_at : Ftx K mg "_law_cell_at" sLawCellAt ["script", "k"]
  f_law_bag : Ftx K mg "_law_bag" sLawBag ["cell", "nth"]
  f_law_draw : Ftx K mg "_law_draw" sLawDraw ["bag", "many"]
  f_law_signs : Ftx K mg "_law_signs" sLawSigns []
  f_law_text : Ftx K mg "_law_text" sLawText ["bag", "most"]
  f_law_name : Ftx K mg "_law_name" sLawName ["bag"]
  f_law_key : Ftx K mg "_law_key" sLawKey ["bag"]
  f_law_ref : Ftx K mg "_law_ref" sLawRef ["bag"]
  f_law_odd : Ftx K mg "_law_odd" sLawOdd ["bag"]
  f_law_turned : Ftx K mg "_law_turned" sLawTurned ["bag", "thing", "deep"]
  f_law_is_worth : Ftx K mg "_law_is_worth" sLawIsWorth ["thing"]
  f_law_is_key : Ftx K mg "_law_is_key" sLawIsKey ["thing"]
  f_law_is_name : Ftx K mg "_law_is_name" sLawIsName ["thing"]
  f_law_is_reference : Ftx K mg "_law_is_reference" sLawIsReference ["thing"]
  f_law_right : Ftx K mg "_law_right" sLawRight ["thing"]
  f_law : Ftx K mg "law" sLaw ["script"]
  n_all : mg "all" = none
  n_range : mg "range" = none
  n_isinstance : mg "isinstance" = none
  n_str : mg "str" = none
  n_tuple : mg "tuple" = none
  n_len : mg "len" = none
  n_max : mg "max" = none
  n_list : mg "list" = none
  n_int : mg "int" = none
  n_bool : mg "bool" = none
  n_min : mg "min" = none
  n_ord : mg "ord" = none
  g__PERCENT : ∃ u, mg "_PERCENT" = some u ∧ RelV (.int 37) u
  g__LONGEST_KEY : ∃ u, mg "_LONGEST_KEY" = some u ∧ RelV (.int 40) u
  g__LONGEST_NAME : ∃ u, mg "_LONGEST_NAME" = some u ∧ RelV (.int 8) u
  g_MOST_KEYS : ∃ u, mg "MOST_KEYS" = some u ∧ RelV (.int 6) u
structure TBs (base : Heap) (mg : Str → Option Value) (cs : Tabs) : Prop where
  triv : True
  b_is_worth : GxR.TabB base mg cs.c_is_worth cs.p_is_worth
  b_is_name : GxR.TabB base mg cs.c_is_name cs.p_is_name
  b_is_row : GxR.TabB base mg cs.c_is_row cs.p_is_row
structure TGs (H : Hp) (cs : Tabs) : Prop where
  triv : True
  t_is_worth : GxR.TabG H cs.p_is_worth
  t_is_name : GxR.TabG H cs.p_is_name
  t_is_row : GxR.TabG H cs.p_is_row
theorem TGs.sm {H H' : Hp} {cs : Tabs} (t : TGs H cs) (S : Sm H H') : TGs H' cs := ⟨trivial, S.tab _ t.t_is_worth, S.tab _ t.t_is_name, S.tab _ t.t_is_row⟩
theorem TGs.go {b : Addr} {n : Nat} {H H' : Hp} {cs : Tabs} (t : TGs H cs) (S : Go b n H H') : TGs H' cs := ⟨trivial, S.tab _ t.t_is_worth, S.tab _ t.t_is_name, S.tab _ t.t_is_row⟩
/-! ### a draw -/
def spDraw : Sp := fun vs H Q _ => ∃ (b : Addr) (many : Int) (m : Nat), vs = [.ref b, .int many] ∧ Bag H b m ∧ m ≤ LIM ∧ 0 < many ∧ many < 2 ^ 256 ∧ ∀ (r : Int) (H' : Hp), 0 ≤ r → r < many → Go b 1 H H' → Q (.int r) H'
theorem nat_lt {i : Int} {n : Nat} (h0 : 0 ≤ i) (h : i < ((2 ^ n : Nat) : Int)) : i.natAbs < 2 ^ n := by omega
theorem draw_set {b : Addr} {m : Nat} {H : Hp} {x y z x' z' : Int} (hb : H b = some (.lst [.int x, .int y, .int z])) (hz : z' = z ∨ z' = z + 1) : Go b 1 H (upd H b (.lst [.int x', .int y, .int z'])) := by
  refine ⟨fun a o e h _ => by rw [upd_ne e]; exact h, fun k hk => ?_, fun P t => TabG.upd t (no_tbl hb), fun a ha => by
    by_cases e : a = b
    · rw [e, upd_same] at ha
      cases ha
    · rw [upd_ne e] at ha
      exact ha⟩
  obtain ⟨x1, y1, z1, h1, h2, h3, h4, h5⟩ := hk
  rw [hb] at h1
  injection h1 with h1
  injection h1 with h1
  injection h1 with e1 h1
  injection h1 with e2 h1
  injection h1 with e3 h1
  injection e1 with e1
  injection e2 with e2
  injection e3 with e3
  subst e1 e2 e3
  exact ⟨x', y, z', upd_same, h2, h3, by omega, by omega⟩
section
variable {P : Program} {w : World} {K : PySem.W.Frag} {mg : Str → Option Value} {base : Heap} {cs : Tabs}
theorem ok_law_draw (T : Txt K mg cs) : Cal P w K mg base 1 "_law_draw" ["bag", "many"] spDraw := by
  refine T.f_law_draw.cal scLawDraw (fun vs H Q E h => ?_) (fun f cdv A outer s H vs Q E hr h => ?_)
  · obtain ⟨b, many, m, rfl, _⟩ := h
    rfl
  obtain ⟨b, many, m, rfl, B, hm, h0, h1, q⟩ := h
  obtain ⟨x, y, z, hb, y0, y1, z0, z1⟩ := id B
  refine ⟨_, (pss_cons (ps_if (pt_cmpR op_gt (pe_ix (ixL K) (pv 0) pe_int (fun _ _ => rfl)) pe_int (nomark _)) (pss_cons (ps_set (i := 3) scLawDraw.nd rfl (by first | exact Or.inl rfl | exact Or.inr rfl) (pe_op op_mod (pe_ix (ixL K) (pv 0) pe_int (fun _ _ => rfl)) (pv 1)))
        (pss_cons (ps_asg (pe_op op_fdivW (pe_ix (ixL K) (pv 0) pe_int (fun _ _ => rfl)) (pv 1)) (pg_sub (pv 0) pe_int set_list))
        (pss_one (ps_ret (pv 3))))) pss_nil)
    (pss_cons (ps_asg (pe_op op_add (pe_ix (ixL K) (pv 0) pe_int (fun _ _ => rfl)) pe_int) (pg_sub (pv 0) pe_int set_list))
    (pss_cons (ps_set (i := 2) scLawDraw.nd rfl (by first | exact Or.inl rfl | exact Or.inr rfl) (pe_op op_mod (pe_op op_powW (pe_op op_add (pe_ix (ixL K) (pv 0) pe_int (fun _ _ => rfl)) (pe_op op_mulW pe_int (pe_ix (ixL K) (pv 0) pe_int (fun _ _ => rfl)))) pe_int) pe_int))
    (pss_cons (ps_set (i := 2) scLawDraw.nd rfl (by first | exact Or.inl rfl | exact Or.inr rfl) (pe_op op_mod (pe_op op_powW (pe_op op_add (pv 2) (pe_op op_mulW pe_int (pe_ix (ixL K) (pv 0) pe_int (fun _ _ => rfl)))) pe_int) pe_int))
    (pss_one (ps_ret (pe_op op_mod (pe_op op_fdivW (pv 2) pe_int) (pv 1)))))))), ?_⟩
  have hS : SqL K H b [.int x, .int y, .int z] := SqL.of hb
  have hdiv : CDivW x many := wide_div (b := 256) h0 (nat_lt (by omega) h1) (by decide) (by decide)
  refine ⟨_, rfl, b, _, 0, .int x, rfl, rfl, hS, rfl, x, 1, rfl, rfl, _, rfl, ?_⟩
  refine ite2 (fun c => ?_) (fun c => ?_)
  · refine ⟨_, rfl, b, _, 0, .int x, rfl, rfl, hS, rfl, _, rfl, x, many, rfl, rfl, h0, ?_⟩
    refine ⟨_, rfl, b, _, 0, .int x, rfl, rfl, hS, rfl, _, rfl, x, many, rfl, rfl, hdiv, ?_⟩
    refine ⟨_, rfl, b, [.int x, .int y, .int z], 0, 0, rfl, rfl, hb, rfl, ?_⟩
    exact ⟨_, rfl, q _ _ (Int.emod_nonneg x (by omega)) (Int.emod_lt_of_pos x h0) (draw_set (m := m) hb (.inl rfl))⟩
  · refine ⟨_, rfl, b, _, 2, .int z, rfl, rfl, hS, rfl, z, 1, rfl, rfl, ?_⟩
    refine ⟨_, rfl, b, [.int x, .int y, .int z], 2, 2, rfl, rfl, hb, rfl, ?_⟩
    have hb1 : (upd H b (.lst [.int x, .int y, .int (z + 1)])) b = some (.lst [.int x, .int y, .int (z + 1)]) := upd_same
    have hS1 : SqL K (upd H b (.lst [.int x, .int y, .int (z + 1)])) b [.int x, .int y, .int (z + 1)] := SqL.of hb1
    unfold LIM at hm
    have e3 : ((3 : Int)).toNat = 3 := rfl
    have ez : (z + 1).natAbs < 2 ^ 40 := nat_lt (by omega) (by omega)
    refine ⟨_, rfl, b, _, 1, .int y, rfl, rfl, hS1, rfl, _, rfl, b, _, 2, .int (z + 1), rfl, rfl, hS1, rfl, 67867967, z + 1, rfl, rfl, wide_mul (a := 40) (b := 40) (by decide) ez (by decide) (by decide) (by decide), y, 67867967 * (z + 1), rfl, rfl,
      y + 67867967 * (z + 1), 3, rfl, rfl, ⟨by decide, by decide, pow_ok (n := 300) (nat_lt (by omega) (by omega)) (by decide) (by decide)⟩, _, 170141183460469231731687303715884105727, rfl, rfl, (show (0 : Int) < 170141183460469231731687303715884105727 by decide), ?_⟩
    have r0 := Int.emod_nonneg ((y + 67867967 * (z + 1)) ^ ((3 : Int)).toNat) (show (170141183460469231731687303715884105727 : Int) ≠ 0 by decide)
    have r1 := Int.emod_lt_of_pos ((y + 67867967 * (z + 1)) ^ ((3 : Int)).toNat) (show (0 : Int) < 170141183460469231731687303715884105727 by decide)
    obtain ⟨r, er⟩ : ∃ r : Int, (y + 67867967 * (z + 1)) ^ ((3 : Int)).toNat % 170141183460469231731687303715884105727 = r := ⟨_, rfl⟩
    rw [er] at r0 r1
    refine ⟨_, rfl, _, rfl, b, _, 2, .int (z + 1), rfl, rfl, hS1, rfl, 49979687, z + 1, rfl, rfl, wide_mul (a := 40) (b := 40) (by decide) ez (by decide) (by decide) (by decide), r, 49979687 * (z + 1), congrArg V.int er, rfl,
      r + 49979687 * (z + 1), 3, rfl, rfl, ⟨by decide, by decide, pow_ok (n := 300) (nat_lt (by omega) (by omega)) (by decide) (by decide)⟩, _, 162259276829213363391578010288127, rfl, rfl, (show (0 : Int) < 162259276829213363391578010288127 by decide), ?_⟩
    obtain ⟨t, et⟩ : ∃ t : Int, (r + 49979687 * (z + 1)) ^ ((3 : Int)).toNat % 162259276829213363391578010288127 = t := ⟨_, rfl⟩
    refine ⟨_, rfl, t, 4096, congrArg V.int et, rfl, wide_div (b := 1000) (by decide) (by decide) (by decide) (by decide), _, rfl, t / 4096, many, rfl, rfl, h0, ?_⟩
    exact q _ _ (Int.emod_nonneg _ (by omega)) (Int.emod_lt_of_pos _ h0) (draw_set (m := m) hb (.inr rfl))
end
/-! ### texts, menus, comprehensions of draws -/
/-- a sign of worths -/
def sgn (c : Nat) : Bool := decide (32 ≤ c) && (decide (c ≤ 126) && !decide (c = 37))
/-- a text of signs of worths, of at most n signs -/
structure WT (z : Str) (n : Nat) : Prop where
  len : (tl z).length ≤ n
  sg : ∀ c ∈ tl z, sgn c = true
theorem WT.mono {z : Str} {n m : Nat} (h : WT z n) (l : n ≤ m) : WT z m := ⟨Nat.le_trans h.len l, h.sg⟩
theorem WT.line {z : Str} {n : Nat} (h : WT z n) (l : n ≤ 100000) : z.length ≤ sizeLine := by
  rw [len_tl]
  exact small (Nat.le_trans h.len l)
theorem tl_cut (z : Str) (k : Nat) : tl (cutS z none (some (k : Int))) = (tl z).take k := by
  show (((z.cps.toList.drop (HT.sIx z.length 0 none)).take (HT.sIx z.length z.length (some (k : Int)) - HT.sIx z.length 0 none)).toArray).toList = _
  rw [HT.sIx_none, HT.sIx_nat, List.drop_zero, Nat.sub_zero, List.toList_toArray]
  have e : z.length = (tl z).length := len_tl z
  rw [e]
  show (tl z).take (min k (tl z).length) = _
  by_cases h : k ≤ (tl z).length
  · rw [Nat.min_eq_left h]
  · rw [Nat.min_eq_right (by omega), List.take_of_length_le (Nat.le_refl _), List.take_of_length_le (by omega)]
theorem WT.cut {z : Str} (h : ∀ c ∈ tl z, sgn c = true) (k : Nat) : WT (cutS z none (some (k : Int))) k :=
  ⟨by rw [tl_cut, List.length_take]; exact Nat.min_le_left _ _, fun c hc => h c (by rw [tl_cut] at hc; exact List.mem_of_mem_take hc)⟩
theorem WT.int {i : Int} {k : Nat} (hk : 0 < k) (h : i.natAbs < 10 ^ k) : WT (Str.ofString (toString i)) (k + 1) := by
  refine ⟨?_, fun c hc => ?_⟩
  · rw [← len_tl, PySem.ofString_length]
    exact PySem.int_text_length_le10 hk h
  · have f := fun q hq => PyProof.Rows.int_text_free' q hq i
    have z : ¬ (c ≠ 45 ∧ (c < 48 ∨ 57 < c)) := fun q => f c q hc
    unfold sgn
    by_cases e : c = 45
    · subst e; rfl
    · have q : 48 ≤ c ∧ c ≤ 57 := by omega
      rw [decide_eq_true (show 32 ≤ c by omega), decide_eq_true (show c ≤ 126 by omega), decide_eq_false (show ¬ c = 37 by omega)]
      rfl
theorem joinL_nil : ∀ ps : List (List Nat), joinL [] ps = ps.flatten
  | [] => rfl
  | [p] => by
    show p = [p].flatten
    simp
  | p :: q :: r => by
    show p ++ ([] ++ joinL [] (q :: r)) = _
    rw [joinL_nil (q :: r), List.nil_append]
    rfl
theorem tl_glue (ys : List Str) : tl (Txt.join "" ys) = (ys.map tl).flatten := by
  rw [join_eq, tl_join]
  exact joinL_nil _
theorem flat_len {k : Nat} : ∀ ys : List Str, (∀ y ∈ ys, (tl y).length ≤ k) → (ys.map tl).flatten.length ≤ k * ys.length
  | [], _ => by simp
  | y :: r, h => by
    have a := h y List.mem_cons_self
    have b := flat_len r fun z hz => h z (List.mem_cons_of_mem _ hz)
    rw [List.map_cons, List.flatten_cons, List.length_append, List.length_cons, Nat.mul_succ]
    omega
theorem WT.glue {k : Nat} {ys : List Str} (h : ∀ y ∈ ys, WT y k) : WT (Txt.join "" ys) (k * ys.length) := by
  refine ⟨by rw [tl_glue]; exact flat_len ys fun y hy => (h y hy).len, fun c hc => ?_⟩
  rw [tl_glue] at hc
  obtain ⟨l, hl, hcl⟩ := List.mem_flatten.mp hc
  obtain ⟨y, hy, rfl⟩ := List.mem_map.mp hl
  exact (h y hy).sg c hcl
theorem glue_sum {k : Nat} : ∀ ys : List Str, (∀ y ∈ ys, (tl y).length ≤ k) → (ys.map (·.length)).sum ≤ k * ys.length
  | [], _ => by simp
  | y :: r, h => by
    have a := h y List.mem_cons_self
    have b := glue_sum r fun z hz => h z (List.mem_cons_of_mem _ hz)
    have c : y.length = (tl y).length := len_tl y
    rw [List.map_cons, List.sum_cons, List.length_cons, Nat.mul_succ]
    omega
theorem glue_ok {k n : Nat} {ys : List Str} (h : ∀ y ∈ ys, (tl y).length ≤ k) (hl : ys.length = n) (hb : k * n ≤ 1000000) : (ys.map (·.length)).sum + ys.length * ("" : Str).length ≤ 16777216 := by
  have a := glue_sum ys h
  rw [hl] at a
  have e : ("" : Str).length = 0 := rfl
  rw [e]
  omega
/-- texts as values: what a list of values that are texts holds -/
theorem texts_of {P : Str → Prop} : ∀ vs : List V, (∀ v ∈ vs, ∃ y, v = .str y ∧ P y) → ∃ ys : List Str, vs = ys.map V.str ∧ ys.length = vs.length ∧ ∀ y ∈ ys, P y
  | [], _ => ⟨[], rfl, rfl, fun _ h => by cases h⟩
  | v :: r, h => by
    obtain ⟨y, rfl, hy⟩ := h v List.mem_cons_self
    obtain ⟨ys, rfl, e, hp⟩ := texts_of r fun z hz => h z (List.mem_cons_of_mem _ hz)
    refine ⟨y :: ys, rfl, by rw [List.length_cons, List.length_cons, e], fun z hz => ?_⟩
    rcases List.mem_cons.mp hz with rfl | hz
    · exact hy
    · exact hp z hz
section
variable {K : PySem.W.Frag}
/-- the n-th of a list that is written on the spot, n drawn -/
theorem menuG {A : V → Prop} {b : Addr} {i n c m : Nat} {σ : L2.St} {H : Hp} {ta : TA} {Q : VK} (ha : ∀ R : List V → Hp → Prop, (∀ xs H1, xs.length = n → (∀ v ∈ xs, A v) → Go b c H H1 → R xs H1) → ta σ H R)
    (hb : σ[i]? = some (some (.ref b))) (B : Bag H b m) (hm : m + c ≤ LIM) (h0 : 0 < n) (hn : n ≤ 1000) (q : ∀ v H', A v → Go b (c + 1) H H' → Q v H') : tOp (rIxL K) (tLst ta) (tCall spDraw [] E0 (tCons (tVar i) (tCons (tC (.int ((n : Nat) : Int))) tNil))) σ H Q := by
  refine ha _ fun xs H1 hl hA G => ⟨small (by omega), fun p hp => ?_⟩
  have B1 := (Go.new (o := .lst xs) hp).bag _ (G.bag _ B)
  refine ⟨_, hb, b, (n : Int), _, rfl, B1, by omega, by omega, by omega, fun r H' r0 r1 G' => ?_⟩
  have hp' : (upd H1 p (.lst xs)) p = some (.lst xs) := upd_same
  have np : p ≠ b := (G.bag _ B).ne hp
  obtain ⟨j, rfl⟩ : ∃ j : Nat, r = (j : Int) := ⟨r.toNat, by omega⟩
  have hj : j < xs.length := by omega
  refine ⟨p, xs, (j : Int), xs[j], rfl, rfl, SqL.of (G'.keep p _ np hp'), atI_nat (List.getElem?_eq_getElem hj), ?_⟩
  exact q _ _ (hA _ (List.getElem_mem hj)) ((G.trans ((Go.new hp).trans G')).mono (by omega))
/-- .. of values that are there -/
theorem menuC {A : V → Prop} {b : Addr} {i m : Nat} {xs : List V} {σ : L2.St} {H : Hp} {ta : TA} {Q : VK} (ha : ∀ R : List V → Hp → Prop, R xs H → ta σ H R) (hA : ∀ v ∈ xs, A v)
    (hb : σ[i]? = some (some (.ref b))) (B : Bag H b m) (hm : m ≤ LIM) (h0 : 0 < xs.length) (hn : xs.length ≤ 1000) (q : ∀ v H', A v → Go b 1 H H' → Q v H') : tOp (rIxL K) (tLst ta) (tCall spDraw [] E0 (tCons (tVar i) (tCons (tC (.int ((xs.length : Nat) : Int))) tNil))) σ H Q :=
  menuG (n := xs.length) (c := 0) (fun R h => ha R (h _ _ rfl hA (Go.refl b H))) hb B hm h0 hn fun v H' hv G => q v H' hv (G.mono (by omega))
theorem draw_here {b : Addr} {i m : Nat} {many : Int} {σ : L2.St} {H : Hp} {Q : VK} (hb : σ[i]? = some (some (.ref b))) (B : Bag H b m) (hm : m ≤ LIM) (h0 : 0 < many) (hn : many < 2 ^ 256) (q : ∀ (r : Int) (H' : Hp), 0 ≤ r → r < many → Go b 1 H H' → Q (.int r) H') :
    tCall spDraw [] E0 (tCons (tVar i) (tCons (tC (.int many)) tNil)) σ H Q := ⟨_, hb, b, many, m, rfl, B, hm, h0, hn, q⟩
/-- [e for k in range(n)], e by draws of the bag at b: a new list of n values that are so -/
theorem lc_draws {b : Addr} {i n c m : Nat} {σ : L2.St} {H1 : Hp} {D : Addr} {te : TE} {Q : VK} (A : V → Prop) (B : Bag H1 b m) (hD : H1 D = none) (hn : n ≤ 90000)
    (he : ∀ (j : Nat) (H : Hp), j < n → Bag H b (m + c * j) → Go b (c * j) H1 H → ∀ R : VK, (∀ y H', A y → Go b c H H' → R y H') → te ((σ.set i none).set i (some (.int (0 + (j : Int))))) H R)
    (hQ : ∀ ys H', ys.length = n → (∀ y ∈ ys, A y) → Go b (c * n) H1 H' → H' D = some (.lst ys) → Q (.ref D) H') :
    ∃ W : Nat → Nat → Hp → Prop, (∃ k, W 0 k (upd H1 D (.lst []))) ∧ ∀ j k H, W j k H →
      ((Itr 0 n).stop j H ∧ Q (.ref D) H) ∨ ((Itr 0 n).go j H ∧ ∃ Nx : Hp → Prop, (∀ H', Nx H' → ∃ k', k' < k ∧ W (j + 1) k' H') ∧ ∀ x H', (Itr 0 n).yld j H x H' → gName i x (wipe σ [i]) H' fun σ2 H2 => wipe σ2 [i] = wipe σ [i] ∧ tYes σ2 H2 fun b H3 =>
        if b = true then te σ2 H3 fun y H4 => ∃ acc, H4 D = some (.lst acc) ∧ acc.length < sizeLine ∧ Nx (upd H4 D (.lst (acc ++ [y]))) else Nx H3) := by
  have nD := B.ne hD
  refine lc_range (lo := 0) (n := n) (fun j H => ∃ ys : List V, ys.length = j ∧ (∀ y ∈ ys, A y) ∧ Go b (c * j) H1 H ∧ H D = some (.lst ys)) ⟨[], rfl, fun _ h => (by cases h), ?_, upd_same⟩ (fun j H hj hp => ?_) fun H hp => ?_
  · exact (Go.new hD).mono (by omega)
  · obtain ⟨ys, hl, hA, G, hy⟩ := hp
    refine ⟨?_, ?_⟩
    · show ((wipe σ [i]).set i (some (.int (0 + (j : Int))))).set i none = (σ.set i none)
      show ((σ.set i none).set i (some (.int (0 + (j : Int))))).set i none = (σ.set i none)
      rw [List.set_set, List.set_set]
    · show te ((σ.set i none).set i (some (.int (0 + (j : Int))))) H _
      refine he j H hj (G.bag _ B) G _ fun y H' hy' G' => ⟨ys, G'.keep D _ nD hy, small' (by omega), ys ++ [y], by rw [List.length_append, hl]; rfl, fun z hz => ?_, ?_, upd_same⟩
      · rcases List.mem_append.mp hz with hz | hz
        · exact hA z hz
        · rw [List.mem_singleton.mp hz]
          exact hy'
      · refine Go.own ((G.trans G').mono ?_) B hD (no_tbl (G'.keep D _ nD hy))
        rw [Nat.mul_succ]
        exact Nat.le_refl _
  · obtain ⟨ys, hl, hA, G, hy⟩ := hp
    exact hQ ys H hl hA G hy
theorem lc_drawn {b : Addr} {i N c c0 m : Nat} {σ : L2.St} {H : Hp} {ta : TA} {te : TE} {Q : VK} {A0 : Int → Prop} (A : V → Prop) (ha : ∀ R : List V → Hp → Prop, (∀ (k : Int) H1, A0 k → 0 ≤ k → k ≤ N → Go b c0 H H1 → R [.int k] H1) → ta σ H R) (B : Bag H b m) (hN : N ≤ 90000)
    (he : ∀ (j : Nat) (H2 : Hp), j < N → Bag H2 b (m + c0 + c * j) → Go b (c0 + c * j) H H2 → ∀ R : VK, (∀ y H', A y → Go b c H2 H' → R y H') → te ((σ.set i none).set i (some (.int (0 + (j : Int))))) H2 R)
    (hQ : ∀ (k : Int) D ys H', A0 k → 0 ≤ k → k ≤ N → ys.length = k.toNat → (∀ y ∈ ys, A y) → Go b (c0 + c * k.toNat) H H' → H' D = some (.lst ys) → H D = none → Q (.ref D) H') : tLc (iRng1 ta) (gName i) tYes te [i] σ H Q := by
  refine ha _ fun k H1 hk k0 k1 G => ⟨k, rfl, by omega, by omega, fun D hD => ?_⟩
  have B1 := G.bag _ B
  refine lc_draws (c := c) (i := i) (n := k.toNat) (te := te) A B1 hD (by omega) (fun j H2 hj B2 G2 R hR => ?_) fun ys H' hl hA G' hy => ?_
  · exact he j H2 (by omega) B2 (G.trans G2) R hR
  · exact hQ k D ys H' hk k0 k1 hl hA (G.trans G') hy (G.free B hD)
end
/-! ### the law's cells, bags, texts, names, keys, references -/
def spCellAt (K : PySem.W.Frag) : Sp := fun vs H Q _ => ∃ (a : Addr) (ns : List Int) (k : Nat), vs = [.ref a, .int (k : Int)] ∧ SqL K H a (ns.map V.int) ∧ ∀ c : Int, Q (.int c) H
def spBag : Sp := fun vs H Q _ => ∃ (c : Int) (k : Nat), vs = [.int c, .int (k : Int)] ∧ k ≤ 1000 ∧ ∀ (p : Addr) (H' : Hp), H p = none → Sm H H' → Bag H' p 0 → Q (.ref p) H'
def SIGNS : Str := " !\"#$&'()*+,-./0123456789:;<=>?@ABCDEFGHIJKLMNOPQRSTUVWXYZ[\\]^_`abcdefghijklmnopqrstuvwxyz{|}~"
def spSigns : Sp := fun vs H Q _ => vs = [] ∧ Q (.str SIGNS) H
def spText : Sp := fun vs H Q _ => ∃ (b : Addr) (most m : Nat), vs = [.ref b, .int (most : Int)] ∧ Bag H b m ∧ m + 2000 ≤ LIM ∧ most ≤ 1000 ∧ ∀ (z : Str) (H' : Hp), WT z most → Go b 1100 H H' → Q (.str z) H'
def AZ (c : Nat) : Bool := decide (97 ≤ c) && decide (c ≤ 122)
structure NM (z : Str) : Prop where
  len : (tl z).length ≤ 8
  pos : 1 ≤ (tl z).length
  sg : ∀ c ∈ tl z, AZ c = true
def spName : Sp := fun vs H Q _ => ∃ (b : Addr) (m : Nat), vs = [.ref b] ∧ Bag H b m ∧ m + 2000 ≤ LIM ∧ ∀ (z : Str) (H' : Hp), NM z → Go b 20 H H' → Q (.str z) H'
structure KEY (z : Str) : Prop where
  wt : WT z 40
  pos : 1 ≤ (tl z).length
def spKey : Sp := fun vs H Q _ => ∃ (b : Addr) (m : Nat), vs = [.ref b] ∧ Bag H b m ∧ m + 5000 ≤ LIM ∧ ∀ (z : Str) (H' : Hp), KEY z → Go b 1200 H H' → Q (.str z) H'
/-- a reference stands at p -/
structure RefAt (K : PySem.W.Frag) (H : Hp) (p : Addr) (name : Str) (keys : List Str) : Prop where
  ex : ∃ t : Addr, SqT K H p [.str name, .ref t] ∧ SqT K H t (keys.map V.str)
structure REF (name : Str) (keys : List Str) : Prop where
  nm : NM name
  le : keys.length ≤ 6
  ks : ∀ z ∈ keys, KEY z
def spRef (K : PySem.W.Frag) : Sp := fun vs H Q _ => ∃ (b : Addr) (m : Nat), vs = [.ref b] ∧ Bag H b m ∧ m + 20000 ≤ LIM ∧ ∀ (p : Addr) (name : Str) (keys : List Str) (H' : Hp), REF name keys → RefAt K H' p name keys → Go b 8000 H H' → Q (.ref p) H'
theorem sgn_of {z : Str} (h : (tl z).all sgn = true) : ∀ c ∈ tl z, sgn c = true := fun c hc => List.all_eq_true.mp h c hc
theorem WT.dec {z : Str} {n : Nat} (h : (decide ((tl z).length ≤ n) && (tl z).all sgn) = true) : WT z n := by
  rw [Bool.and_eq_true] at h
  exact ⟨of_decide_eq_true h.1, sgn_of h.2⟩
/-- all of a list of values are texts that are so -/
def allWT (n : Nat) (vs : List V) : Bool := vs.all fun v => match v with
  | .str z => decide ((tl z).length ≤ n) && (tl z).all sgn
  | _ => false
theorem allWT_ok {n : Nat} {vs : List V} (h : allWT n vs = true) : ∀ v ∈ vs, ∃ z, v = .str z ∧ WT z n := fun v hv => by
  have q := List.all_eq_true.mp h v hv
  cases v with
  | str z => exact ⟨z, rfl, WT.dec q⟩
  | _ => cases q
def allInt (lo hi : Int) (vs : List V) : Bool := vs.all fun v => match v with
  | .int z => decide (lo ≤ z) && decide (z ≤ hi)
  | _ => false
theorem allInt_ok {lo hi : Int} {vs : List V} (h : allInt lo hi vs = true) : ∀ v ∈ vs, ∃ z, v = .int z ∧ lo ≤ z ∧ z ≤ hi := fun v hv => by
  have q := List.all_eq_true.mp h v hv
  cases v with
  | int z =>
    have q' : (decide (lo ≤ z) && decide (z ≤ hi)) = true := q
    rw [Bool.and_eq_true] at q'
    exact ⟨z, rfl, of_decide_eq_true q'.1, of_decide_eq_true q'.2⟩
  | _ => cases q
theorem RefAt.go {K : PySem.W.Frag} {b : Addr} {n m : Nat} {H H' : Hp} {p : Addr} {name : Str} {keys : List Str} (R : RefAt K H p name keys) (G : Go b n H H') (B : Bag H b m) : RefAt K H' p name keys := by
  obtain ⟨t, h1, h2⟩ := R.ex
  exact ⟨t, G.seqT B h1, G.seqT B h2⟩
theorem RefAt.same {K : PySem.W.Frag} {H H' : Hp} {p : Addr} {name : Str} {keys : List Str} (R : RefAt K H p name keys) (G : Sm H H') : RefAt K H' p name keys := by
  obtain ⟨t, h1, h2⟩ := R.ex
  exact ⟨t, Sm.seqT G h1, Sm.seqT G h2⟩
section
variable {P : Program} {w : World} {K : PySem.W.Frag} {mg : Str → Option Value} {base : Heap} {cs : Tabs}
theorem ok_law_cell_at (T : Txt K mg cs) : Cal P w K mg base 1 "_law_cell_at" ["script", "k"] (spCellAt K) := by
  refine T.f_law_cell_at.cal scLawCellAt (fun vs H Q E h => ?_) (fun f cdv A outer s H vs Q E hr h => ?_)
  · obtain ⟨a, ns, k, rfl, _⟩ := h
    rfl
  obtain ⟨a, ns, k, rfl, hS, q⟩ := h
  refine ⟨_, (pss_cons (ps_if (pt_cmpR op_lt (pv 1) (pe_callB (lenQ K) rfl T.n_len (by decide +kernel) (pa_cons (pv 0) pa_nil)) (nomark _)) (pss_one (ps_ret (pe_ix (ixL K) (pv 0) (pv 1) (fun _ _ => rfl)))) pss_nil)
    (pss_one (ps_ret pe_int))), ?_⟩
  refine ⟨_, rfl, _, rfl, a, _, rfl, .inl hS, _, _, rfl, rfl, _, rfl, ?_⟩
  refine ite2 (fun c => ?_) (fun c => ?_)
  · have c' : (k : Int) < (((ns.map V.int).length : Nat) : Int) := of_decide_eq_true c
    have hk : k < ns.length := by
      rw [List.length_map] at c'
      omega
    have e : (ns.map V.int)[k]? = some (.int ns[k]) := by
      rw [List.getElem?_map, List.getElem?_eq_getElem hk]
      rfl
    exact ⟨_, rfl, _, rfl, a, _, (k : Int), _, rfl, rfl, hS, atI_nat e, q _⟩
  · exact q 0
end
section
variable {P : Program} {w : World} {K : PySem.W.Frag} {mg : Str → Option Value} {base : Heap} {cs : Tabs}
theorem ok_law_bag (T : Txt K mg cs) : Cal P w K mg base 1 "_law_bag" ["cell", "nth"] spBag := by
  refine T.f_law_bag.cal scLawBag (fun vs H Q E h => ?_) (fun f cdv A outer s H vs Q E hr h => ?_)
  · obtain ⟨a, k, rfl, _⟩ := h
    rfl
  obtain ⟨c, k, rfl, hk, q⟩ := h
  refine ⟨_, (pss_one (ps_ret (pe_lst (pa_cons (pe_callB (call_max2 rfl) rfl T.n_max (by decide +kernel) (pa_cons pe_int (pa_cons (pe_op op_sub (pv 0) (pe_op op_powW pe_int pe_int)) pa_nil))) (pa_cons (pe_op op_add (pe_op op_mod (pv 0) pe_int) (pe_op op_mulW pe_int (pv 1))) (pa_cons pe_int pa_nil)))))), ?_⟩
  refine ⟨_, rfl, 10, 18, rfl, rfl, ⟨by decide, by decide, by decide⟩, c, _, rfl, rfl, 0, _, rfl, ?_⟩
  refine ⟨_, rfl, c, _, rfl, rfl, (show (0 : Int) < 170141183460469231731687303715884105727 by decide), _, rfl, 104395303, (k : Int), rfl, rfl, wide_mul (a := 40) (b := 40) (by decide) (nat_lt (by omega) (by omega)) (by decide) (by decide) (by decide), _, _, rfl, rfl, ?_⟩
  refine ⟨(by show 3 ≤ sizeLine; decide), fun p hp => q p _ hp (Sm.new hp) ⟨_, _, 0, upd_same, ?_, ?_, Int.le_refl 0, Int.le_refl 0⟩⟩
  · have := Int.emod_nonneg c (show (170141183460469231731687303715884105727 : Int) ≠ 0 by decide)
    show 0 ≤ c % 170141183460469231731687303715884105727 + 104395303 * (k : Int)
    omega
  · have := Int.emod_lt_of_pos c (show (0 : Int) < 170141183460469231731687303715884105727 by decide)
    show c % 170141183460469231731687303715884105727 + 104395303 * (k : Int) < 2 ^ 200
    omega
theorem ok_law_signs (T : Txt K mg cs) : Cal P w K mg base 1 "_law_signs" [] spSigns := by
  refine T.f_law_signs.cal scLawSigns (fun vs H Q E h => ?_) (fun f cdv A outer s H vs Q E hr h => ?_)
  · obtain ⟨rfl, _⟩ := h
    rfl
  obtain ⟨rfl, q⟩ := h
  refine ⟨_, (pss_cons (ps_set (i := 0) scLawSigns.nd rfl (by first | exact Or.inl rfl | exact Or.inr rfl) pe_str)
    (pss_one (ps_ret (pe_op op_add_str (pe_op op_add_str (pe_op op_add_str (pe_op op_add_str pe_str (pe_upper (pv 0))) pe_str) (pv 0)) pe_str)))), ?_⟩
  refine ⟨_, rfl, ⟨_, rfl⟩, _, rfl, rfl, (by decide +kernel), _, _, rfl, rfl, (by decide +kernel), _, _, rfl, rfl, (by decide +kernel), _, rfl, _, _, rfl, rfl, (by decide +kernel), _, _, rfl, rfl, (by decide +kernel), ?_⟩
  have e : ((((" !\"#$&'()*+,-./0123456789:;<=>?@" : Str) ++ Txt.upper ("abcdefghijklmnopqrstuvwxyz" : Str)) ++ ("[\\]^_`" : Str)) ++ ("abcdefghijklmnopqrstuvwxyz" : Str)) ++ ("{|}~" : Str) = SIGNS := by decide +kernel
  exact (congrArg (fun z => Q (.str z) H) e).mpr q
end
section
variable {P : Program} {w : World} {K : PySem.W.Frag} {mg : Str → Option Value} {base : Heap} {cs : Tabs}
def JOINTS : List V := [.str "; ", .str ":", .str "=", .str ",", .str "|", .str "|  ", .str ")", .str "(", .str "\"", .str "\"\"", .str ")=\"", .str "; write 1", .str "=\"", .str "x", .str " "]
theorem SIGNS_wt : WT SIGNS 94 := WT.dec (by decide +kernel)
theorem some_sign {z : Str} {n j : Nat} (h : WT z n) (hj : j < (tl z).length) : ∃ c, atI (tl z) (j : Int) = some c ∧ sgn c = true := ⟨(tl z)[j], atI_nat (List.getElem?_eq_getElem hj), h.sg _ (List.getElem_mem hj)⟩
theorem WT.one {c : Nat} (h : sgn c = true) : WT ⟨#[c]⟩ 1 := ⟨Nat.le_refl _, fun d hd => by
  have e : d = c := List.mem_singleton.mp (show d ∈ [c] from hd)
  rw [e]
  exact h⟩
/-- some[draw(bag, len(some))], some a text -/
theorem sign_drawn {b : Addr} {i j m : Nat} {σ : L2.St} {H : Hp} {z : Str} {Q : VK} (hb : σ[i]? = some (some (.ref b))) (hs : σ[j]? = some (some (.str z))) (B : Bag H b m) (hm : m ≤ LIM) (hz : (tl z).length ≤ 1000) (h0 : 0 < (tl z).length)
    (q : ∀ c H', c ∈ tl z → Go b 1 H H' → Q (.str ⟨#[c]⟩) H') :
    tOp rIxS (tVar j) (tCall spDraw [] E0 (tCons (tVar i) (tCons (tCB rLenT1 (tCons (tVar j) tNil)) tNil))) σ H Q := by
  have e : z.length = (tl z).length := len_tl z
  refine ⟨_, hs, _, hb, _, hs, z, rfl, (by rw [e]; exact small (by omega)), b, (z.length : Int), m, rfl, B, hm, by omega, by omega, fun r H' r0 r1 G => ?_⟩
  obtain ⟨k, rfl⟩ : ∃ k : Nat, r = (k : Int) := ⟨r.toNat, by omega⟩
  have hk : k < (tl z).length := by omega
  exact ⟨z, (k : Int), _, rfl, rfl, (by rw [e]; exact small (by omega)), atI_nat (List.getElem?_eq_getElem hk), q _ _ (List.getElem_mem hk) G⟩
theorem list_drawn {A : V → Prop} {b p : Addr} {i j n m : Nat} {σ : L2.St} {H : Hp} {xs : List V} {Q : VK} (hb : σ[i]? = some (some (.ref b))) (hs : σ[j]? = some (some (.ref p))) (hp : H p = some (.lst xs)) (np : p ≠ b) (B : Bag H b m) (hm : m ≤ LIM) (hn : xs.length = n) (h0 : 0 < n ∧ n ≤ 1000)
    (hA : ∀ v ∈ xs, A v) (q : ∀ v H', A v → Go b 1 H H' → Q v H') : tOp (rIxL K) (tVar j) (tCall spDraw [] E0 (tCons (tVar i) (tCons (tC (.int ((n : Nat) : Int))) tNil))) σ H Q := by
  refine ⟨_, hs, _, hb, b, (n : Int), m, rfl, B, hm, by omega, by omega, fun r H' r0 r1 G => ?_⟩
  obtain ⟨k, rfl⟩ : ∃ k : Nat, r = (k : Int) := ⟨r.toNat, by omega⟩
  have hk : k < xs.length := by omega
  exact ⟨p, xs, (k : Int), _, rfl, rfl, SqL.of (G.keep p _ np hp), atI_nat (List.getElem?_eq_getElem hk), q _ _ (hA _ (List.getElem_mem hk)) G⟩
end
section
variable {P : Program} {w : World} {K : PySem.W.Frag} {mg : Str → Option Value} {base : Heap} {cs : Tabs}
theorem ok_law_text (T : Txt K mg cs) (C_law_draw : Cal P w K mg base 1 "_law_draw" ["bag", "many"] spDraw) (C_law_signs : Cal P w K mg base 1 "_law_signs" [] spSigns) : Cal P w K mg base 2 "_law_text" ["bag", "most"] spText := by
  refine T.f_law_text.cal scLawText (fun vs H Q E h => ?_) (fun f cdv A outer s H vs Q E hr h => ?_)
  · obtain ⟨b, most, m, rfl, _⟩ := h
    rfl
  obtain ⟨b, most, m, rfl, B, hm, hmost, q⟩ := h
  refine ⟨_, (pss_cons (ps_set (i := 2) scLawText.nd rfl (by first | exact Or.inl rfl | exact Or.inr rfl) (pe_cal C_law_draw (hr.mono (by first | decide | omega)) (pa_cons (pv 0) (pa_cons pe_int pa_nil))))
    (pss_cons (ps_if (pt_cmpR op_lt (pv 2) pe_int (nomark _)) (pss_cons (ps_set (i := 5) scLawText.nd rfl (by first | exact Or.inl rfl | exact Or.inr rfl) (pe_cal C_law_draw (hr.mono (by first | decide | omega)) (pa_cons (pv 0) (pa_cons (pe_ix (ixL K) (pe_lst (pa_cons pe_int (pa_cons pe_int (pa_cons (pe_op op_powW pe_int pe_int) (pa_cons (pe_op op_powW pe_int pe_int) pa_nil))))) (pe_cal C_law_draw (hr.mono (by first | decide | omega)) (pa_cons (pv 0) (pa_cons pe_int pa_nil))) (fun _ _ => rfl)) pa_nil))))
        (pss_one (ps_ret (pe_slice sl_str (pe_callTy call_str_int rfl T.n_str (by decide +kernel) (pa_cons (pe_op op_mulW (pv 5) (pe_ix (ixL K) (pe_lst (pa_cons pe_int (pa_cons pe_int (pa_cons (pe_un un_neg pe_int) pa_nil)))) (pe_cal C_law_draw (hr.mono (by first | decide | omega)) (pa_cons (pv 0) (pa_cons pe_int pa_nil))) (fun _ _ => rfl))) pa_nil)) po_none (po_some (pv 1)))))) pss_nil)
    (pss_cons (ps_if (pt_cmpR op_eq (pv 2) pe_int (nomark _)) (pss_cons (ps_set (i := 6) scLawText.nd rfl (by first | exact Or.inl rfl | exact Or.inr rfl) (pe_lst (pa_cons pe_str (pa_cons pe_str (pa_cons pe_str (pa_cons pe_str (pa_cons pe_str (pa_cons pe_str (pa_cons pe_str (pa_cons pe_str (pa_cons pe_str (pa_cons pe_str (pa_cons pe_str (pa_cons pe_str (pa_cons pe_str (pa_cons pe_str (pa_cons pe_str (pa_cons pe_str pa_nil))))))))))))))))))
        (pss_one (ps_ret (pe_slice sl_str (pe_ix (ixL K) (pv 6) (pe_cal C_law_draw (hr.mono (by first | decide | omega)) (pa_cons (pv 0) (pa_cons pe_int pa_nil))) (fun _ _ => rfl)) po_none (po_some (pv 1)))))) pss_nil)
    (pss_cons (ps_if (pt_cmpR op_eq (pv 2) pe_int (nomark _)) (pss_cons (ps_set (i := 3) scLawText.nd rfl (by first | exact Or.inl rfl | exact Or.inr rfl) (pe_lst (pa_cons pe_str (pa_cons pe_str (pa_cons pe_str (pa_cons pe_str (pa_cons pe_str (pa_cons pe_str (pa_cons pe_str (pa_cons pe_str (pa_cons pe_str (pa_cons pe_str (pa_cons pe_str (pa_cons pe_str (pa_cons pe_str (pa_cons pe_str (pa_cons pe_str pa_nil)))))))))))))))))
        (pss_one (ps_ret (pe_slice sl_str (pe_join pe_str (pe_lc (own := [("k", 7)]) (g := gName 7) (tt := tYes) rfl scLawText.nd (pi_range1 rfl T.n_range (pa_cons (pe_op op_add pe_int (pe_cal C_law_draw (hr.mono (by first | decide | omega)) (pa_cons (pv 0) (pa_cons pe_int pa_nil)))) pa_nil)) (blkOk_by (own := [("k", 7)]) (N := ["bag", "most", "lot", "some", "many", "number", "near", "k"]) (sc := defScope sLawText) (by decide +kernel)) (fun _ _ _ _ _ => (pg_name (i := 7) scLawText.nd rfl (by first | exact Or.inl rfl | exact Or.inr rfl))) (fun _ _ _ _ _ => pts_nil) (fun _ _ _ _ _ => (pe_ix (ixL K) (pv 3) (pe_cal C_law_draw (hr.mono (by first | decide | omega)) (pa_cons (pv 0) (pa_cons pe_int pa_nil))) (fun _ _ => rfl))))) po_none (po_some (pv 1)))))) pss_nil)
    (pss_cons (ps_set (i := 3) scLawText.nd rfl (by first | exact Or.inl rfl | exact Or.inr rfl) (pe_ix (ixL K) (pe_lst (pa_cons pe_str (pa_cons pe_str (pa_cons (pe_cal0 C_law_signs (hr.mono (by first | decide | omega))) pa_nil)))) (pe_op op_sub (pv 2) pe_int) (fun _ _ => rfl)))
    (pss_cons (ps_set (i := 4) scLawText.nd rfl (by first | exact Or.inl rfl | exact Or.inr rfl) (pe_ix (ixL K) (pe_lst (pa_cons pe_int (pa_cons pe_int (pa_cons (pe_cal C_law_draw (hr.mono (by first | decide | omega)) (pa_cons (pv 0) (pa_cons (pe_op op_add (pv 1) pe_int) pa_nil))) pa_nil)))) (pe_cal C_law_draw (hr.mono (by first | decide | omega)) (pa_cons (pv 0) (pa_cons pe_int pa_nil))) (fun _ _ => rfl)))
    (pss_one (ps_ret (pe_join pe_str (pe_lc (own := [("k", 7)]) (g := gName 7) (tt := tYes) rfl scLawText.nd (pi_range1 rfl T.n_range (pa_cons (pe_callB (call_min2 rfl) rfl T.n_min (by decide +kernel) (pa_cons (pv 4) (pa_cons (pv 1) pa_nil))) pa_nil)) (blkOk_by (own := [("k", 7)]) (N := ["bag", "most", "lot", "some", "many", "number", "near", "k"]) (sc := defScope sLawText) (by decide +kernel)) (fun _ _ _ _ _ => (pg_name (i := 7) scLawText.nd rfl (by first | exact Or.inl rfl | exact Or.inr rfl))) (fun _ _ _ _ _ => pts_nil) (fun _ _ _ _ _ => (pe_ix ix_str (pv 3) (pe_cal C_law_draw (hr.mono (by first | decide | omega)) (pa_cons (pv 0) (pa_cons (pe_callB lenT rfl T.n_len (by decide +kernel) (pa_cons (pv 3) pa_nil)) pa_nil))) (fun _ _ => rfl))))))))))))), ?_⟩
  unfold LIM at hm
  refine draw_here (i := 0) rfl B (by unfold LIM; omega) (by decide) (by decide) fun lot H1 l0 l1 G1 => ?_
  have B1 := G1.bag _ B
  refine ⟨_, rfl, lot, 2, rfl, rfl, _, rfl, ?_⟩
  refine ite2 (fun c => ?_) (fun c => ?_)
  · -- a number's text
    refine ⟨_, rfl, menuG (n := 4) (c := 0) (A := fun v => ∃ k : Int, v = .int k ∧ 0 < k ∧ k ≤ 10 ^ 40) (m := m + 1) (i := 0) (fun R h => ⟨10, 20, rfl, rfl, ⟨by decide, by decide, by decide⟩, 10, 40, rfl, rfl, ⟨by decide, by decide, by decide⟩, h _ _ rfl (fun v hv => ?_) (Go.refl b _)⟩) rfl B1 (by unfold LIM; omega) (by decide) (by decide) fun v H2 hv G2 => ?_⟩
    · rcases List.mem_cons.mp hv with rfl | hv
      · exact ⟨10, rfl, by decide, by decide⟩
      rcases List.mem_cons.mp hv with rfl | hv
      · exact ⟨200, rfl, by decide, by decide⟩
      rcases List.mem_cons.mp hv with rfl | hv
      · exact ⟨10 ^ 20, rfl, by decide, by decide⟩
      rcases List.mem_cons.mp hv with rfl | hv
      · exact ⟨10 ^ 40, rfl, by decide, by decide⟩
      · cases hv
    obtain ⟨k, rfl, k0, k1⟩ := hv
    have B2 := G2.bag _ B1
    refine ⟨b, k, m + 1 + (0 + 1), rfl, B2, by unfold LIM; omega, k0, by omega, fun num H3 n0 n1 G3 => ?_⟩
    have B3 := G3.bag _ B2
    refine ⟨_, rfl, menuG (n := 3) (c := 0) (A := fun v => ∃ k : Int, v = .int k ∧ k.natAbs ≤ 1) (m := m + 1 + (0 + 1) + 1) (i := 0) (fun R h => ⟨1, rfl, h _ _ rfl (fun v hv => ?_) (Go.refl b _)⟩) rfl B3 (by unfold LIM; omega) (by decide) (by decide) fun v H4 hv G4 => ?_⟩
    · rcases List.mem_cons.mp hv with rfl | hv
      · exact ⟨1, rfl, by decide⟩
      rcases List.mem_cons.mp hv with rfl | hv
      · exact ⟨1, rfl, by decide⟩
      rcases List.mem_cons.mp hv with rfl | hv
      · exact ⟨-1, rfl, by decide⟩
      · cases hv
    obtain ⟨j, rfl, j0⟩ := hv
    have hp : (num * j).natAbs < 10 ^ 40 := by
      rw [Int.natAbs_mul]
      have a1 : num.natAbs * j.natAbs ≤ num.natAbs * 1 := Nat.mul_le_mul_left _ j0
      omega
    have W := WT.int (by decide) hp
    refine ⟨num, j, rfl, rfl, wide_mul (a := 200) (b := 10) (nat_lt n0 (by omega)) (by omega) (by decide) (by decide) (by decide), num * j, rfl, Nat.lt_trans (PySem.Flt.log2_lt_of (n := (num * j).natAbs) (k := 200) (by decide) (by omega)) (by decide), ?_⟩
    refine ⟨_, rfl, (most : Int), rfl, _, rfl, W.line (by decide), ?_⟩
    exact q _ _ (WT.cut W.sg most) ((((G1.trans G2).trans G3).trans G4).mono (by omega))
  refine ⟨_, rfl, rfl, _, rfl, ?_⟩
  refine ite2 (fun c2 => ?_) (fun c2 => ?_)
  · -- a near one
    refine ⟨(by show 16 ≤ sizeLine; decide), fun p hp => ?_⟩
    refine list_drawn (i := 0) (j := 6) (n := 16) (A := fun v => ∃ z, v = .str z ∧ WT z 20) rfl rfl upd_same (B1.ne hp) ((Go.new hp).bag _ B1) (by unfold LIM; omega) rfl (by decide) (allWT_ok (by decide +kernel)) fun v H2 hv G2 => ?_
    obtain ⟨z, rfl, W⟩ := hv
    refine ⟨_, rfl, (most : Int), rfl, z, rfl, W.line (by decide), ?_⟩
    exact q _ _ (WT.cut W.sg most) (((G1.trans (Go.new hp)).trans G2).mono (by omega))
  refine ⟨_, rfl, rfl, _, rfl, ?_⟩
  refine ite2 (fun c3 => ?_) (fun c3 => ?_)
  · -- joints
    refine ⟨(by show 15 ≤ sizeLine; decide), fun p hp => ?_⟩
    have np := B1.ne hp
    have hp' : (upd H1 p (.lst JOINTS)) p = some (.lst JOINTS) := upd_same
    have B2 := (Go.new (o := .lst JOINTS) hp).bag _ B1
    refine ⟨⟨_, rfl⟩, lc_drawn (i := 7) (N := 4) (c0 := 1) (c := 1) (A0 := fun _ => True) (fun v => ∃ z, v = .str z ∧ WT z 20) (fun R h => draw_here (i := 0) (by rfl) B2 (by unfold LIM; omega) (by decide) (by decide) fun r H3 r0 r1 G3 => ⟨1, r, rfl, rfl, h _ _ trivial (by omega) (by omega) G3⟩) B2 (by decide) (fun j H4 hj B4 G4 R hR => ?_) fun k D ys H4 _ k0 k1 hl hA G4 hy _ => ?_⟩
    · exact list_drawn (i := 0) (j := 3) (n := 15) (by rfl) (by rfl) (G4.keep p _ np hp') np B4 (by unfold LIM; omega) rfl (by decide) (allWT_ok (by decide +kernel)) hR
    · obtain ⟨zs, rfl, hz, hW⟩ := texts_of ys hA
      have hl' : zs.length = k.toNat := by rw [hz]; exact hl
      refine ⟨_, D, zs, rfl, rfl, .inl (SqL.of hy), glue_ok (k := 20) (n := zs.length) (fun y hy => (hW y hy).len) rfl (by omega), ?_⟩
      have W := WT.glue hW
      refine ⟨_, rfl, (most : Int), rfl, _, rfl, W.line (by omega), ?_⟩
      exact q _ _ (WT.cut W.sg most) (((G1.trans (Go.new hp)).trans G4).mono (by omega))
  -- signs
  have q3 : lot = 3 ∨ lot = 4 ∨ lot = 5 := by
    have e1 : ¬ lot < 2 := of_decide_eq_false (Bool.eq_false_iff.mpr c)
    have e2 : ¬ lot = 2 := fun e => c2 (by rw [e]; rfl)
    have e3 : ¬ lot = 6 := fun e => c3 (by rw [e]; rfl)
    omega
  refine ⟨rfl, (by show 3 ≤ sizeLine; decide), fun p hp => ?_⟩
  have np := B1.ne hp
  have hsome : ∃ z : Str, WT z 94 ∧ 0 < (tl z).length ∧ atI [V.str "0123456789+-a ", V.str "ab", V.str SIGNS] (lot - 3) = some (.str z) := by
    rcases q3 with rfl | rfl | rfl
    · exact ⟨_, WT.dec (by decide +kernel), by decide +kernel, rfl⟩
    · exact ⟨_, WT.dec (by decide +kernel), by decide +kernel, rfl⟩
    · exact ⟨_, SIGNS_wt, by decide +kernel, rfl⟩
  obtain ⟨z, W, z0, hat⟩ := hsome
  refine ⟨_, rfl, lot, 3, rfl, rfl, p, _, lot - 3, .str z, rfl, rfl, SqL.of upd_same, hat, ?_⟩
  have B2 := (Go.new (o := .lst [V.str "0123456789+-a ", V.str "ab", V.str SIGNS]) hp).bag _ B1
  dsimp only [gName, tSeq, tAsg, tRet, tDrop, tNext]
  refine menuG (n := 3) (c := 1) (i := 0) (A := fun v => ∃ k : Int, v = .int k ∧ 0 ≤ k) (fun R h => ?_) (by rfl) B2 (by unfold LIM; omega) (by decide) (by decide) fun v H3 hv G3 => ?_
  · refine ⟨_, rfl, _, rfl, (most : Int), 1, rfl, rfl, b, (most : Int) + 1, m + 1 + 0, rfl, B2, by unfold LIM; omega, by omega, by omega, fun r H3 r0 r1 G3 => h _ _ rfl (fun v hv => ?_) G3⟩
    rcases List.mem_cons.mp hv with rfl | hv
    · exact ⟨1, rfl, by decide⟩
    rcases List.mem_cons.mp hv with rfl | hv
    · exact ⟨2, rfl, by decide⟩
    rcases List.mem_cons.mp hv with rfl | hv
    · exact ⟨r, rfl, r0⟩
    · cases hv
  obtain ⟨k, rfl, k0⟩ := hv
  have B3 := G3.bag _ B2
  refine ⟨⟨_, rfl⟩, lc_drawn (i := 7) (N := most) (c0 := 0) (c := 1) (A0 := fun _ => True) (fun v => ∃ z, v = .str z ∧ WT z 1) (fun R h => ⟨_, rfl, _, rfl, k, (most : Int), rfl, h _ _ trivial (by split <;> omega) (by split <;> omega) (Go.refl b _)⟩) B3 (by omega) (fun j H4 hj B4 G4 R hR => ?_) fun k' D ys H4 _ k0' k1' hl hA G4 hy _ => ?_⟩
  · exact sign_drawn (i := 0) (j := 3) (by rfl) (by rfl) B4 (by unfold LIM; omega) (Nat.le_trans W.len (by decide)) z0 fun c H' hc G' => hR _ _ ⟨_, rfl, WT.one (W.sg c hc)⟩ G'
  · obtain ⟨zs, rfl, hz, hW⟩ := texts_of ys hA
    have hl' : zs.length ≤ most := by rw [hz, hl]; omega
    refine ⟨_, D, zs, rfl, rfl, .inl (SqL.of hy), glue_ok (k := 1) (n := zs.length) (fun y hy => (hW y hy).len) rfl (by omega), ?_⟩
    have W' := WT.glue hW
    exact q _ _ (W'.mono (by omega)) ((((G1.trans (Go.new hp)).trans G3).trans G4).mono (by omega))
end
section
variable {P : Program} {w : World} {K : PySem.W.Frag} {mg : Str → Option Value} {base : Heap} {cs : Tabs}
theorem ok_law_name (T : Txt K mg cs) (C_law_draw : Cal P w K mg base 1 "_law_draw" ["bag", "many"] spDraw) : Cal P w K mg base 2 "_law_name" ["bag"] spName := by
  refine T.f_law_name.cal scLawName (fun vs H Q E h => ?_) (fun f cdv A outer s H vs Q E hr h => ?_)
  · obtain ⟨b, m, rfl, _⟩ := h
    rfl
  obtain ⟨b, m, rfl, B, hm, q⟩ := h
  refine ⟨_, (pss_cons (ps_set (i := 1) scLawName.nd rfl (by first | exact Or.inl rfl | exact Or.inr rfl) (pe_ix (ixL K) (pe_lst (pa_cons pe_str (pa_cons pe_str pa_nil))) (pe_cal C_law_draw (hr.mono (by first | decide | omega)) (pa_cons (pv 0) (pa_cons pe_int pa_nil))) (fun _ _ => rfl)))
    (pss_cons (ps_set (i := 2) scLawName.nd rfl (by first | exact Or.inl rfl | exact Or.inr rfl) (pe_ix (ixL K) (pe_lst (pa_cons pe_int (pa_cons pe_int (pa_cons (pe_op op_add pe_int (pe_cal C_law_draw (hr.mono (by first | decide | omega)) (pa_cons (pv 0) (pa_cons pe_int pa_nil)))) pa_nil)))) (pe_cal C_law_draw (hr.mono (by first | decide | omega)) (pa_cons (pv 0) (pa_cons pe_int pa_nil))) (fun _ _ => rfl)))
    (pss_one (ps_ret (pe_join pe_str (pe_lc (own := [("k", 3)]) (g := gName 3) (tt := tYes) rfl scLawName.nd (pi_range1 rfl T.n_range (pa_cons (pv 2) pa_nil)) (blkOk_by (own := [("k", 3)]) (N := ["bag", "some", "many", "k"]) (sc := defScope sLawName) (by decide +kernel)) (fun _ _ _ _ _ => (pg_name (i := 3) scLawName.nd rfl (by first | exact Or.inl rfl | exact Or.inr rfl))) (fun _ _ _ _ _ => pts_nil) (fun _ _ _ _ _ => (pe_ix ix_str (pv 1) (pe_cal C_law_draw (hr.mono (by first | decide | omega)) (pa_cons (pv 0) (pa_cons (pe_callB lenT rfl T.n_len (by decide +kernel) (pa_cons (pv 1) pa_nil)) pa_nil))) (fun _ _ => rfl))))))))), ?_⟩
  unfold LIM at hm
  dsimp only [gName, tSeq, tAsg, tRet, tDrop, tNext]
  refine menuG (n := 2) (c := 0) (i := 0) (A := fun v => ∃ z : Str, v = .str z ∧ (decide ((tl z).length ≤ 26 ∧ 0 < (tl z).length) && (tl z).all AZ) = true) (fun R h => h _ _ rfl (fun v hv => ?_) (Go.refl b _)) (by rfl) B (by unfold LIM; omega) (by decide) (by decide) fun v H1 hv G1 => ?_
  · rcases List.mem_cons.mp hv with rfl | hv
    · exact ⟨_, rfl, by decide +kernel⟩
    rcases List.mem_cons.mp hv with rfl | hv
    · exact ⟨_, rfl, by decide +kernel⟩
    · cases hv
  obtain ⟨z, rfl, hz⟩ := hv
  rw [Bool.and_eq_true] at hz
  have z1 := of_decide_eq_true hz.1
  have zA := List.all_eq_true.mp hz.2
  have B1 := G1.bag _ B
  refine menuG (n := 3) (c := 1) (i := 0) (A := fun v => ∃ k : Int, v = .int k ∧ 1 ≤ k ∧ k ≤ 8) (fun R h => draw_here (i := 0) (by rfl) B1 (by unfold LIM; omega) (by decide) (by decide) fun r H2 r0 r1 G2 => ⟨1, r, rfl, rfl, h _ _ rfl (fun v hv => ?_) G2⟩) (by rfl) B1 (by unfold LIM; omega) (by decide) (by decide) fun v H2 hv G2 => ?_
  · rcases List.mem_cons.mp hv with rfl | hv
    · exact ⟨1, rfl, by decide, by decide⟩
    rcases List.mem_cons.mp hv with rfl | hv
    · exact ⟨2, rfl, by decide, by decide⟩
    rcases List.mem_cons.mp hv with rfl | hv
    · exact ⟨1 + r, rfl, by omega, by omega⟩
    · cases hv
  obtain ⟨k, rfl, k0, k1⟩ := hv
  have B2 := G2.bag _ B1
  refine ⟨⟨_, rfl⟩, lc_drawn (i := 3) (N := 8) (c0 := 0) (c := 1) (A0 := fun j => j = k) (fun v => ∃ z, v = .str z ∧ ((tl z).length = 1 ∧ ∀ c ∈ tl z, AZ c = true)) (fun R h => ⟨_, rfl, h _ _ rfl (by omega) (by omega) (Go.refl b _)⟩) B2 (by decide) (fun j H4 hj B4 G4 R hR => ?_) fun k' D ys H4 hk k0' k1' hl hA G4 hy _ => ?_⟩
  · exact sign_drawn (i := 0) (j := 1) (by rfl) (by rfl) B4 (by unfold LIM; omega) (by omega) z1.2 fun c H' hc G' => hR _ _ ⟨_, rfl, rfl, fun d hd => by
      have e : d = c := List.mem_singleton.mp (show d ∈ [c] from hd)
      rw [e]
      exact zA c hc⟩ G'
  · obtain ⟨zs, rfl, hz, hW⟩ := texts_of ys hA
    have hl' : zs.length = k.toNat := by rw [hz, hl, hk]
    refine ⟨_, D, zs, rfl, rfl, .inl (SqL.of hy), glue_ok (k := 1) (n := zs.length) (fun y hy => Nat.le_of_eq (hW y hy).1) rfl (by omega), ?_⟩
    refine q _ _ ⟨?_, ?_, fun c hc => ?_⟩ (((G1.trans G2).trans G4).mono (by omega))
    · have := flat_len zs fun y hy => Nat.le_of_eq (hW y hy).1
      rw [tl_glue]
      omega
    · rw [tl_glue]
      cases zs with
      | nil =>
        have e0 : k.toNat = 0 := hl'.symm
        omega
      | cons y r =>
        have e1 := (hW y List.mem_cons_self).1
        rw [List.map_cons, List.flatten_cons, List.length_append]
        omega
    · rw [tl_glue] at hc
      obtain ⟨l, hl2, hcl⟩ := List.mem_flatten.mp hc
      obtain ⟨y, hy2, rfl⟩ := List.mem_map.mp hl2
      exact (hW y hy2).2 c hcl
end
section
variable {P : Program} {w : World} {K : PySem.W.Frag} {mg : Str → Option Value} {base : Heap} {cs : Tabs}
theorem KEY.zero : KEY "0" := ⟨WT.dec (by decide +kernel), by decide +kernel⟩
theorem KEY.of {z : Str} {n : Nat} (W : WT z n) (h : n ≤ 40) (hz : z ≠ "") : KEY z := ⟨W.mono h, by
  refine Nat.pos_of_ne_zero fun e => hz (ext_tl ?_)
  rw [List.length_eq_zero_iff.mp e]
  rfl⟩
theorem ok_law_key (T : Txt K mg cs) (C_law_draw : Cal P w K mg base 1 "_law_draw" ["bag", "many"] spDraw) (C_law_text : Cal P w K mg base 2 "_law_text" ["bag", "most"] spText) : Cal P w K mg base 3 "_law_key" ["bag"] spKey := by
  refine T.f_law_key.cal scLawKey (fun vs H Q E h => ?_) (fun f cdv A outer s H vs Q E hr h => ?_)
  · obtain ⟨b, m, rfl, _⟩ := h
    rfl
  obtain ⟨b, m, rfl, B, hm, q⟩ := h
  refine ⟨_, (pss_cons (ps_set (i := 1) scLawKey.nd rfl (by first | exact Or.inl rfl | exact Or.inr rfl) (pe_cal C_law_text (hr.mono (by first | decide | omega)) (pa_cons (pv 0) (pa_cons (pe_ix (ixL K) (pe_lst (pa_cons pe_int (pa_cons pe_int (pa_cons pe_int pa_nil)))) (pe_cal C_law_draw (hr.mono (by first | decide | omega)) (pa_cons (pv 0) (pa_cons pe_int pa_nil))) (fun _ _ => rfl)) pa_nil))))
    (pss_one (ps_ret (pe_ifExp (pt_cmpR op_ne (pv 1) pe_str (nomark _)) (pv 1) pe_str)))), ?_⟩
  unfold LIM at hm
  refine ⟨_, rfl, menuC (xs := [.int 3, .int 8, .int 40]) (i := 0) (A := fun v => ∃ k : Int, v = .int k ∧ 3 ≤ k ∧ k ≤ 40) (fun R h => h) (allInt_ok (by decide +kernel)) (by rfl) B (by unfold LIM; omega) (by decide) (by decide) fun v H1 hv G1 => ?_⟩
  obtain ⟨k, rfl, k0, k1⟩ := hv
  obtain ⟨k, rfl⟩ : ∃ j : Nat, k = (j : Int) := ⟨k.toNat, by omega⟩
  have B1 := G1.bag _ B
  refine ⟨b, k, m + 1, rfl, B1, by unfold LIM; omega, by omega, fun z H2 W G2 => ?_⟩
  refine ⟨_, rfl, rfl, _, rfl, ?_⟩
  have G : Go b 1200 H H2 := (G1.trans G2).mono (by omega)
  refine ite2 (fun c => ?_) (fun c => ?_)
  · have e : z ≠ "" := fun e => by
      have c' : (!decide (V.str z = V.str "")) = true := c
      rw [e] at c'
      exact absurd c' (by decide)
    exact ⟨_, rfl, q _ _ (KEY.of W (by omega) e) G⟩
  · exact q _ _ KEY.zero G
end
section
variable {P : Program} {w : World} {K : PySem.W.Frag} {mg : Str → Option Value} {base : Heap} {cs : Tabs}
theorem ok_law_ref (T : Txt K mg cs) (C_law_draw : Cal P w K mg base 1 "_law_draw" ["bag", "many"] spDraw) (C_law_name : Cal P w K mg base 2 "_law_name" ["bag"] spName) (C_law_key : Cal P w K mg base 3 "_law_key" ["bag"] spKey) : Cal P w K mg base 4 "_law_ref" ["bag"] (spRef K) := by
  refine T.f_law_ref.cal scLawRef (fun vs H Q E h => ?_) (fun f cdv A outer s H vs Q E hr h => ?_)
  · obtain ⟨b, m, rfl, _⟩ := h
    rfl
  obtain ⟨b, m, rfl, B, hm, q⟩ := h
  refine ⟨_, (pss_cons (ps_set (i := 1) scLawRef.nd rfl (by first | exact Or.inl rfl | exact Or.inr rfl) (pe_ix (ixL K) (pe_lst (pa_cons pe_int (pa_cons pe_int (pa_cons pe_int (pa_cons pe_int (pa_cons pe_int pa_nil)))))) (pe_cal C_law_draw (hr.mono (by first | decide | omega)) (pa_cons (pv 0) (pa_cons pe_int pa_nil))) (fun _ _ => rfl)))
    (pss_one (ps_ret (pe_tup (pa_cons (pe_cal C_law_name (hr.mono (by first | decide | omega)) (pa_cons (pv 0) pa_nil)) (pa_cons (pe_callTy (tupOf K) rfl T.n_tuple (by decide +kernel) (pa_cons (pe_lc (own := [("k", 2)]) (g := gName 2) (tt := tYes) rfl scLawRef.nd (pi_range1 rfl T.n_range (pa_cons (pv 1) pa_nil)) (blkOk_by (own := [("k", 2)]) (N := ["bag", "many", "k"]) (sc := defScope sLawRef) (by decide +kernel)) (fun _ _ _ _ _ => (pg_name (i := 2) scLawRef.nd rfl (by first | exact Or.inl rfl | exact Or.inr rfl))) (fun _ _ _ _ _ => pts_nil) (fun _ _ _ _ _ => (pe_cal C_law_key (hr.mono (by first | decide | omega)) (pa_cons (pv 0) pa_nil)))) pa_nil)) pa_nil)))))), ?_⟩
  unfold LIM at hm
  dsimp only [gName, tSeq, tAsg, tRet, tDrop, tNext]
  refine menuC (xs := [.int 0, .int 1, .int 2, .int 3, .int 6]) (i := 0) (A := fun v => ∃ k : Int, v = .int k ∧ 0 ≤ k ∧ k ≤ 6) (fun R h => h) (allInt_ok (by decide +kernel)) (by rfl) B (by unfold LIM; omega) (by decide) (by decide) fun v H1 hv G1 => ?_
  obtain ⟨k, rfl, k0, k1⟩ := hv
  have B1 := G1.bag _ B
  refine ⟨_, rfl, b, m + 1, rfl, B1, by unfold LIM; omega, fun z H2 W G2 => ?_⟩
  have B2 := G2.bag _ B1
  dsimp only [gName, tSeq, tAsg, tRet, tDrop, tNext, tCons, tNil, tTup, tCB]
  refine lc_drawn (i := 2) (N := 6) (c0 := 0) (c := 1200) (A0 := fun j => j = k) (fun v => ∃ z, v = .str z ∧ KEY z) (fun R h => ⟨_, rfl, h _ _ rfl (by omega) (by omega) (Go.refl b _)⟩) B2 (by decide) (fun j H4 hj B4 G4 R hR => ?_) fun k' D ys H4 hk k0' k1' hl hA G4 hy hD => ?_
  · exact ⟨_, rfl, b, _, rfl, B4, by unfold LIM; omega, fun z H' hz G' => hR _ _ ⟨z, rfl, hz⟩ G'⟩
  · obtain ⟨zs, rfl, hz, hW⟩ := texts_of ys hA
    have hl' : zs.length = k.toNat := by rw [hz, hl, hk]
    refine ⟨D, _, rfl, .inl ⟨SqL.of hy, fun t ht => ⟨(by show 2 ≤ sizeLine; decide), fun p hp => ?_⟩⟩⟩
    have B4 := G4.bag _ B2
    have B5 := (Go.new (o := .tup (zs.map V.str)) ht).bag _ B4
    refine q p z zs _ ⟨W, by omega, hW⟩ ⟨t, .inl (.inl upd_same), .inl (.inl ?_)⟩ ((((G1.trans G2).trans (G4.trans (Go.new ht))).trans (Go.new hp)).mono (by omega))
    rw [upd_ne (ne_of_none upd_same hp)]
    exact upd_same
end
/-! ### references compared -/
theorem strOk_of {z : Str} (h : ∀ c ∈ tl z, c < 128) : PyData.strOk z = true := by
  unfold PyData.strOk
  rw [← Array.all_toList, List.all_eq_true]
  intro c hc
  exact decide_eq_true (Nat.lt_trans (h c hc) (by decide))
def dS (ks : List Str) : List PyData := ks.map PyData.str
theorem dp_strs {K : PySem.W.Frag} {H : Hp} : ∀ ks : List Str, DpAll K H (ks.map V.str) (dS ks)
  | [] => .nil
  | x :: r => .cons (.str x) (dp_strs r)
theorem eqv_strs : ∀ a b : List Str, PyData.eqvAll (dS a) (dS b) = decide (a = b)
  | [], [] => by simp [dS, PyData.eqvAll]
  | [], _ :: _ => by simp [dS, PyData.eqvAll]
  | _ :: _, [] => by simp [dS, PyData.eqvAll]
  | x :: a, y :: b => by
    have ih := eqv_strs a b
    unfold dS at ih ⊢
    rw [List.map_cons, List.map_cons, PyData.eqvAll, ih]
    show ((x == y) && decide (a = b)) = decide (x :: a = y :: b)
    by_cases e : x = y
    · subst e
      simp
    · simp [e]
theorem lay_strs : ∀ ks : List Str, (∀ z ∈ ks, PyData.strOk z = true) → PyData.canLayAll0 (dS ks) = true
  | [], _ => rfl
  | x :: r, h => by
    show (PyData.strOk x && PyData.canLayAll0 (dS r)) = true
    rw [h x List.mem_cons_self, lay_strs r fun z hz => h z (List.mem_cons_of_mem _ hz)]
    rfl
theorem depth_strs : ∀ ks : List Str, PyData.depthAll (dS ks) = 0
  | [] => rfl
  | x :: r => by
    show max 0 (PyData.depthAll (dS r)) = 0
    rw [depth_strs r]
    rfl
theorem Sm.own {H0 H1 : Hp} {b : Addr} {o : HO} (S : Sm H0 H1) (hb : H0 b = none) (nt : ∀ qs, H1 b ≠ some (.tbl qs)) : Sm H0 (upd H1 b o) := ⟨fun a u h n => by
  rw [upd_ne (ne_of_none h hb)]
  exact S.keep a u h n, fun P t => TabG.upd (S.tab P t) nt, fun a ha => by
  by_cases e : a = b
  · rw [e]
    exact hb
  · rw [upd_ne e] at ha
    exact S.gone a ha⟩
/-! ### references compared -/
theorem shaped_tup {ks : List Str} (h : ∀ z ∈ ks, PyData.strOk z = true) : SeqAt.shaped (.tuple (dS ks)) = true := by
  show (PyData.canLayAll0 (dS ks) && decide (PyData.depthAll (dS ks) + 1 ≤ 64)) = true
  rw [lay_strs ks h, depth_strs]
  rfl
theorem KEY.ok {z : Str} (h : KEY z) : PyData.strOk z = true := strOk_of fun c hc => by
  have q := h.wt.sg c hc
  unfold sgn at q
  rw [Bool.and_eq_true, Bool.and_eq_true] at q
  have := of_decide_eq_true q.2.1
  omega

theorem cut_take (xs : List V) (k : Nat) : cutV xs none (some (k : Int)) = xs.take k := by
  unfold cutV
  rw [HT.sIx_none, HT.sIx_nat, List.drop_zero, Nat.sub_zero]
  by_cases h : k ≤ xs.length
  · rw [Nat.min_eq_left h]
  · rw [Nat.min_eq_right (by omega), List.take_of_length_le (Nat.le_refl _), List.take_of_length_le (by omega)]
theorem slice_take {K : PySem.W.Frag} {t : Addr} {xs : List V} {k : Nat} {H : Hp} {Q : VK} (h : SqT K H t xs) (q : ∀ p H', Sm H H' → SqT K H' p (xs.take k) → Q (.ref p) H') : rSlA K (.ref t) none (some (k : Int)) H Q := by
  refine ⟨t, xs, rfl, h, fun e => ?_, fun _ p hp => ?_⟩
  · refine q t H (Sm.refl H) ?_
    have e2 := e.2
    rw [HT.sIx_nat] at e2
    rw [List.take_of_length_le (by omega)]
    exact h
  · rw [cut_take]
    exact q p _ (Sm.new hp) (.inl (.inl upd_same))
/-- [g j for j in range(n) if p j], all of it told without a change of what stands -/
theorem lc_pick {i n : Nat} {σ : L2.St} {H1 : Hp} {D : Addr} {tt : TT} {te : TE} {Q : VK} (p : Nat → Bool) (g : Nat → V) (hD : H1 D = none) (hn : n ≤ 90000)
    (ht : ∀ j H, j < n → Sm H1 H → ∀ R : Bool → Hp → Prop, (∀ H', Sm H H' → R (p j) H') → tt ((σ.set i none).set i (some (.int (0 + (j : Int))))) H R)
    (he : ∀ j H, j < n → Sm H1 H → ∀ R : VK, (∀ H', Sm H H' → R (g j) H') → te ((σ.set i none).set i (some (.int (0 + (j : Int))))) H R)
    (hQ : ∀ H', Sm H1 H' → H' D = some (.lst (((List.range n).filter p).map g)) → Q (.ref D) H') :
    ∃ W : Nat → Nat → Hp → Prop, (∃ k, W 0 k (upd H1 D (.lst []))) ∧ ∀ j k H, W j k H →
      ((Itr 0 n).stop j H ∧ Q (.ref D) H) ∨ ((Itr 0 n).go j H ∧ ∃ Nx : Hp → Prop, (∀ H', Nx H' → ∃ k', k' < k ∧ W (j + 1) k' H') ∧ ∀ x H', (Itr 0 n).yld j H x H' → gName i x (wipe σ [i]) H' fun σ2 H2 => wipe σ2 [i] = wipe σ [i] ∧ tt σ2 H2 fun b H3 =>
        if b = true then te σ2 H3 fun y H4 => ∃ acc, H4 D = some (.lst acc) ∧ acc.length < sizeLine ∧ Nx (upd H4 D (.lst (acc ++ [y]))) else Nx H3) := by
  refine lc_range (lo := 0) (n := n) (fun j H => Sm H1 H ∧ H D = some (.lst (((List.range j).filter p).map g))) ⟨Sm.new hD, upd_same⟩ (fun j H hj hp => ?_) fun H hp => hQ H hp.1 hp.2
  obtain ⟨G, hy⟩ := hp
  have hl : (((List.range j).filter p).map g).length ≤ j := by
    rw [List.length_map]
    exact Nat.le_trans (List.length_filter_le _ _) (by rw [List.length_range]; exact Nat.le_refl _)
  refine ⟨?_, ?_⟩
  · show ((σ.set i none).set i (some (.int (0 + (j : Int))))).set i none = (σ.set i none)
    rw [List.set_set, List.set_set]
  · show tt ((σ.set i none).set i (some (.int (0 + (j : Int))))) H _
    refine ht j H hj G _ fun H' G' => ?_
    have er : (List.range (j + 1)).filter p = (List.range j).filter p ++ (if p j = true then [j] else []) := by
      rw [List.range_succ, List.filter_append]
      congr 1
      by_cases c : p j = true <;> simp [c]
    refine ite2 (fun c => ?_) (fun c => ?_)
    · refine he j H' hj (G.trans G') _ fun H4 G4 => ⟨_, G4 _ _ (G' _ _ hy), small' (by omega), ?_, ?_⟩
      · exact Sm.own ((G.trans G').trans G4) hD (no_tbl (G4 _ _ (G' _ _ hy)))
      · rw [er, if_pos c, List.map_append]
        exact upd_same
    · refine ⟨G.trans G', ?_⟩
      rw [er, if_neg c, List.append_nil]
      exact G' _ _ hy
theorem lc_picked {i n : Nat} {σ : L2.St} {H : Hp} {ta : TA} {tt : TT} {te : TE} {Q : VK} (p : Nat → Bool) (g : Nat → V) (ha : ∀ R : List V → Hp → Prop, (∀ H1, Sm H H1 → R [.int (n : Int)] H1) → ta σ H R) (hn : n ≤ 90000)
    (ht : ∀ j H2, j < n → Sm H H2 → ∀ R : Bool → Hp → Prop, (∀ H', Sm H2 H' → R (p j) H') → tt ((σ.set i none).set i (some (.int (0 + (j : Int))))) H2 R)
    (he : ∀ j H2, j < n → Sm H H2 → ∀ R : VK, (∀ H', Sm H2 H' → R (g j) H') → te ((σ.set i none).set i (some (.int (0 + (j : Int))))) H2 R)
    (hQ : ∀ D H', Sm H H' → H' D = some (.lst (((List.range n).filter p).map g)) → Q (.ref D) H') : tLc (iRng1 ta) (gName i) tt te [i] σ H Q := by
  refine ha _ fun H1 G => ⟨(n : Int), rfl, by omega, by omega, fun D hD => ?_⟩
  exact lc_pick (i := i) (n := n) (tt := tt) (te := te) p g hD (by omega) (fun j H2 hj G2 R hR => ht j H2 hj (G.trans G2) R hR) (fun j H2 hj G2 R hR => he j H2 hj (G.trans G2) R hR) fun H' G' hy => hQ D H' (G.trans G') hy
/-- a list of numbers against the empty one -/
theorem dp_ints {K : PySem.W.Frag} {H : Hp} : ∀ ns : List Int, DpAll K H (ns.map V.int) (ns.map PyData.int)
  | [] => .nil
  | x :: r => .cons (.int x) (dp_ints r)
theorem lay_ints : ∀ ns : List Int, PyData.canLayAll0 (ns.map PyData.int) = true
  | [] => rfl
  | x :: r => by
    show (true && PyData.canLayAll0 (r.map PyData.int)) = true
    rw [lay_ints r]
    rfl
theorem depth_ints : ∀ ns : List Int, PyData.depthAll (ns.map PyData.int) = 0
  | [] => rfl
  | x :: r => by
    show max 0 (PyData.depthAll (r.map PyData.int)) = 0
    rw [depth_ints r]
    rfl
theorem shaped_ints (ns : List Int) : SeqAt.shaped (.list (ns.map PyData.int)) = true := by
  show (PyData.canLayAll0 (ns.map PyData.int) && decide (PyData.depthAll (ns.map PyData.int) + 1 ≤ 64)) = true
  rw [lay_ints, depth_ints]
  rfl
theorem eqv_nil (ns : List PyData) : PyData.eqv (.list ns) (.list []) = ns.isEmpty := by
  show PyData.eqvAll ns [] = _
  cases ns with
  | nil => rfl
  | cons a r => rfl
def stemB (n1 : Str) (k1 : List Str) (n2 : Str) (k2 : List Str) : Bool := decide (n1 = n2) && decide (k1 = k2.take k1.length)
def spTwo (K : PySem.W.Frag) (B : Str → List Str → Str → List Str → Bool) : Sp := fun vs H Q _ => ∃ (p q : Addr) (n1 n2 : Str) (k1 k2 : List Str), vs = [.ref p, .ref q] ∧ RefAt K H p n1 k1 ∧ RefAt K H q n2 k2 ∧ REF n1 k1 ∧ REF n2 k2 ∧ ∀ H', Sm H H' → Q (.bl (B n1 k1 n2 k2)) H'
theorem cut_drop (xs : List V) (k : Nat) : cutV xs (some (k : Int)) none = xs.drop k := by
  unfold cutV
  rw [HT.sIx_none, HT.sIx_nat]
  by_cases h : k ≤ xs.length
  · rw [Nat.min_eq_left h, List.take_of_length_le]
    rw [List.length_drop]
    exact Nat.le_refl _
  · rw [Nat.min_eq_right (by omega), List.drop_eq_nil_of_le (Nat.le_refl _), List.drop_eq_nil_of_le (by omega), List.take_nil]
/-! ### loops, and heaps behind a bag that is one's own -/
theorem Sm.go {H0 H1 H2 : Hp} {b : Addr} {n : Nat} (S : Sm H0 H1) (G : Go b n H1 H2) (hb : H0 b = none) : Sm H0 H2 := ⟨fun a o h nt => G.keep a o (ne_of_none h hb) (S.keep a o h nt) nt, fun P t => G.tab P (S.tab P t), fun a ha => S.gone a (G.gone a ha)⟩
theorem SqT.upd {K : PySem.W.Frag} {H : Hp} {S t : Addr} {xs ys : List V} {o : HO} (h : SqT K H t xs) (hs : H S = some (.lst ys)) : SqT K (upd H S o) t xs := by
  have ne : ∀ {u : HO}, H t = some u → (∀ zs, u ≠ .lst zs) → t ≠ S := fun hu no e => by
    rw [e, hs] at hu
    exact no _ (Option.some.inj hu).symm
  rcases h with (h | ⟨ob, h⟩) | h
  · exact .inl (.inl (by rw [upd_ne (ne h fun _ z => by cases z)]; exact h))
  · exact .inl (.inr ⟨ob, by rw [upd_ne (ne h fun _ z => by cases z)]; exact h⟩)
  · exact .inr h
theorem RefAt.upd {K : PySem.W.Frag} {H : Hp} {S p : Addr} {n : Str} {ks : List Str} {ys : List V} {o : HO} (h : RefAt K H p n ks) (hs : H S = some (.lst ys)) : RefAt K (upd H S o) p n ks := by
  obtain ⟨t, h1, h2⟩ := h.ex
  exact ⟨t, SqT.upd h1 hs, SqT.upd h2 hs⟩
theorem Bag.upd {H : Hp} {b S : Addr} {m : Nat} {o : HO} (B : Bag H b m) (ne : S ≠ b) : Bag (upd H S o) b m := by
  obtain ⟨x, y, z, h1, h2⟩ := B
  exact ⟨x, y, z, by rw [upd_ne (Ne.symm ne)]; exact h1, h2⟩
section
variable {K : PySem.W.Frag}
theorem for_in {i j : Nat} {S : Addr} {xs : List V} {tb : TS} {D : Ends} {σ : L2.St} {H : Hp} (Pv : Nat → L2.St → Hp → Prop) (hj : σ[j]? = some (some (.ref S))) (hS : SqL K H S xs) (h0 : Pv 0 σ H) (hl : ∀ n σ H, n ≤ xs.length → Pv n σ H → SqL K H S xs)
    (hs : ∀ n x σ H, xs[n]? = some x → Pv n σ H → tb { D with nx := Pv (n + 1), ct := Pv (n + 1), bk := D.nx } (σ.set i (some x)) H) (hd : ∀ σ H, Pv xs.length σ H → D.nx σ H) : tFor (iList K (tVar j)) (gName i) tb D σ H :=
  ⟨_, hj, S, rfl, ⟨_, hS⟩, for_list (xs := xs) Pv h0 hl hs hd⟩
theorem for_rng {i n : Nat} {ta : TA} {tb : TS} {D : Ends} {σ : L2.St} {H : Hp} (Pv : Nat → L2.St → Hp → Prop) (ha : ∀ R : List V → Hp → Prop, (∀ H1, Sm H H1 → R [.int (n : Int)] H1) → ta σ H R) (hn : n ≤ 90000) (h0 : ∀ H1, Sm H H1 → Pv 0 σ H1)
    (hs : ∀ j σ H, j < n → Pv j σ H → tb { D with nx := Pv (j + 1), ct := Pv (j + 1), bk := D.nx } (σ.set i (some (.int (0 + (j : Int))))) H) (hd : ∀ σ H, Pv n σ H → D.nx σ H) : tFor (iRng1 ta) (gName i) tb D σ H := by
  refine ha _ fun H1 S => ⟨(n : Int), rfl, by omega, by omega, ?_⟩
  exact for_range (lo := 0) (n := n) Pv (h0 H1 S) hs hd
/-- a comprehension over a list that keeps nothing -/
theorem lc_empty {i j : Nat} {S : Addr} {xs : List V} {σ : L2.St} {H : Hp} {tt : TT} {te : TE} {Q : VK} (hj : σ[j]? = some (some (.ref S))) (hS : SqL K H S xs)
    (ht : ∀ x H2, x ∈ xs → Sm H H2 → ∀ R : Bool → Hp → Prop, (∀ H', Sm H2 H' → R false H') → tt ((σ.set i none).set i (some x)) H2 R)
    (hQ : ∀ D H', Sm H H' → H' D = some (.lst []) → Q (.ref D) H') : tLc (iList K (tVar j)) (gName i) tt te [i] σ H Q := by
  refine ⟨_, hj, S, rfl, ⟨_, hS⟩, fun D hD => ?_⟩
  refine lc_list (K := K) (a := S) (xs := xs) (fun _ H' => Sm H H' ∧ H' D = some (.lst [])) ⟨Sm.new hD, upd_same⟩ (fun _ H' _ h => Sm.seq h.1 hS) (fun n x H' hx h => ?_) fun H' h => hQ D H' h.1 h.2
  refine ⟨?_, ?_⟩
  · show ((σ.set i none).set i (some x)).set i none = (σ.set i none)
    rw [List.set_set, List.set_set]
  · exact ht x H' (List.mem_of_getElem? hx) h.1 _ fun H2 S2 => iteF ⟨h.1.trans S2, S2 _ _ h.2⟩
theorem isi_bool {k : Bool} {H : Hp} {Q : VK} (q : Q (.bl true) H) : rIsi K [.bl k, .ty "bool"] H Q :=
  ⟨_, _, .type "bool", .type "bool", true, rfl, .ty "bool", .base (.bl k), kit_ty (by decide +kernel), q⟩
end
/-- a comprehension over a list that keeps nothing -/
theorem lc_none {K : PySem.W.Frag} {i : Nat} {te0 : TE} {xs : List V} {σ : L2.St} {H : Hp} {tt : TT} {te : TE} {Q : VK} (h0 : ∀ R : VK, (∀ S H1, Sm H H1 → SqL K H1 S xs → R (.ref S) H1) → te0 σ H R)
    (ht : ∀ x H2, x ∈ xs → Sm H H2 → ∀ R : Bool → Hp → Prop, (∀ H', Sm H2 H' → R false H') → tt ((σ.set i none).set i (some x)) H2 R)
    (hQ : ∀ D H', Sm H H' → H' D = some (.lst []) → Q (.ref D) H') : tLc (iList K te0) (gName i) tt te [i] σ H Q := by
  refine h0 _ fun S H1 S1 hS => ⟨S, rfl, ⟨_, hS⟩, fun D hD => ?_⟩
  refine lc_list (K := K) (a := S) (xs := xs) (fun _ H' => Sm H1 H' ∧ H' D = some (.lst [])) ⟨Sm.new hD, upd_same⟩ (fun _ H' _ h => Sm.seq h.1 hS) (fun n x H' hx h => ?_) fun H' h => hQ D H' (S1.trans h.1) h.2
  refine ⟨?_, ?_⟩
  · show ((σ.set i none).set i (some x)).set i none = (σ.set i none)
    rw [List.set_set, List.set_set]
  · exact ht x H' (List.mem_of_getElem? hx) (S1.trans h.1) _ fun H2 S2 => iteF ⟨h.1.trans S2, S2 _ _ h.2⟩
/-! ### things of any kind: their shape, kept as long as nothing outside some addresses changes -/
inductive D where
  | non
  | bl (b : Bool)
  | int (i : Int)
  | str (z : Str)
  | lst (l : List D)
  | tup (l : List D)
  | dic
mutual
inductive Th (K : PySem.W.Frag) (av : Addr → Prop) (n : Nat) (H : Hp) : V → D → Prop
  | non : Th K av n H .non .non
  | bl (b : Bool) : Th K av n H (.bl b) (.bl b)
  | int (i : Int) : i.natAbs ≤ 10 ^ 22 + n → Th K av n H (.int i) (.int i)
  | str (z : Str) : (tl z).length ≤ 400 + n → (∀ c ∈ tl z, c < 128) → Th K av n H (.str z) (.str z)
  | lst {a : Addr} {xs : List V} {ds : List D} : H a = some (.lst xs) → ¬ av a → xs.length ≤ 40 + n → ThAll K av n H xs ds → Th K av n H (.ref a) (.lst ds)
  | tup {a : Addr} {xs : List V} {ds : List D} : SqT K H a xs → xs.length ≤ 40 + n → ThAll K av n H xs ds → Th K av n H (.ref a) (.tup ds)
  | dic {a : Addr} : H a = some (.dK []) → Th K av n H (.ref a) .dic
inductive ThAll (K : PySem.W.Frag) (av : Addr → Prop) (n : Nat) (H : Hp) : List V → List D → Prop
  | nil : ThAll K av n H [] []
  | cons {v : V} {vs : List V} {d : D} {ds : List D} : Th K av n H v d → ThAll K av n H vs ds → ThAll K av n H (v :: vs) (d :: ds)
end
/-- what is avoided are lists -/
def AvL (av : Addr → Prop) (H : Hp) : Prop := ∀ a, av a → ∃ xs, H a = some (.lst xs)
/-- outside of what is avoided all is kept -/
def KO (av : Addr → Prop) (H H' : Hp) : Prop := ∀ a o, ¬ av a → H a = some o → notTbl o = true → H' a = some o
theorem KO.sm {av : Addr → Prop} {H H' : Hp} (S : Sm H H') : KO av H H' := fun a o _ h n => S.keep a o h n
theorem KO.go {av : Addr → Prop} {b : Addr} {n : Nat} {H H' : Hp} (G : Go b n H H') (hb : av b) : KO av H H' := fun a o h e n => G.keep a o (fun z => h (z ▸ hb)) e n
theorem KO.refl {av : Addr → Prop} {H : Hp} : KO av H H := fun _ _ _ h _ => h
theorem KO.trans {av : Addr → Prop} {H H1 H2 : Hp} (x : KO av H H1) (y : KO av H1 H2) : KO av H H2 := fun a o h e n => y a o h (x a o h e n) n
theorem KO.upd {av : Addr → Prop} {H : Hp} {p : Addr} {o : HO} (hp : av p) : KO av H (upd H p o) := fun a u h e _ => by
  have ne : a ≠ p := fun z => h (by rw [z]; exact hp)
  rw [upd_ne ne]
  exact e
theorem AvL.sm {av : Addr → Prop} {H H' : Hp} (A : AvL av H) (S : Sm H H') : AvL av H' := fun a h => by
  obtain ⟨xs, e⟩ := A a h
  exact ⟨xs, S _ _ e⟩
theorem AvL.go {av : Addr → Prop} {b : Addr} {n m : Nat} {H H' : Hp} (A : AvL av H) (G : Go b n H H') (B : Bag H b m) : AvL av H' := fun a h => by
  by_cases e : a = b
  · subst e
    obtain ⟨x, y, z, q, _⟩ := G.bag _ B
    exact ⟨_, q⟩
  · obtain ⟨xs, q⟩ := A a h
    exact ⟨xs, G.keep a _ e q⟩
theorem AvL.fresh {av : Addr → Prop} {H : Hp} (A : AvL av H) {p : Addr} (h : H p = none) : ¬ av p := fun z => by
  obtain ⟨xs, e⟩ := A p z
  rw [h] at e
  cases e
/-- the addresses avoided, and one more -/
def Av1 (av : Addr → Prop) (p : Addr) : Addr → Prop := fun a => av a ∨ a = p
theorem AvL.one {av : Addr → Prop} {H : Hp} {p : Addr} {xs : List V} (A : AvL av H) (h : H p = some (.lst xs)) : AvL (Av1 av p) H := fun a z => by
  rcases z with z | rfl
  · exact A a z
  · exact ⟨xs, h⟩
/-- .. if they are there at all -/
def AvW (av : Addr → Prop) (H : Hp) : Prop := ∀ a o, av a → H a = some o → ∃ xs, o = .lst xs
theorem AvL.w {av : Addr → Prop} {H : Hp} (A : AvL av H) : AvW av H := fun a o h e => by
  obtain ⟨xs, q⟩ := A a h
  rw [e] at q
  exact ⟨xs, Option.some.inj q⟩
theorem AvW.one {av : Addr → Prop} {H : Hp} {p : Addr} (A : AvW av H) (h : H p = none) : AvW (Av1 av p) H := fun a o z e => by
  rcases z with z | rfl
  · exact A a o z e
  · rw [h] at e
    cases e
section
variable {K : PySem.W.Frag} {av av' : Addr → Prop} {n n' : Nat} {H H' : Hp}
theorem sqT_koW (A : AvW av H) (k : KO av H H') {a : Addr} {xs : List V} (h : SqT K H a xs) : SqT K H' a xs := by
  have out : ∀ {u : HO}, H a = some u → (∀ ys, u ≠ .lst ys) → ¬ av a := fun hu no z => by
    obtain ⟨ys, e⟩ := A a _ z hu
    exact no ys e
  rcases h with (h | ⟨o, h⟩) | h
  · exact .inl (.inl (k a _ (out h fun _ z => by cases z) h rfl))
  · exact .inl (.inr ⟨o, k a _ (out h fun _ z => by cases z) h rfl⟩)
  · exact .inr h
theorem sqT_ko (A : AvL av H) (k : KO av H H') {a : Addr} {xs : List V} (h : SqT K H a xs) : SqT K H' a xs := sqT_koW A.w k h
mutual
theorem Th.koW (A : AvW av H) (k : KO av H H') : ∀ {v : V} {d : D}, Th K av n H v d → Th K av n H' v d
  | _, _, .non => .non
  | _, _, .bl b => .bl b
  | _, _, .int i h => .int i h
  | _, _, .str z h1 h2 => .str z h1 h2
  | _, _, .lst h1 h2 h3 h4 => .lst (k _ _ h2 h1 rfl) h2 h3 (ThAll.koW A k h4)
  | _, _, .tup h1 h2 h3 => .tup (sqT_koW A k h1) h2 (ThAll.koW A k h3)
  | _, _, .dic h => .dic (k _ _ (fun z => by
      obtain ⟨ys, e⟩ := A _ _ z h
      cases e) h rfl)
theorem ThAll.koW (A : AvW av H) (k : KO av H H') : ∀ {vs : List V} {ds : List D}, ThAll K av n H vs ds → ThAll K av n H' vs ds
  | _, _, .nil => .nil
  | _, _, .cons h t => .cons (Th.koW A k h) (ThAll.koW A k t)
end
theorem Th.ko (A : AvL av H) (k : KO av H H') {v : V} {d : D} (h : Th K av n H v d) : Th K av n H' v d := h.koW A.w k
theorem ThAll.ko (A : AvL av H) (k : KO av H H') {vs : List V} {ds : List D} (h : ThAll K av n H vs ds) : ThAll K av n H' vs ds := h.koW A.w k
mutual
/-- other bounds, other addresses avoided -/
theorem Th.turn (hn : n ≤ n') (ha : ∀ a xs, H a = some (.lst xs) → ¬ av a → ¬ av' a) : ∀ {v : V} {d : D}, Th K av n H v d → Th K av' n' H v d
  | _, _, .non => .non
  | _, _, .bl b => .bl b
  | _, _, .int i h => .int i (by omega)
  | _, _, .str z h1 h2 => .str z (by omega) h2
  | _, _, .lst h1 h2 h3 h4 => .lst h1 (ha _ _ h1 h2) (by omega) (ThAll.turn hn ha h4)
  | _, _, .tup h1 h2 h3 => .tup h1 (by omega) (ThAll.turn hn ha h3)
  | _, _, .dic h => .dic h
theorem ThAll.turn (hn : n ≤ n') (ha : ∀ a xs, H a = some (.lst xs) → ¬ av a → ¬ av' a) : ∀ {vs : List V} {ds : List D}, ThAll K av n H vs ds → ThAll K av' n' H vs ds
  | _, _, .nil => .nil
  | _, _, .cons h t => .cons (Th.turn hn ha h) (ThAll.turn hn ha t)
end
theorem Th.mono (hn : n ≤ n') {v : V} {d : D} (h : Th K av n H v d) : Th K av n' H v d := h.turn hn fun _ _ _ z => z
theorem ThAll.mono (hn : n ≤ n') {vs : List V} {ds : List D} (h : ThAll K av n H vs ds) : ThAll K av n' H vs ds := h.turn hn fun _ _ _ z => z
/-- one more is avoided that wasn't there -/
theorem Th.more {p : Addr} (hp : H p = none) {v : V} {d : D} (h : Th K av n H v d) : Th K (Av1 av p) n H v d := h.turn (Nat.le_refl _) fun a xs e z q => by
  rcases q with q | rfl
  · exact z q
  · rw [hp] at e
    cases e
theorem ThAll.more {p : Addr} (hp : H p = none) {vs : List V} {ds : List D} (h : ThAll K av n H vs ds) : ThAll K (Av1 av p) n H vs ds := h.turn (Nat.le_refl _) fun a xs e z q => by
  rcases q with q | rfl
  · exact z q
  · rw [hp] at e
    cases e
theorem Th.less {p : Addr} {v : V} {d : D} (h : Th K (Av1 av p) n H v d) : Th K av n H v d := h.turn (Nat.le_refl _) fun a xs _ z q => z (.inl q)
theorem ThAll.less {p : Addr} {vs : List V} {ds : List D} (h : ThAll K (Av1 av p) n H vs ds) : ThAll K av n H vs ds := h.turn (Nat.le_refl _) fun a xs _ z q => z (.inl q)
theorem ThAll.len : ∀ {vs : List V} {ds : List D}, ThAll K av n H vs ds → vs.length = ds.length
  | _, _, .nil => rfl
  | _, _, .cons _ t => congrArg (· + 1) (ThAll.len t)
theorem ThAll.append {vs ws : List V} {ds es : List D} : ThAll K av n H vs ds → ThAll K av n H ws es → ThAll K av n H (vs ++ ws) (ds ++ es)
  | .nil, t => t
  | .cons h r, t => .cons h (ThAll.append r t)
theorem ThAll.at : ∀ {vs : List V} {ds : List D} {i : Nat}, ThAll K av n H vs ds → (hi : i < vs.length) → ∃ d, ds[i]? = some d ∧ Th K av n H vs[i] d
  | _, _, 0, .cons h _, _ => ⟨_, rfl, h⟩
  | _, _, i + 1, .cons _ t, hi => ThAll.at (i := i) t (by simpa using hi)
theorem ThAll.take : ∀ {vs : List V} {ds : List D} (i : Nat), ThAll K av n H vs ds → ThAll K av n H (vs.take i) (ds.take i)
  | _, _, 0, _ => by simp; exact .nil
  | _, _, i + 1, .nil => by simp; exact .nil
  | _, _, i + 1, .cons h t => .cons h (ThAll.take i t)
theorem ThAll.drop : ∀ {vs : List V} {ds : List D} (i : Nat), ThAll K av n H vs ds → ThAll K av n H (vs.drop i) (ds.drop i)
  | _, _, 0, h => by simpa using h
  | _, _, i + 1, .nil => by simp; exact .nil
  | _, _, i + 1, .cons _ t => by simpa using ThAll.drop i t
theorem ThAll.set : ∀ {vs : List V} {ds : List D} {i : Nat} {v : V} {d : D}, ThAll K av n H vs ds → Th K av n H v d → ThAll K av n H (vs.set i v) (ds.set i d)
  | _, _, 0, _, _, .cons _ t, h => .cons h t
  | _, _, i + 1, _, _, .cons a t, h => .cons a (ThAll.set t h)
  | _, _, _, _, _, .nil, _ => .nil
theorem ThAll.rev : ∀ {vs : List V} {ds : List D}, ThAll K av n H vs ds → ThAll K av n H vs.reverse ds.reverse
  | _, _, .nil => .nil
  | _, _, .cons a t => by
    rw [List.reverse_cons, List.reverse_cons]
    exact ThAll.append (ThAll.rev t) (.cons a .nil)
end
/-! ### their kinds -/
def D.ty : D → String
  | .non => "NoneType"
  | .bl _ => "bool"
  | .int _ => "int"
  | .str _ => "str"
  | .lst _ => "list"
  | .tup _ => "tuple"
  | .dic => "dict"
section
variable {K : PySem.W.Frag} {av : Addr → Prop} {n : Nat} {H : Hp}
theorem Th.tyx {v : V} {d : D} (h : Th K av n H v d) : TyX K H v (.type d.ty) := by
  cases h with
  | non => exact .base .non
  | bl b => exact .base (.bl b)
  | int i => exact .base (.int i)
  | str z => exact .base (.str z)
  | lst h => exact .base (.lst h)
  | tup h =>
    rcases h with (h | ⟨o, h⟩) | ⟨o, its, m, e, c, _⟩
    · exact .base (.tup h)
    · exact .fTuple h
    · exact .kTuple e c
  | dic h => exact .base (.dK h)
def isK (d : D) (c : String) : Bool := (kitB d.ty c).getD false
theorem isi_th {v : V} {d : D} {c : String} {Q : VK} (h : Th K av n H v d) (hk : (kitB d.ty c).isSome = true) (q : Q (.bl (isK d c)) H) : rIsi K [v, .ty c] H Q := by
  obtain ⟨r, e⟩ := Option.isSome_iff_exists.mp hk
  refine ⟨v, .ty c, _, .type c, r, rfl, ClsV.ty c, h.tyx, kit_ty e, ?_⟩
  unfold isK at q
  rw [e] at q
  exact q
theorem some_kit {c : String} (hc : (["NoneType", "bool", "int", "str", "list", "tuple", "dict"].all fun t => (kitB t c).isSome) = true) (d : D) : (kitB d.ty c).isSome = true := by
  have := List.all_eq_true.mp hc
  cases d <;> exact this _ (by simp [D.ty])
theorem kit_str (d : D) : (kitB d.ty "str").isSome = true := some_kit (by decide +kernel) d
theorem kit_int (d : D) : (kitB d.ty "int").isSome = true := some_kit (by decide +kernel) d
theorem kit_bool (d : D) : (kitB d.ty "bool").isSome = true := some_kit (by decide +kernel) d
theorem kit_list (d : D) : (kitB d.ty "list").isSome = true := some_kit (by decide +kernel) d
theorem kit_tuple (d : D) : (kitB d.ty "tuple").isSome = true := some_kit (by decide +kernel) d
end
def D.isStr : D → Bool
  | .str _ => true
  | _ => false
def D.isTup : D → Bool
  | .tup _ => true
  | _ => false
def D.isLst : D → Bool
  | .lst _ => true
  | _ => false
def D.isInt : D → Bool
  | .int _ => true
  | .bl _ => true
  | _ => false
def D.isBl : D → Bool
  | .bl _ => true
  | _ => false
theorem isK_str (d : D) : isK d "str" = d.isStr := by cases d <;> (simp only [isK, D.ty, D.isStr]; decide +kernel)
theorem isK_tup (d : D) : isK d "tuple" = d.isTup := by cases d <;> (simp only [isK, D.ty, D.isTup]; decide +kernel)
theorem isK_lst (d : D) : isK d "list" = d.isLst := by cases d <;> (simp only [isK, D.ty, D.isLst]; decide +kernel)
theorem isK_int (d : D) : isK d "int" = d.isInt := by cases d <;> (simp only [isK, D.ty, D.isInt]; decide +kernel)
theorem isK_bl (d : D) : isK d "bool" = d.isBl := by cases d <;> (simp only [isK, D.ty, D.isBl]; decide +kernel)
theorem kit_isK {K : PySem.W.Frag} {d : D} {c : String} (hk : (kitB d.ty c).isSome = true) : PySem.W.kitOne K (.type d.ty) (.type c) = some (isK d c) := by
  obtain ⟨r, e⟩ := Option.isSome_iff_exists.mp hk
  unfold isK
  rw [e]
  exact kit_ty e
theorem kitS {K : PySem.W.Frag} (d : D) : PySem.W.kitOne K (.type d.ty) (.type "str") = some d.isStr := by rw [← isK_str]; exact kit_isK (kit_str d)
theorem kitT {K : PySem.W.Frag} (d : D) : PySem.W.kitOne K (.type d.ty) (.type "tuple") = some d.isTup := by rw [← isK_tup]; exact kit_isK (kit_tuple d)
theorem kitL {K : PySem.W.Frag} (d : D) : PySem.W.kitOne K (.type d.ty) (.type "list") = some d.isLst := by rw [← isK_lst]; exact kit_isK (kit_list d)
theorem kitI {K : PySem.W.Frag} (d : D) : PySem.W.kitOne K (.type d.ty) (.type "int") = some d.isInt := by rw [← isK_int]; exact kit_isK (kit_int d)
theorem kitB' {K : PySem.W.Frag} (d : D) : PySem.W.kitOne K (.type d.ty) (.type "bool") = some d.isBl := by rw [← isK_bl]; exact kit_isK (kit_bool d)
/-! ### rules: against the empty list; isinstance of two; a tuple some times -/
section
variable {X : Cx} (K : PySem.W.Frag)
theorem isIT (h : X.K = K := by rfl) : CallR X (.builtin "isinstance") (rIsiT K) := h ▸ call_isiT
theorem repT (h : X.K = K := by rfl) : OpR X (binaryOp .Mult) (rRepT K) := h ▸ op_repT
def rEqE (K : PySem.W.Frag) : R2 := fun x y H Q => ∃ a b xs, x = .ref a ∧ y = .ref b ∧ SqL K H a xs ∧ SqL K H b [] ∧ Q (.bl xs.isEmpty) H
def rNeE (K : PySem.W.Frag) : R2 := fun x y H Q => ∃ a b xs, x = .ref a ∧ y = .ref b ∧ SqL K H a xs ∧ SqL K H b [] ∧ Q (.bl (!xs.isEmpty)) H
theorem eqE (hu : X.A.units + 64 < cLine) (h : X.K = K := by rfl) : OpR X (compareOp .Eq) (rEqE K) := by
  subst h
  intro pins s σ H x y v u Q I rx ry h
  obtain ⟨a, b, xs, rfl, rfl, hx, hy, q⟩ := h
  obtain rfl : v = Value.ref a := rx
  obtain rfl : u = Value.ref b := ry
  obtain ⟨us, r1, p1, _⟩ := I.list hx
  obtain ⟨ws, r2, p2, _⟩ := I.list hy
  cases r2
  cases r1 with
  | nil => exact SeqAt.RcAt.lists (e := fun _ => true) p1.isList p2.isList rfl (by omega) (fun j h1 _ => absurd h1 (Nat.not_lt_zero _)) X.prog X.w _ _ ⟨.bl true, H, I, rfl, q⟩
  | cons _ _ => exact SeqAt.RcAt.lists_lengths p1.isList p2.isList (by simp) (by omega) X.prog X.w _ _ ⟨.bl false, H, I, rfl, q⟩
theorem neE (hu : X.A.units + 64 < cLine) (h : X.K = K := by rfl) : OpR X (compareOp .NotEq) (rNeE K) := by
  subst h
  intro pins s σ H x y v u Q I rx ry h
  obtain ⟨a, b, xs, rfl, rfl, hx, hy, q⟩ := h
  obtain rfl : v = Value.ref a := rx
  obtain rfl : u = Value.ref b := ry
  obtain ⟨us, r1, p1, _⟩ := I.list hx
  obtain ⟨ws, r2, p2, _⟩ := I.list hy
  cases r2
  cases r1 with
  | nil => exact SeqAt.RcNeAt.lists (e := fun _ => true) p1.isList p2.isList rfl (by omega) (fun j h1 _ => absurd h1 (Nat.not_lt_zero _)) X.prog X.w _ _ ⟨.bl false, H, I, rfl, q⟩
  | cons _ _ => exact SeqAt.RcNeAt.lists_lengths p1.isList p2.isList (by simp) (by omega) X.prog X.w _ _ ⟨.bl true, H, I, rfl, q⟩
theorem pe_revK {e : Expr} {te : TE} {k : Nat} {p1 p2 p3 pos : Pos} (he : PE X e te) (h : X.K = K := by rfl) : PE X (.Subscript e (.Slice none none (some (.UnaryOp .USub (.Constant (.int 1) k p1) p2)) p3) pos) (tRevL K te) := h ▸ pe_revL he
end
/-! ### all(.. for sign in text) -/
theorem all_signs {p : Addr} {te0 te : TE} {i : Nat} {σ : L2.St} {H : Hp} {Q : VK} {z : Str} (pb : Nat → Bool) (h0 : ∀ R : VK, R (.str z) H → te0 σ H R) (ht : GxR.TabG H p)
    (he : ∀ (c : Nat) (H2 : Hp) (R : VK), c ∈ tl z → Sm H H2 → (∀ H3, Sm H2 H3 → R (.bl (pb c)) H3) → te ((σ.set i none).set i (some (.str ⟨#[c]⟩))) H2 R) (q : ∀ H', Sm H H' → Q (.bl ((tl z).all pb)) H') : GA.tAllG p (iStr te0) (gName i) te [i] σ H Q := by
  refine h0 _ ⟨z, rfl, ht, fun H2 hT => ?_⟩
  have S2 : Sm H H2 := Sm.tabbed ht hT
  refine ⟨fun j m H' => Sm H H' ∧ j ≤ (tl z).length ∧ m = (tl z).length - j ∧ ∀ k c, k < j → (tl z)[k]? = some c → pb c = true, ⟨_, S2, Nat.zero_le _, rfl, fun k c hk => absurd hk (Nat.not_lt_zero _)⟩, fun j m H' hw => ?_⟩
  obtain ⟨S, hj, rfl, hp⟩ := hw
  have sz : z.cps.size = (tl z).length := by simp [tl]
  by_cases hlt : j < (tl z).length
  · refine .inr ⟨by show j < z.cps.size; omega, fun H'' => Sm H H'' ∧ pb (tl z)[j] = true, fun H'' h => ⟨_, ?_, h.1, by omega, rfl, fun k c hk hc => ?_⟩, fun x H'' hy => ?_⟩
    · omega
    · by_cases e : k = j
      · subst e
        rw [List.getElem?_eq_getElem hlt] at hc
        rw [← Option.some.inj hc]
        exact h.2
      · exact hp k c (by omega) hc
    · obtain ⟨rfl, c, hc, rfl⟩ := hy
      have hc' : (tl z)[j]? = some c := by
        show z.cps.toList[j]? = some c
        rw [Array.getElem?_toList]
        exact hc
      have ec : (tl z)[j] = c := by
        rw [List.getElem?_eq_getElem hlt] at hc'
        exact Option.some.inj hc'
      refine ⟨?_, ?_⟩
      · show ((σ.set i none).set i (some (V.str ⟨#[c]⟩))).set i none = σ.set i none
        rw [List.set_set, List.set_set]
      · refine he c H'' _ (List.mem_of_getElem? hc') S fun H3 S3 => ⟨_, rfl, ?_⟩
        refine ite2 (fun e => ?_) (fun e => ?_)
        · exact ⟨S.trans S3, by rw [ec]; exact e⟩
        · have : (tl z).all pb = false := by
            cases q' : (tl z).all pb with
            | false => rfl
            | true => exact absurd (List.all_eq_true.mp q' c (List.mem_of_getElem? hc')) e
          have := this ▸ q H3 (S.trans S3)
          exact this
  · refine .inl ⟨by show z.cps.size ≤ j; omega, ?_⟩
    have : (tl z).all pb = true := List.all_eq_true.mpr fun c hc => by
      obtain ⟨k, hk, e⟩ := List.mem_iff_getElem.mp hc
      exact hp k c (by omega) (by rw [List.getElem?_eq_getElem hk, e])
    have := this ▸ q H' S
    exact this
/-! ### what is a worth, a key, a name, a row of keys, a reference: of things of any kind -/
def wD : D → Bool
  | .str z => (tl z).all sgn
  | _ => false
def lenD : D → Nat
  | .str z => (tl z).length
  | .tup l => l.length
  | _ => 0
def kD (d : D) : Bool := wD d && (decide (1 ≤ lenD d) && decide (lenD d ≤ 40))
def nD : D → Bool
  | .str z => (decide (1 ≤ (tl z).length) && decide ((tl z).length ≤ 8)) && (tl z).all AZ
  | _ => false
def rowD : D → Bool
  | .tup l => decide (l.length ≤ 6) && l.all kD
  | _ => false
def refD : D → Bool
  | .tup [x, y] => nD x && rowD y
  | _ => false
def spD (f : D → Bool) (K : PySem.W.Frag) (cs : Tabs) : Sp := fun vs H Q _ => ∃ (v : V) (d : D) (n : Nat) (av : Addr → Prop), vs = [v] ∧ Th K av n H v d ∧ AvL av H ∧ n ≤ 10 ∧ TGs H cs ∧ ∀ H', Sm H H' → Q (.bl (f d)) H'
theorem str_of {K : PySem.W.Frag} {av : Addr → Prop} {n : Nat} {H : Hp} {v : V} {d : D} (h : Th K av n H v d) (c : d.isStr = true) : ∃ z, v = .str z ∧ d = .str z ∧ (tl z).length ≤ 400 + n ∧ ∀ c ∈ tl z, c < 128 := by
  cases h with
  | str z h1 h2 => exact ⟨z, rfl, rfl, h1, h2⟩
  | _ => cases c
theorem tup_of {K : PySem.W.Frag} {av : Addr → Prop} {n : Nat} {H : Hp} {v : V} {d : D} (h : Th K av n H v d) (c : d.isTup = true) : ∃ a xs ds, v = .ref a ∧ d = .tup ds ∧ SqT K H a xs ∧ xs.length ≤ 40 + n ∧ ThAll K av n H xs ds := by
  cases h with
  | tup h1 h2 h3 => exact ⟨_, _, _, rfl, rfl, h1, h2, h3⟩
  | _ => cases c
theorem lt1 (a b : Nat) : decide ([a] < [b]) = decide (a < b) := by
  by_cases h : a < b
  · rw [decide_eq_true h]
    exact decide_eq_true (List.Lex.rel h)
  · rw [decide_eq_false h]
    refine decide_eq_false fun c => h ?_
    cases c with
    | rel q => exact q
    | cons q => cases q
theorem two_of {K : PySem.W.Frag} {av : Addr → Prop} {n : Nat} {H : Hp} {xs : List V} {ds : List D} (h : ThAll K av n H xs ds) (hl : lenD (.tup ds) = 2) : ∃ x y, xs = [x, y] ∧ ∃ d e, ds = [d, e] ∧ Th K av n H x d ∧ Th K av n H y e := by
  have hl : ds.length = 2 := hl
  cases h with
  | nil => cases hl
  | cons h1 t =>
    cases t with
    | nil => cases hl
    | cons h2 t =>
      cases t with
      | nil => exact ⟨_, _, rfl, _, _, rfl, h1, h2⟩
      | cons h3 t => simp at hl
/-- all(.. for x in tuple) -/
theorem all_tup {K : PySem.W.Frag} {av : Addr → Prop} {n : Nat} {p a : Addr} {te0 te : TE} {i : Nat} {σ : L2.St} {H : Hp} {Q : VK} {xs : List V} {ds : List D} (pb : D → Bool) (A1 : AvL av H) (h1 : SqT K H a xs) (hx : ThAll K av n H xs ds) (h0 : ∀ R : VK, R (.ref a) H → te0 σ H R) (ht : GxR.TabG H p)
    (he : ∀ (x : V) (d : D) (H2 : Hp) (R : VK), Th K av n H2 x d → Sm H H2 → (∀ H3, Sm H2 H3 → R (.bl (pb d)) H3) → te ((σ.set i none).set i (some x)) H2 R) (q : ∀ H', Sm H H' → Q (.bl (ds.all pb)) H') : GA.tAllG p (iTup K te0) (gName i) te [i] σ H Q := by
  refine h0 _ ⟨a, rfl, ⟨xs, h1⟩, ht, fun H2 hT => ?_⟩
  have S2 : Sm H H2 := Sm.tabbed ht hT
  refine ⟨fun j m H' => Sm H H' ∧ j ≤ ds.length ∧ m = ds.length - j ∧ ∀ k d, k < j → ds[k]? = some d → pb d = true, ⟨_, S2, Nat.zero_le _, rfl, fun k c hk => absurd hk (Nat.not_lt_zero _)⟩, fun j m H' hw => ?_⟩
  obtain ⟨S, hj, rfl, hp⟩ := hw
  have len := hx.len
  by_cases hlt : j < ds.length
  · have hlx : j < xs.length := by omega
    obtain ⟨d, hd, hth⟩ := hx.at hlx
    refine .inr ⟨⟨xs, xs[j], Sm.seqT S h1, List.getElem?_eq_getElem hlx⟩, fun H'' => Sm H H'' ∧ pb d = true, fun H'' h => ⟨_, ?_, h.1, by omega, rfl, fun k c hk hc => ?_⟩, fun x H'' hy => ?_⟩
    · omega
    · by_cases e : k = j
      · subst e
        rw [hd] at hc
        rw [← Option.some.inj hc]
        exact h.2
      · exact hp k c (by omega) hc
    · obtain ⟨rfl, hy⟩ := hy
      have hxj := hy xs (Sm.seqT S h1)
      rw [List.getElem?_eq_getElem hlx] at hxj
      have ex := Option.some.inj hxj
      rw [ex] at hth
      refine ⟨?_, ?_⟩
      · show ((σ.set i none).set i (some x)).set i none = σ.set i none
        rw [List.set_set, List.set_set]
      · refine he x d H'' _ (hth.ko A1 (KO.sm S)) S fun H3 S3 => ⟨_, rfl, ?_⟩
        refine ite2 (fun e => ?_) (fun e => ?_)
        · exact ⟨S.trans S3, e⟩
        · have : ds.all pb = false := by
            cases q' : ds.all pb with
            | false => rfl
            | true => exact absurd (List.all_eq_true.mp q' d (List.mem_of_getElem? hd)) e
          have := this ▸ q H3 (S.trans S3)
          exact this
  · refine .inl ⟨⟨xs, Sm.seqT S h1, by omega⟩, ?_⟩
    have : ds.all pb = true := List.all_eq_true.mpr fun c hc => by
      obtain ⟨k, hk, e⟩ := List.mem_iff_getElem.mp hc
      exact hp k c (by omega) (by rw [List.getElem?_eq_getElem hk, e])
    have := this ▸ q H' S
    exact this
section
variable {P : Program} {w : World} {K : PySem.W.Frag} {mg : Str → Option Value} {base : Heap} {cs : Tabs}
theorem ok_is_worth (T : Txt K mg cs) (B : TBs base mg cs) : Cal P w K mg base 2 "is_worth" ["thing"] (spD wD K cs) := by
  refine T.f_is_worth.cal scIsWorth (fun vs H Q E h => ?_) (fun f A outer s H vs Q E hr h => ?_)
  · obtain ⟨v, d, n, av, rfl, _⟩ := h
    rfl
  obtain ⟨v, d, n, av, rfl, h, A1, hn, ht, q⟩ := h
  refine ⟨_, (pss_one (ps_ret (pe_and (pe_callB (isI K) rfl T.n_isinstance (by decide +kernel) (pa_cons (pv 0) (pa_cons (pe_bltn (v := .ty "str") rfl T.n_str (by decide +kernel) rfl) pa_nil))) (pe_one (GA.pe_allG (k := 0) (own := [("sign", 1)]) (g := gName 1) (hr.mono (by decide)) B.b_is_worth scIsWorth.nd (blkOk_by (own := [("sign", 1)]) (N := ["thing", "sign"]) (sc := defScope sIsWorth) (by decide +kernel)) (by decide +kernel) (pi_str (pv 0)) T.n_all (fun _ _ _ _ _ _ _ _ => (pg_name (i := 1) scIsWorth.nd rfl (by first | exact Or.inl rfl | exact Or.inr rfl))) (fun _ _ _ _ _ _ _ hr => (pe_and (pe_chain op_le_str op_le_str pe_str (pv 1) pe_str) (pe_one (pe_cmpR op_ne (pe_callB call_ord rfl T.n_ord (by decide +kernel) (pa_cons (pv 1) pa_nil)) (C8.pe_gc rfl T.g__PERCENT) (nomark _)))))))))), ?_⟩
  refine ⟨_, rfl, _, _, _, _, _, rfl, ClsV.ty "str", h.tyx, kitS d, _, rfl, ?_⟩
  refine ite2 (fun c => ?_) (fun c => ?_)
  · obtain ⟨z, rfl, rfl, hl, ha⟩ := str_of h c
    refine all_signs (i := 1) (z := z) sgn (fun R h => ⟨_, rfl, h⟩) ht.t_is_worth (fun c H2 R hc _ hR => ?_) q
    refine ⟨_, rfl, _, _, rfl, rfl, _, rfl, ?_⟩
    have e1 : (!decide (([c] : List Nat) < tl (" " : Str))) = decide (32 ≤ c) := by
      rw [show tl (" " : Str) = [32] by decide +kernel, lt1]
      by_cases h : 32 ≤ c
      · rw [decide_eq_true h, decide_eq_false (by omega)]; rfl
      · rw [decide_eq_false h, decide_eq_true (by omega)]; rfl
    have e2 : (!decide (tl ("~" : Str) < ([c] : List Nat))) = decide (c ≤ 126) := by
      rw [show tl ("~" : Str) = [126] by decide +kernel, lt1]
      by_cases h : c ≤ 126
      · rw [decide_eq_true h, decide_eq_false (by omega)]; rfl
      · rw [decide_eq_false h, decide_eq_true (by omega)]; rfl
    have no : ∀ {b : Bool}, sgn c = b → b = false → R (.bl false) H2 := fun e1 e2 => by
      have := hR H2 (Sm.refl H2)
      rw [e1, e2] at this
      exact this
    have s0 : sgn c = (decide (32 ≤ c) && (decide (c ≤ 126) && !decide (c = 37))) := rfl
    refine ite2 (fun c1 => ?_) (fun c1 => ?_)
    · have c1' : decide (32 ≤ c) = true := e1 ▸ c1
      refine ⟨_, _, rfl, rfl, _, rfl, ?_⟩
      refine ite2 (fun c2 => ?_) (fun c2 => ?_)
      · have c2' : decide (c ≤ 126) = true := e2 ▸ c2
        refine ⟨_, rfl, ⟨#[c]⟩, rfl, rfl, rfl, ?_⟩
        have e3 : (!decide (V.int (((⟨#[c]⟩ : Str).cps.getD 0 0 : Nat) : Int) = V.int 37)) = sgn c := by
          rw [s0, c1', c2', Bool.true_and, Bool.true_and]
          show (!decide (V.int (c : Int) = V.int 37)) = !decide (c = 37)
          by_cases h : c = 37
          · subst h; rfl
          · rw [decide_eq_false h, decide_eq_false]
            intro e
            injection e with e
            exact h (by omega)
        have := hR H2 (Sm.refl H2)
        rw [← e3] at this
        exact this
      · refine no s0 ?_
        have c2' : ¬ decide (c ≤ 126) = true := e2 ▸ c2
        rw [Bool.eq_false_iff.mpr c2', Bool.false_and, Bool.and_false]
    · refine ⟨_, rfl, iteF (no s0 ?_)⟩
      have c1' : ¬ decide (32 ≤ c) = true := e1 ▸ c1
      rw [Bool.eq_false_iff.mpr c1', Bool.false_and]
  · have : wD d = false := by
      cases d <;> first | rfl | exact absurd rfl c
    have q' := q H (Sm.refl H)
    rw [this] at q'
    exact q'
theorem ok_is_key (T : Txt K mg cs) (Cis_worth : Cal P w K mg base 2 "is_worth" ["thing"] (spD wD K cs)) : Cal P w K mg base 3 "is_key" ["thing"] (spD kD K cs) := by
  refine T.f_is_key.cal scIsKey (fun vs H Q E h => ?_) (fun f cdv A outer s H vs Q E hr h => ?_)
  · obtain ⟨v, d, n, av, rfl, _⟩ := h
    rfl
  obtain ⟨v, d, n, av, rfl, h, A1, hn, ht, q⟩ := h
  refine ⟨_, (pss_one (ps_ret (pe_and (pe_cal Cis_worth (hr.mono (by first | decide | omega)) (pa_cons (pv 0) pa_nil)) (pe_one (pe_chain op_le op_le pe_int (pe_callB lenT rfl T.n_len (by decide +kernel) (pa_cons (pv 0) pa_nil)) (C8.pe_gc rfl T.g__LONGEST_KEY)))))), ?_⟩
  refine ⟨_, rfl, v, d, n, av, rfl, h, A1, hn, ht, fun H1 S1 => ⟨_, rfl, ?_⟩⟩
  have q := q H1 S1
  refine ite2 (fun c => ?_) (fun c => ?_)
  · obtain ⟨z, rfl, rfl, hl, ha⟩ := str_of h (by cases d <;> first | rfl | cases c)
    have ez : z.length = (tl z).length := len_tl z
    have zl : z.length ≤ sizeLine := by rw [ez]; exact small (by omega)
    have e : kD (.str z) = (decide ((1 : Int) ≤ z.length) && decide ((z.length : Int) ≤ 40)) := by
      unfold kD
      rw [c, Bool.true_and]
      show (decide (1 ≤ (tl z).length) && decide ((tl z).length ≤ 40)) = _
      rw [ez]
      congr 1 <;> (rw [decide_eq_decide]; omega)
    rw [e] at q
    refine ⟨_, rfl, z, rfl, zl, _, _, rfl, rfl, _, rfl, ?_⟩
    refine ite2 (fun c1 => ?_) (fun c1 => ?_)
    · rw [c1, Bool.true_and] at q
      exact ⟨_, _, rfl, rfl, q⟩
    · rw [Bool.eq_false_iff.mpr c1, Bool.false_and] at q
      exact q
  · have : kD d = false := by
      unfold kD
      rw [Bool.eq_false_iff.mpr c, Bool.false_and]
    rw [this] at q
    exact q
theorem ok_is_name (T : Txt K mg cs) (B : TBs base mg cs) : Cal P w K mg base 2 "is_name" ["thing"] (spD nD K cs) := by
  refine T.f_is_name.cal scIsName (fun vs H Q E h => ?_) (fun f A outer s H vs Q E hr h => ?_)
  · obtain ⟨v, d, n, av, rfl, _⟩ := h
    rfl
  obtain ⟨v, d, n, av, rfl, h, A1, hn, ht, q⟩ := h
  refine ⟨_, (pss_cons (ps_if (PW.pt (pw_or (pt_not (pt_val (pe_callB (isI K) rfl T.n_isinstance (by decide +kernel) (pa_cons (pv 0) (pa_cons (pe_bltn (v := .ty "str") rfl T.n_str (by decide +kernel) rfl) pa_nil))))) (pw_or1 (pt_not (pt_chain op_le op_le pe_int (pe_callB lenT rfl T.n_len (by decide +kernel) (pa_cons (pv 0) pa_nil)) (C8.pe_gc rfl T.g__LONGEST_NAME)))))) (pss_one (ps_ret pe_bl)) pss_nil)
    (pss_one (ps_ret (GA.pe_allG (k := 0) (own := [("sign", 1)]) (g := gName 1) (hr.mono (by decide)) B.b_is_name scIsName.nd (blkOk_by (own := [("sign", 1)]) (N := ["thing", "sign"]) (sc := defScope sIsName) (by decide +kernel)) (by decide +kernel) (pi_str (pv 0)) T.n_all (fun _ _ _ _ _ _ _ _ => (pg_name (i := 1) scIsName.nd rfl (by first | exact Or.inl rfl | exact Or.inr rfl))) (fun _ _ _ _ _ _ _ hr => (pe_chain op_le_str op_le_str pe_str (pv 1) pe_str)))))), ?_⟩
  dsimp only [gName, tSeq, tAsg, tRet, tDrop, tNext, tOp, tIfS, tTest]
  refine ⟨_, rfl, _, _, _, _, _, rfl, ClsV.ty "str", h.tyx, kitS d, _, rfl, ?_⟩
  cases hs : d.isStr with
  | false =>
    refine iteT ?_
    have : nD d = false := by
      cases d <;> first | rfl | cases hs
    have q' := q H (Sm.refl H)
    rw [this] at q'
    exact q'
  | true =>
    refine iteF ?_
    obtain ⟨z, rfl, rfl, hl, ha⟩ := str_of h hs
    have ez : z.length = (tl z).length := len_tl z
    have zl : z.length ≤ sizeLine := by rw [ez]; exact small (by omega)
    have e : nD (.str z) = ((decide ((1 : Int) ≤ z.length) && decide ((z.length : Int) ≤ 8)) && (tl z).all AZ) := by
      show ((decide (1 ≤ (tl z).length) && decide ((tl z).length ≤ 8)) && (tl z).all AZ) = _
      rw [ez]
      congr 2 <;> (rw [decide_eq_decide]; omega)
    rw [e] at q
    refine ⟨_, rfl, z, rfl, zl, _, _, rfl, rfl, _, rfl, ?_⟩
    refine ite2 (fun c1 => ?_) (fun c1 => ?_)
    · rw [c1, Bool.true_and] at q
      refine ⟨_, _, rfl, rfl, _, rfl, ?_⟩
      refine ite2 (fun c2 => ?_) (fun c2 => ?_)
      · have c2' : decide ((z.length : Int) ≤ 8) = false := by simpa using c2
        rw [c2', Bool.false_and] at q
        exact q H (Sm.refl H)
      · have c2' : decide ((z.length : Int) ≤ 8) = true := by
          cases e : decide ((z.length : Int) ≤ 8) with
          | true => rfl
          | false => exact absurd (by rw [e]; rfl) c2
        rw [c2', Bool.true_and] at q
        refine all_signs (i := 1) (z := z) AZ (fun R h => ⟨_, rfl, h⟩) ht.t_is_name (fun c H2 R hc _ hR => ?_) q
        have s0 : AZ c = (decide (97 ≤ c) && decide (c ≤ 122)) := rfl
        have e1 : (!decide (([c] : List Nat) < tl ("a" : Str))) = decide (97 ≤ c) := by
          rw [show tl ("a" : Str) = [97] by decide +kernel, lt1]
          by_cases h : 97 ≤ c
          · rw [decide_eq_true h, decide_eq_false (by omega)]; rfl
          · rw [decide_eq_false h, decide_eq_true (by omega)]; rfl
        have e2 : (!decide (tl ("z" : Str) < ([c] : List Nat))) = decide (c ≤ 122) := by
          rw [show tl ("z" : Str) = [122] by decide +kernel, lt1]
          by_cases h : c ≤ 122
          · rw [decide_eq_true h, decide_eq_false (by omega)]; rfl
          · rw [decide_eq_false h, decide_eq_true (by omega)]; rfl
        have hR := hR H2 (Sm.refl H2)
        rw [s0, ← e1, ← e2] at hR
        refine ⟨_, rfl, _, _, rfl, rfl, _, rfl, ?_⟩
        refine ite2 (fun c1 => ?_) (fun c1 => ?_)
        · have c1' : (!decide (([c] : List Nat) < tl ("a" : Str))) = true := c1
          rw [c1', Bool.true_and] at hR
          exact ⟨_, _, rfl, rfl, hR⟩
        · have c1' : ¬ (!decide (([c] : List Nat) < tl ("a" : Str))) = true := c1
          rw [Bool.eq_false_iff.mpr c1', Bool.false_and] at hR
          exact hR
    · rw [Bool.eq_false_iff.mpr c1, Bool.false_and, Bool.false_and] at q
      exact ⟨_, rfl, iteT (q H (Sm.refl H))⟩
theorem ok_is_pair (T : Txt K mg cs) : Cal P w K mg base 1 "is_pair" ["thing"] (spD (fun d => d.isTup && decide (lenD d = 2)) K cs) := by
  refine T.f_is_pair.cal scIsPair (fun vs H Q E h => ?_) (fun f cdv A outer s H vs Q E hr h => ?_)
  · obtain ⟨v, d, n, av, rfl, _⟩ := h
    rfl
  obtain ⟨v, d, n, av, rfl, h, A1, hn, ht, q⟩ := h
  refine ⟨_, (pss_one (ps_ret (pe_and (pe_callB (isI K) rfl T.n_isinstance (by decide +kernel) (pa_cons (pv 0) (pa_cons (pe_bltn (v := .ty "tuple") rfl T.n_tuple (by decide +kernel) rfl) pa_nil))) (pe_one (pe_cmpR op_eq (pe_callB (lenQ K) rfl T.n_len (by decide +kernel) (pa_cons (pv 0) pa_nil)) pe_int (nomark _)))))), ?_⟩
  refine ⟨_, rfl, _, _, _, _, _, rfl, ClsV.ty "tuple", h.tyx, kitT d, _, rfl, ?_⟩
  have q : Q (.bl (d.isTup && decide (lenD d = 2))) H := q H (Sm.refl H)
  refine ite2 (fun c => ?_) (fun c => ?_)
  · obtain ⟨a, xs, ds, rfl, rfl, h1, h2, h3⟩ := tup_of h c
    refine ⟨_, rfl, a, xs, rfl, .inr h1, rfl, ?_⟩
    have e : decide (V.int (xs.length : Int) = V.int 2) = ((D.tup ds).isTup && decide (lenD (.tup ds) = 2)) := by
      show _ = (true && decide (ds.length = 2))
      rw [Bool.true_and, decide_eq_decide, ← h3.len]
      exact ⟨fun e => by injection e with e; omega, fun e => by rw [e]; rfl⟩
    rw [e]
    exact q
  · rw [Bool.eq_false_iff.mpr c, Bool.false_and] at q
    exact q
theorem ok_is_row (T : Txt K mg cs) (B : TBs base mg cs) (Cis_key : Cal P w K mg base 3 "is_key" ["thing"] (spD kD K cs)) : Cal P w K mg base 5 "is_row" ["thing"] (spD rowD K cs) := by
  refine T.f_is_row.cal scIsRow (fun vs H Q E h => ?_) (fun f A outer s H vs Q E hr h => ?_)
  · obtain ⟨v, d, n, av, rfl, _⟩ := h
    rfl
  obtain ⟨v, d, n, av, rfl, h, A1, hn, ht, q⟩ := h
  refine ⟨_, (pss_one (ps_ret (pe_and (pe_callB (isI K) rfl T.n_isinstance (by decide +kernel) (pa_cons (pv 0) (pa_cons (pe_bltn (v := .ty "tuple") rfl T.n_tuple (by decide +kernel) rfl) pa_nil))) (pe_and (pe_cmpR op_le (pe_callB (lenQ K) rfl T.n_len (by decide +kernel) (pa_cons (pv 0) pa_nil)) (C8.pe_gc rfl T.g_MOST_KEYS) (nomark _)) (pe_one (GA.pe_allG (k := 3) (own := [("key", 1)]) (g := gName 1) (hr.mono (by decide)) B.b_is_row scIsRow.nd (blkOk_by (own := [("key", 1)]) (N := ["thing", "key"]) (sc := defScope sIsRow) (by decide +kernel)) (by decide +kernel) (pi_tup (pv 0)) T.n_all (fun _ _ _ _ _ _ _ _ => (pg_name (i := 1) scIsRow.nd rfl (by first | exact Or.inl rfl | exact Or.inr rfl))) (fun _ _ _ _ _ _ _ hr => (pe_cal Cis_key (hr.mono (by first | decide | omega)) (pa_cons (pv 1) pa_nil))))))))), ?_⟩
  refine ⟨_, rfl, _, _, _, _, _, rfl, ClsV.ty "tuple", h.tyx, kitT d, _, rfl, ?_⟩
  refine ite2 (fun c => ?_) (fun c => ?_)
  · obtain ⟨a, xs, ds, rfl, rfl, h1, h2, h3⟩ := tup_of h c
    have e : rowD (.tup ds) = (decide ((xs.length : Int) ≤ 6) && ds.all kD) := by
      show (decide (ds.length ≤ 6) && ds.all kD) = _
      rw [← h3.len]
      congr 1
      rw [decide_eq_decide]
      omega
    rw [e] at q
    refine ⟨_, rfl, a, xs, rfl, .inr h1, _, _, rfl, rfl, _, rfl, ?_⟩
    refine ite2 (fun c1 => ?_) (fun c1 => ?_)
    · rw [c1, Bool.true_and] at q
      refine all_tup (i := 1) (a := a) (xs := xs) (ds := ds) kD A1 h1 h3 (fun R h => ⟨_, rfl, h⟩) ht.t_is_row (fun x d H2 R hd S hR => ?_) q
      exact ⟨_, rfl, x, d, n, av, rfl, hd, A1.sm S, hn, ht.sm S, hR⟩
    · rw [Bool.eq_false_iff.mpr c1, Bool.false_and] at q
      exact q H (Sm.refl H)
  · have : rowD d = false := by
      cases d <;> first | rfl | exact absurd rfl c
    have q' := q H (Sm.refl H)
    rw [this] at q'
    exact q'
theorem ok_is_reference (T : Txt K mg cs) (Cis_pair : Cal P w K mg base 1 "is_pair" ["thing"] (spD (fun d => d.isTup && decide (lenD d = 2)) K cs)) (Cis_name : Cal P w K mg base 2 "is_name" ["thing"] (spD nD K cs)) (Cis_row : Cal P w K mg base 5 "is_row" ["thing"] (spD rowD K cs)) :
    Cal P w K mg base 6 "is_reference" ["thing"] (spD refD K cs) := by
  refine T.f_is_reference.cal scIsReference (fun vs H Q E h => ?_) (fun f cdv A outer s H vs Q E hr h => ?_)
  · obtain ⟨v, d, n, av, rfl, _⟩ := h
    rfl
  obtain ⟨v, d, n, av, rfl, h, A1, hn, ht, q⟩ := h
  refine ⟨_, (pss_one (ps_ret (pe_and (pe_cal Cis_pair (hr.mono (by first | decide | omega)) (pa_cons (pv 0) pa_nil)) (pe_and (pe_cal Cis_name (hr.mono (by first | decide | omega)) (pa_cons (pe_ix (ixT K) (pv 0) pe_int (fun _ _ => rfl)) pa_nil)) (pe_one (pe_cal Cis_row (hr.mono (by first | decide | omega)) (pa_cons (pe_ix (ixT K) (pv 0) pe_int (fun _ _ => rfl)) pa_nil))))))), ?_⟩
  refine ⟨_, rfl, v, d, n, av, rfl, h, A1, hn, ht, fun H1 S1 => ⟨_, rfl, ?_⟩⟩
  refine ite2 (fun c => ?_) (fun c => ?_)
  · have c := (Bool.and_eq_true _ _).mp c
    obtain ⟨a, xs, ds, rfl, rfl, h1, h2, h3⟩ := tup_of h c.1
    obtain ⟨x, y, rfl, d1, d2, rfl, hx, hy⟩ := two_of h3 (of_decide_eq_true c.2)
    refine ⟨_, rfl, a, _, 0, x, rfl, rfl, Sm.seqT S1 h1, rfl, x, d1, n, av, rfl, hx.ko A1 (KO.sm S1), A1.sm S1, hn, ht.sm S1, fun H2 S2 => ⟨_, rfl, ?_⟩⟩
    have S12 := S1.trans S2
    refine ite2 (fun c1 => ?_) (fun c1 => ?_)
    · refine ⟨_, rfl, a, _, 1, y, rfl, rfl, Sm.seqT S12 h1, rfl, y, d2, n, av, rfl, hy.ko A1 (KO.sm S12), A1.sm S12, hn, ht.sm S12, fun H3 S3 => ?_⟩
      have := q H3 (S12.trans S3)
      have e : refD (.tup [d1, d2]) = rowD d2 := by
        show (nD d1 && rowD d2) = _
        rw [c1, Bool.true_and]
      rw [e] at this
      exact this
    · have := q H2 S12
      have e : refD (.tup [d1, d2]) = false := by
        show (nD d1 && rowD d2) = _
        rw [Bool.eq_false_iff.mpr c1, Bool.false_and]
      rw [e] at this
      exact this
  · have : refD d = false := by
      unfold refD
      split
      · exact absurd rfl c
      · rfl
    have q' := q H1 S1
    rw [this] at q'
    exact q'
end
/-! ### the law's own look at them -/
theorem mem_SIGNS (c : Nat) : decide (c ∈ tl SIGNS) = sgn c := by
  have big : ∀ d ∈ tl SIGNS, d < 128 := by decide +kernel
  by_cases h : c < 128
  · have : ∀ j : Fin 128, decide (j.val ∈ tl SIGNS) = sgn j.val := by decide +kernel
    exact this ⟨c, h⟩
  · have a : decide (c ∈ tl SIGNS) = false := decide_eq_false fun z => h (big c z)
    rw [a]
    unfold sgn
    rw [decide_eq_false (show ¬ c ≤ 126 by omega), Bool.false_and, Bool.and_false]
def ALPHA : Str := "abcdefghijklmnopqrstuvwxyz"
theorem mem_ALPHA (c : Nat) : decide (c ∈ tl ALPHA) = AZ c := by
  have big : ∀ d ∈ tl ALPHA, d < 128 := by decide +kernel
  by_cases h : c < 128
  · have : ∀ j : Fin 128, decide (j.val ∈ tl ALPHA) = AZ j.val := by decide +kernel
    exact this ⟨c, h⟩
  · have a : decide (c ∈ tl ALPHA) = false := decide_eq_false fun z => h (big c z)
    rw [a]
    unfold AZ
    rw [decide_eq_false (show ¬ c ≤ 122 by omega), Bool.and_false]
theorem filter_take_next {α : Type} {l : List α} {p : α → Bool} {j : Nat} {x : α} (h : l[j]? = some x) : (l.take (j + 1)).filter p = (l.take j).filter p ++ (if p x = true then [x] else []) := by
  rw [List.take_succ, h, List.filter_append]
  congr 1
  by_cases c : p x = true <;> simp [c]
/-- [sign for sign in z if p sign] -/
theorem lc_signs {i : Nat} {z : Str} {te0 : TE} {σ : L2.St} {H : Hp} {tt : TT} {Q : VK} (p : Nat → Bool) (hi : i < σ.length) (h0 : ∀ R : VK, R (.str z) H → te0 σ H R) (hl : (tl z).length ≤ 1000)
    (ht : ∀ c H2, c ∈ tl z → Sm H H2 → ∀ R : Bool → Hp → Prop, (∀ H', Sm H2 H' → R (p c) H') → tt ((σ.set i none).set i (some (.str ⟨#[c]⟩))) H2 R)
    (hQ : ∀ D H', Sm H H' → H' D = some (.lst (((tl z).filter p).map fun c => V.str ⟨#[c]⟩)) → Q (.ref D) H') : tLc (iStr te0) (gName i) tt (tVar i) [i] σ H Q := by
  have sz : z.cps.size = (tl z).length := by simp [tl]
  refine h0 _ ⟨z, rfl, fun D hD => ?_⟩
  refine ⟨fun j m H' => m = (tl z).length - j ∧ j ≤ (tl z).length ∧ Sm H H' ∧ H' D = some (.lst ((((tl z).take j).filter p).map fun c => V.str ⟨#[c]⟩)), ⟨_, rfl, Nat.zero_le _, Sm.new hD, upd_same⟩, fun j m H' hw => ?_⟩
  obtain ⟨rfl, hj, S, hy⟩ := hw
  by_cases hlt : j < (tl z).length
  · refine .inr ⟨by show j < z.cps.size; omega, fun H'' => Sm H H'' ∧ H'' D = some (.lst ((((tl z).take (j + 1)).filter p).map fun c => V.str ⟨#[c]⟩)), fun H'' h => ⟨_, ?_, rfl, by omega, h.1, h.2⟩, fun x H'' hx => ?_⟩
    · omega
    obtain ⟨rfl, c, hc, rfl⟩ := hx
    have hc' : (tl z)[j]? = some c := by
      show z.cps.toList[j]? = some c
      rw [Array.getElem?_toList]
      exact hc
    refine ⟨?_, ?_⟩
    · show ((σ.set i none).set i (some (V.str ⟨#[c]⟩))).set i none = σ.set i none
      rw [List.set_set, List.set_set]
    refine ht c H'' (List.mem_of_getElem? hc') S _ fun H3 S3 => ?_
    have er := filter_take_next (p := p) hc'
    refine ite2 (fun e => ?_) (fun e => ?_)
    · refine ⟨.str ⟨#[c]⟩, ?_, _, S3 _ _ hy, ?_, ?_, ?_⟩
      · show ((σ.set i none).set i (some (V.str ⟨#[c]⟩)))[i]? = _
        rw [List.getElem?_set_self (by rw [List.length_set]; exact hi)]
      · rw [List.length_map]
        have := List.length_filter_le p ((tl z).take j)
        rw [List.length_take] at this
        exact small' (by omega)
      · exact Sm.own (S.trans S3) hD (no_tbl (S3 _ _ hy))
      · rw [er, if_pos e, List.map_append]
        exact upd_same
    · refine ⟨S.trans S3, ?_⟩
      rw [er, if_neg e, List.append_nil]
      exact S3 _ _ hy
  · refine .inl ⟨by show z.cps.size ≤ j; omega, hQ D H' S ?_⟩
    rw [List.take_of_length_le (by omega)] at hy
    exact hy
/-- [x for x in tuple if p x] -/
theorem lc_things {K : PySem.W.Frag} {av : Addr → Prop} {n : Nat} {i : Nat} {a : Addr} {xs : List V} {ds : List D} {te0 : TE} {σ : L2.St} {H : Hp} {tt : TT} {Q : VK} (p : D → Bool) (hi : i < σ.length) (A1 : AvL av H) (h1 : SqT K H a xs) (hx : ThAll K av n H xs ds) (h0 : ∀ R : VK, R (.ref a) H → te0 σ H R) (hl : xs.length ≤ 1000)
    (ht : ∀ x d H2, Th K av n H2 x d → Sm H H2 → ∀ R : Bool → Hp → Prop, (∀ H', Sm H2 H' → R (p d) H') → tt ((σ.set i none).set i (some x)) H2 R)
    (hQ : ∀ D H' ys, Sm H H' → H' D = some (.lst ys) → ys.isEmpty = (ds.filter p).isEmpty → Q (.ref D) H') : tLc (iTup K te0) (gName i) tt (tVar i) [i] σ H Q := by
  have len := hx.len
  refine h0 _ ⟨a, rfl, ⟨xs, h1⟩, fun D hD => ?_⟩
  refine ⟨fun j m H' => m = ds.length - j ∧ j ≤ ds.length ∧ Sm H H' ∧ ∃ ys, H' D = some (.lst ys) ∧ ys.length = ((ds.take j).filter p).length, ⟨_, rfl, Nat.zero_le _, Sm.new hD, [], upd_same, rfl⟩, fun j m H' hw => ?_⟩
  obtain ⟨rfl, hj, S, ys, hy, hly⟩ := hw
  by_cases hlt : j < ds.length
  · have hlx : j < xs.length := by omega
    obtain ⟨d, hd, hth⟩ := hx.at hlx
    refine .inr ⟨⟨xs, xs[j], Sm.seqT S h1, List.getElem?_eq_getElem hlx⟩, fun H'' => Sm H H'' ∧ ∃ ys, H'' D = some (.lst ys) ∧ ys.length = ((ds.take (j + 1)).filter p).length, fun H'' h => ⟨_, ?_, rfl, by omega, h.1, h.2⟩, fun x H'' hx' => ?_⟩
    · omega
    obtain ⟨rfl, hy'⟩ := hx'
    have hxj := hy' xs (Sm.seqT S h1)
    rw [List.getElem?_eq_getElem hlx] at hxj
    have ex := Option.some.inj hxj
    rw [ex] at hth
    refine ⟨?_, ?_⟩
    · show ((σ.set i none).set i (some x)).set i none = σ.set i none
      rw [List.set_set, List.set_set]
    refine ht x d H'' (hth.ko A1 (KO.sm S)) S _ fun H3 S3 => ?_
    have er := filter_take_next (p := p) hd
    have hb : ys.length ≤ 1000 := by
      have := List.length_filter_le p (ds.take j)
      rw [List.length_take] at this
      omega
    refine ite2 (fun e => ?_) (fun e => ?_)
    · refine ⟨x, ?_, _, S3 _ _ hy, small' (by omega), ?_, _, upd_same, ?_⟩
      · show ((σ.set i none).set i (some x))[i]? = _
        rw [List.getElem?_set_self (by rw [List.length_set]; exact hi)]
      · exact Sm.own (S.trans S3) hD (no_tbl (S3 _ _ hy))
      · rw [er, if_pos e, List.length_append, List.length_append, hly]
        rfl
    · refine ⟨S.trans S3, ys, S3 _ _ hy, ?_⟩
      rw [er, if_neg e, List.append_nil]
      exact hly
  · refine .inl ⟨⟨xs, Sm.seqT S h1, by omega⟩, hQ D H' ys S hy ?_⟩
    rw [List.take_of_length_le (by omega)] at hly
    cases ys with
    | nil =>
      cases q : ds.filter p with
      | nil => rfl
      | cons _ _ => rw [q] at hly; cases hly
    | cons _ _ =>
      cases q : ds.filter p with
      | nil => rw [q] at hly; cases hly
      | cons _ _ => rfl
theorem filter_none {α : Type} (l : List α) (p : α → Bool) : (l.filter fun c => !p c).isEmpty = l.all p := by
  cases h : l.all p with
  | true =>
    have : l.filter (fun c => !p c) = [] := List.filter_eq_nil_iff.mpr fun c hc => by rw [List.all_eq_true.mp h c hc]; decide
    rw [this]
    rfl
  | false =>
    cases q : l.filter fun c => !p c with
    | nil =>
      have : l.all p = true := List.all_eq_true.mpr fun c hc => by
        have := List.filter_eq_nil_iff.mp q c hc
        simpa using this
      rw [this] at h
      cases h
    | cons _ _ => rfl
section
variable {P : Program} {w : World} {K : PySem.W.Frag} {mg : Str → Option Value} {base : Heap} {cs : Tabs}
theorem ok_law_is_worth (T : Txt K mg cs) (C_law_signs : Cal P w K mg base 1 "_law_signs" [] spSigns) : Cal P w K mg base 2 "_law_is_worth" ["thing"] (spD wD K cs) := by
  refine T.f_law_is_worth.cal scLawIsWorth (fun vs H Q E h => ?_) (fun f cdv A outer s H vs Q E hr h => ?_)
  · obtain ⟨v, d, n, av, rfl, _⟩ := h
    rfl
  obtain ⟨v, d, n, av, rfl, h, A1, hn, ht, q⟩ := h
  refine ⟨_, (pss_cons (ps_if (pt_not (pt_val (pe_callB (isI K) rfl T.n_isinstance (by decide +kernel) (pa_cons (pv 0) (pa_cons (pe_bltn (v := .ty "str") rfl T.n_str (by decide +kernel) rfl) pa_nil))))) (pss_one (ps_ret pe_bl)) pss_nil)
    (pss_cons (ps_set (i := 1) scLawIsWorth.nd rfl (by first | exact Or.inl rfl | exact Or.inr rfl) (pe_cal0 C_law_signs (hr.mono (by first | decide | omega))))
    (pss_one (ps_ret (pe_cmpR (eqE K hr.units) (pe_lc (own := [("sign", 2)]) (g := gName 2) (tt := _) rfl scLawIsWorth.nd (pi_str (pv 0)) (blkOk_by (own := [("sign", 2)]) (N := ["thing", "signs", "sign"]) (sc := defScope sLawIsWorth) (by decide +kernel)) (fun _ _ _ _ _ => (pg_name (i := 2) scLawIsWorth.nd rfl (by first | exact Or.inl rfl | exact Or.inr rfl))) (fun _ _ _ _ _ => (pts_one (pt_cmpR op_notIn_sign (pv 2) (pv 1) rfl))) (fun _ _ _ _ _ => (pv 2))) (pe_lst pa_nil) (nomark _)))))), ?_⟩
  dsimp only [gName, tSeq, tAsg, tRet, tDrop, tNext, tOp, tIfS, tTest]
  refine ⟨_, rfl, _, _, _, _, _, rfl, ClsV.ty "str", h.tyx, kitS d, _, rfl, ?_⟩
  cases hs : d.isStr with
  | false =>
    refine iteT ?_
    have : wD d = false := by
      cases d <;> first | rfl | cases hs
    have q' := q H (Sm.refl H)
    rw [this] at q'
    exact q'
  | true =>
    refine iteF ?_
    obtain ⟨z, rfl, rfl, hl, ha⟩ := str_of h hs
    refine ⟨rfl, ?_⟩
    dsimp only [gName, tSeq, tAsg, tRet, tDrop, tNext, tOp, tIfS, tTest]
    refine lc_signs (i := 2) (z := z) (fun c => !sgn c) (by show 2 < 3; decide) (fun R h => ⟨_, rfl, h⟩) (by omega) (fun c H2 hc S R hR => ?_) fun Dn H' S hD => ?_
    · refine ⟨_, rfl, _, rfl, _, _, rfl, rfl, _, rfl, ?_⟩
      have e : (!decide (c ∈ SIGNS.cps.toList)) = !sgn c := congrArg (!·) (mem_SIGNS c)
      have := hR H2 (Sm.refl H2)
      rw [← e] at this
      exact this
    · refine ⟨Nat.zero_le _, fun p hp => ⟨Dn, p, _, rfl, rfl, SqL.of (Sm.new hp _ _ hD), SqL.of upd_same, ?_⟩⟩
      have e : (List.map (fun c => V.str ⟨#[c]⟩) (List.filter (fun c => !sgn c) (tl z))).isEmpty = (tl z).all sgn := by
        rw [List.isEmpty_map, filter_none]
      rw [e]
      exact q _ (S.trans (Sm.new hp))
theorem ok_law_is_key (T : Txt K mg cs) (C_law_is_worth : Cal P w K mg base 2 "_law_is_worth" ["thing"] (spD wD K cs)) : Cal P w K mg base 3 "_law_is_key" ["thing"] (spD kD K cs) := by
  refine T.f_law_is_key.cal scLawIsKey (fun vs H Q E h => ?_) (fun f cdv A outer s H vs Q E hr h => ?_)
  · obtain ⟨v, d, n, av, rfl, _⟩ := h
    rfl
  obtain ⟨v, d, n, av, rfl, h, A1, hn, ht, q⟩ := h
  refine ⟨_, (pss_one (ps_ret (pe_and (pe_cal C_law_is_worth (hr.mono (by first | decide | omega)) (pa_cons (pv 0) pa_nil)) (pe_one (pe_chain op_lt op_lt pe_int (pe_callB lenT rfl T.n_len (by decide +kernel) (pa_cons (pv 0) pa_nil)) pe_int))))), ?_⟩
  refine ⟨_, rfl, v, d, n, av, rfl, h, A1, hn, ht, fun H1 S1 => ⟨_, rfl, ?_⟩⟩
  have q := q H1 S1
  refine ite2 (fun c => ?_) (fun c => ?_)
  · obtain ⟨z, rfl, rfl, hl, ha⟩ := str_of h (by cases d <;> first | rfl | cases c)
    have ez : z.length = (tl z).length := len_tl z
    have zl : z.length ≤ sizeLine := by rw [ez]; exact small (by omega)
    have e : kD (.str z) = (decide ((0 : Int) < z.length) && decide ((z.length : Int) < 41)) := by
      unfold kD
      rw [c, Bool.true_and]
      show (decide (1 ≤ (tl z).length) && decide ((tl z).length ≤ 40)) = _
      rw [ez]
      congr 1 <;> (rw [decide_eq_decide]; omega)
    rw [e] at q
    refine ⟨_, rfl, z, rfl, zl, _, _, rfl, rfl, _, rfl, ?_⟩
    refine ite2 (fun c1 => ?_) (fun c1 => ?_)
    · rw [c1, Bool.true_and] at q
      exact ⟨_, _, rfl, rfl, q⟩
    · rw [Bool.eq_false_iff.mpr c1, Bool.false_and] at q
      exact q
  · have : kD d = false := by
      unfold kD
      rw [Bool.eq_false_iff.mpr c, Bool.false_and]
    rw [this] at q
    exact q
theorem ok_law_is_name (T : Txt K mg cs) : Cal P w K mg base 1 "_law_is_name" ["thing"] (spD nD K cs) := by
  refine T.f_law_is_name.cal scLawIsName (fun vs H Q E h => ?_) (fun f cdv A outer s H vs Q E hr h => ?_)
  · obtain ⟨v, d, n, av, rfl, _⟩ := h
    rfl
  obtain ⟨v, d, n, av, rfl, h, A1, hn, ht, q⟩ := h
  refine ⟨_, (pss_cons (ps_if (PW.pt (pw_or (pt_not (pt_val (pe_callB (isI K) rfl T.n_isinstance (by decide +kernel) (pa_cons (pv 0) (pa_cons (pe_bltn (v := .ty "str") rfl T.n_str (by decide +kernel) rfl) pa_nil))))) (pw_or (pt_cmpR op_eq (pv 0) pe_str (nomark _)) (pw_or1 (pt_cmpR op_gt (pe_callB lenT rfl T.n_len (by decide +kernel) (pa_cons (pv 0) pa_nil)) pe_int (nomark _)))))) (pss_one (ps_ret pe_bl)) pss_nil)
    (pss_one (ps_ret (pe_cmpR (eqE K hr.units) (pe_lc (own := [("sign", 1)]) (g := gName 1) (tt := _) rfl scLawIsName.nd (pi_str (pv 0)) (blkOk_by (own := [("sign", 1)]) (N := ["thing", "sign"]) (sc := defScope sLawIsName) (by decide +kernel)) (fun _ _ _ _ _ => (pg_name (i := 1) scLawIsName.nd rfl (by first | exact Or.inl rfl | exact Or.inr rfl))) (fun _ _ _ _ _ => (pts_one (pt_cmpR op_notIn_sign (pv 1) pe_str rfl))) (fun _ _ _ _ _ => (pv 1))) (pe_lst pa_nil) (nomark _))))), ?_⟩
  dsimp only [gName, tSeq, tAsg, tRet, tDrop, tNext, tOp, tIfS, tTest]
  refine ⟨_, rfl, _, _, _, _, _, rfl, ClsV.ty "str", h.tyx, kitS d, _, rfl, ?_⟩
  cases hs : d.isStr with
  | false =>
    refine iteT ?_
    have : nD d = false := by
      cases d <;> first | rfl | cases hs
    have q' := q H (Sm.refl H)
    rw [this] at q'
    exact q'
  | true =>
    refine iteF ?_
    obtain ⟨z, rfl, rfl, hl, ha⟩ := str_of h hs
    have ez : z.length = (tl z).length := len_tl z
    have zl : z.length ≤ sizeLine := by rw [ez]; exact small (by omega)
    have q : ∀ H', Sm H H' → Q (.bl ((decide (1 ≤ (tl z).length) && decide ((tl z).length ≤ 8)) && (tl z).all AZ)) H' := q
    refine ⟨_, rfl, rfl, _, rfl, ?_⟩
    refine ite2 (fun c1 => ?_) (fun c1 => ?_)
    · have e : z = "" := by
        have := of_decide_eq_true c1
        injection this
      have e0 : (tl z).length = 0 := by rw [e]; rfl
      have := q H (Sm.refl H)
      rw [e0] at this
      exact this
    · have n0 : 1 ≤ (tl z).length := by
        refine Nat.pos_of_ne_zero fun e => c1 (decide_eq_true ?_)
        rw [show z = "" from ext_tl (by rw [List.length_eq_zero_iff.mp e]; rfl)]
      rw [decide_eq_true n0, Bool.true_and] at q
      refine ⟨_, rfl, z, rfl, zl, _, _, rfl, rfl, _, rfl, ?_⟩
      refine ite2 (fun c2 => ?_) (fun c2 => ?_)
      · have h8 : (8 : Int) < z.length := of_decide_eq_true c2
        rw [decide_eq_false (show ¬ (tl z).length ≤ 8 by omega), Bool.false_and] at q
        exact q H (Sm.refl H)
      · have h8 : ¬ (8 : Int) < z.length := fun h => c2 (decide_eq_true h)
        rw [decide_eq_true (show (tl z).length ≤ 8 by omega), Bool.true_and] at q
        refine lc_signs (i := 1) (z := z) (fun c => !AZ c) (by show 1 < 2; decide) (fun R h => ⟨_, rfl, h⟩) (by omega) (fun c H2 hc S R hR => ?_) fun Dn H' S hD => ?_
        · refine ⟨_, rfl, _, _, rfl, rfl, _, rfl, ?_⟩
          have e : (!decide (c ∈ ALPHA.cps.toList)) = !AZ c := congrArg (!·) (mem_ALPHA c)
          have := hR H2 (Sm.refl H2)
          rw [← e] at this
          exact this
        · refine ⟨Nat.zero_le _, fun p hp => ⟨Dn, p, _, rfl, rfl, SqL.of (Sm.new hp _ _ hD), SqL.of upd_same, ?_⟩⟩
          have e : (List.map (fun c => V.str ⟨#[c]⟩) (List.filter (fun c => !AZ c) (tl z))).isEmpty = (tl z).all AZ := by
            rw [List.isEmpty_map, filter_none]
          rw [e]
          exact q _ (S.trans (Sm.new hp))
theorem ok_law_is_reference (T : Txt K mg cs) (C_law_is_name : Cal P w K mg base 1 "_law_is_name" ["thing"] (spD nD K cs)) (C_law_is_key : Cal P w K mg base 3 "_law_is_key" ["thing"] (spD kD K cs)) : Cal P w K mg base 4 "_law_is_reference" ["thing"] (spD refD K cs) := by
  refine T.f_law_is_reference.cal scLawIsReference (fun vs H Q E h => ?_) (fun f cdv A outer s H vs Q E hr h => ?_)
  · obtain ⟨v, d, n, av, rfl, _⟩ := h
    rfl
  obtain ⟨v, d, n, av, rfl, h, A1, hn, ht, q⟩ := h
  refine ⟨_, (pss_cons (ps_if (PW.pt (pw_or (pt_not (pt_val (pe_callB (isI K) rfl T.n_isinstance (by decide +kernel) (pa_cons (pv 0) (pa_cons (pe_bltn (v := .ty "tuple") rfl T.n_tuple (by decide +kernel) rfl) pa_nil))))) (pw_or (pt_cmpR op_ne (pe_callB (lenQ K) rfl T.n_len (by decide +kernel) (pa_cons (pv 0) pa_nil)) pe_int (nomark _)) (pw_or1 (pt_not (pt_val (pe_callB (isI K) rfl T.n_isinstance (by decide +kernel) (pa_cons (pe_ix (ixT K) (pv 0) pe_int (fun _ _ => rfl)) (pa_cons (pe_bltn (v := .ty "tuple") rfl T.n_tuple (by decide +kernel) rfl) pa_nil))))))))) (pss_one (ps_ret pe_bl)) pss_nil)
    (pss_one (ps_ret (pe_and (pe_cal C_law_is_name (hr.mono (by first | decide | omega)) (pa_cons (pe_ix (ixT K) (pv 0) pe_int (fun _ _ => rfl)) pa_nil)) (pe_and (pe_cmpR op_lt (pe_callB (lenQ K) rfl T.n_len (by decide +kernel) (pa_cons (pe_ix (ixT K) (pv 0) pe_int (fun _ _ => rfl)) pa_nil)) pe_int (nomark _)) (pe_one (pe_cmpR (eqE K hr.units) (pe_lc (own := [("key", 1)]) (g := gName 1) (tt := _) rfl scLawIsReference.nd (pi_tup (pe_ix (ixT K) (pv 0) pe_int (fun _ _ => rfl))) (blkOk_by (own := [("key", 1)]) (N := ["thing", "key"]) (sc := defScope sLawIsReference) (by decide +kernel)) (fun _ _ _ _ _ => (pg_name (i := 1) scLawIsReference.nd rfl (by first | exact Or.inl rfl | exact Or.inr rfl))) (fun _ _ _ _ _ => (pts_one (pt_not (pt_val (pe_cal C_law_is_key (hr.mono (by first | decide | omega)) (pa_cons (pv 1) pa_nil)))))) (fun _ _ _ _ _ => (pv 1))) (pe_lst pa_nil) (nomark _)))))))), ?_⟩
  dsimp only [gName, tSeq, tAsg, tRet, tDrop, tNext, tOp, tIfS, tTest]
  refine ⟨_, rfl, _, _, _, _, _, rfl, ClsV.ty "tuple", h.tyx, kitT d, _, rfl, ?_⟩
  cases hs : d.isTup with
  | false =>
    refine iteT ?_
    have : refD d = false := by
      cases d <;> first | rfl | cases hs
    have q' := q H (Sm.refl H)
    rw [this] at q'
    exact q'
  | true =>
    refine iteF ?_
    obtain ⟨a, xs, ds, rfl, rfl, h1, h2, h3⟩ := tup_of h hs
    refine ⟨_, rfl, a, xs, rfl, .inr h1, rfl, _, rfl, ?_⟩
    refine ite2 (fun c => ?_) (fun c => ?_)
    · have hne : ds.length ≠ 2 := fun e => by
        have : decide (V.int (xs.length : Int) = V.int 2) = true := by
          rw [h3.len, e]
          exact decide_eq_true rfl
        rw [this] at c
        cases c
      have : refD (.tup ds) = false := by
        unfold refD
        split
        · rename_i e
          injection e with e
          rw [e] at hne
          exact absurd rfl hne
        · rfl
      have q' := q H (Sm.refl H)
      rw [this] at q'
      exact q'
    · have hl2 : ds.length = 2 := by
        cases e : decide (V.int (xs.length : Int) = V.int 2) with
        | false => exact absurd (by rw [e]; rfl) c
        | true =>
          have := of_decide_eq_true e
          injection this with this
          rw [← h3.len]
          omega
      obtain ⟨x, y, rfl, d1, d2, rfl, hx, hy⟩ := two_of h3 hl2
      refine ⟨_, rfl, a, _, 1, y, rfl, rfl, h1, rfl, _, _, _, _, _, rfl, ClsV.ty "tuple", hy.tyx, kitT d2, _, rfl, ?_⟩
      cases hs2 : d2.isTup with
      | false =>
        refine iteT ?_
        have : refD (.tup [d1, d2]) = false := by
          show (nD d1 && rowD d2) = false
          cases d2 <;> first | exact Bool.and_false _ | cases hs2
        have q' := q H (Sm.refl H)
        rw [this] at q'
        exact q'
      | true =>
        refine iteF ?_
        obtain ⟨a2, ys, es, rfl, rfl, g1, g2, g3⟩ := tup_of hy hs2
        refine ⟨_, rfl, a, _, 0, x, rfl, rfl, h1, rfl, x, d1, n, av, rfl, hx, A1, hn, ht, fun H1 S1 => ⟨_, rfl, ?_⟩⟩
        have er : refD (.tup [d1, .tup es]) = (nD d1 && (decide (es.length ≤ 6) && es.all kD)) := rfl
        rw [er] at q
        refine ite2 (fun c1 => ?_) (fun c1 => ?_)
        · rw [c1, Bool.true_and] at q
          refine ⟨_, rfl, a, _, 1, _, rfl, rfl, Sm.seqT S1 h1, rfl, a2, ys, rfl, .inr (Sm.seqT S1 g1), _, _, rfl, rfl, _, rfl, ?_⟩
          have e7 : decide ((ys.length : Int) < 7) = decide (es.length ≤ 6) := by
            rw [decide_eq_decide, ← g3.len]
            omega
          rw [e7]
          refine ite2 (fun c2 => ?_) (fun c2 => ?_)
          · rw [c2, Bool.true_and] at q
            dsimp only [gName, tSeq, tAsg, tRet, tDrop, tNext, tOp, tIfS, tTest]
            refine lc_things (i := 1) (a := a2) (xs := ys) (ds := es) (fun d => !kD d) (by show 1 < 2; decide) (A1.sm S1) (Sm.seqT S1 g1) (g3.ko A1 (KO.sm S1)) (fun R h => ⟨_, rfl, a, _, 1, _, rfl, rfl, Sm.seqT S1 h1, rfl, h⟩) (by omega) (fun x' d' H2 hd S R hR => ?_) fun Dn H' zs S hD hz => ?_
            · exact ⟨_, rfl, x', d', n, av, rfl, hd, (A1.sm S1).sm S, hn, ht.sm (S1.trans S), fun H3 S3 => ⟨_, rfl, hR H3 S3⟩⟩
            · refine ⟨Nat.zero_le _, fun p hp => ⟨Dn, p, zs, rfl, rfl, SqL.of (Sm.new hp _ _ hD), SqL.of upd_same, ?_⟩⟩
              rw [hz, filter_none]
              exact q _ ((S1.trans S).trans (Sm.new hp))
          · rw [Bool.eq_false_iff.mpr c2, Bool.false_and] at q
            exact q H1 S1
        · rw [Bool.eq_false_iff.mpr c1, Bool.false_and] at q
          exact q H1 S1
end
/-! ### one step of a term at a time -/
theorem run_set {i : Nat} {te : TE} {u : TS} {D : Ends} {σ : L2.St} {H : Hp} (h : te σ H fun v H1 => u D (σ.set i (some v)) H1) : tSeq (tAsg te (gName i)) u D σ H := h
theorem run_ret {te : TE} {D : Ends} {σ : L2.St} {H : Hp} (h : te σ H D.rt) : tRet te D σ H := h
theorem run_op {r : R2} {ta tb : TE} {σ : L2.St} {H : Hp} {Q : VK} (h : ta σ H fun x H1 => tb σ H1 fun y H2 => r x y H2 Q) : tOp r ta tb σ H Q := h
theorem run_if {c : TT} {t u r : TS} {D : Ends} {σ : L2.St} {H : Hp} (h : c σ H fun b H1 => if b = true then t { D with nx := r D } σ H1 else u { D with nx := r D } σ H1) : tSeq (tIfS c t u) r D σ H := h
theorem run_ifE {c : TT} {t u : TS} {D : Ends} {σ : L2.St} {H : Hp} (h : c σ H fun b H1 => if b = true then t D σ H1 else u D σ H1) : tIfS c t u D σ H := h
theorem run_next {D : Ends} {σ : L2.St} {H : Hp} (h : D.nx σ H) : tNext D σ H := h
theorem run_for {i : TI} {g : TG} {tb u : TS} {D : Ends} {σ : L2.St} {H : Hp} (h : tFor i g tb { D with nx := u D } σ H) : tSeq (tFor i g tb) u D σ H := h
theorem run_test {r : R2} {ta tb : TE} {σ : L2.St} {H : Hp} {Q : Bool → Hp → Prop} (h : ta σ H fun x H1 => tb σ H1 fun y H2 => r x y H2 fun v H' => ∃ k, v = .bl k ∧ Q k H') : tTest (tOp r ta tb) σ H Q := h
/-- an if whose condition fails on every way -/
theorem run_no {c : TT} {t r : TS} {D : Ends} {σ : L2.St} {H : Hp} (Ph : Hp → Prop) (h : ∀ R : Bool → Hp → Prop, (∀ H1, Ph H1 → R false H1) → c σ H R) (hr : ∀ H1, Ph H1 → r D σ H1) : tSeq (tIfS c t tNext) r D σ H :=
  run_if (h _ fun H1 p => iteF (hr H1 p))
theorem run_noE {c : TT} {t : TS} {D : Ends} {σ : L2.St} {H : Hp} (Ph : Hp → Prop) (h : ∀ R : Bool → Hp → Prop, (∀ H1, Ph H1 → R false H1) → c σ H R) (hr : ∀ H1, Ph H1 → D.nx σ H1) : tIfS c t tNext D σ H :=
  run_ifE (h _ fun H1 p => iteF (hr H1 p))
/-- an if that gives a name another value, or not -/
theorem run_ifset {i : Nat} {te : TE} {c : TT} {r : TS} {D : Ends} {σ : L2.St} {H : Hp} {v0 : V} (Pv : V → Hp → Prop) (h0 : σ.set i (some v0) = σ) (h : ∀ R : VK, (∀ v H1, Pv v H1 → R v H1) → c σ H fun b H1 => if b = true then te σ H1 R else R v0 H1) (hr : ∀ v H1, Pv v H1 → r D (σ.set i (some v)) H1) :
    tSeq (tIfS c (tAsg te (gName i)) tNext) r D σ H := by
  have q := h (fun v H1 => r D (σ.set i (some v)) H1) hr
  rw [h0] at q
  exact q
theorem run_and {t u : TT} {σ : L2.St} {H : Hp} {Q : Bool → Hp → Prop} (h : t σ H fun c H1 => if c = true then u σ H1 Q else Q false H1) : tAnd t u σ H Q := h
section
variable {P : Program} {w : World} {K : PySem.W.Frag} {mg : Str → Option Value} {base : Heap} {cs : Tabs}
theorem eqv_bools3 (a b c : Bool) : PyData.eqv (.list [.bool a, .bool b, .bool c]) (.list [.bool a, .bool b, .bool c]) = true := by
  show ((a == a) && ((b == b) && ((c == c) && true))) = true
  simp
theorem ok_law_right (T : Txt K mg cs) (C_law_is_worth : Cal P w K mg base 2 "_law_is_worth" ["thing"] (spD wD K cs)) (C_law_is_key : Cal P w K mg base 3 "_law_is_key" ["thing"] (spD kD K cs)) (C_law_is_reference : Cal P w K mg base 4 "_law_is_reference" ["thing"] (spD refD K cs))
    (Cis_worth : Cal P w K mg base 2 "is_worth" ["thing"] (spD wD K cs)) (Cis_key : Cal P w K mg base 3 "is_key" ["thing"] (spD kD K cs)) (Cis_reference : Cal P w K mg base 6 "is_reference" ["thing"] (spD refD K cs)) : Cal P w K mg base 7 "_law_right" ["thing"] (spD (fun _ => true) K cs) := by
  refine T.f_law_right.cal scLawRight (fun vs H Q E h => ?_) (fun f cdv A outer s H vs Q E hr h => ?_)
  · obtain ⟨v, d, n, av, rfl, _⟩ := h
    rfl
  obtain ⟨v, d, n, av, rfl, h, A1, hn, ht, q⟩ := h
  refine ⟨_, (pss_cons (ps_set (i := 1) scLawRight.nd rfl (by first | exact Or.inl rfl | exact Or.inr rfl) (pe_lst (pa_cons (pe_cal C_law_is_worth (hr.mono (by first | decide | omega)) (pa_cons (pv 0) pa_nil)) (pa_cons (pe_cal C_law_is_key (hr.mono (by first | decide | omega)) (pa_cons (pv 0) pa_nil)) (pa_cons (pe_cal C_law_is_reference (hr.mono (by first | decide | omega)) (pa_cons (pv 0) pa_nil)) pa_nil)))))
    (pss_cons (ps_set (i := 2) scLawRight.nd rfl (by first | exact Or.inl rfl | exact Or.inr rfl) (pe_lst (pa_cons (pe_cal Cis_worth (hr.mono (by first | decide | omega)) (pa_cons (pv 0) pa_nil)) (pa_cons (pe_cal Cis_key (hr.mono (by first | decide | omega)) (pa_cons (pv 0) pa_nil)) (pa_cons (pe_cal Cis_reference (hr.mono (by first | decide | omega)) (pa_cons (pv 0) pa_nil)) pa_nil)))))
    (pss_one (ps_ret (pe_and (pe_cmpR (eqD K hr.units) (pv 2) (pv 1) (nomark _)) (pe_one (pe_cmpR (eqE K hr.units) (pe_lc (own := [("one", 3)]) (g := gName 3) (tt := _) rfl scLawRight.nd (pi_list (pv 2)) (blkOk_by (own := [("one", 3)]) (N := ["thing", "due", "found", "one"]) (sc := defScope sLawRight) (by decide +kernel)) (fun _ _ _ _ _ => (pg_name (i := 3) scLawRight.nd rfl (by first | exact Or.inl rfl | exact Or.inr rfl))) (fun _ _ _ _ _ => (pts_one (pt_not (pt_val (pe_callB (isI K) rfl T.n_isinstance (by decide +kernel) (pa_cons (pv 3) (pa_cons (pe_bltn (v := .ty "bool") rfl T.n_bool (by decide +kernel) rfl) pa_nil))))))) (fun _ _ _ _ _ => (pv 3))) (pe_lst pa_nil) (nomark _)))))))), ?_⟩
  refine ⟨_, rfl, v, d, n, av, rfl, h, A1, hn, ht, fun H1 S1 => ?_⟩
  refine ⟨_, rfl, v, d, n, av, rfl, h.ko A1 (KO.sm S1), A1.sm S1, hn, ht.sm S1, fun H2 S2 => ?_⟩
  have S02 := S1.trans S2
  refine ⟨_, rfl, v, d, n, av, rfl, h.ko A1 (KO.sm S02), A1.sm S02, hn, ht.sm S02, fun H3 S3 => ?_⟩
  have S03 := S02.trans S3
  refine ⟨(by show 3 ≤ sizeLine; decide), fun L1 hL1 => ?_⟩
  have S04 := S03.trans (Sm.new (o := .lst [V.bl (wD d), .bl (kD d), .bl (refD d)]) hL1)
  have at1 : (upd H3 L1 (.lst [V.bl (wD d), .bl (kD d), .bl (refD d)])) L1 = some (.lst [V.bl (wD d), .bl (kD d), .bl (refD d)]) := upd_same
  generalize upd H3 L1 (.lst [V.bl (wD d), .bl (kD d), .bl (refD d)]) = H4 at S04 at1
  dsimp only [gName, tSeq, tAsg, tRet, tDrop, tNext]
  refine ⟨_, (by rfl), v, d, n, av, rfl, h.ko A1 (KO.sm S04), A1.sm S04, hn, ht.sm S04, fun H5 S5 => ?_⟩
  have S05 := S04.trans S5
  refine ⟨_, (by rfl), v, d, n, av, rfl, h.ko A1 (KO.sm S05), A1.sm S05, hn, ht.sm S05, fun H6 S6 => ?_⟩
  have S06 := S05.trans S6
  refine ⟨_, (by rfl), v, d, n, av, rfl, h.ko A1 (KO.sm S06), A1.sm S06, hn, ht.sm S06, fun H7 S7 => ?_⟩
  have S07 := S06.trans S7
  refine ⟨(by show 3 ≤ sizeLine; decide), fun L2 hL2 => ?_⟩
  have S8 := Sm.new (o := .lst [V.bl (wD d), .bl (kD d), .bl (refD d)]) hL2
  have S08 := S07.trans S8
  have at2 : (upd H7 L2 (.lst [V.bl (wD d), .bl (kD d), .bl (refD d)])) L2 = some (.lst [V.bl (wD d), .bl (kD d), .bl (refD d)]) := upd_same
  have at1' := S8 _ _ (S7 _ _ (S6 _ _ (S5 _ _ at1)))
  generalize upd H7 L2 (.lst [V.bl (wD d), .bl (kD d), .bl (refD d)]) = H8 at S08 at2 at1'
  dsimp only [gName, tSeq, tAsg, tRet, tDrop, tNext]
  refine ⟨_, (by rfl), _, (by rfl), .list [.bool (wD d), .bool (kD d), .bool (refD d)], .list [.bool (wD d), .bool (kD d), .bool (refD d)], .lst (SqL.of at2) (.cons (.bl _) (.cons (.bl _) (.cons (.bl _) .nil))), .lst (SqL.of at1') (.cons (.bl _) (.cons (.bl _) (.cons (.bl _) .nil))), rfl, rfl, _, rfl, ?_⟩
  rw [eqv_bools3]
  refine iteT ?_
  refine lc_none (i := 3) (xs := [V.bl (wD d), .bl (kD d), .bl (refD d)]) (fun R h => ⟨_, (by rfl), h L2 H8 (Sm.refl _) (SqL.of at2)⟩) (fun x H9 hx S9 R h => ?_) fun Dn H9 S9 hD => ?_
  · obtain ⟨b, rfl⟩ : ∃ b, x = .bl b := by
      simp only [List.mem_cons, List.not_mem_nil, or_false] at hx
      rcases hx with rfl | rfl | rfl <;> exact ⟨_, rfl⟩
    exact ⟨_, (by rfl), _, _, .type "bool", .type "bool", true, rfl, ClsV.ty "bool", .base (.bl _), kit_ty (by decide +kernel), _, rfl, h H9 (Sm.refl _)⟩
  · exact ⟨Nat.zero_le _, fun p hp => ⟨Dn, p, _, rfl, rfl, SqL.of (Sm.new hp _ _ hD), SqL.of upd_same, q _ ((S08.trans S9).trans (Sm.new hp))⟩⟩
end
/-! ### odd things, written on the spot -/
def Lit (K : PySem.W.Frag) (av : Addr → Prop) (n : Nat) (te : TE) (d : D) : Prop := ∀ (σ : L2.St) (H : Hp) (Q : VK), AvL av H → (∀ v H', Sm H H' → Th K av n H' v d → Q v H') → te σ H Q
def LitAll (K : PySem.W.Frag) (av : Addr → Prop) (n : Nat) (ta : TA) (ds : List D) : Prop := ∀ (σ : L2.St) (H : Hp) (R : List V → Hp → Prop), AvL av H → (∀ vs H', Sm H H' → ThAll K av n H' vs ds → R vs H') → ta σ H R
section
variable {K : PySem.W.Frag} {av : Addr → Prop} {n : Nat}
def okS (n : Nat) (z : Str) : Bool := decide ((tl z).length ≤ 400 + n) && (tl z).all fun c => decide (c < 128)
theorem Th.ofS {H : Hp} {z : Str} (h : okS n z = true) : Th K av n H (.str z) (.str z) := by
  have h := (Bool.and_eq_true _ _).mp h
  exact .str z (of_decide_eq_true h.1) fun c hc => of_decide_eq_true (List.all_eq_true.mp h.2 c hc)
theorem Lit.non : Lit K av n (tC .non) .non := fun _ H _ _ q => q _ H (Sm.refl H) .non
theorem Lit.bl (b : Bool) : Lit K av n (tC (.bl b)) (.bl b) := fun _ H _ _ q => q _ H (Sm.refl H) (.bl b)
theorem Lit.int (i : Int) (h : i.natAbs ≤ 10 ^ 22 + 0) : Lit K av n (tC (.int i)) (.int i) := fun _ H _ _ q => q _ H (Sm.refl H) (.int i (Nat.le_trans h (Nat.add_le_add_left (Nat.zero_le _) _)))
theorem Lit.neg (i : Int) (h : (-i).natAbs ≤ 10 ^ 22 + 0) : Lit K av n (tUn (rU fun i => .int (-i)) (tC (.int i))) (.int (-i)) := fun _ H _ _ q => ⟨i, rfl, q _ H (Sm.refl H) (.int _ (Nat.le_trans h (Nat.add_le_add_left (Nat.zero_le _) _)))⟩
theorem Lit.pow20 : Lit K av n (tOp (rI CPowW fun i j => .int (i ^ j.toNat)) (tC (.int 10)) (tC (.int 20))) (.int (10 ^ 20)) := fun _ H _ _ q => ⟨10, 20, rfl, rfl, ⟨by decide, by decide, by decide⟩, q _ H (Sm.refl H) (.int _ (Nat.le_trans (show ((10 : Int) ^ 20).natAbs ≤ 10 ^ 22 + 0 by decide) (Nat.add_le_add_left (Nat.zero_le _) _)))⟩
theorem okS_mono {n m : Nat} {z : Str} (h : okS n z = true) (l : n ≤ m) : okS m z = true := by
  have h := (Bool.and_eq_true _ _).mp h
  refine (Bool.and_eq_true _ _).mpr ⟨decide_eq_true ?_, h.2⟩
  have := of_decide_eq_true h.1
  omega
theorem Lit.str (z : Str) (h : okS 0 z = true) : Lit K av n (tC (.str z)) (.str z) := fun _ H _ _ q => q _ H (Sm.refl H) (Th.ofS (okS_mono h (Nat.zero_le _)))
theorem Lit.repS (z : Str) (i : Int) (h0 : 0 ≤ i) (h1 : i ≤ 1000) (h2 : z.length ≤ 1000) (h : okS 0 (Txt.mul z i) = true) : Lit K av n (tOp rRepS (tC (.str z)) (tC (.int i))) (.str (Txt.mul z i)) := fun _ H _ _ q => ⟨z, i, rfl, rfl, mul_ok h0 h1 h2, q _ H (Sm.refl H) (Th.ofS (okS_mono h (Nat.zero_le _)))⟩
theorem Lit.dic : Lit K av n tDNewK .dic := fun _ H _ _ q => fun p hp => q _ _ (Sm.new hp) (.dic upd_same)
theorem Lit.tup {ta : TA} {ds : List D} (h : LitAll K av n ta ds) (hl : ds.length ≤ 40) : Lit K av n (tTup ta) (.tup ds) := fun σ H Q A q => by
  refine h σ H _ A fun vs H' S hv => ⟨small (by rw [hv.len]; omega), fun p hp => q _ _ (S.trans (Sm.new hp)) ?_⟩
  exact .tup (.inl (.inl upd_same)) (by rw [hv.len]; omega) (hv.ko (A.sm S) (KO.sm (Sm.new hp)))
theorem Lit.lst {ta : TA} {ds : List D} (h : LitAll K av n ta ds) (hl : ds.length ≤ 40) : Lit K av n (tLst ta) (.lst ds) := fun σ H Q A q => by
  refine h σ H _ A fun vs H' S hv => ⟨small (by rw [hv.len]; omega), fun p hp => q _ _ (S.trans (Sm.new hp)) ?_⟩
  exact .lst upd_same ((A.sm S).fresh hp) (by rw [hv.len]; omega) (hv.ko (A.sm S) (KO.sm (Sm.new hp)))
theorem ThAll.rep {H : Hp} {vs : List V} {ds : List D} (h : ThAll K av n H vs ds) : ∀ k : Nat, ThAll K av n H (List.replicate k vs).flatten (List.replicate k ds).flatten
  | 0 => .nil
  | k + 1 => by
    rw [List.replicate_succ, List.replicate_succ, List.flatten_cons, List.flatten_cons]
    exact h.append (ThAll.rep h k)
theorem Lit.repT {ta : TA} {ds : List D} {k : Int} (h : LitAll K av n ta ds) (hl : ds.length ≤ 40) (h0 : ds ≠ []) (h2 : 2 ≤ k) (h3 : k ≤ 1000) (hk : (List.replicate k.toNat ds).flatten.length ≤ 40) : Lit K av n (tOp (rRepT K) (tTup ta) (tC (.int k))) (.tup (List.replicate k.toNat ds).flatten) := fun σ H Q A q => by
  refine h σ H _ A fun vs H' S hv => ⟨small (by rw [hv.len]; omega), fun p hp => ⟨p, k, vs, rfl, rfl, .inl (.inl upd_same), fun e => ?_, h2, h3, by rw [hv.len]; omega, fun p2 hp2 => q _ _ ((S.trans (Sm.new hp)).trans (Sm.new hp2)) ?_⟩⟩
  · rw [e] at hv
    cases hv
    exact h0 rfl
  · have hr := (hv.ko (A.sm S) (KO.sm ((Sm.new (o := .tup vs) hp).trans (Sm.new (o := .tup (List.replicate k.toNat vs).flatten) hp2)))).rep k.toNat
    exact .tup (.inl (.inl upd_same)) (by rw [hr.len]; omega) hr
theorem LitAll.nil : LitAll K av n tNil [] := fun _ H _ _ q => q [] H (Sm.refl H) .nil
theorem LitAll.cons {te : TE} {ta : TA} {d : D} {ds : List D} (h : Lit K av n te d) (t : LitAll K av n ta ds) : LitAll K av n (tCons te ta) (d :: ds) := fun σ H R A q =>
  h σ H _ A fun v H1 S1 hv => t σ H1 _ (A.sm S1) fun vs H2 S2 hvs => q _ H2 (S1.trans S2) (.cons (hv.ko (A.sm S1) (KO.sm S2)) hvs)
theorem LitAll.use {ta : TA} {ds : List D} {σ : L2.St} {H : Hp} {R : List V → Hp → Prop} (h : LitAll K av n ta ds) (A : AvL av H) (q : ∀ vs H', Sm H H' → ThAll K av n H' vs ds → R vs H') : ta σ H R := h σ H R A q
end
theorem Lit.tup' {K : PySem.W.Frag} {av : Addr → Prop} {n : Nat} {ta : TA} {ds : List D} (h : LitAll K av n ta ds ∧ decide (ds.length ≤ 40) = true) : Lit K av n (tTup ta) (.tup ds) := Lit.tup h.1 (of_decide_eq_true h.2)
theorem Lit.lst' {K : PySem.W.Frag} {av : Addr → Prop} {n : Nat} {ta : TA} {ds : List D} (h : LitAll K av n ta ds ∧ decide (ds.length ≤ 40) = true) : Lit K av n (tLst ta) (.lst ds) := Lit.lst h.1 (of_decide_eq_true h.2)
theorem Lit.repT' {K : PySem.W.Frag} {av : Addr → Prop} {n : Nat} {ta : TA} {ds : List D} {k : Int} (h : LitAll K av n ta ds ∧ (decide (ds.length ≤ 40) && (!ds.isEmpty && (decide (2 ≤ k) && (decide (k ≤ 1000) && decide ((List.replicate k.toNat ds).flatten.length ≤ 40))))) = true) : Lit K av n (tOp (rRepT K) (tTup ta) (tC (.int k))) (.tup (List.replicate k.toNat ds).flatten) := by
  have h2 := h.2
  simp only [Bool.and_eq_true, decide_eq_true_eq] at h2
  obtain ⟨a, b, c, d, e⟩ := h2
  exact Lit.repT h.1 a (fun z => by rw [z] at b; cases b) c d e
theorem LitAll.use' {K : PySem.W.Frag} {av : Addr → Prop} {n N : Nat} {ta : TA} {σ : L2.St} {H : Hp} {R : List V → Hp → Prop} (h : ∃ ds, LitAll K av n ta ds ∧ ds.length = N) (A : AvL av H) (q : ∀ ds vs H', vs.length = N → Sm H H' → ThAll K av n H' vs ds → R vs H') : ta σ H R := by
  obtain ⟨ds, h, e⟩ := h
  exact h σ H R A fun vs H' S hv => q ds vs H' (by rw [hv.len, e]) S hv
/-- a list written on the spot -/
theorem lst_use {K : PySem.W.Frag} {av : Addr → Prop} {n N : Nat} {ta : TA} {σ : L2.St} {H : Hp} {Q : VK} (h : ∃ ds, LitAll K av n ta ds ∧ ds.length = N) (hN : N ≤ 1000) (A : AvL av H)
    (q : ∀ ds vs L H', vs.length = N → Sm H H' → H L = none → H' L = some (.lst vs) → ThAll K av n H' vs ds → Q (.ref L) H') : tLst ta σ H Q :=
  LitAll.use' h A fun ds vs H1 e S hv => ⟨small (by omega), fun L hL => q ds vs L _ e (S.trans (Sm.new hL)) (S.free hL) upd_same (hv.ko (A.sm S) (KO.sm (Sm.new hL)))⟩
def spOdd (K : PySem.W.Frag) : Sp := fun vs H Q _ => ∃ (b : Addr) (m : Nat) (av : Addr → Prop), vs = [.ref b] ∧ Bag H b m ∧ m + 5 ≤ LIM ∧ AvL av H ∧ av b ∧ ∀ v d H', Go b 1 H H' → Th K av 0 H' v d → Q v H'
section
variable {P : Program} {w : World} {K : PySem.W.Frag} {mg : Str → Option Value} {base : Heap} {cs : Tabs}
theorem ok_law_odd (T : Txt K mg cs) (C_law_draw : Cal P w K mg base 1 "_law_draw" ["bag", "many"] spDraw) : Cal P w K mg base 2 "_law_odd" ["bag"] (spOdd K) := by
  refine T.f_law_odd.cal scLawOdd (fun vs H Q E h => ?_) (fun f cdv A outer s H vs Q E hr h => ?_)
  · obtain ⟨b, m, av, rfl, _⟩ := h
    rfl
  obtain ⟨b, m, av, rfl, B, hm, A1, hb, q⟩ := h
  refine ⟨_, (pss_cons (ps_set (i := 1) scLawOdd.nd rfl (by first | exact Or.inl rfl | exact Or.inr rfl) (pe_lst (pa_cons pe_non (pa_cons pe_bl (pa_cons pe_bl (pa_cons pe_int (pa_cons pe_int (pa_cons (pe_un un_neg pe_int) (pa_cons (pe_op op_powW pe_int pe_int) (pa_cons pe_str (pa_cons pe_str (pa_cons pe_str (pa_cons pe_str (pa_cons pe_str (pa_cons pe_str (pa_cons pe_str (pa_cons (pe_tup pa_nil) (pa_cons (pe_lst pa_nil) (pa_cons pe_dnewK (pa_cons (pe_tup (pa_cons pe_str pa_nil)) pa_nil))))))))))))))))))))
    (pss_cons (ps_set (i := 1) scLawOdd.nd rfl (by first | exact Or.inl rfl | exact Or.inr rfl) (pe_op op_cat (pv 1) (pe_lst (pa_cons (pe_tup (pa_cons pe_str (pa_cons (pe_tup pa_nil) pa_nil))) (pa_cons (pe_lst (pa_cons pe_str (pa_cons (pe_tup pa_nil) pa_nil))) (pa_cons (pe_tup (pa_cons pe_str (pa_cons (pe_lst pa_nil) pa_nil))) (pa_cons (pe_tup (pa_cons pe_str (pa_cons (pe_tup (pa_cons pe_str pa_nil)) pa_nil))) (pa_cons (pe_tup (pa_cons pe_str (pa_cons (pe_tup (pa_cons (pe_op op_strRep pe_str pe_int) pa_nil)) pa_nil))) (pa_cons (pe_tup (pa_cons pe_str (pa_cons (pe_tup (pa_cons pe_str pa_nil)) pa_nil))) (pa_cons (pe_tup (pa_cons (pe_tup (pa_cons pe_str pa_nil)) (pa_cons (pe_tup pa_nil) pa_nil))) pa_nil))))))))))
    (pss_cons (ps_set (i := 1) scLawOdd.nd rfl (by first | exact Or.inl rfl | exact Or.inr rfl) (pe_op op_cat (pv 1) (pe_lst (pa_cons (pe_tup (pa_cons pe_str (pa_cons (pe_tup (pa_cons pe_str (pa_cons pe_int pa_nil))) pa_nil))) (pa_cons (pe_tup (pa_cons pe_str (pa_cons (pe_tup (pa_cons pe_non pa_nil)) pa_nil))) (pa_cons (pe_tup (pa_cons pe_str (pa_cons (pe_op (repT K) (pe_tup (pa_cons pe_str pa_nil)) pe_int) pa_nil))) (pa_cons (pe_tup (pa_cons pe_str (pa_cons (pe_tup pa_nil) (pa_cons (pe_tup pa_nil) pa_nil)))) (pa_cons (pe_op op_strRep pe_str pe_int) (pa_cons (pe_tup (pa_cons pe_str (pa_cons pe_str pa_nil))) pa_nil)))))))))
    (pss_one (ps_ret (pe_ix (ixL K) (pv 1) (pe_cal C_law_draw (hr.mono (by first | decide | omega)) (pa_cons (pv 0) (pa_cons pe_int pa_nil))) (fun _ _ => rfl))))))), ?_⟩
  unfold LIM at hm
  refine run_set ?_
  refine lst_use (av := av) (n := 0) (K := K) (N := 18) (by (apply Exists.intro; apply And.intro; (case left => repeat' first
      | exact LitAll.nil | exact Lit.non | exact Lit.bl _ | exact Lit.int _ (by decide) | exact Lit.str _ (by decide +kernel) | exact Lit.neg _ (by decide) | exact Lit.pow20 | exact Lit.dic
      | exact Lit.repS _ _ (by decide) (by decide) (by decide +kernel) (by decide +kernel)
      | exact (rfl : (_ : Bool) = true)
      | (apply Lit.tup'; apply And.intro) | (apply Lit.lst'; apply And.intro) | (apply Lit.repT'; apply And.intro) | apply LitAll.cons); rfl)) (by decide) A1 fun ds1 vs1 L1 H2 e1 S1' _ at1 h1' => ?_
  have A2 := A1.sm S1'
  refine run_set (run_op ⟨_, (by rfl), ?_⟩)
  refine lst_use (av := av) (n := 0) (K := K) (N := 7) (by (apply Exists.intro; apply And.intro; (case left => repeat' first
      | exact LitAll.nil | exact Lit.non | exact Lit.bl _ | exact Lit.int _ (by decide) | exact Lit.str _ (by decide +kernel) | exact Lit.neg _ (by decide) | exact Lit.pow20 | exact Lit.dic
      | exact Lit.repS _ _ (by decide) (by decide) (by decide +kernel) (by decide +kernel)
      | exact (rfl : (_ : Bool) = true)
      | (apply Lit.tup'; apply And.intro) | (apply Lit.lst'; apply And.intro) | (apply Lit.repT'; apply And.intro) | apply LitAll.cons); rfl)) (by decide) A2 fun ds2 vs2 L2 H3 e2 S2' _ at2 h2 => ?_
  refine ⟨L1, L2, vs1, vs2, rfl, rfl, S2' _ _ at1, at2, (by rw [e1, e2]; exact small (by decide)), fun L3 hL3 => ?_⟩
  have S3' := Sm.new (o := .lst (vs1 ++ vs2)) hL3
  have S3 := S2'.trans S3'
  have at3 : (upd H3 L3 (.lst (vs1 ++ vs2))) L3 = some (.lst (vs1 ++ vs2)) := upd_same
  have h3 := (h1'.ko A2 (KO.sm S3)).append (h2.ko (A2.sm S2') (KO.sm S3'))
  generalize upd H3 L3 (.lst (vs1 ++ vs2)) = H4 at S3 S3' at3 h3
  have A4 := A2.sm S3
  refine run_set (run_op ⟨_, (by rfl), ?_⟩)
  refine lst_use (av := av) (n := 0) (K := K) (N := 6) (by (apply Exists.intro; apply And.intro; (case left => repeat' first
      | exact LitAll.nil | exact Lit.non | exact Lit.bl _ | exact Lit.int _ (by decide) | exact Lit.str _ (by decide +kernel) | exact Lit.neg _ (by decide) | exact Lit.pow20 | exact Lit.dic
      | exact Lit.repS _ _ (by decide) (by decide) (by decide +kernel) (by decide +kernel)
      | exact (rfl : (_ : Bool) = true)
      | (apply Lit.tup'; apply And.intro) | (apply Lit.lst'; apply And.intro) | (apply Lit.repT'; apply And.intro) | apply LitAll.cons); rfl)) (by decide) A4 fun ds5 vs5 L5 H5 e5 S5' _ at5 h5 => ?_
  refine ⟨L3, L5, vs1 ++ vs2, vs5, rfl, rfl, S5' _ _ at3, at5, (by rw [List.length_append, e1, e2, e5]; exact small (by decide)), fun L6 hL6 => ?_⟩
  have S6' := Sm.new (o := .lst (vs1 ++ vs2 ++ vs5)) hL6
  have S6 := S5'.trans S6'
  have at6 : (upd H5 L6 (.lst (vs1 ++ vs2 ++ vs5))) L6 = some (.lst (vs1 ++ vs2 ++ vs5)) := upd_same
  have h6 := (h3.ko A4 (KO.sm S6)).append (h5.ko (A4.sm S5') (KO.sm S6'))
  have e31 : (vs1 ++ vs2 ++ vs5).length = 31 := by rw [List.length_append, List.length_append, e1, e2, e5]
  have np : L6 ≠ b := ((Go.same (b := b) (((S1'.trans S3).trans S5'))).bag _ B).ne hL6
  generalize upd H5 L6 (.lst (vs1 ++ vs2 ++ vs5)) = H6 at S6 S6' at6 h6
  have A6 := A4.sm S6
  have S06 := (S1'.trans S3).trans S6
  generalize vs1 ++ vs2 ++ vs5 = vs at at6 h6 e31
  generalize ds1 ++ ds2 ++ ds5 = ds at h6
  have G0 : Go b 0 H H6 := Go.same S06
  have B6 := G0.bag _ B
  refine run_ret ?_
  refine list_drawn (i := 0) (j := 1) (n := 31) (A := fun v => v ∈ vs) (by rfl) (by rfl) at6 np B6 (by unfold LIM; omega) e31 (by decide) (fun v hv => hv) fun v H7 hv G7 => ?_
  obtain ⟨i, hi, rfl⟩ := List.mem_iff_getElem.mp hv
  obtain ⟨d, _, hd⟩ := h6.at hi
  exact q _ _ _ ((G0.trans G7).mono (by omega)) (hd.ko A6 (KO.go G7 hb))
end
/-! ### lists made of a row of things -/
def AllT (K : PySem.W.Frag) (av : Addr → Prop) (n : Nat) (H : Hp) (ys : List V) : Prop := ∀ v ∈ ys, ∃ d, Th K av n H v d
section
variable {K : PySem.W.Frag} {av : Addr → Prop} {n n' : Nat} {H H' : Hp}
theorem ThAll.allT : ∀ {vs : List V} {ds : List D}, ThAll K av n H vs ds → AllT K av n H vs
  | _, _, .nil => fun v h => by cases h
  | _, _, .cons h t => fun v hv => by
    rcases List.mem_cons.mp hv with rfl | hv
    · exact ⟨_, h⟩
    · exact ThAll.allT t v hv
theorem AllT.all : ∀ {vs : List V}, AllT K av n H vs → ∃ ds, ThAll K av n H vs ds
  | [], _ => ⟨[], .nil⟩
  | v :: r, h => by
    obtain ⟨d, hd⟩ := h v List.mem_cons_self
    obtain ⟨ds, ht⟩ := AllT.all (vs := r) fun w hw => h w (List.mem_cons_of_mem _ hw)
    exact ⟨_, .cons hd ht⟩
theorem AllT.ko {vs : List V} (h : AllT K av n H vs) (A : AvL av H) (k : KO av H H') : AllT K av n H' vs := fun v hv => by
  obtain ⟨d, hd⟩ := h v hv
  exact ⟨d, hd.ko A k⟩
theorem AllT.mono {vs : List V} (h : AllT K av n H vs) (l : n ≤ n') : AllT K av n' H vs := fun v hv => by
  obtain ⟨d, hd⟩ := h v hv
  exact ⟨d, hd.mono l⟩
theorem AllT.sub {vs ws : List V} (h : AllT K av n H vs) (s : ∀ v ∈ ws, v ∈ vs) : AllT K av n H ws := fun v hv => h v (s v hv)
theorem AllT.append {vs ws : List V} (h : AllT K av n H vs) (g : AllT K av n H ws) : AllT K av n H (vs ++ ws) := fun v hv => by
  rcases List.mem_append.mp hv with hv | hv
  · exact h v hv
  · exact g v hv
theorem mem_cut {xs : List V} {lo hi : Option Int} : ∀ v ∈ cutV xs lo hi, v ∈ xs := fun v hv => by
  unfold cutV at hv
  exact List.mem_of_mem_drop (List.mem_of_mem_take hv)
theorem cut_mid (xs : List V) (k : Nat) : (cutV xs (some (k : Int)) (some ((k : Int) + 1))).length ≤ 1 := by
  unfold cutV
  have e : ((k : Int) + 1) = ((k + 1 : Nat) : Int) := by omega
  rw [e, HT.sIx_nat, HT.sIx_nat, List.length_take]
  omega
end
/-- the row, the place in it, the bag -/
structure Cx1 (K : PySem.W.Frag) (av : Addr → Prop) (n : Nat) (b R : Addr) (at_ : Nat) (xs : List V) (m : Nat) (σ : L2.St) (H : Hp) : Prop where
  s0 : σ[0]? = some (some (.ref b))
  s3 : σ[3]? = some (some (.ref R))
  s4 : σ[4]? = some (some (.int (at_ : Int)))
  bag : Bag H b m
  row : H R = some (.lst xs)
  ne : R ≠ b
  all : AllT K av n H xs
  avl : AvL av H
  hb : av b
section
variable {K : PySem.W.Frag} {av : Addr → Prop} {n : Nat} {b R : Addr} {at_ : Nat} {xs : List V} {m k : Nat} {σ : L2.St} {H H' : Hp}
theorem Cx1.go (c : Cx1 K av n b R at_ xs m σ H) (G : Go b k H H') : Cx1 K av n b R at_ xs (m + k) σ H' :=
  ⟨c.s0, c.s3, c.s4, G.bag _ c.bag, G.keep R _ c.ne c.row, c.ne, c.all.ko c.avl (KO.go G c.hb), c.avl.go G c.bag, c.hb⟩
/-- te makes a new list of things of the row's kind, k draws, at most L of them -/
def LE (K : PySem.W.Frag) (av : Addr → Prop) (n : Nat) (b R : Addr) (at_ : Nat) (xs : List V) (te : TE) (k L : Nat) : Prop :=
  ∀ (m : Nat) (σ : L2.St) (H : Hp) (Q : VK), m + k + 5 ≤ LIM → Cx1 K av n b R at_ xs m σ H → (∀ ys p H', Go b k H H' → H p = none → H' p = some (.lst ys) → ys.length ≤ L → AllT K av n H' ys → Q (.ref p) H') → te σ H Q
theorem LE.sl {tl th : TO} {lo hi : Option Int} {L : Nat} (ho : ∀ (σ : L2.St) (H : Hp) (R' : Option Int → Option Int → Hp → Prop), σ[4]? = some (some (.int (at_ : Int))) → R' lo hi H → tl σ H fun l H2 => th σ H2 fun u H3 => R' l u H3) (hL : (cutV xs lo hi).length ≤ L) :
    LE K av n b R at_ xs (tSl (rSlL K) (tVar 3) tl th) 0 L := fun m σ H Q _ c q =>
  ⟨_, c.s3, ho σ H (fun l u H3 => rSlL K (.ref R) l u H3 Q) c.s4 ⟨R, xs, rfl, SqL.of c.row, fun p hp => q _ p _ (Go.new hp) hp upd_same hL ((c.all.sub mem_cut).ko c.avl (KO.sm (Sm.new hp)))⟩⟩
theorem LE.cat {t1 t2 : TE} {k1 k2 L1 L2 : Nat} (h1 : LE K av n b R at_ xs t1 k1 L1) (h2 : LE K av n b R at_ xs t2 k2 L2) (hL : L1 + L2 ≤ 1000) : LE K av n b R at_ xs (tOp rCat t1 t2) (k1 + k2) (L1 + L2) := fun m σ H Q hm c q => by
  refine run_op (h1 m σ H _ (by omega) c fun ys p H1 G1 hp e1 l1 a1 => ?_)
  have c1 := c.go G1
  have np : p ≠ b := c.bag.ne hp
  refine h2 (m + k1) σ H1 _ (by omega) c1 fun zs p2 H2 G2 hp2 e2 l2 a2 => ?_
  refine ⟨p, p2, ys, zs, rfl, rfl, G2.keep p _ np e1, e2, small (by omega), fun p3 hp3 => ?_⟩
  have a1' := a1.ko c1.avl (KO.go G2 c.hb)
  exact q _ p3 _ ((G1.trans (G2.trans (Go.new hp3))).mono (by omega)) (G1.gone _ (G2.gone _ hp3)) upd_same (by rw [List.length_append]; omega) ((a1'.append a2).ko (c1.avl.go G2 c1.bag) (KO.sm (Sm.new hp3)))
theorem LE.odd : LE K av n b R at_ xs (tLst (tCons (tCall (spOdd K) [] E0 (tCons (tVar 0) tNil)) tNil)) 1 1 := fun m σ H Q hm c q => by
  refine ⟨_, c.s0, b, m, av, rfl, c.bag, by omega, c.avl, c.hb, fun v d H1 G hd => ⟨small (by show 1 ≤ 100000; decide), fun p hp => ?_⟩⟩
  refine q [v] p _ ((G.trans (Go.new hp)).mono (by omega)) (G.gone _ hp) upd_same (Nat.le_refl _) fun w hw => ?_
  rw [List.mem_singleton.mp hw]
  exact ⟨d, (hd.mono (Nat.zero_le _)).ko (c.avl.go G c.bag) (KO.sm (Sm.new hp))⟩
theorem LE.rev {L : Nat} (hL : xs.length ≤ L) : LE K av n b R at_ xs (tRevL K (tVar 3)) 0 L := fun m σ H Q _ c q => by
  refine ⟨_, c.s3, R, xs, rfl, SqL.of c.row, fun p hp => ?_⟩
  refine q _ p _ (Go.new hp) hp upd_same (by rw [List.length_reverse]; exact hL) ?_
  exact (c.all.sub fun v hv => List.mem_reverse.mp hv).ko c.avl (KO.sm (Sm.new hp))
/-- a list as a value -/
def IsLs (K : PySem.W.Frag) (av : Addr → Prop) (n L : Nat) (H : Hp) (v : V) : Prop := ∃ p ys, v = .ref p ∧ H p = some (.lst ys) ∧ ¬ av p ∧ ys.length ≤ L ∧ AllT K av n H ys
theorem IsLs.ko {L : Nat} {v : V} (h : IsLs K av n L H v) (A : AvL av H) (k : KO av H H') : IsLs K av n L H' v := by
  obtain ⟨p, ys, rfl, h1, h2, h3, h4⟩ := h
  exact ⟨p, ys, rfl, k p _ h2 h1 rfl, h2, h3, h4.ko A k⟩
def LEs (K : PySem.W.Frag) (av : Addr → Prop) (n : Nat) (b R : Addr) (at_ : Nat) (xs : List V) (ta : TA) (k L N : Nat) : Prop :=
  ∀ (m : Nat) (σ : L2.St) (H : Hp) (Q : List V → Hp → Prop), m + k + 5 ≤ LIM → Cx1 K av n b R at_ xs m σ H → (∀ vs H', Go b k H H' → vs.length = N → (∀ v ∈ vs, IsLs K av n L H' v) → Q vs H') → ta σ H Q
theorem LEs.nil {L : Nat} : LEs K av n b R at_ xs tNil 0 L 0 := fun m σ H Q _ c q => q [] H (Go.refl b H) rfl fun v h => by cases h
theorem LEs.cons {te : TE} {ta : TA} {k1 k2 L N : Nat} (h1 : LE K av n b R at_ xs te k1 L) (h2 : LEs K av n b R at_ xs ta k2 L N) : LEs K av n b R at_ xs (tCons te ta) (k1 + k2) L (N + 1) := fun m σ H Q hm c q => by
  refine h1 m σ H _ (by omega) c fun ys p H1 G1 hp e1 l1 a1 => ?_
  have c1 := c.go G1
  refine h2 (m + k1) σ H1 _ (by omega) c1 fun vs H2 G2 hl hv => ?_
  refine q _ H2 (G1.trans G2) (by rw [List.length_cons, hl]) fun v hv' => ?_
  rcases List.mem_cons.mp hv' with rfl | hv'
  · exact IsLs.ko ⟨p, ys, rfl, e1, c.avl.fresh hp, l1, a1⟩ c1.avl (KO.go G2 c.hb)
  · exact hv v hv'
theorem le_mono {te : TE} {k L L' : Nat} (h : LE K av n b R at_ xs te k L) (l : L ≤ L') : LE K av n b R at_ xs te k L' := fun m σ H Q hm c q => h m σ H Q hm c fun ys p H' G hp e hl a => q ys p H' G hp e (by omega) a
end
def spTurned (K : PySem.W.Frag) (j : Nat) : Sp := fun vs H Q _ => ∃ (b : Addr) (m : Nat) (v : V) (d : D) (n : Nat) (av : Addr → Prop), vs = [.ref b, v, .int (j : Int)] ∧ Bag H b m ∧ m + 1000 * (j + 1) ≤ LIM ∧ AvL av H ∧ av b ∧ Th K av n H v d ∧ n ≤ 3 ∧ j ≤ 5 ∧
  ∀ v' d' H', Go b (10 * (j + 1)) H H' → Th K av (n + 1) H' v' d' → Q v' H'
def spTU (K : PySem.W.Frag) (J : Nat) : Sp := fun vs H Q E => ∃ j, j < J ∧ spTurned K j vs H Q E
/-- list(thing) if isinstance(thing, (list, tuple)) else [] -/
theorem row_ok {K : PySem.W.Frag} {av : Addr → Prop} {n : Nat} {v : V} {d : D} {σ : L2.St} {H : Hp} {Q : VK} (hs : σ[1]? = some (some v)) (h : Th K av n H v d) (A : AvL av H) (hn : n ≤ 10)
    (q : ∀ R xs ds H1, Sm H H1 → H R = none → H1 R = some (.lst xs) → ThAll K (Av1 av R) n H1 xs ds → xs.length ≤ 40 + n → Q (.ref R) H1) :
    tIf (tB (tCB (rIsiT K) (tCons (tVar 1) (tCons (tTup (tCons (tC (V.ty "list")) (tCons (tC (V.ty "tuple")) tNil))) tNil)))) (tCB (rListOf K) (tCons (tVar 1) tNil)) (tLst tNil) σ H Q := by
  have kit : PySem.W.kitAny K (.type d.ty) [.type "list", .type "tuple"] = some (d.isLst || d.isTup) := by
    refine kitAny_cons (kitL d) (fun e => ?_) (fun e => by rw [e]; rfl)
    rw [e, Bool.false_or]
    refine kitAny_cons (kitT d) (fun e2 => ?_) (fun e2 => e2)
    rw [e2]
    rfl
  refine ⟨_, hs, small (by show 2 ≤ 100000; decide), fun p hp => ?_⟩
  have S1 := Sm.new (o := .tup [V.ty "list", .ty "tuple"]) hp
  refine ⟨v, p, _, _, _, _, rfl, upd_same, .cons (ClsV.ty "list") (.cons (ClsV.ty "tuple") .nil), (h.ko A (KO.sm S1)).tyx, kit, _, rfl, ?_⟩
  have h1 := h.ko A (KO.sm S1)
  refine ite2 (fun c => ?_) (fun c => ?_)
  · rw [Bool.or_eq_true] at c
    have : ∃ a xs ds, v = .ref a ∧ (SqL K (upd H p (.tup [V.ty "list", .ty "tuple"])) a xs ∨ SqT K (upd H p (.tup [V.ty "list", .ty "tuple"])) a xs) ∧ ThAll K av n (upd H p (.tup [V.ty "list", .ty "tuple"])) xs ds ∧ xs.length ≤ 40 + n := by
      cases h1 with
      | lst g1 g2 g3 g4 => exact ⟨_, _, _, rfl, .inl (SqL.of g1), g4, g3⟩
      | tup g1 g2 g3 => exact ⟨_, _, _, rfl, .inr g1, g3, g2⟩
      | _ => rcases c with c | c <;> cases c
    obtain ⟨a, xs, ds, rfl, g1, g2, g3⟩ := this
    refine ⟨_, hs, a, xs, rfl, g1, fun R hR => ?_⟩
    exact q R xs ds _ (S1.trans (Sm.new hR)) (S1.free hR) upd_same ((g2.more hR).koW ((A.sm S1).w.one hR) (KO.sm (Sm.new hR))) g3
  · exact ⟨Nat.zero_le _, fun R hR => q R [] [] _ (S1.trans (Sm.new hR)) (S1.free hR) upd_same .nil (Nat.zero_le _)⟩
theorem tst_and {t u : TT} {p q : Bool} {σ : L2.St} {H : Hp} {R : Bool → Hp → Prop} (h1 : ∀ R : Bool → Hp → Prop, R p H → t σ H R) (h2 : p = true → ∀ R : Bool → Hp → Prop, R q H → u σ H R) (h : R (p && q) H) : tAnd t u σ H R := by
  refine h1 _ ?_
  cases p with
  | true => exact iteT (h2 rfl R h)
  | false => exact iteF h
theorem lst_LEs {K : PySem.W.Frag} {av : Addr → Prop} {n : Nat} {b R : Addr} {at_ : Nat} {xs : List V} {m k L N : Nat} {σ : L2.St} {H : Hp} {ta : TA} {Q : VK} (h : LEs K av n b R at_ xs ta k L N) (hm : m + k + 5 ≤ LIM) (c : Cx1 K av n b R at_ xs m σ H) (hN : N ≤ 1000)
    (q : ∀ vs p H', Go b k H H' → H p = none → H' p = some (.lst vs) → vs.length = N → (∀ v ∈ vs, IsLs K av n L H' v) → Q (.ref p) H') : tLst ta σ H Q :=
  h m σ H _ hm c fun vs H1 G hl hv => ⟨small (by omega), fun p hp => q vs p _ ((G.trans (Go.new hp)).mono (by omega)) (G.gone _ hp) upd_same hl fun v hv' => (hv v hv').ko (c.avl.go G c.bag) (KO.sm (Sm.new hp))⟩
theorem ix_nat {n j : Nat} (hj : j < n) : ixN n (j : Int) = some j := by
  unfold ixN
  rw [if_pos (by omega), if_pos (by omega)]; simp
theorem tl_cutd (z : Str) (k : Nat) : tl (cutS z (some (k : Int)) none) = (tl z).drop k := by
  show (((z.cps.toList.drop (HT.sIx z.length 0 (some (k : Int)))).take (HT.sIx z.length z.length none - HT.sIx z.length 0 (some (k : Int)))).toArray).toList = _
  rw [HT.sIx_none, HT.sIx_nat, List.toList_toArray]
  have e : z.length = (tl z).length := len_tl z
  rw [e]
  show ((tl z).drop (min k (tl z).length)).take ((tl z).length - min k (tl z).length) = _
  by_cases h : k ≤ (tl z).length
  · rw [Nat.min_eq_left h, List.take_of_length_le (by rw [List.length_drop]; exact Nat.le_refl _)]
  · rw [Nat.min_eq_right (by omega), List.drop_eq_nil_of_le (Nat.le_refl _), List.drop_eq_nil_of_le (by omega), List.take_nil]
theorem tl_upper {z : Str} (h : ∀ c ∈ tl z, c < 128) : (tl (Txt.upper z)).length = (tl z).length ∧ ∀ c ∈ tl (Txt.upper z), c < 128 := by
  have e : z = SX.S (tl z) := (TL.mk_tl z).symm
  have h2 : (tl z).all (fun c => decide (c < 128)) = true := List.all_eq_true.mpr fun c hc => decide_eq_true (h c hc)
  have e2 : tl (Txt.upper z) = (tl z).map PyProof.Rows.up1 := by
    have := SX.upper_S (a := tl z) h2
    rw [← e] at this
    rw [this]
  rw [e2]
  refine ⟨List.length_map _, fun c hc => ?_⟩
  obtain ⟨d, hd, rfl⟩ := List.mem_map.mp hc
  have hd := h d hd
  have : ∀ j : Fin 128, PyProof.Rows.up1 j.val < 128 := by decide +kernel
  exact this ⟨d, hd⟩
theorem log_lt {i : Int} (h : i.natAbs < 10 ^ 23) : i.natAbs.log2 < 1920 := Nat.lt_trans (PySem.Flt.log2_lt_of (n := i.natAbs) (k := 100) (by decide) (Nat.lt_trans h (by decide))) (by decide)
section
variable {P : Program} {w : World} {K : PySem.W.Frag} {mg : Str → Option Value} {base : Heap} {cs : Tabs}
set_option maxHeartbeats 1000000 in
theorem ok_law_turned (T : Txt K mg cs) (C_law_draw : Cal P w K mg base 1 "_law_draw" ["bag", "many"] spDraw) (C_law_signs : Cal P w K mg base 1 "_law_signs" [] spSigns) (C_law_odd : Cal P w K mg base 2 "_law_odd" ["bag"] (spOdd K)) {k : Nat} {sp' : Sp} (C_law_turned : Cal P w K mg base (k + 2) "_law_turned" ["bag", "thing", "deep"] sp')
    (J : Nat) (hsp : ∀ j', j' + 1 < J → ∀ vs H Q E, spTurned K j' vs H Q E → sp' vs H Q E) : Cal P w K mg base (k + 3) "_law_turned" ["bag", "thing", "deep"] (spTU K J) := by
  refine T.f_law_turned.cal scLawTurned (fun vs H Q E h => ?_) (fun f cdv A outer s H vs Q E hr h => ?_)
  · obtain ⟨j, hJ, b, m, v, d, n, av, rfl, _⟩ := h
    rfl
  obtain ⟨j, hJ, b, m, v, d, n, av, rfl, B, hm, A1, hb, h, hn, hj5, q⟩ := h
  refine ⟨_, (pss_cons (ps_set (i := 3) scLawTurned.nd rfl (by first | exact Or.inl rfl | exact Or.inr rfl) (pe_ifExp (pt_val (pe_callB (isIT K) rfl T.n_isinstance (by decide +kernel) (pa_cons (pv 1) (pa_cons (pe_tup (pa_cons (pe_bltn (v := .ty "list") rfl T.n_list (by decide +kernel) rfl) (pa_cons (pe_bltn (v := .ty "tuple") rfl T.n_tuple (by decide +kernel) rfl) pa_nil))) pa_nil)))) (pe_callTy (listOf K) rfl T.n_list (by decide +kernel) (pa_cons (pv 1) pa_nil)) (pe_lst pa_nil)))
    (pss_cons (ps_set (i := 4) scLawTurned.nd rfl (by first | exact Or.inl rfl | exact Or.inr rfl) (pe_cal C_law_draw (hr.mono (by first | decide | omega)) (pa_cons (pv 0) (pa_cons (pe_op op_add (pe_callB (lenQ K) rfl T.n_len (by decide +kernel) (pa_cons (pv 3) pa_nil)) pe_int) pa_nil))))
    (pss_cons (ps_if (PW.pt (pw_and (pt_cmpR op_gt (pv 2) pe_int (nomark _)) (pw_and1 (pt_cmpR op_lt (pv 4) (pe_callB (lenQ K) rfl T.n_len (by decide +kernel) (pa_cons (pv 3) pa_nil)) (nomark _))))) (pss_cons (ps_asg (pe_cal C_law_turned (hr.mono (by first | decide | omega)) (pa_cons (pv 0) (pa_cons (pe_ix (ixL K) (pv 3) (pv 4) (fun _ _ => rfl)) (pa_cons (pe_op op_sub (pv 2) pe_int) pa_nil)))) (pg_sub (pv 3) (pv 4) set_list))
        (pss_one (ps_ret (pe_ifExp (pt_val (pe_callB (isI K) rfl T.n_isinstance (by decide +kernel) (pa_cons (pv 1) (pa_cons (pe_bltn (v := .ty "list") rfl T.n_list (by decide +kernel) rfl) pa_nil)))) (pv 3) (pe_callTy (tupOf K) rfl T.n_tuple (by decide +kernel) (pa_cons (pv 3) pa_nil)))))) pss_nil)
    (pss_cons (ps_set (i := 5) scLawTurned.nd rfl (by first | exact Or.inl rfl | exact Or.inr rfl) (pe_cal C_law_draw (hr.mono (by first | decide | omega)) (pa_cons (pv 0) (pa_cons pe_int pa_nil))))
    (C8.pss_cut (ps_if (pt_cmpR (neE K hr.units) (pv 3) (pe_lst pa_nil) (nomark _)) (pss_cons (ps_set (i := 4) scLawTurned.nd rfl (by first | exact Or.inl rfl | exact Or.inr rfl) (pe_op op_mod (pv 4) (pe_callB (lenQ K) rfl T.n_len (by decide +kernel) (pa_cons (pv 3) pa_nil))))
        (pss_cons (ps_set (i := 6) scLawTurned.nd rfl (by first | exact Or.inl rfl | exact Or.inr rfl) (pe_lst (pa_cons (pe_op op_cat (pe_slice (slL K) (pv 3) po_none (po_some (pv 4))) (pe_slice (slL K) (pv 3) (po_some (pe_op op_add (pv 4) pe_int)) po_none)) (pa_cons (pe_op op_cat (pe_op op_cat (pe_slice (slL K) (pv 3) po_none (po_some (pv 4))) (pe_slice (slL K) (pv 3) (po_some (pv 4)) (po_some (pe_op op_add (pv 4) pe_int)))) (pe_slice (slL K) (pv 3) (po_some (pv 4)) po_none)) (pa_cons (pe_revK K (pv 3)) pa_nil)))))
        (pss_cons (ps_set (i := 6) scLawTurned.nd rfl (by first | exact Or.inl rfl | exact Or.inr rfl) (pe_op op_cat (pv 6) (pe_lst (pa_cons (pe_op op_cat (pe_op op_cat (pe_slice (slL K) (pv 3) po_none (po_some (pv 4))) (pe_lst (pa_cons (pe_cal C_law_odd (hr.mono (by first | decide | omega)) (pa_cons (pv 0) pa_nil)) pa_nil))) (pe_slice (slL K) (pv 3) (po_some (pv 4)) po_none)) (pa_cons (pe_op op_cat (pe_op op_cat (pe_slice (slL K) (pv 3) po_none (po_some (pv 4))) (pe_lst (pa_cons (pe_cal C_law_odd (hr.mono (by first | decide | omega)) (pa_cons (pv 0) pa_nil)) pa_nil))) (pe_slice (slL K) (pv 3) (po_some (pe_op op_add (pv 4) pe_int)) po_none)) pa_nil)))))
        (pss_cons (ps_if (pt_cmpR op_lt (pv 5) pe_int (nomark _)) (pss_one (ps_ret (pe_ifExp (pt_val (pe_callB (isI K) rfl T.n_isinstance (by decide +kernel) (pa_cons (pv 1) (pa_cons (pe_bltn (v := .ty "list") rfl T.n_list (by decide +kernel) rfl) pa_nil)))) (pe_ix (ixL K) (pv 6) (pv 5) (fun _ _ => rfl)) (pe_callTy (tupOf K) rfl T.n_tuple (by decide +kernel) (pa_cons (pe_ix (ixL K) (pv 6) (pv 5) (fun _ _ => rfl)) pa_nil))))) pss_nil)
        (pss_one (ps_if (pt_cmpR op_eq (pv 5) pe_int (nomark _)) (pss_one (ps_ret (pe_ifExp (pt_val (pe_callB (isI K) rfl T.n_isinstance (by decide +kernel) (pa_cons (pv 1) (pa_cons (pe_bltn (v := .ty "list") rfl T.n_list (by decide +kernel) rfl) pa_nil)))) (pe_callTy (tupOf K) rfl T.n_tuple (by decide +kernel) (pa_cons (pv 3) pa_nil)) (pv 3)))) pss_nil)))))) pss_nil)
    (pss_cons (ps_if (PW.pt (pw_and (pt_val (pe_callB (isI K) rfl T.n_isinstance (by decide +kernel) (pa_cons (pv 1) (pa_cons (pe_bltn (v := .ty "str") rfl T.n_str (by decide +kernel) rfl) pa_nil)))) (pw_and1 (pt_cmpR op_lt (pv 5) pe_int (nomark _))))) (pss_cons (ps_set (i := 7) scLawTurned.nd rfl (by first | exact Or.inl rfl | exact Or.inr rfl) (pe_cal C_law_draw (hr.mono (by first | decide | omega)) (pa_cons (pv 0) (pa_cons (pe_op op_add (pe_callB lenT rfl T.n_len (by decide +kernel) (pa_cons (pv 1) pa_nil)) pe_int) pa_nil))))
        (pss_cons (ps_set (i := 8) scLawTurned.nd rfl (by first | exact Or.inl rfl | exact Or.inr rfl) (pe_op op_add_str (pe_cal0 C_law_signs (hr.mono (by first | decide | omega))) pe_str))
        (pss_cons (ps_set (i := 9) scLawTurned.nd rfl (by first | exact Or.inl rfl | exact Or.inr rfl) (pe_ix ix_str (pv 8) (pe_cal C_law_draw (hr.mono (by first | decide | omega)) (pa_cons (pv 0) (pa_cons (pe_callB lenT rfl T.n_len (by decide +kernel) (pa_cons (pv 8) pa_nil)) pa_nil))) (fun _ _ => rfl)))
        (pss_cons (ps_set (i := 6) scLawTurned.nd rfl (by first | exact Or.inl rfl | exact Or.inr rfl) (pe_lst (pa_cons (pe_op op_add_str (pv 1) (pv 9)) (pa_cons (pe_slice sl_str (pv 1) (po_some pe_int) po_none) (pa_cons (pe_upper (pv 1)) (pa_cons (pe_lst (pa_cons (pv 1) pa_nil)) (pa_cons (pe_op op_add_str (pe_op op_add_str (pe_slice sl_str (pv 1) po_none (po_some (pv 7))) (pv 9)) (pe_slice sl_str (pv 1) (po_some (pv 7)) po_none)) (pa_cons (pe_op op_strRep (pe_slice sl_str (pv 1) po_none (po_some pe_int)) pe_int) pa_nil))))))))
        (pss_one (ps_ret (pe_ix (ixL K) (pe_op op_cat (pv 6) (pe_lst (pa_cons (pe_op op_add_str (pe_op op_add_str (pe_slice sl_str (pv 1) po_none (po_some (pv 7))) (pv 9)) (pe_slice sl_str (pv 1) (po_some (pe_op op_add (pv 7) pe_int)) po_none)) pa_nil))) (pv 5) (fun _ _ => rfl)))))))) pss_nil)
    (pss_cons (ps_if (PW.pt (pw_and (pt_val (pe_callB (isI K) rfl T.n_isinstance (by decide +kernel) (pa_cons (pv 1) (pa_cons (pe_bltn (v := .ty "int") rfl T.n_int (by decide +kernel) rfl) pa_nil)))) (pw_and (pt_not (pt_val (pe_callB (isI K) rfl T.n_isinstance (by decide +kernel) (pa_cons (pv 1) (pa_cons (pe_bltn (v := .ty "bool") rfl T.n_bool (by decide +kernel) rfl) pa_nil))))) (pw_and1 (pt_cmpR op_lt (pv 5) pe_int (nomark _)))))) (pss_one (ps_ret (pe_ix (ixL K) (pe_lst (pa_cons (pe_op op_add (pv 1) pe_int) (pa_cons (pe_op op_sub pe_int (pv 1)) (pa_cons (pe_callTy call_str_int rfl T.n_str (by decide +kernel) (pa_cons (pv 1) pa_nil)) (pa_cons (pe_lst (pa_cons (pv 1) pa_nil)) (pa_cons (pe_cmpR op_eq (pv 1) pe_int (nomark _)) pa_nil)))))) (pv 5) (fun _ _ => rfl)))) pss_nil)
    (pss_one (ps_ret (pe_cal C_law_odd (hr.mono (by first | decide | omega)) (pa_cons (pv 0) pa_nil))))))))))), ?_⟩
  unfold LIM at hm
  refine run_set (row_ok (n := n) (by rfl) h A1 (by omega) fun R xs ds H1 S1 hR e1 h1 hl1 => ?_)
  have G1 : Go b 0 H H1 := Go.same S1
  have B1 := G1.bag _ B
  have np : R ≠ b := B.ne hR
  refine run_set ⟨_, (by rfl), _, (by rfl), R, xs, rfl, .inl (SqL.of e1), _, _, rfl, rfl, b, _, _, rfl, B1, by unfold LIM; omega, by omega, by omega, fun r H2 r0 r1 G2 => ?_⟩
  obtain ⟨at_, rfl⟩ : ∃ k : Nat, r = (k : Int) := ⟨r.toNat, by omega⟩
  have e2 := G2.keep R _ np e1
  have B2 := G2.bag _ B1
  have G02 : Go b 1 H H2 := (G1.trans G2).mono (by omega)
  have A11 : AvL (Av1 av R) H1 := (A1.sm S1).one e1
  have h2 := h1.ko A11 (KO.go G2 (.inl hb))
  have A12 := A11.go G2 B1
  refine run_if (tst_and (p := decide ((0 : Int) < j)) (q := decide ((at_ : Int) < xs.length)) (fun R' h => ⟨_, (by rfl), _, _, rfl, rfl, _, rfl, h⟩) (fun _ R' h => ⟨_, (by rfl), _, (by rfl), R, xs, rfl, .inl (SqL.of e2), _, _, rfl, rfl, _, rfl, h⟩) ?_)
  refine ite2 (fun c => ?_) (fun c => ?_)
  · -- deeper
    rw [Bool.and_eq_true] at c
    have j0 := of_decide_eq_true c.1
    have ha : at_ < xs.length := by have := of_decide_eq_true c.2; omega
    obtain ⟨j', rfl⟩ : ∃ j', j = j' + 1 := ⟨j - 1, by omega⟩
    obtain ⟨dd, hdd, hth⟩ := h2.at ha
    refine ⟨_, (by rfl), _, (by rfl), _, (by rfl), R, xs, (at_ : Int), xs[at_], rfl, rfl, SqL.of e2, atI_nat (List.getElem?_eq_getElem ha), _, (by rfl), _, _, rfl, rfl, ?_⟩
    refine hsp j' (by omega) _ _ _ _ ⟨b, _, xs[at_], dd, n, Av1 av R, ?_, B2, by unfold LIM; omega, A12, .inl hb, hth, hn, by omega, fun v' d' H3 G3 hv' => ?_⟩
    · have : (((j' + 1 : Nat) : Int) - 1) = (j' : Int) := by omega
      show [V.ref b, xs[at_], V.int (((j' + 1 : Nat) : Int) - 1)] = _
      rw [this]
    have e3 := G3.keep R _ np e2
    have h3 := (h2.ko A12 (KO.go G3 (.inl hb))).mono (n' := n + 1) (by omega)
    have A13 := A12.go G3 B2
    refine ⟨_, (by rfl), _, (by rfl), R, xs, (at_ : Int), at_, rfl, rfl, e3, ?_, ?_⟩
    · exact ix_nat ha
    have G4 : Go b (10 * (j' + 1 + 1)) H (upd H3 R (.lst (xs.set at_ v'))) := Go.own ((G02.trans G3).mono (by omega)) B hR (no_tbl e3)
    have h4 := ((h3.set (i := at_) hv').ko A13 (KO.upd (o := .lst (xs.set at_ v')) (.inr rfl))).less
    have hl4 : (xs.set at_ v').length ≤ 40 + (n + 1) := by rw [List.length_set]; omega
    generalize hgen : xs.set at_ v' = ys at *
    refine ⟨_, (by rfl), _, _, _, _, _, rfl, ClsV.ty "list", (h.ko A1 (KO.go G4 hb)).tyx, kitL d, _, rfl, ?_⟩
    refine ite2 (fun c => ?_) (fun c => ?_)
    · exact ⟨_, (by rfl), q _ _ _ G4 (.lst upd_same (A1.fresh hR) hl4 h4)⟩
    · exact ⟨_, (by rfl), R, ys, rfl, .inl ⟨SqL.of upd_same, fun p hp => q _ _ _ ((G4.trans (Go.new hp)).mono (by omega)) (.tup (.inl (.inl upd_same)) hl4 (h4.ko (A1.go G4 B) (KO.sm (Sm.new hp))))⟩⟩
  -- here
  refine run_next ?_
  dsimp only
  refine run_set ?_
  refine ⟨_, (by rfl), b, 8, _, rfl, B2, by unfold LIM; omega, by decide, by decide, fun lot H3 l0 l1 G3 => ?_⟩
  have e3 := G3.keep R _ np e2
  have B3 := G3.bag _ B2
  have G03 : Go b 2 H H3 := (G02.trans G3).mono (by omega)
  have h3 := (h2.ko A12 (KO.go G3 (.inl hb))).less
  have A3 := A1.go G03 B
  refine ⟨fun σ' H' => Go b 6 H H' ∧ ∃ a2 x6, σ' = [some (.ref b), some v, some (.int (j : Int)), some (.ref R), some (.int a2), some (.int lot), x6, none, none, none], ?_, fun σ' H4 hM => ?_⟩
  · -- a row
    refine run_ifE ⟨_, (by rfl), Nat.zero_le _, fun p hp => ⟨R, p, xs, rfl, rfl, SqL.of (Sm.new hp _ _ e3), SqL.of upd_same, _, rfl, ?_⟩⟩
    have G4 := Go.new (b := b) (o := .lst []) hp
    have e4 := Sm.new (o := .lst []) hp _ _ e3
    have B4 := G4.bag _ B3
    have G04 : Go b 2 H (upd H3 p (.lst [])) := (G03.trans G4).mono (by omega)
    have h4 := h3.ko A3 (KO.sm (Sm.new (o := .lst []) hp))
    have A4 := A3.sm (Sm.new (o := .lst []) hp)
    generalize upd H3 p (.lst []) = H4 at G4 e4 B4 G04 h4 A4
    refine ite2 (fun c1 => ?_) (fun c1 => ?_)
    · have hne : 0 < xs.length := by
        cases xs with
        | nil => cases c1
        | cons _ _ => exact Nat.succ_pos _
      refine run_set ⟨_, (by rfl), _, (by rfl), R, xs, rfl, .inl (SqL.of e4), _, _, rfl, rfl, show (0 : Int) < xs.length by omega, ?_⟩
      have ea : ((at_ : Int) % xs.length) = ((at_ % xs.length : Nat) : Int) := by omega
      dsimp only
      rw [ea]
      have hat : at_ % xs.length < xs.length := Nat.mod_lt _ hne
      generalize at_ % xs.length = a2 at hat
      have e1' : ((a2 : Int) + 1) = ((a2 + 1 : Nat) : Int) := by omega
      have hn1 : xs.length ≤ 43 := by omega
      have lt : LE K av n b R a2 xs (tSl (rSlL K) (tVar 3) tNoPart (tPart (tVar 4))) 0 a2 := LE.sl (lo := none) (hi := some (a2 : Int)) (fun σ H R' h q => ⟨_, h, _, rfl, q⟩) (by rw [cut_take, List.length_take]; omega)
      have ld : LE K av n b R a2 xs (tSl (rSlL K) (tVar 3) (tPart (tVar 4)) tNoPart) 0 (xs.length - a2) := LE.sl (lo := some (a2 : Int)) (hi := none) (fun σ H R' h q => ⟨_, h, _, rfl, q⟩) (by rw [cut_drop, List.length_drop]; exact Nat.le_refl _)
      have ld1 : LE K av n b R a2 xs (tSl (rSlL K) (tVar 3) (tPart (tOp (rI0 fun i j => V.int (i + j)) (tVar 4) (tC (V.int 1)))) tNoPart) 0 (xs.length - (a2 + 1)) := LE.sl (lo := some ((a2 : Int) + 1)) (hi := none) (fun σ H R' h q => ⟨_, h, _, _, rfl, rfl, _, rfl, q⟩) (by rw [e1', cut_drop, List.length_drop]; exact Nat.le_refl _)
      have lm : LE K av n b R a2 xs (tSl (rSlL K) (tVar 3) (tPart (tVar 4)) (tPart (tOp (rI0 fun i j => V.int (i + j)) (tVar 4) (tC (V.int 1))))) 0 1 := LE.sl (lo := some (a2 : Int)) (hi := some ((a2 : Int) + 1)) (fun σ H R' h q => ⟨_, h, _, rfl, _, h, _, _, rfl, rfl, _, rfl, q⟩) (cut_mid xs a2)
      have w1 := LEs.cons (le_mono (L' := xs.length + 1) (LE.cat lt ld1 (by omega)) (by omega)) (LEs.cons (le_mono (L' := xs.length + 1) (LE.cat (LE.cat lt lm (by omega)) ld (by omega)) (by omega)) (LEs.cons (LE.rev (L := xs.length + 1) (by omega)) LEs.nil))
      have w2 := LEs.cons (le_mono (L' := xs.length + 1) (LE.cat (LE.cat lt LE.odd (by omega)) ld (by omega)) (by omega)) (LEs.cons (le_mono (L' := xs.length + 1) (LE.cat (LE.cat lt LE.odd (by omega)) ld1 (by omega)) (by omega)) LEs.nil)
      refine run_set (lst_LEs w1 (m := m + 0 + 1 + 1 + 0) (by unfold LIM; omega) ⟨(by rfl), (by rfl), (by rfl), B4, e4, np, h4.allT, A4, hb⟩ (by decide) fun vs p1 H5 G5 hp1 e5 hl5 hv5 => ?_)
      have np1 : p1 ≠ b := B4.ne hp1
      have B5 := G5.bag _ B4
      have eR5 := G5.keep R _ np e4
      have h5 := h4.ko A4 (KO.go G5 hb)
      have A5 := A4.go G5 B4
      refine run_set (run_op ⟨_, (by rfl), ?_⟩)
      refine lst_LEs w2 (m := m + 0 + 1 + 1 + 0 + (0 + (0 + (0 + 0)))) (by unfold LIM; omega) ⟨(by rfl), (by rfl), (by rfl), B5.mono (by omega), eR5, np, h5.allT, A5, hb⟩ (by decide) fun ws p2 H6 G6 hp2 e6 hl6 hw6 => ?_
      have A6 := A5.go G6 B5
      have e56 := G6.keep p1 _ np1 e5
      have eR6 := G6.keep R _ np eR5
      refine ⟨p1, p2, vs, ws, rfl, rfl, e56, e6, small (by omega), fun p3 hp3 => ?_⟩
      have all5 : ∀ v ∈ vs ++ ws, IsLs K av n (xs.length + 1) (upd H6 p3 (.lst (vs ++ ws))) v := fun v hv => by
        rcases List.mem_append.mp hv with hv | hv
        · exact ((hv5 v hv).ko A5 (KO.go G6 hb)).ko A6 (KO.sm (Sm.new hp3))
        · exact (hw6 v hv).ko A6 (KO.sm (Sm.new hp3))
      have len5 : (vs ++ ws).length = 5 := by rw [List.length_append, hl5, hl6]
      have G07 : Go b 6 H (upd H6 p3 (.lst (vs ++ ws))) := (((G04.trans G5).trans G6).trans (Go.new hp3)).mono (by omega)
      have e7 : (upd H6 p3 (.lst (vs ++ ws))) p3 = some (.lst (vs ++ ws)) := upd_same
      have eR7 := Sm.new (o := .lst (vs ++ ws)) hp3 _ _ eR6
      have h7 := (h5.ko A5 (KO.go G6 hb)).ko A6 (KO.sm (Sm.new (o := .lst (vs ++ ws)) hp3))
      have A7 := A6.sm (Sm.new (o := .lst (vs ++ ws)) hp3)
      generalize upd H6 p3 (.lst (vs ++ ws)) = H7 at all5 G07 e7 eR7 h7 A7
      generalize vs ++ ws = us at all5 len5 e7
      have ht := (h.ko A1 (KO.go G07 hb)).tyx
      refine run_if ⟨_, (by rfl), _, _, rfl, rfl, _, rfl, ?_⟩
      refine ite2 (fun c2 => ?_) (fun c2 => ?_)
      · obtain ⟨kk, rfl⟩ : ∃ k : Nat, lot = (k : Int) := ⟨lot.toNat, by omega⟩
        have hk : kk < us.length := by
          have := of_decide_eq_true c2
          omega
        obtain ⟨p, ys, ev, g1, g2, g3, g4⟩ := all5 _ (List.getElem_mem hk)
        obtain ⟨es, g5⟩ := (g4.mono (n' := n + 1) (by omega)).all
        refine ⟨_, (by rfl), _, _, _, _, _, rfl, ClsV.ty "list", ht, kitL d, _, rfl, ?_⟩
        refine ite2 (fun c3 => ?_) (fun c3 => ?_)
        · refine ⟨_, (by rfl), _, (by rfl), p3, us, (kk : Int), us[kk], rfl, rfl, SqL.of e7, atI_nat (List.getElem?_eq_getElem hk), ?_⟩
          rw [ev]
          exact q _ _ _ (G07.mono (by omega)) (.lst g1 g2 (by omega) g5)
        · refine ⟨_, (by rfl), _, (by rfl), p3, us, (kk : Int), us[kk], rfl, rfl, SqL.of e7, atI_nat (List.getElem?_eq_getElem hk), ?_⟩
          rw [ev]
          exact ⟨p, ys, rfl, .inl ⟨SqL.of g1, fun p9 hp9 => q _ _ _ ((G07.trans (Go.new hp9)).mono (by omega)) (.tup (.inl (.inl upd_same)) (by omega) (g5.ko A7 (KO.sm (Sm.new hp9))))⟩⟩
      refine run_next ?_
      dsimp only
      refine run_ifE ?_
      refine ⟨_, (by rfl), rfl, _, rfl, ?_⟩
      refine ite2 (fun c3 => ?_) (fun c3 => ?_)
      · refine ⟨_, (by rfl), _, _, _, _, _, rfl, ClsV.ty "list", ht, kitL d, _, rfl, ?_⟩
        refine ite2 (fun c4 => ?_) (fun c4 => ?_)
        · exact ⟨_, (by rfl), R, xs, rfl, .inl ⟨SqL.of eR7, fun p9 hp9 => q _ _ _ ((G07.trans (Go.new hp9)).mono (by omega)) (.tup (.inl (.inl upd_same)) (by omega) ((h7.mono (n' := n + 1) (by omega)).ko A7 (KO.sm (Sm.new hp9))))⟩⟩
        · exact ⟨_, (by rfl), q _ _ _ (G07.mono (by omega)) (.lst eR7 (A1.fresh hR) (by omega) (h7.mono (by omega)))⟩
      · exact ⟨G07, (a2 : Int), _, rfl⟩
    · refine ⟨G04.mono (by omega), (at_ : Int), none, rfl⟩
  -- the rest
  obtain ⟨G04, a2, x6, rfl⟩ := hM
  have A4 := A1.go G04 B
  have h4 := h.ko A1 (KO.go G04 hb)
  have B4 := G04.bag _ B
  refine run_if (tst_and (p := d.isStr) (q := decide (lot < 7)) (fun R' h' => ⟨_, (by rfl), _, _, _, _, _, rfl, ClsV.ty "str", h4.tyx, kitS d, _, rfl, h'⟩) (fun _ R' h' => ⟨_, (by rfl), _, _, rfl, rfl, _, rfl, h'⟩) ?_)
  refine ite2 (fun c => ?_) (fun c => ?_)
  · -- a text
    rw [Bool.and_eq_true] at c
    obtain ⟨z, rfl, rfl, hl, ha⟩ := str_of h4 c.1
    have ez : z.length = (tl z).length := len_tl z
    have zl : z.length ≤ sizeLine := by rw [ez]; exact small (by omega)
    refine run_set ?_
    refine ⟨_, (by rfl), _, (by rfl), z, rfl, zl, _, _, rfl, rfl, b, _, _, rfl, B4, by unfold LIM; omega, by omega, by omega, fun r H5 r0 r1 G5 => ?_⟩
    obtain ⟨nth, rfl⟩ : ∃ k : Nat, r = (k : Int) := ⟨r.toNat, by omega⟩
    have B5 := G5.bag _ B4
    refine run_set ?_
    refine ⟨rfl, SIGNS, "\n\t", rfl, rfl, (by decide +kernel), ?_⟩
    have hEV : ∀ c ∈ tl (SIGNS ++ "\n\t"), c < 128 := by decide +kernel
    refine run_set (sign_drawn (i := 0) (j := 8) (by rfl) (by rfl) B5 (by unfold LIM; omega) (by decide +kernel) (by decide +kernel) fun sg H6 hc G6 => ?_)
    have hsg := hEV sg hc
    have G06 : Go b 8 H H6 := ((G04.trans G5).trans G6).mono (by omega)
    have lz : (tl z).length ≤ 403 := by omega
    have lsg : (tl (⟨#[sg]⟩ : Str)).length = 1 := rfl
    have asc : ∀ {x y : Str}, (∀ c ∈ tl x, c < 128) → (∀ c ∈ tl y, c < 128) → ∀ c ∈ tl (x ++ y), c < 128 := fun h1 h2 c hc => by
      rw [tl_append] at hc
      rcases List.mem_append.mp hc with hc | hc
      · exact h1 c hc
      · exact h2 c hc
    have asg : ∀ c ∈ tl (⟨#[sg]⟩ : Str), c < 128 := fun c hc => by
      rw [List.mem_singleton.mp (show c ∈ [sg] from hc)]
      exact hsg
    have ssz : ∀ {x y : Str} {p q : Nat}, (tl x).length ≤ p → (tl y).length ≤ q → p + q ≤ 100000 → x.length + y.length ≤ sizeLine := fun {x y p q} h1 h2 h3 => by
      rw [len_tl x, len_tl y]
      exact small (by omega)
    have lt1 : (tl (cutS z none (some (nth : Int)))).length ≤ 403 := by rw [tl_cut, List.length_take]; omega
    have at1 : ∀ c ∈ tl (cutS z none (some (nth : Int))), c < 128 := fun c hc => by rw [tl_cut] at hc; exact ha c (List.mem_of_mem_take hc)
    have ld1 : (tl (cutS z (some (nth : Int)) none)).length ≤ 403 := by rw [tl_cutd, List.length_drop]; omega
    have ad1 : ∀ c ∈ tl (cutS z (some (nth : Int)) none), c < 128 := fun c hc => by rw [tl_cutd] at hc; exact ha c (List.mem_of_mem_drop hc)
    have l40 : (tl (cutS z none (some (40 : Int)))).length ≤ 40 := by rw [show (40 : Int) = ((40 : Nat) : Int) from rfl, tl_cut, List.length_take]; omega
    have a40 : ∀ c ∈ tl (cutS z none (some (40 : Int))), c < 128 := fun c hc => by rw [show (40 : Int) = ((40 : Nat) : Int) from rfl, tl_cut] at hc; exact ha c (List.mem_of_mem_take hc)
    have lts : (tl (cutS z none (some (nth : Int)) ++ (⟨#[sg]⟩ : Str))).length ≤ 404 := by rw [tl_append, List.length_append]; omega
    refine run_set ?_
    refine ⟨_, (by rfl), _, (by rfl), z, _, rfl, rfl, ssz lz (Nat.le_of_eq lsg) (by decide), _, (by rfl), _, rfl, z, rfl, zl, _, (by rfl), ⟨_, rfl⟩, z, rfl, rfl, by rw [ez]; omega, _, (by rfl), small (by show 1 ≤ 100000; decide), fun L0 hL0 => ?_⟩
    refine ⟨_, (by rfl), _, (by rfl), _, rfl, z, rfl, zl, _, (by rfl), _, _, rfl, rfl, ssz lt1 (Nat.le_of_eq lsg) (by decide), _, (by rfl), _, (by rfl), _, rfl, z, rfl, zl, _, _, rfl, rfl, ssz lts ld1 (by decide), ?_⟩
    refine ⟨_, (by rfl), _, rfl, z, rfl, zl, _, 9, rfl, rfl, mul_ok (by decide) (by decide) (by rw [len_tl]; omega), small (by show 6 ≤ 100000; decide), fun L1 hL1 => ?_⟩
    have A6 := A1.go G06 B
    have S0 := Sm.new (o := .lst [V.str z]) hL0
    have S1' := Sm.new (o := .lst [V.str (z ++ (⟨#[sg]⟩ : Str)), V.str (cutS z (some 1) none), V.str (Txt.upper z), V.ref L0, V.str (cutS z none (some (nth : Int)) ++ (⟨#[sg]⟩ : Str) ++ cutS z (some (nth : Int)) none), V.str (Txt.mul (cutS z none (some 40)) 9)]) hL1
    have G07 : Go b 8 H _ := (G06.trans (Go.same (S0.trans S1'))).mono (by omega)
    have eL0 := S1' _ _ (upd_same (H := H6) (a := L0) (o := .lst [V.str z]))
    have nL0 := A6.fresh hL0
    have hu := tl_upper ha
    have lm : (tl (Txt.mul (cutS z none (some 40)) 9)).length ≤ 360 ∧ ∀ c ∈ tl (Txt.mul (cutS z none (some 40)) 9), c < 128 := by
      rw [show (9 : Int) = ((9 : Nat) : Int) from rfl, tl_mul]
      constructor
      · simp only [List.replicate, List.flatten_cons, List.flatten_nil, List.length_append, List.length_nil]
        omega
      · intro c hc
        obtain ⟨l, h1, h2⟩ := List.mem_flatten.mp hc
        rw [List.eq_of_mem_replicate h1] at h2
        exact a40 c h2
    have hl' : (tl z).length ≤ 400 + n := hl
    have all6 : AllT K av (n + 1) (upd (upd H6 L0 (.lst [V.str z])) L1 (.lst [V.str (z ++ (⟨#[sg]⟩ : Str)), V.str (cutS z (some 1) none), V.str (Txt.upper z), V.ref L0, V.str (cutS z none (some (nth : Int)) ++ (⟨#[sg]⟩ : Str) ++ cutS z (some (nth : Int)) none), V.str (Txt.mul (cutS z none (some 40)) 9)])) [V.str (z ++ (⟨#[sg]⟩ : Str)), V.str (cutS z (some 1) none), V.str (Txt.upper z), V.ref L0, V.str (cutS z none (some (nth : Int)) ++ (⟨#[sg]⟩ : Str) ++ cutS z (some (nth : Int)) none), V.str (Txt.mul (cutS z none (some 40)) 9)] := fun v hv => by
      simp only [List.mem_cons, List.not_mem_nil, or_false] at hv
      rcases hv with rfl | rfl | rfl | rfl | rfl | rfl
      · exact ⟨_, .str _ (by rw [tl_append, List.length_append]; omega) (asc ha asg)⟩
      · refine ⟨_, .str _ ?_ fun c hc => ?_⟩
        · rw [show (1 : Int) = ((1 : Nat) : Int) from rfl, tl_cutd, List.length_drop]; omega
        · rw [show (1 : Int) = ((1 : Nat) : Int) from rfl, tl_cutd] at hc
          exact ha c (List.mem_of_mem_drop hc)
      · exact ⟨_, .str _ (by rw [hu.1]; omega) hu.2⟩
      · exact ⟨_, .lst eL0 nL0 (by show 1 ≤ 40 + (n + 1); omega) (.cons (.str z (by omega) ha) .nil)⟩
      · refine ⟨_, .str _ ?_ (asc (asc at1 asg) ad1)⟩
        rw [tl_append, tl_append, List.length_append, List.length_append, tl_cut, tl_cutd, List.length_take, List.length_drop]
        omega
      · exact ⟨_, .str _ (by omega) lm.2⟩
    have A7 := (A6.sm S0).sm S1'
    have eL1 := (upd_same (H := upd H6 L0 (.lst [V.str z])) (a := L1) (o := .lst [V.str (z ++ (⟨#[sg]⟩ : Str)), V.str (cutS z (some 1) none), V.str (Txt.upper z), V.ref L0, V.str (cutS z none (some (nth : Int)) ++ (⟨#[sg]⟩ : Str) ++ cutS z (some (nth : Int)) none), V.str (Txt.mul (cutS z none (some 40)) 9)]))
    have len6 : ([V.str (z ++ (⟨#[sg]⟩ : Str)), V.str (cutS z (some 1) none), V.str (Txt.upper z), V.ref L0, V.str (cutS z none (some (nth : Int)) ++ (⟨#[sg]⟩ : Str) ++ cutS z (some (nth : Int)) none), V.str (Txt.mul (cutS z none (some 40)) 9)] : List V).length = 6 := rfl
    generalize [V.str (z ++ (⟨#[sg]⟩ : Str)), V.str (cutS z (some 1) none), V.str (Txt.upper z), V.ref L0, V.str (cutS z none (some (nth : Int)) ++ (⟨#[sg]⟩ : Str) ++ cutS z (some (nth : Int)) none), V.str (Txt.mul (cutS z none (some 40)) 9)] = us at len6 S1' G07 eL0 all6 A7 eL1 ⊢
    generalize upd (upd H6 L0 (.lst [V.str z])) L1 (.lst us) = H7 at S1' G07 eL0 all6 A7 eL1 ⊢
    have en1 : ((nth : Int) + 1) = ((nth + 1 : Nat) : Int) := by omega
    have ld2 : (tl (cutS z (some ((nth : Int) + 1)) none)).length ≤ 403 := by rw [en1, tl_cutd, List.length_drop]; omega
    have ad2 : ∀ c ∈ tl (cutS z (some ((nth : Int) + 1)) none), c < 128 := fun c hc => by rw [en1, tl_cutd] at hc; exact ha c (List.mem_of_mem_drop hc)
    refine run_ret ?_
    refine ⟨_, (by rfl), _, (by rfl), _, (by rfl), _, rfl, z, rfl, zl, _, (by rfl), _, _, rfl, rfl, ssz lt1 (Nat.le_of_eq lsg) (by decide), _, (by rfl), _, (by rfl), _, _, rfl, rfl, _, rfl, z, rfl, zl, _, _, rfl, rfl, ssz lts ld2 (by decide), small (by show 1 ≤ 100000; decide), fun p2 hp2 => ?_⟩
    refine ⟨L1, p2, us, _, rfl, rfl, Sm.new hp2 _ _ eL1, upd_same, (by rw [len6]; exact small (by show 6 + 1 ≤ 100000; decide)), fun p3 hp3 => ?_⟩
    have S8 := (Sm.new (o := .lst [V.str (cutS z none (some (nth : Int)) ++ (⟨#[sg]⟩ : Str) ++ cutS z (some ((nth : Int) + 1)) none)]) hp2).trans (Sm.new (o := .lst (us ++ [V.str (cutS z none (some (nth : Int)) ++ (⟨#[sg]⟩ : Str) ++ cutS z (some ((nth : Int) + 1)) none)])) hp3)
    have all7 := (all6.ko A7 (KO.sm S8)).append (ws := [V.str (cutS z none (some (nth : Int)) ++ (⟨#[sg]⟩ : Str) ++ cutS z (some ((nth : Int) + 1)) none)]) fun v hv => by
      rw [List.mem_singleton.mp hv]
      refine ⟨_, .str _ ?_ (asc (asc at1 asg) ad2)⟩
      rw [tl_append, tl_append, List.length_append, List.length_append, tl_cut, en1, tl_cutd, List.length_take, List.length_drop]
      omega
    have e8 := upd_same (H := upd H7 p2 (.lst [V.str (cutS z none (some (nth : Int)) ++ (⟨#[sg]⟩ : Str) ++ cutS z (some ((nth : Int) + 1)) none)])) (a := p3) (o := .lst (us ++ [V.str (cutS z none (some (nth : Int)) ++ (⟨#[sg]⟩ : Str) ++ cutS z (some ((nth : Int) + 1)) none)]))
    obtain ⟨kk, rfl⟩ : ∃ k : Nat, lot = (k : Int) := ⟨lot.toNat, by omega⟩
    have hk : kk < (us ++ [V.str (cutS z none (some (nth : Int)) ++ (⟨#[sg]⟩ : Str) ++ cutS z (some ((nth : Int) + 1)) none)]).length := by
      have := of_decide_eq_true c.2
      rw [List.length_append, len6]
      show kk < 6 + 1
      omega
    obtain ⟨d', hd'⟩ := all7 _ (List.getElem_mem hk)
    exact ⟨_, (by rfl), p3, _, (kk : Int), _, rfl, rfl, SqL.of e8, atI_nat (List.getElem?_eq_getElem hk), q _ d' _ ((G07.trans (Go.same S8)).mono (by omega)) hd'⟩
  · refine run_next ?_
    dsimp only
    refine run_if (tst_and (p := d.isInt) (q := (!d.isBl && decide (lot < 5))) (fun R' h' => ⟨_, (by rfl), _, _, _, _, _, rfl, ClsV.ty "int", h4.tyx, kitI d, _, rfl, h'⟩) (fun _ R' h' => tst_and (p := !d.isBl) (q := decide (lot < 5)) (fun R'' h'' => ⟨_, (by rfl), _, _, _, _, _, rfl, ClsV.ty "bool", h4.tyx, kitB' d, _, rfl, h''⟩) (fun _ R'' h'' => ⟨_, (by rfl), _, _, rfl, rfl, _, rfl, h''⟩) h') ?_)
    refine ite2 (fun c => ?_) (fun c => ?_)
    · rw [Bool.and_eq_true, Bool.and_eq_true] at c
      have hi : ∃ i : Int, v = .int i ∧ d = .int i ∧ i.natAbs ≤ 10 ^ 22 + n := by
        cases h with
        | int i hi => exact ⟨i, rfl, rfl, hi⟩
        | bl b => exact absurd c.2.1 (by simp [D.isBl])
        | _ => exact absurd c.1 (by simp [D.isInt])
      obtain ⟨i, rfl, rfl, hi⟩ := hi
      have hp : i.natAbs < 10 ^ 23 := by omega
      have li := WT.int (by decide) hp
      have ai : ∀ c ∈ tl (Str.ofString (toString i)), c < 128 := fun c hc => by
        have q := li.sg c hc
        unfold sgn at q
        rw [Bool.and_eq_true, Bool.and_eq_true] at q
        have := of_decide_eq_true q.2.1
        omega
      refine run_ret ?_
      refine ⟨_, (by rfl), _, _, rfl, rfl, _, (by rfl), _, _, rfl, rfl, _, (by rfl), i, rfl, log_lt hp, _, (by rfl), small (by show 1 ≤ 100000; decide), fun L0 hL0 => ?_⟩
      refine ⟨_, (by rfl), rfl, small (by show 5 ≤ 100000; decide), fun L1 hL1 => ?_⟩
      have S0 := Sm.new (o := .lst [V.int i]) hL0
      have S1' := Sm.new (o := .lst [V.int (i + 1), V.int (0 - i), V.str (Str.ofString (toString i)), V.ref L0, V.bl (decide (V.int i = V.int 1))]) hL1
      have eL0 := S1' _ _ (upd_same (H := H4) (a := L0) (o := .lst [V.int i]))
      have nL0 := A4.fresh hL0
      have G07 := G04.trans (Go.same (b := b) (S0.trans S1'))
      have all5 : AllT K av (n + 1) (upd (upd H4 L0 (.lst [V.int i])) L1 (.lst [V.int (i + 1), V.int (0 - i), V.str (Str.ofString (toString i)), V.ref L0, V.bl (decide (V.int i = V.int 1))])) [V.int (i + 1), V.int (0 - i), V.str (Str.ofString (toString i)), V.ref L0, V.bl (decide (V.int i = V.int 1))] := fun v hv => by
        simp only [List.mem_cons, List.not_mem_nil, or_false] at hv
        rcases hv with rfl | rfl | rfl | rfl | rfl
        · exact ⟨_, .int _ (by omega)⟩
        · exact ⟨_, .int _ (by omega)⟩
        · exact ⟨_, .str _ (Nat.le_trans li.len (by omega)) ai⟩
        · exact ⟨_, .lst eL0 nL0 (by show 1 ≤ 40 + (n + 1); omega) (.cons (.int i (by omega)) .nil)⟩
        · exact ⟨_, .bl _⟩
      obtain ⟨kk, rfl⟩ : ∃ k : Nat, lot = (k : Int) := ⟨lot.toNat, by omega⟩
      have hk : kk < ([V.int (i + 1), V.int (0 - i), V.str (Str.ofString (toString i)), V.ref L0, V.bl (decide (V.int i = V.int 1))] : List V).length := by
        have := of_decide_eq_true c.2.2
        show kk < 5
        omega
      obtain ⟨d', hd'⟩ := all5 _ (List.getElem_mem hk)
      exact ⟨_, (by rfl), L1, _, (kk : Int), _, rfl, rfl, SqL.of upd_same, atI_nat (List.getElem?_eq_getElem hk), q _ d' _ (G07.mono (by omega)) hd'⟩
    · refine run_next ?_
      dsimp only
      exact ⟨_, (by rfl), b, _, av, rfl, B4, by unfold LIM; omega, A4, hb, fun v' d' H' G' h' => q v' d' H' ((G04.trans G').mono (by omega)) (h'.mono (Nat.zero_le _))⟩
end
/-! ### texts, keys and references as things -/
theorem WT.asc {z : Str} {n : Nat} (h : WT z n) : ∀ c ∈ tl z, c < 128 := fun c hc => by
  have q := h.sg c hc
  unfold sgn at q
  rw [Bool.and_eq_true, Bool.and_eq_true] at q
  have := of_decide_eq_true q.2.1
  omega
theorem th_keys {K : PySem.W.Frag} {av : Addr → Prop} {n : Nat} {H : Hp} : ∀ {ks : List Str}, (∀ z ∈ ks, KEY z) → ThAll K av n H (ks.map V.str) (ks.map D.str)
  | [], _ => .nil
  | z :: r, h => .cons (.str z (by have := (h z List.mem_cons_self).wt.len; omega) (h z List.mem_cons_self).wt.asc) (th_keys fun y hy => h y (List.mem_cons_of_mem _ hy))
theorem th_ref {K : PySem.W.Frag} {av : Addr → Prop} {n : Nat} {H : Hp} {p : Addr} {nm : Str} {ks : List Str} (R : RefAt K H p nm ks) (O : REF nm ks) : Th K av n H (.ref p) (.tup [.str nm, .tup (ks.map D.str)]) := by
  obtain ⟨t, h1, h2⟩ := R.ex
  have hn : ∀ c ∈ tl nm, c < 128 := fun c hc => by
    have q := O.nm.sg c hc
    unfold AZ at q
    rw [Bool.and_eq_true] at q
    have := of_decide_eq_true q.2
    omega
  refine .tup h1 (by show 2 ≤ 40 + n; omega) (.cons (.str nm (by have := O.nm.len; omega) hn) (.cons (.tup h2 ?_ (th_keys O.ks)) .nil))
  rw [List.length_map]
  have := O.le
  omega
def spLaw (K : PySem.W.Frag) (cs : Tabs) : Sp := fun vs H Q _ => ∃ (a : Addr) (ns : List Int), vs = [.ref a] ∧ SqL K H a (ns.map V.int) ∧ ns.length ≤ 63 ∧ TGs H cs ∧ ∀ H', Q (.bl true) H'
section
variable {P : Program} {w : World} {K : PySem.W.Frag} {mg : Str → Option Value} {base : Heap} {cs : Tabs}
set_option maxHeartbeats 1000000 in
theorem ok_law (T : Txt K mg cs) (B : TBs base mg cs) {f : Addr} {fd : FuncData} (F : Fun K "law" "law" sLaw f fd) : FnOk P w K mg base CX0 8 f fd ["script"] (spLaw K cs) := by
  have C_law_cell_at := ok_law_cell_at (P := P) (w := w) (base := base) T
  have C_law_bag := ok_law_bag (P := P) (w := w) (base := base) T
  have C_law_draw := ok_law_draw (P := P) (w := w) (base := base) T
  have C_law_signs := ok_law_signs (P := P) (w := w) (base := base) T
  have C_law_text := ok_law_text T C_law_draw C_law_signs
  have C_law_name := ok_law_name T C_law_draw
  have C_law_key := ok_law_key T C_law_draw C_law_text
  have C_law_ref := ok_law_ref T C_law_draw C_law_name C_law_key
  have Cis_worth := ok_is_worth (P := P) (w := w) T B
  have Cis_key := ok_is_key T Cis_worth
  have Cis_name := ok_is_name (P := P) (w := w) T B
  have Cis_row := ok_is_row T B Cis_key
  have Cis_pair := ok_is_pair (P := P) (w := w) (base := base) T
  have Cis_reference := ok_is_reference T Cis_pair Cis_name Cis_row
  have C_law_is_worth := ok_law_is_worth T C_law_signs
  have C_law_is_key := ok_law_is_key T C_law_is_worth
  have C_law_is_name := ok_law_is_name (P := P) (w := w) (base := base) T
  have C_law_is_reference := ok_law_is_reference T C_law_is_name C_law_is_key
  have C_law_right := ok_law_right T C_law_is_worth C_law_is_key C_law_is_reference Cis_worth Cis_key Cis_reference
  have C_law_odd := ok_law_odd T C_law_draw
  have CF : Cal P w K mg base 2 "_law_turned" ["bag", "thing", "deep"] (spTU K 0) := T.f_law_turned.cal scLawTurned (fun vs H Q E h => by obtain ⟨j, hj, _⟩ := h; omega) (fun f cdv A outer s H vs Q E hr h => by obtain ⟨j, hj, _⟩ := h; omega)
  have CT1 := ok_law_turned (k := 0) T C_law_draw C_law_signs C_law_odd CF 1 (fun j' e => by omega)
  have CT2 := ok_law_turned (k := 1) T C_law_draw C_law_signs C_law_odd CT1 2 (fun j' e vs H Q E h => ⟨j', by omega, h⟩)
  have C_law_turned := ok_law_turned (k := 2) T C_law_draw C_law_signs C_law_odd CT2 3 (fun j' e vs H Q E h => ⟨j', by omega, h⟩)
  refine F.ok scLaw (fun vs H Q E h => ?_) (fun cdv A outer s H vs Q E hr h => ?_)
  · obtain ⟨a, ns, rfl, _⟩ := h
    rfl
  obtain ⟨a, ns, rfl, hS, h63, hT, q⟩ := h
  refine ⟨_, (pss_cons (ps_for PassesOwn.never rfl (pi_range1 rfl T.n_range (pa_cons (pe_callB (call_max2 rfl) rfl T.n_max (by decide +kernel) (pa_cons pe_int (pa_cons (pe_callB (call_min2 rfl) rfl T.n_min (by decide +kernel) (pa_cons pe_int (pa_cons (pe_callB (lenQ K) rfl T.n_len (by decide +kernel) (pa_cons (pv 0) pa_nil)) pa_nil))) pa_nil))) pa_nil)) (pg_name (i := 1) scLaw.nd rfl (by first | exact Or.inl rfl | exact Or.inr rfl))
      (pss_cons (ps_set (i := 2) scLaw.nd rfl (by first | exact Or.inl rfl | exact Or.inr rfl) (pe_cal C_law_bag (hr.mono (by first | decide | omega)) (pa_cons (pe_cal C_law_cell_at (hr.mono (by first | decide | omega)) (pa_cons (pv 0) (pa_cons (pv 1) pa_nil))) (pa_cons (pv 1) pa_nil))))
        (pss_cons (ps_set (i := 3) scLaw.nd rfl (by first | exact Or.inl rfl | exact Or.inr rfl) (pe_ix (ixL K) (pe_lst (pa_cons (pe_cal C_law_text (hr.mono (by first | decide | omega)) (pa_cons (pv 2) (pa_cons pe_int pa_nil))) (pa_cons (pe_cal C_law_key (hr.mono (by first | decide | omega)) (pa_cons (pv 2) pa_nil)) (pa_cons (pe_cal C_law_ref (hr.mono (by first | decide | omega)) (pa_cons (pv 2) pa_nil)) (pa_cons (pe_cal C_law_ref (hr.mono (by first | decide | omega)) (pa_cons (pv 2) pa_nil)) pa_nil))))) (pe_cal C_law_draw (hr.mono (by first | decide | omega)) (pa_cons (pv 2) (pa_cons pe_int pa_nil))) (fun _ _ => rfl)))
        (pss_cons (ps_for PassesOwn.never rfl (pi_range1 rfl T.n_range (pa_cons (pe_cal C_law_draw (hr.mono (by first | decide | omega)) (pa_cons (pv 2) (pa_cons pe_int pa_nil))) pa_nil)) (pg_name (i := 4) scLaw.nd rfl (by first | exact Or.inl rfl | exact Or.inr rfl))
          (pss_cons (ps_if (pt_not (pt_val (pe_cal C_law_right (hr.mono (by first | decide | omega)) (pa_cons (pv 3) pa_nil)))) (pss_one (ps_ret pe_bl)) pss_nil)
            (pss_one (ps_set (i := 3) scLaw.nd rfl (by first | exact Or.inl rfl | exact Or.inr rfl) (pe_cal C_law_turned (hr.mono (by first | decide | omega)) (pa_cons (pv 2) (pa_cons (pv 3) (pa_cons (pe_cal C_law_draw (hr.mono (by first | decide | omega)) (pa_cons (pv 2) (pa_cons pe_int pa_nil))) pa_nil))))))))
        (pss_one (ps_if (PW.pt (pw_or (pt_not (pt_val (pe_cal C_law_right (hr.mono (by first | decide | omega)) (pa_cons (pv 3) pa_nil)))) (pw_or1 (pt_not (pt_val (pe_cal C_law_right (hr.mono (by first | decide | omega)) (pa_cons (pe_cal C_law_odd (hr.mono (by first | decide | omega)) (pa_cons (pv 2) pa_nil)) pa_nil))))))) (pss_one (ps_ret pe_bl)) pss_nil))))))
    (pss_one (ps_ret pe_bl))), ?_⟩
  have hlm : (ns.map V.int).length = ns.length := List.length_map _
  refine for_rng (i := 1) (n := (max 1 (min 20 ns.length))) (fun _ σ H' => Sm H H' ∧ ∃ x1 x2 x3 x4, σ = [some (.ref a), x1, x2, x3, x4]) (fun R h => ?_) (by omega) (fun H1 S => ⟨S, _, _, _, _, rfl⟩) (fun j σ H1 hj hp => ?_) fun σ H1 hp => q H1
  · refine ⟨_, rfl, a, _, rfl, .inl hS, 20, _, rfl, 1, _, rfl, ?_⟩
    have e : (if (if ((ns.map V.int).length : Int) < 20 then ((ns.map V.int).length : Int) else 20) > 1 then (if ((ns.map V.int).length : Int) < 20 then ((ns.map V.int).length : Int) else 20) else (1 : Int)) = ((max 1 (min 20 ns.length) : Nat) : Int) := by
      rw [hlm]
      split <;> split at * <;> omega
    rw [e]
    exact h H (Sm.refl H)
  obtain ⟨S1, x1, x2, x3, x4, rfl⟩ := hp
  have hj16 : j ≤ 20 := by omega
  have z : ((0 : Int) + (j : Int)) = (j : Int) := by omega
  rw [z]
  -- bag
  refine run_set ?_
  refine ⟨_, rfl, _, rfl, a, ns, j, rfl, Sm.seq S1 hS, fun c => ⟨_, rfl, c, j, rfl, by omega, fun b H2 hb S2 Bg => ?_⟩⟩
  have hb0 : H b = none := S1.free hb
  have S02 := S1.trans S2
  have A2 : AvL (fun x => x = b) H2 := fun x hx => by
    obtain ⟨xs, e⟩ := Bg.some
    exact ⟨xs, by rw [hx]; exact e⟩
  -- thing
  refine run_set ?_
  refine ⟨_, (by rfl), b, 200, 0, rfl, Bg, by unfold LIM; omega, by decide, fun t1 H3 W1 G3 => ?_⟩
  have B3 := G3.bag _ Bg
  refine ⟨_, (by rfl), b, _, rfl, B3, by unfold LIM; omega, fun t2 H4 W2 G4 => ?_⟩
  have B4 := G4.bag _ B3
  refine ⟨_, (by rfl), b, _, rfl, B4, by unfold LIM; omega, fun p1 n1 k1 H5 O1 R1 G5 => ?_⟩
  have B5 := G5.bag _ B4
  refine ⟨_, (by rfl), b, _, rfl, B5, by unfold LIM; omega, fun p2 n2 k2 H6 O2 R2 G6 => ?_⟩
  have B6 := G6.bag _ B5
  refine ⟨small (by show 4 ≤ 100000; decide), fun L hL => ?_⟩
  have B7 := (Go.new (o := .lst [V.str t1, .str t2, .ref p1, .ref p2]) hL).bag _ B6
  have nL := B6.ne hL
  have S6 : Sm H H6 := Sm.go (Sm.go (Sm.go (Sm.go S02 G3 hb0) G4 hb0) G5 hb0) G6 hb0
  have S7 := S6.trans (Sm.new (o := .lst [V.str t1, .str t2, .ref p1, .ref p2]) hL)
  have A7 := ((((A2.go G3 Bg).go G4 B3).go G5 B4).go G6 B5).sm (Sm.new (o := .lst [V.str t1, .str t2, .ref p1, .ref p2]) hL)
  refine ⟨_, (by rfl), b, 4, _, rfl, B7, by unfold LIM; omega, by decide, by decide, fun r H8 r0 r1 G8 => ?_⟩
  have B8 := G8.bag _ B7
  have A8 := A7.go G8 B7
  have S8 := Sm.go S7 G8 hb0
  have all4 : AllT K (fun x => x = b) 0 H8 [V.str t1, .str t2, .ref p1, .ref p2] := fun v hv => by
    simp only [List.mem_cons, List.not_mem_nil, or_false] at hv
    rcases hv with rfl | rfl | rfl | rfl
    · exact ⟨_, .str t1 (by have := W1.len; omega) W1.asc⟩
    · exact ⟨_, .str t2 (by have := W2.wt.len; omega) W2.wt.asc⟩
    · exact ⟨_, th_ref (((R1.go G6 B5).same (Sm.new hL)).go G8 B7) O1⟩
    · exact ⟨_, th_ref ((R2.same (Sm.new hL)).go G8 B7) O2⟩
  obtain ⟨kk, rfl⟩ : ∃ k : Nat, r = (k : Int) := ⟨r.toNat, by omega⟩
  have hk : kk < ([V.str t1, .str t2, .ref p1, .ref p2] : List V).length := by show kk < 4; omega
  obtain ⟨d0, hd0⟩ := all4 _ (List.getElem_mem hk)
  refine ⟨L, _, (kk : Int), _, rfl, rfl, SqL.of (G8.keep L _ nL upd_same), atI_nat (List.getElem?_eq_getElem hk), ?_⟩
  generalize ([V.str t1, .str t2, .ref p1, .ref p2] : List V)[kk] = v0 at hd0
  -- turns
  dsimp only
  refine run_for ?_
  refine ⟨_, (by rfl), b, 4, _, rfl, B8, by unfold LIM; omega, by decide, by decide, fun r2 H9 r20 r21 G9 => ?_⟩
  have B9 := G9.bag _ B8
  have A9 := A8.go G9 B8
  have S9 := Sm.go S8 G9 hb0
  obtain ⟨cnt, rfl⟩ : ∃ k : Nat, r2 = (k : Int) := ⟨r2.toNat, by omega⟩
  refine ⟨(cnt : Int), rfl, by omega, by omega, ?_⟩
  refine for_range (lo := 0) (n := cnt) (fun i σ H' => ∃ v d x4', σ = [some (.ref a), some (.int (j : Int)), some (.ref b), some v, x4'] ∧ Sm H H' ∧ AvL (fun x => x = b) H' ∧ Bag H' b (20000 + 100 * i) ∧ Th K (fun x => x = b) i H' v d)
    ⟨v0, d0, x4, rfl, S9, A9, B9.mono (by omega), hd0.ko A8 (KO.go G9 rfl)⟩ (fun i σ Ha hi hp => ?_) (fun σ Ha hp => ?_)
  · obtain ⟨v, d, x4', rfl, Sa, Aa, Ba, hd⟩ := hp
    refine run_if ?_
    refine ⟨_, (by rfl), v, d, i, _, rfl, hd, Aa, by omega, hT.sm Sa, fun Hb Sb => ⟨_, rfl, ?_⟩⟩
    refine iteF ?_
    refine run_next ?_
    dsimp only
    have Bb := (Go.same (b := b) Sb).bag _ Ba
    have Ab := Aa.sm Sb
    have hdb := hd.ko Aa (KO.sm Sb)
    refine ⟨_, (by rfl), _, (by rfl), _, (by rfl), b, 3, _, rfl, Bb, by unfold LIM; omega, by decide, by decide, fun r3 Hc r30 r31 Gc => ?_⟩
    obtain ⟨j3, rfl⟩ : ∃ k : Nat, r3 = (k : Int) := ⟨r3.toNat, by omega⟩
    have Bc := Gc.bag _ Bb
    refine ⟨j3, by omega, b, _, v, d, i, _, rfl, Bc, ?_, Ab.go Gc Bb, rfl, hdb.ko Ab (KO.go Gc rfl), by omega, by omega, fun v' d' Hd Gd hv' => ?_⟩
    · have : 1000 * (j3 + 1) ≤ 3000 := Nat.le_trans (Nat.mul_le_mul_left 1000 (show j3 + 1 ≤ 3 by omega)) (by decide)
      unfold LIM
      omega
    · refine ⟨v', d', _, rfl, Sm.go (Sm.go (Sa.trans Sb) Gc hb0) Gd hb0, (Ab.go Gc Bb).go Gd Bc, (Gd.bag _ Bc).mono ?_, hv'⟩
      have : 10 * (j3 + 1) ≤ 30 := Nat.le_trans (Nat.mul_le_mul_left 10 (show j3 + 1 ≤ 3 by omega)) (by decide)
      omega
  obtain ⟨v, d, x4', rfl, Sa, Aa, Ba, hd⟩ := hp
  dsimp only
  refine run_ifE ?_
  refine ⟨_, (by rfl), v, d, cnt, _, rfl, hd, Aa, by omega, hT.sm Sa, fun Hb Sb => ⟨_, rfl, ?_⟩⟩
  refine iteF ?_
  have Bb := (Go.same (b := b) Sb).bag _ Ba
  have Ab := Aa.sm Sb
  refine ⟨_, (by rfl), b, _, _, rfl, Bb, by unfold LIM; omega, Ab, rfl, fun v' d' Hc Gc hv' => ?_⟩
  have Sc := Sm.go (Sa.trans Sb) Gc hb0
  refine ⟨v', d', 0, _, rfl, hv', Ab.go Gc Bb, by omega, hT.sm Sc, fun Hd Sd => ⟨_, rfl, ?_⟩⟩
  refine iteF ?_
  exact ⟨Sc.trans Sd, _, _, _, _, rfl⟩
end
set_option maxHeartbeats 0 in
theorem all_mk {l : PySem.W.OpenLaw} {q : Program} {w : World} {K : PySem.W.Frag} {h : Heap} {mg : Str → Option Value} {fa f1 f2 f3 f4 f5 f6 f7 f8 f9 f10 f11 f12 f13 f14 f15 f16 f17 f18 f19 f20 f21 f22 : Addr} (X : K.In h) (G : h.Ns mainGlobals mg) (hfa : mg "law" = some (.ref fa)) (OT : OwnTabs q K mg h)
    {od1 od2 od3 od4 od5 od6 od7 od8 od9 od10 od11 od12 od13 od14 od15 od16 od17 od18 od19 od20 od21 od22 an1 an2 an3 an4 an5 an6 an7 an8 an9 an10 an11 an12 an13 an14 an15 an16 an17 an18 an19 an20 an21 an22 : Option Addr} {sl1 sl2 sl3 sl4 sl5 sl6 sl7 sl8 sl9 sl10 sl11 sl12 sl13 sl14 sl15 sl16 sl17 sl18 sl19 sl20 sl21 sl22 : Array (Option Value)} {oc1 oc2 oc3 oc4 oc5 oc6 oc7 oc8 oc9 oc10 oc11 oc12 oc13 oc14 oc15 oc16 oc17 oc18 oc19 oc20 oc21 oc22 kV1 kV2 kV3 kV4 kV5 kV6 kV7 kV8 kV9 kV10 kV11 kV12 kV13 kV14 kV15 kV16 kV17 kV18 kV19 kV20 kV21 kV22 dc1 dc2 dc3 dc4 dc5 dc6 dc7 dc8 dc9 dc10 dc11 dc12 dc13 dc14 dc15 dc16 dc17 dc18 dc19 dc20 dc21 dc22 pm1 pm2 pm3 pm4 pm5 pm6 pm7 pm8 pm9 pm10 pm11 pm12 pm13 pm14 pm15 pm16 pm17 pm18 pm19 pm20 pm21 pm22 ct1 ct2 ct3 ct4 ct5 ct6 ct7 ct8 ct9 ct10 ct11 ct12 ct13 ct14 ct15 ct16 ct17 ct18 ct19 ct20 ct21 ct22 : Value}
    {cd2 cd5 cd6 cd7 cd8 cd9 cd10 cd11 cd12 cd13 cd14 cd15 cd16 cd17 cd18 cd19 cd20 cd21 cd22 : Value}
    {c1 c3 c4 p1 p3 p4 : Addr} {vs1 vs3 vs4 : Array Value} {dd1 dd3 dd4 : Option Addr} {cl1 cl3 cl4 : Array (Option Value)}
    (a1 : PySem.W.nsIn K mainGlobals "is_worth" = some (some (.ref f1)))
    (l1 : K.lookup f1 = some ⟨oc1, od1, .func (PySem.W.fnOf "is_worth" "is_worth" (defArgs sIsWorth) (defBody sIsWorth) (defScope sIsWorth) .none kV1 dc1 pm1 an1 (.ref c1) ct1), sl1⟩) (e1 : PySem.W.codeIn K (.ref c1) "is_worth" = true) (k1 : PySem.W.keepIn K (.ref f1) = true)
    (m1 : K.lookup c1 = some ⟨.type "code", dd1, .fields vs1, cl1⟩) (u1 : (vs1[11]? : Option Value) = some (.ref p1)) (o1 : hdOk vs1 c1 p1 = true) (n1 : K.lookup p1 = none) (r1 : ((PyProof.Rows.recsOf q).any fun e => e.name == ("is_worth" : Str)) = true)
    (a2 : PySem.W.nsIn K mainGlobals "is_key" = some (some (.ref f2)))
    (l2 : K.lookup f2 = some ⟨oc2, od2, .func (PySem.W.fnOf "is_key" "is_key" (defArgs sIsKey) (defBody sIsKey) (defScope sIsKey) .none kV2 dc2 pm2 an2 cd2 ct2), sl2⟩) (e2 : PySem.W.codeIn K cd2 "is_key" = true) (k2 : PySem.W.keepIn K (.ref f2) = true)
    (a3 : PySem.W.nsIn K mainGlobals "is_name" = some (some (.ref f3)))
    (l3 : K.lookup f3 = some ⟨oc3, od3, .func (PySem.W.fnOf "is_name" "is_name" (defArgs sIsName) (defBody sIsName) (defScope sIsName) .none kV3 dc3 pm3 an3 (.ref c3) ct3), sl3⟩) (e3 : PySem.W.codeIn K (.ref c3) "is_name" = true) (k3 : PySem.W.keepIn K (.ref f3) = true)
    (m3 : K.lookup c3 = some ⟨.type "code", dd3, .fields vs3, cl3⟩) (u3 : (vs3[11]? : Option Value) = some (.ref p3)) (o3 : hdOk vs3 c3 p3 = true) (n3 : K.lookup p3 = none) (r3 : ((PyProof.Rows.recsOf q).any fun e => e.name == ("is_name" : Str)) = true)
    (a4 : PySem.W.nsIn K mainGlobals "is_row" = some (some (.ref f4)))
    (l4 : K.lookup f4 = some ⟨oc4, od4, .func (PySem.W.fnOf "is_row" "is_row" (defArgs sIsRow) (defBody sIsRow) (defScope sIsRow) .none kV4 dc4 pm4 an4 (.ref c4) ct4), sl4⟩) (e4 : PySem.W.codeIn K (.ref c4) "is_row" = true) (k4 : PySem.W.keepIn K (.ref f4) = true)
    (m4 : K.lookup c4 = some ⟨.type "code", dd4, .fields vs4, cl4⟩) (u4 : (vs4[11]? : Option Value) = some (.ref p4)) (o4 : hdOk vs4 c4 p4 = true) (n4 : K.lookup p4 = none) (r4 : ((PyProof.Rows.recsOf q).any fun e => e.name == ("is_row" : Str)) = true)
    (a5 : PySem.W.nsIn K mainGlobals "is_pair" = some (some (.ref f5)))
    (l5 : K.lookup f5 = some ⟨oc5, od5, .func (PySem.W.fnOf "is_pair" "is_pair" (defArgs sIsPair) (defBody sIsPair) (defScope sIsPair) .none kV5 dc5 pm5 an5 cd5 ct5), sl5⟩) (e5 : PySem.W.codeIn K cd5 "is_pair" = true) (k5 : PySem.W.keepIn K (.ref f5) = true)
    (a6 : PySem.W.nsIn K mainGlobals "is_reference" = some (some (.ref f6)))
    (l6 : K.lookup f6 = some ⟨oc6, od6, .func (PySem.W.fnOf "is_reference" "is_reference" (defArgs sIsReference) (defBody sIsReference) (defScope sIsReference) .none kV6 dc6 pm6 an6 cd6 ct6), sl6⟩) (e6 : PySem.W.codeIn K cd6 "is_reference" = true) (k6 : PySem.W.keepIn K (.ref f6) = true)
    (a7 : PySem.W.nsIn K mainGlobals "_law_cell_at" = some (some (.ref f7)))
    (l7 : K.lookup f7 = some ⟨oc7, od7, .func (PySem.W.fnOf "_law_cell_at" "_law_cell_at" (defArgs sLawCellAt) (defBody sLawCellAt) (defScope sLawCellAt) .none kV7 dc7 pm7 an7 cd7 ct7), sl7⟩) (e7 : PySem.W.codeIn K cd7 "_law_cell_at" = true) (k7 : PySem.W.keepIn K (.ref f7) = true)
    (a8 : PySem.W.nsIn K mainGlobals "_law_bag" = some (some (.ref f8)))
    (l8 : K.lookup f8 = some ⟨oc8, od8, .func (PySem.W.fnOf "_law_bag" "_law_bag" (defArgs sLawBag) (defBody sLawBag) (defScope sLawBag) .none kV8 dc8 pm8 an8 cd8 ct8), sl8⟩) (e8 : PySem.W.codeIn K cd8 "_law_bag" = true) (k8 : PySem.W.keepIn K (.ref f8) = true)
    (a9 : PySem.W.nsIn K mainGlobals "_law_draw" = some (some (.ref f9)))
    (l9 : K.lookup f9 = some ⟨oc9, od9, .func (PySem.W.fnOf "_law_draw" "_law_draw" (defArgs sLawDraw) (defBody sLawDraw) (defScope sLawDraw) .none kV9 dc9 pm9 an9 cd9 ct9), sl9⟩) (e9 : PySem.W.codeIn K cd9 "_law_draw" = true) (k9 : PySem.W.keepIn K (.ref f9) = true)
    (a10 : PySem.W.nsIn K mainGlobals "_law_signs" = some (some (.ref f10)))
    (l10 : K.lookup f10 = some ⟨oc10, od10, .func (PySem.W.fnOf "_law_signs" "_law_signs" (defArgs sLawSigns) (defBody sLawSigns) (defScope sLawSigns) .none kV10 dc10 pm10 an10 cd10 ct10), sl10⟩) (e10 : PySem.W.codeIn K cd10 "_law_signs" = true) (k10 : PySem.W.keepIn K (.ref f10) = true)
    (a11 : PySem.W.nsIn K mainGlobals "_law_text" = some (some (.ref f11)))
    (l11 : K.lookup f11 = some ⟨oc11, od11, .func (PySem.W.fnOf "_law_text" "_law_text" (defArgs sLawText) (defBody sLawText) (defScope sLawText) .none kV11 dc11 pm11 an11 cd11 ct11), sl11⟩) (e11 : PySem.W.codeIn K cd11 "_law_text" = true) (k11 : PySem.W.keepIn K (.ref f11) = true)
    (a12 : PySem.W.nsIn K mainGlobals "_law_name" = some (some (.ref f12)))
    (l12 : K.lookup f12 = some ⟨oc12, od12, .func (PySem.W.fnOf "_law_name" "_law_name" (defArgs sLawName) (defBody sLawName) (defScope sLawName) .none kV12 dc12 pm12 an12 cd12 ct12), sl12⟩) (e12 : PySem.W.codeIn K cd12 "_law_name" = true) (k12 : PySem.W.keepIn K (.ref f12) = true)
    (a13 : PySem.W.nsIn K mainGlobals "_law_key" = some (some (.ref f13)))
    (l13 : K.lookup f13 = some ⟨oc13, od13, .func (PySem.W.fnOf "_law_key" "_law_key" (defArgs sLawKey) (defBody sLawKey) (defScope sLawKey) .none kV13 dc13 pm13 an13 cd13 ct13), sl13⟩) (e13 : PySem.W.codeIn K cd13 "_law_key" = true) (k13 : PySem.W.keepIn K (.ref f13) = true)
    (a14 : PySem.W.nsIn K mainGlobals "_law_ref" = some (some (.ref f14)))
    (l14 : K.lookup f14 = some ⟨oc14, od14, .func (PySem.W.fnOf "_law_ref" "_law_ref" (defArgs sLawRef) (defBody sLawRef) (defScope sLawRef) .none kV14 dc14 pm14 an14 cd14 ct14), sl14⟩) (e14 : PySem.W.codeIn K cd14 "_law_ref" = true) (k14 : PySem.W.keepIn K (.ref f14) = true)
    (a15 : PySem.W.nsIn K mainGlobals "_law_odd" = some (some (.ref f15)))
    (l15 : K.lookup f15 = some ⟨oc15, od15, .func (PySem.W.fnOf "_law_odd" "_law_odd" (defArgs sLawOdd) (defBody sLawOdd) (defScope sLawOdd) .none kV15 dc15 pm15 an15 cd15 ct15), sl15⟩) (e15 : PySem.W.codeIn K cd15 "_law_odd" = true) (k15 : PySem.W.keepIn K (.ref f15) = true)
    (a16 : PySem.W.nsIn K mainGlobals "_law_turned" = some (some (.ref f16)))
    (l16 : K.lookup f16 = some ⟨oc16, od16, .func (PySem.W.fnOf "_law_turned" "_law_turned" (defArgs sLawTurned) (defBody sLawTurned) (defScope sLawTurned) .none kV16 dc16 pm16 an16 cd16 ct16), sl16⟩) (e16 : PySem.W.codeIn K cd16 "_law_turned" = true) (k16 : PySem.W.keepIn K (.ref f16) = true)
    (a17 : PySem.W.nsIn K mainGlobals "_law_is_worth" = some (some (.ref f17)))
    (l17 : K.lookup f17 = some ⟨oc17, od17, .func (PySem.W.fnOf "_law_is_worth" "_law_is_worth" (defArgs sLawIsWorth) (defBody sLawIsWorth) (defScope sLawIsWorth) .none kV17 dc17 pm17 an17 cd17 ct17), sl17⟩) (e17 : PySem.W.codeIn K cd17 "_law_is_worth" = true) (k17 : PySem.W.keepIn K (.ref f17) = true)
    (a18 : PySem.W.nsIn K mainGlobals "_law_is_key" = some (some (.ref f18)))
    (l18 : K.lookup f18 = some ⟨oc18, od18, .func (PySem.W.fnOf "_law_is_key" "_law_is_key" (defArgs sLawIsKey) (defBody sLawIsKey) (defScope sLawIsKey) .none kV18 dc18 pm18 an18 cd18 ct18), sl18⟩) (e18 : PySem.W.codeIn K cd18 "_law_is_key" = true) (k18 : PySem.W.keepIn K (.ref f18) = true)
    (a19 : PySem.W.nsIn K mainGlobals "_law_is_name" = some (some (.ref f19)))
    (l19 : K.lookup f19 = some ⟨oc19, od19, .func (PySem.W.fnOf "_law_is_name" "_law_is_name" (defArgs sLawIsName) (defBody sLawIsName) (defScope sLawIsName) .none kV19 dc19 pm19 an19 cd19 ct19), sl19⟩) (e19 : PySem.W.codeIn K cd19 "_law_is_name" = true) (k19 : PySem.W.keepIn K (.ref f19) = true)
    (a20 : PySem.W.nsIn K mainGlobals "_law_is_reference" = some (some (.ref f20)))
    (l20 : K.lookup f20 = some ⟨oc20, od20, .func (PySem.W.fnOf "_law_is_reference" "_law_is_reference" (defArgs sLawIsReference) (defBody sLawIsReference) (defScope sLawIsReference) .none kV20 dc20 pm20 an20 cd20 ct20), sl20⟩) (e20 : PySem.W.codeIn K cd20 "_law_is_reference" = true) (k20 : PySem.W.keepIn K (.ref f20) = true)
    (a21 : PySem.W.nsIn K mainGlobals "_law_right" = some (some (.ref f21)))
    (l21 : K.lookup f21 = some ⟨oc21, od21, .func (PySem.W.fnOf "_law_right" "_law_right" (defArgs sLawRight) (defBody sLawRight) (defScope sLawRight) .none kV21 dc21 pm21 an21 cd21 ct21), sl21⟩) (e21 : PySem.W.codeIn K cd21 "_law_right" = true) (k21 : PySem.W.keepIn K (.ref f21) = true)
    (a22 : PySem.W.nsIn K mainGlobals "law" = some (some (.ref f22)))
    (l22 : K.lookup f22 = some ⟨oc22, od22, .func (PySem.W.fnOf "law" "law" (defArgs sLaw) (defBody sLaw) (defScope sLaw) .none kV22 dc22 pm22 an22 cd22 ct22), sl22⟩) (e22 : PySem.W.codeIn K cd22 "law" = true) (k22 : PySem.W.keepIn K (.ref f22) = true)
    (z1 : PySem.W.nsIn K mainGlobals "all" = some none) (z2 : PySem.W.nsIn K mainGlobals "range" = some none) (z3 : PySem.W.nsIn K mainGlobals "isinstance" = some none) (z4 : PySem.W.nsIn K mainGlobals "str" = some none) (z5 : PySem.W.nsIn K mainGlobals "tuple" = some none) (z6 : PySem.W.nsIn K mainGlobals "len" = some none) (z7 : PySem.W.nsIn K mainGlobals "max" = some none) (z8 : PySem.W.nsIn K mainGlobals "list" = some none) (z9 : PySem.W.nsIn K mainGlobals "int" = some none) (z10 : PySem.W.nsIn K mainGlobals "bool" = some none) (z11 : PySem.W.nsIn K mainGlobals "min" = some none) (z12 : PySem.W.nsIn K mainGlobals "ord" = some none)
    {y1 y2 y3 y4 : Value}
    (x1 : PySem.W.nsIn K mainGlobals "_PERCENT" = some (some y1)) (w1 : RelV (.int 37) y1) (x2 : PySem.W.nsIn K mainGlobals "_LONGEST_KEY" = some (some y2)) (w2 : RelV (.int 40) y2) (x3 : PySem.W.nsIn K mainGlobals "_LONGEST_NAME" = some (some y3)) (w3 : RelV (.int 8) y3) (x4 : PySem.W.nsIn K mainGlobals "MOST_KEYS" = some (some y4)) (w4 : RelV (.int 6) y4)
    : LamX.LawAtS l w K CX0 8 63 "script" mg fa h := by
  have e := hfa.symm.trans (PySem.W.mg_of X G a22)
  cases e
  let cs : Tabs := ⟨c1, p1, c3, p3, c4, p4⟩
  have F1 := fun_mk (st := sIsWorth) l1 e1 k1
  have b1 := F1.binds (ps := ["thing"]) fun _ _ _ _ _ _ us hl => match us, hl with | [_], _ => rfl
  have F2 := fun_mk (st := sIsKey) l2 e2 k2
  have b2 := F2.binds (ps := ["thing"]) fun _ _ _ _ _ _ us hl => match us, hl with | [_], _ => rfl
  have F3 := fun_mk (st := sIsName) l3 e3 k3
  have b3 := F3.binds (ps := ["thing"]) fun _ _ _ _ _ _ us hl => match us, hl with | [_], _ => rfl
  have F4 := fun_mk (st := sIsRow) l4 e4 k4
  have b4 := F4.binds (ps := ["thing"]) fun _ _ _ _ _ _ us hl => match us, hl with | [_], _ => rfl
  have F5 := fun_mk (st := sIsPair) l5 e5 k5
  have b5 := F5.binds (ps := ["thing"]) fun _ _ _ _ _ _ us hl => match us, hl with | [_], _ => rfl
  have F6 := fun_mk (st := sIsReference) l6 e6 k6
  have b6 := F6.binds (ps := ["thing"]) fun _ _ _ _ _ _ us hl => match us, hl with | [_], _ => rfl
  have F7 := fun_mk (st := sLawCellAt) l7 e7 k7
  have b7 := F7.binds (ps := ["script", "k"]) fun _ _ _ _ _ _ us hl => match us, hl with | [_, _], _ => rfl
  have F8 := fun_mk (st := sLawBag) l8 e8 k8
  have b8 := F8.binds (ps := ["cell", "nth"]) fun _ _ _ _ _ _ us hl => match us, hl with | [_, _], _ => rfl
  have F9 := fun_mk (st := sLawDraw) l9 e9 k9
  have b9 := F9.binds (ps := ["bag", "many"]) fun _ _ _ _ _ _ us hl => match us, hl with | [_, _], _ => rfl
  have F10 := fun_mk (st := sLawSigns) l10 e10 k10
  have b10 := F10.binds (ps := []) fun _ _ _ _ _ _ us hl => match us, hl with | [], _ => rfl
  have F11 := fun_mk (st := sLawText) l11 e11 k11
  have b11 := F11.binds (ps := ["bag", "most"]) fun _ _ _ _ _ _ us hl => match us, hl with | [_, _], _ => rfl
  have F12 := fun_mk (st := sLawName) l12 e12 k12
  have b12 := F12.binds (ps := ["bag"]) fun _ _ _ _ _ _ us hl => match us, hl with | [_], _ => rfl
  have F13 := fun_mk (st := sLawKey) l13 e13 k13
  have b13 := F13.binds (ps := ["bag"]) fun _ _ _ _ _ _ us hl => match us, hl with | [_], _ => rfl
  have F14 := fun_mk (st := sLawRef) l14 e14 k14
  have b14 := F14.binds (ps := ["bag"]) fun _ _ _ _ _ _ us hl => match us, hl with | [_], _ => rfl
  have F15 := fun_mk (st := sLawOdd) l15 e15 k15
  have b15 := F15.binds (ps := ["bag"]) fun _ _ _ _ _ _ us hl => match us, hl with | [_], _ => rfl
  have F16 := fun_mk (st := sLawTurned) l16 e16 k16
  have b16 := F16.binds (ps := ["bag", "thing", "deep"]) fun _ _ _ _ _ _ us hl => match us, hl with | [_, _, _], _ => rfl
  have F17 := fun_mk (st := sLawIsWorth) l17 e17 k17
  have b17 := F17.binds (ps := ["thing"]) fun _ _ _ _ _ _ us hl => match us, hl with | [_], _ => rfl
  have F18 := fun_mk (st := sLawIsKey) l18 e18 k18
  have b18 := F18.binds (ps := ["thing"]) fun _ _ _ _ _ _ us hl => match us, hl with | [_], _ => rfl
  have F19 := fun_mk (st := sLawIsName) l19 e19 k19
  have b19 := F19.binds (ps := ["thing"]) fun _ _ _ _ _ _ us hl => match us, hl with | [_], _ => rfl
  have F20 := fun_mk (st := sLawIsReference) l20 e20 k20
  have b20 := F20.binds (ps := ["thing"]) fun _ _ _ _ _ _ us hl => match us, hl with | [_], _ => rfl
  have F21 := fun_mk (st := sLawRight) l21 e21 k21
  have b21 := F21.binds (ps := ["thing"]) fun _ _ _ _ _ _ us hl => match us, hl with | [_], _ => rfl
  have F22 := fun_mk (st := sLaw) l22 e22 k22
  have b22 := F22.binds (ps := ["script"]) fun _ _ _ _ _ _ us hl => match us, hl with | [_], _ => rfl
  have T : Txt K mg cs := ⟨⟨_, _, _, _, _, _, _, _, _, l1, e1, k1, PySem.W.mg_of X G a1, b1⟩, ⟨_, _, F2, PySem.W.mg_of X G a2, b2⟩, ⟨_, _, _, _, _, _, _, _, _, l3, e3, k3, PySem.W.mg_of X G a3, b3⟩, ⟨_, _, _, _, _, _, _, _, _, l4, e4, k4, PySem.W.mg_of X G a4, b4⟩, ⟨_, _, F5, PySem.W.mg_of X G a5, b5⟩, ⟨_, _, F6, PySem.W.mg_of X G a6, b6⟩, ⟨_, _, F7, PySem.W.mg_of X G a7, b7⟩, ⟨_, _, F8, PySem.W.mg_of X G a8, b8⟩, ⟨_, _, F9, PySem.W.mg_of X G a9, b9⟩, ⟨_, _, F10, PySem.W.mg_of X G a10, b10⟩, ⟨_, _, F11, PySem.W.mg_of X G a11, b11⟩, ⟨_, _, F12, PySem.W.mg_of X G a12, b12⟩, ⟨_, _, F13, PySem.W.mg_of X G a13, b13⟩, ⟨_, _, F14, PySem.W.mg_of X G a14, b14⟩, ⟨_, _, F15, PySem.W.mg_of X G a15, b15⟩, ⟨_, _, F16, PySem.W.mg_of X G a16, b16⟩, ⟨_, _, F17, PySem.W.mg_of X G a17, b17⟩, ⟨_, _, F18, PySem.W.mg_of X G a18, b18⟩, ⟨_, _, F19, PySem.W.mg_of X G a19, b19⟩, ⟨_, _, F20, PySem.W.mg_of X G a20, b20⟩, ⟨_, _, F21, PySem.W.mg_of X G a21, b21⟩, ⟨_, _, F22, PySem.W.mg_of X G a22, b22⟩, PySem.W.mg_none_of X G z1, PySem.W.mg_none_of X G z2, PySem.W.mg_none_of X G z3, PySem.W.mg_none_of X G z4, PySem.W.mg_none_of X G z5, PySem.W.mg_none_of X G z6, PySem.W.mg_none_of X G z7, PySem.W.mg_none_of X G z8, PySem.W.mg_none_of X G z9, PySem.W.mg_none_of X G z10, PySem.W.mg_none_of X G z11, PySem.W.mg_none_of X G z12, ⟨_, PySem.W.mg_of X G x1, w1⟩, ⟨_, PySem.W.mg_of X G x2, w2⟩, ⟨_, PySem.W.mg_of X G x3, w3⟩, ⟨_, PySem.W.mg_of X G x4, w4⟩⟩
  refine ⟨PySem.W.fnOf "law" "law" (defArgs sLaw) (defBody sLaw) (defScope sLaw) .none kV22 dc22 pm22 an22 cd22 ct22, [(c1, p1), (c3, p3), (c4, p4)], spLaw K cs, ?_, ?_, ?_, fun s v => .of_eq rfl, fun H a ns hl hb hT hS => ⟨a, ns, rfl, hS, hl, ?_, fun _ => rfl⟩, fun base _ _ hB => ?_⟩
  · intro p hp
    simp only [List.mem_cons, List.not_mem_nil, or_false] at hp
    rcases hp with rfl | rfl | rfl
    · exact OT _ _ r1 (PySem.W.mg_of X G a1) c1 p1 _ _ _ _ _ _ l1 rfl rfl m1 u1
    · exact OT _ _ r3 (PySem.W.mg_of X G a3) c3 p3 _ _ _ _ _ _ l3 rfl rfl m3 u3
    · exact OT _ _ r4 (PySem.W.mg_of X G a4) c4 p4 _ _ _ _ _ _ l4 rfl rfl m4 u4
  · intro p hp
    simp only [List.mem_cons, List.not_mem_nil, or_false] at hp
    rcases hp with rfl | rfl | rfl
    · exact n1
    · exact n3
    · exact n4
  · intro p hp
    simp only [List.mem_cons, List.not_mem_nil, or_false] at hp
    rcases hp with rfl | rfl | rfl
    · exact PySem.W.codeHd_of_K X (hdOk_ok m1 o1)
    · exact PySem.W.codeHd_of_K X (hdOk_ok m3 o3)
    · exact PySem.W.codeHd_of_K X (hdOk_ok m4 o4)
  · exact ⟨trivial, ⟨#[], hT (c1, p1) (by simp), tri0⟩, ⟨#[], hT (c3, p3) (by simp), tri0⟩, ⟨#[], hT (c4, p4) (by simp), tri0⟩⟩
  · exact ok_law T ⟨trivial, tabB_of (hB (c1, p1) (by simp)), tabB_of (hB (c3, p3) (by simp)), tabB_of (hB (c4, p4) (by simp))⟩ F22
theorem walk {l : PySem.W.OpenLaw} {q : Program} {loose : List Str} {XP : (Str → Option Value) → Heap → Prop} {YP : World → Heap → Prop} {d : DefRec} {K : Params → PySem.W.Frag} (hn : l.most = some 63) (hdf : d.params.defaults = [])
    (hY : ∀ (w : World) (h : Heap), YP w h → (K w.params).In h)
    (F : ∀ (w : World) (mg : Str → Option Value) (fa : Addr) (h : Heap), (K w.params).In h → h.Ns mainGlobals mg → mg d.name = some (.ref fa) → OwnTabs q (K w.params) mg h → LamX.LawAtS l w (K w.params) CX0 8 63 "script" mg fa h) :
    PySem.W.WalkO q loose XP YP l.row.toRowW d [] (fun f vs => PySem.call f vs) :=
  walk_ofAll (n := 63) (k := 8) (x := "script") (CX := fun _ => CX0) hn (by decide) hdf ⟨rfl, by decide, by decide⟩ hY (fun w mg fa h _ KX G hm OT => F w mg fa h KX G hm OT) fun _ _ _ _ _ z => z
end My
open PySem PySem.W PyProof.Rows
set_option maxRecDepth 100000 in
set_option maxHeartbeats 0 in
theorem PySem.Challenge.cw_stemkeep_k01_worths_keys_references_holds : PySem.Challenge.rw_stemkeep_k01_worths_keys_references.Holds := by
  w_on; o_law; k_head; (case hw => w_witness2)
  k_fill
  refine My.walk (l := PySem.Challenge.rw_stemkeep_k01_worths_keys_references) rfl rfl (fun w h Y => PySem.W.kIn_of Y) ?F
  case F =>
    intro w mg fa h KX G hmg OT
    refine' My.all_mk KX G hmg OT ?a1 ?l1 ?e1 ?k1 ?m1 ?u1 ?o1 ?n1 ?r1 ?a2 ?l2 ?e2 ?k2 ?a3 ?l3 ?e3 ?k3 ?m3 ?u3 ?o3 ?n3 ?r3 ?a4 ?l4 ?e4 ?k4 ?m4 ?u4 ?o4 ?n4 ?r4 ?a5 ?l5 ?e5 ?k5 ?a6 ?l6 ?e6 ?k6 ?a7 ?l7 ?e7 ?k7 ?a8 ?l8 ?e8 ?k8 ?a9 ?l9 ?e9 ?k9 ?a10 ?l10 ?e10 ?k10 ?a11 ?l11 ?e11 ?k11 ?a12 ?l12 ?e12 ?k12 ?a13 ?l13 ?e13 ?k13 ?a14 ?l14 ?e14 ?k14 ?a15 ?l15 ?e15 ?k15 ?a16 ?l16 ?e16 ?k16 ?a17 ?l17 ?e17 ?k17 ?a18 ?l18 ?e18 ?k18 ?a19 ?l19 ?e19 ?k19 ?a20 ?l20 ?e20 ?k20 ?a21 ?l21 ?e21 ?k21 ?a22 ?l22 ?e22 ?k22 ?z1 ?z2 ?z3 ?z4 ?z5 ?z6 ?z7 ?z8 ?z9 ?z10 ?z11 ?z12 ?x1 ?w1 ?x2 ?w2 ?x3 ?w3 ?x4 ?w4
    (case a1 => k_is)
    (case l1 => k_is)
    (case e1 => k_is)
    (case k1 => k_is)
    (case m1 => k_is)
    (case u1 => rfl)
    (case o1 => rfl)
    (case n1 => first | rfl | decide +kernel)
    (case r1 => decide +kernel)
    (case a2 => k_is)
    (case l2 => k_is)
    (case e2 => k_is)
    (case k2 => k_is)
    (case a3 => k_is)
    (case l3 => k_is)
    (case e3 => k_is)
    (case k3 => k_is)
    (case m3 => k_is)
    (case u3 => rfl)
    (case o3 => rfl)
    (case n3 => first | rfl | decide +kernel)
    (case r3 => decide +kernel)
    (case a4 => k_is)
    (case l4 => k_is)
    (case e4 => k_is)
    (case k4 => k_is)
    (case m4 => k_is)
    (case u4 => rfl)
    (case o4 => rfl)
    (case n4 => first | rfl | decide +kernel)
    (case r4 => decide +kernel)
    (case a5 => k_is)
    (case l5 => k_is)
    (case e5 => k_is)
    (case k5 => k_is)
    (case a6 => k_is)
    (case l6 => k_is)
    (case e6 => k_is)
    (case k6 => k_is)
    (case a7 => k_is)
    (case l7 => k_is)
    (case e7 => k_is)
    (case k7 => k_is)
    (case a8 => k_is)
    (case l8 => k_is)
    (case e8 => k_is)
    (case k8 => k_is)
    (case a9 => k_is)
    (case l9 => k_is)
    (case e9 => k_is)
    (case k9 => k_is)
    (case a10 => k_is)
    (case l10 => k_is)
    (case e10 => k_is)
    (case k10 => k_is)
    (case a11 => k_is)
    (case l11 => k_is)
    (case e11 => k_is)
    (case k11 => k_is)
    (case a12 => k_is)
    (case l12 => k_is)
    (case e12 => k_is)
    (case k12 => k_is)
    (case a13 => k_is)
    (case l13 => k_is)
    (case e13 => k_is)
    (case k13 => k_is)
    (case a14 => k_is)
    (case l14 => k_is)
    (case e14 => k_is)
    (case k14 => k_is)
    (case a15 => k_is)
    (case l15 => k_is)
    (case e15 => k_is)
    (case k15 => k_is)
    (case a16 => k_is)
    (case l16 => k_is)
    (case e16 => k_is)
    (case k16 => k_is)
    (case a17 => k_is)
    (case l17 => k_is)
    (case e17 => k_is)
    (case k17 => k_is)
    (case a18 => k_is)
    (case l18 => k_is)
    (case e18 => k_is)
    (case k18 => k_is)
    (case a19 => k_is)
    (case l19 => k_is)
    (case e19 => k_is)
    (case k19 => k_is)
    (case a20 => k_is)
    (case l20 => k_is)
    (case e20 => k_is)
    (case k20 => k_is)
    (case a21 => k_is)
    (case l21 => k_is)
    (case e21 => k_is)
    (case k21 => k_is)
    (case a22 => k_is)
    (case l22 => k_is)
    (case e22 => k_is)
    (case k22 => k_is)
    (case z1 => k_is)
    (case z2 => k_is)
    (case z3 => k_is)
    (case z4 => k_is)
    (case z5 => k_is)
    (case z6 => k_is)
    (case z7 => k_is)
    (case z8 => k_is)
    (case z9 => k_is)
    (case z10 => k_is)
    (case z11 => k_is)
    (case z12 => k_is)
    (case x1 => k_is)
    (case w1 => first | rfl | exact ⟨_, rfl⟩)
    (case x2 => k_is)
    (case w2 => first | rfl | exact ⟨_, rfl⟩)
    (case x3 => k_is)
    (case w3 => first | rfl | exact ⟨_, rfl⟩)
    (case x4 => k_is)
    (case w4 => first | rfl | exact ⟨_, rfl⟩)
#print axioms PySem.Challenge.cw_stemkeep_k01_worths_keys_references_holds
