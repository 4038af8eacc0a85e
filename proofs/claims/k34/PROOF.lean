import PyProof.Rows.All
import Wide.All
import OpenK.AllK
import Wide.FinOn
import HandS.ForMost
import HandS.Wide
import HandS.TupAny
import HandS.EndBits
import HandS.IsInst
import HandS.AnyAll
import HandS.EndTab
import HandS.Style
import HandS.StrMore
import HandS.WideBits
import HandS.Codes
import HandS.GenOver
import HandS.GenList
import HandS.EndOwn
import HandS.TupMul
import HandS.TupLe
import HandS.More
import HandS.Defaults
import HandS.Exc
import KE.SortKeyHeap
import HandS.SortKw
import HandS.Head0
import HandS.Head1
import HandS.Head2
import HandS.HeadEnd
import HandS.HeadHook1
import HandS.HeadHook2
import HandS.HeadHook3
import HandS.HeadHook4
import HandS.HeadWalk
import PySem.Challenge.RW_stemkeep_k34_pieces_and_parts
set_option Elab.async false
set_option linter.all false
set_option maxRecDepth 100000
namespace My
/-! ### what every law of these keys leans on: defs by name, powers, the bag, heaps that grow -/
open PySem PySem.Spec L2 TL
/-- a def of the text as its top leaves it -/
structure Ftx (K : PySem.W.Frag) (mg : Str → Option Value) (x : Str) (st : Stmt) (ps : List Str) : Prop where
  ex : ∃ (f : Addr) (fd : FuncData), Fun K x x st f fd ∧ mg x = some (.ref f) ∧ Binds K fd ps []
/-- a def that keeps a promise, called by its name -/
structure Cal (P : Program) (w : World) (K : PySem.W.Frag) (mg : Str → Option Value) (base : Heap) (k : Nat) (x : Str) (ps : List Str) (sp : Sp) : Prop where
  ex : ∃ (f : Addr) (fd : FuncData), FnOk P w K mg base CX0 k f fd ps sp ∧ PySem.W.keepIn K (.ref f) = true ∧ mg x = some (.ref f) ∧ Binds K fd ps [] ∧ ∃ (oc : Value) (od : Option Addr) (osl : Array (Option Value)), K.lookup f = some ⟨oc, od, .func fd, osl⟩
section
variable {P : Program} {w : World} {K : PySem.W.Frag} {mg : Str → Option Value} {base : Heap}
theorem Ftx.cal {x : Str} {st : Stmt} {N ps : List Str} {sp : Sp} {k : Nat} (F : Ftx K mg x st ps) (S : FnScope N ps (defScope st)) (len : ∀ vs H Q E, sp vs H Q E → vs.length = ps.length)
    (h : ∀ (f : Addr) (cdv : Value) (A : Around) (outer : List Env) (s : Shared) (H : Hp) (vs : List V) (Q : VK) (E : XK), Room k (A.deeper (PyProof.Rows.envOfC x (defScope st) s.heap.objs.size f cdv)) → sp vs H Q E →
      ∃ t, PSs (cxOf CX0 P w K mg base N x (defScope st) f cdv A outer s H E).nox (defBody st) t ∧ t { nx := fun _ H' => Q .non H', rt := Q } (start N vs) H) : Cal P w K mg base (k + 1) x ps sp := by
  obtain ⟨f, fd, F1, g, b⟩ := F.ex
  have F2 := F1.ok S len (h f)
  obtain ⟨oc, od, kV, doc, pm, an, cdv, ct, osl, e, lk, hcd⟩ := F1.ex
  exact ⟨f, fd, F2, F1.kp, g, b, oc, od, osl, lk⟩
theorem Cal.mono {j k : Nat} {x : Str} {ps : List Str} {sp : Sp} (C : Cal P w K mg base j x ps sp) (h : j ≤ k) : Cal P w K mg base k x ps sp := by
  obtain ⟨f, fd, F, a, b, c⟩ := C.ex
  exact ⟨f, fd, F.mono h, a, b, c⟩
end
section
variable {X : Cx}
theorem pe_cal {k : Nat} {x : Str} {ps : List Str} {sp : Sp} {e : Expr} {es : List Expr} {p pos : Pos} {t : TA} (C : Cal X.prog X.w X.K X.mg X.base k x ps sp) (hr : Room k X.A) (ha : PA X (e :: es) t) (hg : Gl X x := by rfl)
    (hdb : (x == ("__debug__" : Str)) = false := by decide) (he : starEach (e :: es) X.env = (false, eval e X.env) :: starEach es X.env := by rfl) (hpl : (backTo pos (starEach es X.env)).any (·.1) = false := by rfl) :
    PE X (.Call (.Name x p) (e :: es) [] pos) (tCall sp [] E0 t) := by
  obtain ⟨f, fd, F, a, b, c, _⟩ := C.ex
  exact pe_call F hr hg b a c .nil pass0 ha hdb he hpl
theorem pe_cal0 {k : Nat} {x : Str} {ps : List Str} {sp : Sp} {p pos : Pos} (C : Cal X.prog X.w X.K X.mg X.base k x ps sp) (hr : Room k X.A) (hg : Gl X x := by rfl)
    (hdb : (x == ("__debug__" : Str)) = false := by decide) : PE X (.Call (.Name x p) [] [] pos) (tCall sp [] E0 tNil) := by
  obtain ⟨f, fd, F, a, b, c, _⟩ := C.ex
  exact pe_call0 F hr hg b a c .nil pass0 hdb
/-- ** of an exponent up to 64 and a base below 2 ^ 10000 -/
def CPowW (i j : Int) : Prop := 0 ≤ j ∧ j ≤ 64 ∧ i.natAbs.log2 < 10000
theorem op_powW : OpR X (binaryOp .Pow) (rI CPowW fun i j => .int (i ^ j.toNat)) := opI fun i j _ _ _ _ _ hc q => by
  obtain ⟨h1, h2, h3⟩ := hc
  refine PyProof.Rows.pow_int h1 ?_ q
  have b : Builtin.Int.intBits i ≤ i.natAbs.log2 + 1 := by
    unfold Builtin.Int.intBits
    split <;> omega
  have h : (Builtin.Int.intBits i : Int) * j ≤ 10000 * j := Int.mul_le_mul_of_nonneg_right (by omega) h1
  omega
/-- a text some times -/
def rRepS : R2 := fun x y H Q => ∃ z i, x = .str z ∧ y = .int i ∧ PySem.MulOk z i ∧ Q (.str (Txt.mul z i)) H
theorem op_strRep : OpR X (binaryOp .Mult) rRepS := by
  intro pins s σ H x y v u Q I rx ry h
  obtain ⟨z, i, rfl, rfl, ok, q⟩ := h
  obtain ⟨t, rfl⟩ := rx
  obtain ⟨t', rfl⟩ := ry
  exact PySem.SB.mul ok fun t' k => ⟨.str _, H, I.tok _, ⟨t', rfl⟩, q⟩
end
theorem mul_ok {z : Str} {i : Int} (h0 : 0 ≤ i) (h1 : i ≤ 1000) (h2 : z.length ≤ 1000) : PySem.MulOk z i := by
  refine ⟨?_, fun a _ => ?_, fun a _ => ?_⟩
  · rw [decide_eq_false (by omega), decide_eq_false (by omega)]
    rfl
  · intro c
    have : (2 ^ 63 - 1 : Int) / 1000 ≤ (2 ^ 63 - 1) / i := by
      refine Int.le_ediv_of_mul_le (by omega) ?_
      have : (2 ^ 63 - 1 : Int) / 1000 * i ≤ (2 ^ 63 - 1 : Int) / 1000 * 1000 := Int.mul_le_mul_of_nonneg_left h1 (by decide)
      exact Int.le_trans this (by decide)
    have e : (2 ^ 63 - 1 : Int) / 1000 = 9223372036854775 := by decide
    omega
  · have : z.length * i.toNat ≤ 1000 * 1000 := Nat.mul_le_mul h2 (by omega)
    generalize z.length * i.toNat = n at this
    show decide (n > sizeLine) = false
    exact decide_eq_false (Nat.not_lt.mpr (Nat.le_trans this (by decide)))
theorem tl_mul (z : Str) (n : Nat) : tl (Txt.mul z (n : Int)) = (List.replicate n (tl z)).flatten := by
  unfold Txt.mul
  split
  · have : n = 0 := by omega
    subst this
    rfl
  · split
    · rename_i h
      rw [Bool.or_eq_true, beq_iff_eq, beq_iff_eq] at h
      rcases h with h | h
      · have : n = 1 := by omega
        subst this
        simp
      · have e : tl z = [] := (len0_tl z).mp h
        rw [e]
        simp
    · have key : ∀ (l : List (Array Nat)) (a : Array Nat), (l.foldl (· ++ ·) a).toList = a.toList ++ (l.map Array.toList).flatten := by
        intro l
        induction l with
        | nil => intro a; simp
        | cons x r ih => intro a; rw [List.foldl_cons, ih]; simp
      show ((List.replicate n z.cps).foldl (· ++ ·) #[]).toList = _
      rw [key, List.map_replicate]
      rfl
theorem pow_ok {i : Int} {n : Nat} (h : i.natAbs < 2 ^ n) (hn : 0 < n) (h2 : n ≤ 10000) : i.natAbs.log2 < 10000 := Nat.lt_of_lt_of_le (PySem.Flt.log2_lt_of hn h) h2
theorem small {n : Nat} (h : n ≤ 100000) : n ≤ sizeLine := Nat.le_trans h (by decide)
theorem small' {n : Nat} (h : n < 100000) : n < sizeLine := Nat.lt_of_lt_of_le h (by decide)

/-! ### heaps that grow: all stays but the tables of code objects, which grow -/
def notTbl : HO → Bool
  | .tbl _ => false
  | _ => true
class NT (o : HO) : Prop where
  is : notTbl o = true
instance nt1 {xs : List V} : NT (.lst xs) := ⟨rfl⟩
instance nt2 {xs : List V} : NT (.tup xs) := ⟨rfl⟩
instance nt3 {C dx : Addr} {fs : List (Str × V)} : NT (.ins C dx fs) := ⟨rfl⟩
instance nt4 {kvs : List (Key × V)} : NT (.dK kvs) := ⟨rfl⟩
instance nt5 {o : Obj} {u : HO} : NT (.frz o u) := ⟨rfl⟩
instance nt6 {x : Addr} : NT (.own x) := ⟨rfl⟩
instance nt7 {φ : Heap → Prop} : NT (.ext φ) := ⟨rfl⟩
structure Sm (H H' : Hp) : Prop where
  keep0 : ∀ (a : Addr) (o : HO), H a = some o → notTbl o = true → H' a = some o
  tab : ∀ P, GxR.TabG H P → GxR.TabG H' P
  gone : ∀ a, H' a = none → H a = none
theorem Sm.keep {H H' : Hp} (s : Sm H H') (a : Addr) (o : HO) (h : H a = some o) (nt : notTbl o = true := by rfl) : H' a = some o := s.keep0 a o h nt
theorem Sm.fn {H H' : Hp} (s : Sm H H') (a : Addr) (o : HO) [n : NT o] (h : H a = some o) : H' a = some o := s.keep0 a o h n.is
instance smFn {H H' : Hp} : CoeFun (Sm H H') (fun _ => ∀ (a : Addr) (o : HO) [NT o], H a = some o → H' a = some o) := ⟨fun s => @Sm.fn H H' s⟩
theorem Sm.refl (H : Hp) : Sm H H := ⟨fun _ _ h _ => h, fun _ h => h, fun _ h => h⟩
theorem Sm.trans {H H1 H2 : Hp} (a : Sm H H1) (b : Sm H1 H2) : Sm H H2 := ⟨fun c o h n => b.keep c o (a.keep c o h n) n, fun P h => b.tab P (a.tab P h), fun c h => a.gone c (b.gone c h)⟩
theorem Sm.free {H H' : Hp} (e : Sm H H') {l : Addr} (h : H' l = none) : H l = none := e.gone l h
theorem Sm.seq {K : PySem.W.Frag} {H H' : Hp} {a : Addr} {xs : List V} (e : Sm H H') (h : SqL K H a xs) : SqL K H' a xs := by
  rcases h with (h | ⟨o, h⟩) | h
  · exact .inl (.inl (e _ _ h))
  · exact .inl (.inr ⟨o, e _ _ h⟩)
  · exact .inr h
/-- a table stands apart from what is written -/
theorem TabG.upd {H : Hp} {P p : Addr} {o : HO} (h : GxR.TabG H P) (hp : ∀ qs, H p ≠ some (.tbl qs)) : GxR.TabG (upd H p o) P := by
  obtain ⟨ps, h1, h2⟩ := h
  have ne : P ≠ p := fun e => by
    rw [e] at h1
    exact hp ps h1
  exact ⟨ps, by rw [upd_ne ne]; exact h1, h2⟩
theorem Sm.new {H : Hp} {p : Addr} {o : HO} (h : H p = none) : Sm H (upd H p o) := ⟨fun a u e _ => by
  rw [upd_ne (ne_of_none e h)]
  exact e, fun P t => TabG.upd t (fun qs z => by rw [h] at z; cases z), fun a ha => by
  by_cases e : a = p
  · rw [e]
    exact h
  · rw [upd_ne e] at ha
    exact ha⟩
theorem Sm.over {H H' : Hp} {p : Addr} {o : HO} (S : Sm H H') (h : H p = none) (ht : ∀ qs, H' p ≠ some (.tbl qs)) : Sm H (upd H' p o) := by
  refine ⟨fun b u e n => ?_, fun P t => TabG.upd (S.tab P t) ht, fun b e => ?_⟩
  · rw [upd_ne (ne_of_none e h)]
    exact S.keep b u e n
  · by_cases z : b = p
    · rw [z]; exact h
    · rw [upd_ne z] at e
      exact S.gone b e
/-- a table grew -/
theorem Sm.tabbed {H H' : Hp} {P : Addr} (t : GxR.TabG H P) (h : GxR.Tabbed P H H') : Sm H H' := by
  obtain ⟨ps, h1, h2⟩ := t
  refine ⟨fun a o e n => ?_, fun Q q => ?_, fun a e => ?_⟩
  · have ne : a ≠ P := fun z => by
      rw [z, h1] at e
      rw [← Option.some.inj e] at n
      cases n
    rw [h.2 a ne]
    exact e
  · by_cases e : Q = P
    · rw [e]
      exact h.1
    · obtain ⟨qs, q1, q2⟩ := q
      exact ⟨qs, by rw [h.2 Q e]; exact q1, q2⟩
  · by_cases z : a = P
    · obtain ⟨qs, q1, _⟩ := h.1
      rw [z, q1] at e
      cases e
    · rw [h.2 a z] at e
      exact e
/-! ### the bag, and heaps in which it alone was turned -/
def LIM : Nat := 1000000000
/-- the bag at b: how many draws were mixed is at most m -/
def Bag (H : Hp) (b : Addr) (m : Nat) : Prop := ∃ x y z : Int, H b = some (.lst [.int x, .int y, .int z]) ∧ 0 ≤ y ∧ y < 2 ^ 200 ∧ 0 ≤ z ∧ z ≤ m
structure Go (b : Addr) (n : Nat) (H H' : Hp) : Prop where
  keep0 : ∀ (a : Addr) (o : HO), a ≠ b → H a = some o → notTbl o = true → H' a = some o
  bag : ∀ m, Bag H b m → Bag H' b (m + n)
  tab : ∀ P, GxR.TabG H P → GxR.TabG H' P
  gone : ∀ a, H' a = none → H a = none
theorem Go.keep {b : Addr} {n : Nat} {H H' : Hp} (G : Go b n H H') (a : Addr) (o : HO) (ne : a ≠ b) (h : H a = some o) (nt : notTbl o = true := by rfl) : H' a = some o := G.keep0 a o ne h nt
theorem Bag.mono {H : Hp} {b : Addr} {m n : Nat} (h : Bag H b m) (l : m ≤ n) : Bag H b n := by
  obtain ⟨x, y, z, h1, h2, h3, h4, h5⟩ := h
  exact ⟨x, y, z, h1, h2, h3, h4, by omega⟩
theorem Bag.some {H : Hp} {b : Addr} {m : Nat} (h : Bag H b m) : ∃ xs, H b = some (.lst xs) := by
  obtain ⟨x, y, z, h1, _⟩ := h
  exact ⟨_, h1⟩
theorem Go.refl (b : Addr) (H : Hp) : Go b 0 H H := ⟨fun _ _ _ h _ => h, fun _ h => h, fun _ h => h, fun _ h => h⟩
theorem Go.trans {b : Addr} {n m : Nat} {H H1 H2 : Hp} (x : Go b n H H1) (y : Go b m H1 H2) : Go b (n + m) H H2 :=
  ⟨fun a o e h n => y.keep a o e (x.keep a o e h n) n, fun k h => by
    have z := y.bag _ (x.bag k h)
    exact z.mono (by omega), fun P h => y.tab P (x.tab P h), fun a h => x.gone a (y.gone a h)⟩
theorem Go.mono {b : Addr} {n m : Nat} {H H' : Hp} (x : Go b n H H') (l : n ≤ m) : Go b m H H' := ⟨x.keep0, fun k h => (x.bag k h).mono (by omega), x.tab, x.gone⟩
theorem Go.same {b : Addr} {H H' : Hp} (s : Sm H H') : Go b 0 H H' := ⟨fun a o _ h n => s.keep a o h n, fun m h => by
  obtain ⟨x, y, z, h1, h2⟩ := h
  exact ⟨x, y, z, s _ _ h1, h2⟩, s.tab, s.gone⟩
theorem Go.new {b : Addr} {H : Hp} {p : Addr} {o : HO} (h : H p = none) : Go b 0 H (upd H p o) := Go.same (Sm.new h)
/-- a thing that is no list stands apart from the bag -/
theorem Go.at {b : Addr} {n m : Nat} {H H' : Hp} (G : Go b n H H') (B : Bag H b m) {a : Addr} {o : HO} (h : H a = some o) (no : ∀ xs, o ≠ .lst xs) (nt : notTbl o = true := by rfl) : H' a = some o := by
  refine G.keep a o (fun e => ?_) h nt
  obtain ⟨xs, hx⟩ := B.some
  rw [e, hx] at h
  exact no xs (Option.some.inj h).symm
theorem Go.seqT {K : PySem.W.Frag} {b : Addr} {n m : Nat} {H H' : Hp} (G : Go b n H H') (B : Bag H b m) {a : Addr} {xs : List V} (h : SqT K H a xs) : SqT K H' a xs := by
  rcases h with (h | ⟨o, h⟩) | h
  · exact .inl (.inl (G.at B h fun _ z => by cases z))
  · exact .inl (.inr ⟨o, G.at B h fun _ z => by cases z⟩)
  · exact .inr h
theorem Go.frz {b : Addr} {n m : Nat} {H H' : Hp} (G : Go b n H H') (B : Bag H b m) {a : Addr} {ob : Obj} {u : HO} (h : H a = some (.frz ob u)) : H' a = some (.frz ob u) := G.at B h fun _ z => by cases z
theorem Sm.seqT {K : PySem.W.Frag} {H H' : Hp} (e : Sm H H') {a : Addr} {xs : List V} (h : SqT K H a xs) : SqT K H' a xs := by
  rcases h with (h | ⟨o, h⟩) | h
  · exact .inl (.inl (e _ _ h))
  · exact .inl (.inr ⟨o, e _ _ h⟩)
  · exact .inr h
/-- what was free behind is free ahead -/
theorem Go.free {b : Addr} {n m : Nat} {H H' : Hp} (G : Go b n H H') (B : Bag H b m) {p : Addr} (h : H' p = none) : H p = none := G.gone p h
theorem Bag.ne {H : Hp} {b p : Addr} {m : Nat} (B : Bag H b m) (h : H p = none) : p ≠ b := fun e => by
  obtain ⟨xs, hx⟩ := B.some
  rw [← e, h] at hx
  cases hx
/-- a new list's own address may be written: the rest goes on -/
theorem Go.own {b : Addr} {n m : Nat} {H H' : Hp} {p : Addr} {o : HO} (G : Go b n H H') (B : Bag H b m) (h : H p = none) (hp' : ∀ qs, H' p ≠ some (.tbl qs)) : Go b n H (upd H' p o) := by
  have hp := B.ne h
  refine ⟨fun a u e ha nt => ?_, fun k hk => ?_, fun P t => TabG.upd (G.tab P t) hp', fun a ha => ?_⟩
  · rw [upd_ne (ne_of_none ha h)]
    exact G.keep a u e ha nt
  · obtain ⟨x, y, z, h1, h2⟩ := G.bag k hk
    exact ⟨x, y, z, by rw [upd_ne (Ne.symm hp)]; exact h1, h2⟩
  · by_cases e : a = p
    · rw [e]
      exact h
    · rw [upd_ne e] at ha
      exact G.gone a ha
theorem no_tbl {H : Hp} {p : Addr} {xs : List V} (h : H p = some (.lst xs)) : ∀ qs, H p ≠ some (.tbl qs) := fun qs z => by
  rw [h] at z
  cases z
/-! ### the rules over K alone (within a comprehension's block the context's own K is the same) -/
section
variable {X : Cx} (K : PySem.W.Frag)
theorem ixL (h : X.K = K := by rfl) : IxR X (rIxL K) := h ▸ ix_list
theorem ixT (h : X.K = K := by rfl) : IxR X (rIxT K) := h ▸ ix_tup
theorem eqD (hu : X.A.units + 64 < cLine) (h : X.K = K := by rfl) : OpR X (compareOp .Eq) (rEqD K) := h ▸ op_eqD hu
theorem neD (hu : X.A.units + 64 < cLine) (h : X.K = K := by rfl) : OpR X (compareOp .NotEq) (rNeD K) := h ▸ op_neD hu
def rLenQ (K : PySem.W.Frag) : List V → Hp → VK → Prop := fun xs H Q => ∃ p ys, xs = [.ref p] ∧ (SqL K H p ys ∨ SqT K H p ys) ∧ Q (.int ys.length) H
theorem lenQ (h : X.K = K := by rfl) : CallR X (.builtin "len") (rLenQ K) := h ▸ call_len_seq
def rLenT1 : List V → Hp → VK → Prop := fun xs H Q => ∃ z, xs = [.str z] ∧ z.length ≤ sizeLine ∧ Q (.int z.length) H
theorem lenT : CallR X (.builtin "len") rLenT1 := call_len_str
theorem slL (h : X.K = K := by rfl) : SlR X (rSlL K) := h ▸ sl_list
theorem slT (h : X.K = K := by rfl) : SlR X (rSlA K) := h ▸ sl_tupA
theorem catA (h : X.K = K := by rfl) : OpR X (binaryOp .Add) (rCatA K) := h ▸ op_catA
theorem inQ (h : X.K = K := by rfl) : OpR X (compareOp .In) (rIn K false) := h ▸ op_in_seq
theorem ninQ (h : X.K = K := by rfl) : OpR X (compareOp .NotIn) (rIn K true) := h ▸ op_notIn_seq
def rListOf (K : PySem.W.Frag) : List V → Hp → VK → Prop := fun xs H Q => ∃ p ys, xs = [.ref p] ∧ (SqL K H p ys ∨ SqT K H p ys) ∧ ∀ l, H l = none → Q (.ref l) (upd H l (.lst ys))
theorem listOf (h : X.K = K := by rfl) : CallR X (.type "list") (rListOf K) := h ▸ call_list_of
def rTupOf (K : PySem.W.Frag) : List V → Hp → VK → Prop := fun xs H Q => ∃ p ys, xs = [.ref p] ∧ ((SqL K H p ys ∧ ∀ l, H l = none → Q (.ref l) (upd H l (.tup ys))) ∨ (SqT K H p ys ∧ Q (.ref p) H))
theorem tupOf (h : X.K = K := by rfl) : CallR X (.type "tuple") (rTupOf K) := h ▸ call_tuple_of
theorem isI (h : X.K = K := by rfl) : CallR X (.builtin "isinstance") (rIsi K) := h ▸ call_isi
end
/-! ### defs whose code object is known; the end of a law with tables -/
structure Ftc (K : PySem.W.Frag) (mg : Str → Option Value) (x : Str) (st : Stmt) (ps : List Str) (c : Addr) : Prop where
  ex : ∃ (f : Addr) (oc : Value) (od : Option Addr) (kV doc pm : Value) (an : Option Addr) (ct : Value) (osl : Array (Option Value)),
    K.lookup f = some ⟨oc, od, .func (PySem.W.fnOf x x (defArgs st) (defBody st) (defScope st) .none kV doc pm an (.ref c) ct), osl⟩ ∧ PySem.W.codeIn K (.ref c) x = true ∧ PySem.W.keepIn K (.ref f) = true ∧ mg x = some (.ref f) ∧ Binds K (PySem.W.fnOf x x (defArgs st) (defBody st) (defScope st) .none kV doc pm an (.ref c) ct) ps []
section
variable {P : Program} {w : World} {K : PySem.W.Frag} {mg : Str → Option Value} {base : Heap}
theorem Ftc.cal {x : Str} {st : Stmt} {N ps : List Str} {c : Addr} {sp : Sp} {k : Nat} (F : Ftc K mg x st ps c) (S : FnScope N ps (defScope st)) (len : ∀ vs H Q E, sp vs H Q E → vs.length = ps.length)
    (h : ∀ (f : Addr) (A : Around) (outer : List Env) (s : Shared) (H : Hp) (vs : List V) (Q : VK) (E : XK), Room k (A.deeper (PyProof.Rows.envOfC x (defScope st) s.heap.objs.size f (.ref c))) → sp vs H Q E →
      ∃ t, PSs (cxOf CX0 P w K mg base N x (defScope st) f (.ref c) A outer s H E).nox (defBody st) t ∧ t { nx := fun _ H' => Q .non H', rt := Q } (start N vs) H) : Cal P w K mg base (k + 1) x ps sp := by
  obtain ⟨f, oc, od, kV, doc, pm, an, ct, osl, lk, hcd, kp, g, b⟩ := F.ex
  refine ⟨f, _, fn_of lk hcd S len (fun A outer s H vs Q E hr hsp => ?_), kp, g, b, oc, od, osl, lk⟩
  obtain ⟨t, h1, q⟩ := h f A outer s H vs Q E hr hsp
  exact ⟨t, h1.nox, q⟩
end
def hdOk (vs : Array Value) (c P : Addr) : Bool := (match (vs[11]? : Option Value) with | some (.ref P') => P' == P | _ => false) &&
  (match vs.getD 18 .none with | .str _ _ => true | _ => false) && (match vs.getD 7 .none with | .int _ _ => true | _ => false) &&
  (match vs.getD 9 .none with | .bool _ => true | _ => false) && (match vs.getD 10 .none with | .int _ _ => true | _ => false) && c != P
theorem hdOk_ok {K : PySem.W.Frag} {c P : Addr} {vs : Array Value} {dd : Option Addr} {sl : Array (Option Value)} (h : K.lookup c = some ⟨.type "code", dd, .fields vs, sl⟩) (o : hdOk vs c P = true) : PySem.W.codeHdIn K c P = true := by
  unfold PySem.W.codeHdIn
  rw [h]
  exact o
theorem tri0 : TriplesOk (#[] : Array Value).toList := by
  first
    | trivial
    | exact .nil
    | simp [TriplesOk]
    | decide
def OwnTabs (q : Program) (K : PySem.W.Frag) (mg : Str → Option Value) (h : Heap) : Prop := ∀ (x : Str) (f : Addr), ((PyProof.Rows.recsOf q).any fun e => e.name == x) = true → mg x = some (.ref f) → LamX.OwnTab K f h
theorem walk_ofAll {l : PySem.W.OpenLaw} {n k : Nat} {q : Program} {loose : List Str} {XP : (Str → Option Value) → Heap → Prop} {YP : World → Heap → Prop} {d : DefRec} {K : Params → PySem.W.Frag} {CX : World → CXT} {x : Str}
    (hn : l.most = some n) (hn2 : n ≤ sizeLine) (hdf : d.params.defaults = []) (hr : Room k callerA) (hY : ∀ (w : World) (h : Heap), YP w h → (K w.params).In h)
    (F : ∀ (w : World) (mg : Str → Option Value) (fa : Addr) (h : Heap), YP w h → (K w.params).In h → h.Ns mainGlobals mg → mg d.name = some (.ref fa) → OwnTabs q (K w.params) mg h → LamX.LawAtS l w (K w.params) (CX w) k n x mg fa h)
    (hCX : ∀ (w : World) (H : Hp) (s : Shared) (e : Value) (s' : Shared), CX w [] H s (fun _ _ _ => False) e s' → False) :
    PySem.W.WalkO q loose XP YP l.row.toRowW d [] (fun f vs => PySem.call f vs) := by
  refine Att.attach_callB hn hdf fun w s₀ s₁ mg mb fa o pm cd doc a vs ns G Y ho hd hcd hmg hobj hints hlen hbits hg => ?_
  have KX := hY w _ Y
  have own : OwnTabs q (K w.params) mg s₁.heap := fun x f hrec hx c P o1 fd1 e dd vs1 sl k1 k2 k3 k4 k5 => by
    obtain ⟨dL, hm, hn1⟩ := List.any_eq_true.mp hrec
    have hn2 : dL.name = x := beq_iff_eq.mp hn1
    obtain ⟨a', o', fd', c', P', h1, h2, h3, h4, h5, h6⟩ := G.T.tab dL hm
    rw [hn2, hx] at h1
    cases h1
    have g1 := KX _ _ k1
    rw [g1] at h2
    cases h2
    rw [k2] at h3
    cases h3
    rw [k3] at h4
    cases h4
    obtain ⟨⟨oc, vc, e1, _, e3, e4⟩, hP⟩ := h6
    have g2 := KX _ _ k4
    rw [g2] at e1
    cases e1
    cases e3
    rw [k5] at e4
    cases e4
    exact hP
  obtain ⟨fd, cs, sp, hT, nT, C, hb, hsp, hF⟩ := F w mg fa _ Y KX G.T.g hmg own
  exact LamX.law_callTs KX G.T.g G.T.b G.T.builtins G.T.nolimit hg hT nT C G.T.bmain hobj hints (Nat.le_trans hlen hn2) hr hF hb (fun H hH hS => hsp H a ns hlen hbits hH hS) fun H e s' => hCX w H s₁ e s'
/-! ### classes: instances made, methods called, methods as values -/
structure Ftm (K : PySem.W.Frag) (C : Addr) (m qual : Str) (st : Stmt) (ps : List Str) : Prop where
  ex : ∃ (f : Addr) (fd : FuncData), Fun K m qual st f fd ∧ Meth K C m f ∧ Binds K fd ps []
/-- a method that keeps a promise -/
structure CalM (P : Program) (w : World) (K : PySem.W.Frag) (mg : Str → Option Value) (base : Heap) (k : Nat) (C : Addr) (m : Str) (ps : List Str) (sp : Sp) : Prop where
  ex : ∃ (f : Addr) (fd : FuncData), FnOk P w K mg base CX0 k f fd ps sp ∧ Meth K C m f ∧ Binds K fd ps []
/-- a class that is made by its name; what is missing of its arguments is dvs -/
structure CalC (P : Program) (w : World) (K : PySem.W.Frag) (mg : Str → Option Value) (base : Heap) (k : Nat) (x : Str) (C : Addr) (ps : List Str) (dvs : List V) (sp : Sp) : Prop where
  ex : ∃ (f : Addr) (fd : FuncData) (ds : List Value), FnOk P w K mg base CX0 k f fd ps sp ∧ Mk K C f ∧ Binds K fd ps ds ∧ Vals dvs ds ∧ mg x = some (.ref C)
structure Ftk (K : PySem.W.Frag) (mg : Str → Option Value) (x : Str) (C : Addr) (qual : Str) (st : Stmt) (ps : List Str) (dvs : List V) : Prop where
  ex : ∃ (f : Addr) (fd : FuncData) (ds : List Value), FunD K "__init__" qual (defArgs st) (defBody st) (defScope st) dvs [] f fd ∧ Mk K C f ∧ Binds K fd ps ds ∧ Vals dvs ds ∧ mg x = some (.ref C)
/-- the method m of the class at C is the def at g, and may be taken as a value -/
structure Bm (K : PySem.W.Frag) (C : Addr) (m qual : Str) (st : Stmt) (g : Addr) (ps : List Str) : Prop where
  ex : ∃ fd : FuncData, Fun K m qual st g fd ∧ BMeth K C m g ∧ Binds K fd ps []
section
variable {P : Program} {w : World} {K : PySem.W.Frag} {mg : Str → Option Value} {base : Heap} {C : Addr} {x m qual : Str} {st : Stmt} {N ps : List Str} {dvs : List V} {sp : Sp} {k : Nat}
theorem Ftm.cal (F : Ftm K C m qual st ps) (S : FnScope N ps (defScope st)) (len : ∀ vs H Q E, sp vs H Q E → vs.length = ps.length)
    (h : ∀ (f : Addr) (cdv : Value) (A : Around) (outer : List Env) (s : Shared) (H : Hp) (vs : List V) (Q : VK) (E : XK), Room k (A.deeper (PyProof.Rows.envOfC qual (defScope st) s.heap.objs.size f cdv)) → sp vs H Q E →
      ∃ t, PSs (cxOf CX0 P w K mg base N qual (defScope st) f cdv A outer s H E).nox (defBody st) t ∧ t { nx := fun _ H' => Q .non H', rt := Q } (start N vs) H) : CalM P w K mg base (k + 1) C m ps sp := by
  obtain ⟨f, fd, F1, M, b⟩ := F.ex
  exact ⟨f, fd, F1.ok S len (h f), M, b⟩
theorem Ftk.cal (F : Ftk K mg x C qual st ps dvs) (S : FnScope N ps (defScope st)) (len : ∀ vs H Q E, sp vs H Q E → vs.length = ps.length)
    (h : ∀ (f : Addr) (cdv : Value) (A : Around) (outer : List Env) (s : Shared) (H : Hp) (vs : List V) (Q : VK) (E : XK), Room k (A.deeper (PyProof.Rows.envOfC qual (defScope st) s.heap.objs.size f cdv)) → sp vs H Q E →
      ∃ t, PSs (cxOf CX0 P w K mg base N qual (defScope st) f cdv A outer s H E).nox (defBody st) t ∧ t { nx := fun _ H' => Q .non H', rt := Q } (start N vs) H) : CalC P w K mg base (k + 1) x C ps dvs sp := by
  obtain ⟨f, fd, ds, F1, M, b, hd, hm⟩ := F.ex
  refine ⟨f, fd, ds, F1.ok S len fun cdv A outer s H vs Q E hr hsp => ?_, M, b, hd, hm⟩
  obtain ⟨t, h1, q⟩ := h f cdv A outer s H vs Q E hr hsp
  exact ⟨t, h1.nox, q⟩
theorem CalM.mono {j : Nat} (F : CalM P w K mg base j C m ps sp) (h : j ≤ k) : CalM P w K mg base k C m ps sp := by
  obtain ⟨f, fd, F1, M, b⟩ := F.ex
  exact ⟨f, fd, F1.mono h, M, b⟩
/-- at its own address -/
theorem Bm.ok {g : Addr} (F : Bm K C m qual st g ps) (S : FnScope N ps (defScope st)) (len : ∀ vs H Q E, sp vs H Q E → vs.length = ps.length)
    (h : ∀ (cdv : Value) (A : Around) (outer : List Env) (s : Shared) (H : Hp) (vs : List V) (Q : VK) (E : XK), Room k (A.deeper (PyProof.Rows.envOfC qual (defScope st) s.heap.objs.size g cdv)) → sp vs H Q E →
      ∃ t, PSs (cxOf CX0 P w K mg base N qual (defScope st) g cdv A outer s H E).nox (defBody st) t ∧ t { nx := fun _ H' => Q .non H', rt := Q } (start N vs) H) :
    ∃ fd, FnOk P w K mg base CX0 (k + 1) g fd ps sp ∧ BMeth K C m g ∧ Binds K fd ps [] := by
  obtain ⟨fd, F1, M, b⟩ := F.ex
  exact ⟨fd, F1.ok S len h, M, b⟩
end
section
variable {X : Cx} {C : Addr} {m x : Str} {ps : List Str} {sp : Sp} {k : Nat} {o e : Expr} {es : List Expr} {ta : TE} {t : TA} {p apos pos : Pos} {pl : Sem Bool} {dvs : List V}
theorem pe_calM (F : CalM X.prog X.w X.K X.mg X.base k C m ps sp) (c : Cls X.K C) (hr : Room k X.A) (he : PE X o ta) (ha : PA X (e :: es) t)
    (hst : starEach (e :: es) X.env = (false, eval e X.env) :: starEach es X.env := by rfl) (hpl : (backTo pos (starEach es X.env)).any (·.1) = false := by rfl)
    (ht : eval (.Call (.Attribute o m apos) (e :: es) [] pos) X.env = (do let ov ← eval o X.env; standAt apos.atName; let (f, first) ← holding [ov] (getMethod ov m pl); callWith pos f first (backTo pos (starEach (e :: es) X.env)) (backToKw pos (keywordEach [] X.env))) := by rfl) :
    PE X (.Call (.Attribute o m apos) (e :: es) [] pos) (tMeth C m sp [] E0 ta t) := by
  obtain ⟨f, fd, F1, M, b⟩ := F.ex
  exact pe_meth he c M F1 hr b .nil pass0 ha hst hpl ht
theorem pe_calM0 (F : CalM X.prog X.w X.K X.mg X.base k C m ps sp) (c : Cls X.K C) (hr : Room k X.A) (he : PE X o ta)
    (ht : eval (.Call (.Attribute o m apos) [] [] pos) X.env = (do let ov ← eval o X.env; standAt apos.atName; let (f, first) ← holding [ov] (getMethod ov m pl); callWith pos f first (backTo pos (starEach [] X.env)) (backToKw pos (keywordEach [] X.env))) := by rfl) :
    PE X (.Call (.Attribute o m apos) [] [] pos) (tMeth C m sp [] E0 ta tNil) := by
  obtain ⟨f, fd, F1, M, b⟩ := F.ex
  exact pe_meth0 he c M F1 hr b .nil pass0 ht
theorem pe_calC (F : CalC X.prog X.w X.K X.mg X.base k x C ps dvs sp) (hr : Room (k + 1) X.A) (ha : PA X (e :: es) t) (hg : Gl X x := by rfl) (hdb : (x == ("__debug__" : Str)) = false := by decide)
    (he : starEach (e :: es) X.env = (false, eval e X.env) :: starEach es X.env := by rfl) (hpl : (backTo pos (starEach es X.env)).any (·.1) = false := by rfl) : PE X (.Call (.Name x p) (e :: es) [] pos) (tMake C sp dvs E0 t) := by
  obtain ⟨f, fd, ds, F1, M, b, hd, hm⟩ := F.ex
  exact pe_make M F1 hr hg hm b hd pass0 ha hdb he hpl
theorem pe_calC0 (F : CalC X.prog X.w X.K X.mg X.base k x C ps dvs sp) (hr : Room (k + 1) X.A) (hg : Gl X x := by rfl) (hdb : (x == ("__debug__" : Str)) = false := by decide) : PE X (.Call (.Name x p) [] [] pos) (tMake C sp dvs E0 tNil) := by
  obtain ⟨f, fd, ds, F1, M, b, hd, hm⟩ := F.ex
  exact pe_make0 M F1 hr hg hm b hd pass0 hdb
theorem pe_fldK {K : PySem.W.Frag} {f : Str} (he : PE X e ta) (hb : attributeBase e f X.env (eval e X.env) = eval e X.env := by rfl) (hK : X.K = K := by rfl) : PE X (.Attribute e f pos) (tFld K ta f) := by
  subst hK
  exact pe_fld he hb
/-- a statement that is never come to -/
theorem ps_dead {st : Stmt} : PS X st (fun _ _ _ => False) := ⟨fun _ _ _ _ _ _ h => h.elim⟩
/-- o.m, not called: a new bound method -/
def tBnd (C g : Addr) (m : Str) (ta : TE) : TE := fun σ H Q => ta σ H fun x H1 => ∃ a dx fs, x = .ref a ∧ H1 a = some (.ins C dx fs) ∧ fs.lookup m = none ∧ ∀ q, H1 q = none → Q (.ref q) (upd H1 q (.met g a))
theorem pe_bnd {g : Addr} (he : PE X e ta) (c : Cls X.K C) (b : BMeth X.K C m g) (hb : attributeBase e m X.env (eval e X.env) = eval e X.env := by rfl) : PE X (.Attribute e m pos) (tBnd C g m ta) := by
  refine ⟨fun pins s σ H Q I h => ?_⟩
  refine attr_of hb (thn (he.run pins s σ H _ I h) fun u s1 ⟨x, H1, I1, rx, a, dx, fs, ex, ea, l, q⟩ => ?_)
  subst ex
  exact op_getbound I1 ea c b l rx q
/-- y(e, ..), y a name that holds a bound method; S tells what the method's def promises -/
def tMet (i : Nat) (S : Addr → Option Sp) (t : TA) : TE := fun σ H Q => ∃ q g a sp, σ[i]? = some (some (.ref q)) ∧ H q = some (.met g a) ∧ S g = some sp ∧ t σ H fun vs H1 => H1 q = some (.met g a) ∧ sp (.ref a :: vs) H1 Q E0
structure HeldM (P : Program) (w : World) (K : PySem.W.Frag) (mg : Str → Option Value) (base : Heap) (k : Nat) (g : Addr) (sp : Sp) : Prop where
  ex : ∃ (fd : FuncData) (ps : List Str), FnOk P w K mg base CX0 k g fd ps sp ∧ PySem.W.fnIn K g = true ∧ Binds K fd ps []
theorem pe_met {i : Nat} {S : Addr → Option Sp} (A : ∀ g sp, S g = some sp → HeldM X.prog X.w X.K X.mg X.base k g sp) (hr : Room k X.A) (hN : X.N[i]? = some x) (hv : Vis X.env.scope x) (ha : PA X (e :: es) t)
    (hdb : (x == ("__debug__" : Str)) = false := by decide) (hcd : (x == ("__classdict__" : Str)) = false := by decide)
    (he : starEach (e :: es) X.env = (false, eval e X.env) :: starEach es X.env := by rfl) (hpl : (backTo pos (starEach es X.env)).any (·.1) = false := by rfl) : PE X (.Call (.Name x p) (e :: es) [] pos) (tMet i S t) := by
  refine ⟨fun pins s σ H Q I h => ?_⟩
  obtain ⟨q, g, a, sp, hs, hq, hS, ht⟩ := h
  obtain ⟨fd, ps, F, hfi, hb⟩ := (A g sp hS).ex
  refine wpAny_Call_Name_kw (thn ((pe_var (pos := p) hN hv hdb hcd).run pins s σ H (fun v H1 => v = .ref q ∧ H1 = H) I ⟨.ref q, hs, rfl, rfl⟩) fun u s1 ⟨v, H1, I1, r1, q1⟩ => ?_)
  obtain ⟨rfl, rfl⟩ := q1
  cases r1
  have args := ha.run pos pins s1 σ _ _ I1 ht
  rw [he] at args ⊢
  refine callwith_met (by show ((false || (backTo pos (starEach es X.env)).any (·.1)) || false) = false; rw [hpl]; rfl) hfi (PySem.Calls.evalArgs_plain (thn args fun us s2 ⟨vs, H2, I2, r, hq2, q2⟩ => ⟨met_P I2 hq2, ?_⟩))
  have r2 : Vals (V.ref a :: vs) (Value.ref a :: us) := .cons rfl r
  have hl : (Value.ref a :: us ++ []).length = ps.length := by rw [List.append_nil, ← r2.length]; exact F.len _ _ _ _ q2
  have hbt := hb s2 (Value.ref a :: us) I2.kIn hl
  rw [List.append_nil] at hbt
  refine wpAny_call (call_met I2 hq2 (codeAny_mono (F.run X.A X.stack s2 H2 ⟨.ref a :: us, []⟩ (.ref a :: us) (.ref a :: vs) Q E0 hr I2.env0 hbt r2 q2) fun r3 s3 hq3 => match r3, hq3 with
    | .error _, z => (z : False).elim
    | .ok (.ret _), z => I2.after z
    | .ok .next, z => (z : False).elim
    | .ok .brk, z => (z : False).elim
    | .ok .cont, z => (z : False).elim))
end
def top (i : Nat) : Stmt := PySem.Challenge.pw_stemkeep_k34_pieces_and_parts.main.body.getD i (.Pass ⟨0, 0, 0, 0⟩)
abbrev sNumberOf : Stmt := top 18
theorem scNumberOf : FnScope ["worth", "start", "end", "number"] ["worth"] (defScope sNumberOf) := ⟨rfl, rfl, rfl, by decide +kernel, rfl, by decide +kernel, by decide +kernel⟩
abbrev sNumberOfFigures : Stmt := top 19
theorem scNumberOfFigures : FnScope ["figures", "first", "number", "at"] ["figures"] (defScope sNumberOfFigures) := ⟨rfl, rfl, rfl, by decide +kernel, rfl, by decide +kernel, by decide +kernel⟩
abbrev sNumberText : Stmt := top 20
theorem scNumberText : FnScope ["number", "left", "pieces", "figures", "low"] ["number"] (defScope sNumberText) := ⟨rfl, rfl, rfl, by decide +kernel, rfl, by decide +kernel, by decide +kernel⟩
abbrev sTreeInit : Stmt := inClass (top 39) 0
theorem scTreeInit : FnScope ["self"] ["self"] (defScope sTreeInit) := ⟨rfl, rfl, rfl, by decide +kernel, rfl, by decide +kernel, by decide +kernel⟩
abbrev sArraysInit : Stmt := inClass (top 41) 0
theorem scArraysInit : FnScope ["self"] ["self"] (defScope sArraysInit) := ⟨rfl, rfl, rfl, by decide +kernel, rfl, by decide +kernel, by decide +kernel⟩
abbrev sPieceOf : Stmt := top 63
theorem scPieceOf : FnScope ["one", "other", "nth", "pieces"] ["one", "other", "nth"] (defScope sPieceOf) := ⟨rfl, rfl, rfl, by decide +kernel, rfl, by decide +kernel, by decide +kernel⟩
abbrev sPartOf : Stmt := top 64
theorem scPartOf : FnScope ["one", "first", "last"] ["one", "first", "last"] (defScope sPartOf) := ⟨rfl, rfl, rfl, by decide +kernel, rfl, by decide +kernel, by decide +kernel⟩
abbrev sSceneInit : Stmt := inClass (top 67) 0
theorem scSceneInit : FnScope ["self", "own", "dealings", "job"] ["self", "own", "dealings", "job"] (defScope sSceneInit) := ⟨rfl, rfl, rfl, by decide +kernel, rfl, by decide +kernel, by decide +kernel⟩
abbrev sSceneReckon : Stmt := inClass (top 67) 1
theorem scSceneReckon : FnScope ["self", "expression", "ahead"] ["self", "expression"] (defScope sSceneReckon) := ⟨rfl, rfl, rfl, by decide +kernel, rfl, by decide +kernel, by decide +kernel⟩
abbrev sSceneWorthOf : Stmt := inClass (top 67) 5
theorem scSceneWorthOf : FnScope ["self", "expression", "way", "worth"] ["self", "expression"] (defScope sSceneWorthOf) := ⟨rfl, rfl, rfl, by decide +kernel, rfl, by decide +kernel, by decide +kernel⟩
abbrev sSceneNumberOf : Stmt := inClass (top 67) 6
theorem scSceneNumberOf : FnScope ["self", "expression"] ["self", "expression"] (defScope sSceneNumberOf) := ⟨rfl, rfl, rfl, by decide +kernel, rfl, by decide +kernel, by decide +kernel⟩
abbrev sSceneIs : Stmt := inClass (top 67) 10
theorem scSceneIs : FnScope ["self", "expression"] ["self", "expression"] (defScope sSceneIs) := ⟨rfl, rfl, rfl, by decide +kernel, rfl, by decide +kernel, by decide +kernel⟩
abbrev sSceneNode : Stmt := inClass (top 67) 11
theorem scSceneNode : FnScope ["self", "expression", "worth"] ["self", "expression"] (defScope sSceneNode) := ⟨rfl, rfl, rfl, by decide +kernel, rfl, by decide +kernel, by decide +kernel⟩
abbrev sSceneOp : Stmt := inClass (top 67) 12
theorem scSceneOp : FnScope ["self", "expression", "_", "sign", "one", "other", "first"] ["self", "expression"] (defScope sSceneOp) := ⟨rfl, rfl, rfl, by decide +kernel, rfl, by decide +kernel, by decide +kernel⟩
abbrev sSceneNot : Stmt := inClass (top 67) 13
theorem scSceneNot : FnScope ["self", "expression"] ["self", "expression"] (defScope sSceneNot) := ⟨rfl, rfl, rfl, by decide +kernel, rfl, by decide +kernel, by decide +kernel⟩
abbrev sSceneMinus : Stmt := inClass (top 67) 14
theorem scSceneMinus : FnScope ["self", "expression"] ["self", "expression"] (defScope sSceneMinus) := ⟨rfl, rfl, rfl, by decide +kernel, rfl, by decide +kernel, by decide +kernel⟩
abbrev sSceneLength : Stmt := inClass (top 67) 15
theorem scSceneLength : FnScope ["self", "expression"] ["self", "expression"] (defScope sSceneLength) := ⟨rfl, rfl, rfl, by decide +kernel, rfl, by decide +kernel, by decide +kernel⟩
abbrev sScenePiece : Stmt := inClass (top 67) 16
theorem scScenePiece : FnScope ["self", "expression", "one", "other"] ["self", "expression"] (defScope sScenePiece) := ⟨rfl, rfl, rfl, by decide +kernel, rfl, by decide +kernel, by decide +kernel⟩
abbrev sScenePart : Stmt := inClass (top 67) 17
theorem scScenePart : FnScope ["self", "expression", "one", "first"] ["self", "expression"] (defScope sScenePart) := ⟨rfl, rfl, rfl, by decide +kernel, rfl, by decide +kernel, by decide +kernel⟩
abbrev sSceneNextKey : Stmt := inClass (top 67) 18
theorem scSceneNextKey : FnScope ["self", "expression", "word", "place", "is_own", "ref"] ["self", "expression"] (defScope sSceneNextKey) := ⟨rfl, rfl, rfl, by decide +kernel, rfl, by decide +kernel, by decide +kernel⟩
abbrev sSceneData : Stmt := inClass (top 67) 19
theorem scSceneData : FnScope ["self", "expression", "is_own", "ref"] ["self", "expression"] (defScope sSceneData) := ⟨rfl, rfl, rfl, by decide +kernel, rfl, by decide +kernel, by decide +kernel⟩
abbrev sSceneOther : Stmt := inClass (top 67) 20
theorem scSceneOther : FnScope ["self", "expression", "worth"] ["self", "expression"] (defScope sSceneOther) := ⟨rfl, rfl, rfl, by decide +kernel, rfl, by decide +kernel, by decide +kernel⟩
abbrev sDealingsInit : Stmt := inClass (top 69) 0
theorem scDealingsInit : FnScope ["self", "arrays"] ["self", "arrays"] (defScope sDealingsInit) := ⟨rfl, rfl, rfl, by decide +kernel, rfl, by decide +kernel, by decide +kernel⟩
abbrev sLawCellAt : Stmt := top 73
theorem scLawCellAt : FnScope ["script", "k"] ["script", "k"] (defScope sLawCellAt) := ⟨rfl, rfl, rfl, by decide +kernel, rfl, by decide +kernel, by decide +kernel⟩
abbrev sLawBag : Stmt := top 74
theorem scLawBag : FnScope ["cell"] ["cell"] (defScope sLawBag) := ⟨rfl, rfl, rfl, by decide +kernel, rfl, by decide +kernel, by decide +kernel⟩
abbrev sLawDraw : Stmt := top 75
theorem scLawDraw : FnScope ["bag", "many", "one"] ["bag", "many"] (defScope sLawDraw) := ⟨rfl, rfl, rfl, by decide +kernel, rfl, by decide +kernel, by decide +kernel⟩
abbrev sLawKey : Stmt := top 76
theorem scLawKey : FnScope ["bag", "some", "signs", "k"] ["bag"] (defScope sLawKey) := ⟨rfl, rfl, rfl, by decide +kernel, rfl, by decide +kernel, by decide +kernel⟩
abbrev sLawWorth : Stmt := top 77
theorem scLawWorth : FnScope ["bag", "some", "lot"] ["bag"] (defScope sLawWorth) := ⟨rfl, rfl, rfl, by decide +kernel, rfl, by decide +kernel, by decide +kernel⟩
abbrev sLawNumber : Stmt := top 78
theorem scLawNumber : FnScope ["worth", "k", "minus", "number"] ["worth"] (defScope sLawNumber) := ⟨rfl, rfl, rfl, by decide +kernel, rfl, by decide +kernel, by decide +kernel⟩
abbrev sLawPiece : Stmt := top 79
theorem scLawPiece : FnScope ["one", "other", "nth", "found", "here", "k"] ["one", "other", "nth"] (defScope sLawPiece) := ⟨rfl, rfl, rfl, by decide +kernel, rfl, by decide +kernel, by decide +kernel⟩
abbrev sLawText : Stmt := top 80
theorem scLawText : FnScope ["bag", "few", "k"] ["bag"] (defScope sLawText) := ⟨rfl, rfl, rfl, by decide +kernel, rfl, by decide +kernel, by decide +kernel⟩
abbrev sLawNth : Stmt := top 81
theorem scLawNth : FnScope ["bag", "most", "some"] ["bag", "most"] (defScope sLawNth) := ⟨rfl, rfl, rfl, by decide +kernel, rfl, by decide +kernel, by decide +kernel⟩
abbrev sLawPiecesRight : Stmt := top 82
theorem scLawPiecesRight : FnScope ["scene", "one", "other", "nth", "due", "found", "k", "many", "piece"] ["scene", "one", "other", "nth"] (defScope sLawPiecesRight) := ⟨rfl, rfl, rfl, by decide +kernel, rfl, by decide +kernel, by decide +kernel⟩
abbrev sLawPartRight : Stmt := top 83
theorem scLawPartRight : FnScope ["scene", "one", "first", "last", "begin", "end", "due", "k"] ["scene", "one", "first", "last"] (defScope sLawPartRight) := ⟨rfl, rfl, rfl, by decide +kernel, rfl, by decide +kernel, by decide +kernel⟩
abbrev sLaw : Stmt := top 84
theorem scLaw : FnScope ["script", "scene", "k", "bag", "turn", "one", "other"] ["script"] (defScope sLaw) := ⟨rfl, rfl, rfl, by decide +kernel, rfl, by decide +kernel, by decide +kernel⟩
structure Tabs where
  a_Tree : Addr
  a_Arrays : Addr
  a_Dealings : Addr
  a_Scene : Addr
  m_Scene__is : Addr
  m_Scene__node : Addr
  m_Scene__op : Addr
  m_Scene__not : Addr
  m_Scene__minus : Addr
  m_Scene__length : Addr
  m_Scene__piece : Addr
  m_Scene__part : Addr
  m_Scene__next_key : Addr
  m_Scene__data : Addr
  m_Scene__other : Addr
theorem tabB_of {base : Heap} {mg : Str → Option Value} {c P : Addr} (h : LamX.TabB base mg c P) : GxR.TabB base mg c P := ⟨h.code, h.bm, h.gP⟩
structure Txt (K : PySem.W.Frag) (mg : Str → Option Value) (cs : Tabs) : Prop where
  cl_Tree : Cls K cs.a_Tree
  no_Tree_worth : NoAttr K cs.a_Tree "worth"
  no_Tree_row : NoAttr K cs.a_Tree "row"
  no_Tree_beneath : NoAttr K cs.a_Tree "beneath"
  cl_Arrays : Cls K cs.a_Arrays
  no_Arrays__tree : NoAttr K cs.a_Arrays "_tree"
  cl_Dealings : Cls K cs.a_Dealings
  no_Dealings__arrays : NoAttr K cs.a_Dealings "_arrays"
  no_Dealings__begun : NoAttr K cs.a_Dealings "_begun"
  cl_Scene : Cls K cs.a_Scene
  no_Scene__own : NoAttr K cs.a_Scene "_own"
  no_Scene__dealings : NoAttr K cs.a_Scene "_dealings"
  no_Scene__job : NoAttr K cs.a_Scene "_job"
  no_Scene__last : NoAttr K cs.a_Scene "_last"
  no_Scene__ways : NoAttr K cs.a_Scene "_ways"
  f_number_of : Ftx K mg "number_of" sNumberOf ["worth"]
  f_number_of_figures : Ftx K mg "_number_of_figures" sNumberOfFigures ["figures"]
  f_number_text : Ftx K mg "number_text" sNumberText ["number"]
  f_Tree___init__ : Ftk K mg "Tree" cs.a_Tree "Tree.__init__" sTreeInit ["self"] []
  f_Arrays___init__ : Ftk K mg "Arrays" cs.a_Arrays "Arrays.__init__" sArraysInit ["self"] []
  f_piece_of : Ftx K mg "piece_of" sPieceOf ["one", "other", "nth"]
  f_part_of : Ftx K mg "part_of" sPartOf ["one", "first", "last"]
  f_Scene___init__ : Ftk K mg "Scene" cs.a_Scene "Scene.__init__" sSceneInit ["self", "own", "dealings", "job"] [(.int 0)]
  f_Scene_reckon : Ftm K cs.a_Scene "reckon" "Scene.reckon" sSceneReckon ["self", "expression"]
  f_Scene__worth_of : Ftm K cs.a_Scene "_worth_of" "Scene._worth_of" sSceneWorthOf ["self", "expression"]
  f_Scene__number_of : Ftm K cs.a_Scene "_number_of" "Scene._number_of" sSceneNumberOf ["self", "expression"]
  f_Scene__is : Bm K cs.a_Scene "_is" "Scene._is" sSceneIs cs.m_Scene__is ["self", "expression"]
  f_Scene__node : Bm K cs.a_Scene "_node" "Scene._node" sSceneNode cs.m_Scene__node ["self", "expression"]
  f_Scene__op : Bm K cs.a_Scene "_op" "Scene._op" sSceneOp cs.m_Scene__op ["self", "expression"]
  f_Scene__not : Bm K cs.a_Scene "_not" "Scene._not" sSceneNot cs.m_Scene__not ["self", "expression"]
  f_Scene__minus : Bm K cs.a_Scene "_minus" "Scene._minus" sSceneMinus cs.m_Scene__minus ["self", "expression"]
  f_Scene__length : Bm K cs.a_Scene "_length" "Scene._length" sSceneLength cs.m_Scene__length ["self", "expression"]
  f_Scene__piece : Bm K cs.a_Scene "_piece" "Scene._piece" sScenePiece cs.m_Scene__piece ["self", "expression"]
  f_Scene__part : Bm K cs.a_Scene "_part" "Scene._part" sScenePart cs.m_Scene__part ["self", "expression"]
  f_Scene__next_key : Bm K cs.a_Scene "_next_key" "Scene._next_key" sSceneNextKey cs.m_Scene__next_key ["self", "expression"]
  f_Scene__data : Bm K cs.a_Scene "_data" "Scene._data" sSceneData cs.m_Scene__data ["self", "expression"]
  f_Scene__other : Bm K cs.a_Scene "_other" "Scene._other" sSceneOther cs.m_Scene__other ["self", "expression"]
  f_Dealings___init__ : Ftk K mg "Dealings" cs.a_Dealings "Dealings.__init__" sDealingsInit ["self", "arrays"] []
  f_law_cell_at : Ftx K mg "_law_cell_at" sLawCellAt ["script", "k"]
  f_law_bag : Ftx K mg "_law_bag" sLawBag ["cell"]
  f_law_draw : Ftx K mg "_law_draw" sLawDraw ["bag", "many"]
  f_law_key : Ftx K mg "_law_key" sLawKey ["bag"]
  f_law_worth : Ftx K mg "_law_worth" sLawWorth ["bag"]
  f_law_number : Ftx K mg "_law_number" sLawNumber ["worth"]
  f_law_piece : Ftx K mg "_law_piece" sLawPiece ["one", "other", "nth"]
  f_law_text : Ftx K mg "_law_text" sLawText ["bag"]
  f_law_nth : Ftx K mg "_law_nth" sLawNth ["bag", "most"]
  f_law_pieces_right : Ftx K mg "_law_pieces_right" sLawPiecesRight ["scene", "one", "other", "nth"]
  f_law_part_right : Ftx K mg "_law_part_right" sLawPartRight ["scene", "one", "first", "last"]
  f_law : Ftx K mg "law" sLaw ["script"]
  nd : [cs.m_Scene__is, cs.m_Scene__node, cs.m_Scene__op, cs.m_Scene__not, cs.m_Scene__minus, cs.m_Scene__length, cs.m_Scene__piece, cs.m_Scene__part, cs.m_Scene__next_key, cs.m_Scene__data, cs.m_Scene__other].Nodup
  n_len : mg "len" = none
  n_int : mg "int" = none
  n_range : mg "range" = none
  n_abs : mg "abs" = none
  n_divmod : mg "divmod" = none
  n_str : mg "str" = none
  n_max : mg "max" = none
  n_isinstance : mg "isinstance" = none
  n_sum : mg "sum" = none
  n_min : mg "min" = none
  g__FIGURES : ∃ u, mg "_FIGURES" = some u ∧ RelV (.str "0123456789") u
  g__LONGEST_WORTH : ∃ u, mg "_LONGEST_WORTH" = some u ∧ RelV (.int 2000) u
structure TBs (base : Heap) (mg : Str → Option Value) (cs : Tabs) : Prop where
  triv : True
structure TGs (H : Hp) (cs : Tabs) : Prop where
  triv : True
theorem TGs.sm {H H' : Hp} {cs : Tabs} (t : TGs H cs) (S : Sm H H') : TGs H' cs := ⟨trivial⟩
theorem TGs.go {b : Addr} {n : Nat} {H H' : Hp} {cs : Tabs} (t : TGs H cs) (S : Go b n H H') : TGs H' cs := ⟨trivial⟩
/-! ### a draw -/
def spDraw : Sp := fun vs H Q _ => ∃ (b : Addr) (many : Int) (m : Nat), vs = [.ref b, .int many] ∧ Bag H b m ∧ m ≤ LIM ∧ 0 < many ∧ many < 2 ^ 256 ∧ ∀ (r : Int) (H' : Hp), 0 ≤ r → r < many → Go b 1 H H' → Q (.int r) H'
theorem nat_lt {i : Int} {n : Nat} (h0 : 0 ≤ i) (h : i < ((2 ^ n : Nat) : Int)) : i.natAbs < 2 ^ n := by omega
theorem draw_set {b : Addr} {m : Nat} {H : Hp} {x y z x' z' : Int} (hb : H b = some (.lst [.int x, .int y, .int z])) (hz : z' = z ∨ z' = z + 1) : Go b 1 H (upd H b (.lst [.int x', .int y, .int z'])) := by
  refine ⟨fun a o e h _ => by rw [upd_ne e]; exact h, fun k hk => ?_, fun P t => TabG.upd t (no_tbl hb), fun a ha => by
    by_cases e : a = b
    · rw [e, upd_same] at ha
      cases ha
    · rw [upd_ne e] at ha
      exact ha⟩
  obtain ⟨x1, y1, z1, h1, h2, h3, h4, h5⟩ := hk
  rw [hb] at h1
  injection h1 with h1
  injection h1 with h1
  injection h1 with e1 h1
  injection h1 with e2 h1
  injection h1 with e3 h1
  injection e1 with e1
  injection e2 with e2
  injection e3 with e3
  subst e1 e2 e3
  exact ⟨x', y, z', upd_same, h2, h3, by omega, by omega⟩
/-! ### texts, menus, comprehensions of draws -/
/-- a sign of worths -/
def sgn (c : Nat) : Bool := decide (32 ≤ c) && (decide (c ≤ 126) && !decide (c = 37))
/-- a text of signs of worths, of at most n signs -/
structure WT (z : Str) (n : Nat) : Prop where
  len : (tl z).length ≤ n
  sg : ∀ c ∈ tl z, sgn c = true
theorem WT.mono {z : Str} {n m : Nat} (h : WT z n) (l : n ≤ m) : WT z m := ⟨Nat.le_trans h.len l, h.sg⟩
theorem WT.line {z : Str} {n : Nat} (h : WT z n) (l : n ≤ 100000) : z.length ≤ sizeLine := by
  rw [len_tl]
  exact small (Nat.le_trans h.len l)
theorem tl_cut (z : Str) (k : Nat) : tl (cutS z none (some (k : Int))) = (tl z).take k := by
  show (((z.cps.toList.drop (HT.sIx z.length 0 none)).take (HT.sIx z.length z.length (some (k : Int)) - HT.sIx z.length 0 none)).toArray).toList = _
  rw [HT.sIx_none, HT.sIx_nat, List.drop_zero, Nat.sub_zero, List.toList_toArray]
  have e : z.length = (tl z).length := len_tl z
  rw [e]
  show (tl z).take (min k (tl z).length) = _
  by_cases h : k ≤ (tl z).length
  · rw [Nat.min_eq_left h]
  · rw [Nat.min_eq_right (by omega), List.take_of_length_le (Nat.le_refl _), List.take_of_length_le (by omega)]
theorem WT.cut {z : Str} (h : ∀ c ∈ tl z, sgn c = true) (k : Nat) : WT (cutS z none (some (k : Int))) k :=
  ⟨by rw [tl_cut, List.length_take]; exact Nat.min_le_left _ _, fun c hc => h c (by rw [tl_cut] at hc; exact List.mem_of_mem_take hc)⟩
theorem WT.int {i : Int} {k : Nat} (hk : 0 < k) (h : i.natAbs < 10 ^ k) : WT (Str.ofString (toString i)) (k + 1) := by
  refine ⟨?_, fun c hc => ?_⟩
  · rw [← len_tl, PySem.ofString_length]
    exact PySem.int_text_length_le10 hk h
  · have f := fun q hq => PyProof.Rows.int_text_free' q hq i
    have z : ¬ (c ≠ 45 ∧ (c < 48 ∨ 57 < c)) := fun q => f c q hc
    unfold sgn
    by_cases e : c = 45
    · subst e; rfl
    · have q : 48 ≤ c ∧ c ≤ 57 := by omega
      rw [decide_eq_true (show 32 ≤ c by omega), decide_eq_true (show c ≤ 126 by omega), decide_eq_false (show ¬ c = 37 by omega)]
      rfl
theorem joinL_nil : ∀ ps : List (List Nat), joinL [] ps = ps.flatten
  | [] => rfl
  | [p] => by
    show p = [p].flatten
    simp
  | p :: q :: r => by
    show p ++ ([] ++ joinL [] (q :: r)) = _
    rw [joinL_nil (q :: r), List.nil_append]
    rfl
theorem tl_glue (ys : List Str) : tl (Txt.join "" ys) = (ys.map tl).flatten := by
  rw [join_eq, tl_join]
  exact joinL_nil _
theorem flat_len {k : Nat} : ∀ ys : List Str, (∀ y ∈ ys, (tl y).length ≤ k) → (ys.map tl).flatten.length ≤ k * ys.length
  | [], _ => by simp
  | y :: r, h => by
    have a := h y List.mem_cons_self
    have b := flat_len r fun z hz => h z (List.mem_cons_of_mem _ hz)
    rw [List.map_cons, List.flatten_cons, List.length_append, List.length_cons, Nat.mul_succ]
    omega
theorem WT.glue {k : Nat} {ys : List Str} (h : ∀ y ∈ ys, WT y k) : WT (Txt.join "" ys) (k * ys.length) := by
  refine ⟨by rw [tl_glue]; exact flat_len ys fun y hy => (h y hy).len, fun c hc => ?_⟩
  rw [tl_glue] at hc
  obtain ⟨l, hl, hcl⟩ := List.mem_flatten.mp hc
  obtain ⟨y, hy, rfl⟩ := List.mem_map.mp hl
  exact (h y hy).sg c hcl
theorem glue_sum {k : Nat} : ∀ ys : List Str, (∀ y ∈ ys, (tl y).length ≤ k) → (ys.map (·.length)).sum ≤ k * ys.length
  | [], _ => by simp
  | y :: r, h => by
    have a := h y List.mem_cons_self
    have b := glue_sum r fun z hz => h z (List.mem_cons_of_mem _ hz)
    have c : y.length = (tl y).length := len_tl y
    rw [List.map_cons, List.sum_cons, List.length_cons, Nat.mul_succ]
    omega
theorem glue_ok {k n : Nat} {ys : List Str} (h : ∀ y ∈ ys, (tl y).length ≤ k) (hl : ys.length = n) (hb : k * n ≤ 1000000) : (ys.map (·.length)).sum + ys.length * ("" : Str).length ≤ 16777216 := by
  have a := glue_sum ys h
  rw [hl] at a
  have e : ("" : Str).length = 0 := rfl
  rw [e]
  omega
/-- texts as values: what a list of values that are texts holds -/
theorem texts_of {P : Str → Prop} : ∀ vs : List V, (∀ v ∈ vs, ∃ y, v = .str y ∧ P y) → ∃ ys : List Str, vs = ys.map V.str ∧ ys.length = vs.length ∧ ∀ y ∈ ys, P y
  | [], _ => ⟨[], rfl, rfl, fun _ h => by cases h⟩
  | v :: r, h => by
    obtain ⟨y, rfl, hy⟩ := h v List.mem_cons_self
    obtain ⟨ys, rfl, e, hp⟩ := texts_of r fun z hz => h z (List.mem_cons_of_mem _ hz)
    refine ⟨y :: ys, rfl, by rw [List.length_cons, List.length_cons, e], fun z hz => ?_⟩
    rcases List.mem_cons.mp hz with rfl | hz
    · exact hy
    · exact hp z hz
section
variable {K : PySem.W.Frag}
/-- the n-th of a list that is written on the spot, n drawn -/
theorem menuG {A : V → Prop} {b : Addr} {i n c m : Nat} {σ : L2.St} {H : Hp} {ta : TA} {Q : VK} (ha : ∀ R : List V → Hp → Prop, (∀ xs H1, xs.length = n → (∀ v ∈ xs, A v) → Go b c H H1 → R xs H1) → ta σ H R)
    (hb : σ[i]? = some (some (.ref b))) (B : Bag H b m) (hm : m + c ≤ LIM) (h0 : 0 < n) (hn : n ≤ 1000) (q : ∀ v H', A v → Go b (c + 1) H H' → Q v H') : tOp (rIxL K) (tLst ta) (tCall spDraw [] E0 (tCons (tVar i) (tCons (tC (.int ((n : Nat) : Int))) tNil))) σ H Q := by
  refine ha _ fun xs H1 hl hA G => ⟨small (by omega), fun p hp => ?_⟩
  have B1 := (Go.new (o := .lst xs) hp).bag _ (G.bag _ B)
  refine ⟨_, hb, b, (n : Int), _, rfl, B1, by omega, by omega, by omega, fun r H' r0 r1 G' => ?_⟩
  have hp' : (upd H1 p (.lst xs)) p = some (.lst xs) := upd_same
  have np : p ≠ b := (G.bag _ B).ne hp
  obtain ⟨j, rfl⟩ : ∃ j : Nat, r = (j : Int) := ⟨r.toNat, by omega⟩
  have hj : j < xs.length := by omega
  refine ⟨p, xs, (j : Int), xs[j], rfl, rfl, SqL.of (G'.keep p _ np hp'), atI_nat (List.getElem?_eq_getElem hj), ?_⟩
  exact q _ _ (hA _ (List.getElem_mem hj)) ((G.trans ((Go.new hp).trans G')).mono (by omega))
/-- .. of values that are there -/
theorem menuC {A : V → Prop} {b : Addr} {i m : Nat} {xs : List V} {σ : L2.St} {H : Hp} {ta : TA} {Q : VK} (ha : ∀ R : List V → Hp → Prop, R xs H → ta σ H R) (hA : ∀ v ∈ xs, A v)
    (hb : σ[i]? = some (some (.ref b))) (B : Bag H b m) (hm : m ≤ LIM) (h0 : 0 < xs.length) (hn : xs.length ≤ 1000) (q : ∀ v H', A v → Go b 1 H H' → Q v H') : tOp (rIxL K) (tLst ta) (tCall spDraw [] E0 (tCons (tVar i) (tCons (tC (.int ((xs.length : Nat) : Int))) tNil))) σ H Q :=
  menuG (n := xs.length) (c := 0) (fun R h => ha R (h _ _ rfl hA (Go.refl b H))) hb B hm h0 hn fun v H' hv G => q v H' hv (G.mono (by omega))
theorem draw_here {b : Addr} {i m : Nat} {many : Int} {σ : L2.St} {H : Hp} {Q : VK} (hb : σ[i]? = some (some (.ref b))) (B : Bag H b m) (hm : m ≤ LIM) (h0 : 0 < many) (hn : many < 2 ^ 256) (q : ∀ (r : Int) (H' : Hp), 0 ≤ r → r < many → Go b 1 H H' → Q (.int r) H') :
    tCall spDraw [] E0 (tCons (tVar i) (tCons (tC (.int many)) tNil)) σ H Q := ⟨_, hb, b, many, m, rfl, B, hm, h0, hn, q⟩
/-- [e for k in range(n)], e by draws of the bag at b: a new list of n values that are so -/
theorem lc_draws {b : Addr} {i n c m : Nat} {σ : L2.St} {H1 : Hp} {D : Addr} {te : TE} {Q : VK} (A : V → Prop) (B : Bag H1 b m) (hD : H1 D = none) (hn : n ≤ 90000)
    (he : ∀ (j : Nat) (H : Hp), j < n → Bag H b (m + c * j) → Go b (c * j) H1 H → ∀ R : VK, (∀ y H', A y → Go b c H H' → R y H') → te ((σ.set i none).set i (some (.int (0 + (j : Int))))) H R)
    (hQ : ∀ ys H', ys.length = n → (∀ y ∈ ys, A y) → Go b (c * n) H1 H' → H' D = some (.lst ys) → Q (.ref D) H') :
    ∃ W : Nat → Nat → Hp → Prop, (∃ k, W 0 k (upd H1 D (.lst []))) ∧ ∀ j k H, W j k H →
      ((Itr 0 n).stop j H ∧ Q (.ref D) H) ∨ ((Itr 0 n).go j H ∧ ∃ Nx : Hp → Prop, (∀ H', Nx H' → ∃ k', k' < k ∧ W (j + 1) k' H') ∧ ∀ x H', (Itr 0 n).yld j H x H' → gName i x (wipe σ [i]) H' fun σ2 H2 => wipe σ2 [i] = wipe σ [i] ∧ tYes σ2 H2 fun b H3 =>
        if b = true then te σ2 H3 fun y H4 => ∃ acc, H4 D = some (.lst acc) ∧ acc.length < sizeLine ∧ Nx (upd H4 D (.lst (acc ++ [y]))) else Nx H3) := by
  have nD := B.ne hD
  refine lc_range (lo := 0) (n := n) (fun j H => ∃ ys : List V, ys.length = j ∧ (∀ y ∈ ys, A y) ∧ Go b (c * j) H1 H ∧ H D = some (.lst ys)) ⟨[], rfl, fun _ h => (by cases h), ?_, upd_same⟩ (fun j H hj hp => ?_) fun H hp => ?_
  · exact (Go.new hD).mono (by omega)
  · obtain ⟨ys, hl, hA, G, hy⟩ := hp
    refine ⟨?_, ?_⟩
    · show ((wipe σ [i]).set i (some (.int (0 + (j : Int))))).set i none = (σ.set i none)
      show ((σ.set i none).set i (some (.int (0 + (j : Int))))).set i none = (σ.set i none)
      rw [List.set_set, List.set_set]
    · show te ((σ.set i none).set i (some (.int (0 + (j : Int))))) H _
      refine he j H hj (G.bag _ B) G _ fun y H' hy' G' => ⟨ys, G'.keep D _ nD hy, small' (by omega), ys ++ [y], by rw [List.length_append, hl]; rfl, fun z hz => ?_, ?_, upd_same⟩
      · rcases List.mem_append.mp hz with hz | hz
        · exact hA z hz
        · rw [List.mem_singleton.mp hz]
          exact hy'
      · refine Go.own ((G.trans G').mono ?_) B hD (no_tbl (G'.keep D _ nD hy))
        rw [Nat.mul_succ]
        exact Nat.le_refl _
  · obtain ⟨ys, hl, hA, G, hy⟩ := hp
    exact hQ ys H hl hA G hy
theorem lc_drawn {b : Addr} {i N c c0 m : Nat} {σ : L2.St} {H : Hp} {ta : TA} {te : TE} {Q : VK} {A0 : Int → Prop} (A : V → Prop) (ha : ∀ R : List V → Hp → Prop, (∀ (k : Int) H1, A0 k → 0 ≤ k → k ≤ N → Go b c0 H H1 → R [.int k] H1) → ta σ H R) (B : Bag H b m) (hN : N ≤ 90000)
    (he : ∀ (j : Nat) (H2 : Hp), j < N → Bag H2 b (m + c0 + c * j) → Go b (c0 + c * j) H H2 → ∀ R : VK, (∀ y H', A y → Go b c H2 H' → R y H') → te ((σ.set i none).set i (some (.int (0 + (j : Int))))) H2 R)
    (hQ : ∀ (k : Int) D ys H', A0 k → 0 ≤ k → k ≤ N → ys.length = k.toNat → (∀ y ∈ ys, A y) → Go b (c0 + c * k.toNat) H H' → H' D = some (.lst ys) → H D = none → Q (.ref D) H') : tLc (iRng1 ta) (gName i) tYes te [i] σ H Q := by
  refine ha _ fun k H1 hk k0 k1 G => ⟨k, rfl, by omega, by omega, fun D hD => ?_⟩
  have B1 := G.bag _ B
  refine lc_draws (c := c) (i := i) (n := k.toNat) (te := te) A B1 hD (by omega) (fun j H2 hj B2 G2 R hR => ?_) fun ys H' hl hA G' hy => ?_
  · exact he j H2 (by omega) B2 (G.trans G2) R hR
  · exact hQ k D ys H' hk k0 k1 hl hA (G.trans G') hy (G.free B hD)
end
/-! ### the law's cells, bags, texts, names, keys, references -/
def spCellAt (K : PySem.W.Frag) : Sp := fun vs H Q _ => ∃ (a : Addr) (ns : List Int) (k : Nat), vs = [.ref a, .int (k : Int)] ∧ SqL K H a (ns.map V.int) ∧ ∀ c : Int, Q (.int c) H
def spBag : Sp := fun vs H Q _ => ∃ (c : Int) (k : Nat), vs = [.int c, .int (k : Int)] ∧ k ≤ 1000 ∧ ∀ (p : Addr) (H' : Hp), H p = none → Sm H H' → Bag H' p 0 → Q (.ref p) H'
def SIGNS : Str := " !\"#$&'()*+,-./0123456789:;<=>?@ABCDEFGHIJKLMNOPQRSTUVWXYZ[\\]^_`abcdefghijklmnopqrstuvwxyz{|}~"
def spSigns : Sp := fun vs H Q _ => vs = [] ∧ Q (.str SIGNS) H
def spText : Sp := fun vs H Q _ => ∃ (b : Addr) (most m : Nat), vs = [.ref b, .int (most : Int)] ∧ Bag H b m ∧ m + 2000 ≤ LIM ∧ most ≤ 1000 ∧ ∀ (z : Str) (H' : Hp), WT z most → Go b 1100 H H' → Q (.str z) H'
def AZ (c : Nat) : Bool := decide (97 ≤ c) && decide (c ≤ 122)
structure NM (z : Str) : Prop where
  len : (tl z).length ≤ 8
  pos : 1 ≤ (tl z).length
  sg : ∀ c ∈ tl z, AZ c = true
def spName : Sp := fun vs H Q _ => ∃ (b : Addr) (m : Nat), vs = [.ref b] ∧ Bag H b m ∧ m + 2000 ≤ LIM ∧ ∀ (z : Str) (H' : Hp), NM z → Go b 20 H H' → Q (.str z) H'
structure KEY (z : Str) : Prop where
  wt : WT z 40
  pos : 1 ≤ (tl z).length
def spKey : Sp := fun vs H Q _ => ∃ (b : Addr) (m : Nat), vs = [.ref b] ∧ Bag H b m ∧ m + 5000 ≤ LIM ∧ ∀ (z : Str) (H' : Hp), KEY z → Go b 1200 H H' → Q (.str z) H'
/-- a reference stands at p -/
structure RefAt (K : PySem.W.Frag) (H : Hp) (p : Addr) (name : Str) (keys : List Str) : Prop where
  ex : ∃ t : Addr, SqT K H p [.str name, .ref t] ∧ SqT K H t (keys.map V.str)
structure REF (name : Str) (keys : List Str) : Prop where
  nm : NM name
  le : keys.length ≤ 6
  ks : ∀ z ∈ keys, KEY z
def spRef (K : PySem.W.Frag) : Sp := fun vs H Q _ => ∃ (b : Addr) (m : Nat), vs = [.ref b] ∧ Bag H b m ∧ m + 20000 ≤ LIM ∧ ∀ (p : Addr) (name : Str) (keys : List Str) (H' : Hp), REF name keys → RefAt K H' p name keys → Go b 8000 H H' → Q (.ref p) H'
theorem sgn_of {z : Str} (h : (tl z).all sgn = true) : ∀ c ∈ tl z, sgn c = true := fun c hc => List.all_eq_true.mp h c hc
theorem WT.dec {z : Str} {n : Nat} (h : (decide ((tl z).length ≤ n) && (tl z).all sgn) = true) : WT z n := by
  rw [Bool.and_eq_true] at h
  exact ⟨of_decide_eq_true h.1, sgn_of h.2⟩
/-- all of a list of values are texts that are so -/
def allWT (n : Nat) (vs : List V) : Bool := vs.all fun v => match v with
  | .str z => decide ((tl z).length ≤ n) && (tl z).all sgn
  | _ => false
theorem allWT_ok {n : Nat} {vs : List V} (h : allWT n vs = true) : ∀ v ∈ vs, ∃ z, v = .str z ∧ WT z n := fun v hv => by
  have q := List.all_eq_true.mp h v hv
  cases v with
  | str z => exact ⟨z, rfl, WT.dec q⟩
  | _ => cases q
def allInt (lo hi : Int) (vs : List V) : Bool := vs.all fun v => match v with
  | .int z => decide (lo ≤ z) && decide (z ≤ hi)
  | _ => false
theorem allInt_ok {lo hi : Int} {vs : List V} (h : allInt lo hi vs = true) : ∀ v ∈ vs, ∃ z, v = .int z ∧ lo ≤ z ∧ z ≤ hi := fun v hv => by
  have q := List.all_eq_true.mp h v hv
  cases v with
  | int z =>
    have q' : (decide (lo ≤ z) && decide (z ≤ hi)) = true := q
    rw [Bool.and_eq_true] at q'
    exact ⟨z, rfl, of_decide_eq_true q'.1, of_decide_eq_true q'.2⟩
  | _ => cases q
theorem RefAt.go {K : PySem.W.Frag} {b : Addr} {n m : Nat} {H H' : Hp} {p : Addr} {name : Str} {keys : List Str} (R : RefAt K H p name keys) (G : Go b n H H') (B : Bag H b m) : RefAt K H' p name keys := by
  obtain ⟨t, h1, h2⟩ := R.ex
  exact ⟨t, G.seqT B h1, G.seqT B h2⟩
theorem RefAt.same {K : PySem.W.Frag} {H H' : Hp} {p : Addr} {name : Str} {keys : List Str} (R : RefAt K H p name keys) (G : Sm H H') : RefAt K H' p name keys := by
  obtain ⟨t, h1, h2⟩ := R.ex
  exact ⟨t, Sm.seqT G h1, Sm.seqT G h2⟩
section
variable {P : Program} {w : World} {K : PySem.W.Frag} {mg : Str → Option Value} {base : Heap} {cs : Tabs}
theorem ok_law_cell_at (T : Txt K mg cs) : Cal P w K mg base 1 "_law_cell_at" ["script", "k"] (spCellAt K) := by
  refine T.f_law_cell_at.cal scLawCellAt (fun vs H Q E h => ?_) (fun f cdv A outer s H vs Q E hr h => ?_)
  · obtain ⟨a, ns, k, rfl, _⟩ := h
    rfl
  obtain ⟨a, ns, k, rfl, hS, q⟩ := h
  refine ⟨_, (pss_cons (ps_if (pt_cmpR op_lt (pv 1) (pe_callB (lenQ K) rfl T.n_len (by decide +kernel) (pa_cons (pv 0) pa_nil)) (nomark _)) (pss_one (ps_ret (pe_ix (ixL K) (pv 0) (pv 1) (fun _ _ => rfl)))) pss_nil)
    (pss_one (ps_ret pe_int))), ?_⟩
  refine ⟨_, rfl, _, rfl, a, _, rfl, .inl hS, _, _, rfl, rfl, _, rfl, ?_⟩
  refine ite2 (fun c => ?_) (fun c => ?_)
  · have c' : (k : Int) < (((ns.map V.int).length : Nat) : Int) := of_decide_eq_true c
    have hk : k < ns.length := by
      rw [List.length_map] at c'
      omega
    have e : (ns.map V.int)[k]? = some (.int ns[k]) := by
      rw [List.getElem?_map, List.getElem?_eq_getElem hk]
      rfl
    exact ⟨_, rfl, _, rfl, a, _, (k : Int), _, rfl, rfl, hS, atI_nat e, q _⟩
  · exact q 0
end
section
variable {P : Program} {w : World} {K : PySem.W.Frag} {mg : Str → Option Value} {base : Heap} {cs : Tabs}
theorem ok_law_draw (T : Txt K mg cs) : Cal P w K mg base 1 "_law_draw" ["bag", "many"] spDraw := by
  refine T.f_law_draw.cal scLawDraw (fun vs H Q E h => ?_) (fun f cdv A outer s H vs Q E hr h => ?_)
  · obtain ⟨b, many, m, rfl, _⟩ := h
    rfl
  obtain ⟨b, many, m, rfl, B, hm, h0, h1, q⟩ := h
  obtain ⟨x, y, z, hb, y0, y1, z0, z1⟩ := id B
  refine ⟨_, (pss_cons (ps_if (pt_cmpR op_gt (pe_ix (ixL K) (pv 0) pe_int (fun _ _ => rfl)) pe_int (nomark _)) (pss_cons (ps_set (i := 2) scLawDraw.nd rfl (by first | exact Or.inl rfl | exact Or.inr rfl) (pe_op op_mod (pe_ix (ixL K) (pv 0) pe_int (fun _ _ => rfl)) (pv 1)))
        (pss_cons (ps_asg (pe_op op_fdivW (pe_ix (ixL K) (pv 0) pe_int (fun _ _ => rfl)) (pv 1)) (pg_sub (pv 0) pe_int set_list))
        (pss_one (ps_ret (pv 2))))) pss_nil)
    (pss_cons (ps_asg (pe_op op_add (pe_ix (ixL K) (pv 0) pe_int (fun _ _ => rfl)) pe_int) (pg_sub (pv 0) pe_int set_list))
    (pss_cons (ps_set (i := 2) scLawDraw.nd rfl (by first | exact Or.inl rfl | exact Or.inr rfl) (pe_op op_mod (pe_op op_powW (pe_op op_add (pe_ix (ixL K) (pv 0) pe_int (fun _ _ => rfl)) (pe_op op_mulW (pe_ix (ixL K) (pv 0) pe_int (fun _ _ => rfl)) pe_int)) pe_int) (pe_op op_add (pe_op op_powW pe_int pe_int) pe_int)))
    (pss_cons (ps_set (i := 2) scLawDraw.nd rfl (by first | exact Or.inl rfl | exact Or.inr rfl) (pe_op op_mod (pe_op op_powW (pe_op op_add (pv 2) (pe_op op_mulW (pe_ix (ixL K) (pv 0) pe_int (fun _ _ => rfl)) pe_int)) pe_int) (pe_op op_add (pe_op op_powW pe_int pe_int) pe_int)))
    (pss_one (ps_ret (pe_op op_mod (pe_op op_fdivW (pv 2) pe_int) (pv 1)))))))), ?_⟩
  have hS : SqL K H b [.int x, .int y, .int z] := SqL.of hb
  have hdiv : CDivW x many := wide_div (b := 256) h0 (nat_lt (by omega) h1) (by decide) (by decide)
  refine ⟨_, rfl, b, _, 0, .int x, rfl, rfl, hS, rfl, x, 1, rfl, rfl, _, rfl, ?_⟩
  refine ite2 (fun c => ?_) (fun c => ?_)
  · refine ⟨_, rfl, b, _, 0, .int x, rfl, rfl, hS, rfl, _, rfl, x, many, rfl, rfl, h0, ?_⟩
    refine ⟨_, rfl, b, _, 0, .int x, rfl, rfl, hS, rfl, _, rfl, x, many, rfl, rfl, hdiv, ?_⟩
    refine ⟨_, rfl, b, [.int x, .int y, .int z], 0, 0, rfl, rfl, hb, rfl, ?_⟩
    exact ⟨_, rfl, q _ _ (Int.emod_nonneg x (by omega)) (Int.emod_lt_of_pos x h0) (draw_set (m := m) hb (.inl rfl))⟩
  · refine ⟨_, rfl, b, _, 2, .int z, rfl, rfl, hS, rfl, z, 1, rfl, rfl, ?_⟩
    refine ⟨_, rfl, b, [.int x, .int y, .int z], 2, 2, rfl, rfl, hb, rfl, ?_⟩
    have hb1 : (upd H b (.lst [.int x, .int y, .int (z + 1)])) b = some (.lst [.int x, .int y, .int (z + 1)]) := upd_same
    have hS1 : SqL K (upd H b (.lst [.int x, .int y, .int (z + 1)])) b [.int x, .int y, .int (z + 1)] := SqL.of hb1
    unfold LIM at hm
    have ez : (z + 1).natAbs < 2 ^ 40 := nat_lt (by omega) (by omega)
    have p39 : ((10 : Int) ^ ((39 : Int)).toNat + 3) = 1000000000000000000000000000000000000003 := by decide
    have p36 : ((10 : Int) ^ ((36 : Int)).toNat + 67) = 1000000000000000000000000000000000067 := by decide
    refine ⟨_, rfl, b, _, 1, .int y, rfl, rfl, hS1, rfl, _, rfl, b, _, 2, .int (z + 1), rfl, rfl, hS1, rfl, z + 1, 982451653, rfl, rfl, wide_mul (a := 40) (b := 40) ez (by decide) (by decide) (by decide) (by decide), y, (z + 1) * 982451653, rfl, rfl,
      y + (z + 1) * 982451653, 5, rfl, rfl, ⟨by decide, by decide, pow_ok (n := 300) (nat_lt (by omega) (by omega)) (by decide) (by decide)⟩, 10, 39, rfl, rfl, ⟨by decide, by decide, by decide⟩, _, 3, rfl, rfl, ?_⟩
    refine ⟨_, 1000000000000000000000000000000000000003, rfl, congrArg V.int p39, (show (0 : Int) < 1000000000000000000000000000000000000003 by decide), ?_⟩
    have r0 := Int.emod_nonneg ((y + (z + 1) * 982451653) ^ ((5 : Int)).toNat) (show (1000000000000000000000000000000000000003 : Int) ≠ 0 by decide)
    have r1 := Int.emod_lt_of_pos ((y + (z + 1) * 982451653) ^ ((5 : Int)).toNat) (show (0 : Int) < 1000000000000000000000000000000000000003 by decide)
    obtain ⟨r, er⟩ : ∃ r : Int, (y + (z + 1) * 982451653) ^ ((5 : Int)).toNat % 1000000000000000000000000000000000000003 = r := ⟨_, rfl⟩
    rw [er] at r0 r1
    refine ⟨_, rfl, _, rfl, b, _, 2, .int (z + 1), rfl, rfl, hS1, rfl, z + 1, 15485863, rfl, rfl, wide_mul (a := 40) (b := 40) ez (by decide) (by decide) (by decide) (by decide), r, (z + 1) * 15485863, congrArg V.int er, rfl,
      r + (z + 1) * 15485863, 3, rfl, rfl, ⟨by decide, by decide, pow_ok (n := 300) (nat_lt (by omega) (by omega)) (by decide) (by decide)⟩, 10, 36, rfl, rfl, ⟨by decide, by decide, by decide⟩, _, 67, rfl, rfl, ?_⟩
    refine ⟨_, 1000000000000000000000000000000000067, rfl, congrArg V.int p36, (show (0 : Int) < 1000000000000000000000000000000000067 by decide), ?_⟩
    obtain ⟨t, et⟩ : ∃ t : Int, (r + (z + 1) * 15485863) ^ ((3 : Int)).toNat % 1000000000000000000000000000000000067 = t := ⟨_, rfl⟩
    refine ⟨_, rfl, t, 1024, congrArg V.int et, rfl, wide_div (b := 1000) (by decide) (by decide) (by decide) (by decide), _, rfl, t / 1024, many, rfl, rfl, h0, ?_⟩
    exact q _ _ (Int.emod_nonneg _ (by omega)) (Int.emod_lt_of_pos _ h0) (draw_set (m := m) hb (.inr rfl))
def spBag1 : Sp := fun vs H Q _ => ∃ c : Int, vs = [.int c] ∧ ∀ (p : Addr) (H' : Hp), H p = none → Sm H H' → Bag H' p 0 → Q (.ref p) H'
theorem ok_law_bag (T : Txt K mg cs) : Cal P w K mg base 1 "_law_bag" ["cell"] spBag1 := by
  refine T.f_law_bag.cal scLawBag (fun vs H Q E h => ?_) (fun f cdv A outer s H vs Q E hr h => ?_)
  · obtain ⟨c, rfl, _⟩ := h
    rfl
  obtain ⟨c, rfl, q⟩ := h
  have p40 : ((10 : Int) ^ ((40 : Int)).toNat + 121) = 10000000000000000000000000000000000000121 := by decide
  refine ⟨_, (pss_one (ps_ret (pe_lst (pa_cons (pe_callB (call_max2 rfl) rfl T.n_max (by decide +kernel) (pa_cons pe_int (pa_cons (pe_op op_sub (pv 0) (pe_op op_powW pe_int pe_int)) pa_nil))) (pa_cons (pe_op op_mod (pv 0) (pe_op op_add (pe_op op_powW pe_int pe_int) pe_int)) (pa_cons pe_int pa_nil)))))), ?_⟩
  refine ⟨_, rfl, 10, 18, rfl, rfl, ⟨by decide, by decide, by decide⟩, c, _, rfl, rfl, 1, _, rfl, ?_⟩
  refine ⟨_, rfl, 10, 40, rfl, rfl, ⟨by decide, by decide, by decide⟩, _, 121, rfl, rfl, ?_⟩
  refine ⟨c, 10000000000000000000000000000000000000121, rfl, congrArg V.int p40, (show (0 : Int) < 10000000000000000000000000000000000000121 by decide), ?_⟩
  refine ⟨(by show 3 ≤ sizeLine; decide), fun p hp => q p _ hp (Sm.new hp) ⟨_, _, 0, upd_same, ?_, ?_, Int.le_refl 0, Int.le_refl 0⟩⟩
  · exact Int.emod_nonneg c (by decide)
  · have := Int.emod_lt_of_pos c (show (0 : Int) < 10000000000000000000000000000000000000121 by decide)
    show c % 10000000000000000000000000000000000000121 < 2 ^ 200
    omega
end
/-! ### the numbers that texts begin with: reckoned over their signs -/
open PySem.NumText (digitsVal AllDigits)
def SG : Str := "+-"
def FG : Str := "0123456789"
def isS (c : Nat) : Bool := decide (c ∈ tl SG)
def isF (c : Nat) : Bool := decide (c ∈ tl FG)
theorem tl_SG : tl SG = [43, 45] := by decide +kernel
theorem tl_FG : tl FG = [48, 49, 50, 51, 52, 53, 54, 55, 56, 57] := by decide +kernel
theorem isS_iff {c : Nat} : isS c = true ↔ c = 43 ∨ c = 45 := by
  unfold isS
  rw [tl_SG, decide_eq_true_eq]
  simp
theorem isF_iff {c : Nat} : isF c = true ↔ 48 ≤ c ∧ c ≤ 57 := by
  unfold isF
  rw [tl_FG, decide_eq_true_eq]
  simp only [List.mem_cons, List.not_mem_nil, or_false]
  omega
theorem find_FG {c : Nat} (h : isF c = true) : Txt.find FG ⟨#[c]⟩ = ((c - 48 : Nat) : Int) := by
  have h := isF_iff.mp h
  obtain ⟨j, rfl⟩ : ∃ j, c = 48 + j := ⟨c - 48, by omega⟩
  have hj : j < 10 := by omega
  have : ∀ j : Fin 10, Txt.find FG ⟨#[48 + j.val]⟩ = ((48 + j.val - 48 : Nat) : Int) := by decide +kernel
  exact this ⟨j, hj⟩
def cnt45 (l : List Nat) : Nat := l.countP fun c => c == 45
theorem count_cnt (x : Str) : Txt.count x "-" = (cnt45 (tl x) : Int) := by
  have e : ("-" : Str) = ⟨#[45]⟩ := by decide +kernel
  rw [e, PyProof.Rows.count_is]
  show PyProof.Rows.cnt 45 (tl x) = _
  generalize tl x = l
  induction l with
  | nil => rfl
  | cons a r ih =>
    rw [PyProof.Rows.cnt_cons, ih]
    unfold cnt45
    rw [List.countP_cons]
    by_cases h : a = 45
    · subst h
      simp
      omega
    · simp [h]
def figs (l : List Nat) : List Nat := (l.dropWhile isS).takeWhile isF
def minus (l : List Nat) : Bool := decide (cnt45 (l.takeWhile isS) % 2 = 1)
def numOf (l : List Nat) : Int := if minus l then -((digitsVal (figs l) : Nat) : Int) else ((digitsVal (figs l) : Nat) : Int)
/-- a walk ahead as long as p holds -/
theorem walked {p : Nat → Bool} : ∀ {l : List Nat} {i : Nat}, (∀ j c, j < i → l[j]? = some c → p c = true) → i ≤ l.length → (∀ c, l[i]? = some c → p c = false) → l.takeWhile p = l.take i ∧ l.dropWhile p = l.drop i
  | [], 0, _, _, _ => ⟨rfl, rfl⟩
  | c :: r, 0, _, _, h => by
    have := h c rfl
    simp [List.takeWhile_cons, List.dropWhile_cons, this]
  | c :: r, i + 1, h, hl, h2 => by
    have hc := h 0 c (by omega) rfl
    obtain ⟨a, b⟩ := walked (l := r) (i := i) (fun j d hj hd => h (j + 1) d (by omega) hd) (by simp at hl; omega) (fun d hd => h2 d hd)
    simp [List.takeWhile_cons, List.dropWhile_cons, hc, a, b]
theorem val_from (x : Nat) : ∀ b : List Nat, b.foldl (fun acc c => acc * 10 + (c - 48)) x = x * 10 ^ b.length + b.foldl (fun acc c => acc * 10 + (c - 48)) 0
  | [] => by simp
  | c :: r => by
    rw [List.foldl_cons, List.foldl_cons, val_from (x * 10 + (c - 48)) r, val_from (0 * 10 + (c - 48)) r, List.length_cons, Nat.pow_succ]
    generalize 10 ^ r.length = z
    generalize r.foldl (fun acc c => acc * 10 + (c - 48)) 0 = y
    rw [Nat.add_mul, Nat.zero_mul, Nat.zero_add, Nat.mul_assoc, Nat.mul_comm 10 z, Nat.add_assoc]
theorem val_append (a b : List Nat) : digitsVal (a ++ b) = digitsVal a * 10 ^ b.length + digitsVal b := by
  unfold digitsVal
  rw [List.foldl_append, val_from]
theorem val_lt : ∀ {l : List Nat}, AllDigits l → digitsVal l < 10 ^ l.length
  | [], _ => by decide
  | c :: r, h => by
    have hr := val_lt (l := r) fun d hd => h d (List.mem_cons_of_mem _ hd)
    have hc := h c List.mem_cons_self
    have e := val_append [c] r
    have e1 : digitsVal [c] = c - 48 := by
      show 0 * 10 + (c - 48) = _
      omega
    rw [show c :: r = [c] ++ r from rfl, e, e1, List.length_append, List.length_singleton, Nat.add_comm, Nat.pow_add]
    have : (c - 48) * 10 ^ r.length ≤ 9 * 10 ^ r.length := Nat.mul_le_mul_right _ (by omega)
    omega
theorem tw_self {p : Nat → Bool} : ∀ {l : List Nat}, (∀ c ∈ l, p c = true) → l.takeWhile p = l
  | [], _ => rfl
  | c :: r, h => by
    rw [List.takeWhile_cons, if_pos (h c List.mem_cons_self), tw_self fun d hd => h d (List.mem_cons_of_mem _ hd)]
theorem figs_digits (l : List Nat) : AllDigits (figs l) := fun c hc => isF_iff.mp (by
  have := List.all_takeWhile (p := isF) (l := l.dropWhile isS)
  exact List.all_eq_true.mp this c hc)
theorem figs_len (l : List Nat) : (figs l).length ≤ l.length := by
  unfold figs
  have a := (List.takeWhile_sublist (l := l.dropWhile isS) isF).length_le
  have b := (List.dropWhile_sublist (l := l) isS).length_le
  omega
/-- a number's text -/
def numT (n : Int) : List Nat := if n < 0 then 45 :: numL n.natAbs else numL n.natAbs
theorem numL_head : ∀ {n : Nat}, 0 < n → ∃ c r, numL n = c :: r ∧ 49 ≤ c := by
  intro n
  induction n using Nat.strongRecOn with
  | _ n ih =>
    intro h
    by_cases h10 : n < 10
    · exact ⟨48 + n, [], numL_lt h10, by omega⟩
    · obtain ⟨c, r, e, hc⟩ := ih (n / 10) (by omega) (by omega)
      exact ⟨c, r ++ [48 + n % 10], by rw [numL_step (by omega), e]; rfl, hc⟩
theorem numL_zero : numL 0 = [48] := numL_lt (by decide)
theorem numL_of {c : Nat} {r : List Nat} (h : AllDigits (c :: r)) (hc : 49 ≤ c) : numL (digitsVal (c :: r)) = c :: r := by
  unfold numL
  rw [PySem.NumText.toDigits_digitsVal r.length (c :: r) rfl h (.inr ⟨c, r, rfl, hc⟩), List.map_map]
  have : ∀ d ∈ c :: r, (Char.toNat ∘ Char.ofNat) d = d := fun d hd => by
    have := h d hd
    obtain ⟨j, rfl⟩ : ∃ j, d = 48 + j := ⟨d - 48, by omega⟩
    have hj : j < 10 := by omega
    have q : ∀ j : Fin 10, (Char.toNat ∘ Char.ofNat) (48 + j.val) = 48 + j.val := by decide +kernel
    exact q ⟨j, hj⟩
  rw [List.map_congr_left this, List.map_id'']
  intro _; rfl
/-- what is_number_text looks at -/
def bareOf (l : List Nat) : List Nat := match l with
  | 45 :: r => r
  | l => l
def isNum (l : List Nat) : Bool := match bareOf l with
  | 48 :: _ => decide (l = [48])
  | f => !decide (f = []) && f.all isF
theorem isNum_is (l : List Nat) : isNum l = decide (numT (numOf l) = l) := by
  have back : ∀ n : Int, isNum (numT n) = true := fun n => by
    unfold numT
    split
    · obtain ⟨c, r, e, hc⟩ := numL_head (n := n.natAbs) (by omega)
      have d := numL_digits n.natAbs
      rw [e] at d ⊢
      unfold isNum
      have : bareOf (45 :: c :: r) = c :: r := rfl
      rw [this]
      have hne : c ≠ 48 := by omega
      split
      · rename_i h
        injection h with h1
        exact absurd h1 hne
      · rw [Bool.and_eq_true]
        refine ⟨by simp, List.all_eq_true.mpr fun x hx => isF_iff.mpr (d x hx)⟩
    · by_cases z : n.natAbs = 0
      · rw [z, numL_zero]
        rfl
      · obtain ⟨c, r, e, hc⟩ := numL_head (n := n.natAbs) (by omega)
        have d := numL_digits n.natAbs
        rw [e] at d ⊢
        unfold isNum
        have hc' := d c List.mem_cons_self
        have : bareOf (c :: r) = c :: r := by
          unfold bareOf
          split
          · rename_i h
            injection h with h1
            omega
          · rfl
        rw [this]
        have hne : c ≠ 48 := by omega
        split
        · rename_i h
          injection h with h1
          exact absurd h1 hne
        · rw [Bool.and_eq_true]
          refine ⟨by simp, List.all_eq_true.mpr fun x hx => isF_iff.mpr (d x hx)⟩
  have forth : isNum l = true → numT (numOf l) = l := fun h => by
    unfold isNum at h
    split at h
    · have e := of_decide_eq_true h
      subst e
      decide +kernel
    · rename_i hf
      rw [Bool.and_eq_true] at h
      have hne : bareOf l ≠ [] := by simpa using h.1
      have hd : AllDigits (bareOf l) := fun c hc => isF_iff.mp (List.all_eq_true.mp h.2 c hc)
      obtain ⟨c, r, e⟩ : ∃ c r, bareOf l = c :: r := by
        cases q : bareOf l with
        | nil => exact absurd q hne
        | cons c r => exact ⟨c, r, rfl⟩
      rw [e] at hd
      have hc := hd c List.mem_cons_self
      have hc9 : 49 ≤ c := by
        have : c ≠ 48 := fun z => hf r (by rw [e, z])
        omega
      have nS : isS c = false := by
        cases q : isS c with
        | false => rfl
        | true =>
          have := isS_iff.mp q
          omega
      have tk : (c :: r).takeWhile isF = c :: r := tw_self fun d hd' => isF_iff.mpr (hd d hd')
      have pos := PySem.NumText.digitsVal_pos (cs := r) hc9
      by_cases h45 : ∃ s, l = 45 :: s
      · obtain ⟨s, rfl⟩ := h45
        have es : s = c :: r := e
        subst es
        have s45 : isS 45 = true := by decide +kernel
        have e1 : figs (45 :: c :: r) = c :: r := by
          unfold figs
          rw [List.dropWhile_cons, if_pos s45, List.dropWhile_cons, if_neg (by rw [nS]; decide), tk]
        have e2 : minus (45 :: c :: r) = true := by
          unfold minus
          rw [List.takeWhile_cons, if_pos s45, List.takeWhile_cons, if_neg (by rw [nS]; decide)]
          rfl
        unfold numOf
        rw [e2, e1, if_pos rfl]
        unfold numT
        rw [if_pos (by omega)]
        have : (-((digitsVal (c :: r) : Nat) : Int)).natAbs = digitsVal (c :: r) := by omega
        rw [this, numL_of hd hc9]
      · have el : l = c :: r := by
          rw [← e]
          unfold bareOf
          split
          · exact absurd ⟨_, rfl⟩ h45
          · rfl
        subst el
        have e1 : figs (c :: r) = c :: r := by
          unfold figs
          rw [List.dropWhile_cons, if_neg (by rw [nS]; decide), tk]
        have e2 : minus (c :: r) = false := by
          unfold minus
          rw [List.takeWhile_cons, if_neg (by rw [nS]; decide)]
          rfl
        unfold numOf
        rw [e2, e1, if_neg (by decide)]
        unfold numT
        rw [if_neg (by omega)]
        have : (((digitsVal (c :: r) : Nat) : Int)).natAbs = digitsVal (c :: r) := by omega
        rw [this, numL_of hd hc9]
  by_cases h : numT (numOf l) = l
  · rw [decide_eq_true h, ← h]
    rw [h]
    have := back (numOf l)
    rwa [h] at this
  · rw [decide_eq_false h]
    cases q : isNum l with
    | false => rfl
    | true => exact absurd (forth q) h
theorem numOf_numT (n : Int) : numOf (numT n) = n := by
  have hF : ∀ k : Nat, (numL k).takeWhile isF = numL k := fun k => tw_self fun d hd => isF_iff.mpr (numL_digits k d hd)
  have hS : ∀ k : Nat, (numL k).takeWhile isS = [] ∧ (numL k).dropWhile isS = numL k := fun k => by
    obtain ⟨c, r, e⟩ : ∃ c r, numL k = c :: r := by
      cases q : numL k with
      | nil => exact absurd q (numL_ne k)
      | cons c r => exact ⟨c, r, rfl⟩
    have hc := numL_digits k c (by rw [e]; exact List.mem_cons_self)
    have nS : isS c = false := by
      cases q : isS c with
      | false => rfl
      | true =>
        have := isS_iff.mp q
        omega
    rw [e, List.takeWhile_cons, List.dropWhile_cons, nS]
    exact ⟨rfl, rfl⟩
  have s45 : isS 45 = true := by decide +kernel
  unfold numT
  split
  · have e1 : figs (45 :: numL n.natAbs) = numL n.natAbs := by
      unfold figs
      rw [List.dropWhile_cons, if_pos s45, (hS _).2, hF]
    have e2 : minus (45 :: numL n.natAbs) = true := by
      unfold minus
      rw [List.takeWhile_cons, if_pos s45, (hS _).1]
      rfl
    unfold numOf
    rw [e2, e1, if_pos rfl, numL_val]
    omega
  · have e1 : figs (numL n.natAbs) = numL n.natAbs := by
      unfold figs
      rw [(hS _).2, hF]
    have e2 : minus (numL n.natAbs) = false := by
      unfold minus
      rw [(hS _).1]
      rfl
    unfold numOf
    rw [e2, e1, if_neg (by decide), numL_val]
    omega
/-! ### numbers' texts, how long they are -/
def spNumText : Sp := fun vs H Q _ => ∃ n : Int, vs = [.int n] ∧ n.natAbs < 10 ^ 60 ∧ ∀ (z : Str) (H' : Hp), Sm H H' → tl z = numT n → Q (.str z) H'
theorem tl_int (i : Int) (h : 0 ≤ i) : tl (Str.ofString (toString i)) = numL i.natAbs := by
  obtain ⟨n, rfl⟩ : ∃ n : Nat, i = (n : Int) := ⟨i.toNat, by omega⟩
  exact tl_num n
theorem log_ok {i : Int} (h : i.natAbs < 10 ^ 250) : i.natAbs.log2 < 1920 := Nat.lt_trans (PySem.Flt.log2_lt_of (n := i.natAbs) (k := 900) (by decide) (Nat.lt_trans h (by decide))) (by decide)
theorem upd_twice {H : Hp} {p : Addr} {o u : HO} : upd (upd H p o) p u = upd H p u := by
  funext a
  by_cases e : a = p
  · subst e
    rw [upd_same, upd_same]
  · rw [upd_ne e, upd_ne e, upd_ne e]
/-! ### the defs that reckon with numbers of texts -/
open PySem.NumText (digitsVal AllDigits)
def spNumOf : Sp := fun vs H Q _ => ∃ z : Str, vs = [.str z] ∧ (tl z).length ≤ 250 ∧ Q (.int (numOf (tl z))) H
def spFigs : Sp := fun vs H Q _ => ∃ z : Str, vs = [.str z] ∧ (tl z).length ≤ 250 ∧ AllDigits (tl z) ∧ Q (.int ((digitsVal (tl z) : Nat) : Int)) H
theorem tl_sub (z : Str) (i j : Nat) (hi : i ≤ j) : tl (cutS z (some (i : Int)) (some (j : Int))) = ((tl z).take j).drop i := by
  show (((z.cps.toList.drop (HT.sIx z.length 0 (some (i : Int)))).take (HT.sIx z.length z.length (some (j : Int)) - HT.sIx z.length 0 (some (i : Int)))).toArray).toList = _
  rw [HT.sIx_nat, HT.sIx_nat, List.toList_toArray]
  have e : z.length = (tl z).length := len_tl z
  rw [e]
  show ((tl z).drop (min i (tl z).length)).take (min j (tl z).length - min i (tl z).length) = _
  rw [List.drop_take]
  by_cases h : i ≤ (tl z).length
  · rw [Nat.min_eq_left h]
    by_cases h2 : j ≤ (tl z).length
    · rw [Nat.min_eq_left h2]
    · rw [Nat.min_eq_right (by omega), List.take_of_length_le (by rw [List.length_drop]; exact Nat.le_refl _), List.take_of_length_le (by rw [List.length_drop]; omega)]
  · rw [List.drop_eq_nil_of_le (as := tl z) (i := i) (by omega), List.drop_eq_nil_of_le (as := tl z) (i := min i (tl z).length) (by omega)]
    simp
def rInS : R2 := fun x y H Q => ∃ (c : Nat) (z : Str), x = .str ⟨#[c]⟩ ∧ y = .str z ∧ Q (.bl (decide (c ∈ z.cps.toList))) H
/-- while at < len(worth) and worth[at] in Z: at += 1 -/
theorem scan_loop {i : Nat} {z Z : Str} {k0 : Nat} {σ : L2.St} {H : Hp} {D : Ends} (hz : σ[0]? = some (some (.str z))) (hi : σ[i]? = some (some (.int (k0 : Int)))) (i0 : i ≠ 0) (hl : (tl z).length ≤ 1000) (hk0 : k0 ≤ (tl z).length)
    (q : ∀ k, k0 ≤ k → k ≤ (tl z).length → (∀ j c, k0 ≤ j → j < k → (tl z)[j]? = some c → c ∈ tl Z) → (∀ c, (tl z)[k]? = some c → ¬ c ∈ tl Z) → D.nx (σ.set i (some (.int (k : Int)))) H) :
    tWhile (tAnd (tTest (tOp (rI0 fun i j => V.bl (decide (i < j))) (tVar i) (tCB rLenT1 (tCons (tVar 0) tNil)))) (tTest (tOp rInS (tOp rIxS (tVar 0) (tVar i)) (tC (.str Z))))) (tAug i (tC (.int 1)) (ipI fun i j => i + j)) D σ H := by
  have ez : z.length = (tl z).length := len_tl z
  have hlt : i < σ.length := (List.getElem?_eq_some_iff.mp hi).1
  have e0 : σ.set i (some (.int (k0 : Int))) = σ := List.ext_getElem? fun j => by
    by_cases e : i = j
    · subst e
      rw [List.getElem?_set_self hlt, hi]
    · rw [List.getElem?_set_ne e]
  refine ⟨fun m σ' H' => ∃ k : Nat, k0 ≤ k ∧ k ≤ (tl z).length ∧ (∀ j c, k0 ≤ j → j < k → (tl z)[j]? = some c → c ∈ tl Z) ∧ m = (tl z).length - k ∧ H' = H ∧ σ' = σ.set i (some (.int (k : Int))), ⟨_, k0, Nat.le_refl _, hk0, fun j c h1 h2 => absurd h2 (Nat.not_lt.mpr h1), rfl, rfl, e0.symm⟩, fun m σ' H' hw => ?_⟩
  obtain ⟨k, hk1, hk, hS, rfl, rfl, rfl⟩ := hw
  have v0 : (σ.set i (some (V.int (k : Int))))[0]? = some (some (.str z)) := by rw [List.getElem?_set_ne i0, hz]
  have vi : (σ.set i (some (V.int (k : Int))))[i]? = some (some (.int (k : Int))) := List.getElem?_set_self hlt
  refine ⟨_, vi, _, v0, z, rfl, (by rw [ez]; exact small (by omega)), _, _, rfl, rfl, _, rfl, ?_⟩
  refine ite2 (fun c1 => ?_) (fun c1 => ?_)
  · have hk' : k < (tl z).length := by
      have := of_decide_eq_true c1
      omega
    refine ⟨_, v0, _, vi, z, _, _, rfl, rfl, (by rw [ez]; exact small (by omega)), atI_nat (List.getElem?_eq_getElem hk'), _, _, rfl, rfl, _, rfl, ?_⟩
    refine ite2 (fun c2 => ?_) (fun c2 => ?_)
    · refine ⟨fun σ' H'' => H'' = H' ∧ σ' = σ.set i (some (.int ((k + 1 : Nat) : Int))), fun σ' H'' h => ⟨_, ?_, k + 1, by omega, by omega, fun j c h1 h2 hc => ?_, rfl, h.1, h.2⟩, ?_⟩
      · omega
      · by_cases e : j = k
        · subst e
          rw [List.getElem?_eq_getElem hk'] at hc
          rw [← Option.some.inj hc]
          exact of_decide_eq_true c2
        · exact hS j c h1 (by omega) hc
      · refine ⟨_, vi, _, _, rfl, rfl, rfl, ?_⟩
        rw [List.set_set]
        rfl
    · refine q k hk1 hk hS fun c hc => ?_
      rw [List.getElem?_eq_getElem hk'] at hc
      rw [← Option.some.inj hc]
      exact fun z => c2 (decide_eq_true z)
  · refine iteF (q k hk1 hk hS fun c hc => ?_)
    have hk' := (List.getElem?_eq_some_iff.mp hc).1
    exact absurd (decide_eq_true (show (k : Int) < z.length by omega)) c1
theorem drop_at {l : List Nat} {i j : Nat} : (l.drop i)[j]? = l[i + j]? := by rw [List.getElem?_drop]
section
variable {P : Program} {w : World} {K : PySem.W.Frag} {mg : Str → Option Value} {base : Heap} {cs : Tabs}
theorem ok_number_of (T : Txt K mg cs) (C_number_of_figures : Cal P w K mg base 1 "_number_of_figures" ["figures"] spFigs) : Cal P w K mg base 2 "number_of" ["worth"] spNumOf := by
  refine T.f_number_of.cal scNumberOf (fun vs H Q E h => ?_) (fun f cdv A outer s H vs Q E hr h => ?_)
  · obtain ⟨z, rfl, _⟩ := h
    rfl
  obtain ⟨z, rfl, hl, q⟩ := h
  refine ⟨_, (pss_cons (ps_set (i := 1) scNumberOf.nd rfl (by first | exact Or.inl rfl | exact Or.inr rfl) pe_int)
    (pss_cons (ps_while PassesOwn.never (PW.pt (pw_and (pt_cmpR op_lt (pv 1) (pe_callB lenT rfl T.n_len (by decide +kernel) (pa_cons (pv 0) pa_nil)) (nomark _)) (pw_and1 (pt_cmpR op_in_sign (pe_ix ix_str (pv 0) (pv 1) (fun _ _ => rfl)) pe_str rfl))))
      (pss_one (ps_aug (i := 1) scNumberOf.nd rfl (by first | exact Or.inl rfl | exact Or.inr rfl) pe_int ip_add)))
    (pss_cons (ps_set (i := 2) scNumberOf.nd rfl (by first | exact Or.inl rfl | exact Or.inr rfl) (pv 1))
    (pss_cons (ps_while PassesOwn.never (PW.pt (pw_and (pt_cmpR op_lt (pv 2) (pe_callB lenT rfl T.n_len (by decide +kernel) (pa_cons (pv 0) pa_nil)) (nomark _)) (pw_and1 (pt_cmpR op_in_sign (pe_ix ix_str (pv 0) (pv 2) (fun _ _ => rfl)) (C8.pe_gc rfl T.g__FIGURES) rfl))))
      (pss_one (ps_aug (i := 2) scNumberOf.nd rfl (by first | exact Or.inl rfl | exact Or.inr rfl) pe_int ip_add)))
    (pss_cons (ps_set (i := 3) scNumberOf.nd rfl (by first | exact Or.inl rfl | exact Or.inr rfl) (pe_cal C_number_of_figures (hr.mono (by first | decide | omega)) (pa_cons (pe_slice sl_str (pv 0) (po_some (pv 1)) (po_some (pv 2))) pa_nil)))
    (pss_one (ps_ret (pe_ifExp (pt_cmpR op_eq (pe_op op_mod (pe_m1 PySem.F.slot_str_count PySem.F.type_str_count mt_count (pe_slice sl_str (pv 0) po_none (po_some (pv 1))) pe_str) pe_int) pe_int (nomark _)) (pe_un un_neg (pv 3)) (pv 3))))))))), ?_⟩
  have ez : z.length = (tl z).length := len_tl z
  have zl : z.length ≤ sizeLine := by rw [ez]; exact small (by omega)
  refine scan_loop (i := 1) (k0 := 0) (z := z) (Z := SG) rfl rfl (by decide) (by omega) (Nat.zero_le _) fun k _ hk hS hS' => ?_
  obtain ⟨t1, d1⟩ := walked (p := isS) (l := tl z) (i := k) (fun j c hj hc => decide_eq_true (hS j c (Nat.zero_le _) hj hc)) hk (fun c hc => decide_eq_false (hS' c hc))
  refine ⟨_, rfl, ?_⟩
  refine scan_loop (i := 2) (k0 := k) (z := z) (Z := FG) rfl rfl (by decide) (by omega) hk fun e hke he hF hF' => ?_
  obtain ⟨t2, _⟩ := walked (p := isF) (l := (tl z).drop k) (i := e - k) (fun j c hj hc => decide_eq_true (hF (k + j) c (by omega) (by omega) (by rw [← List.getElem?_drop]; exact hc))) (by rw [List.length_drop]; omega) (fun c hc => decide_eq_false (hF' c (by rw [List.getElem?_drop, show k + (e - k) = e by omega] at hc; exact hc)))
  have ef : tl (cutS z (some (k : Int)) (some (e : Int))) = figs (tl z) := by
    rw [tl_sub z k e hke, List.drop_take]
    unfold figs
    rw [d1, t2]
  refine ⟨_, rfl, _, rfl, _, rfl, _, rfl, _, rfl, z, rfl, zl, _, rfl, by rw [ef]; exact Nat.le_trans (figs_len _) hl, by rw [ef]; exact figs_digits _, ?_⟩
  rw [ef]
  have ec : Txt.count (cutS z none (some (k : Int))) "-" = (cnt45 ((tl z).takeWhile isS) : Int) := by
    rw [count_cnt, tl_cut, t1]
  dsimp only [gName, tSeq, tAsg, tRet, tDrop, tNext]
  refine ⟨_, rfl, _, rfl, _, rfl, z, rfl, zl, ⟨_, rfl⟩, _, _, rfl, rfl, _, _, rfl, rfl, show (0 : Int) < 2 by decide, rfl, _, rfl, ?_⟩
  rw [ec]
  have em : decide (V.int ((cnt45 ((tl z).takeWhile isS) : Int) % 2) = V.int 1) = minus (tl z) := by
    unfold minus
    generalize cnt45 ((tl z).takeWhile isS) = n
    by_cases h : n % 2 = 1
    · have : ((n : Int) % 2) = 1 := by omega
      rw [this, decide_eq_true h]
      rfl
    · have : ¬ ((n : Int) % 2) = 1 := by omega
      rw [decide_eq_false h, decide_eq_false]
      intro e
      injection e with e
      exact this e
  rw [em]
  refine ite2 (fun c => ?_) (fun c => ?_)
  · refine ⟨_, rfl, _, rfl, ?_⟩
    unfold numOf at q
    rw [if_pos c] at q
    exact q
  · refine ⟨_, rfl, ?_⟩
    unfold numOf at q
    rw [if_neg c] at q
    exact q
theorem rg64 {i n : Nat} (h : i + 64 * n ≤ 1000000) : RgC (i : Int) ((i + 64 * n : Nat) : Int) 64 n := by
  refine ⟨by decide, by decide, ?_, ?_⟩
  · have e : Builtin.Range.rangeSize (i : Int) ((i + 64 * n : Nat) : Int) 64 = n := by
      unfold Builtin.Range.rangeSize
      rw [if_pos (by decide)]
      split
      · have e : (((i + 64 * n : Nat) : Int) - (i : Int) - 1) / 64 = (n : Int) - 1 := by omega
        rw [e]
        omega
      · omega
    unfold Builtin.Range.small
    rw [e]
    have f : ∀ x : Int, 0 ≤ x → x < 2000000 → Builtin.Range.rangeFitsLong x = true := fun x h0 h1 => by
      unfold Builtin.Range.rangeFitsLong
      rw [Bool.and_eq_true]
      exact ⟨decide_eq_true (Int.le_trans (by decide) h0), decide_eq_true (Int.lt_trans h1 (by decide))⟩
    rw [f _ (by omega) (by omega), f _ (by omega) (by omega), f 64 (by decide) (by decide), f _ (by omega) (by omega), if_pos (by decide), f _ (by omega) (by omega), Bool.or_true]
    rfl
  · unfold Builtin.Range.rangeSize
    rw [if_pos (by decide)]
    split
    · have e : (((i + 64 * n : Nat) : Int) - (i : Int) - 1) / 64 = (n : Int) - 1 := by omega
      rw [e]
      omega
    · omega
theorem int_digits {x : Str} (h : AllDigits (tl x)) (h1 : tl x ≠ []) (h2 : (tl x).length ≤ 640) : PySem.intText? x = some ((digitsVal (tl x) : Nat) : Int) := intText_digits h h1 (by rw [len_tl]; omega)
theorem pow250 {n : Nat} (h : n < 10 ^ 250) : (n : Int).natAbs < 2 ^ 900 := Nat.lt_trans h (by decide)
theorem ok_number_of_figures (T : Txt K mg cs) : Cal P w K mg base 1 "_number_of_figures" ["figures"] spFigs := by
  refine T.f_number_of_figures.cal scNumberOfFigures (fun vs H Q E h => ?_) (fun f cdv A outer s H vs Q E hr h => ?_)
  · obtain ⟨z, rfl, _⟩ := h
    rfl
  obtain ⟨z, rfl, hl, hd, q⟩ := h
  refine ⟨_, (pss_cons (ps_set (i := 1) scNumberOfFigures.nd rfl (by first | exact Or.inl rfl | exact Or.inr rfl) (pe_op op_mod (pe_callB lenT rfl T.n_len (by decide +kernel) (pa_cons (pv 0) pa_nil)) pe_int))
    (pss_cons (ps_set (i := 2) scNumberOfFigures.nd rfl (by first | exact Or.inl rfl | exact Or.inr rfl) (pe_callTy call_int_str rfl T.n_int (by decide +kernel) (pa_cons (pe_op op_add_str pe_str (pe_slice sl_str (pv 0) po_none (po_some (pv 1)))) pa_nil)))
    (pss_cons (ps_for PassesOwn.never rfl (pi_range3 rfl T.n_range (pa_cons (pv 1) (pa_cons (pe_callB lenT rfl T.n_len (by decide +kernel) (pa_cons (pv 0) pa_nil)) (pa_cons pe_int pa_nil)))) (pg_name (i := 3) scNumberOfFigures.nd rfl (by first | exact Or.inl rfl | exact Or.inr rfl))
      (pss_one (ps_set (i := 2) scNumberOfFigures.nd rfl (by first | exact Or.inl rfl | exact Or.inr rfl) (pe_op op_add (pe_op op_mulW (pv 2) (pe_op op_powW pe_int pe_int)) (pe_callTy call_int_str rfl T.n_int (by decide +kernel) (pa_cons (pe_slice sl_str (pv 0) (po_some (pv 3)) (po_some (pe_op op_add (pv 3) pe_int))) pa_nil))))))
    (pss_one (ps_ret (pv 2)))))), ?_⟩
  have ez : z.length = (tl z).length := len_tl z
  have zl : z.length ≤ sizeLine := by rw [ez]; exact small (by omega)
  refine ⟨_, rfl, z, rfl, zl, _, _, rfl, rfl, show (0 : Int) < 64 by decide, ?_⟩
  dsimp only [gName, tSeq, tAsg, tRet, tDrop, tNext]
  have e64 : ((z.length : Int) % 64) = (((tl z).length % 64 : Nat) : Int) := by rw [ez]; omega
  rw [e64]
  generalize hg : (tl z).length % 64 = g
  obtain ⟨n, hn⟩ : ∃ n, (tl z).length = g + 64 * n := ⟨(tl z).length / 64, by omega⟩
  have e0 : tl ("0" ++ cutS z none (some (g : Int))) = 48 :: (tl z).take g := by
    rw [tl_append, tl_cut]
    rfl
  have d0 : AllDigits (48 :: (tl z).take g) := fun c hc => by
    rcases List.mem_cons.mp hc with rfl | hc
    · omega
    · exact hd c (List.mem_of_mem_take hc)
  refine ⟨_, rfl, _, rfl, _, rfl, z, rfl, zl, _, _, rfl, rfl, ?_, _, _, rfl, int_digits (by rw [e0]; exact d0) (by rw [e0]; exact List.cons_ne_nil _ _) (by rw [e0, List.length_cons, List.length_take]; omega), ?_, ?_⟩
  · rw [len_tl, len_tl, tl_cut]
    refine Nat.le_trans (Nat.add_le_add (show (tl ("0" : Str)).length ≤ 1 by decide) (show ((tl z).take g).length ≤ 250 by rw [List.length_take]; omega)) (by decide)
  · rw [len_tl, e0, List.length_cons, List.length_take]
    omega
  rw [e0]
  have ev : ∀ l : List Nat, digitsVal (48 :: l) = digitsVal l := fun l => rfl
  rw [ev]
  dsimp only [gName, tSeq, tAsg, tRet, tDrop, tNext]
  refine ⟨_, rfl, _, rfl, z, rfl, zl, _, _, _, n, rfl, (by rw [ez, hn]; exact rg64 (by omega)), ?_⟩
  refine for_rangeC (fun j σ H' => H' = H ∧ ∃ x3, σ = [some (.str z), some (.int (g : Int)), some (.int ((digitsVal ((tl z).take (g + 64 * j)) : Nat) : Int)), x3]) ⟨rfl, none, rfl⟩ (fun j σ H' hj hp => ?_) fun σ H' hp => ?_
  · obtain ⟨rfl, x3, rfl⟩ := hp
    have ej : (g : Int) + (j : Int) * 64 = ((g + 64 * j : Nat) : Int) := by omega
    rw [ej]
    have e2 : ((g + 64 * j : Nat) : Int) + 64 = ((g + 64 * j + 64 : Nat) : Int) := by omega
    have et : tl (cutS z (some ((g + 64 * j : Nat) : Int)) (some (((g + 64 * j : Nat) : Int) + 64))) = ((tl z).drop (g + 64 * j)).take 64 := by
      rw [e2, tl_sub z _ _ (by omega), List.drop_take, show g + 64 * j + 64 - (g + 64 * j) = 64 by omega]
    have dt : AllDigits (((tl z).drop (g + 64 * j)).take 64) := fun c hc => hd c (List.mem_of_mem_drop (List.mem_of_mem_take hc))
    have lt : (((tl z).drop (g + 64 * j)).take 64).length = 64 := by rw [List.length_take, List.length_drop]; omega
    have dv : digitsVal ((tl z).take (g + 64 * j)) < 10 ^ 250 := by
      have := val_lt (l := (tl z).take (g + 64 * j)) fun c hc => hd c (List.mem_of_mem_take hc)
      exact Nat.lt_of_lt_of_le this (Nat.pow_le_pow_right (by decide) (by rw [List.length_take]; omega))
    refine ⟨_, rfl, 10, 64, rfl, rfl, ⟨by decide, by decide, by decide⟩, _, _, rfl, rfl, wide_mul (a := 900) (b := 300) (pow250 dv) (by decide) (by decide) (by decide) (by decide), ?_⟩
    refine ⟨_, rfl, _, rfl, _, rfl, _, rfl, _, _, rfl, rfl, _, rfl, z, rfl, zl, _, _, rfl, int_digits (by rw [et]; exact dt) (by rw [et]; intro z; rw [z] at lt; cases lt) (by rw [et, lt]; decide), by rw [len_tl, et, lt]; decide, _, _, rfl, rfl, ?_⟩
    refine ⟨rfl, some (.int ((g + 64 * j : Nat) : Int)), ?_⟩
    rw [et]
    have e3 : (tl z).take (g + 64 * (j + 1)) = (tl z).take (g + 64 * j) ++ ((tl z).drop (g + 64 * j)).take 64 := by
      rw [show g + 64 * (j + 1) = (g + 64 * j) + 64 by omega, List.take_add]
    have e4 : ((digitsVal ((tl z).take (g + 64 * j)) : Nat) : Int) * 10 ^ ((64 : Int)).toNat + ((digitsVal (((tl z).drop (g + 64 * j)).take 64) : Nat) : Int) = ((digitsVal ((tl z).take (g + 64 * (j + 1))) : Nat) : Int) := by
      rw [e3, val_append, lt, Int.natCast_add, Int.natCast_mul]
      rfl
    rw [← e4]
    rfl
  · obtain ⟨rfl, x3, rfl⟩ := hp
    refine ⟨_, rfl, ?_⟩
    rw [← hn, List.take_length]
    exact q
end
/-! ### a number's own text -/
open PySem.NumText (digitsVal AllDigits)
section
variable {P : Program} {w : World} {K : PySem.W.Frag} {mg : Str → Option Value} {base : Heap} {cs : Tabs}
theorem ok_number_text (T : Txt K mg cs) : Cal P w K mg base 1 "number_text" ["number"] spNumText := by
  refine T.f_number_text.cal scNumberText (fun vs H Q E h => ?_) (fun f cdv A outer s H vs Q E hr h => ?_)
  · obtain ⟨n, rfl, _⟩ := h
    rfl
  obtain ⟨n, rfl, hn, q⟩ := h
  refine ⟨_, (pss_cons (ps_set (i := 1) scNumberText.nd rfl (by first | exact Or.inl rfl | exact Or.inr rfl) (pe_callB call_abs rfl T.n_abs (by decide +kernel) (pa_cons (pv 0) pa_nil)))
    (pss_cons (ps_set (i := 2) scNumberText.nd rfl (by first | exact Or.inl rfl | exact Or.inr rfl) (pe_lst pa_nil))
    (pss_cons (ps_while PassesOwn.never (pt_cmpR op_ge (pv 1) (pe_op op_powW pe_int pe_int) (nomark _))
      (pss_cons (ps_asg (pe_callB call_divmodW rfl T.n_divmod (by decide +kernel) (pa_cons (pv 1) (pa_cons (pe_op op_powW pe_int pe_int) pa_nil))) (pg_tup rfl (pgs_cons (pg_name (i := 1) scNumberText.nd rfl (by first | exact Or.inl rfl | exact Or.inr rfl)) (pgs_cons (pg_name (i := 4) scNumberText.nd rfl (by first | exact Or.inl rfl | exact Or.inr rfl)) pgs_nil))))
        (pss_one (ps_expr (pe_bm PySem.F.plainAttrs_list PySem.F.slot_list_append PySem.F.type_list_append mt_append (pv 2) (pa_cons (pe_m1 PySem.F.slot_str_zfill PySem.F.type_str_zfill mt_zfill (pe_callTy call_str_int rfl T.n_str (by decide +kernel) (pa_cons (pv 4) pa_nil)) pe_int) pa_nil))))))
    (pss_cons (ps_expr (pe_bm PySem.F.plainAttrs_list PySem.F.slot_list_append PySem.F.type_list_append mt_append (pv 2) (pa_cons (pe_callTy call_str_int rfl T.n_str (by decide +kernel) (pa_cons (pv 1) pa_nil)) pa_nil)))
    (pss_cons (ps_set (i := 3) scNumberText.nd rfl (by first | exact Or.inl rfl | exact Or.inr rfl) (pe_join pe_str (pe_revL (pv 2))))
    (pss_one (ps_ret (pe_ifExp (pt_cmpR op_lt (pv 0) pe_int (nomark _)) (pe_op op_add_str pe_str (pv 3)) (pv 3))))))))), ?_⟩
  refine ⟨_, rfl, _, rfl, ?_⟩
  have ea : (if n < 0 then -n else n) = (n.natAbs : Int) := by split <;> omega
  rw [ea]
  dsimp only [gName, tSeq, tAsg, tRet, tDrop, tNext]
  refine ⟨Nat.zero_le _, fun L hL => ?_⟩
  refine ⟨fun _ σ' H' => σ' = [some (.int n), some (.int (n.natAbs : Int)), some (.ref L), none, none] ∧ H' = upd H L (.lst []), ⟨0, rfl, rfl⟩, fun m σ' H' hw => ?_⟩
  obtain ⟨rfl, rfl⟩ := hw
  refine ⟨_, rfl, 10, 64, rfl, rfl, ⟨by decide, by decide, by decide⟩, _, _, rfl, rfl, _, rfl, ?_⟩
  have big : (10 : Int) ^ 60 ≤ 10 ^ ((64 : Int)).toNat := by decide
  have hn' : (n.natAbs : Int) < 10 ^ 60 := by omega
  rw [decide_eq_false (Int.not_le.mpr (Int.lt_of_lt_of_le hn' big))]
  refine iteF ?_
  have hz : tl (Str.ofString (toString (n.natAbs : Int))) = numL n.natAbs := tl_num _
  refine ⟨_, rfl, .inl ⟨rfl, _, .inl (.inl upd_same)⟩, _, rfl, _, rfl, log_ok (Nat.lt_trans (show ((n.natAbs : Int)).natAbs < 10 ^ 60 by omega) (by decide)), L, _, _, rfl, rfl, upd_same, by decide, ?_⟩
  rw [upd_twice]
  dsimp only [gName, tSeq, tAsg, tRet, tDrop, tNext]
  refine ⟨⟨_, rfl⟩, _, rfl, L, _, rfl, SqL.of upd_same, fun p hp => ?_⟩
  have len : (numL n.natAbs).length ≤ 60 := numL_len (by decide) hn
  refine ⟨_, p, [Str.ofString (toString (n.natAbs : Int))], rfl, rfl, .inl (SqL.of upd_same), ?_, ?_⟩
  · show (Str.ofString (toString (n.natAbs : Int))).length + 0 + 1 * ("" : Str).length ≤ 16777216
    have e0 : ("" : Str).length = 0 := rfl
    rw [e0, len_tl, hz]
    omega
  have hj : tl (Txt.join "" [Str.ofString (toString (n.natAbs : Int))]) = numL n.natAbs := by
    rw [tl_glue]
    show tl _ ++ [] = _
    rw [hz, List.append_nil]
  have S : Sm H (upd (upd H L (.lst [V.str (Str.ofString (toString (n.natAbs : Int)))])) p (.lst [V.str (Str.ofString (toString (n.natAbs : Int)))].reverse)) := (Sm.new hL).trans (Sm.new hp)
  refine ⟨_, rfl, _, _, rfl, rfl, _, rfl, ?_⟩
  refine ite2 (fun c => ?_) (fun c => ?_)
  · refine ⟨_, rfl, _, _, rfl, rfl, ?_, q _ _ S ?_⟩
    · rw [len_tl (Txt.join _ _), hj, len_tl]
      exact Nat.le_trans (Nat.add_le_add (show (tl ("-" : Str)).length ≤ 1 by decide +kernel) len) (by decide)
    · rw [tl_append, hj]
      unfold numT
      rw [if_pos (of_decide_eq_true c)]
      rfl
  · refine ⟨_, rfl, q _ _ S ?_⟩
    rw [hj]
    unfold numT
    rw [if_neg (fun h => c (decide_eq_true h))]
end
/-! ### one step of a term at a time -/
theorem run_set {i : Nat} {te : TE} {u : TS} {D : Ends} {σ : L2.St} {H : Hp} (h : te σ H fun v H1 => u D (σ.set i (some v)) H1) : tSeq (tAsg te (gName i)) u D σ H := h
theorem run_ret {te : TE} {D : Ends} {σ : L2.St} {H : Hp} (h : te σ H D.rt) : tRet te D σ H := h
theorem run_op {r : R2} {ta tb : TE} {σ : L2.St} {H : Hp} {Q : VK} (h : ta σ H fun x H1 => tb σ H1 fun y H2 => r x y H2 Q) : tOp r ta tb σ H Q := h
theorem run_if {c : TT} {t u r : TS} {D : Ends} {σ : L2.St} {H : Hp} (h : c σ H fun b H1 => if b = true then t { D with nx := r D } σ H1 else u { D with nx := r D } σ H1) : tSeq (tIfS c t u) r D σ H := h
theorem run_ifE {c : TT} {t u : TS} {D : Ends} {σ : L2.St} {H : Hp} (h : c σ H fun b H1 => if b = true then t D σ H1 else u D σ H1) : tIfS c t u D σ H := h
theorem run_next {D : Ends} {σ : L2.St} {H : Hp} (h : D.nx σ H) : tNext D σ H := h
theorem run_for {i : TI} {g : TG} {tb u : TS} {D : Ends} {σ : L2.St} {H : Hp} (h : tFor i g tb { D with nx := u D } σ H) : tSeq (tFor i g tb) u D σ H := h
theorem run_test {r : R2} {ta tb : TE} {σ : L2.St} {H : Hp} {Q : Bool → Hp → Prop} (h : ta σ H fun x H1 => tb σ H1 fun y H2 => r x y H2 fun v H' => ∃ k, v = .bl k ∧ Q k H') : tTest (tOp r ta tb) σ H Q := h
/-- an if whose condition fails on every way -/
theorem run_no {c : TT} {t r : TS} {D : Ends} {σ : L2.St} {H : Hp} (Ph : Hp → Prop) (h : ∀ R : Bool → Hp → Prop, (∀ H1, Ph H1 → R false H1) → c σ H R) (hr : ∀ H1, Ph H1 → r D σ H1) : tSeq (tIfS c t tNext) r D σ H :=
  run_if (h _ fun H1 p => iteF (hr H1 p))
theorem run_noE {c : TT} {t : TS} {D : Ends} {σ : L2.St} {H : Hp} (Ph : Hp → Prop) (h : ∀ R : Bool → Hp → Prop, (∀ H1, Ph H1 → R false H1) → c σ H R) (hr : ∀ H1, Ph H1 → D.nx σ H1) : tIfS c t tNext D σ H :=
  run_ifE (h _ fun H1 p => iteF (hr H1 p))
/-- an if that gives a name another value, or not -/
theorem run_ifset {i : Nat} {te : TE} {c : TT} {r : TS} {D : Ends} {σ : L2.St} {H : Hp} {v0 : V} (Pv : V → Hp → Prop) (h0 : σ.set i (some v0) = σ) (h : ∀ R : VK, (∀ v H1, Pv v H1 → R v H1) → c σ H fun b H1 => if b = true then te σ H1 R else R v0 H1) (hr : ∀ v H1, Pv v H1 → r D (σ.set i (some v)) H1) :
    tSeq (tIfS c (tAsg te (gName i)) tNext) r D σ H := by
  have q := h (fun v H1 => r D (σ.set i (some v)) H1) hr
  rw [h0] at q
  exact q
theorem run_and {t u : TT} {σ : L2.St} {H : Hp} {Q : Bool → Hp → Prop} (h : t σ H fun c H1 => if c = true then u σ H1 Q else Q false H1) : tAnd t u σ H Q := h
/-! ### scenes -/
theorem put_lt {f : Str} {y : V} {n : Nat} : ∀ {fs : List (Str × V)}, fs.length < n → (putF f y fs).length < n + 1
  | [], h => by show 1 < n + 1; simp at h; omega
  | (g, x) :: r, h => by
    unfold putF
    split
    · exact Nat.lt_succ_of_lt h
    · rw [List.length_cons]
      have := put_lt (f := f) (y := y) (n := n - 1) (fs := r) (by rw [List.length_cons] at h; omega)
      rw [List.length_cons] at h
      omega
/-- what an instance's own making leaves: all else as it was -/
def Made (p : Addr) (H H' : Hp) : Prop := ∀ H0 : Hp, H0 p = none → Sm H0 H → Sm H0 H'
theorem Made.refl (p : Addr) (H : Hp) : Made p H H := fun _ _ h => h
theorem Made.put {p : Addr} {H H1 : Hp} {o u : HO} (M : Made p H H1) (h : H1 p = some u) (nt : notTbl u = true) : Made p H (upd H1 p o) := fun H0 h0 S => (M H0 h0 S).over h0 fun qs z => by
  rw [h] at z
  cases z
  cases nt
theorem Made.sm {p : Addr} {H H1 H2 : Hp} (M : Made p H H1) (S : Sm H1 H2) : Made p H H2 := fun H0 h0 S0 => (M H0 h0 S0).trans S
theorem Made.own {p d : Addr} {H Ha Hb : Hp} {o : HO} (M : Made p H Ha) (hd : Ha d = none) (S : Sm Ha Hb) (nt : ∀ qs, Hb d ≠ some (.tbl qs)) : Made p H (upd Hb d o) := fun H0 h0 S0 => ((M H0 h0 S0).trans S).over ((M H0 h0 S0).free hd) nt
def scFs (own dl last : V) : List (Str × V) := [("_own", own), ("_dealings", dl), ("_job", .int 0), ("_last", last)]
/-- a new instance, made -/
theorem Made.new {p dx C : Addr} {H H' : Hp} (hp : H p = none) (hd : H dx = none) (ne : dx ≠ p) (M : Made p (upd (upd H dx (.own p)) p (.ins C dx [])) H') : Sm H H' := M H hp ((Sm.new (o := .own p) hd).over hp fun qs z => by
  rw [upd_ne (Ne.symm ne), hp] at z
  cases z)
def spInit0 (C : Addr) : Sp := fun vs H Q _ => ∃ p dx : Addr, vs = [.ref p] ∧ H p = some (.ins C dx []) ∧ ∀ H', Made p H H' → Q .non H'
def spInitD (C : Addr) : Sp := fun vs H Q _ => ∃ (p dx : Addr) (x : V), vs = [.ref p, x] ∧ H p = some (.ins C dx []) ∧ ∀ H', Made p H H' → Q .non H'
/-- the ways of a scene: words and the methods behind them -/
def waysOf (cs : Tabs) : List (Str × Addr) := [("is", cs.m_Scene__is), ("var", cs.m_Scene__node), ("at", cs.m_Scene__node), ("short", cs.m_Scene__node), ("op", cs.m_Scene__op), ("not", cs.m_Scene__not), ("minus", cs.m_Scene__minus), ("length", cs.m_Scene__length), ("piece", cs.m_Scene__piece), ("part", cs.m_Scene__part), ("order", cs.m_Scene__next_key), ("back", cs.m_Scene__next_key), ("data", cs.m_Scene__data), ("other", cs.m_Scene__other)]
structure ScAt (cs : Tabs) (H : Hp) (s : Addr) : Prop where
  ex : ∃ (dx ways : Addr) (own dl last : V) (kvs : List (Key × V)), H s = some (.ins cs.a_Scene dx (scFs own dl last ++ [(("_ways" : Str), V.ref ways)])) ∧ H ways = some (.dK kvs) ∧
    ∀ p ∈ waysOf cs, ∃ q, valV kvs (.inr p.1) = some (.ref q) ∧ H q = some (.met p.2 s)
instance ntMet {f x : Addr} : NT (.met f x) := ⟨rfl⟩
theorem ScAt.sm {cs : Tabs} {H H' : Hp} {s : Addr} (A : ScAt cs H s) (S : Sm H H') : ScAt cs H' s := by
  obtain ⟨dx, ways, own, dl, last, kvs, h1, h2, h3⟩ := A.ex
  refine ⟨dx, ways, own, dl, last, kvs, S _ _ h1, S _ _ h2, fun p hp => ?_⟩
  obtain ⟨q, e1, e2⟩ := h3 p hp
  exact ⟨q, e1, S _ _ e2⟩
def spScene (cs : Tabs) : Sp := fun vs H Q _ => ∃ (p dx : Addr) (x y : V), vs = [.ref p, x, y, .int 0] ∧ H p = some (.ins cs.a_Scene dx []) ∧ ∀ H', Made p H H' → ScAt cs H' p → Q .non H'
section
variable {P : Program} {w : World} {K : PySem.W.Frag} {mg : Str → Option Value} {base : Heap} {cs : Tabs}
theorem ok_tree (T : Txt K mg cs) : CalC P w K mg base 1 "Tree" cs.a_Tree ["self"] [] (spInit0 cs.a_Tree) := by
  refine T.f_Tree___init__.cal scTreeInit (fun vs H Q E h => ?_) (fun f cdv A outer s H vs Q E hr h => ?_)
  · obtain ⟨p, dx, rfl, _⟩ := h
    rfl
  obtain ⟨p, dx, rfl, hp, q⟩ := h
  refine ⟨_, (pss_cons (ps_fld (pv 0) pe_non rfl)
    (pss_cons (ps_fld (pv 0) (pe_lst pa_nil) rfl)
    (pss_one (ps_fld (pv 0) pe_dnewK rfl)))), ?_⟩
  refine ⟨_, rfl, p, _, dx, _, rfl, hp, T.cl_Tree, T.no_Tree_worth, (by decide), ?_⟩
  refine ⟨(by decide), fun l hl => ⟨_, rfl, p, _, dx, _, rfl, by rw [upd_ne (ne_of_none upd_same hl)]; exact upd_same, T.cl_Tree, T.no_Tree_row, put_lt (by decide), ?_⟩⟩
  refine fun d hd => ⟨_, rfl, p, _, dx, _, rfl, by rw [upd_ne (ne_of_none upd_same hd)]; exact upd_same, T.cl_Tree, T.no_Tree_beneath, put_lt (put_lt (by decide)), ?_⟩
  refine q _ ?_
  exact ((((Made.refl p H).put hp rfl).sm (Sm.new hl)).put (by rw [upd_ne (ne_of_none upd_same hl)]; exact upd_same) rfl).sm (Sm.new hd) |>.put (by rw [upd_ne (ne_of_none upd_same hd)]; exact upd_same) rfl
theorem ok_arrays (T : Txt K mg cs) (CTree : CalC P w K mg base 1 "Tree" cs.a_Tree ["self"] [] (spInit0 cs.a_Tree)) : CalC P w K mg base 3 "Arrays" cs.a_Arrays ["self"] [] (spInit0 cs.a_Arrays) := by
  refine T.f_Arrays___init__.cal scArraysInit (fun vs H Q E h => ?_) (fun f cdv A outer s H vs Q E hr h => ?_)
  · obtain ⟨p, dx, rfl, _⟩ := h
    rfl
  obtain ⟨p, dx, rfl, hp, q⟩ := h
  refine ⟨_, (pss_one (ps_fld (pv 0) (pe_calC0 CTree (hr.mono (by first | decide | omega))) rfl)), ?_⟩
  intro x d hx hd ne
  refine ⟨x, d, rfl, upd_same, fun H1 M1 => ⟨rfl, ?_⟩⟩
  have S1 := Made.new hx hd ne M1
  refine ⟨_, rfl, p, _, dx, _, rfl, S1 _ _ hp, T.cl_Arrays, T.no_Arrays__tree, (by decide), ?_⟩
  exact q _ (((Made.refl p H).sm S1).put (S1 _ _ hp) rfl)
theorem ok_dealings (T : Txt K mg cs) : CalC P w K mg base 1 "Dealings" cs.a_Dealings ["self", "arrays"] [] (spInitD cs.a_Dealings) := by
  refine T.f_Dealings___init__.cal scDealingsInit (fun vs H Q E h => ?_) (fun f cdv A outer s H vs Q E hr h => ?_)
  · obtain ⟨p, dx, x, rfl, _⟩ := h
    rfl
  obtain ⟨p, dx, x, rfl, hp, q⟩ := h
  refine ⟨_, (pss_cons (ps_fld (pv 0) (pv 1) rfl)
    (pss_one (ps_fld (pv 0) pe_dnewK rfl))), ?_⟩
  refine ⟨_, rfl, _, rfl, p, _, dx, _, rfl, hp, T.cl_Dealings, T.no_Dealings__arrays, (by decide), ?_⟩
  refine fun d hd => ⟨_, rfl, p, _, dx, _, rfl, by rw [upd_ne (ne_of_none upd_same hd)]; exact upd_same, T.cl_Dealings, T.no_Dealings__begun, put_lt (by decide), ?_⟩
  exact q _ ((((Made.refl p H).put hp rfl).sm (Sm.new hd)).put (by rw [upd_ne (ne_of_none upd_same hd)]; exact upd_same) rfl)
theorem put_new {f : Str} {y : V} : ∀ {fs : List (Str × V)}, f ∉ fs.map Prod.fst → putF f y fs = fs ++ [(f, y)]
  | [], _ => rfl
  | (g, x) :: r, h => by
    rw [List.map_cons, List.mem_cons, not_or] at h
    have ih := put_new (f := f) (y := y) (fs := r) h.2
    unfold putF
    rw [if_neg (Ne.symm h.1), ih]
    rfl
theorem lk_none {m : Str} : ∀ {fs : List (Str × V)}, m ∉ fs.map Prod.fst → fs.lookup m = none
  | [], _ => rfl
  | (g, x) :: r, h => by
    rw [List.map_cons, List.mem_cons, not_or] at h
    have e : (m == g) = false := beq_eq_false_iff_ne.mpr h.1
    simp only [List.lookup, e]
    exact lk_none h.2
theorem merge_not {k : Key} : ∀ (more acc : List (Key × V)), k ∉ more.map Prod.fst → valV (mergeK acc more) k = valV acc k
  | [], _, _ => rfl
  | (k0, v0) :: r, acc, h => by
    rw [List.map_cons, List.mem_cons, not_or] at h
    show valV (mergeK (putK acc k0 v0) r) k = _
    rw [merge_not r _ h.2, valV_put, if_neg h.1]
theorem merge_val {k : Key} {v : V} : ∀ (more acc : List (Key × V)), (more.map Prod.fst).Nodup → (k, v) ∈ more → valV (mergeK acc more) k = some v
  | (k0, v0) :: r, acc, hn, h => by
    obtain ⟨h1, h2⟩ := List.nodup_cons.mp hn
    show valV (mergeK (putK acc k0 v0) r) k = _
    rcases List.mem_cons.mp h with e | h
    · cases e
      rw [merge_not r _ h1, valV_put, if_pos rfl]
    · exact merge_val r _ h2 h
/-- words and new bound methods, pair by pair -/
theorem ways_pairs {C dx p : Addr} {fs : List (Str × V)} {σ : L2.St} (h0 : σ[0]? = some (some (.ref p))) : ∀ (L : List (Str × Str × Addr)) (H : Hp) (Q : List (V × V) → Hp → Prop), H p = some (.ins C dx fs) → (∀ t ∈ L, fs.lookup t.2.1 = none) →
    (∀ (qs : List Addr) (H' : Hp), Sm H H' → Paired (fun t q => H' q = some (.met t.2.2 p)) L qs → Q ((L.zip qs).map fun x => (V.str x.1.1, V.ref x.2)) H') →
    tPairs (L.map fun t => (tC (.str t.1), tBnd C t.2.2 t.2.1 (tVar 0))) σ H Q
  | [], H, Q, _, _, q => q [] H (Sm.refl H) .nil
  | t :: L, H, Q, hp, hl, q => by
    refine ⟨_, h0, p, dx, fs, rfl, hp, hl t (.head _), fun a ha => ?_⟩
    have S1 : Sm H (upd H a (.met t.2.2 p)) := Sm.new ha
    refine ways_pairs h0 L _ _ (S1 _ _ hp) (fun u hu => hl u (.tail _ hu)) fun qs H' S pr => ?_
    exact q (a :: qs) H' (S1.trans S) (.cons (S _ _ upd_same) pr)
theorem paired_mem {α β : Type} {F : α → β → Prop} : ∀ {l : List α} {m : List β}, Paired F l m → ∀ a ∈ l, ∃ b, (a, b) ∈ l.zip m ∧ F a b
  | _, _, .cons h t, a, ha => by
    rcases List.mem_cons.mp ha with rfl | ha
    · exact ⟨_, .head _, h⟩
    · obtain ⟨b, h1, h2⟩ := paired_mem t a ha
      exact ⟨b, .tail _ h1, h2⟩
theorem paired_len {α β : Type} {F : α → β → Prop} : ∀ {l : List α} {m : List β}, Paired F l m → l.length = m.length
  | _, _, .nil => rfl
  | _, _, .cons _ t => congrArg (· + 1) (paired_len t)
theorem zip_fst {α β : Type} : ∀ {l : List α} {m : List β}, l.length = m.length → (l.zip m).map Prod.fst = l
  | [], [], _ => rfl
  | a :: l, b :: m, h => by
    rw [List.zip_cons_cons, List.map_cons, zip_fst (by simpa using h)]
theorem vK_inr {k : Str} : kV (.inr k) = .str k := rfl
theorem ok_scene (T : Txt K mg cs) : CalC P w K mg base 1 "Scene" cs.a_Scene ["self", "own", "dealings", "job"] [.int 0] (spScene cs) := by
  obtain ⟨_, _, B_Scene__is, _⟩ := T.f_Scene__is.ex
  obtain ⟨_, _, B_Scene__node, _⟩ := T.f_Scene__node.ex
  obtain ⟨_, _, B_Scene__op, _⟩ := T.f_Scene__op.ex
  obtain ⟨_, _, B_Scene__not, _⟩ := T.f_Scene__not.ex
  obtain ⟨_, _, B_Scene__minus, _⟩ := T.f_Scene__minus.ex
  obtain ⟨_, _, B_Scene__length, _⟩ := T.f_Scene__length.ex
  obtain ⟨_, _, B_Scene__piece, _⟩ := T.f_Scene__piece.ex
  obtain ⟨_, _, B_Scene__part, _⟩ := T.f_Scene__part.ex
  obtain ⟨_, _, B_Scene__next_key, _⟩ := T.f_Scene__next_key.ex
  obtain ⟨_, _, B_Scene__data, _⟩ := T.f_Scene__data.ex
  obtain ⟨_, _, B_Scene__other, _⟩ := T.f_Scene__other.ex
  refine T.f_Scene___init__.cal scSceneInit (fun vs H Q E h => ?_) (fun f cdv A outer s H vs Q E hr h => ?_)
  · obtain ⟨p, dx, x, y, rfl, _⟩ := h
    rfl
  obtain ⟨p, dx, x, y, rfl, hp, q⟩ := h
  refine ⟨_, (pss_cons (ps_fld (pv 0) (pv 1) rfl)
    (pss_cons (ps_fld (pv 0) (pv 2) rfl)
    (pss_cons (ps_fld (pv 0) (pv 3) rfl)
    (pss_cons (ps_fld (pv 0) pe_non rfl)
    (pss_one (ps_fld (pv 0) (pe_disp (pps_cons pe_str (pe_bnd (pv 0) T.cl_Scene B_Scene__is) (pps_cons pe_str (pe_bnd (pv 0) T.cl_Scene B_Scene__node) (pps_cons pe_str (pe_bnd (pv 0) T.cl_Scene B_Scene__node) (pps_cons pe_str (pe_bnd (pv 0) T.cl_Scene B_Scene__node) (pps_cons pe_str (pe_bnd (pv 0) T.cl_Scene B_Scene__op) (pps_cons pe_str (pe_bnd (pv 0) T.cl_Scene B_Scene__not) (pps_cons pe_str (pe_bnd (pv 0) T.cl_Scene B_Scene__minus) (pps_cons pe_str (pe_bnd (pv 0) T.cl_Scene B_Scene__length) (pps_cons pe_str (pe_bnd (pv 0) T.cl_Scene B_Scene__piece) (pps_cons pe_str (pe_bnd (pv 0) T.cl_Scene B_Scene__part) (pps_cons pe_str (pe_bnd (pv 0) T.cl_Scene B_Scene__next_key) (pps_cons pe_str (pe_bnd (pv 0) T.cl_Scene B_Scene__next_key) (pps_cons pe_str (pe_bnd (pv 0) T.cl_Scene B_Scene__data) (pps_cons pe_str (pe_bnd (pv 0) T.cl_Scene B_Scene__other) pps_nil)))))))))))))) rfl rfl (by decide) (by decide)) rfl)))))), ?_⟩
  refine ⟨_, (by rfl), _, (by rfl), p, _, dx, _, rfl, hp, T.cl_Scene, T.no_Scene__own, (by decide), ?_⟩
  refine ⟨_, (by rfl), _, (by rfl), p, _, dx, _, rfl, upd_same, T.cl_Scene, T.no_Scene__dealings, put_lt (by decide), ?_⟩
  refine ⟨_, (by rfl), _, (by rfl), p, _, dx, _, rfl, upd_same, T.cl_Scene, T.no_Scene__job, put_lt (put_lt (by decide)), ?_⟩
  refine ⟨_, (by rfl), p, _, dx, _, rfl, upd_same, T.cl_Scene, T.no_Scene__last, put_lt (put_lt (put_lt (by decide))), ?_⟩
  intro d hd
  have e1 : putF "_last" .non (putF "_job" (.int 0) (putF "_dealings" y (putF "_own" x []))) = scFs x y .non := by
    rw [put_new (f := "_own") (fs := []) (by simp), put_new (f := "_dealings") (by show ¬ ("_dealings" : Str) ∈ [("_own" : Str)]; decide +kernel), put_new (f := "_job") (by show ¬ ("_job" : Str) ∈ [("_own" : Str), "_dealings"]; decide +kernel), put_new (f := "_last") (by show ¬ ("_last" : Str) ∈ [("_own" : Str), "_dealings", "_job"]; decide +kernel)]
    rfl
  rw [upd_upd, upd_upd, upd_upd, e1] at hd ⊢
  have M1 : Made p H (upd H p (.ins cs.a_Scene dx (scFs x y .non))) := (Made.refl p H).put hp rfl
  have hp1 : (upd H p (.ins cs.a_Scene dx (scFs x y .non))) p = some (.ins cs.a_Scene dx (scFs x y .non)) := upd_same
  generalize upd H p (.ins cs.a_Scene dx (scFs x y .non)) = H1 at *
  have S2 : Sm H1 (upd H1 d (.dK [])) := Sm.new hd
  have hd2 : (upd H1 d (.dK [])) d = some (.dK []) := upd_same
  generalize upd H1 d (.dK []) = H2 at *
  let L : List (Str × Str × Addr) := [("is", "_is", cs.m_Scene__is), ("var", "_node", cs.m_Scene__node), ("at", "_node", cs.m_Scene__node), ("short", "_node", cs.m_Scene__node), ("op", "_op", cs.m_Scene__op), ("not", "_not", cs.m_Scene__not), ("minus", "_minus", cs.m_Scene__minus), ("length", "_length", cs.m_Scene__length), ("piece", "_piece", cs.m_Scene__piece), ("part", "_part", cs.m_Scene__part), ("order", "_next_key", cs.m_Scene__next_key), ("back", "_next_key", cs.m_Scene__next_key), ("data", "_data", cs.m_Scene__data), ("other", "_other", cs.m_Scene__other)]
  have hL : ∀ t ∈ L, (scFs x y .non).lookup t.2.1 = none := fun t ht => by
    refine lk_none ?_
    show ¬ t.2.1 ∈ [("_own" : Str), "_dealings", "_job", "_last"]
    have all : (([("is", "_is"), ("var", "_node"), ("at", "_node"), ("short", "_node"), ("op", "_op"), ("not", "_not"), ("minus", "_minus"), ("length", "_length"), ("piece", "_piece"), ("part", "_part"), ("order", "_next_key"), ("back", "_next_key"), ("data", "_data"), ("other", "_other")] : List (Str × Str)).all fun u => !([("_own" : Str), "_dealings", "_job", "_last"].contains u.2)) = true := by decide +kernel
    have m : (t.1, t.2.1) ∈ L.map fun u => (u.1, u.2.1) := List.mem_map.mpr ⟨t, ht, rfl⟩
    have := List.all_eq_true.mp all (t.1, t.2.1) m
    simpa using this
  refine ways_pairs (C := cs.a_Scene) (dx := dx) (p := p) (fs := scFs x y .non) (by rfl) L H2 _ (S2 _ _ hp1) hL fun qs H3 S3 pr => ?_
  have hq := paired_len pr
  refine ⟨S3 _ _ hd2, (L.zip qs).map (fun z => (Sum.inr z.1.1, V.ref z.2)), by rw [List.map_map]; rfl, ?_, ?_⟩
  · rw [List.length_map, List.length_zip, ← hq]
    show min 14 14 ≤ 15
    decide
  have hp3 := S3 _ _ (S2 _ _ hp1)
  have ned : p ≠ d := fun z => by
    rw [z, S3 _ _ hd2] at hp3
    cases hp3
  have hd3 := S3 _ _ hd2
  refine ⟨_, (by rfl), p, _, dx, _, rfl, by rw [upd_ne ned]; exact hp3, T.cl_Scene, T.no_Scene__ways, (by show 4 < 1000; decide), ?_⟩
  have M4 : Made p H (upd H3 d (.dK (mergeK [] ((L.zip qs).map fun z => (Sum.inr z.1.1, V.ref z.2))))) := M1.own hd (S2.trans S3) fun qs z => by
    rw [hd3] at z
    cases z
  have hp4 : (upd H3 d (.dK (mergeK [] ((L.zip qs).map fun z => (Sum.inr z.1.1, V.ref z.2))))) p = some (.ins cs.a_Scene dx (scFs x y .non)) := by rw [upd_ne ned]; exact hp3
  have e2 : putF "_ways" (V.ref d) (scFs x y .non) = scFs x y .non ++ [(("_ways" : Str), V.ref d)] := put_new (by show ¬ ("_ways" : Str) ∈ [("_own" : Str), "_dealings", "_job", "_last"]; decide +kernel)
  rw [e2]
  refine q _ (M4.put hp4 rfl) ⟨dx, d, x, y, .non, _, upd_same, by rw [upd_ne (Ne.symm ned)]; exact upd_same, fun pr' hpr => ?_⟩
  have hw : waysOf cs = L.map fun t => (t.1, t.2.2) := rfl
  rw [hw] at hpr
  obtain ⟨t, ht, rfl⟩ := List.mem_map.mp hpr
  obtain ⟨a, ha, hm⟩ := paired_mem pr t ht
  refine ⟨a, merge_val _ _ ?_ (List.mem_map.mpr ⟨(t, a), ha, rfl⟩), ?_⟩
  · have e3 : ((L.zip qs).map fun z => ((Sum.inr z.1.1 : Key), V.ref z.2)).map Prod.fst = (([("is"), "var", "at", "short", "op", "not", "minus", "length", "piece", "part", "order", "back", "data", "other"] : List Str).map fun u => (Sum.inr u : Key)) := by
      rw [List.map_map]
      have : ((L.zip qs).map Prod.fst).map (fun t => (Sum.inr t.1 : Key)) = L.map fun t => (Sum.inr t.1 : Key) := by rw [zip_fst hq]
      rw [List.map_map] at this
      exact this
    rw [e3]
    decide +kernel
  · have n1 : a ≠ p := ne_of hm hp3 fun z => by cases z
    have n2 : a ≠ d := ne_of hm hd3 fun z => by cases z
    rw [upd_ne n1, upd_ne n2]
    exact hm
end
/-! ### pieces and parts -/
def piecesL (a b : Str) : List Str := if b.length == 0 then [a] else Txt.split a b
def pieceAt (a b : Str) (n : Int) : Str := if 1 ≤ n ∧ n ≤ ((piecesL a b).length : Nat) then ((piecesL a b)[(n - 1).toNat]?).getD "" else ""
def spPieceOf : Sp := fun vs H Q _ => ∃ (a b : Str) (n : Int), vs = [.str a, .str b, .int n] ∧ (tl a).length ≤ 5000 ∧ ∀ H', Sm H H' → Q (.str (pieceAt a b n)) H'
def spPartOf : Sp := fun vs H Q _ => ∃ (a : Str) (i j : Int), vs = [.str a, .int i, .int j] ∧ (tl a).length ≤ 5000 ∧ Q (.str (cutS a (some ((if 1 > i then 1 else i) - 1)) (some (if 0 > j then 0 else j)))) H
theorem empty_len {b : Str} (h : b ≠ "") : (b.length == 0) = false := by
  rw [beq_eq_false_iff_ne]
  intro z
  have e : tl b = [] := List.eq_nil_of_length_eq_zero (by rw [← len_tl]; exact z)
  refine h ?_
  rw [← mk_tl b, e]
  rfl
section
variable {P : Program} {w : World} {K : PySem.W.Frag} {mg : Str → Option Value} {base : Heap} {cs : Tabs}
theorem ok_piece_of (T : Txt K mg cs) : Cal P w K mg base 1 "piece_of" ["one", "other", "nth"] spPieceOf := by
  refine T.f_piece_of.cal scPieceOf (fun vs H Q E h => ?_) (fun f cdv A outer s H vs Q E hr h => ?_)
  · obtain ⟨a, b, n, rfl, _⟩ := h
    rfl
  obtain ⟨a, b, n, rfl, hl, q⟩ := h
  refine ⟨_, (C8.pss_cut (ps_set (i := 3) scPieceOf.nd rfl (by first | exact Or.inl rfl | exact Or.inr rfl) (pe_ifExp (pt_cmpR op_eq (pv 1) pe_str (nomark _)) (pe_lst (pa_cons (pv 0) pa_nil)) (pe_m1 PySem.F.slot_str_split PySem.F.type_str_split mt_split (pv 0) (pv 1))))
    (pss_one (ps_ret (pe_ifExp (pt_chain op_le op_le pe_int (pv 2) (pe_callB (lenQ K) rfl T.n_len (by decide +kernel) (pa_cons (pv 3) pa_nil))) (pe_ix (ixL K) (pv 3) (pe_op op_sub (pv 2) pe_int) (fun _ _ => rfl)) pe_str)))), ?_⟩
  refine ⟨fun σ' H' => ∃ p, σ' = [some (.str a), some (.str b), some (.int n), some (.ref p)] ∧ Sm H H' ∧ H' p = some (.lst ((piecesL a b).map V.str)), ?_, ?_⟩
  · dsimp only [tAsg, gName]
    refine ⟨_, (by rfl), rfl, _, rfl, ?_⟩
    refine ite2 (fun c => ?_) (fun c => ?_)
    · have e : b = "" := by have := of_decide_eq_true c; injection this
      refine ⟨_, (by rfl), (by show 1 ≤ sizeLine; decide), fun p hp => ⟨p, rfl, Sm.new hp, ?_⟩⟩
      have e0 : piecesL a b = [a] := by rw [e]; rfl
      rw [e0]
      exact upd_same
    · have e : b ≠ "" := fun z => by subst z; simp at c
      have hb := empty_len e
      refine ⟨_, (by rfl), ⟨_, rfl⟩, _, (by rfl), _, _, rfl, rfl, hb, ?_, fun p hp => ⟨p, rfl, Sm.new hp, ?_⟩⟩
      · rw [len_tl]
        exact Nat.le_trans (Nat.add_le_add_right hl 2) (by decide)
      have e0 : piecesL a b = Txt.split a b := by unfold piecesL; rw [hb]; rfl
      rw [e0]
      exact upd_same
  rintro σ1 H1 ⟨p, rfl, S1, hp⟩
  refine run_ret ?_
  have S : SqL K H1 p ((piecesL a b).map V.str) := SqL.of hp
  have hQ := q H1 S1
  unfold pieceAt at hQ
  refine ⟨_, rfl, 1, n, rfl, rfl, _, rfl, ?_⟩
  refine ite2 (fun c => ?_) (fun c => ?_)
  · have c1 := of_decide_eq_true c
    refine ⟨_, rfl, p, _, rfl, .inl S, n, _, rfl, rfl, _, rfl, ?_⟩
    rw [List.length_map]
    refine ite2 (fun d => ?_) (fun d => ?_)
    · have d1 := of_decide_eq_true d
      refine ⟨_, rfl, _, rfl, n, 1, rfl, rfl, p, _, n - 1, _, rfl, rfl, S, ?_, hQ⟩
      rw [if_pos ⟨c1, d1⟩]
      have hi : (n - 1).toNat < (piecesL a b).length := by omega
      have hx : ixN (((piecesL a b).map V.str).length) (n - 1) = some (n - 1).toNat := by
        rw [List.length_map]
        unfold ixN
        rw [if_pos (by omega), if_pos (by omega)]
      unfold atI
      rw [hx]
      show ((piecesL a b).map V.str)[(n - 1).toNat]? = _
      rw [List.getElem?_map, List.getElem?_eq_getElem hi]
      rfl
    · have d1 : ¬ _ := fun z => d (decide_eq_true z)
      rw [if_neg fun z => d1 z.2] at hQ
      exact hQ
  · have c1 : ¬ _ := fun z => c (decide_eq_true z)
    rw [if_neg fun z => c1 z.1] at hQ
    exact ⟨false, rfl, hQ⟩
theorem ok_part_of (T : Txt K mg cs) : Cal P w K mg base 1 "part_of" ["one", "first", "last"] spPartOf := by
  refine T.f_part_of.cal scPartOf (fun vs H Q E h => ?_) (fun f cdv A outer s H vs Q E hr h => ?_)
  · obtain ⟨a, i, j, rfl, _⟩ := h
    rfl
  obtain ⟨a, i, j, rfl, hl, q⟩ := h
  refine ⟨_, (pss_one (ps_ret (pe_slice sl_str (pv 0) (po_some (pe_op op_sub (pe_callB (call_max2 rfl) rfl T.n_max (by decide +kernel) (pa_cons (pv 1) (pa_cons pe_int pa_nil))) pe_int)) (po_some (pe_callB (call_max2 rfl) rfl T.n_max (by decide +kernel) (pa_cons (pv 2) (pa_cons pe_int pa_nil))))))), ?_⟩
  refine run_ret ?_
  refine ⟨_, rfl, _, rfl, i, 1, rfl, _, _, rfl, rfl, _, rfl, _, rfl, j, 0, rfl, _, rfl, a, rfl, ?_, q⟩
  rw [len_tl]
  exact Nat.le_trans hl (by decide)
end
/-! ### a scene reckons -/
def IsX (H : Hp) (x : V) (t : Str) : Prop := ∃ p, x = .ref p ∧ H p = some (.tup [.str "is", .str t])
def spIs : Sp := fun vs H Q _ => ∃ (y x : V) (t : Str), vs = [y, x] ∧ IsX H x t ∧ Q (.str t) H
def spW (cs : Tabs) (S : Addr → Option Sp) : Sp := fun vs H Q _ => ∃ (s p : Addr) (word : Str) (more : List V) (g : Addr) (sp : Sp), vs = [.ref s, .ref p] ∧ ScAt cs H s ∧ H p = some (.tup (.str word :: more)) ∧ (word, g) ∈ waysOf cs ∧ S g = some sp ∧
  ∀ Q' : VK, (∀ (t : Str) (H' : Hp), (tl t).length ≤ 2000 → Q (.str t) H' → Q' (.str t) H') → sp [.ref s, .ref p] H Q' E0
section
variable {P : Program} {w : World} {K : PySem.W.Frag} {mg : Str → Option Value} {base : Heap} {cs : Tabs}
theorem heldM_of {k : Nat} {g C : Addr} {m : Str} {ps : List Str} {sp : Sp} (h : ∃ fd, FnOk P w K mg base CX0 k g fd ps sp ∧ BMeth K C m g ∧ Binds K fd ps []) : HeldM P w K mg base k g sp := by
  obtain ⟨fd, F, M, b⟩ := h
  exact ⟨fd, ps, F, M.fi, b⟩
theorem ok_is (T : Txt K mg cs) : HeldM P w K mg base 1 cs.m_Scene__is spIs := by
  refine heldM_of (T.f_Scene__is.ok scSceneIs (fun vs H Q E h => ?_) (fun cdv A outer s H vs Q E hr h => ?_))
  · obtain ⟨y, x, t, rfl, _⟩ := h
    rfl
  obtain ⟨y, x, t, rfl, ⟨p, rfl, hp⟩, q⟩ := h
  refine ⟨_, (pss_one (ps_ret (pe_ix (ixT K) (pv 1) pe_int (fun _ _ => rfl)))), ?_⟩
  exact ⟨_, rfl, p, _, 1, _, rfl, rfl, SqT.of hp, atI_nat (j := 1) rfl, q⟩
theorem ok_worth_of (T : Txt K mg cs) {k : Nat} {S : Addr → Option Sp} (HM : ∀ g sp, S g = some sp → HeldM P w K mg base k g sp) : CalM P w K mg base (k + 1) cs.a_Scene "_worth_of" ["self", "expression"] (spW cs S) := by
  refine T.f_Scene__worth_of.cal scSceneWorthOf (fun vs H Q E h => ?_) (fun f cdv A outer s H vs Q E hr h => ?_)
  · obtain ⟨_, _, _, _, _, _, rfl, _⟩ := h
    rfl
  obtain ⟨s', p, word, more, g, sp, rfl, A1, hp, hg, hS, q⟩ := h
  obtain ⟨dx, ways, own, dl, last, kvs, h1, h2, h3⟩ := A1.ex
  obtain ⟨m, e1, e2⟩ := h3 _ hg
  have dg : DGet H ways (.str word) (some (.ref m)) := by
    have z := DGet.k (k := Sum.inr word) h2
    rw [show valV kvs (Sum.inr word) = _ from e1] at z
    exact z
  refine ⟨_, (pss_cons (ps_set (i := 2) scSceneWorthOf.nd rfl (by first | exact Or.inl rfl | exact Or.inr rfl) (pe_dget (Nat.lt_trans (Nat.add_lt_add_left (show 1 < 64 by decide) _) hr.units) (pe_fldK (K := K) (pv 0)) (pe_ix (ixT K) (pv 1) pe_int (fun _ _ => rfl)) (fun _ _ => rfl)))
    (pss_cons (ps_set (i := 3) scSceneWorthOf.nd rfl (by first | exact Or.inl rfl | exact Or.inr rfl) (pe_met (i := 2) HM (hr.mono (by first | decide | omega)) rfl (by first | exact Or.inl rfl | exact Or.inr (Or.inl rfl)) (pa_cons (pv 1) pa_nil)))
    (pss_cons (ps_if (pt_cmpR op_gt (pe_callB lenT rfl T.n_len (by decide +kernel) (pa_cons (pv 3) pa_nil)) (C8.pe_gc rfl T.g__LONGEST_WORTH) (nomark _)) (pss_one ps_dead) pss_nil)
    (pss_one (ps_ret (pv 3)))))), ?_⟩
  refine run_set ?_
  refine ⟨_, rfl, s', _, dx, _, _, rfl, h1, T.cl_Scene, T.no_Scene__ways, rfl, _, rfl, p, _, 0, _, rfl, rfl, SqT.of hp, atI_nat (j := 0) rfl, ways, .ref m, rfl, dg, ?_⟩
  refine run_set ?_
  refine ⟨m, g, s', sp, rfl, e2, hS, _, rfl, e2, q _ fun t H' ht hq => ?_⟩
  refine run_if ?_
  refine ⟨_, rfl, t, rfl, by rw [len_tl]; exact Nat.le_trans ht (by decide), _, _, rfl, rfl, _, rfl, ?_⟩
  have e : decide ((2000 : Int) < (t.length : Nat)) = false := decide_eq_false (by rw [len_tl]; omega)
  rw [e]
  refine iteF ?_
  refine run_next ?_
  exact ⟨_, rfl, hq⟩
end
theorem sc_lk {own dl last ways : V} {m : Str} (h : (["_own", "_dealings", "_job", "_last", "_ways"] : List Str).contains m = false) : (scFs own dl last ++ [(("_ways" : Str), ways)]).lookup m = none := by
  refine lk_none ?_
  show ¬ m ∈ (["_own", "_dealings", "_job", "_last", "_ways"] : List Str)
  intro z
  rw [List.contains_iff_mem.mpr z] at h
  cases h
theorem scene_meth {cs : Tabs} {H : Hp} {s : Addr} {m : Str} {sp : Sp} {t : TA} {σ : L2.St} {Q : VK} {i : Nat} (A : ScAt cs H s) (h0 : σ[i]? = some (some (.ref s))) (hm : (["_own", "_dealings", "_job", "_last", "_ways"] : List Str).contains m = false)
    (h : t σ H fun vs H2 => sp (.ref s :: vs) H2 Q E0) : tMeth cs.a_Scene m sp [] E0 (tVar i) t σ H Q := by
  obtain ⟨dx, ways, own, dl, last, kvs, h1, _⟩ := A.ex
  refine ⟨_, h0, s, dx, _, rfl, h1, sc_lk hm, ?_⟩
  simp only [List.append_nil]
  exact h
theorem CalM.imp {P : Program} {w : World} {K : PySem.W.Frag} {mg : Str → Option Value} {base : Heap} {k : Nat} {C : Addr} {m : Str} {ps : List Str} {sp sp' : Sp} (F : CalM P w K mg base k C m ps sp) (h : ∀ vs H Q E, sp' vs H Q E → sp vs H Q E) : CalM P w K mg base k C m ps sp' := by
  obtain ⟨f, fd, F1, M, b⟩ := F.ex
  exact ⟨f, fd, F1.imp h, M, b⟩
theorem HeldM.mono {P : Program} {w : World} {K : PySem.W.Frag} {mg : Str → Option Value} {base : Heap} {j k : Nat} {g : Addr} {sp : Sp} (F : HeldM P w K mg base j g sp) (h : j ≤ k) : HeldM P w K mg base k g sp := by
  obtain ⟨fd, ps, F1, M, b⟩ := F.ex
  exact ⟨fd, ps, F1.mono h, M, b⟩
/-! #### what a scene answers, word by word -/
def spWi (cs : Tabs) : Sp := fun vs H Q _ => ∃ (s : Addr) (x : V) (t : Str), vs = [.ref s, x] ∧ ScAt cs H s ∧ IsX H x t ∧ (tl t).length ≤ 2000 ∧ Q (.str t) H
def spNo (cs : Tabs) : Sp := fun vs H Q _ => ∃ (s : Addr) (x : V) (t : Str), vs = [.ref s, x] ∧ ScAt cs H s ∧ IsX H x t ∧ (tl t).length ≤ 250 ∧ Q (.int (numOf (tl t))) H
def spLe (cs : Tabs) : Sp := fun vs H Q _ => ∃ (s p : Addr) (x : V) (t : Str), vs = [.ref s, .ref p] ∧ ScAt cs H s ∧ H p = some (.tup [.str "length", x]) ∧ IsX H x t ∧ (tl t).length ≤ 2000 ∧ ∀ (z : Str) (H' : Hp), Sm H H' → tl z = numT (tl t).length → Q (.str z) H'
def spPi (cs : Tabs) : Sp := fun vs H Q _ => ∃ (s p : Addr) (x y n : V) (a b c : Str), vs = [.ref s, .ref p] ∧ ScAt cs H s ∧ H p = some (.tup [.str "piece", x, y, n]) ∧ IsX H x a ∧ IsX H y b ∧ IsX H n c ∧ (tl a).length ≤ 2000 ∧ (tl b).length ≤ 2000 ∧ (tl c).length ≤ 250 ∧ ∀ H', Sm H H' → Q (.str (pieceAt a b (numOf (tl c)))) H'
def partAt (a : Str) (i j : Int) : Str := cutS a (some ((if 1 > i then 1 else i) - 1)) (some (if 0 > j then 0 else j))
def spPa (cs : Tabs) : Sp := fun vs H Q _ => ∃ (s p : Addr) (x y n : V) (a b c : Str), vs = [.ref s, .ref p] ∧ ScAt cs H s ∧ H p = some (.tup [.str "part", x, y, n]) ∧ IsX H x a ∧ IsX H y b ∧ IsX H n c ∧ (tl a).length ≤ 2000 ∧ (tl b).length ≤ 250 ∧ (tl c).length ≤ 250 ∧ Q (.str (partAt a (numOf (tl b)) (numOf (tl c)))) H
section
variable {P : Program} {w : World} {K : PySem.W.Frag} {mg : Str → Option Value} {base : Heap} {cs : Tabs}
def S0 (cs : Tabs) : Addr → Option Sp := fun g => if g = cs.m_Scene__is then some spIs else none
theorem ok_wi (T : Txt K mg cs) (I : HeldM P w K mg base 1 cs.m_Scene__is spIs) : CalM P w K mg base 2 cs.a_Scene "_worth_of" ["self", "expression"] (spWi cs) := by
  refine CalM.imp (ok_worth_of T (S := S0 cs) fun g sp h => ?_) fun vs H Q E h => ?_
  · unfold S0 at h
    split at h
    · cases h
      rename_i e
      rw [e]
      exact I
    · cases h
  obtain ⟨s, x, t, rfl, A, ⟨p, rfl, hp⟩, hl, q⟩ := h
  exact ⟨s, p, "is", _, cs.m_Scene__is, spIs, rfl, A, hp, .head _, if_pos rfl, fun Q' hq => ⟨_, _, t, rfl, ⟨p, rfl, hp⟩, hq t H hl q⟩⟩
theorem ok_no (T : Txt K mg cs) (CScene__worth_of : CalM P w K mg base 2 cs.a_Scene "_worth_of" ["self", "expression"] (spWi cs)) (Cnumber_of : Cal P w K mg base 2 "number_of" ["worth"] spNumOf) : CalM P w K mg base 3 cs.a_Scene "_number_of" ["self", "expression"] (spNo cs) := by
  refine T.f_Scene__number_of.cal scSceneNumberOf (fun vs H Q E h => ?_) (fun f cdv A outer s H vs Q E hr h => ?_)
  · obtain ⟨_, _, _, rfl, _⟩ := h
    rfl
  obtain ⟨s', x, t, rfl, A1, hx, hl, q⟩ := h
  refine ⟨_, (pss_one (ps_ret (pe_cal Cnumber_of (hr.mono (by first | decide | omega)) (pa_cons (pe_calM CScene__worth_of T.cl_Scene (hr.mono (by first | decide | omega)) (pv 0) (pa_cons (pv 1) pa_nil)) pa_nil)))), ?_⟩
  exact run_ret (scene_meth A1 rfl (by decide +kernel) ⟨_, rfl, s', x, t, rfl, A1, hx, Nat.le_trans hl (by decide), t, rfl, hl, q⟩)
theorem ok_le (T : Txt K mg cs) (CScene__worth_of : CalM P w K mg base 2 cs.a_Scene "_worth_of" ["self", "expression"] (spWi cs)) (Cnumber_text : Cal P w K mg base 1 "number_text" ["number"] spNumText) : HeldM P w K mg base 3 cs.m_Scene__length (spLe cs) := by
  refine heldM_of (T.f_Scene__length.ok scSceneLength (fun vs H Q E h => ?_) (fun cdv A outer s H vs Q E hr h => ?_))
  · obtain ⟨_, _, _, _, rfl, _⟩ := h
    rfl
  obtain ⟨s', p, x, t, rfl, A1, hp, hx, hl, q⟩ := h
  refine ⟨_, (pss_one (ps_ret (pe_cal Cnumber_text (hr.mono (by first | decide | omega)) (pa_cons (pe_callB lenT rfl T.n_len (by decide +kernel) (pa_cons (pe_calM CScene__worth_of T.cl_Scene (hr.mono (by first | decide | omega)) (pv 0) (pa_cons (pe_ix (ixT K) (pv 1) pe_int (fun _ _ => rfl)) pa_nil)) pa_nil)) pa_nil)))), ?_⟩
  refine run_ret (scene_meth A1 rfl (by decide +kernel) ⟨_, rfl, p, _, 1, _, rfl, rfl, SqT.of hp, atI_nat (j := 1) rfl, s', x, t, rfl, A1, hx, hl, t, rfl, ?_, _, rfl, ?_, fun z H' S e => q z H' S ?_⟩)
  · rw [len_tl]
    exact Nat.le_trans hl (by decide)
  · rw [len_tl]
    exact Nat.lt_of_le_of_lt (show ((tl t).length : Int).natAbs ≤ 2000 by omega) (by decide)
  · rw [e, len_tl]
theorem ok_pi (T : Txt K mg cs) (CScene__worth_of : CalM P w K mg base 2 cs.a_Scene "_worth_of" ["self", "expression"] (spWi cs)) (CScene__number_of : CalM P w K mg base 3 cs.a_Scene "_number_of" ["self", "expression"] (spNo cs)) (Cpiece_of : Cal P w K mg base 1 "piece_of" ["one", "other", "nth"] spPieceOf) : HeldM P w K mg base 4 cs.m_Scene__piece (spPi cs) := by
  refine heldM_of (T.f_Scene__piece.ok scScenePiece (fun vs H Q E h => ?_) (fun cdv A outer s H vs Q E hr h => ?_))
  · obtain ⟨_, _, _, _, _, _, _, _, rfl, _⟩ := h
    rfl
  obtain ⟨s', p, x, y, n, a, b, c, rfl, A1, hp, hx, hy, hn, ha, hb, hc, q⟩ := h
  refine ⟨_, (pss_cons (ps_set (i := 2) scScenePiece.nd rfl (by first | exact Or.inl rfl | exact Or.inr rfl) (pe_calM CScene__worth_of T.cl_Scene (hr.mono (by first | decide | omega)) (pv 0) (pa_cons (pe_ix (ixT K) (pv 1) pe_int (fun _ _ => rfl)) pa_nil)))
    (pss_cons (ps_set (i := 3) scScenePiece.nd rfl (by first | exact Or.inl rfl | exact Or.inr rfl) (pe_calM CScene__worth_of T.cl_Scene (hr.mono (by first | decide | omega)) (pv 0) (pa_cons (pe_ix (ixT K) (pv 1) pe_int (fun _ _ => rfl)) pa_nil)))
    (pss_one (ps_ret (pe_cal Cpiece_of (hr.mono (by first | decide | omega)) (pa_cons (pv 2) (pa_cons (pv 3) (pa_cons (pe_calM CScene__number_of T.cl_Scene (hr.mono (by first | decide | omega)) (pv 0) (pa_cons (pe_ix (ixT K) (pv 1) pe_int (fun _ _ => rfl)) pa_nil)) pa_nil)))))))), ?_⟩
  refine run_set (scene_meth A1 rfl (by decide +kernel) ⟨_, rfl, p, _, 1, _, rfl, rfl, SqT.of hp, atI_nat (j := 1) rfl, s', x, a, rfl, A1, hx, ha, ?_⟩)
  refine run_set (scene_meth A1 rfl (by decide +kernel) ⟨_, rfl, p, _, 2, _, rfl, rfl, SqT.of hp, atI_nat (j := 2) rfl, s', y, b, rfl, A1, hy, hb, ?_⟩)
  exact run_ret ⟨_, rfl, _, rfl, scene_meth A1 rfl (by decide +kernel) ⟨_, rfl, p, _, 3, _, rfl, rfl, SqT.of hp, atI_nat (j := 3) rfl, s', n, c, rfl, A1, hn, hc, a, b, _, rfl, Nat.le_trans ha (by decide), q⟩⟩
theorem ok_pa (T : Txt K mg cs) (CScene__worth_of : CalM P w K mg base 2 cs.a_Scene "_worth_of" ["self", "expression"] (spWi cs)) (CScene__number_of : CalM P w K mg base 3 cs.a_Scene "_number_of" ["self", "expression"] (spNo cs)) (Cpart_of : Cal P w K mg base 1 "part_of" ["one", "first", "last"] spPartOf) : HeldM P w K mg base 4 cs.m_Scene__part (spPa cs) := by
  refine heldM_of (T.f_Scene__part.ok scScenePart (fun vs H Q E h => ?_) (fun cdv A outer s H vs Q E hr h => ?_))
  · obtain ⟨_, _, _, _, _, _, _, _, rfl, _⟩ := h
    rfl
  obtain ⟨s', p, x, y, n, a, b, c, rfl, A1, hp, hx, hy, hn, ha, hb, hc, q⟩ := h
  refine ⟨_, (pss_cons (ps_set (i := 2) scScenePart.nd rfl (by first | exact Or.inl rfl | exact Or.inr rfl) (pe_calM CScene__worth_of T.cl_Scene (hr.mono (by first | decide | omega)) (pv 0) (pa_cons (pe_ix (ixT K) (pv 1) pe_int (fun _ _ => rfl)) pa_nil)))
    (pss_cons (ps_set (i := 3) scScenePart.nd rfl (by first | exact Or.inl rfl | exact Or.inr rfl) (pe_calM CScene__number_of T.cl_Scene (hr.mono (by first | decide | omega)) (pv 0) (pa_cons (pe_ix (ixT K) (pv 1) pe_int (fun _ _ => rfl)) pa_nil)))
    (pss_one (ps_ret (pe_cal Cpart_of (hr.mono (by first | decide | omega)) (pa_cons (pv 2) (pa_cons (pv 3) (pa_cons (pe_calM CScene__number_of T.cl_Scene (hr.mono (by first | decide | omega)) (pv 0) (pa_cons (pe_ix (ixT K) (pv 1) pe_int (fun _ _ => rfl)) pa_nil)) pa_nil)))))))), ?_⟩
  refine run_set (scene_meth A1 rfl (by decide +kernel) ⟨_, rfl, p, _, 1, _, rfl, rfl, SqT.of hp, atI_nat (j := 1) rfl, s', x, a, rfl, A1, hx, ha, ?_⟩)
  refine run_set (scene_meth A1 rfl (by decide +kernel) ⟨_, rfl, p, _, 2, _, rfl, rfl, SqT.of hp, atI_nat (j := 2) rfl, s', y, b, rfl, A1, hy, hb, ?_⟩)
  exact run_ret ⟨_, rfl, _, rfl, scene_meth A1 rfl (by decide +kernel) ⟨_, rfl, p, _, 3, _, rfl, rfl, SqT.of hp, atI_nat (j := 3) rfl, s', n, c, rfl, A1, hn, hc, a, _, _, rfl, Nat.le_trans ha (by decide), q⟩⟩
/-- the ways of an expression whose parts are worths -/
def S1 (cs : Tabs) : Addr → Option Sp := fun g => if g = cs.m_Scene__length then some (spLe cs) else if g = cs.m_Scene__piece then some (spPi cs) else if g = cs.m_Scene__part then some (spPa cs) else none
theorem ok_w1 (T : Txt K mg cs) (h1 : HeldM P w K mg base 3 cs.m_Scene__length (spLe cs)) (h2 : HeldM P w K mg base 4 cs.m_Scene__piece (spPi cs)) (h3 : HeldM P w K mg base 4 cs.m_Scene__part (spPa cs)) : CalM P w K mg base 5 cs.a_Scene "_worth_of" ["self", "expression"] (spW cs (S1 cs)) := by
  refine ok_worth_of T (S := S1 cs) fun g sp h => ?_
  unfold S1 at h
  split at h
  · rename_i e
    cases h
    rw [e]
    exact h1.mono (by decide)
  split at h
  · rename_i e
    cases h
    rw [e]
    exact h2
  split at h
  · rename_i e
    cases h
    rw [e]
    exact h3
  cases h
theorem ok_reckon (T : Txt K mg cs) {S : Addr → Option Sp} {k : Nat} (CScene__worth_of : CalM P w K mg base k cs.a_Scene "_worth_of" ["self", "expression"] (spW cs S)) : CalM P w K mg base (k + 1) cs.a_Scene "reckon" ["self", "expression"] (spW cs S) := by
  refine T.f_Scene_reckon.cal scSceneReckon (fun vs H Q E h => ?_) (fun f cdv A outer s H vs Q E hr h => ?_)
  · obtain ⟨_, _, _, _, _, _, rfl, _⟩ := h
    rfl
  obtain ⟨s', p, word, more, g, sp, rfl, A1, rest⟩ := h
  obtain ⟨dx, ways, own, dl, last, kvs, h1, h2, h3⟩ := A1.ex
  refine ⟨_, (pss_cons (ps_set (i := 2) scSceneReckon.nd rfl (by first | exact Or.inl rfl | exact Or.inr rfl) (pe_fldK (K := K) (pv 0)))
    (pss_one (ps_try_thru0 (pss_one (ps_ret (pe_calM CScene__worth_of T.cl_Scene (hr.mono (by first | decide | omega)) (pv 0) (pa_cons (pv 1) pa_nil))))))), ?_⟩
  refine run_set ⟨_, rfl, s', _, dx, _, _, rfl, h1, T.cl_Scene, T.no_Scene__last, rfl, ?_⟩
  exact run_ret (scene_meth A1 (by rfl) (by decide +kernel) ⟨_, (by rfl), s', p, word, more, g, sp, rfl, A1, rest⟩)
/-! #### a scene that is asked -/
theorem rk_len (T : Txt K mg cs) {H : Hp} {Q : VK} {E : XK} {s p : Addr} {x : V} {t : Str} (A : ScAt cs H s) (hp : H p = some (.tup [.str "length", x])) (hx : IsX H x t) (ht : (tl t).length ≤ 2000)
    (q : ∀ (z : Str) (H' : Hp), Sm H H' → tl z = numT (tl t).length → Q (.str z) H') : spW cs (S1 cs) [.ref s, .ref p] H Q E := by
  refine ⟨s, p, "length", _, cs.m_Scene__length, spLe cs, rfl, A, hp, ?_, if_pos rfl, fun Q' hq => ⟨s, p, x, t, rfl, A, hp, hx, ht, fun z H' S e => hq z H' ?_ (q z H' S e)⟩⟩
  · unfold waysOf
    simp
  rw [e]
  have h0 : ¬ ((tl t).length : Int) < 0 := by omega
  unfold numT
  rw [if_neg h0]
  exact Nat.le_trans (numL_len (k := 60) (by decide) (Nat.lt_of_le_of_lt (show ((tl t).length : Int).natAbs ≤ 2000 by omega) (by decide))) (by decide)
theorem piece_len (a b : Str) (n : Int) : (tl (pieceAt a b n)).length ≤ (tl a).length := by
  unfold pieceAt
  split
  · rename_i h
    unfold piecesL at h ⊢
    split
    · rename_i h1
      rw [if_pos h1] at h
      have e : (n - 1).toNat = 0 := by have := h.2; simp at this; omega
      rw [e]
      exact Nat.le_refl _
    · rename_i h1
      rw [if_neg h1] at h
      have hb : 1 ≤ b.length := by
        rw [Nat.one_le_iff_ne_zero]
        intro z
        rw [z] at h1
        exact h1 rfl
      have wt := PyProof.Rows.split_weight a b hb
      have hi : (n - 1).toNat < (Txt.split a b).length := by omega
      rw [List.getElem?_eq_getElem hi]
      show (tl ((Txt.split a b)[(n - 1).toNat])).length ≤ _
      rw [← len_tl, ← len_tl]
      have m := List.getElem_mem hi
      generalize (Txt.split a b)[(n - 1).toNat] = y at m ⊢
      have ms : y.length ∈ (Txt.split a b).map (·.length) := List.mem_map.mpr ⟨y, m, rfl⟩
      have sm : y.length ≤ ((Txt.split a b).map (·.length)).sum := by
        generalize (Txt.split a b).map (·.length) = l at ms
        clear wt hi h
        induction l with
        | nil => cases ms
        | cons u l ih =>
          rw [List.sum_cons]
          rcases List.mem_cons.mp ms with rfl | ms
          · omega
          · have := ih ms
            omega
      omega
  · exact Nat.zero_le _
theorem part_len (a : Str) (i j : Int) : (tl (partAt a i j)).length ≤ (tl a).length := by
  unfold partAt
  show (((a.cps.toList.drop _).take _).toArray).toList.length ≤ _
  rw [List.toList_toArray, List.length_take, List.length_drop]
  exact Nat.le_trans (Nat.min_le_right _ _) (Nat.sub_le _ _)
theorem rk_piece (T : Txt K mg cs) {H : Hp} {Q : VK} {E : XK} {s p : Addr} {x y n : V} {a b c : Str} (A : ScAt cs H s) (hp : H p = some (.tup [.str "piece", x, y, n])) (hx : IsX H x a) (hy : IsX H y b) (hn : IsX H n c) (ha : (tl a).length ≤ 2000) (hb : (tl b).length ≤ 2000) (hc : (tl c).length ≤ 250)
    (q : ∀ H', Sm H H' → Q (.str (pieceAt a b (numOf (tl c)))) H') : spW cs (S1 cs) [.ref s, .ref p] H Q E := by
  refine ⟨s, p, "piece", _, cs.m_Scene__piece, spPi cs, rfl, A, hp, ?_, ?_, fun Q' hq => ⟨s, p, x, y, n, a, b, c, rfl, A, hp, hx, hy, hn, ha, hb, hc, fun H' S => hq _ H' (Nat.le_trans (piece_len _ _ _) ha) (q H' S)⟩⟩
  · unfold waysOf
    simp
  · have nd := T.nd
    unfold S1
    rw [if_neg, if_pos rfl]
    rintro e
    rw [e] at nd
    simp at nd
theorem rk_part (T : Txt K mg cs) {H : Hp} {Q : VK} {E : XK} {s p : Addr} {x y n : V} {a b c : Str} (A : ScAt cs H s) (hp : H p = some (.tup [.str "part", x, y, n])) (hx : IsX H x a) (hy : IsX H y b) (hn : IsX H n c) (ha : (tl a).length ≤ 2000) (hb : (tl b).length ≤ 250) (hc : (tl c).length ≤ 250)
    (q : Q (.str (partAt a (numOf (tl b)) (numOf (tl c)))) H) : spW cs (S1 cs) [.ref s, .ref p] H Q E := by
  refine ⟨s, p, "part", _, cs.m_Scene__part, spPa cs, rfl, A, hp, ?_, ?_, fun Q' hq => ⟨s, p, x, y, n, a, b, c, rfl, A, hp, hx, hy, hn, ha, hb, hc, hq _ H (Nat.le_trans (part_len _ _ _) ha) q⟩⟩
  · unfold waysOf
    simp
  · have nd := T.nd
    unfold S1
    rw [if_neg, if_neg, if_pos rfl]
    · rintro e
      rw [e] at nd
      simp at nd
    · rintro e
      rw [e] at nd
      simp at nd
end
section
variable {P : Program} {w : World} {K : PySem.W.Frag} {mg : Str → Option Value} {base : Heap} {cs : Tabs}
def JOINTS : List V := [.str "; ", .str ":", .str "=", .str ",", .str "|", .str "|  ", .str ")", .str "(", .str "\"", .str "\"\"", .str ")=\"", .str "; write 1", .str "=\"", .str "x", .str " "]
theorem SIGNS_wt : WT SIGNS 94 := WT.dec (by decide +kernel)
theorem some_sign {z : Str} {n j : Nat} (h : WT z n) (hj : j < (tl z).length) : ∃ c, atI (tl z) (j : Int) = some c ∧ sgn c = true := ⟨(tl z)[j], atI_nat (List.getElem?_eq_getElem hj), h.sg _ (List.getElem_mem hj)⟩
theorem WT.one {c : Nat} (h : sgn c = true) : WT ⟨#[c]⟩ 1 := ⟨Nat.le_refl _, fun d hd => by
  have e : d = c := List.mem_singleton.mp (show d ∈ [c] from hd)
  rw [e]
  exact h⟩
/-- some[draw(bag, len(some))], some a text -/
theorem sign_drawn {b : Addr} {i j m : Nat} {σ : L2.St} {H : Hp} {z : Str} {Q : VK} (hb : σ[i]? = some (some (.ref b))) (hs : σ[j]? = some (some (.str z))) (B : Bag H b m) (hm : m ≤ LIM) (hz : (tl z).length ≤ 1000) (h0 : 0 < (tl z).length)
    (q : ∀ c H', c ∈ tl z → Go b 1 H H' → Q (.str ⟨#[c]⟩) H') :
    tOp rIxS (tVar j) (tCall spDraw [] E0 (tCons (tVar i) (tCons (tCB rLenT1 (tCons (tVar j) tNil)) tNil))) σ H Q := by
  have e : z.length = (tl z).length := len_tl z
  refine ⟨_, hs, _, hb, _, hs, z, rfl, (by rw [e]; exact small (by omega)), b, (z.length : Int), m, rfl, B, hm, by omega, by omega, fun r H' r0 r1 G => ?_⟩
  obtain ⟨k, rfl⟩ : ∃ k : Nat, r = (k : Int) := ⟨r.toNat, by omega⟩
  have hk : k < (tl z).length := by omega
  exact ⟨z, (k : Int), _, rfl, rfl, (by rw [e]; exact small (by omega)), atI_nat (List.getElem?_eq_getElem hk), q _ _ (List.getElem_mem hk) G⟩
theorem list_drawn {A : V → Prop} {b p : Addr} {i j n m : Nat} {σ : L2.St} {H : Hp} {xs : List V} {Q : VK} (hb : σ[i]? = some (some (.ref b))) (hs : σ[j]? = some (some (.ref p))) (hp : H p = some (.lst xs)) (np : p ≠ b) (B : Bag H b m) (hm : m ≤ LIM) (hn : xs.length = n) (h0 : 0 < n ∧ n ≤ 1000)
    (hA : ∀ v ∈ xs, A v) (q : ∀ v H', A v → Go b 1 H H' → Q v H') : tOp (rIxL K) (tVar j) (tCall spDraw [] E0 (tCons (tVar i) (tCons (tC (.int ((n : Nat) : Int))) tNil))) σ H Q := by
  refine ⟨_, hs, _, hb, b, (n : Int), m, rfl, B, hm, by omega, by omega, fun r H' r0 r1 G => ?_⟩
  obtain ⟨k, rfl⟩ : ∃ k : Nat, r = (k : Int) := ⟨r.toNat, by omega⟩
  have hk : k < xs.length := by omega
  exact ⟨p, xs, (k : Int), _, rfl, rfl, SqL.of (G.keep p _ np hp), atI_nat (List.getElem?_eq_getElem hk), q _ _ (hA _ (List.getElem_mem hk)) G⟩
end
/-! ### keys and worths of the third family's laws -/
def spKeyC : Sp := fun vs H Q _ => ∃ (b : Addr) (m : Nat), vs = [.ref b] ∧ Bag H b m ∧ m + 100 ≤ LIM ∧ ∀ (z : Str) (H' : Hp), WT z 40 → Go b 10 H H' → Q (.str z) H'
def spWorthC : Sp := fun vs H Q _ => ∃ (b : Addr) (m : Nat), vs = [.ref b] ∧ Bag H b m ∧ m + 200 ≤ LIM ∧ ∀ (z : Str) (H' : Hp), WT z 80 → Go b 30 H H' → Q (.str z) H'
def KEYSC : List V := [.str "1", .str "2", .str "10", .str "-1", .str "0", .str "07", .str "-0", .str "+1", .str "1a", .str "a", .str "ab", .str "b", .str "A", .str " ", .str "x y", .str (Txt.mul "a" 40), .str (Txt.mul "9" 20)]
def SIGNSC : Str := " !\"#$&'()*+,-./0189:;<=>?@AZ[\\]^_`az{|}~"
theorem SIGNSC_wt : WT SIGNSC 60 := WT.dec (by decide +kernel)
section
variable {P : Program} {w : World} {K : PySem.W.Frag} {mg : Str → Option Value} {base : Heap} {cs : Tabs}
theorem ok_law_key (T : Txt K mg cs) (C_law_draw : Cal P w K mg base 1 "_law_draw" ["bag", "many"] spDraw) : Cal P w K mg base 2 "_law_key" ["bag"] spKeyC := by
  refine T.f_law_key.cal scLawKey (fun vs H Q E h => ?_) (fun f cdv A outer s H vs Q E hr h => ?_)
  · obtain ⟨b, m, rfl, _⟩ := h
    rfl
  obtain ⟨b, m, rfl, B, hm, q⟩ := h
  refine ⟨_, (pss_cons (ps_set (i := 1) scLawKey.nd rfl (by first | exact Or.inl rfl | exact Or.inr rfl) (pe_lst (pa_cons pe_str (pa_cons pe_str (pa_cons pe_str (pa_cons pe_str (pa_cons pe_str (pa_cons pe_str (pa_cons pe_str (pa_cons pe_str (pa_cons pe_str (pa_cons pe_str (pa_cons pe_str (pa_cons pe_str (pa_cons pe_str (pa_cons pe_str (pa_cons pe_str (pa_cons (pe_op op_strRep pe_str pe_int) (pa_cons (pe_op op_strRep pe_str pe_int) pa_nil)))))))))))))))))))
    (pss_cons (ps_if (pt_cmpR op_gt (pe_cal C_law_draw (hr.mono (by first | decide | omega)) (pa_cons (pv 0) (pa_cons pe_int pa_nil))) pe_int (nomark _)) (pss_one (ps_ret (pe_ix (ixL K) (pv 1) (pe_cal C_law_draw (hr.mono (by first | decide | omega)) (pa_cons (pv 0) (pa_cons pe_int pa_nil))) (fun _ _ => rfl)))) pss_nil)
    (pss_cons (ps_set (i := 2) scLawKey.nd rfl (by first | exact Or.inl rfl | exact Or.inr rfl) pe_str)
    (pss_one (ps_ret (pe_join pe_str (pe_lc (own := [("k", 3)]) (g := gName 3) (tt := tYes) rfl scLawKey.nd (pi_range1 rfl T.n_range (pa_cons (pe_op op_add pe_int (pe_cal C_law_draw (hr.mono (by first | decide | omega)) (pa_cons (pv 0) (pa_cons pe_int pa_nil)))) pa_nil)) (blkOk_by (own := [("k", 3)]) (N := ["bag", "some", "signs", "k"]) (sc := defScope sLawKey) (by decide +kernel)) (fun _ _ _ _ _ => (pg_name (i := 3) scLawKey.nd rfl (by first | exact Or.inl rfl | exact Or.inr rfl))) (fun _ _ _ _ _ => pts_nil) (fun _ _ _ _ _ => (pe_ix ix_str (pv 2) (pe_cal C_law_draw (hr.mono (by first | decide | omega)) (pa_cons (pv 0) (pa_cons (pe_callB lenT rfl T.n_len (by decide +kernel) (pa_cons (pv 2) pa_nil)) pa_nil))) (fun _ _ => rfl)))))))))), ?_⟩
  unfold LIM at hm
  refine run_set ?_
  refine ⟨_, _, rfl, rfl, mul_ok (by decide) (by decide) (by decide +kernel), _, _, rfl, rfl, mul_ok (by decide) (by decide) (by decide +kernel), (by show 17 ≤ sizeLine; decide), fun p hp => ?_⟩
  have np := B.ne hp
  have G0 : Go b 0 H (upd H p (.lst KEYSC)) := Go.new hp
  have hp0 : (upd H p (.lst KEYSC)) p = some (.lst KEYSC) := upd_same
  change tSeq _ _ _ _ (upd H p (.lst KEYSC))
  generalize upd H p (.lst KEYSC) = H0 at *
  have B0 := G0.bag _ B
  refine run_if ?_
  refine run_test (draw_here (i := 0) rfl B0 (by unfold LIM; omega) (by decide) (by decide) fun lot H1 l0 l1 G1 => ⟨lot, 0, rfl, rfl, _, rfl, ?_⟩)
  have B1 := G1.bag _ B0
  have hp1 := G1.keep p _ np hp0
  refine ite2 (fun c => ?_) (fun c => ?_)
  · refine run_ret (list_drawn (i := 0) (j := 1) (n := 17) (A := fun v => ∃ z, v = .str z ∧ WT z 40) rfl rfl hp1 np B1 (by unfold LIM; omega) rfl (by decide) (allWT_ok (by decide +kernel)) fun v H2 hv G2 => ?_)
    obtain ⟨z, rfl, W⟩ := hv
    exact q _ _ W (((G0.trans G1).trans G2).mono (by omega))
  refine run_next ?_
  dsimp only
  refine run_set ?_
  refine run_ret ?_
  refine ⟨⟨_, rfl⟩, lc_drawn (i := 3) (N := 3) (c0 := 1) (c := 1) (A0 := fun _ => True) (fun v => ∃ z, v = .str z ∧ WT z 1) (fun R h => draw_here (i := 0) (by rfl) B1 (by unfold LIM; omega) (by decide) (by decide) fun r H3 r0 r1 G3 => ⟨1, r, rfl, rfl, h _ _ trivial (by omega) (by omega) G3⟩) B1 (by decide) (fun j H4 hj B4 G4 R hR => ?_) fun k D ys H4 _ k0 k1 hl hA G4 hy _ => ?_⟩
  · exact sign_drawn (z := SIGNSC) (i := 0) (j := 2) (by rfl) (by rfl) B4 (by unfold LIM; omega) (Nat.le_trans SIGNSC_wt.len (by decide)) (by decide +kernel) fun c H' hc G' => hR _ _ ⟨_, rfl, WT.one (SIGNSC_wt.sg c hc)⟩ G'
  · obtain ⟨zs, rfl, hz, hW⟩ := texts_of ys hA
    have hl' : zs.length = k.toNat := by rw [hz]; exact hl
    refine ⟨_, D, zs, rfl, rfl, .inl (SqL.of hy), glue_ok (k := 1) (n := zs.length) (fun y hy => (hW y hy).len) rfl (by omega), ?_⟩
    exact q _ _ ((WT.glue hW).mono (by omega)) (((G0.trans G1).trans G4).mono (by omega))
theorem WT.app {y z : Str} {n m : Nat} (h1 : WT y n) (h2 : WT z m) : WT (y ++ z) (n + m) := by
  refine ⟨by rw [tl_append, List.length_append]; have := h1.len; have := h2.len; omega, fun c hc => ?_⟩
  rw [tl_append] at hc
  rcases List.mem_append.mp hc with h | h
  · exact h1.sg c h
  · exact h2.sg c h
theorem WT.mul {z : Str} {k n : Nat} (W : WT z k) : WT (Txt.mul z (n : Int)) (n * k) := by
  have h : ∀ n : Nat, ((List.replicate n (tl z)).flatten).length ≤ n * k ∧ ∀ c ∈ (List.replicate n (tl z)).flatten, sgn c = true := by
    intro n
    induction n with
    | zero => exact ⟨by simp, fun c hc => by simp at hc⟩
    | succ n ih =>
      rw [List.replicate_succ, List.flatten_cons]
      refine ⟨?_, fun c hc => ?_⟩
      · rw [List.length_append, Nat.succ_mul]
        have := W.len
        have := ih.1
        omega
      · rcases List.mem_append.mp hc with e | e
        · exact W.sg c e
        · exact ih.2 c e
  exact ⟨by rw [tl_mul]; exact (h n).1, fun c hc => by rw [tl_mul] at hc; exact (h n).2 c hc⟩
def WORTHSC : List V := [.str "", .str "0", .str "1", .str "5", .str "-3", .str "12", .str "007", .str "-0", .str "+4x", .str "--2", .str "abc", .str "a,b,,c", .str "1e3", .str " 1", .str (Txt.mul "a" 50), .str "-"]
theorem ok_law_worth (T : Txt K mg cs) (C_law_draw : Cal P w K mg base 1 "_law_draw" ["bag", "many"] spDraw) (C_law_key : Cal P w K mg base 2 "_law_key" ["bag"] spKeyC) : Cal P w K mg base 3 "_law_worth" ["bag"] spWorthC := by
  refine T.f_law_worth.cal scLawWorth (fun vs H Q E h => ?_) (fun f cdv A outer s H vs Q E hr h => ?_)
  · obtain ⟨b, m, rfl, _⟩ := h
    rfl
  obtain ⟨b, m, rfl, B, hm, q⟩ := h
  refine ⟨_, (pss_cons (ps_set (i := 1) scLawWorth.nd rfl (by first | exact Or.inl rfl | exact Or.inr rfl) (pe_lst (pa_cons pe_str (pa_cons pe_str (pa_cons pe_str (pa_cons pe_str (pa_cons pe_str (pa_cons pe_str (pa_cons pe_str (pa_cons pe_str (pa_cons pe_str (pa_cons pe_str (pa_cons pe_str (pa_cons pe_str (pa_cons pe_str (pa_cons pe_str (pa_cons (pe_op op_strRep pe_str pe_int) (pa_cons pe_str pa_nil))))))))))))))))))
    (pss_cons (ps_set (i := 2) scLawWorth.nd rfl (by first | exact Or.inl rfl | exact Or.inr rfl) (pe_cal C_law_draw (hr.mono (by first | decide | omega)) (pa_cons (pv 0) (pa_cons pe_int pa_nil))))
    (pss_cons (ps_if (pt_cmpR op_lt (pv 2) pe_int (nomark _)) (pss_one (ps_ret (pe_ix (ixL K) (pv 1) (pe_cal C_law_draw (hr.mono (by first | decide | omega)) (pa_cons (pv 0) (pa_cons pe_int pa_nil))) (fun _ _ => rfl)))) pss_nil)
    (pss_cons (ps_if (pt_cmpR op_eq (pv 2) pe_int (nomark _)) (pss_one (ps_ret (pe_callTy call_str_int rfl T.n_str (by decide +kernel) (pa_cons (pe_op op_sub (pe_cal C_law_draw (hr.mono (by first | decide | omega)) (pa_cons (pv 0) (pa_cons (pe_ix (ixL K) (pe_lst (pa_cons pe_int (pa_cons (pe_op op_powW pe_int pe_int) (pa_cons (pe_op op_powW pe_int pe_int) pa_nil)))) (pe_cal C_law_draw (hr.mono (by first | decide | omega)) (pa_cons (pv 0) (pa_cons pe_int pa_nil))) (fun _ _ => rfl)) pa_nil))) pe_int) pa_nil)))) pss_nil)
    (pss_one (ps_ret (pe_op op_add_str (pe_slice sl_str (pe_cal C_law_key (hr.mono (by first | decide | omega)) (pa_cons (pv 0) pa_nil)) po_none (po_some pe_int)) (pe_cal C_law_key (hr.mono (by first | decide | omega)) (pa_cons (pv 0) pa_nil))))))))), ?_⟩
  unfold LIM at hm
  refine run_set ?_
  refine ⟨_, _, rfl, rfl, mul_ok (by decide) (by decide) (by decide +kernel), (by show 16 ≤ sizeLine; decide), fun p hp => ?_⟩
  have np := B.ne hp
  have G0 : Go b 0 H (upd H p (.lst WORTHSC)) := Go.new hp
  have hp0 : (upd H p (.lst WORTHSC)) p = some (.lst WORTHSC) := upd_same
  change tSeq _ _ _ _ (upd H p (.lst WORTHSC))
  generalize upd H p (.lst WORTHSC) = H0 at *
  have B0 := G0.bag _ B
  refine run_set (draw_here (i := 0) rfl B0 (by unfold LIM; omega) (by decide) (by decide) fun lot H1 l0 l1 G1 => ?_)
  have B1 := G1.bag _ B0
  have hp1 := G1.keep p _ np hp0
  refine run_if ⟨_, rfl, lot, 2, rfl, rfl, _, rfl, ?_⟩
  refine ite2 (fun c => ?_) (fun c => ?_)
  · refine run_ret (list_drawn (i := 0) (j := 1) (n := 16) (A := fun v => ∃ z, v = .str z ∧ WT z 50) rfl rfl hp1 np B1 (by unfold LIM; omega) rfl (by decide) (allWT_ok (by decide +kernel)) fun v H2 hv G2 => ?_)
    obtain ⟨z, rfl, W⟩ := hv
    exact q _ _ (W.mono (by decide)) (((G0.trans G1).trans G2).mono (by omega))
  refine run_next ?_
  dsimp only
  refine run_if ⟨_, rfl, rfl, _, rfl, ?_⟩
  refine ite2 (fun c2 => ?_) (fun c2 => ?_)
  · refine run_ret ?_
    refine ⟨_, rfl, menuG (n := 3) (c := 0) (A := fun v => ∃ k : Int, v = .int k ∧ 0 < k ∧ k ≤ 10 ^ 19) (m := m + 0 + 1) (i := 0) (fun R h => ⟨10, 6, rfl, rfl, ⟨by decide, by decide, by decide⟩, 10, 19, rfl, rfl, ⟨by decide, by decide, by decide⟩, h _ _ rfl (fun v hv => ?_) (Go.refl b _)⟩) rfl B1 (by unfold LIM; omega) (by decide) (by decide) fun v H2 hv G2 => ?_⟩
    · rcases List.mem_cons.mp hv with rfl | hv
      · exact ⟨10, rfl, by decide, by decide⟩
      rcases List.mem_cons.mp hv with rfl | hv
      · exact ⟨10 ^ 6, rfl, by decide, by decide⟩
      rcases List.mem_cons.mp hv with rfl | hv
      · exact ⟨10 ^ 19, rfl, by decide, by decide⟩
      · cases hv
    obtain ⟨k, rfl, k0, k1⟩ := hv
    have B2 := G2.bag _ B1
    refine ⟨b, k, _, rfl, B2, by unfold LIM; omega, k0, by omega, fun num H3 n0 n1 G3 => ?_⟩
    have hn : (num - 4).natAbs < 10 ^ 19 := by omega
    refine ⟨num, 4, rfl, rfl, num - 4, rfl, log_ok (Nat.lt_trans hn (by decide)), ?_⟩
    exact q _ _ ((WT.int (by decide) hn).mono (by decide)) ((((G0.trans G1).trans G2).trans G3).mono (by omega))
  refine run_next ?_
  dsimp only
  refine run_ret ?_
  refine ⟨_, rfl, b, m + 0 + 1, rfl, B1, by unfold LIM; omega, fun z H2 W G2 => ?_⟩
  refine ⟨((40 : Nat) : Int), rfl, z, rfl, W.line (by decide), _, rfl, b, _, rfl, G2.bag _ B1, by unfold LIM; omega, fun y H3 W3 G3 => ?_⟩
  have W0 := (WT.cut W.sg 40).app W3
  refine ⟨_, _, rfl, rfl, ?_, q _ _ W0 ((((G0.trans G1).trans G2).trans G3).mono (by omega))⟩
  rw [len_tl, len_tl]
  have a1 := (WT.cut W.sg 40).len
  have a2 := W3.len
  exact Nat.le_trans (Nat.add_le_add a1 a2) (by decide)
def spTextC : Sp := fun vs H Q _ => ∃ (b : Addr) (m : Nat), vs = [.ref b] ∧ Bag H b m ∧ m + 500 ≤ LIM ∧ ∀ (z : Str) (H' : Hp), WT z 180 → Go b 100 H H' → Q (.str z) H'
theorem ok_law_text (T : Txt K mg cs) (C_law_draw : Cal P w K mg base 1 "_law_draw" ["bag", "many"] spDraw) (C_law_worth : Cal P w K mg base 3 "_law_worth" ["bag"] spWorthC) : Cal P w K mg base 4 "_law_text" ["bag"] spTextC := by
  refine T.f_law_text.cal scLawText (fun vs H Q E h => ?_) (fun f cdv A outer s H vs Q E hr h => ?_)
  · obtain ⟨b, m, rfl, _⟩ := h
    rfl
  obtain ⟨b, m, rfl, B, hm, q⟩ := h
  refine ⟨_, (pss_cons (ps_set (i := 1) scLawText.nd rfl (by first | exact Or.inl rfl | exact Or.inr rfl) (pe_join pe_str (pe_lc (own := [("k", 2)]) (g := gName 2) (tt := tYes) rfl scLawText.nd (pi_range1 rfl T.n_range (pa_cons (pe_cal C_law_draw (hr.mono (by first | decide | omega)) (pa_cons (pv 0) (pa_cons pe_int pa_nil))) pa_nil)) (blkOk_by (own := [("k", 2)]) (N := ["bag", "few", "k"]) (sc := defScope sLawText) (by decide +kernel)) (fun _ _ _ _ _ => (pg_name (i := 2) scLawText.nd rfl (by first | exact Or.inl rfl | exact Or.inr rfl))) (fun _ _ _ _ _ => pts_nil) (fun _ _ _ _ _ => (pe_ix ix_str pe_str (pe_cal C_law_draw (hr.mono (by first | decide | omega)) (pa_cons (pv 0) (pa_cons pe_int pa_nil))) (fun _ _ => rfl))))))
    (pss_one (ps_ret (pe_ix (ixL K) (pe_lst (pa_cons (pv 1) (pa_cons (pv 1) (pa_cons (pe_cal C_law_worth (hr.mono (by first | decide | omega)) (pa_cons (pv 0) pa_nil)) (pa_cons pe_str (pa_cons (pe_op op_strRep pe_str (pe_cal C_law_draw (hr.mono (by first | decide | omega)) (pa_cons (pv 0) (pa_cons pe_int pa_nil)))) pa_nil)))))) (pe_cal C_law_draw (hr.mono (by first | decide | omega)) (pa_cons (pv 0) (pa_cons pe_int pa_nil))) (fun _ _ => rfl))))), ?_⟩
  unfold LIM at hm
  refine run_set ?_
  refine ⟨⟨_, rfl⟩, lc_drawn (i := 2) (N := 12) (c0 := 1) (c := 1) (A0 := fun _ => True) (fun v => ∃ z, v = .str z ∧ WT z 1) (fun R h => draw_here (i := 0) (by rfl) B (by unfold LIM; omega) (by decide) (by decide) fun r H3 r0 r1 G3 => h _ _ trivial (by omega) (by omega) G3) B (by decide) (fun j H4 hj B4 G4 R hR => ?_) fun k D ys H4 _ k0 k1 hl hA G4 hy _ => ?_⟩
  · refine draw_here (i := 0) (by rfl) B4 (by unfold LIM; omega) (by decide) (by decide) fun r H5 r0 r1 G5 => ?_
    obtain ⟨j5, rfl⟩ : ∃ j5 : Nat, r = (j5 : Int) := ⟨r.toNat, by omega⟩
    have hk : j5 < (tl ("ab," : Str)).length := by
      have : (tl ("ab," : Str)).length = 3 := by decide +kernel
      omega
    have W3 : WT ("ab," : Str) 3 := WT.dec (by decide +kernel)
    exact ⟨"ab,", _, _, rfl, rfl, (by decide +kernel), atI_nat (List.getElem?_eq_getElem hk), hR _ _ ⟨_, rfl, WT.one (W3.sg _ (List.getElem_mem hk))⟩ G5⟩
  obtain ⟨zs, rfl, hz, hW⟩ := texts_of ys hA
  have hl' : zs.length = k.toNat := by rw [hz]; exact hl
  refine ⟨_, D, zs, rfl, rfl, .inl (SqL.of hy), glue_ok (k := 1) (n := zs.length) (fun y hy => (hW y hy).len) rfl (by omega), ?_⟩
  have W : WT (Txt.join "" zs) 12 := (WT.glue hW).mono (by omega)
  have B4 := G4.bag _ B
  generalize Txt.join "" zs = few at *
  refine run_ret ?_
  refine menuG (n := 5) (c := 31) (A := fun v => ∃ z, v = .str z ∧ WT z 180) (m := m + (1 + 1 * k.toNat)) (i := 0) (fun R h => ?_) rfl B4 (by unfold LIM; omega) (by decide) (by decide) fun v H5 hv G5 => ?_
  · refine ⟨_, rfl, _, rfl, _, rfl, b, _, rfl, B4, by unfold LIM; omega, fun z5 H5 W5 G5 => ?_⟩
    have B5 := G5.bag _ B4
    refine draw_here (i := 0) rfl B5 (by unfold LIM; omega) (by decide) (by decide) fun r H6 r0 r1 G6 => ?_
    obtain ⟨j6, rfl⟩ : ∃ j6 : Nat, r = (j6 : Int) := ⟨r.toNat, by omega⟩
    refine ⟨_, _, rfl, rfl, mul_ok (by omega) (by omega) (by decide +kernel), h _ _ rfl (fun v hv => ?_) ((G5.trans G6).mono (by omega))⟩
    rcases List.mem_cons.mp hv with rfl | hv
    · exact ⟨_, rfl, W.mono (by decide)⟩
    rcases List.mem_cons.mp hv with rfl | hv
    · exact ⟨_, rfl, W.mono (by decide)⟩
    rcases List.mem_cons.mp hv with rfl | hv
    · exact ⟨_, rfl, W5.mono (by decide)⟩
    rcases List.mem_cons.mp hv with rfl | hv
    · exact ⟨_, rfl, WT.dec (by decide +kernel)⟩
    rcases List.mem_cons.mp hv with rfl | hv
    · exact ⟨_, rfl, (WT.mul (n := j6) (WT.dec (n := 3) (by decide +kernel))).mono (by omega)⟩
    · cases hv
  obtain ⟨z, rfl, Wz⟩ := hv
  exact q _ _ Wz ((G4.trans G5).mono (by omega))
def spNthC : Sp := fun vs H Q _ => ∃ (b : Addr) (m n : Nat), vs = [.ref b, .int (n : Int)] ∧ Bag H b m ∧ m + 100 ≤ LIM ∧ n ≤ 1000 ∧ ∀ (z : Str) (H' : Hp), WT z 20 → Go b 10 H H' → Q (.str z) H'
theorem ok_law_nth (T : Txt K mg cs) (C_law_draw : Cal P w K mg base 1 "_law_draw" ["bag", "many"] spDraw) : Cal P w K mg base 2 "_law_nth" ["bag", "most"] spNthC := by
  refine T.f_law_nth.cal scLawNth (fun vs H Q E h => ?_) (fun f cdv A outer s H vs Q E hr h => ?_)
  · obtain ⟨b, m, n, rfl, _⟩ := h
    rfl
  obtain ⟨b, m, n, rfl, B, hm, hn, q⟩ := h
  refine ⟨_, (pss_cons (ps_set (i := 2) scLawNth.nd rfl (by first | exact Or.inl rfl | exact Or.inr rfl) (pe_lst (pa_cons (pe_cal C_law_draw (hr.mono (by first | decide | omega)) (pa_cons (pv 0) (pa_cons (pe_op op_add (pv 1) pe_int) pa_nil))) (pa_cons (pe_cal C_law_draw (hr.mono (by first | decide | omega)) (pa_cons (pv 0) (pa_cons pe_int pa_nil))) (pa_cons (pe_op op_sub pe_int (pe_cal C_law_draw (hr.mono (by first | decide | omega)) (pa_cons (pv 0) (pa_cons pe_int pa_nil)))) (pa_cons (pv 1) pa_nil))))))
    (pss_cons (ps_expr (pe_bm PySem.F.plainAttrs_list PySem.F.slot_list_append PySem.F.type_list_append mt_append (pv 2) (pa_cons (pe_op op_add (pe_op op_add (pv 1) pe_int) (pe_cal C_law_draw (hr.mono (by first | decide | omega)) (pa_cons (pv 0) (pa_cons (pe_op op_powW pe_int pe_int) pa_nil)))) pa_nil)))
    (pss_one (ps_ret (pe_op op_add_str (pe_callTy call_str_int rfl T.n_str (by decide +kernel) (pa_cons (pe_ix (ixL K) (pv 2) (pe_cal C_law_draw (hr.mono (by first | decide | omega)) (pa_cons (pv 0) (pa_cons pe_int pa_nil))) (fun _ _ => rfl)) pa_nil)) (pe_ix (ixL K) (pe_lst (pa_cons pe_str (pa_cons pe_str (pa_cons pe_str (pa_cons pe_str pa_nil))))) (pe_cal C_law_draw (hr.mono (by first | decide | omega)) (pa_cons (pv 0) (pa_cons pe_int pa_nil))) (fun _ _ => rfl))))))), ?_⟩
  unfold LIM at hm
  refine run_set ?_
  refine ⟨_, rfl, _, rfl, _, _, rfl, rfl, b, _, m, rfl, B, by unfold LIM; omega, by omega, by omega, fun r1 H1 r10 r11 G1 => ?_⟩
  have B1 := G1.bag _ B
  refine draw_here (i := 0) rfl B1 (by unfold LIM; omega) (by decide) (by decide) fun r2 H2 r20 r21 G2 => ?_
  have B2 := G2.bag _ B1
  refine draw_here (i := 0) rfl B2 (by unfold LIM; omega) (by decide) (by decide) fun r3 H3 r30 r31 G3 => ?_
  have B3 := G3.bag _ B2
  refine ⟨0, r3, rfl, rfl, _, rfl, (by show 4 ≤ sizeLine; decide), fun L hL => ?_⟩
  have nL := B3.ne hL
  have G4 : Go b 0 H3 (upd H3 L (.lst [.int r1, .int r2, .int (0 - r3), .int (n : Int)])) := Go.new hL
  have hL4 : (upd H3 L (.lst [.int r1, .int r2, .int (0 - r3), .int (n : Int)])) L = some (.lst [.int r1, .int r2, .int (0 - r3), .int (n : Int)]) := upd_same
  have B4 := G4.bag _ B3
  refine ⟨_, rfl, .inl ⟨rfl, _, .inl (.inl hL4)⟩, _, rfl, _, _, rfl, rfl, _, rfl, 10, 9, rfl, rfl, ⟨by decide, by decide, by decide⟩, b, (10 : Int) ^ ((9 : Int)).toNat, _, rfl, B4, by unfold LIM; omega, by decide, by decide, fun r4 H5 r40 r41 G5 => ?_⟩
  have r41' : r4 < 1000000000 := r41
  have B5 := G5.bag _ B4
  have hL5 := G5.keep L _ nL hL4
  refine ⟨_, r4, rfl, rfl, L, _, _, rfl, rfl, hL5, (by show 4 < sizeLine; decide), ?_⟩
  have G6 : Go b (0 + 1) H3 (upd H5 L (.lst [V.int r1, .int r2, .int (0 - r3), .int (n : Int), V.int ((n : Int) + 1 + r4)])) := Go.own (G4.trans G5) B3 hL fun qs z => by
    rw [hL5] at z
    cases z
  have hL6 : (upd H5 L (.lst [V.int r1, .int r2, .int (0 - r3), .int (n : Int), V.int ((n : Int) + 1 + r4)])) L = some (.lst [V.int r1, .int r2, .int (0 - r3), .int (n : Int), V.int ((n : Int) + 1 + r4)]) := upd_same
  dsimp only [List.cons_append, List.nil_append]
  generalize upd H5 L (.lst [V.int r1, .int r2, .int (0 - r3), .int (n : Int), V.int ((n : Int) + 1 + r4)]) = H6 at *
  have B6 := G6.bag _ B3
  refine run_ret ?_
  refine list_drawn (i := 0) (j := 2) (n := 5) (A := fun v => ∃ k : Int, v = .int k ∧ k.natAbs < 10 ^ 10) rfl rfl hL6 nL B6 (by unfold LIM; omega) rfl (by decide) (fun v hv => ?_) fun v H7 hv G7 => ?_
  · rcases List.mem_cons.mp hv with rfl | hv
    · exact ⟨_, rfl, by omega⟩
    rcases List.mem_cons.mp hv with rfl | hv
    · exact ⟨_, rfl, by omega⟩
    rcases List.mem_cons.mp hv with rfl | hv
    · exact ⟨_, rfl, by omega⟩
    rcases List.mem_cons.mp hv with rfl | hv
    · exact ⟨_, rfl, by omega⟩
    rcases List.mem_cons.mp hv with rfl | hv
    · exact ⟨_, rfl, by omega⟩
    · cases hv
  obtain ⟨k, rfl, hk⟩ := hv
  have B7 := G7.bag _ B6
  refine ⟨k, rfl, log_ok (Nat.lt_trans hk (by decide)), ?_⟩
  refine menuC (xs := [.str "", .str "", .str "x", .str " 2"]) (A := fun v => ∃ z, v = .str z ∧ WT z 2) (i := 0) (fun R h => h) (allWT_ok (by decide +kernel)) (by rfl) B7 (by unfold LIM; omega) (by decide) (by decide) fun v H8 hv G8 => ?_
  obtain ⟨z, rfl, Wz⟩ := hv
  have Wk := WT.int (by decide) hk
  refine ⟨_, _, rfl, rfl, ?_, q _ _ ((Wk.app Wz).mono (by decide)) ((((((G1.trans G2).trans G3).trans G6).trans G7).trans G8).mono (by omega))⟩
  rw [len_tl, len_tl]
  exact Nat.le_trans (Nat.add_le_add Wk.len Wz.len) (by decide)
end
open PySem.NumText (digitsVal AllDigits)
def spNumL : Sp := fun vs H Q _ => ∃ z : Str, vs = [.str z] ∧ (tl z).length ≤ 250 ∧ ∀ H', Sm H H' → Q (.int (numOf (tl z))) H'
def spWritten : Sp := fun vs H Q _ => ∃ n : Int, vs = [.int n] ∧ n.natAbs < 10 ^ 250 ∧ ∀ (z : Str) (H' : Hp), Sm H H' → tl z = numT n → Q (.str z) H'
theorem take_next {l : List Nat} {k : Nat} (h : k < l.length) : l.take (k + 1) = l.take k ++ [l[k]] := by rw [List.take_succ, List.getElem?_eq_getElem h]; rfl
theorem digit_at (n : Nat) : atI (tl FG) (((n : Nat) : Int) % 10) = some (48 + n % 10) := by
  have e : ((n : Int) % 10) = ((n % 10 : Nat) : Int) := by omega
  rw [e, tl_FG]
  refine atI_nat ?_
  have : ∀ j : Fin 10, [48, 49, 50, 51, 52, 53, 54, 55, 56, 57][j.val]? = some (48 + j.val) := by decide
  exact this ⟨n % 10, Nat.mod_lt _ (by decide)⟩
/-- while at < len(worth) and worth[at] in Z: .. -/
theorem scan_gen {i : Nat} {z Z : Str} {tb : TS} {σ : L2.St} {H : Hp} {D : Ends} (k0 : Nat) (Pv : Nat → L2.St → Hp → Prop) (hv : ∀ k σ H, Pv k σ H → σ[0]? = some (some (.str z)) ∧ σ[i]? = some (some (.int (k : Int)))) (hl : (tl z).length ≤ 1000) (hk0 : k0 ≤ (tl z).length) (h0 : Pv k0 σ H)
    (hs : ∀ k σ H (hk : k < (tl z).length), k0 ≤ k → (∀ j c, k0 ≤ j → j < k → (tl z)[j]? = some c → c ∈ tl Z) → Pv k σ H → (tl z)[k] ∈ tl Z → tb { D with nx := Pv (k + 1), ct := Pv (k + 1), bk := D.nx } σ H)
    (hd : ∀ k σ H, k0 ≤ k → k ≤ (tl z).length → (∀ j c, k0 ≤ j → j < k → (tl z)[j]? = some c → c ∈ tl Z) → (∀ c, (tl z)[k]? = some c → ¬ c ∈ tl Z) → Pv k σ H → D.nx σ H) :
    tWhile (tAnd (tTest (tOp (rI0 fun i j => V.bl (decide (i < j))) (tVar i) (tCB rLenT1 (tCons (tVar 0) tNil)))) (tTest (tOp rInS (tOp rIxS (tVar 0) (tVar i)) (tC (.str Z))))) tb D σ H := by
  have ez : z.length = (tl z).length := len_tl z
  refine ⟨fun m σ' H' => ∃ k : Nat, k0 ≤ k ∧ k ≤ (tl z).length ∧ (∀ j c, k0 ≤ j → j < k → (tl z)[j]? = some c → c ∈ tl Z) ∧ m = (tl z).length - k ∧ Pv k σ' H', ⟨_, k0, Nat.le_refl _, hk0, fun j c h1 h2 => absurd h2 (Nat.not_lt.mpr h1), rfl, h0⟩, fun m σ' H' hw => ?_⟩
  obtain ⟨k, hk1, hk, hS, rfl, hp⟩ := hw
  obtain ⟨v0, vi⟩ := hv k σ' H' hp
  refine ⟨_, vi, _, v0, z, rfl, (by rw [ez]; exact small (by omega)), _, _, rfl, rfl, _, rfl, ?_⟩
  refine ite2 (fun c1 => ?_) (fun c1 => ?_)
  · have hk' : k < (tl z).length := by
      have := of_decide_eq_true c1
      omega
    refine ⟨_, v0, _, vi, z, _, _, rfl, rfl, (by rw [ez]; exact small (by omega)), atI_nat (List.getElem?_eq_getElem hk'), _, _, rfl, rfl, _, rfl, ?_⟩
    refine ite2 (fun c2 => ?_) (fun c2 => ?_)
    · refine ⟨Pv (k + 1), fun σ2 H2 h => ⟨_, ?_, k + 1, by omega, by omega, fun j c h1 h2 hc => ?_, rfl, h⟩, hs k σ' H' hk' hk1 hS hp (of_decide_eq_true c2)⟩
      · omega
      · by_cases e : j = k
        · subst e
          rw [List.getElem?_eq_getElem hk'] at hc
          rw [← Option.some.inj hc]
          exact of_decide_eq_true c2
        · exact hS j c h1 (by omega) hc
    · refine hd k σ' H' hk1 hk hS (fun c hc => ?_) hp
      rw [List.getElem?_eq_getElem hk'] at hc
      rw [← Option.some.inj hc]
      exact fun z => c2 (decide_eq_true z)
  · refine iteF (hd k σ' H' hk1 hk hS (fun c hc => ?_) hp)
    have hk' := (List.getElem?_eq_some_iff.mp hc).1
    exact absurd (decide_eq_true (show (k : Int) < z.length by omega)) c1
theorem seg_digits {l : List Nat} {k e : Nat} (h : ∀ j c, k ≤ j → j < e → l[j]? = some c → c ∈ tl FG) : AllDigits ((l.take e).drop k) := fun c hc => by
  obtain ⟨i, hi⟩ := List.mem_iff_getElem?.mp hc
  rw [List.getElem?_drop, List.getElem?_take] at hi
  split at hi
  · rename_i h2
    exact isF_iff.mp (decide_eq_true (h (k + i) c (by omega) h2 hi))
  · cases hi
open PySem.NumText (digitsVal AllDigits)
section
variable {P : Program} {w : World} {K : PySem.W.Frag} {mg : Str → Option Value} {base : Heap} {cs : Tabs}
theorem ok_law_number (T : Txt K mg cs) : Cal P w K mg base 1 "_law_number" ["worth"] spNumL := by
  refine T.f_law_number.cal scLawNumber (fun vs H Q E h => ?_) (fun f cdv A outer s H vs Q E hr h => ?_)
  · obtain ⟨z, rfl, _⟩ := h
    rfl
  obtain ⟨z, rfl, hl, q⟩ := h
  refine ⟨_, (pss_cons (ps_set (i := 1) scLawNumber.nd rfl (by first | exact Or.inl rfl | exact Or.inr rfl) pe_int)
    (pss_cons (ps_set (i := 2) scLawNumber.nd rfl (by first | exact Or.inl rfl | exact Or.inr rfl) pe_int)
    (pss_cons (ps_while PassesOwn.never (PW.pt (pw_and (pt_cmpR op_lt (pv 1) (pe_callB lenT rfl T.n_len (by decide +kernel) (pa_cons (pv 0) pa_nil)) (nomark _)) (pw_and1 (pt_cmpR op_in_sign (pe_ix ix_str (pv 0) (pv 1) (fun _ _ => rfl)) pe_str rfl))))
      (pss_cons (ps_set (i := 2) scLawNumber.nd rfl (by first | exact Or.inl rfl | exact Or.inr rfl) (pe_op op_add (pv 2) (pe_callTy call_int1 rfl T.n_int (by decide +kernel) (pa_cons (pe_cmpR op_eq (pe_ix ix_str (pv 0) (pv 1) (fun _ _ => rfl)) pe_str (nomark _)) pa_nil))))
        (pss_one (ps_set (i := 1) scLawNumber.nd rfl (by first | exact Or.inl rfl | exact Or.inr rfl) (pe_op op_add (pv 1) pe_int)))))
    (pss_cons (ps_set (i := 3) scLawNumber.nd rfl (by first | exact Or.inl rfl | exact Or.inr rfl) pe_int)
    (pss_cons (ps_while PassesOwn.never (PW.pt (pw_and (pt_cmpR op_lt (pv 1) (pe_callB lenT rfl T.n_len (by decide +kernel) (pa_cons (pv 0) pa_nil)) (nomark _)) (pw_and1 (pt_cmpR op_in_sign (pe_ix ix_str (pv 0) (pv 1) (fun _ _ => rfl)) pe_str rfl))))
      (pss_cons (ps_set (i := 3) scLawNumber.nd rfl (by first | exact Or.inl rfl | exact Or.inr rfl) (pe_op op_add (pe_op op_mulW (pv 3) pe_int) (pe_callTy call_int_str rfl T.n_int (by decide +kernel) (pa_cons (pe_ix ix_str (pv 0) (pv 1) (fun _ _ => rfl)) pa_nil))))
        (pss_one (ps_set (i := 1) scLawNumber.nd rfl (by first | exact Or.inl rfl | exact Or.inr rfl) (pe_op op_add (pv 1) pe_int)))))
    (pss_one (ps_ret (pe_op op_mulW (pv 3) (pe_ix (ixL K) (pe_lst (pa_cons pe_int (pa_cons (pe_un un_neg pe_int) pa_nil))) (pe_op op_mod (pv 2) pe_int) (fun _ _ => rfl)))))))))), ?_⟩
  have ez : z.length = (tl z).length := len_tl z
  have zl : z.length ≤ sizeLine := by rw [ez]; exact small (by omega)
  have e45 : ("-" : Str) = ⟨#[45]⟩ := by decide +kernel
  refine scan_gen (i := 1) (z := z) (Z := SG) 0 (fun k σ H' => H' = H ∧ σ = [some (.str z), some (.int (k : Int)), some (.int ((cnt45 ((tl z).take k) : Nat) : Int)), none]) (fun k σ H' h => ⟨by rw [h.2]; rfl, by rw [h.2]; rfl⟩) (by omega) (Nat.zero_le _) ⟨rfl, rfl⟩ (fun k σ H' hk _ _ hp _ => ?_) fun k σ H' _ hk hS hS' hp => ?_
  · obtain ⟨rfl, rfl⟩ := hp
    refine ⟨_, rfl, _, rfl, _, rfl, z, _, _, rfl, rfl, zl, atI_nat (List.getElem?_eq_getElem hk), rfl, .inr ⟨_, rfl, _, _, rfl, rfl, ?_⟩⟩
    dsimp only [gName, tSeq, tAsg, tRet, tDrop, tNext]
    refine ⟨_, rfl, _, _, rfl, rfl, rfl, ?_⟩
    have e1 : ((cnt45 ((tl z).take k) : Nat) : Int) + (if decide (V.str ⟨#[(tl z)[k]]⟩ = V.str "-") = true then 1 else 0) = ((cnt45 ((tl z).take (k + 1)) : Nat) : Int) := by
      rw [take_next hk, e45]
      have e2 : cnt45 ((tl z).take k ++ [(tl z)[k]]) = cnt45 ((tl z).take k) + if (tl z)[k] = 45 then 1 else 0 := by
        unfold cnt45
        rw [List.countP_append]
        by_cases h : (tl z)[k] = 45 <;> simp [h]
      rw [e2]
      by_cases h : (tl z)[k] = 45
      · rw [if_pos h, h, decide_eq_true rfl, if_pos rfl]
        rfl
      · rw [if_neg h, decide_eq_false, if_neg (by decide)]
        · rfl
        · intro e
          injection e with e
          injection e with e
          simp at e
          exact h e
    rw [e1]
    rfl
  obtain ⟨rfl, rfl⟩ := hp
  obtain ⟨t1, d1⟩ := walked (p := isS) (l := tl z) (i := k) (fun j c hj hc => decide_eq_true (hS j c (Nat.zero_le _) hj hc)) hk (fun c hc => decide_eq_false (hS' c hc))
  dsimp only [gName, tSeq, tAsg, tRet, tDrop, tNext]
  refine scan_gen (i := 1) (z := z) (Z := FG) k (fun e σ H'' => H'' = H' ∧ σ = [some (.str z), some (.int (e : Int)), some (.int ((cnt45 ((tl z).take k) : Nat) : Int)), some (.int ((digitsVal (((tl z).take e).drop k) : Nat) : Int))]) (fun k σ H' h => ⟨by rw [h.2]; rfl, by rw [h.2]; rfl⟩) (by omega) hk ⟨rfl, ?_⟩ (fun e σ H'' he hke hB hp hF => ?_) fun e σ H'' hke he hF hF' hp => ?_
  · rw [List.drop_eq_nil_of_le (by rw [List.length_take]; omega)]
    rfl
  · obtain ⟨rfl, rfl⟩ := hp
    have hb : digitsVal (((tl z).take e).drop k) < 10 ^ 250 := by
      have h1 := val_lt (seg_digits hB)
      exact Nat.lt_of_lt_of_le h1 (Nat.pow_le_pow_right (by decide) (by rw [List.length_drop, List.length_take]; omega))
    refine ⟨_, rfl, _, _, rfl, rfl, wide_mul (a := 900) (b := 10) (pow250 hb) (by decide) (by decide) (by decide) (by decide), _, rfl, _, rfl, z, _, _, rfl, rfl, zl, atI_nat (List.getElem?_eq_getElem he), ?_⟩
    have hf : isF (tl z)[e] = true := decide_eq_true hF
    have h1 : tl (⟨#[(tl z)[e]]⟩ : Str) = [(tl z)[e]] := rfl
    have d1 : AllDigits (tl (⟨#[(tl z)[e]]⟩ : Str)) := by
      rw [h1]
      intro c hc
      rw [List.mem_singleton.mp hc]
      exact isF_iff.mp hf
    refine ⟨_, _, rfl, int_digits d1 (by rw [h1]; exact List.cons_ne_nil _ _) (by rw [h1]; show 1 ≤ 640; decide), (show 1 ≤ 640 by decide), _, _, rfl, rfl, ?_⟩
    dsimp only [gName, tSeq, tAsg, tRet, tDrop, tNext]
    refine ⟨_, rfl, _, _, rfl, rfl, rfl, ?_⟩
    have ev : ((digitsVal (((tl z).take (e + 1)).drop k) : Nat) : Int) = ((digitsVal (((tl z).take e).drop k) : Nat) : Int) * 10 + (((tl z)[e] - 48 : Nat) : Int) := by
      rw [take_next he, List.drop_append_of_le_length (by rw [List.length_take]; omega), PySem.NumText.digitsVal_snoc]
      omega
    rw [ev]
    have e9 : digitsVal (tl (⟨#[(tl z)[e]]⟩ : Str)) = (tl z)[e] - 48 := by
      rw [h1]
      show 0 * 10 + ((tl z)[e] - 48) = _
      omega
    rw [e9]
    rfl
  obtain ⟨rfl, rfl⟩ := hp
  obtain ⟨t2, _⟩ := walked (p := isF) (l := (tl z).drop k) (i := e - k) (fun j c hj hc => decide_eq_true (hF (k + j) c (by omega) (by omega) (by rw [← List.getElem?_drop]; exact hc))) (by rw [List.length_drop]; omega) (fun c hc => decide_eq_false (hF' c (by rw [List.getElem?_drop, show k + (e - k) = e by omega] at hc; exact hc)))
  have ef : ((tl z).take e).drop k = figs (tl z) := by
    rw [List.drop_take]
    unfold figs
    rw [d1, t2]
  dsimp only [gName, tSeq, tAsg, tRet, tDrop, tNext]
  rw [ef]
  have hb : digitsVal (figs (tl z)) < 10 ^ 250 := by
    rw [← ef]
    exact Nat.lt_of_lt_of_le (val_lt (seg_digits hF)) (Nat.pow_le_pow_right (by decide) (by rw [List.length_drop, List.length_take]; omega))
  refine ⟨_, rfl, _, rfl, (show 2 ≤ sizeLine by decide), fun p hp => ?_⟩
  refine ⟨_, rfl, _, _, rfl, rfl, show (0 : Int) < 2 by decide, ?_⟩
  by_cases hm : cnt45 ((tl z).take k) % 2 = 1
  · have e1 : (((cnt45 ((tl z).take k) : Nat) : Int) % 2) = ((1 : Nat) : Int) := by omega
    dsimp only [gName, tSeq, tAsg, tRet, tDrop, tNext]
    rw [e1]
    have en : numOf (tl z) = ((digitsVal (figs (tl z)) : Nat) : Int) * -1 := by
      unfold numOf minus
      rw [t1, decide_eq_true hm, if_pos rfl]
      omega
    refine ⟨p, _, _, _, rfl, rfl, SqL.of upd_same, atI_nat rfl, _, _, rfl, rfl, wide_mul (a := 900) (b := 10) (pow250 hb) (by decide) (by decide) (by decide) (by decide), ?_⟩
    have := q _ (Sm.new (o := .lst [.int 1, .int (-1)]) hp)
    rw [en] at this
    exact this
  · have e1 : (((cnt45 ((tl z).take k) : Nat) : Int) % 2) = ((0 : Nat) : Int) := by omega
    dsimp only [gName, tSeq, tAsg, tRet, tDrop, tNext]
    rw [e1]
    have en : numOf (tl z) = ((digitsVal (figs (tl z)) : Nat) : Int) * 1 := by
      unfold numOf minus
      rw [t1, decide_eq_false hm, if_neg (by decide), Int.mul_one]
    refine ⟨p, _, _, _, rfl, rfl, SqL.of upd_same, atI_nat rfl, _, _, rfl, rfl, wide_mul (a := 900) (b := 10) (pow250 hb) (by decide) (by decide) (by decide) (by decide), ?_⟩
    have := q _ (Sm.new (o := .lst [.int 1, .int (-1)]) hp)
    rw [en] at this
    exact this
end
/-! ### the law's own pieces -/
def cutP (S l acc : List Nat) : List (List Nat) := if S = [] then [acc ++ l] else TL.spl S 0 acc l
theorem cutP_hit {S l acc : List Nat} (hS : S ≠ []) {k : Nat} (hk : k < l.length) (h : (l.drop k).take S.length = S) : cutP S (l.drop k) acc = acc :: cutP S (l.drop (k + S.length)) [] := by
  have hpos : 0 < S.length := Nat.pos_of_ne_zero fun z => hS (List.eq_nil_of_length_eq_zero z)
  have hd : l.drop k = l[k] :: l.drop (k + 1) := List.drop_eq_getElem_cons hk
  unfold cutP
  rw [if_neg hS, if_neg hS, hd, TL.spl_hit, TL.spl_pass, List.drop_drop]
  · have e : k + 1 + (S.length - 1) = k + S.length := by omega
    rw [e]
  · unfold TL.pre
    rw [← hd, h, beq_self_eq_true]
theorem cutP_miss {S l acc : List Nat} {k : Nat} (hk : k < l.length) (h : S ≠ [] → (l.drop k).take S.length ≠ S) : cutP S (l.drop k) acc = cutP S (l.drop (k + 1)) (acc ++ [l[k]]) := by
  have hd : l.drop k = l[k] :: l.drop (k + 1) := List.drop_eq_getElem_cons hk
  unfold cutP
  by_cases e : S = []
  · rw [if_pos e, if_pos e, hd, List.append_assoc]
    rfl
  · rw [if_neg e, if_neg e, hd, TL.spl_miss]
    unfold TL.pre
    rw [← hd, beq_eq_false_iff_ne]
    exact h e
theorem cutP_end {S acc : List Nat} : cutP S [] acc = [acc] := by
  unfold cutP
  split
  · rw [List.append_nil]
  · exact TL.spl_nil S 0 acc
theorem pieces_cut {a b : Str} (hb : b.cps.all (· < 256) = true) : (piecesL a b).map tl = cutP (tl b) (tl a) [] := by
  unfold piecesL cutP
  by_cases e : tl b = []
  · have h : (b.length == 0) = true := by rw [len_tl, e]; rfl
    rw [if_pos h, if_pos e, List.nil_append]
    rfl
  · have h : ¬ (b.length == 0) = true := by
      rw [len_tl]
      intro z
      exact e (List.eq_nil_of_length_eq_zero (eq_of_beq z))
    rw [if_neg h, if_neg e]
    exact TL.split_spl a b e (TL.kind_ok hb)
theorem sgn256 {b : Str} (h : ∀ c ∈ tl b, sgn c = true) : b.cps.all (· < 256) = true := by
  rw [← Array.all_toList]
  refine List.all_eq_true.mpr fun c hc => ?_
  have := h c hc
  unfold sgn at this
  simp at this
  simp
  omega
theorem piece_told {K : PySem.W.Frag} {a b : Str} {n : Int} {p : Addr} {σ : L2.St} {H1 : Hp} {Q : VK} (h2 : σ[2]? = some (some (.int n))) (h3 : σ[3]? = some (some (.ref p))) (hp : H1 p = some (.lst ((piecesL a b).map V.str))) (hQ : Q (.str (pieceAt a b n)) H1) :
    tIf (tTest (tChain (rI0 fun i j => V.bl (decide (i ≤ j))) (rI0 fun i j => V.bl (decide (i ≤ j))) (tC (V.int 1)) (tVar 2) (tCB (rLenQ K) (tCons (tVar 3) tNil)))) (tOp (rIxL K) (tVar 3) (tOp (rI0 fun i j => V.int (i - j)) (tVar 2) (tC (V.int 1)))) (tC (V.str (Str.ofString ""))) σ H1 Q := by
  have S : SqL K H1 p ((piecesL a b).map V.str) := SqL.of hp
  unfold pieceAt at hQ
  refine ⟨_, h2, 1, n, rfl, rfl, _, rfl, ?_⟩
  refine ite2 (fun c => ?_) (fun c => ?_)
  · have c1 := of_decide_eq_true c
    refine ⟨_, h3, p, _, rfl, .inl S, n, _, rfl, rfl, _, rfl, ?_⟩
    rw [List.length_map]
    refine ite2 (fun d => ?_) (fun d => ?_)
    · have d1 := of_decide_eq_true d
      refine ⟨_, h3, _, h2, n, 1, rfl, rfl, p, _, n - 1, _, rfl, rfl, S, ?_, hQ⟩
      rw [if_pos ⟨c1, d1⟩]
      have hi : (n - 1).toNat < (piecesL a b).length := by omega
      have hx : ixN (((piecesL a b).map V.str).length) (n - 1) = some (n - 1).toNat := by
        rw [List.length_map]
        unfold ixN
        rw [if_pos (by omega), if_pos (by omega)]
      unfold atI
      rw [hx]
      show ((piecesL a b).map V.str)[(n - 1).toNat]? = _
      rw [List.getElem?_map, List.getElem?_eq_getElem hi]
      rfl
    · have d1 : ¬ _ := fun z => d (decide_eq_true z)
      rw [if_neg fun z => d1 z.2] at hQ
      exact hQ
  · have c1 : ¬ _ := fun z => c (decide_eq_true z)
    rw [if_neg fun z => c1 z.1] at hQ
    exact ⟨false, rfl, hQ⟩
def spPieceL : Sp := fun vs H Q _ => ∃ (a b : Str) (n : Int), vs = [.str a, .str b, .int n] ∧ (tl a).length ≤ 1000 ∧ (tl b).length ≤ 1000 ∧ b.cps.all (· < 256) = true ∧ ∀ H', Sm H H' → Q (.str (pieceAt a b n)) H'
section
variable {P : Program} {w : World} {K : PySem.W.Frag} {mg : Str → Option Value} {base : Heap} {cs : Tabs}
theorem ok_law_piece (T : Txt K mg cs) : Cal P w K mg base 1 "_law_piece" ["one", "other", "nth"] spPieceL := by
  refine T.f_law_piece.cal scLawPiece (fun vs H Q E h => ?_) (fun f cdv A outer s H vs Q E hr h => ?_)
  · obtain ⟨a, b, n, rfl, _⟩ := h
    rfl
  obtain ⟨a, b, n, rfl, ha, hb, hk, q⟩ := h
  have total := pieces_cut (a := a) hk
  refine ⟨_, (pss_cons (ps_set (i := 3) scLawPiece.nd rfl (by first | exact Or.inl rfl | exact Or.inr rfl) (pe_lst pa_nil))
    (pss_cons (ps_set (i := 4) scLawPiece.nd rfl (by first | exact Or.inl rfl | exact Or.inr rfl) pe_str)
    (pss_cons (ps_set (i := 5) scLawPiece.nd rfl (by first | exact Or.inl rfl | exact Or.inr rfl) pe_int)
    (pss_cons (ps_while PassesOwn.never (pt_cmpR op_lt (pv 5) (pe_callB lenT rfl T.n_len (by decide +kernel) (pa_cons (pv 0) pa_nil)) (nomark _))
      (pss_one (ps_if (PW.pt (pw_and (pt_cmpR op_ne (pv 1) pe_str (nomark _)) (pw_and1 (pt_cmpR op_eq (pe_slice sl_str (pv 0) (po_some (pv 5)) (po_some (pe_op op_add (pv 5) (pe_callB lenT rfl T.n_len (by decide +kernel) (pa_cons (pv 1) pa_nil))))) (pv 1) (nomark _))))) (pss_cons (ps_expr (pe_bm PySem.F.plainAttrs_list PySem.F.slot_list_append PySem.F.type_list_append mt_append (pv 3) (pa_cons (pv 4) pa_nil)))
            (pss_cons (ps_set (i := 4) scLawPiece.nd rfl (by first | exact Or.inl rfl | exact Or.inr rfl) pe_str)
            (pss_one (ps_set (i := 5) scLawPiece.nd rfl (by first | exact Or.inl rfl | exact Or.inr rfl) (pe_op op_add (pv 5) (pe_callB lenT rfl T.n_len (by decide +kernel) (pa_cons (pv 1) pa_nil))))))) (pss_cons (ps_set (i := 4) scLawPiece.nd rfl (by first | exact Or.inl rfl | exact Or.inr rfl) (pe_op op_add_str (pv 4) (pe_ix ix_str (pv 0) (pv 5) (fun _ _ => rfl))))
            (pss_one (ps_set (i := 5) scLawPiece.nd rfl (by first | exact Or.inl rfl | exact Or.inr rfl) (pe_op op_add (pv 5) pe_int)))))))
    (pss_cons (ps_expr (pe_bm PySem.F.plainAttrs_list PySem.F.slot_list_append PySem.F.type_list_append mt_append (pv 3) (pa_cons (pv 4) pa_nil)))
    (pss_one (ps_ret (pe_ifExp (pt_chain op_le op_le pe_int (pv 2) (pe_callB (lenQ K) rfl T.n_len (by decide +kernel) (pa_cons (pv 3) pa_nil))) (pe_ix (ixL K) (pv 3) (pe_op op_sub (pv 2) pe_int) (fun _ _ => rfl)) pe_str)))))))), ?_⟩
  refine run_set ?_
  refine ⟨Nat.zero_le _, fun L hL => ?_⟩
  refine run_set ?_
  refine run_set ?_
  have la : a.length ≤ sizeLine := by rw [len_tl]; exact small (by omega)
  have lb : b.length ≤ sizeLine := by rw [len_tl]; exact small (by omega)
  refine ⟨fun m σ' H' => ∃ (k : Nat) (F : List Str) (h : Str), k ≤ (tl a).length ∧ m = (tl a).length - k ∧ F.length ≤ k ∧ (tl h).length ≤ k ∧ F.map tl ++ cutP (tl b) ((tl a).drop k) (tl h) = cutP (tl b) (tl a) [] ∧ H' = upd H L (.lst (F.map V.str)) ∧
    σ' = [some (.str a), some (.str b), some (.int n), some (.ref L), some (.str h), some (.int (k : Int))], ⟨_, 0, [], "", Nat.zero_le _, rfl, Nat.le_refl _, (by decide), rfl, rfl, rfl⟩, fun m σ' H' hw => ?_⟩
  obtain ⟨k, F, h, hk1, rfl, hF, hh, inv, rfl, rfl⟩ := hw
  refine ⟨_, rfl, _, rfl, a, rfl, la, _, _, rfl, rfl, _, rfl, ?_⟩
  refine ite2 (fun c => ?_) (fun c => ?_)
  · have hk' : k < (tl a).length := by
      have := of_decide_eq_true c
      have := len_tl a
      omega
    refine ⟨fun σ2 H2 => ∃ (k' : Nat) (F : List Str) (h : Str), k < k' ∧ k' ≤ (tl a).length ∧ F.length ≤ k' ∧ (tl h).length ≤ k' ∧ F.map tl ++ cutP (tl b) ((tl a).drop k') (tl h) = cutP (tl b) (tl a) [] ∧ H2 = upd H L (.lst (F.map V.str)) ∧
      σ2 = [some (.str a), some (.str b), some (.int n), some (.ref L), some (.str h), some (.int (k' : Int))], ?_, ?_⟩
    · rintro σ2 H2 ⟨k', F', h', h1, h2, h3, h4, h5, h6, h7⟩
      exact ⟨_, by omega, k', F', h', h2, rfl, h3, h4, h5, h6, h7⟩
    have miss : ∀ D : Ends, D.nx [some (.str a), some (.str b), some (.int n), some (.ref L), some (.str (h ++ ⟨#[(tl a)[k]]⟩)), some (.int ((k : Int) + 1))] (upd H L (.lst (F.map V.str))) →
      (tSeq (tAsg (tOp (fun x y H Q => ∃ i j, x = V.str i ∧ y = V.str j ∧ i.length + j.length ≤ sizeLine ∧ Q (V.str (i ++ j)) H) (tVar 4) (tOp rIxS (tVar 0) (tVar 5))) (gName 4)) (tAsg (tOp (rI0 fun i j => V.int (i + j)) (tVar 5) (tC (V.int 1))) (gName 5))) D
      [some (.str a), some (.str b), some (.int n), some (.ref L), some (.str h), some (.int (k : Int))] (upd H L (.lst (F.map V.str))) := by
      intro D hD
      refine run_set ⟨_, rfl, _, rfl, _, rfl, a, _, _, rfl, rfl, la, atI_nat (List.getElem?_eq_getElem hk'), h, _, rfl, rfl, ?_, ?_⟩
      · rw [len_tl]
        exact Nat.le_trans (Nat.add_le_add_right hh _) (show k + 1 ≤ sizeLine by exact Nat.le_trans (show k + 1 ≤ 1000 by omega) (by decide))
      · exact ⟨_, rfl, _, _, rfl, rfl, hD⟩
    have missed : (tl b ≠ [] → ((tl a).drop k).take (tl b).length ≠ tl b) → ∃ (k' : Nat) (F' : List Str) (h' : Str), k < k' ∧ k' ≤ (tl a).length ∧ F'.length ≤ k' ∧ (tl h').length ≤ k' ∧ F'.map tl ++ cutP (tl b) ((tl a).drop k') (tl h') = cutP (tl b) (tl a) [] ∧ (upd H L (.lst (F.map V.str))) = upd H L (.lst (F'.map V.str)) ∧
        [some (V.str a), some (.str b), some (.int n), some (.ref L), some (.str (h ++ ⟨#[(tl a)[k]]⟩)), some (.int ((k : Int) + 1))] = [some (.str a), some (.str b), some (.int n), some (.ref L), some (.str h'), some (.int (k' : Int))] := by
      intro hm
      rw [cutP_miss hk' hm] at inv
      refine ⟨k + 1, F, h ++ ⟨#[(tl a)[k]]⟩, by omega, by omega, by omega, ?_, ?_, rfl, rfl⟩
      · rw [tl_append, List.length_append]
        exact Nat.add_le_add_right hh 1
      · rw [tl_append]
        exact inv
    refine run_ifE ⟨_, rfl, rfl, _, rfl, ?_⟩
    refine ite2 (fun c2 => ?_) (fun c2 => ?_)
    · have hS : tl b ≠ [] := fun z => by
        have e : b = "" := ext_tl z
        rw [e] at c2
        exact absurd c2 (by decide)
      refine ⟨_, rfl, _, rfl, _, rfl, _, rfl, _, rfl, b, rfl, lb, _, _, rfl, rfl, _, rfl, a, rfl, la, _, rfl, rfl, _, rfl, ?_⟩
      have hcut : tl (cutS a (some (k : Int)) (some ((k : Int) + (b.length : Nat)))) = ((tl a).drop k).take (tl b).length := by
        have e1 : ((k : Int) + (b.length : Nat)) = ((k + b.length : Nat) : Int) := by omega
        rw [e1, tl_sub a k (k + b.length) (by omega), List.drop_take, len_tl]
        have e2 : k + (tl b).length - k = (tl b).length := by omega
        rw [e2]
      refine ite2 (fun c3 => ?_) (fun c3 => ?_)
      · have e3 := of_decide_eq_true c3
        injection e3 with e3
        rw [e3] at hcut
        have hle : k + (tl b).length ≤ (tl a).length := by
          have := congrArg List.length hcut
          rw [List.length_take, List.length_drop] at this
          omega
        have hpos : 0 < (tl b).length := Nat.pos_of_ne_zero fun z => hS (List.eq_nil_of_length_eq_zero z)
        rw [cutP_hit hS hk' hcut.symm] at inv
        refine ⟨_, rfl, .inl ⟨rfl, _, .inl (.inl upd_same)⟩, _, rfl, L, _, _, rfl, rfl, upd_same, ?_, ?_⟩
        · rw [List.length_map]
          exact Nat.lt_of_le_of_lt (show F.length ≤ 1000 by omega) (by decide)
        rw [upd_upd]
        dsimp only
        refine run_set ?_
        refine ⟨_, rfl, _, rfl, b, rfl, lb, _, _, rfl, rfl, k + (tl b).length, F ++ [h], "", by omega, hle, ?_, Nat.zero_le _, ?_, ?_, ?_⟩
        · rw [List.length_append]
          show F.length + 1 ≤ _
          omega
        · rw [List.map_append, List.append_assoc]
          exact inv
        · rw [List.map_append]
          rfl
        · have e5 : (k : Int) + (b.length : Nat) = ((k + (tl b).length : Nat) : Int) := by rw [len_tl]; omega
          rw [← e5]
          rfl
      · refine miss _ (missed fun _ z => c3 (decide_eq_true ?_))
        rw [ext_tl (hcut.trans z)]
    · refine iteF (miss _ (missed fun z => ?_))
      have e : b = "" := by
        have c4 : (!decide (V.str b = V.str "")) = false := Bool.eq_false_iff.mpr c2
        have c5 : decide (V.str b = V.str "") = true := by cases hx : decide (V.str b = V.str "") <;> simp_all
        have := of_decide_eq_true c5
        injection this
      rw [e] at z
      exact absurd rfl z
  · have hk' : k = (tl a).length := by
      have c' : ¬ _ := fun z => c (decide_eq_true z)
      have := len_tl a
      omega
    rw [hk', List.drop_length, cutP_end] at inv
    dsimp only
    refine ⟨_, rfl, .inl ⟨rfl, _, .inl (.inl upd_same)⟩, _, rfl, L, _, _, rfl, rfl, upd_same, ?_, ?_⟩
    · rw [List.length_map]
      exact Nat.lt_of_le_of_lt (show F.length ≤ 1000 by omega) (by decide)
    rw [upd_upd]
    have e : F ++ [h] = piecesL a b := by
      refine TL.map_tl_inj ?_
      rw [total, List.map_append, ← inv]
      rfl
    have e2 : F.map V.str ++ [V.str h] = (piecesL a b).map V.str := by
      rw [← e, List.map_append]
      rfl
    rw [e2]
    exact run_ret (piece_told (by rfl) (by rfl) upd_same (q _ (Sm.new hL)))
end
/-! ### pieces put together again -/
theorem spl_free {S : List Nat} (hS : S ≠ []) : ∀ (n : Nat) (l acc : List Nat), l.length ≤ n → (∀ i, i < acc.length → ((acc ++ l).drop i).take S.length ≠ S) → ∀ p ∈ TL.spl S 0 acc l, ∀ i, i < p.length → (p.drop i).take S.length ≠ S
  | n, [], acc, _, ha => fun p hp i hi => by
    rw [TL.spl_nil] at hp
    rw [List.mem_singleton.mp hp] at hi ⊢
    have := ha i hi
    rw [List.append_nil] at this
    exact this
  | 0, c :: r, acc, hl, _ => by simp at hl
  | n + 1, c :: r, acc, hl, ha => fun p hp i hi => by
    have hpos : 0 < S.length := Nat.pos_of_ne_zero fun z => hS (List.eq_nil_of_length_eq_zero z)
    by_cases hh : TL.pre S (c :: r) = true
    · rw [TL.spl_hit hh, TL.spl_pass] at hp
      rcases List.mem_cons.mp hp with rfl | hp
      · intro e
        refine ha i hi ?_
        have hlen : S.length ≤ (p.drop i).length := by
          have := congrArg List.length e
          rw [List.length_take] at this
          omega
        rw [List.drop_append_of_le_length (by omega), List.take_append_of_le_length hlen]
        exact e
      · exact spl_free hS n _ [] (by rw [List.length_drop]; simp at hl; omega) (fun i hi => absurd hi (Nat.not_lt_zero i)) p hp i hi
    · rw [TL.spl_miss (Bool.eq_false_iff.mpr hh)] at hp
      refine spl_free hS n r (acc ++ [c]) (by simp at hl; omega) (fun j hj => ?_) p hp i hi
      rw [List.append_assoc]
      show ((acc ++ (c :: r)).drop j).take S.length ≠ S
      by_cases e : j < acc.length
      · exact ha j e
      · have ej : j = acc.length := by rw [List.length_append] at hj; simp at hj; omega
        rw [ej, List.drop_left]
        intro z
        refine hh ?_
        unfold TL.pre
        rw [z, beq_self_eq_true]
theorem not_in {p b : Str} (hb : tl b ≠ []) (h : ∀ i, i < (tl p).length → ((tl p).drop i).take (tl b).length ≠ tl b) : (!(Builtin.Str.occurrences p b 0 p.length 1).isEmpty) = false := by
  refine Bool.eq_false_iff.mpr fun z => ?_
  obtain ⟨i, h1, h2⟩ := (StrLaws.found_iff p b).mp z
  have hpre := (TL.at_iff hb i).mp ⟨h1, h2⟩
  have hpos : 0 < (tl b).length := Nat.pos_of_ne_zero fun z => hb (List.eq_nil_of_length_eq_zero z)
  have e1 := len_tl b
  have e2 := len_tl p
  refine h i (by omega) ?_
  unfold TL.pre at hpre
  exact eq_of_beq hpre
theorem joinL_len (S : List Nat) : ∀ (P : List (List Nat)), P ≠ [] → (TL.joinL S P).length + S.length = (P.map List.length).sum + P.length * S.length
  | [], h => absurd rfl h
  | [p], _ => by show p.length + S.length = _; simp
  | p :: q :: r, _ => by
    have ih := joinL_len S (q :: r) (List.cons_ne_nil _ _)
    show (p ++ (S ++ TL.joinL S (q :: r))).length + S.length = _
    rw [List.length_append, List.length_append, List.map_cons, List.sum_cons, List.length_cons (a := p), Nat.succ_mul]
    omega
theorem spl_ne (S : List Nat) (l acc : List Nat) : TL.spl S 0 acc l ≠ [] := by
  induction l generalizing acc with
  | nil => rw [TL.spl_nil]; exact List.cons_ne_nil _ _
  | cons c r ih =>
    by_cases hh : TL.pre S (c :: r) = true
    · rw [TL.spl_hit hh]; exact List.cons_ne_nil _ _
    · rw [TL.spl_miss (Bool.eq_false_iff.mpr hh)]; exact ih _
/-- the pieces that are asked for one by one -/
def asked (a b : Str) (j : Nat) : List Str := (List.range j).map fun (k : Nat) => pieceAt a b ((k : Int) + 1)
theorem asked_get {a b : Str} {k : Nat} : pieceAt a b ((k : Int) + 1) = ((piecesL a b)[k]?).getD "" := by
  unfold pieceAt
  have e : ((k : Int) + 1 - 1).toNat = k := by omega
  rw [e]
  split
  · rfl
  · rename_i h
    have hk : (piecesL a b).length ≤ k := by omega
    rw [List.getElem?_eq_none hk]
    rfl
theorem asked_all {a b : Str} {j : Nat} (h : (piecesL a b).length ≤ j) : asked a b j = piecesL a b ++ List.replicate (j - (piecesL a b).length) ("" : Str) := by
  refine List.ext_getElem? fun k => ?_
  unfold asked
  rw [List.getElem?_map]
  by_cases hk : k < j
  · rw [List.getElem?_range hk]
    show some (pieceAt a b ((k : Int) + 1)) = _
    rw [asked_get]
    by_cases h1 : k < (piecesL a b).length
    · rw [List.getElem?_append_left h1, List.getElem?_eq_getElem h1]
      rfl
    · rw [List.getElem?_append_right (by omega), List.getElem?_eq_none (by omega), List.getElem?_replicate, if_pos (by omega)]
      rfl
  · rw [List.getElem?_eq_none (by rw [List.length_range]; omega), List.getElem?_eq_none]
    · rfl
    · rw [List.length_append, List.length_replicate]
      omega
structure Cut (a b : Str) (P : List Str) : Prop where
  ne : P ≠ []
  free : ∀ p ∈ P, (!(Builtin.Str.occurrences p b 0 p.length 1).isEmpty) = false
  join : Txt.join b P = a
  len : a.length + b.length = (P.map (·.length)).sum + P.length * b.length
theorem cut_of {a b : Str} (hb : tl b ≠ []) (hk : b.cps.all (· < 256) = true) : Cut a b (piecesL a b) := by
  have e1 := pieces_cut (a := a) hk
  unfold cutP at e1
  rw [if_neg hb] at e1
  have hP : piecesL a b = Txt.split a b := by
    unfold piecesL
    rw [if_neg]
    intro z
    rw [len_tl] at z
    exact hb (List.eq_nil_of_length_eq_zero (eq_of_beq z))
  have ne : piecesL a b ≠ [] := fun z => by
    rw [z] at e1
    exact spl_ne _ _ _ e1.symm
  have j : Txt.join b (piecesL a b) = a := by rw [hP, TL.join_eq, StrLaws.join_split]
  refine ⟨ne, fun p hp => not_in hb ?_, j, ?_⟩
  · exact spl_free hb _ (tl a) [] (Nat.le_refl _) (fun i hi => absurd hi (Nat.not_lt_zero i)) (tl p) (by rw [← e1]; exact List.mem_map.mpr ⟨p, hp, rfl⟩)
  · have h := joinL_len (tl b) ((piecesL a b).map tl) (fun z => ne (List.map_eq_nil_iff.mp z))
    rw [← TL.tl_join, ← TL.join_eq, j, List.map_map, List.length_map] at h
    rw [len_tl a, len_tl b, h]
    have : (List.length ∘ tl) = (fun x : Str => x.length) := by funext x; exact (len_tl x).symm
    rw [this]
/-! ### references compared -/
theorem strOk_of {z : Str} (h : ∀ c ∈ tl z, c < 128) : PyData.strOk z = true := by
  unfold PyData.strOk
  rw [← Array.all_toList, List.all_eq_true]
  intro c hc
  exact decide_eq_true (Nat.lt_trans (h c hc) (by decide))
def dS (ks : List Str) : List PyData := ks.map PyData.str
theorem dp_strs {K : PySem.W.Frag} {H : Hp} : ∀ ks : List Str, DpAll K H (ks.map V.str) (dS ks)
  | [] => .nil
  | x :: r => .cons (.str x) (dp_strs r)
theorem eqv_strs : ∀ a b : List Str, PyData.eqvAll (dS a) (dS b) = decide (a = b)
  | [], [] => by simp [dS, PyData.eqvAll]
  | [], _ :: _ => by simp [dS, PyData.eqvAll]
  | _ :: _, [] => by simp [dS, PyData.eqvAll]
  | x :: a, y :: b => by
    have ih := eqv_strs a b
    unfold dS at ih ⊢
    rw [List.map_cons, List.map_cons, PyData.eqvAll, ih]
    show ((x == y) && decide (a = b)) = decide (x :: a = y :: b)
    by_cases e : x = y
    · subst e
      simp
    · simp [e]
theorem lay_strs : ∀ ks : List Str, (∀ z ∈ ks, PyData.strOk z = true) → PyData.canLayAll0 (dS ks) = true
  | [], _ => rfl
  | x :: r, h => by
    show (PyData.strOk x && PyData.canLayAll0 (dS r)) = true
    rw [h x List.mem_cons_self, lay_strs r fun z hz => h z (List.mem_cons_of_mem _ hz)]
    rfl
theorem depth_strs : ∀ ks : List Str, PyData.depthAll (dS ks) = 0
  | [] => rfl
  | x :: r => by
    show max 0 (PyData.depthAll (dS r)) = 0
    rw [depth_strs r]
    rfl
theorem Sm.own {H0 H1 : Hp} {b : Addr} {o : HO} (S : Sm H0 H1) (hb : H0 b = none) (nt : ∀ qs, H1 b ≠ some (.tbl qs)) : Sm H0 (upd H1 b o) := ⟨fun a u h n => by
  rw [upd_ne (ne_of_none h hb)]
  exact S.keep a u h n, fun P t => TabG.upd (S.tab P t) nt, fun a ha => by
  by_cases e : a = b
  · rw [e]
    exact hb
  · rw [upd_ne e] at ha
    exact S.gone a ha⟩
/-! ### references compared -/
theorem shaped_tup {ks : List Str} (h : ∀ z ∈ ks, PyData.strOk z = true) : SeqAt.shaped (.tuple (dS ks)) = true := by
  show (PyData.canLayAll0 (dS ks) && decide (PyData.depthAll (dS ks) + 1 ≤ 64)) = true
  rw [lay_strs ks h, depth_strs]
  rfl
theorem KEY.ok {z : Str} (h : KEY z) : PyData.strOk z = true := strOk_of fun c hc => by
  have q := h.wt.sg c hc
  unfold sgn at q
  rw [Bool.and_eq_true, Bool.and_eq_true] at q
  have := of_decide_eq_true q.2.1
  omega

theorem cut_take (xs : List V) (k : Nat) : cutV xs none (some (k : Int)) = xs.take k := by
  unfold cutV
  rw [HT.sIx_none, HT.sIx_nat, List.drop_zero, Nat.sub_zero]
  by_cases h : k ≤ xs.length
  · rw [Nat.min_eq_left h]
  · rw [Nat.min_eq_right (by omega), List.take_of_length_le (Nat.le_refl _), List.take_of_length_le (by omega)]
theorem slice_take {K : PySem.W.Frag} {t : Addr} {xs : List V} {k : Nat} {H : Hp} {Q : VK} (h : SqT K H t xs) (q : ∀ p H', Sm H H' → SqT K H' p (xs.take k) → Q (.ref p) H') : rSlA K (.ref t) none (some (k : Int)) H Q := by
  refine ⟨t, xs, rfl, h, fun e => ?_, fun _ p hp => ?_⟩
  · refine q t H (Sm.refl H) ?_
    have e2 := e.2
    rw [HT.sIx_nat] at e2
    rw [List.take_of_length_le (by omega)]
    exact h
  · rw [cut_take]
    exact q p _ (Sm.new hp) (.inl (.inl upd_same))
/-- [g j for j in range(n) if p j], all of it told without a change of what stands -/
theorem lc_pick {i n : Nat} {σ : L2.St} {H1 : Hp} {D : Addr} {tt : TT} {te : TE} {Q : VK} (p : Nat → Bool) (g : Nat → V) (hD : H1 D = none) (hn : n ≤ 90000)
    (ht : ∀ j H, j < n → Sm H1 H → ∀ R : Bool → Hp → Prop, (∀ H', Sm H H' → R (p j) H') → tt ((σ.set i none).set i (some (.int (0 + (j : Int))))) H R)
    (he : ∀ j H, j < n → Sm H1 H → ∀ R : VK, (∀ H', Sm H H' → R (g j) H') → te ((σ.set i none).set i (some (.int (0 + (j : Int))))) H R)
    (hQ : ∀ H', Sm H1 H' → H' D = some (.lst (((List.range n).filter p).map g)) → Q (.ref D) H') :
    ∃ W : Nat → Nat → Hp → Prop, (∃ k, W 0 k (upd H1 D (.lst []))) ∧ ∀ j k H, W j k H →
      ((Itr 0 n).stop j H ∧ Q (.ref D) H) ∨ ((Itr 0 n).go j H ∧ ∃ Nx : Hp → Prop, (∀ H', Nx H' → ∃ k', k' < k ∧ W (j + 1) k' H') ∧ ∀ x H', (Itr 0 n).yld j H x H' → gName i x (wipe σ [i]) H' fun σ2 H2 => wipe σ2 [i] = wipe σ [i] ∧ tt σ2 H2 fun b H3 =>
        if b = true then te σ2 H3 fun y H4 => ∃ acc, H4 D = some (.lst acc) ∧ acc.length < sizeLine ∧ Nx (upd H4 D (.lst (acc ++ [y]))) else Nx H3) := by
  refine lc_range (lo := 0) (n := n) (fun j H => Sm H1 H ∧ H D = some (.lst (((List.range j).filter p).map g))) ⟨Sm.new hD, upd_same⟩ (fun j H hj hp => ?_) fun H hp => hQ H hp.1 hp.2
  obtain ⟨G, hy⟩ := hp
  have hl : (((List.range j).filter p).map g).length ≤ j := by
    rw [List.length_map]
    exact Nat.le_trans (List.length_filter_le _ _) (by rw [List.length_range]; exact Nat.le_refl _)
  refine ⟨?_, ?_⟩
  · show ((σ.set i none).set i (some (.int (0 + (j : Int))))).set i none = (σ.set i none)
    rw [List.set_set, List.set_set]
  · show tt ((σ.set i none).set i (some (.int (0 + (j : Int))))) H _
    refine ht j H hj G _ fun H' G' => ?_
    have er : (List.range (j + 1)).filter p = (List.range j).filter p ++ (if p j = true then [j] else []) := by
      rw [List.range_succ, List.filter_append]
      congr 1
      by_cases c : p j = true <;> simp [c]
    refine ite2 (fun c => ?_) (fun c => ?_)
    · refine he j H' hj (G.trans G') _ fun H4 G4 => ⟨_, G4 _ _ (G' _ _ hy), small' (by omega), ?_, ?_⟩
      · exact Sm.own ((G.trans G').trans G4) hD (no_tbl (G4 _ _ (G' _ _ hy)))
      · rw [er, if_pos c, List.map_append]
        exact upd_same
    · refine ⟨G.trans G', ?_⟩
      rw [er, if_neg c, List.append_nil]
      exact G' _ _ hy
theorem lc_picked {i n : Nat} {σ : L2.St} {H : Hp} {ta : TA} {tt : TT} {te : TE} {Q : VK} (p : Nat → Bool) (g : Nat → V) (ha : ∀ R : List V → Hp → Prop, (∀ H1, Sm H H1 → R [.int (n : Int)] H1) → ta σ H R) (hn : n ≤ 90000)
    (ht : ∀ j H2, j < n → Sm H H2 → ∀ R : Bool → Hp → Prop, (∀ H', Sm H2 H' → R (p j) H') → tt ((σ.set i none).set i (some (.int (0 + (j : Int))))) H2 R)
    (he : ∀ j H2, j < n → Sm H H2 → ∀ R : VK, (∀ H', Sm H2 H' → R (g j) H') → te ((σ.set i none).set i (some (.int (0 + (j : Int))))) H2 R)
    (hQ : ∀ D H', Sm H H' → H' D = some (.lst (((List.range n).filter p).map g)) → Q (.ref D) H') : tLc (iRng1 ta) (gName i) tt te [i] σ H Q := by
  refine ha _ fun H1 G => ⟨(n : Int), rfl, by omega, by omega, fun D hD => ?_⟩
  exact lc_pick (i := i) (n := n) (tt := tt) (te := te) p g hD (by omega) (fun j H2 hj G2 R hR => ht j H2 hj (G.trans G2) R hR) (fun j H2 hj G2 R hR => he j H2 hj (G.trans G2) R hR) fun H' G' hy => hQ D H' (G.trans G') hy
/-- a list of numbers against the empty one -/
theorem dp_ints {K : PySem.W.Frag} {H : Hp} : ∀ ns : List Int, DpAll K H (ns.map V.int) (ns.map PyData.int)
  | [] => .nil
  | x :: r => .cons (.int x) (dp_ints r)
theorem lay_ints : ∀ ns : List Int, PyData.canLayAll0 (ns.map PyData.int) = true
  | [] => rfl
  | x :: r => by
    show (true && PyData.canLayAll0 (r.map PyData.int)) = true
    rw [lay_ints r]
    rfl
theorem depth_ints : ∀ ns : List Int, PyData.depthAll (ns.map PyData.int) = 0
  | [] => rfl
  | x :: r => by
    show max 0 (PyData.depthAll (r.map PyData.int)) = 0
    rw [depth_ints r]
    rfl
theorem shaped_ints (ns : List Int) : SeqAt.shaped (.list (ns.map PyData.int)) = true := by
  show (PyData.canLayAll0 (ns.map PyData.int) && decide (PyData.depthAll (ns.map PyData.int) + 1 ≤ 64)) = true
  rw [lay_ints, depth_ints]
  rfl
theorem eqv_nil (ns : List PyData) : PyData.eqv (.list ns) (.list []) = ns.isEmpty := by
  show PyData.eqvAll ns [] = _
  cases ns with
  | nil => rfl
  | cons a r => rfl
def stemB (n1 : Str) (k1 : List Str) (n2 : Str) (k2 : List Str) : Bool := decide (n1 = n2) && decide (k1 = k2.take k1.length)
def spTwo (K : PySem.W.Frag) (B : Str → List Str → Str → List Str → Bool) : Sp := fun vs H Q _ => ∃ (p q : Addr) (n1 n2 : Str) (k1 k2 : List Str), vs = [.ref p, .ref q] ∧ RefAt K H p n1 k1 ∧ RefAt K H q n2 k2 ∧ REF n1 k1 ∧ REF n2 k2 ∧ ∀ H', Sm H H' → Q (.bl (B n1 k1 n2 k2)) H'
theorem cut_drop (xs : List V) (k : Nat) : cutV xs (some (k : Int)) none = xs.drop k := by
  unfold cutV
  rw [HT.sIx_none, HT.sIx_nat]
  by_cases h : k ≤ xs.length
  · rw [Nat.min_eq_left h, List.take_of_length_le]
    rw [List.length_drop]
    exact Nat.le_refl _
  · rw [Nat.min_eq_right (by omega), List.drop_eq_nil_of_le (Nat.le_refl _), List.drop_eq_nil_of_le (by omega), List.take_nil]
/-! ### loops, and heaps behind a bag that is one's own -/
theorem Sm.go {H0 H1 H2 : Hp} {b : Addr} {n : Nat} (S : Sm H0 H1) (G : Go b n H1 H2) (hb : H0 b = none) : Sm H0 H2 := ⟨fun a o h nt => G.keep a o (ne_of_none h hb) (S.keep a o h nt) nt, fun P t => G.tab P (S.tab P t), fun a ha => S.gone a (G.gone a ha)⟩
theorem SqT.upd {K : PySem.W.Frag} {H : Hp} {S t : Addr} {xs ys : List V} {o : HO} (h : SqT K H t xs) (hs : H S = some (.lst ys)) : SqT K (upd H S o) t xs := by
  have ne : ∀ {u : HO}, H t = some u → (∀ zs, u ≠ .lst zs) → t ≠ S := fun hu no e => by
    rw [e, hs] at hu
    exact no _ (Option.some.inj hu).symm
  rcases h with (h | ⟨ob, h⟩) | h
  · exact .inl (.inl (by rw [upd_ne (ne h fun _ z => by cases z)]; exact h))
  · exact .inl (.inr ⟨ob, by rw [upd_ne (ne h fun _ z => by cases z)]; exact h⟩)
  · exact .inr h
theorem RefAt.upd {K : PySem.W.Frag} {H : Hp} {S p : Addr} {n : Str} {ks : List Str} {ys : List V} {o : HO} (h : RefAt K H p n ks) (hs : H S = some (.lst ys)) : RefAt K (upd H S o) p n ks := by
  obtain ⟨t, h1, h2⟩ := h.ex
  exact ⟨t, SqT.upd h1 hs, SqT.upd h2 hs⟩
theorem Bag.upd {H : Hp} {b S : Addr} {m : Nat} {o : HO} (B : Bag H b m) (ne : S ≠ b) : Bag (upd H S o) b m := by
  obtain ⟨x, y, z, h1, h2⟩ := B
  exact ⟨x, y, z, by rw [upd_ne (Ne.symm ne)]; exact h1, h2⟩
section
variable {K : PySem.W.Frag}
theorem for_in {i j : Nat} {S : Addr} {xs : List V} {tb : TS} {D : Ends} {σ : L2.St} {H : Hp} (Pv : Nat → L2.St → Hp → Prop) (hj : σ[j]? = some (some (.ref S))) (hS : SqL K H S xs) (h0 : Pv 0 σ H) (hl : ∀ n σ H, n ≤ xs.length → Pv n σ H → SqL K H S xs)
    (hs : ∀ n x σ H, xs[n]? = some x → Pv n σ H → tb { D with nx := Pv (n + 1), ct := Pv (n + 1), bk := D.nx } (σ.set i (some x)) H) (hd : ∀ σ H, Pv xs.length σ H → D.nx σ H) : tFor (iList K (tVar j)) (gName i) tb D σ H :=
  ⟨_, hj, S, rfl, ⟨_, hS⟩, for_list (xs := xs) Pv h0 hl hs hd⟩
theorem for_rng {i n : Nat} {ta : TA} {tb : TS} {D : Ends} {σ : L2.St} {H : Hp} (Pv : Nat → L2.St → Hp → Prop) (ha : ∀ R : List V → Hp → Prop, (∀ H1, Sm H H1 → R [.int (n : Int)] H1) → ta σ H R) (hn : n ≤ 90000) (h0 : ∀ H1, Sm H H1 → Pv 0 σ H1)
    (hs : ∀ j σ H, j < n → Pv j σ H → tb { D with nx := Pv (j + 1), ct := Pv (j + 1), bk := D.nx } (σ.set i (some (.int (0 + (j : Int))))) H) (hd : ∀ σ H, Pv n σ H → D.nx σ H) : tFor (iRng1 ta) (gName i) tb D σ H := by
  refine ha _ fun H1 S => ⟨(n : Int), rfl, by omega, by omega, ?_⟩
  exact for_range (lo := 0) (n := n) Pv (h0 H1 S) hs hd
/-- a comprehension over a list that keeps nothing -/
theorem lc_empty {i j : Nat} {S : Addr} {xs : List V} {σ : L2.St} {H : Hp} {tt : TT} {te : TE} {Q : VK} (hj : σ[j]? = some (some (.ref S))) (hS : SqL K H S xs)
    (ht : ∀ x H2, x ∈ xs → Sm H H2 → ∀ R : Bool → Hp → Prop, (∀ H', Sm H2 H' → R false H') → tt ((σ.set i none).set i (some x)) H2 R)
    (hQ : ∀ D H', Sm H H' → H' D = some (.lst []) → Q (.ref D) H') : tLc (iList K (tVar j)) (gName i) tt te [i] σ H Q := by
  refine ⟨_, hj, S, rfl, ⟨_, hS⟩, fun D hD => ?_⟩
  refine lc_list (K := K) (a := S) (xs := xs) (fun _ H' => Sm H H' ∧ H' D = some (.lst [])) ⟨Sm.new hD, upd_same⟩ (fun _ H' _ h => Sm.seq h.1 hS) (fun n x H' hx h => ?_) fun H' h => hQ D H' h.1 h.2
  refine ⟨?_, ?_⟩
  · show ((σ.set i none).set i (some x)).set i none = (σ.set i none)
    rw [List.set_set, List.set_set]
  · exact ht x H' (List.mem_of_getElem? hx) h.1 _ fun H2 S2 => iteF ⟨h.1.trans S2, S2 _ _ h.2⟩
theorem isi_bool {k : Bool} {H : Hp} {Q : VK} (q : Q (.bl true) H) : rIsi K [.bl k, .ty "bool"] H Q :=
  ⟨_, _, .type "bool", .type "bool", true, rfl, .ty "bool", .base (.bl k), kit_ty (by decide +kernel), q⟩
end
/-! ### comprehensions that tell what each item is worth, and nothing else; over a range, none kept -/
section
variable {K : PySem.W.Frag}
theorem lc_map {i : Nat} {te0 : TE} {xs : List V} {σ : L2.St} {H : Hp} {te : TE} {Q : VK} (g : V → V) (h0 : ∀ R : VK, (∀ S H1, Sm H H1 → SqL K H1 S xs → R (.ref S) H1) → te0 σ H R) (hn : xs.length ≤ 90000)
    (he : ∀ x H2, x ∈ xs → Sm H H2 → ∀ R : VK, (∀ H', Sm H2 H' → R (g x) H') → te ((σ.set i none).set i (some x)) H2 R)
    (hQ : ∀ D H', Sm H H' → H' D = some (.lst (xs.map g)) → H D = none → Q (.ref D) H') : tLc (iList K te0) (gName i) tYes te [i] σ H Q := by
  refine h0 _ fun S H1 S1 hS => ⟨S, rfl, ⟨_, hS⟩, fun D hD => ?_⟩
  refine lc_list (K := K) (a := S) (xs := xs) (fun j H' => Sm H1 H' ∧ H' D = some (.lst ((xs.take j).map g))) ⟨Sm.new hD, by rw [List.take_zero]; exact upd_same⟩ (fun _ H' _ h => Sm.seq h.1 hS) (fun n x H' hx h => ?_) fun H' h => ?_
  · refine ⟨?_, ?_⟩
    · show ((σ.set i none).set i (some x)).set i none = (σ.set i none)
      rw [List.set_set, List.set_set]
    · have hlt : n < xs.length := (List.getElem?_eq_some_iff.mp hx).1
      refine he x H' (List.mem_of_getElem? hx) (S1.trans h.1) _ fun H2 S2 => ⟨_, S2 _ _ h.2, small' (by rw [List.length_map, List.length_take]; omega), Sm.own (h.1.trans S2) hD (no_tbl (S2 _ _ h.2)), ?_⟩
      rw [List.take_add_one, hx, List.map_append]
      exact upd_same
  · have e := h.2
    rw [List.take_length] at e
    exact hQ D H' (S1.trans h.1) e (S1.free hD)
theorem lc_noneR {i : Nat} {lo hi : Int} {ta : TA} {σ : L2.St} {H : Hp} {tt : TT} {te : TE} {Q : VK} (h0 : ∀ R : List V → Hp → Prop, (∀ H1, Sm H H1 → R [.int lo, .int hi] H1) → ta σ H R) (hl : -1000000 ≤ lo ∧ lo ≤ 1000000 ∧ -1000000 ≤ hi ∧ hi ≤ 1000000)
    (ht : ∀ (j : Int) H2, lo ≤ j → j < hi → Sm H H2 → ∀ R : Bool → Hp → Prop, (∀ H', Sm H2 H' → R false H') → tt ((σ.set i none).set i (some (.int j))) H2 R)
    (hQ : ∀ D H', Sm H H' → H' D = some (.lst []) → Q (.ref D) H') : tLc (iRng2 ta) (gName i) tt te [i] σ H Q := by
  refine h0 _ fun H1 S1 => ⟨lo, hi, rfl, by omega, fun D hD => ?_⟩
  refine lc_range (lo := lo) (n := (hi - lo).toNat) (fun _ H' => Sm H1 H' ∧ H' D = some (.lst [])) ⟨Sm.new hD, upd_same⟩ (fun j H' hj h => ?_) fun H' h => hQ D H' (S1.trans h.1) h.2
  refine ⟨?_, ?_⟩
  · show ((σ.set i none).set i (some (.int (lo + j)))).set i none = (σ.set i none)
    rw [List.set_set, List.set_set]
  · exact ht (lo + j) H' (by omega) (by omega) (S1.trans h.1) _ fun H2 S2 => iteF ⟨h.1.trans S2, S2 _ _ h.2⟩
end
/-! lists compared -/
def dB (bs : List Bool) : List PyData := bs.map PyData.bool
theorem dp_bools {K : PySem.W.Frag} {H : Hp} : ∀ bs : List Bool, DpAll K H (bs.map V.bl) (dB bs)
  | [] => .nil
  | x :: r => .cons (.bl x) (dp_bools r)
theorem lay_bools : ∀ bs : List Bool, PyData.canLayAll0 (dB bs) = true
  | [] => rfl
  | x :: r => by
    show (true && PyData.canLayAll0 (dB r)) = true
    rw [lay_bools r]
    rfl
theorem depth_bools : ∀ bs : List Bool, PyData.depthAll (dB bs) = 0
  | [] => rfl
  | x :: r => by
    show max 0 (PyData.depthAll (dB r)) = 0
    rw [depth_bools r]
    rfl
theorem shaped_bools (bs : List Bool) : SeqAt.shaped (.list (dB bs)) = true := by
  show (PyData.canLayAll0 (dB bs) && decide (PyData.depthAll (dB bs) + 1 ≤ 64)) = true
  rw [lay_bools, depth_bools]
  rfl
theorem eqv_bools : ∀ bs : List Bool, PyData.eqv (.list (dB bs)) (.list (dB bs)) = true
  | [] => rfl
  | x :: r => by
    have ih := eqv_bools r
    show ((x == x) && PyData.eqvAll (dB r) (dB r)) = true
    rw [beq_self_eq_true]
    exact ih
theorem eqv_ints : ∀ ns : List Int, PyData.eqv (.list (ns.map PyData.int)) (.list (ns.map PyData.int)) = true
  | [] => rfl
  | x :: r => by
    have ih := eqv_ints r
    show ((x == x) && PyData.eqvAll (r.map PyData.int) (r.map PyData.int)) = true
    rw [beq_self_eq_true]
    exact ih
theorem eqv_self_strs (l : List Str) : PyData.eqv (.list (dS l)) (.list (dS l)) = true := by
  show PyData.eqvAll _ _ = _
  rw [eqv_strs]
  exact decide_eq_true rfl
theorem shaped_strs {ks : List Str} (h : ∀ z ∈ ks, PyData.strOk z = true) : SeqAt.shaped (.list (dS ks)) = true := by
  show (PyData.canLayAll0 (dS ks) && decide (PyData.depthAll (dS ks) + 1 ≤ 64)) = true
  rw [lay_strs ks h, depth_strs]
  rfl
/-! ### a scene is asked for pieces -/
section
variable {X : Cx} {K : PySem.W.Frag}
theorem sumK (hc : X.calm = true) (h : X.K = K := by rfl) : CallR X (.builtin "sum") (rSum K) := h ▸ cr_sum hc
def rInTxt : R2 := fun x y H Q => ∃ i j, x = .str i ∧ y = .str j ∧ Q (.bl (!(Builtin.Str.occurrences j i 0 j.length 1).isEmpty)) H
theorem op_in_txt : OpR X (compareOp .In) rInTxt := op_in_str
end
def tIs (t : TE) : TE := tTup (tCons (tC (.str "is")) (tCons t tNil))
/-- t tells the text z, and leaves all as it was -/
def Tells (t : TE) (σ : L2.St) (H : Hp) (z : Str) : Prop := ∀ (H1 : Hp) (R : VK), Sm H H1 → (∀ H2, Sm H1 H2 → R (.str z) H2) → t σ H1 R
theorem Tells.var {σ : L2.St} {H : Hp} {i : Nat} {z : Str} (h : σ[i]? = some (some (.str z))) : Tells (tVar i) σ H z := fun H1 _ _ q => ⟨_, h, q H1 (Sm.refl H1)⟩
theorem Tells.sm {t : TE} {σ : L2.St} {H H1 : Hp} {z : Str} (h : Tells t σ H z) (S : Sm H H1) : Tells t σ H1 z := fun H2 R S2 q => h H2 R (S.trans S2) q
theorem is_made {t : TE} {σ : L2.St} {H : Hp} {z : Str} {Q : VK} (h : Tells t σ H z) (q : ∀ p H1, Sm H H1 → IsX H1 (.ref p) z → Q (.ref p) H1) : tIs t σ H Q :=
  h H _ (Sm.refl H) fun H1 S1 => ⟨by show 2 ≤ sizeLine; decide, fun p hp => q p _ (S1.trans (Sm.new hp)) ⟨p, rfl, upd_same⟩⟩
theorem IsX.sm {H H1 : Hp} {x : V} {z : Str} (h : IsX H x z) (S : Sm H H1) : IsX H1 x z := by
  obtain ⟨p, e, hp⟩ := h
  exact ⟨p, e, S _ _ hp⟩
section
variable {P : Program} {w : World} {K : PySem.W.Frag} {mg : Str → Option Value} {base : Heap} {cs : Tabs}
theorem isi_str {z : Str} {H : Hp} {Q : VK} (q : Q (.bl true) H) : rIsi K [.str z, .ty "str"] H Q :=
  ⟨_, _, .type "str", .type "str", true, rfl, .ty "str", .base (.str z), kit_ty (by decide +kernel), q⟩
theorem isi_use {z : Str} {i : Nat} {σ : L2.St} {H : Hp} {Q : Bool → Hp → Prop} (h : σ[i]? = some (some (.str z))) (q : Q true H) : tB (tCB (rIsi K) (tCons (tVar i) (tCons (tC (.ty "str")) tNil))) σ H Q := by
  refine ⟨_, h, ?_⟩
  show rIsi K [.str z, .ty "str"] H (fun x H1 => ∃ c, x = V.bl c ∧ Q c H1)
  exact isi_str ⟨true, rfl, q⟩
theorem or_not {t u : TT} {σ : L2.St} {H : Hp} {Q : Bool → Hp → Prop} (h : t σ H fun c H1 => if (!c) = true then Q true H1 else u σ H1 Q) : tOr (tNot t) u σ H Q := h
theorem tcb1 {r : List V → Hp → VK → Prop} {t : TE} {σ : L2.St} {H : Hp} {Q : VK} (h : t σ H fun x H1 => r [x] H1 Q) : tCB r (tCons t tNil) σ H Q := h
theorem asked_succ (a b : Str) (j : Nat) : asked a b (j + 1) = asked a b j ++ [pieceAt a b ((j : Int) + 1)] := by
  unfold asked
  rw [List.range_succ, List.map_append]
  rfl
theorem asked_len (a b : Str) (j : Nat) : (asked a b j).length = j := by
  unfold asked
  rw [List.length_map, List.length_range]
theorem piece_free {a b : Str} (hb : tl b ≠ []) (C : Cut a b (piecesL a b)) (k : Nat) : (!(Builtin.Str.occurrences (pieceAt a b ((k : Int) + 1)) b 0 (pieceAt a b ((k : Int) + 1)).length 1).isEmpty) = false := by
  rw [asked_get]
  by_cases h : k < (piecesL a b).length
  · rw [List.getElem?_eq_getElem h]
    exact C.free _ (List.getElem_mem h)
  · rw [List.getElem?_eq_none (by omega)]
    exact not_in hb fun i hi => absurd hi (Nat.not_lt_zero i)
theorem num_back (k : Nat) : numOf (tl (Str.ofString (toString ((k : Int) + 1)))) = (k : Int) + 1 := by
  rw [tl_int _ (by omega)]
  have e : numL ((k : Int) + 1).natAbs = numT ((k : Int) + 1) := by
    unfold numT
    rw [if_neg (by omega)]
  rw [e, numOf_numT]
def lenV : V → V
  | .str z => .int z.length
  | v => v
theorem sum_lens : ∀ l : List Str, (l.map fun z => (z.length : Int)).sum = (((l.map (·.length)).sum : Nat) : Int)
  | [] => rfl
  | z :: l => by
    rw [List.map_cons, List.sum_cons, sum_lens l, List.map_cons, List.sum_cons]
    omega
theorem ask_piece (T : Txt K mg cs) {σ : L2.St} {H : Hp} {Q : VK} {s : Addr} {t1 t2 t3 : TE} {a b c : Str} {i : Nat} (A : ScAt cs H s) (h0 : σ[i]? = some (some (.ref s))) (h1 : Tells t1 σ H a) (h2 : Tells t2 σ H b) (h3 : Tells t3 σ H c)
    (ha : (tl a).length ≤ 2000) (hb : (tl b).length ≤ 2000) (hc : (tl c).length ≤ 250) (q : ∀ H', Sm H H' → Q (.str (pieceAt a b (numOf (tl c)))) H') :
    tMeth cs.a_Scene "reckon" (spW cs (S1 cs)) [] E0 (tVar i) (tCons (tTup (tCons (tC (.str "piece")) (tCons (tIs t1) (tCons (tIs t2) (tCons (tIs t3) tNil))))) tNil) σ H Q := by
  refine scene_meth A h0 (by decide +kernel) ?_
  change tIs t1 σ H (fun x H1 => tIs t2 σ H1 fun y H2 => tIs t3 σ H2 fun z H3 => 4 ≤ sizeLine ∧ ∀ p, H3 p = none → spW cs (S1 cs) [.ref s, .ref p] (upd H3 p (.tup [.str "piece", x, y, z])) Q E0)
  refine is_made h1 fun p1 H1 G1 I1 => is_made (h2.sm G1) fun p2 H2 G2 I2 => is_made (h3.sm (G1.trans G2)) fun p3 H3 G3 I3 => ⟨by decide, fun p hp => ?_⟩
  have S4 : Sm H3 (upd H3 p (.tup [.str "piece", .ref p1, .ref p2, .ref p3])) := Sm.new hp
  have G := ((G1.trans G2).trans G3).trans S4
  exact rk_piece T (A.sm G) upd_same (I1.sm ((G2.trans G3).trans S4)) (I2.sm (G3.trans S4)) (I3.sm S4) ha hb hc fun H' S => q H' (G.trans S)
theorem ask_part (T : Txt K mg cs) {σ : L2.St} {H : Hp} {Q : VK} {s : Addr} {t1 t2 t3 : TE} {a b c : Str} {i : Nat} (A : ScAt cs H s) (h0 : σ[i]? = some (some (.ref s))) (h1 : Tells t1 σ H a) (h2 : Tells t2 σ H b) (h3 : Tells t3 σ H c)
    (ha : (tl a).length ≤ 2000) (hb : (tl b).length ≤ 250) (hc : (tl c).length ≤ 250) (q : ∀ H', Sm H H' → Q (.str (partAt a (numOf (tl b)) (numOf (tl c)))) H') :
    tMeth cs.a_Scene "reckon" (spW cs (S1 cs)) [] E0 (tVar i) (tCons (tTup (tCons (tC (.str "part")) (tCons (tIs t1) (tCons (tIs t2) (tCons (tIs t3) tNil))))) tNil) σ H Q := by
  refine scene_meth A h0 (by decide +kernel) ?_
  change tIs t1 σ H (fun x H1 => tIs t2 σ H1 fun y H2 => tIs t3 σ H2 fun z H3 => 4 ≤ sizeLine ∧ ∀ p, H3 p = none → spW cs (S1 cs) [.ref s, .ref p] (upd H3 p (.tup [.str "part", x, y, z])) Q E0)
  refine is_made h1 fun p1 H1 G1 I1 => is_made (h2.sm G1) fun p2 H2 G2 I2 => is_made (h3.sm (G1.trans G2)) fun p3 H3 G3 I3 => ⟨by decide, fun p hp => ?_⟩
  have S4 : Sm H3 (upd H3 p (.tup [.str "part", .ref p1, .ref p2, .ref p3])) := Sm.new hp
  have G := ((G1.trans G2).trans G3).trans S4
  exact rk_part T (A.sm G) upd_same (I1.sm ((G2.trans G3).trans S4)) (I2.sm (G3.trans S4)) (I3.sm S4) ha hb hc (q _ G)
theorem ask_len (T : Txt K mg cs) {σ : L2.St} {H : Hp} {Q : VK} {s : Addr} {t1 : TE} {a : Str} {i : Nat} (A : ScAt cs H s) (h0 : σ[i]? = some (some (.ref s))) (h1 : Tells t1 σ H a) (ha : (tl a).length ≤ 2000)
    (q : ∀ (z : Str) (H' : Hp), Sm H H' → tl z = numT (tl a).length → Q (.str z) H') :
    tMeth cs.a_Scene "reckon" (spW cs (S1 cs)) [] E0 (tVar i) (tCons (tTup (tCons (tC (.str "length")) (tCons (tIs t1) tNil))) tNil) σ H Q := by
  refine scene_meth A h0 (by decide +kernel) ?_
  change tIs t1 σ H (fun x H1 => 2 ≤ sizeLine ∧ ∀ p, H1 p = none → spW cs (S1 cs) [.ref s, .ref p] (upd H1 p (.tup [.str "length", x])) Q E0)
  refine is_made h1 fun p1 H1 G1 I1 => ⟨by decide, fun p hp => ?_⟩
  have S4 : Sm H1 (upd H1 p (.tup [.str "length", .ref p1])) := Sm.new hp
  exact rk_len T (A.sm (G1.trans S4)) upd_same (I1.sm S4) ha fun z H' S e => q z H' ((G1.trans S4).trans S) e
def spPR (cs : Tabs) : Sp := fun vs H Q _ => ∃ (s : Addr) (a b c : Str), vs = [.ref s, .str a, .str b, .str c] ∧ ScAt cs H s ∧ (tl a).length ≤ 500 ∧ (tl b).length ≤ 500 ∧ (tl c).length ≤ 250 ∧ b.cps.all (· < 256) = true ∧ ∀ H', Sm H H' → Q (.bl true) H'
theorem ok_pieces_right (T : Txt K mg cs) (C_law_piece : Cal P w K mg base 1 "_law_piece" ["one", "other", "nth"] spPieceL) (C_law_number : Cal P w K mg base 1 "_law_number" ["worth"] spNumL) (CScene_reckon : CalM P w K mg base 6 cs.a_Scene "reckon" ["self", "expression"] (spW cs (S1 cs))) :
    Cal P w K mg base 7 "_law_pieces_right" ["scene", "one", "other", "nth"] (spPR cs) := by
  refine T.f_law_pieces_right.cal scLawPiecesRight (fun vs H Q E h => ?_) (fun f cdv A outer s H vs Q E hr h => ?_)
  · obtain ⟨_, _, _, _, rfl, _⟩ := h
    rfl
  obtain ⟨s', a, b, c, rfl, A1, ha, hb, hc, hk, q⟩ := h
  refine ⟨_, (pss_cons (ps_set (i := 4) scLawPiecesRight.nd rfl (by first | exact Or.inl rfl | exact Or.inr rfl) (pe_cal C_law_piece (hr.mono (by first | decide | omega)) (pa_cons (pv 1) (pa_cons (pv 2) (pa_cons (pe_cal C_law_number (hr.mono (by first | decide | omega)) (pa_cons (pv 3) pa_nil)) pa_nil)))))
    (pss_cons (ps_if (pt_cmpR op_ne (pe_calM CScene_reckon T.cl_Scene (hr.mono (by first | decide | omega)) (pv 0) (pa_cons (pe_tup (pa_cons pe_str (pa_cons (pe_tup (pa_cons pe_str (pa_cons (pv 1) pa_nil))) (pa_cons (pe_tup (pa_cons pe_str (pa_cons (pv 2) pa_nil))) (pa_cons (pe_tup (pa_cons pe_str (pa_cons (pv 3) pa_nil))) pa_nil))))) pa_nil)) (pv 4) (nomark _)) (pss_one (ps_ret pe_bl)) pss_nil)
    (pss_cons (ps_if (pt_cmpR op_eq (pv 2) pe_str (nomark _)) (pss_one (ps_ret pe_bl)) pss_nil)
    (pss_cons (ps_set (i := 5) scLawPiecesRight.nd rfl (by first | exact Or.inl rfl | exact Or.inr rfl) (pe_lst pa_nil))
    (pss_cons (ps_for PassesOwn.never rfl (pi_range1 rfl T.n_range (pa_cons (pe_op op_add (pe_callB lenT rfl T.n_len (by decide +kernel) (pa_cons (pv 1) pa_nil)) pe_int) pa_nil)) (pg_name (i := 6) scLawPiecesRight.nd rfl (by first | exact Or.inl rfl | exact Or.inr rfl))
      (pss_cons (ps_set (i := 8) scLawPiecesRight.nd rfl (by first | exact Or.inl rfl | exact Or.inr rfl) (pe_calM CScene_reckon T.cl_Scene (hr.mono (by first | decide | omega)) (pv 0) (pa_cons (pe_tup (pa_cons pe_str (pa_cons (pe_tup (pa_cons pe_str (pa_cons (pv 1) pa_nil))) (pa_cons (pe_tup (pa_cons pe_str (pa_cons (pv 2) pa_nil))) (pa_cons (pe_tup (pa_cons pe_str (pa_cons (pe_callTy call_str_int rfl T.n_str (by decide +kernel) (pa_cons (pe_op op_add (pv 6) pe_int) pa_nil)) pa_nil))) pa_nil))))) pa_nil)))
        (pss_cons (ps_if (PW.pt (pw_or (pt_not (pt_val (pe_callB (isI K) rfl T.n_isinstance (by decide +kernel) (pa_cons (pv 8) (pa_cons (pe_bltn (v := .ty "str") rfl T.n_str (by decide +kernel) rfl) pa_nil))))) (pw_or1 (pt_cmpR op_in_txt (pv 2) (pv 8) rfl)))) (pss_one (ps_ret pe_bl)) pss_nil)
        (pss_one (ps_expr (pe_bm PySem.F.plainAttrs_list PySem.F.slot_list_append PySem.F.type_list_append mt_append (pv 5) (pa_cons (pv 8) pa_nil)))))))
    (pss_cons (ps_set (i := 7) scLawPiecesRight.nd rfl (by first | exact Or.inl rfl | exact Or.inr rfl) (pe_op op_add pe_int (pe_op op_fdivW (pe_op op_sub (pe_callB lenT rfl T.n_len (by decide +kernel) (pa_cons (pv 1) pa_nil)) (pe_callB (sumK (K := K) rfl) rfl T.n_sum (by decide +kernel) (pa_cons (pe_lc (own := [("piece", 8)]) (g := gName 8) (tt := tYes) rfl scLawPiecesRight.nd (pi_list (pv 5)) (blkOk_by (own := [("piece", 8)]) (N := ["scene", "one", "other", "nth", "due", "found", "k", "many", "piece"]) (sc := defScope sLawPiecesRight) (by decide +kernel)) (fun _ _ _ _ _ => (pg_name (i := 8) scLawPiecesRight.nd rfl (by first | exact Or.inl rfl | exact Or.inr rfl))) (fun _ _ _ _ _ => pts_nil) (fun _ _ _ _ _ => (pe_callB lenT rfl T.n_len (by decide +kernel) (pa_cons (pv 8) pa_nil)))) pa_nil))) (pe_callB lenT rfl T.n_len (by decide +kernel) (pa_cons (pv 2) pa_nil)))))
    (pss_one (ps_ret (pe_and (pe_cmpR op_eq (pe_join (pv 2) (pe_slice (slL K) (pv 5) po_none (po_some (pv 7)))) (pv 1) (nomark _)) (pe_one (pe_cmpR (eqD K hr.units) (pe_slice (slL K) (pv 5) (po_some (pv 7)) po_none) (pe_op op_rep (pe_lst (pa_cons pe_str pa_nil)) (pe_op op_sub (pe_callB (lenQ K) rfl T.n_len (by decide +kernel) (pa_cons (pv 5) pa_nil)) (pv 7))) (nomark _)))))))))))), ?_⟩
  refine run_set ?_
  refine ⟨_, rfl, _, rfl, _, rfl, c, rfl, hc, fun H1 G1 => ⟨a, b, _, rfl, by omega, by omega, hk, fun H2 G2 => ?_⟩⟩
  refine run_if (run_test (ask_piece T (A1.sm (G1.trans G2)) (by rfl) (Tells.var (by rfl)) (Tells.var (by rfl)) (Tells.var (by rfl)) (by omega) (by omega) hc fun H3 G3 => ?_))
  refine ⟨_, rfl, rfl, _, rfl, ?_⟩
  rw [decide_eq_true rfl]
  refine iteF ?_
  refine run_next ?_
  dsimp only
  have S3 := (G1.trans G2).trans G3
  refine run_if ⟨_, rfl, rfl, _, rfl, ?_⟩
  refine ite2 (fun cb => ?_) (fun cb => ?_)
  · exact run_ret (q _ S3)
  have hS : tl b ≠ [] := fun z => by
    have e : b = "" := ext_tl z
    rw [e] at cb
    exact absurd rfl cb
  have C := cut_of (a := a) hS hk
  refine run_next ?_
  dsimp only
  refine run_set ⟨Nat.zero_le _, fun L hL => ?_⟩
  refine run_for ?_
  have A3 := A1.sm S3
  refine for_rng (i := 6) (n := (tl a).length + 1) (fun j σ H' => Sm H3 H' ∧ H' L = some (.lst ((asked a b j).map V.str)) ∧ ∃ x6 x7 x8, σ = [some (.ref s'), some (.str a), some (.str b), some (.str c), some (.str (pieceAt a b (numOf (tl c)))), some (.ref L), x6, x7, x8]) (fun R h => ?_) (by omega) (fun H4 S4 => ⟨(Sm.new hL).trans S4, S4 _ _ upd_same, _, _, _, rfl⟩) (fun j σ H4 hj hp => ?_) fun σ H4 hp => ?_
  · refine ⟨_, rfl, a, rfl, by rw [len_tl]; exact small (by omega), _, _, rfl, rfl, ?_⟩
    have e := h _ (Sm.refl _)
    rw [len_tl]
    exact e
  · obtain ⟨S4, hL4, x6, x7, x8, rfl⟩ := hp
    have W : Tells (tCB (fun xs H Q => ∃ i, xs = [V.int i] ∧ i.natAbs.log2 < 1920 ∧ Q (V.str (Str.ofString (toString i))) H) (tCons (tOp (rI0 fun i j => V.int (i + j)) (tVar 6) (tC (V.int 1))) tNil))
        [some (.ref s'), some (.str a), some (.str b), some (.str c), some (.str (pieceAt a b (numOf (tl c)))), some (.ref L), some (.int (0 + (j : Int))), x7, x8] H4 (Str.ofString (toString ((j : Int) + 1))) := fun H5 R S5 q5 => by
      refine ⟨_, rfl, _, _, rfl, rfl, _, rfl, log_ok (Nat.lt_of_le_of_lt (show (0 + (j : Int) + 1).natAbs ≤ 1000 by omega) (by decide)), ?_⟩
      rw [Int.zero_add]
      exact q5 H5 (Sm.refl _)
    have hl : (tl (Str.ofString (toString ((j : Int) + 1)))).length ≤ 250 := by
      rw [tl_int _ (by omega)]
      exact Nat.le_trans (numL_len (k := 60) (by decide) (Nat.lt_of_le_of_lt (show ((j : Int) + 1).natAbs ≤ 1000 by omega) (by decide))) (by decide)
    refine run_set (ask_piece T (A3.sm S4) (by rfl) (Tells.var (by rfl)) (Tells.var (by rfl)) W (by omega) (by omega) hl fun H5 S5 => ?_)
    rw [num_back]
    have fr := piece_free hS C j
    have hL5 := S5 _ _ hL4
    have e : (asked a b j).map V.str ++ [V.str (pieceAt a b ((j : Int) + 1))] = (asked a b (j + 1)).map V.str := by
      rw [asked_succ, List.map_append]
      rfl
    refine run_if (or_not (isi_use (by rfl) ?_))
    refine iteF ⟨_, rfl, _, rfl, b, _, rfl, rfl, _, rfl, ?_⟩
    rw [fr]
    refine iteF ?_
    refine run_next ?_
    dsimp only
    refine ⟨_, rfl, .inl ⟨rfl, _, .inl (.inl hL5)⟩, _, rfl, L, _, _, rfl, rfl, hL5, ?_, ?_⟩
    · rw [List.length_map, asked_len]
      exact small' (by omega)
    rw [e]
    exact ⟨Sm.own (S4.trans S5) hL (no_tbl hL5), upd_same, _, _, _, rfl⟩
  · obtain ⟨S4, hL4, x6, x7, x8, rfl⟩ := hp
    dsimp only
    have ea := len_tl a
    have eb := len_tl b
    have hall : asked a b ((tl a).length + 1) = piecesL a b ++ List.replicate ((tl a).length + 1 - (piecesL a b).length) ("" : Str) := by
      refine asked_all ?_
      have := C.len
      have hpos : 0 < (tl b).length := Nat.pos_of_ne_zero fun z => hS (List.eq_nil_of_length_eq_zero z)
      have h2 : (piecesL a b).length - 1 ≤ (tl a).length := by
        have : ((piecesL a b).length - 1) * 1 ≤ ((piecesL a b).length - 1) * b.length := Nat.mul_le_mul_left _ (by omega)
        have e3 : (piecesL a b).length * b.length = ((piecesL a b).length - 1) * b.length + b.length := by
          have hne : 0 < (piecesL a b).length := List.length_pos_iff.mpr C.ne
          obtain ⟨m, hm⟩ : ∃ m, (piecesL a b).length = m + 1 := ⟨_, (Nat.succ_pred_eq_of_pos hne).symm⟩
          rw [hm, Nat.succ_mul]
          rfl
        omega
      omega
    have hsum := sum_lens (asked a b ((tl a).length + 1))
    have hlenP : ((asked a b ((tl a).length + 1)).map (·.length)).sum = ((piecesL a b).map (·.length)).sum := by
      rw [hall, List.map_append, List.sum_append, List.map_replicate]
      have : (List.replicate ((tl a).length + 1 - (piecesL a b).length) (("" : Str).length)).sum = 0 := by
        show (List.replicate _ 0).sum = 0
        simp
      rw [this, Nat.add_zero]
    have hPle : (piecesL a b).length ≤ (asked a b ((tl a).length + 1)).length := by
      rw [hall, List.length_append]
      omega
    have hlen : ∀ z ∈ asked a b ((tl a).length + 1), z.length ≤ sizeLine := fun z hz => by
      unfold asked at hz
      obtain ⟨k, _, rfl⟩ := List.mem_map.mp hz
      rw [len_tl]
      exact Nat.le_trans (piece_len _ _ _) (small (by omega))
    have hbp : 0 < b.length := by
      rw [eb]
      exact Nat.pos_of_ne_zero fun z => hS (List.eq_nil_of_length_eq_zero z)
    have hmany : (1 : Int) + ((a.length : Int) - ((asked a b ((tl a).length + 1)).map fun z => (z.length : Int)).sum) / (b.length : Int) = ((piecesL a b).length : Nat) := by
      rw [hsum, hlenP]
      have h1 := C.len
      have hne : 0 < (piecesL a b).length := List.length_pos_iff.mpr C.ne
      obtain ⟨m, hm⟩ : ∃ m, (piecesL a b).length = m + 1 := ⟨_, (Nat.succ_pred_eq_of_pos hne).symm⟩
      rw [hm, Nat.succ_mul] at h1
      have h2 : ((a.length : Int) - (((piecesL a b).map (·.length)).sum : Nat)) = (m : Int) * (b.length : Int) := by
        have h3 : a.length = ((piecesL a b).map (·.length)).sum + m * b.length := by omega
        rw [h3, Int.natCast_add, Int.natCast_mul]
        omega
      rw [h2, Int.mul_ediv_cancel _ (by omega), hm]
      omega
    generalize hxs : asked a b ((tl a).length + 1) = xs at *
    have hxl : xs.length = (tl a).length + 1 := by rw [← hxs, asked_len]
    refine run_set ?_
    refine ⟨_, rfl, a, rfl, by rw [ea]; exact small (by omega), ?_⟩
    dsimp only
    refine tcb1 ?_
    refine lc_map (K := K) (i := 8) (xs := xs.map V.str) lenV (fun R h => ⟨_, rfl, h L H4 (Sm.refl _) (SqL.of hL4)⟩) (by rw [List.length_map]; omega) (fun x H5 hx S5 R hR => ?_) fun D H5 S5 hD _ => ?_
    · obtain ⟨z, hz, rfl⟩ := List.mem_map.mp hx
      refine ⟨_, (by rfl), z, rfl, hlen z hz, hR H5 (Sm.refl _)⟩
    have hD' : H5 D = some (.lst ((xs.map fun z => (z.length : Int)).map V.int)) := by
      rw [hD, List.map_map, List.map_map]
      rfl
    refine ⟨D, _, rfl, SqL.of hD', _, _, rfl, rfl, _, rfl, b, rfl, by rw [eb]; exact small (by omega), _, _, rfl, rfl, wide_div (b := 256) (by omega) (Nat.lt_of_le_of_lt (show ((b.length : Nat) : Int).natAbs ≤ 500 by omega) (by decide)) (by decide) (by decide), _, _, rfl, rfl, ?_⟩
    have hv : (fun i j => V.int (i + j)) 1 (((a.length : Int) - (xs.map fun z => (z.length : Int)).sum) / (b.length : Int)) = V.int ((piecesL a b).length : Nat) := congrArg V.int hmany
    rw [hv]
    dsimp only
    refine run_ret ?_
    have hL5 := S5 _ _ hL4
    have t1 : cutV (xs.map V.str) none (some (((piecesL a b).length : Nat) : Int)) = (piecesL a b).map V.str := by
      rw [cut_take, ← List.map_take, hall, List.take_left']
      rfl
    have t2 : cutV (xs.map V.str) (some (((piecesL a b).length : Nat) : Int)) none = (List.replicate ((tl a).length + 1 - (piecesL a b).length) ("" : Str)).map V.str := by
      unfold cutV
      rw [HT.sIx_none, HT.sIx_nat, List.length_map, Nat.min_eq_left hPle, ← List.map_drop, ← List.map_take, hall, List.drop_left' rfl, List.take_of_length_le]
      rw [List.length_replicate, List.length_append, List.length_replicate]
      omega
    refine ⟨_, rfl, ⟨_, rfl⟩, _, rfl, _, rfl, _, rfl, L, _, rfl, SqL.of hL5, fun p1 hp1 => ?_⟩
    rw [t1]
    have S6 : Sm H5 (upd H5 p1 (.lst ((piecesL a b).map V.str))) := Sm.new hp1
    refine ⟨b, p1, _, rfl, rfl, .inl (SqL.of upd_same), ?_, ?_⟩
    · rw [← C.len]
      omega
    rw [C.join]
    refine ⟨_, rfl, rfl, true, ?_, ?_⟩
    · rw [decide_eq_true rfl]
    refine iteT ?_
    have hL6 := S6 _ _ hL5
    refine ⟨_, rfl, _, rfl, _, rfl, L, _, rfl, SqL.of hL6, fun p2 hp2 => ?_⟩
    rw [t2]
    refine ⟨Nat.le_of_lt (by decide), fun p3 hp3 => ?_⟩
    have S7 := Sm.new (o := .lst ((List.replicate ((tl a).length + 1 - (piecesL a b).length) ("" : Str)).map V.str)) hp2
    have S8 := Sm.new (o := .lst [V.str ""]) hp3
    refine ⟨_, rfl, L, _, rfl, .inl (SqL.of (S8 _ _ (S7 _ _ hL6))), _, rfl, _, _, rfl, rfl, p3, _, _, rfl, rfl, upd_same, ?_, ?_, ?_, fun p4 hp4 => ?_⟩
    · rw [List.length_map]
      omega
    · rw [List.length_map]
      omega
    · rw [List.length_map]
      show 1 * ((xs.length : Int) - ((piecesL a b).length : Nat)).toNat ≤ _
      exact Nat.le_trans (show 1 * ((xs.length : Int) - ((piecesL a b).length : Nat)).toNat ≤ 600 by omega) (by decide)
    have S9 := Sm.new (o := .lst ((List.replicate ((((xs.map V.str).length : Nat) : Int) - ((piecesL a b).length : Nat)).toNat [V.str ""]).flatten)) hp4
    have e3 : (List.replicate ((((xs.map V.str).length : Nat) : Int) - ((piecesL a b).length : Nat)).toNat [V.str ""]).flatten = (List.replicate ((tl a).length + 1 - (piecesL a b).length) ("" : Str)).map V.str := by
      have e4 : ((((xs.map V.str).length : Nat) : Int) - ((piecesL a b).length : Nat)).toNat = (tl a).length + 1 - (piecesL a b).length := by
        rw [List.length_map]
        omega
      rw [e4, List.map_replicate]
      generalize (tl a).length + 1 - (piecesL a b).length = n
      induction n with
      | zero => rfl
      | succ n ih => rw [List.replicate_succ, List.flatten_cons, ih, List.replicate_succ]; rfl
    have sh : SeqAt.shaped (.list (dS (List.replicate ((tl a).length + 1 - (piecesL a b).length) ("" : Str)))) = true := shaped_strs fun z hz => by
      rw [(List.mem_replicate.mp hz).2]
      decide +kernel
    refine ⟨.list (dS (List.replicate ((tl a).length + 1 - (piecesL a b).length) ("" : Str))), .list (dS (List.replicate ((tl a).length + 1 - (piecesL a b).length) ("" : Str))), .lst (SqL.of (S9 _ _ (S8 _ _ upd_same))) (dp_strs _), .lst (SqL.of (by rw [← e3]; exact upd_same)) (dp_strs _), sh, sh, ?_⟩
    rw [eqv_self_strs]
    exact q _ ((((((S3.trans S4).trans S5).trans S6).trans S7).trans S8).trans S9)
end
/-! ### a scene is asked for parts -/
theorem tl_subZ (z : Str) (i j : Nat) : tl (cutS z (some (i : Int)) (some (j : Int))) = ((tl z).take j).drop i := by
  by_cases h : i ≤ j
  · exact tl_sub z i j h
  · show (((z.cps.toList.drop (HT.sIx z.length 0 (some (i : Int)))).take (HT.sIx z.length z.length (some (j : Int)) - HT.sIx z.length 0 (some (i : Int)))).toArray).toList = _
    rw [HT.sIx_nat, HT.sIx_nat, List.toList_toArray]
    have e : min j z.length - min i z.length = 0 := by omega
    rw [e, List.take_zero, List.drop_eq_nil_of_le (by rw [List.length_take]; omega)]
def accP (l : List Nat) (I J m : Nat) : List Nat := ((l.take m).take J).drop I
theorem accP_step {l : List Nat} {I J m : Nat} (hm : m < l.length) : accP l I J (m + 1) = accP l I J m ++ (if I ≤ m ∧ m < J then [l[m]] else []) := by
  unfold accP
  rw [take_next hm]
  have hl : (l.take m).length = m := by rw [List.length_take]; omega
  by_cases hJ : m < J
  · rw [List.take_of_length_le (l := l.take m ++ [l[m]]) (by rw [List.length_append, hl]; exact hJ), List.take_of_length_le (l := l.take m) (by omega)]
    by_cases hI : I ≤ m
    · rw [if_pos ⟨hI, hJ⟩, List.drop_append_of_le_length (by omega)]
    · rw [if_neg (fun z => hI z.1), List.append_nil, List.drop_eq_nil_of_le (by rw [List.length_append, hl]; simp; omega), List.drop_eq_nil_of_le (by omega)]
  · rw [if_neg (fun z => hJ z.2), List.append_nil, List.take_append_of_le_length (by omega)]
theorem accP_all {l : List Nat} {I J : Nat} : accP l I J l.length = (l.take J).drop I := by
  unfold accP
  rw [List.take_length]
def spPaR (cs : Tabs) : Sp := fun vs H Q _ => ∃ (s : Addr) (a b c : Str), vs = [.ref s, .str a, .str b, .str c] ∧ ScAt cs H s ∧ (tl a).length ≤ 500 ∧ (tl b).length ≤ 250 ∧ (tl c).length ≤ 250 ∧ ∀ H', Sm H H' → Q (.bl true) H'
section
variable {P : Program} {w : World} {K : PySem.W.Frag} {mg : Str → Option Value} {base : Heap} {cs : Tabs}
theorem ok_part_right (T : Txt K mg cs) (C_law_number : Cal P w K mg base 1 "_law_number" ["worth"] spNumL) (CScene_reckon : CalM P w K mg base 6 cs.a_Scene "reckon" ["self", "expression"] (spW cs (S1 cs))) :
    Cal P w K mg base 7 "_law_part_right" ["scene", "one", "first", "last"] (spPaR cs) := by
  refine T.f_law_part_right.cal scLawPartRight (fun vs H Q E h => ?_) (fun f cdv A outer s H vs Q E hr h => ?_)
  · obtain ⟨_, _, _, _, rfl, _⟩ := h
    rfl
  obtain ⟨s', a, b, c, rfl, A1, ha, hb, hc, q⟩ := h
  refine ⟨_, (pss_cons (ps_asg (pe_tup (pa_cons (pe_cal C_law_number (hr.mono (by first | decide | omega)) (pa_cons (pv 2) pa_nil)) (pa_cons (pe_cal C_law_number (hr.mono (by first | decide | omega)) (pa_cons (pv 3) pa_nil)) pa_nil))) (pg_tup rfl (pgs_cons (pg_name (i := 4) scLawPartRight.nd rfl (by first | exact Or.inl rfl | exact Or.inr rfl)) (pgs_cons (pg_name (i := 5) scLawPartRight.nd rfl (by first | exact Or.inl rfl | exact Or.inr rfl)) pgs_nil))))
    (pss_cons (ps_set (i := 6) scLawPartRight.nd rfl (by first | exact Or.inl rfl | exact Or.inr rfl) (pe_join pe_str (pe_lc (own := [("k", 7)]) (g := gName 7) (tt := _) rfl scLawPartRight.nd (pi_range1 rfl T.n_range (pa_cons (pe_callB lenT rfl T.n_len (by decide +kernel) (pa_cons (pv 1) pa_nil)) pa_nil)) (blkOk_by (own := [("k", 7)]) (N := ["scene", "one", "first", "last", "begin", "end", "due", "k"]) (sc := defScope sLawPartRight) (by decide +kernel)) (fun _ _ _ _ _ => (pg_name (i := 7) scLawPartRight.nd rfl (by first | exact Or.inl rfl | exact Or.inr rfl))) (fun _ _ _ _ _ => (pts_one (pt_chain op_le op_le (pv 4) (pe_op op_add (pv 7) pe_int) (pv 5)))) (fun _ _ _ _ _ => (pe_ix ix_str (pv 1) (pv 7) (fun _ _ => rfl))))))
    (pss_one (ps_ret (pe_cmpR op_eq (pe_calM CScene_reckon T.cl_Scene (hr.mono (by first | decide | omega)) (pv 0) (pa_cons (pe_tup (pa_cons pe_str (pa_cons (pe_tup (pa_cons pe_str (pa_cons (pv 1) pa_nil))) (pa_cons (pe_tup (pa_cons pe_str (pa_cons (pv 2) pa_nil))) (pa_cons (pe_tup (pa_cons pe_str (pa_cons (pv 3) pa_nil))) pa_nil))))) pa_nil)) (pv 6) (nomark _)))))), ?_⟩
  refine ⟨_, rfl, b, rfl, hb, fun H1 G1 => ⟨_, rfl, c, rfl, hc, fun H2 G2 => ?_⟩⟩
  refine ⟨(by show 2 ≤ sizeLine; decide), fun p hp => ?_⟩
  refine ⟨p, _, rfl, SqT.of upd_same, rfl, _, _, rfl, _, _, rfl, rfl, ?_⟩
  have S3 : Sm H (upd H2 p (.tup [.int (numOf (tl b)), .int (numOf (tl c))])) := (G1.trans G2).trans (Sm.new hp)
  generalize upd H2 p (.tup [.int (numOf (tl b)), .int (numOf (tl c))]) = H3 at *
  dsimp only
  generalize hi : numOf (tl b) = i
  generalize hj : numOf (tl c) = j
  have ea := len_tl a
  have la : a.length ≤ sizeLine := by rw [ea]; exact small (by omega)
  obtain ⟨I, hI⟩ : ∃ I : Nat, (if 1 > i then 1 else i) - 1 = (I : Int) := ⟨((if 1 > i then 1 else i) - 1).toNat, by split <;> omega⟩
  obtain ⟨J, hJ⟩ : ∃ J : Nat, (if 0 > j then 0 else j) = (J : Int) := ⟨(if 0 > j then 0 else j).toNat, by split <;> omega⟩
  have hIm : ∀ m : Nat, I ≤ m ↔ i ≤ (m : Int) + 1 := fun m => by
    split at hI <;> omega
  have hJm : ∀ m : Nat, m < J ↔ (m : Int) + 1 ≤ j := fun m => by
    split at hJ <;> omega
  refine run_set ⟨⟨_, rfl⟩, ?_⟩
  refine ⟨_, rfl, a, rfl, la, (a.length : Int), rfl, by omega, by omega, fun D hD => ?_⟩
  refine lc_range (lo := 0) (n := a.length) (fun m H' => Sm H3 H' ∧ ∃ ys : List Str, H' D = some (.lst (ys.map V.str)) ∧ (ys.map tl).flatten = accP (tl a) I J m ∧ ys.length ≤ m ∧ ∀ y ∈ ys, (tl y).length ≤ 1) ⟨Sm.new hD, [], upd_same, (by unfold accP; simp), Nat.le_refl _, fun _ h => by cases h⟩ (fun m H' hm h => ?_) fun H' h => ?_
  · obtain ⟨S4, ys, hD4, hf, hl, h1⟩ := h
    have hm' : m < (tl a).length := by omega
    have st := accP_step (I := I) (J := J) hm'
    have skip : ¬ (I ≤ m ∧ m < J) → Sm H3 H' ∧ ∃ ys : List Str, H' D = some (.lst (ys.map V.str)) ∧ (ys.map tl).flatten = accP (tl a) I J (m + 1) ∧ ys.length ≤ m + 1 ∧ ∀ y ∈ ys, (tl y).length ≤ 1 := fun no => ⟨S4, ys, hD4, by rw [st, if_neg no, List.append_nil]; exact hf, by omega, h1⟩
    refine ⟨rfl, ?_⟩
    refine ⟨_, rfl, _, rfl, _, _, rfl, rfl, _, _, rfl, rfl, _, rfl, ?_⟩
    refine ite2 (fun c1 => ?_) (fun c1 => ?_)
    · have d1 := of_decide_eq_true c1
      refine ⟨_, rfl, _, _, rfl, rfl, _, rfl, ?_⟩
      refine ite2 (fun c2 => ?_) (fun c2 => ?_)
      · have d2 := of_decide_eq_true c2
        have yes : I ≤ m ∧ m < J := ⟨(hIm m).mpr (by omega), (hJm m).mpr (by omega)⟩
        refine ⟨_, rfl, _, rfl, a, _, _, rfl, rfl, la, by rw [Int.zero_add]; exact atI_nat (List.getElem?_eq_getElem hm'), _, hD4, ?_, Sm.own S4 hD (no_tbl hD4), ys ++ [⟨#[(tl a)[m]]⟩], ?_, ?_, ?_, ?_⟩
        · rw [List.length_map]
          exact small' (by omega)
        · rw [upd_same, List.map_append]
          rfl
        · rw [List.map_append, List.flatten_append, hf, st, if_pos yes]
          rfl
        · rw [List.length_append]
          show ys.length + 1 ≤ _
          omega
        · intro y hy
          rcases List.mem_append.mp hy with hy | hy
          · exact h1 y hy
          · rw [List.mem_singleton.mp hy]
            exact Nat.le_refl 1
      · exact skip fun z => c2 (decide_eq_true (by have := (hJm m).mp z.2; omega))
    · refine ⟨false, rfl, iteF (skip fun z => c1 (decide_eq_true (by have := (hIm m).mp z.1; omega)))⟩
  · obtain ⟨S4, ys, hD4, hf, hl, h1⟩ := h
    refine ⟨_, D, ys, rfl, rfl, .inl (SqL.of hD4), glue_ok (k := 1) (n := ys.length) h1 rfl (by omega), ?_⟩
    have e : partAt a i j = Txt.join "" ys := by
      refine ext_tl ?_
      unfold partAt
      rw [hI, hJ, tl_subZ, tl_glue, hf, ea, accP_all]
    dsimp only
    refine run_ret (run_op (ask_part T (A1.sm (S3.trans S4)) (by rfl) (Tells.var (by rfl)) (Tells.var (by rfl)) (Tells.var (by rfl)) (by omega) hb hc fun H5 S5 => ?_))
    rw [hi, hj, e]
    refine ⟨_, rfl, rfl, ?_⟩
    rw [decide_eq_true rfl]
    exact q _ ((S3.trans S4).trans S5)
end
/-! ### law k34 -/
def spLaw (K : PySem.W.Frag) (cs : Tabs) : Sp := fun vs H Q _ => ∃ (a : Addr) (ns : List Int), vs = [.ref a] ∧ SqL K H a (ns.map V.int) ∧ ns.length ≤ 63 ∧ TGs H cs ∧ ∀ H', Q (.bl true) H'
theorem last_piece : pieceAt "aaa" "aa" (numOf (tl ("2" : Str))) = "a" := by decide +kernel
section
variable {P : Program} {w : World} {K : PySem.W.Frag} {mg : Str → Option Value} {base : Heap} {cs : Tabs}
theorem ok_law (T : Txt K mg cs) (B : TBs base mg cs) {f : Addr} {fd : FuncData} (F : Fun K "law" "law" sLaw f fd) : FnOk P w K mg base CX0 8 f fd ["script"] (spLaw K cs) := by
  have CTree := ok_tree (P := P) (w := w) (base := base) T
  have CArrays := ok_arrays T CTree
  have CDealings := ok_dealings (P := P) (w := w) (base := base) T
  have CScene := ok_scene (P := P) (w := w) (base := base) T
  have C_number_of_figures := ok_number_of_figures (P := P) (w := w) (base := base) T
  have Cnumber_of := ok_number_of T C_number_of_figures
  have Cnumber_text := ok_number_text (P := P) (w := w) (base := base) T
  have Cpiece_of := ok_piece_of (P := P) (w := w) (base := base) T
  have Cpart_of := ok_part_of (P := P) (w := w) (base := base) T
  have W0 := ok_wi T (ok_is (P := P) (w := w) (base := base) T)
  have N0 := ok_no T W0 Cnumber_of
  have W1 := ok_w1 T (ok_le T W0 Cnumber_text) (ok_pi T W0 N0 Cpiece_of) (ok_pa T W0 N0 Cpart_of)
  have CScene_reckon := ok_reckon T W1
  have C_law_cell_at := ok_law_cell_at (P := P) (w := w) (base := base) T
  have C_law_bag := ok_law_bag (P := P) (w := w) (base := base) T
  have C_law_draw := ok_law_draw (P := P) (w := w) (base := base) T
  have C_law_key := ok_law_key T C_law_draw
  have C_law_worth := ok_law_worth T C_law_draw C_law_key
  have C_law_text := ok_law_text T C_law_draw C_law_worth
  have C_law_nth := ok_law_nth T C_law_draw
  have C_law_number := ok_law_number (P := P) (w := w) (base := base) T
  have C_law_piece := ok_law_piece (P := P) (w := w) (base := base) T
  have C_law_pieces_right := ok_pieces_right T C_law_piece C_law_number CScene_reckon
  have C_law_part_right := ok_part_right T C_law_number CScene_reckon
  refine F.ok scLaw (fun vs H Q E h => ?_) (fun cdv A outer s H vs Q E hr h => ?_)
  · obtain ⟨a, ns, rfl, _⟩ := h
    rfl
  obtain ⟨a, ns, rfl, hS, h63, hT, q⟩ := h
  refine ⟨_, (pss_cons (ps_set (i := 1) scLaw.nd rfl (by first | exact Or.inl rfl | exact Or.inr rfl) (pe_calC CScene (hr.mono (by first | decide | omega)) (pa_cons (pe_calC0 CArrays (hr.mono (by first | decide | omega))) (pa_cons (pe_calC CDealings (hr.mono (by first | decide | omega)) (pa_cons (pe_calC0 CArrays (hr.mono (by first | decide | omega))) pa_nil)) pa_nil))))
    (pss_cons (ps_for PassesOwn.never rfl (pi_range1 rfl T.n_range (pa_cons (pe_callB (call_max2 rfl) rfl T.n_max (by decide +kernel) (pa_cons pe_int (pa_cons (pe_callB (call_min2 rfl) rfl T.n_min (by decide +kernel) (pa_cons pe_int (pa_cons (pe_callB (lenQ K) rfl T.n_len (by decide +kernel) (pa_cons (pv 0) pa_nil)) pa_nil))) pa_nil))) pa_nil)) (pg_name (i := 2) scLaw.nd rfl (by first | exact Or.inl rfl | exact Or.inr rfl))
      (pss_cons (ps_set (i := 3) scLaw.nd rfl (by first | exact Or.inl rfl | exact Or.inr rfl) (pe_cal C_law_bag (hr.mono (by first | decide | omega)) (pa_cons (pe_op op_add (pe_cal C_law_cell_at (hr.mono (by first | decide | omega)) (pa_cons (pv 0) (pa_cons (pv 2) pa_nil))) pe_int) pa_nil)))
        (pss_one (ps_for PassesOwn.never rfl (pi_range1 rfl T.n_range (pa_cons pe_int pa_nil)) (pg_name (i := 4) scLaw.nd rfl (by first | exact Or.inl rfl | exact Or.inr rfl))
          (pss_cons (ps_set (i := 5) scLaw.nd rfl (by first | exact Or.inl rfl | exact Or.inr rfl) (pe_slice sl_str (pe_cal C_law_text (hr.mono (by first | decide | omega)) (pa_cons (pv 3) pa_nil)) po_none (po_some pe_int)))
            (pss_cons (ps_set (i := 6) scLaw.nd rfl (by first | exact Or.inl rfl | exact Or.inr rfl) (pe_ix (ixL K) (pe_lst (pa_cons pe_str (pa_cons pe_str (pa_cons pe_str (pa_cons pe_str (pa_cons (pv 5) (pa_cons pe_str (pa_cons pe_str (pa_cons (pe_slice sl_str (pe_cal C_law_text (hr.mono (by first | decide | omega)) (pa_cons (pv 3) pa_nil)) po_none (po_some pe_int)) pa_nil))))))))) (pe_cal C_law_draw (hr.mono (by first | decide | omega)) (pa_cons (pv 3) (pa_cons pe_int pa_nil))) (fun _ _ => rfl)))
            (pss_cons (ps_if (pt_cmpR op_ne (pe_calM CScene_reckon T.cl_Scene (hr.mono (by first | decide | omega)) (pv 1) (pa_cons (pe_tup (pa_cons pe_str (pa_cons (pe_tup (pa_cons pe_str (pa_cons (pv 5) pa_nil))) pa_nil))) pa_nil)) (pe_callTy call_str_int rfl T.n_str (by decide +kernel) (pa_cons (pe_callB lenT rfl T.n_len (by decide +kernel) (pa_cons (pv 5) pa_nil)) pa_nil)) (nomark _)) (pss_one (ps_ret pe_bl)) pss_nil)
            (pss_cons (ps_if (PW.pt (pw_and (pt_cmpR op_eq (pe_cal C_law_draw (hr.mono (by first | decide | omega)) (pa_cons (pv 3) (pa_cons pe_int pa_nil))) pe_int (nomark _)) (pw_and1 (pt_cmpR op_gt (pe_callB lenT rfl T.n_len (by decide +kernel) (pa_cons (pv 5) pa_nil)) pe_int (nomark _))))) (pss_one (ps_set (i := 5) scLaw.nd rfl (by first | exact Or.inl rfl | exact Or.inr rfl) (pe_slice sl_str (pv 5) po_none (po_some pe_int)))) pss_nil)
            (pss_cons (ps_if (PW.pt (pw_and (pt_cmpR op_le (pe_callB lenT rfl T.n_len (by decide +kernel) (pa_cons (pv 5) pa_nil)) pe_int (nomark _)) (pw_and1 (pt_not (pt_val (pe_cal C_law_pieces_right (hr.mono (by first | decide | omega)) (pa_cons (pv 1) (pa_cons (pv 5) (pa_cons (pv 6) (pa_cons (pe_cal C_law_nth (hr.mono (by first | decide | omega)) (pa_cons (pv 3) (pa_cons pe_int pa_nil))) pa_nil)))))))))) (pss_one (ps_ret pe_bl)) pss_nil)
            (pss_one (ps_if (pt_not (pt_val (pe_cal C_law_part_right (hr.mono (by first | decide | omega)) (pa_cons (pv 1) (pa_cons (pv 5) (pa_cons (pe_cal C_law_nth (hr.mono (by first | decide | omega)) (pa_cons (pv 3) (pa_cons (pe_callB lenT rfl T.n_len (by decide +kernel) (pa_cons (pv 5) pa_nil)) pa_nil))) (pa_cons (pe_cal C_law_nth (hr.mono (by first | decide | omega)) (pa_cons (pv 3) (pa_cons (pe_callB lenT rfl T.n_len (by decide +kernel) (pa_cons (pv 5) pa_nil)) pa_nil))) pa_nil))))))) (pss_one (ps_ret pe_bl)) pss_nil)))))))))))
    (pss_one (ps_ret (pe_cmpR op_eq (pe_calM CScene_reckon T.cl_Scene (hr.mono (by first | decide | omega)) (pv 1) (pa_cons (pe_tup (pa_cons pe_str (pa_cons (pe_tup (pa_cons pe_str (pa_cons pe_str pa_nil))) (pa_cons (pe_tup (pa_cons pe_str (pa_cons pe_str pa_nil))) (pa_cons (pe_tup (pa_cons pe_str (pa_cons pe_str pa_nil))) pa_nil))))) pa_nil)) pe_str (nomark _)))))), ?_⟩
  have hlm : (ns.map V.int).length = ns.length := List.length_map _
  refine run_set ?_
  intro x1 d1 hx1 hd1 ne1
  refine ⟨x1, d1, rfl, upd_same, fun H1 M1 => ⟨rfl, ?_⟩⟩
  have S1 := Made.new hx1 hd1 ne1 M1
  intro x2 d2 hx2 hd2 ne2
  refine ⟨x2, d2, rfl, upd_same, fun H2 M2 => ⟨rfl, ?_⟩⟩
  have S2 := S1.trans (Made.new hx2 hd2 ne2 M2)
  intro x3 d3 hx3 hd3 ne3
  refine ⟨x3, d3, .ref x2, rfl, upd_same, fun H3 M3 => ⟨rfl, ?_⟩⟩
  have S3 := S2.trans (Made.new hx3 hd3 ne3 M3)
  intro x4 d4 hx4 hd4 ne4
  refine ⟨x4, d4, .ref x1, .ref x3, rfl, upd_same, fun H4 M4 A4 => ⟨rfl, ?_⟩⟩
  have S4 := S3.trans (Made.new hx4 hd4 ne4 M4)
  clear M1 M2 M3 M4 S1 S2 S3
  refine run_for ?_
  have hS4 := Sm.seq S4 hS
  refine for_rng (i := 2) (n := (max 1 (min 6 ns.length))) (fun _ σ H' => Sm H4 H' ∧ ∃ x2 x3 x4' x5 x6, σ = [some (.ref a), some (.ref x4), x2, x3, x4', x5, x6]) (fun R h => ?_) (by omega) (fun H5 S5 => ⟨S5, _, _, _, _, _, rfl⟩) (fun j σ H5 hj hp => ?_) fun σ H5 hp => ?_
  · refine ⟨_, rfl, a, _, rfl, .inl hS4, 6, _, rfl, 1, _, rfl, ?_⟩
    have e : (if (if ((ns.map V.int).length : Int) < 6 then ((ns.map V.int).length : Int) else 6) > 1 then (if ((ns.map V.int).length : Int) < 6 then ((ns.map V.int).length : Int) else 6) else (1 : Int)) = ((max 1 (min 6 ns.length) : Nat) : Int) := by
      rw [hlm]
      split <;> split at * <;> omega
    rw [e]
    exact h H4 (Sm.refl H4)
  · obtain ⟨S5, y2, y3, y4, y5, y6, rfl⟩ := hp
    have z : ((0 : Int) + (j : Int)) = (j : Int) := by omega
    rw [z]
    refine run_set ⟨_, rfl, _, rfl, a, ns, j, rfl, Sm.seq S5 hS4, fun c => ⟨_, _, rfl, rfl, _, rfl, fun b H6 hb S6 Bg => ?_⟩⟩
    have hb0 : H4 b = none := S5.free hb
    have S46 := S5.trans S6
    refine for_rng (i := 4) (n := 8) (fun t σ H' => Sm H4 H' ∧ Bag H' b (1000 * t) ∧ ∃ x4' x5 x6, σ = [some (.ref a), some (.ref x4), some (.int (j : Int)), some (.ref b), x4', x5, x6]) (fun R h => ?_) (by omega) (fun H7 S7 => ⟨S46.trans S7, ?_, _, _, _, rfl⟩) (fun t σ H7 ht hp => ?_) fun σ H7 hp => ⟨hp.1, ?_⟩
    · exact h H6 (Sm.refl H6)
    · exact ((Go.same S7).bag 0 Bg).mono (by omega)
    · obtain ⟨S7, B7, y4, y5, y6, rfl⟩ := hp
      have A7 := A4.sm S7
      refine run_set ⟨_, rfl, b, _, rfl, B7, by unfold LIM; omega, fun z1 H8 W1 G8 => ⟨((120 : Nat) : Int), rfl, z1, rfl, W1.line (by decide), ?_⟩⟩
      have Wo := WT.cut W1.sg 120
      generalize cutS z1 none (some ((120 : Nat) : Int)) = one at *
      have B8 := G8.bag _ B7
      refine run_set (menuG (n := 8) (c := 100) (A := fun v => ∃ z, v = .str z ∧ WT z 120) (i := 3) (fun R h => ?_) (by rfl) B8 (by unfold LIM; omega) (by decide) (by decide) fun v H9 hv G9 => ?_)
      · refine ⟨_, rfl, _, rfl, b, _, rfl, B8, by unfold LIM; omega, fun z2 H9 W2 G9 => ⟨((3 : Nat) : Int), rfl, z2, rfl, W2.line (by decide), h _ _ rfl (fun v hv => ?_) (G9.mono (by omega))⟩⟩
        have dec : ∀ v ∈ [V.str "a", .str "ab", .str "aa", .str ",", .str "", .str "zz"], ∃ z, v = V.str z ∧ WT z 120 := allWT_ok (by decide +kernel)
        rcases List.mem_cons.mp hv with rfl | hv
        · exact dec _ (by simp)
        rcases List.mem_cons.mp hv with rfl | hv
        · exact dec _ (by simp)
        rcases List.mem_cons.mp hv with rfl | hv
        · exact dec _ (by simp)
        rcases List.mem_cons.mp hv with rfl | hv
        · exact dec _ (by simp)
        rcases List.mem_cons.mp hv with rfl | hv
        · exact ⟨_, rfl, Wo⟩
        rcases List.mem_cons.mp hv with rfl | hv
        · exact dec _ (by simp)
        rcases List.mem_cons.mp hv with rfl | hv
        · exact dec _ (by simp)
        rcases List.mem_cons.mp hv with rfl | hv
        · exact ⟨_, rfl, (WT.cut W2.sg 3).mono (by decide)⟩
        · cases hv
      obtain ⟨other, rfl, Wt⟩ := hv
      have B9 := G9.bag _ B8
      have S9 : Sm H4 H9 := Sm.go (Sm.go S7 G8 hb0) G9 hb0
      have lo := Wo.len
      refine run_no (fun H1 => Sm H9 H1) (fun R hR => ?_) fun H10 S10 => ?_
      · refine run_test (ask_len T (A4.sm S9) (by rfl) (Tells.var (by rfl)) (by omega) fun z H10 S10 ez => ?_)
        have e : z = Str.ofString (toString ((one.length : Nat) : Int)) := by
          refine ext_tl ?_
          have h0 : ¬ ((tl one).length : Int) < 0 := by omega
          rw [ez, tl_int _ (by omega), len_tl]
          unfold numT
          rw [if_neg h0]
        have e2 : (!decide (V.str z = V.str (Str.ofString (toString ((one.length : Nat) : Int))))) = false := by
          rw [← e, decide_eq_true rfl]
          rfl
        have ol := len_tl one
        refine ⟨_, rfl, one, rfl, Wo.line (by decide), _, rfl, log_ok (Nat.lt_of_le_of_lt (show ((one.length : Nat) : Int).natAbs ≤ 120 by omega) (by decide)), rfl, _, rfl, ?_⟩
        rw [e2]
        exact hR _ S10
      have B10 := (Go.same S10).bag _ B9
      refine run_ifset (v0 := .str one) (fun v H1 => (∃ z, v = .str z ∧ WT z 120) ∧ Go b 1 H10 H1) rfl (fun R hR => ?_) fun v H11 hv => ?_
      · refine run_and (run_test (draw_here (i := 3) (by rfl) B10 (by unfold LIM; omega) (by decide) (by decide) fun r H11 r0 r1 G11 => ⟨rfl, _, rfl, ?_⟩))
        refine ite2 (fun c => ?_) (fun c => ?_)
        · refine ⟨_, rfl, one, rfl, Wo.line (by decide), _, _, rfl, rfl, _, rfl, ?_⟩
          refine ite2 (fun c => ?_) (fun c => ?_)
          · exact ⟨_, rfl, ((20 : Nat) : Int), rfl, one, rfl, Wo.line (by decide), hR _ _ ⟨⟨_, rfl, (WT.cut Wo.sg 20).mono (by decide)⟩, G11⟩⟩
          · exact hR _ _ ⟨⟨_, rfl, Wo⟩, G11⟩
        · exact iteF (hR _ _ ⟨⟨_, rfl, Wo⟩, G11⟩)
      obtain ⟨⟨y, rfl, Wy⟩, G11⟩ := hv
      have B11 := G11.bag _ B10
      have S11 : Sm H4 H11 := Sm.go (S9.trans S10) G11 hb0
      have ly := Wy.len
      have yl := len_tl y
      have lt := Wt.len
      refine run_no (fun H1 => Go b 10 H11 H1) (fun R hR => ?_) fun H12 G12 => ?_
      · refine run_and ⟨_, rfl, y, rfl, Wy.line (by decide), _, _, rfl, rfl, _, rfl, ?_⟩
        refine ite2 (fun c => ?_) (fun c => ?_)
        · refine ⟨_, rfl, _, rfl, _, rfl, _, rfl, b, _, 5, rfl, B11, by unfold LIM; omega, by decide, fun z H12 Wz G12 => ?_⟩
          refine ⟨x4, y, other, z, rfl, A4.sm (Sm.go S11 G12 hb0), by omega, by omega, Nat.le_trans Wz.len (by decide), sgn256 Wt.sg, fun H13 S13 => ⟨true, rfl, ?_⟩⟩
          exact hR _ ((G12.trans (Go.same S13)).mono (by omega))
        · exact hR _ ((Go.refl b H11).mono (by omega))
      have B12 := G12.bag _ B11
      have S12 : Sm H4 H12 := Sm.go S11 G12 hb0
      refine run_noE (fun H1 => Go b 20 H12 H1) (fun R hR => ?_) fun H13 G13 => ?_
      · refine ⟨_, rfl, _, rfl, _, rfl, _, rfl, y, rfl, Wy.line (by decide), b, _, y.length, rfl, B12, by unfold LIM; omega, by omega, fun z1 H13 Wz1 G13 => ?_⟩
        refine ⟨_, rfl, _, rfl, y, rfl, Wy.line (by decide), b, _, y.length, rfl, G13.bag _ B12, by unfold LIM; omega, by omega, fun z2 H14 Wz2 G14 => ?_⟩
        refine ⟨x4, y, z1, z2, rfl, A4.sm (Sm.go (Sm.go S12 G13 hb0) G14 hb0), by omega, Nat.le_trans Wz1.len (by decide), Nat.le_trans Wz2.len (by decide), fun H15 S15 => ⟨true, rfl, ?_⟩⟩
        exact hR _ (((G13.trans G14).trans (Go.same S15)).mono (by omega))
      exact ⟨Sm.go S12 G13 hb0, (G13.bag _ B12).mono (by omega), _, _, _, rfl⟩
    · obtain ⟨_, _, y4, y5, y6, rfl⟩ := hp
      exact ⟨_, _, _, _, _, rfl⟩
  · obtain ⟨S5, y2, y3, y4, y5, y6, rfl⟩ := hp
    dsimp only
    refine run_ret (run_op (ask_piece T (a := "aaa") (b := "aa") (c := "2") (A4.sm S5) (by rfl) (fun H6 R S6 q6 => q6 H6 (Sm.refl H6)) (fun H6 R S6 q6 => q6 H6 (Sm.refl H6)) (fun H6 R S6 q6 => q6 H6 (Sm.refl H6)) (by decide +kernel) (by decide +kernel) (by decide +kernel) fun H6 S6 => ?_))
    rw [last_piece]
    exact ⟨rfl, q H6⟩
end
open PyProof.Rows
def names0 : List Str := ["_wall", "__name__", "StemError", "NoRef", "NoWorth", "TooDeep", "NoHead", "NoJob", "Held", "NoDealing", "Erring", "MOST_KEYS", "_LONGEST_KEY", "_LONGEST_NAME", "_FIGURES", "_PERCENT", "is_worth", "number_of", "_number_of_figures", "number_text", "is_number_text", "is_key", "key_rank", "before", "is_name"]
def names1 : List Str := ["is_row", "is_asking_row", "is_pair", "is_reference", "is_asking_reference", "stems_of", "need_reference", "need_asking_reference", "need_worth", "need_job", "_how_many_ahead", "Tree", "Arrays", "long", "_path", "is_true", "truth_text", "_sum_of", "_difference_of", "_product_of", "_quotient_of", "_rest_of", "_number_but_nought", "_is_less", "_is_more"]
def names2 : List Str := ["_is_same", "_joined", "_has_within", "_is_behind", "_are_both", "_is_either", "SIGNS", "told_by", "piece_of", "part_of", "_LONGEST_WORTH", "Scene", "Dealings", "Begun", "_take_back", "_law_cell_at", "_law_bag", "_law_draw", "_law_key", "_law_worth", "_law_number", "_law_piece", "_law_text", "_law_nth", "_law_pieces_right"]
def names3 : List Str := ["_law_part_right"]
def names : List Str := names0 ++ names1 ++ names2 ++ names3
def d1 : He.DefD := ⟨("number_of", none), "number_of", "number_of", defArgs sNumberOf, defBody sNumberOf, defScope sNumberOf, [], []⟩
def d2 : He.DefD := ⟨("_number_of_figures", none), "_number_of_figures", "_number_of_figures", defArgs sNumberOfFigures, defBody sNumberOfFigures, defScope sNumberOfFigures, [], []⟩
def d3 : He.DefD := ⟨("number_text", none), "number_text", "number_text", defArgs sNumberText, defBody sNumberText, defScope sNumberText, [], []⟩
def d4 : He.DefD := ⟨("Tree", some "__init__"), "__init__", "Tree.__init__", defArgs sTreeInit, defBody sTreeInit, defScope sTreeInit, [], []⟩
def d5 : He.DefD := ⟨("Arrays", some "__init__"), "__init__", "Arrays.__init__", defArgs sArraysInit, defBody sArraysInit, defScope sArraysInit, [], []⟩
def d6 : He.DefD := ⟨("piece_of", none), "piece_of", "piece_of", defArgs sPieceOf, defBody sPieceOf, defScope sPieceOf, [], []⟩
def d7 : He.DefD := ⟨("part_of", none), "part_of", "part_of", defArgs sPartOf, defBody sPartOf, defScope sPartOf, [], []⟩
def d8 : He.DefD := ⟨("Scene", some "__init__"), "__init__", "Scene.__init__", defArgs sSceneInit, defBody sSceneInit, defScope sSceneInit, [.int 0], []⟩
def d9 : He.DefD := ⟨("Scene", some "reckon"), "reckon", "Scene.reckon", defArgs sSceneReckon, defBody sSceneReckon, defScope sSceneReckon, [], []⟩
def d10 : He.DefD := ⟨("Scene", some "_worth_of"), "_worth_of", "Scene._worth_of", defArgs sSceneWorthOf, defBody sSceneWorthOf, defScope sSceneWorthOf, [], []⟩
def d11 : He.DefD := ⟨("Scene", some "_number_of"), "_number_of", "Scene._number_of", defArgs sSceneNumberOf, defBody sSceneNumberOf, defScope sSceneNumberOf, [], []⟩
def d12 : He.DefD := ⟨("Scene", some "_is"), "_is", "Scene._is", defArgs sSceneIs, defBody sSceneIs, defScope sSceneIs, [], []⟩
def d13 : He.DefD := ⟨("Scene", some "_node"), "_node", "Scene._node", defArgs sSceneNode, defBody sSceneNode, defScope sSceneNode, [], []⟩
def d14 : He.DefD := ⟨("Scene", some "_op"), "_op", "Scene._op", defArgs sSceneOp, defBody sSceneOp, defScope sSceneOp, [], []⟩
def d15 : He.DefD := ⟨("Scene", some "_not"), "_not", "Scene._not", defArgs sSceneNot, defBody sSceneNot, defScope sSceneNot, [], []⟩
def d16 : He.DefD := ⟨("Scene", some "_minus"), "_minus", "Scene._minus", defArgs sSceneMinus, defBody sSceneMinus, defScope sSceneMinus, [], []⟩
def d17 : He.DefD := ⟨("Scene", some "_length"), "_length", "Scene._length", defArgs sSceneLength, defBody sSceneLength, defScope sSceneLength, [], []⟩
def d18 : He.DefD := ⟨("Scene", some "_piece"), "_piece", "Scene._piece", defArgs sScenePiece, defBody sScenePiece, defScope sScenePiece, [], []⟩
def d19 : He.DefD := ⟨("Scene", some "_part"), "_part", "Scene._part", defArgs sScenePart, defBody sScenePart, defScope sScenePart, [], []⟩
def d20 : He.DefD := ⟨("Scene", some "_next_key"), "_next_key", "Scene._next_key", defArgs sSceneNextKey, defBody sSceneNextKey, defScope sSceneNextKey, [], []⟩
def d21 : He.DefD := ⟨("Scene", some "_data"), "_data", "Scene._data", defArgs sSceneData, defBody sSceneData, defScope sSceneData, [], []⟩
def d22 : He.DefD := ⟨("Scene", some "_other"), "_other", "Scene._other", defArgs sSceneOther, defBody sSceneOther, defScope sSceneOther, [], []⟩
def d23 : He.DefD := ⟨("Dealings", some "__init__"), "__init__", "Dealings.__init__", defArgs sDealingsInit, defBody sDealingsInit, defScope sDealingsInit, [], []⟩
def d24 : He.DefD := ⟨("_law_cell_at", none), "_law_cell_at", "_law_cell_at", defArgs sLawCellAt, defBody sLawCellAt, defScope sLawCellAt, [], []⟩
def d25 : He.DefD := ⟨("_law_bag", none), "_law_bag", "_law_bag", defArgs sLawBag, defBody sLawBag, defScope sLawBag, [], []⟩
def d26 : He.DefD := ⟨("_law_draw", none), "_law_draw", "_law_draw", defArgs sLawDraw, defBody sLawDraw, defScope sLawDraw, [], []⟩
def d27 : He.DefD := ⟨("_law_key", none), "_law_key", "_law_key", defArgs sLawKey, defBody sLawKey, defScope sLawKey, [], []⟩
def d28 : He.DefD := ⟨("_law_worth", none), "_law_worth", "_law_worth", defArgs sLawWorth, defBody sLawWorth, defScope sLawWorth, [], []⟩
def d29 : He.DefD := ⟨("_law_number", none), "_law_number", "_law_number", defArgs sLawNumber, defBody sLawNumber, defScope sLawNumber, [], []⟩
def d30 : He.DefD := ⟨("_law_piece", none), "_law_piece", "_law_piece", defArgs sLawPiece, defBody sLawPiece, defScope sLawPiece, [], []⟩
def d31 : He.DefD := ⟨("_law_text", none), "_law_text", "_law_text", defArgs sLawText, defBody sLawText, defScope sLawText, [], []⟩
def d32 : He.DefD := ⟨("_law_nth", none), "_law_nth", "_law_nth", defArgs sLawNth, defBody sLawNth, defScope sLawNth, [], []⟩
def d33 : He.DefD := ⟨("_law_pieces_right", none), "_law_pieces_right", "_law_pieces_right", defArgs sLawPiecesRight, defBody sLawPiecesRight, defScope sLawPiecesRight, [], []⟩
def d34 : He.DefD := ⟨("_law_part_right", none), "_law_part_right", "_law_part_right", defArgs sLawPartRight, defBody sLawPartRight, defScope sLawPartRight, [], []⟩
def d35 : He.DefD := ⟨("law", none), "law", "law", defArgs sLaw, defBody sLaw, defScope sLaw, [], []⟩
def fnl : List He.DefD := [d1, d2, d3, d4, d5, d6, d7, d8, d9, d10, d11, d12, d13, d14, d15, d16, d17, d18, d19, d20, d21, d22, d23, d24, d25, d26, d27, d28, d29, d30, d31, d32, d33, d34, d35]
def fal : List He.Fa := [.cls "Tree", .noat "Tree" "worth", .noat "Tree" "row", .noat "Tree" "beneath", .cls "Arrays", .noat "Arrays" "_tree", .cls "Dealings", .noat "Dealings" "_arrays", .noat "Dealings" "_begun", .cls "Scene", .noat "Scene" "_own", .noat "Scene" "_dealings", .noat "Scene" "_job", .noat "Scene" "_last", .noat "Scene" "_ways", .glo "number_of", .glo "_number_of_figures", .glo "number_text", .mkr "Tree", .glo "Tree", .mkr "Arrays", .glo "Arrays", .glo "piece_of", .glo "part_of", .mkr "Scene", .glo "Scene", .meth "Scene" "reckon", .meth "Scene" "_worth_of", .meth "Scene" "_number_of", .meth "Scene" "_is", .meth "Scene" "_node", .meth "Scene" "_op", .meth "Scene" "_not", .meth "Scene" "_minus", .meth "Scene" "_length", .meth "Scene" "_piece", .meth "Scene" "_part", .meth "Scene" "_next_key", .meth "Scene" "_data", .meth "Scene" "_other", .mkr "Dealings", .glo "Dealings", .glo "_law_cell_at", .glo "_law_bag", .glo "_law_draw", .glo "_law_key", .glo "_law_worth", .glo "_law_number", .glo "_law_piece", .glo "_law_text", .glo "_law_nth", .glo "_law_pieces_right", .glo "_law_part_right", .glo "law", .free "len", .free "int", .free "range", .free "abs", .free "divmod", .free "str", .free "max", .free "isinstance", .free "sum", .free "min", .str "_FIGURES" "0123456789", .int "_LONGEST_WORTH" 2000]
def tfl : List He.Defn := []
def bound : List (Str × Option Str) := [("Scene", some "_is"), ("Scene", some "_node"), ("Scene", some "_op"), ("Scene", some "_not"), ("Scene", some "_minus"), ("Scene", some "_length"), ("Scene", some "_piece"), ("Scene", some "_part"), ("Scene", some "_next_key"), ("Scene", some "_data"), ("Scene", some "_other")]
def exB (K : PySem.W.Frag) : Bool := (bound.all fun p => He.eqO (PySem.W.specialIn K (.ref (He.fAd K p)) "__get__") (some (some (.builtin "function.__get__"))) && (decide (PySem.W.takesIn K (.ref (He.fAd K p)) = some false) && PySem.W.fnIn K (He.fAd K p))) && decide (bound.map (He.fAd K)).Nodup
theorem saysA_of {as : List Addr} {fa : List He.Fa} {fn : List He.DefD} {tf : List He.Defn} {ex : PySem.W.Frag → Bool} {w : World} {h : Heap} {K : PySem.W.Frag} (eK : K = He.frT h.get? as) (e : (He.obsT fa fn [] K, ex K && He.tabsB h.get? tf K) = He.valX fn [] w) : He.SaysX fa fn [] tf ex w h K := by
  have e2 : (ex K && He.tabsB h.get? tf K) = true := congrArg Prod.snd e
  obtain ⟨g1, g2⟩ := He.ba e2
  have key : ∀ p ∈ tf, PySem.W.codeHdIn K (He.cT K p).1 (He.cT K p).2 = true ∧ ∃ o, h.get? (He.cT K p).2 = some o ∧ He.emptyTab o = true := fun p hp => by
    obtain ⟨q1, q2⟩ := He.ba (List.all_eq_true.mp g2 p hp)
    refine ⟨q1, ?_⟩
    cases q : h.get? (He.cT K p).2 with
    | none => rw [q] at q2; cases q2
    | some o => rw [q] at q2; exact ⟨o, rfl, q2⟩
  refine ⟨congrArg Prod.fst e, g1, fun p hp => (key p hp).1, fun p hp => ?_, fun p hp => ?_⟩
  · obtain ⟨_, o, q, z⟩ := key p hp
    have nn := He.frT_none (as := as) q z
    rw [← eK] at nn
    exact nn
  · obtain ⟨_, o, q, z⟩ := key p hp
    rw [q, He.emptyTab_eq z]
def obsA (as : List Addr) (fa : List He.Fa) (fn : List He.DefD) (tf : List He.Defn) (ex : PySem.W.Frag → Bool) (g : Addr → Option Obj) : He.AlX := (He.obsT fa fn [] (He.frT g as), ex (He.frT g as) && He.tabsB g tf (He.frT g as))
def hookA (as : List Addr) (fa : List He.Fa) (fn : List He.DefD) (tf : List He.Defn) (ex : PySem.W.Frag → Bool) : PySem.W.Hook :=
  { α := He.AlX, obs := fun s => obsA as fa fn tf ex s.heap.get?, val := fun w => He.valX fn [] w, says := fun w h => ∃ K : PySem.W.Frag, K.In h ∧ He.SaysX fa fn [] tf ex w h K
    of := fun _ _ e => ⟨_, He.frT_in, saysA_of rfl e⟩
    keeps := fun _ _ _ x k => (match x with | ⟨K, hK, c⟩ => ⟨K, PySem.W.Frag.In.keeps hK k, c.t, c.more, c.hd, c.out, fun p hp => k _ _ (c.empty p hp)⟩) }
theorem obsA_eq {as : List Addr} {fa : List He.Fa} {fn : List He.DefD} {tf : List He.Defn} {ex : PySem.W.Frag → Bool} {g : Addr → Option Obj} {s : Shared} (h : ∀ a, g a = s.heap.get? a) : obsA as fa fn tf ex g = (hookA as fa fn tf ex).obs s := by
  rw [show g = s.heap.get? from funext h] <;> rfl
theorem more_of {K : PySem.W.Frag} (m : exB K = true) (p : Str × Option Str) (h : p ∈ bound) : PySem.W.specialIn K (.ref (He.fAd K p)) "__get__" = some (some (.builtin "function.__get__")) ∧ PySem.W.takesIn K (.ref (He.fAd K p)) = some false ∧ PySem.W.fnIn K (He.fAd K p) = true := by
  have h1 := List.all_eq_true.mp (Bool.and_eq_true_iff.mp m).1 p h
  obtain ⟨a, b⟩ := Bool.and_eq_true_iff.mp h1
  obtain ⟨b, c⟩ := Bool.and_eq_true_iff.mp b
  exact ⟨He.eqO_ok a, of_decide_eq_true b, c⟩
theorem nd_of {K : PySem.W.Frag} (m : exB K = true) : (bound.map (He.fAd K)).Nodup := of_decide_eq_true (Bool.and_eq_true_iff.mp m).2
theorem bm_of {K : PySem.W.Frag} {C f : Addr} {m : Str} (M : Meth K C m f) (cp : PySem.W.copiedNames.contains m = false) (h : PySem.W.specialIn K (.ref f) "__get__" = some (some (.builtin "function.__get__")) ∧ PySem.W.takesIn K (.ref f) = some false ∧ PySem.W.fnIn K f = true) : BMeth K C m f := ⟨M, h.1, h.2.1, cp, h.2.2⟩
theorem fun_of {K : PySem.W.Frag} {x q : Str} {st : Stmt} {f : Addr} {fd : FuncData} (F : FunD K x q (defArgs st) (defBody st) (defScope st) [] [] f fd) : Fun K x q st f fd := by
  obtain ⟨⟨oc, od, dV, kV, doc, pm, an, cdv, ct, osl, e, lk, hc, hD, _⟩, kp⟩ := F
  rcases hD with ⟨_, rfl⟩ | ⟨h, _⟩
  · exact ⟨⟨oc, od, kV, doc, pm, an, cdv, ct, osl, e, lk, hc⟩, kp⟩
  · exact absurd rfl h
theorem gi {mg : Str → Option Value} {x : Str} {i : Int} (h : ∃ t, mg x = some (.int i t)) : ∃ u, mg x = some u ∧ RelV (.int i) u := by
  obtain ⟨t, e⟩ := h
  exact ⟨_, e, t, rfl⟩
theorem gs {mg : Str → Option Value} {x z : Str} (h : ∃ t, mg x = some (.str z t)) : ∃ u, mg x = some u ∧ RelV (.str z) u := by
  obtain ⟨t, e⟩ := h
  exact ⟨_, e, t, rfl⟩

def adr : List Addr := [3, 158, 165, 172, 383, 498, 643, 650, 807, 928, 979, 986, 993, 998, 1005, 1012, 1019, 1024, 1031, 1036, 1041, 1048, 157, 164, 171, 382, 497, 642, 649, 806, 927, 978, 985, 992, 997, 1004, 1011, 1018, 1023, 1030, 1035, 1040, 1047, 296, 401, 665, 672, 701, 708, 734, 741, 748, 755, 762, 769, 776, 783, 790, 797, 804, 825, 295, 400, 664, 658, 671, 700, 707, 733, 740, 747, 754, 761, 768, 775, 782, 789, 796, 803, 824]
abbrev R : PySem.W.OpenRow := PySem.W.OpenLaw.row PySem.Challenge.rw_stemkeep_k34_pieces_and_parts
abbrev hk : PySem.W.Hook := hookA adr fal fnl tfl exB
def ob (s : PySem.W.SharedT) : He.AlX := obsA adr fal fnl tfl exB (HandSHeadRun.getT s)
theorem ob_eq (s : PySem.W.SharedT) : ob s = hk.obs s.abs := obsA_eq (HandSHeadRun.getT_eq s)
theorem run_false (w : World) : HandSHeadRun.RunEq R (PySem.W.view R.prog [84]) hk ob 20000 names (w.withFollow "special-get-raises" false) := by
  intro os
  kernel_rfl
theorem run_true (w : World) : HandSHeadRun.RunEq R (PySem.W.view R.prog [84]) hk ob 20000 names (w.withFollow "special-get-raises" true) := by
  intro os
  kernel_rfl
theorem run (w : World) : HandSHeadRun.RunEq R (PySem.W.view R.prog [84]) hk ob 20000 names w := PySem.W.byRow2 (P := fun w => HandSHeadRun.RunEq R (PySem.W.view R.prog [84]) hk ob 20000 names w) "special-get-raises" run_false run_true w
set_option maxHeartbeats 0 in
theorem facts {w1 : World} {K : PySem.W.Frag} {h : Heap} {mg : Str → Option Value} {f : Addr} (X : K.In h) (G : h.Ns mainGlobals mg) (hfa : mg ("law" : Str) = some (.ref f)) (s : He.SaysX fal fnl [] tfl exB w1 h K) (w : World) :
    LamX.LawAtS PySem.Challenge.rw_stemkeep_k34_pieces_and_parts w K CX0 8 63 "script" mg f h := by
  have c : He.SaysD fal fnl K := s.t.d
  have m := s.more
  obtain ⟨fd1, D1⟩ := c.def_ 0 (d := d1) rfl
  have F1 := fun_of (st := sNumberOf) D1
  have b1 := F1.binds (ps := ["worth"]) fun _ _ _ _ _ _ us hl => match us, hl with | [_], _ => rfl
  obtain ⟨fd2, D2⟩ := c.def_ 1 (d := d2) rfl
  have F2 := fun_of (st := sNumberOfFigures) D2
  have b2 := F2.binds (ps := ["figures"]) fun _ _ _ _ _ _ us hl => match us, hl with | [_], _ => rfl
  obtain ⟨fd3, D3⟩ := c.def_ 2 (d := d3) rfl
  have F3 := fun_of (st := sNumberText) D3
  have b3 := F3.binds (ps := ["number"]) fun _ _ _ _ _ _ us hl => match us, hl with | [_], _ => rfl
  obtain ⟨fd4, D4⟩ := c.def_ 3 (d := d4) rfl
  have F4 := fun_of (st := sTreeInit) D4
  have b4 := F4.binds (ps := ["self"]) fun _ _ _ _ _ _ us hl => match us, hl with | [_], _ => rfl
  obtain ⟨fd5, D5⟩ := c.def_ 4 (d := d5) rfl
  have F5 := fun_of (st := sArraysInit) D5
  have b5 := F5.binds (ps := ["self"]) fun _ _ _ _ _ _ us hl => match us, hl with | [_], _ => rfl
  obtain ⟨fd6, D6⟩ := c.def_ 5 (d := d6) rfl
  have F6 := fun_of (st := sPieceOf) D6
  have b6 := F6.binds (ps := ["one", "other", "nth"]) fun _ _ _ _ _ _ us hl => match us, hl with | [_, _, _], _ => rfl
  obtain ⟨fd7, D7⟩ := c.def_ 6 (d := d7) rfl
  have F7 := fun_of (st := sPartOf) D7
  have b7 := F7.binds (ps := ["one", "first", "last"]) fun _ _ _ _ _ _ us hl => match us, hl with | [_, _, _], _ => rfl
  obtain ⟨fd8, D8⟩ := c.def_ 7 (d := d8) rfl
  obtain ⟨ds8, v8, b8⟩ := FunD.binds1 (ps := ["self", "own", "dealings", "job"]) D8 3 0 (by simp [He.DefD.dvs, d8]) rfl fun _ _ _ _ _ _ _ us its h1 h2 => match us, h1, its, h2 with | [_, _, _], _, [_], _ => ⟨_, rfl, rfl⟩
  obtain ⟨fd9, D9⟩ := c.def_ 8 (d := d9) rfl
  have F9 := fun_of (st := sSceneReckon) D9
  have b9 := F9.binds (ps := ["self", "expression"]) fun _ _ _ _ _ _ us hl => match us, hl with | [_, _], _ => rfl
  obtain ⟨fd10, D10⟩ := c.def_ 9 (d := d10) rfl
  have F10 := fun_of (st := sSceneWorthOf) D10
  have b10 := F10.binds (ps := ["self", "expression"]) fun _ _ _ _ _ _ us hl => match us, hl with | [_, _], _ => rfl
  obtain ⟨fd11, D11⟩ := c.def_ 10 (d := d11) rfl
  have F11 := fun_of (st := sSceneNumberOf) D11
  have b11 := F11.binds (ps := ["self", "expression"]) fun _ _ _ _ _ _ us hl => match us, hl with | [_, _], _ => rfl
  obtain ⟨fd12, D12⟩ := c.def_ 11 (d := d12) rfl
  have F12 := fun_of (st := sSceneIs) D12
  have b12 := F12.binds (ps := ["self", "expression"]) fun _ _ _ _ _ _ us hl => match us, hl with | [_, _], _ => rfl
  obtain ⟨fd13, D13⟩ := c.def_ 12 (d := d13) rfl
  have F13 := fun_of (st := sSceneNode) D13
  have b13 := F13.binds (ps := ["self", "expression"]) fun _ _ _ _ _ _ us hl => match us, hl with | [_, _], _ => rfl
  obtain ⟨fd14, D14⟩ := c.def_ 13 (d := d14) rfl
  have F14 := fun_of (st := sSceneOp) D14
  have b14 := F14.binds (ps := ["self", "expression"]) fun _ _ _ _ _ _ us hl => match us, hl with | [_, _], _ => rfl
  obtain ⟨fd15, D15⟩ := c.def_ 14 (d := d15) rfl
  have F15 := fun_of (st := sSceneNot) D15
  have b15 := F15.binds (ps := ["self", "expression"]) fun _ _ _ _ _ _ us hl => match us, hl with | [_, _], _ => rfl
  obtain ⟨fd16, D16⟩ := c.def_ 15 (d := d16) rfl
  have F16 := fun_of (st := sSceneMinus) D16
  have b16 := F16.binds (ps := ["self", "expression"]) fun _ _ _ _ _ _ us hl => match us, hl with | [_, _], _ => rfl
  obtain ⟨fd17, D17⟩ := c.def_ 16 (d := d17) rfl
  have F17 := fun_of (st := sSceneLength) D17
  have b17 := F17.binds (ps := ["self", "expression"]) fun _ _ _ _ _ _ us hl => match us, hl with | [_, _], _ => rfl
  obtain ⟨fd18, D18⟩ := c.def_ 17 (d := d18) rfl
  have F18 := fun_of (st := sScenePiece) D18
  have b18 := F18.binds (ps := ["self", "expression"]) fun _ _ _ _ _ _ us hl => match us, hl with | [_, _], _ => rfl
  obtain ⟨fd19, D19⟩ := c.def_ 18 (d := d19) rfl
  have F19 := fun_of (st := sScenePart) D19
  have b19 := F19.binds (ps := ["self", "expression"]) fun _ _ _ _ _ _ us hl => match us, hl with | [_, _], _ => rfl
  obtain ⟨fd20, D20⟩ := c.def_ 19 (d := d20) rfl
  have F20 := fun_of (st := sSceneNextKey) D20
  have b20 := F20.binds (ps := ["self", "expression"]) fun _ _ _ _ _ _ us hl => match us, hl with | [_, _], _ => rfl
  obtain ⟨fd21, D21⟩ := c.def_ 20 (d := d21) rfl
  have F21 := fun_of (st := sSceneData) D21
  have b21 := F21.binds (ps := ["self", "expression"]) fun _ _ _ _ _ _ us hl => match us, hl with | [_, _], _ => rfl
  obtain ⟨fd22, D22⟩ := c.def_ 21 (d := d22) rfl
  have F22 := fun_of (st := sSceneOther) D22
  have b22 := F22.binds (ps := ["self", "expression"]) fun _ _ _ _ _ _ us hl => match us, hl with | [_, _], _ => rfl
  obtain ⟨fd23, D23⟩ := c.def_ 22 (d := d23) rfl
  have F23 := fun_of (st := sDealingsInit) D23
  have b23 := F23.binds (ps := ["self", "arrays"]) fun _ _ _ _ _ _ us hl => match us, hl with | [_, _], _ => rfl
  obtain ⟨fd24, D24⟩ := c.def_ 23 (d := d24) rfl
  have F24 := fun_of (st := sLawCellAt) D24
  have b24 := F24.binds (ps := ["script", "k"]) fun _ _ _ _ _ _ us hl => match us, hl with | [_, _], _ => rfl
  obtain ⟨fd25, D25⟩ := c.def_ 24 (d := d25) rfl
  have F25 := fun_of (st := sLawBag) D25
  have b25 := F25.binds (ps := ["cell"]) fun _ _ _ _ _ _ us hl => match us, hl with | [_], _ => rfl
  obtain ⟨fd26, D26⟩ := c.def_ 25 (d := d26) rfl
  have F26 := fun_of (st := sLawDraw) D26
  have b26 := F26.binds (ps := ["bag", "many"]) fun _ _ _ _ _ _ us hl => match us, hl with | [_, _], _ => rfl
  obtain ⟨fd27, D27⟩ := c.def_ 26 (d := d27) rfl
  have F27 := fun_of (st := sLawKey) D27
  have b27 := F27.binds (ps := ["bag"]) fun _ _ _ _ _ _ us hl => match us, hl with | [_], _ => rfl
  obtain ⟨fd28, D28⟩ := c.def_ 27 (d := d28) rfl
  have F28 := fun_of (st := sLawWorth) D28
  have b28 := F28.binds (ps := ["bag"]) fun _ _ _ _ _ _ us hl => match us, hl with | [_], _ => rfl
  obtain ⟨fd29, D29⟩ := c.def_ 28 (d := d29) rfl
  have F29 := fun_of (st := sLawNumber) D29
  have b29 := F29.binds (ps := ["worth"]) fun _ _ _ _ _ _ us hl => match us, hl with | [_], _ => rfl
  obtain ⟨fd30, D30⟩ := c.def_ 29 (d := d30) rfl
  have F30 := fun_of (st := sLawPiece) D30
  have b30 := F30.binds (ps := ["one", "other", "nth"]) fun _ _ _ _ _ _ us hl => match us, hl with | [_, _, _], _ => rfl
  obtain ⟨fd31, D31⟩ := c.def_ 30 (d := d31) rfl
  have F31 := fun_of (st := sLawText) D31
  have b31 := F31.binds (ps := ["bag"]) fun _ _ _ _ _ _ us hl => match us, hl with | [_], _ => rfl
  obtain ⟨fd32, D32⟩ := c.def_ 31 (d := d32) rfl
  have F32 := fun_of (st := sLawNth) D32
  have b32 := F32.binds (ps := ["bag", "most"]) fun _ _ _ _ _ _ us hl => match us, hl with | [_, _], _ => rfl
  obtain ⟨fd33, D33⟩ := c.def_ 32 (d := d33) rfl
  have F33 := fun_of (st := sLawPiecesRight) D33
  have b33 := F33.binds (ps := ["scene", "one", "other", "nth"]) fun _ _ _ _ _ _ us hl => match us, hl with | [_, _, _, _], _ => rfl
  obtain ⟨fd34, D34⟩ := c.def_ 33 (d := d34) rfl
  have F34 := fun_of (st := sLawPartRight) D34
  have b34 := F34.binds (ps := ["scene", "one", "first", "last"]) fun _ _ _ _ _ _ us hl => match us, hl with | [_, _, _, _], _ => rfl
  obtain ⟨fd35, D35⟩ := c.def_ 34 (d := d35) rfl
  have F35 := fun_of (st := sLaw) D35
  have b35 := F35.binds (ps := ["script"]) fun _ _ _ _ _ _ us hl => match us, hl with | [_], _ => rfl
  have e := hfa.symm.trans (He.glo_ok X G (c.fact 53 (f := .glo "law") rfl))
  cases e
  let cs : Tabs := ⟨He.ga K "Tree", He.ga K "Arrays", He.ga K "Dealings", He.ga K "Scene", He.ma K (He.ga K "Scene") "_is", He.ma K (He.ga K "Scene") "_node", He.ma K (He.ga K "Scene") "_op", He.ma K (He.ga K "Scene") "_not", He.ma K (He.ga K "Scene") "_minus", He.ma K (He.ga K "Scene") "_length", He.ma K (He.ga K "Scene") "_piece", He.ma K (He.ga K "Scene") "_part", He.ma K (He.ga K "Scene") "_next_key", He.ma K (He.ga K "Scene") "_data", He.ma K (He.ga K "Scene") "_other"⟩
  have T : Txt K mg cs := ⟨He.cls_ok (c.fact 0 (f := .cls "Tree") rfl), He.noat_ok (c.fact 1 (f := .noat "Tree" "worth") rfl), He.noat_ok (c.fact 2 (f := .noat "Tree" "row") rfl), He.noat_ok (c.fact 3 (f := .noat "Tree" "beneath") rfl), He.cls_ok (c.fact 4 (f := .cls "Arrays") rfl), He.noat_ok (c.fact 5 (f := .noat "Arrays" "_tree") rfl), He.cls_ok (c.fact 6 (f := .cls "Dealings") rfl), He.noat_ok (c.fact 7 (f := .noat "Dealings" "_arrays") rfl), He.noat_ok (c.fact 8 (f := .noat "Dealings" "_begun") rfl), He.cls_ok (c.fact 9 (f := .cls "Scene") rfl), He.noat_ok (c.fact 10 (f := .noat "Scene" "_own") rfl), He.noat_ok (c.fact 11 (f := .noat "Scene" "_dealings") rfl), He.noat_ok (c.fact 12 (f := .noat "Scene" "_job") rfl), He.noat_ok (c.fact 13 (f := .noat "Scene" "_last") rfl), He.noat_ok (c.fact 14 (f := .noat "Scene" "_ways") rfl), ⟨_, _, F1, He.glo_ok X G (c.fact 15 (f := .glo "number_of") rfl), b1⟩, ⟨_, _, F2, He.glo_ok X G (c.fact 16 (f := .glo "_number_of_figures") rfl), b2⟩, ⟨_, _, F3, He.glo_ok X G (c.fact 17 (f := .glo "number_text") rfl), b3⟩, ⟨_, _, [], D4, He.mkr_ok (c.fact 18 (f := .mkr "Tree") rfl), b4, .nil, He.glo_ok X G (c.fact 19 (f := .glo "Tree") rfl)⟩, ⟨_, _, [], D5, He.mkr_ok (c.fact 20 (f := .mkr "Arrays") rfl), b5, .nil, He.glo_ok X G (c.fact 21 (f := .glo "Arrays") rfl)⟩, ⟨_, _, F6, He.glo_ok X G (c.fact 22 (f := .glo "piece_of") rfl), b6⟩, ⟨_, _, F7, He.glo_ok X G (c.fact 23 (f := .glo "part_of") rfl), b7⟩, ⟨_, _, ds8, D8, He.mkr_ok (c.fact 24 (f := .mkr "Scene") rfl), b8, v8, He.glo_ok X G (c.fact 25 (f := .glo "Scene") rfl)⟩, ⟨_, _, F9, He.meth_ok (c.fact 26 (f := .meth "Scene" "reckon") rfl), b9⟩, ⟨_, _, F10, He.meth_ok (c.fact 27 (f := .meth "Scene" "_worth_of") rfl), b10⟩, ⟨_, _, F11, He.meth_ok (c.fact 28 (f := .meth "Scene" "_number_of") rfl), b11⟩, ⟨_, F12, bm_of (He.meth_ok (c.fact 29 (f := .meth "Scene" "_is") rfl)) (by decide +kernel) (more_of m ("Scene", some "_is") (by simp [bound])), b12⟩, ⟨_, F13, bm_of (He.meth_ok (c.fact 30 (f := .meth "Scene" "_node") rfl)) (by decide +kernel) (more_of m ("Scene", some "_node") (by simp [bound])), b13⟩, ⟨_, F14, bm_of (He.meth_ok (c.fact 31 (f := .meth "Scene" "_op") rfl)) (by decide +kernel) (more_of m ("Scene", some "_op") (by simp [bound])), b14⟩, ⟨_, F15, bm_of (He.meth_ok (c.fact 32 (f := .meth "Scene" "_not") rfl)) (by decide +kernel) (more_of m ("Scene", some "_not") (by simp [bound])), b15⟩, ⟨_, F16, bm_of (He.meth_ok (c.fact 33 (f := .meth "Scene" "_minus") rfl)) (by decide +kernel) (more_of m ("Scene", some "_minus") (by simp [bound])), b16⟩, ⟨_, F17, bm_of (He.meth_ok (c.fact 34 (f := .meth "Scene" "_length") rfl)) (by decide +kernel) (more_of m ("Scene", some "_length") (by simp [bound])), b17⟩, ⟨_, F18, bm_of (He.meth_ok (c.fact 35 (f := .meth "Scene" "_piece") rfl)) (by decide +kernel) (more_of m ("Scene", some "_piece") (by simp [bound])), b18⟩, ⟨_, F19, bm_of (He.meth_ok (c.fact 36 (f := .meth "Scene" "_part") rfl)) (by decide +kernel) (more_of m ("Scene", some "_part") (by simp [bound])), b19⟩, ⟨_, F20, bm_of (He.meth_ok (c.fact 37 (f := .meth "Scene" "_next_key") rfl)) (by decide +kernel) (more_of m ("Scene", some "_next_key") (by simp [bound])), b20⟩, ⟨_, F21, bm_of (He.meth_ok (c.fact 38 (f := .meth "Scene" "_data") rfl)) (by decide +kernel) (more_of m ("Scene", some "_data") (by simp [bound])), b21⟩, ⟨_, F22, bm_of (He.meth_ok (c.fact 39 (f := .meth "Scene" "_other") rfl)) (by decide +kernel) (more_of m ("Scene", some "_other") (by simp [bound])), b22⟩, ⟨_, _, [], D23, He.mkr_ok (c.fact 40 (f := .mkr "Dealings") rfl), b23, .nil, He.glo_ok X G (c.fact 41 (f := .glo "Dealings") rfl)⟩, ⟨_, _, F24, He.glo_ok X G (c.fact 42 (f := .glo "_law_cell_at") rfl), b24⟩, ⟨_, _, F25, He.glo_ok X G (c.fact 43 (f := .glo "_law_bag") rfl), b25⟩, ⟨_, _, F26, He.glo_ok X G (c.fact 44 (f := .glo "_law_draw") rfl), b26⟩, ⟨_, _, F27, He.glo_ok X G (c.fact 45 (f := .glo "_law_key") rfl), b27⟩, ⟨_, _, F28, He.glo_ok X G (c.fact 46 (f := .glo "_law_worth") rfl), b28⟩, ⟨_, _, F29, He.glo_ok X G (c.fact 47 (f := .glo "_law_number") rfl), b29⟩, ⟨_, _, F30, He.glo_ok X G (c.fact 48 (f := .glo "_law_piece") rfl), b30⟩, ⟨_, _, F31, He.glo_ok X G (c.fact 49 (f := .glo "_law_text") rfl), b31⟩, ⟨_, _, F32, He.glo_ok X G (c.fact 50 (f := .glo "_law_nth") rfl), b32⟩, ⟨_, _, F33, He.glo_ok X G (c.fact 51 (f := .glo "_law_pieces_right") rfl), b33⟩, ⟨_, _, F34, He.glo_ok X G (c.fact 52 (f := .glo "_law_part_right") rfl), b34⟩, ⟨_, _, F35, He.glo_ok X G (c.fact 53 (f := .glo "law") rfl), b35⟩, nd_of m, He.free_ok X G (c.fact 54 (f := .free "len") rfl), He.free_ok X G (c.fact 55 (f := .free "int") rfl), He.free_ok X G (c.fact 56 (f := .free "range") rfl), He.free_ok X G (c.fact 57 (f := .free "abs") rfl), He.free_ok X G (c.fact 58 (f := .free "divmod") rfl), He.free_ok X G (c.fact 59 (f := .free "str") rfl), He.free_ok X G (c.fact 60 (f := .free "max") rfl), He.free_ok X G (c.fact 61 (f := .free "isinstance") rfl), He.free_ok X G (c.fact 62 (f := .free "sum") rfl), He.free_ok X G (c.fact 63 (f := .free "min") rfl), gs (He.str_ok X G (c.fact 64 (f := .str "_FIGURES" "0123456789") rfl)), gi (He.int_ok X G (c.fact 65 (f := .int "_LONGEST_WORTH" 2000) rfl))⟩
  have bl := FunD.bindsA (ps := ["script"]) D35 fun _ _ _ _ _ _ us hl => match us, hl with | [_], _ => rfl
  refine ⟨fd35, tfl.map (He.cT K), spLaw K cs, ?_, ?_, ?_, fun s v => bl s [v] rfl, fun H a ns hl hb hT hS => ⟨a, ns, rfl, hS, hl, ?_, fun _ => rfl⟩, fun base _ _ hB => ?_⟩
  · intro p hp
    obtain ⟨q, hq, rfl⟩ := List.mem_map.mp hp
    exact s.empty q hq
  · intro p hp
    obtain ⟨q, hq, rfl⟩ := List.mem_map.mp hp
    exact s.out q hq
  · intro p hp
    obtain ⟨q, hq, rfl⟩ := List.mem_map.mp hp
    exact PySem.W.codeHd_of_K X (s.hd q hq)
  · exact ⟨trivial⟩
  · exact ok_law T ⟨trivial⟩ F35
end My
open PySem PySem.W PySem.Calls PyProof.Rows
set_option maxRecDepth 100000 in
set_option maxHeartbeats 0 in
theorem PySem.Challenge.cw_stemkeep_k34_pieces_and_parts_holds : PySem.Challenge.rw_stemkeep_k34_pieces_and_parts.Holds := by
  w_on; o_law
  refine HandSHeadRun.head_any (r := OpenLaw.row PySem.Challenge.rw_stemkeep_k34_pieces_and_parts) (q := view (OpenLaw.row PySem.Challenge.rw_stemkeep_k34_pieces_and_parts).prog [84]) (H := My.hk) (ob := My.ob) (M := 20000) (loose := My.names) (d := HandSHeadRun.topDef (OpenLaw.row PySem.Challenge.rw_stemkeep_k34_pieces_and_parts).prog 84) (kwd := []) My.ob_eq
    (by kernel_rfl) (fun s => by kernel_rfl) My.run (by kernel_rfl) (by kernel_rfl) (by kernel_rfl) (by rfl) (by first | assumption | decide +kernel) (by decide +kernel) ⟨rfl, rfl, rfl, rfl, rfl, by decide +kernel⟩ ?hw ?hc
  case hw => w_witness2
  case hc =>
    refine LamX.walk_ofTsE (l := PySem.Challenge.rw_stemkeep_k34_pieces_and_parts) (n := 63) (k := 8) (x := "script") (CX := fun _ => L2.CX0) rfl (by decide) (by kernel_rfl) ⟨rfl, by decide, by decide⟩ ?F (fun _ _ _ _ _ z => z)
    intro w mg fa h Y G hmg0
    obtain ⟨K, KX, c⟩ := Y
    have hmg : mg ("law" : PySem.Str) = some (.ref fa) := by
      have e : (HandSHeadRun.topDef (OpenLaw.row PySem.Challenge.rw_stemkeep_k34_pieces_and_parts).prog 84).name = ("law" : PySem.Str) := by kernel_rfl
      rw [← e]
      exact hmg0
    exact ⟨K, KX, My.facts KX G hmg c w⟩
#print axioms PySem.Challenge.cw_stemkeep_k34_pieces_and_parts_holds
