import PyProof.Rows.All
import Wide.All
import OpenK.AllK
import Wide.FinOn
import HandS.ForMost
import HandS.Wide
import HandS.TupAny
import HandS.EndBits
import HandS.IsInst
import HandS.AnyAll
import HandS.EndTab
import HandS.Style
import HandS.StrMore
import HandS.WideBits
import HandS.Codes
import HandS.GenOver
import HandS.GenList
import HandS.EndOwn
import HandS.TupMul
import HandS.TupLe
import KE.SortKeyHeap
import HandS.SortKw
import HandS.More
import HandS.Defaults
import HandS.MakeKw
import HandS.MakeKwOnly
import HandS.Exc
import KE.KeyNested
import HandS.Walk
import HandS.Strs
import HandS.SetFor
import HandS.Replace
import HandS.Lambda
import HandS.Conv
import KE.DataCmp
import HandS.NoneIn
import HandS.ExcIs
import HandS.ExcCtx
import HandS.Hot
import HandS.HotCalls
import KE.KExcHand
import HandS.Head0
import HandS.Head1
import HandS.Head2
import HandS.HeadEnd
import HandS.HeadHook1
import HandS.HeadHook2
import HandS.HeadHook3
import HandS.HeadHook4
import HandS.HeadWalk
import PySem.Challenge.RW_stemkeep_k15_short_refused
set_option Elab.async false
set_option linter.all false
set_option maxRecDepth 100000
namespace My
def lams : List (PySem.Pos × PySem.Str) := []
/-! ### what every law of these keys leans on: defs by name, powers, the bag, heaps that grow -/
open PySem PySem.Spec L2 TL
/-- a def of the text as its top leaves it -/
structure Ftx (K : PySem.W.Frag) (mg : Str → Option Value) (x : Str) (st : Stmt) (ps : List Str) : Prop where
  ex : ∃ (f : Addr) (fd : FuncData), Fun K x x st f fd ∧ mg x = some (.ref f) ∧ Binds K fd ps []
/-- a def that keeps a promise, called by its name -/
structure Cal (P : Program) (w : World) (K : PySem.W.Frag) (mg : Str → Option Value) (base : Heap) (k : Nat) (x : Str) (ps : List Str) (sp : Sp) : Prop where
  ex : ∃ (f : Addr) (fd : FuncData), FnOk P w K mg base CX0 k f fd ps sp ∧ PySem.W.keepIn K (.ref f) = true ∧ mg x = some (.ref f) ∧ Binds K fd ps [] ∧ ∃ (oc : Value) (od : Option Addr) (osl : Array (Option Value)), K.lookup f = some ⟨oc, od, .func fd, osl⟩
section
variable {P : Program} {w : World} {K : PySem.W.Frag} {mg : Str → Option Value} {base : Heap}
theorem Ftx.cal {x : Str} {st : Stmt} {N ps : List Str} {sp : Sp} {k : Nat} (F : Ftx K mg x st ps) (S : FnScope N ps (defScope st)) (len : ∀ vs H Q E, sp vs H Q E → vs.length = ps.length)
    (h : ∀ (f : Addr) (cdv : Value) (A : Around) (outer : List Env) (s : Shared) (H : Hp) (vs : List V) (Q : VK) (E : XK), Room k (A.deeper (PyProof.Rows.envOfC x (defScope st) s.heap.objs.size f cdv)) → sp vs H Q E →
      ∃ t, PSs (cxOf CX0 P w K mg base N x (defScope st) f cdv A outer s H E).nox (defBody st) t ∧ t { nx := fun _ H' => Q .non H', rt := Q } (start N vs) H) : Cal P w K mg base (k + 1) x ps sp := by
  obtain ⟨f, fd, F1, g, b⟩ := F.ex
  have F2 := F1.ok S len (h f)
  obtain ⟨oc, od, kV, doc, pm, an, cdv, ct, osl, e, lk, hcd⟩ := F1.ex
  exact ⟨f, fd, F2, F1.kp, g, b, oc, od, osl, lk⟩
theorem Cal.mono {j k : Nat} {x : Str} {ps : List Str} {sp : Sp} (C : Cal P w K mg base j x ps sp) (h : j ≤ k) : Cal P w K mg base k x ps sp := by
  obtain ⟨f, fd, F, a, b, c⟩ := C.ex
  exact ⟨f, fd, F.mono h, a, b, c⟩
end
section
variable {X : Cx}
theorem pe_cal {k : Nat} {x : Str} {ps : List Str} {sp : Sp} {e : Expr} {es : List Expr} {p pos : Pos} {t : TA} (C : Cal X.prog X.w X.K X.mg X.base k x ps sp) (hr : Room k X.A) (ha : PA X (e :: es) t) (hg : Gl X x := by rfl)
    (hdb : (x == ("__debug__" : Str)) = false := by decide) (he : starEach (e :: es) X.env = (false, eval e X.env) :: starEach es X.env := by rfl) (hpl : (backTo pos (starEach es X.env)).any (·.1) = false := by rfl) :
    PE X (.Call (.Name x p) (e :: es) [] pos) (tCall sp [] E0 t) := by
  obtain ⟨f, fd, F, a, b, c, _⟩ := C.ex
  exact pe_call F hr hg b a c .nil pass0 ha hdb he hpl
theorem pe_cal0 {k : Nat} {x : Str} {ps : List Str} {sp : Sp} {p pos : Pos} (C : Cal X.prog X.w X.K X.mg X.base k x ps sp) (hr : Room k X.A) (hg : Gl X x := by rfl)
    (hdb : (x == ("__debug__" : Str)) = false := by decide) : PE X (.Call (.Name x p) [] [] pos) (tCall sp [] E0 tNil) := by
  obtain ⟨f, fd, F, a, b, c, _⟩ := C.ex
  exact pe_call0 F hr hg b a c .nil pass0 hdb
/-- ** of an exponent up to 64 and a base below 2 ^ 10000 -/
def CPowW (i j : Int) : Prop := 0 ≤ j ∧ j ≤ 64 ∧ i.natAbs.log2 < 10000
theorem op_powW : OpR X (binaryOp .Pow) (rI CPowW fun i j => .int (i ^ j.toNat)) := opI fun i j _ _ _ _ _ hc q => by
  obtain ⟨h1, h2, h3⟩ := hc
  refine PyProof.Rows.pow_int h1 ?_ q
  have b : Builtin.Int.intBits i ≤ i.natAbs.log2 + 1 := by
    unfold Builtin.Int.intBits
    split <;> omega
  have h : (Builtin.Int.intBits i : Int) * j ≤ 10000 * j := Int.mul_le_mul_of_nonneg_right (by omega) h1
  omega
/-- a text some times -/
def rRepS : R2 := fun x y H Q => ∃ z i, x = .str z ∧ y = .int i ∧ PySem.MulOk z i ∧ Q (.str (Txt.mul z i)) H
theorem op_strRep : OpR X (binaryOp .Mult) rRepS := by
  intro pins s σ H x y v u Q I rx ry h
  obtain ⟨z, i, rfl, rfl, ok, q⟩ := h
  obtain ⟨t, rfl⟩ := rx
  obtain ⟨t', rfl⟩ := ry
  exact PySem.SB.mul ok fun t' k => ⟨.str _, H, I.tok _, ⟨t', rfl⟩, q⟩
end
theorem mul_ok {z : Str} {i : Int} (h0 : 0 ≤ i) (h1 : i ≤ 1000) (h2 : z.length ≤ 1000) : PySem.MulOk z i := by
  refine ⟨?_, fun a _ => ?_, fun a _ => ?_⟩
  · rw [decide_eq_false (by omega), decide_eq_false (by omega)]
    rfl
  · intro c
    have : (2 ^ 63 - 1 : Int) / 1000 ≤ (2 ^ 63 - 1) / i := by
      refine Int.le_ediv_of_mul_le (by omega) ?_
      have : (2 ^ 63 - 1 : Int) / 1000 * i ≤ (2 ^ 63 - 1 : Int) / 1000 * 1000 := Int.mul_le_mul_of_nonneg_left h1 (by decide)
      exact Int.le_trans this (by decide)
    have e : (2 ^ 63 - 1 : Int) / 1000 = 9223372036854775 := by decide
    omega
  · have : z.length * i.toNat ≤ 1000 * 1000 := Nat.mul_le_mul h2 (by omega)
    generalize z.length * i.toNat = n at this
    show decide (n > sizeLine) = false
    exact decide_eq_false (Nat.not_lt.mpr (Nat.le_trans this (by decide)))
theorem tl_mul (z : Str) (n : Nat) : tl (Txt.mul z (n : Int)) = (List.replicate n (tl z)).flatten := by
  unfold Txt.mul
  split
  · have : n = 0 := by omega
    subst this
    rfl
  · split
    · rename_i h
      rw [Bool.or_eq_true, beq_iff_eq, beq_iff_eq] at h
      rcases h with h | h
      · have : n = 1 := by omega
        subst this
        simp
      · have e : tl z = [] := (len0_tl z).mp h
        rw [e]
        simp
    · have key : ∀ (l : List (Array Nat)) (a : Array Nat), (l.foldl (· ++ ·) a).toList = a.toList ++ (l.map Array.toList).flatten := by
        intro l
        induction l with
        | nil => intro a; simp
        | cons x r ih => intro a; rw [List.foldl_cons, ih]; simp
      show ((List.replicate n z.cps).foldl (· ++ ·) #[]).toList = _
      rw [key, List.map_replicate]
      rfl
theorem pow_ok {i : Int} {n : Nat} (h : i.natAbs < 2 ^ n) (hn : 0 < n) (h2 : n ≤ 10000) : i.natAbs.log2 < 10000 := Nat.lt_of_lt_of_le (PySem.Flt.log2_lt_of hn h) h2
theorem small {n : Nat} (h : n ≤ 100000) : n ≤ sizeLine := Nat.le_trans h (by decide)
theorem small' {n : Nat} (h : n < 100000) : n < sizeLine := Nat.lt_of_lt_of_le h (by decide)

/-! ### heaps that grow: all stays but the tables of code objects, which grow -/
def notTbl : HO → Bool
  | .tbl _ => false
  | _ => true
/-- what may be written over -/
def plainO : HO → Bool
  | .tbl _ => false
  | .frz _ (.frz _ _) => false
  | _ => true
/-- a code object that a table tells -/
def codeH (oc : Obj) : HO := .frz oc (.frz oc (.own 0))
def CodeN (oc : Obj) (q : Str) : Prop := ∃ (vs : Array Value) (t : Tok), oc.data = .fields vs ∧ vs[1]? = some (.str q t)
/-- a code object's table; what it tells of a lambda's place is that lambda's code -/
def Tb (H : Hp) (P : Addr) : Prop := ∃ ps : Array Value, H P = some (.tbl ps) ∧ TriplesOk ps.toList ∧ ∀ x ∈ lams, ∀ cv, codeAmong x.1 ps.toList = some cv → ∃ (c : Addr) (oc : Obj), cv = .ref c ∧ H c = some (codeH oc) ∧ CodeN oc x.2
theorem Tb.g {H : Hp} {P : Addr} (h : Tb H P) : GxR.TabG H P := by
  obtain ⟨ps, h1, h2, _⟩ := h
  exact ⟨ps, h1, h2⟩
theorem Tb.new {H : Hp} {P : Addr} (h : H P = some (.tbl #[])) : Tb H P := ⟨#[], h, True.intro, fun x _ cv hc => by
  have z : codeAmong x.1 [] = some cv := hc
  simp [codeAmong] at z⟩
theorem among_ne {pos gp : Pos} {c cv : Value} (ne : ¬ (pos.line = gp.line ∧ pos.col = gp.col)) (l : List Value) (h : TriplesOk l) (hc : codeAmong pos (l ++ [rawInt gp.line, rawInt gp.col, c]) = some cv) : codeAmong pos l = some cv := by
  fun_induction TriplesOk l with
  | case1 =>
    simp only [List.nil_append, rawInt, codeAmong] at hc
    split at hc
    · rename_i q
      exfalso
      simp only [Bool.and_eq_true, beq_iff_eq] at q
      exact ne ⟨by omega, by omega⟩
    · cases hc
  | case2 a t b u x rest ih =>
    simp only [List.cons_append, codeAmong] at hc ⊢
    split at hc
    · rename_i q
      rw [if_pos q]
      exact hc
    · rename_i q
      rw [if_neg q]
      exact ih h hc
  | case3 l h1 h2 => exact h.elim
class NT (o : HO) : Prop where
  is : notTbl o = true
instance nt1 {xs : List V} : NT (.lst xs) := ⟨rfl⟩
instance nt2 {xs : List V} : NT (.tup xs) := ⟨rfl⟩
instance nt3 {C dx : Addr} {fs : List (Str × V)} : NT (.ins C dx fs) := ⟨rfl⟩
instance nt4 {kvs : List (Key × V)} : NT (.dK kvs) := ⟨rfl⟩
instance nt5 {o : Obj} {u : HO} : NT (.frz o u) := ⟨rfl⟩
instance nt8 {oc : Obj} : NT (codeH oc) := ⟨rfl⟩
instance nt6 {x : Addr} : NT (.own x) := ⟨rfl⟩
instance nt7 {φ : Heap → Prop} : NT (.ext φ) := ⟨rfl⟩
structure Sm (H H' : Hp) : Prop where
  keep0 : ∀ (a : Addr) (o : HO), H a = some o → notTbl o = true → H' a = some o
  tab : ∀ P, Tb H P → Tb H' P
  gone : ∀ a, H' a = none → H a = none
theorem Sm.keep {H H' : Hp} (s : Sm H H') (a : Addr) (o : HO) (h : H a = some o) (nt : notTbl o = true := by rfl) : H' a = some o := s.keep0 a o h nt
theorem Sm.fn {H H' : Hp} (s : Sm H H') (a : Addr) (o : HO) [n : NT o] (h : H a = some o) : H' a = some o := s.keep0 a o h n.is
instance smFn {H H' : Hp} : CoeFun (Sm H H') (fun _ => ∀ (a : Addr) (o : HO) [NT o], H a = some o → H' a = some o) := ⟨fun s => @Sm.fn H H' s⟩
theorem Sm.refl (H : Hp) : Sm H H := ⟨fun _ _ h _ => h, fun _ h => h, fun _ h => h⟩
theorem Sm.trans {H H1 H2 : Hp} (a : Sm H H1) (b : Sm H1 H2) : Sm H H2 := ⟨fun c o h n => b.keep c o (a.keep c o h n) n, fun P h => b.tab P (a.tab P h), fun c h => a.gone c (b.gone c h)⟩
theorem Sm.free {H H' : Hp} (e : Sm H H') {l : Addr} (h : H' l = none) : H l = none := e.gone l h
theorem Sm.seq {K : PySem.W.Frag} {H H' : Hp} {a : Addr} {xs : List V} (e : Sm H H') (h : SqL K H a xs) : SqL K H' a xs := by
  rcases h with (h | ⟨o, h⟩) | h
  · exact .inl (.inl (e _ _ h))
  · exact .inl (.inr ⟨o, e _ _ h⟩)
  · exact .inr h
/-- a table stands apart from what is written -/
theorem TabG.upd {H : Hp} {P p : Addr} {o : HO} (h : Tb H P) (hp : ∀ qs, H p = some qs → plainO qs = true) : Tb (upd H p o) P := by
  obtain ⟨ps, h1, h2, h3⟩ := h
  have ne : P ≠ p := fun e => by
    rw [e] at h1
    have := hp _ h1
    cases this
  refine ⟨ps, by rw [upd_ne ne]; exact h1, h2, fun x hx cv hc => ?_⟩
  obtain ⟨c, oc, e1, e2, e3⟩ := h3 x hx cv hc
  refine ⟨c, oc, e1, ?_, e3⟩
  rw [upd_ne fun z => by
    rw [z] at e2
    have := hp _ e2
    cases this]
  exact e2
theorem Sm.new {H : Hp} {p : Addr} {o : HO} (h : H p = none) : Sm H (upd H p o) := ⟨fun a u e _ => by
  rw [upd_ne (ne_of_none e h)]
  exact e, fun P t => TabG.upd t (fun qs z => by rw [h] at z; cases z), fun a ha => by
  by_cases e : a = p
  · rw [e]
    exact h
  · rw [upd_ne e] at ha
    exact ha⟩
theorem Sm.over {H H' : Hp} {p : Addr} {o : HO} (S : Sm H H') (h : H p = none) (ht : ∀ qs, H' p = some qs → plainO qs = true) : Sm H (upd H' p o) := by
  refine ⟨fun b u e n => ?_, fun P t => TabG.upd (S.tab P t) ht, fun b e => ?_⟩
  · rw [upd_ne (ne_of_none e h)]
    exact S.keep b u e n
  · by_cases z : b = p
    · rw [z]; exact h
    · rw [upd_ne z] at e
      exact S.gone b e
/-- a table grew -/
def Grew (gp : Pos) (P : Addr) (H H' : Hp) : Prop := ∃ ps more : Array Value, H P = some (.tbl ps) ∧ H' P = some (.tbl (ps ++ more)) ∧ TriplesOk (ps ++ more).toList ∧ (more = #[] ∨ ∃ cv, more = #[rawInt gp.line, rawInt gp.col, cv]) ∧ ∀ b, b ≠ P → H' b = H b
theorem Sm.tabbed {H H' : Hp} {P : Addr} {gp : Pos} (t : Tb H P) (hl : ∀ x ∈ lams, ¬ (x.1.line = gp.line ∧ x.1.col = gp.col)) (h : Grew gp P H H') : Sm H H' := by
  obtain ⟨ps, more, h1, h2, h3, h4, h5⟩ := h
  refine ⟨fun a o e n => ?_, fun Q q => ?_, fun a e => ?_⟩
  · have ne : a ≠ P := fun z => by
      rw [z, h1] at e
      rw [← Option.some.inj e] at n
      cases n
    rw [h5 a ne]
    exact e
  · obtain ⟨qs, q1, q2, q3⟩ := q
    have old : ∀ {c : Addr} {oc : Obj}, H c = some (codeH oc) → H' c = some (codeH oc) := fun {c oc} e => by
      rw [h5 c fun z => by rw [z, h1] at e; cases e]
      exact e
    by_cases e : Q = P
    · rw [e, h1] at q1
      cases q1
      refine ⟨ps ++ more, by rw [e]; exact h2, h3, fun x hx cv hc => ?_⟩
      have : codeAmong x.1 ps.toList = some cv := by
        rcases h4 with rfl | ⟨cw, rfl⟩
        · simpa using hc
        · exact among_ne (hl x hx) _ q2 (by simpa using hc)
      obtain ⟨c, oc, e1, e2, e3⟩ := q3 x hx cv this
      exact ⟨c, oc, e1, old e2, e3⟩
    · refine ⟨qs, by rw [h5 Q e]; exact q1, q2, fun x hx cv hc => ?_⟩
      obtain ⟨c, oc, e1, e2, e3⟩ := q3 x hx cv hc
      exact ⟨c, oc, e1, old e2, e3⟩
  · by_cases z : a = P
    · rw [z, h2] at e
      cases e
    · rw [h5 a z] at e
      exact e
/-! ### the bag, and heaps in which it alone was turned -/
def LIM : Nat := 1000000000
/-- the bag at b: how many draws were mixed is at most m -/
def Bag (H : Hp) (b : Addr) (m : Nat) : Prop := ∃ x y z : Int, H b = some (.lst [.int x, .int y, .int z]) ∧ 0 ≤ y ∧ y < 2 ^ 200 ∧ 0 ≤ z ∧ z ≤ m
structure Go (b : Addr) (n : Nat) (H H' : Hp) : Prop where
  keep0 : ∀ (a : Addr) (o : HO), a ≠ b → H a = some o → notTbl o = true → H' a = some o
  bag : ∀ m, Bag H b m → Bag H' b (m + n)
  tab : ∀ P, Tb H P → Tb H' P
  gone : ∀ a, H' a = none → H a = none
theorem Go.keep {b : Addr} {n : Nat} {H H' : Hp} (G : Go b n H H') (a : Addr) (o : HO) (ne : a ≠ b) (h : H a = some o) (nt : notTbl o = true := by rfl) : H' a = some o := G.keep0 a o ne h nt
theorem Bag.mono {H : Hp} {b : Addr} {m n : Nat} (h : Bag H b m) (l : m ≤ n) : Bag H b n := by
  obtain ⟨x, y, z, h1, h2, h3, h4, h5⟩ := h
  exact ⟨x, y, z, h1, h2, h3, h4, by omega⟩
theorem Bag.some {H : Hp} {b : Addr} {m : Nat} (h : Bag H b m) : ∃ xs, H b = some (.lst xs) := by
  obtain ⟨x, y, z, h1, _⟩ := h
  exact ⟨_, h1⟩
theorem Go.refl (b : Addr) (H : Hp) : Go b 0 H H := ⟨fun _ _ _ h _ => h, fun _ h => h, fun _ h => h, fun _ h => h⟩
theorem Go.trans {b : Addr} {n m : Nat} {H H1 H2 : Hp} (x : Go b n H H1) (y : Go b m H1 H2) : Go b (n + m) H H2 :=
  ⟨fun a o e h n => y.keep a o e (x.keep a o e h n) n, fun k h => by
    have z := y.bag _ (x.bag k h)
    exact z.mono (by omega), fun P h => y.tab P (x.tab P h), fun a h => x.gone a (y.gone a h)⟩
theorem Go.mono {b : Addr} {n m : Nat} {H H' : Hp} (x : Go b n H H') (l : n ≤ m) : Go b m H H' := ⟨x.keep0, fun k h => (x.bag k h).mono (by omega), x.tab, x.gone⟩
theorem Go.same {b : Addr} {H H' : Hp} (s : Sm H H') : Go b 0 H H' := ⟨fun a o _ h n => s.keep a o h n, fun m h => by
  obtain ⟨x, y, z, h1, h2⟩ := h
  exact ⟨x, y, z, s _ _ h1, h2⟩, s.tab, s.gone⟩
theorem Go.new {b : Addr} {H : Hp} {p : Addr} {o : HO} (h : H p = none) : Go b 0 H (upd H p o) := Go.same (Sm.new h)
/-- a thing that is no list stands apart from the bag -/
theorem Go.at {b : Addr} {n m : Nat} {H H' : Hp} (G : Go b n H H') (B : Bag H b m) {a : Addr} {o : HO} (h : H a = some o) (no : ∀ xs, o ≠ .lst xs) (nt : notTbl o = true := by rfl) : H' a = some o := by
  refine G.keep a o (fun e => ?_) h nt
  obtain ⟨xs, hx⟩ := B.some
  rw [e, hx] at h
  exact no xs (Option.some.inj h).symm
theorem Go.seqT {K : PySem.W.Frag} {b : Addr} {n m : Nat} {H H' : Hp} (G : Go b n H H') (B : Bag H b m) {a : Addr} {xs : List V} (h : SqT K H a xs) : SqT K H' a xs := by
  rcases h with (h | ⟨o, h⟩) | h
  · exact .inl (.inl (G.at B h fun _ z => by cases z))
  · exact .inl (.inr ⟨o, G.at B h fun _ z => by cases z⟩)
  · exact .inr h
theorem Go.frz {b : Addr} {n m : Nat} {H H' : Hp} (G : Go b n H H') (B : Bag H b m) {a : Addr} {ob : Obj} {u : HO} (h : H a = some (.frz ob u)) : H' a = some (.frz ob u) := G.at B h fun _ z => by cases z
theorem Sm.seqT {K : PySem.W.Frag} {H H' : Hp} (e : Sm H H') {a : Addr} {xs : List V} (h : SqT K H a xs) : SqT K H' a xs := by
  rcases h with (h | ⟨o, h⟩) | h
  · exact .inl (.inl (e _ _ h))
  · exact .inl (.inr ⟨o, e _ _ h⟩)
  · exact .inr h
/-- what was free behind is free ahead -/
theorem Go.free {b : Addr} {n m : Nat} {H H' : Hp} (G : Go b n H H') (B : Bag H b m) {p : Addr} (h : H' p = none) : H p = none := G.gone p h
theorem Bag.ne {H : Hp} {b p : Addr} {m : Nat} (B : Bag H b m) (h : H p = none) : p ≠ b := fun e => by
  obtain ⟨xs, hx⟩ := B.some
  rw [← e, h] at hx
  cases hx
/-- a new list's own address may be written: the rest goes on -/
theorem Go.own {b : Addr} {n m : Nat} {H H' : Hp} {p : Addr} {o : HO} (G : Go b n H H') (B : Bag H b m) (h : H p = none) (hp' : ∀ qs, H' p = some qs → plainO qs = true) : Go b n H (upd H' p o) := by
  have hp := B.ne h
  refine ⟨fun a u e ha nt => ?_, fun k hk => ?_, fun P t => TabG.upd (G.tab P t) hp', fun a ha => ?_⟩
  · rw [upd_ne (ne_of_none ha h)]
    exact G.keep a u e ha nt
  · obtain ⟨x, y, z, h1, h2⟩ := G.bag k hk
    exact ⟨x, y, z, by rw [upd_ne (Ne.symm hp)]; exact h1, h2⟩
  · by_cases e : a = p
    · rw [e]
      exact h
    · rw [upd_ne e] at ha
      exact G.gone a ha
theorem no_tbl {H : Hp} {p : Addr} {xs : List V} (h : H p = some (.lst xs)) : ∀ qs, H p = some qs → plainO qs = true := fun qs z => by
  rw [h] at z
  cases z
  rfl
/-! ### the rules over K alone (within a comprehension's block the context's own K is the same) -/
section
variable {X : Cx} (K : PySem.W.Frag)
theorem ixL (h : X.K = K := by rfl) : IxR X (rIxL K) := h ▸ ix_list
theorem ixT (h : X.K = K := by rfl) : IxR X (rIxT K) := h ▸ ix_tup
theorem eqD (hu : X.A.units + 64 < cLine) (h : X.K = K := by rfl) : OpR X (compareOp .Eq) (rEqD K) := h ▸ op_eqD hu
theorem neD (hu : X.A.units + 64 < cLine) (h : X.K = K := by rfl) : OpR X (compareOp .NotEq) (rNeD K) := h ▸ op_neD hu
def rLenQ (K : PySem.W.Frag) : List V → Hp → VK → Prop := fun xs H Q => ∃ p ys, xs = [.ref p] ∧ (SqL K H p ys ∨ SqT K H p ys) ∧ Q (.int ys.length) H
theorem lenQ (h : X.K = K := by rfl) : CallR X (.builtin "len") (rLenQ K) := h ▸ call_len_seq
def rLenT1 : List V → Hp → VK → Prop := fun xs H Q => ∃ z, xs = [.str z] ∧ z.length ≤ sizeLine ∧ Q (.int z.length) H
theorem lenT : CallR X (.builtin "len") rLenT1 := call_len_str
theorem slL (h : X.K = K := by rfl) : SlR X (rSlL K) := h ▸ sl_list
theorem slT (h : X.K = K := by rfl) : SlR X (rSlA K) := h ▸ sl_tupA
theorem catA (h : X.K = K := by rfl) : OpR X (binaryOp .Add) (rCatA K) := h ▸ op_catA
theorem inQ (h : X.K = K := by rfl) : OpR X (compareOp .In) (rIn K false) := h ▸ op_in_seq
theorem ninQ (h : X.K = K := by rfl) : OpR X (compareOp .NotIn) (rIn K true) := h ▸ op_notIn_seq
def rListOf (K : PySem.W.Frag) : List V → Hp → VK → Prop := fun xs H Q => ∃ p ys, xs = [.ref p] ∧ (SqL K H p ys ∨ SqT K H p ys) ∧ ∀ l, H l = none → Q (.ref l) (upd H l (.lst ys))
theorem listOf (h : X.K = K := by rfl) : CallR X (.type "list") (rListOf K) := h ▸ call_list_of
def rTupOf (K : PySem.W.Frag) : List V → Hp → VK → Prop := fun xs H Q => ∃ p ys, xs = [.ref p] ∧ ((SqL K H p ys ∧ ∀ l, H l = none → Q (.ref l) (upd H l (.tup ys))) ∨ (SqT K H p ys ∧ Q (.ref p) H))
theorem tupOf (h : X.K = K := by rfl) : CallR X (.type "tuple") (rTupOf K) := h ▸ call_tuple_of
theorem isI (h : X.K = K := by rfl) : CallR X (.builtin "isinstance") (rIsi K) := h ▸ call_isi
end
/-! ### defs whose code object is known; the end of a law with tables -/
structure Ftc (K : PySem.W.Frag) (mg : Str → Option Value) (x : Str) (st : Stmt) (ps : List Str) (c : Addr) : Prop where
  ex : ∃ (f : Addr) (oc : Value) (od : Option Addr) (kV doc pm : Value) (an : Option Addr) (ct : Value) (osl : Array (Option Value)),
    K.lookup f = some ⟨oc, od, .func (PySem.W.fnOf x x (defArgs st) (defBody st) (defScope st) .none kV doc pm an (.ref c) ct), osl⟩ ∧ PySem.W.codeIn K (.ref c) x = true ∧ PySem.W.keepIn K (.ref f) = true ∧ mg x = some (.ref f) ∧ Binds K (PySem.W.fnOf x x (defArgs st) (defBody st) (defScope st) .none kV doc pm an (.ref c) ct) ps []
section
variable {P : Program} {w : World} {K : PySem.W.Frag} {mg : Str → Option Value} {base : Heap}
theorem Ftc.cal {x : Str} {st : Stmt} {N ps : List Str} {c : Addr} {sp : Sp} {k : Nat} (F : Ftc K mg x st ps c) (S : FnScope N ps (defScope st)) (len : ∀ vs H Q E, sp vs H Q E → vs.length = ps.length)
    (h : ∀ (f : Addr) (A : Around) (outer : List Env) (s : Shared) (H : Hp) (vs : List V) (Q : VK) (E : XK), Room k (A.deeper (PyProof.Rows.envOfC x (defScope st) s.heap.objs.size f (.ref c))) → sp vs H Q E →
      ∃ t, PSs (cxOf CX0 P w K mg base N x (defScope st) f (.ref c) A outer s H E).nox (defBody st) t ∧ t { nx := fun _ H' => Q .non H', rt := Q } (start N vs) H) : Cal P w K mg base (k + 1) x ps sp := by
  obtain ⟨f, oc, od, kV, doc, pm, an, ct, osl, lk, hcd, kp, g, b⟩ := F.ex
  refine ⟨f, _, fn_of lk hcd S len (fun A outer s H vs Q E hr hsp => ?_), kp, g, b, oc, od, osl, lk⟩
  obtain ⟨t, h1, q⟩ := h f A outer s H vs Q E hr hsp
  exact ⟨t, h1.nox, q⟩
end
def hdOk (vs : Array Value) (c P : Addr) : Bool := (match (vs[11]? : Option Value) with | some (.ref P') => P' == P | _ => false) &&
  (match vs.getD 18 .none with | .str _ _ => true | _ => false) && (match vs.getD 7 .none with | .int _ _ => true | _ => false) &&
  (match vs.getD 9 .none with | .bool _ => true | _ => false) && (match vs.getD 10 .none with | .int _ _ => true | _ => false) && c != P
theorem hdOk_ok {K : PySem.W.Frag} {c P : Addr} {vs : Array Value} {dd : Option Addr} {sl : Array (Option Value)} (h : K.lookup c = some ⟨.type "code", dd, .fields vs, sl⟩) (o : hdOk vs c P = true) : PySem.W.codeHdIn K c P = true := by
  unfold PySem.W.codeHdIn
  rw [h]
  exact o
theorem tri0 : TriplesOk (#[] : Array Value).toList := by
  first
    | trivial
    | exact .nil
    | simp [TriplesOk]
    | decide
def OwnTabs (q : Program) (K : PySem.W.Frag) (mg : Str → Option Value) (h : Heap) : Prop := ∀ (x : Str) (f : Addr), ((PyProof.Rows.recsOf q).any fun e => e.name == x) = true → mg x = some (.ref f) → LamX.OwnTab K f h
theorem walk_ofAll {l : PySem.W.OpenLaw} {n k : Nat} {q : Program} {loose : List Str} {XP : (Str → Option Value) → Heap → Prop} {YP : World → Heap → Prop} {d : DefRec} {K : Params → PySem.W.Frag} {CX : World → CXT} {x : Str}
    (hn : l.most = some n) (hn2 : n ≤ sizeLine) (hdf : d.params.defaults = []) (hr : Room k callerA) (hY : ∀ (w : World) (h : Heap), YP w h → (K w.params).In h)
    (F : ∀ (w : World) (mg : Str → Option Value) (fa : Addr) (h : Heap), YP w h → (K w.params).In h → h.Ns mainGlobals mg → mg d.name = some (.ref fa) → OwnTabs q (K w.params) mg h → LamX.LawAtS l w (K w.params) (CX w) k n x mg fa h)
    (hCX : ∀ (w : World) (H : Hp) (s : Shared) (e : Value) (s' : Shared), CX w [] H s (fun _ _ _ => False) e s' → False) :
    PySem.W.WalkO q loose XP YP l.row.toRowW d [] (fun f vs => PySem.call f vs) := by
  refine Att.attach_callB hn hdf fun w s₀ s₁ mg mb fa o pm cd doc a vs ns G Y ho hd hcd hmg hobj hints hlen hbits hg => ?_
  have KX := hY w _ Y
  have own : OwnTabs q (K w.params) mg s₁.heap := fun x f hrec hx c P o1 fd1 e dd vs1 sl k1 k2 k3 k4 k5 => by
    obtain ⟨dL, hm, hn1⟩ := List.any_eq_true.mp hrec
    have hn2 : dL.name = x := beq_iff_eq.mp hn1
    obtain ⟨a', o', fd', c', P', h1, h2, h3, h4, h5, h6⟩ := G.T.tab dL hm
    rw [hn2, hx] at h1
    cases h1
    have g1 := KX _ _ k1
    rw [g1] at h2
    cases h2
    rw [k2] at h3
    cases h3
    rw [k3] at h4
    cases h4
    obtain ⟨⟨oc, vc, e1, _, e3, e4⟩, hP⟩ := h6
    have g2 := KX _ _ k4
    rw [g2] at e1
    cases e1
    cases e3
    rw [k5] at e4
    cases e4
    exact hP
  obtain ⟨fd, cs, sp, hT, nT, C, hb, hsp, hF⟩ := F w mg fa _ Y KX G.T.g hmg own
  exact LamX.law_callTs KX G.T.g G.T.b G.T.builtins G.T.nolimit hg hT nT C G.T.bmain hobj hints (Nat.le_trans hlen hn2) hr hF hb (fun H hH hS => hsp H a ns hlen hbits hH hS) fun H e s' => hCX w H s₁ e s'
/-! ### all(e for x in it): the generator expression's own frame, its elements by rules (they may call) -/
namespace GA
open PySem PySem.Spec PyProof.Rows L2 GenW
/-- the context of a generator expression's frame: s, H: as it began; pn: the generator itself -/
abbrev genX (X : Cx) (A' : Around) (s : Shared) (H : Hp) (cenv : Env) (fp : List Addr) (pn : List (Addr × Obj)) : Cx :=
  { X with A := A', s_0 := s, H_0 := H, env := cenv, outer := X.stack, stack := cenv :: X.stack, ex := fp, fn := fun _ => false, pn := pn, xe := fun _ _ => False }
abbrev genE (X : Cx) (scope : Scope) (C : Addr) (code : Value) : Env := genEnv scope (cloFrom X.env.cells scope.names []) C code builtinsNs X.env
section
variable {X : Cx} {pins : List (Addr × Obj)} {σ : L2.St} {H : Hp} {s : Shared}
theorem gen_start {scope : Scope} {own : List (Str × Nat)} {fp : List Addr} {A' : Around} {code : Value} {gs : GenState} {a : Addr} {gobj : Obj} {h5 : Heap} {tk : Nat} (I : Inv X pins σ H s) (ok : BlkOk X.N X.env.scope scope own) (hN : X.N.Nodup) (hfp : ∀ b ∈ fp, FpOk X pins H b ∧ b < s.heap.objs.size)
    (hcell : ∀ y ∈ scope.names, y.2 ≠ .cell) (hA : A'.handled = none) (hfr : A'.frames = some (genE X scope s.heap.objs.size code :: X.stack)) (hgs : gs.bare = true) (hsz : s.heap.objs.size < a) (ha : h5.get? a = some gobj) (hgo : ∀ v, gobj.data ≠ .cell v)
    (kp : ∀ b o, s.heap.get? b = some o → h5.get? b = some o) (hns : ∃ m, h5.Ns s.heap.objs.size m) :
    Inv (genX X A' s H (genE X scope s.heap.objs.size code) fp [(a, gobj)]) [] (wipe σ (own.map (·.2))) H { s with gens := s.gens.push gs, toks := tk, heap := h5 } := by
  have hfree : ∀ y ∈ scope.names, y.2 = .free → ∃ c, X.env.cells.lookup y.1 = some c := fun y hy e => by
    rcases ok.free y hy e with k | k
    · exact I.ok.has _ (.inl k)
    · exact I.ok.has _ (.inr k)
  generalize hcenv : genE X scope s.heap.objs.size code = cenv at hfr ⊢
  have hL : cenv.locals = s.heap.objs.size := by rw [← hcenv]; rfl
  have hcl : cenv.cells = cloFrom X.env.cells scope.names [] := by rw [← hcenv]; rfl
  have hsc : cenv.scope = scope := by rw [← hcenv]; rfl
  have cm : ∀ {y c}, (y, c) ∈ cloFrom X.env.cells scope.names [] → X.env.cells.lookup y = some c ∧ c < s.heap.objs.size := fun {y c} hm => by
    rcases cloFrom_mem hm with hm | ⟨h1, rfl⟩
    · cases hm
    · obtain ⟨c, hc⟩ := hfree _ h1 rfl
      rw [hc]
      obtain ⟨w, z⟩ := I.cell _ _ hc
      exact ⟨rfl, z.lt⟩
  have mem : ∀ {y c}, cenv.cells.lookup y = some c → X.env.cells.lookup y = some c ∧ c < s.heap.objs.size := fun {y c} e => by
    rw [hcl] at e
    exact cm (PySem.mem_of_lookup e)
  have look : ∀ {y}, scope.names.lookup y = some .free → ∃ c, cenv.cells.lookup y = some c ∧ X.env.cells.lookup y = some c := fun {y} hl => by
    have hy : (y, NameKind.free) ∈ scope.names := PySem.mem_of_lookup hl
    obtain ⟨c', e'⟩ := mem_lookup (cloFrom_has (cells := X.env.cells) (acc := []) hy)
    rw [← hcl] at e'
    exact ⟨c', e', (mem e').1⟩
  have okB : (genX X A' s H cenv fp [(a, gobj)]).Ok := by
    refine ⟨I.ok.mod, by show cenv.scope.kind = _; rw [hsc]; exact ok.kind, by show cenv.globals = _; rw [← hcenv]; exact I.ok.glob, by show cenv.builtins = _; rw [← hcenv]; rfl, by show s.heap.objs.size ≤ cenv.locals; rw [hL]; exact Nat.le_refl _,
      fun y z c e1 e2 => ?_, fun y hy => ?_, fun y c z e => (by cases z), fun _ => hA, hfr, .inr ⟨rfl, ?_⟩, fun b hb => ⟨?_, fun y c e z => ?_⟩, I.bs, Nat.le_trans I.ok.bsz I.sz, fun b o e hb => ?_, fun b hb z => ?_, I.stack, I.stkFree⟩
    · exact I.ok.inj y z c (mem (show cenv.cells.lookup y = some c from e1)).1 (mem (show cenv.cells.lookup z = some c from e2)).1
    · show ∃ c, cenv.cells.lookup y = some c
      have key : cenv.kindOf y = some .free → ∃ c, cenv.cells.lookup y = some c := fun hk => by
        unfold Env.kindOf at hk
        rw [hsc] at hk
        obtain ⟨c, h1, _⟩ := look hk
        exact ⟨c, h1⟩
      rcases hy with hy | hy
      · exfalso
        have hy : cenv.scope.names.lookup y = some .cell := hy
        rw [hsc] at hy
        exact hcell _ (PySem.mem_of_lookup hy) rfl
      · exact key hy
    · show cenv.frame = some cenv.locals
      rw [← hcenv]
      rfl
    · show b ≠ cenv.locals
      rw [hL]; exact Nat.ne_of_lt (hfp b hb).2
    · have e : cenv.cells.lookup y = some c := e
      exact (hfp b hb).1.2.2.2.2.1 y c (mem e).1 z
    · rcases (hfp b hb).1.2.2.2.1 with z | z
      · exact I.ok.noex b o e z
      · exact absurd (Nat.lt_of_lt_of_le (Heap.lt_size e) (Nat.le_trans I.ok.bsz z)) (Nat.lt_irrefl _)
    · rcases List.mem_cons.mp (I.stkSub b z) with z | z
      · exact (hfp b hb).1.2.1 z
      · exact (hfp b hb).1.2.2.1 z
  obtain ⟨mm, hmm⟩ := hns
  refine ⟨okB, rfl, I.bare.push hgs, Un.kept kp, ⟨mm, ?_, fun i y av e1 e2 e3 => ?_⟩, fun y c e => ?_, ?_, fun y c e => ?_, fun p hp => ?_, I.hok.kept kp, by rw [wipe_length]; exact I.len⟩
  · show Heap.Ns _ cenv.locals _
    rw [hL]
    exact hmm
  · obtain ⟨e2, hne⟩ := wipe_some e2
    have hfr : scope.names.lookup y = some .free := by
      have key : ∀ k, scope.names.lookup y = some k → k = .local ∨ k = .cell ∨ k = .free → scope.names.lookup y = some .free := fun k hk hk' => by
        have no : ¬ (k = .local ∨ k = .cell) := fun hh => by
          rcases ok.own _ (PySem.mem_of_lookup hk) hh with e' | e'
          · obtain ⟨p, hp, hpy⟩ := List.mem_map.mp e'
            have e3 := ok.ix p hp
            have : p.1 = y := hpy
            rw [this] at e3
            exact hne (List.mem_map.mpr ⟨p, hp, nodup_ix hN e3 e1⟩)
          · exact e' (List.mem_of_getElem? e1)
        rcases hk' with rfl | rfl | rfl
        · exact absurd (.inl rfl) no
        · exact absurd (.inr rfl) no
        · exact hk
      have e3 : Vis cenv.scope y := e3
      rw [hsc] at e3
      rcases e3 with e3 | e3 | e3
      · exact key _ e3 (.inl rfl)
      · exact key _ e3 (.inr (.inl rfl))
      · exact key _ e3 (.inr (.inr rfl))
    obtain ⟨m, hn, hl⟩ := I.loc
    have hvis : Vis X.env.scope y := (ok.free _ (PySem.mem_of_lookup hfr) rfl).elim (fun k => .inr (.inl k)) (fun k => .inr (.inr k))
    obtain ⟨w, r, q⟩ := hl i y av e1 e2 hvis
    refine ⟨w, r, .inr ⟨.inr ?_, ?_⟩⟩
    · show cenv.kindOf y = some .free
      unfold Env.kindOf
      rw [hsc]
      exact hfr
    · obtain ⟨c, h1, h2⟩ := look hfr
      rcases q with ⟨k, _⟩ | ⟨_, c', e', z⟩
      · have k : X.env.scope.names.lookup y = some .local := k
        rcases ok.free _ (PySem.mem_of_lookup hfr) rfl with k' | k' <;> rw [show X.env.scope.names.lookup y = _ from k'] at k <;> cases k
      · rw [h2] at e'; cases e'
        exact ⟨c, h1, z.keeps kp⟩
  · have e : cenv.cells.lookup y = some c := e
    obtain ⟨w, z⟩ := I.cell y c (mem e).1
    exact ⟨w, z.keeps kp⟩
  · show H cenv.locals = none
    rw [hL]; exact I.hok.fresh (Nat.le_refl _)
  · have e : cenv.cells.lookup y = some c := e
    exact I.freeC y c (mem e).1
  · have hp' : p = (a, gobj) := List.mem_singleton.mp (by simpa using hp)
    subst hp'
    refine ⟨ha, I.hok.fresh (Nat.le_of_lt hsz), ?_, (fun z => by
      rcases List.mem_cons.mp (I.stkSub a z) with z | z
      · have q := I.lt
        rw [← z] at q
        exact absurd (Nat.lt_trans q hsz) (Nat.lt_irrefl _)
      · exact I.nofs (Nat.le_of_lt hsz) z), hgo⟩
    show a ≠ cenv.locals
    rw [hL]
    exact Nat.ne_of_gt hsz
/-- only generators, tokens, draws turned -/
theorem regens {s' : Shared} (I : Inv X pins σ H s) (ho : s'.os = s.os) (hh : s'.heap = s.heap) (hg : AllBare s'.gens) : Inv X pins σ H s' := by
  obtain ⟨h', g', d', t', o'⟩ := s'
  have e : o' = s.os := ho
  have e2 : h' = s.heap := hh
  subst e e2
  exact I.step (g' := g') (t' := t') (d' := d') (ch := []) (fun b hb => absurd hb (by simp)) (fun b o _ _ _ q _ => q) (fun b o _ _ _ q _ => ⟨o.slots, q⟩) (fun _ _ _ _ n => n) (fun b o _ q => ⟨o, q⟩) (fun _ _ q => q) (fun _ _ _ q => q) (fun b ps q => ⟨#[], by rw [q]; simp⟩) (fun m hm => hm) I.hok hg
end
/-! ### the loop of the frame, handing out a truth a turn -/
/-- the end of the frame: all items were walked -/
def Rg (Xg : Cx) (σw : L2.St) (Qt : Hp → Prop) : GenEnd := fun _ _ r s => r = .ok .next ∧ ∃ H', Inv Xg [] σw H' s ∧ Qt H'
/-- a truth is handed out: False ends it, behind True it goes on -/
def Yg (Xg : Cx) (σw : L2.St) (Qf : Hp → Prop) : Protocol := fun _ _ v s kap => ∃ (b : Bool) (H' : Hp) (pins' : List (Addr × Obj)) (σ' : L2.St), v = .bool b ∧ Inv Xg pins' σ' H' s ∧ (b = false → Qf H') ∧
  (b = true → ∀ s', s'.os = s.os → s'.heap = s.heap → AllBare s'.gens → kap (.send .none) s')
/-- the invariant of the turns -/
def TurnsG (J : It) (g : TG) (te : TE) (own : List Nat) (σ : L2.St) (Qt Qf : Hp → Prop) (W : Nat → Nat → Hp → Prop) : Prop := ∀ i m H, W i m H →
  (J.stop i H ∧ Qt H) ∨ (J.go i H ∧ ∃ Nx : Hp → Prop, (∀ H', Nx H' → ∃ m', m' < m ∧ W (i + 1) m' H') ∧ ∀ x H', J.yld i H x H' → g x (wipe σ own) H' fun σ2 H2 => wipe σ2 own = wipe σ own ∧ te σ2 H2 fun y H3 => ∃ b : Bool, y = .bl b ∧ if b = true then Nx H3 else Qf H3)
section
variable {X : Cx} {σ : L2.St} {elt tg iter : Expr} {scope : Scope} {pos : Pos} {it : Addr} {ce : Env} {fp : List Addr} {pn : List (Addr × Obj)} {sB : Shared} {HB : Hp} {Ar : Around} {J : It} {tn : Nat → Heap → Prop} {g : TG} {te : TE} {own : List Nat} {Qt Qf : Hp → Prop} {W : Nat → Nat → Hp → Prop}
theorem seg_allLoop (hc : X.calm = true) (T : Turn X.prog X.w X.K tg J fp it tn) (hW : TurnsG J g te own σ Qt Qf W) (hco : ce.scope.isCoroutine = false) (hpn : ∀ p ∈ pn, p.1 ∉ fp)
    (pg : PG (genX X (Ar.over (.compLoop (.GeneratorExp elt [⟨tg, iter, [], 0⟩] scope pos) 0 (.ref it) .none ce) []) sB HB ce fp pn) tg g) (pe : PE (genX X (Ar.over (.compLoop (.GeneratorExp elt [⟨tg, iter, [], 0⟩] scope pos) 0 (.ref it) .none ce) []) sB HB ce fp pn) elt te) :
    ∀ (k i m : Nat) (s₀ s : Shared) (H : Hp), m < k → W i m H → Inv (genX X (Ar.over (.compLoop (.GeneratorExp elt [⟨tg, iter, [], 0⟩] scope pos) 0 (.ref it) .none ce) []) sB HB ce fp pn) [] (wipe σ own) H s → tn i s.heap → (∀ b ∈ fp, H b = none) →
      Seg (model X.prog X.w) Ar (Rg (genX X (Ar.over (.compLoop (.GeneratorExp elt [⟨tg, iter, [], 0⟩] scope pos) 0 (.ref it) .none ce) []) sB HB ce fp pn) (wipe σ own) Qt) (Yg (genX X (Ar.over (.compLoop (.GeneratorExp elt [⟨tg, iter, [], 0⟩] scope pos) 0 (.ref it) .none ce) []) sB HB ce fp pn) (wipe σ own) Qf) k s₀ (.compLoop (.GeneratorExp elt [⟨tg, iter, [], 0⟩] scope pos) 0 (.ref it) .none ce) ((model X.prog X.w).den (.compLoop (.GeneratorExp elt [⟨tg, iter, [], 0⟩] scope pos) 0 (.ref it) .none ce)) [] s := by
  have stat : ∀ {σ' : L2.St} {H' : Hp} {s' : Shared}, Inv (genX X (Ar.over (.compLoop (.GeneratorExp elt [⟨tg, iter, [], 0⟩] scope pos) 0 (.ref it) .none ce) []) sB HB ce fp pn) [] σ' H' s' → (∀ b ∈ fp, H' b = none) → ∀ b ∈ fp, FpOk (genX X (Ar.over (.compLoop (.GeneratorExp elt [⟨tg, iter, [], 0⟩] scope pos) 0 (.ref it) .none ce) []) sB HB ce fp pn) [] H' b := fun {σ' H' s'} I' hn b hb =>
    ⟨hn b hb, (I'.ok.exf b hb).1, I'.ok.exfs b hb, .inl hb, fun x c e => (I'.ok.exf b hb).2 x c e, fun p hp z => by
      have hp' : p ∈ pn := by simpa using hp
      rw [← z] at hb
      exact hpn p hp' hb⟩
  intro k
  induction k with
  | zero => intro i m s₀ s H hm; omega
  | succ k ih =>
    intro i m s₀ s H hm w I st nf
    show Seg _ Ar _ _ _ s₀ _ ((compTurn (.GeneratorExp elt [⟨tg, iter, [], 0⟩] scope pos) 0 (.ref it) .none ce).onRaise (leaving ce)) [] s
    rw [compTurn_gen, Sem.onRaise_eq_wrap]
    refine seg_bind_wrap (wpAny_standAt ?_)
    rcases hW i m H w with ⟨stop, qt⟩ | ⟨go, Nx, hNx, step⟩
    · refine seg_bind_wrap (wpAny_mono (T.done (genX X (Ar.over (.compLoop (.GeneratorExp elt [⟨tg, iter, [], 0⟩] scope pos) 0 (.ref it) .none ce) []) sB HB ce fp pn) rfl rfl rfl hc i [] s _ H (fun _ _ => False) I (stat I nf) st stop) (fun r s6 ⟨hr, I6⟩ => ?_) fun _ _ e => e.elim)
      subst hr
      exact seg_end (.ok .next) ⟨rfl, H, I6, qt⟩
    · refine seg_bind_wrap (wpAny_mono (T.item (genX X (Ar.over (.compLoop (.GeneratorExp elt [⟨tg, iter, [], 0⟩] scope pos) 0 (.ref it) .none ce) []) sB HB ce fp pn) rfl rfl rfl hc i [] s _ H (fun _ _ => False) I (stat I nf) st go) (fun r s6 ⟨u, hr, h6⟩ => ?_) fun _ _ e => e.elim)
      subst hr
      refine seg_bind_wrap (wpAny_mono h6 (fun _ s7 ⟨x, H7, I7, r7, y7, st7, n7⟩ => ?_) fun _ _ e => e.elim)
      have I7' := I7.pinned (stat I7 n7) (T.obj _ _ st7)
      refine seg_bind_wrap (wpAny_mono (pg.run _ s7 _ H7 x u _ I7' r7 (step x H7 y7)) (fun _ s8 ⟨σ8, H8, I8, hw8, q8⟩ => ?_) fun _ _ e => e.elim)
      refine seg_bind_wrap ?_
      simp only [List.forIn_nil]
      refine wpAny_pure ?_
      simp only [if_true]
      have hy : ∀ v, yieldOut ce v = yieldValue v := fun v => by simp only [yieldOut, hco, Bool.false_eq_true, if_false]
      simp only [hy]
      rw [Sem.bind_eq_wrap', Sem.bind_eq_wrap', Sem.wrap_wrap, Sem.wrap_wrap]
      refine seg_wrap (wpAny_mono (pe.run _ s8 σ8 H8 _ I8 q8) (fun y s9 ⟨yv, H9, I9, r9, b, eb, q9⟩ => ?_) fun _ _ e => e.elim)
      subst eb
      obtain rfl : y = Value.bool b := r9
      refine seg_at (seg_yield rfl rfl rfl ⟨b, H9, _, σ8, rfl, I9, fun e => ?_, fun e s'' ho hh hg => ?_⟩)
      · subst e
        simpa using q9
      · subst e
        simp only [if_true] at q9
        obtain ⟨m', hm', w'⟩ := hNx H9 q9
        have I9' := regens I9 ho hh hg
        have pin' : ∀ b ∈ fp, ∀ o, s7.heap.get? b = some o → s''.heap.get? b = some o ∧ H9 b = none := fun b hb o e =>
          let z := I9'.pin (b, o) (List.mem_append_right _ (List.mem_append_right _ (mem_pinsAt hb e)))
          ⟨z.1, z.2.1⟩
        have hl : (wipe σ own).length = σ8.length := by rw [← hw8, wipe_length]
        refine seg_again rfl (ih (i + 1) m' s'' s'' H9 (by omega) w' ((I9'.unpinned (pins := [])).weak hl (fun j v e => ?_)) (T.keep _ _ _ st7 fun b hb o e => (pin' b hb o e).1) fun b hb => ?_)
        · rw [← hw8] at e
          exact (wipe_some e).1
        · obtain ⟨o, e, _⟩ := T.obj _ _ st7 b hb
          exact (pin' b hb o e).2
theorem seg_allStart (T : Turn X.prog X.w X.K tg J fp it tn) {R : GenEnd} {Y : Protocol} {k : Nat} {s₀ s : Shared} (st : tn 0 s.heap)
    (loop : Seg (model X.prog X.w) Ar R Y k s₀ (.compLoop (.GeneratorExp elt [⟨tg, iter, [], 0⟩] scope pos) 0 (.ref it) .none ce) ((model X.prog X.w).den (.compLoop (.GeneratorExp elt [⟨tg, iter, [], 0⟩] scope pos) 0 (.ref it) .none ce)) [] s) : Seg (model X.prog X.w) Ar R Y k s₀ (.compStart (.GeneratorExp elt [⟨tg, iter, [], 0⟩] scope pos) 0 (.ref it) .none ce) ((model X.prog X.w).den (.compStart (.GeneratorExp elt [⟨tg, iter, [], 0⟩] scope pos) 0 (.ref it) .none ce)) [] s := by
  show Seg _ Ar _ _ _ s₀ _ ((compStart (.GeneratorExp elt [⟨tg, iter, [], 0⟩] scope pos) 0 (.ref it) .none ce).onRaise (leaving ce)) [] s
  unfold compStart
  rw [Sem.onRaise_eq_wrap]
  show Seg _ Ar _ _ _ s₀ _ ((ask >>= _).wrap _ _ _ _) [] s
  refine seg_bind_wrap (wpAny_askSetting ?_)
  split
  · exact seg_again rfl loop
  · first
      | exact seg_bind_wrap (wpAny_rule (seg_bind_wrap (wpAny_standAt (seg_bind_wrap (T.self _ 0 s _ _ st (seg_again rfl loop))))))
      | (refine seg_bind_wrap (wpAny_rule ?_); show Seg _ Ar _ _ _ s₀ _ ((standAt iter.pos >>= _).wrap _ _ _ _) [] s; exact seg_bind_wrap (wpAny_standAt (seg_bind_wrap (T.self _ 0 s _ _ st (seg_again rfl loop)))))
/-- the consumer: all -/
theorem all_loop {A : Around} {R : Result → Shared → Prop} {a : Addr} {gn : Nat} {gobj : Obj} (hh : A.handled = none) (hd : A.depth < recursionLimit) (hpn : pn = [(a, gobj)]) (hgen : ∀ h : Heap, h.get? a = some gobj → h.IsGen a gn)
    (hT : ∀ (s1 : Shared) (H' : Hp), Inv (genX X (A.in1.in1.over (.compLoop (.GeneratorExp elt [⟨tg, iter, [], 0⟩] scope pos) 0 (.ref it) .none ce) []) sB HB ce fp pn) [] (wipe σ own) H' s1 → Qt H' → ∀ h' : Heap, (∀ b o, s1.heap.get? b = some o → h'.get? b = some o) → R (.ok (.ret (.bool true))) { s1.setGen gn .finished with heap := h' })
    (hF : ∀ (s1 : Shared) (H' : Hp) (pins' : List (Addr × Obj)) (σ' : L2.St) (gs' : GenState), gs'.bare = true → Inv (genX X (A.in1.in1.over (.compLoop (.GeneratorExp elt [⟨tg, iter, [], 0⟩] scope pos) 0 (.ref it) .none ce) []) sB HB ce fp pn) pins' σ' H' s1 → Qf H' → R (.ok (.ret (.bool false))) (s1.setGen gn gs')) :
    ∀ (k : Nat) (s : Shared), s.heap.IsGen a gn → s.heap.NoLimit →
      (∃ gs, s.gens[gn]? = some gs ∧ gs.Goes (model X.prog X.w) A.in1.in1 (Rg (genX X (A.in1.in1.over (.compLoop (.GeneratorExp elt [⟨tg, iter, [], 0⟩] scope pos) 0 (.ref it) .none ce) []) sB HB ce fp pn) (wipe σ own) Qt) (Yg (genX X (A.in1.in1.over (.compLoop (.GeneratorExp elt [⟨tg, iter, [], 0⟩] scope pos) 0 (.ref it) .none ce) []) sB HB ce fp pn) (wipe σ own) Qf) k (.send .none) (s.setGen gn .running)) →
      codeAny (model X.prog X.w) A (.builtin "all.loop" ⟨[.ref a], []⟩) R s := by
  intro k
  induction k with
  | zero =>
    intro s hg hl ⟨gs, hgs, hgo⟩
    refine codeAny_builtin F.entry_all_loop ?_
    rw [Around.under_plainId F.plain_all_loop _]
    show wpAny _ A.in1 (pyNext (.ref a) >>= _) _ _ s
    refine wpAny_bind (wpAny_pyNext_genexpQ (A := A.in1) (P := fun _ _ s => ∃ H', Inv (genX X (A.in1.in1.over (.compLoop (.GeneratorExp elt [⟨tg, iter, [], 0⟩] scope pos) 0 (.ref it) .none ce) []) sB HB ce fp pn) [] (wipe σ own) H' s ∧ Qt H') hh hl hd hg hgs hgo (fun v s1 gs' hb hv => ?_) (fun s1 hp h' hk => ?_))
    · obtain ⟨b, H', pins', σ', rfl, I1, hf, ht⟩ := hv
      refine wpAny_bind (wpAny_holding (wpAny_truthy_bool ?_))
      refine wpAny_bind (wpAny_letGo ?_)
      cases b with
      | true => exact (ht rfl s1 rfl rfl I1.bare).elim
      | false =>
        simp only [Bool.false_eq_true, if_false]
        exact wpAny_bind (wpAny_rule (wpAny_pure (hF s1 H' pins' σ' gs' hb I1 (hf rfl))))
    · obtain ⟨H', I1, qt⟩ := hp
      exact wpAny_bind (wpAny_rule (wpAny_pure (hT s1 H' I1 qt h' hk)))
  | succ k ih =>
    intro s hg hl ⟨gs, hgs, hgo⟩
    have hgl : gn < s.gens.size := (Array.getElem?_eq_some_iff.mp hgs).1
    refine codeAny_builtin F.entry_all_loop ?_
    rw [Around.under_plainId F.plain_all_loop _]
    show wpAny _ A.in1 (pyNext (.ref a) >>= _) _ _ s
    refine wpAny_bind (wpAny_gsz (n := gn + 1) hgl (wpAny_pyNext_genexpQ (A := A.in1) (P := fun _ _ s => ∃ H', Inv (genX X (A.in1.in1.over (.compLoop (.GeneratorExp elt [⟨tg, iter, [], 0⟩] scope pos) 0 (.ref it) .none ce) []) sB HB ce fp pn) [] (wipe σ own) H' s ∧ Qt H') hh hl hd hg hgs hgo (fun v s1 gs' hb hv => ?_) (fun s1 hp h' hk => ?_)))
    · intro hsz
      obtain ⟨b, H', pins', σ', rfl, I1, hf, ht⟩ := hv
      refine wpAny_bind (wpAny_holding (wpAny_truthy_bool ?_))
      refine wpAny_bind (wpAny_letGo ?_)
      cases b with
      | true =>
        simp only [if_true]
        have hsz1 : gn < s1.gens.size := by
          have q : (s1.setGen gn gs').gens.size = s1.gens.size := setGen_size _ _ _
          have hsz' : gn + 1 ≤ (s1.setGen gn gs').gens.size := hsz
          omega
        have ha : s1.heap.get? a = some gobj := (I1.pin (a, gobj) (List.mem_append_left _ (by rw [hpn]; exact List.mem_singleton.mpr rfl))).1
        refine wpAny_pure ⟨plainId_quiet F.plain_all_loop _, ih (s1.setGen gn gs') (hgen _ ha) I1.nolimit ⟨gs', setGen_at hsz1, ?_⟩⟩
        exact ht rfl _ rfl rfl (allBare_setGen (s := s1.setGen gn gs') (allBare_setGen I1.bare hb) rfl)
      | false =>
        simp only [Bool.false_eq_true, if_false]
        exact wpAny_bind (wpAny_rule (wpAny_pure (hF s1 H' pins' σ' gs' hb I1 (hf rfl))))
    · intro hsz
      obtain ⟨H', I1, qt⟩ := hp
      exact wpAny_bind (wpAny_rule (wpAny_pure (hT s1 H' I1 qt h' hk)))
end
/-- all(e for tg in iter); behind its making the def's table may have grown -/
def tAllG (P : Addr) (wi : TI) (g : TG) (te : TE) (own : List Nat) : TE := fun σ H Q => wi σ H fun J H1 => Tb H1 P ∧ ∀ H2, Sm H1 H2 → ∃ W : Nat → Nat → Hp → Prop, (∃ m, W 0 m H2) ∧ TurnsG J g te own σ (Q (.bl true)) (Q (.bl false)) W
section
variable {X : Cx} {c P : Addr} {elt tg iter : Expr} {p pos gpos : Pos} {scope : Scope} {own : List (Str × Nat)} {wi : TI} {g : TG} {te : TE} {k : Nat}
def gobjOf (gn : Nat) (nm qn : Value) : Obj := { cls := .type "generator", data := .fields #[.int gn 0, nm, qn] }
theorem gen_made {pins : List (Addr × Obj)} {σ : L2.St} {H : Hp} {s : Shared} {Q' : Value → Shared → Prop} {R : It → Hp → Prop} (hr : Room (k + 1) X.A) (TB : GxR.TabB X.base X.mg c P) (hN : X.N.Nodup) (ok : BlkOk X.N X.env.scope scope own) (hcell' : (scope.names.all fun y => decide (y.2 ≠ .cell)) = true) (hi : PI X tg iter wi)
    (hcode : X.env.code = .ref c) (hco : scope.isCoroutine = false) (h0 : scope.names.lookup (".0" : Str) = some NameKind.local) (hs : ∀ v, genFold iter X.env v = pure v) (I : Inv X pins σ H s) (h : wi σ H fun J H1 => Tb H1 P ∧ R J H1)
    (hQ : ∀ (J : It) (H1 HB : Hp) (sB s5 : Shared) (it : Addr) (fp : List Addr) (tn : Nat → Heap → Prop) (a : Addr) (gobj : Obj) (gn : Nat) (code : Value), R J H1 → Tb H1 P → Grew gpos P H1 HB → Inv X pins σ HB sB → Turn X.prog X.w X.K tg J fp it tn →
      (∀ b ∈ fp, FpOk X pins HB b ∧ b < sB.heap.objs.size) → tn 0 s5.heap → (∃ nm qn, gobj = gobjOf gn nm qn) → s5.heap.get? a = some gobj → a ∉ fp → s5.gens[gn]? = some (.fresh (.compStart (.GeneratorExp elt [⟨tg, iter, [], 0⟩] scope gpos) 0 (.ref it) .none (genE X scope sB.heap.objs.size code))) →
      Inv (genX X (X.A.in1.in1.over (.compLoop (.GeneratorExp elt [⟨tg, iter, [], 0⟩] scope gpos) 0 (.ref it) .none (genE X scope sB.heap.objs.size code)) []) sB HB (genE X scope sB.heap.objs.size code) fp [(a, gobj)]) [] (wipe σ (own.map (·.2))) HB s5 → Q' (.ref a) s5) :
    wpAny (model X.prog X.w) X.A (eval (.GeneratorExp elt [⟨tg, iter, [], 0⟩] scope gpos) X.env) Q' X.xe s := by
  have hcell : ∀ y ∈ scope.names, y.2 ≠ .cell := fun y hy => of_decide_eq_true (List.all_eq_true.mp hcell' y hy)
  have hfree : ∀ y ∈ scope.names, y.2 = .free → ∃ c, X.env.cells.lookup y.1 = some c := fun y hy e => by
    rcases ok.free y hy e with k | k
    · exact I.ok.has _ (.inl k)
    · exact I.ok.has _ (.inr k)
  refine wpAny_GeneratorExp_make hco (closure_ok hfree) hcell h0 ok.kind (by have := hr.dp; omega) ?_ hs
  refine thn (hi.run pins s σ H _ I h) fun xv s1 hx => thn hx fun itv s2 h2 => ?_
  obtain ⟨it, fp, tn, J, H2, rfl, I2, T, st2, f2, htb, q⟩ := h2
  obtain ⟨ps, hP, ht, _⟩ := id htb
  have hPs : s2.heap.get? P = some { cls := .none, data := .fields ps } := I2.hok P _ hP
  have cd : PySem.W.CodeHd s2.heap c P := TB.code.keeps fun b u e => I2.bk b u e
  refine ⟨I2.nolimit, ?_⟩
  have sz : ∀ b ∈ fp, b < s2.heap.objs.size := fun b hb => by
    obtain ⟨o, e, _⟩ := T.obj _ _ st2 b hb
    exact Heap.lt_size e
  have nP : ∀ b ∈ fp, b ≠ P := fun b hb z => by
    have := (f2 b hb).1
    rw [z, hP] at this
    cases this
  have cont : ∀ (code : Value) (h3 : Heap) (tk : Nat) (ps' : Array Value), Heap.ExtBut P s2.heap h3 → s2.heap.objs.size ≤ h3.objs.size → h3.get? P = some { cls := .none, data := .fields ps' } → (∃ more, ps' = ps ++ more ∧ (more = #[] ∨ ∃ cv, more = #[rawInt gpos.line, rawInt gpos.col, cv])) → TriplesOk ps'.toList →
      wpAny (model X.prog X.w) X.A (builtinsFor X.env.globals X.env.builtins) (fun bi s₄ =>
        ∀ h', h'.Ns s₄.heap.objs.size (fun y => if y = ".0" then some (Value.ref it) else none) → Heap.SameBut s₄.heap.objs.size (s₄.heap.push { cls := .type "frame", data := .dict #[] }) h' →
          Q' (.ref h'.objs.size) { s₄ with
            gens := s₄.gens.push (.fresh (.compStart (.GeneratorExp elt [⟨tg, iter, [], 0⟩] scope gpos) 0 (.ref it) .none (genEnv scope (cloFrom X.env.cells scope.names []) s₄.heap.objs.size code bi X.env))),
            toks := s₄.toks + 1 + 1 + 1,
            heap := h'.push { cls := .type "generator", data := .fields #[.int s₄.gens.size 0, .str "<genexpr>" (s₄.toks + 1), .str (X.env.qual ++ "<genexpr>") (s₄.toks + 1 + 1)] } }) X.xe { s2 with heap := h3, toks := tk } := by
    intro code h3 tk ps' hx hsz hP3 hmore ht3
    obtain ⟨more, em, em2⟩ := hmore
    obtain ⟨bm, ob, e1, e2, e3, e4, e5, e6, e7, e8⟩ := TB.bm
    have I3 := GxR.inv_tab (more := more) (h' := h3) (g' := s2.gens) (d' := s2.drawn) (t' := tk) I2 hP (fun b u hb e => hx b u hb e) (by rw [← em]; exact hP3) I2.bare
    refine wpAny_builtinsFor (m := X.mg) (by rw [I2.ok.glob]; exact (I2.mod.glob.keeps I2.bk).extBut hx TB.gP) e1 e2 (hx _ _ e4 (I2.bk _ _ e5)) e6 e7 e8 ?_
    intro h' hn' hs'
    have hsz' : h'.objs.size = h3.objs.size + 1 := by rw [hs'.1, Heap.size_push]
    have keep' : ∀ b o, h3.get? b = some o → h'.get? b = some o := fun b o e => hs'.extBut b o (Nat.ne_of_lt (Heap.lt_size e)) (Heap.get?_push_of_some _ e)
    have keep5 : ∀ b o, h3.get? b = some o → (h'.push (gobjOf s2.gens.size (.str "<genexpr>" (tk + 1)) (.str (X.env.qual ++ "<genexpr>") (tk + 1 + 1)))).get? b = some o := fun b o e => Heap.get?_push_of_some _ (keep' b o e)
    have fB : ∀ b ∈ fp, FpOk X pins (upd H2 P (.tbl (ps ++ more))) b ∧ b < h3.objs.size := fun b hb => by
      refine ⟨⟨?_, (f2 b hb).2⟩, Nat.lt_of_lt_of_le (sz b hb) hsz⟩
      rw [upd_ne (nP b hb)]
      exact (f2 b hb).1
    have st3 : tn 0 h3 := T.keep _ _ _ st2 fun b hb o e => hx b o (nP b hb) e
    have st5 : tn 0 (h'.push (gobjOf s2.gens.size (.str "<genexpr>" (tk + 1)) (.str (X.env.qual ++ "<genexpr>") (tk + 1 + 1)))) := T.keep _ _ _ st3 fun b _ o e => keep5 b o e
    refine hQ J H2 (upd H2 P (.tbl (ps ++ more))) _ _ it fp tn h'.objs.size _ s2.gens.size code q htb ⟨ps, more, hP, upd_same, by rw [← em]; exact ht3, em2, fun b hb => upd_ne hb⟩ I3 T fB st5 ⟨_, _, rfl⟩ (Heap.get?_push_size _ rfl) (fun hb => ?_) (Array.getElem?_push_size ..) ?_
    · have q1 : h'.objs.size < h3.objs.size := (fB _ hb).2
      rw [hsz'] at q1
      exact absurd (Nat.lt_trans (Nat.lt_succ_self _) q1) (Nat.lt_irrefl _)
    · refine gen_start (code := code) I3 ok hN fB hcell hr.hd ?_ rfl (by show h3.objs.size < h'.objs.size; omega) (Heap.get?_push_size _ rfl) (fun v z => by cases z) keep5 ⟨_, hn'.push _⟩
      show pushEnvs [_] (pushEnvs [] X.A.frames) = _
      rw [I.ok.frames]
      rfl
  cases hf : codeAmong gpos ps.toList with
  | none =>
    refine wpAny_genexprCodeX hcode (cd.code hPs ht) (cd.tab hPs) hf fun c' h' tk hx hge hlt hco' _ htab' _ => ?_
    obtain ⟨o1, vs, f1, tf, fl, tg, inF, tx, tt, op, _, _, _, _, _, _, _, _, _, htr, _⟩ := hco'
    exact cont _ h' tk _ hx (Nat.le_trans hge (Nat.le_of_lt hlt)) htab'.2 ⟨_, rfl, .inr ⟨_, rfl⟩⟩ htr
  | some cv =>
    refine wpAny_genexprCode_hit hcode (cd.code hPs ht) hf ?_
    exact cont cv s2.heap s2.toks ps (Heap.ExtBut.refl _ _) (Nat.le_refl _) hPs ⟨#[], by simp, .inl rfl⟩ ht
theorem pe_allG (hr : Room (k + 1) X.A) (TB : GxR.TabB X.base X.mg c P) (hN : X.N.Nodup) (ok : BlkOk X.N X.env.scope scope own) (hcell' : (scope.names.all fun y => decide (y.2 ≠ .cell)) = true) (hi : PI X tg iter wi) (hm : X.mg "all" = none)
    (hgt : ∀ (A' : Around) (s : Shared) (H : Hp) (C : Addr) (code : Value) (fp : List Addr) (pn : List (Addr × Obj)), Room k A' → PG (genX X A' s H (genE X scope C code) fp pn) tg g)
    (he : ∀ (A' : Around) (s : Shared) (H : Hp) (C : Addr) (code : Value) (fp : List Addr) (pn : List (Addr × Obj)), Room k A' → PE (genX X A' s H (genE X scope C code) fp pn) elt te)
    (hcode : X.env.code = .ref c := by rfl) (hc : X.calm = true := by rfl) (hg : Gl X "all" := by rfl) (hco : scope.isCoroutine = false := by rfl) (h0 : scope.names.lookup (".0" : Str) = some NameKind.local := by rfl)
    (hs : ∀ v, genFold iter X.env v = pure v := by intro _; rfl) (hl : ∀ x ∈ lams, ¬ (x.1.line = gpos.line ∧ x.1.col = gpos.col) := by decide)
    (hse : starEach [(.GeneratorExp elt [⟨tg, iter, [], 0⟩] scope gpos)] X.env = (false, eval (.GeneratorExp elt [⟨tg, iter, [], 0⟩] scope gpos) X.env) :: starEach [] X.env := by rfl) :
    PE X (.Call (.Name "all" p) [(.GeneratorExp elt [⟨tg, iter, [], 0⟩] scope gpos)] [] pos) (tAllG P wi g te (own.map (·.2))) := by
  refine ⟨fun pins s σ H Q I h => ?_⟩
  refine wpAny_Call_Name_kw (ld_blt I hg hm (show bootBuiltins "all" = some (.builtin "all") by decide +kernel) ?_)
  refine PyProof.Rows.callWith_builtin1 ?_ hse (by rfl)
  rw [hse]
  show wpAny _ _ (spliced ((false, eval (.GeneratorExp elt [⟨tg, iter, [], 0⟩] scope gpos) X.env) :: backTo pos (starEach [] X.env))) _ _ s
  refine Calls.spliced_cons (gen_made hr TB hN ok hcell' hi hcode hco h0 hs I h fun J H1 HB sB s5 it fp tn a gobj gn code q ht1 hTb IB T fB st5 hgo ha haf hgs I5 => ?_)
  refine Calls.spliced_nil ?_
  obtain ⟨W, ⟨m0, w0⟩, turns⟩ := q HB (Sm.tabbed ht1 hl hTb)
  obtain ⟨nm, qn, rfl⟩ := hgo
  have hgen : ∀ h : Heap, h.get? a = some (gobjOf gn nm qn) → h.IsGen a gn := fun h e => ⟨_, nm, qn, e, rfl, rfl, rfl⟩
  have hA : Room k (X.A.in1.in1.over (.compLoop (.GeneratorExp elt [⟨tg, iter, [], 0⟩] scope gpos) 0 (.ref it) .none (genE X scope sB.heap.objs.size code)) []) := by
    refine ⟨hr.hd, ?_, ?_⟩
    · have := hr.dp
      show X.A.depth + 0 + 1 + 3 * k + 5 < _
      omega
    · have := hr.un
      show X.A.units + 1 + 1 + 0 + 3 + 16 * k + 200 < _
      omega
  have back : ∀ {s1 : Shared} {H' : Hp} {pins' : List (Addr × Obj)} {σ' : L2.St} (s' : Shared), Inv (genX X (X.A.in1.in1.over (.compLoop (.GeneratorExp elt [⟨tg, iter, [], 0⟩] scope gpos) 0 (.ref it) .none (genE X scope sB.heap.objs.size code)) []) sB HB (genE X scope sB.heap.objs.size code) fp [(a, gobjOf gn nm qn)]) pins' σ' H' s1 → s'.os = s1.os → (∀ b o, s1.heap.get? b = some o → s'.heap.get? b = some o) → AllBare s'.gens → Inv X pins σ H' s' :=
    fun s' I1 ho hk hgb => IB.call' (ch := fp) (ho.trans I1.os) (I1.base.trans (Un.kept hk)) (I1.hok.kept hk) hgb fun b hb => ⟨(fB b hb).1.2.2.2.1, (fB b hb).1.2.1, (fB b hb).1.2.2.2.2.1, (fB b hb).1.2.2.2.2.2⟩
  refine call_function_tree F.kind_all F.plain_all F.entry_all (F.args_all1 _) ?_
  unfold Builtin.«all»
  refine wpAny_bind (m := oneArg "all" _) (wpAny_pure ?_)
  refine wpAny_bind (wpAny_pyIter_gen (hgen _ ha) ?_)
  refine wpAny_pure ⟨plainId_quiet F.plain_all_loop _, all_loop (X := X) (sB := sB) (HB := HB) (own := own.map (·.2)) (σ := σ) (Qt := Q (.bl true)) (Qf := Q (.bl false)) (fp := fp) (pn := [(a, gobjOf gn nm qn)]) (gobj := gobjOf gn nm qn) (ce := (genE X scope sB.heap.objs.size code)) (tg := tg) (iter := iter) (elt := elt) (scope := scope) (pos := gpos) (it := it) hr.hd (by have := hr.dp; omega) rfl hgen
    (fun s1 H' I1 qt h' hk => ?_) (fun s1 H' pins' σ' gs' hb I1 qf => ?_) (m0 + 1) s5 (hgen _ ha) I5.nolimit ⟨_, hgs, rfl, ?_⟩⟩
  · exact ⟨.bl true, H', back _ I1 rfl hk (allBare_setGen I1.bare rfl), rfl, qt⟩
  · exact ⟨.bl false, H', back _ I1 rfl (fun _ _ e => e) (allBare_setGen I1.bare hb), rfl, qf⟩
  · have I5' := regens (s' := s5.setGen gn .running) I5 rfl rfl (allBare_setGen I5.bare rfl)
    refine seg_allStart T st5 (seg_allLoop (own := own.map (·.2)) hc T turns hco (fun p hp => ?_) (hgt _ _ _ _ _ _ _ hA) (he _ _ _ _ _ _ _ hA) (m0 + 1) 0 m0 _ _ HB (Nat.lt_succ_self _) w0 I5' st5 fun b hb => (fB b hb).1.1)
    rw [List.mem_singleton.mp hp]
    exact haf
end
end GA
/-! ### classes: instances made, methods called, methods as values -/
structure Ftm (K : PySem.W.Frag) (C : Addr) (m qual : Str) (st : Stmt) (ps : List Str) : Prop where
  ex : ∃ (f : Addr) (fd : FuncData), Fun K m qual st f fd ∧ Meth K C m f ∧ Binds K fd ps []
/-- the def at f -/
def LkF (K : PySem.W.Frag) (f : Addr) (fd : FuncData) : Prop := ∃ (oc : Value) (od : Option Addr) (osl : Array (Option Value)), K.lookup f = some ⟨oc, od, .func fd, osl⟩
theorem LkF.of {K : PySem.W.Frag} {m qual : Str} {st : Stmt} {f : Addr} {fd : FuncData} (F : Fun K m qual st f fd) : LkF K f fd := by
  obtain ⟨oc, od, _, _, _, _, _, _, osl, _, lk, _⟩ := F.ex
  exact ⟨oc, od, osl, lk⟩
theorem LkF.ofD {K : PySem.W.Frag} {x qual : Str} {params : Arguments} {body : List Stmt} {scope : Scope} {dvs : List V} {kws : List (Str × V)} {f : Addr} {fd : FuncData} (F : FunD K x qual params body scope dvs kws f fd) : LkF K f fd := by
  obtain ⟨oc, od, _, _, _, _, _, _, _, osl, _, lk, _⟩ := F.ex
  exact ⟨oc, od, osl, lk⟩
/-- a method that keeps a promise -/
structure CalM (P : Program) (w : World) (K : PySem.W.Frag) (mg : Str → Option Value) (base : Heap) (k : Nat) (C : Addr) (m : Str) (ps : List Str) (sp : Sp) : Prop where
  ex : ∃ (f : Addr) (fd : FuncData), FnOk P w K mg base CX0 k f fd ps sp ∧ Meth K C m f ∧ Binds K fd ps [] ∧ LkF K f fd
/-- a class that is made by its name; what is missing of its arguments is dvs -/
structure CalC (P : Program) (w : World) (K : PySem.W.Frag) (mg : Str → Option Value) (base : Heap) (k : Nat) (x : Str) (C : Addr) (ps : List Str) (dvs : List V) (sp : Sp) : Prop where
  ex : ∃ (f : Addr) (fd : FuncData) (ds : List Value), FnOk P w K mg base CX0 k f fd ps sp ∧ Mk K C f ∧ Binds K fd ps ds ∧ Vals dvs ds ∧ mg x = some (.ref C) ∧ LkF K f fd
structure Ftk (K : PySem.W.Frag) (mg : Str → Option Value) (x : Str) (C : Addr) (qual : Str) (st : Stmt) (ps : List Str) (dvs : List V) : Prop where
  ex : ∃ (f : Addr) (fd : FuncData) (ds : List Value), FunD K "__init__" qual (defArgs st) (defBody st) (defScope st) dvs [] f fd ∧ Mk K C f ∧ Binds K fd ps ds ∧ Vals dvs ds ∧ mg x = some (.ref C)
/-- the method m of the class at C is the def at g, and may be taken as a value -/
structure Bm (K : PySem.W.Frag) (C : Addr) (m qual : Str) (st : Stmt) (g : Addr) (ps : List Str) : Prop where
  ex : ∃ fd : FuncData, Fun K m qual st g fd ∧ BMeth K C m g ∧ Binds K fd ps []
section
variable {P : Program} {w : World} {K : PySem.W.Frag} {mg : Str → Option Value} {base : Heap} {C : Addr} {x m qual : Str} {st : Stmt} {N ps : List Str} {dvs : List V} {sp : Sp} {k : Nat}
theorem Ftm.cal (F : Ftm K C m qual st ps) (S : FnScope N ps (defScope st)) (len : ∀ vs H Q E, sp vs H Q E → vs.length = ps.length)
    (h : ∀ (f : Addr) (cdv : Value) (A : Around) (outer : List Env) (s : Shared) (H : Hp) (vs : List V) (Q : VK) (E : XK), Room k (A.deeper (PyProof.Rows.envOfC qual (defScope st) s.heap.objs.size f cdv)) → sp vs H Q E →
      ∃ t, PSs (cxOf CX0 P w K mg base N qual (defScope st) f cdv A outer s H E).nox (defBody st) t ∧ t { nx := fun _ H' => Q .non H', rt := Q } (start N vs) H) : CalM P w K mg base (k + 1) C m ps sp := by
  obtain ⟨f, fd, F1, M, b⟩ := F.ex
  exact ⟨f, fd, F1.ok S len (h f), M, b, LkF.of F1⟩
theorem Ftk.cal (F : Ftk K mg x C qual st ps dvs) (S : FnScope N ps (defScope st)) (len : ∀ vs H Q E, sp vs H Q E → vs.length = ps.length)
    (h : ∀ (f : Addr) (cdv : Value) (A : Around) (outer : List Env) (s : Shared) (H : Hp) (vs : List V) (Q : VK) (E : XK), Room k (A.deeper (PyProof.Rows.envOfC qual (defScope st) s.heap.objs.size f cdv)) → sp vs H Q E →
      ∃ t, PSs (cxOf CX0 P w K mg base N qual (defScope st) f cdv A outer s H E).nox (defBody st) t ∧ t { nx := fun _ H' => Q .non H', rt := Q } (start N vs) H) : CalC P w K mg base (k + 1) x C ps dvs sp := by
  obtain ⟨f, fd, ds, F1, M, b, hd, hm⟩ := F.ex
  refine ⟨f, fd, ds, F1.ok S len fun cdv A outer s H vs Q E hr hsp => ?_, M, b, hd, hm, LkF.ofD F1⟩
  obtain ⟨t, h1, q⟩ := h f cdv A outer s H vs Q E hr hsp
  exact ⟨t, h1.nox, q⟩
theorem CalM.mono {j : Nat} (F : CalM P w K mg base j C m ps sp) (h : j ≤ k) : CalM P w K mg base k C m ps sp := by
  obtain ⟨f, fd, F1, M, b, l⟩ := F.ex
  exact ⟨f, fd, F1.mono h, M, b, l⟩
/-- at its own address -/
theorem Bm.ok {g : Addr} (F : Bm K C m qual st g ps) (S : FnScope N ps (defScope st)) (len : ∀ vs H Q E, sp vs H Q E → vs.length = ps.length)
    (h : ∀ (cdv : Value) (A : Around) (outer : List Env) (s : Shared) (H : Hp) (vs : List V) (Q : VK) (E : XK), Room k (A.deeper (PyProof.Rows.envOfC qual (defScope st) s.heap.objs.size g cdv)) → sp vs H Q E →
      ∃ t, PSs (cxOf CX0 P w K mg base N qual (defScope st) g cdv A outer s H E).nox (defBody st) t ∧ t { nx := fun _ H' => Q .non H', rt := Q } (start N vs) H) :
    ∃ fd, FnOk P w K mg base CX0 (k + 1) g fd ps sp ∧ BMeth K C m g ∧ Binds K fd ps [] := by
  obtain ⟨fd, F1, M, b⟩ := F.ex
  exact ⟨fd, F1.ok S len h, M, b⟩
end
section
variable {X : Cx} {C : Addr} {m x : Str} {ps : List Str} {sp : Sp} {k : Nat} {o e : Expr} {es : List Expr} {ta : TE} {t : TA} {p apos pos : Pos} {pl : Sem Bool} {dvs : List V}
theorem pe_calM (F : CalM X.prog X.w X.K X.mg X.base k C m ps sp) (c : Cls X.K C) (hr : Room k X.A) (he : PE X o ta) (ha : PA X (e :: es) t)
    (hst : starEach (e :: es) X.env = (false, eval e X.env) :: starEach es X.env := by rfl) (hpl : (backTo pos (starEach es X.env)).any (·.1) = false := by rfl)
    (ht : eval (.Call (.Attribute o m apos) (e :: es) [] pos) X.env = (do let ov ← eval o X.env; standAt apos.atName; let (f, first) ← holding [ov] (getMethod ov m pl); callWith pos f first (backTo pos (starEach (e :: es) X.env)) (backToKw pos (keywordEach [] X.env))) := by rfl) :
    PE X (.Call (.Attribute o m apos) (e :: es) [] pos) (tMeth C m sp [] E0 ta t) := by
  obtain ⟨f, fd, F1, M, b, _⟩ := F.ex
  exact pe_meth he c M F1 hr b .nil pass0 ha hst hpl ht
theorem pe_calM0 (F : CalM X.prog X.w X.K X.mg X.base k C m ps sp) (c : Cls X.K C) (hr : Room k X.A) (he : PE X o ta)
    (ht : eval (.Call (.Attribute o m apos) [] [] pos) X.env = (do let ov ← eval o X.env; standAt apos.atName; let (f, first) ← holding [ov] (getMethod ov m pl); callWith pos f first (backTo pos (starEach [] X.env)) (backToKw pos (keywordEach [] X.env))) := by rfl) :
    PE X (.Call (.Attribute o m apos) [] [] pos) (tMeth C m sp [] E0 ta tNil) := by
  obtain ⟨f, fd, F1, M, b, _⟩ := F.ex
  exact pe_meth0 he c M F1 hr b .nil pass0 ht
theorem pe_calC (F : CalC X.prog X.w X.K X.mg X.base k x C ps dvs sp) (hr : Room (k + 1) X.A) (ha : PA X (e :: es) t) (hg : Gl X x := by rfl) (hdb : (x == ("__debug__" : Str)) = false := by decide)
    (he : starEach (e :: es) X.env = (false, eval e X.env) :: starEach es X.env := by rfl) (hpl : (backTo pos (starEach es X.env)).any (·.1) = false := by rfl) : PE X (.Call (.Name x p) (e :: es) [] pos) (tMake C sp dvs E0 t) := by
  obtain ⟨f, fd, ds, F1, M, b, hd, hm, _⟩ := F.ex
  exact pe_make M F1 hr hg hm b hd pass0 ha hdb he hpl
theorem pe_calC0 (F : CalC X.prog X.w X.K X.mg X.base k x C ps dvs sp) (hr : Room (k + 1) X.A) (hg : Gl X x := by rfl) (hdb : (x == ("__debug__" : Str)) = false := by decide) : PE X (.Call (.Name x p) [] [] pos) (tMake C sp dvs E0 tNil) := by
  obtain ⟨f, fd, ds, F1, M, b, hd, hm, _⟩ := F.ex
  exact pe_make0 M F1 hr hg hm b hd pass0 hdb
theorem pe_fldK {K : PySem.W.Frag} {f : Str} (he : PE X e ta) (hb : attributeBase e f X.env (eval e X.env) = eval e X.env := by rfl) (hK : X.K = K := by rfl) : PE X (.Attribute e f pos) (tFld K ta f) := by
  subst hK
  exact pe_fld he hb
/-- a statement that is never come to -/
theorem ps_dead {st : Stmt} : PS X st (fun _ _ _ => False) := ⟨fun _ _ _ _ _ _ h => h.elim⟩
/-- o.m, not called: a new bound method -/
def tBnd (C g : Addr) (m : Str) (ta : TE) : TE := fun σ H Q => ta σ H fun x H1 => ∃ a dx fs, x = .ref a ∧ H1 a = some (.ins C dx fs) ∧ fs.lookup m = none ∧ ∀ q, H1 q = none → Q (.ref q) (upd H1 q (.met g a))
theorem pe_bnd {g : Addr} (he : PE X e ta) (c : Cls X.K C) (b : BMeth X.K C m g) (hb : attributeBase e m X.env (eval e X.env) = eval e X.env := by rfl) : PE X (.Attribute e m pos) (tBnd C g m ta) := by
  refine ⟨fun pins s σ H Q I h => ?_⟩
  refine attr_of hb (thn (he.run pins s σ H _ I h) fun u s1 ⟨x, H1, I1, rx, a, dx, fs, ex, ea, l, q⟩ => ?_)
  subst ex
  exact op_getbound I1 ea c b l rx q
/-- y(e, ..), y a name that holds a bound method; S tells what the method's def promises -/
def tMet (i : Nat) (S : Addr → Option Sp) (t : TA) : TE := fun σ H Q => ∃ q g a sp, σ[i]? = some (some (.ref q)) ∧ H q = some (.met g a) ∧ S g = some sp ∧ t σ H fun vs H1 => H1 q = some (.met g a) ∧ sp (.ref a :: vs) H1 Q E0
structure HeldM (P : Program) (w : World) (K : PySem.W.Frag) (mg : Str → Option Value) (base : Heap) (k : Nat) (g : Addr) (sp : Sp) : Prop where
  ex : ∃ (fd : FuncData) (ps : List Str), FnOk P w K mg base CX0 k g fd ps sp ∧ PySem.W.fnIn K g = true ∧ Binds K fd ps []
theorem pe_met {i : Nat} {S : Addr → Option Sp} (A : ∀ g sp, S g = some sp → HeldM X.prog X.w X.K X.mg X.base k g sp) (hr : Room k X.A) (hN : X.N[i]? = some x) (hv : Vis X.env.scope x) (ha : PA X (e :: es) t)
    (hdb : (x == ("__debug__" : Str)) = false := by decide) (hcd : (x == ("__classdict__" : Str)) = false := by decide)
    (he : starEach (e :: es) X.env = (false, eval e X.env) :: starEach es X.env := by rfl) (hpl : (backTo pos (starEach es X.env)).any (·.1) = false := by rfl) : PE X (.Call (.Name x p) (e :: es) [] pos) (tMet i S t) := by
  refine ⟨fun pins s σ H Q I h => ?_⟩
  obtain ⟨q, g, a, sp, hs, hq, hS, ht⟩ := h
  obtain ⟨fd, ps, F, hfi, hb⟩ := (A g sp hS).ex
  refine wpAny_Call_Name_kw (thn ((pe_var (pos := p) hN hv hdb hcd).run pins s σ H (fun v H1 => v = .ref q ∧ H1 = H) I ⟨.ref q, hs, rfl, rfl⟩) fun u s1 ⟨v, H1, I1, r1, q1⟩ => ?_)
  obtain ⟨rfl, rfl⟩ := q1
  cases r1
  have args := ha.run pos pins s1 σ _ _ I1 ht
  rw [he] at args ⊢
  refine callwith_met (by show ((false || (backTo pos (starEach es X.env)).any (·.1)) || false) = false; rw [hpl]; rfl) hfi (PySem.Calls.evalArgs_plain (thn args fun us s2 ⟨vs, H2, I2, r, hq2, q2⟩ => ⟨met_P I2 hq2, ?_⟩))
  have r2 : Vals (V.ref a :: vs) (Value.ref a :: us) := .cons rfl r
  have hl : (Value.ref a :: us ++ []).length = ps.length := by rw [List.append_nil, ← r2.length]; exact F.len _ _ _ _ q2
  have hbt := hb s2 (Value.ref a :: us) I2.kIn hl
  rw [List.append_nil] at hbt
  refine wpAny_call (call_met I2 hq2 (codeAny_mono (F.run X.A X.stack s2 H2 ⟨.ref a :: us, []⟩ (.ref a :: us) (.ref a :: vs) Q E0 hr I2.env0 hbt r2 q2) fun r3 s3 hq3 => match r3, hq3 with
    | .error _, z => (z : False).elim
    | .ok (.ret _), z => I2.after z
    | .ok .next, z => (z : False).elim
    | .ok .brk, z => (z : False).elim
    | .ok .cont, z => (z : False).elim))
end
/-! ### methods with keyword-only parameters that have constants for defaults -/
structure Ftw (K : PySem.W.Frag) (C : Addr) (m qual : Str) (st : Stmt) (kws : List (Str × V)) : Prop where
  ex : ∃ (f : Addr) (fd : FuncData), FunD K m qual (defArgs st) (defBody st) (defScope st) [] kws f fd ∧ Meth K C m f
/-- how such a method's parameters bind: none of the keywords written, or all of them in their order -/
structure KwS (x qual : Str) (st : Stmt) (ps : List Str) (n : Nat) (kws : List Str) : Prop where
  none : ∀ (D : Addr) (doc pm : Value) (an : Option Addr) (cdv ct : Value) (us ks : List Value), us.length = n → ks.length = kws.length → KwChain D (kws.zip ks) (bindArgs (PySem.W.fnOf x qual (defArgs st) (defBody st) (defScope st) .none (.ref D) doc pm an cdv ct) ⟨us, []⟩) (ps.zip (us ++ ks))
  all : ∀ (D : Addr) (doc pm : Value) (an : Option Addr) (cdv ct : Value) (us ws : List Value), us.length = n → ws.length = kws.length → bindArgs (PySem.W.fnOf x qual (defArgs st) (defBody st) (defScope st) .none (.ref D) doc pm an cdv ct) ⟨us, kws.zip ws⟩ = pure (ps.zip (us ++ ws))
structure CalW (P : Program) (w : World) (K : PySem.W.Frag) (mg : Str → Option Value) (base : Heap) (k : Nat) (C : Addr) (m : Str) (ps : List Str) (n : Nat) (kws : List (Str × V)) (sp : Sp) : Prop where
  ex : ∃ (f : Addr) (fd : FuncData), FnOk P w K mg base CX0 k f fd ps sp ∧ Meth K C m f ∧ (∃ ds, Vals (kws.map (·.2)) ds ∧ Binds K fd ps ds) ∧ KBn K fd ps n (kws.map (·.1)) (fun us ws => us ++ ws) (fun vs zs => vs ++ zs) ∧ LkF K f fd
section
variable {P : Program} {w : World} {K : PySem.W.Frag} {mg : Str → Option Value} {base : Heap} {C : Addr} {m qual : Str} {st : Stmt} {N ps : List Str} {sp : Sp} {k n : Nat} {kws : List (Str × V)}
theorem Ftw.cal (F : Ftw K C m qual st kws) (B : KwS m qual st ps n (kws.map (·.1))) (hk : kws ≠ []) (hn : n + kws.length = ps.length) (S : FnScope N ps (defScope st)) (len : ∀ vs H Q E, sp vs H Q E → vs.length = ps.length)
    (h : ∀ (f : Addr) (cdv : Value) (A : Around) (outer : List Env) (s : Shared) (H : Hp) (vs : List V) (Q : VK) (E : XK), Room k (A.deeper (PyProof.Rows.envOfC qual (defScope st) s.heap.objs.size f cdv)) → sp vs H Q E →
      ∃ t, PSs (cxOf CX0 P w K mg base N qual (defScope st) f cdv A outer s H E).nox (defBody st) t ∧ t { nx := fun _ H' => Q .non H', rt := Q } (start N vs) H) : CalW P w K mg base (k + 1) C m ps n kws sp := by
  obtain ⟨f, fd, F1, M⟩ := F.ex
  refine ⟨f, fd, F1.ok S len fun cdv A outer s H vs Q E hr hsp => ?_, M, ?_, ?_, LkF.ofD F1⟩
  · obtain ⟨t, h1, q⟩ := h f cdv A outer s H vs Q E hr hsp
    exact ⟨t, h1.nox, q⟩
  · exact F1.binds0 n hk hn fun D doc pm an cdv ct us ks l1 l2 => B.none D doc pm an cdv ct us ks l1 (by rw [List.length_map]; exact l2)
  · obtain ⟨mv, z⟩ := F1.kbinds0 (ps := ps) n (kws.map (·.1)) [] (fun us _ ws => us ++ ws) hk (fun q hq => (nomatch hq)) (fun r1 _ r3 => Vals.append r1 r3) fun D doc pm an cdv ct us mv ws l1 l2 l3 => B.all D doc pm an cdv ct us ws l1 l3
    exact z
end
def tMethN (C : Addr) (m : Str) (n j : Nat) (sp : Sp) (ta : TE) (t tk : TA) : TE := fun σ H Q => ta σ H fun x H1 => ∃ a dx fs, x = .ref a ∧ H1 a = some (.ins C dx fs) ∧ fs.lookup m = none ∧ t σ H1 fun vs H2 => tk σ H2 fun zs H3 => vs.length + 1 = n ∧ zs.length = j ∧ sp (.ref a :: vs ++ zs) H3 Q E0
section
variable {X : Cx} {C : Addr} {m : Str} {ps : List Str} {sp : Sp} {k n : Nat} {o e : Expr} {es : List Expr} {ta : TE} {t tk : TA} {apos pos : Pos} {pl : Sem Bool} {kws : List (Str × V)} {kwe : List Keyword}
theorem pe_calW (F : CalW X.prog X.w X.K X.mg X.base k C m ps n kws sp) (c : Cls X.K C) (hr : Room k X.A) (he : PE X o ta) (ha : PA X (e :: es) t)
    (hst : starEach (e :: es) X.env = (false, eval e X.env) :: starEach es X.env := by rfl) (hpl : (backTo pos (starEach es X.env)).any (·.1) = false := by rfl)
    (ht : eval (.Call (.Attribute o m apos) (e :: es) [] pos) X.env = (do let ov ← eval o X.env; standAt apos.atName; let (f, first) ← holding [ov] (getMethod ov m pl); callWith pos f first (backTo pos (starEach (e :: es) X.env)) (backToKw pos (keywordEach [] X.env))) := by rfl) :
    PE X (.Call (.Attribute o m apos) (e :: es) [] pos) (tMeth C m sp (kws.map (·.2)) E0 ta t) := by
  obtain ⟨f, fd, F1, M, ⟨ds, vd, b⟩, _⟩ := F.ex
  exact pe_meth he c M F1 hr b vd pass0 ha hst hpl ht
theorem pe_calWN (F : CalW X.prog X.w X.K X.mg X.base k C m ps n kws sp) (c : Cls X.K C) (hr : Room k X.A) (he : PE X o ta) (ha : PA X (e :: es) t) (hkw : PK X kwe tk)
    (hall : (backToKw pos (keywordEach kwe X.env)).all (·.1.isSome) = true := by rfl) (hks : (backToKw pos (keywordEach kwe X.env)).filterMap (·.1) = kws.map (·.1) := by rfl)
    (hst : starEach (e :: es) X.env = (false, eval e X.env) :: starEach es X.env := by rfl) (hpl : ((backTo pos (starEach (e :: es) X.env)).any (·.1) || (backToKw pos (keywordEach kwe X.env)).any (·.1.isNone)) = false := by rfl)
    (ht : eval (.Call (.Attribute o m apos) (e :: es) kwe pos) X.env = (do let ov ← eval o X.env; standAt apos.atName; let (f, first) ← holding [ov] (getMethod ov m pl); callWith pos f first (backTo pos (starEach (e :: es) X.env)) (backToKw pos (keywordEach kwe X.env))) := by rfl) :
    PE X (.Call (.Attribute o m apos) (e :: es) kwe pos) (tMethN C m n kws.length sp ta t tk) := by
  obtain ⟨f, fd, F1, M, _, kb, _⟩ := F.ex
  refine ⟨fun pins s σ H Q I h => ?_⟩
  refine PySem.W.methodCall_KW (pl := pl) (thn (he.run pins s σ H _ I h) fun u s1 ⟨x, H1, I1, rx, a, dx, fs, ex, ea, l, q⟩ => ?_) ht
  subst ex
  obtain rfl : u = Value.ref a := rx
  refine getmeth_ok I1 ea c M l ?_
  refine PySem.W.callWith_KW (first := [.ref a]) (h₀ := X.base) I.ok.mod.kin M.kp hall (thn (ha.run pos pins s1 σ H1 _ I1 q) fun us s2 ⟨vs, H2, I2, r, q2⟩ => ?_) hpl hst
  refine thn (hkw.run pos pins s2 σ H2 _ I2 q2) fun ws s3 ⟨zs, H3, I3, rz, l1, l2, q3⟩ => ⟨I3.kIn, ?_⟩
  rw [hks]
  exact run_fnN (us := .ref a :: us) (vs := .ref a :: vs) F1 hr kb pass0 I3 (.cons rfl r) rz l1 (by rw [List.length_map]; exact l2) q3
end
/-! ### the errors' classes: what their text says of them -/
structure ErrC (K : PySem.W.Frag) (C : Addr) : Prop where
  ex : PySem.W.excIn K C He.veBase "ValueError.__new__" = true
  kp : PySem.W.keepIn K (.ref C) = true
  bs : PySem.W.subIn K (.ref C) (.type "BaseException") = some true
  ty : PySem.W.typeIn K (.ref C) = some (.type "type")
  ve : PySem.W.kitOne K (.ref C) (.type "ValueError") = some true
  is : ExcC K C
def errB (K : PySem.W.Frag) (C : Addr) : Bool :=
  PySem.W.excIn K C He.veBase "ValueError.__new__" && (PySem.W.keepIn K (.ref C) && (decide (PySem.W.subIn K (.ref C) (.type "BaseException") = some true) && (decide (PySem.W.typeIn K (.ref C) = some (.type "type")) && (decide (PySem.W.kitOne K (.ref C) (.type "ValueError") = some true) &&
    (decide (PySem.W.findIn K (.ref C) "__getattribute__" = some (some (.builtin "BaseException.__getattribute__"))) && (decide (PySem.W.findIn K (.ref C) "__getattr__" = some none) && (PySem.W.hasDictIn K C && (decide (PySem.W.findIn K (.ref C) "__class__" = some (some (.builtin "object.__class__"))) &&
      (decide (PySem.W.specialIn K (.builtin "object.__class__") "__get__" = some (some (.builtin "getset_descriptor.__get__"))) && (decide (PySem.W.takesIn K (.builtin "object.__class__") = some true) && decide (PySem.W.mroIn K C (.type "object") = some true)))))))))))
theorem errB_ok {K : PySem.W.Frag} {C : Addr} (h : errB K C = true) : ErrC K C := by
  unfold errB at h
  simp only [Bool.and_eq_true, decide_eq_true_eq] at h
  obtain ⟨h1, h2, h3, h4, h5, h6, h7, h8, h9, h10, h11, h12⟩ := h
  exact ⟨h1, h2, h3, h4, h5, h6, h7, h3, h8, h9, h10, h11, h12⟩
/-- of errors that are raised, and all errors that are spoken of -/
def errsB (K : PySem.W.Frag) (raised all : List Str) : Bool := (raised.all fun D => errB K (He.ga K D)) && raised.all fun D => all.all fun C =>
  decide (PySem.W.kitOne K (.ref (He.ga K D)) (.ref (He.ga K C)) = some (decide (D = C) || decide (C = "StemError"))) && decide (PySem.W.exmOne K (.ref (He.ga K D)) (.ref (He.ga K C)) = some (decide (D = C) || decide (C = "StemError")))
theorem errsB_ok {K : PySem.W.Frag} {raised all : List Str} (h : errsB K raised all = true) : (∀ D ∈ raised, ErrC K (He.ga K D)) ∧ (∀ D ∈ raised, ∀ C ∈ all, PySem.W.kitOne K (.ref (He.ga K D)) (.ref (He.ga K C)) = some (decide (D = C) || decide (C = "StemError"))) ∧
    ∀ D ∈ raised, ∀ C ∈ all, PySem.W.exmOne K (.ref (He.ga K D)) (.ref (He.ga K C)) = some (decide (D = C) || decide (C = "StemError")) := by
  unfold errsB at h
  rw [Bool.and_eq_true] at h
  have g := fun D hD C hC => Bool.and_eq_true_iff.mp (List.all_eq_true.mp (List.all_eq_true.mp h.2 D hD) C hC)
  exact ⟨fun D hD => errB_ok (List.all_eq_true.mp h.1 D hD), fun D hD C hC => of_decide_eq_true (g D hD C hC).1, fun D hD C hC => of_decide_eq_true (g D hD C hC).2⟩
def top (i : Nat) : Stmt := PySem.Challenge.pw_stemkeep_k15_short_refused.main.body.getD i (.Pass ⟨0, 0, 0, 0⟩)
abbrev sIsWorth : Stmt := top 23
theorem scIsWorth : FnScope ["thing", "sign"] ["thing"] (defScope sIsWorth) := ⟨rfl, rfl, rfl, by decide +kernel, rfl, by decide +kernel, by decide +kernel⟩
abbrev sNumberOf : Stmt := top 24
theorem scNumberOf : FnScope ["worth", "start", "end", "number"] ["worth"] (defScope sNumberOf) := ⟨rfl, rfl, rfl, by decide +kernel, rfl, by decide +kernel, by decide +kernel⟩
abbrev sNumberOfFigures : Stmt := top 25
theorem scNumberOfFigures : FnScope ["figures", "first", "number", "at"] ["figures"] (defScope sNumberOfFigures) := ⟨rfl, rfl, rfl, by decide +kernel, rfl, by decide +kernel, by decide +kernel⟩
abbrev sIsNumberText : Stmt := top 26
theorem scIsNumberText : FnScope ["worth", "figures", "sign"] ["worth"] (defScope sIsNumberText) := ⟨rfl, rfl, rfl, by decide +kernel, rfl, by decide +kernel, by decide +kernel⟩
abbrev sIsKey : Stmt := top 27
theorem scIsKey : FnScope ["thing"] ["thing"] (defScope sIsKey) := ⟨rfl, rfl, rfl, by decide +kernel, rfl, by decide +kernel, by decide +kernel⟩
abbrev sKeyRank : Stmt := top 28
theorem scKeyRank : FnScope ["key"] ["key"] (defScope sKeyRank) := ⟨rfl, rfl, rfl, by decide +kernel, rfl, by decide +kernel, by decide +kernel⟩
abbrev sBefore : Stmt := top 29
theorem scBefore : FnScope ["one", "other"] ["one", "other"] (defScope sBefore) := ⟨rfl, rfl, rfl, by decide +kernel, rfl, by decide +kernel, by decide +kernel⟩
abbrev sIsName : Stmt := top 30
theorem scIsName : FnScope ["thing", "sign"] ["thing"] (defScope sIsName) := ⟨rfl, rfl, rfl, by decide +kernel, rfl, by decide +kernel, by decide +kernel⟩
abbrev sIsRow : Stmt := top 31
theorem scIsRow : FnScope ["thing", "key"] ["thing"] (defScope sIsRow) := ⟨rfl, rfl, rfl, by decide +kernel, rfl, by decide +kernel, by decide +kernel⟩
abbrev sIsAskingRow : Stmt := top 32
theorem scIsAskingRow : FnScope ["thing", "last"] ["thing"] (defScope sIsAskingRow) := ⟨rfl, rfl, rfl, by decide +kernel, rfl, by decide +kernel, by decide +kernel⟩
abbrev sIsPair : Stmt := top 33
theorem scIsPair : FnScope ["thing"] ["thing"] (defScope sIsPair) := ⟨rfl, rfl, rfl, by decide +kernel, rfl, by decide +kernel, by decide +kernel⟩
abbrev sIsReference : Stmt := top 34
theorem scIsReference : FnScope ["thing"] ["thing"] (defScope sIsReference) := ⟨rfl, rfl, rfl, by decide +kernel, rfl, by decide +kernel, by decide +kernel⟩
abbrev sIsAskingReference : Stmt := top 35
theorem scIsAskingReference : FnScope ["thing"] ["thing"] (defScope sIsAskingReference) := ⟨rfl, rfl, rfl, by decide +kernel, rfl, by decide +kernel, by decide +kernel⟩
abbrev sNeedReference : Stmt := top 39
theorem scNeedReference : FnScope ["thing"] ["thing"] (defScope sNeedReference) := ⟨rfl, rfl, rfl, by decide +kernel, rfl, by decide +kernel, by decide +kernel⟩
abbrev sNeedAskingReference : Stmt := top 40
theorem scNeedAskingReference : FnScope ["thing"] ["thing"] (defScope sNeedAskingReference) := ⟨rfl, rfl, rfl, by decide +kernel, rfl, by decide +kernel, by decide +kernel⟩
abbrev sNeedWorth : Stmt := top 41
theorem scNeedWorth : FnScope ["thing"] ["thing"] (defScope sNeedWorth) := ⟨rfl, rfl, rfl, by decide +kernel, rfl, by decide +kernel, by decide +kernel⟩
abbrev sHowManyAhead : Stmt := top 43
theorem scHowManyAhead : FnScope ["row", "key", "low", "high", "middle"] ["row", "key"] (defScope sHowManyAhead) := ⟨rfl, rfl, rfl, by decide +kernel, rfl, by decide +kernel, by decide +kernel⟩
abbrev sTreeInit : Stmt := inClass (top 44) 0
theorem scTreeInit : FnScope ["self"] ["self"] (defScope sTreeInit) := ⟨rfl, rfl, rfl, by decide +kernel, rfl, by decide +kernel, by decide +kernel⟩
abbrev sTreeAt : Stmt := inClass (top 44) 1
theorem scTreeAt : FnScope ["self", "path", "place", "key"] ["self", "path"] (defScope sTreeAt) := ⟨rfl, rfl, rfl, by decide +kernel, rfl, by decide +kernel, by decide +kernel⟩
abbrev sTreePlant : Stmt := inClass (top 44) 2
theorem scTreePlant : FnScope ["self", "path", "worth", "place"] ["self", "path", "worth"] (defScope sTreePlant) := ⟨rfl, rfl, rfl, by decide +kernel, rfl, by decide +kernel, by decide +kernel⟩
abbrev sTreeMade : Stmt := inClass (top 44) 4
theorem scTreeMade : FnScope ["self", "path", "place", "key"] ["self", "path"] (defScope sTreeMade) := ⟨rfl, rfl, rfl, by decide +kernel, rfl, by decide +kernel, by decide +kernel⟩
abbrev sTreeCut : Stmt := inClass (top 44) 6
theorem scTreeCut : FnScope ["self", "path", "size", "above"] ["self", "path"] (defScope sTreeCut) := ⟨rfl, rfl, rfl, by decide +kernel, rfl, by decide +kernel, by decide +kernel⟩
abbrev sTreeNextKey : Stmt := inClass (top 44) 7
theorem scTreeNextKey : FnScope ["self", "key", "back", "at"] ["self", "key", "back"] (defScope sTreeNextKey) := ⟨rfl, rfl, rfl, by decide +kernel, rfl, by decide +kernel, by decide +kernel⟩
abbrev sTreeWalked : Stmt := inClass (top 44) 8
theorem scTreeWalked : FnScope ["self", "path", "found", "key"] ["self", "path"] (defScope sTreeWalked) := ⟨rfl, rfl, rfl, by decide +kernel, rfl, by decide +kernel, by decide +kernel⟩
abbrev sTreePathBehind : Stmt := inClass (top 44) 9
theorem scTreePathBehind : FnScope ["self", "path", "asked", "size", "head", "key"] ["self", "path"] (defScope sTreePathBehind) := ⟨rfl, rfl, rfl, by decide +kernel, rfl, by decide +kernel, by decide +kernel⟩
abbrev sTreePathAhead : Stmt := inClass (top 44) 10
theorem scTreePathAhead : FnScope ["self", "path", "size", "head", "key"] ["self", "path"] (defScope sTreePathAhead) := ⟨rfl, rfl, rfl, by decide +kernel, rfl, by decide +kernel, by decide +kernel⟩
abbrev sTreeFirstPath : Stmt := inClass (top 44) 11
theorem scTreeFirstPath : FnScope ["self", "path", "place"] ["self", "path"] (defScope sTreeFirstPath) := ⟨rfl, rfl, rfl, by decide +kernel, rfl, by decide +kernel, by decide +kernel⟩
abbrev sTreeLastPath : Stmt := inClass (top 44) 12
theorem scTreeLastPath : FnScope ["self", "path", "place"] ["self", "path"] (defScope sTreeLastPath) := ⟨rfl, rfl, rfl, by decide +kernel, rfl, by decide +kernel, by decide +kernel⟩
abbrev sArraysInit : Stmt := inClass (top 46) 0
theorem scArraysInit : FnScope ["self"] ["self"] (defScope sArraysInit) := ⟨rfl, rfl, rfl, by decide +kernel, rfl, by decide +kernel, by decide +kernel⟩
abbrev sArraysPut : Stmt := inClass (top 46) 1
theorem scArraysPut : FnScope ["self", "ref", "worth"] ["self", "ref", "worth"] (defScope sArraysPut) := ⟨rfl, rfl, rfl, by decide +kernel, rfl, by decide +kernel, by decide +kernel⟩
abbrev sArraysRead : Stmt := inClass (top 46) 2
theorem scArraysRead : FnScope ["self", "ref", "otherwise", "place"] ["self", "ref", "otherwise"] (defScope sArraysRead) := ⟨rfl, rfl, rfl, by decide +kernel, rfl, by decide +kernel, by decide +kernel⟩
abbrev sArraysData : Stmt := inClass (top 46) 3
theorem scArraysData : FnScope ["self", "ref", "place"] ["self", "ref"] (defScope sArraysData) := ⟨rfl, rfl, rfl, by decide +kernel, rfl, by decide +kernel, by decide +kernel⟩
abbrev sArraysKill : Stmt := inClass (top 46) 4
theorem scArraysKill : FnScope ["self", "ref", "gone"] ["self", "ref"] (defScope sArraysKill) := ⟨rfl, rfl, rfl, by decide +kernel, rfl, by decide +kernel, by decide +kernel⟩
abbrev sArraysNames : Stmt := inClass (top 46) 5
theorem scArraysNames : FnScope ["self"] ["self"] (defScope sArraysNames) := ⟨rfl, rfl, rfl, by decide +kernel, rfl, by decide +kernel, by decide +kernel⟩
abbrev sArraysCount : Stmt := inClass (top 46) 6
theorem scArraysCount : FnScope ["self"] ["self"] (defScope sArraysCount) := ⟨rfl, rfl, rfl, by decide +kernel, rfl, by decide +kernel, by decide +kernel⟩
abbrev sArraysOrder : Stmt := inClass (top 46) 7
theorem scArraysOrder : FnScope ["self", "ref", "back", "path", "head"] ["self", "ref", "back"] (defScope sArraysOrder) := ⟨rfl, rfl, rfl, by decide +kernel, rfl, by decide +kernel, by decide +kernel⟩
abbrev sArraysFollowing : Stmt := inClass (top 46) 8
theorem scArraysFollowing : FnScope ["self", "ref", "back", "path", "found"] ["self", "ref", "back"] (defScope sArraysFollowing) := ⟨rfl, rfl, rfl, by decide +kernel, rfl, by decide +kernel, by decide +kernel⟩
abbrev sArraysRows : Stmt := inClass (top 46) 9
theorem scArraysRows : FnScope ["self", "ref", "path", "place", "found", "worth"] ["self", "ref"] (defScope sArraysRows) := ⟨rfl, rfl, rfl, by decide +kernel, rfl, by decide +kernel, by decide +kernel⟩
abbrev sArraysUproot : Stmt := inClass (top 46) 11
theorem scArraysUproot : FnScope ["self", "ref", "path", "place"] ["self", "ref"] (defScope sArraysUproot) := ⟨rfl, rfl, rfl, by decide +kernel, rfl, by decide +kernel, by decide +kernel⟩
abbrev sDeskInit : Stmt := inClass (top 47) 0
theorem scDeskInit : FnScope ["self", "arrays"] ["self", "arrays"] (defScope sDeskInit) := ⟨rfl, rfl, rfl, by decide +kernel, rfl, by decide +kernel, by decide +kernel⟩
abbrev sDeskPut : Stmt := inClass (top 47) 1
theorem scDeskPut : FnScope ["self", "ref", "worth", "asked"] ["self", "ref", "worth"] (defScope sDeskPut) := ⟨rfl, rfl, rfl, by decide +kernel, rfl, by decide +kernel, by decide +kernel⟩
abbrev sDeskRead : Stmt := inClass (top 47) 2
theorem scDeskRead : FnScope ["self", "ref", "otherwise", "asked"] ["self", "ref", "otherwise"] (defScope sDeskRead) := ⟨rfl, rfl, rfl, by decide +kernel, rfl, by decide +kernel, by decide +kernel⟩
abbrev sDeskData : Stmt := inClass (top 47) 3
theorem scDeskData : FnScope ["self", "ref", "asked"] ["self", "ref"] (defScope sDeskData) := ⟨rfl, rfl, rfl, by decide +kernel, rfl, by decide +kernel, by decide +kernel⟩
abbrev sDeskKill : Stmt := inClass (top 47) 4
theorem scDeskKill : FnScope ["self", "ref", "asked"] ["self", "ref"] (defScope sDeskKill) := ⟨rfl, rfl, rfl, by decide +kernel, rfl, by decide +kernel, by decide +kernel⟩
abbrev sDeskOrder : Stmt := inClass (top 47) 5
theorem scDeskOrder : FnScope ["self", "ref", "back", "asked"] ["self", "ref", "back"] (defScope sDeskOrder) := ⟨rfl, rfl, rfl, by decide +kernel, rfl, by decide +kernel, by decide +kernel⟩
abbrev sDeskFollowing : Stmt := inClass (top 47) 6
theorem scDeskFollowing : FnScope ["self", "ref", "back", "asked"] ["self", "ref", "back"] (defScope sDeskFollowing) := ⟨rfl, rfl, rfl, by decide +kernel, rfl, by decide +kernel, by decide +kernel⟩
abbrev sDeskLast : Stmt := inClass (top 47) 7
theorem scDeskLast : FnScope ["self"] ["self"] (defScope sDeskLast) := ⟨rfl, rfl, rfl, by decide +kernel, rfl, by decide +kernel, by decide +kernel⟩
abbrev sDeskMeant : Stmt := inClass (top 47) 8
theorem scDeskMeant : FnScope ["self", "ref"] ["self", "ref"] (defScope sDeskMeant) := ⟨rfl, rfl, rfl, by decide +kernel, rfl, by decide +kernel, by decide +kernel⟩
abbrev sDeskMeantAsking : Stmt := inClass (top 47) 9
theorem scDeskMeantAsking : FnScope ["self", "ref"] ["self", "ref"] (defScope sDeskMeantAsking) := ⟨rfl, rfl, rfl, by decide +kernel, rfl, by decide +kernel, by decide +kernel⟩
abbrev sDeskRemember : Stmt := inClass (top 47) 10
theorem scDeskRemember : FnScope ["self", "asked"] ["self", "asked"] (defScope sDeskRemember) := ⟨rfl, rfl, rfl, by decide +kernel, rfl, by decide +kernel, by decide +kernel⟩
abbrev sLong : Stmt := top 48
theorem scLong : FnScope ["last", "keys", "meant"] ["last", "keys"] (defScope sLong) := ⟨rfl, rfl, rfl, by decide +kernel, rfl, by decide +kernel, by decide +kernel⟩
abbrev sIsShort : Stmt := top 49
theorem scIsShort : FnScope ["thing"] ["thing"] (defScope sIsShort) := ⟨rfl, rfl, rfl, by decide +kernel, rfl, by decide +kernel, by decide +kernel⟩
abbrev sPath : Stmt := top 50
theorem scPath : FnScope ["ref"] ["ref"] (defScope sPath) := ⟨rfl, rfl, rfl, by decide +kernel, rfl, by decide +kernel, by decide +kernel⟩
abbrev sReference : Stmt := top 51
theorem scReference : FnScope ["path"] ["path"] (defScope sReference) := ⟨rfl, rfl, rfl, by decide +kernel, rfl, by decide +kernel, by decide +kernel⟩
abbrev sLawCellAt : Stmt := top 53
theorem scLawCellAt : FnScope ["script", "k"] ["script", "k"] (defScope sLawCellAt) := ⟨rfl, rfl, rfl, by decide +kernel, rfl, by decide +kernel, by decide +kernel⟩
abbrev sLawBag : Stmt := top 54
theorem scLawBag : FnScope ["cell", "k"] ["cell", "k"] (defScope sLawBag) := ⟨rfl, rfl, rfl, by decide +kernel, rfl, by decide +kernel, by decide +kernel⟩
abbrev sLawTake : Stmt := top 55
theorem scLawTake : FnScope ["bag", "many", "mixed", "found"] ["bag", "many"] (defScope sLawTake) := ⟨rfl, rfl, rfl, by decide +kernel, rfl, by decide +kernel, by decide +kernel⟩
abbrev sLawKey : Stmt := top 56
theorem scLawKey : FnScope ["bag", "pick", "some", "number", "signs", "k"] ["bag"] (defScope sLawKey) := ⟨rfl, rfl, rfl, by decide +kernel, rfl, by decide +kernel, by decide +kernel⟩
abbrev sLawPool : Stmt := top 57
theorem scLawPool : FnScope ["bag", "names", "pool", "k"] ["bag"] (defScope sLawPool) := ⟨rfl, rfl, rfl, by decide +kernel, rfl, by decide +kernel, by decide +kernel⟩
abbrev sLawRef : Stmt := top 58
theorem scLawRef : FnScope ["bag", "pool", "most", "some", "name", "k"] ["bag", "pool", "most"] (defScope sLawRef) := ⟨rfl, rfl, rfl, by decide +kernel, rfl, by decide +kernel, by decide +kernel⟩
abbrev sLawWorth : Stmt := top 59
theorem scLawWorth : FnScope ["bag", "pick"] ["bag"] (defScope sLawWorth) := ⟨rfl, rfl, rfl, by decide +kernel, rfl, by decide +kernel, by decide +kernel⟩
abbrev sLawSame : Stmt := top 60
theorem scLawSame : FnScope ["found", "due", "k"] ["found", "due"] (defScope sLawSame) := ⟨rfl, rfl, rfl, by decide +kernel, rfl, by decide +kernel, by decide +kernel⟩
abbrev sLawWord : Stmt := top 61
theorem scLawWord : FnScope ["caught", "pairs", "found", "word", "there"] ["caught"] (defScope sLawWord) := ⟨rfl, rfl, rfl, by decide +kernel, rfl, by decide +kernel, by decide +kernel⟩
abbrev sLawDoor : Stmt := top 62
theorem scLawDoor : FnScope ["desk", "door", "place", "own"] ["desk", "door", "place", "own"] (defScope sLawDoor) := ⟨rfl, rfl, rfl, by decide +kernel, rfl, by decide +kernel, by decide +kernel⟩
abbrev sLawTried : Stmt := top 63
theorem scLawTried : FnScope ["desk", "door", "place", "own", "found", "e"] ["desk", "door", "place", "own"] (defScope sLawTried) := ⟨rfl, rfl, rfl, by decide +kernel, rfl, by decide +kernel, by decide +kernel⟩
abbrev sLawLongWord : Stmt := top 64
theorem scLawLongWord : FnScope ["last_one", "some", "found", "e"] ["last_one", "some"] (defScope sLawLongWord) := ⟨rfl, rfl, rfl, by decide +kernel, rfl, by decide +kernel, by decide +kernel⟩
abbrev sLawDue : Stmt := top 65
theorem scLawDue : FnScope ["last_one", "some"] ["last_one", "some"] (defScope sLawDue) := ⟨rfl, rfl, rfl, by decide +kernel, rfl, by decide +kernel, by decide +kernel⟩
abbrev sLawBad : Stmt := top 66
theorem scLawBad : FnScope ["bag", "pool", "odd", "some", "at", "rows", "k"] ["bag", "pool"] (defScope sLawBad) := ⟨rfl, rfl, rfl, by decide +kernel, rfl, by decide +kernel, by decide +kernel⟩
abbrev sLawRefused : Stmt := top 67
theorem scLawRefused : FnScope ["bag", "desk", "pool", "door", "own", "pick", "some", "due", "k"] ["bag", "desk", "pool"] (defScope sLawRefused) := ⟨rfl, rfl, rfl, by decide +kernel, rfl, by decide +kernel, by decide +kernel⟩
abbrev sLawAll : Stmt := top 68
theorem scLawAll : FnScope ["arrays", "found", "name"] ["arrays"] (defScope sLawAll) := ⟨rfl, rfl, rfl, by decide +kernel, rfl, by decide +kernel, by decide +kernel⟩
abbrev sLaw : Stmt := top 69
theorem scLaw : FnScope ["script", "bag", "pool", "both", "desks", "k", "kept", "j", "door", "place", "own", "found", "arrays", "desk"] ["script"] (defScope sLaw) := ⟨rfl, rfl, rfl, by decide +kernel, rfl, by decide +kernel, by decide +kernel⟩
structure Tabs where
  c_is_worth : Addr
  p_is_worth : Addr
  c_is_number_text : Addr
  p_is_number_text : Addr
  c_is_name : Addr
  p_is_name : Addr
  c_is_row : Addr
  p_is_row : Addr
  a_Tree : Addr
  a_Arrays : Addr
  a_Desk : Addr
  e : Str → Addr
theorem tabB_of {base : Heap} {mg : Str → Option Value} {c P : Addr} (h : LamX.TabB base mg c P) : GxR.TabB base mg c P := ⟨h.code, h.bm, h.gP⟩
def RAISED : List Str := ["NoRef", "NoWorth", "TooDeep", "NoHead"]
def ALLE : List Str := ["StemError", "NoRef", "NoWorth", "Within", "TooDeep", "NoHead", "NoJob", "Waiting", "NoLock", "Held", "NoDealing", "Erring", "NoProgram", "NoLabel", "TooLong", "NoText"]
structure Txt (K : PySem.W.Frag) (mg : Str → Option Value) (cs : Tabs) : Prop where
  cl_Tree : Cls K cs.a_Tree
  no_Tree_worth : NoAttr K cs.a_Tree "worth"
  no_Tree_row : NoAttr K cs.a_Tree "row"
  no_Tree_beneath : NoAttr K cs.a_Tree "beneath"
  cl_Arrays : Cls K cs.a_Arrays
  no_Arrays__tree : NoAttr K cs.a_Arrays "_tree"
  cl_Desk : Cls K cs.a_Desk
  no_Desk__arrays : NoAttr K cs.a_Desk "_arrays"
  no_Desk__last : NoAttr K cs.a_Desk "_last"
  nc : [cs.a_Tree, cs.a_Arrays, cs.a_Desk].Nodup
  f_is_worth : Ftc K mg "is_worth" sIsWorth ["thing"] cs.c_is_worth
  f_number_of : Ftx K mg "number_of" sNumberOf ["worth"]
  f_number_of_figures : Ftx K mg "_number_of_figures" sNumberOfFigures ["figures"]
  f_is_number_text : Ftc K mg "is_number_text" sIsNumberText ["worth"] cs.c_is_number_text
  f_is_key : Ftx K mg "is_key" sIsKey ["thing"]
  f_key_rank : Ftx K mg "key_rank" sKeyRank ["key"]
  f_before : Ftx K mg "before" sBefore ["one", "other"]
  f_is_name : Ftc K mg "is_name" sIsName ["thing"] cs.c_is_name
  f_is_row : Ftc K mg "is_row" sIsRow ["thing"] cs.c_is_row
  f_is_asking_row : Ftx K mg "is_asking_row" sIsAskingRow ["thing"]
  f_is_pair : Ftx K mg "is_pair" sIsPair ["thing"]
  f_is_reference : Ftx K mg "is_reference" sIsReference ["thing"]
  f_is_asking_reference : Ftx K mg "is_asking_reference" sIsAskingReference ["thing"]
  f_need_reference : Ftx K mg "need_reference" sNeedReference ["thing"]
  f_need_asking_reference : Ftx K mg "need_asking_reference" sNeedAskingReference ["thing"]
  f_need_worth : Ftx K mg "need_worth" sNeedWorth ["thing"]
  f_how_many_ahead : Ftx K mg "_how_many_ahead" sHowManyAhead ["row", "key"]
  f_Tree___init__ : Ftk K mg "Tree" cs.a_Tree "Tree.__init__" sTreeInit ["self"] []
  f_Tree_at : Ftm K cs.a_Tree "at" "Tree.at" sTreeAt ["self", "path"]
  f_Tree_plant : Ftm K cs.a_Tree "plant" "Tree.plant" sTreePlant ["self", "path", "worth"]
  f_Tree__made : Ftm K cs.a_Tree "_made" "Tree._made" sTreeMade ["self", "path"]
  f_Tree_cut : Ftm K cs.a_Tree "cut" "Tree.cut" sTreeCut ["self", "path"]
  f_Tree_next_key : Ftm K cs.a_Tree "next_key" "Tree.next_key" sTreeNextKey ["self", "key", "back"]
  f_Tree_walked : Ftm K cs.a_Tree "walked" "Tree.walked" sTreeWalked ["self", "path"]
  f_Tree_path_behind : Ftm K cs.a_Tree "path_behind" "Tree.path_behind" sTreePathBehind ["self", "path"]
  f_Tree_path_ahead : Ftm K cs.a_Tree "path_ahead" "Tree.path_ahead" sTreePathAhead ["self", "path"]
  f_Tree__first_path : Ftm K cs.a_Tree "_first_path" "Tree._first_path" sTreeFirstPath ["self", "path"]
  f_Tree__last_path : Ftm K cs.a_Tree "_last_path" "Tree._last_path" sTreeLastPath ["self", "path"]
  f_Arrays___init__ : Ftk K mg "Arrays" cs.a_Arrays "Arrays.__init__" sArraysInit ["self"] []
  f_Arrays_put : Ftm K cs.a_Arrays "put" "Arrays.put" sArraysPut ["self", "ref", "worth"]
  f_Arrays_read : Ftw K cs.a_Arrays "read" "Arrays.read" sArraysRead [("otherwise", (.str ""))]
  f_Arrays_data : Ftm K cs.a_Arrays "data" "Arrays.data" sArraysData ["self", "ref"]
  f_Arrays_kill : Ftm K cs.a_Arrays "kill" "Arrays.kill" sArraysKill ["self", "ref"]
  f_Arrays_names : Ftm K cs.a_Arrays "names" "Arrays.names" sArraysNames ["self"]
  f_Arrays_count : Ftm K cs.a_Arrays "count" "Arrays.count" sArraysCount ["self"]
  f_Arrays_order : Ftw K cs.a_Arrays "order" "Arrays.order" sArraysOrder [("back", (.bl false))]
  f_Arrays_following : Ftw K cs.a_Arrays "following" "Arrays.following" sArraysFollowing [("back", (.bl false))]
  f_Arrays_rows : Ftm K cs.a_Arrays "rows" "Arrays.rows" sArraysRows ["self", "ref"]
  f_Arrays_uproot : Ftm K cs.a_Arrays "uproot" "Arrays.uproot" sArraysUproot ["self", "ref"]
  f_Desk___init__ : Ftk K mg "Desk" cs.a_Desk "Desk.__init__" sDeskInit ["self", "arrays"] []
  f_Desk_put : Ftm K cs.a_Desk "put" "Desk.put" sDeskPut ["self", "ref", "worth"]
  f_Desk_read : Ftw K cs.a_Desk "read" "Desk.read" sDeskRead [("otherwise", (.str ""))]
  f_Desk_data : Ftm K cs.a_Desk "data" "Desk.data" sDeskData ["self", "ref"]
  f_Desk_kill : Ftm K cs.a_Desk "kill" "Desk.kill" sDeskKill ["self", "ref"]
  f_Desk_order : Ftw K cs.a_Desk "order" "Desk.order" sDeskOrder [("back", (.bl false))]
  f_Desk_following : Ftw K cs.a_Desk "following" "Desk.following" sDeskFollowing [("back", (.bl false))]
  f_Desk_last : Ftm K cs.a_Desk "last" "Desk.last" sDeskLast ["self"]
  f_Desk__meant : Ftm K cs.a_Desk "_meant" "Desk._meant" sDeskMeant ["self", "ref"]
  f_Desk__meant_asking : Ftm K cs.a_Desk "_meant_asking" "Desk._meant_asking" sDeskMeantAsking ["self", "ref"]
  f_Desk__remember : Ftm K cs.a_Desk "_remember" "Desk._remember" sDeskRemember ["self", "asked"]
  f_long : Ftx K mg "long" sLong ["last", "keys"]
  f_is_short : Ftx K mg "_is_short" sIsShort ["thing"]
  f_path : Ftx K mg "_path" sPath ["ref"]
  f_reference : Ftx K mg "_reference" sReference ["path"]
  f_law_cell_at : Ftx K mg "_law_cell_at" sLawCellAt ["script", "k"]
  f_law_bag : Ftx K mg "_law_bag" sLawBag ["cell", "k"]
  f_law_take : Ftx K mg "_law_take" sLawTake ["bag", "many"]
  f_law_key : Ftx K mg "_law_key" sLawKey ["bag"]
  f_law_pool : Ftx K mg "_law_pool" sLawPool ["bag"]
  f_law_ref : Ftx K mg "_law_ref" sLawRef ["bag", "pool", "most"]
  f_law_worth : Ftx K mg "_law_worth" sLawWorth ["bag"]
  f_law_same : Ftx K mg "_law_same" sLawSame ["found", "due"]
  f_law_word : Ftx K mg "_law_word" sLawWord ["caught"]
  f_law_door : Ftx K mg "_law_door" sLawDoor ["desk", "door", "place", "own"]
  f_law_tried : Ftx K mg "_law_tried" sLawTried ["desk", "door", "place", "own"]
  f_law_long_word : Ftx K mg "_law_long_word" sLawLongWord ["last_one", "some"]
  f_law_due : Ftx K mg "_law_due" sLawDue ["last_one", "some"]
  f_law_bad : Ftx K mg "_law_bad" sLawBad ["bag", "pool"]
  f_law_refused : Ftx K mg "_law_refused" sLawRefused ["bag", "desk", "pool"]
  f_law_all : Ftx K mg "_law_all" sLawAll ["arrays"]
  f_law : Ftx K mg "law" sLaw ["script"]
  xg : ∀ x ∈ ALLE, mg x = some (.ref (cs.e x))
  xc : ∀ D ∈ RAISED, ErrC K (cs.e D)
  xk : ∀ D ∈ RAISED, ∀ C ∈ ALLE, PySem.W.kitOne K (.ref (cs.e D)) (.ref (cs.e C)) = some (decide (D = C) || decide (C = "StemError"))
  xm : ∀ D ∈ RAISED, ∀ C ∈ ALLE, PySem.W.exmOne K (.ref (cs.e D)) (.ref (cs.e C)) = some (decide (D = C) || decide (C = "StemError"))
  n_isinstance : mg "isinstance" = none
  n_str : mg "str" = none
  n_all : mg "all" = none
  n_ord : mg "ord" = none
  n_len : mg "len" = none
  n_int : mg "int" = none
  n_range : mg "range" = none
  n_tuple : mg "tuple" = none
  n_list : mg "list" = none
  n_max : mg "max" = none
  n_bool : mg "bool" = none
  n_ValueError : mg "ValueError" = none
  n_min : mg "min" = none
  g__PERCENT : ∃ u, mg "_PERCENT" = some u ∧ RelV (.int 37) u
  g__FIGURES : ∃ u, mg "_FIGURES" = some u ∧ RelV (.str "0123456789") u
  g__LONGEST_KEY : ∃ u, mg "_LONGEST_KEY" = some u ∧ RelV (.int 40) u
  g__LONGEST_NAME : ∃ u, mg "_LONGEST_NAME" = some u ∧ RelV (.int 8) u
  g_MOST_KEYS : ∃ u, mg "MOST_KEYS" = some u ∧ RelV (.int 6) u
structure TBs (base : Heap) (mg : Str → Option Value) (cs : Tabs) : Prop where
  triv : True
  b_is_worth : GxR.TabB base mg cs.c_is_worth cs.p_is_worth
  b_is_number_text : GxR.TabB base mg cs.c_is_number_text cs.p_is_number_text
  b_is_name : GxR.TabB base mg cs.c_is_name cs.p_is_name
  b_is_row : GxR.TabB base mg cs.c_is_row cs.p_is_row
structure TGs (H : Hp) (cs : Tabs) : Prop where
  triv : True
  t_is_worth : Tb H cs.p_is_worth
  t_is_number_text : Tb H cs.p_is_number_text
  t_is_name : Tb H cs.p_is_name
  t_is_row : Tb H cs.p_is_row
theorem TGs.sm {H H' : Hp} {cs : Tabs} (t : TGs H cs) (S : Sm H H') : TGs H' cs := ⟨trivial, S.tab _ t.t_is_worth, S.tab _ t.t_is_number_text, S.tab _ t.t_is_name, S.tab _ t.t_is_row⟩
theorem TGs.tabs {H H' : Hp} {cs : Tabs} (t : TGs H cs) (S : ∀ P, Tb H P → Tb H' P) : TGs H' cs := ⟨trivial, S _ t.t_is_worth, S _ t.t_is_number_text, S _ t.t_is_name, S _ t.t_is_row⟩
theorem TGs.go {b : Addr} {n : Nat} {H H' : Hp} {cs : Tabs} (t : TGs H cs) (S : Go b n H H') : TGs H' cs := ⟨trivial, S.tab _ t.t_is_worth, S.tab _ t.t_is_number_text, S.tab _ t.t_is_name, S.tab _ t.t_is_row⟩
/-! ### dicts whose keys are tuples, of any depth to eight -/
namespace DN
open PySem (NestedKey NestedIs NestedAll nestedKind HeapKind atKey storedH withoutH)
mutual
/-- the value v is the key k, by the tuples that are tracked -/
inductive NK (H : Hp) : NestedKey → V → Prop
  | non : NK H .none .non
  | int (i : Int) : NK H (.num i) (.int i)
  | str (x : Str) : NK H (.text x) (.str x)
  | tup {a : Addr} {vs : List V} {ks : List NestedKey} : H a = some (.tup vs) → NKs H ks vs → NK H (.tup ks) (.ref a)
inductive NKs (H : Hp) : List NestedKey → List V → Prop
  | nil : NKs H [] []
  | cons {k : NestedKey} {v : V} {ks : List NestedKey} {vs : List V} : NK H k v → NKs H ks vs → NKs H (k :: ks) (v :: vs)
end
mutual
theorem NK.mono {H H' : Hp} (t : ∀ a vs, H a = some (.tup vs) → H' a = some (.tup vs)) : ∀ {k : NestedKey} {v : V}, NK H k v → NK H' k v
  | _, _, .non => .non
  | _, _, .int i => .int i
  | _, _, .str x => .str x
  | _, _, .tup h r => .tup (t _ _ h) (NKs.mono t r)
theorem NKs.mono {H H' : Hp} (t : ∀ a vs, H a = some (.tup vs) → H' a = some (.tup vs)) : ∀ {ks : List NestedKey} {vs : List V}, NKs H ks vs → NKs H' ks vs
  | _, _, .nil => .nil
  | _, _, .cons h r => .cons (h.mono t) (r.mono t)
end
mutual
theorem NK.is {P : Program} {w : World} {H : Hp} {h : Heap} (ok : HOk P w H h) : ∀ {k : NestedKey} {v : V} {u : Value}, NK H k v → RelV v u → NestedIs h k u
  | _, _, u, .non, r => by
    cases (show u = Value.none from r)
    exact .none
  | _, _, u, .int i, r => by
    obtain ⟨t, rfl⟩ := r
    exact .int i t
  | _, _, u, .str x, r => by
    obtain ⟨t, rfl⟩ := r
    exact .text x t
  | _, _, u, .tup (a := a) (vs := vs) e q, r => by
    cases (show u = Value.ref a from r)
    obtain ⟨_, its, rv, o, ho, hc, n, hd⟩ := (show ObjOk P w H h a (.tup vs) from ok a _ e)
    exact .tup ho hc hd (NKs.is ok q rv)
theorem NKs.is {P : Program} {w : World} {H : Hp} {h : Heap} (ok : HOk P w H h) : ∀ {ks : List NestedKey} {vs : List V} {us : List Value}, NKs H ks vs → Vals vs us → NestedAll h ks us
  | _, _, _, .nil, r => by
    cases r
    exact .nil
  | _, _, _, .cons e q, r => by
    cases r with
    | cons r1 r2 => exact .cons (e.is ok r1) (q.is ok r2)
end
/-- an entry: the key, its own tuple, the value -/
abbrev Ent : Type := NestedKey × Addr × V
abbrev EntR : List Ent → List (NestedKey × Addr × Value) → Prop := Paired fun p q => p.1 = q.1 ∧ p.2.1 = q.2.1 ∧ RelV p.2.2 q.2.2
def raw (w : World) (x : NestedKey × Addr × Value) : DictEntry := ⟨x.1.hash w, .ref x.2.1, x.2.2⟩
def dnP (w : World) (a : Addr) (L : List Ent) (h : Heap) : Prop :=
  L.length ≤ sizeLine ∧ (a == sysModules) = false ∧ ∃ (xs : List (NestedKey × Addr × Value)) (o : Obj) (es : Array DictEntry) (ep : Nat), EntR L xs ∧ h.get? a = some o ∧ o.ExactDict ∧ o.data = .dict es ep ∧ es.toList = xs.map (raw w)
/-- the dict at a, entry by entry -/
def dnO (w : World) (a : Addr) (L : List Ent) : HO := .ext (dnP w a L)
theorem dnO_ok {P : Program} {w : World} {H : Hp} {h : Heap} {a : Addr} {L : List Ent} (x : dnP w a L h) : ObjOk P w H h a (dnO w a L) := by
  refine ⟨x, ?_, fun h1 h2 y k => ?_⟩
  · obtain ⟨_, _, _, o, _, _, _, ho, _⟩ := x
    exact ⟨o, ho⟩
  · obtain ⟨z, d, xs, o, es, ep, r, ho, q⟩ := y
    exact ⟨z, d, xs, o, es, ep, r, k o ho, q⟩
structure At (w : World) (H : Hp) (a : Addr) (L : List Ent) : Prop where
  it : H a = some (dnO w a L)
  keys : ∀ p ∈ L, NK H p.1 (.ref p.2.1) ∧ p.1.depth ≤ 8
  nd : (L.map (·.1)).Nodup
/-- the dict may be read: it is there, or locked -/
structure Rd (w : World) (H : Hp) (a : Addr) (L : List Ent) : Prop where
  it : L2.Rd H a (dnO w a L)
  keys : ∀ p ∈ L, NK H p.1 (.ref p.2.1) ∧ p.1.depth ≤ 8
  nd : (L.map (·.1)).Nodup
theorem At.rd {w : World} {H : Hp} {a : Addr} {L : List Ent} (d : At w H a L) : Rd w H a L := ⟨.inl d.it, d.keys, d.nd⟩
theorem ent_keys {L : List Ent} {xs : List (NestedKey × Addr × Value)} (r : EntR L xs) : L.map (·.1) = xs.map (·.1) := by
  induction r with
  | nil => rfl
  | cons h _ ih => rw [List.map_cons, List.map_cons, ih, h.1]
theorem ent_mem {L : List Ent} {xs : List (NestedKey × Addr × Value)} (r : EntR L xs) : ∀ x ∈ xs, ∃ p ∈ L, p.1 = x.1 ∧ p.2.1 = x.2.1 := by
  induction r with
  | nil => exact fun x h => nomatch h
  | cons h _ ih =>
    intro x hx
    rcases List.mem_cons.mp hx with rfl | hx
    · exact ⟨_, .head _, h.1, h.2.1⟩
    · obtain ⟨p, hp, q⟩ := ih x hx
      exact ⟨p, .tail _ hp, q⟩
theorem Rd.of {P : Program} {w : World} {H : Hp} {h : Heap} {a : Addr} {L : List Ent} (ok : HOk P w H h) (d : Rd w H a L) : L.length ≤ sizeLine ∧ (a == sysModules) = false ∧ ∃ xs, EntR L xs ∧ h.DictOfH (nestedKind P w) a xs := by
  obtain ⟨z, s, xs, o, es, ep, r, ho, hx, hd, he⟩ := (show dnP w a L h from (d.it.ok ok).1)
  refine ⟨z, s, xs, r, o, es, ep, ho, hx, hd, he, fun x hx => ?_, by rw [← ent_keys r]; exact d.nd⟩
  obtain ⟨p, hp, e1, e2⟩ := ent_mem r x hx
  obtain ⟨k1, k2⟩ := d.keys p hp
  rw [e1] at k1 k2
  rw [e2] at k1
  exact ⟨k1.is ok rfl, k2⟩
/-- what is at a key -/
def val (L : List Ent) (k : NestedKey) : Option V := (L.find? fun p => decide (p.1 = k)).map (·.2.2)
theorem EntR.val {L : List Ent} {xs : List (NestedKey × Addr × Value)} (r : EntR L xs) (k : NestedKey) : RelO (val L k) ((atKey xs k).map (·.2)) := by
  induction r with
  | nil => exact trivial
  | @cons p q l m h _ ih =>
    unfold DN.val atKey at ih ⊢
    rw [List.find?_cons, List.find?_cons, ← h.1]
    cases decide (p.1 = k) with
    | true => exact h.2.2
    | false => exact ih
def put (L : List Ent) (k : NestedKey) (b : Addr) (v : V) : List Ent := if (val L k).isSome = true then L.map (fun p => if p.1 = k then (p.1, p.2.1, v) else p) else L ++ [(k, b, v)]
def drop (L : List Ent) (k : NestedKey) : List Ent := L.filter fun p => decide (p.1 ≠ k)
theorem EntR.repl {L : List Ent} {xs : List (NestedKey × Addr × Value)} (r : EntR L xs) (k : NestedKey) {y : V} {u : Value} (ry : RelV y u) : EntR (L.map fun p => if p.1 = k then (p.1, p.2.1, y) else p) (xs.map (PySem.putAt k u)) := by
  induction r with
  | nil => exact .nil
  | @cons p q l m h _ ih =>
    rw [List.map_cons, List.map_cons]
    refine .cons ?_ ih
    unfold PySem.putAt
    by_cases e : p.1 = k
    · rw [if_pos e, if_pos (h.1.symm.trans e)]
      exact ⟨h.1, h.2.1, ry⟩
    · rw [if_neg e, if_neg fun z => e (h.1.trans z)]
      exact h
theorem EntR.snoc {L : List Ent} {xs : List (NestedKey × Addr × Value)} (r : EntR L xs) {p : Ent} {q : NestedKey × Addr × Value} (h : p.1 = q.1 ∧ p.2.1 = q.2.1 ∧ RelV p.2.2 q.2.2) : EntR (L ++ [p]) (xs ++ [q]) := by
  induction r with
  | nil => exact .cons h .nil
  | cons g _ ih => exact .cons g ih
theorem EntR.put {L : List Ent} {xs : List (NestedKey × Addr × Value)} (r : EntR L xs) (k : NestedKey) (b : Addr) {y : V} {u : Value} (ry : RelV y u) : EntR (put L k b y) (storedH xs k b u) := by
  have q := (EntR.val r k).isSome_eq
  rw [Option.isSome_map] at q
  unfold DN.put storedH
  rw [q]
  split
  · exact EntR.repl r k ry
  · exact EntR.snoc r ⟨rfl, rfl, ry⟩
theorem EntR.drop {L : List Ent} {xs : List (NestedKey × Addr × Value)} (r : EntR L xs) (k : NestedKey) : EntR (drop L k) (withoutH xs k) := by
  induction r with
  | nil => exact .nil
  | @cons p q l m h _ ih =>
    unfold DN.drop withoutH at ih ⊢
    rw [List.filter_cons, List.filter_cons, ← h.1]
    split
    · exact .cons h ih
    · exact ih
/-! #### the pairs as mathematics -/
theorem val_map (k j : NestedKey) (y : V) : ∀ L : List Ent, val (L.map fun p => if p.1 = k then (p.1, p.2.1, y) else p) j = (val L j).map fun x => if j = k then y else x
  | [] => rfl
  | p :: r => by
    have ih := val_map k j y r
    unfold val at ih ⊢
    rw [List.map_cons, List.find?_cons, List.find?_cons]
    by_cases h : p.1 = k
    · rw [if_pos h]
      by_cases e : p.1 = j
      · simp only [decide_eq_true e]
        rw [Option.map_some, Option.map_some, Option.map_some, if_pos (e.symm.trans h)]
      · simp only [decide_eq_false e]
        exact ih
    · rw [if_neg h]
      by_cases e : p.1 = j
      · simp only [decide_eq_true e]
        rw [Option.map_some, Option.map_some, if_neg fun z => h (e.trans z)]
      · simp only [decide_eq_false e]
        exact ih
theorem val_snoc (k j : NestedKey) (b : Addr) (y : V) (L : List Ent) : val (L ++ [(k, b, y)]) j = (val L j).or (if k = j then some y else none) := by
  unfold val
  rw [List.find?_append]
  cases L.find? fun p => decide (p.1 = j) with
  | some p => rfl
  | none =>
    rw [Option.none_or, List.find?_cons]
    by_cases e : k = j
    · simp only [decide_eq_true e]
      rw [if_pos e]
      rfl
    · simp only [decide_eq_false e]
      rw [if_neg e]
      rfl
theorem val_put (L : List Ent) (k j : NestedKey) (b : Addr) (y : V) : val (put L k b y) j = if j = k then some y else val L j := by
  unfold put
  by_cases h : (val L k).isSome = true
  · rw [if_pos h, val_map]
    by_cases e : j = k
    · subst e
      rw [if_pos rfl]
      obtain ⟨x, hx⟩ := Option.isSome_iff_exists.mp h
      rw [hx, Option.map_some, if_pos rfl]
    · rw [if_neg e]
      cases val L j with
      | none => rfl
      | some x => rw [Option.map_some, if_neg e]
  · rw [if_neg h, val_snoc]
    by_cases e : j = k
    · subst e
      rw [if_pos rfl, if_pos rfl, Option.not_isSome_iff_eq_none.mp h]
      rfl
    · rw [if_neg e, if_neg (Ne.symm e), Option.or_none]
theorem val_drop (k j : NestedKey) : ∀ L : List Ent, val (drop L k) j = if j = k then none else val L j
  | [] => by
    show none = _
    split <;> rfl
  | p :: r => by
    have ih := val_drop k j r
    unfold drop val at ih ⊢
    rw [List.filter_cons]
    by_cases h : p.1 = k
    · rw [if_neg (by simp [h]), ih, List.find?_cons]
      by_cases e : j = k
      · rw [if_pos e, if_pos e]
      · rw [if_neg e, if_neg e, decide_eq_false fun z => e (z.symm.trans h)]
    · rw [if_pos (by simp [h]), List.find?_cons, List.find?_cons]
      by_cases e : p.1 = j
      · simp only [decide_eq_true e]
        rw [if_neg fun z => h (e.trans z)]
      · simp only [decide_eq_false e]
        exact ih
theorem val_some {L : List Ent} {k : NestedKey} : (val L k).isSome = true ↔ k ∈ L.map (·.1) := by
  unfold val
  rw [Option.isSome_map, List.find?_isSome]
  constructor
  · rintro ⟨p, hp, e⟩
    exact List.mem_map.mpr ⟨p, hp, of_decide_eq_true e⟩
  · intro h
    obtain ⟨p, hp, e⟩ := List.mem_map.mp h
    exact ⟨p, hp, decide_eq_true e⟩
theorem val_of_mem {L : List Ent} (nd : (L.map (·.1)).Nodup) {p : Ent} (hp : p ∈ L) : val L p.1 = some p.2.2 := by
  unfold val
  induction L with
  | nil => cases hp
  | cons q r ih =>
    rw [List.map_cons, List.nodup_cons] at nd
    rw [List.find?_cons]
    rcases List.mem_cons.mp hp with rfl | hp
    · rw [decide_eq_true rfl]
      rfl
    · have ne : ¬ q.1 = p.1 := fun z => nd.1 (by rw [z]; exact List.mem_map.mpr ⟨p, hp, rfl⟩)
      rw [decide_eq_false ne]
      exact ih nd.2 hp
theorem put_keys (L : List Ent) (k : NestedKey) (b : Addr) (y : V) : (put L k b y).map (·.1) = if k ∈ L.map (·.1) then L.map (·.1) else L.map (·.1) ++ [k] := by
  unfold put
  by_cases h : k ∈ L.map (·.1)
  · rw [if_pos (val_some.mpr h), if_pos h, List.map_map]
    refine List.map_congr_left fun p _ => ?_
    show (if p.1 = k then (p.1, p.2.1, y) else p).1 = p.1
    split <;> rfl
  · rw [if_neg fun z => h (val_some.mp z), if_neg h, List.map_append]
    rfl
theorem put_nd {L : List Ent} (nd : (L.map (·.1)).Nodup) (k : NestedKey) (b : Addr) (y : V) : ((put L k b y).map (·.1)).Nodup := by
  rw [put_keys]
  split
  · exact nd
  · rename_i h
    exact List.nodup_append.mpr ⟨nd, by simp, fun a ha c hc => by
      rw [List.mem_singleton.mp hc]
      exact fun z => h (z ▸ ha)⟩
theorem put_len (L : List Ent) (k : NestedKey) (b : Addr) (y : V) : (put L k b y).length ≤ L.length + 1 := by
  unfold put
  split
  · rw [List.length_map]
    omega
  · rw [List.length_append]
    exact Nat.le_refl _
theorem put_mem {L : List Ent} {k : NestedKey} {b : Addr} {y : V} {p : Ent} (h : p ∈ put L k b y) : (∃ q ∈ L, q.1 = p.1 ∧ q.2.1 = p.2.1) ∨ p = (k, b, y) := by
  unfold put at h
  split at h
  · obtain ⟨q, hq, e⟩ := List.mem_map.mp h
    refine .inl ⟨q, hq, ?_⟩
    rw [← e]
    split <;> exact ⟨rfl, rfl⟩
  · rcases List.mem_append.mp h with h | h
    · exact .inl ⟨p, h, rfl, rfl⟩
    · exact .inr (List.mem_singleton.mp h)
theorem drop_nd {L : List Ent} (nd : (L.map (·.1)).Nodup) (k : NestedKey) : ((drop L k).map (·.1)).Nodup := nd.sublist (List.Sublist.map _ (List.filter_sublist))
theorem drop_len (L : List Ent) (k : NestedKey) : (drop L k).length ≤ L.length := List.length_filter_le _ _
/-- a dict that is changed elsewhere stays, with its keys' tuples -/
theorem At.keep {w : World} {H H' : Hp} {a : Addr} {L : List Ent} (d : At w H a L) (it : H' a = some (dnO w a L)) (t : ∀ b vs, H b = some (.tup vs) → H' b = some (.tup vs)) : At w H' a L := ⟨it, fun p hp => ⟨(d.keys p hp).1.mono t, (d.keys p hp).2⟩, d.nd⟩
theorem At.put {w : World} {H : Hp} {a : Addr} {L : List Ent} (d : At w H a L) {k : NestedKey} {b : Addr} (hk : NK H k (.ref b)) (h8 : k.depth ≤ 8) (y : V) : At w (upd H a (dnO w a (put L k b y))) a (put L k b y) := by
  have t : ∀ c vs, H c = some (.tup vs) → upd H a (dnO w a (DN.put L k b y)) c = some (.tup vs) := fun c vs e => by
    rw [upd_ne (ne_of e d.it fun z => by cases z)]
    exact e
  refine ⟨upd_same, fun p hp => ?_, put_nd d.nd k b y⟩
  rcases put_mem hp with ⟨q, hq, e1, e2⟩ | rfl
  · rw [← e1, ← e2]
    exact ⟨(d.keys q hq).1.mono t, (d.keys q hq).2⟩
  · exact ⟨hk.mono t, h8⟩
theorem At.drop {w : World} {H : Hp} {a : Addr} {L : List Ent} (d : At w H a L) (k : NestedKey) : At w (upd H a (dnO w a (drop L k))) a (drop L k) := by
  refine ⟨upd_same, fun p hp => ?_, drop_nd d.nd k⟩
  have q := d.keys p (List.mem_filter.mp hp).1
  refine ⟨q.1.mono fun c vs e => ?_, q.2⟩
  rw [upd_ne (ne_of e d.it fun z => by cases z)]
  exact e
end DN
/-! ### rules for dicts whose keys are tuples -/
namespace DN
open PyProof.Rows
open PySem (NestedKey NestedIs NestedAll nestedKind HeapKind atKey storedH withoutH)
section
variable {X : Cx} {pins : List (Addr × Obj)} {σ : L2.St} {H : Hp} {s : Shared} {a b : Addr} {L : List Ent} {k : NestedKey}
theorem key_is (I : Inv X pins σ H s) (hk : NK H k (.ref b)) (h8 : k.depth ≤ 8) : (nestedKind X.prog X.w).is s.heap k b := ⟨hk.is I.hok rfl, h8⟩
theorem wrote (I : Inv X pins σ H s) (d : At X.w H a L) {L' : List Ent} {xs' : List (NestedKey × Addr × Value)} {h' : Heap} {t' : Nat} (hl : L'.length ≤ sizeLine) (hd : (a == sysModules) = false) (r : EntR L' xs') (m : h'.DictOfH (nestedKind X.prog X.w) a xs') (hs : Heap.SameBut a s.heap h') :
    Inv X pins σ (upd H a (dnO X.w a L')) { s with heap := h', toks := t' } := by
  obtain ⟨o, es, ep, ho, hx, hdt, he, _, _⟩ := m
  exact d_write I (by rw [d.it]; exact True.intro) hs ⟨o, ho⟩ (dnO_ok ⟨hl, hd, xs', o, es, ep, r, ho, hx, hdt, he⟩)
theorem room1 (hu : X.A.units + 64 < cLine) : (nestedKind X.prog X.w).room X.A.in1 := by
  show X.A.units + 1 + 8 < cLine
  omega
def rIn (w : World) (no : Bool) : R2 := fun x y H Q => ∃ (b a : Addr) (L : List Ent) (k : NestedKey), x = .ref b ∧ y = .ref a ∧ Rd w H a L ∧ NK H k (.ref b) ∧ k.depth ≤ 8 ∧ Q (.bl (no != (val L k).isSome)) H
theorem inN {w : World} (hu : X.A.units + 64 < cLine) (hw : X.w = w := by rfl) : OpR X (compareOp .In) (rIn w false) := by
  subst hw
  intro pins s σ H x y v u Q I rx ry h
  obtain ⟨b, a, L, k, rfl, rfl, d, hk, h8, q⟩ := h
  cases rx
  cases ry
  obtain ⟨z, hd, xs, r, m⟩ := d.of I.hok
  have e := (EntR.val r k).isSome_eq
  rw [Option.isSome_map] at e
  refine wpAny_in_heap (room1 hu) (key_is I hk h8) hd m ⟨_, H, I.tok _, ?_, q⟩
  rw [Bool.false_bne, e]
  exact rfl
theorem ninN {w : World} (hu : X.A.units + 64 < cLine) (hw : X.w = w := by rfl) : OpR X (compareOp .NotIn) (rIn w true) := by
  subst hw
  intro pins s σ H x y v u Q I rx ry h
  obtain ⟨b, a, L, k, rfl, rfl, d, hk, h8, q⟩ := h
  cases rx
  cases ry
  obtain ⟨z, hd, xs, r, m⟩ := d.of I.hok
  have e := (EntR.val r k).isSome_eq
  rw [Option.isSome_map] at e
  refine wpAny_notIn_heap (room1 hu) (key_is I hk h8) hd m ⟨_, H, I.tok _, ?_, q⟩
  rw [e]
  cases (atKey xs k).isSome <;> exact rfl
def rGet (w : World) : R2 := fun x y H Q => ∃ (b a : Addr) (L : List Ent) (k : NestedKey) (v : V), y = .ref b ∧ x = .ref a ∧ Rd w H a L ∧ NK H k (.ref b) ∧ k.depth ≤ 8 ∧ val L k = some v ∧ Q v H
theorem ixN {w : World} (hu : X.A.units + 64 < cLine) (hw : X.w = w := by rfl) : IxR X (rGet w) := by
  subst hw
  intro value slice pins s σ H x y v u Q I rx ry h hs
  obtain ⟨b, a, L, k, y0, rfl, rfl, d, hk, h8, hv, q⟩ := h
  cases rx
  cases ry
  obtain ⟨z, hd, xs, r, m⟩ := d.of I.hok
  have e := EntR.val r k
  rw [hv] at e
  obtain ⟨u0, hu0, ru0⟩ := RelO.some_of e
  obtain ⟨p, hp, hp2⟩ := Option.map_eq_some_iff.mp hu0
  refine tail_any m.typeIs PySem.F.slot_dict_getitem.lookup (wpAny_getItem_heap (room1 hu) (key_is I hk h8) m hp ⟨y0, H, I.tok _, ?_, q⟩) hs
  rw [hp2]
  exact ru0
def rSet (w : World) : V → V → V → Hp → (Hp → Prop) → Prop := fun x y v H Q => ∃ (b a : Addr) (L : List Ent) (k : NestedKey), y = .ref b ∧ x = .ref a ∧ At w H a L ∧ NK H k (.ref b) ∧ k.depth ≤ 8 ∧ L.length < sizeLine ∧ Q (upd H a (dnO w a (put L k b v)))
theorem setN {w : World} (hu : X.A.units + 64 < cLine) (hw : X.w = w := by rfl) : PSet X (rSet w) := by
  subst hw
  intro pins s σ H o i v ov iv u Q I ro ri rv h
  obtain ⟨b, a, L, k, rfl, rfl, d, hk, h8, hl, q⟩ := h
  cases ro
  cases ri
  obtain ⟨z, hd, xs, r, m⟩ := d.rd.of I.hok
  have hz : xs.length ≤ sizeLine := by rw [← Paired.length r]; exact z
  refine wpAny_setItem_heap (hsz := hz) (room1 hu) (key_is I hk h8) m fun h' m' hs => ⟨_, wrote I d ?_ hd (EntR.put r k b rv) m' hs, q⟩
  exact Nat.le_trans (put_len L k b v) hl
theorem len_at {prog : Program} {w : World} {A : Around} {E : Value → Shared → Prop} {s : Shared} {a : Addr} {o : Obj} {es : Array DictEntry} {ep : Nat} {Q : Value → Shared → Prop} (hd : (a == sysModules) = false) (ho : s.heap.get? a = some o) (hx : o.ExactDict) (hdt : o.data = .dict es ep) (fit : es.size ≤ sizeLine)
    (h : Q (.int es.size (s.toks + 1)) { s with toks := s.toks + 1 + 1 }) : wpAny (model prog w) A (call (.builtin "len") [.ref a]) Q E s := by
  have hT : s.TypeIs (.ref a) "dict" := ⟨o, ho, hx.1⟩
  have z := PySem.sizeLine_eq
  have m : MeetsIn prog w (Builtin.«dict.__len__» ⟨[.ref a], []⟩) (fun _ R s => ∃ o, s.heap.get? a = some o ∧ o.data = .dict es ep ∧ R (.ok (.ret (.int es.size s.toks))) { s with toks := s.toks + 1 }) :=
    .of_wp fun A R s ⟨o, ho, hdt, h⟩ => (by
      show wpAny _ _ (dictSize a >>= _) _ _ s
      unfold dictSize
      exact wpAny_bind (wpAny_bind (wpAny_dictEntries ho hdt (wpAny_pure (by
        show wpAny _ _ (Builtin.Dict.pendingCount a >>= _) _ _ s
        exact wpAny_bind (wpAny_pendingCount_other hd (wpAny_ret_mkInt (by rw [Nat.add_zero]; exact h))))))))
  refine Calls.call_function_entry PySem.kind_len PySem.plain_len PySem.entry_len (PySem.args_len1 _) (by
    unfold Builtin.«len»
    refine wpAny_bind (m := oneArg "len" _) (wpAny_pure (wpAny_bind (m := callSpecial? (.ref a) (Str.ofString "__len__")) (wpAny_callSpecial?_slot (name := Str.ofString "__len__") hT PySem.F.slot_dict_len (call_meetsIn PySem.F.slot_dict_len hT PySem.F.entry_dict_len (PySem.F.args_dict_len_1 _) m ⟨o, ho, hdt, ?_⟩))))
    show wpAny _ _ _ _ _ { s with toks := s.toks + 1 }
    refine wpAny_bind (wpAny_holding (wpAny_pure (wpAny_bind (wpAny_letGo ?_))))
    show wpAny _ _ (if ((es.size : Nat) : Int) < 0 then _ else _) _ _ _
    rw [if_neg (show ¬ ((es.size : Nat) : Int) < 0 by omega)]
    show wpAny _ _ (if ((es.size : Nat) : Int) ≥ 2 ^ 63 then _ else _) _ _ _
    rw [if_neg (show ¬ ((es.size : Nat) : Int) ≥ 2 ^ 63 by omega)]
    exact wpAny_bind (wpAny_mkInt (wpAny_pure ⟨_, rfl, h⟩)))
def rLen (w : World) : List V → Hp → VK → Prop := fun xs H Q => ∃ (a : Addr) (L : List Ent), xs = [.ref a] ∧ Rd w H a L ∧ Q (.int L.length) H
theorem Inv.dn (I : Inv X pins σ H s) (d : Rd X.w H a L) : ∃ (o : Obj) (es : Array DictEntry) (ep : Nat), (a == sysModules) = false ∧ s.heap.get? a = some o ∧ o.ExactDict ∧ o.data = .dict es ep ∧ es.size = L.length ∧ L.length ≤ sizeLine ∧
    ∀ (i : Nat) (p : Ent), L[i]? = some p → ∃ en : DictEntry, es[i]? = some en ∧ en.key = .ref p.2.1 ∧ RelV p.2.2 en.val := by
  obtain ⟨z, hd, xs, o, es, ep, r, ho, hx, hdt, he⟩ := (show dnP X.w a L s.heap from (d.it.ok I.hok).1)
  refine ⟨o, es, ep, hd, ho, hx, hdt, ?_, z, fun i p hp => ?_⟩
  · rw [← Array.length_toList, he, List.length_map, Paired.length r]
  · obtain ⟨q, hq, _, e2, e3⟩ := paired_get r hp
    refine ⟨raw X.w q, ?_, ?_, e3⟩
    · rw [← Array.getElem?_toList, he, List.getElem?_map, hq]
      rfl
    · rw [e2]
      rfl
theorem lenN {w : World} (hw : X.w = w := by rfl) : CallR X (.builtin "len") (rLen w) := by
  subst hw
  intro pins s σ H xs us Q I r h
  obtain ⟨a, L, rfl, d, q⟩ := h
  obtain rfl := Vals.ref1 r
  obtain ⟨o, es, ep, hd, ho, hx, hdt, hz, hl, _⟩ := Inv.dn I d
  refine len_at hd ho hx hdt (by rw [hz]; exact hl) ⟨_, H, I.tok _, ?_, q⟩
  rw [hz]
  exact ⟨_, rfl⟩
def rGetD (w : World) : V → List V → Hp → VK → Prop := fun x xs H Q => ∃ (b a : Addr) (d : V) (L : List Ent) (k : NestedKey), xs = [.ref b, d] ∧ x = .ref a ∧ Rd w H a L ∧ NK H k (.ref b) ∧ k.depth ≤ 8 ∧ Q ((val L k).getD d) H
theorem getN {w : World} (hu : X.A.units + 64 < cLine) (hw : X.w = w := by rfl) : MtR X "dict.get" (rGetD w) := by
  subst hw
  intro pins s σ H x xs v us Q I rx rxs h
  obtain ⟨b, a, d, L, k, rfl, rfl, D, hk, h8, q⟩ := h
  cases rx
  obtain ⟨u1, u2, rfl, r1, r2⟩ := vals2 rxs
  cases r1
  obtain ⟨z, hd, ys, r, m⟩ := D.of I.hok
  refine call_meetsIn PySem.F.slot_dict_get m.typeIs PySem.F.entry_dict_get (PySem.F.args_dict_get_3 _ _ _) (meetsH_dict_get_default (nestedKind X.prog X.w) a b hd u2) ⟨room1 hu, k, ys, key_is I hk h8, m, ?_⟩
  exact ⟨_, H, I.tok _, (EntR.val r k).getD r2, q⟩
def rGet1 (w : World) : V → List V → Hp → VK → Prop := fun x xs H Q => ∃ (b a : Addr) (L : List Ent) (k : NestedKey), xs = [.ref b] ∧ x = .ref a ∧ Rd w H a L ∧ NK H k (.ref b) ∧ k.depth ≤ 8 ∧ Q ((val L k).getD .non) H
theorem getN1 {w : World} (hu : X.A.units + 64 < cLine) (hw : X.w = w := by rfl) : MtR X "dict.get" (rGet1 w) := by
  subst hw
  intro pins s σ H x xs v us Q I rx rxs h
  obtain ⟨b, a, L, k, rfl, rfl, D, hk, h8, q⟩ := h
  cases rx
  obtain rfl := Vals.ref1 rxs
  obtain ⟨z, hd, ys, r, m⟩ := D.of I.hok
  refine call_meetsIn PySem.F.slot_dict_get m.typeIs PySem.F.entry_dict_get (PySem.F.args_dict_get_2 _ _) (meetsH_dict_get (nestedKind X.prog X.w) a b hd) ⟨room1 hu, k, ys, key_is I hk h8, m, ?_⟩
  exact ⟨_, H, I.tok _, (EntR.val r k).getD (show L2.RelV .non Value.none from rfl), q⟩
def rPop (w : World) : V → List V → Hp → VK → Prop := fun x xs H Q => ∃ (b a : Addr) (v : V) (L : List Ent) (k : NestedKey), xs = [.ref b] ∧ x = .ref a ∧ At w H a L ∧ NK H k (.ref b) ∧ k.depth ≤ 8 ∧ val L k = some v ∧ Q v (upd H a (dnO w a (drop L k)))
theorem popN {w : World} (hu : X.A.units + 64 < cLine) (hw : X.w = w := by rfl) : MtR X "dict.pop" (rPop w) := by
  subst hw
  intro pins s σ H x xs v us Q I rx rxs h
  obtain ⟨b, a, v0, L, k, rfl, rfl, D, hk, h8, hv, q⟩ := h
  cases rx
  obtain rfl := Vals.ref1 rxs
  obtain ⟨z, hd, ys, r, m⟩ := D.rd.of I.hok
  have hz : ys.length ≤ sizeLine := by rw [← Paired.length r]; exact z
  have e := EntR.val r k
  rw [hv] at e
  obtain ⟨u0, hu0, ru0⟩ := RelO.some_of e
  obtain ⟨p, hp, hp2⟩ := Option.map_eq_some_iff.mp hu0
  refine call_pop_heap (hsz := hz) (.inl rfl) (PySem.F.args_dict_pop_2 _ _) (room1 hu) (key_is I hk h8) hd m hp fun h' m' hs => ⟨v0, _, wrote I D (Nat.le_trans (drop_len L k) z) hd (EntR.drop r k) m' hs, ?_, q⟩
  rw [hp2]
  exact ru0
/-- {}, to be a dict with such keys -/
def tNew (w : World) : TE := fun _ H Q => ∀ p, H p = none → At w (upd H p (dnO w p [])) p [] → Q (.ref p) (upd H p (dnO w p []))
theorem pe_dnewN {pos : Pos} {w : World} (hw : X.w = w := by rfl) : PE X (.Dict [] [] pos) (tNew w) := by
  subst hw
  refine ⟨fun pins s σ H Q I h => wpAny_Dict_empty ?_⟩
  have hn := I.hok.fresh (Nat.le_refl s.heap.objs.size)
  refine ⟨.ref s.heap.objs.size, _, I.laid (a := s.heap.objs.size) (o := dnO X.w s.heap.objs.size []) (t' := s.toks) (fun _ _ q => Heap.get?_push_of_some _ q) (Nat.le_refl _) (dnO_ok ⟨Nat.zero_le _, beq_eq_false_iff_ne.mpr (Ne.symm (Nat.ne_of_lt I.big)), [], _, #[], 0, .nil, Heap.get?_push_size _ rfl, ⟨rfl, rfl, rfl⟩, rfl, rfl⟩), rfl, ?_⟩
  exact h _ hn ⟨upd_same, fun p hp => (nomatch hp), List.nodup_nil⟩
/-! #### for k in d -/
/-- the keys of the locked dict, each by its own tuple -/
def ItN (w : World) (d : Addr) (o : Obj) (L : List Ent) : It :=
  ⟨fun i H => H d = some (.frz o (dnO w d L)) ∧ i < L.length, fun i H x H' => H' = H ∧ ∃ p : Ent, L[i]? = some p ∧ x = .ref p.2.1, fun i H => H d = some (.frz o (dnO w d L)) ∧ L.length ≤ i⟩
theorem walk_N {w : World} {d : Addr} {o : Obj} {L : List Ent} : Walk (ItN w d o L) L.length (fun H => H d = some (.frz o (dnO w d L))) (fun i H x H' => H' = H ∧ ∃ p : Ent, L[i]? = some p ∧ x = .ref p.2.1) :=
  ⟨fun _ _ hi q => ⟨q, hi⟩, fun _ q => ⟨q, Nat.le_refl _⟩, fun _ _ _ _ _ _ y => y⟩
theorem frzN {d : Addr} {o : Obj} (I : Inv X pins σ H s) (h : H d = some (.frz o (dnO X.w d L))) : ∃ (es : Array DictEntry) (ep : Nat), (d == sysModules) = false ∧ s.heap.get? d = some o ∧ o.ExactDict ∧ o.data = .dict es ep ∧ es.size = L.length ∧
    ∀ (i : Nat) (p : Ent), L[i]? = some p → ∃ en : DictEntry, es[i]? = some en ∧ en.key = .ref p.2.1 := by
  obtain ⟨hg, _⟩ := I.hok d _ h
  obtain ⟨z, hd, xs, o', es, ep, r, ho, hx, hdt, he⟩ := (show dnP X.w d L s.heap from ((L2.Rd.ok (.inr ⟨o, h⟩) I.hok : ObjOk X.prog X.w H s.heap d (dnO X.w d L))).1)
  have e : o' = o := Option.some.inj (ho.symm.trans hg)
  subst e
  refine ⟨es, ep, hd, ho, hx, hdt, ?_, fun i p hp => ?_⟩
  · rw [← Array.length_toList, he, List.length_map, Paired.length r]
  · obtain ⟨q, hq, _, e2, _⟩ := paired_get r hp
    refine ⟨raw X.w q, ?_, ?_⟩
    · rw [← Array.getElem?_toList, he, List.getElem?_map, hq]
      rfl
    · rw [e2]
      rfl
theorem turn_N {P : Program} {w : World} {K : PySem.W.Frag} {tg : Expr} {d : Addr} {o : Obj} {es : Array DictEntry} {ep : Nat} {L : List Ent} (it : Addr) (hod : o.data = .dict es ep) : Turn P w K tg (ItN w d o L) [it] it (fun i h => h.IsKeyIter it d i L.length ep) where
  mem := List.mem_singleton.mpr rfl
  obj := fun i h st b hb => by
    obtain rfl := List.mem_singleton.mp hb
    obtain ⟨oi, e, c, dd⟩ := st
    exact ⟨oi, e, fun v z => by rw [dd] at z; cases z⟩
  keep := fun i h h' st k => st.at fun oi e => k it (List.mem_singleton.mpr rfl) oi e
  item := by
    intro X hP hw hK hc i pins s σ H E I hf st hg
    subst hP hw hK
    obtain ⟨f0, f1, f2, f3, f4, f5⟩ := hf it (List.mem_singleton.mpr rfl)
    obtain ⟨es', ep', hs, hgd, hx, hdt, hsz, ent⟩ := frzN I hg.1
    obtain ⟨rfl, rfl⟩ := dict_ep hod hdt
    obtain ⟨p, hp⟩ : ∃ p, L[i]? = some p := ⟨L[i]'hg.2, List.getElem?_eq_getElem hg.2⟩
    obtain ⟨en, hen, hkey⟩ := ent i p hp
    refine next_key_item st hgd hdt hsz hen fun h' st' sb => ?_
    have I1 := I.turned (t' := s.toks) (fun b ob hb e => (sb.2 b hb).trans e) f0 f1 f3 f4 f5
    obtain ⟨oi, e, c, dd⟩ := id st'
    exact ⟨en.key, rfl, go_of (s := { s with heap := h' }) e c dd (by decide) ⟨.ref p.2.1, H, I1, hkey, ⟨rfl, p, hp, rfl⟩, st', fun b hb => (hf b hb).1⟩⟩
  done := by
    intro X hP hw hK hc i pins s σ H E I hf st hg
    subst hP hw hK
    obtain ⟨f0, f1, f2, f3, f4, f5⟩ := hf it (List.mem_singleton.mpr rfl)
    obtain ⟨es', ep', hs, hgd, hx, hdt, hsz, ent⟩ := frzN I hg.1
    obtain ⟨rfl, rfl⟩ := dict_ep hod hdt
    exact next_key_end (I.ok.hd hc) st hgd hdt hsz hg.2 fun h' eb => ⟨rfl, I.turned (t' := s.toks) (fun b ob hb e => eb b ob hb e) f0 f1 f3 f4 f5⟩
  self := fun A i s Q E st h => by
    refine wpAny_pyIter_slot st.typeIs PySem.F.slot_dict_keyiterator_iter (wpAny_call_entry PySem.F.slot_dict_keyiterator_iter st.typeIs PySem.F.entry_dict_keyiterator_iter (by
      show wpAny _ _ (ret (.ref it)) _ _ s
      exact wpAny_pure ⟨_, rfl, ("dict_keyiterator" : String), _, st.typeIs, PySem.F.slot_dict_keyiterator_next.lookup, h⟩) (PySem.F.args_dict_keyiterator_iter_1 _))
def iKeysN (w : World) (td : TE) : TI := fun σ H R => td σ H fun x H1 => ∃ (d : Addr) (o : Obj) (L : List Ent), x = .ref d ∧ H1 d = some (.frz o (dnO w d L)) ∧ R (ItN w d o L) H1
theorem pi_keysN {w : World} {tg e : Expr} {td : TE} (he : PE X e td) (hw : X.w = w := by rfl) : PI X tg e (iKeysN w td) := by
  subst hw
  refine ⟨fun pins s σ H R I h => ?_⟩
  refine thn (he.run pins s σ H _ I h) fun u s1 ⟨x, H1, I1, rx, d, o, L, ex, hd, q⟩ => ?_
  subst ex
  obtain rfl : u = Value.ref d := rx
  obtain ⟨es, ep, hs, hgd, hx, hdt, hsz, ent⟩ := frzN I1 hd
  refine iter_keys hs hgd hx hdt (pi_one (tk := s1.toks) I1 _ (turn_N _ hdt) ⟨_, Heap.get?_push_size _ rfl, rfl, ?_⟩ q)
  rw [hsz] <;> rfl
end
end DN
/-! ### a draw -/
def spDraw : Sp := fun vs H Q _ => ∃ (b : Addr) (many : Int) (m : Nat), vs = [.ref b, .int many] ∧ Bag H b m ∧ m ≤ LIM ∧ 0 < many ∧ many < 2 ^ 256 ∧ ∀ (r : Int) (H' : Hp), 0 ≤ r → r < many → Go b 1 H H' → Q (.int r) H'
theorem nat_lt {i : Int} {n : Nat} (h0 : 0 ≤ i) (h : i < ((2 ^ n : Nat) : Int)) : i.natAbs < 2 ^ n := by omega
theorem draw_set {b : Addr} {m : Nat} {H : Hp} {x y z x' z' : Int} (hb : H b = some (.lst [.int x, .int y, .int z])) (hz : z' = z ∨ z' = z + 1) : Go b 1 H (upd H b (.lst [.int x', .int y, .int z'])) := by
  refine ⟨fun a o e h _ => by rw [upd_ne e]; exact h, fun k hk => ?_, fun P t => TabG.upd t (no_tbl hb), fun a ha => by
    by_cases e : a = b
    · rw [e, upd_same] at ha
      cases ha
    · rw [upd_ne e] at ha
      exact ha⟩
  obtain ⟨x1, y1, z1, h1, h2, h3, h4, h5⟩ := hk
  rw [hb] at h1
  injection h1 with h1
  injection h1 with h1
  injection h1 with e1 h1
  injection h1 with e2 h1
  injection h1 with e3 h1
  injection e1 with e1
  injection e2 with e2
  injection e3 with e3
  subst e1 e2 e3
  exact ⟨x', y, z', upd_same, h2, h3, by omega, by omega⟩
/-! ### texts, menus, comprehensions of draws -/
/-- a sign of worths -/
def sgn (c : Nat) : Bool := decide (32 ≤ c) && (decide (c ≤ 126) && !decide (c = 37))
/-- a text of signs of worths, of at most n signs -/
structure WT (z : Str) (n : Nat) : Prop where
  len : (tl z).length ≤ n
  sg : ∀ c ∈ tl z, sgn c = true
theorem WT.mono {z : Str} {n m : Nat} (h : WT z n) (l : n ≤ m) : WT z m := ⟨Nat.le_trans h.len l, h.sg⟩
theorem WT.line {z : Str} {n : Nat} (h : WT z n) (l : n ≤ 100000) : z.length ≤ sizeLine := by
  rw [len_tl]
  exact small (Nat.le_trans h.len l)
theorem tl_cut (z : Str) (k : Nat) : tl (cutS z none (some (k : Int))) = (tl z).take k := by
  show (((z.cps.toList.drop (HT.sIx z.length 0 none)).take (HT.sIx z.length z.length (some (k : Int)) - HT.sIx z.length 0 none)).toArray).toList = _
  rw [HT.sIx_none, HT.sIx_nat, List.drop_zero, Nat.sub_zero, List.toList_toArray]
  have e : z.length = (tl z).length := len_tl z
  rw [e]
  show (tl z).take (min k (tl z).length) = _
  by_cases h : k ≤ (tl z).length
  · rw [Nat.min_eq_left h]
  · rw [Nat.min_eq_right (by omega), List.take_of_length_le (Nat.le_refl _), List.take_of_length_le (by omega)]
theorem WT.cut {z : Str} (h : ∀ c ∈ tl z, sgn c = true) (k : Nat) : WT (cutS z none (some (k : Int))) k :=
  ⟨by rw [tl_cut, List.length_take]; exact Nat.min_le_left _ _, fun c hc => h c (by rw [tl_cut] at hc; exact List.mem_of_mem_take hc)⟩
theorem WT.int {i : Int} {k : Nat} (hk : 0 < k) (h : i.natAbs < 10 ^ k) : WT (Str.ofString (toString i)) (k + 1) := by
  refine ⟨?_, fun c hc => ?_⟩
  · rw [← len_tl, PySem.ofString_length]
    exact PySem.int_text_length_le10 hk h
  · have f := fun q hq => PyProof.Rows.int_text_free' q hq i
    have z : ¬ (c ≠ 45 ∧ (c < 48 ∨ 57 < c)) := fun q => f c q hc
    unfold sgn
    by_cases e : c = 45
    · subst e; rfl
    · have q : 48 ≤ c ∧ c ≤ 57 := by omega
      rw [decide_eq_true (show 32 ≤ c by omega), decide_eq_true (show c ≤ 126 by omega), decide_eq_false (show ¬ c = 37 by omega)]
      rfl
theorem joinL_nil : ∀ ps : List (List Nat), joinL [] ps = ps.flatten
  | [] => rfl
  | [p] => by
    show p = [p].flatten
    simp
  | p :: q :: r => by
    show p ++ ([] ++ joinL [] (q :: r)) = _
    rw [joinL_nil (q :: r), List.nil_append]
    rfl
theorem tl_glue (ys : List Str) : tl (Txt.join "" ys) = (ys.map tl).flatten := by
  rw [join_eq, tl_join]
  exact joinL_nil _
theorem flat_len {k : Nat} : ∀ ys : List Str, (∀ y ∈ ys, (tl y).length ≤ k) → (ys.map tl).flatten.length ≤ k * ys.length
  | [], _ => by simp
  | y :: r, h => by
    have a := h y List.mem_cons_self
    have b := flat_len r fun z hz => h z (List.mem_cons_of_mem _ hz)
    rw [List.map_cons, List.flatten_cons, List.length_append, List.length_cons, Nat.mul_succ]
    omega
theorem WT.glue {k : Nat} {ys : List Str} (h : ∀ y ∈ ys, WT y k) : WT (Txt.join "" ys) (k * ys.length) := by
  refine ⟨by rw [tl_glue]; exact flat_len ys fun y hy => (h y hy).len, fun c hc => ?_⟩
  rw [tl_glue] at hc
  obtain ⟨l, hl, hcl⟩ := List.mem_flatten.mp hc
  obtain ⟨y, hy, rfl⟩ := List.mem_map.mp hl
  exact (h y hy).sg c hcl
theorem glue_sum {k : Nat} : ∀ ys : List Str, (∀ y ∈ ys, (tl y).length ≤ k) → (ys.map (·.length)).sum ≤ k * ys.length
  | [], _ => by simp
  | y :: r, h => by
    have a := h y List.mem_cons_self
    have b := glue_sum r fun z hz => h z (List.mem_cons_of_mem _ hz)
    have c : y.length = (tl y).length := len_tl y
    rw [List.map_cons, List.sum_cons, List.length_cons, Nat.mul_succ]
    omega
theorem glue_ok {k n : Nat} {ys : List Str} (h : ∀ y ∈ ys, (tl y).length ≤ k) (hl : ys.length = n) (hb : k * n ≤ 1000000) : (ys.map (·.length)).sum + ys.length * ("" : Str).length ≤ 16777216 := by
  have a := glue_sum ys h
  rw [hl] at a
  have e : ("" : Str).length = 0 := rfl
  rw [e]
  omega
/-- texts as values: what a list of values that are texts holds -/
theorem texts_of {P : Str → Prop} : ∀ vs : List V, (∀ v ∈ vs, ∃ y, v = .str y ∧ P y) → ∃ ys : List Str, vs = ys.map V.str ∧ ys.length = vs.length ∧ ∀ y ∈ ys, P y
  | [], _ => ⟨[], rfl, rfl, fun _ h => by cases h⟩
  | v :: r, h => by
    obtain ⟨y, rfl, hy⟩ := h v List.mem_cons_self
    obtain ⟨ys, rfl, e, hp⟩ := texts_of r fun z hz => h z (List.mem_cons_of_mem _ hz)
    refine ⟨y :: ys, rfl, by rw [List.length_cons, List.length_cons, e], fun z hz => ?_⟩
    rcases List.mem_cons.mp hz with rfl | hz
    · exact hy
    · exact hp z hz
section
variable {K : PySem.W.Frag}
/-- the n-th of a list that is written on the spot, n drawn -/
theorem menuG {A : V → Prop} {b : Addr} {i n c m : Nat} {σ : L2.St} {H : Hp} {ta : TA} {Q : VK} (ha : ∀ R : List V → Hp → Prop, (∀ xs H1, xs.length = n → (∀ v ∈ xs, A v) → Go b c H H1 → R xs H1) → ta σ H R)
    (hb : σ[i]? = some (some (.ref b))) (B : Bag H b m) (hm : m + c ≤ LIM) (h0 : 0 < n) (hn : n ≤ 1000) (q : ∀ v H', A v → Go b (c + 1) H H' → Q v H') : tOp (rIxL K) (tLst ta) (tCall spDraw [] E0 (tCons (tVar i) (tCons (tC (.int ((n : Nat) : Int))) tNil))) σ H Q := by
  refine ha _ fun xs H1 hl hA G => ⟨small (by omega), fun p hp => ?_⟩
  have B1 := (Go.new (o := .lst xs) hp).bag _ (G.bag _ B)
  refine ⟨_, hb, b, (n : Int), _, rfl, B1, by omega, by omega, by omega, fun r H' r0 r1 G' => ?_⟩
  have hp' : (upd H1 p (.lst xs)) p = some (.lst xs) := upd_same
  have np : p ≠ b := (G.bag _ B).ne hp
  obtain ⟨j, rfl⟩ : ∃ j : Nat, r = (j : Int) := ⟨r.toNat, by omega⟩
  have hj : j < xs.length := by omega
  refine ⟨p, xs, (j : Int), xs[j], rfl, rfl, SqL.of (G'.keep p _ np hp'), atI_nat (List.getElem?_eq_getElem hj), ?_⟩
  exact q _ _ (hA _ (List.getElem_mem hj)) ((G.trans ((Go.new hp).trans G')).mono (by omega))
/-- .. of values that are there -/
theorem menuC {A : V → Prop} {b : Addr} {i m : Nat} {xs : List V} {σ : L2.St} {H : Hp} {ta : TA} {Q : VK} (ha : ∀ R : List V → Hp → Prop, R xs H → ta σ H R) (hA : ∀ v ∈ xs, A v)
    (hb : σ[i]? = some (some (.ref b))) (B : Bag H b m) (hm : m ≤ LIM) (h0 : 0 < xs.length) (hn : xs.length ≤ 1000) (q : ∀ v H', A v → Go b 1 H H' → Q v H') : tOp (rIxL K) (tLst ta) (tCall spDraw [] E0 (tCons (tVar i) (tCons (tC (.int ((xs.length : Nat) : Int))) tNil))) σ H Q :=
  menuG (n := xs.length) (c := 0) (fun R h => ha R (h _ _ rfl hA (Go.refl b H))) hb B hm h0 hn fun v H' hv G => q v H' hv (G.mono (by omega))
theorem draw_here {b : Addr} {i m : Nat} {many : Int} {σ : L2.St} {H : Hp} {Q : VK} (hb : σ[i]? = some (some (.ref b))) (B : Bag H b m) (hm : m ≤ LIM) (h0 : 0 < many) (hn : many < 2 ^ 256) (q : ∀ (r : Int) (H' : Hp), 0 ≤ r → r < many → Go b 1 H H' → Q (.int r) H') :
    tCall spDraw [] E0 (tCons (tVar i) (tCons (tC (.int many)) tNil)) σ H Q := ⟨_, hb, b, many, m, rfl, B, hm, h0, hn, q⟩
/-- [e for k in range(n)], e by draws of the bag at b: a new list of n values that are so -/
theorem lc_draws {b : Addr} {i n c m : Nat} {σ : L2.St} {H1 : Hp} {D : Addr} {te : TE} {Q : VK} (A : V → Prop) (B : Bag H1 b m) (hD : H1 D = none) (hn : n ≤ 90000)
    (he : ∀ (j : Nat) (H : Hp), j < n → Bag H b (m + c * j) → Go b (c * j) H1 H → ∀ R : VK, (∀ y H', A y → Go b c H H' → R y H') → te ((σ.set i none).set i (some (.int (0 + (j : Int))))) H R)
    (hQ : ∀ ys H', ys.length = n → (∀ y ∈ ys, A y) → Go b (c * n) H1 H' → H' D = some (.lst ys) → Q (.ref D) H') :
    ∃ W : Nat → Nat → Hp → Prop, (∃ k, W 0 k (upd H1 D (.lst []))) ∧ ∀ j k H, W j k H →
      ((Itr 0 n).stop j H ∧ Q (.ref D) H) ∨ ((Itr 0 n).go j H ∧ ∃ Nx : Hp → Prop, (∀ H', Nx H' → ∃ k', k' < k ∧ W (j + 1) k' H') ∧ ∀ x H', (Itr 0 n).yld j H x H' → gName i x (wipe σ [i]) H' fun σ2 H2 => wipe σ2 [i] = wipe σ [i] ∧ tYes σ2 H2 fun b H3 =>
        if b = true then te σ2 H3 fun y H4 => ∃ acc, H4 D = some (.lst acc) ∧ acc.length < sizeLine ∧ Nx (upd H4 D (.lst (acc ++ [y]))) else Nx H3) := by
  have nD := B.ne hD
  refine lc_range (lo := 0) (n := n) (fun j H => ∃ ys : List V, ys.length = j ∧ (∀ y ∈ ys, A y) ∧ Go b (c * j) H1 H ∧ H D = some (.lst ys)) ⟨[], rfl, fun _ h => (by cases h), ?_, upd_same⟩ (fun j H hj hp => ?_) fun H hp => ?_
  · exact (Go.new hD).mono (by omega)
  · obtain ⟨ys, hl, hA, G, hy⟩ := hp
    refine ⟨?_, ?_⟩
    · show ((wipe σ [i]).set i (some (.int (0 + (j : Int))))).set i none = (σ.set i none)
      show ((σ.set i none).set i (some (.int (0 + (j : Int))))).set i none = (σ.set i none)
      rw [List.set_set, List.set_set]
    · show te ((σ.set i none).set i (some (.int (0 + (j : Int))))) H _
      refine he j H hj (G.bag _ B) G _ fun y H' hy' G' => ⟨ys, G'.keep D _ nD hy, small' (by omega), ys ++ [y], by rw [List.length_append, hl]; rfl, fun z hz => ?_, ?_, upd_same⟩
      · rcases List.mem_append.mp hz with hz | hz
        · exact hA z hz
        · rw [List.mem_singleton.mp hz]
          exact hy'
      · refine Go.own ((G.trans G').mono ?_) B hD (no_tbl (G'.keep D _ nD hy))
        rw [Nat.mul_succ]
        exact Nat.le_refl _
  · obtain ⟨ys, hl, hA, G, hy⟩ := hp
    exact hQ ys H hl hA G hy
theorem lc_drawn {b : Addr} {i N c c0 m : Nat} {σ : L2.St} {H : Hp} {ta : TA} {te : TE} {Q : VK} {A0 : Int → Prop} (A : V → Prop) (ha : ∀ R : List V → Hp → Prop, (∀ (k : Int) H1, A0 k → 0 ≤ k → k ≤ N → Go b c0 H H1 → R [.int k] H1) → ta σ H R) (B : Bag H b m) (hN : N ≤ 90000)
    (he : ∀ (j : Nat) (H2 : Hp), j < N → Bag H2 b (m + c0 + c * j) → Go b (c0 + c * j) H H2 → ∀ R : VK, (∀ y H', A y → Go b c H2 H' → R y H') → te ((σ.set i none).set i (some (.int (0 + (j : Int))))) H2 R)
    (hQ : ∀ (k : Int) D ys H', A0 k → 0 ≤ k → k ≤ N → ys.length = k.toNat → (∀ y ∈ ys, A y) → Go b (c0 + c * k.toNat) H H' → H' D = some (.lst ys) → H D = none → Q (.ref D) H') : tLc (iRng1 ta) (gName i) tYes te [i] σ H Q := by
  refine ha _ fun k H1 hk k0 k1 G => ⟨k, rfl, by omega, by omega, fun D hD => ?_⟩
  have B1 := G.bag _ B
  refine lc_draws (c := c) (i := i) (n := k.toNat) (te := te) A B1 hD (by omega) (fun j H2 hj B2 G2 R hR => ?_) fun ys H' hl hA G' hy => ?_
  · exact he j H2 (by omega) B2 (G.trans G2) R hR
  · exact hQ k D ys H' hk k0 k1 hl hA (G.trans G') hy (G.free B hD)
end
/-! ### the law's cells, bags, texts, names, keys, references -/
def spCellAt (K : PySem.W.Frag) : Sp := fun vs H Q _ => ∃ (a : Addr) (ns : List Int) (k : Nat), vs = [.ref a, .int (k : Int)] ∧ SqL K H a (ns.map V.int) ∧ ∀ c : Int, Q (.int c) H
def spBag : Sp := fun vs H Q _ => ∃ (c : Int) (k : Nat), vs = [.int c, .int (k : Int)] ∧ k ≤ 1000 ∧ ∀ (p : Addr) (H' : Hp), H p = none → Sm H H' → Bag H' p 0 → Q (.ref p) H'
def SIGNS : Str := " !\"#$&'()*+,-./0123456789:;<=>?@ABCDEFGHIJKLMNOPQRSTUVWXYZ[\\]^_`abcdefghijklmnopqrstuvwxyz{|}~"
def spSigns : Sp := fun vs H Q _ => vs = [] ∧ Q (.str SIGNS) H
def spText : Sp := fun vs H Q _ => ∃ (b : Addr) (most m : Nat), vs = [.ref b, .int (most : Int)] ∧ Bag H b m ∧ m + 2000 ≤ LIM ∧ most ≤ 1000 ∧ ∀ (z : Str) (H' : Hp), WT z most → Go b 1100 H H' → Q (.str z) H'
def AZ (c : Nat) : Bool := decide (97 ≤ c) && decide (c ≤ 122)
structure NM (z : Str) : Prop where
  len : (tl z).length ≤ 8
  pos : 1 ≤ (tl z).length
  sg : ∀ c ∈ tl z, AZ c = true
def spName : Sp := fun vs H Q _ => ∃ (b : Addr) (m : Nat), vs = [.ref b] ∧ Bag H b m ∧ m + 2000 ≤ LIM ∧ ∀ (z : Str) (H' : Hp), NM z → Go b 20 H H' → Q (.str z) H'
structure KEY (z : Str) : Prop where
  wt : WT z 40
  pos : 1 ≤ (tl z).length
def spKey : Sp := fun vs H Q _ => ∃ (b : Addr) (m : Nat), vs = [.ref b] ∧ Bag H b m ∧ m + 5000 ≤ LIM ∧ ∀ (z : Str) (H' : Hp), KEY z → Go b 1200 H H' → Q (.str z) H'
/-- a reference stands at p -/
structure RefAt (K : PySem.W.Frag) (H : Hp) (p : Addr) (name : Str) (keys : List Str) : Prop where
  ex : ∃ t : Addr, SqT K H p [.str name, .ref t] ∧ SqT K H t (keys.map V.str)
structure REF (name : Str) (keys : List Str) : Prop where
  nm : NM name
  le : keys.length ≤ 6
  ks : ∀ z ∈ keys, KEY z
def spRef (K : PySem.W.Frag) : Sp := fun vs H Q _ => ∃ (b : Addr) (m : Nat), vs = [.ref b] ∧ Bag H b m ∧ m + 20000 ≤ LIM ∧ ∀ (p : Addr) (name : Str) (keys : List Str) (H' : Hp), REF name keys → RefAt K H' p name keys → Go b 8000 H H' → Q (.ref p) H'
theorem sgn_of {z : Str} (h : (tl z).all sgn = true) : ∀ c ∈ tl z, sgn c = true := fun c hc => List.all_eq_true.mp h c hc
theorem WT.dec {z : Str} {n : Nat} (h : (decide ((tl z).length ≤ n) && (tl z).all sgn) = true) : WT z n := by
  rw [Bool.and_eq_true] at h
  exact ⟨of_decide_eq_true h.1, sgn_of h.2⟩
/-- all of a list of values are texts that are so -/
def allWT (n : Nat) (vs : List V) : Bool := vs.all fun v => match v with
  | .str z => decide ((tl z).length ≤ n) && (tl z).all sgn
  | _ => false
theorem allWT_ok {n : Nat} {vs : List V} (h : allWT n vs = true) : ∀ v ∈ vs, ∃ z, v = .str z ∧ WT z n := fun v hv => by
  have q := List.all_eq_true.mp h v hv
  cases v with
  | str z => exact ⟨z, rfl, WT.dec q⟩
  | _ => cases q
def allInt (lo hi : Int) (vs : List V) : Bool := vs.all fun v => match v with
  | .int z => decide (lo ≤ z) && decide (z ≤ hi)
  | _ => false
theorem allInt_ok {lo hi : Int} {vs : List V} (h : allInt lo hi vs = true) : ∀ v ∈ vs, ∃ z, v = .int z ∧ lo ≤ z ∧ z ≤ hi := fun v hv => by
  have q := List.all_eq_true.mp h v hv
  cases v with
  | int z =>
    have q' : (decide (lo ≤ z) && decide (z ≤ hi)) = true := q
    rw [Bool.and_eq_true] at q'
    exact ⟨z, rfl, of_decide_eq_true q'.1, of_decide_eq_true q'.2⟩
  | _ => cases q
theorem RefAt.go {K : PySem.W.Frag} {b : Addr} {n m : Nat} {H H' : Hp} {p : Addr} {name : Str} {keys : List Str} (R : RefAt K H p name keys) (G : Go b n H H') (B : Bag H b m) : RefAt K H' p name keys := by
  obtain ⟨t, h1, h2⟩ := R.ex
  exact ⟨t, G.seqT B h1, G.seqT B h2⟩
theorem RefAt.same {K : PySem.W.Frag} {H H' : Hp} {p : Addr} {name : Str} {keys : List Str} (R : RefAt K H p name keys) (G : Sm H H') : RefAt K H' p name keys := by
  obtain ⟨t, h1, h2⟩ := R.ex
  exact ⟨t, Sm.seqT G h1, Sm.seqT G h2⟩
section
variable {P : Program} {w : World} {K : PySem.W.Frag} {mg : Str → Option Value} {base : Heap} {cs : Tabs}
theorem ok_law_cell_at (T : Txt K mg cs) : Cal P w K mg base 1 "_law_cell_at" ["script", "k"] (spCellAt K) := by
  refine T.f_law_cell_at.cal scLawCellAt (fun vs H Q E h => ?_) (fun f cdv A outer s H vs Q E hr h => ?_)
  · obtain ⟨a, ns, k, rfl, _⟩ := h
    rfl
  obtain ⟨a, ns, k, rfl, hS, q⟩ := h
  refine ⟨_, (pss_cons (ps_if (pt_cmpR op_lt (pv 1) (pe_callB (lenQ K) rfl T.n_len (by decide +kernel) (pa_cons (pv 0) pa_nil)) (nomark _)) (pss_one (ps_ret (pe_ix (ixL K) (pv 0) (pv 1) (fun _ _ => rfl)))) pss_nil)
    (pss_one (ps_ret pe_int))), ?_⟩
  refine ⟨_, rfl, _, rfl, a, _, rfl, .inl hS, _, _, rfl, rfl, _, rfl, ?_⟩
  refine ite2 (fun c => ?_) (fun c => ?_)
  · have c' : (k : Int) < (((ns.map V.int).length : Nat) : Int) := of_decide_eq_true c
    have hk : k < ns.length := by
      rw [List.length_map] at c'
      omega
    have e : (ns.map V.int)[k]? = some (.int ns[k]) := by
      rw [List.getElem?_map, List.getElem?_eq_getElem hk]
      rfl
    exact ⟨_, rfl, _, rfl, a, _, (k : Int), _, rfl, rfl, hS, atI_nat e, q _⟩
  · exact q 0
end
/-! ### the numbers that texts begin with: reckoned over their signs -/
open PySem.NumText (digitsVal AllDigits)
def SG : Str := "+-"
def FG : Str := "0123456789"
def isS (c : Nat) : Bool := decide (c ∈ tl SG)
def isF (c : Nat) : Bool := decide (c ∈ tl FG)
theorem tl_SG : tl SG = [43, 45] := by decide +kernel
theorem tl_FG : tl FG = [48, 49, 50, 51, 52, 53, 54, 55, 56, 57] := by decide +kernel
theorem isS_iff {c : Nat} : isS c = true ↔ c = 43 ∨ c = 45 := by
  unfold isS
  rw [tl_SG, decide_eq_true_eq]
  simp
theorem isF_iff {c : Nat} : isF c = true ↔ 48 ≤ c ∧ c ≤ 57 := by
  unfold isF
  rw [tl_FG, decide_eq_true_eq]
  simp only [List.mem_cons, List.not_mem_nil, or_false]
  omega
theorem find_FG {c : Nat} (h : isF c = true) : Txt.find FG ⟨#[c]⟩ = ((c - 48 : Nat) : Int) := by
  have h := isF_iff.mp h
  obtain ⟨j, rfl⟩ : ∃ j, c = 48 + j := ⟨c - 48, by omega⟩
  have hj : j < 10 := by omega
  have : ∀ j : Fin 10, Txt.find FG ⟨#[48 + j.val]⟩ = ((48 + j.val - 48 : Nat) : Int) := by decide +kernel
  exact this ⟨j, hj⟩
def cnt45 (l : List Nat) : Nat := l.countP fun c => c == 45
theorem count_cnt (x : Str) : Txt.count x "-" = (cnt45 (tl x) : Int) := by
  have e : ("-" : Str) = ⟨#[45]⟩ := by decide +kernel
  rw [e, PyProof.Rows.count_is]
  show PyProof.Rows.cnt 45 (tl x) = _
  generalize tl x = l
  induction l with
  | nil => rfl
  | cons a r ih =>
    rw [PyProof.Rows.cnt_cons, ih]
    unfold cnt45
    rw [List.countP_cons]
    by_cases h : a = 45
    · subst h
      simp
      omega
    · simp [h]
def figs (l : List Nat) : List Nat := (l.dropWhile isS).takeWhile isF
def minus (l : List Nat) : Bool := decide (cnt45 (l.takeWhile isS) % 2 = 1)
def numOf (l : List Nat) : Int := if minus l then -((digitsVal (figs l) : Nat) : Int) else ((digitsVal (figs l) : Nat) : Int)
/-- a walk ahead as long as p holds -/
theorem walked {p : Nat → Bool} : ∀ {l : List Nat} {i : Nat}, (∀ j c, j < i → l[j]? = some c → p c = true) → i ≤ l.length → (∀ c, l[i]? = some c → p c = false) → l.takeWhile p = l.take i ∧ l.dropWhile p = l.drop i
  | [], 0, _, _, _ => ⟨rfl, rfl⟩
  | c :: r, 0, _, _, h => by
    have := h c rfl
    simp [List.takeWhile_cons, List.dropWhile_cons, this]
  | c :: r, i + 1, h, hl, h2 => by
    have hc := h 0 c (by omega) rfl
    obtain ⟨a, b⟩ := walked (l := r) (i := i) (fun j d hj hd => h (j + 1) d (by omega) hd) (by simp at hl; omega) (fun d hd => h2 d hd)
    simp [List.takeWhile_cons, List.dropWhile_cons, hc, a, b]
theorem val_from (x : Nat) : ∀ b : List Nat, b.foldl (fun acc c => acc * 10 + (c - 48)) x = x * 10 ^ b.length + b.foldl (fun acc c => acc * 10 + (c - 48)) 0
  | [] => by simp
  | c :: r => by
    rw [List.foldl_cons, List.foldl_cons, val_from (x * 10 + (c - 48)) r, val_from (0 * 10 + (c - 48)) r, List.length_cons, Nat.pow_succ]
    generalize 10 ^ r.length = z
    generalize r.foldl (fun acc c => acc * 10 + (c - 48)) 0 = y
    rw [Nat.add_mul, Nat.zero_mul, Nat.zero_add, Nat.mul_assoc, Nat.mul_comm 10 z, Nat.add_assoc]
theorem val_append (a b : List Nat) : digitsVal (a ++ b) = digitsVal a * 10 ^ b.length + digitsVal b := by
  unfold digitsVal
  rw [List.foldl_append, val_from]
theorem val_lt : ∀ {l : List Nat}, AllDigits l → digitsVal l < 10 ^ l.length
  | [], _ => by decide
  | c :: r, h => by
    have hr := val_lt (l := r) fun d hd => h d (List.mem_cons_of_mem _ hd)
    have hc := h c List.mem_cons_self
    have e := val_append [c] r
    have e1 : digitsVal [c] = c - 48 := by
      show 0 * 10 + (c - 48) = _
      omega
    rw [show c :: r = [c] ++ r from rfl, e, e1, List.length_append, List.length_singleton, Nat.add_comm, Nat.pow_add]
    have : (c - 48) * 10 ^ r.length ≤ 9 * 10 ^ r.length := Nat.mul_le_mul_right _ (by omega)
    omega
theorem tw_self {p : Nat → Bool} : ∀ {l : List Nat}, (∀ c ∈ l, p c = true) → l.takeWhile p = l
  | [], _ => rfl
  | c :: r, h => by
    rw [List.takeWhile_cons, if_pos (h c List.mem_cons_self), tw_self fun d hd => h d (List.mem_cons_of_mem _ hd)]
theorem figs_digits (l : List Nat) : AllDigits (figs l) := fun c hc => isF_iff.mp (by
  have := List.all_takeWhile (p := isF) (l := l.dropWhile isS)
  exact List.all_eq_true.mp this c hc)
theorem figs_len (l : List Nat) : (figs l).length ≤ l.length := by
  unfold figs
  have a := (List.takeWhile_sublist (l := l.dropWhile isS) isF).length_le
  have b := (List.dropWhile_sublist (l := l) isS).length_le
  omega
/-- a number's text -/
def numT (n : Int) : List Nat := if n < 0 then 45 :: numL n.natAbs else numL n.natAbs
theorem numL_head : ∀ {n : Nat}, 0 < n → ∃ c r, numL n = c :: r ∧ 49 ≤ c := by
  intro n
  induction n using Nat.strongRecOn with
  | _ n ih =>
    intro h
    by_cases h10 : n < 10
    · exact ⟨48 + n, [], numL_lt h10, by omega⟩
    · obtain ⟨c, r, e, hc⟩ := ih (n / 10) (by omega) (by omega)
      exact ⟨c, r ++ [48 + n % 10], by rw [numL_step (by omega), e]; rfl, hc⟩
theorem numL_zero : numL 0 = [48] := numL_lt (by decide)
theorem numL_of {c : Nat} {r : List Nat} (h : AllDigits (c :: r)) (hc : 49 ≤ c) : numL (digitsVal (c :: r)) = c :: r := by
  unfold numL
  rw [PySem.NumText.toDigits_digitsVal r.length (c :: r) rfl h (.inr ⟨c, r, rfl, hc⟩), List.map_map]
  have : ∀ d ∈ c :: r, (Char.toNat ∘ Char.ofNat) d = d := fun d hd => by
    have := h d hd
    obtain ⟨j, rfl⟩ : ∃ j, d = 48 + j := ⟨d - 48, by omega⟩
    have hj : j < 10 := by omega
    have q : ∀ j : Fin 10, (Char.toNat ∘ Char.ofNat) (48 + j.val) = 48 + j.val := by decide +kernel
    exact q ⟨j, hj⟩
  rw [List.map_congr_left this, List.map_id'']
  intro _; rfl
/-- what is_number_text looks at -/
def bareOf (l : List Nat) : List Nat := match l with
  | 45 :: r => r
  | l => l
def isNum (l : List Nat) : Bool := match bareOf l with
  | 48 :: _ => decide (l = [48])
  | f => !decide (f = []) && f.all isF
theorem isNum_is (l : List Nat) : isNum l = decide (numT (numOf l) = l) := by
  have back : ∀ n : Int, isNum (numT n) = true := fun n => by
    unfold numT
    split
    · obtain ⟨c, r, e, hc⟩ := numL_head (n := n.natAbs) (by omega)
      have d := numL_digits n.natAbs
      rw [e] at d ⊢
      unfold isNum
      have : bareOf (45 :: c :: r) = c :: r := rfl
      rw [this]
      have hne : c ≠ 48 := by omega
      split
      · rename_i h
        injection h with h1
        exact absurd h1 hne
      · rw [Bool.and_eq_true]
        refine ⟨by simp, List.all_eq_true.mpr fun x hx => isF_iff.mpr (d x hx)⟩
    · by_cases z : n.natAbs = 0
      · rw [z, numL_zero]
        rfl
      · obtain ⟨c, r, e, hc⟩ := numL_head (n := n.natAbs) (by omega)
        have d := numL_digits n.natAbs
        rw [e] at d ⊢
        unfold isNum
        have hc' := d c List.mem_cons_self
        have : bareOf (c :: r) = c :: r := by
          unfold bareOf
          split
          · rename_i h
            injection h with h1
            omega
          · rfl
        rw [this]
        have hne : c ≠ 48 := by omega
        split
        · rename_i h
          injection h with h1
          exact absurd h1 hne
        · rw [Bool.and_eq_true]
          refine ⟨by simp, List.all_eq_true.mpr fun x hx => isF_iff.mpr (d x hx)⟩
  have forth : isNum l = true → numT (numOf l) = l := fun h => by
    unfold isNum at h
    split at h
    · have e := of_decide_eq_true h
      subst e
      decide +kernel
    · rename_i hf
      rw [Bool.and_eq_true] at h
      have hne : bareOf l ≠ [] := by simpa using h.1
      have hd : AllDigits (bareOf l) := fun c hc => isF_iff.mp (List.all_eq_true.mp h.2 c hc)
      obtain ⟨c, r, e⟩ : ∃ c r, bareOf l = c :: r := by
        cases q : bareOf l with
        | nil => exact absurd q hne
        | cons c r => exact ⟨c, r, rfl⟩
      rw [e] at hd
      have hc := hd c List.mem_cons_self
      have hc9 : 49 ≤ c := by
        have : c ≠ 48 := fun z => hf r (by rw [e, z])
        omega
      have nS : isS c = false := by
        cases q : isS c with
        | false => rfl
        | true =>
          have := isS_iff.mp q
          omega
      have tk : (c :: r).takeWhile isF = c :: r := tw_self fun d hd' => isF_iff.mpr (hd d hd')
      have pos := PySem.NumText.digitsVal_pos (cs := r) hc9
      by_cases h45 : ∃ s, l = 45 :: s
      · obtain ⟨s, rfl⟩ := h45
        have es : s = c :: r := e
        subst es
        have s45 : isS 45 = true := by decide +kernel
        have e1 : figs (45 :: c :: r) = c :: r := by
          unfold figs
          rw [List.dropWhile_cons, if_pos s45, List.dropWhile_cons, if_neg (by rw [nS]; decide), tk]
        have e2 : minus (45 :: c :: r) = true := by
          unfold minus
          rw [List.takeWhile_cons, if_pos s45, List.takeWhile_cons, if_neg (by rw [nS]; decide)]
          rfl
        unfold numOf
        rw [e2, e1, if_pos rfl]
        unfold numT
        rw [if_pos (by omega)]
        have : (-((digitsVal (c :: r) : Nat) : Int)).natAbs = digitsVal (c :: r) := by omega
        rw [this, numL_of hd hc9]
      · have el : l = c :: r := by
          rw [← e]
          unfold bareOf
          split
          · exact absurd ⟨_, rfl⟩ h45
          · rfl
        subst el
        have e1 : figs (c :: r) = c :: r := by
          unfold figs
          rw [List.dropWhile_cons, if_neg (by rw [nS]; decide), tk]
        have e2 : minus (c :: r) = false := by
          unfold minus
          rw [List.takeWhile_cons, if_neg (by rw [nS]; decide)]
          rfl
        unfold numOf
        rw [e2, e1, if_neg (by decide)]
        unfold numT
        rw [if_neg (by omega)]
        have : (((digitsVal (c :: r) : Nat) : Int)).natAbs = digitsVal (c :: r) := by omega
        rw [this, numL_of hd hc9]
  by_cases h : numT (numOf l) = l
  · rw [decide_eq_true h, ← h]
    rw [h]
    have := back (numOf l)
    rwa [h] at this
  · rw [decide_eq_false h]
    cases q : isNum l with
    | false => rfl
    | true => exact absurd (forth q) h
theorem numOf_numT (n : Int) : numOf (numT n) = n := by
  have hF : ∀ k : Nat, (numL k).takeWhile isF = numL k := fun k => tw_self fun d hd => isF_iff.mpr (numL_digits k d hd)
  have hS : ∀ k : Nat, (numL k).takeWhile isS = [] ∧ (numL k).dropWhile isS = numL k := fun k => by
    obtain ⟨c, r, e⟩ : ∃ c r, numL k = c :: r := by
      cases q : numL k with
      | nil => exact absurd q (numL_ne k)
      | cons c r => exact ⟨c, r, rfl⟩
    have hc := numL_digits k c (by rw [e]; exact List.mem_cons_self)
    have nS : isS c = false := by
      cases q : isS c with
      | false => rfl
      | true =>
        have := isS_iff.mp q
        omega
    rw [e, List.takeWhile_cons, List.dropWhile_cons, nS]
    exact ⟨rfl, rfl⟩
  have s45 : isS 45 = true := by decide +kernel
  unfold numT
  split
  · have e1 : figs (45 :: numL n.natAbs) = numL n.natAbs := by
      unfold figs
      rw [List.dropWhile_cons, if_pos s45, (hS _).2, hF]
    have e2 : minus (45 :: numL n.natAbs) = true := by
      unfold minus
      rw [List.takeWhile_cons, if_pos s45, (hS _).1]
      rfl
    unfold numOf
    rw [e2, e1, if_pos rfl, numL_val]
    omega
  · have e1 : figs (numL n.natAbs) = numL n.natAbs := by
      unfold figs
      rw [(hS _).2, hF]
    have e2 : minus (numL n.natAbs) = false := by
      unfold minus
      rw [(hS _).1]
      rfl
    unfold numOf
    rw [e2, e1, if_neg (by decide), numL_val]
    omega
/-! ### the defs that reckon with numbers of texts -/
open PySem.NumText (digitsVal AllDigits)
def spNumOf : Sp := fun vs H Q _ => ∃ z : Str, vs = [.str z] ∧ (tl z).length ≤ 250 ∧ Q (.int (numOf (tl z))) H
def spFigs : Sp := fun vs H Q _ => ∃ z : Str, vs = [.str z] ∧ (tl z).length ≤ 250 ∧ AllDigits (tl z) ∧ Q (.int ((digitsVal (tl z) : Nat) : Int)) H
theorem tl_sub (z : Str) (i j : Nat) (hi : i ≤ j) : tl (cutS z (some (i : Int)) (some (j : Int))) = ((tl z).take j).drop i := by
  show (((z.cps.toList.drop (HT.sIx z.length 0 (some (i : Int)))).take (HT.sIx z.length z.length (some (j : Int)) - HT.sIx z.length 0 (some (i : Int)))).toArray).toList = _
  rw [HT.sIx_nat, HT.sIx_nat, List.toList_toArray]
  have e : z.length = (tl z).length := len_tl z
  rw [e]
  show ((tl z).drop (min i (tl z).length)).take (min j (tl z).length - min i (tl z).length) = _
  rw [List.drop_take]
  by_cases h : i ≤ (tl z).length
  · rw [Nat.min_eq_left h]
    by_cases h2 : j ≤ (tl z).length
    · rw [Nat.min_eq_left h2]
    · rw [Nat.min_eq_right (by omega), List.take_of_length_le (by rw [List.length_drop]; exact Nat.le_refl _), List.take_of_length_le (by rw [List.length_drop]; omega)]
  · rw [List.drop_eq_nil_of_le (as := tl z) (i := i) (by omega), List.drop_eq_nil_of_le (as := tl z) (i := min i (tl z).length) (by omega)]
    simp
def rInS : R2 := fun x y H Q => ∃ (c : Nat) (z : Str), x = .str ⟨#[c]⟩ ∧ y = .str z ∧ Q (.bl (decide (c ∈ z.cps.toList))) H
/-- while at < len(worth) and worth[at] in Z: at += 1 -/
theorem scan_loop {i : Nat} {z Z : Str} {k0 : Nat} {σ : L2.St} {H : Hp} {D : Ends} (hz : σ[0]? = some (some (.str z))) (hi : σ[i]? = some (some (.int (k0 : Int)))) (i0 : i ≠ 0) (hl : (tl z).length ≤ 1000) (hk0 : k0 ≤ (tl z).length)
    (q : ∀ k, k0 ≤ k → k ≤ (tl z).length → (∀ j c, k0 ≤ j → j < k → (tl z)[j]? = some c → c ∈ tl Z) → (∀ c, (tl z)[k]? = some c → ¬ c ∈ tl Z) → D.nx (σ.set i (some (.int (k : Int)))) H) :
    tWhile (tAnd (tTest (tOp (rI0 fun i j => V.bl (decide (i < j))) (tVar i) (tCB rLenT1 (tCons (tVar 0) tNil)))) (tTest (tOp rInS (tOp rIxS (tVar 0) (tVar i)) (tC (.str Z))))) (tAug i (tC (.int 1)) (ipI fun i j => i + j)) D σ H := by
  have ez : z.length = (tl z).length := len_tl z
  have hlt : i < σ.length := (List.getElem?_eq_some_iff.mp hi).1
  have e0 : σ.set i (some (.int (k0 : Int))) = σ := List.ext_getElem? fun j => by
    by_cases e : i = j
    · subst e
      rw [List.getElem?_set_self hlt, hi]
    · rw [List.getElem?_set_ne e]
  refine ⟨fun m σ' H' => ∃ k : Nat, k0 ≤ k ∧ k ≤ (tl z).length ∧ (∀ j c, k0 ≤ j → j < k → (tl z)[j]? = some c → c ∈ tl Z) ∧ m = (tl z).length - k ∧ H' = H ∧ σ' = σ.set i (some (.int (k : Int))), ⟨_, k0, Nat.le_refl _, hk0, fun j c h1 h2 => absurd h2 (Nat.not_lt.mpr h1), rfl, rfl, e0.symm⟩, fun m σ' H' hw => ?_⟩
  obtain ⟨k, hk1, hk, hS, rfl, rfl, rfl⟩ := hw
  have v0 : (σ.set i (some (V.int (k : Int))))[0]? = some (some (.str z)) := by rw [List.getElem?_set_ne i0, hz]
  have vi : (σ.set i (some (V.int (k : Int))))[i]? = some (some (.int (k : Int))) := List.getElem?_set_self hlt
  refine ⟨_, vi, _, v0, z, rfl, (by rw [ez]; exact small (by omega)), _, _, rfl, rfl, _, rfl, ?_⟩
  refine ite2 (fun c1 => ?_) (fun c1 => ?_)
  · have hk' : k < (tl z).length := by
      have := of_decide_eq_true c1
      omega
    refine ⟨_, v0, _, vi, z, _, _, rfl, rfl, (by rw [ez]; exact small (by omega)), atI_nat (List.getElem?_eq_getElem hk'), _, _, rfl, rfl, _, rfl, ?_⟩
    refine ite2 (fun c2 => ?_) (fun c2 => ?_)
    · refine ⟨fun σ' H'' => H'' = H' ∧ σ' = σ.set i (some (.int ((k + 1 : Nat) : Int))), fun σ' H'' h => ⟨_, ?_, k + 1, by omega, by omega, fun j c h1 h2 hc => ?_, rfl, h.1, h.2⟩, ?_⟩
      · omega
      · by_cases e : j = k
        · subst e
          rw [List.getElem?_eq_getElem hk'] at hc
          rw [← Option.some.inj hc]
          exact of_decide_eq_true c2
        · exact hS j c h1 (by omega) hc
      · refine ⟨_, vi, _, _, rfl, rfl, rfl, ?_⟩
        rw [List.set_set]
        rfl
    · refine q k hk1 hk hS fun c hc => ?_
      rw [List.getElem?_eq_getElem hk'] at hc
      rw [← Option.some.inj hc]
      exact fun z => c2 (decide_eq_true z)
  · refine iteF (q k hk1 hk hS fun c hc => ?_)
    have hk' := (List.getElem?_eq_some_iff.mp hc).1
    exact absurd (decide_eq_true (show (k : Int) < z.length by omega)) c1
theorem drop_at {l : List Nat} {i j : Nat} : (l.drop i)[j]? = l[i + j]? := by rw [List.getElem?_drop]
section
variable {P : Program} {w : World} {K : PySem.W.Frag} {mg : Str → Option Value} {base : Heap} {cs : Tabs}
theorem ok_number_of (T : Txt K mg cs) (C_number_of_figures : Cal P w K mg base 1 "_number_of_figures" ["figures"] spFigs) : Cal P w K mg base 2 "number_of" ["worth"] spNumOf := by
  refine T.f_number_of.cal scNumberOf (fun vs H Q E h => ?_) (fun f cdv A outer s H vs Q E hr h => ?_)
  · obtain ⟨z, rfl, _⟩ := h
    rfl
  obtain ⟨z, rfl, hl, q⟩ := h
  refine ⟨_, (pss_cons (ps_set (i := 1) scNumberOf.nd rfl (by first | exact Or.inl rfl | exact Or.inr rfl) pe_int)
    (pss_cons (ps_while PassesOwn.never (PW.pt (pw_and (pt_cmpR op_lt (pv 1) (pe_callB lenT rfl T.n_len (by decide +kernel) (pa_cons (pv 0) pa_nil)) (nomark _)) (pw_and1 (pt_cmpR op_in_sign (pe_ix ix_str (pv 0) (pv 1) (fun _ _ => rfl)) pe_str rfl))))
      (pss_one (ps_aug (i := 1) scNumberOf.nd rfl (by first | exact Or.inl rfl | exact Or.inr rfl) pe_int ip_add)))
    (pss_cons (ps_set (i := 2) scNumberOf.nd rfl (by first | exact Or.inl rfl | exact Or.inr rfl) (pv 1))
    (pss_cons (ps_while PassesOwn.never (PW.pt (pw_and (pt_cmpR op_lt (pv 2) (pe_callB lenT rfl T.n_len (by decide +kernel) (pa_cons (pv 0) pa_nil)) (nomark _)) (pw_and1 (pt_cmpR op_in_sign (pe_ix ix_str (pv 0) (pv 2) (fun _ _ => rfl)) (C8.pe_gc rfl T.g__FIGURES) rfl))))
      (pss_one (ps_aug (i := 2) scNumberOf.nd rfl (by first | exact Or.inl rfl | exact Or.inr rfl) pe_int ip_add)))
    (pss_cons (ps_set (i := 3) scNumberOf.nd rfl (by first | exact Or.inl rfl | exact Or.inr rfl) (pe_cal C_number_of_figures (hr.mono (by first | decide | omega)) (pa_cons (pe_slice sl_str (pv 0) (po_some (pv 1)) (po_some (pv 2))) pa_nil)))
    (pss_one (ps_ret (pe_ifExp (pt_cmpR op_eq (pe_op op_mod (pe_m1 PySem.F.slot_str_count PySem.F.type_str_count mt_count (pe_slice sl_str (pv 0) po_none (po_some (pv 1))) pe_str) pe_int) pe_int (nomark _)) (pe_un un_neg (pv 3)) (pv 3))))))))), ?_⟩
  have ez : z.length = (tl z).length := len_tl z
  have zl : z.length ≤ sizeLine := by rw [ez]; exact small (by omega)
  refine scan_loop (i := 1) (k0 := 0) (z := z) (Z := SG) rfl rfl (by decide) (by omega) (Nat.zero_le _) fun k _ hk hS hS' => ?_
  obtain ⟨t1, d1⟩ := walked (p := isS) (l := tl z) (i := k) (fun j c hj hc => decide_eq_true (hS j c (Nat.zero_le _) hj hc)) hk (fun c hc => decide_eq_false (hS' c hc))
  refine ⟨_, rfl, ?_⟩
  refine scan_loop (i := 2) (k0 := k) (z := z) (Z := FG) rfl rfl (by decide) (by omega) hk fun e hke he hF hF' => ?_
  obtain ⟨t2, _⟩ := walked (p := isF) (l := (tl z).drop k) (i := e - k) (fun j c hj hc => decide_eq_true (hF (k + j) c (by omega) (by omega) (by rw [← List.getElem?_drop]; exact hc))) (by rw [List.length_drop]; omega) (fun c hc => decide_eq_false (hF' c (by rw [List.getElem?_drop, show k + (e - k) = e by omega] at hc; exact hc)))
  have ef : tl (cutS z (some (k : Int)) (some (e : Int))) = figs (tl z) := by
    rw [tl_sub z k e hke, List.drop_take]
    unfold figs
    rw [d1, t2]
  refine ⟨_, rfl, _, rfl, _, rfl, _, rfl, _, rfl, z, rfl, zl, _, rfl, by rw [ef]; exact Nat.le_trans (figs_len _) hl, by rw [ef]; exact figs_digits _, ?_⟩
  rw [ef]
  have ec : Txt.count (cutS z none (some (k : Int))) "-" = (cnt45 ((tl z).takeWhile isS) : Int) := by
    rw [count_cnt, tl_cut, t1]
  dsimp only [gName, tSeq, tAsg, tRet, tDrop, tNext]
  refine ⟨_, rfl, _, rfl, _, rfl, z, rfl, zl, ⟨_, rfl⟩, _, _, rfl, rfl, _, _, rfl, rfl, show (0 : Int) < 2 by decide, rfl, _, rfl, ?_⟩
  rw [ec]
  have em : decide (V.int ((cnt45 ((tl z).takeWhile isS) : Int) % 2) = V.int 1) = minus (tl z) := by
    unfold minus
    generalize cnt45 ((tl z).takeWhile isS) = n
    by_cases h : n % 2 = 1
    · have : ((n : Int) % 2) = 1 := by omega
      rw [this, decide_eq_true h]
      rfl
    · have : ¬ ((n : Int) % 2) = 1 := by omega
      rw [decide_eq_false h, decide_eq_false]
      intro e
      injection e with e
      exact this e
  rw [em]
  refine ite2 (fun c => ?_) (fun c => ?_)
  · refine ⟨_, rfl, _, rfl, ?_⟩
    unfold numOf at q
    rw [if_pos c] at q
    exact q
  · refine ⟨_, rfl, ?_⟩
    unfold numOf at q
    rw [if_neg c] at q
    exact q
theorem rg64 {i n : Nat} (h : i + 64 * n ≤ 1000000) : RgC (i : Int) ((i + 64 * n : Nat) : Int) 64 n := by
  refine ⟨by decide, by decide, ?_, ?_⟩
  · have e : Builtin.Range.rangeSize (i : Int) ((i + 64 * n : Nat) : Int) 64 = n := by
      unfold Builtin.Range.rangeSize
      rw [if_pos (by decide)]
      split
      · have e : (((i + 64 * n : Nat) : Int) - (i : Int) - 1) / 64 = (n : Int) - 1 := by omega
        rw [e]
        omega
      · omega
    unfold Builtin.Range.small
    rw [e]
    have f : ∀ x : Int, 0 ≤ x → x < 2000000 → Builtin.Range.rangeFitsLong x = true := fun x h0 h1 => by
      unfold Builtin.Range.rangeFitsLong
      rw [Bool.and_eq_true]
      exact ⟨decide_eq_true (Int.le_trans (by decide) h0), decide_eq_true (Int.lt_trans h1 (by decide))⟩
    rw [f _ (by omega) (by omega), f _ (by omega) (by omega), f 64 (by decide) (by decide), f _ (by omega) (by omega), if_pos (by decide), f _ (by omega) (by omega), Bool.or_true]
    rfl
  · unfold Builtin.Range.rangeSize
    rw [if_pos (by decide)]
    split
    · have e : (((i + 64 * n : Nat) : Int) - (i : Int) - 1) / 64 = (n : Int) - 1 := by omega
      rw [e]
      omega
    · omega
theorem int_digits {x : Str} (h : AllDigits (tl x)) (h1 : tl x ≠ []) (h2 : (tl x).length ≤ 640) : PySem.intText? x = some ((digitsVal (tl x) : Nat) : Int) := intText_digits h h1 (by rw [len_tl]; omega)
theorem pow250 {n : Nat} (h : n < 10 ^ 250) : (n : Int).natAbs < 2 ^ 900 := Nat.lt_trans h (by decide)
theorem ok_number_of_figures (T : Txt K mg cs) : Cal P w K mg base 1 "_number_of_figures" ["figures"] spFigs := by
  refine T.f_number_of_figures.cal scNumberOfFigures (fun vs H Q E h => ?_) (fun f cdv A outer s H vs Q E hr h => ?_)
  · obtain ⟨z, rfl, _⟩ := h
    rfl
  obtain ⟨z, rfl, hl, hd, q⟩ := h
  refine ⟨_, (pss_cons (ps_set (i := 1) scNumberOfFigures.nd rfl (by first | exact Or.inl rfl | exact Or.inr rfl) (pe_op op_mod (pe_callB lenT rfl T.n_len (by decide +kernel) (pa_cons (pv 0) pa_nil)) pe_int))
    (pss_cons (ps_set (i := 2) scNumberOfFigures.nd rfl (by first | exact Or.inl rfl | exact Or.inr rfl) (pe_callTy call_int_str rfl T.n_int (by decide +kernel) (pa_cons (pe_op op_add_str pe_str (pe_slice sl_str (pv 0) po_none (po_some (pv 1)))) pa_nil)))
    (pss_cons (ps_for PassesOwn.never rfl (pi_range3 rfl T.n_range (pa_cons (pv 1) (pa_cons (pe_callB lenT rfl T.n_len (by decide +kernel) (pa_cons (pv 0) pa_nil)) (pa_cons pe_int pa_nil)))) (pg_name (i := 3) scNumberOfFigures.nd rfl (by first | exact Or.inl rfl | exact Or.inr rfl))
      (pss_one (ps_set (i := 2) scNumberOfFigures.nd rfl (by first | exact Or.inl rfl | exact Or.inr rfl) (pe_op op_add (pe_op op_mulW (pv 2) (pe_op op_powW pe_int pe_int)) (pe_callTy call_int_str rfl T.n_int (by decide +kernel) (pa_cons (pe_slice sl_str (pv 0) (po_some (pv 3)) (po_some (pe_op op_add (pv 3) pe_int))) pa_nil))))))
    (pss_one (ps_ret (pv 2)))))), ?_⟩
  have ez : z.length = (tl z).length := len_tl z
  have zl : z.length ≤ sizeLine := by rw [ez]; exact small (by omega)
  refine ⟨_, rfl, z, rfl, zl, _, _, rfl, rfl, show (0 : Int) < 64 by decide, ?_⟩
  dsimp only [gName, tSeq, tAsg, tRet, tDrop, tNext]
  have e64 : ((z.length : Int) % 64) = (((tl z).length % 64 : Nat) : Int) := by rw [ez]; omega
  rw [e64]
  generalize hg : (tl z).length % 64 = g
  obtain ⟨n, hn⟩ : ∃ n, (tl z).length = g + 64 * n := ⟨(tl z).length / 64, by omega⟩
  have e0 : tl ("0" ++ cutS z none (some (g : Int))) = 48 :: (tl z).take g := by
    rw [tl_append, tl_cut]
    rfl
  have d0 : AllDigits (48 :: (tl z).take g) := fun c hc => by
    rcases List.mem_cons.mp hc with rfl | hc
    · omega
    · exact hd c (List.mem_of_mem_take hc)
  refine ⟨_, rfl, _, rfl, _, rfl, z, rfl, zl, _, _, rfl, rfl, ?_, _, _, rfl, int_digits (by rw [e0]; exact d0) (by rw [e0]; exact List.cons_ne_nil _ _) (by rw [e0, List.length_cons, List.length_take]; omega), ?_, ?_⟩
  · rw [len_tl, len_tl, tl_cut]
    refine Nat.le_trans (Nat.add_le_add (show (tl ("0" : Str)).length ≤ 1 by decide) (show ((tl z).take g).length ≤ 250 by rw [List.length_take]; omega)) (by decide)
  · rw [len_tl, e0, List.length_cons, List.length_take]
    omega
  rw [e0]
  have ev : ∀ l : List Nat, digitsVal (48 :: l) = digitsVal l := fun l => rfl
  rw [ev]
  dsimp only [gName, tSeq, tAsg, tRet, tDrop, tNext]
  refine ⟨_, rfl, _, rfl, z, rfl, zl, _, _, _, n, rfl, (by rw [ez, hn]; exact rg64 (by omega)), ?_⟩
  refine for_rangeC (fun j σ H' => H' = H ∧ ∃ x3, σ = [some (.str z), some (.int (g : Int)), some (.int ((digitsVal ((tl z).take (g + 64 * j)) : Nat) : Int)), x3]) ⟨rfl, none, rfl⟩ (fun j σ H' hj hp => ?_) fun σ H' hp => ?_
  · obtain ⟨rfl, x3, rfl⟩ := hp
    have ej : (g : Int) + (j : Int) * 64 = ((g + 64 * j : Nat) : Int) := by omega
    rw [ej]
    have e2 : ((g + 64 * j : Nat) : Int) + 64 = ((g + 64 * j + 64 : Nat) : Int) := by omega
    have et : tl (cutS z (some ((g + 64 * j : Nat) : Int)) (some (((g + 64 * j : Nat) : Int) + 64))) = ((tl z).drop (g + 64 * j)).take 64 := by
      rw [e2, tl_sub z _ _ (by omega), List.drop_take, show g + 64 * j + 64 - (g + 64 * j) = 64 by omega]
    have dt : AllDigits (((tl z).drop (g + 64 * j)).take 64) := fun c hc => hd c (List.mem_of_mem_drop (List.mem_of_mem_take hc))
    have lt : (((tl z).drop (g + 64 * j)).take 64).length = 64 := by rw [List.length_take, List.length_drop]; omega
    have dv : digitsVal ((tl z).take (g + 64 * j)) < 10 ^ 250 := by
      have := val_lt (l := (tl z).take (g + 64 * j)) fun c hc => hd c (List.mem_of_mem_take hc)
      exact Nat.lt_of_lt_of_le this (Nat.pow_le_pow_right (by decide) (by rw [List.length_take]; omega))
    refine ⟨_, rfl, 10, 64, rfl, rfl, ⟨by decide, by decide, by decide⟩, _, _, rfl, rfl, wide_mul (a := 900) (b := 300) (pow250 dv) (by decide) (by decide) (by decide) (by decide), ?_⟩
    refine ⟨_, rfl, _, rfl, _, rfl, _, rfl, _, _, rfl, rfl, _, rfl, z, rfl, zl, _, _, rfl, int_digits (by rw [et]; exact dt) (by rw [et]; intro z; rw [z] at lt; cases lt) (by rw [et, lt]; decide), by rw [len_tl, et, lt]; decide, _, _, rfl, rfl, ?_⟩
    refine ⟨rfl, some (.int ((g + 64 * j : Nat) : Int)), ?_⟩
    rw [et]
    have e3 : (tl z).take (g + 64 * (j + 1)) = (tl z).take (g + 64 * j) ++ ((tl z).drop (g + 64 * j)).take 64 := by
      rw [show g + 64 * (j + 1) = (g + 64 * j) + 64 by omega, List.take_add]
    have e4 : ((digitsVal ((tl z).take (g + 64 * j)) : Nat) : Int) * 10 ^ ((64 : Int)).toNat + ((digitsVal (((tl z).drop (g + 64 * j)).take 64) : Nat) : Int) = ((digitsVal ((tl z).take (g + 64 * (j + 1))) : Nat) : Int) := by
      rw [e3, val_append, lt, Int.natCast_add, Int.natCast_mul]
      rfl
    rw [← e4]
    rfl
  · obtain ⟨rfl, x3, rfl⟩ := hp
    refine ⟨_, rfl, ?_⟩
    rw [← hn, List.take_length]
    exact q
end
/-! ### all(.. for sign in text) -/
theorem all_signs {p : Addr} {te0 te : TE} {i : Nat} {σ : L2.St} {H : Hp} {Q : VK} {z : Str} (pb : Nat → Bool) (h0 : ∀ R : VK, R (.str z) H → te0 σ H R) (ht : Tb H p)
    (he : ∀ (c : Nat) (H2 : Hp) (R : VK), c ∈ tl z → Sm H H2 → (∀ H3, Sm H2 H3 → R (.bl (pb c)) H3) → te ((σ.set i none).set i (some (.str ⟨#[c]⟩))) H2 R) (q : ∀ H', Sm H H' → Q (.bl ((tl z).all pb)) H') : GA.tAllG p (iStr te0) (gName i) te [i] σ H Q := by
  refine h0 _ ⟨z, rfl, ht, fun H2 hT => ?_⟩
  have S2 : Sm H H2 := hT
  refine ⟨fun j m H' => Sm H H' ∧ j ≤ (tl z).length ∧ m = (tl z).length - j ∧ ∀ k c, k < j → (tl z)[k]? = some c → pb c = true, ⟨_, S2, Nat.zero_le _, rfl, fun k c hk => absurd hk (Nat.not_lt_zero _)⟩, fun j m H' hw => ?_⟩
  obtain ⟨S, hj, rfl, hp⟩ := hw
  have sz : z.cps.size = (tl z).length := by simp [tl]
  by_cases hlt : j < (tl z).length
  · refine .inr ⟨by show j < z.cps.size; omega, fun H'' => Sm H H'' ∧ pb (tl z)[j] = true, fun H'' h => ⟨_, ?_, h.1, by omega, rfl, fun k c hk hc => ?_⟩, fun x H'' hy => ?_⟩
    · omega
    · by_cases e : k = j
      · subst e
        rw [List.getElem?_eq_getElem hlt] at hc
        rw [← Option.some.inj hc]
        exact h.2
      · exact hp k c (by omega) hc
    · obtain ⟨rfl, c, hc, rfl⟩ := hy
      have hc' : (tl z)[j]? = some c := by
        show z.cps.toList[j]? = some c
        rw [Array.getElem?_toList]
        exact hc
      have ec : (tl z)[j] = c := by
        rw [List.getElem?_eq_getElem hlt] at hc'
        exact Option.some.inj hc'
      refine ⟨?_, ?_⟩
      · show ((σ.set i none).set i (some (V.str ⟨#[c]⟩))).set i none = σ.set i none
        rw [List.set_set, List.set_set]
      · refine he c H'' _ (List.mem_of_getElem? hc') S fun H3 S3 => ⟨_, rfl, ?_⟩
        refine ite2 (fun e => ?_) (fun e => ?_)
        · exact ⟨S.trans S3, by rw [ec]; exact e⟩
        · have : (tl z).all pb = false := by
            cases q' : (tl z).all pb with
            | false => rfl
            | true => exact absurd (List.all_eq_true.mp q' c (List.mem_of_getElem? hc')) e
          have := this ▸ q H3 (S.trans S3)
          exact this
  · refine .inl ⟨by show z.cps.size ≤ j; omega, ?_⟩
    have : (tl z).all pb = true := List.all_eq_true.mpr fun c hc => by
      obtain ⟨k, hk, e⟩ := List.mem_iff_getElem.mp hc
      exact hp k c (by omega) (by rw [List.getElem?_eq_getElem hk, e])
    have := this ▸ q H' S
    exact this
open PySem.NumText (digitsVal AllDigits)
def spIsNum (p : Addr) : Sp := fun vs H Q _ => ∃ z : Str, vs = [.str z] ∧ (tl z).length ≤ 250 ∧ Tb H p ∧ ∀ H', Sm H H' → Q (.bl (isNum (tl z))) H'
theorem starts_one (x : Str) (c : Nat) : Txt.startswith x ⟨#[c]⟩ = decide ((tl x)[0]? = some c) := by
  have h := StrLaws.subAt_one x c 0
  unfold Txt.startswith
  by_cases e : (tl x)[0]? = some c
  · have := h.mpr e
    rw [decide_eq_true e, Bool.and_eq_true]
    exact ⟨decide_eq_true this.1, this.2⟩
  · rw [decide_eq_false e]
    cases q : (decide (0 + (⟨#[c]⟩ : Str).length ≤ x.length) && Builtin.Str.subAt x ⟨#[c]⟩ 0) with
    | false => rfl
    | true =>
      rw [Bool.and_eq_true] at q
      exact absurd (h.mp ⟨of_decide_eq_true q.1, q.2⟩) e
theorem tl_bare (z : Str) : tl (Txt.removeprefix z "-") = bareOf (tl z) := by
  have e0 : ("-" : Str) = ⟨#[45]⟩ := by decide +kernel
  rw [e0, StrLaws.removeprefix_eq]
  have h := starts_one z 45
  unfold Txt.startswith at h
  rw [h]
  by_cases e : (tl z)[0]? = some 45
  · rw [decide_eq_true e, if_pos rfl]
    show ((z.cps.toList.drop 1).take (z.length - 1)) = _
    have ez : z.length = (tl z).length := len_tl z
    rw [ez]
    show ((tl z).drop 1).take ((tl z).length - 1) = _
    rw [List.take_of_length_le (by rw [List.length_drop]; exact Nat.le_refl _)]
    cases q : tl z with
    | nil => rw [q] at e; cases e
    | cons a r =>
      rw [q] at e
      have : a = 45 := Option.some.inj e
      subst this
      rfl
  · rw [decide_eq_false e, if_neg (by decide)]
    cases q : tl z with
    | nil => rfl
    | cons a r =>
      rw [q] at e
      unfold bareOf
      split
      · rename_i he
        injection he with h1
        subst h1
        exact absurd rfl e
      · rfl
theorem isNum_head {l : List Nat} (h : (bareOf l)[0]? = some 48) : isNum l = decide (l = [48]) := by
  unfold isNum
  split
  · rfl
  · rename_i hf
    cases q : bareOf l with
    | nil => rw [q] at h; cases h
    | cons a r =>
      rw [q] at h
      exact absurd (by rw [q, Option.some.inj h]) (hf r)
theorem isNum_else {l : List Nat} (h : ¬ (bareOf l)[0]? = some 48) : isNum l = (!decide (bareOf l = []) && (bareOf l).all isF) := by
  unfold isNum
  split
  · rename_i r e
    exact absurd (by rw [e]; rfl) h
  · rfl
theorem dec_str (x y : Str) : decide (V.str x = V.str y) = decide (tl x = tl y) := by
  by_cases e : x = y
  · subst e
    simp
  · rw [decide_eq_false (fun h => e (ext_tl h)), decide_eq_false]
    intro h
    injection h with h
    exact e h
section
variable {P : Program} {w : World} {K : PySem.W.Frag} {mg : Str → Option Value} {base : Heap} {cs : Tabs}
theorem ok_is_number_text (T : Txt K mg cs) (B : TBs base mg cs) : Cal P w K mg base 2 "is_number_text" ["worth"] (spIsNum cs.p_is_number_text) := by
  refine T.f_is_number_text.cal scIsNumberText (fun vs H Q E h => ?_) (fun f A outer s H vs Q E hr h => ?_)
  · obtain ⟨z, rfl, _⟩ := h
    rfl
  obtain ⟨z, rfl, hl, ht, q⟩ := h
  refine ⟨_, (pss_cons (ps_set (i := 1) scIsNumberText.nd rfl (by first | exact Or.inl rfl | exact Or.inr rfl) (pe_m1 PySem.F.slot_str_removeprefix PySem.F.type_str_removeprefix mt_removeprefix (pv 0) pe_str))
    (pss_cons (ps_if (pt_val (pe_m1 PySem.F.slot_str_startswith PySem.F.type_str_startswith mt_startswith (pv 1) pe_str)) (pss_one (ps_ret (pe_cmpR op_eq (pv 0) pe_str (nomark _)))) pss_nil)
    (pss_one (ps_ret (pe_and (pe_cmpR op_ne (pv 1) pe_str (nomark _)) (pe_one (GA.pe_allG (k := 0) (own := [("sign", 2)]) (g := gName 2) (hr.mono (by decide)) B.b_is_number_text scIsNumberText.nd (blkOk_by (own := [("sign", 2)]) (N := ["worth", "figures", "sign"]) (sc := defScope sIsNumberText) (by decide +kernel)) (by decide +kernel) (pi_str (pv 1)) T.n_all (fun _ _ _ _ _ _ _ _ => (pg_name (i := 2) scIsNumberText.nd rfl (by first | exact Or.inl rfl | exact Or.inr rfl))) (fun _ _ _ _ _ _ _ hr => (pe_cmpR op_in_sign (pv 2) (C8.pe_gc rfl T.g__FIGURES) rfl))))))))), ?_⟩
  have ez : z.length = (tl z).length := len_tl z
  have zl : z.length ≤ sizeLine := by rw [ez]; exact small (by omega)
  have e48 : ("0" : Str) = ⟨#[48]⟩ := by decide +kernel
  refine ⟨_, rfl, ⟨_, rfl⟩, _, _, rfl, rfl, zl, ?_⟩
  dsimp only [gName, tSeq, tAsg, tRet, tDrop, tNext]
  refine ⟨_, rfl, ⟨_, rfl⟩, _, _, rfl, rfl, _, rfl, ?_⟩
  rw [e48, starts_one, tl_bare]
  have G := Sm.refl H
  refine ite2 (fun c => ?_) (fun c => ?_)
  · refine ⟨_, rfl, rfl, ?_⟩
    have := q H G
    rw [isNum_head (of_decide_eq_true c)] at this
    rw [dec_str]
    exact this
  · have hc : ¬ (bareOf (tl z))[0]? = some 48 := fun e => c (decide_eq_true e)
    rw [isNum_else hc] at q
    refine ⟨_, rfl, rfl, _, rfl, ?_⟩
    rw [dec_str, tl_bare]
    have e0 : tl ("" : Str) = [] := by decide +kernel
    rw [e0]
    refine ite2 (fun c2 => ?_) (fun c2 => ?_)
    · rw [c2, Bool.true_and, ← tl_bare] at q
      refine all_signs (i := 2) (z := Txt.removeprefix z "-") isF (fun R h => ⟨_, rfl, h⟩) ht (fun c H2 R _ _ h => ?_) q
      exact ⟨_, rfl, _, _, rfl, rfl, h H2 (Sm.refl H2)⟩
    · rw [Bool.eq_false_iff.mpr c2, Bool.false_and] at q
      exact q H G
end
/-! ### numbers' texts, how long they are -/
def spNumText : Sp := fun vs H Q _ => ∃ n : Int, vs = [.int n] ∧ n.natAbs < 10 ^ 60 ∧ ∀ (z : Str) (H' : Hp), Sm H H' → tl z = numT n → Q (.str z) H'
theorem tl_int (i : Int) (h : 0 ≤ i) : tl (Str.ofString (toString i)) = numL i.natAbs := by
  obtain ⟨n, rfl⟩ : ∃ n : Nat, i = (n : Int) := ⟨i.toNat, by omega⟩
  exact tl_num n
theorem log_ok {i : Int} (h : i.natAbs < 10 ^ 250) : i.natAbs.log2 < 1920 := Nat.lt_trans (PySem.Flt.log2_lt_of (n := i.natAbs) (k := 900) (by decide) (Nat.lt_trans h (by decide))) (by decide)
theorem upd_twice {H : Hp} {p : Addr} {o u : HO} : upd (upd H p o) p u = upd H p u := by
  funext a
  by_cases e : a = p
  · subst e
    rw [upd_same, upd_same]
  · rw [upd_ne e, upd_ne e, upd_ne e]
/-! ### references compared -/
theorem strOk_of {z : Str} (h : ∀ c ∈ tl z, c < 128) : PyData.strOk z = true := by
  unfold PyData.strOk
  rw [← Array.all_toList, List.all_eq_true]
  intro c hc
  exact decide_eq_true (Nat.lt_trans (h c hc) (by decide))
def dS (ks : List Str) : List PyData := ks.map PyData.str
theorem dp_strs {K : PySem.W.Frag} {H : Hp} : ∀ ks : List Str, DpAll K H (ks.map V.str) (dS ks)
  | [] => .nil
  | x :: r => .cons (.str x) (dp_strs r)
theorem eqv_strs : ∀ a b : List Str, PyData.eqvAll (dS a) (dS b) = decide (a = b)
  | [], [] => by simp [dS, PyData.eqvAll]
  | [], _ :: _ => by simp [dS, PyData.eqvAll]
  | _ :: _, [] => by simp [dS, PyData.eqvAll]
  | x :: a, y :: b => by
    have ih := eqv_strs a b
    unfold dS at ih ⊢
    rw [List.map_cons, List.map_cons, PyData.eqvAll, ih]
    show ((x == y) && decide (a = b)) = decide (x :: a = y :: b)
    by_cases e : x = y
    · subst e
      simp
    · simp [e]
theorem lay_strs : ∀ ks : List Str, (∀ z ∈ ks, PyData.strOk z = true) → PyData.canLayAll0 (dS ks) = true
  | [], _ => rfl
  | x :: r, h => by
    show (PyData.strOk x && PyData.canLayAll0 (dS r)) = true
    rw [h x List.mem_cons_self, lay_strs r fun z hz => h z (List.mem_cons_of_mem _ hz)]
    rfl
theorem depth_strs : ∀ ks : List Str, PyData.depthAll (dS ks) = 0
  | [] => rfl
  | x :: r => by
    show max 0 (PyData.depthAll (dS r)) = 0
    rw [depth_strs r]
    rfl
theorem Sm.own {H0 H1 : Hp} {b : Addr} {o : HO} (S : Sm H0 H1) (hb : H0 b = none) (nt : ∀ qs, H1 b = some qs → plainO qs = true) : Sm H0 (upd H1 b o) := ⟨fun a u h n => by
  rw [upd_ne (ne_of_none h hb)]
  exact S.keep a u h n, fun P t => TabG.upd (S.tab P t) nt, fun a ha => by
  by_cases e : a = b
  · rw [e]
    exact hb
  · rw [upd_ne e] at ha
    exact S.gone a ha⟩
/-! ### references compared -/
theorem shaped_tup {ks : List Str} (h : ∀ z ∈ ks, PyData.strOk z = true) : SeqAt.shaped (.tuple (dS ks)) = true := by
  show (PyData.canLayAll0 (dS ks) && decide (PyData.depthAll (dS ks) + 1 ≤ 64)) = true
  rw [lay_strs ks h, depth_strs]
  rfl
theorem KEY.ok {z : Str} (h : KEY z) : PyData.strOk z = true := strOk_of fun c hc => by
  have q := h.wt.sg c hc
  unfold sgn at q
  rw [Bool.and_eq_true, Bool.and_eq_true] at q
  have := of_decide_eq_true q.2.1
  omega

theorem cut_take (xs : List V) (k : Nat) : cutV xs none (some (k : Int)) = xs.take k := by
  unfold cutV
  rw [HT.sIx_none, HT.sIx_nat, List.drop_zero, Nat.sub_zero]
  by_cases h : k ≤ xs.length
  · rw [Nat.min_eq_left h]
  · rw [Nat.min_eq_right (by omega), List.take_of_length_le (Nat.le_refl _), List.take_of_length_le (by omega)]
theorem slice_take {K : PySem.W.Frag} {t : Addr} {xs : List V} {k : Nat} {H : Hp} {Q : VK} (h : SqT K H t xs) (q : ∀ p H', Sm H H' → SqT K H' p (xs.take k) → Q (.ref p) H') : rSlA K (.ref t) none (some (k : Int)) H Q := by
  refine ⟨t, xs, rfl, h, fun e => ?_, fun _ p hp => ?_⟩
  · refine q t H (Sm.refl H) ?_
    have e2 := e.2
    rw [HT.sIx_nat] at e2
    rw [List.take_of_length_le (by omega)]
    exact h
  · rw [cut_take]
    exact q p _ (Sm.new hp) (.inl (.inl upd_same))
/-- [g j for j in range(n) if p j], all of it told without a change of what stands -/
theorem lc_pick {i n : Nat} {σ : L2.St} {H1 : Hp} {D : Addr} {tt : TT} {te : TE} {Q : VK} (p : Nat → Bool) (g : Nat → V) (hD : H1 D = none) (hn : n ≤ 90000)
    (ht : ∀ j H, j < n → Sm H1 H → ∀ R : Bool → Hp → Prop, (∀ H', Sm H H' → R (p j) H') → tt ((σ.set i none).set i (some (.int (0 + (j : Int))))) H R)
    (he : ∀ j H, j < n → Sm H1 H → ∀ R : VK, (∀ H', Sm H H' → R (g j) H') → te ((σ.set i none).set i (some (.int (0 + (j : Int))))) H R)
    (hQ : ∀ H', Sm H1 H' → H' D = some (.lst (((List.range n).filter p).map g)) → Q (.ref D) H') :
    ∃ W : Nat → Nat → Hp → Prop, (∃ k, W 0 k (upd H1 D (.lst []))) ∧ ∀ j k H, W j k H →
      ((Itr 0 n).stop j H ∧ Q (.ref D) H) ∨ ((Itr 0 n).go j H ∧ ∃ Nx : Hp → Prop, (∀ H', Nx H' → ∃ k', k' < k ∧ W (j + 1) k' H') ∧ ∀ x H', (Itr 0 n).yld j H x H' → gName i x (wipe σ [i]) H' fun σ2 H2 => wipe σ2 [i] = wipe σ [i] ∧ tt σ2 H2 fun b H3 =>
        if b = true then te σ2 H3 fun y H4 => ∃ acc, H4 D = some (.lst acc) ∧ acc.length < sizeLine ∧ Nx (upd H4 D (.lst (acc ++ [y]))) else Nx H3) := by
  refine lc_range (lo := 0) (n := n) (fun j H => Sm H1 H ∧ H D = some (.lst (((List.range j).filter p).map g))) ⟨Sm.new hD, upd_same⟩ (fun j H hj hp => ?_) fun H hp => hQ H hp.1 hp.2
  obtain ⟨G, hy⟩ := hp
  have hl : (((List.range j).filter p).map g).length ≤ j := by
    rw [List.length_map]
    exact Nat.le_trans (List.length_filter_le _ _) (by rw [List.length_range]; exact Nat.le_refl _)
  refine ⟨?_, ?_⟩
  · show ((σ.set i none).set i (some (.int (0 + (j : Int))))).set i none = (σ.set i none)
    rw [List.set_set, List.set_set]
  · show tt ((σ.set i none).set i (some (.int (0 + (j : Int))))) H _
    refine ht j H hj G _ fun H' G' => ?_
    have er : (List.range (j + 1)).filter p = (List.range j).filter p ++ (if p j = true then [j] else []) := by
      rw [List.range_succ, List.filter_append]
      congr 1
      by_cases c : p j = true <;> simp [c]
    refine ite2 (fun c => ?_) (fun c => ?_)
    · refine he j H' hj (G.trans G') _ fun H4 G4 => ⟨_, G4 _ _ (G' _ _ hy), small' (by omega), ?_, ?_⟩
      · exact Sm.own ((G.trans G').trans G4) hD (no_tbl (G4 _ _ (G' _ _ hy)))
      · rw [er, if_pos c, List.map_append]
        exact upd_same
    · refine ⟨G.trans G', ?_⟩
      rw [er, if_neg c, List.append_nil]
      exact G' _ _ hy
theorem lc_picked {i n : Nat} {σ : L2.St} {H : Hp} {ta : TA} {tt : TT} {te : TE} {Q : VK} (p : Nat → Bool) (g : Nat → V) (ha : ∀ R : List V → Hp → Prop, (∀ H1, Sm H H1 → R [.int (n : Int)] H1) → ta σ H R) (hn : n ≤ 90000)
    (ht : ∀ j H2, j < n → Sm H H2 → ∀ R : Bool → Hp → Prop, (∀ H', Sm H2 H' → R (p j) H') → tt ((σ.set i none).set i (some (.int (0 + (j : Int))))) H2 R)
    (he : ∀ j H2, j < n → Sm H H2 → ∀ R : VK, (∀ H', Sm H2 H' → R (g j) H') → te ((σ.set i none).set i (some (.int (0 + (j : Int))))) H2 R)
    (hQ : ∀ D H', Sm H H' → H' D = some (.lst (((List.range n).filter p).map g)) → Q (.ref D) H') : tLc (iRng1 ta) (gName i) tt te [i] σ H Q := by
  refine ha _ fun H1 G => ⟨(n : Int), rfl, by omega, by omega, fun D hD => ?_⟩
  exact lc_pick (i := i) (n := n) (tt := tt) (te := te) p g hD (by omega) (fun j H2 hj G2 R hR => ht j H2 hj (G.trans G2) R hR) (fun j H2 hj G2 R hR => he j H2 hj (G.trans G2) R hR) fun H' G' hy => hQ D H' (G.trans G') hy
/-- a list of numbers against the empty one -/
theorem dp_ints {K : PySem.W.Frag} {H : Hp} : ∀ ns : List Int, DpAll K H (ns.map V.int) (ns.map PyData.int)
  | [] => .nil
  | x :: r => .cons (.int x) (dp_ints r)
theorem lay_ints : ∀ ns : List Int, PyData.canLayAll0 (ns.map PyData.int) = true
  | [] => rfl
  | x :: r => by
    show (true && PyData.canLayAll0 (r.map PyData.int)) = true
    rw [lay_ints r]
    rfl
theorem depth_ints : ∀ ns : List Int, PyData.depthAll (ns.map PyData.int) = 0
  | [] => rfl
  | x :: r => by
    show max 0 (PyData.depthAll (r.map PyData.int)) = 0
    rw [depth_ints r]
    rfl
theorem shaped_ints (ns : List Int) : SeqAt.shaped (.list (ns.map PyData.int)) = true := by
  show (PyData.canLayAll0 (ns.map PyData.int) && decide (PyData.depthAll (ns.map PyData.int) + 1 ≤ 64)) = true
  rw [lay_ints, depth_ints]
  rfl
theorem eqv_nil (ns : List PyData) : PyData.eqv (.list ns) (.list []) = ns.isEmpty := by
  show PyData.eqvAll ns [] = _
  cases ns with
  | nil => rfl
  | cons a r => rfl
def stemB (n1 : Str) (k1 : List Str) (n2 : Str) (k2 : List Str) : Bool := decide (n1 = n2) && decide (k1 = k2.take k1.length)
def spTwo (K : PySem.W.Frag) (B : Str → List Str → Str → List Str → Bool) : Sp := fun vs H Q _ => ∃ (p q : Addr) (n1 n2 : Str) (k1 k2 : List Str), vs = [.ref p, .ref q] ∧ RefAt K H p n1 k1 ∧ RefAt K H q n2 k2 ∧ REF n1 k1 ∧ REF n2 k2 ∧ ∀ H', Sm H H' → Q (.bl (B n1 k1 n2 k2)) H'
theorem cut_drop (xs : List V) (k : Nat) : cutV xs (some (k : Int)) none = xs.drop k := by
  unfold cutV
  rw [HT.sIx_none, HT.sIx_nat]
  by_cases h : k ≤ xs.length
  · rw [Nat.min_eq_left h, List.take_of_length_le]
    rw [List.length_drop]
    exact Nat.le_refl _
  · rw [Nat.min_eq_right (by omega), List.drop_eq_nil_of_le (Nat.le_refl _), List.drop_eq_nil_of_le (by omega), List.take_nil]
/-! ### loops, and heaps behind a bag that is one's own -/
theorem Sm.go {H0 H1 H2 : Hp} {b : Addr} {n : Nat} (S : Sm H0 H1) (G : Go b n H1 H2) (hb : H0 b = none) : Sm H0 H2 := ⟨fun a o h nt => G.keep a o (ne_of_none h hb) (S.keep a o h nt) nt, fun P t => G.tab P (S.tab P t), fun a ha => S.gone a (G.gone a ha)⟩
theorem SqT.upd {K : PySem.W.Frag} {H : Hp} {S t : Addr} {xs ys : List V} {o : HO} (h : SqT K H t xs) (hs : H S = some (.lst ys)) : SqT K (upd H S o) t xs := by
  have ne : ∀ {u : HO}, H t = some u → (∀ zs, u ≠ .lst zs) → t ≠ S := fun hu no e => by
    rw [e, hs] at hu
    exact no _ (Option.some.inj hu).symm
  rcases h with (h | ⟨ob, h⟩) | h
  · exact .inl (.inl (by rw [upd_ne (ne h fun _ z => by cases z)]; exact h))
  · exact .inl (.inr ⟨ob, by rw [upd_ne (ne h fun _ z => by cases z)]; exact h⟩)
  · exact .inr h
theorem RefAt.upd {K : PySem.W.Frag} {H : Hp} {S p : Addr} {n : Str} {ks : List Str} {ys : List V} {o : HO} (h : RefAt K H p n ks) (hs : H S = some (.lst ys)) : RefAt K (upd H S o) p n ks := by
  obtain ⟨t, h1, h2⟩ := h.ex
  exact ⟨t, SqT.upd h1 hs, SqT.upd h2 hs⟩
theorem Bag.upd {H : Hp} {b S : Addr} {m : Nat} {o : HO} (B : Bag H b m) (ne : S ≠ b) : Bag (upd H S o) b m := by
  obtain ⟨x, y, z, h1, h2⟩ := B
  exact ⟨x, y, z, by rw [upd_ne (Ne.symm ne)]; exact h1, h2⟩
section
variable {K : PySem.W.Frag}
theorem for_in {i j : Nat} {S : Addr} {xs : List V} {tb : TS} {D : Ends} {σ : L2.St} {H : Hp} (Pv : Nat → L2.St → Hp → Prop) (hj : σ[j]? = some (some (.ref S))) (hS : SqL K H S xs) (h0 : Pv 0 σ H) (hl : ∀ n σ H, n ≤ xs.length → Pv n σ H → SqL K H S xs)
    (hs : ∀ n x σ H, xs[n]? = some x → Pv n σ H → tb { D with nx := Pv (n + 1), ct := Pv (n + 1), bk := D.nx } (σ.set i (some x)) H) (hd : ∀ σ H, Pv xs.length σ H → D.nx σ H) : tFor (iList K (tVar j)) (gName i) tb D σ H :=
  ⟨_, hj, S, rfl, ⟨_, hS⟩, for_list (xs := xs) Pv h0 hl hs hd⟩
theorem for_rng {i n : Nat} {ta : TA} {tb : TS} {D : Ends} {σ : L2.St} {H : Hp} (Pv : Nat → L2.St → Hp → Prop) (ha : ∀ R : List V → Hp → Prop, (∀ H1, Sm H H1 → R [.int (n : Int)] H1) → ta σ H R) (hn : n ≤ 90000) (h0 : ∀ H1, Sm H H1 → Pv 0 σ H1)
    (hs : ∀ j σ H, j < n → Pv j σ H → tb { D with nx := Pv (j + 1), ct := Pv (j + 1), bk := D.nx } (σ.set i (some (.int (0 + (j : Int))))) H) (hd : ∀ σ H, Pv n σ H → D.nx σ H) : tFor (iRng1 ta) (gName i) tb D σ H := by
  refine ha _ fun H1 S => ⟨(n : Int), rfl, by omega, by omega, ?_⟩
  exact for_range (lo := 0) (n := n) Pv (h0 H1 S) hs hd
/-- a comprehension over a list that keeps nothing -/
theorem lc_empty {i j : Nat} {S : Addr} {xs : List V} {σ : L2.St} {H : Hp} {tt : TT} {te : TE} {Q : VK} (hj : σ[j]? = some (some (.ref S))) (hS : SqL K H S xs)
    (ht : ∀ x H2, x ∈ xs → Sm H H2 → ∀ R : Bool → Hp → Prop, (∀ H', Sm H2 H' → R false H') → tt ((σ.set i none).set i (some x)) H2 R)
    (hQ : ∀ D H', Sm H H' → H' D = some (.lst []) → Q (.ref D) H') : tLc (iList K (tVar j)) (gName i) tt te [i] σ H Q := by
  refine ⟨_, hj, S, rfl, ⟨_, hS⟩, fun D hD => ?_⟩
  refine lc_list (K := K) (a := S) (xs := xs) (fun _ H' => Sm H H' ∧ H' D = some (.lst [])) ⟨Sm.new hD, upd_same⟩ (fun _ H' _ h => Sm.seq h.1 hS) (fun n x H' hx h => ?_) fun H' h => hQ D H' h.1 h.2
  refine ⟨?_, ?_⟩
  · show ((σ.set i none).set i (some x)).set i none = (σ.set i none)
    rw [List.set_set, List.set_set]
  · exact ht x H' (List.mem_of_getElem? hx) h.1 _ fun H2 S2 => iteF ⟨h.1.trans S2, S2 _ _ h.2⟩
theorem isi_bool {k : Bool} {H : Hp} {Q : VK} (q : Q (.bl true) H) : rIsi K [.bl k, .ty "bool"] H Q :=
  ⟨_, _, .type "bool", .type "bool", true, rfl, .ty "bool", .base (.bl k), kit_ty (by decide +kernel), q⟩
end
/-- a comprehension over a list that keeps nothing -/
theorem lc_none {K : PySem.W.Frag} {i : Nat} {te0 : TE} {xs : List V} {σ : L2.St} {H : Hp} {tt : TT} {te : TE} {Q : VK} (h0 : ∀ R : VK, (∀ S H1, Sm H H1 → SqL K H1 S xs → R (.ref S) H1) → te0 σ H R)
    (ht : ∀ x H2, x ∈ xs → Sm H H2 → ∀ R : Bool → Hp → Prop, (∀ H', Sm H2 H' → R false H') → tt ((σ.set i none).set i (some x)) H2 R)
    (hQ : ∀ D H', Sm H H' → H' D = some (.lst []) → Q (.ref D) H') : tLc (iList K te0) (gName i) tt te [i] σ H Q := by
  refine h0 _ fun S H1 S1 hS => ⟨S, rfl, ⟨_, hS⟩, fun D hD => ?_⟩
  refine lc_list (K := K) (a := S) (xs := xs) (fun _ H' => Sm H1 H' ∧ H' D = some (.lst [])) ⟨Sm.new hD, upd_same⟩ (fun _ H' _ h => Sm.seq h.1 hS) (fun n x H' hx h => ?_) fun H' h => hQ D H' (S1.trans h.1) h.2
  refine ⟨?_, ?_⟩
  · show ((σ.set i none).set i (some x)).set i none = (σ.set i none)
    rw [List.set_set, List.set_set]
  · exact ht x H' (List.mem_of_getElem? hx) (S1.trans h.1) _ fun H2 S2 => iteF ⟨h.1.trans S2, S2 _ _ h.2⟩
/-! ### < of two tuples of ints and texts, place by place -/
def eqF : V → V → Bool
  | .int a, .int b => a == b
  | .str a, .str b => a == b
  | _, _ => false
def ltF : V → V → Bool
  | .int a, .int b => decide (a < b)
  | .str a, .str b => decide (tl a < tl b)
  | _, _ => false
def alike : V → V → Bool
  | .int _, .int _ => true
  | .str _, .str _ => true
  | _, _ => false
def lexF : List V → List V → Bool
  | [], ys => !ys.isEmpty
  | _ :: _, [] => false
  | x :: xs, y :: ys => if eqF x y = true then lexF xs ys else ltF x y
theorem lexF_at : ∀ (xs ys : List V) (e r : Nat → Bool) (i : Nat), (∀ j x y, xs[j]? = some x → ys[j]? = some y → e (i + j) = eqF x y ∧ r (i + j) = ltF x y) → Ob.lexAt e r (decide (xs.length < ys.length)) i (min xs.length ys.length) = lexF xs ys
  | [], ys, e, r, i, _ => by
    rw [List.length_nil, Nat.zero_min, Ob.lexAt_zero]
    cases ys <;> simp [lexF]
  | x :: xs, [], e, r, i, _ => by
    rw [List.length_nil, Nat.min_zero, Ob.lexAt_zero]
    simp [lexF]
  | x :: xs, y :: ys, e, r, i, h => by
    have h0 := h 0 x y rfl rfl
    rw [Nat.add_zero] at h0
    rw [List.length_cons, List.length_cons, Nat.succ_min_succ, Ob.lexAt_succ, h0.1, h0.2]
    show _ = if eqF x y = true then lexF xs ys else ltF x y
    have ih := lexF_at xs ys e r (i + 1) fun j a b ha hb => by
      have := h (j + 1) a b ha hb
      rwa [show i + (j + 1) = i + 1 + j by omega] at this
    have ed : decide (xs.length + 1 < ys.length + 1) = decide (xs.length < ys.length) := by rw [decide_eq_decide]; omega
    rw [ed, ih]
def rLtF (K : PySem.W.Frag) : R2 := fun x y H Q => ∃ (a b : Addr) (xs ys : List V), x = .ref a ∧ y = .ref b ∧ SqT K H a xs ∧ SqT K H b ys ∧ (∀ (j : Nat) (x y : V), xs[j]? = some x → ys[j]? = some y → alike x y = true) ∧ Q (.bl (lexF xs ys)) H
section
variable {X : Cx} (K : PySem.W.Frag)
theorem val_at {xs : List V} {us : List Value} (r : Vals xs us) : ∀ {j : Nat} {u : Value}, us[j]? = some u → ∃ x, xs[j]? = some x ∧ RelV x u := by
  induction r with
  | nil => intro j u h; simp at h
  | cons rx _ ih =>
    intro j u h
    cases j with
    | zero => exact ⟨_, rfl, by rw [← Option.some.inj h]; exact rx⟩
    | succ j => exact ih (j := j) (by simpa using h)
theorem ltK (hu : X.A.units + 64 < cLine) (h : X.K = K := by rfl) : OpR X (compareOp .Lt) (rLtF K) := by
  subst h
  intro pins s σ H x y v u Q I rx ry h
  obtain ⟨a, b, xs, ys, rfl, rfl, ha, hb, hk, q⟩ := h
  obtain rfl : v = Value.ref a := rx
  obtain rfl : u = Value.ref b := ry
  obtain ⟨us, r1, p1, _⟩ := I.tuple ha
  obtain ⟨ws, r2, p2, _⟩ := I.tuple hb
  have key : ∀ j (h1 : j < us.toArray.size) (h2 : j < ws.toArray.size), ∃ x y, xs[j]? = some x ∧ ys[j]? = some y ∧ RelV x us.toArray[j] ∧ RelV y ws.toArray[j] := fun j h1 h2 => by
    obtain ⟨x, hx, qx⟩ := val_at r1 (j := j) (u := us.toArray[j]) (by simp at h1 ⊢)
    obtain ⟨y, hy, qy⟩ := val_at r2 (j := j) (u := ws.toArray[j]) (by simp at h2 ⊢)
    exact ⟨x, y, hx, hy, qx, qy⟩
  have fin : lexF xs ys = Ob.lexAt (fun j => match xs[j]?, ys[j]? with | some x, some y => eqF x y | _, _ => false) (fun j => match xs[j]?, ys[j]? with | some x, some y => ltF x y | _, _ => false) (decide (us.toArray.size < ws.toArray.size)) 0 (min us.toArray.size ws.toArray.size) := by
    rw [List.size_toArray, List.size_toArray, ← r1.length, ← r2.length]
    refine (lexF_at xs ys _ _ 0 fun j x y hx hy => ?_).symm
    rw [Nat.zero_add, hx, hy]
    exact ⟨rfl, rfl⟩
  refine Ob.RcOp.tuples_lt (e := fun j => match xs[j]?, ys[j]? with | some x, some y => eqF x y | _, _ => false) (r := fun j => match xs[j]?, ys[j]? with | some x, some y => ltF x y | _, _ => false) p1 p2 (by omega) (fun j h1 h2 => ?_) (fun j h1 h2 _ => ?_) X.prog X.w _ _ ⟨.bl _, H, I, rfl, by rw [← fin]; exact q⟩
  · obtain ⟨x, y, hx, hy, qx, qy⟩ := key j h1 h2
    have al := hk j x y hx hy
    simp only [hx, hy]
    cases x <;> cases y <;> first | (cases al; done) | skip
    · obtain ⟨t, e⟩ := qx
      obtain ⟨t', e'⟩ := qy
      rw [e, e']
      exact SeqAt.EqAt.int_int _ _ _ _
    · obtain ⟨t, e⟩ := qx
      obtain ⟨t', e'⟩ := qy
      rw [e, e']
      exact SeqAt.EqAt.str_str _ _ _ _
  · obtain ⟨x, y, hx, hy, qx, qy⟩ := key j h1 h2
    have al := hk j x y hx hy
    simp only [hx, hy]
    cases x <;> cases y <;> first | (cases al; done) | skip
    · obtain ⟨t, e⟩ := qx
      obtain ⟨t', e'⟩ := qy
      rw [e, e']
      exact Ob.RcOp.lt_int _ _ _ _
    · obtain ⟨t, e⟩ := qx
      obtain ⟨t', e'⟩ := qy
      rw [e, e']
      exact fun _ _ _ _ h => PyProof.Rows.lt_str h
end
/-! ### the order of keys: their ranks -/
def rankV (z : Str) : List V := if isNum (tl z) = true then [.int 0, .int (numOf (tl z)), .str ""] else [.int 1, .int 0, .str z]
/-- one key ahead of another -/
def ahead (x y : Str) : Bool := lexF (rankV x) (rankV y)
theorem rank_alike (x y : Str) : ∀ (j : Nat) (a b : V), (rankV x)[j]? = some a → (rankV y)[j]? = some b → alike a b = true := fun j a b ha hb => by
  unfold rankV at ha hb
  match j with
  | 0 => split at ha <;> split at hb <;> (cases ha; cases hb; rfl)
  | 1 => split at ha <;> split at hb <;> (cases ha; cases hb; rfl)
  | 2 => split at ha <;> split at hb <;> (cases ha; cases hb; rfl)
  | j + 3 => split at ha <;> cases ha
def spRank (K : PySem.W.Frag) (p : Addr) : Sp := fun vs H Q _ => ∃ z : Str, vs = [.str z] ∧ (tl z).length ≤ 250 ∧ Tb H p ∧ ∀ a H', Sm H H' → H' a = some (.tup (rankV z)) → Q (.ref a) H'
def spBefore (p : Addr) : Sp := fun vs H Q _ => ∃ x y : Str, vs = [.str x, .str y] ∧ (tl x).length ≤ 250 ∧ (tl y).length ≤ 250 ∧ Tb H p ∧ ∀ H', Sm H H' → Q (.bl (ahead x y)) H'
section
variable {P : Program} {w : World} {K : PySem.W.Frag} {mg : Str → Option Value} {base : Heap} {cs : Tabs}
theorem ok_key_rank (T : Txt K mg cs) (Cnumber_of : Cal P w K mg base 2 "number_of" ["worth"] spNumOf) (Cis_number_text : Cal P w K mg base 2 "is_number_text" ["worth"] (spIsNum cs.p_is_number_text)) : Cal P w K mg base 3 "key_rank" ["key"] (spRank K cs.p_is_number_text) := by
  refine T.f_key_rank.cal scKeyRank (fun vs H Q E h => ?_) (fun f cdv A outer s H vs Q E hr h => ?_)
  · obtain ⟨z, rfl, _⟩ := h
    rfl
  obtain ⟨z, rfl, hl, ht, q⟩ := h
  refine ⟨_, (pss_cons (ps_if (pt_val (pe_cal Cis_number_text (hr.mono (by first | decide | omega)) (pa_cons (pv 0) pa_nil))) (pss_one (ps_ret (pe_tup (pa_cons pe_int (pa_cons (pe_cal Cnumber_of (hr.mono (by first | decide | omega)) (pa_cons (pv 0) pa_nil)) (pa_cons pe_str pa_nil)))))) pss_nil)
    (pss_one (ps_ret (pe_tup (pa_cons pe_int (pa_cons pe_int (pa_cons (pv 0) pa_nil))))))), ?_⟩
  refine ⟨_, rfl, z, rfl, hl, ht, fun H1 S1 => ⟨_, rfl, ?_⟩⟩
  refine ite2 (fun c => ?_) (fun c => ?_)
  · refine ⟨_, rfl, z, rfl, hl, small (by show 3 ≤ 100000; decide), fun p hp => ?_⟩
    refine q p _ (S1.trans (Sm.new hp)) ?_
    unfold rankV
    rw [if_pos c]
    exact upd_same
  · refine ⟨_, rfl, small (by show 3 ≤ 100000; decide), fun p hp => ?_⟩
    refine q p _ (S1.trans (Sm.new hp)) ?_
    unfold rankV
    rw [if_neg c]
    exact upd_same
theorem ok_before (T : Txt K mg cs) (Ckey_rank : Cal P w K mg base 3 "key_rank" ["key"] (spRank K cs.p_is_number_text)) : Cal P w K mg base 4 "before" ["one", "other"] (spBefore cs.p_is_number_text) := by
  refine T.f_before.cal scBefore (fun vs H Q E h => ?_) (fun f cdv A outer s H vs Q E hr h => ?_)
  · obtain ⟨x, y, rfl, _⟩ := h
    rfl
  obtain ⟨x, y, rfl, hx, hy, ht, q⟩ := h
  refine ⟨_, (pss_one (ps_ret (pe_cmpR (ltK K hr.units) (pe_cal Ckey_rank (hr.mono (by first | decide | omega)) (pa_cons (pv 0) pa_nil)) (pe_cal Ckey_rank (hr.mono (by first | decide | omega)) (pa_cons (pv 1) pa_nil)) (nomark _)))), ?_⟩
  refine ⟨_, rfl, x, rfl, hx, ht, fun a H1 S1 e1 => ⟨_, rfl, y, rfl, hy, S1.tab _ ht, fun b H2 S2 e2 => ?_⟩⟩
  exact ⟨a, b, rankV x, rankV y, rfl, rfl, .inl (.inl (S2 _ _ e1)), .inl (.inl e2), rank_alike x y, q H2 (S1.trans S2)⟩
end
/-! ### the order of keys: one order -/
def isN (z : Str) : Bool := isNum (tl z)
def nO (z : Str) : Int := numOf (tl z)
theorem rank_n {x : Str} (h : isN x = true) : rankV x = [.int 0, .int (nO x), .str ""] := if_pos (show isNum (tl x) = true from h)
theorem rank_o {x : Str} (h : isN x = false) : rankV x = [.int 1, .int 0, .str x] := if_neg (show ¬ isNum (tl x) = true from fun z => by
  have e : isNum (tl x) = false := h
  rw [e] at z
  cases z)
theorem isN_inj {x y : Str} (hx : isN x = true) (hy : isN y = true) (e : nO x = nO y) : x = y := by
  unfold isN at hx hy
  rw [isNum_is] at hx hy
  refine ext_tl ?_
  rw [← of_decide_eq_true hx, ← of_decide_eq_true hy]
  exact congrArg numT e
theorem ahead_nn {x y : Str} (hx : isN x = true) (hy : isN y = true) : ahead x y = decide (nO x < nO y) := by
  unfold ahead
  rw [rank_n hx, rank_n hy]
  show (if eqF (.int 0) (.int 0) = true then (if eqF (.int (nO x)) (.int (nO y)) = true then (if eqF (.str "") (.str "") = true then lexF [] [] else ltF (.str "") (.str "")) else ltF (.int (nO x)) (.int (nO y))) else ltF (.int 0) (.int 0)) = _
  rw [if_pos (show eqF (.int 0) (.int 0) = true from rfl), if_pos (show eqF (.str "") (.str "") = true from by decide)]
  by_cases e : nO x = nO y
  · rw [if_pos (by show (nO x == nO y) = true; exact beq_iff_eq.mpr e), decide_eq_false (by omega)]
    rfl
  · rw [if_neg (by show ¬ (nO x == nO y) = true; exact fun h => e (beq_iff_eq.mp h))]
    rfl
theorem ahead_no {x y : Str} (hx : isN x = true) (hy : isN y = false) : ahead x y = true := by
  unfold ahead
  rw [rank_n hx, rank_o hy]
  rfl
theorem ahead_on {x y : Str} (hx : isN x = false) (hy : isN y = true) : ahead x y = false := by
  unfold ahead
  rw [rank_o hx, rank_n hy]
  rfl
theorem ahead_oo {x y : Str} (hx : isN x = false) (hy : isN y = false) : ahead x y = decide (tl x < tl y) := by
  unfold ahead
  rw [rank_o hx, rank_o hy]
  show (if eqF (.int 1) (.int 1) = true then (if eqF (.int 0) (.int 0) = true then (if eqF (.str x) (.str y) = true then lexF [] [] else ltF (.str x) (.str y)) else ltF (.int 0) (.int 0)) else ltF (.int 1) (.int 1)) = _
  rw [if_pos (show eqF (.int 1) (.int 1) = true from rfl), if_pos (show eqF (.int 0) (.int 0) = true from rfl)]
  by_cases e : x = y
  · subst e
    rw [if_pos (by show (x == x) = true; exact beq_self_eq_true x), decide_eq_false (List.lt_irrefl _)]
    rfl
  · rw [if_neg (by show ¬ (x == y) = true; exact fun h => e (eq_of_beq h))]
    rfl
theorem bool_cases (b : Bool) : b = true ∨ b = false := by cases b <;> simp
theorem ahead_self (x : Str) : ahead x x = false := by
  rcases bool_cases (isN x) with h | h
  · rw [ahead_nn h h]
    exact decide_eq_false (by omega)
  · rw [ahead_oo h h]
    exact decide_eq_false (List.lt_irrefl _)
theorem ahead_two {x y : Str} (e : x ≠ y) : (ahead x y || ahead y x) = true := by
  rcases bool_cases (isN x) with h | h <;> rcases bool_cases (isN y) with g | g
  · rw [ahead_nn h g, ahead_nn g h]
    have ne : nO x ≠ nO y := fun z => e (isN_inj h g z)
    rcases (by omega : nO x < nO y ∨ nO y < nO x) with z | z <;> simp [z]
  · rw [ahead_no h g]
    rfl
  · rw [ahead_no g h, Bool.or_true]
  · rw [ahead_oo h g, ahead_oo g h]
    by_cases z : tl x < tl y
    · simp [z]
    · by_cases z2 : tl y < tl x
      · simp [z2]
      · exact absurd (ext_tl (List.le_antisymm (List.not_lt.mp z2) (List.not_lt.mp z))) e
theorem ahead_one {x y : Str} (h : ahead x y = true) : ahead y x = false := by
  rcases bool_cases (isN x) with a | a <;> rcases bool_cases (isN y) with b | b
  · rw [ahead_nn a b] at h
    rw [ahead_nn b a]
    have := of_decide_eq_true h
    exact decide_eq_false (by omega)
  · exact ahead_on b a
  · rw [ahead_on a b] at h
    cases h
  · rw [ahead_oo a b] at h
    rw [ahead_oo b a]
    exact decide_eq_false (List.lt_asymm (of_decide_eq_true h))
theorem ahead_tr {x y z : Str} (h : ahead x y = true) (g : ahead y z = true) : ahead x z = true := by
  rcases bool_cases (isN x) with a | a <;> rcases bool_cases (isN y) with b | b <;> rcases bool_cases (isN z) with c | c
  · rw [ahead_nn a b] at h
    rw [ahead_nn b c] at g
    rw [ahead_nn a c]
    have := of_decide_eq_true h
    have := of_decide_eq_true g
    exact decide_eq_true (by omega)
  · exact ahead_no a c
  · rw [ahead_on b c] at g
    cases g
  · exact ahead_no a c
  · rw [ahead_on a b] at h
    cases h
  · rw [ahead_on a b] at h
    cases h
  · rw [ahead_on b c] at g
    cases g
  · rw [ahead_oo a b] at h
    rw [ahead_oo b c] at g
    rw [ahead_oo a c]
    exact decide_eq_true (List.lt_trans (of_decide_eq_true h) (of_decide_eq_true g))
theorem ahead_same {x y : Str} (h : ahead x y = false) (g : ahead y x = false) : x = y := by
  by_cases e : x = y
  · exact e
  · have := ahead_two e
    rw [h, g] at this
    cases this
theorem le_tr (x y z : Str) (h : (!ahead y x) = true) (g : (!ahead z y) = true) : (!ahead z x) = true := by
  rw [Bool.not_eq_true'] at *
  by_cases e : ahead z x = true
  · by_cases exy : x = y
    · subst exy
      rw [e] at g
      cases g
    · have := ahead_two exy
      rw [h, Bool.or_false] at this
      rw [ahead_tr e this] at g
      cases g
  · simpa using e
theorem le_tot (x y : Str) : ((!ahead y x) || (!ahead x y)) = true := by
  rcases bool_cases (ahead x y) with h | h
  · rw [ahead_one h]
    rfl
  · rw [h]
    simp
/-! ### one step of a term at a time -/
theorem run_set {i : Nat} {te : TE} {u : TS} {D : Ends} {σ : L2.St} {H : Hp} (h : te σ H fun v H1 => u D (σ.set i (some v)) H1) : tSeq (tAsg te (gName i)) u D σ H := h
theorem run_ret {te : TE} {D : Ends} {σ : L2.St} {H : Hp} (h : te σ H D.rt) : tRet te D σ H := h
theorem run_op {r : R2} {ta tb : TE} {σ : L2.St} {H : Hp} {Q : VK} (h : ta σ H fun x H1 => tb σ H1 fun y H2 => r x y H2 Q) : tOp r ta tb σ H Q := h
theorem run_if {c : TT} {t u r : TS} {D : Ends} {σ : L2.St} {H : Hp} (h : c σ H fun b H1 => if b = true then t { D with nx := r D } σ H1 else u { D with nx := r D } σ H1) : tSeq (tIfS c t u) r D σ H := h
theorem run_ifE {c : TT} {t u : TS} {D : Ends} {σ : L2.St} {H : Hp} (h : c σ H fun b H1 => if b = true then t D σ H1 else u D σ H1) : tIfS c t u D σ H := h
theorem run_next {D : Ends} {σ : L2.St} {H : Hp} (h : D.nx σ H) : tNext D σ H := h
theorem run_for {i : TI} {g : TG} {tb u : TS} {D : Ends} {σ : L2.St} {H : Hp} (h : tFor i g tb { D with nx := u D } σ H) : tSeq (tFor i g tb) u D σ H := h
theorem run_test {r : R2} {ta tb : TE} {σ : L2.St} {H : Hp} {Q : Bool → Hp → Prop} (h : ta σ H fun x H1 => tb σ H1 fun y H2 => r x y H2 fun v H' => ∃ k, v = .bl k ∧ Q k H') : tTest (tOp r ta tb) σ H Q := h
/-- an if whose condition fails on every way -/
theorem run_no {c : TT} {t r : TS} {D : Ends} {σ : L2.St} {H : Hp} (Ph : Hp → Prop) (h : ∀ R : Bool → Hp → Prop, (∀ H1, Ph H1 → R false H1) → c σ H R) (hr : ∀ H1, Ph H1 → r D σ H1) : tSeq (tIfS c t tNext) r D σ H :=
  run_if (h _ fun H1 p => iteF (hr H1 p))
theorem run_noE {c : TT} {t : TS} {D : Ends} {σ : L2.St} {H : Hp} (Ph : Hp → Prop) (h : ∀ R : Bool → Hp → Prop, (∀ H1, Ph H1 → R false H1) → c σ H R) (hr : ∀ H1, Ph H1 → D.nx σ H1) : tIfS c t tNext D σ H :=
  run_ifE (h _ fun H1 p => iteF (hr H1 p))
/-- an if that gives a name another value, or not -/
theorem run_ifset {i : Nat} {te : TE} {c : TT} {r : TS} {D : Ends} {σ : L2.St} {H : Hp} {v0 : V} (Pv : V → Hp → Prop) (h0 : σ.set i (some v0) = σ) (h : ∀ R : VK, (∀ v H1, Pv v H1 → R v H1) → c σ H fun b H1 => if b = true then te σ H1 R else R v0 H1) (hr : ∀ v H1, Pv v H1 → r D (σ.set i (some v)) H1) :
    tSeq (tIfS c (tAsg te (gName i)) tNext) r D σ H := by
  have q := h (fun v H1 => r D (σ.set i (some v)) H1) hr
  rw [h0] at q
  exact q
theorem run_and {t u : TT} {σ : L2.St} {H : Hp} {Q : Bool → Hp → Prop} (h : t σ H fun c H1 => if c = true then u σ H1 Q else Q false H1) : tAnd t u σ H Q := h
theorem run_setP {i : Nat} {te : TE} {u : TS} {D : Ends} {σ : L2.St} {H : Hp} (Pv : V → Hp → Prop) (h : ∀ R : VK, (∀ v H1, Pv v H1 → R v H1) → te σ H R) (hr : ∀ v H1, Pv v H1 → u D (σ.set i (some v)) H1) : tSeq (tAsg te (gName i)) u D σ H := h _ hr
theorem run_gate {s r : TS} {D : Ends} {σ : L2.St} {H : Hp} (Ph : Hp → Prop) (h : ∀ nx : L2.St → Hp → Prop, (∀ H1, Ph H1 → nx σ H1) → s { D with nx := nx } σ H) (hr : ∀ H1, Ph H1 → r D σ H1) : tSeq s r D σ H := h (r D) hr
/-! ### heaps that change at some addresses alone -/
structure Ch (W : Addr → Prop) (H H' : Hp) : Prop where
  keep0 : ∀ (a : Addr) (o : HO), ¬ W a → H a = some o → notTbl o = true → H' a = some o
  tab : ∀ P, Tb H P → Tb H' P
  gone : ∀ a, H' a = none → H a = none
theorem Ch.keep {W : Addr → Prop} {H H' : Hp} (c : Ch W H H') {a : Addr} {o : HO} [n : NT o] (h : ¬ W a) (e : H a = some o) : H' a = some o := c.keep0 a o h e n.is
theorem Ch.refl {W : Addr → Prop} (H : Hp) : Ch W H H := ⟨fun _ _ _ h _ => h, fun _ h => h, fun _ h => h⟩
theorem Ch.sm {W : Addr → Prop} {H H' : Hp} (S : Sm H H') : Ch W H H' := ⟨fun a o _ h n => S.keep a o h n, S.tab, S.gone⟩
theorem Ch.trans {W : Addr → Prop} {H H1 H2 : Hp} (x : Ch W H H1) (y : Ch W H1 H2) : Ch W H H2 := ⟨fun a o w h n => y.keep0 a o w (x.keep0 a o w h n) n, fun P h => y.tab P (x.tab P h), fun a h => x.gone a (y.gone a h)⟩
theorem Ch.mono {W W' : Addr → Prop} {H H' : Hp} (x : Ch W H H') (i : ∀ a, W a → W' a) : Ch W' H H' := ⟨fun a o w h n => x.keep0 a o (fun z => w (i a z)) h n, x.tab, x.gone⟩
/-- what was made on the way may be changed, too -/
theorem Ch.trans' {W W' : Addr → Prop} {H H1 H2 : Hp} (x : Ch W H H1) (y : Ch W' H1 H2) (i : ∀ a, W' a → W a ∨ H a = none) : Ch W H H2 :=
  ⟨fun a o w h n => y.keep0 a o (fun z => (i a z).elim w fun e => by rw [h] at e; cases e) (x.keep0 a o w h n) n, fun P h => y.tab P (x.tab P h), fun a h => x.gone a (y.gone a h)⟩
theorem Ch.upd {W : Addr → Prop} {H : Hp} {p : Addr} {u o : HO} (w : W p) (e : H p = some u) (nt : plainO u = true) : Ch W H (upd H p o) := by
  refine ⟨fun a v h g n => ?_, fun P t => TabG.upd t fun qs z => ?_, fun a h => ?_⟩
  · rw [upd_ne fun z => h (by rw [z]; exact w)]
    exact g
  · rw [e] at z
    cases z
    exact nt
  · by_cases z : a = p
    · rw [z, upd_same] at h
      cases h
    · rw [upd_ne z] at h
      exact h
theorem Ch.nil {H H' : Hp} (c : Ch (fun _ => False) H H') : Sm H H' := ⟨fun a o h n => c.keep0 a o (fun z => z) h n, c.tab, c.gone⟩
theorem Ch.go {W : Addr → Prop} {H H' : Hp} {b : Addr} {n : Nat} (G : Go b n H H') (w : W b) : Ch W H H' := ⟨fun a o h e k => G.keep0 a o (fun z => h (z ▸ w)) e k, G.tab, G.gone⟩
theorem Ch.seq {K : PySem.W.Frag} {W : Addr → Prop} {H H' : Hp} (c : Ch W H H') {a : Addr} {xs : List V} (w : ¬ W a) (h : SqL K H a xs) : SqL K H' a xs := by
  rcases h with (h | ⟨o, h⟩) | h
  · exact .inl (.inl (c.keep w h))
  · exact .inl (.inr ⟨o, c.keep w h⟩)
  · exact .inr h
/-! ### trees, by paths -/
structure Nd where
  a : Addr
  dx : Addr
  r : Addr
  d : Addr
/-- which places there are, their worths, their rows -/
structure Sh where
  N : List Str → Option Nd
  W : List Str → Option Str
  R : List Str → List Str
def wV : Option Str → V
  | none => .non
  | some z => .str z
def ndFs (S : Sh) (p : List Str) (n : Nd) : List (Str × V) := [("worth", wV (S.W p)), ("row", .ref n.r), ("beneath", .ref n.d)]
structure NdAt (C : Addr) (H : Hp) (S : Sh) (m : Nat) (p : List Str) (n : Nd) : Prop where
  ins : H n.a = some (.ins C n.dx (ndFs S p n))
  row : H n.r = some (.lst ((S.R p).map V.str))
  dic : ∃ kvs : List (Key × V), H n.d = some (.dK kvs) ∧ (∀ k : Str, valV kvs (.inr k) = (S.N (p ++ [k])).map fun n => V.ref n.a) ∧ kvs.length ≤ m
  rl : (S.R p).length ≤ m
structure TreeH (C : Addr) (H : Hp) (S : Sh) (m : Nat) : Prop where
  at_ : ∀ p n, S.N p = some n → NdAt C H S m p n
  ia : ∀ p q n n', S.N p = some n → S.N q = some n' → n.a = n'.a → p = q
  ir : ∀ p q n n', S.N p = some n → S.N q = some n' → n.r = n'.r → p = q
  id : ∀ p q n n', S.N p = some n → S.N q = some n' → n.d = n'.d → p = q
structure ShOk (S : Sh) : Prop where
  root : ∃ n, S.N [] = some n
  row : ∀ p n, S.N p = some n → ∀ k, k ∈ S.R p ↔ (S.N (p ++ [k])).isSome = true
  srt : ∀ p n, S.N p = some n → (S.R p).Pairwise fun x y => ahead x y = true
  pre : ∀ p k, (S.N (p ++ [k])).isSome = true → (S.N p).isSome = true
  out : ∀ p, S.N p = none → S.W p = none
  key : ∀ p k, (S.N (p ++ [k])).isSome = true → (tl k).length ≤ 200
  deep : ∀ p, (S.N p).isSome = true → p.length ≤ 7
/-- no place but the top is bare -/
def Full (S : Sh) : Prop := ∀ p k, (S.N (p ++ [k])).isSome = true → S.W (p ++ [k]) ≠ none ∨ S.R (p ++ [k]) ≠ []
/-- the addresses of a tree -/
def Own (S : Sh) (a : Addr) : Prop := ∃ p n, S.N p = some n ∧ (a = n.a ∨ a = n.r ∨ a = n.d)
theorem own_a {S : Sh} {p : List Str} {n : Nd} (h : S.N p = some n) : Own S n.a := ⟨p, n, h, .inl rfl⟩
theorem own_r {S : Sh} {p : List Str} {n : Nd} (h : S.N p = some n) : Own S n.r := ⟨p, n, h, .inr (.inl rfl)⟩
theorem own_d {S : Sh} {p : List Str} {n : Nd} (h : S.N p = some n) : Own S n.d := ⟨p, n, h, .inr (.inr rfl)⟩
theorem own_there {C : Addr} {H : Hp} {S : Sh} {m : Nat} (T : TreeH C H S m) {a : Addr} (h : Own S a) : ∃ o, H a = some o ∧ notTbl o = true ∧ ∀ vs, o ≠ .tup vs := by
  obtain ⟨p, n, e, h⟩ := h
  have A := T.at_ p n e
  obtain ⟨kvs, h3, _⟩ := A.dic
  rcases h with rfl | rfl | rfl
  · exact ⟨_, A.ins, rfl, fun _ z => by cases z⟩
  · exact ⟨_, A.row, rfl, fun _ z => by cases z⟩
  · exact ⟨_, h3, rfl, fun _ z => by cases z⟩
/-- a tree that nothing touched -/
theorem TreeH.keep {C : Addr} {H H' : Hp} {S : Sh} {m : Nat} (T : TreeH C H S m) (k : ∀ a o, Own S a → H a = some o → notTbl o = true → H' a = some o) : TreeH C H' S m := by
  refine ⟨fun p n e => ?_, T.ia, T.ir, T.id⟩
  have A := T.at_ p n e
  obtain ⟨kvs, h1, h2⟩ := A.dic
  exact ⟨k _ _ (own_a e) A.ins rfl, k _ _ (own_r e) A.row rfl, ⟨kvs, k _ _ (own_d e) h1 rfl, h2⟩, A.rl⟩
theorem TreeH.sm {C : Addr} {H H' : Hp} {S : Sh} {m : Nat} (T : TreeH C H S m) (s : Sm H H') : TreeH C H' S m := T.keep fun a o _ h n => s.keep a o h n
theorem TreeH.ch {C : Addr} {W : Addr → Prop} {H H' : Hp} {S : Sh} {m : Nat} (T : TreeH C H S m) (c : Ch W H H') (w : ∀ a, Own S a → ¬ W a) : TreeH C H' S m := T.keep fun a o h e n => c.keep0 a o (w a h) e n
theorem TreeH.mono {C : Addr} {H : Hp} {S : Sh} {m m' : Nat} (T : TreeH C H S m) (h : m ≤ m') : TreeH C H S m' := by
  refine ⟨fun p n e => ?_, T.ia, T.ir, T.id⟩
  have A := T.at_ p n e
  obtain ⟨kvs, h1, h2, h3⟩ := A.dic
  exact ⟨A.ins, A.row, ⟨kvs, h1, h2, Nat.le_trans h3 h⟩, Nat.le_trans A.rl h⟩
theorem own_tup {C : Addr} {H : Hp} {S : Sh} {m : Nat} (T : TreeH C H S m) {a : Addr} {vs : List V} (h : H a = some (.tup vs)) : ¬ Own S a := fun z => by
  obtain ⟨o, e, _, n⟩ := own_there T z
  rw [h] at e
  exact n vs (Option.some.inj e).symm
theorem own_new {C : Addr} {H : Hp} {S : Sh} {m : Nat} (T : TreeH C H S m) {a : Addr} (h : H a = none) : ¬ Own S a := fun z => by
  obtain ⟨o, e, _⟩ := own_there T z
  rw [h] at e
  cases e
/-- all prefixes of a place are there -/
theorem ShOk.up {S : Sh} (O : ShOk S) : ∀ (q p : List Str), (S.N (p ++ q)).isSome = true → (S.N p).isSome = true
  | [], p, h => by rw [List.append_nil] at h; exact h
  | k :: q, p, h => O.pre p k (ShOk.up O q (p ++ [k]) (by rw [List.append_assoc]; exact h))
/-! ### what is done to a tree: mathematics -/
theorem snoc_inj {p q : List Str} {j k : Str} (e : p ++ [j] = q ++ [k]) : p = q ∧ j = k := by
  have h := List.append_inj' e rfl
  exact ⟨h.1, by injection h.2⟩
theorem snoc_ne {p : List Str} {k : Str} : p ++ [k] ≠ p := fun e => by
  have := congrArg List.length e
  simp at this
theorem snoc_nil {p : List Str} {k : Str} : p ++ [k] ≠ [] := by simp
/-- a worth is given, or taken -/
def Sh.setW (S : Sh) (p : List Str) (v : Option Str) : Sh := { S with W := fun q => if q = p then v else S.W q }
/-- a new place beneath p -/
def Sh.add (S : Sh) (p : List Str) (k : Str) (i : Nat) (x : Nd) : Sh where
  N := fun q => if q = p ++ [k] then some x else S.N q
  W := S.W
  R := fun q => if q = p then (S.R p).take i ++ [k] ++ (S.R p).drop i else if q = p ++ [k] then [] else S.R q
/-- the place k beneath p, and all beneath, is gone -/
def Sh.cut (S : Sh) (p : List Str) (k : Str) : Sh where
  N := fun q => if (p ++ [k]).isPrefixOf q = true then none else S.N q
  W := fun q => if (p ++ [k]).isPrefixOf q = true then none else S.W q
  R := fun q => if q = p then (S.R p).erase k else S.R q
theorem pre_of {p q : List Str} (h : p.isPrefixOf q = true) : ∃ r, q = p ++ r := by
  obtain ⟨r, e⟩ := List.isPrefixOf_iff_prefix.mp h
  exact ⟨r, e.symm⟩
theorem pre_app (p r : List Str) : p.isPrefixOf (p ++ r) = true := List.isPrefixOf_iff_prefix.mpr ⟨r, rfl⟩
theorem pre_snoc {p q : List Str} {k j : Str} (h : (p ++ [k]).isPrefixOf (q ++ [j]) = true) (n : ¬ (p ++ [k]).isPrefixOf q = true) : p = q ∧ k = j := by
  obtain ⟨r, e⟩ := pre_of h
  rcases List.eq_nil_or_concat r with rfl | ⟨r', x, rfl⟩
  · rw [List.append_nil] at e
    obtain ⟨a, b⟩ := snoc_inj e
    exact ⟨a.symm, b.symm⟩
  · rw [List.concat_eq_append, ← List.append_assoc] at e
    obtain ⟨a, b⟩ := snoc_inj e
    exact absurd (by rw [a]; exact pre_app _ _) n
theorem pre_up {p q : List Str} {j : Str} (h : p.isPrefixOf q = true) : p.isPrefixOf (q ++ [j]) = true := by
  obtain ⟨r, rfl⟩ := pre_of h
  rw [List.append_assoc]
  exact pre_app _ _
theorem pre_self (p : List Str) : p.isPrefixOf p = true := List.isPrefixOf_iff_prefix.mpr ⟨[], List.append_nil p⟩
theorem pre_not {p : List Str} {k : Str} : ¬ (p ++ [k]).isPrefixOf p = true := fun h => by
  obtain ⟨r, e⟩ := pre_of h
  have := congrArg List.length e
  simp at this
theorem ShOk.setW {S : Sh} (O : ShOk S) {p : List Str} {n : Nd} (e : S.N p = some n) (v : Option Str) : ShOk (S.setW p v) := by
  refine ⟨O.root, O.row, O.srt, O.pre, fun q h => ?_, O.key, O.deep⟩
  have h' : S.N q = none := h
  show (if q = p then v else S.W q) = none
  rw [if_neg fun z => by rw [z, e] at h'; cases h']
  exact O.out q h'
theorem ShOk.none_up {S : Sh} (O : ShOk S) {p : List Str} {k : Str} (h : S.N p = none) : S.N (p ++ [k]) = none := by
  cases e : S.N (p ++ [k]) with
  | none => rfl
  | some n =>
    have := O.pre p k (by rw [e]; rfl)
    rw [h] at this
    cases this
theorem ShOk.add {S : Sh} (O : ShOk S) {p : List Str} {n : Nd} (e : S.N p = some n) {k : Str} (h : S.N (p ++ [k]) = none) (hl : p.length ≤ 6) (hk : (tl k).length ≤ 200) {i : Nat} (x : Nd)
    (h1 : ∀ y ∈ (S.R p).take i, ahead y k = true) (h2 : ∀ y ∈ (S.R p).drop i, ahead k y = true) : ShOk (S.add p k i x) := by
  have nk : k ∉ S.R p := fun z => by
    have := (O.row p n e k).mp z
    rw [h] at this
    cases this
  have memb : ∀ y, y ∈ (S.R p).take i ++ [k] ++ (S.R p).drop i ↔ y = k ∨ y ∈ S.R p := fun y => by
    have q : y ∈ S.R p ↔ y ∈ (S.R p).take i ∨ y ∈ (S.R p).drop i := by
      rw [← List.mem_append, List.take_append_drop]
    rw [q, List.mem_append, List.mem_append, List.mem_singleton]
    constructor
    · rintro ((a | a) | a)
      · exact .inr (.inl a)
      · exact .inl a
      · exact .inr (.inr a)
    · rintro (a | a | a)
      · exact .inl (.inr a)
      · exact .inl (.inl a)
      · exact .inr a
  refine ⟨?_, fun q m hm j => ?_, fun q m hm => ?_, fun q j hs => ?_, fun q hs => ?_, fun q j hs => ?_, fun q hs => ?_⟩
  · obtain ⟨r, hr⟩ := O.root
    refine ⟨r, ?_⟩
    show (if [] = p ++ [k] then some x else S.N []) = some r
    rw [if_neg (Ne.symm snoc_nil)]
    exact hr
  · show j ∈ (if q = p then _ else if q = p ++ [k] then [] else S.R q) ↔ (if q ++ [j] = p ++ [k] then some x else S.N (q ++ [j])).isSome = true
    by_cases z : q = p
    · subst z
      rw [if_pos rfl, memb]
      by_cases y : j = k
      · subst y
        rw [if_pos rfl]
        exact ⟨fun _ => rfl, fun _ => .inl rfl⟩
      · rw [if_neg fun w => y (snoc_inj w).2, ← O.row q n e j]
        exact ⟨fun w => w.elim (fun a => absurd a y) id, .inr⟩
    · rw [if_neg z]
      by_cases y : q = p ++ [k]
      · subst y
        rw [if_pos rfl, if_neg fun w => z (snoc_inj w).1, O.none_up h]
        exact ⟨fun a => (nomatch a), fun a => (nomatch a)⟩
      · rw [if_neg y, if_neg fun w => z (snoc_inj w).1]
        have hm' : (if q = p ++ [k] then some x else S.N q) = some m := hm
        rw [if_neg y] at hm'
        exact O.row q m hm' j
  · show (if q = p then _ else if q = p ++ [k] then [] else S.R q).Pairwise _
    by_cases z : q = p
    · subst z
      rw [if_pos rfl]
      have P := O.srt q n e
      rw [← List.take_append_drop i (S.R q)] at P
      obtain ⟨P1, P2, P3⟩ := List.pairwise_append.mp P
      refine List.pairwise_append.mpr ⟨List.pairwise_append.mpr ⟨P1, List.pairwise_singleton _ _, fun a ha b hb => ?_⟩, P2, fun a ha b hb => ?_⟩
      · rw [List.mem_singleton.mp hb]
        exact h1 a ha
      · rcases List.mem_append.mp ha with ha | ha
        · exact P3 a ha b hb
        · rw [List.mem_singleton.mp ha]
          exact h2 b hb
    · rw [if_neg z]
      by_cases y : q = p ++ [k]
      · rw [if_pos y]
        exact .nil
      · rw [if_neg y]
        have hm' : (if q = p ++ [k] then some x else S.N q) = some m := hm
        rw [if_neg y] at hm'
        exact O.srt q m hm'
  · have hs' : (if q ++ [j] = p ++ [k] then some x else S.N (q ++ [j])).isSome = true := hs
    show (if q = p ++ [k] then some x else S.N q).isSome = true
    by_cases y : q = p ++ [k]
    · rw [if_pos y]
      rfl
    · rw [if_neg y]
      by_cases z : q ++ [j] = p ++ [k]
      · obtain ⟨a, _⟩ := snoc_inj z
        rw [a, e]
        rfl
      · rw [if_neg z] at hs'
        exact O.pre q j hs'
  · have hs' : (if q = p ++ [k] then some x else S.N q) = none := hs
    by_cases y : q = p ++ [k]
    · rw [if_pos y] at hs'
      cases hs'
    · rw [if_neg y] at hs'
      exact O.out q hs'
  · have hs' : (if q ++ [j] = p ++ [k] then some x else S.N (q ++ [j])).isSome = true := hs
    by_cases z : q ++ [j] = p ++ [k]
    · rw [(snoc_inj z).2]
      exact hk
    · rw [if_neg z] at hs'
      exact O.key q j hs'
  · have hs' : (if q = p ++ [k] then some x else S.N q).isSome = true := hs
    by_cases y : q = p ++ [k]
    · rw [y, List.length_append]
      exact Nat.add_le_add_right hl 1
    · rw [if_neg y] at hs'
      exact O.deep q hs'
theorem ShOk.cut {S : Sh} (O : ShOk S) {p : List Str} {n : Nd} (e : S.N p = some n) (k : Str) : ShOk (S.cut p k) := by
  have nd : (S.R p).Nodup := (O.srt p n e).imp fun {x y} h z => by
    rw [z, ahead_self] at h
    cases h
  have away : ∀ q m, (S.cut p k).N q = some m → ¬ (p ++ [k]).isPrefixOf q = true ∧ S.N q = some m := fun q m h => by
    have h' : (if (p ++ [k]).isPrefixOf q = true then none else S.N q) = some m := h
    by_cases z : (p ++ [k]).isPrefixOf q = true
    · rw [if_pos z] at h'
      cases h'
    · rw [if_neg z] at h'
      exact ⟨z, h'⟩
  have awayS : ∀ q, ((S.cut p k).N q).isSome = true → ¬ (p ++ [k]).isPrefixOf q = true ∧ (S.N q).isSome = true := fun q h => by
    obtain ⟨m, hm⟩ := Option.isSome_iff_exists.mp h
    obtain ⟨a, b⟩ := away q m hm
    exact ⟨a, by rw [b]; rfl⟩
  refine ⟨?_, fun q m hm j => ?_, fun q m hm => ?_, fun q j hs => ?_, fun q hs => ?_, fun q j hs => O.key q j (awayS _ hs).2, fun q hs => O.deep q (awayS q hs).2⟩
  · obtain ⟨r, hr⟩ := O.root
    refine ⟨r, ?_⟩
    show (if (p ++ [k]).isPrefixOf [] = true then none else S.N []) = some r
    rw [if_neg fun z => by
      obtain ⟨r, e⟩ := pre_of z
      have := congrArg List.length e
      simp at this]
    exact hr
  · obtain ⟨h1, h2⟩ := away q m hm
    show j ∈ (if q = p then (S.R p).erase k else S.R q) ↔ (if (p ++ [k]).isPrefixOf (q ++ [j]) = true then none else S.N (q ++ [j])).isSome = true
    by_cases z : q = p
    · subst z
      rw [if_pos rfl, nd.mem_erase_iff]
      by_cases y : j = k
      · subst y
        rw [if_pos (pre_self _)]
        exact ⟨fun a => absurd rfl a.1, fun a => (nomatch a)⟩
      · rw [if_neg fun w => y (pre_snoc w h1).2.symm, ← O.row q n e j]
        exact ⟨fun a => a.2, fun a => ⟨y, a⟩⟩
    · rw [if_neg z, if_neg fun w => z (pre_snoc w h1).1.symm]
      exact O.row q m h2 j
  · obtain ⟨h1, h2⟩ := away q m hm
    show (if q = p then (S.R p).erase k else S.R q).Pairwise _
    split
    · exact (O.srt p n e).sublist List.erase_sublist
    · exact O.srt q m h2
  · obtain ⟨h1, h2⟩ := awayS _ hs
    show (if (p ++ [k]).isPrefixOf q = true then none else S.N q).isSome = true
    rw [if_neg fun w => h1 (pre_up w)]
    exact O.pre q j h2
  · have hs' : (if (p ++ [k]).isPrefixOf q = true then none else S.N q) = none := hs
    show (if (p ++ [k]).isPrefixOf q = true then none else S.W q) = none
    split
    · rfl
    · rename_i z
      rw [if_neg z] at hs'
      exact O.out q hs'
/-! ### .. and in the heap -/
theorem valV_drop (k j : Key) : ∀ kvs : List (Key × V), valV (dropK kvs k) j = if j = k then none else valV kvs j
  | [] => by
    show none = _
    split <;> rfl
  | p :: r => by
    have ih := valV_drop k j r
    unfold dropK at ih ⊢
    rw [List.filter_cons]
    by_cases h : p.1 = k
    · rw [if_neg (by simp [h]), ih]
      by_cases e : j = k
      · rw [if_pos e, if_pos e]
      · rw [if_neg e, if_neg e, valV_neg fun z => e (z.symm.trans h)]
    · rw [if_pos (by simp [h])]
      by_cases e : p.1 = j
      · rw [valV_pos e, valV_pos e, if_neg fun z => h (e.trans z)]
      · rw [valV_neg e, valV_neg e, ih]
section
variable {C : Addr} {H : Hp} {S : Sh} {m : Nat} {p : List Str} {n : Nd}
theorem TreeH.a_r (T : TreeH C H S m) {q : List Str} {n' : Nd} (e : S.N p = some n) (e' : S.N q = some n') : n.a ≠ n'.r := ne_of (T.at_ _ _ e).ins (T.at_ _ _ e').row fun z => by cases z
theorem TreeH.a_d (T : TreeH C H S m) {q : List Str} {n' : Nd} (e : S.N p = some n) (e' : S.N q = some n') : n.a ≠ n'.d := by
  obtain ⟨_, h, _⟩ := (T.at_ _ _ e').dic
  exact ne_of (T.at_ _ _ e).ins h fun z => by cases z
theorem TreeH.r_d (T : TreeH C H S m) {q : List Str} {n' : Nd} (e : S.N p = some n) (e' : S.N q = some n') : n.r ≠ n'.d := by
  obtain ⟨_, h, _⟩ := (T.at_ _ _ e').dic
  exact ne_of (T.at_ _ _ e).row h fun z => by cases z
theorem TreeH.setW (T : TreeH C H S m) (e : S.N p = some n) (v : Option Str) : TreeH C (upd H n.a (.ins C n.dx [("worth", wV v), ("row", .ref n.r), ("beneath", .ref n.d)])) (S.setW p v) m := by
  refine ⟨fun q n' e' => ?_, T.ia, T.ir, T.id⟩
  have A := T.at_ q n' e'
  obtain ⟨kvs, h1, h2, h3⟩ := A.dic
  refine ⟨?_, ?_, ⟨kvs, ?_, h2, h3⟩, A.rl⟩
  · by_cases z : q = p
    · subst z
      have en : n' = n := Option.some.inj (Eq.trans (Eq.symm e') e)
      subst en
      rw [upd_same]
      show some (HO.ins C n'.dx _) = some (HO.ins C n'.dx [("worth", wV (if q = q then v else S.W q)), ("row", .ref n'.r), ("beneath", .ref n'.d)])
      rw [if_pos rfl]
    · rw [upd_ne fun y => z (T.ia _ _ _ _ e' e y), A.ins]
      show some (HO.ins C n'.dx [("worth", wV (S.W q)), ("row", .ref n'.r), ("beneath", .ref n'.d)]) = some (HO.ins C n'.dx [("worth", wV (if q = p then v else S.W q)), ("row", .ref n'.r), ("beneath", .ref n'.d)])
      rw [if_neg z]
  · rw [upd_ne (Ne.symm (T.a_r e e'))]
    exact A.row
  · rw [upd_ne (Ne.symm (T.a_d e e'))]
    exact h1
/-- the new place: its row and its dict are empty -/
structure NewNd (C : Addr) (H0 H : Hp) (x : Nd) : Prop where
  ins : H x.a = some (.ins C x.dx [("worth", .non), ("row", .ref x.r), ("beneath", .ref x.d)])
  row : H x.r = some (.lst [])
  dic : H x.d = some (.dK [])
  na : H0 x.a = none
  nr : H0 x.r = none
  nd : H0 x.d = none
theorem TreeH.add (T : TreeH C H S m) (e : S.N p = some n) {k : Str} (O : ShOk S) (h : S.N (p ++ [k]) = none) {i : Nat} {H1 H2 : Hp} {x : Nd} {kvs : List (Key × V)} (e1 : H1 = upd H n.r (.lst (((S.R p).map V.str).take i ++ [.str k] ++ ((S.R p).map V.str).drop i))) (S2 : Sm H1 H2) (X : NewNd C H1 H2 x) (hd : H n.d = some (.dK kvs)) :
    TreeH C (upd H2 n.d (.dK (putK kvs (.inr k) (.ref x.a)))) (S.add p k i x) (m + 1) := by
  have A := T.at_ p n e
  have old : ∀ {b : Addr} {o : HO}, H b = some o → notTbl o = true → b ≠ n.r → H2 b = some o := fun {b o} hb nt ne => S2.keep b o (by rw [e1, upd_ne ne]; exact hb) nt
  have hr2 : H2 n.r = some (.lst (((S.R p).map V.str).take i ++ [.str k] ++ ((S.R p).map V.str).drop i)) := S2 _ _ (by rw [e1]; exact upd_same)
  have hd2 : H2 n.d = some (.dK kvs) := old hd rfl (Ne.symm (T.r_d e e))
  have xd : ∀ {b : Addr}, H1 b = none → b ≠ n.d := fun {b} hb z => by
    have : H1 n.d = some (.dK kvs) := by rw [e1, upd_ne (Ne.symm (T.r_d e e))]; exact hd
    rw [z, this] at hb
    cases hb
  have new1 : ∀ {b : Addr} {o : HO}, H b = some o → H1 b ≠ none := fun {b o} hb z => by
    rw [e1] at z
    by_cases y : b = n.r
    · rw [y, upd_same] at z
      cases z
    · rw [upd_ne y, hb] at z
      cases z
  have rowE : (((S.R p).map V.str).take i ++ [.str k] ++ ((S.R p).map V.str).drop i) = ((S.R p).take i ++ [k] ++ (S.R p).drop i).map V.str := by
    rw [List.map_append, List.map_append, List.map_take, List.map_drop]
    rfl
  have Nx : ∀ q n', (S.add p k i x).N q = some n' → (q = p ++ [k] ∧ n' = x) ∨ (q ≠ p ++ [k] ∧ S.N q = some n') := fun q n' hq => by
    have hq' : (if q = p ++ [k] then some x else S.N q) = some n' := hq
    by_cases y : q = p ++ [k]
    · rw [if_pos y] at hq'
      exact .inl ⟨y, (Option.some.inj hq').symm⟩
    · rw [if_neg y] at hq'
      exact .inr ⟨y, hq'⟩
  refine ⟨fun q n' e0 => ?_, fun q r n1 n2 h1 h2 z => ?_, fun q r n1 n2 h1 h2 z => ?_, fun q r n1 n2 h1 h2 z => ?_⟩
  · rcases Nx q n' e0 with ⟨rfl, rfl⟩ | ⟨y, e'⟩
    · have nil : (S.add p k i n').R (p ++ [k]) = [] := by
        show (if p ++ [k] = p then _ else if p ++ [k] = p ++ [k] then [] else _) = _
        rw [if_neg snoc_ne, if_pos rfl]
      refine ⟨?_, ?_, ⟨[], ?_, fun j => ?_, Nat.zero_le _⟩, by rw [nil]; exact Nat.zero_le _⟩
      · rw [upd_ne (xd X.na), X.ins]
        show _ = some (HO.ins C n'.dx [("worth", wV (S.W (p ++ [k]))), ("row", .ref n'.r), ("beneath", .ref n'.d)])
        rw [O.out _ h]
        rfl
      · rw [upd_ne (xd X.nr), X.row, nil]
        rfl
      · rw [upd_ne (xd X.nd)]
        exact X.dic
      · show none = ((if p ++ [k] ++ [j] = p ++ [k] then some n' else S.N (p ++ [k] ++ [j])).map fun n => V.ref n.a)
        rw [if_neg snoc_ne, O.none_up h]
        rfl
    · have B := T.at_ q n' e'
      obtain ⟨kv, g1, g2, g3⟩ := B.dic
      by_cases z : q = p
      · subst z
        have en : n' = n := Option.some.inj (Eq.trans (Eq.symm e') e)
        subst en
        have ek : kv = kvs := by
          rw [g1] at hd
          injection hd with w
          injection w
        subst ek
        have rq : (S.add q k i x).R q = (S.R q).take i ++ [k] ++ (S.R q).drop i := if_pos rfl
        refine ⟨?_, ?_, ⟨_, upd_same, fun j => ?_, ?_⟩, ?_⟩
        · rw [upd_ne (T.a_d e e)]
          exact old B.ins rfl (T.a_r e e)
        · rw [upd_ne (T.r_d e e), hr2, rq, rowE]
        · rw [valV_put]
          show _ = ((if q ++ [j] = q ++ [k] then some x else S.N (q ++ [j])).map fun n => V.ref n.a)
          by_cases w : j = k
          · rw [w, if_pos rfl, if_pos rfl]
            rfl
          · rw [if_neg fun u => w (Sum.inr.inj u), if_neg fun u => w (snoc_inj u).2]
            exact g2 j
        · exact Nat.le_trans (length_putK _ _ _) (Nat.add_le_add_right g3 1)
        · rw [rq, List.length_append, List.length_append, List.length_take, List.length_drop]
          have := B.rl
          show min i (S.R q).length + 1 + ((S.R q).length - i) ≤ m + 1
          omega
      · have rq : (S.add p k i x).R q = S.R q := by
          show (if q = p then _ else if q = p ++ [k] then [] else S.R q) = S.R q
          rw [if_neg z, if_neg y]
        refine ⟨?_, ?_, ⟨kv, ?_, fun j => ?_, Nat.le_succ_of_le g3⟩, by rw [rq]; exact Nat.le_succ_of_le B.rl⟩
        · rw [upd_ne (T.a_d e' e)]
          exact old B.ins rfl (T.a_r e' e)
        · rw [upd_ne (T.r_d e' e), rq]
          exact old B.row rfl fun w => z (T.ir _ _ _ _ e' e w)
        · rw [upd_ne fun w => z (T.id _ _ _ _ e' e w)]
          exact old g1 rfl (Ne.symm (T.r_d e e'))
        · rw [g2 j]
          show _ = ((if q ++ [j] = p ++ [k] then some x else S.N (q ++ [j])).map fun n => V.ref n.a)
          rw [if_neg fun u => z (snoc_inj u).1]
  · rcases Nx _ _ h1 with ⟨a, b⟩ | ⟨_, h1⟩ <;> rcases Nx _ _ h2 with ⟨c, d⟩ | ⟨_, h2⟩
    · rw [a, c]
    · rw [b] at z
      exact absurd (by rw [← z]; exact X.na) (new1 (T.at_ _ _ h2).ins)
    · rw [d] at z
      exact absurd (by rw [z]; exact X.na) (new1 (T.at_ _ _ h1).ins)
    · exact T.ia _ _ _ _ h1 h2 z
  · rcases Nx _ _ h1 with ⟨a, b⟩ | ⟨_, h1⟩ <;> rcases Nx _ _ h2 with ⟨c, d⟩ | ⟨_, h2⟩
    · rw [a, c]
    · rw [b] at z
      exact absurd (by rw [← z]; exact X.nr) (new1 (T.at_ _ _ h2).row)
    · rw [d] at z
      exact absurd (by rw [z]; exact X.nr) (new1 (T.at_ _ _ h1).row)
    · exact T.ir _ _ _ _ h1 h2 z
  · rcases Nx _ _ h1 with ⟨a, b⟩ | ⟨_, h1⟩ <;> rcases Nx _ _ h2 with ⟨c, d⟩ | ⟨_, h2⟩
    · rw [a, c]
    · obtain ⟨_, g, _⟩ := (T.at_ _ _ h2).dic
      rw [b] at z
      exact absurd (by rw [← z]; exact X.nd) (new1 g)
    · obtain ⟨_, g, _⟩ := (T.at_ _ _ h1).dic
      rw [d] at z
      exact absurd (by rw [z]; exact X.nd) (new1 g)
    · exact T.id _ _ _ _ h1 h2 z
theorem TreeH.cut (T : TreeH C H S m) (e : S.N p = some n) (O : ShOk S) (k : Str) {kvs : List (Key × V)} (hd : H n.d = some (.dK kvs)) :
    TreeH C (upd (upd H n.r (.lst (((S.R p).erase k).map V.str))) n.d (.dK (dropK kvs (.inr k)))) (S.cut p k) m := by
  have Nx : ∀ q n', (S.cut p k).N q = some n' → ¬ (p ++ [k]).isPrefixOf q = true ∧ S.N q = some n' := fun q n' hq => by
    have hq' : (if (p ++ [k]).isPrefixOf q = true then none else S.N q) = some n' := hq
    by_cases y : (p ++ [k]).isPrefixOf q = true
    · rw [if_pos y] at hq'
      cases hq'
    · rw [if_neg y] at hq'
      exact ⟨y, hq'⟩
  refine ⟨fun q n' e0 => ?_, fun q r n1 n2 h1 h2 z => T.ia _ _ _ _ (Nx _ _ h1).2 (Nx _ _ h2).2 z, fun q r n1 n2 h1 h2 z => T.ir _ _ _ _ (Nx _ _ h1).2 (Nx _ _ h2).2 z, fun q r n1 n2 h1 h2 z => T.id _ _ _ _ (Nx _ _ h1).2 (Nx _ _ h2).2 z⟩
  obtain ⟨y, e'⟩ := Nx q n' e0
  have B := T.at_ q n' e'
  obtain ⟨kv, g1, g2, g3⟩ := B.dic
  have fs : ndFs (S.cut p k) q n' = ndFs S q n' := by
    show ([("worth", wV (if (p ++ [k]).isPrefixOf q = true then none else S.W q)), ("row", .ref n'.r), ("beneath", .ref n'.d)] : List (Str × V)) = _
    rw [if_neg y]
    rfl
  by_cases z : q = p
  · subst z
    have en : n' = n := Option.some.inj (Eq.trans (Eq.symm e') e)
    subst en
    have ek : kv = kvs := by
      rw [g1] at hd
      injection hd with w
      injection w
    subst ek
    have rq : (S.cut q k).R q = (S.R q).erase k := if_pos rfl
    refine ⟨?_, ?_, ⟨_, upd_same, fun j => ?_, Nat.le_trans (dropK_le _ _) g3⟩, by rw [rq]; exact Nat.le_trans List.erase_sublist.length_le B.rl⟩
    · rw [upd_ne (T.a_d e e), upd_ne (T.a_r e e), fs]
      exact B.ins
    · rw [upd_ne (T.r_d e e), upd_same, rq]
    · rw [valV_drop]
      show _ = ((if (q ++ [k]).isPrefixOf (q ++ [j]) = true then none else S.N (q ++ [j])).map fun n => V.ref n.a)
      by_cases w : j = k
      · rw [w, if_pos rfl, if_pos (pre_self _)]
        rfl
      · rw [if_neg fun u => w (Sum.inr.inj u), if_neg fun u => w (pre_snoc u y).2.symm]
        exact g2 j
  · have rq : (S.cut p k).R q = S.R q := if_neg z
    refine ⟨?_, ?_, ⟨kv, ?_, fun j => ?_, g3⟩, by rw [rq]; exact B.rl⟩
    · rw [upd_ne (T.a_d e' e), upd_ne (T.a_r e' e), fs]
      exact B.ins
    · rw [upd_ne (T.r_d e' e), upd_ne fun w => z (T.ir _ _ _ _ e' e w), rq]
      exact B.row
    · rw [upd_ne fun w => z (T.id _ _ _ _ e' e w), upd_ne (Ne.symm (T.r_d e e'))]
      exact g1
    · rw [g2 j]
      show _ = ((if (p ++ [k]).isPrefixOf (q ++ [j]) = true then none else S.N (q ++ [j])).map fun n => V.ref n.a)
      rw [if_neg fun u => z (pre_snoc u y).1.symm]
end
/-! ### a built-in method, K given -/
section
variable {X : Cx}
/-- a built-in's method, K told -/
theorem pe_bmK {K : PySem.W.Frag} {T id : String} {name : Str} {apos cpos : Pos} {o e : Expr} {es : List Expr} {r : V → List V → Hp → VK → Prop} {to : TE} {t : TA} (pa : PlainAttrs T) (slot : Slot T name id) (hty : typeOf (.builtin id) = pure (.type "method_descriptor")) (hm : MtR X id r) (ho : PE X o to) (ha : PA X (e :: es) t) (hK : X.K = K := by rfl)
    (h1 : attributeBase o name X.env (eval o X.env) = eval o X.env := by rfl) (h2 : ((backTo cpos (starEach (e :: es) X.env)).all (fun x => !x.1) && (backToKw cpos (keywordEach [] X.env)).all (fun x => x.1.isSome) && decide ((e :: es).length + ([] : List Keyword).length + (if ([] : List Keyword).isEmpty then 0 else 1) < 30)) = true := by rfl) (h3 : (apos.endLine == cpos.line) = true := by rfl)
    (h4 : starEach (e :: es) X.env = (false, eval e X.env) :: starEach es X.env := by rfl) (h5 : (backTo cpos (starEach es X.env)).any (·.1) = false := by rfl) :
    PE X (.Call (.Attribute o name apos) (e :: es) [] cpos) (tBM K T r to t) := by
  subst hK
  exact pe_bm pa slot hty hm ho ha h1 h2 h3 h4 h5
end
/-! ### rules that trees ask for -/
def rDin (no : Bool) : R2 := fun x y H Q => ∃ (a : Addr) (o : Option V), y = .ref a ∧ DGet H a x o ∧ Q (.bl (no != o.isSome)) H
section
variable {X : Cx}
theorem dinK (hu : X.A.units + 64 < cLine) : OpR X (compareOp .In) (rDin false) := by
  intro pins s σ H x y v u Q I rx ry h
  obtain ⟨a, o, rfl, g, q⟩ := h
  cases ry
  refine d_in (Nat.lt_trans (Nat.add_lt_add_left (show 1 < 64 by decide) _) hu) I g rx fun s' I' => ⟨_, H, I', ?_, q⟩
  rw [Bool.false_bne]
  exact rfl
theorem dninK (hu : X.A.units + 64 < cLine) : OpR X (compareOp .NotIn) (rDin true) := by
  intro pins s σ H x y v u Q I rx ry h
  obtain ⟨a, o, rfl, g, q⟩ := h
  cases ry
  refine d_notIn (Nat.lt_trans (Nat.add_lt_add_left (show 1 < 64 by decide) _) hu) I g rx fun s' I' => ⟨_, H, I', ?_, q⟩
  cases o.isSome <;> exact rfl
def eqS (y : Str) (v : Value) : Bool := match v with
  | .str x _ => x.cps.toList == y.cps.toList
  | _ => false
theorem val_get {xs : List V} {us : List Value} {j : Nat} {x : Value} (r : Vals xs us) (h : us[j]? = some x) : ∃ y, xs[j]? = some y ∧ RelV y x := by
  cases e : xs[j]? with
  | none =>
    rw [r.none_of e] at h
    cases h
  | some y =>
    obtain ⟨u, hu, ru⟩ := r.get e
    rw [hu] at h
    cases h
    exact ⟨y, rfl, ru⟩
theorem str_at {zs : List Str} {us : List Value} (r : Vals (zs.map V.str) us) {i : Nat} (h : i < us.length) : ∃ (z : Str) (t : Tok), zs[i]? = some z ∧ us[i] = .str z t := by
  obtain ⟨v, hv, rv⟩ := val_get r (List.getElem?_eq_getElem h)
  rw [List.getElem?_map] at hv
  cases e : zs[i]? with
  | none => rw [e] at hv; cases hv
  | some z =>
    rw [e] at hv
    cases hv
    obtain ⟨t, et⟩ := rv
    exact ⟨z, t, rfl, et⟩
theorem eqS_iff {y z : Str} {t : Tok} : eqS y (.str z t) = true ↔ z = y := by
  show (z.cps.toList == y.cps.toList) = true ↔ _
  rw [beq_iff_eq]
  constructor
  · exact fun h => ext_tl h
  · rintro rfl
    rfl
theorem eraseIdx_maps {α β : Type} (f : α → β) : ∀ (l : List α) (i : Nat), (l.map f).eraseIdx i = (l.eraseIdx i).map f
  | [], _ => rfl
  | _ :: _, 0 => rfl
  | a :: l, i + 1 => by
    rw [List.map_cons, List.eraseIdx_cons_succ, List.eraseIdx_cons_succ, List.map_cons, eraseIdx_maps f l i]
/-- xs.remove(y), texts: the first such goes -/
def rRemS : V → List V → Hp → VK → Prop := fun x xs H Q => ∃ (l : Addr) (zs : List Str) (y : Str), x = .ref l ∧ xs = [.str y] ∧ H l = some (.lst (zs.map V.str)) ∧ y ∈ zs ∧ Q .non (upd H l (.lst ((zs.erase y).map V.str)))
theorem removeS : MtR X "list.remove" rRemS := by
  intro pins s σ H x xs v us Q I rx rxs h
  obtain ⟨l, zs, y, rfl, rfl, hH, hy, q⟩ := h
  cases rx
  obtain ⟨u, rfl, ru⟩ := rxs.one
  obtain ⟨t, rfl⟩ := ru
  obtain ⟨z, its, n, r, hl, e⟩ := I.lstM hH
  rw [List.length_map] at hl z
  have hj : zs.idxOf y < zs.length := List.idxOf_lt_length_iff.mpr hy
  have lz : its.length = zs.length := by rw [← r.length, List.length_map]
  have hjl : zs.idxOf y < its.toArray.size := by rw [List.size_toArray]; omega
  refine call_meets PySem.F.slot_list_remove ⟨_, e, rfl⟩ PySem.F.entry_list_remove (PySem.F.args_list_remove_2 _ _)
    (MeetsSeq.list_remove l its.toArray n (.str y t) (eqS y) (fun w hw => ?_) (zs.idxOf y) hjl ?_ ?_ (by rw [List.size_toArray]; omega)) ⟨e, ?_⟩
  · obtain ⟨i, hi, rfl⟩ := List.mem_iff_getElem.mp (show w ∈ its by simpa using hw)
    obtain ⟨z', t', _, h2⟩ := str_at r hi
    rw [h2]
    exact SeqRoads2.EqGives.str z' y t' t
  · obtain ⟨z', t', h1, h2⟩ := str_at r (i := zs.idxOf y) (by omega)
    have e1 : its.toArray[zs.idxOf y] = .str z' t' := by simpa using h2
    rw [e1]
    refine eqS_iff.mpr ?_
    rw [List.getElem?_eq_getElem hj, List.getElem_idxOf hj] at h1
    exact (Option.some.inj h1).symm
  · intro m hm hmj
    obtain ⟨z', t', h1, h2⟩ := str_at r (i := m) (by simpa using hm)
    have e1 : its.toArray[m] = .str z' t' := by simpa using h2
    rw [e1]
    cases c : eqS y (.str z' t') with
    | false => rfl
    | true =>
      have ey := eqS_iff.mp c
      subst ey
      have hmz : m < zs.length := by omega
      rw [List.getElem?_eq_getElem hmz] at h1
      have nn := List.not_of_lt_findIdx (p := (· == z')) (show m < zs.findIdx (· == z') from hmj)
      rw [Option.some.inj h1] at nn
      simp at nn
  · have rr := r.eraseIdx (zs.idxOf y)
    have em : ((zs.map V.str).eraseIdx (zs.idxOf y)) = (zs.erase y).map V.str := by
      rw [List.erase_eq_eraseIdx_of_idxOf (i := zs.idxOf y) (l := zs) (a := y) rfl, eraseIdx_maps]
    rw [em] at rr
    refine ⟨.non, _, I.lset (its' := its.eraseIdx (zs.idxOf y)) (t' := s.toks) hH e ?_ rr ?_, rfl, q⟩
    · show its.toArray.eraseIdxIfInBounds (zs.idxOf y) = (its.eraseIdx (zs.idxOf y)).toArray
      rw [List.eraseIdxIfInBounds_toArray]
    · rw [List.length_map]
      exact Nat.le_trans List.erase_sublist.length_le z
end
/-! #### the order of keys, asked by halves -/
/-- how many of a row stand ahead -/
def posOf (zs : List Str) (k : Str) : Nat := (zs.takeWhile fun z => ahead z k).length
theorem pos_le (zs : List Str) (k : Str) : posOf zs k ≤ zs.length := (List.takeWhile_prefix _).length_le
theorem pos_take (zs : List Str) (k : Str) : ∀ y ∈ zs.take (posOf zs k), ahead y k = true := by
  induction zs with
  | nil => exact fun y h => by simp at h
  | cons z r ih =>
    intro y h
    unfold posOf at h
    rw [List.takeWhile_cons] at h
    by_cases c : ahead z k = true
    · rw [if_pos c, List.length_cons, List.take_succ_cons] at h
      rcases List.mem_cons.mp h with rfl | h
      · exact c
      · exact ih y h
    · rw [if_neg c] at h
      simp at h
theorem pos_is {zs : List Str} {k : Str} {i : Nat} (hi : i ≤ zs.length) (h1 : ∀ j z, j < i → zs[j]? = some z → ahead z k = true) (h2 : ∀ z, zs[i]? = some z → ahead z k = false) : posOf zs k = i := by
  induction zs generalizing i with
  | nil =>
    have : i = 0 := by simpa using hi
    rw [this]
    rfl
  | cons z r ih =>
    unfold posOf
    rw [List.takeWhile_cons]
    cases i with
    | zero =>
      rw [if_neg (by rw [h2 z rfl]; exact Bool.false_ne_true)]
      rfl
    | succ i =>
      rw [if_pos (h1 0 z (Nat.succ_pos _) rfl), List.length_cons]
      exact congrArg (· + 1) (ih (Nat.le_of_succ_le_succ hi) (fun j w hj hw => h1 (j + 1) w (Nat.succ_lt_succ hj) (by rw [List.getElem?_cons_succ]; exact hw)) fun w hw => h2 w (by rw [List.getElem?_cons_succ]; exact hw))
theorem pos_drop {zs : List Str} (P : zs.Pairwise fun x y => ahead x y = true) {k : Str} (hk : k ∉ zs) : ∀ y ∈ zs.drop (posOf zs k), ahead k y = true := by
  induction zs with
  | nil => exact fun y h => by simp at h
  | cons z r ih =>
    obtain ⟨P1, P2⟩ := List.pairwise_cons.mp P
    intro y h
    unfold posOf at h
    rw [List.takeWhile_cons] at h
    have nz : z ≠ k := fun e => hk (by rw [e]; exact .head _)
    by_cases c : ahead z k = true
    · rw [if_pos c, List.length_cons, List.drop_succ_cons] at h
      exact ih P2 (fun m => hk (.tail _ m)) y h
    · rw [if_neg c] at h
      have kz : ahead k z = true := by
        have t := ahead_two nz
        rw [Bool.not_eq_true] at c
        rw [c, Bool.false_or] at t
        exact t
      have h' : y ∈ z :: r := h
      rcases List.mem_cons.mp h' with rfl | h'
      · exact kz
      · exact ahead_tr kz (P1 y h')
/-! ### instances that are made -/
theorem put_lt {f : Str} {y : V} {n : Nat} : ∀ {fs : List (Str × V)}, fs.length < n → (putF f y fs).length < n + 1
  | [], h => by show 1 < n + 1; simp at h; omega
  | (g, x) :: r, h => by
    unfold putF
    split
    · exact Nat.lt_succ_of_lt h
    · rw [List.length_cons]
      have := put_lt (f := f) (y := y) (n := n - 1) (fs := r) (by rw [List.length_cons] at h; omega)
      rw [List.length_cons] at h
      omega
/-- what an instance's own making leaves: all else as it was -/
def Made (p : Addr) (H H' : Hp) : Prop := ∀ H0 : Hp, H0 p = none → Sm H0 H → Sm H0 H'
theorem Made.refl (p : Addr) (H : Hp) : Made p H H := fun _ _ h => h
theorem Made.put {p : Addr} {H H1 : Hp} {o u : HO} (M : Made p H H1) (h : H1 p = some u) (nt : plainO u = true) : Made p H (upd H1 p o) := fun H0 h0 S => (M H0 h0 S).over h0 fun qs z => by
  rw [h] at z
  cases z
  exact nt
theorem Made.sm {p : Addr} {H H1 H2 : Hp} (M : Made p H H1) (S : Sm H1 H2) : Made p H H2 := fun H0 h0 S0 => (M H0 h0 S0).trans S
theorem Made.own {p d : Addr} {H Ha Hb : Hp} {o : HO} (M : Made p H Ha) (hd : Ha d = none) (S : Sm Ha Hb) (nt : ∀ qs, Hb d = some qs → plainO qs = true) : Made p H (upd Hb d o) := fun H0 h0 S0 => ((M H0 h0 S0).trans S).over ((M H0 h0 S0).free hd) nt
/-- a new instance, made -/
theorem Made.new {p dx C : Addr} {H H' : Hp} (hp : H p = none) (hd : H dx = none) (ne : dx ≠ p) (M : Made p (upd (upd H dx (.own p)) p (.ins C dx [])) H') : Sm H H' := M H hp ((Sm.new (o := .own p) hd).over hp fun qs z => by
  rw [upd_ne (Ne.symm ne), hp] at z
  cases z)
theorem paired_mem {α β : Type} {F : α → β → Prop} : ∀ {l : List α} {m : List β}, Paired F l m → ∀ a ∈ l, ∃ b, (a, b) ∈ l.zip m ∧ F a b
  | _, _, .cons h t, a, ha => by
    rcases List.mem_cons.mp ha with rfl | ha
    · exact ⟨_, .head _, h⟩
    · obtain ⟨b, h1, h2⟩ := paired_mem t a ha
      exact ⟨b, .tail _ h1, h2⟩
theorem paired_len {α β : Type} {F : α → β → Prop} : ∀ {l : List α} {m : List β}, Paired F l m → l.length = m.length
  | _, _, .nil => rfl
  | _, _, .cons _ t => congrArg (· + 1) (paired_len t)
/-! ### trees: how many stand ahead, a tree made, a place found -/
def spHow (K : PySem.W.Frag) (p : Addr) : Sp := fun vs H Q _ => ∃ (a : Addr) (zs : List Str) (k : Str), vs = [.ref a, .str k] ∧ SqL K H a (zs.map V.str) ∧ (zs.Pairwise fun x y => ahead x y = true) ∧ (∀ z ∈ zs, (tl z).length ≤ 200) ∧ (tl k).length ≤ 200 ∧ zs.length ≤ 100000 ∧ Tb H p ∧
  ∀ H', Sm H H' → Q (.int (posOf zs k : Nat)) H'
/-- a new tree: its parts are new -/
def spTree (C : Addr) : Sp := fun vs H Q _ => ∃ (p dx : Addr), vs = [.ref p] ∧ H p = some (.ins C dx []) ∧
  ∀ (r d : Addr) (H' : Hp), H r = none → H d = none → Made p H H' → H' p = some (.ins C dx [("worth", .non), ("row", .ref r), ("beneath", .ref d)]) → H' r = some (.lst []) → H' d = some (.dK []) → Q .non H'
section
variable {P : Program} {w : World} {K : PySem.W.Frag} {mg : Str → Option Value} {base : Heap} {cs : Tabs}
theorem ok_how_many (T : Txt K mg cs) (Cbefore : Cal P w K mg base 4 "before" ["one", "other"] (spBefore cs.p_is_number_text)) : Cal P w K mg base 5 "_how_many_ahead" ["row", "key"] (spHow K cs.p_is_number_text) := by
  refine T.f_how_many_ahead.cal scHowManyAhead (fun vs H Q E h => ?_) (fun f cdv A outer s H vs Q E hr h => ?_)
  · obtain ⟨a, zs, k, rfl, _⟩ := h
    rfl
  obtain ⟨a, zs, k, rfl, hS, hP, hz, hk, hl, hT, q⟩ := h
  refine ⟨_, (pss_cons (ps_set (i := 2) scHowManyAhead.nd rfl (by first | exact Or.inl rfl | exact Or.inr rfl) pe_int)
    (pss_cons (ps_set (i := 3) scHowManyAhead.nd rfl (by first | exact Or.inl rfl | exact Or.inr rfl) (pe_callB (lenQ K) rfl T.n_len (by decide +kernel) (pa_cons (pv 0) pa_nil)))
    (pss_cons (ps_while PassesOwn.never (pt_cmpR op_lt (pv 2) (pv 3) (nomark _))
      (pss_cons (ps_set (i := 4) scHowManyAhead.nd rfl (by first | exact Or.inl rfl | exact Or.inr rfl) (pe_op op_fdivW (pe_op op_add (pv 2) (pv 3)) pe_int))
        (pss_one (ps_if (pt_val (pe_cal Cbefore (hr.mono (by first | decide | omega)) (pa_cons (pe_ix (ixL K) (pv 0) (pv 4) (fun _ _ => rfl)) (pa_cons (pv 1) pa_nil)))) (pss_one (ps_set (i := 2) scHowManyAhead.nd rfl (by first | exact Or.inl rfl | exact Or.inr rfl) (pe_op op_add (pv 4) pe_int))) (pss_one (ps_set (i := 3) scHowManyAhead.nd rfl (by first | exact Or.inl rfl | exact Or.inr rfl) (pv 4)))))))
    (pss_one (ps_ret (pv 2)))))), ?_⟩
  refine run_set ?_
  refine run_set ⟨_, rfl, a, _, rfl, .inl hS, ?_⟩
  rw [List.length_map]
  dsimp only [tSeq]
  refine ⟨fun m σ' H' => ∃ (lo hi : Nat) (x : Option V), σ' = [some (.ref a), some (.str k), some (.int (lo : Int)), some (.int (hi : Int)), x] ∧ lo ≤ hi ∧ hi ≤ zs.length ∧ (∀ j z, j < lo → zs[j]? = some z → ahead z k = true) ∧ (∀ j z, hi ≤ j → zs[j]? = some z → ahead z k = false) ∧ Sm H H' ∧ m = hi - lo,
    ⟨_, 0, zs.length, none, rfl, Nat.zero_le _, Nat.le_refl _, fun j z h => absurd h (Nat.not_lt_zero _), fun j z h e => ?_, Sm.refl H, rfl⟩, ?_⟩
  · rw [List.getElem?_eq_none h] at e
    cases e
  rintro m σ' H' ⟨lo, hi, x, rfl, h1, h2, h3, h4, S, rfl⟩
  refine ⟨_, rfl, _, rfl, _, _, rfl, rfl, _, rfl, ?_⟩
  refine ite2 (fun c => ?_) (fun c => ?_)
  · have hlt : lo < hi := by have := of_decide_eq_true c; omega
    refine ⟨_, fun σ' H' h => h, ?_⟩
    refine run_set ?_
    refine ⟨_, rfl, _, rfl, _, _, rfl, rfl, _, 2, rfl, rfl, wide_div (b := 256) (by decide) (by decide) (by decide) (by decide), ?_⟩
    have em : ((lo : Int) + (hi : Int)) / 2 = (((lo + hi) / 2 : Nat) : Int) := by omega
    dsimp only
    rw [em]
    have hm1 : lo ≤ (lo + hi) / 2 := by omega
    have hm2 : (lo + hi) / 2 < hi := by omega
    generalize (lo + hi) / 2 = mid at hm1 hm2 ⊢
    have hmz : mid < zs.length := by omega
    have ez : zs[mid]? = some zs[mid] := List.getElem?_eq_getElem hmz
    refine run_ifE ⟨_, rfl, _, rfl, a, _, _, _, rfl, rfl, Sm.seq S hS, atI_nat (j := mid) (by rw [List.getElem?_map, ez]; rfl), _, rfl, _, _, rfl, ?_, Nat.le_trans hk (by decide), S.tab _ hT, fun H1 S1 => ⟨_, rfl, ?_⟩⟩
    · exact Nat.le_trans (hz _ (List.getElem_mem hmz)) (by decide)
    refine ite2 (fun c2 => ?_) (fun c2 => ?_)
    · refine ⟨_, rfl, mid, 1, rfl, rfl, hi - (mid + 1), by omega, mid + 1, hi, _, rfl, by omega, h2, fun j z hj hjz => ?_, h4, S.trans S1, rfl⟩
      rcases Nat.lt_or_ge j mid with h | h
      · have hjl : j < zs.length := by omega
        have pw := List.pairwise_iff_getElem.mp hP j mid hjl hmz h
        have ejz : zs[j] = z := by
          rw [List.getElem?_eq_getElem hjl] at hjz
          exact Option.some.inj hjz
        rw [ejz] at pw
        exact ahead_tr pw c2
      · have : j = mid := by omega
        subst this
        rw [ez] at hjz
        rw [← Option.some.inj hjz]
        exact c2
    · refine ⟨_, rfl, mid - lo, by omega, lo, mid, _, rfl, hm1, by omega, h3, fun j z hj hjz => ?_, S.trans S1, rfl⟩
      rcases Nat.lt_or_ge mid j with h | h
      · cases g : ahead z k with
        | false => rfl
        | true =>
          have hjl : j < zs.length := (List.getElem?_eq_some_iff.mp hjz).1
          have pw := List.pairwise_iff_getElem.mp hP mid j hmz hjl h
          have ejz : zs[j] = z := by
            rw [List.getElem?_eq_getElem hjl] at hjz
            exact Option.some.inj hjz
          rw [ejz] at pw
          exact absurd (ahead_tr pw g) c2
      · have : j = mid := by omega
        subst this
        rw [ez] at hjz
        rw [← Option.some.inj hjz]
        exact Bool.not_eq_true _ ▸ c2
  · have e : lo = hi := by
      have : ¬ ((lo : Int) < (hi : Int)) := fun z => c (decide_eq_true z)
      omega
    subst e
    dsimp only
    refine run_ret ?_
    refine ⟨_, rfl, ?_⟩
    have ep : posOf zs k = lo := pos_is h2 h3 fun z hz => h4 lo z (Nat.le_refl _) hz
    rw [← ep]
    exact q H' S
theorem ok_tree (T : Txt K mg cs) : CalC P w K mg base 1 "Tree" cs.a_Tree ["self"] [] (spTree cs.a_Tree) := by
  refine T.f_Tree___init__.cal scTreeInit (fun vs H Q E h => ?_) (fun f cdv A outer s H vs Q E hr h => ?_)
  · obtain ⟨p, dx, rfl, _⟩ := h
    rfl
  obtain ⟨p, dx, rfl, hp, q⟩ := h
  refine ⟨_, (pss_cons (ps_fld (pv 0) pe_non rfl)
    (pss_cons (ps_fld (pv 0) (pe_lst pa_nil) rfl)
    (pss_one (ps_fld (pv 0) pe_dnewK rfl)))), ?_⟩
  refine ⟨_, rfl, p, _, dx, _, rfl, hp, T.cl_Tree, T.no_Tree_worth, (by decide), ?_⟩
  refine ⟨(by decide), fun l hl => ⟨_, rfl, p, _, dx, _, rfl, by rw [upd_ne (ne_of_none upd_same hl)]; exact upd_same, T.cl_Tree, T.no_Tree_row, put_lt (by decide), ?_⟩⟩
  refine fun d hd => ⟨_, rfl, p, _, dx, _, rfl, by rw [upd_ne (ne_of_none upd_same hd)]; exact upd_same, T.cl_Tree, T.no_Tree_beneath, put_lt (put_lt (by decide)), ?_⟩
  have M := ((((Made.refl p H).put (o := .ins cs.a_Tree dx (putF "worth" .non [])) hp rfl).sm (Sm.new (o := .lst []) hl)).put (o := .ins cs.a_Tree dx (putF "row" (.ref l) (putF "worth" .non []))) (by rw [upd_ne (ne_of_none upd_same hl)]; exact upd_same) rfl).sm (Sm.new (o := .dK []) hd) |>.put (o := .ins cs.a_Tree dx (putF "beneath" (.ref d) (putF "row" (.ref l) (putF "worth" .non [])))) (by rw [upd_ne (ne_of_none upd_same hd)]; exact upd_same) rfl
  have pl : p ≠ l := ne_of_none upd_same hl
  have pd : p ≠ d := ne_of_none upd_same hd
  have ld : l ≠ d := fun z => by
    rw [z] at pl
    rw [← z, upd_ne (Ne.symm (by rw [← z] at pd; exact pd)), upd_same] at hd
    cases hd
  refine q l d _ ?_ ?_ M upd_same ?_ ?_
  · rw [upd_ne (Ne.symm pl)] at hl
    exact hl
  · rw [upd_ne (Ne.symm pd), upd_ne (Ne.symm ld), upd_ne (Ne.symm pd)] at hd
    exact hd
  · rw [upd_ne (Ne.symm pl), upd_ne ld, upd_ne (Ne.symm pl)]
    exact upd_same
  · rw [upd_ne (Ne.symm pd)]
    exact upd_same
/-! #### at -/
def spAt (K : PySem.W.Frag) (C : Addr) : Sp := fun vs H Q _ => ∃ (S : Sh) (m : Nat) (n : Nd) (pt : Addr) (ks : List Str), vs = [.ref n.a, .ref pt] ∧ TreeH C H S m ∧ ShOk S ∧ S.N [] = some n ∧ SqT K H pt (ks.map V.str) ∧ ks.length ≤ 1000 ∧ Q (match S.N ks with | some x => .ref x.a | none => .non) H
theorem ok_at (T : Txt K mg cs) : CalM P w K mg base 1 cs.a_Tree "at" ["self", "path"] (spAt K cs.a_Tree) := by
  refine T.f_Tree_at.cal scTreeAt (fun vs H Q E h => ?_) (fun f cdv A outer s H vs Q E hr h => ?_)
  · obtain ⟨_, _, _, _, _, rfl, _⟩ := h
    rfl
  obtain ⟨S, m, n, pt, ks, rfl, TH, O, hn, hp, hl, q⟩ := h
  refine ⟨_, (pss_cons (ps_set (i := 2) scTreeAt.nd rfl (by first | exact Or.inl rfl | exact Or.inr rfl) (pv 0))
    (pss_cons (ps_for PassesOwn.never rfl (pi_tup (pv 1)) (pg_name (i := 3) scTreeAt.nd rfl (by first | exact Or.inl rfl | exact Or.inr rfl))
      (pss_cons (ps_if (pt_cmpR (dninK hr.units) (pv 3) (pe_fldK (K := K) (pv 2)) rfl) (pss_one (ps_ret pe_non)) pss_nil)
        (pss_one (ps_set (i := 2) scTreeAt.nd rfl (by first | exact Or.inl rfl | exact Or.inr rfl) (pe_dget (Nat.lt_trans (Nat.add_lt_add_left (show 1 < 64 by decide) _) hr.units) (pe_fldK (K := K) (pv 2)) (pv 3) (fun _ _ => rfl))))))
    (pss_one (ps_ret (pv 2))))), ?_⟩
  refine run_set ⟨_, rfl, ?_⟩
  refine run_for ?_
  refine ⟨_, rfl, pt, rfl, ⟨_, hp⟩, for_it (walk_tup (K := K) (a := pt) (xs := ks.map V.str)) (fun i σ H' => H' = H ∧ ∃ (x : Nd) (y : Option V), S.N (ks.take i) = some x ∧ σ = [some (.ref n.a), some (.ref pt), some (.ref x.a), y]) ⟨rfl, n, none, hn, rfl⟩ (fun i σ H' _ h => by rw [h.1]; exact hp) (fun i v σ H' H'' hi h y => ?_) (fun σ H' h => ?_)⟩
  · obtain ⟨rfl, x, u, hx, rfl⟩ := h
    obtain ⟨rfl, hv⟩ := y
    rw [List.length_map] at hi
    rw [List.getElem?_map, List.getElem?_eq_getElem hi] at hv
    cases hv
    have tk : ks.take (i + 1) = ks.take i ++ [ks[i]] := by rw [List.take_succ_eq_append_getElem hi]
    have A := TH.at_ _ _ hx
    obtain ⟨kvs, h1, h2, _⟩ := A.dic
    have g := DGet.k (k := Sum.inr ks[i]) h1
    rw [show valV kvs (Sum.inr ks[i]) = _ from h2 ks[i], ← tk] at g
    refine run_if ⟨_, rfl, _, rfl, x.a, _, _, _, _, rfl, A.ins, T.cl_Tree, T.no_Tree_beneath, rfl, x.d, _, rfl, g, _, rfl, ?_⟩
    cases e : S.N (ks.take (i + 1)) with
    | none =>
      show if (true != ((none : Option Nd).map fun n => V.ref n.a).isSome) = true then _ else _
      refine iteT ?_
      have en : S.N ks = none := by
        cases e2 : S.N ks with
        | none => rfl
        | some z =>
          have := O.up (ks.drop (i + 1)) (ks.take (i + 1)) (by rw [List.take_append_drop, e2]; rfl)
          rw [e] at this
          cases this
      rw [en] at q
      exact q
    | some z =>
      show if (true != ((some z).map fun n => V.ref n.a).isSome) = true then _ else _
      refine iteF ?_
      rw [e] at g
      exact ⟨_, rfl, x.a, _, _, _, _, rfl, A.ins, T.cl_Tree, T.no_Tree_beneath, rfl, _, rfl, x.d, _, rfl, g, rfl, z, _, rfl, rfl⟩
  · obtain ⟨rfl, x, u, hx, rfl⟩ := h
    rw [List.length_map, List.take_length] at hx
    rw [hx] at q
    dsimp only
    refine run_ret ?_
    exact ⟨_, rfl, q⟩
end
/-! ### trees: a place made, a worth planted -/
structure Grown (S S' : Sh) (ks : List Str) : Prop where
  W : S'.W = S.W
  old : ∀ q n, S.N q = some n → S'.N q = some n
  new : ∀ q, (S'.N q).isSome = true → (S.N q).isSome = true ∨ q.isPrefixOf ks = true
  row : ∀ q, (S.N q).isSome = true → S.R q ≠ [] → S'.R q ≠ []
theorem Grown.refl (S : Sh) (ks : List Str) : Grown S S ks := ⟨rfl, fun _ _ h => h, fun _ h => .inl h, fun _ _ h => h⟩
theorem Grown.add {S S' : Sh} {p : List Str} (G : Grown S S' p) {n : Nd} (e : S'.N p = some n) {k : Str} (h : S'.N (p ++ [k]) = none) (i : Nat) (x : Nd) : Grown S (S'.add p k i x) (p ++ [k]) := by
  refine ⟨G.W, fun q u hq => ?_, fun q hq => ?_, fun q hq hr => ?_⟩
  · show (if q = p ++ [k] then some x else S'.N q) = some u
    have o := G.old q u hq
    rw [if_neg fun z => by rw [z, h] at o; cases o]
    exact o
  · have hq' : (if q = p ++ [k] then some x else S'.N q).isSome = true := hq
    by_cases z : q = p ++ [k]
    · exact .inr (by rw [z]; exact pre_self _)
    · rw [if_neg z] at hq'
      rcases G.new q hq' with a | a
      · exact .inl a
      · exact .inr (by
          obtain ⟨r, e⟩ := pre_of a
          rw [e, List.append_assoc]
          exact pre_app _ _)
  · show (if q = p then (S'.R p).take i ++ [k] ++ (S'.R p).drop i else if q = p ++ [k] then [] else S'.R q) ≠ []
    by_cases z : q = p
    · rw [if_pos z]
      simp
    · rw [if_neg z]
      by_cases y : q = p ++ [k]
      · obtain ⟨u, hu⟩ := Option.isSome_iff_exists.mp hq
        have o := G.old q u hu
        rw [y, h] at o
        cases o
      · rw [if_neg y]
        exact G.row q hq hr
theorem Grown.longer {S S' : Sh} {p r : List Str} (G : Grown S S' p) : Grown S S' (p ++ r) := ⟨G.W, G.old, fun q h => (G.new q h).imp id fun a => by
  obtain ⟨t, e⟩ := pre_of a
  rw [e, List.append_assoc]
  exact pre_app _ _, G.row⟩
/-- how a tree's heap went on: what is not its own stays, what is new was free -/
structure Went (S S' : Sh) (H H' : Hp) : Prop where
  ch : Ch (Own S) H H'
  own : ∀ a, Own S' a → Own S a ∨ H a = none
theorem Went.refl (S : Sh) (H : Hp) : Went S S H H := ⟨Ch.refl H, fun _ h => .inl h⟩
theorem Went.trans {S S1 S2 : Sh} {H H1 H2 : Hp} (x : Went S S1 H H1) (y : Went S1 S2 H1 H2) : Went S S2 H H2 := ⟨x.ch.trans' y.ch x.own, fun a h => (y.own a h).elim (x.own a) fun e => .inr (x.ch.gone a e)⟩
theorem Went.sm {S : Sh} {H H' : Hp} (s : Sm H H') : Went S S H H' := ⟨Ch.sm s, fun _ h => .inl h⟩
theorem Own.add {S : Sh} {p : List Str} {k : Str} {i : Nat} {x : Nd} {a : Addr} (h : Own (S.add p k i x) a) : Own S a ∨ a = x.a ∨ a = x.r ∨ a = x.d := by
  obtain ⟨q, n, e, h⟩ := h
  have e' : (if q = p ++ [k] then some x else S.N q) = some n := e
  by_cases z : q = p ++ [k]
  · rw [if_pos z] at e'
    cases e'
    exact .inr h
  · rw [if_neg z] at e'
    exact .inl ⟨q, n, e', h⟩
def spMade (K : PySem.W.Frag) (C p : Addr) : Sp := fun vs H Q _ => ∃ (S : Sh) (m : Nat) (n : Nd) (pt : Addr) (ks : List Str), vs = [.ref n.a, .ref pt] ∧ TreeH C H S m ∧ ShOk S ∧ S.N [] = some n ∧ SqT K H pt (ks.map V.str) ∧ ks.length ≤ 7 ∧ (∀ k ∈ ks, (tl k).length ≤ 200) ∧ m ≤ 90000 ∧ Tb H p ∧
  ∀ (S' : Sh) (x : Nd) (H' : Hp), Grown S S' ks → TreeH C H' S' (m + ks.length) → ShOk S' → S'.N ks = some x → Went S S' H H' → Q (.ref x.a) H'
section
variable {P : Program} {w : World} {K : PySem.W.Frag} {mg : Str → Option Value} {base : Heap} {cs : Tabs}
theorem sqT_ch {K : PySem.W.Frag} {C : Addr} {H H' : Hp} {S : Sh} {m : Nat} (T : TreeH C H S m) (c : Ch (Own S) H H') {a : Addr} {xs : List V} (h : SqT K H a xs) : SqT K H' a xs := by
  have no : ∀ {u : HO}, (∃ vs, u = .tup vs) ∨ (∃ o v, u = .frz o v) → H a = some u → ¬ Own S a := fun {u} hu e z => by
    obtain ⟨p, n, en, h⟩ := z
    have A := T.at_ p n en
    obtain ⟨kvs, h3, _⟩ := A.dic
    rcases hu with ⟨vs, rfl⟩ | ⟨o, v, rfl⟩ <;> rcases h with rfl | rfl | rfl
    · rw [A.ins] at e; cases e
    · rw [A.row] at e; cases e
    · rw [h3] at e; cases e
    · rw [A.ins] at e; cases e
    · rw [A.row] at e; cases e
    · rw [h3] at e; cases e
  rcases h with (h | ⟨o, h⟩) | h
  · exact .inl (.inl (c.keep (no (.inl ⟨_, rfl⟩) h) h))
  · exact .inl (.inr ⟨o, c.keep (no (.inr ⟨_, _, rfl⟩) h) h⟩)
  · exact .inr h
theorem row_len {S : Sh} (O : ShOk S) {p : List Str} {n : Nd} (e : S.N p = some n) : ∀ z ∈ S.R p, (tl z).length ≤ 200 := fun z hz => O.key p z ((O.row p n e z).mp hz)
theorem ok_made (T : Txt K mg cs) (C_how_many_ahead : Cal P w K mg base 5 "_how_many_ahead" ["row", "key"] (spHow K cs.p_is_number_text)) (CTree : CalC P w K mg base 1 "Tree" cs.a_Tree ["self"] [] (spTree cs.a_Tree)) : CalM P w K mg base 6 cs.a_Tree "_made" ["self", "path"] (spMade K cs.a_Tree cs.p_is_number_text) := by
  refine T.f_Tree__made.cal scTreeMade (fun vs H Q E h => ?_) (fun f cdv A outer s H vs Q E hr h => ?_)
  · obtain ⟨_, _, _, _, _, rfl, _⟩ := h
    rfl
  obtain ⟨S, m, n, pt, ks, rfl, TH, O, hn, hp, hl, hk, hm, hT, q⟩ := h
  refine ⟨_, (pss_cons (ps_set (i := 2) scTreeMade.nd rfl (by first | exact Or.inl rfl | exact Or.inr rfl) (pv 0))
    (pss_cons (ps_for PassesOwn.never rfl (pi_tup (pv 1)) (pg_name (i := 3) scTreeMade.nd rfl (by first | exact Or.inl rfl | exact Or.inr rfl))
      (pss_cons (ps_if (pt_cmpR (dninK hr.units) (pv 3) (pe_fldK (K := K) (pv 2)) rfl) (pss_cons (ps_expr (pe_bmK (K := K) PySem.F.plainAttrs_list PySem.F.slot_list_insert PySem.F.type_list_insert mt_insert (pe_fldK (K := K) (pv 2)) (pa_cons (pe_cal C_how_many_ahead (hr.mono (by first | decide | omega)) (pa_cons (pe_fldK (K := K) (pv 2)) (pa_cons (pv 3) pa_nil))) (pa_cons (pv 3) pa_nil))))
            (pss_one (ps_dput (Nat.lt_trans (Nat.add_lt_add_left (show 1 < 64 by decide) _) hr.units) (pe_fldK (K := K) (pv 2)) (pv 3) (pe_calC0 CTree (hr.mono (by first | decide | omega))) rfl))) pss_nil)
        (pss_one (ps_set (i := 2) scTreeMade.nd rfl (by first | exact Or.inl rfl | exact Or.inr rfl) (pe_dget (Nat.lt_trans (Nat.add_lt_add_left (show 1 < 64 by decide) _) hr.units) (pe_fldK (K := K) (pv 2)) (pv 3) (fun _ _ => rfl))))))
    (pss_one (ps_ret (pv 2))))), ?_⟩
  refine run_set ⟨_, rfl, ?_⟩
  refine run_for ?_
  refine ⟨_, rfl, pt, rfl, ⟨_, hp⟩, for_it (walk_tup (K := K) (a := pt) (xs := ks.map V.str)) (fun i σ H' => ∃ (S' : Sh) (x : Nd) (y : Option V), Grown S S' (ks.take i) ∧ TreeH cs.a_Tree H' S' (m + i) ∧ ShOk S' ∧ S'.N (ks.take i) = some x ∧ Went S S' H H' ∧ σ = [some (.ref n.a), some (.ref pt), some (.ref x.a), y])
    ⟨S, n, none, Grown.refl _ _, TH, O, hn, Went.refl _ _, rfl⟩ (fun i σ H' _ h => ?_) (fun i v σ H' H'' hi h y => ?_) (fun σ H' h => ?_)⟩
  · obtain ⟨_, _, _, _, _, _, _, g, _⟩ := h
    exact sqT_ch TH g.ch hp
  · obtain ⟨S1, x, u, G1, T1, O1, hx, W1, rfl⟩ := h
    obtain ⟨rfl, hv⟩ := y
    rw [List.length_map] at hi
    rw [List.getElem?_map, List.getElem?_eq_getElem hi] at hv
    cases hv
    have tk : ks.take (i + 1) = ks.take i ++ [ks[i]] := by rw [List.take_succ_eq_append_getElem hi]
    have A1 := T1.at_ _ _ hx
    obtain ⟨kvs, h1, h2, h3⟩ := A1.dic
    have g := DGet.k (k := Sum.inr ks[i]) h1
    have hki := hk _ (List.getElem_mem hi)
    rw [show valV kvs (Sum.inr ks[i]) = _ from h2 ks[i], ← tk] at g
    refine run_if ⟨_, rfl, _, rfl, x.a, _, _, _, _, rfl, A1.ins, T.cl_Tree, T.no_Tree_beneath, rfl, x.d, _, rfl, g, _, rfl, ?_⟩
    cases e : S1.N (ks.take (i + 1)) with
    | none =>
      show if (true != ((none : Option Nd).map fun n => V.ref n.a).isSome) = true then _ else _
      refine iteT ?_
      dsimp only [tSeq, tDrop]
      refine ⟨_, rfl, x.a, _, _, _, _, rfl, A1.ins, T.cl_Tree, T.no_Tree_row, rfl, .inl ⟨rfl, _, SqL.of A1.row⟩, ?_⟩
      have len : i ≤ 6 := by omega
      refine ⟨_, rfl, x.a, _, _, _, _, rfl, A1.ins, T.cl_Tree, T.no_Tree_row, rfl, _, rfl, x.r, S1.R (ks.take i), ks[i], rfl, SqL.of A1.row, O1.srt _ _ hx, row_len O1 hx, hki, Nat.le_trans A1.rl (by omega), W1.ch.tab _ hT, fun H1 Sa => ?_⟩
      have A1a := (T1.sm Sa).at_ _ _ hx
      refine ⟨_, rfl, x.r, _, _, _, rfl, rfl, A1a.row, ?_, by omega, ?_, ?_⟩
      · rw [List.length_map]
        exact small' (Nat.lt_of_le_of_lt A1.rl (by omega))
      · have := pos_le (S1.R (ks.take i)) ks[i]
        have := A1.rl
        omega
      have en : ((posOf (S1.R (ks.take i)) ks[i] : Nat) : Int).toNat = posOf (S1.R (ks.take i)) ks[i] := Int.toNat_natCast _
      rw [en]
      intro x2 dx hx2 hdx ne
      refine ⟨x2, dx, rfl, upd_same, fun r d H2 hr2 hd2 M2 i2 r2 d2 => ⟨rfl, ?_⟩⟩
      have TS := T1.sm Sa
      have S2 := Made.new hx2 hdx ne M2
      have free : ∀ {b : Addr}, upd (upd (upd H1 x.r (.lst (((S1.R (ks.take i)).map V.str).take (posOf (S1.R (ks.take i)) ks[i]) ++ [.str ks[i]] ++ ((S1.R (ks.take i)).map V.str).drop (posOf (S1.R (ks.take i)) ks[i])))) dx (.own x2)) x2 (.ins cs.a_Tree dx []) b = none → upd H1 x.r (.lst (((S1.R (ks.take i)).map V.str).take (posOf (S1.R (ks.take i)) ks[i]) ++ [.str ks[i]] ++ ((S1.R (ks.take i)).map V.str).drop (posOf (S1.R (ks.take i)) ks[i]))) b = none := fun {b} hb => by
        by_cases e1 : b = x2
        · rw [e1, upd_same] at hb
          cases hb
        · rw [upd_ne e1] at hb
          by_cases e2 : b = dx
          · rw [e2, upd_same] at hb
            cases hb
          · rw [upd_ne e2] at hb
            exact hb
      have hr3 := free hr2
      have hd3 := free hd2
      have ex : H2 x.a = some (.ins cs.a_Tree x.dx (ndFs S1 (ks.take i) x)) := S2 _ _ (by rw [upd_ne (TS.a_r hx hx)]; exact A1a.ins)
      have exd : H2 x.d = some (.dK kvs) := S2 _ _ (by rw [upd_ne (Ne.symm (TS.r_d hx hx))]; exact Sa _ _ h1)
      have X : NewNd cs.a_Tree _ H2 ⟨x2, dx, r, d⟩ := ⟨i2, r2, d2, hx2, hr3, hd3⟩
      rw [tk] at e
      have TA := TS.add hx O1 e rfl S2 X (Sa _ _ h1)
      have OA := O1.add hx e (by rw [List.length_take]; omega) hki ⟨x2, dx, r, d⟩ (pos_take (S1.R (ks.take i)) ks[i]) (pos_drop (O1.srt _ _ hx) fun z => by
        have := (O1.row _ _ hx _).mp z
        rw [e] at this
        cases this)
      have GA := G1.add hx e (posOf (S1.R (ks.take i)) ks[i]) ⟨x2, dx, r, d⟩
      refine ⟨_, rfl, x.a, _, _, _, _, rfl, ex, T.cl_Tree, T.no_Tree_beneath, rfl, _, rfl, x.d, _, rfl, DPut.k (k := Sum.inr ks[i]) exd (small' (Nat.lt_of_le_of_lt h3 (by omega))), ?_⟩
      generalize hHe : upd H2 x.d (.dK (putK kvs (.inr ks[i]) (.ref x2))) = He at TA ⊢
      have AA := TA.at_ _ _ (show (S1.add (ks.take i) ks[i] (posOf (S1.R (ks.take i)) ks[i]) ⟨x2, dx, r, d⟩).N (ks.take i) = some x from by
        show (if ks.take i = ks.take i ++ [ks[i]] then _ else _) = _
        rw [if_neg (Ne.symm snoc_ne)]
        exact hx)
      obtain ⟨kv2, g1, g2, _⟩ := AA.dic
      have gg := DGet.k (k := Sum.inr ks[i]) g1
      have nk : (S1.add (ks.take i) ks[i] (posOf (S1.R (ks.take i)) ks[i]) ⟨x2, dx, r, d⟩).N (ks.take i ++ [ks[i]]) = some ⟨x2, dx, r, d⟩ := if_pos rfl
      rw [show valV kv2 (Sum.inr ks[i]) = _ from g2 ks[i], nk] at gg
      refine ⟨_, rfl, x.a, _, _, _, _, rfl, AA.ins, T.cl_Tree, T.no_Tree_beneath, rfl, _, rfl, x.d, _, rfl, gg, _, _, _, by rw [tk]; exact GA, TA, OA, by rw [tk]; exact nk, ?_, rfl⟩
      refine W1.trans ⟨?_, fun a ha => ?_⟩
      · refine (Ch.sm Sa).trans ((Ch.upd (own_r hx) A1a.row rfl).trans ((Ch.sm S2).trans ?_))
        rw [← hHe]
        exact Ch.upd (own_d hx) exd rfl
      · rcases Own.add ha with h | rfl | rfl | rfl
        · exact .inl h
        · refine .inr (Sa.gone _ ?_)
          rw [upd_ne fun z => by rw [z, upd_same] at hx2; cases hx2] at hx2
          exact hx2
        · refine .inr (Sa.gone _ ?_)
          rw [upd_ne fun z => by rw [z, upd_same] at hr3; cases hr3] at hr3
          exact hr3
        · refine .inr (Sa.gone _ ?_)
          rw [upd_ne fun z => by rw [z, upd_same] at hd3; cases hd3] at hd3
          exact hd3
    | some z =>
      show if (true != ((some z).map fun n => V.ref n.a).isSome) = true then _ else _
      refine iteF ?_
      rw [e] at g
      refine ⟨_, rfl, x.a, _, _, _, _, rfl, A1.ins, T.cl_Tree, T.no_Tree_beneath, rfl, _, rfl, x.d, _, rfl, g, S1, z, _, ?_, T1.mono (by omega), O1, e, W1, rfl⟩
      rw [tk]
      exact G1.longer
  · obtain ⟨S1, x, u, G1, T1, O1, hx, W1, rfl⟩ := h
    rw [List.length_map] at T1
    rw [List.length_map, List.take_length] at hx G1
    dsimp only
    refine run_ret ?_
    exact ⟨_, rfl, q S1 x H' G1 T1 O1 hx W1⟩
end
/-! ### trees: a worth planted, a place cut away -/
def spPlant (K : PySem.W.Frag) (C p : Addr) : Sp := fun vs H Q _ => ∃ (S : Sh) (m : Nat) (n : Nd) (pt : Addr) (ks : List Str) (z : Str), vs = [.ref n.a, .ref pt, .str z] ∧ TreeH C H S m ∧ ShOk S ∧ Full S ∧ S.N [] = some n ∧ SqT K H pt (ks.map V.str) ∧ ks.length ≤ 7 ∧ (∀ k ∈ ks, (tl k).length ≤ 200) ∧ m ≤ 90000 ∧ Tb H p ∧
  ∀ (S' : Sh) (H' : Hp), (∀ q, S'.W q = if q = ks then some z else S.W q) → TreeH C H' S' (m + ks.length) → ShOk S' → Full S' → S'.N [] = some n → Went S S' H H' → Q .non H'
theorem Grown.full {S S' : Sh} {ks : List Str} (G : Grown S S' ks) (F : Full S) (O' : ShOk S') {x : Nd} (hx : S'.N ks = some x) (z : Str) : Full (S'.setW ks (some z)) := by
  intro p k h
  have h' : (S'.N (p ++ [k])).isSome = true := h
  show (if p ++ [k] = ks then some z else S'.W (p ++ [k])) ≠ none ∨ S'.R (p ++ [k]) ≠ []
  by_cases e : p ++ [k] = ks
  · rw [if_pos e]
    exact .inl fun z => by cases z
  · rw [if_neg e]
    rcases G.new _ h' with o | o
    · rw [G.W]
      exact (F p k o).imp id (G.row _ o)
    · obtain ⟨r, er⟩ := pre_of o
      cases r with
      | nil =>
        rw [List.append_nil] at er
        exact absurd er.symm e
      | cons j r =>
        obtain ⟨y, hy⟩ := Option.isSome_iff_exists.mp h'
        refine .inr fun z => ?_
        have up := O'.up r (p ++ [k] ++ [j]) (by
          rw [List.append_assoc (p ++ [k]), List.singleton_append, ← er, hx]
          rfl)
        have := (O'.row _ _ hy j).mpr up
        rw [z] at this
        cases this
section
variable {P : Program} {w : World} {K : PySem.W.Frag} {mg : Str → Option Value} {base : Heap} {cs : Tabs}
theorem ok_plant (T : Txt K mg cs) (CTree__made : CalM P w K mg base 6 cs.a_Tree "_made" ["self", "path"] (spMade K cs.a_Tree cs.p_is_number_text)) : CalM P w K mg base 7 cs.a_Tree "plant" ["self", "path", "worth"] (spPlant K cs.a_Tree cs.p_is_number_text) := by
  refine T.f_Tree_plant.cal scTreePlant (fun vs H Q E h => ?_) (fun f cdv A outer s H vs Q E hr h => ?_)
  · obtain ⟨_, _, _, _, _, _, rfl, _⟩ := h
    rfl
  obtain ⟨S, m, n, pt, ks, z, rfl, TH, O, F, hn, hp, hl, hk, hm, hT, q⟩ := h
  refine ⟨_, (pss_cons (ps_set (i := 3) scTreePlant.nd rfl (by first | exact Or.inl rfl | exact Or.inr rfl) (pe_calM CTree__made T.cl_Tree (hr.mono (by first | decide | omega)) (pv 0) (pa_cons (pv 1) pa_nil)))
    (pss_one (ps_fld (pv 3) (pv 2) rfl))), ?_⟩
  have A := TH.at_ _ _ hn
  refine run_set ⟨_, rfl, n.a, n.dx, _, rfl, A.ins, rfl, _, rfl, S, m, n, pt, ks, rfl, TH, O, hn, hp, hl, hk, hm, hT, fun S' x H' G T' O' hx W => ?_⟩
  have A' := T'.at_ _ _ hx
  refine ⟨_, rfl, _, rfl, x.a, _, _, _, rfl, A'.ins, T.cl_Tree, T.no_Tree_worth, (by show 3 < 1000; decide), ?_⟩
  have e : putF "worth" (V.str z) (ndFs S' ks x) = ([("worth", wV (some z)), ("row", .ref x.r), ("beneath", .ref x.d)] : List (Str × V)) := by
    show (if ("worth" : Str) = "worth" then _ else _) = _
    rw [if_pos rfl]
    rfl
  rw [e]
  refine q (S'.setW ks (some z)) _ (fun q => ?_) (T'.setW hx (some z)) (O'.setW hx _) (G.full F O' hx z) (G.old _ _ hn) (W.trans ⟨Ch.upd (own_a hx) A'.ins rfl, fun a h => .inl h⟩)
  show (if q = ks then some z else S'.W q) = _
  rw [G.W]
/-! #### cut -/
def spCut (K : PySem.W.Frag) (C : Addr) : Sp := fun vs H Q _ => ∃ (S : Sh) (m : Nat) (n : Nd) (pt : Addr) (ks : List Str), vs = [.ref n.a, .ref pt] ∧ TreeH C H S m ∧ ShOk S ∧ Full S ∧ S.N [] = some n ∧ SqT K H pt (ks.map V.str) ∧ ks ≠ [] ∧ ks.length ≤ 1000 ∧ m ≤ 90000 ∧ (S.N ks).isSome = true ∧
  ∀ (S' : Sh) (H' : Hp), (∀ q, S'.W q = if ks.isPrefixOf q = true then none else S.W q) → TreeH C H' S' m → ShOk S' → Full S' → S'.N [] = some n → Went S S' H H' → (∀ r x, S.N (ks ++ r) = some x → NdAt C H' S m (ks ++ r) x) → (∀ q x, S'.N q = some x → S.N q = some x) → Q .non H'
/-- what stands between the turns: the place at ks.take j is the next to go -/
structure CutI (C : Addr) (H0 : Hp) (S : Sh) (m : Nat) (n : Nd) (ks : List Str) (j : Nat) (S' : Sh) (H' : Hp) : Prop where
  th : TreeH C H' S' m
  ok : ShOk S'
  top : S'.N [] = some n
  went : Went S S' H0 H'
  sub : ∀ q x, S'.N q = some x → S.N q = some x
  gone : ∀ r x, S.N (ks ++ r) = some x → NdAt C H' S m (ks ++ r) x
  there : (S'.N (ks.take j)).isSome = true
  full : ∀ p k, (S'.N (p ++ [k])).isSome = true → (j < ks.length → p ++ [k] ≠ ks.take j) → S'.W (p ++ [k]) ≠ none ∨ S'.R (p ++ [k]) ≠ []
  W : j < ks.length → ∀ q, S'.W q = if ks.isPrefixOf q = true then none else S.W q
  bare : j < ks.length → S'.W (ks.take j) = none ∧ S'.R (ks.take j) = []
  start : j = ks.length → S' = S
theorem Went.cut {S S' : Sh} {H H' : Hp} {p : List Str} {k : Str} (c : Ch (Own S) H H') (i : ∀ q x, (S'.cut p k).N q = some x → S.N q = some x) : Went S (S'.cut p k) H H' := ⟨c, fun a h => by
  obtain ⟨q, x, e, h⟩ := h
  exact .inl ⟨q, x, i q x e, h⟩⟩
theorem cut_sub {S : Sh} {p : List Str} {k : Str} {q : List Str} {x : Nd} (h : (S.cut p k).N q = some x) : S.N q = some x ∧ ¬ (p ++ [k]).isPrefixOf q = true := by
  have h' : (if (p ++ [k]).isPrefixOf q = true then none else S.N q) = some x := h
  by_cases z : (p ++ [k]).isPrefixOf q = true
  · rw [if_pos z] at h'
    cases h'
  · rw [if_neg z] at h'
    exact ⟨h', z⟩
/-- one turn -/
theorem CutI.turn {C : Addr} {H0 : Hp} {S : Sh} {m : Nat} {n : Nd} {ks : List Str} {j : Nat} {S' : Sh} {H1 : Hp} (hj : j < ks.length) (I : CutI C H0 S m n ks (j + 1) S' H1) (T0 : TreeH C H0 S m) {x : Nd} (hx : S'.N (ks.take j) = some x) {kvs : List (Key × V)} (hd : H1 x.d = some (.dK kvs)) {H2 : Hp}
    (e2 : H2 = upd (upd H1 x.r (.lst (((S'.R (ks.take j)).erase ks[j]).map V.str))) x.d (.dK (dropK kvs (.inr ks[j])))) :
    (∀ q, (S'.cut (ks.take j) ks[j]).W q = if ks.isPrefixOf q = true then none else S.W q) ∧ TreeH C H2 (S'.cut (ks.take j) ks[j]) m ∧ ShOk (S'.cut (ks.take j) ks[j]) ∧ (S'.cut (ks.take j) ks[j]).N [] = some n ∧ (S'.cut (ks.take j) ks[j]).N (ks.take j) = some x ∧
    Went S (S'.cut (ks.take j) ks[j]) H0 H2 ∧ (∀ r y, S.N (ks ++ r) = some y → NdAt C H2 S m (ks ++ r) y) ∧ (∀ q y, (S'.cut (ks.take j) ks[j]).N q = some y → S.N q = some y) ∧
    (∀ p k, ((S'.cut (ks.take j) ks[j]).N (p ++ [k])).isSome = true → p ++ [k] ≠ ks.take j → (S'.cut (ks.take j) ks[j]).W (p ++ [k]) ≠ none ∨ (S'.cut (ks.take j) ks[j]).R (p ++ [k]) ≠ []) := by
  have tk : ks.take j ++ [ks[j]] = ks.take (j + 1) := (List.take_succ_eq_append_getElem hj).symm
  have sub : ∀ q y, (S'.cut (ks.take j) ks[j]).N q = some y → S.N q = some y := fun q y h => I.sub q y (cut_sub h).1
  have hxS := I.sub _ _ hx
  have A := I.th.at_ _ _ hx
  have topn : ¬ (ks.take j ++ [ks[j]]).isPrefixOf [] = true := fun z => by
    obtain ⟨r, e⟩ := pre_of z
    have := congrArg List.length e
    simp at this
    omega
  have self : (S'.cut (ks.take j) ks[j]).N (ks.take j) = some x := by
    show (if (ks.take j ++ [ks[j]]).isPrefixOf (ks.take j) = true then none else S'.N (ks.take j)) = some x
    rw [if_neg pre_not]
    exact hx
  have ch : Ch (Own S) H1 H2 := by
    rw [e2]
    exact (Ch.upd (own_r hxS) A.row rfl).trans (Ch.upd (own_d hxS) (by rw [upd_ne (Ne.symm (I.th.r_d hx hx))]; exact hd) rfl)
  refine ⟨fun q => ?_, by rw [e2]; exact I.th.cut hx I.ok ks[j] hd, I.ok.cut hx _, ?_, self, Went.cut (I.went.ch.trans ch) sub, fun r y hy => ?_, sub, fun p k hs ne => ?_⟩
  · show (if (ks.take j ++ [ks[j]]).isPrefixOf q = true then none else S'.W q) = _
    rw [tk]
    rcases Nat.lt_or_ge (j + 1) ks.length with hlt | hge
    · rw [I.W hlt q]
      by_cases z : (ks.take (j + 1)).isPrefixOf q = true
      · rw [if_pos z]
        obtain ⟨r, rfl⟩ := pre_of z
        have none' : S'.W (ks.take (j + 1) ++ r) = none := by
          cases r with
          | nil =>
            rw [List.append_nil]
            exact (I.bare hlt).1
          | cons k r =>
            refine I.ok.out _ ?_
            cases e : S'.N (ks.take (j + 1) ++ k :: r) with
            | none => rfl
            | some y =>
              have up := I.ok.up r (ks.take (j + 1) ++ [k]) (by rw [List.append_assoc, List.singleton_append, e]; rfl)
              obtain ⟨y', hy'⟩ := Option.isSome_iff_exists.mp I.there
              have := (I.ok.row _ _ hy' k).mpr up
              rw [(I.bare hlt).2] at this
              cases this
        rw [I.W hlt] at none'
        exact none'.symm
      · rw [if_neg z]
    · have ej : j + 1 = ks.length := by omega
      rw [I.start ej, ej, List.take_length]
  · show (if (ks.take j ++ [ks[j]]).isPrefixOf [] = true then none else S'.N []) = _
    rw [if_neg topn]
    exact I.top
  · have B := I.gone r y hy
    obtain ⟨kv, g1, g2⟩ := B.dic
    have nej : ks ++ r ≠ ks.take j := fun z => by
      have := congrArg List.length z
      rw [List.length_append, List.length_take] at this
      omega
    have n1 : y.a ≠ x.r := T0.a_r hy hxS
    have n2 : y.a ≠ x.d := T0.a_d hy hxS
    have n3 : y.r ≠ x.d := T0.r_d hy hxS
    have n4 : y.r ≠ x.r := fun z => nej (T0.ir _ _ _ _ hy hxS z)
    have n5 : y.d ≠ x.d := fun z => nej (T0.id _ _ _ _ hy hxS z)
    have n6 : y.d ≠ x.r := Ne.symm (T0.r_d hxS hy)
    refine ⟨?_, ?_, ⟨kv, ?_, g2⟩, B.rl⟩
    · rw [e2, upd_ne n2, upd_ne n1]
      exact B.ins
    · rw [e2, upd_ne n3, upd_ne n4]
      exact B.row
    · rw [e2, upd_ne n5, upd_ne n6]
      exact g1
  · obtain ⟨y, hy⟩ := Option.isSome_iff_exists.mp hs
    obtain ⟨h1, h2⟩ := cut_sub hy
    rw [tk] at h2
    have f := I.full p k (by rw [h1]; rfl) fun _ z => h2 (by rw [z]; exact pre_self _)
    refine f.imp (fun a => ?_) fun a => ?_
    · show (if (ks.take j ++ [ks[j]]).isPrefixOf (p ++ [k]) = true then none else S'.W (p ++ [k])) ≠ none
      rw [tk, if_neg h2]
      exact a
    · show (if p ++ [k] = ks.take j then (S'.R (ks.take j)).erase ks[j] else S'.R (p ++ [k])) ≠ []
      rw [if_neg ne]
      exact a
theorem ok_cut (T : Txt K mg cs) (CTree_at : CalM P w K mg base 1 cs.a_Tree "at" ["self", "path"] (spAt K cs.a_Tree)) : CalM P w K mg base 2 cs.a_Tree "cut" ["self", "path"] (spCut K cs.a_Tree) := by
  refine T.f_Tree_cut.cal scTreeCut (fun vs H Q E h => ?_) (fun f cdv A outer s H vs Q E hr h => ?_)
  · obtain ⟨_, _, _, _, _, rfl, _⟩ := h
    rfl
  obtain ⟨S, m, n, pt, ks, rfl, TH, O, F, hn, hp, hne, hl, hm, hks, q⟩ := h
  refine ⟨_, (pss_one (ps_for PassesOwn.never rfl (pi_range3 rfl T.n_range (pa_cons (pe_op op_sub (pe_callB (lenQ K) rfl T.n_len (by decide +kernel) (pa_cons (pv 1) pa_nil)) pe_int) (pa_cons (pe_un un_neg pe_int) (pa_cons (pe_un un_neg pe_int) pa_nil)))) (pg_name (i := 2) scTreeCut.nd rfl (by first | exact Or.inl rfl | exact Or.inr rfl))
      (pss_cons (ps_set (i := 3) scTreeCut.nd rfl (by first | exact Or.inl rfl | exact Or.inr rfl) (pe_calM CTree_at T.cl_Tree (hr.mono (by first | decide | omega)) (pv 0) (pa_cons (pe_slice (slT K) (pv 1) po_none (po_some (pv 2))) pa_nil)))
        (pss_cons (ps_expr (pe_bmK (K := K) PySem.F.plainAttrs_list PySem.F.slot_list_remove PySem.F.type_list_remove removeS (pe_fldK (K := K) (pv 3)) (pa_cons (pe_ix (ixT K) (pv 1) (pv 2) (fun _ _ => rfl)) pa_nil)))
        (pss_cons (ps_ddel (pe_fldK (K := K) (pv 3)) (pe_ix (ixT K) (pv 1) (pv 2) (fun _ _ => rfl)))
        (pss_one (ps_if (PW.pt (pw_or (pt_cmpR op_notN (pe_fldK (K := K) (pv 3)) pe_non (nomark _)) (pw_or1 (pt_truth (pe_fldK (K := K) (pv 3)) (by intro _; rfl))))) (pss_one ps_retN) pss_nil))))))), ?_⟩
  have pos : 0 < ks.length := List.length_pos_iff.mpr hne
  refine ⟨_, rfl, pt, _, rfl, .inr hp, _, 1, rfl, rfl, _, rfl, _, rfl, _, _, _, ks.length, rfl, ?_, ?_⟩
  · rw [List.length_map]
    have := RgC.neg (i := (ks.length : Int) - 1) (j := -1) (by omega) (by omega) (by omega) (by omega)
    have e : (((ks.length : Int) - 1) - -1).toNat = ks.length := by omega
    rw [e] at this
    exact this
  rw [List.length_map]
  refine for_rangeC (fun i σ H' => ∃ (S' : Sh) (x2 x3 : Option V), CutI cs.a_Tree H S m n ks (ks.length - i) S' H' ∧ σ = [some (.ref n.a), some (.ref pt), x2, x3]) ⟨S, none, none, ?_, rfl⟩ (fun i σ H' hi h => ?_) (fun σ H' h => ?_)
  · refine ⟨TH, O, hn, Went.refl _ _, fun _ _ h => h, fun r x h => TH.at_ _ _ h, ?_, fun p k h _ => F p k h, fun h => absurd h (by omega), fun h => absurd h (by omega), fun _ => rfl⟩
    rw [Nat.sub_zero, List.take_length]
    exact hks
  · obtain ⟨S', x2, x3, I, rfl⟩ := h
    have ej : (ks.length : Int) - 1 + (i : Int) * (-1) = ((ks.length - 1 - i : Nat) : Int) := by omega
    rw [ej]
    have e1 : ks.length - i = ks.length - 1 - i + 1 := by omega
    rw [e1] at I
    have hj : ks.length - 1 - i < ks.length := by omega
    have e3 : ks.length - (i + 1) = ks.length - 1 - i := by omega
    rw [e3]
    generalize ks.length - 1 - i = j at I hj ⊢
    have hp' := sqT_ch TH I.went.ch hp
    have tk : ks.take j ++ [ks[j]] = ks.take (j + 1) := (List.take_succ_eq_append_getElem hj).symm
    obtain ⟨x, hx⟩ := Option.isSome_iff_exists.mp (I.ok.pre (ks.take j) ks[j] (by rw [tk]; exact I.there))
    have At := I.th.at_ _ _ I.top
    have hin : ks[j] ∈ S'.R (ks.take j) := (I.ok.row _ _ hx _).mpr (by rw [tk]; exact I.there)
    dsimp only [gName]
    refine run_set ⟨_, rfl, n.a, n.dx, _, rfl, At.ins, rfl, _, rfl, _, rfl, (j : Int), rfl, slice_take hp' fun pq H1 S1 hq => ?_⟩
    refine ⟨S', m, n, pq, ks.take j, rfl, I.th.sm S1, I.ok, I.top, by rw [List.map_take]; exact hq, by rw [List.length_take]; omega, ?_⟩
    rw [hx]
    have T1 := I.th.sm S1
    have A1 := T1.at_ _ _ hx
    obtain ⟨kvs, g1, g2, g3⟩ := A1.dic
    have hp1 := Sm.seqT S1 hp'
    have kj : atI (ks.map V.str) ((j : Nat) : Int) = some (.str ks[j]) := atI_nat (by rw [List.getElem?_map, List.getElem?_eq_getElem hj]; rfl)
    dsimp only [tSeq, tDrop]
    refine ⟨_, rfl, x.a, _, _, _, _, rfl, A1.ins, T.cl_Tree, T.no_Tree_row, rfl, .inl ⟨rfl, _, SqL.of A1.row⟩, _, rfl, _, rfl, pt, _, _, _, rfl, rfl, hp1, kj, x.r, S'.R (ks.take j), ks[j], rfl, rfl, A1.row, hin, ?_⟩
    have er : (upd H1 x.r (.lst (((S'.R (ks.take j)).erase ks[j]).map V.str))) x.a = some (.ins cs.a_Tree x.dx (ndFs S' (ks.take j) x)) := by
      rw [upd_ne (T1.a_r hx hx)]
      exact A1.ins
    have ed : (upd H1 x.r (.lst (((S'.R (ks.take j)).erase ks[j]).map V.str))) x.d = some (.dK kvs) := by
      rw [upd_ne (Ne.symm (T1.r_d hx hx))]
      exact g1
    have hp2 : SqT K (upd H1 x.r (.lst (((S'.R (ks.take j)).erase ks[j]).map V.str))) pt (ks.map V.str) := SqT.upd hp1 A1.row
    refine ⟨_, rfl, x.a, _, _, _, _, rfl, er, T.cl_Tree, T.no_Tree_beneath, rfl, _, rfl, _, rfl, pt, _, _, _, rfl, rfl, hp2, kj, x.d, kvs, .inr ks[j], rfl, ed, rfl, ?_, ?_⟩
    · rw [g2, tk]
      obtain ⟨y, hy⟩ := Option.isSome_iff_exists.mp I.there
      rw [hy]
      rfl
    have I1 : CutI cs.a_Tree H S m n ks (j + 1) S' H1 := ⟨T1, I.ok, I.top, I.went.trans (Went.sm S1), I.sub, fun r y hy => ?_, I.there, I.full, I.W, I.bare, I.start⟩
    · obtain ⟨Wq, T2, O2, top2, self2, went2, gone2, sub2, full2⟩ := I1.turn hj TH hx g1 rfl
      generalize upd (upd H1 x.r (.lst (((S'.R (ks.take j)).erase ks[j]).map V.str))) x.d (.dK (dropK kvs (.inr ks[j]))) = H2 at *
      generalize hS2 : S'.cut (ks.take j) ks[j] = S2 at *
      have A2 := T2.at_ _ _ self2
      have fin : (S2.W (ks.take j) ≠ none ∨ S2.R (ks.take j) ≠ []) → Full S2 := fun h p k hs => by
        by_cases e : p ++ [k] = ks.take j
        · rw [e]
          exact h
        · exact full2 p k hs e
      have wv : ∀ b : Bool, (wV (S2.W (ks.take j)) = .non ↔ S2.W (ks.take j) = none) := fun _ => by
        cases S2.W (ks.take j) with
        | none => exact ⟨fun _ => rfl, fun _ => rfl⟩
        | some z => exact ⟨fun h => (nomatch h), fun h => (nomatch h)⟩
      dsimp only
      refine run_ifE ?_
      refine ⟨_, rfl, x.a, _, _, _, _, rfl, A2.ins, T.cl_Tree, T.no_Tree_worth, rfl, rfl, _, rfl, ?_⟩
      have done : S2.W (ks.take j) ≠ none ∨ S2.R (ks.take j) ≠ [] → Q .non H2 := fun h => q S2 H2 Wq T2 O2 (fin h) top2 went2 gone2 sub2
      refine ite2 (fun c => ?_) (fun c => ?_)
      · refine iteT (done (.inl fun z => ?_))
        rw [z] at c
        cases c
      · have c1 : S2.W (ks.take j) = none := by
          cases e : S2.W (ks.take j) with
          | none => rfl
          | some z =>
            rw [e] at c
            exact absurd rfl c
        refine ⟨_, rfl, x.a, _, _, _, _, rfl, A2.ins, T.cl_Tree, T.no_Tree_row, rfl, _, .inl ⟨_, SqL.of A2.row, rfl⟩, ?_⟩
        cases e : S2.R (ks.take j) with
        | cons z r =>
          refine iteT (done (.inr ?_))
          rw [e]
          exact List.cons_ne_nil _ _
        | nil =>
          refine iteF ?_
          exact ⟨S2, _, _, ⟨T2, O2, top2, went2, sub2, gone2, by rw [self2]; rfl, fun p k hs ne => full2 p k hs (ne hj), fun _ => Wq, fun _ => ⟨c1, e⟩, fun z => absurd z (by omega)⟩, rfl⟩
    · have B := I.gone r y hy
      obtain ⟨kv, b1, b2⟩ := B.dic
      exact ⟨S1 _ _ B.ins, S1 _ _ B.row, ⟨kv, S1 _ _ b1, b2⟩, B.rl⟩
  · obtain ⟨S', x2, x3, I, rfl⟩ := h
    rw [Nat.sub_self] at I
    refine q S' H' (I.W pos) I.th I.ok (fun p k hs => I.full p k hs fun _ z => ?_) I.top I.went I.gone I.sub
    rw [List.take_zero] at z
    exact snoc_nil z
end
/-! ### trees walked -/
def ownW : Option Str → List (List Str × Str)
  | some z => [([], z)]
  | none => []
def walkF : Nat → Sh → List Str → List (List Str × Str)
  | 0, _, _ => []
  | f + 1, S, p => ownW (S.W p) ++ (S.R p).flatMap fun k => (walkF f S (p ++ [k])).map fun x => (k :: x.1, x.2)
/-- the part of a tree from a place on -/
def Sh.sub (S : Sh) (p : List Str) : Sh := ⟨fun q => S.N (p ++ q), fun q => S.W (p ++ q), fun q => S.R (p ++ q)⟩
theorem sub_N {S : Sh} {p q : List Str} : (S.sub p).N q = S.N (p ++ q) := rfl
theorem walk_sub (S : Sh) (p : List Str) : ∀ (f : Nat) (q : List Str), walkF f (S.sub p) q = walkF f S (p ++ q)
  | 0, _ => rfl
  | f + 1, q => by
    have e : ∀ k, walkF f (S.sub p) (q ++ [k]) = walkF f S (p ++ q ++ [k]) := fun k => by rw [walk_sub S p f (q ++ [k]), List.append_assoc]
    unfold walkF
    simp only [e]
    rfl
theorem ShOk.sub {S : Sh} (O : ShOk S) {p : List Str} (h : (S.N p).isSome = true) : ShOk (S.sub p) := by
  obtain ⟨n, hn⟩ := Option.isSome_iff_exists.mp h
  refine ⟨⟨n, by rw [sub_N, List.append_nil]; exact hn⟩, fun q x e k => ?_, fun q x e => O.srt _ x e, fun q k hs => O.pre (p ++ q) k ?_, fun q e => O.out _ e, fun q k hs => O.key (p ++ q) k ?_, fun q hs => ?_⟩
  · show k ∈ S.R (p ++ q) ↔ (S.N (p ++ (q ++ [k]))).isSome = true
    rw [← List.append_assoc]
    exact O.row _ x e k
  · rw [List.append_assoc]
    exact hs
  · rw [List.append_assoc]
    exact hs
  · have := O.deep _ hs
    rw [List.length_append] at this
    omega
theorem TreeH.sub {C : Addr} {H H' : Hp} {S : Sh} {m : Nat} (T : TreeH C H S m) (p : List Str) (g : ∀ r x, S.N (p ++ r) = some x → NdAt C H' S m (p ++ r) x) : TreeH C H' (S.sub p) m := by
  refine ⟨fun q x e => ?_, fun q r x y h1 h2 z => List.append_cancel_left (T.ia _ _ _ _ h1 h2 z), fun q r x y h1 h2 z => List.append_cancel_left (T.ir _ _ _ _ h1 h2 z), fun q r x y h1 h2 z => List.append_cancel_left (T.id _ _ _ _ h1 h2 z)⟩
  have B := g q x e
  obtain ⟨kvs, h1, h2, h3⟩ := B.dic
  refine ⟨B.ins, B.row, ⟨kvs, h1, fun k => ?_, h3⟩, B.rl⟩
  rw [h2 k, sub_N, List.append_assoc]
/-- what walked tells: each place's own row of keys behind the beginning pp, and its worth -/
def RowIt (K : PySem.W.Frag) (H : Hp) (pp : List Str) (a : Addr) (x : List Str × Str) : Prop := ∃ q, H a = some (.tup [.ref q, .str x.2]) ∧ SqT K H q ((pp ++ x.1).map V.str)
theorem RowIt.sm {K : PySem.W.Frag} {H H' : Hp} {pp : List Str} {a : Addr} {x : List Str × Str} (S : Sm H H') (h : RowIt K H pp a x) : RowIt K H' pp a x := by
  obtain ⟨q, h1, h2⟩ := h
  exact ⟨q, S _ _ h1, Sm.seqT S h2⟩
/-- the list alone changed -/
theorem RowIt.upd {K : PySem.W.Frag} {H : Hp} {pp : List Str} {a l : Addr} {x : List Str × Str} {ys zs : List V} (e : H l = some (.lst ys)) (h : RowIt K H pp a x) : RowIt K (L2.upd H l (.lst zs)) pp a x := by
  obtain ⟨q, h1, h2⟩ := h
  exact ⟨q, by rw [upd_ne (ne_of h1 e fun z => by cases z)]; exact h1, SqT.upd h2 e⟩
def RowsAt (K : PySem.W.Frag) (H : Hp) (pp : List Str) (l : Addr) (L : List (List Str × Str)) : Prop := ∃ as : List Addr, H l = some (.lst (as.map V.ref)) ∧ Paired (RowIt K H pp) as L
theorem paired_app {α β : Type} {F : α → β → Prop} : ∀ {a c : List α} {b d : List β}, Paired F a b → Paired F c d → Paired F (a ++ c) (b ++ d)
  | _, _, _, _, .nil, h => h
  | _, _, _, _, .cons h t, g => .cons h (paired_app t g)
theorem paired_map {α β γ : Type} {F : α → β → Prop} {G : α → γ → Prop} {f : β → γ} (i : ∀ a b, F a b → G a (f b)) : ∀ {l : List α} {m : List β}, Paired F l m → Paired G l (m.map f)
  | _, _, .nil => .nil
  | _, _, .cons h t => .cons (i _ _ h) (paired_map i t)
theorem paired_imp {α β : Type} {F G : α → β → Prop} (i : ∀ a b, F a b → G a b) : ∀ {l : List α} {m : List β}, Paired F l m → Paired G l m
  | _, _, .nil => .nil
  | _, _, .cons h t => .cons (i _ _ h) (paired_imp i t)
def spWalk (K : PySem.W.Frag) (C : Addr) (f : Nat) : Sp := fun vs H Q _ => ∃ (S : Sh) (m : Nat) (p : List Str) (x : Nd) (pt : Addr) (pp : List Str), vs = [.ref x.a, .ref pt] ∧ TreeH C H S m ∧ ShOk S ∧ S.N p = some x ∧ SqT K H pt (pp.map V.str) ∧ 8 ≤ p.length + f ∧ pp.length + f ≤ 100 ∧ (walkF f S p).length ≤ 100000 ∧
  ∀ (l : Addr) (H' : Hp), H l = none → Sm H H' → RowsAt K H' pp l (walkF f S p) → Q (.ref l) H'
theorem flatM_take {α β : Type} {l : List α} {i : Nat} {x : α} (g : α → List β) (h : l[i]? = some x) : (l.take (i + 1)).flatMap g = (l.take i).flatMap g ++ g x := by
  rw [List.take_succ, h, Option.toList_some, List.flatMap_append, List.flatMap_singleton]
theorem flatM_len {α β : Type} (g : α → List β) (l : List α) (i : Nat) : ((l.take i).flatMap g).length ≤ (l.flatMap g).length := by
  have e : (l.flatMap g).length = ((l.take i).flatMap g).length + ((l.drop i).flatMap g).length := by
    rw [← List.length_append, ← List.flatMap_append, List.take_append_drop]
  omega
section
variable {P : Program} {w : World} {K : PySem.W.Frag} {mg : Str → Option Value} {base : Heap} {cs : Tabs}
theorem ok_walked (T : Txt K mg cs) : ∀ f : Nat, CalM P w K mg base (f + 1) cs.a_Tree "walked" ["self", "path"] (spWalk K cs.a_Tree f)
  | 0 => by
    refine T.f_Tree_walked.cal scTreeWalked (fun vs H Q E h => ?_) (fun f cdv A outer s H vs Q E hr h => ?_)
    · obtain ⟨_, _, _, _, _, _, rfl, _⟩ := h
      rfl
    · obtain ⟨S, m, p, x, pt, pp, _, _, O, hx, _, h8, _⟩ := h
      have := O.deep p (by rw [hx]; rfl)
      omega
  | f0 + 1 => by
    have CTree_walked := ok_walked T f0
    refine T.f_Tree_walked.cal scTreeWalked (fun vs H Q E h => ?_) (fun f cdv A outer s H vs Q E hr h => ?_)
    · obtain ⟨_, _, _, _, _, _, rfl, _⟩ := h
      rfl
    obtain ⟨S, m, p, x, pt, pp, rfl, TH, O, hx, hp, h8, hpp, hlen, q⟩ := h
    refine ⟨_, (pss_cons (ps_set (i := 2) scTreeWalked.nd rfl (by first | exact Or.inl rfl | exact Or.inr rfl) (pe_ifExp (pt_cmpR op_isN (pe_fldK (K := K) (pv 0)) pe_non (nomark _)) (pe_lst pa_nil) (pe_lst (pa_cons (pe_tup (pa_cons (pv 1) (pa_cons (pe_fldK (K := K) (pv 0)) pa_nil))) pa_nil))))
    (pss_cons (ps_for PassesOwn.never rfl (pi_list (pe_fldK (K := K) (pv 0))) (pg_name (i := 3) scTreeWalked.nd rfl (by first | exact Or.inl rfl | exact Or.inr rfl))
      (pss_one (ps_expr (pe_bmK (K := K) PySem.F.plainAttrs_list PySem.F.slot_list_extend PySem.F.type_list_extend mt_extend (pv 2) (pa_cons (pe_calM CTree_walked T.cl_Tree (hr.mono (by first | decide | omega)) (pe_dget (Nat.lt_trans (Nat.add_lt_add_left (show 1 < 64 by decide) _) hr.units) (pe_fldK (K := K) (pv 0)) (pv 3) (fun _ _ => rfl)) (pa_cons (pe_op (catA K) (pv 1) (pe_tup (pa_cons (pv 3) pa_nil))) pa_nil)) pa_nil)))))
    (pss_one (ps_ret (pv 2))))), ?_⟩
    have A0 := TH.at_ _ _ hx
    have own : (ownW (S.W p)).length ≤ 1 := by
      cases S.W p with
      | none => exact Nat.zero_le 1
      | some z => exact Nat.le_refl 1
    have hlen' : (ownW (S.W p)).length + ((S.R p).flatMap fun k => (walkF f0 S (p ++ [k])).map fun x => (k :: x.1, x.2)).length ≤ 100000 := by
      rw [← List.length_append]
      exact hlen
    have start : ∀ R : VK, (∀ (l : Addr) (H' : Hp), H l = none → Sm H H' → RowsAt K H' pp l (ownW (S.W p)) → R (.ref l) H') → (tIf (tTest (tOp (fun x y H Q => y = V.non ∧ Q (V.bl (decide (x = V.non))) H) (tFld K (tVar 0) "worth") (tC V.non))) (tLst tNil) (tLst (tCons (tTup (tCons (tVar 1) (tCons (tFld K (tVar 0) "worth") tNil))) tNil))) [some (V.ref x.a), some (V.ref pt), none, none] H R := fun R hR => by
      refine ⟨_, rfl, x.a, _, _, _, _, rfl, A0.ins, T.cl_Tree, T.no_Tree_worth, rfl, rfl, _, rfl, ?_⟩
      cases e : S.W p with
      | none =>
        rw [e] at hR
        refine iteT ⟨(by decide), fun l hl => hR l _ hl (Sm.new hl) ⟨[], upd_same, .nil⟩⟩
      | some z =>
        rw [e] at hR
        have A1 : H x.a = some (.ins cs.a_Tree x.dx [("worth", .str z), ("row", .ref x.r), ("beneath", .ref x.d)]) := by
          rw [A0.ins]
          show some (HO.ins cs.a_Tree x.dx [("worth", wV (S.W p)), ("row", .ref x.r), ("beneath", .ref x.d)]) = _
          rw [e]
          rfl
        refine iteF ⟨_, rfl, _, rfl, x.a, _, _, _, _, rfl, A1, T.cl_Tree, T.no_Tree_worth, rfl, (by show 2 ≤ sizeLine; decide), fun t ht => ⟨(by show 1 ≤ sizeLine; decide), fun l hl => ?_⟩⟩
        have S1 : Sm H (upd H t (.tup [.ref pt, .str z])) := Sm.new ht
        refine hR l _ (S1.free hl) (S1.trans (Sm.new hl)) ⟨[t], upd_same, .cons ⟨pt, ?_, ?_⟩ .nil⟩
        · rw [upd_ne (ne_of_none upd_same hl)]
          exact upd_same
        · rw [List.append_nil]
          exact Sm.seqT (S1.trans (Sm.new hl)) hp
    refine run_set (start _ fun l H1 hl S1 hrows => ?_)
    refine run_for ?_
    have A1 := (TH.sm S1).at_ _ _ hx
    refine ⟨_, rfl, x.a, _, _, _, _, rfl, A1.ins, T.cl_Tree, T.no_Tree_row, rfl, x.r, rfl, ⟨_, SqL.of A1.row⟩, for_list (xs := (S.R p).map V.str) (fun i σ H' => ∃ y, σ = [some (.ref x.a), some (.ref pt), some (.ref l), y] ∧ Sm H H' ∧ RowsAt K H' pp l ((ownW (S.W p)) ++ ((S.R p).take i).flatMap fun k => (walkF f0 S (p ++ [k])).map fun x => (k :: x.1, x.2)))
      ⟨none, rfl, S1, by rw [List.take_zero, List.flatMap_nil, List.append_nil]; exact hrows⟩ (fun i σ H' _ h => ?_) (fun i v σ H' hi h => ?_) (fun σ H' h => ?_)⟩
    · obtain ⟨_, _, S2, _⟩ := h
      exact SqL.of ((TH.sm S2).at_ _ _ hx).row
    · obtain ⟨y, rfl, S2, as, hl2, rows⟩ := h
      rw [List.getElem?_map] at hi
      cases ek : (S.R p)[i]? with
      | none =>
        rw [ek] at hi
        cases hi
      | some k =>
        rw [ek] at hi
        cases hi
        have TH2 := TH.sm S2
        have A2 := TH2.at_ _ _ hx
        obtain ⟨kvs, g1, g2, _⟩ := A2.dic
        obtain ⟨x', hx'⟩ := Option.isSome_iff_exists.mp ((O.row p x hx k).mp (List.mem_of_getElem? ek))
        have g := DGet.k (k := Sum.inr k) g1
        rw [show valV kvs (Sum.inr k) = _ from g2 k, hx'] at g
        have A2' := TH2.at_ _ _ hx'
        have hp2 := Sm.seqT S2 hp
        have step : ∀ (pt' : Addr) (H3 : Hp), Sm H' H3 → SqT K H3 pt' ((pp ++ [k]).map V.str) → spWalk K cs.a_Tree f0 [.ref x'.a, .ref pt'] H3 (fun v H4 => (rExtend : V → List V → Hp → VK → Prop) (.ref l) [v] H4 fun _ H5 => ∃ y : Option V, ([some (V.ref x.a), some (V.ref pt), some (V.ref l), some (V.str k)] : L2.St) = [some (V.ref x.a), some (V.ref pt), some (V.ref l), y] ∧ Sm H H5 ∧ RowsAt K H5 pp l ((ownW (S.W p)) ++ ((S.R p).take (i + 1)).flatMap fun k => (walkF f0 S (p ++ [k])).map fun x => (k :: x.1, x.2))) E0 := fun pt' H3 S3 hpt' => by
          refine ⟨S, m, p ++ [k], x', pt', pp ++ [k], rfl, TH2.sm S3, O, hx', hpt', ?_, ?_, ?_, fun l2 H4 hn2 S4 rows2 => ?_⟩
          · rw [List.length_append, List.length_singleton]
            omega
          · rw [List.length_append, List.length_singleton]
            omega
          · have z := flatM_len (fun k => (walkF f0 S (p ++ [k])).map fun x => (k :: x.1, x.2)) (S.R p) (i + 1)
            rw [flatM_take _ ek, List.length_append, List.length_map] at z
            omega
          · obtain ⟨as2, hl4, rows4⟩ := rows2
            have hl4' : H4 l = some (.lst (as.map V.ref)) := S4 _ _ (S3 _ _ hl2)
            have ne : l ≠ l2 := fun z => by
              rw [← z] at hn2
              rw [S3 _ _ hl2] at hn2
              cases hn2
            have lz : as.length + as2.length ≤ 100000 := by
              have z := flatM_len (fun k => (walkF f0 S (p ++ [k])).map fun x => (k :: x.1, x.2)) (S.R p) (i + 1)
              rw [flatM_take _ ek, List.length_append, List.length_map] at z
              have z1 := paired_len rows
              have z2 := paired_len rows4
              rw [List.length_append] at z1
              omega
            refine ⟨l, l2, _, _, rfl, rfl, hl4', hl4, ?_, some (.str k), rfl, ?_, as ++ as2, ?_, ?_⟩
            · rw [List.length_map, List.length_map]
              exact Nat.le_trans lz (by decide)
            · refine ((S2.trans S3).trans S4).over hl fun qs z => ?_
              rw [hl4'] at z
              cases z
              rfl
            · rw [upd_same, List.map_append]
            · rw [flatM_take _ ek, ← List.append_assoc]
              refine paired_app (paired_imp (fun a y h => (RowIt.sm (S3.trans S4) h).upd hl4') rows) (paired_map (fun a y h => ?_) rows4)
              obtain ⟨q, h1, h2⟩ := h
              refine RowIt.upd hl4' ⟨q, h1, ?_⟩
              rw [List.append_assoc] at h2
              exact h2
        refine ⟨_, rfl, .inl ⟨rfl, _, SqL.of hl2⟩, _, rfl, x.a, _, _, _, _, rfl, A2.ins, T.cl_Tree, T.no_Tree_beneath, rfl, _, rfl, x.d, _, rfl, g, x'.a, _, _, rfl, A2'.ins, rfl, _, rfl, _, rfl, (by show 1 ≤ sizeLine; decide), fun b hb => ⟨pt, b, pp.map V.str, [.str k], rfl, rfl, Sm.seqT (Sm.new hb) hp2, SqT.of upd_same, ?_, fun e => ?_, fun e1 e2 => (nomatch e2), fun e1 e2 c hc => ?_⟩⟩
        · rw [List.length_map]
          exact Nat.le_trans (show pp.length + 1 ≤ 1000 by omega) (by decide)
        · have e' : pp = [] := List.map_eq_nil_iff.mp e
          refine step b _ (Sm.new hb) ?_
          rw [e']
          exact SqT.of upd_same
        · refine step c _ ((Sm.new hb).trans (Sm.new hc)) ?_
          rw [List.map_append]
          exact SqT.of upd_same
    · obtain ⟨y, rfl, S2, rows⟩ := h
      rw [List.length_map, List.take_length] at rows
      dsimp only
      refine run_ret ?_
      exact ⟨_, rfl, q l H' hl S2 rows⟩
end
/-! ### what a walk comes by -/
theorem walk_mem {S : Sh} (O : ShOk S) : ∀ (f : Nat) (p : List Str), (S.N p).isSome = true → 8 ≤ p.length + f → ∀ (r : List Str) (z : Str), (r, z) ∈ walkF f S p ↔ S.W (p ++ r) = some z
  | 0, p, h, l, r, z => by
    have := O.deep p h
    omega
  | f + 1, p, h, l, r, z => by
    obtain ⟨x, hx⟩ := Option.isSome_iff_exists.mp h
    unfold walkF
    rw [List.mem_append]
    have own : ((r, z) ∈ ownW (S.W p)) ↔ r = [] ∧ S.W p = some z := by
      cases S.W p with
      | none => exact ⟨fun h => (nomatch h), fun h => (nomatch h.2)⟩
      | some y =>
        refine Iff.trans List.mem_singleton ?_
        exact ⟨fun h => by cases h; exact ⟨rfl, rfl⟩, fun h => by cases h.2; rw [h.1]⟩
    rw [own]
    constructor
    · rintro (⟨rfl, h⟩ | h)
      · rw [List.append_nil]
        exact h
      · obtain ⟨k, hk, hm⟩ := List.mem_flatMap.mp h
        obtain ⟨⟨r', z'⟩, h2, e⟩ := List.mem_map.mp hm
        injection e with e1 e2
        subst e1 e2
        have := (walk_mem O f (p ++ [k]) ((O.row p x hx k).mp hk) (by rw [List.length_append, List.length_singleton]; omega) r' z').mp h2
        rw [List.append_assoc] at this
        exact this
    · intro h
      cases r with
      | nil =>
        rw [List.append_nil] at h
        exact .inl ⟨rfl, h⟩
      | cons k r' =>
        refine .inr (List.mem_flatMap.mpr ⟨k, ?_, List.mem_map.mpr ⟨(r', z), ?_, rfl⟩⟩)
        · refine (O.row p x hx k).mpr (O.up r' (p ++ [k]) ?_)
          rw [List.append_assoc, List.singleton_append]
          cases e : S.N (p ++ k :: r') with
          | some _ => rfl
          | none =>
            rw [O.out _ e] at h
            cases h
        · have hk : (S.N (p ++ [k])).isSome = true := by
            refine O.up r' (p ++ [k]) ?_
            rw [List.append_assoc, List.singleton_append]
            cases e : S.N (p ++ k :: r') with
            | some _ => rfl
            | none =>
              rw [O.out _ e] at h
              cases h
          refine (walk_mem O f (p ++ [k]) hk (by rw [List.length_append, List.length_singleton]; omega) r' z).mpr ?_
          rw [List.append_assoc]
          exact h
theorem row_nodup {S : Sh} (O : ShOk S) {p : List Str} {x : Nd} (h : S.N p = some x) : (S.R p).Nodup := (O.srt p x h).imp fun {a b} h z => by
  rw [z, ahead_self] at h
  cases h
theorem walk_nodup {S : Sh} (O : ShOk S) : ∀ (f : Nat) (p : List Str), (S.N p).isSome = true → ((walkF f S p).map (·.1)).Nodup
  | 0, _, _ => List.nodup_nil
  | f + 1, p, h => by
    obtain ⟨x, hx⟩ := Option.isSome_iff_exists.mp h
    unfold walkF
    rw [List.map_append]
    refine List.nodup_append.mpr ⟨?_, ?_, fun a ha b hb e => ?_⟩
    · cases S.W p with
      | none => exact List.nodup_nil
      | some z => exact List.pairwise_singleton _ _
    · have nd := row_nodup O hx
      have sub : ∀ k ∈ S.R p, (S.N (p ++ [k])).isSome = true := fun k hk => (O.row p x hx k).mp hk
      generalize S.R p = l at nd sub
      induction l with
      | nil => exact List.nodup_nil
      | cons k l ih =>
        obtain ⟨n1, n2⟩ := List.nodup_cons.mp nd
        rw [List.flatMap_cons, List.map_append]
        refine List.nodup_append.mpr ⟨?_, ih n2 fun j hj => sub j (.tail _ hj), fun a ha b hb e => ?_⟩
        · have q := walk_nodup O f (p ++ [k]) (sub k (.head _))
          rw [List.map_map]
          have e : ((fun x : List Str × Str => x.1) ∘ fun x : List Str × Str => (k :: x.1, x.2)) = (fun r : List Str => k :: r) ∘ (fun x => x.1) := rfl
          rw [e, ← List.map_map]
          exact List.Pairwise.map _ (fun a b h e => h (by injection e)) q
        · rw [List.map_map] at ha
          obtain ⟨y, _, rfl⟩ := List.mem_map.mp ha
          obtain ⟨u, hu, rfl⟩ := List.mem_map.mp hb
          obtain ⟨j, hj, hu⟩ := List.mem_flatMap.mp hu
          obtain ⟨v, _, rfl⟩ := List.mem_map.mp hu
          have : k = j := by injection e
          exact n1 (this ▸ hj)
    · obtain ⟨u, hu, rfl⟩ := List.mem_map.mp hb
      obtain ⟨j, hj, hu⟩ := List.mem_flatMap.mp hu
      obtain ⟨v, _, rfl⟩ := List.mem_map.mp hu
      have : a = [] := by
        cases hw : S.W p with
        | none =>
          rw [hw] at ha
          cases ha
        | some y =>
          rw [hw] at ha
          exact List.mem_singleton.mp ha
      rw [this] at e
      cases e
/-- the worths of a tree, told by a list -/
structure Cont (S : Sh) (L : List (List Str × Str)) : Prop where
  nd : (L.map (·.1)).Nodup
  mem : ∀ q z, (q, z) ∈ L ↔ S.W q = some z
theorem pairs_nodup {L : List (List Str × Str)} (h : (L.map (·.1)).Nodup) : L.Nodup := List.Pairwise.of_map (·.1) (fun a b h e => h (by rw [e])) h
theorem Cont.walk {S : Sh} {L : List (List Str × Str)} (C : Cont S L) (O : ShOk S) : (walkF 8 S []).Perm L := by
  obtain ⟨n, hn⟩ := O.root
  have h : (S.N []).isSome = true := by rw [hn]; rfl
  refine (List.perm_ext_iff_of_nodup (pairs_nodup (walk_nodup O 8 [] h)) (pairs_nodup C.nd)).mpr fun ⟨r, z⟩ => ?_
  rw [walk_mem O 8 [] h (by simp), C.mem]
  rfl
/-- .. of a part -/
theorem Cont.part {S : Sh} {L : List (List Str × Str)} (C : Cont S L) (O : ShOk S) {p : List Str} (h : (S.N p).isSome = true) : ((walkF 8 S p).map fun x => (p ++ x.1, x.2)).Perm (L.filter fun x => p.isPrefixOf x.1) := by
  refine (List.perm_ext_iff_of_nodup ?_ ((pairs_nodup C.nd).sublist List.filter_sublist)).mpr fun ⟨q, z⟩ => ?_
  · refine List.Pairwise.map _ (fun a b ne e => ne ?_) (pairs_nodup (walk_nodup O 8 p h))
    injection e with e1 e2
    exact Prod.ext (List.append_cancel_left e1) e2
  · rw [List.mem_filter, C.mem, List.mem_map]
    constructor
    · rintro ⟨⟨r, y⟩, hm, e⟩
      injection e with e1 e2
      subst e1 e2
      exact ⟨(walk_mem O 8 p h (by omega) r y).mp hm, pre_app p r⟩
    · rintro ⟨hw, hp⟩
      obtain ⟨r, rfl⟩ := pre_of hp
      exact ⟨(r, z), (walk_mem O 8 p h (by omega) r z).mpr hw, rfl⟩
/-- how many worths there are at a place and beneath -/
def cntAt (S : Sh) (p : List Str) : Nat := if (S.N p).isSome = true then (walkF 8 S p).length else 0
theorem Cont.cnt {S : Sh} {L : List (List Str × Str)} (C : Cont S L) (O : ShOk S) (p : List Str) : cntAt S p = (L.filter fun x => p.isPrefixOf x.1).length := by
  unfold cntAt
  split
  · rename_i h
    rw [← (C.part O h).length_eq, List.length_map]
  · rename_i h
    symm
    rw [List.length_eq_zero_iff, List.filter_eq_nil_iff]
    rintro ⟨q, z⟩ hm hp
    obtain ⟨r, rfl⟩ := pre_of hp
    have hw := (C.mem _ _).mp hm
    refine h (O.up r p ?_)
    cases e : S.N (p ++ r) with
    | some _ => rfl
    | none =>
      rw [O.out _ e] at hw
      cases hw
/-- a worth beneath a place makes it be there, with a row -/
theorem ShOk.row_of {S : Sh} (O : ShOk S) (F : Full S) {p : List Str} {n : Nd} (hn : S.N p = some n) : S.R p ≠ [] ↔ ∃ k r z, S.W (p ++ k :: r) = some z := by
  constructor
  · intro h
    have deep : ∀ (f : Nat) (q : List Str), 8 ≤ q.length + f → (S.N q).isSome = true → q ≠ [] → ∃ r z, S.W (q ++ r) = some z := by
      intro f
      induction f with
      | zero =>
        intro q hl hq _
        have := O.deep q hq
        omega
      | succ f ih =>
        intro q hl hq hne
        obtain ⟨q', k, rfl⟩ : ∃ q' k, q = q' ++ [k] := ⟨q.dropLast, q.getLast hne, (List.dropLast_concat_getLast hne).symm⟩
        rcases F q' k hq with a | a
        · obtain ⟨z, hz⟩ := Option.ne_none_iff_exists'.mp a
          exact ⟨[], z, by rw [List.append_nil]; exact hz⟩
        · obtain ⟨x, hx⟩ := Option.isSome_iff_exists.mp hq
          obtain ⟨j, hj⟩ := List.exists_mem_of_ne_nil _ a
          obtain ⟨r, z, e⟩ := ih (q' ++ [k] ++ [j]) (by rw [List.length_append, List.length_singleton]; omega) ((O.row _ x hx j).mp hj) snoc_nil
          exact ⟨j :: r, z, by rw [List.append_assoc] at e; exact e⟩
    obtain ⟨k, hk⟩ := List.exists_mem_of_ne_nil _ h
    obtain ⟨r, z, e⟩ := deep 8 (p ++ [k]) (by omega) ((O.row p n hn k).mp hk) snoc_nil
    exact ⟨k, r, z, by rw [List.append_assoc] at e; exact e⟩
  · rintro ⟨k, r, z, e⟩ h
    have up := O.up r (p ++ [k]) (by
      rw [List.append_assoc, List.singleton_append]
      cases e2 : S.N (p ++ k :: r) with
      | some _ => rfl
      | none =>
        rw [O.out _ e2] at e
        cases e)
    have := (O.row p n hn k).mpr up
    rw [h] at this
    cases this
/-! ### things of any kind: their shape, kept as long as nothing outside some addresses changes -/
inductive D where
  | non
  | bl (b : Bool)
  | int (i : Int)
  | str (z : Str)
  | lst (l : List D)
  | tup (l : List D)
  | dic
mutual
inductive Th (K : PySem.W.Frag) (av : Addr → Prop) (n : Nat) (H : Hp) : V → D → Prop
  | non : Th K av n H .non .non
  | bl (b : Bool) : Th K av n H (.bl b) (.bl b)
  | int (i : Int) : i.natAbs ≤ 10 ^ 22 + n → Th K av n H (.int i) (.int i)
  | str (z : Str) : (tl z).length ≤ 400 + n → (∀ c ∈ tl z, c < 128) → Th K av n H (.str z) (.str z)
  | lst {a : Addr} {xs : List V} {ds : List D} : H a = some (.lst xs) → ¬ av a → xs.length ≤ 40 + n → ThAll K av n H xs ds → Th K av n H (.ref a) (.lst ds)
  | tup {a : Addr} {xs : List V} {ds : List D} : SqT K H a xs → xs.length ≤ 40 + n → ThAll K av n H xs ds → Th K av n H (.ref a) (.tup ds)
  | dic {a : Addr} : H a = some (.dK []) → Th K av n H (.ref a) .dic
inductive ThAll (K : PySem.W.Frag) (av : Addr → Prop) (n : Nat) (H : Hp) : List V → List D → Prop
  | nil : ThAll K av n H [] []
  | cons {v : V} {vs : List V} {d : D} {ds : List D} : Th K av n H v d → ThAll K av n H vs ds → ThAll K av n H (v :: vs) (d :: ds)
end
/-- what is avoided are lists -/
def AvL (av : Addr → Prop) (H : Hp) : Prop := ∀ a, av a → ∃ xs, H a = some (.lst xs)
/-- outside of what is avoided all is kept -/
def KO (av : Addr → Prop) (H H' : Hp) : Prop := ∀ a o, ¬ av a → H a = some o → notTbl o = true → H' a = some o
theorem KO.sm {av : Addr → Prop} {H H' : Hp} (S : Sm H H') : KO av H H' := fun a o _ h n => S.keep a o h n
theorem KO.go {av : Addr → Prop} {b : Addr} {n : Nat} {H H' : Hp} (G : Go b n H H') (hb : av b) : KO av H H' := fun a o h e n => G.keep a o (fun z => h (z ▸ hb)) e n
theorem KO.refl {av : Addr → Prop} {H : Hp} : KO av H H := fun _ _ _ h _ => h
theorem KO.trans {av : Addr → Prop} {H H1 H2 : Hp} (x : KO av H H1) (y : KO av H1 H2) : KO av H H2 := fun a o h e n => y a o h (x a o h e n) n
theorem KO.upd {av : Addr → Prop} {H : Hp} {p : Addr} {o : HO} (hp : av p) : KO av H (upd H p o) := fun a u h e _ => by
  have ne : a ≠ p := fun z => h (by rw [z]; exact hp)
  rw [upd_ne ne]
  exact e
theorem AvL.sm {av : Addr → Prop} {H H' : Hp} (A : AvL av H) (S : Sm H H') : AvL av H' := fun a h => by
  obtain ⟨xs, e⟩ := A a h
  exact ⟨xs, S _ _ e⟩
theorem AvL.go {av : Addr → Prop} {b : Addr} {n m : Nat} {H H' : Hp} (A : AvL av H) (G : Go b n H H') (B : Bag H b m) : AvL av H' := fun a h => by
  by_cases e : a = b
  · subst e
    obtain ⟨x, y, z, q, _⟩ := G.bag _ B
    exact ⟨_, q⟩
  · obtain ⟨xs, q⟩ := A a h
    exact ⟨xs, G.keep a _ e q⟩
theorem AvL.fresh {av : Addr → Prop} {H : Hp} (A : AvL av H) {p : Addr} (h : H p = none) : ¬ av p := fun z => by
  obtain ⟨xs, e⟩ := A p z
  rw [h] at e
  cases e
/-- the addresses avoided, and one more -/
def Av1 (av : Addr → Prop) (p : Addr) : Addr → Prop := fun a => av a ∨ a = p
theorem AvL.one {av : Addr → Prop} {H : Hp} {p : Addr} {xs : List V} (A : AvL av H) (h : H p = some (.lst xs)) : AvL (Av1 av p) H := fun a z => by
  rcases z with z | rfl
  · exact A a z
  · exact ⟨xs, h⟩
/-- .. if they are there at all -/
def AvW (av : Addr → Prop) (H : Hp) : Prop := ∀ a o, av a → H a = some o → ∃ xs, o = .lst xs
theorem AvL.w {av : Addr → Prop} {H : Hp} (A : AvL av H) : AvW av H := fun a o h e => by
  obtain ⟨xs, q⟩ := A a h
  rw [e] at q
  exact ⟨xs, Option.some.inj q⟩
theorem AvW.one {av : Addr → Prop} {H : Hp} {p : Addr} (A : AvW av H) (h : H p = none) : AvW (Av1 av p) H := fun a o z e => by
  rcases z with z | rfl
  · exact A a o z e
  · rw [h] at e
    cases e
section
variable {K : PySem.W.Frag} {av av' : Addr → Prop} {n n' : Nat} {H H' : Hp}
theorem sqT_koW (A : AvW av H) (k : KO av H H') {a : Addr} {xs : List V} (h : SqT K H a xs) : SqT K H' a xs := by
  have out : ∀ {u : HO}, H a = some u → (∀ ys, u ≠ .lst ys) → ¬ av a := fun hu no z => by
    obtain ⟨ys, e⟩ := A a _ z hu
    exact no ys e
  rcases h with (h | ⟨o, h⟩) | h
  · exact .inl (.inl (k a _ (out h fun _ z => by cases z) h rfl))
  · exact .inl (.inr ⟨o, k a _ (out h fun _ z => by cases z) h rfl⟩)
  · exact .inr h
theorem sqT_ko (A : AvL av H) (k : KO av H H') {a : Addr} {xs : List V} (h : SqT K H a xs) : SqT K H' a xs := sqT_koW A.w k h
mutual
theorem Th.koW (A : AvW av H) (k : KO av H H') : ∀ {v : V} {d : D}, Th K av n H v d → Th K av n H' v d
  | _, _, .non => .non
  | _, _, .bl b => .bl b
  | _, _, .int i h => .int i h
  | _, _, .str z h1 h2 => .str z h1 h2
  | _, _, .lst h1 h2 h3 h4 => .lst (k _ _ h2 h1 rfl) h2 h3 (ThAll.koW A k h4)
  | _, _, .tup h1 h2 h3 => .tup (sqT_koW A k h1) h2 (ThAll.koW A k h3)
  | _, _, .dic h => .dic (k _ _ (fun z => by
      obtain ⟨ys, e⟩ := A _ _ z h
      cases e) h rfl)
theorem ThAll.koW (A : AvW av H) (k : KO av H H') : ∀ {vs : List V} {ds : List D}, ThAll K av n H vs ds → ThAll K av n H' vs ds
  | _, _, .nil => .nil
  | _, _, .cons h t => .cons (Th.koW A k h) (ThAll.koW A k t)
end
theorem Th.ko (A : AvL av H) (k : KO av H H') {v : V} {d : D} (h : Th K av n H v d) : Th K av n H' v d := h.koW A.w k
theorem ThAll.ko (A : AvL av H) (k : KO av H H') {vs : List V} {ds : List D} (h : ThAll K av n H vs ds) : ThAll K av n H' vs ds := h.koW A.w k
mutual
/-- other bounds, other addresses avoided -/
theorem Th.turn (hn : n ≤ n') (ha : ∀ a xs, H a = some (.lst xs) → ¬ av a → ¬ av' a) : ∀ {v : V} {d : D}, Th K av n H v d → Th K av' n' H v d
  | _, _, .non => .non
  | _, _, .bl b => .bl b
  | _, _, .int i h => .int i (by omega)
  | _, _, .str z h1 h2 => .str z (by omega) h2
  | _, _, .lst h1 h2 h3 h4 => .lst h1 (ha _ _ h1 h2) (by omega) (ThAll.turn hn ha h4)
  | _, _, .tup h1 h2 h3 => .tup h1 (by omega) (ThAll.turn hn ha h3)
  | _, _, .dic h => .dic h
theorem ThAll.turn (hn : n ≤ n') (ha : ∀ a xs, H a = some (.lst xs) → ¬ av a → ¬ av' a) : ∀ {vs : List V} {ds : List D}, ThAll K av n H vs ds → ThAll K av' n' H vs ds
  | _, _, .nil => .nil
  | _, _, .cons h t => .cons (Th.turn hn ha h) (ThAll.turn hn ha t)
end
theorem Th.mono (hn : n ≤ n') {v : V} {d : D} (h : Th K av n H v d) : Th K av n' H v d := h.turn hn fun _ _ _ z => z
theorem ThAll.mono (hn : n ≤ n') {vs : List V} {ds : List D} (h : ThAll K av n H vs ds) : ThAll K av n' H vs ds := h.turn hn fun _ _ _ z => z
/-- one more is avoided that wasn't there -/
theorem Th.more {p : Addr} (hp : H p = none) {v : V} {d : D} (h : Th K av n H v d) : Th K (Av1 av p) n H v d := h.turn (Nat.le_refl _) fun a xs e z q => by
  rcases q with q | rfl
  · exact z q
  · rw [hp] at e
    cases e
theorem ThAll.more {p : Addr} (hp : H p = none) {vs : List V} {ds : List D} (h : ThAll K av n H vs ds) : ThAll K (Av1 av p) n H vs ds := h.turn (Nat.le_refl _) fun a xs e z q => by
  rcases q with q | rfl
  · exact z q
  · rw [hp] at e
    cases e
theorem Th.less {p : Addr} {v : V} {d : D} (h : Th K (Av1 av p) n H v d) : Th K av n H v d := h.turn (Nat.le_refl _) fun a xs _ z q => z (.inl q)
theorem ThAll.less {p : Addr} {vs : List V} {ds : List D} (h : ThAll K (Av1 av p) n H vs ds) : ThAll K av n H vs ds := h.turn (Nat.le_refl _) fun a xs _ z q => z (.inl q)
theorem ThAll.len : ∀ {vs : List V} {ds : List D}, ThAll K av n H vs ds → vs.length = ds.length
  | _, _, .nil => rfl
  | _, _, .cons _ t => congrArg (· + 1) (ThAll.len t)
theorem ThAll.append {vs ws : List V} {ds es : List D} : ThAll K av n H vs ds → ThAll K av n H ws es → ThAll K av n H (vs ++ ws) (ds ++ es)
  | .nil, t => t
  | .cons h r, t => .cons h (ThAll.append r t)
theorem ThAll.at : ∀ {vs : List V} {ds : List D} {i : Nat}, ThAll K av n H vs ds → (hi : i < vs.length) → ∃ d, ds[i]? = some d ∧ Th K av n H vs[i] d
  | _, _, 0, .cons h _, _ => ⟨_, rfl, h⟩
  | _, _, i + 1, .cons _ t, hi => ThAll.at (i := i) t (by simpa using hi)
theorem ThAll.take : ∀ {vs : List V} {ds : List D} (i : Nat), ThAll K av n H vs ds → ThAll K av n H (vs.take i) (ds.take i)
  | _, _, 0, _ => by simp; exact .nil
  | _, _, i + 1, .nil => by simp; exact .nil
  | _, _, i + 1, .cons h t => .cons h (ThAll.take i t)
theorem ThAll.drop : ∀ {vs : List V} {ds : List D} (i : Nat), ThAll K av n H vs ds → ThAll K av n H (vs.drop i) (ds.drop i)
  | _, _, 0, h => by simpa using h
  | _, _, i + 1, .nil => by simp; exact .nil
  | _, _, i + 1, .cons _ t => by simpa using ThAll.drop i t
theorem ThAll.set : ∀ {vs : List V} {ds : List D} {i : Nat} {v : V} {d : D}, ThAll K av n H vs ds → Th K av n H v d → ThAll K av n H (vs.set i v) (ds.set i d)
  | _, _, 0, _, _, .cons _ t, h => .cons h t
  | _, _, i + 1, _, _, .cons a t, h => .cons a (ThAll.set t h)
  | _, _, _, _, _, .nil, _ => .nil
theorem ThAll.rev : ∀ {vs : List V} {ds : List D}, ThAll K av n H vs ds → ThAll K av n H vs.reverse ds.reverse
  | _, _, .nil => .nil
  | _, _, .cons a t => by
    rw [List.reverse_cons, List.reverse_cons]
    exact ThAll.append (ThAll.rev t) (.cons a .nil)
end
/-! ### their kinds -/
def D.ty : D → String
  | .non => "NoneType"
  | .bl _ => "bool"
  | .int _ => "int"
  | .str _ => "str"
  | .lst _ => "list"
  | .tup _ => "tuple"
  | .dic => "dict"
section
variable {K : PySem.W.Frag} {av : Addr → Prop} {n : Nat} {H : Hp}
theorem Th.tyx {v : V} {d : D} (h : Th K av n H v d) : TyX K H v (.type d.ty) := by
  cases h with
  | non => exact .base .non
  | bl b => exact .base (.bl b)
  | int i => exact .base (.int i)
  | str z => exact .base (.str z)
  | lst h => exact .base (.lst h)
  | tup h =>
    rcases h with (h | ⟨o, h⟩) | ⟨o, its, m, e, c, _⟩
    · exact .base (.tup h)
    · exact .fTuple h
    · exact .kTuple e c
  | dic h => exact .base (.dK h)
def isK (d : D) (c : String) : Bool := (kitB d.ty c).getD false
theorem isi_th {v : V} {d : D} {c : String} {Q : VK} (h : Th K av n H v d) (hk : (kitB d.ty c).isSome = true) (q : Q (.bl (isK d c)) H) : rIsi K [v, .ty c] H Q := by
  obtain ⟨r, e⟩ := Option.isSome_iff_exists.mp hk
  refine ⟨v, .ty c, _, .type c, r, rfl, ClsV.ty c, h.tyx, kit_ty e, ?_⟩
  unfold isK at q
  rw [e] at q
  exact q
theorem some_kit {c : String} (hc : (["NoneType", "bool", "int", "str", "list", "tuple", "dict"].all fun t => (kitB t c).isSome) = true) (d : D) : (kitB d.ty c).isSome = true := by
  have := List.all_eq_true.mp hc
  cases d <;> exact this _ (by simp [D.ty])
theorem kit_str (d : D) : (kitB d.ty "str").isSome = true := some_kit (by decide +kernel) d
theorem kit_int (d : D) : (kitB d.ty "int").isSome = true := some_kit (by decide +kernel) d
theorem kit_bool (d : D) : (kitB d.ty "bool").isSome = true := some_kit (by decide +kernel) d
theorem kit_list (d : D) : (kitB d.ty "list").isSome = true := some_kit (by decide +kernel) d
theorem kit_tuple (d : D) : (kitB d.ty "tuple").isSome = true := some_kit (by decide +kernel) d
end
def D.isStr : D → Bool
  | .str _ => true
  | _ => false
def D.isTup : D → Bool
  | .tup _ => true
  | _ => false
def D.isLst : D → Bool
  | .lst _ => true
  | _ => false
def D.isInt : D → Bool
  | .int _ => true
  | .bl _ => true
  | _ => false
def D.isBl : D → Bool
  | .bl _ => true
  | _ => false
theorem isK_str (d : D) : isK d "str" = d.isStr := by cases d <;> (simp only [isK, D.ty, D.isStr]; decide +kernel)
theorem isK_tup (d : D) : isK d "tuple" = d.isTup := by cases d <;> (simp only [isK, D.ty, D.isTup]; decide +kernel)
theorem isK_lst (d : D) : isK d "list" = d.isLst := by cases d <;> (simp only [isK, D.ty, D.isLst]; decide +kernel)
theorem isK_int (d : D) : isK d "int" = d.isInt := by cases d <;> (simp only [isK, D.ty, D.isInt]; decide +kernel)
theorem isK_bl (d : D) : isK d "bool" = d.isBl := by cases d <;> (simp only [isK, D.ty, D.isBl]; decide +kernel)
theorem kit_isK {K : PySem.W.Frag} {d : D} {c : String} (hk : (kitB d.ty c).isSome = true) : PySem.W.kitOne K (.type d.ty) (.type c) = some (isK d c) := by
  obtain ⟨r, e⟩ := Option.isSome_iff_exists.mp hk
  unfold isK
  rw [e]
  exact kit_ty e
theorem kitS {K : PySem.W.Frag} (d : D) : PySem.W.kitOne K (.type d.ty) (.type "str") = some d.isStr := by rw [← isK_str]; exact kit_isK (kit_str d)
theorem kitT {K : PySem.W.Frag} (d : D) : PySem.W.kitOne K (.type d.ty) (.type "tuple") = some d.isTup := by rw [← isK_tup]; exact kit_isK (kit_tuple d)
theorem kitL {K : PySem.W.Frag} (d : D) : PySem.W.kitOne K (.type d.ty) (.type "list") = some d.isLst := by rw [← isK_lst]; exact kit_isK (kit_list d)
theorem kitI {K : PySem.W.Frag} (d : D) : PySem.W.kitOne K (.type d.ty) (.type "int") = some d.isInt := by rw [← isK_int]; exact kit_isK (kit_int d)
theorem kitB' {K : PySem.W.Frag} (d : D) : PySem.W.kitOne K (.type d.ty) (.type "bool") = some d.isBl := by rw [← isK_bl]; exact kit_isK (kit_bool d)
/-! ### rules: against the empty list; isinstance of two; a tuple some times -/
section
variable {X : Cx} (K : PySem.W.Frag)
theorem isIT (h : X.K = K := by rfl) : CallR X (.builtin "isinstance") (rIsiT K) := h ▸ call_isiT
theorem repT (h : X.K = K := by rfl) : OpR X (binaryOp .Mult) (rRepT K) := h ▸ op_repT
def rEqE (K : PySem.W.Frag) : R2 := fun x y H Q => ∃ a b xs, x = .ref a ∧ y = .ref b ∧ SqL K H a xs ∧ SqL K H b [] ∧ Q (.bl xs.isEmpty) H
def rNeE (K : PySem.W.Frag) : R2 := fun x y H Q => ∃ a b xs, x = .ref a ∧ y = .ref b ∧ SqL K H a xs ∧ SqL K H b [] ∧ Q (.bl (!xs.isEmpty)) H
theorem eqE (hu : X.A.units + 64 < cLine) (h : X.K = K := by rfl) : OpR X (compareOp .Eq) (rEqE K) := by
  subst h
  intro pins s σ H x y v u Q I rx ry h
  obtain ⟨a, b, xs, rfl, rfl, hx, hy, q⟩ := h
  obtain rfl : v = Value.ref a := rx
  obtain rfl : u = Value.ref b := ry
  obtain ⟨us, r1, p1, _⟩ := I.list hx
  obtain ⟨ws, r2, p2, _⟩ := I.list hy
  cases r2
  cases r1 with
  | nil => exact SeqAt.RcAt.lists (e := fun _ => true) p1.isList p2.isList rfl (by omega) (fun j h1 _ => absurd h1 (Nat.not_lt_zero _)) X.prog X.w _ _ ⟨.bl true, H, I, rfl, q⟩
  | cons _ _ => exact SeqAt.RcAt.lists_lengths p1.isList p2.isList (by simp) (by omega) X.prog X.w _ _ ⟨.bl false, H, I, rfl, q⟩
theorem neE (hu : X.A.units + 64 < cLine) (h : X.K = K := by rfl) : OpR X (compareOp .NotEq) (rNeE K) := by
  subst h
  intro pins s σ H x y v u Q I rx ry h
  obtain ⟨a, b, xs, rfl, rfl, hx, hy, q⟩ := h
  obtain rfl : v = Value.ref a := rx
  obtain rfl : u = Value.ref b := ry
  obtain ⟨us, r1, p1, _⟩ := I.list hx
  obtain ⟨ws, r2, p2, _⟩ := I.list hy
  cases r2
  cases r1 with
  | nil => exact SeqAt.RcNeAt.lists (e := fun _ => true) p1.isList p2.isList rfl (by omega) (fun j h1 _ => absurd h1 (Nat.not_lt_zero _)) X.prog X.w _ _ ⟨.bl false, H, I, rfl, q⟩
  | cons _ _ => exact SeqAt.RcNeAt.lists_lengths p1.isList p2.isList (by simp) (by omega) X.prog X.w _ _ ⟨.bl true, H, I, rfl, q⟩
theorem pe_revK {e : Expr} {te : TE} {k : Nat} {p1 p2 p3 pos : Pos} (he : PE X e te) (h : X.K = K := by rfl) : PE X (.Subscript e (.Slice none none (some (.UnaryOp .USub (.Constant (.int 1) k p1) p2)) p3) pos) (tRevL K te) := h ▸ pe_revL he
end
/-! ### what is a worth, a key, a name, a row of keys, a reference: of things of any kind -/
def wD : D → Bool
  | .str z => (tl z).all sgn
  | _ => false
def lenD : D → Nat
  | .str z => (tl z).length
  | .tup l => l.length
  | _ => 0
def kD (d : D) : Bool := wD d && (decide (1 ≤ lenD d) && decide (lenD d ≤ 40))
def nD : D → Bool
  | .str z => (decide (1 ≤ (tl z).length) && decide ((tl z).length ≤ 8)) && (tl z).all AZ
  | _ => false
def rowD : D → Bool
  | .tup l => decide (l.length ≤ 6) && l.all kD
  | _ => false
def refD : D → Bool
  | .tup [x, y] => nD x && rowD y
  | _ => false
def spD (f : D → Bool) (K : PySem.W.Frag) (cs : Tabs) : Sp := fun vs H Q _ => ∃ (v : V) (d : D) (n : Nat) (av : Addr → Prop), vs = [v] ∧ Th K av n H v d ∧ AvL av H ∧ n ≤ 10 ∧ TGs H cs ∧ ∀ H', Sm H H' → Q (.bl (f d)) H'
theorem str_of {K : PySem.W.Frag} {av : Addr → Prop} {n : Nat} {H : Hp} {v : V} {d : D} (h : Th K av n H v d) (c : d.isStr = true) : ∃ z, v = .str z ∧ d = .str z ∧ (tl z).length ≤ 400 + n ∧ ∀ c ∈ tl z, c < 128 := by
  cases h with
  | str z h1 h2 => exact ⟨z, rfl, rfl, h1, h2⟩
  | _ => cases c
theorem tup_of {K : PySem.W.Frag} {av : Addr → Prop} {n : Nat} {H : Hp} {v : V} {d : D} (h : Th K av n H v d) (c : d.isTup = true) : ∃ a xs ds, v = .ref a ∧ d = .tup ds ∧ SqT K H a xs ∧ xs.length ≤ 40 + n ∧ ThAll K av n H xs ds := by
  cases h with
  | tup h1 h2 h3 => exact ⟨_, _, _, rfl, rfl, h1, h2, h3⟩
  | _ => cases c
theorem lt1 (a b : Nat) : decide ([a] < [b]) = decide (a < b) := by
  by_cases h : a < b
  · rw [decide_eq_true h]
    exact decide_eq_true (List.Lex.rel h)
  · rw [decide_eq_false h]
    refine decide_eq_false fun c => h ?_
    cases c with
    | rel q => exact q
    | cons q => cases q
theorem two_of {K : PySem.W.Frag} {av : Addr → Prop} {n : Nat} {H : Hp} {xs : List V} {ds : List D} (h : ThAll K av n H xs ds) (hl : lenD (.tup ds) = 2) : ∃ x y, xs = [x, y] ∧ ∃ d e, ds = [d, e] ∧ Th K av n H x d ∧ Th K av n H y e := by
  have hl : ds.length = 2 := hl
  cases h with
  | nil => cases hl
  | cons h1 t =>
    cases t with
    | nil => cases hl
    | cons h2 t =>
      cases t with
      | nil => exact ⟨_, _, rfl, _, _, rfl, h1, h2⟩
      | cons h3 t => simp at hl
/-- all(.. for x in tuple) -/
theorem all_tup {K : PySem.W.Frag} {av : Addr → Prop} {n : Nat} {p a : Addr} {te0 te : TE} {i : Nat} {σ : L2.St} {H : Hp} {Q : VK} {xs : List V} {ds : List D} (pb : D → Bool) (A1 : AvL av H) (h1 : SqT K H a xs) (hx : ThAll K av n H xs ds) (h0 : ∀ R : VK, R (.ref a) H → te0 σ H R) (ht : Tb H p)
    (he : ∀ (x : V) (d : D) (H2 : Hp) (R : VK), Th K av n H2 x d → Sm H H2 → (∀ H3, Sm H2 H3 → R (.bl (pb d)) H3) → te ((σ.set i none).set i (some x)) H2 R) (q : ∀ H', Sm H H' → Q (.bl (ds.all pb)) H') : GA.tAllG p (iTup K te0) (gName i) te [i] σ H Q := by
  refine h0 _ ⟨a, rfl, ⟨xs, h1⟩, ht, fun H2 hT => ?_⟩
  have S2 : Sm H H2 := hT
  refine ⟨fun j m H' => Sm H H' ∧ j ≤ ds.length ∧ m = ds.length - j ∧ ∀ k d, k < j → ds[k]? = some d → pb d = true, ⟨_, S2, Nat.zero_le _, rfl, fun k c hk => absurd hk (Nat.not_lt_zero _)⟩, fun j m H' hw => ?_⟩
  obtain ⟨S, hj, rfl, hp⟩ := hw
  have len := hx.len
  by_cases hlt : j < ds.length
  · have hlx : j < xs.length := by omega
    obtain ⟨d, hd, hth⟩ := hx.at hlx
    refine .inr ⟨⟨xs, xs[j], Sm.seqT S h1, List.getElem?_eq_getElem hlx⟩, fun H'' => Sm H H'' ∧ pb d = true, fun H'' h => ⟨_, ?_, h.1, by omega, rfl, fun k c hk hc => ?_⟩, fun x H'' hy => ?_⟩
    · omega
    · by_cases e : k = j
      · subst e
        rw [hd] at hc
        rw [← Option.some.inj hc]
        exact h.2
      · exact hp k c (by omega) hc
    · obtain ⟨rfl, hy⟩ := hy
      have hxj := hy xs (Sm.seqT S h1)
      rw [List.getElem?_eq_getElem hlx] at hxj
      have ex := Option.some.inj hxj
      rw [ex] at hth
      refine ⟨?_, ?_⟩
      · show ((σ.set i none).set i (some x)).set i none = σ.set i none
        rw [List.set_set, List.set_set]
      · refine he x d H'' _ (hth.ko A1 (KO.sm S)) S fun H3 S3 => ⟨_, rfl, ?_⟩
        refine ite2 (fun e => ?_) (fun e => ?_)
        · exact ⟨S.trans S3, e⟩
        · have : ds.all pb = false := by
            cases q' : ds.all pb with
            | false => rfl
            | true => exact absurd (List.all_eq_true.mp q' d (List.mem_of_getElem? hd)) e
          have := this ▸ q H3 (S.trans S3)
          exact this
  · refine .inl ⟨⟨xs, Sm.seqT S h1, by omega⟩, ?_⟩
    have : ds.all pb = true := List.all_eq_true.mpr fun c hc => by
      obtain ⟨k, hk, e⟩ := List.mem_iff_getElem.mp hc
      exact hp k c (by omega) (by rw [List.getElem?_eq_getElem hk, e])
    have := this ▸ q H' S
    exact this
section
variable {P : Program} {w : World} {K : PySem.W.Frag} {mg : Str → Option Value} {base : Heap} {cs : Tabs}
theorem ok_is_worth (T : Txt K mg cs) (B : TBs base mg cs) : Cal P w K mg base 2 "is_worth" ["thing"] (spD wD K cs) := by
  refine T.f_is_worth.cal scIsWorth (fun vs H Q E h => ?_) (fun f A outer s H vs Q E hr h => ?_)
  · obtain ⟨v, d, n, av, rfl, _⟩ := h
    rfl
  obtain ⟨v, d, n, av, rfl, h, A1, hn, ht, q⟩ := h
  refine ⟨_, (pss_one (ps_ret (pe_and (pe_callB (isI K) rfl T.n_isinstance (by decide +kernel) (pa_cons (pv 0) (pa_cons (pe_bltn (v := .ty "str") rfl T.n_str (by decide +kernel) rfl) pa_nil))) (pe_one (GA.pe_allG (k := 0) (own := [("sign", 1)]) (g := gName 1) (hr.mono (by decide)) B.b_is_worth scIsWorth.nd (blkOk_by (own := [("sign", 1)]) (N := ["thing", "sign"]) (sc := defScope sIsWorth) (by decide +kernel)) (by decide +kernel) (pi_str (pv 0)) T.n_all (fun _ _ _ _ _ _ _ _ => (pg_name (i := 1) scIsWorth.nd rfl (by first | exact Or.inl rfl | exact Or.inr rfl))) (fun _ _ _ _ _ _ _ hr => (pe_and (pe_chain op_le_str op_le_str pe_str (pv 1) pe_str) (pe_one (pe_cmpR op_ne (pe_callB call_ord rfl T.n_ord (by decide +kernel) (pa_cons (pv 1) pa_nil)) (C8.pe_gc rfl T.g__PERCENT) (nomark _)))))))))), ?_⟩
  refine ⟨_, rfl, _, _, _, _, _, rfl, ClsV.ty "str", h.tyx, kitS d, _, rfl, ?_⟩
  refine ite2 (fun c => ?_) (fun c => ?_)
  · obtain ⟨z, rfl, rfl, hl, ha⟩ := str_of h c
    refine all_signs (i := 1) (z := z) sgn (fun R h => ⟨_, rfl, h⟩) ht.t_is_worth (fun c H2 R hc _ hR => ?_) q
    refine ⟨_, rfl, _, _, rfl, rfl, _, rfl, ?_⟩
    have e1 : (!decide (([c] : List Nat) < tl (" " : Str))) = decide (32 ≤ c) := by
      rw [show tl (" " : Str) = [32] by decide +kernel, lt1]
      by_cases h : 32 ≤ c
      · rw [decide_eq_true h, decide_eq_false (by omega)]; rfl
      · rw [decide_eq_false h, decide_eq_true (by omega)]; rfl
    have e2 : (!decide (tl ("~" : Str) < ([c] : List Nat))) = decide (c ≤ 126) := by
      rw [show tl ("~" : Str) = [126] by decide +kernel, lt1]
      by_cases h : c ≤ 126
      · rw [decide_eq_true h, decide_eq_false (by omega)]; rfl
      · rw [decide_eq_false h, decide_eq_true (by omega)]; rfl
    have no : ∀ {b : Bool}, sgn c = b → b = false → R (.bl false) H2 := fun e1 e2 => by
      have := hR H2 (Sm.refl H2)
      rw [e1, e2] at this
      exact this
    have s0 : sgn c = (decide (32 ≤ c) && (decide (c ≤ 126) && !decide (c = 37))) := rfl
    refine ite2 (fun c1 => ?_) (fun c1 => ?_)
    · have c1' : decide (32 ≤ c) = true := e1 ▸ c1
      refine ⟨_, _, rfl, rfl, _, rfl, ?_⟩
      refine ite2 (fun c2 => ?_) (fun c2 => ?_)
      · have c2' : decide (c ≤ 126) = true := e2 ▸ c2
        refine ⟨_, rfl, ⟨#[c]⟩, rfl, rfl, rfl, ?_⟩
        have e3 : (!decide (V.int (((⟨#[c]⟩ : Str).cps.getD 0 0 : Nat) : Int) = V.int 37)) = sgn c := by
          rw [s0, c1', c2', Bool.true_and, Bool.true_and]
          show (!decide (V.int (c : Int) = V.int 37)) = !decide (c = 37)
          by_cases h : c = 37
          · subst h; rfl
          · rw [decide_eq_false h, decide_eq_false]
            intro e
            injection e with e
            exact h (by omega)
        have := hR H2 (Sm.refl H2)
        rw [← e3] at this
        exact this
      · refine no s0 ?_
        have c2' : ¬ decide (c ≤ 126) = true := e2 ▸ c2
        rw [Bool.eq_false_iff.mpr c2', Bool.false_and, Bool.and_false]
    · refine ⟨_, rfl, iteF (no s0 ?_)⟩
      have c1' : ¬ decide (32 ≤ c) = true := e1 ▸ c1
      rw [Bool.eq_false_iff.mpr c1', Bool.false_and]
  · have : wD d = false := by
      cases d <;> first | rfl | exact absurd rfl c
    have q' := q H (Sm.refl H)
    rw [this] at q'
    exact q'
theorem ok_is_key (T : Txt K mg cs) (Cis_worth : Cal P w K mg base 2 "is_worth" ["thing"] (spD wD K cs)) : Cal P w K mg base 3 "is_key" ["thing"] (spD kD K cs) := by
  refine T.f_is_key.cal scIsKey (fun vs H Q E h => ?_) (fun f cdv A outer s H vs Q E hr h => ?_)
  · obtain ⟨v, d, n, av, rfl, _⟩ := h
    rfl
  obtain ⟨v, d, n, av, rfl, h, A1, hn, ht, q⟩ := h
  refine ⟨_, (pss_one (ps_ret (pe_and (pe_cal Cis_worth (hr.mono (by first | decide | omega)) (pa_cons (pv 0) pa_nil)) (pe_one (pe_chain op_le op_le pe_int (pe_callB lenT rfl T.n_len (by decide +kernel) (pa_cons (pv 0) pa_nil)) (C8.pe_gc rfl T.g__LONGEST_KEY)))))), ?_⟩
  refine ⟨_, rfl, v, d, n, av, rfl, h, A1, hn, ht, fun H1 S1 => ⟨_, rfl, ?_⟩⟩
  have q := q H1 S1
  refine ite2 (fun c => ?_) (fun c => ?_)
  · obtain ⟨z, rfl, rfl, hl, ha⟩ := str_of h (by cases d <;> first | rfl | cases c)
    have ez : z.length = (tl z).length := len_tl z
    have zl : z.length ≤ sizeLine := by rw [ez]; exact small (by omega)
    have e : kD (.str z) = (decide ((1 : Int) ≤ z.length) && decide ((z.length : Int) ≤ 40)) := by
      unfold kD
      rw [c, Bool.true_and]
      show (decide (1 ≤ (tl z).length) && decide ((tl z).length ≤ 40)) = _
      rw [ez]
      congr 1 <;> (rw [decide_eq_decide]; omega)
    rw [e] at q
    refine ⟨_, rfl, z, rfl, zl, _, _, rfl, rfl, _, rfl, ?_⟩
    refine ite2 (fun c1 => ?_) (fun c1 => ?_)
    · rw [c1, Bool.true_and] at q
      exact ⟨_, _, rfl, rfl, q⟩
    · rw [Bool.eq_false_iff.mpr c1, Bool.false_and] at q
      exact q
  · have : kD d = false := by
      unfold kD
      rw [Bool.eq_false_iff.mpr c, Bool.false_and]
    rw [this] at q
    exact q
theorem ok_is_name (T : Txt K mg cs) (B : TBs base mg cs) : Cal P w K mg base 2 "is_name" ["thing"] (spD nD K cs) := by
  refine T.f_is_name.cal scIsName (fun vs H Q E h => ?_) (fun f A outer s H vs Q E hr h => ?_)
  · obtain ⟨v, d, n, av, rfl, _⟩ := h
    rfl
  obtain ⟨v, d, n, av, rfl, h, A1, hn, ht, q⟩ := h
  refine ⟨_, (pss_cons (ps_if (PW.pt (pw_or (pt_not (pt_val (pe_callB (isI K) rfl T.n_isinstance (by decide +kernel) (pa_cons (pv 0) (pa_cons (pe_bltn (v := .ty "str") rfl T.n_str (by decide +kernel) rfl) pa_nil))))) (pw_or1 (pt_not (pt_chain op_le op_le pe_int (pe_callB lenT rfl T.n_len (by decide +kernel) (pa_cons (pv 0) pa_nil)) (C8.pe_gc rfl T.g__LONGEST_NAME)))))) (pss_one (ps_ret pe_bl)) pss_nil)
    (pss_one (ps_ret (GA.pe_allG (k := 0) (own := [("sign", 1)]) (g := gName 1) (hr.mono (by decide)) B.b_is_name scIsName.nd (blkOk_by (own := [("sign", 1)]) (N := ["thing", "sign"]) (sc := defScope sIsName) (by decide +kernel)) (by decide +kernel) (pi_str (pv 0)) T.n_all (fun _ _ _ _ _ _ _ _ => (pg_name (i := 1) scIsName.nd rfl (by first | exact Or.inl rfl | exact Or.inr rfl))) (fun _ _ _ _ _ _ _ hr => (pe_chain op_le_str op_le_str pe_str (pv 1) pe_str)))))), ?_⟩
  dsimp only [gName, tSeq, tAsg, tRet, tDrop, tNext, tOp, tIfS, tTest]
  refine ⟨_, rfl, _, _, _, _, _, rfl, ClsV.ty "str", h.tyx, kitS d, _, rfl, ?_⟩
  cases hs : d.isStr with
  | false =>
    refine iteT ?_
    have : nD d = false := by
      cases d <;> first | rfl | cases hs
    have q' := q H (Sm.refl H)
    rw [this] at q'
    exact q'
  | true =>
    refine iteF ?_
    obtain ⟨z, rfl, rfl, hl, ha⟩ := str_of h hs
    have ez : z.length = (tl z).length := len_tl z
    have zl : z.length ≤ sizeLine := by rw [ez]; exact small (by omega)
    have e : nD (.str z) = ((decide ((1 : Int) ≤ z.length) && decide ((z.length : Int) ≤ 8)) && (tl z).all AZ) := by
      show ((decide (1 ≤ (tl z).length) && decide ((tl z).length ≤ 8)) && (tl z).all AZ) = _
      rw [ez]
      congr 2 <;> (rw [decide_eq_decide]; omega)
    rw [e] at q
    refine ⟨_, rfl, z, rfl, zl, _, _, rfl, rfl, _, rfl, ?_⟩
    refine ite2 (fun c1 => ?_) (fun c1 => ?_)
    · rw [c1, Bool.true_and] at q
      refine ⟨_, _, rfl, rfl, _, rfl, ?_⟩
      refine ite2 (fun c2 => ?_) (fun c2 => ?_)
      · have c2' : decide ((z.length : Int) ≤ 8) = false := by simpa using c2
        rw [c2', Bool.false_and] at q
        exact q H (Sm.refl H)
      · have c2' : decide ((z.length : Int) ≤ 8) = true := by
          cases e : decide ((z.length : Int) ≤ 8) with
          | true => rfl
          | false => exact absurd (by rw [e]; rfl) c2
        rw [c2', Bool.true_and] at q
        refine all_signs (i := 1) (z := z) AZ (fun R h => ⟨_, rfl, h⟩) ht.t_is_name (fun c H2 R hc _ hR => ?_) q
        have s0 : AZ c = (decide (97 ≤ c) && decide (c ≤ 122)) := rfl
        have e1 : (!decide (([c] : List Nat) < tl ("a" : Str))) = decide (97 ≤ c) := by
          rw [show tl ("a" : Str) = [97] by decide +kernel, lt1]
          by_cases h : 97 ≤ c
          · rw [decide_eq_true h, decide_eq_false (by omega)]; rfl
          · rw [decide_eq_false h, decide_eq_true (by omega)]; rfl
        have e2 : (!decide (tl ("z" : Str) < ([c] : List Nat))) = decide (c ≤ 122) := by
          rw [show tl ("z" : Str) = [122] by decide +kernel, lt1]
          by_cases h : c ≤ 122
          · rw [decide_eq_true h, decide_eq_false (by omega)]; rfl
          · rw [decide_eq_false h, decide_eq_true (by omega)]; rfl
        have hR := hR H2 (Sm.refl H2)
        rw [s0, ← e1, ← e2] at hR
        refine ⟨_, rfl, _, _, rfl, rfl, _, rfl, ?_⟩
        refine ite2 (fun c1 => ?_) (fun c1 => ?_)
        · have c1' : (!decide (([c] : List Nat) < tl ("a" : Str))) = true := c1
          rw [c1', Bool.true_and] at hR
          exact ⟨_, _, rfl, rfl, hR⟩
        · have c1' : ¬ (!decide (([c] : List Nat) < tl ("a" : Str))) = true := c1
          rw [Bool.eq_false_iff.mpr c1', Bool.false_and] at hR
          exact hR
    · rw [Bool.eq_false_iff.mpr c1, Bool.false_and, Bool.false_and] at q
      exact ⟨_, rfl, iteT (q H (Sm.refl H))⟩
theorem ok_is_pair (T : Txt K mg cs) : Cal P w K mg base 1 "is_pair" ["thing"] (spD (fun d => d.isTup && decide (lenD d = 2)) K cs) := by
  refine T.f_is_pair.cal scIsPair (fun vs H Q E h => ?_) (fun f cdv A outer s H vs Q E hr h => ?_)
  · obtain ⟨v, d, n, av, rfl, _⟩ := h
    rfl
  obtain ⟨v, d, n, av, rfl, h, A1, hn, ht, q⟩ := h
  refine ⟨_, (pss_one (ps_ret (pe_and (pe_callB (isI K) rfl T.n_isinstance (by decide +kernel) (pa_cons (pv 0) (pa_cons (pe_bltn (v := .ty "tuple") rfl T.n_tuple (by decide +kernel) rfl) pa_nil))) (pe_one (pe_cmpR op_eq (pe_callB (lenQ K) rfl T.n_len (by decide +kernel) (pa_cons (pv 0) pa_nil)) pe_int (nomark _)))))), ?_⟩
  refine ⟨_, rfl, _, _, _, _, _, rfl, ClsV.ty "tuple", h.tyx, kitT d, _, rfl, ?_⟩
  have q : Q (.bl (d.isTup && decide (lenD d = 2))) H := q H (Sm.refl H)
  refine ite2 (fun c => ?_) (fun c => ?_)
  · obtain ⟨a, xs, ds, rfl, rfl, h1, h2, h3⟩ := tup_of h c
    refine ⟨_, rfl, a, xs, rfl, .inr h1, rfl, ?_⟩
    have e : decide (V.int (xs.length : Int) = V.int 2) = ((D.tup ds).isTup && decide (lenD (.tup ds) = 2)) := by
      show _ = (true && decide (ds.length = 2))
      rw [Bool.true_and, decide_eq_decide, ← h3.len]
      exact ⟨fun e => by injection e with e; omega, fun e => by rw [e]; rfl⟩
    rw [e]
    exact q
  · rw [Bool.eq_false_iff.mpr c, Bool.false_and] at q
    exact q
theorem ok_is_row (T : Txt K mg cs) (B : TBs base mg cs) (Cis_key : Cal P w K mg base 3 "is_key" ["thing"] (spD kD K cs)) : Cal P w K mg base 5 "is_row" ["thing"] (spD rowD K cs) := by
  refine T.f_is_row.cal scIsRow (fun vs H Q E h => ?_) (fun f A outer s H vs Q E hr h => ?_)
  · obtain ⟨v, d, n, av, rfl, _⟩ := h
    rfl
  obtain ⟨v, d, n, av, rfl, h, A1, hn, ht, q⟩ := h
  refine ⟨_, (pss_one (ps_ret (pe_and (pe_callB (isI K) rfl T.n_isinstance (by decide +kernel) (pa_cons (pv 0) (pa_cons (pe_bltn (v := .ty "tuple") rfl T.n_tuple (by decide +kernel) rfl) pa_nil))) (pe_and (pe_cmpR op_le (pe_callB (lenQ K) rfl T.n_len (by decide +kernel) (pa_cons (pv 0) pa_nil)) (C8.pe_gc rfl T.g_MOST_KEYS) (nomark _)) (pe_one (GA.pe_allG (k := 3) (own := [("key", 1)]) (g := gName 1) (hr.mono (by decide)) B.b_is_row scIsRow.nd (blkOk_by (own := [("key", 1)]) (N := ["thing", "key"]) (sc := defScope sIsRow) (by decide +kernel)) (by decide +kernel) (pi_tup (pv 0)) T.n_all (fun _ _ _ _ _ _ _ _ => (pg_name (i := 1) scIsRow.nd rfl (by first | exact Or.inl rfl | exact Or.inr rfl))) (fun _ _ _ _ _ _ _ hr => (pe_cal Cis_key (hr.mono (by first | decide | omega)) (pa_cons (pv 1) pa_nil))))))))), ?_⟩
  refine ⟨_, rfl, _, _, _, _, _, rfl, ClsV.ty "tuple", h.tyx, kitT d, _, rfl, ?_⟩
  refine ite2 (fun c => ?_) (fun c => ?_)
  · obtain ⟨a, xs, ds, rfl, rfl, h1, h2, h3⟩ := tup_of h c
    have e : rowD (.tup ds) = (decide ((xs.length : Int) ≤ 6) && ds.all kD) := by
      show (decide (ds.length ≤ 6) && ds.all kD) = _
      rw [← h3.len]
      congr 1
      rw [decide_eq_decide]
      omega
    rw [e] at q
    refine ⟨_, rfl, a, xs, rfl, .inr h1, _, _, rfl, rfl, _, rfl, ?_⟩
    refine ite2 (fun c1 => ?_) (fun c1 => ?_)
    · rw [c1, Bool.true_and] at q
      refine all_tup (i := 1) (a := a) (xs := xs) (ds := ds) kD A1 h1 h3 (fun R h => ⟨_, rfl, h⟩) ht.t_is_row (fun x d H2 R hd S hR => ?_) q
      exact ⟨_, rfl, x, d, n, av, rfl, hd, A1.sm S, hn, ht.sm S, hR⟩
    · rw [Bool.eq_false_iff.mpr c1, Bool.false_and] at q
      exact q H (Sm.refl H)
  · have : rowD d = false := by
      cases d <;> first | rfl | exact absurd rfl c
    have q' := q H (Sm.refl H)
    rw [this] at q'
    exact q'
theorem ok_is_reference (T : Txt K mg cs) (Cis_pair : Cal P w K mg base 1 "is_pair" ["thing"] (spD (fun d => d.isTup && decide (lenD d = 2)) K cs)) (Cis_name : Cal P w K mg base 2 "is_name" ["thing"] (spD nD K cs)) (Cis_row : Cal P w K mg base 5 "is_row" ["thing"] (spD rowD K cs)) :
    Cal P w K mg base 6 "is_reference" ["thing"] (spD refD K cs) := by
  refine T.f_is_reference.cal scIsReference (fun vs H Q E h => ?_) (fun f cdv A outer s H vs Q E hr h => ?_)
  · obtain ⟨v, d, n, av, rfl, _⟩ := h
    rfl
  obtain ⟨v, d, n, av, rfl, h, A1, hn, ht, q⟩ := h
  refine ⟨_, (pss_one (ps_ret (pe_and (pe_cal Cis_pair (hr.mono (by first | decide | omega)) (pa_cons (pv 0) pa_nil)) (pe_and (pe_cal Cis_name (hr.mono (by first | decide | omega)) (pa_cons (pe_ix (ixT K) (pv 0) pe_int (fun _ _ => rfl)) pa_nil)) (pe_one (pe_cal Cis_row (hr.mono (by first | decide | omega)) (pa_cons (pe_ix (ixT K) (pv 0) pe_int (fun _ _ => rfl)) pa_nil))))))), ?_⟩
  refine ⟨_, rfl, v, d, n, av, rfl, h, A1, hn, ht, fun H1 S1 => ⟨_, rfl, ?_⟩⟩
  refine ite2 (fun c => ?_) (fun c => ?_)
  · have c := (Bool.and_eq_true _ _).mp c
    obtain ⟨a, xs, ds, rfl, rfl, h1, h2, h3⟩ := tup_of h c.1
    obtain ⟨x, y, rfl, d1, d2, rfl, hx, hy⟩ := two_of h3 (of_decide_eq_true c.2)
    refine ⟨_, rfl, a, _, 0, x, rfl, rfl, Sm.seqT S1 h1, rfl, x, d1, n, av, rfl, hx.ko A1 (KO.sm S1), A1.sm S1, hn, ht.sm S1, fun H2 S2 => ⟨_, rfl, ?_⟩⟩
    have S12 := S1.trans S2
    refine ite2 (fun c1 => ?_) (fun c1 => ?_)
    · refine ⟨_, rfl, a, _, 1, y, rfl, rfl, Sm.seqT S12 h1, rfl, y, d2, n, av, rfl, hy.ko A1 (KO.sm S12), A1.sm S12, hn, ht.sm S12, fun H3 S3 => ?_⟩
      have := q H3 (S12.trans S3)
      have e : refD (.tup [d1, d2]) = rowD d2 := by
        show (nD d1 && rowD d2) = _
        rw [c1, Bool.true_and]
      rw [e] at this
      exact this
    · have := q H2 S12
      have e : refD (.tup [d1, d2]) = false := by
        show (nD d1 && rowD d2) = _
        rw [Bool.eq_false_iff.mpr c1, Bool.false_and]
      rw [e] at this
      exact this
  · have : refD d = false := by
      unfold refD
      split
      · exact absurd rfl c
      · rfl
    have q' := q H1 S1
    rw [this] at q'
    exact q'
end
/-! ### texts, keys and references as things -/
theorem WT.asc {z : Str} {n : Nat} (h : WT z n) : ∀ c ∈ tl z, c < 128 := fun c hc => by
  have q := h.sg c hc
  unfold sgn at q
  rw [Bool.and_eq_true, Bool.and_eq_true] at q
  have := of_decide_eq_true q.2.1
  omega
theorem th_keys {K : PySem.W.Frag} {av : Addr → Prop} {n : Nat} {H : Hp} : ∀ {ks : List Str}, (∀ z ∈ ks, KEY z) → ThAll K av n H (ks.map V.str) (ks.map D.str)
  | [], _ => .nil
  | z :: r, h => .cons (.str z (by have := (h z List.mem_cons_self).wt.len; omega) (h z List.mem_cons_self).wt.asc) (th_keys fun y hy => h y (List.mem_cons_of_mem _ hy))
theorem th_ref {K : PySem.W.Frag} {av : Addr → Prop} {n : Nat} {H : Hp} {p : Addr} {nm : Str} {ks : List Str} (R : RefAt K H p nm ks) (O : REF nm ks) : Th K av n H (.ref p) (.tup [.str nm, .tup (ks.map D.str)]) := by
  obtain ⟨t, h1, h2⟩ := R.ex
  have hn : ∀ c ∈ tl nm, c < 128 := fun c hc => by
    have q := O.nm.sg c hc
    unfold AZ at q
    rw [Bool.and_eq_true] at q
    have := of_decide_eq_true q.2
    omega
  refine .tup h1 (by show 2 ≤ 40 + n; omega) (.cons (.str nm (by have := O.nm.len; omega) hn) (.cons (.tup h2 ?_ (th_keys O.ks)) .nil))
  rw [List.length_map]
  have := O.le
  omega
/-! ### arrays -/
/-- the arrays at arr have the tree S -/
structure ArrAt (cs : Tabs) (H : Hp) (arr : Addr) (S : Sh) (m : Nat) : Prop where
  it : ∃ (dx : Addr) (n : Nd), H arr = some (.ins cs.a_Arrays dx [("_tree", .ref n.a)]) ∧ S.N [] = some n
  th : TreeH cs.a_Tree H S m
  ok : ShOk S
  full : Full S
theorem ArrAt.apart {cs : Tabs} {H : Hp} {arr : Addr} {S : Sh} {m : Nat} (A : ArrAt cs H arr S m) (ne : cs.a_Arrays ≠ cs.a_Tree) : ¬ Own S arr := fun z => by
  obtain ⟨dx, n, h, _⟩ := A.it
  obtain ⟨p, x, e, z⟩ := z
  have B := A.th.at_ p x e
  obtain ⟨kvs, g, _⟩ := B.dic
  rcases z with rfl | rfl | rfl
  · rw [B.ins] at h
    injection h with h
    injection h with h
    exact ne h.symm
  · rw [B.row] at h; cases h
  · rw [g] at h; cases h
theorem ArrAt.keep {cs : Tabs} {H H' : Hp} {arr : Addr} {S : Sh} {m : Nat} (A : ArrAt cs H arr S m) (k : ∀ a o, (Own S a ∨ a = arr) → H a = some o → notTbl o = true → H' a = some o) : ArrAt cs H' arr S m := by
  obtain ⟨dx, n, h, hn⟩ := A.it
  exact ⟨⟨dx, n, k _ _ (.inr rfl) h rfl, hn⟩, A.th.keep fun a o h => k a o (.inl h), A.ok, A.full⟩
theorem ArrAt.sm {cs : Tabs} {H H' : Hp} {arr : Addr} {S : Sh} {m : Nat} (A : ArrAt cs H arr S m) (s : Sm H H') : ArrAt cs H' arr S m := A.keep fun a o _ h n => s.keep a o h n
theorem ArrAt.ch {cs : Tabs} {W : Addr → Prop} {H H' : Hp} {arr : Addr} {S : Sh} {m : Nat} (A : ArrAt cs H arr S m) (c : Ch W H H') (w : ∀ a, Own S a ∨ a = arr → ¬ W a) : ArrAt cs H' arr S m := A.keep fun a o h e n => c.keep0 a o (w a h) e n
theorem TGs.ch {W : Addr → Prop} {H H' : Hp} {cs : Tabs} (t : TGs H cs) (c : Ch W H H') : TGs H' cs := TGs.tabs t c.tab
/-- references: both tuples are tracked -/
structure RefT (H : Hp) (p : Addr) (nm : Str) (ks : List Str) : Prop where
  ex : ∃ t, H p = some (.tup [.str nm, .ref t]) ∧ H t = some (.tup (ks.map V.str))
theorem RefT.at_ {K : PySem.W.Frag} {H : Hp} {p : Addr} {nm : Str} {ks : List Str} (R : RefT H p nm ks) : RefAt K H p nm ks := by
  obtain ⟨t, h1, h2⟩ := R.ex
  exact ⟨t, SqT.of h1, SqT.of h2⟩
theorem RefT.keep {H H' : Hp} {p : Addr} {nm : Str} {ks : List Str} (R : RefT H p nm ks) (k : ∀ a vs, H a = some (.tup vs) → H' a = some (.tup vs)) : RefT H' p nm ks := by
  obtain ⟨t, h1, h2⟩ := R.ex
  exact ⟨t, k _ _ h1, k _ _ h2⟩
def spNeedRef (K : PySem.W.Frag) (cs : Tabs) : Sp := fun vs H Q _ => ∃ (p : Addr) (nm : Str) (ks : List Str), vs = [.ref p] ∧ RefAt K H p nm ks ∧ REF nm ks ∧ TGs H cs ∧ ∀ H', Sm H H' → Q .non H'
def spNeedWorth (cs : Tabs) : Sp := fun vs H Q _ => ∃ z : Str, vs = [.str z] ∧ WT z 400 ∧ TGs H cs ∧ ∀ H', Sm H H' → Q .non H'
def spPath (K : PySem.W.Frag) : Sp := fun vs H Q _ => ∃ (p : Addr) (nm : Str) (ks : List Str), vs = [.ref p] ∧ RefAt K H p nm ks ∧ ks.length ≤ 1000 ∧ ∀ t H', Sm H H' → H' t = some (.tup ((nm :: ks).map V.str)) → Q (.ref t) H'
theorem all_true {α : Type} {p : α → Bool} : ∀ {l : List α}, (∀ x ∈ l, p x = true) → l.all p = true := fun h => List.all_eq_true.mpr h
theorem ref_true {nm : Str} {ks : List Str} (O : REF nm ks) : refD (.tup [.str nm, .tup (ks.map D.str)]) = true := by
  show (((decide (1 ≤ (tl nm).length) && decide ((tl nm).length ≤ 8)) && (tl nm).all AZ) && (decide ((ks.map D.str).length ≤ 6) && (ks.map D.str).all kD)) = true
  rw [decide_eq_true O.nm.pos, decide_eq_true O.nm.len, all_true O.nm.sg, List.length_map, decide_eq_true O.le, all_true fun d hd => ?_]
  · rfl
  · obtain ⟨z, hz, rfl⟩ := List.mem_map.mp hd
    have kz := O.ks z hz
    show ((tl z).all sgn && (decide (1 ≤ (tl z).length) && decide ((tl z).length ≤ 40))) = true
    rw [all_true kz.wt.sg, decide_eq_true kz.pos, decide_eq_true kz.wt.len]
    rfl
section
variable {P : Program} {w : World} {K : PySem.W.Frag} {mg : Str → Option Value} {base : Heap} {cs : Tabs}
theorem ne_arr (T : Txt K mg cs) : cs.a_Arrays ≠ cs.a_Tree := fun z => by
  have h := T.nc
  rw [z] at h
  simp at h
theorem ok_need_reference (T : Txt K mg cs) (Cis_reference : Cal P w K mg base 6 "is_reference" ["thing"] (spD refD K cs)) : Cal P w K mg base 7 "need_reference" ["thing"] (spNeedRef K cs) := by
  refine T.f_need_reference.cal scNeedReference (fun vs H Q E h => ?_) (fun f cdv A outer s H vs Q E hr h => ?_)
  · obtain ⟨p, nm, ks, rfl, _⟩ := h
    rfl
  obtain ⟨p, nm, ks, rfl, R, O, hT, q⟩ := h
  refine ⟨_, (pss_one (ps_if (pt_not (pt_val (pe_cal Cis_reference (hr.mono (by first | decide | omega)) (pa_cons (pv 0) pa_nil)))) (pss_one ps_dead) pss_nil)), ?_⟩
  refine run_ifE ⟨_, rfl, .ref p, _, 0, fun _ => False, rfl, th_ref R O, fun _ z => z.elim, by decide, hT, fun H1 S1 => ⟨_, rfl, ?_⟩⟩
  rw [ref_true O]
  exact iteF (q H1 S1)
theorem ok_need_worth (T : Txt K mg cs) (Cis_worth : Cal P w K mg base 2 "is_worth" ["thing"] (spD wD K cs)) : Cal P w K mg base 3 "need_worth" ["thing"] (spNeedWorth cs) := by
  refine T.f_need_worth.cal scNeedWorth (fun vs H Q E h => ?_) (fun f cdv A outer s H vs Q E hr h => ?_)
  · obtain ⟨z, rfl, _⟩ := h
    rfl
  obtain ⟨z, rfl, W, hT, q⟩ := h
  refine ⟨_, (pss_one (ps_if (pt_not (pt_val (pe_cal Cis_worth (hr.mono (by first | decide | omega)) (pa_cons (pv 0) pa_nil)))) (pss_one ps_dead) pss_nil)), ?_⟩
  refine run_ifE ⟨_, rfl, .str z, .str z, 0, fun _ => False, rfl, .str z W.len W.asc, fun _ z => z.elim, by decide, hT, fun H1 S1 => ⟨_, rfl, ?_⟩⟩
  rw [show wD (.str z) = true from all_true W.sg]
  exact iteF (q H1 S1)
theorem ok_path (T : Txt K mg cs) : Cal P w K mg base 1 "_path" ["ref"] (spPath K) := by
  refine T.f_path.cal scPath (fun vs H Q E h => ?_) (fun f cdv A outer s H vs Q E hr h => ?_)
  · obtain ⟨p, nm, ks, rfl, _⟩ := h
    rfl
  obtain ⟨p, nm, ks, rfl, R, hl, q⟩ := h
  obtain ⟨t, h1, h2⟩ := R.ex
  refine ⟨_, (pss_one (ps_ret (pe_op (catA K) (pe_tup (pa_cons (pe_ix (ixT K) (pv 0) pe_int (fun _ _ => rfl)) pa_nil)) (pe_ix (ixT K) (pv 0) pe_int (fun _ _ => rfl))))), ?_⟩
  refine run_ret (run_op ⟨_, rfl, p, _, 0, _, rfl, rfl, h1, rfl, (by show 1 ≤ sizeLine; decide), fun b hb => ⟨_, rfl, p, _, 1, _, rfl, rfl, Sm.seqT (Sm.new hb) h1, rfl, b, t, _, _, rfl, rfl, SqT.of upd_same, Sm.seqT (Sm.new hb) h2, ?_, fun e => (nomatch e), fun _ e => ?_, fun _ _ c hc => ?_⟩⟩)
  · rw [List.length_map]
    exact Nat.le_trans (show 1 + ks.length ≤ 2000 by omega) (by decide)
  · have e' : ks = [] := List.map_eq_nil_iff.mp e
    refine q b _ (Sm.new hb) ?_
    rw [e']
    exact upd_same
  · refine q c _ ((Sm.new hb).trans (Sm.new hc)) ?_
    exact upd_same
/-! #### the methods -/
def spArrays (cs : Tabs) : Sp := fun vs H Q _ => ∃ (arr dx : Addr), vs = [.ref arr] ∧ H arr = some (.ins cs.a_Arrays dx []) ∧
  ∀ (S : Sh) (H' : Hp), (∀ q, S.W q = none) → Made arr H H' → ArrAt cs H' arr S 0 → (∀ a, Own S a → H a = none) → Q .non H'
def spPut (K : PySem.W.Frag) (cs : Tabs) : Sp := fun vs H Q _ => ∃ (arr p : Addr) (z : Str) (S : Sh) (m : Nat) (nm : Str) (ks : List Str), vs = [.ref arr, .ref p, .str z] ∧ ArrAt cs H arr S m ∧ RefAt K H p nm ks ∧ REF nm ks ∧ WT z 400 ∧ m ≤ 80000 ∧ TGs H cs ∧
  ∀ (S' : Sh) (H' : Hp), (∀ q, S'.W q = if q = nm :: ks then some z else S.W q) → ArrAt cs H' arr S' (m + 7) → Went S S' H H' → Q .non H'
def orV (d : V) : Option Str → V
  | some z => .str z
  | none => d
def spRead (K : PySem.W.Frag) (cs : Tabs) : Sp := fun vs H Q _ => ∃ (arr p : Addr) (d : V) (S : Sh) (m : Nat) (nm : Str) (ks : List Str), vs = [.ref arr, .ref p, d] ∧ ArrAt cs H arr S m ∧ RefAt K H p nm ks ∧ REF nm ks ∧ TGs H cs ∧ ∀ H', Sm H H' → Q (orV d (S.W (nm :: ks))) H'
def dataOf (S : Sh) (p : List Str) : Int := if (S.N p).isSome = true then (if S.W p = none then 0 else 1) + (if S.R p = [] then 0 else 10) else 0
def spData (K : PySem.W.Frag) (cs : Tabs) : Sp := fun vs H Q _ => ∃ (arr p : Addr) (S : Sh) (m : Nat) (nm : Str) (ks : List Str), vs = [.ref arr, .ref p] ∧ ArrAt cs H arr S m ∧ RefAt K H p nm ks ∧ REF nm ks ∧ TGs H cs ∧ ∀ H', Sm H H' → Q (.int (dataOf S (nm :: ks))) H'
/-- what uproot tells of a place that was there: its tree -/
def spUproot (K : PySem.W.Frag) (cs : Tabs) : Sp := fun vs H Q _ => ∃ (arr p : Addr) (S : Sh) (m : Nat) (nm : Str) (ks : List Str), vs = [.ref arr, .ref p] ∧ ArrAt cs H arr S m ∧ RefAt K H p nm ks ∧ ks.length ≤ 6 ∧ m ≤ 90000 ∧
  (S.N (nm :: ks) = none → ∀ H', Sm H H' → Q .non H') ∧
  ∀ x, S.N (nm :: ks) = some x → ∀ (S' : Sh) (H' : Hp), (∀ q, S'.W q = if (nm :: ks).isPrefixOf q = true then none else S.W q) → ArrAt cs H' arr S' m → Went S S' H H' → TreeH cs.a_Tree H' (S.sub (nm :: ks)) m → (∀ q y, S'.N q = some y → S.N q = some y) → Q (.ref x.a) H'
def spKill (K : PySem.W.Frag) (cs : Tabs) : Sp := fun vs H Q _ => ∃ (arr p : Addr) (S : Sh) (m : Nat) (nm : Str) (ks : List Str), vs = [.ref arr, .ref p] ∧ ArrAt cs H arr S m ∧ RefAt K H p nm ks ∧ REF nm ks ∧ m ≤ 90000 ∧ cntAt S (nm :: ks) ≤ 100000 ∧ TGs H cs ∧
  ∀ (S' : Sh) (H' : Hp), (∀ q, S'.W q = if (nm :: ks).isPrefixOf q = true then none else S.W q) → ArrAt cs H' arr S' m → Went S S' H H' → Q (.int (cntAt S (nm :: ks) : Nat)) H'
def spNames (cs : Tabs) : Sp := fun vs H Q _ => ∃ (arr : Addr) (S : Sh) (m : Nat), vs = [.ref arr] ∧ ArrAt cs H arr S m ∧ ∀ l, H l = none → Q (.ref l) (upd H l (.lst ((S.R []).map V.str)))
def spCount (cs : Tabs) : Sp := fun vs H Q _ => ∃ (arr : Addr) (S : Sh) (m : Nat), vs = [.ref arr] ∧ ArrAt cs H arr S m ∧ (walkF 8 S []).length ≤ 100000 ∧ ∀ H', Sm H H' → Q (.int ((walkF 8 S []).length : Nat)) H'
theorem ok_arrays (T : Txt K mg cs) (CTree : CalC P w K mg base 1 "Tree" cs.a_Tree ["self"] [] (spTree cs.a_Tree)) : CalC P w K mg base 3 "Arrays" cs.a_Arrays ["self"] [] (spArrays cs) := by
  refine T.f_Arrays___init__.cal scArraysInit (fun vs H Q E h => ?_) (fun f cdv A outer s H vs Q E hr h => ?_)
  · obtain ⟨p, dx, rfl, _⟩ := h
    rfl
  obtain ⟨arr, dx, rfl, hp, q⟩ := h
  refine ⟨_, (pss_one (ps_fld (pv 0) (pe_calC0 CTree (hr.mono (by first | decide | omega))) rfl)), ?_⟩
  intro x d hx hd ne
  refine ⟨x, d, rfl, upd_same, fun r b H1 hr1 hb1 M1 i1 r1 b1 => ⟨rfl, ?_⟩⟩
  have S1 := Made.new hx hd ne M1
  have free : ∀ {y : Addr}, upd (upd H d (.own x)) x (.ins cs.a_Tree d []) y = none → H y = none := fun {y} h => by
    by_cases e1 : y = x
    · rw [e1, upd_same] at h
      cases h
    · rw [upd_ne e1] at h
      by_cases e2 : y = d
      · rw [e2, upd_same] at h
        cases h
      · rw [upd_ne e2] at h
        exact h
  refine ⟨_, rfl, arr, _, dx, _, rfl, S1 _ _ hp, T.cl_Arrays, T.no_Arrays__tree, (by decide), ?_⟩
  have xa : x ≠ arr := fun z => by rw [z, hp] at hx; cases hx
  have ra : r ≠ arr := fun z => by
    have := free hr1
    rw [z, hp] at this
    cases this
  have ba : b ≠ arr := fun z => by
    have := free hb1
    rw [z, hp] at this
    cases this
  let n : Nd := ⟨x, d, r, b⟩
  let S : Sh := ⟨fun q => if q = [] then some n else none, fun _ => none, fun _ => []⟩
  have only : ∀ q y, S.N q = some y → q = [] ∧ y = n := fun q y h => by
    have h' : (if q = [] then some n else none) = some y := h
    by_cases z : q = []
    · rw [if_pos z] at h'
      exact ⟨z, (Option.some.inj h').symm⟩
    · rw [if_neg z] at h'
      cases h'
  have onlyS : ∀ q k, ¬ (S.N (q ++ [k])).isSome = true := fun q k h => by
    obtain ⟨y, hy⟩ := Option.isSome_iff_exists.mp h
    exact snoc_nil (only _ _ hy).1
  refine q S _ (fun _ => rfl) (((Made.refl arr H).sm S1).put (S1 _ _ hp) rfl) ⟨⟨dx, n, upd_same, rfl⟩, ⟨fun q y h => ?_, fun q r y z h1 h2 _ => by rw [(only _ _ h1).1, (only _ _ h2).1], fun q r y z h1 h2 _ => by rw [(only _ _ h1).1, (only _ _ h2).1], fun q r y z h1 h2 _ => by rw [(only _ _ h1).1, (only _ _ h2).1]⟩,
    ⟨⟨n, rfl⟩, fun q y h k => ⟨fun h => (nomatch h), fun h => absurd h (onlyS q k)⟩, fun _ _ _ => .nil, fun q k h => absurd h (onlyS q k), fun _ _ => rfl, fun q k h => absurd h (onlyS q k), fun q h => ?_⟩, fun q k h => absurd h (onlyS q k)⟩ fun a h => ?_
  · obtain ⟨rfl, rfl⟩ := only q y h
    refine ⟨?_, ?_, ⟨[], ?_, fun k => ?_, Nat.le_refl _⟩, Nat.le_refl _⟩
    · rw [upd_ne xa]
      exact i1
    · rw [upd_ne ra]
      exact r1
    · rw [upd_ne ba]
      exact b1
    · show none = (if [] ++ [k] = [] then some n else none).map _
      rw [if_neg snoc_nil]
      rfl
  · obtain ⟨y, hy⟩ := Option.isSome_iff_exists.mp h
    rw [(only _ _ hy).1]
    exact Nat.zero_le _
  · obtain ⟨q, y, hy, h⟩ := h
    obtain ⟨_, rfl⟩ := only q y hy
    rcases h with rfl | rfl | rfl
    · exact hx
    · exact free hr1
    · exact free hb1
theorem ok_put (T : Txt K mg cs) (Cneed_reference : Cal P w K mg base 7 "need_reference" ["thing"] (spNeedRef K cs)) (Cneed_worth : Cal P w K mg base 3 "need_worth" ["thing"] (spNeedWorth cs)) (C_path : Cal P w K mg base 1 "_path" ["ref"] (spPath K))
    (CTree_plant : CalM P w K mg base 7 cs.a_Tree "plant" ["self", "path", "worth"] (spPlant K cs.a_Tree cs.p_is_number_text)) : CalM P w K mg base 8 cs.a_Arrays "put" ["self", "ref", "worth"] (spPut K cs) := by
  refine T.f_Arrays_put.cal scArraysPut (fun vs H Q E h => ?_) (fun f cdv A outer s H vs Q E hr h => ?_)
  · obtain ⟨_, _, _, _, _, _, _, rfl, _⟩ := h
    rfl
  obtain ⟨arr, p, z, S, m, nm, ks, rfl, A0, R, O, W, hm, hT, q⟩ := h
  refine ⟨_, (pss_cons (ps_expr (pe_cal Cneed_reference (hr.mono (by first | decide | omega)) (pa_cons (pv 1) pa_nil)))
    (pss_cons (ps_expr (pe_cal Cneed_worth (hr.mono (by first | decide | omega)) (pa_cons (pv 2) pa_nil)))
    (pss_one (ps_expr (pe_calM CTree_plant T.cl_Tree (hr.mono (by first | decide | omega)) (pe_fldK (K := K) (pv 0)) (pa_cons (pe_cal C_path (hr.mono (by first | decide | omega)) (pa_cons (pv 1) pa_nil)) (pa_cons (pv 2) pa_nil))))))), ?_⟩
  refine ⟨_, rfl, p, nm, ks, rfl, R, O, hT, fun H1 S1 => ⟨_, rfl, z, rfl, W, hT.sm S1, fun H2 S2 => ?_⟩⟩
  have S12 := S1.trans S2
  have A2 := A0.sm S12
  obtain ⟨dx, n, hi, hn⟩ := A2.it
  have Bn := A2.th.at_ _ _ hn
  refine ⟨_, rfl, arr, _, _, _, _, rfl, hi, T.cl_Arrays, T.no_Arrays__tree, rfl, n.a, n.dx, _, rfl, Bn.ins, rfl, _, rfl, p, nm, ks, rfl, R.same S12, Nat.le_trans O.le (by decide), fun t H3 S3 ht => ⟨_, rfl, ?_⟩⟩
  have A3 := A2.sm S3
  refine ⟨S, m, n, t, nm :: ks, z, rfl, A3.th, A3.ok, A3.full, hn, SqT.of ht, Nat.succ_le_succ O.le, fun k hk => ?_, Nat.le_trans hm (by decide), (hT.sm (S12.trans S3)).t_is_number_text, fun S' H4 W4 T4 O4 F4 n4 w4 => ?_⟩
  · rcases List.mem_cons.mp hk with rfl | hk
    · exact Nat.le_trans O.nm.len (by decide)
    · exact Nat.le_trans (O.ks k hk).wt.len (by decide)
  · have hl : (nm :: ks).length ≤ 7 := Nat.succ_le_succ O.le
    obtain ⟨dx3, n3, hi3, hn3⟩ := A3.it
    refine q S' H4 W4 ⟨⟨dx3, n3, ?_, ?_⟩, T4.mono (by omega), O4, F4⟩ ((Went.sm (S12.trans S3)).trans w4)
    · exact w4.ch.keep (A3.apart (ne_arr T)) hi3
    · rw [hn] at hn3
      cases hn3
      exact n4
end
/-! ### arrays: read, data -/
section
variable {P : Program} {w : World} {K : PySem.W.Frag} {mg : Str → Option Value} {base : Heap} {cs : Tabs}
theorem ok_read (T : Txt K mg cs) (Cneed_reference : Cal P w K mg base 7 "need_reference" ["thing"] (spNeedRef K cs)) (C_path : Cal P w K mg base 1 "_path" ["ref"] (spPath K))
    (CTree_at : CalM P w K mg base 1 cs.a_Tree "at" ["self", "path"] (spAt K cs.a_Tree)) : CalW P w K mg base 8 cs.a_Arrays "read" ["self", "ref", "otherwise"] 2 [("otherwise", .str "")] (spRead K cs) := by
  refine T.f_Arrays_read.cal ⟨fun D doc pm an cdv ct us ks h1 h2 => match us, h1, ks, h2 with | [_, _], _, [_], _ => ⟨_, _, _, _, _, _, rfl, rfl, rfl⟩, fun D doc pm an cdv ct us ws h1 h2 => match us, h1, ws, h2 with | [_, _], _, [_], _ => rfl⟩ (by simp) rfl scArraysRead (fun vs H Q E h => ?_) (fun f cdv A outer s H vs Q E hr h => ?_)
  · obtain ⟨_, _, _, _, _, _, _, rfl, _⟩ := h
    rfl
  obtain ⟨arr, p, d, S, m, nm, ks, rfl, A0, R, O, hT, q⟩ := h
  refine ⟨_, (pss_cons (ps_expr (pe_cal Cneed_reference (hr.mono (by first | decide | omega)) (pa_cons (pv 1) pa_nil)))
    (pss_cons (ps_set (i := 3) scArraysRead.nd rfl (by first | exact Or.inl rfl | exact Or.inr rfl) (pe_calM CTree_at T.cl_Tree (hr.mono (by first | decide | omega)) (pe_fldK (K := K) (pv 0)) (pa_cons (pe_cal C_path (hr.mono (by first | decide | omega)) (pa_cons (pv 1) pa_nil)) pa_nil)))
    (pss_cons (ps_if (PW.pt (pw_or (pt_cmpR op_isN (pv 3) pe_non (nomark _)) (pw_or1 (pt_cmpR op_isN (pe_fldK (K := K) (pv 3)) pe_non (nomark _))))) (pss_one (ps_ret (pv 2))) pss_nil)
    (pss_one (ps_ret (pe_fldK (K := K) (pv 3))))))), ?_⟩
  refine ⟨_, rfl, p, nm, ks, rfl, R, O, hT, fun H1 S1 => ?_⟩
  have A2 := A0.sm S1
  obtain ⟨dx, n, hi, hn⟩ := A2.it
  have Bn := A2.th.at_ _ _ hn
  dsimp only
  refine run_set ⟨_, rfl, arr, _, _, _, _, rfl, hi, T.cl_Arrays, T.no_Arrays__tree, rfl, n.a, n.dx, _, rfl, Bn.ins, rfl, _, rfl, p, nm, ks, rfl, R.same S1, Nat.le_trans O.le (by decide), fun t H3 S3 ht => ?_⟩
  have A3 := A2.sm S3
  refine ⟨S, m, n, t, nm :: ks, rfl, A3.th, A3.ok, hn, SqT.of ht, Nat.succ_le_succ (Nat.le_trans O.le (by decide)), ?_⟩
  have Q3 := q H3 (S1.trans S3)
  cases e : S.N (nm :: ks) with
  | none =>
    rw [A0.ok.out _ e] at Q3
    dsimp only
    refine run_if ⟨_, rfl, rfl, _, rfl, iteT ?_⟩
    refine iteT ?_
    refine run_ret ?_
    exact ⟨_, rfl, Q3⟩
  | some x =>
    have Bx := A3.th.at_ _ _ e
    dsimp only
    refine run_if ⟨_, rfl, rfl, _, rfl, iteF ⟨_, rfl, x.a, _, _, _, _, rfl, Bx.ins, T.cl_Tree, T.no_Tree_worth, rfl, rfl, _, rfl, ?_⟩⟩
    cases e2 : S.W (nm :: ks) with
    | none =>
      rw [e2] at Q3
      refine iteT ?_
      refine run_ret ?_
      exact ⟨_, rfl, Q3⟩
    | some z =>
      rw [e2] at Q3
      refine iteF ?_
      have Bx' : H3 x.a = some (.ins cs.a_Tree x.dx [("worth", .str z), ("row", .ref x.r), ("beneath", .ref x.d)]) := by
        rw [Bx.ins]
        show some (HO.ins cs.a_Tree x.dx [("worth", wV (S.W (nm :: ks))), ("row", .ref x.r), ("beneath", .ref x.d)]) = _
        rw [e2]
        rfl
      dsimp only [tNext]
      refine run_ret ?_
      exact ⟨_, rfl, x.a, _, _, _, _, rfl, Bx', T.cl_Tree, T.no_Tree_worth, rfl, Q3⟩
theorem data_test {S : Sh} {p : List Str} {C : Addr} {x : Nd} {H : Hp} {m : Nat} (B : NdAt C H S m p x) : H x.a = some (.ins C x.dx [("worth", wV (S.W p)), ("row", .ref x.r), ("beneath", .ref x.d)]) := B.ins
theorem wV_non {o : Option Str} : decide (wV o = V.non) = decide (o = none) := by
  cases o with
  | none => rfl
  | some z => rfl
theorem ok_data (T : Txt K mg cs) (Cneed_reference : Cal P w K mg base 7 "need_reference" ["thing"] (spNeedRef K cs)) (C_path : Cal P w K mg base 1 "_path" ["ref"] (spPath K))
    (CTree_at : CalM P w K mg base 1 cs.a_Tree "at" ["self", "path"] (spAt K cs.a_Tree)) : CalM P w K mg base 8 cs.a_Arrays "data" ["self", "ref"] (spData K cs) := by
  refine T.f_Arrays_data.cal scArraysData (fun vs H Q E h => ?_) (fun f cdv A outer s H vs Q E hr h => ?_)
  · obtain ⟨_, _, _, _, _, _, rfl, _⟩ := h
    rfl
  obtain ⟨arr, p, S, m, nm, ks, rfl, A0, R, O, hT, q⟩ := h
  refine ⟨_, (pss_cons (ps_expr (pe_cal Cneed_reference (hr.mono (by first | decide | omega)) (pa_cons (pv 1) pa_nil)))
    (pss_cons (ps_set (i := 2) scArraysData.nd rfl (by first | exact Or.inl rfl | exact Or.inr rfl) (pe_calM CTree_at T.cl_Tree (hr.mono (by first | decide | omega)) (pe_fldK (K := K) (pv 0)) (pa_cons (pe_cal C_path (hr.mono (by first | decide | omega)) (pa_cons (pv 1) pa_nil)) pa_nil)))
    (pss_cons (ps_if (pt_cmpR op_isN (pv 2) pe_non (nomark _)) (pss_one (ps_ret pe_int)) pss_nil)
    (pss_one (ps_ret (pe_op op_add (pe_ifExp (pt_cmpR op_isN (pe_fldK (K := K) (pv 2)) pe_non (nomark _)) pe_int pe_int) (pe_ifExp (pt_truth (pe_fldK (K := K) (pv 2)) (by intro _; rfl)) pe_int pe_int))))))), ?_⟩
  refine ⟨_, rfl, p, nm, ks, rfl, R, O, hT, fun H1 S1 => ?_⟩
  have A2 := A0.sm S1
  obtain ⟨dx, n, hi, hn⟩ := A2.it
  have Bn := A2.th.at_ _ _ hn
  dsimp only
  refine run_set ⟨_, rfl, arr, _, _, _, _, rfl, hi, T.cl_Arrays, T.no_Arrays__tree, rfl, n.a, n.dx, _, rfl, Bn.ins, rfl, _, rfl, p, nm, ks, rfl, R.same S1, Nat.le_trans O.le (by decide), fun t H3 S3 ht => ?_⟩
  have A3 := A2.sm S3
  refine ⟨S, m, n, t, nm :: ks, rfl, A3.th, A3.ok, hn, SqT.of ht, Nat.succ_le_succ (Nat.le_trans O.le (by decide)), ?_⟩
  have Q3 := q H3 (S1.trans S3)
  unfold dataOf at Q3
  cases e : S.N (nm :: ks) with
  | none =>
    rw [e] at Q3
    dsimp only
    refine run_if ⟨_, rfl, rfl, _, rfl, iteT ?_⟩
    exact Q3
  | some x =>
    rw [e] at Q3
    have Bx := A3.th.at_ _ _ e
    dsimp only
    refine run_if ⟨_, rfl, rfl, _, rfl, iteF ?_⟩
    refine run_next ?_
    dsimp only
    refine run_ret (run_op ?_)
    refine ⟨_, rfl, x.a, _, _, _, _, rfl, Bx.ins, T.cl_Tree, T.no_Tree_worth, rfl, rfl, _, rfl, ?_⟩
    have Q4 : Q (.int ((if S.W (nm :: ks) = none then 0 else 1) + (if S.R (nm :: ks) = [] then 0 else 10))) H3 := Q3
    have row : ∀ (i : Int) (R : VK), R (.int (i + (if S.R (nm :: ks) = [] then 0 else 10))) H3 → (tIf (fun σ H Q => tFld K (tVar 2) "row" σ H fun x H' => ∃ k, TruV K x H' k ∧ Q k H') (tC (.int 10)) (tC (.int 0))) [some (.ref arr), some (.ref p), some (.ref x.a)] H3 (fun y H2 => (rI0 fun i j => V.int (i + j)) (.int i) y H2 R) := fun i R hR => by
      refine ⟨_, rfl, x.a, _, _, _, _, rfl, Bx.ins, T.cl_Tree, T.no_Tree_row, rfl, _, .inl ⟨_, SqL.of Bx.row, rfl⟩, ?_⟩
      cases er : S.R (nm :: ks) with
      | nil =>
        rw [er, if_pos rfl] at hR
        exact iteF ⟨i, 0, rfl, rfl, hR⟩
      | cons y ys =>
        rw [er, if_neg (List.cons_ne_nil _ _)] at hR
        exact iteT ⟨i, 10, rfl, rfl, hR⟩
    refine ite2 (fun c => ?_) (fun c => ?_)
    · have c' : S.W (nm :: ks) = none := by
        rw [wV_non] at c
        exact of_decide_eq_true c
      rw [if_pos c'] at Q4
      exact row 0 _ Q4
    · have c' : ¬ S.W (nm :: ks) = none := fun z => c (by rw [wV_non]; exact decide_eq_true z)
      rw [if_neg c'] at Q4
      exact row 1 _ Q4
end
/-! ### arrays: uproot, kill -/
section
variable {P : Program} {w : World} {K : PySem.W.Frag} {mg : Str → Option Value} {base : Heap} {cs : Tabs}
theorem ok_uproot (T : Txt K mg cs) (C_path : Cal P w K mg base 1 "_path" ["ref"] (spPath K)) (CTree_at : CalM P w K mg base 1 cs.a_Tree "at" ["self", "path"] (spAt K cs.a_Tree)) (CTree_cut : CalM P w K mg base 2 cs.a_Tree "cut" ["self", "path"] (spCut K cs.a_Tree)) : CalM P w K mg base 3 cs.a_Arrays "uproot" ["self", "ref"] (spUproot K cs) := by
  refine T.f_Arrays_uproot.cal scArraysUproot (fun vs H Q E h => ?_) (fun f cdv A outer s H vs Q E hr h => ?_)
  · obtain ⟨_, _, _, _, _, _, rfl, _⟩ := h
    rfl
  obtain ⟨arr, p, S, m, nm, ks, rfl, A0, R, hl, hm, q1, q2⟩ := h
  refine ⟨_, (pss_cons (ps_set (i := 2) scArraysUproot.nd rfl (by first | exact Or.inl rfl | exact Or.inr rfl) (pe_cal C_path (hr.mono (by first | decide | omega)) (pa_cons (pv 1) pa_nil)))
    (pss_cons (ps_set (i := 3) scArraysUproot.nd rfl (by first | exact Or.inl rfl | exact Or.inr rfl) (pe_calM CTree_at T.cl_Tree (hr.mono (by first | decide | omega)) (pe_fldK (K := K) (pv 0)) (pa_cons (pv 2) pa_nil)))
    (pss_cons (ps_if (pt_cmpR op_notN (pv 3) pe_non (nomark _)) (pss_one (ps_expr (pe_calM CTree_cut T.cl_Tree (hr.mono (by first | decide | omega)) (pe_fldK (K := K) (pv 0)) (pa_cons (pv 2) pa_nil)))) pss_nil)
    (pss_one (ps_ret (pv 3)))))), ?_⟩
  refine run_set ⟨_, rfl, p, nm, ks, rfl, R, Nat.le_trans hl (by decide), fun t H1 S1 ht => ?_⟩
  have A1 := A0.sm S1
  obtain ⟨dx, n, hi, hn⟩ := A1.it
  have Bn := A1.th.at_ _ _ hn
  dsimp only
  refine run_set ⟨_, rfl, arr, _, _, _, _, rfl, hi, T.cl_Arrays, T.no_Arrays__tree, rfl, n.a, n.dx, _, rfl, Bn.ins, rfl, _, rfl, S, m, n, t, nm :: ks, rfl, A1.th, A1.ok, hn, SqT.of ht, Nat.succ_le_succ (Nat.le_trans hl (by decide)), ?_⟩
  cases e : S.N (nm :: ks) with
  | none =>
    dsimp only
    refine run_if ⟨_, rfl, rfl, _, rfl, iteF ?_⟩
    refine run_next ?_
    dsimp only
    refine run_ret ?_
    exact ⟨_, rfl, q1 e H1 S1⟩
  | some x =>
    dsimp only
    refine run_if ⟨_, rfl, rfl, _, rfl, iteT ?_⟩
    refine ⟨_, rfl, arr, _, _, _, _, rfl, hi, T.cl_Arrays, T.no_Arrays__tree, rfl, n.a, n.dx, _, rfl, Bn.ins, rfl, _, rfl, S, m, n, t, nm :: ks, rfl, A1.th, A1.ok, A1.full, hn, SqT.of ht, List.cons_ne_nil _ _, Nat.succ_le_succ (Nat.le_trans hl (by decide)), hm, by rw [e]; rfl, fun S' H2 W2 T2 O2 F2 n2 w2 g2 s2 => ?_⟩
    dsimp only
    refine run_ret ⟨_, rfl, q2 x e S' H2 W2 ⟨⟨dx, n, ?_, n2⟩, T2, O2, F2⟩ ((Went.sm S1).trans w2) (A1.th.sub _ g2) s2⟩
    exact w2.ch.keep (A1.apart (ne_arr T)) hi
theorem ok_kill (T : Txt K mg cs) (Cneed_reference : Cal P w K mg base 7 "need_reference" ["thing"] (spNeedRef K cs)) (CArrays_uproot : CalM P w K mg base 3 cs.a_Arrays "uproot" ["self", "ref"] (spUproot K cs)) (CTree_walked : CalM P w K mg base 9 cs.a_Tree "walked" ["self", "path"] (spWalk K cs.a_Tree 8)) : CalM P w K mg base 10 cs.a_Arrays "kill" ["self", "ref"] (spKill K cs) := by
  refine T.f_Arrays_kill.cal scArraysKill (fun vs H Q E h => ?_) (fun f cdv A outer s H vs Q E hr h => ?_)
  · obtain ⟨_, _, _, _, _, _, rfl, _⟩ := h
    rfl
  obtain ⟨arr, p, S, m, nm, ks, rfl, A0, R, O, hm, hw, hT, q⟩ := h
  refine ⟨_, (pss_cons (ps_expr (pe_cal Cneed_reference (hr.mono (by first | decide | omega)) (pa_cons (pv 1) pa_nil)))
    (pss_cons (ps_set (i := 2) scArraysKill.nd rfl (by first | exact Or.inl rfl | exact Or.inr rfl) (pe_calM CArrays_uproot T.cl_Arrays (hr.mono (by first | decide | omega)) (pv 0) (pa_cons (pv 1) pa_nil)))
    (pss_one (ps_ret (pe_ifExp (pt_cmpR op_isN (pv 2) pe_non (nomark _)) pe_int (pe_callB (lenQ K) rfl T.n_len (by decide +kernel) (pa_cons (pe_calM CTree_walked T.cl_Tree (hr.mono (by first | decide | omega)) (pv 2) (pa_cons (pe_tup pa_nil) pa_nil)) pa_nil))))))), ?_⟩
  refine ⟨_, rfl, p, nm, ks, rfl, R, O, hT, fun H1 S1 => ?_⟩
  have A1 := A0.sm S1
  obtain ⟨dx, n, hi, hn⟩ := A1.it
  dsimp only
  refine run_set ⟨_, rfl, arr, _, _, rfl, hi, rfl, _, rfl, arr, p, S, m, nm, ks, rfl, A1, R.same S1, O.le, hm, fun e H2 S2 => ?_, fun x e S' H2 W2 A2 w2 T2 _ => ?_⟩
  · have z : cntAt S (nm :: ks) = 0 := by
      unfold cntAt
      rw [e]
      rfl
    have Q2 := q S H2 (fun q' => ?_) (A1.sm S2) (Went.sm (S1.trans S2))
    · rw [z] at Q2
      dsimp only
      refine run_ret ⟨_, rfl, rfl, _, rfl, iteT ?_⟩
      exact Q2
    · split
      · rename_i h
        obtain ⟨r, rfl⟩ := pre_of h
        refine A0.ok.out _ ?_
        cases e2 : S.N (nm :: ks ++ r) with
        | none => rfl
        | some y =>
          have := A0.ok.up r (nm :: ks) (by rw [e2]; rfl)
          rw [e] at this
          cases this
      · rfl
  · have z : cntAt S (nm :: ks) = (walkF 8 S (nm :: ks)).length := by
      unfold cntAt
      rw [e]
      rfl
    have Os : ShOk (S.sub (nm :: ks)) := A0.ok.sub (by rw [e]; rfl)
    have ex : (S.sub (nm :: ks)).N [] = some x := by
      rw [sub_N, List.append_nil]
      exact e
    have ew : walkF 8 (S.sub (nm :: ks)) [] = walkF 8 S (nm :: ks) := by
      rw [walk_sub, List.append_nil]
    have Bx := T2.at_ _ _ ex
    dsimp only
    refine run_ret ⟨_, rfl, rfl, _, rfl, iteF ⟨_, rfl, x.a, _, _, rfl, Bx.ins, rfl, (by decide), fun b hb => ?_⟩⟩
    have Sb : Sm H2 (upd H2 b (.tup [])) := Sm.new hb
    refine ⟨S.sub (nm :: ks), m, [], x, b, [], rfl, T2.sm Sb, Os, ex, SqT.of upd_same, by decide, by decide, by rw [ew, ← z]; exact hw, fun l H4 hl S4 rows => ?_⟩
    obtain ⟨as, hl4, rows4⟩ := rows
    have len := paired_len rows4
    rw [ew] at len
    have Q2 := q S' H4 W2 (A2.sm (Sb.trans S4)) (((Went.sm S1).trans w2).trans (Went.sm (Sb.trans S4)))
    refine ⟨l, _, rfl, .inl (SqL.of hl4), ?_⟩
    rw [z, ← len] at Q2
    rw [List.length_map]
    exact Q2
end
/-! ### arrays: names, count -/
section
variable {P : Program} {w : World} {K : PySem.W.Frag} {mg : Str → Option Value} {base : Heap} {cs : Tabs}
theorem ok_names (T : Txt K mg cs) : CalM P w K mg base 1 cs.a_Arrays "names" ["self"] (spNames cs) := by
  refine T.f_Arrays_names.cal scArraysNames (fun vs H Q E h => ?_) (fun f cdv A outer s H vs Q E hr h => ?_)
  · obtain ⟨_, _, _, rfl, _⟩ := h
    rfl
  obtain ⟨arr, S, m, rfl, A0, q⟩ := h
  refine ⟨_, (pss_one (ps_ret (pe_callTy (listOf K) rfl T.n_list (by decide +kernel) (pa_cons (pe_fldK (K := K) (pe_fldK (K := K) (pv 0))) pa_nil)))), ?_⟩
  obtain ⟨dx, n, hi, hn⟩ := A0.it
  have Bn := A0.th.at_ _ _ hn
  refine run_ret ?_
  exact ⟨_, rfl, arr, _, _, _, _, rfl, hi, T.cl_Arrays, T.no_Arrays__tree, rfl, n.a, _, _, _, _, rfl, Bn.ins, T.cl_Tree, T.no_Tree_row, rfl, n.r, _, rfl, .inl (SqL.of Bn.row), q⟩
theorem ok_count (T : Txt K mg cs) (CTree_walked : CalM P w K mg base 9 cs.a_Tree "walked" ["self", "path"] (spWalk K cs.a_Tree 8)) : CalM P w K mg base 10 cs.a_Arrays "count" ["self"] (spCount cs) := by
  refine T.f_Arrays_count.cal scArraysCount (fun vs H Q E h => ?_) (fun f cdv A outer s H vs Q E hr h => ?_)
  · obtain ⟨_, _, _, rfl, _⟩ := h
    rfl
  obtain ⟨arr, S, m, rfl, A0, hw, q⟩ := h
  refine ⟨_, (pss_one (ps_ret (pe_callB (lenQ K) rfl T.n_len (by decide +kernel) (pa_cons (pe_calM CTree_walked T.cl_Tree (hr.mono (by first | decide | omega)) (pe_fldK (K := K) (pv 0)) (pa_cons (pe_tup pa_nil) pa_nil)) pa_nil)))), ?_⟩
  obtain ⟨dx, n, hi, hn⟩ := A0.it
  have Bn := A0.th.at_ _ _ hn
  refine run_ret ⟨_, rfl, arr, _, _, _, _, rfl, hi, T.cl_Arrays, T.no_Arrays__tree, rfl, n.a, _, _, rfl, Bn.ins, rfl, (by decide), fun b hb => ?_⟩
  have Sb : Sm H (upd H b (.tup [])) := Sm.new hb
  refine ⟨S, m, [], n, b, [], rfl, A0.th.sm Sb, A0.ok, hn, SqT.of upd_same, by decide, by decide, hw, fun l H4 hl S4 rows => ?_⟩
  obtain ⟨as, hl4, rows4⟩ := rows
  have len := paired_len rows4
  refine ⟨l, _, rfl, .inl (SqL.of hl4), ?_⟩
  have Q2 := q H4 (Sb.trans S4)
  rw [← len] at Q2
  rw [List.length_map]
  exact Q2
end
/-! ### asking references: the last key may be empty -/
structure ASK (nm : Str) (ks : List Str) (z : Str) : Prop where
  nm : NM nm
  le : ks.length ≤ 5
  ks : ∀ z ∈ ks, KEY z
  lst : WT z 40
def spAskRow (K : PySem.W.Frag) (cs : Tabs) : Sp := fun vs H Q _ => ∃ (t : Addr) (ks : List Str) (z : Str), vs = [.ref t] ∧ SqT K H t ((ks ++ [z]).map V.str) ∧ ks.length ≤ 5 ∧ (∀ z ∈ ks, KEY z) ∧ WT z 40 ∧ TGs H cs ∧ ∀ H', Sm H H' → Q (.bl true) H'
def spAskRef (K : PySem.W.Frag) (cs : Tabs) (r : V) : Sp := fun vs H Q _ => ∃ (p : Addr) (nm : Str) (ks : List Str) (z : Str), vs = [.ref p] ∧ RefAt K H p nm (ks ++ [z]) ∧ ASK nm ks z ∧ TGs H cs ∧ ∀ H', Sm H H' → Q r H'
theorem slice_but {K : PySem.W.Frag} {t : Addr} {ks : List Str} {z : Str} {H : Hp} {Q : VK} (h : SqT K H t ((ks ++ [z]).map V.str)) (q : ∀ p H', Sm H H' → SqT K H' p (ks.map V.str) → Q (.ref p) H') : rSlA K (.ref t) none (some (-1)) H Q := by
  have e1 : HT.sIx ((ks ++ [z]).map V.str).length ((ks ++ [z]).map V.str).length (some (-1)) = ks.length := by
    rw [List.length_map, List.length_append, List.length_singleton]
    show (if (-1 : Int) < 0 then ((-1 : Int) + ((ks.length + 1 : Nat) : Int)).toNat else min ((-1 : Int)).toNat (ks.length + 1)) = _
    rw [if_pos (by decide)]
    omega
  refine ⟨t, _, rfl, h, fun e => ?_, fun _ p hp => ?_⟩
  · have e2 := e.2
    rw [e1, List.length_map, List.length_append, List.length_singleton] at e2
    omega
  · have e3 : cutV ((ks ++ [z]).map V.str) none (some (-1)) = ks.map V.str := by
      unfold cutV
      rw [e1, HT.sIx_none, List.drop_zero, Nat.sub_zero, List.map_append]
      have : ks.length = (ks.map V.str).length := (List.length_map _).symm
      rw [this, List.take_left]
    rw [e3]
    exact q p _ (Sm.new hp) (SqT.of upd_same)
section
variable {P : Program} {w : World} {K : PySem.W.Frag} {mg : Str → Option Value} {base : Heap} {cs : Tabs}
theorem ok_asking_row (T : Txt K mg cs) (Cis_worth : Cal P w K mg base 2 "is_worth" ["thing"] (spD wD K cs)) (Cis_row : Cal P w K mg base 5 "is_row" ["thing"] (spD rowD K cs)) : Cal P w K mg base 6 "is_asking_row" ["thing"] (spAskRow K cs) := by
  refine T.f_is_asking_row.cal scIsAskingRow (fun vs H Q E h => ?_) (fun f cdv A outer s H vs Q E hr h => ?_)
  · obtain ⟨_, _, _, rfl, _⟩ := h
    rfl
  obtain ⟨t, ks, z, rfl, h, le, hk, W, hT, q⟩ := h
  refine ⟨_, (pss_cons (ps_if (PW.pt (pw_or (pt_not (pt_val (pe_callB (isI K) rfl T.n_isinstance (by decide +kernel) (pa_cons (pv 0) (pa_cons (pe_bltn (v := .ty "tuple") rfl T.n_tuple (by decide +kernel) rfl) pa_nil))))) (pw_or1 (pt_not (pt_chain op_le op_le pe_int (pe_callB (lenQ K) rfl T.n_len (by decide +kernel) (pa_cons (pv 0) pa_nil)) (C8.pe_gc rfl T.g_MOST_KEYS)))))) (pss_one (ps_ret pe_bl)) pss_nil)
    (pss_cons (ps_set (i := 1) scIsAskingRow.nd rfl (by first | exact Or.inl rfl | exact Or.inr rfl) (pe_ix (ixT K) (pv 0) (pe_un un_neg pe_int) (fun _ _ => rfl)))
    (pss_one (ps_ret (pe_and (pe_cal Cis_row (hr.mono (by first | decide | omega)) (pa_cons (pe_slice (slT K) (pv 0) po_none (po_some (pe_un un_neg pe_int))) pa_nil)) (pe_and (pe_cal Cis_worth (hr.mono (by first | decide | omega)) (pa_cons (pv 1) pa_nil)) (pe_one (pe_cmpR op_le (pe_callB lenT rfl T.n_len (by decide +kernel) (pa_cons (pv 1) pa_nil)) (C8.pe_gc rfl T.g__LONGEST_KEY) (nomark _))))))))), ?_⟩
  have th : Th K (fun _ => False) 0 H (.ref t) (.tup ((ks ++ [z]).map D.str)) := .tup h (by rw [List.length_map, List.length_append]; show ks.length + 1 ≤ 40 + 0; omega) (by
    rw [List.map_append, List.map_append]
    exact ThAll.append (th_keys hk) (.cons (.str z (Nat.le_trans W.len (by decide)) W.asc) .nil))
  refine run_if ?_
  refine ⟨_, rfl, _, _, _, _, _, rfl, ClsV.ty "tuple", th.tyx, kitT _, _, rfl, iteF ?_⟩
  have len : ((ks ++ [z]).map V.str).length = ks.length + 1 := by rw [List.length_map, List.length_append, List.length_singleton]
  refine ⟨_, rfl, t, _, rfl, .inr h, ?_⟩
  rw [len]
  refine ⟨1, ((ks.length + 1 : Nat) : Int), rfl, rfl, _, rfl, ?_⟩
  rw [show decide ((1 : Int) ≤ ((ks.length + 1 : Nat) : Int)) = true from decide_eq_true (by omega)]
  refine iteT ?_
  refine ⟨((ks.length + 1 : Nat) : Int), 6, rfl, rfl, _, rfl, ?_⟩
  rw [show decide (((ks.length + 1 : Nat) : Int) ≤ 6) = true from decide_eq_true (by omega)]
  refine iteF ?_
  refine run_next ?_
  dsimp only
  refine run_set ⟨_, rfl, 1, rfl, t, _, -1, .str z, rfl, rfl, h, (by rw [List.map_append]; exact atI_last _ _), ?_⟩
  dsimp only
  refine run_ret ?_
  refine ⟨_, rfl, 1, rfl, -1, rfl, slice_but h fun p' H1 S1 h1 => ?_⟩
  have t1 : Th K (fun _ => False) 0 H1 (.ref p') (.tup (ks.map D.str)) := .tup h1 (by rw [List.length_map]; show ks.length ≤ 40 + 0; omega) (th_keys hk)
  refine ⟨_, _, 0, _, rfl, t1, fun _ z => z.elim, by decide, hT.sm S1, fun H2 S2 => ?_⟩
  have er : rowD (.tup (ks.map D.str)) = true := by
    show (decide ((ks.map D.str).length ≤ 6) && (ks.map D.str).all kD) = true
    rw [List.length_map, decide_eq_true (show ks.length ≤ 6 by omega), all_true fun d hd => ?_]
    · rfl
    · obtain ⟨y, hy, rfl⟩ := List.mem_map.mp hd
      have ky := hk y hy
      show ((tl y).all sgn && (decide (1 ≤ (tl y).length) && decide ((tl y).length ≤ 40))) = true
      rw [all_true ky.wt.sg, decide_eq_true ky.pos, decide_eq_true ky.wt.len]
      rfl
  rw [er]
  refine ⟨_, rfl, ?_⟩
  refine iteT ?_
  have S12 := S1.trans S2
  refine ⟨_, rfl, .str z, .str z, 0, fun _ => False, rfl, .str z (Nat.le_trans W.len (by decide)) W.asc, fun _ z => z.elim, by decide, hT.sm S12, fun H3 S3 => ?_⟩
  rw [show wD (.str z) = true from all_true W.sg]
  refine ⟨_, rfl, iteT ?_⟩
  refine ⟨_, rfl, z, rfl, W.line (by decide), _, _, rfl, rfl, ?_⟩
  have e40 : decide ((z.length : Int) ≤ 40) = true := decide_eq_true (by have := W.len; rw [← len_tl] at this; omega)
  show Q (.bl (decide ((z.length : Int) ≤ 40))) H3
  rw [e40]
  exact q _ (S12.trans S3)
theorem ok_asking_reference (T : Txt K mg cs) (Cis_pair : Cal P w K mg base 1 "is_pair" ["thing"] (spD (fun d => d.isTup && decide (lenD d = 2)) K cs)) (Cis_name : Cal P w K mg base 2 "is_name" ["thing"] (spD nD K cs)) (Cis_asking_row : Cal P w K mg base 6 "is_asking_row" ["thing"] (spAskRow K cs)) : Cal P w K mg base 7 "is_asking_reference" ["thing"] (spAskRef K cs (.bl true)) := by
  refine T.f_is_asking_reference.cal scIsAskingReference (fun vs H Q E h => ?_) (fun f cdv A outer s H vs Q E hr h => ?_)
  · obtain ⟨_, _, _, _, rfl, _⟩ := h
    rfl
  obtain ⟨p, nm, ks, z, rfl, R, O, hT, q⟩ := h
  refine ⟨_, (pss_one (ps_ret (pe_and (pe_cal Cis_pair (hr.mono (by first | decide | omega)) (pa_cons (pv 0) pa_nil)) (pe_and (pe_cal Cis_name (hr.mono (by first | decide | omega)) (pa_cons (pe_ix (ixT K) (pv 0) pe_int (fun _ _ => rfl)) pa_nil)) (pe_one (pe_cal Cis_asking_row (hr.mono (by first | decide | omega)) (pa_cons (pe_ix (ixT K) (pv 0) pe_int (fun _ _ => rfl)) pa_nil))))))), ?_⟩
  obtain ⟨t, h1, h2⟩ := R.ex
  have tk : Th K (fun _ => False) 0 H (.ref t) (.tup ((ks ++ [z]).map D.str)) := .tup h2 (by rw [List.length_map, List.length_append]; show ks.length + 1 ≤ 40 + 0; have := O.le; omega) (by
    rw [List.map_append, List.map_append]
    exact ThAll.append (th_keys O.ks) (.cons (.str z (Nat.le_trans O.lst.len (by decide)) O.lst.asc) .nil))
  have hn : ∀ c ∈ tl nm, c < 128 := fun c hc => by
    have q := O.nm.sg c hc
    unfold AZ at q
    rw [Bool.and_eq_true] at q
    have := of_decide_eq_true q.2
    omega
  have tn : Th K (fun _ => False) 0 H (.str nm) (.str nm) := .str nm (by have := O.nm.len; omega) hn
  have th : Th K (fun _ => False) 0 H (.ref p) (.tup [.str nm, .tup ((ks ++ [z]).map D.str)]) := .tup h1 (by show 2 ≤ 40 + 0; decide) (.cons tn (.cons tk .nil))
  have av : AvL (fun _ => False) H := fun _ z => z.elim
  refine ⟨_, rfl, .ref p, _, 0, _, rfl, th, av, by decide, hT, fun H1 S1 => ⟨_, rfl, ?_⟩⟩
  refine iteT ?_
  refine ⟨_, rfl, p, _, 0, _, rfl, rfl, Sm.seqT S1 h1, rfl, .str nm, .str nm, 0, _, rfl, tn.ko av (KO.sm S1), fun _ z => z.elim, by decide, hT.sm S1, fun H2 S2 => ⟨_, rfl, ?_⟩⟩
  have S12 := S1.trans S2
  have en : nD (.str nm) = true := by
    show ((decide (1 ≤ (tl nm).length) && decide ((tl nm).length ≤ 8)) && (tl nm).all AZ) = true
    rw [decide_eq_true O.nm.pos, decide_eq_true O.nm.len, all_true O.nm.sg]
    rfl
  rw [en]
  refine iteT ?_
  exact ⟨_, rfl, p, _, 1, _, rfl, rfl, Sm.seqT S12 h1, rfl, t, ks, z, rfl, Sm.seqT S12 h2, O.le, O.ks, O.lst, hT.sm S12, fun H3 S3 => q H3 (S12.trans S3)⟩
theorem ok_need_asking (T : Txt K mg cs) (Cis_asking_reference : Cal P w K mg base 7 "is_asking_reference" ["thing"] (spAskRef K cs (.bl true))) : Cal P w K mg base 8 "need_asking_reference" ["thing"] (spAskRef K cs .non) := by
  refine T.f_need_asking_reference.cal scNeedAskingReference (fun vs H Q E h => ?_) (fun f cdv A outer s H vs Q E hr h => ?_)
  · obtain ⟨_, _, _, _, rfl, _⟩ := h
    rfl
  obtain ⟨p, nm, ks, z, rfl, R, O, hT, q⟩ := h
  refine ⟨_, (pss_one (ps_if (pt_not (pt_val (pe_cal Cis_asking_reference (hr.mono (by first | decide | omega)) (pa_cons (pv 0) pa_nil)))) (pss_one ps_dead) pss_nil)), ?_⟩
  refine run_ifE ⟨_, rfl, p, nm, ks, z, rfl, R, O, hT, fun H1 S1 => ⟨_, rfl, iteF (q H1 S1)⟩⟩
end
/-! ### the next key of a row -/
theorem run_ifto {i : Nat} {c : TT} {t u r : TS} {D : Ends} {σ : L2.St} {H : Hp} (Pv : V → Hp → Prop) (h : ∀ nx : L2.St → Hp → Prop, (∀ v H1, Pv v H1 → nx (σ.set i (some v)) H1) → c σ H fun b H1 => if b = true then t { D with nx := nx } σ H1 else u { D with nx := nx } σ H1) (hr : ∀ v H1, Pv v H1 → r D (σ.set i (some v)) H1) : tSeq (tIfS c t u) r D σ H := run_if (h (r D) hr)
def nextI (row : List Str) (z : Str) (back : Bool) : Int := if z = "" then (if back = true then (row.length : Int) - 1 else 0) else if back = true then (posOf row z : Int) - 1 else (posOf row z : Int) + (if z ∈ row then 1 else 0)
def pickI (row : List Str) (i : Int) : Str := if 0 ≤ i ∧ i < row.length then (row[i.toNat]?).getD "" else ""
def spNext (K : PySem.W.Frag) (C : Addr) (pt : Addr) : Sp := fun vs H Q _ => ∃ (S : Sh) (m : Nat) (p : List Str) (n : Nd) (z : Str) (back : Bool), vs = [.ref n.a, .str z, .bl back] ∧ TreeH C H S m ∧ ShOk S ∧ S.N p = some n ∧ (tl z).length ≤ 200 ∧ m ≤ 100000 ∧ Tb H pt ∧
  ∀ H', Sm H H' → Q (.str (pickI (S.R p) (nextI (S.R p) z back))) H'
section
variable {P : Program} {w : World} {K : PySem.W.Frag} {mg : Str → Option Value} {base : Heap} {cs : Tabs}
theorem ok_next (T : Txt K mg cs) (C_how_many_ahead : Cal P w K mg base 5 "_how_many_ahead" ["row", "key"] (spHow K cs.p_is_number_text)) : CalM P w K mg base 6 cs.a_Tree "next_key" ["self", "key", "back"] (spNext K cs.a_Tree cs.p_is_number_text) := by
  refine T.f_Tree_next_key.cal scTreeNextKey (fun vs H Q E h => ?_) (fun f cdv A outer s H vs Q E hr h => ?_)
  · obtain ⟨_, _, _, _, _, _, rfl, _⟩ := h
    rfl
  obtain ⟨S, m, p, n, z, back, rfl, TH, O, hn, hz, hm, hT, q⟩ := h
  refine ⟨_, (pss_cons (ps_if (pt_cmpR op_eq (pv 1) pe_str (nomark _)) (pss_one (ps_set (i := 3) scTreeNextKey.nd rfl (by first | exact Or.inl rfl | exact Or.inr rfl) (pe_ifExp (pt_val (pv 2)) (pe_op op_sub (pe_callB (lenQ K) rfl T.n_len (by decide +kernel) (pa_cons (pe_fldK (K := K) (pv 0)) pa_nil)) pe_int) pe_int))) (pss_one (ps_if (pt_val (pv 2)) (pss_one (ps_set (i := 3) scTreeNextKey.nd rfl (by first | exact Or.inl rfl | exact Or.inr rfl) (pe_op op_sub (pe_cal C_how_many_ahead (hr.mono (by first | decide | omega)) (pa_cons (pe_fldK (K := K) (pv 0)) (pa_cons (pv 1) pa_nil))) pe_int))) (pss_one (ps_set (i := 3) scTreeNextKey.nd rfl (by first | exact Or.inl rfl | exact Or.inr rfl) (pe_op op_add (pe_cal C_how_many_ahead (hr.mono (by first | decide | omega)) (pa_cons (pe_fldK (K := K) (pv 0)) (pa_cons (pv 1) pa_nil))) (pe_ifExp (pt_cmpR (dinK hr.units) (pv 1) (pe_fldK (K := K) (pv 0)) rfl) pe_int pe_int)))))))
    (pss_one (ps_ret (pe_ifExp (pt_chain op_le op_lt pe_int (pv 3) (pe_callB (lenQ K) rfl T.n_len (by decide +kernel) (pa_cons (pe_fldK (K := K) (pv 0)) pa_nil))) (pe_ix (ixL K) (pe_fldK (K := K) (pv 0)) (pv 3) (fun _ _ => rfl)) pe_str)))), ?_⟩
  have Bn := TH.at_ _ _ hn
  obtain ⟨kvs, hd, hv, hl⟩ := Bn.dic
  have big : ∀ y ∈ S.R p, (tl y).length ≤ 200 := fun y hy => O.key p y ((O.row p n hn y).mp hy)
  have rl := Bn.rl
  refine run_ifto (i := 3) (fun v H1 => v = .int (nextI (S.R p) z back) ∧ Sm H H1) (fun nx hnx => ?_) fun v H1 hv1 => ?_
  · refine ⟨_, rfl, rfl, _, rfl, ?_⟩
    refine ite2 (fun c => ?_) (fun c => ?_)
    · have ez : z = "" := by
        have := of_decide_eq_true c
        injection this
      subst ez
      refine ⟨_, rfl, ?_⟩
      cases back with
      | false =>
        refine ⟨_, rfl, iteF ?_⟩
        exact hnx _ _ ⟨rfl, Sm.refl H⟩
      | true =>
        refine ⟨_, rfl, iteT ?_⟩
        refine ⟨_, rfl, n.a, _, _, _, _, rfl, Bn.ins, T.cl_Tree, T.no_Tree_row, rfl, n.r, _, rfl, .inl (SqL.of Bn.row), _, _, rfl, rfl, hnx _ _ ⟨?_, Sm.refl H⟩⟩
        rw [List.length_map]
        rfl
    · have ez : ¬ z = "" := fun e => c (by rw [e]; exact decide_eq_true rfl)
      refine run_ifE ⟨_, rfl, _, rfl, ?_⟩
      have how : ∀ R : VK, (∀ H1, Sm H H1 → R (.int (posOf (S.R p) z : Nat)) H1) → tCall (spHow K cs.p_is_number_text) [] E0 (tCons (tFld K (tVar 0) "row") (tCons (tVar 1) tNil)) (L2.start ["self", "key", "back", "at"] [.ref n.a, .str z, .bl back]) H R := fun R hR => ⟨_, rfl, n.a, _, _, _, _, rfl, Bn.ins, T.cl_Tree, T.no_Tree_row, rfl, _, rfl, n.r, S.R p, z, rfl, SqL.of Bn.row, O.srt p n hn, big, hz, by omega, hT, hR⟩
      cases back with
      | true =>
        refine iteT ?_
        refine how _ fun H1 S1 => ⟨_, _, rfl, rfl, hnx _ _ ⟨?_, S1⟩⟩
        unfold nextI
        rw [if_neg ez, if_pos rfl]
      | false =>
        refine iteF ?_
        refine how _ fun H1 S1 => ?_
        have Bn1 := (TH.sm S1).at_ _ _ hn
        obtain ⟨kvs1, hd1, hv1, _⟩ := Bn1.dic
        have g := DGet.k (k := Sum.inr z) hd1
        rw [hv1 z] at g
        have mem := O.row p n hn z
        refine ⟨_, rfl, _, rfl, n.a, _, _, _, _, rfl, Bn1.ins, T.cl_Tree, T.no_Tree_beneath, rfl, n.d, _, rfl, g, _, rfl, ?_⟩
        rw [Option.isSome_map, Bool.false_bne]
        have e : nextI (S.R p) z false = (posOf (S.R p) z : Int) + (if z ∈ S.R p then 1 else 0) := by
          unfold nextI
          rw [if_neg ez, if_neg Bool.false_ne_true]
        refine ite2 (fun c2 => ?_) (fun c2 => ?_)
        · refine ⟨_, _, rfl, rfl, hnx _ _ ⟨?_, S1⟩⟩
          rw [e, if_pos (mem.mpr c2)]
        · refine ⟨_, _, rfl, rfl, hnx _ _ ⟨?_, S1⟩⟩
          rw [e, if_neg fun h => c2 (mem.mp h)]
  · obtain ⟨rfl, S1⟩ := hv1
    generalize nextI (S.R p) z back = i at *
    have Bn1 := (TH.sm S1).at_ _ _ hn
    have Q1 := q H1 S1
    refine run_ret ?_
    refine ⟨_, rfl, 0, i, rfl, rfl, _, rfl, ?_⟩
    refine ite2 (fun c => ?_) (fun c => ?_)
    · have c0 : 0 ≤ i := of_decide_eq_true c
      refine ⟨_, rfl, n.a, _, _, _, _, rfl, Bn1.ins, T.cl_Tree, T.no_Tree_row, rfl, n.r, _, rfl, .inl (SqL.of Bn1.row), i, _, rfl, rfl, _, rfl, ?_⟩
      rw [List.length_map]
      refine ite2 (fun c2 => ?_) (fun c2 => ?_)
      · have c3 : i < ((S.R p).length : Int) := of_decide_eq_true c2
        obtain ⟨j, rfl⟩ : ∃ j : Nat, i = (j : Int) := ⟨i.toNat, by omega⟩
        have hj : j < (S.R p).length := by omega
        have e : pickI (S.R p) (j : Int) = (S.R p)[j] := by
          unfold pickI
          rw [if_pos ⟨c0, c3⟩, Int.toNat_natCast, List.getElem?_eq_getElem hj]
          rfl
        rw [e] at Q1
        exact ⟨_, rfl, n.a, _, _, _, _, rfl, Bn1.ins, T.cl_Tree, T.no_Tree_row, rfl, _, rfl, n.r, _, (j : Int), _, rfl, rfl, SqL.of Bn1.row, atI_nat (by rw [List.getElem?_map, List.getElem?_eq_getElem hj]; rfl), Q1⟩
      · have e : pickI (S.R p) i = "" := if_neg fun h => c2 (decide_eq_true h.2)
        rw [e] at Q1
        exact Q1
    · have e : pickI (S.R p) i = "" := if_neg fun h => c (decide_eq_true h.1)
      rw [e] at Q1
      exact ⟨_, rfl, iteF Q1⟩
end
/-! ### arrays: order -/
def ordS (S : Sh) (nm : Str) (ks : List Str) (z : Str) (back : Bool) : Str := if (S.N (nm :: ks)).isSome = true then pickI (S.R (nm :: ks)) (nextI (S.R (nm :: ks)) z back) else ""
def spOrder (K : PySem.W.Frag) (cs : Tabs) : Sp := fun vs H Q _ => ∃ (arr p : Addr) (back : Bool) (S : Sh) (m : Nat) (nm : Str) (ks : List Str) (z : Str), vs = [.ref arr, .ref p, .bl back] ∧ ArrAt cs H arr S m ∧ RefAt K H p nm (ks ++ [z]) ∧ ASK nm ks z ∧ m ≤ 80000 ∧ TGs H cs ∧ ∀ H', Sm H H' → Q (.str (ordS S nm ks z back)) H'
section
variable {P : Program} {w : World} {K : PySem.W.Frag} {mg : Str → Option Value} {base : Heap} {cs : Tabs}
theorem ok_order (T : Txt K mg cs) (Cneed_asking_reference : Cal P w K mg base 8 "need_asking_reference" ["thing"] (spAskRef K cs .non)) (C_path : Cal P w K mg base 1 "_path" ["ref"] (spPath K))
    (CTree_at : CalM P w K mg base 1 cs.a_Tree "at" ["self", "path"] (spAt K cs.a_Tree)) (CTree_next_key : CalM P w K mg base 6 cs.a_Tree "next_key" ["self", "key", "back"] (spNext K cs.a_Tree cs.p_is_number_text)) : CalW P w K mg base 9 cs.a_Arrays "order" ["self", "ref", "back"] 2 [("back", .bl false)] (spOrder K cs) := by
  refine T.f_Arrays_order.cal ⟨fun D doc pm an cdv ct us ks h1 h2 => match us, h1, ks, h2 with | [_, _], _, [_], _ => ⟨_, _, _, _, _, _, rfl, rfl, rfl⟩, fun D doc pm an cdv ct us ws h1 h2 => match us, h1, ws, h2 with | [_, _], _, [_], _ => rfl⟩ (by simp) rfl scArraysOrder (fun vs H Q E h => ?_) (fun f cdv A outer s H vs Q E hr h => ?_)
  · obtain ⟨_, _, _, _, _, _, _, _, rfl, _⟩ := h
    rfl
  obtain ⟨arr, p, back, S, m, nm, ks, z, rfl, A0, R, O, hm, hT, q⟩ := h
  refine ⟨_, (pss_cons (ps_expr (pe_cal Cneed_asking_reference (hr.mono (by first | decide | omega)) (pa_cons (pv 1) pa_nil)))
    (pss_cons (ps_set (i := 3) scArraysOrder.nd rfl (by first | exact Or.inl rfl | exact Or.inr rfl) (pe_cal C_path (hr.mono (by first | decide | omega)) (pa_cons (pv 1) pa_nil)))
    (pss_cons (ps_set (i := 4) scArraysOrder.nd rfl (by first | exact Or.inl rfl | exact Or.inr rfl) (pe_calM CTree_at T.cl_Tree (hr.mono (by first | decide | omega)) (pe_fldK (K := K) (pv 0)) (pa_cons (pe_slice (slT K) (pv 3) po_none (po_some (pe_un un_neg pe_int))) pa_nil)))
    (pss_one (ps_ret (pe_ifExp (pt_cmpR op_isN (pv 4) pe_non (nomark _)) pe_str (pe_calM CTree_next_key T.cl_Tree (hr.mono (by first | decide | omega)) (pv 4) (pa_cons (pe_ix (ixT K) (pv 3) (pe_un un_neg pe_int) (fun _ _ => rfl)) (pa_cons (pv 2) pa_nil))))))))), ?_⟩
  refine ⟨_, rfl, p, nm, ks, z, rfl, R, O, hT, fun H1 S1 => ?_⟩
  have A1 := A0.sm S1
  have lk : (ks ++ [z]).length ≤ 1000 := by rw [List.length_append]; show ks.length + 1 ≤ 1000; have := O.le; omega
  dsimp only
  refine run_set ⟨_, rfl, p, nm, ks ++ [z], rfl, R.same S1, lk, fun t H2 S2 ht => ?_⟩
  have A2 := A1.sm S2
  obtain ⟨dx, n, hi, hn⟩ := A2.it
  have Bn := A2.th.at_ _ _ hn
  have h2 : SqT K H2 t (((nm :: ks) ++ [z]).map V.str) := SqT.of ht
  dsimp only
  refine run_set ⟨_, rfl, arr, _, _, _, _, rfl, hi, T.cl_Arrays, T.no_Arrays__tree, rfl, n.a, n.dx, _, rfl, Bn.ins, rfl, _, rfl, 1, rfl, -1, rfl, slice_but h2 fun p' H3 S3 h3 => ?_⟩
  have A3 := A2.sm S3
  have l7 : (nm :: ks).length ≤ 1000 := by show ks.length + 1 ≤ 1000; have := O.le; omega
  refine ⟨S, m, n, p', nm :: ks, rfl, A3.th, A3.ok, hn, h3, l7, ?_⟩
  have Q3 := q H3 ((S1.trans S2).trans S3)
  unfold ordS at Q3 q
  cases e : S.N (nm :: ks) with
  | none =>
    rw [e] at Q3
    dsimp only
    refine run_ret ⟨_, rfl, rfl, _, rfl, iteT ?_⟩
    exact Q3
  | some x =>
    have S23 := S2.trans S3
    have T3 := hT.sm (S1.trans S23)
    dsimp only
    refine run_ret ⟨_, rfl, rfl, _, rfl, iteF ?_⟩
    have Bx := A3.th.at_ _ _ e
    refine ⟨_, rfl, x.a, _, _, rfl, Bx.ins, rfl, _, rfl, 1, rfl, t, _, -1, .str z, rfl, rfl, Sm.seqT S3 h2, (by rw [List.map_append]; exact atI_last _ _), _, rfl, S, m, nm :: ks, x, z, back, rfl, A3.th, A3.ok, e, Nat.le_trans O.lst.len (by decide), by omega, T3.t_is_number_text, fun H4 S4 => ?_⟩
    have Q4 := q H4 (((S1.trans S2).trans S3).trans S4)
    rw [e] at Q4
    exact Q4
end
/-! ### comprehensions that tell something of each item; rows of arrays -/
structure Stb {β : Type} (A : Hp → V → β → Prop) : Prop where
  sm : ∀ {H H' : Hp} {v : V} {b : β}, Sm H H' → A H v b → A H' v b
  up : ∀ {H : Hp} {D : Addr} {ys zs : List V} {v : V} {b : β}, H D = some (.lst ys) → (∀ y ∈ ys, ∃ H0 b0, A H0 y b0) → A H v b → A (upd H D (.lst zs)) v b
theorem pairA_imp {α β : Type} {F G : α → β → Prop} (i : ∀ a b, F a b → G a b) : ∀ {l : List α} {m : List β}, Paired F l m → Paired G l m
  | _, _, .nil => .nil
  | _, _, .cons h t => .cons (i _ _ h) (pairA_imp i t)
theorem pairA_len {α β : Type} {F : α → β → Prop} : ∀ {l : List α} {m : List β}, Paired F l m → l.length = m.length
  | _, _, .nil => rfl
  | _, _, .cons _ t => congrArg (· + 1) (pairA_len t)
theorem pairA_at {α β : Type} {F : α → β → Prop} : ∀ {l : List α} {m : List β}, Paired F l m → ∀ {j : Nat} {x : α}, l[j]? = some x → ∃ b, m[j]? = some b ∧ F x b
  | _, _, .nil, j, x, h => by cases h
  | _, _, .cons h t, 0, x, e => by
    cases e
    exact ⟨_, rfl, h⟩
  | _, _, .cons _ t, j + 1, x, e => pairA_at t e
theorem pairA_mem {α β : Type} {F : α → β → Prop} : ∀ {l : List α} {m : List β}, Paired F l m → ∀ x ∈ l, ∃ b ∈ m, F x b
  | _, _, .cons h t, x, hx => by
    rcases List.mem_cons.mp hx with rfl | hx
    · exact ⟨_, List.mem_cons_self, h⟩
    · obtain ⟨b, hb, f⟩ := pairA_mem t x hx
      exact ⟨b, List.mem_cons_of_mem _ hb, f⟩
theorem pairA_snoc {α β : Type} {F : α → β → Prop} {l : List α} {m : List β} {x : α} {b : β} (p : Paired F l m) (h : F x b) : Paired F (l ++ [x]) (m ++ [b]) := Paired.snoc p h
theorem paired_mapL {α β : Type} {F : α → β → Prop} {f : α → V} : ∀ {l : List α} {m : List β}, Paired F l m → Paired (fun v b => ∃ a, v = f a ∧ F a b) (l.map f) m
  | _, _, .nil => .nil
  | _, _, .cons h t => .cons ⟨_, rfl, h⟩ (paired_mapL t)
section
variable {K : PySem.W.Frag} {β : Type}
theorem lc_each {g : TG} {own : List Nat} {te0 te : TE} {ds : List β} {σ : L2.St} {H : Hp} {Q : VK} (B A : Hp → V → β → Prop) (sB : ∀ {H H' : Hp} {v : V} {b : β}, Sm H H' → B H v b → B H' v b) (sA : Stb A)
    (h0 : ∀ R : VK, (∀ S xs H1, Sm H H1 → SqL K H1 S xs → Paired (B H1) xs ds → R (.ref S) H1) → te0 σ H R) (hn : ds.length ≤ 90000)
    (he : ∀ x b H2, b ∈ ds → B H2 x b → Sm H H2 → ∀ R : VK, (∀ y H', A H' y b → Sm H2 H' → R y H') → g x (wipe σ own) H2 fun σ2 H3 => wipe σ2 own = wipe σ own ∧ te σ2 H3 R)
    (hQ : ∀ D ys H', Sm H H' → Paired (A H') ys ds → H' D = some (.lst ys) → H D = none → Q (.ref D) H') : tLc (iList K te0) g tYes te own σ H Q := by
  refine h0 _ fun S xs H1 S1 hS hP => ⟨S, rfl, ⟨_, hS⟩, fun D hD => ?_⟩
  have hl := pairA_len hP
  refine lc_list (K := K) (a := S) (xs := xs) (fun j H' => Sm H1 H' ∧ ∃ ys, Paired (A H') ys (ds.take j) ∧ H' D = some (.lst ys)) ⟨Sm.new hD, [], by rw [List.take_zero]; exact .nil, upd_same⟩ (fun _ H' _ h => Sm.seq h.1 hS) (fun n x H' hx h => ?_) fun H' h => ?_
  · obtain ⟨Sh, ys, hy, hDy⟩ := h
    obtain ⟨b, hb, hB⟩ := pairA_at hP hx
    have hlt : n < ds.length := (List.getElem?_eq_some_iff.mp hb).1
    have ly := pairA_len hy
    rw [List.length_take] at ly
    refine he x b H' (List.mem_of_getElem? hb) (sB Sh hB) (S1.trans Sh) _ fun y H2 ay S2 => ⟨ys, S2 _ _ hDy, small' (by omega), Sm.own (Sh.trans S2) hD (no_tbl (S2 _ _ hDy)), ys ++ [y], ?_, upd_same⟩
    rw [List.take_add_one, hb]
    have told : ∀ y ∈ ys, ∃ H0 b0, A H0 y b0 := fun y hm => by
      obtain ⟨b0, _, f⟩ := pairA_mem hy y hm
      exact ⟨_, b0, f⟩
    exact pairA_snoc (pairA_imp (fun _ _ h => sA.up (S2 _ _ hDy) told (sA.sm S2 h)) hy) (sA.up (S2 _ _ hDy) told ay)
  · obtain ⟨Sh, ys, hy, hDy⟩ := h
    rw [hl, List.take_length] at hy
    exact hQ D ys H' (S1.trans Sh) hy hDy (S1.free hD)
theorem lc_eachT {g : TG} {own : List Nat} {te0 te : TE} {ds : List β} {σ : L2.St} {H : Hp} {Q : VK} (B A : Hp → V → β → Prop) (sB : ∀ {H H' : Hp} {v : V} {b : β}, Sm H H' → B H v b → B H' v b) (sA : Stb A)
    (h0 : ∀ R : VK, (∀ S xs H1, Sm H H1 → SqT K H1 S xs → Paired (B H1) xs ds → R (.ref S) H1) → te0 σ H R) (hn : ds.length ≤ 90000)
    (he : ∀ x b H2, b ∈ ds → B H2 x b → Sm H H2 → ∀ R : VK, (∀ y H', A H' y b → Sm H2 H' → R y H') → g x (wipe σ own) H2 fun σ2 H3 => wipe σ2 own = wipe σ own ∧ te σ2 H3 R)
    (hQ : ∀ D ys H', Sm H H' → Paired (A H') ys ds → H' D = some (.lst ys) → H D = none → Q (.ref D) H') : tLc (iTup K te0) g tYes te own σ H Q := by
  refine h0 _ fun S xs H1 S1 hS hP => ⟨S, rfl, ⟨_, hS⟩, fun D hD => ?_⟩
  have hl := pairA_len hP
  refine lc_tup (K := K) (a := S) (xs := xs) (fun j H' => Sm H1 H' ∧ ∃ ys, Paired (A H') ys (ds.take j) ∧ H' D = some (.lst ys)) ⟨Sm.new hD, [], by rw [List.take_zero]; exact .nil, upd_same⟩ (fun _ H' _ h => Sm.seqT h.1 hS) (fun n x H' hx h => ?_) fun H' h => ?_
  · obtain ⟨Sh, ys, hy, hDy⟩ := h
    obtain ⟨b, hb, hB⟩ := pairA_at hP hx
    have hlt : n < ds.length := (List.getElem?_eq_some_iff.mp hb).1
    have ly := pairA_len hy
    rw [List.length_take] at ly
    refine he x b H' (List.mem_of_getElem? hb) (sB Sh hB) (S1.trans Sh) _ fun y H2 ay S2 => ⟨ys, S2 _ _ hDy, small' (by omega), Sm.own (Sh.trans S2) hD (no_tbl (S2 _ _ hDy)), ys ++ [y], ?_, upd_same⟩
    rw [List.take_add_one, hb]
    have told : ∀ y ∈ ys, ∃ H0 b0, A H0 y b0 := fun y hm => by
      obtain ⟨b0, _, f⟩ := pairA_mem hy y hm
      exact ⟨_, b0, f⟩
    exact pairA_snoc (pairA_imp (fun _ _ h => sA.up (S2 _ _ hDy) told (sA.sm S2 h)) hy) (sA.up (S2 _ _ hDy) told ay)
  · obtain ⟨Sh, ys, hy, hDy⟩ := h
    rw [hl, List.take_length] at hy
    exact hQ D ys H' (S1.trans Sh) hy hDy (S1.free hD)
end
/-- a reference told of a path -/
def spRefO (K : PySem.W.Frag) : Sp := fun vs H Q _ => ∃ (t : Addr) (nm : Str) (ks : List Str), vs = [.ref t] ∧ SqT K H t ((nm :: ks).map V.str) ∧ ∀ (q : Addr) (H' : Hp), Sm H H' → H q = none → RefT H' q nm ks → Q (.ref q) H'
theorem slice_tail {K : PySem.W.Frag} {t : Addr} {x : V} {xs : List V} {H : Hp} {Q : VK} (h : SqT K H t (x :: xs)) (q : ∀ p, H p = none → Q (.ref p) (upd H p (.tup xs))) : rSlA K (.ref t) (some 1) none H Q := by
  refine ⟨t, _, rfl, h, fun e => ?_, fun _ p hp => ?_⟩
  · have := e.1
    rw [show HT.sIx (x :: xs).length 0 (some 1) = min 1 (x :: xs).length from rfl, List.length_cons] at this
    omega
  · have e : cutV (x :: xs) (some 1) none = xs := by
      unfold cutV
      rw [show HT.sIx (x :: xs).length 0 (some 1) = min 1 (x :: xs).length from rfl, show HT.sIx (x :: xs).length (x :: xs).length none = (x :: xs).length from rfl, List.length_cons, show min 1 (xs.length + 1) = 1 by omega]
      show xs.take (xs.length + 1 - 1) = xs
      rw [Nat.add_sub_cancel, List.take_length]
    rw [e]
    exact q p hp
/-- what rows tells -/
def RowV (H : Hp) (nm : Str) (ks : List Str) (v : V) (x : List Str × Str) : Prop := ∃ (a r : Addr), v = .ref a ∧ H a = some (.tup [.ref r, .str x.2]) ∧ RefT H r nm (ks ++ x.1)
theorem rowV_stb (nm : Str) (ks : List Str) : Stb fun H v x => RowV H nm ks v x := by
  refine ⟨fun S h => ?_, fun e _ h => ?_⟩
  · obtain ⟨a, r, h1, h2, h3⟩ := h
    exact ⟨a, r, h1, S _ _ h2, h3.keep fun _ _ e => S _ _ e⟩
  · obtain ⟨a, r, h1, h2, h3⟩ := h
    refine ⟨a, r, h1, ?_, h3.keep fun b vs g => ?_⟩
    · rw [upd_ne (ne_of h2 e fun z => by cases z)]
      exact h2
    · rw [upd_ne (ne_of g e fun z => by cases z)]
      exact g
def rowsS (S : Sh) (nm : Str) (ks : List Str) : List (List Str × Str) := if (S.N (nm :: ks)).isSome = true then walkF 8 S (nm :: ks) else []
def spRows (K : PySem.W.Frag) (cs : Tabs) : Sp := fun vs H Q _ => ∃ (arr p : Addr) (S : Sh) (m : Nat) (nm : Str) (ks : List Str), vs = [.ref arr, .ref p] ∧ ArrAt cs H arr S m ∧ RefAt K H p nm ks ∧ REF nm ks ∧ (rowsS S nm ks).length ≤ 80000 ∧ TGs H cs ∧
  ∀ (D : Addr) (ys : List V) (H' : Hp), Sm H H' → H D = none → H' D = some (.lst ys) → Paired (RowV H' nm ks) ys (rowsS S nm ks) → Q (.ref D) H'
section
variable {P : Program} {w : World} {K : PySem.W.Frag} {mg : Str → Option Value} {base : Heap} {cs : Tabs}
theorem ok_reference (T : Txt K mg cs) : Cal P w K mg base 1 "_reference" ["path"] (spRefO K) := by
  refine T.f_reference.cal scReference (fun vs H Q E h => ?_) (fun f cdv A outer s H vs Q E hr h => ?_)
  · obtain ⟨_, _, _, rfl, _⟩ := h
    rfl
  obtain ⟨t, nm, ks, rfl, ht, q⟩ := h
  refine ⟨_, (pss_one (ps_ret (pe_tup (pa_cons (pe_ix (ixT K) (pv 0) pe_int (fun _ _ => rfl)) (pa_cons (pe_slice (slT K) (pv 0) (po_some pe_int) po_none) pa_nil))))), ?_⟩
  refine run_ret ⟨_, rfl, t, _, 0, .str nm, rfl, rfl, ht, atI_nat (j := 0) rfl, _, rfl, 1, rfl, ?_⟩
  dsimp only [tNoPart]
  refine slice_tail ht fun p hp => ⟨(by show 2 ≤ sizeLine; decide), fun d hd => ?_⟩
  have hd0 : H d = none := (Sm.new hp).gone _ hd
  refine q d _ ((Sm.new hp).trans (Sm.new hd)) hd0 ⟨p, upd_same, ?_⟩
  rw [upd_ne (ne_of_none (o := .tup (ks.map V.str)) upd_same hd)]
  exact upd_same
theorem ok_rows (T : Txt K mg cs) (Cneed_reference : Cal P w K mg base 7 "need_reference" ["thing"] (spNeedRef K cs)) (C_path : Cal P w K mg base 1 "_path" ["ref"] (spPath K)) (C_reference : Cal P w K mg base 1 "_reference" ["path"] (spRefO K))
    (CTree_at : CalM P w K mg base 1 cs.a_Tree "at" ["self", "path"] (spAt K cs.a_Tree)) (CTree_walked : CalM P w K mg base 9 cs.a_Tree "walked" ["self", "path"] (spWalk K cs.a_Tree 8)) : CalM P w K mg base 10 cs.a_Arrays "rows" ["self", "ref"] (spRows K cs) := by
  refine T.f_Arrays_rows.cal scArraysRows (fun vs H Q E h => ?_) (fun f cdv A outer s H vs Q E hr h => ?_)
  · obtain ⟨_, _, _, _, _, _, rfl, _⟩ := h
    rfl
  obtain ⟨arr, p, S, m, nm, ks, rfl, A0, R, O, hm, hT, q⟩ := h
  refine ⟨_, (pss_cons (ps_expr (pe_cal Cneed_reference (hr.mono (by first | decide | omega)) (pa_cons (pv 1) pa_nil)))
    (pss_cons (ps_set (i := 2) scArraysRows.nd rfl (by first | exact Or.inl rfl | exact Or.inr rfl) (pe_cal C_path (hr.mono (by first | decide | omega)) (pa_cons (pv 1) pa_nil)))
    (pss_cons (ps_set (i := 3) scArraysRows.nd rfl (by first | exact Or.inl rfl | exact Or.inr rfl) (pe_calM CTree_at T.cl_Tree (hr.mono (by first | decide | omega)) (pe_fldK (K := K) (pv 0)) (pa_cons (pv 2) pa_nil)))
    (pss_cons (ps_if (pt_cmpR op_isN (pv 3) pe_non (nomark _)) (pss_one (ps_ret (pe_lst pa_nil))) pss_nil)
    (pss_one (ps_ret (pe_lc (own := [("found", 4), ("worth", 5)]) (g := gTup K 2 (gCons (gName 4) (gCons (gName 5) gNil))) (tt := tYes) rfl scArraysRows.nd (pi_list (pe_calM CTree_walked T.cl_Tree (hr.mono (by first | decide | omega)) (pv 3) (pa_cons (pv 2) pa_nil))) (blkOk_by (own := [("found", 4), ("worth", 5)]) (N := ["self", "ref", "path", "place", "found", "worth"]) (sc := defScope sArraysRows) (by decide +kernel)) (fun _ _ _ _ _ => (pg_tup rfl (pgs_cons (pg_name (i := 4) scArraysRows.nd rfl (by first | exact Or.inl rfl | exact Or.inr rfl)) (pgs_cons (pg_name (i := 5) scArraysRows.nd rfl (by first | exact Or.inl rfl | exact Or.inr rfl)) pgs_nil)))) (fun _ _ _ _ _ => pts_nil) (fun _ _ _ _ _ => (pe_tup (pa_cons (pe_cal C_reference (hr.mono (by first | decide | omega)) (pa_cons (pv 4) pa_nil)) (pa_cons (pv 5) pa_nil))))))))))), ?_⟩
  refine ⟨_, rfl, p, nm, ks, rfl, R, O, hT, fun H1 S1 => ?_⟩
  have A1 := A0.sm S1
  have lk : ks.length ≤ 1000 := Nat.le_trans O.le (by decide)
  dsimp only
  refine run_set ⟨_, rfl, p, nm, ks, rfl, R.same S1, lk, fun t H2 S2 ht => ?_⟩
  have A2 := A1.sm S2
  obtain ⟨dx, n, hi, hn⟩ := A2.it
  have Bn := A2.th.at_ _ _ hn
  have h2 : SqT K H2 t ((nm :: ks).map V.str) := SqT.of ht
  have l7 : (nm :: ks).length ≤ 1000 := by show ks.length + 1 ≤ 1000; have := O.le; omega
  dsimp only
  refine run_set ⟨_, rfl, arr, _, _, _, _, rfl, hi, T.cl_Arrays, T.no_Arrays__tree, rfl, n.a, n.dx, _, rfl, Bn.ins, rfl, _, rfl, S, m, n, t, nm :: ks, rfl, A2.th, A2.ok, hn, h2, l7, ?_⟩
  unfold rowsS at q hm
  cases e : S.N (nm :: ks) with
  | none =>
    rw [e] at q hm
    dsimp only
    refine run_if ⟨_, rfl, rfl, _, rfl, iteT ?_⟩
    refine run_ret ⟨(by show 0 ≤ sizeLine; decide), fun D hD => ?_⟩
    exact q D [] _ ((S1.trans S2).trans (Sm.new hD)) ((S1.trans S2).gone _ hD) upd_same .nil
  | some x =>
    rw [e] at q hm
    dsimp only
    refine run_if ⟨_, rfl, rfl, _, rfl, iteF ?_⟩
    refine run_next ?_
    dsimp only
    refine run_ret ?_
    have Bx := A2.th.at_ _ _ e
    refine lc_each (K := K) (fun H v (x : List Str × Str) => ∃ a, v = .ref a ∧ RowIt K H (nm :: ks) a x) (fun H v x => RowV H nm ks v x) (fun S h => ?_) (ds := walkF 8 S (nm :: ks)) (rowV_stb nm ks) (fun R h => ?_) (by simp only [Option.isSome_some, if_true] at hm; omega) (fun v b H3 hb hB S3 R h => ?_) fun D ys H3 S3 hP hD hD0 => ?_
    · obtain ⟨a, h1, h2⟩ := h
      exact ⟨a, h1, h2.sm S⟩
    · refine ⟨_, rfl, x.a, _, _, rfl, Bx.ins, rfl, _, rfl, S, m, nm :: ks, x, t, nm :: ks, rfl, A2.th, A2.ok, e, h2, ?_, ?_, ?_, fun l H3 hl S3 hr => ?_⟩
      · show 8 ≤ (ks.length + 1) + 8
        omega
      · show (ks.length + 1) + 8 ≤ 100
        have := O.le
        omega
      · simp only [Option.isSome_some, if_true] at hm
        omega
      · obtain ⟨as, h1, h2⟩ := hr
        refine h l _ H3 S3 (SqL.of h1) ?_
        exact paired_mapL h2
    · obtain ⟨a, rfl, qa, g1, g2⟩ := hB
      refine ⟨a, _, rfl, SqT.of g1, rfl, _, _, rfl, _, _, rfl, rfl, rfl, ?_⟩
      refine ⟨_, (by rfl), qa, nm, ks ++ b.1, rfl, g2, fun q4 H4 S4 hq4 Rq => ⟨_, (by rfl), (by show 2 ≤ sizeLine; decide), fun d hd => ?_⟩⟩
      exact h _ _ ⟨d, q4, rfl, upd_same, Rq.keep fun b vs e => by rw [upd_ne (ne_of_none e hd)]; exact e⟩ (S4.trans (Sm.new hd))
    · have S13 := (S1.trans S2).trans S3
      exact q D ys H3 S13 ((S1.trans S2).gone D hD0) hD hP
end
/-! ### which key is nearer -/
def sideB (x z : Str) (t : Bool) : Bool := decide (z = "") || (!decide (x = z) && (ahead x z == t))
def nearB (x z y : Str) (t : Bool) : Bool := sideB x z t && (decide (y = "") || (ahead x y != t))
/-! ### the nearest key: mathematics -/
structure NextOf (xs : List Str) (z : Str) (t : Bool) (y : Str) : Prop where
  no : y = "" → ∀ x ∈ xs, sideB x z t = false
  mem : y ≠ "" → y ∈ xs ∧ sideB y z t = true ∧ ∀ x ∈ xs, sideB x z t = true → x = y ∨ ahead y x = !t
theorem NextOf.one {xs ws : List Str} {z : Str} {t : Bool} {y u : Str} (a : NextOf xs z t y) (b : NextOf ws z t u) (h : ∀ x, x ∈ xs ↔ x ∈ ws) : y = u := by
  by_cases ey : y = ""
  · by_cases eu : u = ""
    · rw [ey, eu]
    · obtain ⟨m, s, _⟩ := b.mem eu
      have := a.no ey u ((h u).mpr m)
      rw [s] at this
      cases this
  · obtain ⟨m, s, n⟩ := a.mem ey
    by_cases eu : u = ""
    · have := b.no eu y ((h y).mp m)
      rw [s] at this
      cases this
    · obtain ⟨m2, s2, n2⟩ := b.mem eu
      rcases n u ((h u).mpr m2) s2 with e | e
      · exact e.symm
      · rcases n2 y ((h y).mp m) s with e2 | e2
        · exact e2
        · cases t with
          | false =>
            have := ahead_one (show ahead y u = true from e)
            rw [show ahead u y = true from e2] at this
            cases this
          | true => exact ahead_same (show ahead y u = false from e) (show ahead u y = false from e2)
/-- the law's own walk -/
theorem fold_next {z : Str} {t : Bool} : ∀ (xs done : List Str) (y : Str), NextOf done z t y → (∀ x ∈ xs, x ≠ "") → NextOf (done ++ xs) z t (xs.foldl (fun y x => if nearB x z y t = true then x else y) y)
  | [], done, y, h, _ => by
    rw [List.append_nil]
    exact h
  | x :: r, done, y, h, hx => by
    rw [List.foldl_cons, show done ++ x :: r = (done ++ [x]) ++ r by simp]
    refine fold_next r (done ++ [x]) _ ?_ fun u hu => hx u (List.mem_cons_of_mem _ hu)
    have nx := hx x List.mem_cons_self
    have cases' : ∀ u, u ∈ done ++ [x] ↔ u ∈ done ∨ u = x := fun u => by simp
    by_cases sx : sideB x z t = true
    · by_cases ey : y = ""
      · have near : nearB x z y t = true := by
          unfold nearB
          rw [sx, ey, decide_eq_true rfl]
          rfl
        rw [if_pos near]
        refine ⟨fun e => absurd e nx, fun _ => ⟨(cases' x).mpr (.inr rfl), sx, fun u hu su => ?_⟩⟩
        rcases (cases' u).mp hu with hu | hu
        · rw [h.no ey u hu] at su
          cases su
        · exact .inl hu
      · obtain ⟨m, s, n⟩ := h.mem ey
        have en : nearB x z y t = (ahead x y != t) := by
          unfold nearB
          rw [sx, decide_eq_false ey]
          rfl
        by_cases near : nearB x z y t = true
        · rw [if_pos near]
          rw [en] at near
          refine ⟨fun e => absurd e nx, fun _ => ⟨(cases' x).mpr (.inr rfl), sx, fun u hu su => ?_⟩⟩
          rcases (cases' u).mp hu with hu | hu
          · rcases n u hu su with e | e
            · subst e
              by_cases eq : u = x
              · exact .inl eq
              · refine .inr ?_
                cases t <;> cases hh : ahead x u <;> rw [hh] at near <;> first | rfl | cases near
            · by_cases eq : u = x
              · exact .inl eq
              · refine .inr ?_
                cases t with
                | false =>
                  have a1 : ahead x y = true := by
                    cases hh : ahead x y with
                    | true => rfl
                    | false => rw [hh] at near; cases near
                  exact ahead_tr a1 e
                | true =>
                  have a1 : ahead x y = false := by
                    cases hh : ahead x y with
                    | false => rfl
                    | true => rw [hh] at near; cases near
                  cases hh : ahead x u with
                  | false => rfl
                  | true =>
                    have e' : ahead y u = false := e
                    by_cases uy : u = y
                    · rw [uy] at hh
                      rw [hh] at a1
                      cases a1
                    · have two := ahead_two (x := y) (y := u) fun z => uy z.symm
                      rw [e', Bool.false_or] at two
                      have := ahead_tr hh two
                      rw [this] at a1
                      cases a1
          · exact .inl hu
        · rw [if_neg near]
          refine ⟨fun e => absurd e ey, fun _ => ⟨(cases' y).mpr (.inl m), s, fun u hu su => ?_⟩⟩
          rcases (cases' u).mp hu with hu | hu
          · exact n u hu su
          · subst hu
            rw [en] at near
            by_cases eq : u = y
            · exact .inl eq
            · refine .inr ?_
              have two := ahead_two eq
              cases t with
              | false =>
                have a1 : ahead u y = false := by
                  cases hh : ahead u y with
                  | false => rfl
                  | true => rw [hh] at near; exact absurd rfl near
                rw [a1, Bool.false_or] at two
                exact two
              | true =>
                have a1 : ahead u y = true := by
                  cases hh : ahead u y with
                  | true => rfl
                  | false => rw [hh] at near; exact absurd rfl near
                exact ahead_one a1
    · have near : ¬ nearB x z y t = true := fun hh => by
        unfold nearB at hh
        rw [Bool.eq_false_iff.mpr sx] at hh
        cases hh
      rw [if_neg near]
      refine ⟨fun e u hu => ?_, fun e => ?_⟩
      · rcases (cases' u).mp hu with hu | hu
        · exact h.no e u hu
        · rw [hu]
          exact Bool.eq_false_iff.mpr sx
      · obtain ⟨m, s, n⟩ := h.mem e
        refine ⟨(cases' y).mpr (.inl m), s, fun u hu su => ?_⟩
        rcases (cases' u).mp hu with hu | hu
        · exact n u hu su
        · rw [hu] at su
          exact absurd su sx
/-! ### the next key of a row is the nearest -/
theorem pick_in {row : List Str} {j : Nat} (h : j < row.length) : pickI row (j : Int) = row[j] := by
  unfold pickI
  rw [if_pos ⟨by omega, by omega⟩, Int.toNat_natCast, List.getElem?_eq_getElem h]
  rfl
theorem pick_out {row : List Str} {i : Int} (h : ¬ (0 ≤ i ∧ i < row.length)) : pickI row i = "" := if_neg h
theorem pos_at : ∀ (zs : List Str) (k : Str) (h : posOf zs k < zs.length), ahead zs[posOf zs k] k = false
  | [], k, h => by
    exact absurd h (Nat.not_lt_zero _)
  | x :: r, k, h => by
    by_cases c : ahead x k = true
    · have e : posOf (x :: r) k = posOf r k + 1 := by
        unfold posOf
        rw [List.takeWhile_cons, if_pos c, List.length_cons]
      have h' : posOf r k < r.length := by
        rw [e, List.length_cons] at h
        omega
      have ih := pos_at r k h'
      simp only [e, List.getElem_cons_succ]
      exact ih
    · have e : posOf (x :: r) k = 0 := by
        unfold posOf
        rw [List.takeWhile_cons, if_neg c]
        rfl
      simp only [e, List.getElem_cons_zero]
      exact Bool.eq_false_iff.mpr c
theorem row_next {row : List Str} {z : Str} {t : Bool} (P : row.Pairwise fun x y => ahead x y = true) (ne : ∀ x ∈ row, x ≠ "") : NextOf row z t (pickI row (nextI row z t)) := by
  have pw : ∀ {i j : Nat} (hi : i < row.length) (hj : j < row.length), i < j → ahead row[i] row[j] = true := fun hi hj h => List.pairwise_iff_getElem.mp P _ _ hi hj h
  have idx : ∀ x ∈ row, ∃ (i : Nat) (hi : i < row.length), row[i] = x := fun x hx => List.mem_iff_getElem.mp hx
  by_cases ez : z = ""
  · have side : ∀ x, sideB x z t = true := fun x => by
      unfold sideB
      rw [decide_eq_true ez, Bool.true_or]
    cases t with
    | false =>
      have e : nextI row z false = ((0 : Nat) : Int) := by
        unfold nextI
        rw [if_pos ez, if_neg Bool.false_ne_true]
        rfl
      rw [e]
      by_cases h : 0 < row.length
      · rw [pick_in h]
        refine ⟨fun q => absurd q (ne _ (List.getElem_mem h)), fun _ => ⟨List.getElem_mem h, side _, fun x hx _ => ?_⟩⟩
        obtain ⟨i, hi, rfl⟩ := idx x hx
        rcases Nat.eq_zero_or_pos i with rfl | g
        · exact .inl rfl
        · exact .inr (pw h hi g)
      · rw [pick_out (by omega)]
        exact ⟨fun _ x hx => absurd (List.length_pos_of_mem hx) h, fun q => absurd rfl q⟩
    | true =>
      have e : nextI row z true = (row.length : Int) - 1 := by
        unfold nextI
        rw [if_pos ez, if_pos rfl]
      rw [e]
      by_cases h : 0 < row.length
      · have hl : row.length - 1 < row.length := by omega
        rw [show (row.length : Int) - 1 = ((row.length - 1 : Nat) : Int) by omega, pick_in hl]
        refine ⟨fun q => absurd q (ne _ (List.getElem_mem hl)), fun _ => ⟨List.getElem_mem hl, side _, fun x hx _ => ?_⟩⟩
        obtain ⟨i, hi, rfl⟩ := idx x hx
        by_cases g : i = row.length - 1
        · subst g
          exact .inl rfl
        · exact .inr (ahead_one (pw hi hl (by omega)))
      · rw [pick_out (by omega)]
        exact ⟨fun _ x hx => absurd (List.length_pos_of_mem hx) h, fun q => absurd rfl q⟩
  have A1 : ∀ i (hi : i < row.length), i < posOf row z → ahead row[i] z = true := fun i hi h => pos_take row z _ (List.mem_iff_getElem.mpr ⟨i, by rw [List.length_take]; omega, by rw [List.getElem_take]⟩)
  have A0 : ∀ (hp : posOf row z < row.length), ahead row[posOf row z] z = false := fun hp => pos_at row z hp
  have A2 : ∀ i (hi : i < row.length), posOf row z ≤ i → ahead row[i] z = false := fun i hi h => by
    have hp : posOf row z < row.length := by omega
    rcases Nat.eq_or_lt_of_le h with g | g
    · have := A0 hp
      simp only [g] at this
      exact this
    · cases hh : ahead row[i] z with
      | false => rfl
      | true =>
        have := ahead_tr (pw hp hi g) hh
        rw [A0 hp] at this
        cases this
  have A3 : z ∈ row → ∃ hp : posOf row z < row.length, row[posOf row z] = z := fun hz => by
    obtain ⟨k, hk, ek⟩ := idx z hz
    have k1 : ¬ k < posOf row z := fun h => by
      have := A1 k hk h
      rw [ek, ahead_self] at this
      cases this
    have hp : posOf row z < row.length := by omega
    rcases Nat.eq_or_lt_of_le (Nat.not_lt.mp k1) with g | g
    · exact ⟨hp, by simp only [g]; exact ek⟩
    · have := pw hp hk g
      rw [ek, A0 hp] at this
      cases this
  have sd : ∀ x, sideB x z t = (!decide (x = z) && (ahead x z == t)) := fun x => by
    unfold sideB
    rw [decide_eq_false ez, Bool.false_or]
  cases t with
  | true =>
    have e : nextI row z true = (posOf row z : Int) - 1 := by
      unfold nextI
      rw [if_neg ez, if_pos rfl]
    rw [e]
    have pl := pos_le row z
    have inside : ∀ i (hi : i < row.length), sideB row[i] z true = true → i < posOf row z := fun i hi h => by
      rw [sd] at h
      rcases Nat.lt_or_ge i (posOf row z) with g | g
      · exact g
      · rw [A2 i hi g, Bool.and_comm] at h
        cases h
    by_cases h : 0 < posOf row z
    · have hl : posOf row z - 1 < row.length := by omega
      rw [show (posOf row z : Int) - 1 = ((posOf row z - 1 : Nat) : Int) by omega, pick_in hl]
      have a := A1 _ hl (by omega)
      refine ⟨fun q => absurd q (ne _ (List.getElem_mem hl)), fun _ => ⟨List.getElem_mem hl, ?_, fun x hx sx => ?_⟩⟩
      · rw [sd, a, decide_eq_false fun q => by rw [q, ahead_self] at a; cases a]
        rfl
      · obtain ⟨i, hi, rfl⟩ := idx x hx
        have := inside i hi sx
        by_cases g : i = posOf row z - 1
        · subst g
          exact .inl rfl
        · exact .inr (ahead_one (pw hi hl (by omega)))
    · rw [pick_out (by omega)]
      refine ⟨fun _ x hx => ?_, fun q => absurd rfl q⟩
      obtain ⟨i, hi, rfl⟩ := idx x hx
      cases hh : sideB row[i] z true with
      | false => rfl
      | true => exact absurd (inside i hi hh) (by omega)
  | false =>
    obtain ⟨qn, eq⟩ : ∃ qn : Nat, nextI row z false = (qn : Int) ∧ (∀ i (hi : i < row.length), sideB row[i] z false = true ↔ qn ≤ i) := by
      by_cases hz : z ∈ row
      · obtain ⟨hp, ep⟩ := A3 hz
        refine ⟨posOf row z + 1, ?_, fun i hi => ?_⟩
        · unfold nextI
          rw [if_neg ez, if_neg Bool.false_ne_true, if_pos hz]
          rfl
        · rw [sd]
          rcases Nat.lt_trichotomy i (posOf row z) with g | g | g
          · rw [A1 i hi g, Bool.and_comm]
            exact ⟨fun h => (by cases h), fun h => absurd g (by omega)⟩
          · subst g
            rw [decide_eq_true ep]
            exact ⟨fun h => (by cases h), fun h => absurd h (by omega)⟩
          · rw [A2 i hi (by omega), decide_eq_false fun (q : row[i] = z) => by
              have := pw hp hi g
              rw [ep, q, ahead_self] at this
              cases this]
            exact ⟨fun _ => g, fun _ => rfl⟩
      · refine ⟨posOf row z, ?_, fun i hi => ?_⟩
        · unfold nextI
          rw [if_neg ez, if_neg Bool.false_ne_true, if_neg hz]
          omega
        · rw [sd, decide_eq_false fun (q : row[i] = z) => hz (q ▸ List.getElem_mem hi)]
          rcases Nat.lt_or_ge i (posOf row z) with g | g
          · rw [A1 i hi g]
            exact ⟨fun h => (by cases h), fun h => absurd g (by omega)⟩
          · rw [A2 i hi g]
            exact ⟨fun _ => g, fun _ => rfl⟩
    rw [eq.1]
    by_cases h : qn < row.length
    · rw [pick_in h]
      refine ⟨fun q => absurd q (ne _ (List.getElem_mem h)), fun _ => ⟨List.getElem_mem h, (eq.2 qn h).mpr (Nat.le_refl _), fun x hx sx => ?_⟩⟩
      obtain ⟨i, hi, rfl⟩ := idx x hx
      rcases Nat.eq_or_lt_of_le ((eq.2 i hi).mp sx) with g | g
      · subst g
        exact .inl rfl
      · exact .inr (pw h hi g)
    · rw [pick_out (by omega)]
      refine ⟨fun _ x hx => ?_, fun q => absurd rfl q⟩
      obtain ⟨i, hi, rfl⟩ := idx x hx
      cases hh : sideB row[i] z false with
      | false => rfl
      | true => exact absurd ((eq.2 i hi).mp hh) (by omega)
/-! ### the order in which nodes are walked -/
def wlt : List Str → List Str → Bool
  | _, [] => false
  | [], _ :: _ => true
  | x :: a, y :: b => if x = y then wlt a b else ahead x y
theorem wlt_nil (a : List Str) : wlt a [] = false := by cases a <;> rfl
theorem wlt_same (x : Str) (a b : List Str) : wlt (x :: a) (x :: b) = wlt a b := if_pos rfl
theorem wlt_app : ∀ (c a b : List Str), wlt (c ++ a) (c ++ b) = wlt a b
  | [], _, _ => rfl
  | x :: c, a, b => (wlt_same x _ _).trans (wlt_app c a b)
theorem wlt_self : ∀ a : List Str, wlt a a = false
  | [] => rfl
  | x :: a => (wlt_same x a a).trans (wlt_self a)
theorem wlt_ext {c : List Str} {k : Str} {t : List Str} : wlt c (c ++ k :: t) = true := by
  have := wlt_app c [] (k :: t)
  rw [List.append_nil] at this
  exact this
theorem wlt_two : ∀ {a b : List Str}, a ≠ b → wlt a b = true ∨ wlt b a = true
  | [], [], h => absurd rfl h
  | [], _ :: _, _ => .inl rfl
  | _ :: _, [], _ => .inr rfl
  | x :: a, y :: b, h => by
    by_cases e : x = y
    · subst e
      rw [wlt_same, wlt_same]
      exact wlt_two fun z => h (by rw [z])
    · have := ahead_two e
      rw [Bool.or_eq_true] at this
      unfold wlt
      rw [if_neg e, if_neg (Ne.symm e)]
      exact this
theorem wlt_one : ∀ {a b : List Str}, wlt a b = true → wlt b a = false
  | a, [], h => by rw [wlt_nil] at h; cases h
  | [], _ :: _, _ => rfl
  | x :: a, y :: b, h => by
    by_cases e : x = y
    · subst e
      rw [wlt_same] at h ⊢
      exact wlt_one h
    · unfold wlt at h ⊢
      rw [if_neg e] at h
      rw [if_neg (Ne.symm e)]
      exact ahead_one h
theorem wlt_tr : ∀ {a b c : List Str}, wlt a b = true → wlt b c = true → wlt a c = true
  | a, b, [], _, g => by rw [wlt_nil] at g; cases g
  | [], _, _ :: _, _, _ => rfl
  | x :: a, [], z :: c, h, _ => by rw [wlt_nil] at h; cases h
  | x :: a, y :: b, z :: c, h, g => by
    by_cases e : x = y
    · subst e
      by_cases e2 : x = z
      · subst e2
        rw [wlt_same] at h g ⊢
        exact wlt_tr h g
      · unfold wlt at g ⊢
        rw [if_neg e2] at g ⊢
        exact g
    · by_cases e2 : y = z
      · subst e2
        unfold wlt at h ⊢
        rw [if_neg e] at h ⊢
        exact h
      · have h' : ahead x y = true := by
          unfold wlt at h
          rw [if_neg e] at h
          exact h
        have g' : ahead y z = true := by
          unfold wlt at g
          rw [if_neg e2] at g
          exact g
        have ne : x ≠ z := fun w => by
          subst w
          rw [ahead_one h'] at g'
          cases g'
        unfold wlt
        rw [if_neg ne]
        exact ahead_tr h' g'
theorem wlt_anti {a b : List Str} (h : wlt a b = false) (g : wlt b a = false) : a = b := by
  by_cases e : a = b
  · exact e
  · rcases wlt_two e with z | z
    · rw [z] at h; cases h
    · rw [z] at g; cases g
/-- a tree is walked so -/
theorem walk_srt {S : Sh} (O : ShOk S) : ∀ (f : Nat) (p : List Str), (S.N p).isSome = true → (walkF f S p).Pairwise fun x y => wlt x.1 y.1 = true
  | 0, _, _ => .nil
  | f + 1, p, h => by
    obtain ⟨n, hn⟩ := Option.isSome_iff_exists.mp h
    unfold walkF
    rw [List.pairwise_append]
    refine ⟨?_, ?_, fun x hx y hy => ?_⟩
    · cases S.W p with
      | none => exact .nil
      | some z => exact List.pairwise_singleton _ _
    · rw [List.pairwise_flatMap]
      refine ⟨fun k hk => ?_, ?_⟩
      · rw [List.pairwise_map]
        refine (walk_srt O f (p ++ [k]) ((O.row p n hn k).mp hk)).imp fun {a b} g => ?_
        show wlt (k :: a.1) (k :: b.1) = true
        rw [wlt_same]
        exact g
      · refine (O.srt p n hn).imp fun {k j} hkj x hx y hy => ?_
        obtain ⟨x', _, rfl⟩ := List.mem_map.mp hx
        obtain ⟨y', _, rfl⟩ := List.mem_map.mp hy
        have ne : k ≠ j := fun z => by
          rw [z, ahead_self] at hkj
          cases hkj
        show wlt (k :: x'.1) (j :: y'.1) = true
        unfold wlt
        rw [if_neg ne]
        exact hkj
    · cases e : S.W p with
      | none =>
        rw [e] at hx
        cases hx
      | some z =>
        rw [e] at hx
        obtain rfl := List.mem_singleton.mp hx
        obtain ⟨k, _, hy⟩ := List.mem_flatMap.mp hy
        obtain ⟨y', _, rfl⟩ := List.mem_map.mp hy
        rfl
/-! ### the nodes beside a path: mathematics -/
theorem wlt_div : ∀ {c a b q : List Str}, wlt (c ++ a) q = true → (¬ ∃ t, q = c ++ t) → wlt (c ++ b) q = true
  | [], _, _, q, _, n => absurd ⟨q, rfl⟩ n
  | x :: c, a, b, [], h, _ => by rw [wlt_nil] at h; cases h
  | x :: c, a, b, y :: q, h, n => by
    by_cases e : x = y
    · subst e
      rw [List.cons_append, wlt_same] at h ⊢
      exact wlt_div h fun ⟨t, e⟩ => n ⟨t, by rw [e]; rfl⟩
    · show (if x = y then wlt (c ++ b) q else ahead x y) = true
      have h' : (if x = y then wlt (c ++ a) q else ahead x y) = true := h
      rw [if_neg e] at h' ⊢
      exact h'
theorem wlt_div2 : ∀ {c a b q : List Str}, wlt q (c ++ a) = true → (¬ ∃ t, q = c ++ t) → wlt q (c ++ b) = true
  | [], _, _, q, _, n => absurd ⟨q, rfl⟩ n
  | x :: c, a, b, [], _, _ => rfl
  | x :: c, a, b, y :: q, h, n => by
    by_cases e : y = x
    · subst e
      rw [List.cons_append, wlt_same] at h ⊢
      exact wlt_div2 h fun ⟨t, e⟩ => n ⟨t, by rw [e]; rfl⟩
    · show (if y = x then wlt q (c ++ b) else ahead y x) = true
      have h' : (if y = x then wlt q (c ++ a) else ahead y x) = true := h
      rw [if_neg e] at h' ⊢
      exact h'
theorem wlt_app1 {c : List Str} {x y : Str} {a b : List Str} (ne : x ≠ y) : wlt (c ++ x :: a) (c ++ y :: b) = ahead x y := by
  rw [wlt_app]
  exact if_neg ne
theorem wlt_back {c t : List Str} : wlt (c ++ t) c = false := by
  cases t with
  | nil => rw [List.append_nil]; exact wlt_self c
  | cons k t => exact wlt_one wlt_ext
/-- a node stands at q -/
def Node (S : Sh) (q : List Str) : Prop := S.W q ≠ none
theorem Node.some {S : Sh} (O : ShOk S) {q : List Str} (h : Node S q) : (S.N q).isSome = true := by
  cases e : S.N q with
  | none => exact absurd (O.out q e) h
  | some x => rfl
theorem Node.row {S : Sh} (O : ShOk S) {c : List Str} {k : Str} {t : List Str} (h : Node S (c ++ k :: t)) : (S.N c).isSome = true ∧ k ∈ S.R c := by
  have h1 : (S.N ((c ++ [k]) ++ t)).isSome = true := by
    rw [List.append_assoc]
    exact h.some O
  have h2 := O.up t (c ++ [k]) h1
  have h3 := O.pre c k h2
  obtain ⟨n, hn⟩ := Option.isSome_iff_exists.mp h3
  exact ⟨h3, (O.row c n hn k).mpr h2⟩
structure FirstOf (S : Sh) (c r : List Str) : Prop where
  pre : ∃ t, r = c ++ t
  node : Node S r
  least : ∀ t, Node S (c ++ t) → c ++ t = r ∨ wlt r (c ++ t) = true
structure LastOf (S : Sh) (c r : List Str) : Prop where
  pre : ∃ t, r = c ++ t
  node : Node S r
  most : ∀ t, Node S (c ++ t) → c ++ t = r ∨ wlt (c ++ t) r = true
/-- on the way to the first -/
def FirstI (S : Sh) (c d : List Str) : Prop := (∃ t, d = c ++ t) ∧ (S.N d).isSome = true ∧ ∀ t, Node S (c ++ t) → (∃ u, c ++ t = d ++ u) ∨ ∀ s, wlt (d ++ s) (c ++ t) = true
def LastI (S : Sh) (c d : List Str) : Prop := (∃ t, d = c ++ t) ∧ (S.N d).isSome = true ∧ ∀ t, Node S (c ++ t) → (∃ u, c ++ t = d ++ u) ∨ ∀ s, wlt (c ++ t) (d ++ s) = true
theorem FirstI.start {S : Sh} {c : List Str} (h : (S.N c).isSome = true) : FirstI S c c := ⟨⟨[], (List.append_nil c).symm⟩, h, fun t _ => .inl ⟨t, rfl⟩⟩
theorem LastI.start {S : Sh} {c : List Str} (h : (S.N c).isSome = true) : LastI S c c := ⟨⟨[], (List.append_nil c).symm⟩, h, fun t _ => .inl ⟨t, rfl⟩⟩
theorem FirstI.done {S : Sh} {c d : List Str} (I : FirstI S c d) (h : Node S d) : FirstOf S c d := by
  refine ⟨I.1, h, fun t ht => ?_⟩
  rcases I.2.2 t ht with ⟨u, e⟩ | g
  · cases u with
    | nil => exact .inl (by rw [e, List.append_nil])
    | cons k u => exact .inr (by rw [e]; exact wlt_ext)
  · exact .inr (by have := g []; rwa [List.append_nil] at this)
theorem FirstI.step {S : Sh} (O : ShOk S) {c d : List Str} (I : FirstI S c d) (h : S.W d = none) {k : Str} {r : List Str} (hr : S.R d = k :: r) : FirstI S c (d ++ [k]) := by
  obtain ⟨⟨t0, e0⟩, hd, hI⟩ := I
  obtain ⟨n, hn⟩ := Option.isSome_iff_exists.mp hd
  refine ⟨⟨t0 ++ [k], by rw [e0, List.append_assoc]⟩, (O.row d n hn k).mp (by rw [hr]; exact List.mem_cons_self), fun t ht => ?_⟩
  rcases hI t ht with ⟨u, e⟩ | g
  · cases u with
    | nil =>
      rw [List.append_nil] at e
      rw [e] at ht
      exact absurd h ht
    | cons j u =>
      by_cases ejk : j = k
      · exact .inl ⟨u, by rw [e, ejk, List.append_assoc]; rfl⟩
      · refine .inr fun s => ?_
        rw [e] at ht
        have hj := (ht.row O).2
        rw [hr] at hj
        rcases List.mem_cons.mp hj with z | z
        · exact absurd z ejk
        · have srt := O.srt d n hn
          rw [hr] at srt
          have a := (List.pairwise_cons.mp srt).1 j z
          rw [e, List.append_assoc]
          show wlt (d ++ k :: s) (d ++ j :: u) = true
          rw [wlt_app1 (Ne.symm ejk)]
          exact a
  · exact .inr fun s => by rw [List.append_assoc]; exact g _
theorem LastI.done {S : Sh} (O : ShOk S) {c d : List Str} (I : LastI S c d) (h : S.R d = []) (n : Node S d) : LastOf S c d := by
  refine ⟨I.1, n, fun t ht => ?_⟩
  rcases I.2.2 t ht with ⟨u, e⟩ | g
  · cases u with
    | nil => exact .inl (by rw [e, List.append_nil])
    | cons k u =>
      rw [e] at ht
      have := (ht.row O).2
      rw [h] at this
      cases this
  · exact .inr (by have := g []; rwa [List.append_nil] at this)
theorem LastI.step {S : Sh} (O : ShOk S) {c d : List Str} (I : LastI S c d) {k : Str} {r : List Str} (hr : S.R d = r ++ [k]) : LastI S c (d ++ [k]) := by
  obtain ⟨⟨t0, e0⟩, hd, hI⟩ := I
  obtain ⟨n, hn⟩ := Option.isSome_iff_exists.mp hd
  refine ⟨⟨t0 ++ [k], by rw [e0, List.append_assoc]⟩, (O.row d n hn k).mp (by rw [hr]; simp), fun t ht => ?_⟩
  rcases hI t ht with ⟨u, e⟩ | g
  · cases u with
    | nil =>
      rw [List.append_nil] at e
      refine .inr fun s => ?_
      rw [e, List.append_assoc]
      exact wlt_ext
    | cons j u =>
      by_cases ejk : j = k
      · exact .inl ⟨u, by rw [e, ejk, List.append_assoc]; rfl⟩
      · refine .inr fun s => ?_
        rw [e] at ht
        have hj := (ht.row O).2
        rw [hr] at hj
        rcases List.mem_append.mp hj with z | z
        · have srt := O.srt d n hn
          rw [hr] at srt
          have a := (List.pairwise_append.mp srt).2.2 j z k List.mem_cons_self
          rw [e, List.append_assoc]
          show wlt (d ++ j :: u) (d ++ k :: s) = true
          rw [wlt_app1 ejk]
          exact a
        · exact absurd (List.mem_singleton.mp z) ejk
  · exact .inr fun s => by rw [List.append_assoc]; exact g _
/-! ### the next node behind a path, the one ahead, of the same first key -/
def Beh (S : Sh) (p r : List Str) : Prop := Node S r ∧ r.head? = p.head? ∧ wlt p r = true ∧ ∀ q, Node S q → q.head? = p.head? → wlt p q = true → q = r ∨ wlt r q = true
def NoBeh (S : Sh) (p : List Str) : Prop := ∀ q, Node S q → q.head? = p.head? → wlt p q = false
def Ahd (S : Sh) (p r : List Str) : Prop := Node S r ∧ r.head? = p.head? ∧ wlt r p = true ∧ ∀ q, Node S q → q.head? = p.head? → wlt q p = true → q = r ∨ wlt q r = true
def NoAhd (S : Sh) (p : List Str) : Prop := ∀ q, Node S q → q.head? = p.head? → wlt q p = false
/-- none of those that share more than i keys -/
def BehI (S : Sh) (p : List Str) (i : Nat) : Prop := ∀ q, Node S q → wlt p q = true → i < p.length → ¬ ∃ t, q = p.take (i + 1) ++ t
def AhdI (S : Sh) (p : List Str) (i : Nat) : Prop := ∀ q, Node S q → wlt q p = true → ¬ ∃ t, q = p.take (i + 1) ++ t
theorem take_head {p : List Str} {i : Nat} (h0 : 1 ≤ i) {t : List Str} (hp : p ≠ []) : (p.take i ++ t).head? = p.head? := by
  cases p with
  | nil => exact absurd rfl hp
  | cons x p =>
    obtain ⟨j, rfl⟩ : ∃ j, i = j + 1 := ⟨i - 1, by omega⟩
    rfl
theorem head_take {p q : List Str} (hp : p ≠ []) (h : q.head? = p.head?) : ∃ t, q = p.take 1 ++ t := by
  cases p with
  | nil => exact absurd rfl hp
  | cons x p =>
    cases q with
    | nil => cases h
    | cons y q =>
      injection h with h
      subst h
      exact ⟨q, rfl⟩
/-- what is asked for at i: the key there, or the empty text behind the last one -/
def askK (p : List Str) (i : Nat) : Str := (p[i]?).getD ""
theorem split_at {p : List Str} {i : Nat} (h : i < p.length) : p = p.take i ++ p[i] :: p.drop (i + 1) := by
  rw [← List.drop_eq_getElem_cons h, List.take_append_drop]
theorem beh_side {S : Sh} (O : ShOk S) {p : List Str} {i : Nat} (hi : i ≤ p.length) (ne : ∀ z ∈ p, z ≠ "") (I : BehI S p i) {k : Str} {t : List Str} (hn : Node S (p.take i ++ k :: t)) (hw : wlt p (p.take i ++ k :: t) = true) : k ∈ S.R (p.take i) ∧ sideB k (askK p i) false = true := by
  refine ⟨(hn.row O).2, ?_⟩
  unfold sideB askK
  rcases Nat.lt_or_ge i p.length with h | h
  · rw [List.getElem?_eq_getElem h]
    show (decide (p[i] = "") || (!decide (k = p[i]) && (ahead k p[i] == false))) = true
    rw [decide_eq_false (ne _ (List.getElem_mem h)), Bool.false_or]
    have nk : k ≠ p[i] := fun e => I _ hn hw h ⟨t, by rw [List.take_succ_eq_append_getElem h, e, List.append_assoc]; rfl⟩
    rw [decide_eq_false nk]
    have : ahead p[i] k = true := by
      have e := split_at h
      rw [show wlt p (p.take i ++ k :: t) = wlt (p.take i ++ p[i] :: p.drop (i + 1)) (p.take i ++ k :: t) from by rw [← e]] at hw
      rw [wlt_app1 (Ne.symm nk)] at hw
      exact hw
    rw [ahead_one this]
    rfl
  · rw [List.getElem?_eq_none h]
    rfl
theorem beh_none {S : Sh} (O : ShOk S) {p : List Str} {i : Nat} (h0 : 1 ≤ i) (hi : i ≤ p.length) (ne : ∀ z ∈ p, z ≠ "") (I : BehI S p i) (no : (S.N (p.take i)).isSome = true → ∀ x ∈ S.R (p.take i), sideB x (askK p i) false = false) : BehI S p (i - 1) := by
  intro q hq hw _ ⟨t, e⟩
  rw [show i - 1 + 1 = i by omega] at e
  cases t with
  | nil =>
    rw [List.append_nil] at e
    rw [e, show wlt p (p.take i) = wlt (p.take i ++ p.drop i) (p.take i) from by rw [List.take_append_drop], wlt_back] at hw
    cases hw
  | cons k t =>
    rw [e] at hq hw
    have s := beh_side O hi ne I hq hw
    rw [no (hq.row O).1 k s.1] at s
    cases s.2
theorem beh_some {S : Sh} (O : ShOk S) {p : List Str} {i : Nat} (h0 : 1 ≤ i) (hi : i ≤ p.length) (ne : ∀ z ∈ p, z ≠ "") (I : BehI S p i) {y : Str} (N : NextOf (S.R (p.take i)) (askK p i) false y) (hy : y ≠ "") {r : List Str} (F : FirstOf S (p.take i ++ [y]) r) : Beh S p r := by
  have pne : p ≠ [] := fun e => by rw [e] at hi; exact absurd (Nat.le_trans h0 hi) (by decide)
  obtain ⟨my, sy, least⟩ := N.mem hy
  obtain ⟨t, rfl⟩ := F.pre
  have er : p.take i ++ [y] ++ t = p.take i ++ y :: t := by rw [List.append_assoc]; rfl
  refine ⟨F.node, by rw [er]; exact take_head h0 pne, ?_, fun q hq hh hw => ?_⟩
  · rw [er]
    rcases Nat.lt_or_ge i p.length with h | h
    · unfold sideB askK at sy
      rw [List.getElem?_eq_getElem h] at sy
      have sy' : (decide (p[i] = "") || (!decide (y = p[i]) && (ahead y p[i] == false))) = true := sy
      rw [decide_eq_false (ne _ (List.getElem_mem h)), Bool.false_or, Bool.and_eq_true, Bool.not_eq_true', decide_eq_false_iff_not, beq_iff_eq] at sy'
      have nk : p[i] ≠ y := fun e => sy'.1 e.symm
      have e := split_at h
      rw [show wlt p (p.take i ++ y :: t) = wlt (p.take i ++ p[i] :: p.drop (i + 1)) (p.take i ++ y :: t) from by rw [← e], wlt_app1 nk]
      have two := ahead_two nk
      rw [sy'.2, Bool.or_false] at two
      exact two
    · rw [show p.take i = p from List.take_of_length_le h]
      exact wlt_ext
  · by_cases sh : ∃ u, q = p.take i ++ u
    · obtain ⟨u, rfl⟩ := sh
      cases u with
      | nil =>
        rw [List.append_nil] at hw
        rw [show wlt p (p.take i) = wlt (p.take i ++ p.drop i) (p.take i) from by rw [List.take_append_drop], wlt_back] at hw
        cases hw
      | cons k u =>
        have s := beh_side O hi ne I hq hw
        rcases least k s.1 s.2 with e | e
        · have eq : p.take i ++ k :: u = p.take i ++ [y] ++ u := by rw [e, List.append_assoc]; rfl
          rw [eq] at hq ⊢
          exact F.least u hq
        · right
          rw [er]
          have nk : y ≠ k := fun z => by
            rw [z, ahead_self] at e
            cases e
          rw [wlt_app1 nk]
          exact e
    · right
      rw [er]
      refine wlt_div (a := p.drop i) ?_ sh
      rw [List.take_append_drop]
      exact hw
theorem beh_end {S : Sh} {p : List Str} (hp : p ≠ []) (I : BehI S p 0) : NoBeh S p := fun q hq hh => by
  cases e : wlt p q with
  | false => rfl
  | true => exact absurd (head_take hp hh) (I q hq e (List.length_pos_iff.mpr hp))
theorem ahd_start {S : Sh} {p : List Str} : AhdI S p (p.length - 1) := fun q hq hw ⟨t, e⟩ => by
  rw [List.take_of_length_le (by omega)] at e
  rw [e, wlt_back] at hw
  cases hw
theorem ahd_side {S : Sh} (O : ShOk S) {p : List Str} {i : Nat} (hi : i < p.length) (I : AhdI S p i) {k : Str} {t : List Str} (hn : Node S (p.take i ++ k :: t)) (hw : wlt (p.take i ++ k :: t) p = true) : k ∈ S.R (p.take i) ∧ sideB k p[i] true = true := by
  refine ⟨(hn.row O).2, ?_⟩
  have nk : k ≠ p[i] := fun e => I _ hn hw ⟨t, by rw [List.take_succ_eq_append_getElem hi, e, List.append_assoc]; rfl⟩
  have : ahead k p[i] = true := by
    have e := split_at hi
    rw [show wlt (p.take i ++ k :: t) p = wlt (p.take i ++ k :: t) (p.take i ++ p[i] :: p.drop (i + 1)) from by rw [← e], wlt_app1 nk] at hw
    exact hw
  unfold sideB
  rw [decide_eq_false nk, this]
  simp
theorem ahd_none {S : Sh} (O : ShOk S) {p : List Str} {i : Nat} (h0 : 1 ≤ i) (hi : i < p.length) (I : AhdI S p i) (nw : ¬ Node S (p.take i)) (no : (S.N (p.take i)).isSome = true → ∀ x ∈ S.R (p.take i), sideB x p[i] true = false) : AhdI S p (i - 1) := by
  intro q hq hw ⟨t, e⟩
  rw [show i - 1 + 1 = i by omega] at e
  cases t with
  | nil =>
    rw [List.append_nil] at e
    rw [e] at hq
    exact nw hq
  | cons k t =>
    rw [e] at hq hw
    have s := ahd_side O hi I hq hw
    rw [no (hq.row O).1 k s.1] at s
    cases s.2
theorem ahd_some {S : Sh} (O : ShOk S) {p : List Str} {i : Nat} (h0 : 1 ≤ i) (hi : i < p.length) (ne : ∀ z ∈ p, z ≠ "") (I : AhdI S p i) {y : Str} (N : NextOf (S.R (p.take i)) p[i] true y) (hy : y ≠ "") {r : List Str} (F : LastOf S (p.take i ++ [y]) r) : Ahd S p r := by
  have pne : p ≠ [] := fun e => by rw [e] at hi; cases hi
  obtain ⟨my, sy, least⟩ := N.mem hy
  obtain ⟨t, rfl⟩ := F.pre
  have er : p.take i ++ [y] ++ t = p.take i ++ y :: t := by rw [List.append_assoc]; rfl
  refine ⟨F.node, by rw [er]; exact take_head h0 pne, ?_, fun q hq hh hw => ?_⟩
  · rw [er]
    unfold sideB at sy
    rw [decide_eq_false (ne _ (List.getElem_mem hi)), Bool.false_or, Bool.and_eq_true, Bool.not_eq_true', decide_eq_false_iff_not, beq_iff_eq] at sy
    have e := split_at hi
    rw [show wlt (p.take i ++ y :: t) p = wlt (p.take i ++ y :: t) (p.take i ++ p[i] :: p.drop (i + 1)) from by rw [← e], wlt_app1 sy.1]
    exact sy.2
  · by_cases sh : ∃ u, q = p.take i ++ u
    · obtain ⟨u, rfl⟩ := sh
      cases u with
      | nil =>
        right
        rw [List.append_nil, er]
        exact wlt_ext
      | cons k u =>
        have s := ahd_side O hi I hq hw
        rcases least k s.1 s.2 with e | e
        · have eq : p.take i ++ k :: u = p.take i ++ [y] ++ u := by rw [e, List.append_assoc]; rfl
          rw [eq] at hq ⊢
          exact F.most u hq
        · by_cases nk : k = y
          · have eq : p.take i ++ k :: u = p.take i ++ [y] ++ u := by rw [nk, List.append_assoc]; rfl
            rw [eq] at hq ⊢
            exact F.most u hq
          · right
            rw [er, wlt_app1 nk]
            have two := ahead_two nk
            rw [show ahead y k = false from e, Bool.or_false] at two
            exact two
    · right
      rw [er]
      refine wlt_div2 (a := p.drop i) ?_ sh
      rw [List.take_append_drop]
      exact hw
theorem ahd_here {S : Sh} (O : ShOk S) {p : List Str} {i : Nat} (h0 : 1 ≤ i) (hi : i < p.length) (I : AhdI S p i) (nw : Node S (p.take i)) (no : ∀ x ∈ S.R (p.take i), sideB x p[i] true = false) : Ahd S p (p.take i) := by
  have pne : p ≠ [] := fun e => by rw [e] at hi; cases hi
  have hh : (p.take i).head? = p.head? := by have := take_head (t := []) h0 pne; rwa [List.append_nil] at this
  refine ⟨nw, hh, ?_, fun q hq hh2 hw => ?_⟩
  · have e := split_at hi
    rw [show wlt (p.take i) p = wlt (p.take i) (p.take i ++ p[i] :: p.drop (i + 1)) from by rw [← e]]
    exact wlt_ext
  · by_cases sh : ∃ u, q = p.take i ++ u
    · obtain ⟨u, rfl⟩ := sh
      cases u with
      | nil => exact .inl (List.append_nil _)
      | cons k u =>
        have s := ahd_side O hi I hq hw
        rw [no k s.1] at s
        cases s.2
    · right
      have := wlt_div2 (c := p.take i) (a := p.drop i) (b := []) (q := q) (by rw [List.take_append_drop]; exact hw) sh
      rwa [List.append_nil] at this
theorem ahd_end {S : Sh} {p : List Str} (hp : p ≠ []) (I : AhdI S p 0) : NoAhd S p := fun q hq hh => by
  cases e : wlt q p with
  | false => rfl
  | true => exact absurd (head_take hp hh) (I q hq e)
/-! ### the nodes beside a path: trees -/
theorem cat_two {K : PySem.W.Frag} {a b : Addr} {xs ys : List V} {H : Hp} {Q : VK} (h1 : SqT K H a xs) (h2 : SqT K H b ys) (hl : xs.length + ys.length ≤ 90000) (q : ∀ p H', Sm H H' → SqT K H' p (xs ++ ys) → Q (.ref p) H') : rCatA K (.ref a) (.ref b) H Q := by
  refine ⟨a, b, xs, ys, rfl, rfl, h1, h2, small (by omega), fun e => ?_, fun e e2 => ?_, fun _ _ p hp => q p _ (Sm.new hp) (SqT.of upd_same)⟩
  · refine q b H (Sm.refl H) ?_
    rw [e]
    exact h2
  · refine q a H (Sm.refl H) ?_
    rw [e2, List.append_nil]
    exact h1
def spFirst (K : PySem.W.Frag) (C : Addr) : Sp := fun vs H Q _ => ∃ (S : Sh) (m : Nat) (n : Nd) (pt : Addr) (c : List Str), vs = [.ref n.a, .ref pt] ∧ TreeH C H S m ∧ ShOk S ∧ Full S ∧ S.N [] = some n ∧ SqT K H pt (c.map V.str) ∧ c ≠ [] ∧ (S.N c).isSome = true ∧
  ∀ (p' : Addr) (H' : Hp) (r : List Str), Sm H H' → SqT K H' p' (r.map V.str) → FirstOf S c r → Q (.ref p') H'
def spLast (K : PySem.W.Frag) (C : Addr) : Sp := fun vs H Q _ => ∃ (S : Sh) (m : Nat) (n : Nd) (pt : Addr) (c : List Str), vs = [.ref n.a, .ref pt] ∧ TreeH C H S m ∧ ShOk S ∧ Full S ∧ S.N [] = some n ∧ SqT K H pt (c.map V.str) ∧ c ≠ [] ∧ (S.N c).isSome = true ∧
  ∀ (p' : Addr) (H' : Hp) (r : List Str), Sm H H' → SqT K H' p' (r.map V.str) → LastOf S c r → Q (.ref p') H'
theorem wV_none {o : Option Str} : decide (wV o = .non) = decide (o = none) := by
  cases o with
  | none => rfl
  | some z => rfl
section
variable {P : Program} {w : World} {K : PySem.W.Frag} {mg : Str → Option Value} {base : Heap} {cs : Tabs}
theorem ok_first (T : Txt K mg cs) (CTree_at : CalM P w K mg base 1 cs.a_Tree "at" ["self", "path"] (spAt K cs.a_Tree)) : CalM P w K mg base 2 cs.a_Tree "_first_path" ["self", "path"] (spFirst K cs.a_Tree) := by
  refine T.f_Tree__first_path.cal scTreeFirstPath (fun vs H Q E h => ?_) (fun f cdv A outer s H vs Q E hr h => ?_)
  · obtain ⟨_, _, _, _, _, rfl, _⟩ := h
    rfl
  obtain ⟨S, m, n, pt, c, rfl, TH, O, F, hn, hp, hne, hc, q⟩ := h
  refine ⟨_, (pss_cons (ps_set (i := 2) scTreeFirstPath.nd rfl (by first | exact Or.inl rfl | exact Or.inr rfl) (pe_calM CTree_at T.cl_Tree (hr.mono (by first | decide | omega)) (pv 0) (pa_cons (pv 1) pa_nil)))
    (pss_cons (ps_while PassesOwn.never (pt_cmpR op_isN (pe_fldK (K := K) (pv 2)) pe_non (nomark _))
      (pss_cons (ps_set (i := 1) scTreeFirstPath.nd rfl (by first | exact Or.inl rfl | exact Or.inr rfl) (pe_op (catA K) (pv 1) (pe_tup (pa_cons (pe_ix (ixL K) (pe_fldK (K := K) (pv 2)) pe_int (fun _ _ => rfl)) pa_nil))))
        (pss_one (ps_set (i := 2) scTreeFirstPath.nd rfl (by first | exact Or.inl rfl | exact Or.inr rfl) (pe_calM CTree_at T.cl_Tree (hr.mono (by first | decide | omega)) (pv 0) (pa_cons (pv 1) pa_nil))))))
    (pss_one (ps_ret (pv 1))))), ?_⟩
  have Bn := TH.at_ _ _ hn
  have deep : ∀ {d : List Str} {x : Nd}, S.N d = some x → d.length ≤ 7 := fun {d x} h => O.deep d (by rw [h]; rfl)
  obtain ⟨x0, hx0⟩ := Option.isSome_iff_exists.mp hc
  refine run_set ⟨_, rfl, n.a, n.dx, _, rfl, Bn.ins, rfl, _, rfl, S, m, n, pt, c, rfl, TH, O, hn, hp, Nat.le_trans (deep hx0) (by decide), ?_⟩
  rw [hx0]
  dsimp only [tSeq]
  refine ⟨fun k σ' H' => ∃ (d : List Str) (pa : Addr) (x : Nd), σ' = [some (.ref n.a), some (.ref pa), some (.ref x.a)] ∧ S.N d = some x ∧ SqT K H' pa (d.map V.str) ∧ FirstI S c d ∧ Sm H H' ∧ k = 8 - d.length, ⟨_, c, pt, x0, rfl, hx0, hp, FirstI.start hc, Sm.refl H, rfl⟩, ?_⟩
  rintro k σ' H' ⟨d, pa, x, rfl, hx, hpa, I, S1, rfl⟩
  have T1 := TH.sm S1
  have Bx := T1.at_ _ _ hx
  have ld := deep hx
  refine ⟨_, rfl, x.a, _, _, _, _, rfl, Bx.ins, T.cl_Tree, T.no_Tree_worth, rfl, rfl, _, rfl, ?_⟩
  rw [wV_none]
  refine ite2 (fun k1 => ?_) (fun k1 => ?_)
  · have hw : S.W d = none := of_decide_eq_true k1
    refine ⟨_, fun σ' H' h => h, ?_⟩
    have dne : d ≠ [] := fun e => by
      obtain ⟨t, et⟩ := I.1
      rw [e] at et
      exact hne (List.append_eq_nil_iff.mp et.symm).1
    obtain ⟨p0, k0, e0⟩ : ∃ p0 k0, d = p0 ++ [k0] := ⟨d.dropLast, d.getLast dne, (List.dropLast_concat_getLast dne).symm⟩
    have rne : S.R d ≠ [] := by
      have := F p0 k0 (by rw [← e0, hx]; rfl)
      rw [← e0] at this
      exact this.resolve_left fun z => z hw
    obtain ⟨j, r, hr⟩ : ∃ j r, S.R d = j :: r := by
      cases e : S.R d with
      | nil => exact absurd e rne
      | cons j r => exact ⟨j, r, rfl⟩
    have I2 := I.step O hw hr
    obtain ⟨x2, hx2⟩ := Option.isSome_iff_exists.mp I2.2.1
    have rowj : atI ((S.R d).map V.str) 0 = some (.str j) := by rw [hr]; exact atI_nat (j := 0) rfl
    refine run_set ⟨_, rfl, _, rfl, x.a, _, _, _, _, rfl, Bx.ins, T.cl_Tree, T.no_Tree_row, rfl, x.r, _, 0, _, rfl, rfl, SqL.of Bx.row, rowj, (by show 1 ≤ sizeLine; decide), fun b hb => ?_⟩
    have Sb := Sm.new (o := .tup [.str j]) hb
    refine cat_two (Sm.seqT Sb hpa) (SqT.of upd_same) (by rw [List.length_map]; show d.length + 1 ≤ 90000; omega) fun p6 H6 S6 h6 => ?_
    have S16 := (S1.trans Sb).trans S6
    have T6 := TH.sm S16
    have Bn6 := T6.at_ _ _ hn
    have h7 : SqT K H6 p6 ((d ++ [j]).map V.str) := by rw [List.map_append]; exact h6
    dsimp only
    refine ⟨_, rfl, n.a, n.dx, _, rfl, Bn6.ins, rfl, _, rfl, S, m, n, p6, d ++ [j], rfl, T6, O, hn, h7, Nat.le_trans (deep hx2) (by decide), ?_⟩
    rw [hx2]
    have l2 := deep hx2
    rw [List.length_append, List.length_singleton] at l2
    refine ⟨8 - (d ++ [j]).length, by rw [List.length_append, List.length_singleton]; omega, d ++ [j], p6, x2, rfl, hx2, h7, I2, S16, rfl⟩
  · have hw : Node S d := fun e => k1 (decide_eq_true e)
    dsimp only
    exact run_ret ⟨_, rfl, q pa H' d S1 hpa (I.done hw)⟩
theorem ok_last (T : Txt K mg cs) (CTree_at : CalM P w K mg base 1 cs.a_Tree "at" ["self", "path"] (spAt K cs.a_Tree)) : CalM P w K mg base 2 cs.a_Tree "_last_path" ["self", "path"] (spLast K cs.a_Tree) := by
  refine T.f_Tree__last_path.cal scTreeLastPath (fun vs H Q E h => ?_) (fun f cdv A outer s H vs Q E hr h => ?_)
  · obtain ⟨_, _, _, _, _, rfl, _⟩ := h
    rfl
  obtain ⟨S, m, n, pt, c, rfl, TH, O, F, hn, hp, hne, hc, q⟩ := h
  refine ⟨_, (pss_cons (ps_set (i := 2) scTreeLastPath.nd rfl (by first | exact Or.inl rfl | exact Or.inr rfl) (pe_calM CTree_at T.cl_Tree (hr.mono (by first | decide | omega)) (pv 0) (pa_cons (pv 1) pa_nil)))
    (pss_cons (ps_while PassesOwn.never (pt_truth (pe_fldK (K := K) (pv 2)) (by intro _; rfl))
      (pss_cons (ps_set (i := 1) scTreeLastPath.nd rfl (by first | exact Or.inl rfl | exact Or.inr rfl) (pe_op (catA K) (pv 1) (pe_tup (pa_cons (pe_ix (ixL K) (pe_fldK (K := K) (pv 2)) (pe_un un_neg pe_int) (fun _ _ => rfl)) pa_nil))))
        (pss_one (ps_set (i := 2) scTreeLastPath.nd rfl (by first | exact Or.inl rfl | exact Or.inr rfl) (pe_calM CTree_at T.cl_Tree (hr.mono (by first | decide | omega)) (pv 0) (pa_cons (pv 1) pa_nil))))))
    (pss_one (ps_ret (pv 1))))), ?_⟩
  have Bn := TH.at_ _ _ hn
  have deep : ∀ {d : List Str} {x : Nd}, S.N d = some x → d.length ≤ 7 := fun {d x} h => O.deep d (by rw [h]; rfl)
  obtain ⟨x0, hx0⟩ := Option.isSome_iff_exists.mp hc
  refine run_set ⟨_, rfl, n.a, n.dx, _, rfl, Bn.ins, rfl, _, rfl, S, m, n, pt, c, rfl, TH, O, hn, hp, Nat.le_trans (deep hx0) (by decide), ?_⟩
  rw [hx0]
  dsimp only [tSeq]
  refine ⟨fun k σ' H' => ∃ (d : List Str) (pa : Addr) (x : Nd), σ' = [some (.ref n.a), some (.ref pa), some (.ref x.a)] ∧ S.N d = some x ∧ SqT K H' pa (d.map V.str) ∧ LastI S c d ∧ Sm H H' ∧ k = 8 - d.length, ⟨_, c, pt, x0, rfl, hx0, hp, LastI.start hc, Sm.refl H, rfl⟩, ?_⟩
  rintro k σ' H' ⟨d, pa, x, rfl, hx, hpa, I, S1, rfl⟩
  have T1 := TH.sm S1
  have Bx := T1.at_ _ _ hx
  have ld := deep hx
  refine ⟨_, rfl, x.a, _, _, _, _, rfl, Bx.ins, T.cl_Tree, T.no_Tree_row, rfl, _, .inl ⟨_, SqL.of Bx.row, rfl⟩, ?_⟩
  cases er : S.R d with
  | nil =>
    have dne : d ≠ [] := fun e => by
      obtain ⟨t, et⟩ := I.1
      rw [e] at et
      exact hne (List.append_eq_nil_iff.mp et.symm).1
    obtain ⟨p0, k0, e0⟩ : ∃ p0 k0, d = p0 ++ [k0] := ⟨d.dropLast, d.getLast dne, (List.dropLast_concat_getLast dne).symm⟩
    have hw : Node S d := by
      have := F p0 k0 (by rw [← e0, hx]; rfl)
      rw [← e0] at this
      exact this.resolve_right fun z => z er
    refine iteF ?_
    dsimp only
    exact run_ret ⟨_, rfl, q pa H' d S1 hpa (I.done O er hw)⟩
  | cons j0 r0 =>
    refine iteT ?_
    refine ⟨_, fun σ' H' h => h, ?_⟩
    have rne : S.R d ≠ [] := by rw [er]; exact List.cons_ne_nil _ _
    obtain ⟨j, r, hr⟩ : ∃ j r, S.R d = r ++ [j] := ⟨_, _, (List.dropLast_concat_getLast rne).symm⟩
    have I2 := I.step O hr
    obtain ⟨x2, hx2⟩ := Option.isSome_iff_exists.mp I2.2.1
    have rowj : atI ((S.R d).map V.str) (-1) = some (.str j) := by
      rw [hr, List.map_append]
      exact atI_last _ _
    refine run_set ⟨_, rfl, _, rfl, x.a, _, _, _, _, rfl, Bx.ins, T.cl_Tree, T.no_Tree_row, rfl, _, rfl, x.r, _, -1, _, rfl, rfl, SqL.of Bx.row, rowj, (by show 1 ≤ sizeLine; decide), fun b hb => ?_⟩
    have Sb := Sm.new (o := .tup [.str j]) hb
    refine cat_two (Sm.seqT Sb hpa) (SqT.of upd_same) (by rw [List.length_map]; show d.length + 1 ≤ 90000; omega) fun p6 H6 S6 h6 => ?_
    have S16 := (S1.trans Sb).trans S6
    have T6 := TH.sm S16
    have Bn6 := T6.at_ _ _ hn
    have h7 : SqT K H6 p6 ((d ++ [j]).map V.str) := by rw [List.map_append]; exact h6
    dsimp only
    refine ⟨_, rfl, n.a, n.dx, _, rfl, Bn6.ins, rfl, _, rfl, S, m, n, p6, d ++ [j], rfl, T6, O, hn, h7, Nat.le_trans (deep hx2) (by decide), ?_⟩
    rw [hx2]
    have l2 := deep hx2
    rw [List.length_append, List.length_singleton] at l2
    refine ⟨8 - (d ++ [j]).length, by rw [List.length_append, List.length_singleton]; omega, d ++ [j], p6, x2, rfl, hx2, h7, I2, S16, rfl⟩
end
/-! ### the nodes beside a path: told -/
/-- no key of the tree is the empty text -/
def KeyNe (S : Sh) : Prop := ∀ (q : List Str) (k : Str), (S.N (q ++ [k])).isSome = true → k ≠ ""
structure PathOk (p : List Str) : Prop where
  ne : p ≠ []
  le : p.length ≤ 7
  key : ∀ z ∈ p, z ≠ "" ∧ (tl z).length ≤ 200
def spBehind (K : PySem.W.Frag) (C pn : Addr) : Sp := fun vs H Q _ => ∃ (S : Sh) (m : Nat) (n : Nd) (pt : Addr) (p : List Str), vs = [.ref n.a, .ref pt] ∧ TreeH C H S m ∧ ShOk S ∧ Full S ∧ S.N [] = some n ∧ SqT K H pt (p.map V.str) ∧ PathOk p ∧ KeyNe S ∧ m ≤ 100000 ∧ Tb H pn ∧
  (∀ H', Sm H H' → NoBeh S p → Q .non H') ∧ ∀ (p' : Addr) (H' : Hp) (r : List Str), Sm H H' → SqT K H' p' (r.map V.str) → Beh S p r → Q (.ref p') H'
def spAheadP (K : PySem.W.Frag) (C pn : Addr) : Sp := fun vs H Q _ => ∃ (S : Sh) (m : Nat) (n : Nd) (pt : Addr) (p : List Str), vs = [.ref n.a, .ref pt] ∧ TreeH C H S m ∧ ShOk S ∧ Full S ∧ S.N [] = some n ∧ SqT K H pt (p.map V.str) ∧ PathOk p ∧ KeyNe S ∧ m ≤ 100000 ∧ Tb H pn ∧
  (∀ H', Sm H H' → NoAhd S p → Q .non H') ∧ ∀ (p' : Addr) (H' : Hp) (r : List Str), Sm H H' → SqT K H' p' (r.map V.str) → Ahd S p r → Q (.ref p') H'
section
variable {P : Program} {w : World} {K : PySem.W.Frag} {mg : Str → Option Value} {base : Heap} {cs : Tabs}
theorem ok_behind (T : Txt K mg cs) (CTree_at : CalM P w K mg base 1 cs.a_Tree "at" ["self", "path"] (spAt K cs.a_Tree)) (CTree_next_key : CalM P w K mg base 6 cs.a_Tree "next_key" ["self", "key", "back"] (spNext K cs.a_Tree cs.p_is_number_text))
    (CTree__first_path : CalM P w K mg base 2 cs.a_Tree "_first_path" ["self", "path"] (spFirst K cs.a_Tree)) : CalM P w K mg base 7 cs.a_Tree "path_behind" ["self", "path"] (spBehind K cs.a_Tree cs.p_is_number_text) := by
  refine T.f_Tree_path_behind.cal scTreePathBehind (fun vs H Q E h => ?_) (fun f cdv A outer s H vs Q E hr h => ?_)
  · obtain ⟨_, _, _, _, _, rfl, _⟩ := h
    rfl
  obtain ⟨S, m, n, pt, p, rfl, TH, O, F, hn, hp, PO, KN, hm, hT, q0, q⟩ := h
  refine ⟨_, (pss_cons (ps_set (i := 2) scTreePathBehind.nd rfl (by first | exact Or.inl rfl | exact Or.inr rfl) (pe_op (catA K) (pv 1) (pe_tup (pa_cons pe_str pa_nil))))
    (pss_cons (ps_for PassesOwn.never rfl (pi_range3 rfl T.n_range (pa_cons (pe_callB (lenQ K) rfl T.n_len (by decide +kernel) (pa_cons (pv 1) pa_nil)) (pa_cons pe_int (pa_cons (pe_un un_neg pe_int) pa_nil)))) (pg_name (i := 3) scTreePathBehind.nd rfl (by first | exact Or.inl rfl | exact Or.inr rfl))
      (pss_cons (ps_set (i := 4) scTreePathBehind.nd rfl (by first | exact Or.inl rfl | exact Or.inr rfl) (pe_calM CTree_at T.cl_Tree (hr.mono (by first | decide | omega)) (pv 0) (pa_cons (pe_slice (slT K) (pv 2) po_none (po_some (pv 3))) pa_nil)))
        (pss_cons (ps_set (i := 5) scTreePathBehind.nd rfl (by first | exact Or.inl rfl | exact Or.inr rfl) (pe_ifExp (pt_cmpR op_isN (pv 4) pe_non (nomark _)) pe_str (pe_calM CTree_next_key T.cl_Tree (hr.mono (by first | decide | omega)) (pv 4) (pa_cons (pe_ix (ixT K) (pv 2) (pv 3) (fun _ _ => rfl)) (pa_cons pe_bl pa_nil)))))
        (pss_one (ps_if (pt_cmpR op_ne (pv 5) pe_str (nomark _)) (pss_one (ps_ret (pe_calM CTree__first_path T.cl_Tree (hr.mono (by first | decide | omega)) (pv 0) (pa_cons (pe_op (catA K) (pe_slice (slT K) (pv 2) po_none (po_some (pv 3))) (pe_tup (pa_cons (pv 5) pa_nil))) pa_nil)))) pss_nil)))))
    (pss_one (ps_ret pe_non)))), ?_⟩
  have Bn := TH.at_ _ _ hn
  have ne : ∀ z ∈ p, z ≠ "" := fun z hz => (PO.key z hz).1
  refine run_set ⟨_, rfl, (by show 1 ≤ sizeLine; decide), fun b hb => ?_⟩
  have Sb := Sm.new (o := .tup [.str ""]) hb
  refine cat_two (Sm.seqT Sb hp) (SqT.of upd_same) (by rw [List.length_map]; have := PO.le; show p.length + 1 ≤ 90000; omega) fun p6 H6 S6 h6 => ?_
  have S06 := Sb.trans S6
  have h6' : SqT K H6 p6 ((p ++ [("" : Str)]).map V.str) := by rw [List.map_append]; exact h6
  refine run_for ?_
  refine ⟨_, rfl, pt, _, rfl, .inr (Sm.seqT S06 hp), _, rfl, _, _, _, p.length, rfl, ?_, ?_⟩
  · rw [List.length_map]
    have := RgC.neg (i := (p.length : Int)) (j := 0) (by omega) (by have := PO.le; omega) (by omega) (by omega)
    have e : ((p.length : Int) - 0).toNat = p.length := by omega
    rw [e] at this
    exact this
  rw [List.length_map]
  refine for_rangeC (fun i σ H' => ∃ x3 x4 x5 : Option V, σ = [some (.ref n.a), some (.ref pt), some (.ref p6), x3, x4, x5] ∧ Sm H6 H' ∧ BehI S p (p.length - i)) ⟨none, none, none, rfl, Sm.refl _, fun q _ _ h => absurd h (by omega)⟩ (fun i σ H' hi h => ?_) (fun σ H' h => ?_)
  · obtain ⟨x3, x4, x5, rfl, S7, I⟩ := h
    have ej : (p.length : Int) + (i : Int) * (-1) = ((p.length - i : Nat) : Int) := by omega
    rw [ej]
    have e3 : p.length - (i + 1) = p.length - i - 1 := by omega
    rw [e3]
    have hj1 : 1 ≤ p.length - i := by omega
    have hj2 : p.length - i ≤ p.length := by omega
    generalize p.length - i = j at I hj1 hj2 ⊢
    have S07 := S06.trans S7
    have T7 := TH.sm S07
    have B7 := T7.at_ _ _ hn
    have h7 := Sm.seqT S7 h6'
    have tk : (p ++ [("" : Str)]).take j = p.take j := by rw [List.take_append_of_le_length hj2]
    dsimp only [gName]
    refine run_set ⟨_, rfl, n.a, n.dx, _, rfl, B7.ins, rfl, _, rfl, _, rfl, (j : Int), rfl, slice_take h7 fun pq H8 S8 hq => ?_⟩
    have T8 := T7.sm S8
    refine ⟨S, m, n, pq, p.take j, rfl, T8, O, hn, by rw [← tk, List.map_take]; exact hq, by rw [List.length_take]; have := PO.le; omega, ?_⟩
    have h8 := Sm.seqT S8 h7
    have atj : atI ((p ++ [("" : Str)]).map V.str) ((j : Nat) : Int) = some (.str (askK p j)) := atI_nat (by
      rw [List.getElem?_map]
      unfold askK
      rcases Nat.lt_or_ge j p.length with h | h
      · rw [List.getElem?_append_left h, List.getElem?_eq_getElem h]
        rfl
      · rw [List.getElem?_append_right h, show j - p.length = 0 by omega, List.getElem?_eq_none h]
        rfl)
    have askl : (tl (askK p j)).length ≤ 200 := by
      unfold askK
      rcases Nat.lt_or_ge j p.length with h | h
      · rw [List.getElem?_eq_getElem h]
        exact (PO.key _ (List.getElem_mem h)).2
      · rw [List.getElem?_eq_none h]
        exact Nat.zero_le _
    dsimp only
    refine run_setP (i := 5) (fun v H9 => ∃ y, v = .str y ∧ Sm H8 H9 ∧ (S.N (p.take j) = none → y = "") ∧ ∀ x, S.N (p.take j) = some x → NextOf (S.R (p.take j)) (askK p j) false y) (fun R hR => ?_) fun v H9 hv => ?_
    · cases ex : S.N (p.take j) with
      | none =>
        refine ⟨_, rfl, rfl, _, rfl, iteT ?_⟩
        exact hR _ _ ⟨"", rfl, Sm.refl _, fun _ => rfl, fun x hx => by rw [ex] at hx; cases hx⟩
      | some x =>
        refine ⟨_, rfl, rfl, _, rfl, iteF ?_⟩
        have Bx := T8.at_ _ _ ex
        refine ⟨_, rfl, x.a, _, _, rfl, Bx.ins, rfl, _, rfl, _, rfl, p6, _, _, _, rfl, rfl, h8, atj, S, m, p.take j, x, askK p j, false, rfl, T8, O, ex, askl, hm, (S07.trans S8).tab _ hT, fun H9 S9 => hR _ _ ⟨_, rfl, S9, fun z => (by rw [ex] at z; cases z), fun x' hx' => ?_⟩⟩
        exact row_next (O.srt _ x ex) fun z hz => KN _ z ((O.row _ x ex z).mp hz)
    obtain ⟨y, rfl, S9, y0, y1⟩ := hv
    have S79 := S8.trans S9
    refine run_ifE ⟨_, rfl, rfl, _, rfl, ?_⟩
    refine ite2 (fun k1 => ?_) (fun k1 => ?_)
    · have hy : y ≠ "" := fun e => by
        rw [e] at k1
        cases k1
      obtain ⟨x, hx⟩ : ∃ x, S.N (p.take j) = some x := by
        cases ex : S.N (p.take j) with
        | none => exact absurd (y0 ex) hy
        | some x => exact ⟨x, rfl⟩
      have N := y1 x hx
      have T9 := T8.sm S9
      have B9 := T9.at_ _ _ hn
      have h9 := Sm.seqT S9 h8
      refine run_ret ⟨_, rfl, n.a, n.dx, _, rfl, B9.ins, rfl, _, rfl, _, rfl, (j : Int), rfl, slice_take h9 fun pq2 H10 S10 hq2 => ⟨_, rfl, (by show 1 ≤ sizeLine; decide), fun b2 hb2 => ?_⟩⟩
      have Sb2 := Sm.new (o := .tup [.str y]) hb2
      have hq3 : SqT K H10 pq2 ((p.take j).map V.str) := by rw [← tk, List.map_take]; exact hq2
      refine cat_two (Sm.seqT Sb2 hq3) (SqT.of upd_same) (by rw [List.length_map, List.length_take]; have := PO.le; show _ + 1 ≤ 90000; omega) fun p11 H11 S11 h11 => ?_
      have S911 := (S10.trans Sb2).trans S11
      have T11 := T9.sm S911
      have h11' : SqT K H11 p11 ((p.take j ++ [y]).map V.str) := by rw [List.map_append]; exact h11
      refine ⟨S, m, n, p11, p.take j ++ [y], rfl, T11, O, F, hn, h11', by simp, (O.row _ x hx y).mp (N.mem hy).1, fun p' H12 r S12 hr FO => ?_⟩
      exact q p' H12 r (((S07.trans S79).trans S911).trans S12) hr (beh_some O hj1 hj2 ne I N hy FO)
    · have hy : y = "" := Classical.byContradiction fun e => k1 (by
        show (!decide (V.str y = V.str "")) = true
        rw [decide_eq_false fun z => e (by injection z)]
        rfl)
      subst hy
      refine ⟨_, _, _, rfl, S7.trans S79, beh_none O hj1 hj2 ne I fun hs z hz => ?_⟩
      obtain ⟨x, hx⟩ := Option.isSome_iff_exists.mp hs
      exact (y1 x hx).no rfl z hz
  · obtain ⟨x3, x4, x5, rfl, S7, I⟩ := h
    rw [Nat.sub_self] at I
    dsimp only
    exact run_ret (q0 H' (S06.trans S7) (beh_end PO.ne I))
theorem ok_aheadp (T : Txt K mg cs) (CTree_at : CalM P w K mg base 1 cs.a_Tree "at" ["self", "path"] (spAt K cs.a_Tree)) (CTree_next_key : CalM P w K mg base 6 cs.a_Tree "next_key" ["self", "key", "back"] (spNext K cs.a_Tree cs.p_is_number_text))
    (CTree__last_path : CalM P w K mg base 2 cs.a_Tree "_last_path" ["self", "path"] (spLast K cs.a_Tree)) : CalM P w K mg base 7 cs.a_Tree "path_ahead" ["self", "path"] (spAheadP K cs.a_Tree cs.p_is_number_text) := by
  refine T.f_Tree_path_ahead.cal scTreePathAhead (fun vs H Q E h => ?_) (fun f cdv A outer s H vs Q E hr h => ?_)
  · obtain ⟨_, _, _, _, _, rfl, _⟩ := h
    rfl
  obtain ⟨S, m, n, pt, p, rfl, TH, O, F, hn, hp, PO, KN, hm, hT, q0, q⟩ := h
  refine ⟨_, (pss_cons (ps_for PassesOwn.never rfl (pi_range3 rfl T.n_range (pa_cons (pe_op op_sub (pe_callB (lenQ K) rfl T.n_len (by decide +kernel) (pa_cons (pv 1) pa_nil)) pe_int) (pa_cons pe_int (pa_cons (pe_un un_neg pe_int) pa_nil)))) (pg_name (i := 2) scTreePathAhead.nd rfl (by first | exact Or.inl rfl | exact Or.inr rfl))
      (pss_cons (ps_set (i := 3) scTreePathAhead.nd rfl (by first | exact Or.inl rfl | exact Or.inr rfl) (pe_calM CTree_at T.cl_Tree (hr.mono (by first | decide | omega)) (pv 0) (pa_cons (pe_slice (slT K) (pv 1) po_none (po_some (pv 2))) pa_nil)))
        (pss_cons (ps_if (pt_cmpR op_isN (pv 3) pe_non (nomark _)) (pss_one ps_continue) pss_nil)
        (pss_cons (ps_set (i := 4) scTreePathAhead.nd rfl (by first | exact Or.inl rfl | exact Or.inr rfl) (pe_calM CTree_next_key T.cl_Tree (hr.mono (by first | decide | omega)) (pv 3) (pa_cons (pe_ix (ixT K) (pv 1) (pv 2) (fun _ _ => rfl)) (pa_cons pe_bl pa_nil))))
        (pss_cons (ps_if (pt_cmpR op_ne (pv 4) pe_str (nomark _)) (pss_one (ps_ret (pe_calM CTree__last_path T.cl_Tree (hr.mono (by first | decide | omega)) (pv 0) (pa_cons (pe_op (catA K) (pe_slice (slT K) (pv 1) po_none (po_some (pv 2))) (pe_tup (pa_cons (pv 4) pa_nil))) pa_nil)))) pss_nil)
        (pss_one (ps_if (pt_cmpR op_notN (pe_fldK (K := K) (pv 3)) pe_non (nomark _)) (pss_one (ps_ret (pe_slice (slT K) (pv 1) po_none (po_some (pv 2))))) pss_nil)))))))
    (pss_one (ps_ret pe_non))), ?_⟩
  have Bn := TH.at_ _ _ hn
  have ne : ∀ z ∈ p, z ≠ "" := fun z hz => (PO.key z hz).1
  have pos : 1 ≤ p.length := List.length_pos_iff.mpr PO.ne
  refine run_for ?_
  refine ⟨_, rfl, pt, _, rfl, .inr hp, _, 1, rfl, rfl, _, rfl, _, _, _, p.length - 1, rfl, ?_, ?_⟩
  · rw [List.length_map]
    have := RgC.neg (i := (p.length : Int) - 1) (j := 0) (by omega) (by have := PO.le; omega) (by omega) (by omega)
    have e : (((p.length : Int) - 1) - 0).toNat = p.length - 1 := by omega
    rw [e] at this
    exact this
  rw [List.length_map]
  refine for_rangeC (fun i σ H' => ∃ x2 x3 x4 : Option V, σ = [some (.ref n.a), some (.ref pt), x2, x3, x4] ∧ Sm H H' ∧ AhdI S p (p.length - 1 - i)) ⟨none, none, none, rfl, Sm.refl _, ahd_start⟩ (fun i σ H' hi h => ?_) (fun σ H' h => ?_)
  · obtain ⟨x2, x3, x4, rfl, S7, I⟩ := h
    have ej : (p.length : Int) - 1 + (i : Int) * (-1) = ((p.length - 1 - i : Nat) : Int) := by omega
    rw [ej]
    have e3 : p.length - 1 - (i + 1) = p.length - 1 - i - 1 := by omega
    rw [e3]
    have hj1 : 1 ≤ p.length - 1 - i := by omega
    have hj2 : p.length - 1 - i < p.length := by omega
    generalize p.length - 1 - i = j at I hj1 hj2 ⊢
    have T7 := TH.sm S7
    have B7 := T7.at_ _ _ hn
    have h7 := Sm.seqT S7 hp
    dsimp only [gName]
    refine run_set ⟨_, rfl, n.a, n.dx, _, rfl, B7.ins, rfl, _, rfl, _, rfl, (j : Int), rfl, slice_take h7 fun pq H8 S8 hq => ?_⟩
    have T8 := T7.sm S8
    refine ⟨S, m, n, pq, p.take j, rfl, T8, O, hn, by rw [List.map_take]; exact hq, by rw [List.length_take]; have := PO.le; omega, ?_⟩
    have h8 := Sm.seqT S8 h7
    have S78 := S7.trans S8
    have atj : atI (p.map V.str) ((j : Nat) : Int) = some (.str p[j]) := atI_nat (by rw [List.getElem?_map, List.getElem?_eq_getElem hj2]; rfl)
    cases ex : S.N (p.take j) with
    | none =>
      dsimp only
      refine run_if ⟨_, rfl, rfl, _, rfl, iteT ?_⟩
      refine ⟨_, _, _, rfl, S78, ahd_none O hj1 hj2 I (fun nd => ?_) fun hs => ?_⟩
      · have := nd.some O
        rw [ex] at this
        cases this
      · rw [ex] at hs
        cases hs
    | some x =>
      dsimp only
      refine run_if ⟨_, rfl, rfl, _, rfl, iteF ?_⟩
      refine run_next ?_
      have Bx := T8.at_ _ _ ex
      dsimp only
      refine run_set ⟨_, rfl, x.a, _, _, rfl, Bx.ins, rfl, _, rfl, _, rfl, pt, _, _, _, rfl, rfl, h8, atj, S, m, p.take j, x, p[j], true, rfl, T8, O, ex, (PO.key _ (List.getElem_mem hj2)).2, hm, S78.tab _ hT, fun H9 S9 => ?_⟩
      have N : NextOf (S.R (p.take j)) p[j] true (pickI (S.R (p.take j)) (nextI (S.R (p.take j)) p[j] true)) := row_next (O.srt _ x ex) fun z hz => KN _ z ((O.row _ x ex z).mp hz)
      generalize pickI (S.R (p.take j)) (nextI (S.R (p.take j)) p[j] true) = y at N ⊢
      have T9 := T8.sm S9
      have B9 := T9.at_ _ _ hn
      have Bx9 := T9.at_ _ _ ex
      have h9 := Sm.seqT S9 h8
      have S79 := S78.trans S9
      dsimp only
      refine run_if ⟨_, rfl, rfl, _, rfl, ?_⟩
      refine ite2 (fun k1 => ?_) (fun k1 => ?_)
      · have hy : y ≠ "" := fun e => by
          rw [e] at k1
          cases k1
        refine run_ret ⟨_, rfl, n.a, n.dx, _, rfl, B9.ins, rfl, _, rfl, _, rfl, (j : Int), rfl, slice_take h9 fun pq2 H10 S10 hq2 => ⟨_, rfl, (by show 1 ≤ sizeLine; decide), fun b2 hb2 => ?_⟩⟩
        have Sb2 := Sm.new (o := .tup [.str y]) hb2
        have hq3 : SqT K H10 pq2 ((p.take j).map V.str) := by rw [List.map_take]; exact hq2
        refine cat_two (Sm.seqT Sb2 hq3) (SqT.of upd_same) (by rw [List.length_map, List.length_take]; have := PO.le; show _ + 1 ≤ 90000; omega) fun p11 H11 S11 h11 => ?_
        have S911 := (S10.trans Sb2).trans S11
        have T11 := T9.sm S911
        have h11' : SqT K H11 p11 ((p.take j ++ [y]).map V.str) := by rw [List.map_append]; exact h11
        refine ⟨S, m, n, p11, p.take j ++ [y], rfl, T11, O, F, hn, h11', by simp, (O.row _ x ex y).mp (N.mem hy).1, fun p' H12 r S12 hr FO => ?_⟩
        exact q p' H12 r ((S79.trans S911).trans S12) hr (ahd_some O hj1 hj2 ne I N hy FO)
      · have hy : y = "" := Classical.byContradiction fun e => k1 (by
          show (!decide (V.str y = V.str "")) = true
          rw [decide_eq_false fun z => e (by injection z)]
          rfl)
        have no := N.no hy
        refine run_next ?_
        dsimp only
        refine run_ifE ⟨_, rfl, x.a, _, _, _, _, rfl, Bx9.ins, T.cl_Tree, T.no_Tree_worth, rfl, rfl, _, rfl, ?_⟩
        rw [wV_none]
        refine ite2 (fun k2 => ?_) (fun k2 => ?_)
        · have nd : Node S (p.take j) := fun e => by
            rw [e] at k2
            cases k2
          refine run_ret ⟨_, rfl, _, rfl, (j : Int), rfl, slice_take h9 fun pq2 H10 S10 hq2 => ?_⟩
          exact q pq2 H10 (p.take j) (S79.trans S10) (by rw [List.map_take]; exact hq2) (ahd_here O hj1 hj2 I nd no)
        · have nd : ¬ Node S (p.take j) := fun e => k2 (by
            rw [decide_eq_false e]
            rfl)
          exact ⟨_, _, _, rfl, S79, ahd_none O hj1 hj2 I nd fun _ => no⟩
  · obtain ⟨x2, x3, x4, rfl, S7, I⟩ := h
    rw [Nat.sub_self] at I
    dsimp only
    exact run_ret (q0 H' S7 (ahd_end PO.ne I))
end
/-! ### the nodes beside a reference -/
def Side (t : Bool) (S : Sh) (p r : List Str) : Prop := if t = true then Ahd S p r else Beh S p r
def NoSide (t : Bool) (S : Sh) (p : List Str) : Prop := if t = true then NoAhd S p else NoBeh S p
theorem side_one {S : Sh} {b : Bool} {p r1 r2 : List Str} (x : Side b S p r1) (y : Side b S p r2) : r1 = r2 := by
  cases b with
  | true =>
    rcases x.2.2.2 r2 y.1 y.2.1 y.2.2.1 with e | e
    · exact e.symm
    · rcases y.2.2.2 r1 x.1 x.2.1 x.2.2.1 with g | g
      · exact g
      · rw [wlt_one e] at g
        cases g
  | false =>
    rcases x.2.2.2 r2 y.1 y.2.1 y.2.2.1 with e | e
    · exact e.symm
    · rcases y.2.2.2 r1 x.1 x.2.1 x.2.2.1 with g | g
      · exact g
      · rw [wlt_one e] at g
        cases g
theorem side_no {S : Sh} {b : Bool} {p r : List Str} (x : Side b S p r) (n : NoSide b S p) : False := by
  cases b with
  | true =>
    have := n r x.1 x.2.1
    rw [x.2.2.1] at this
    cases this
  | false =>
    have := n r x.1 x.2.1
    rw [x.2.2.1] at this
    cases this
def spFollow (K : PySem.W.Frag) (cs : Tabs) : Sp := fun vs H Q _ => ∃ (arr p : Addr) (back : Bool) (S : Sh) (m : Nat) (nm : Str) (ks : List Str), vs = [.ref arr, .ref p, .bl back] ∧ ArrAt cs H arr S m ∧ RefAt K H p nm ks ∧ REF nm ks ∧ KeyNe S ∧ m ≤ 80000 ∧ TGs H cs ∧
  (∀ H', Sm H H' → NoSide back S (nm :: ks) → Q .non H') ∧ ∀ (q : Addr) (H' : Hp) (ks' : List Str), Sm H H' → H q = none → RefT H' q nm ks' → Side back S (nm :: ks) (nm :: ks') → Q (.ref q) H'
theorem nm_ne {z : Str} (h : NM z) : z ≠ "" := fun e => by
  have := h.pos
  rw [e] at this
  exact absurd this (by decide)
theorem key_ne {z : Str} (h : KEY z) : z ≠ "" := fun e => by
  have := h.pos
  rw [e] at this
  exact absurd this (by decide)
theorem REF.path {nm : Str} {ks : List Str} (O : REF nm ks) : PathOk (nm :: ks) := by
  refine ⟨List.cons_ne_nil _ _, by show ks.length + 1 ≤ 7; have := O.le; omega, fun z hz => ?_⟩
  rcases List.mem_cons.mp hz with rfl | hz
  · exact ⟨nm_ne O.nm, Nat.le_trans O.nm.len (by decide)⟩
  · exact ⟨key_ne (O.ks z hz), Nat.le_trans (O.ks z hz).wt.len (by decide)⟩
section
variable {P : Program} {w : World} {K : PySem.W.Frag} {mg : Str → Option Value} {base : Heap} {cs : Tabs}
theorem ok_following (T : Txt K mg cs) (Cneed_reference : Cal P w K mg base 7 "need_reference" ["thing"] (spNeedRef K cs)) (C_path : Cal P w K mg base 1 "_path" ["ref"] (spPath K)) (C_reference : Cal P w K mg base 1 "_reference" ["path"] (spRefO K))
    (CTree_path_behind : CalM P w K mg base 7 cs.a_Tree "path_behind" ["self", "path"] (spBehind K cs.a_Tree cs.p_is_number_text)) (CTree_path_ahead : CalM P w K mg base 7 cs.a_Tree "path_ahead" ["self", "path"] (spAheadP K cs.a_Tree cs.p_is_number_text)) :
    CalW P w K mg base 8 cs.a_Arrays "following" ["self", "ref", "back"] 2 [("back", .bl false)] (spFollow K cs) := by
  refine T.f_Arrays_following.cal ⟨fun D doc pm an cdv ct us ks h1 h2 => match us, h1, ks, h2 with | [_, _], _, [_], _ => ⟨_, _, _, _, _, _, rfl, rfl, rfl⟩, fun D doc pm an cdv ct us ws h1 h2 => match us, h1, ws, h2 with | [_, _], _, [_], _ => rfl⟩ (by simp) rfl scArraysFollowing (fun vs H Q E h => ?_) (fun f cdv A outer s H vs Q E hr h => ?_)
  · obtain ⟨_, _, _, _, _, _, _, rfl, _⟩ := h
    rfl
  obtain ⟨arr, p, back, S, m, nm, ks, rfl, A0, R, O, KN, hm, hT, q0, q⟩ := h
  refine ⟨_, (pss_cons (ps_expr (pe_cal Cneed_reference (hr.mono (by first | decide | omega)) (pa_cons (pv 1) pa_nil)))
    (pss_cons (ps_set (i := 3) scArraysFollowing.nd rfl (by first | exact Or.inl rfl | exact Or.inr rfl) (pe_cal C_path (hr.mono (by first | decide | omega)) (pa_cons (pv 1) pa_nil)))
    (pss_cons (ps_set (i := 4) scArraysFollowing.nd rfl (by first | exact Or.inl rfl | exact Or.inr rfl) (pe_ifExp (pt_val (pv 2)) (pe_calM CTree_path_ahead T.cl_Tree (hr.mono (by first | decide | omega)) (pe_fldK (K := K) (pv 0)) (pa_cons (pv 3) pa_nil)) (pe_calM CTree_path_behind T.cl_Tree (hr.mono (by first | decide | omega)) (pe_fldK (K := K) (pv 0)) (pa_cons (pv 3) pa_nil))))
    (pss_one (ps_ret (pe_ifExp (pt_cmpR op_isN (pv 4) pe_non (nomark _)) pe_non (pe_cal C_reference (hr.mono (by first | decide | omega)) (pa_cons (pv 4) pa_nil)))))))), ?_⟩
  refine ⟨_, rfl, p, nm, ks, rfl, R, O, hT, fun H1 S1 => ?_⟩
  have A1 := A0.sm S1
  have lk : ks.length ≤ 1000 := Nat.le_trans O.le (by decide)
  dsimp only
  refine run_set ⟨_, rfl, p, nm, ks, rfl, R.same S1, lk, fun t H2 S2 ht => ?_⟩
  have A2 := A1.sm S2
  obtain ⟨dx, n, hi, hn⟩ := A2.it
  have Bn := A2.th.at_ _ _ hn
  have h2 : SqT K H2 t ((nm :: ks).map V.str) := SqT.of ht
  have S02 := S1.trans S2
  have T2 := hT.sm S02
  -- what is found
  have fin : ∀ (p' : Addr) (H3 : Hp) (r : List Str), Sm H2 H3 → SqT K H3 p' (r.map V.str) → Node S r → r.head? = some nm → Side back S (nm :: ks) r → tRet (tIf (tTest (tOp (fun x y H Q => y = V.non ∧ Q (V.bl (decide (x = V.non))) H) (tVar 4) (tC V.non))) (tC .non) (tCall (spRefO K) [] E0 (tCons (tVar 4) tNil))) { nx := fun _ H' => Q .non H', rt := Q } [some (.ref arr), some (.ref p), some (.bl back), some (.ref t), some (.ref p')] H3 := fun p' H3 r S3 hr nd hh sd => by
    obtain ⟨ks', rfl⟩ : ∃ ks', r = nm :: ks' := by
      cases r with
      | nil => cases hh
      | cons x r =>
        injection hh with hh
        subst hh
        exact ⟨r, rfl⟩
    refine ⟨_, rfl, rfl, _, rfl, iteF ?_⟩
    refine ⟨_, rfl, p', nm, ks', rfl, hr, fun q4 H4 S4 hq Rq => ?_⟩
    exact q q4 H4 ks' ((S02.trans S3).trans S4) ((S02.trans S3).gone _ hq) Rq sd
  dsimp only
  cases back with
  | true =>
    refine run_set ⟨_, rfl, _, rfl, iteT ?_⟩
    refine ⟨_, rfl, arr, _, _, _, _, rfl, hi, T.cl_Arrays, T.no_Arrays__tree, rfl, n.a, n.dx, _, rfl, Bn.ins, rfl, _, rfl, S, m, n, t, nm :: ks, rfl, A2.th, A2.ok, A2.full, hn, h2, O.path, KN, by omega, T2.t_is_number_text, fun H3 S3 no => ?_, fun p' H3 r S3 hr A => ?_⟩
    · dsimp only
      refine run_ret ⟨_, rfl, rfl, _, rfl, iteT ?_⟩
      exact q0 H3 (S02.trans S3) no
    · exact fin p' H3 r S3 hr A.1 A.2.1 A
  | false =>
    refine run_set ⟨_, rfl, _, rfl, iteF ?_⟩
    refine ⟨_, rfl, arr, _, _, _, _, rfl, hi, T.cl_Arrays, T.no_Arrays__tree, rfl, n.a, n.dx, _, rfl, Bn.ins, rfl, _, rfl, S, m, n, t, nm :: ks, rfl, A2.th, A2.ok, A2.full, hn, h2, O.path, KN, by omega, T2.t_is_number_text, fun H3 S3 no => ?_, fun p' H3 r S3 hr A => ?_⟩
    · dsimp only
      refine run_ret ⟨_, rfl, rfl, _, rfl, iteT ?_⟩
      exact q0 H3 (S02.trans S3) no
    · exact fin p' H3 r S3 hr A.1 A.2.1 A
end
/-! ### desks: short references -/
def dFs (arr : Addr) (v : V) : List (Str × V) := [("_arrays", .ref arr), ("_last", v)]
/-- what a desk remembers: a reference with a key at least -/
def LastV (K : PySem.W.Frag) (H : Hp) (v : V) : Option (Str × List Str × Str) → Prop
  | none => v = .non
  | some (nm, h, z) => ASK nm h z ∧ ∃ p, v = .ref p ∧ RefAt K H p nm (h ++ [z])
def Means (K : PySem.W.Frag) (H : Hp) (p : Addr) (last : Option (Str × List Str × Str)) (nm : Str) (ks : List Str) : Prop :=
  RefAt K H p nm ks ∨ ∃ (h : List Str) (z : Str) (s : List Str), last = some (nm, h, z) ∧ RefAt K H p "" s ∧ s ≠ [] ∧ ks = h ++ s
def spShort (K : PySem.W.Frag) (cs : Tabs) : Sp := fun vs H Q _ => ∃ (p : Addr) (nm : Str) (ks : List Str), vs = [.ref p] ∧ RefAt K H p nm ks ∧ ks.length ≤ 7 ∧ (∀ z ∈ ks, WT z 40) ∧ TGs H cs ∧
  ((NM nm ∧ ∀ H', Sm H H' → Q (.bl false) H') ∨ (nm = "" ∧ (∃ a z, ks = a ++ [z] ∧ a.length ≤ 5 ∧ (∀ z ∈ a, KEY z) ∧ WT z 40) ∧ ∀ H', Sm H H' → Q (.bl true) H'))
def spLong (K : PySem.W.Frag) : Sp := fun vs H Q _ => ∃ (p t : Addr) (nm : Str) (h : List Str) (z : Str) (s : List Str), vs = [.ref p, .ref t] ∧ RefAt K H p nm (h ++ [z]) ∧ SqT K H t (s.map V.str) ∧ h.length + s.length ≤ 6 ∧
  ∀ (q : Addr) (H' : Hp), Sm H H' → H q = none → RefAt K H' q nm (h ++ s) → Q (.ref q) H'
def spMeant (K : PySem.W.Frag) (cs : Tabs) : Sp := fun vs H Q _ => ∃ (d dx p arr : Addr) (v : V) (last : Option (Str × List Str × Str)) (nm : Str) (ks : List Str), vs = [.ref d, .ref p] ∧ H d = some (.ins cs.a_Desk dx (dFs arr v)) ∧ LastV K H v last ∧ Means K H p last nm ks ∧ REF nm ks ∧ TGs H cs ∧
  ∀ (q : Addr) (H' : Hp), Sm H H' → RefAt K H' q nm ks → Q (.ref q) H'
def spMeantA (K : PySem.W.Frag) (cs : Tabs) : Sp := fun vs H Q _ => ∃ (d dx p arr : Addr) (v : V) (last : Option (Str × List Str × Str)) (nm : Str) (h : List Str) (z : Str), vs = [.ref d, .ref p] ∧ H d = some (.ins cs.a_Desk dx (dFs arr v)) ∧ LastV K H v last ∧ Means K H p last nm (h ++ [z]) ∧ ASK nm h z ∧ TGs H cs ∧
  ∀ (q : Addr) (H' : Hp), Sm H H' → RefAt K H' q nm (h ++ [z]) → Q (.ref q) H'
def spRemember (K : PySem.W.Frag) (cs : Tabs) : Sp := fun vs H Q _ => ∃ (d dx p arr : Addr) (v : V) (nm : Str) (ks : List Str), vs = [.ref d, .ref p] ∧ H d = some (.ins cs.a_Desk dx (dFs arr v)) ∧ RefAt K H p nm ks ∧
  Q .non (upd H d (.ins cs.a_Desk dx (dFs arr (if ks = [] then .non else .ref p))))
def spDeskI (cs : Tabs) : Sp := fun vs H Q _ => ∃ (d dx arr : Addr), vs = [.ref d, .ref arr] ∧ H d = some (.ins cs.a_Desk dx []) ∧ ∀ H', Made d H H' → H' d = some (.ins cs.a_Desk dx (dFs arr .non)) → Q .non H'
theorem th_short {K : PySem.W.Frag} {H : Hp} {p : Addr} {nm : Str} {ks : List Str} (R : RefAt K H p nm ks) (hn : (tl nm).length ≤ 8 ∧ ∀ c ∈ tl nm, c < 128) (hl : ks.length ≤ 7) (W : ∀ z ∈ ks, WT z 40) : Th K (fun _ => False) 0 H (.ref p) (.tup [.str nm, .tup (ks.map D.str)]) := by
  obtain ⟨t, h1, h2⟩ := R.ex
  have each : ∀ {l : List Str}, (∀ z ∈ l, WT z 40) → ThAll K (fun _ => False) 0 H (l.map V.str) (l.map D.str) := fun {l} h => by
    induction l with
    | nil => exact .nil
    | cons x r ih =>
      have w := h x List.mem_cons_self
      exact .cons (.str x (Nat.le_trans w.len (by decide)) w.asc) (ih fun z hz => h z (List.mem_cons_of_mem _ hz))
  exact .tup h1 (by show 2 ≤ 40 + 0; decide) (.cons (.str nm (by omega) hn.2) (.cons (.tup h2 (by rw [List.length_map]; show ks.length ≤ 40 + 0; omega) (each W)) .nil))
theorem nm_asc {nm : Str} (h : NM nm) : (tl nm).length ≤ 8 ∧ ∀ c ∈ tl nm, c < 128 := ⟨h.len, fun c hc => by
  have q := h.sg c hc
  unfold AZ at q
  rw [Bool.and_eq_true] at q
  have := of_decide_eq_true q.2
  omega⟩
theorem nm_no {z : Str} (h : NM z) : z ≠ "" := fun e => by
  have := h.pos
  rw [e] at this
  exact absurd this (by decide)
section
variable {P : Program} {w : World} {K : PySem.W.Frag} {mg : Str → Option Value} {base : Heap} {cs : Tabs}
theorem ok_short (T : Txt K mg cs) (Cis_pair : Cal P w K mg base 1 "is_pair" ["thing"] (spD (fun d => d.isTup && decide (lenD d = 2)) K cs)) (Cis_asking_row : Cal P w K mg base 6 "is_asking_row" ["thing"] (spAskRow K cs)) : Cal P w K mg base 7 "_is_short" ["thing"] (spShort K cs) := by
  refine T.f_is_short.cal scIsShort (fun vs H Q E h => ?_) (fun f cdv A outer s H vs Q E hr h => ?_)
  · obtain ⟨_, _, _, rfl, _⟩ := h
    rfl
  obtain ⟨p, nm, ks, rfl, R, hl, W, hT, q⟩ := h
  refine ⟨_, (pss_one (ps_ret (pe_and (pe_cal Cis_pair (hr.mono (by first | decide | omega)) (pa_cons (pv 0) pa_nil)) (pe_and (pe_callB (isI K) rfl T.n_isinstance (by decide +kernel) (pa_cons (pe_ix (ixT K) (pv 0) pe_int (fun _ _ => rfl)) (pa_cons (pe_bltn (v := .ty "str") rfl T.n_str (by decide +kernel) rfl) pa_nil))) (pe_and (pe_cmpR op_eq (pe_ix (ixT K) (pv 0) pe_int (fun _ _ => rfl)) pe_str (nomark _)) (pe_one (pe_cal Cis_asking_row (hr.mono (by first | decide | omega)) (pa_cons (pe_ix (ixT K) (pv 0) pe_int (fun _ _ => rfl)) pa_nil)))))))), ?_⟩
  obtain ⟨t, h1, h2⟩ := R.ex
  have nok : (tl nm).length ≤ 8 ∧ ∀ c ∈ tl nm, c < 128 := by
    rcases q with ⟨N, _⟩ | ⟨rfl, _⟩
    · exact nm_asc N
    · exact ⟨Nat.zero_le _, fun c hc => by cases hc⟩
  have av : AvL (fun _ => False) H := fun _ z => z.elim
  refine run_ret ⟨_, rfl, .ref p, _, 0, _, rfl, th_short R nok hl W, av, by decide, hT, fun H1 S1 => ⟨_, rfl, ?_⟩⟩
  refine iteT ?_
  have R1 := Sm.seqT S1 h1
  have tn : Th K (fun _ => False) 0 H1 (.str nm) (.str nm) := .str nm (by omega) nok.2
  refine ⟨_, rfl, p, _, 0, .str nm, rfl, rfl, R1, atI_nat (j := 0) rfl, ?_⟩
  dsimp only [tCons, tNil, tC]
  refine isi_th (c := "str") tn (kit_str _) ?_
  rw [isK_str]
  refine ⟨_, rfl, iteT ?_⟩
  refine ⟨_, rfl, p, _, 0, .str nm, rfl, rfl, R1, atI_nat (j := 0) rfl, rfl, ?_⟩
  rcases q with ⟨N, q⟩ | ⟨rfl, ⟨a, z, rfl, la, ka, Wz⟩, q⟩
  · have e : decide (V.str nm = V.str "") = false := decide_eq_false fun z => nm_no N (by injection z)
    rw [e]
    exact ⟨_, rfl, iteF (q H1 S1)⟩
  · refine ⟨_, rfl, iteT ?_⟩
    refine ⟨_, rfl, p, _, 1, .ref t, rfl, rfl, R1, atI_nat (j := 1) rfl, t, a, z, rfl, Sm.seqT S1 h2, la, ka, Wz, hT.sm S1, fun H2 S2 => q H2 (S1.trans S2)⟩
theorem ok_long (T : Txt K mg cs) : Cal P w K mg base 1 "long" ["last", "keys"] (spLong K) := by
  refine T.f_long.cal scLong (fun vs H Q E h => ?_) (fun f cdv A outer s H vs Q E hr h => ?_)
  · obtain ⟨_, _, _, _, _, _, rfl, _⟩ := h
    rfl
  obtain ⟨p, t, nm, h, z, s', rfl, R, ht, hl, q⟩ := h
  refine ⟨_, (pss_cons (ps_if (PW.pt (pw_or (pt_cmpR op_isN (pv 0) pe_non (nomark _)) (pw_or1 (pt_not (pt_truth (pe_ix (ixT K) (pv 0) pe_int (fun _ _ => rfl)) (by intro _; rfl)))))) (pss_one ps_dead) pss_nil)
    (pss_cons (ps_set (i := 2) scLong.nd rfl (by first | exact Or.inl rfl | exact Or.inr rfl) (pe_op (catA K) (pe_slice (slT K) (pe_ix (ixT K) (pv 0) pe_int (fun _ _ => rfl)) po_none (po_some (pe_un un_neg pe_int))) (pv 1)))
    (pss_cons (ps_if (pt_cmpR op_gt (pe_callB (lenQ K) rfl T.n_len (by decide +kernel) (pa_cons (pv 2) pa_nil)) (C8.pe_gc rfl T.g_MOST_KEYS) (nomark _)) (pss_one ps_dead) pss_nil)
    (pss_one (ps_ret (pe_tup (pa_cons (pe_ix (ixT K) (pv 0) pe_int (fun _ _ => rfl)) (pa_cons (pv 2) pa_nil)))))))), ?_⟩
  obtain ⟨t1, h1, h2⟩ := R.ex
  refine run_if ?_
  refine ⟨_, rfl, rfl, _, rfl, iteF ?_⟩
  refine ⟨_, rfl, p, _, 1, .ref t1, rfl, rfl, h1, atI_nat (j := 1) rfl, _, .inr (.inl ⟨_, h2, rfl⟩), ?_⟩
  have e : (!((h ++ [z]).map V.str).isEmpty) = true := by cases h <;> rfl
  rw [e]
  refine iteF ?_
  refine run_next ?_
  dsimp only
  refine run_set ⟨_, rfl, p, _, 1, .ref t1, rfl, rfl, h1, atI_nat (j := 1) rfl, 1, rfl, -1, rfl, slice_but h2 fun p2 H2 S2 hp2 => ⟨_, rfl, ?_⟩⟩
  refine cat_two hp2 (Sm.seqT S2 ht) (by rw [List.length_map, List.length_map]; omega) fun p3 H3 S3 hp3 => ?_
  have S03 := S2.trans S3
  have hp4 : SqT K H3 p3 ((h ++ s').map V.str) := by rw [List.map_append]; exact hp3
  refine run_if ⟨_, rfl, p3, _, rfl, .inr hp4, ?_⟩
  refine ⟨_, 6, rfl, rfl, _, rfl, ?_⟩
  rw [show decide ((6 : Int) < (((h ++ s').map V.str).length : Int)) = false from decide_eq_false (by rw [List.length_map, List.length_append]; omega)]
  refine iteF (run_next ?_)
  dsimp only
  refine run_ret ⟨_, rfl, p, _, 0, .str nm, rfl, rfl, Sm.seqT S03 h1, atI_nat (j := 0) rfl, _, rfl, (by show 2 ≤ sizeLine; decide), fun d hd => ?_⟩
  exact q d _ (S03.trans (Sm.new hd)) (S03.gone _ hd) ⟨p3, SqT.of upd_same, Sm.seqT (Sm.new hd) hp4⟩
theorem ok_remember (T : Txt K mg cs) : CalM P w K mg base 1 cs.a_Desk "_remember" ["self", "asked"] (spRemember K cs) := by
  refine T.f_Desk__remember.cal scDeskRemember (fun vs H Q E h => ?_) (fun f cdv A outer s H vs Q E hr h => ?_)
  · obtain ⟨_, _, _, _, _, _, _, rfl, _⟩ := h
    rfl
  obtain ⟨d, dx, p, arr, v, nm, ks, rfl, hd, R, q⟩ := h
  refine ⟨_, (pss_one (ps_fld (pv 0) (pe_ifExp (pt_truth (pe_ix (ixT K) (pv 1) pe_int (fun _ _ => rfl)) (by intro _; rfl)) (pv 1) pe_non) rfl)), ?_⟩
  obtain ⟨t1, h1, h2⟩ := R.ex
  refine ⟨_, rfl, p, _, 1, .ref t1, rfl, rfl, h1, atI_nat (j := 1) rfl, _, .inr (.inl ⟨_, h2, rfl⟩), ?_⟩
  cases ks with
  | nil => exact iteF ⟨_, rfl, d, _, dx, _, rfl, hd, T.cl_Desk, T.no_Desk__last, (by show 2 < 1000; decide), q⟩
  | cons x r => exact iteT ⟨_, rfl, _, rfl, d, _, dx, _, rfl, hd, T.cl_Desk, T.no_Desk__last, (by show 2 < 1000; decide), q⟩
theorem ok_desk (T : Txt K mg cs) : CalC P w K mg base 2 "Desk" cs.a_Desk ["self", "arrays"] [] (spDeskI cs) := by
  refine T.f_Desk___init__.cal scDeskInit (fun vs H Q E h => ?_) (fun f cdv A outer s H vs Q E hr h => ?_)
  · obtain ⟨_, _, _, rfl, _⟩ := h
    rfl
  obtain ⟨d, dx, arr, rfl, hd, q⟩ := h
  refine ⟨_, (pss_cons (ps_fld (pv 0) (pv 1) rfl)
    (pss_one (ps_fld (pv 0) pe_non rfl))), ?_⟩
  refine ⟨_, rfl, _, rfl, d, _, dx, _, rfl, hd, T.cl_Desk, T.no_Desk__arrays, (by decide), ?_⟩
  refine ⟨_, rfl, d, _, dx, _, rfl, upd_same, T.cl_Desk, T.no_Desk__last, (by show 1 < 1000; decide), ?_⟩
  refine q _ (((Made.refl d H).put hd rfl).put upd_same rfl) upd_same
end
/-! ### methods of a dict whose keys are tuples; all(list) -/
namespace DN
open PyProof.Rows
def tMN (w : World) (r : V → List V → Hp → VK → Prop) (to : TE) (t : TA) : TE := fun σ H Q => to σ H fun x H1 => (∃ (a : Addr) (L : List Ent), x = .ref a ∧ Rd w H1 a L) ∧ t σ H1 fun xs H2 => r x xs H2 Q
section
variable {X : Cx}
theorem pe_mN {w : World} {id : String} {name : Str} {apos cpos : Pos} {o e : Expr} {es : List Expr} {r : V → List V → Hp → VK → Prop} {to : TE} {t : TA} (slot : Slot "dict" name id) (hty : typeOf (.builtin id) = pure (.type "method_descriptor")) (hm : MtR X id r) (ho : PE X o to) (ha : PA X (e :: es) t) (hw : X.w = w := by rfl)
    (h1 : attributeBase o name X.env (eval o X.env) = eval o X.env := by rfl) (h2 : ((backTo cpos (starEach (e :: es) X.env)).all (fun x => !x.1) && (backToKw cpos (keywordEach [] X.env)).all (fun x => x.1.isSome) && decide ((e :: es).length + ([] : List Keyword).length + (if ([] : List Keyword).isEmpty then 0 else 1) < 30)) = true := by rfl) (h3 : (apos.endLine == cpos.line) = true := by rfl)
    (h4 : starEach (e :: es) X.env = (false, eval e X.env) :: starEach es X.env := by rfl) (h5 : (backTo cpos (starEach es X.env)).any (·.1) = false := by rfl) :
    PE X (.Call (.Attribute o name apos) (e :: es) [] cpos) (tMN w r to t) := by
  subst hw
  refine ⟨fun pins s σ H Q I h => ?_⟩
  refine wpAny_Call_method_late h1 h2 h3 rfl (thn (ho.run pins s σ H _ I h) fun v s1 ⟨x, H1, I1, r1, ty, q1⟩ => ?_)
  obtain ⟨a, L, rfl, d⟩ := ty
  obtain ⟨ob, oes, ep, hd, hob, hx, _⟩ := Inv.dn I1 d
  cases r1
  refine ⟨"dict", id, PySem.F.plainAttrs_dict, slot, hty, ⟨ob, hob, hx.1⟩, fun b q => by cases q; exact ⟨ob, hob, hx.2.1⟩, ?_⟩
  have hA := ha.run cpos pins s1 σ H1 _ I1 q1
  rw [h4] at hA ⊢
  refine Calls.callWith_builtin (by show (false || (backTo cpos (starEach es X.env)).any (·.1)) = false; rw [h5] <;> rfl) (Calls.evalArgs_plain ?_)
  exact thn hA fun us s2 ⟨vs, H2, I2, r2, q2⟩ => hm pins s2 σ H2 (.ref a) vs (.ref a) us Q I2 rfl r2 q2
end
end DN
section
variable {X : Cx}
theorem allL {K : PySem.W.Frag} (hc : X.calm = true) (h : X.K = K := by rfl) : CallR X (.builtin "all") (rAll K) := h ▸ cr_all hc
end
/-- locked here, or ahead already -/
def tLockO (t : TE) : TE := fun σ H Q => tLockE t σ H Q ∨ t σ H Q
theorem pe_lockO {X : Cx} {e : Expr} {t : TE} (h : PE X e t) : PE X e (tLockO t) := ⟨fun pins s σ H Q I q => q.elim (fun q => (pe_lock h).run pins s σ H Q I q) fun q => h.run pins s σ H Q I q⟩
section
variable {P : Program} {w : World} {K : PySem.W.Frag} {mg : Str → Option Value} {base : Heap} {cs : Tabs}
def JOINTS : List V := [.str "; ", .str ":", .str "=", .str ",", .str "|", .str "|  ", .str ")", .str "(", .str "\"", .str "\"\"", .str ")=\"", .str "; write 1", .str "=\"", .str "x", .str " "]
theorem SIGNS_wt : WT SIGNS 94 := WT.dec (by decide +kernel)
theorem some_sign {z : Str} {n j : Nat} (h : WT z n) (hj : j < (tl z).length) : ∃ c, atI (tl z) (j : Int) = some c ∧ sgn c = true := ⟨(tl z)[j], atI_nat (List.getElem?_eq_getElem hj), h.sg _ (List.getElem_mem hj)⟩
theorem WT.one {c : Nat} (h : sgn c = true) : WT ⟨#[c]⟩ 1 := ⟨Nat.le_refl _, fun d hd => by
  have e : d = c := List.mem_singleton.mp (show d ∈ [c] from hd)
  rw [e]
  exact h⟩
/-- some[draw(bag, len(some))], some a text -/
theorem sign_drawn {b : Addr} {i j m : Nat} {σ : L2.St} {H : Hp} {z : Str} {Q : VK} (hb : σ[i]? = some (some (.ref b))) (hs : σ[j]? = some (some (.str z))) (B : Bag H b m) (hm : m ≤ LIM) (hz : (tl z).length ≤ 1000) (h0 : 0 < (tl z).length)
    (q : ∀ c H', c ∈ tl z → Go b 1 H H' → Q (.str ⟨#[c]⟩) H') :
    tOp rIxS (tVar j) (tCall spDraw [] E0 (tCons (tVar i) (tCons (tCB rLenT1 (tCons (tVar j) tNil)) tNil))) σ H Q := by
  have e : z.length = (tl z).length := len_tl z
  refine ⟨_, hs, _, hb, _, hs, z, rfl, (by rw [e]; exact small (by omega)), b, (z.length : Int), m, rfl, B, hm, by omega, by omega, fun r H' r0 r1 G => ?_⟩
  obtain ⟨k, rfl⟩ : ∃ k : Nat, r = (k : Int) := ⟨r.toNat, by omega⟩
  have hk : k < (tl z).length := by omega
  exact ⟨z, (k : Int), _, rfl, rfl, (by rw [e]; exact small (by omega)), atI_nat (List.getElem?_eq_getElem hk), q _ _ (List.getElem_mem hk) G⟩
theorem list_drawn {A : V → Prop} {b p : Addr} {i j n m : Nat} {σ : L2.St} {H : Hp} {xs : List V} {Q : VK} (hb : σ[i]? = some (some (.ref b))) (hs : σ[j]? = some (some (.ref p))) (hp : H p = some (.lst xs)) (np : p ≠ b) (B : Bag H b m) (hm : m ≤ LIM) (hn : xs.length = n) (h0 : 0 < n ∧ n ≤ 1000)
    (hA : ∀ v ∈ xs, A v) (q : ∀ v H', A v → Go b 1 H H' → Q v H') : tOp (rIxL K) (tVar j) (tCall spDraw [] E0 (tCons (tVar i) (tCons (tC (.int ((n : Nat) : Int))) tNil))) σ H Q := by
  refine ⟨_, hs, _, hb, b, (n : Int), m, rfl, B, hm, by omega, by omega, fun r H' r0 r1 G => ?_⟩
  obtain ⟨k, rfl⟩ : ∃ k : Nat, r = (k : Int) := ⟨r.toNat, by omega⟩
  have hk : k < xs.length := by omega
  exact ⟨p, xs, (k : Int), _, rfl, rfl, SqL.of (G.keep p _ np hp), atI_nat (List.getElem?_eq_getElem hk), q _ _ (hA _ (List.getElem_mem hk)) G⟩
end
/-! ### the second family's bag and draws -/
theorem WT.nat {i : Int} {k : Nat} (hk : 0 < k) (h0 : 0 ≤ i) (h : i < ((10 ^ k : Nat) : Int)) : WT (Str.ofString (toString i)) k := by
  have W := WT.int (i := i) hk (by omega)
  refine ⟨?_, W.sg⟩
  rw [← len_tl, PySem.ofString_length]
  obtain ⟨m, rfl⟩ : ∃ m : Nat, i = (m : Int) := ⟨i.toNat, by omega⟩
  have e : toString ((m : Nat) : Int) = Nat.repr m := rfl
  rw [e]
  exact (Nat.length_repr_le_iff hk).mpr (by omega)
theorem int_pos (i : Int) : 1 ≤ (tl (Str.ofString (toString i))).length := by
  rw [← len_tl, PySem.ofString_length]
  cases i with
  | ofNat m =>
    have e : toString (Int.ofNat m) = Nat.repr m := rfl
    rw [e, ← String.length_toList, Nat.toList_repr]
    exact Nat.length_toDigits_pos
  | negSucc m =>
    have e : toString (Int.negSucc m) = "-" ++ Nat.repr (m + 1) := rfl
    rw [e, String.length_append]
    have e1 : "-".length = 1 := rfl
    omega
def spBagB : Sp := fun vs H Q _ => ∃ (c : Int) (k : Nat), vs = [.int c, .int (k : Int)] ∧ k ≤ 1000 ∧ ∀ (p : Addr) (H' : Hp), H p = none → Sm H H' → Bag H' p 0 → Q (.ref p) H'
def spKeyB : Sp := fun vs H Q _ => ∃ (b : Addr) (m : Nat), vs = [.ref b] ∧ Bag H b m ∧ m + 100 ≤ LIM ∧ ∀ (z : Str) (H' : Hp), KEY z → Go b 20 H H' → Q (.str z) H'
def spWorthB : Sp := fun vs H Q _ => ∃ (b : Addr) (m : Nat), vs = [.ref b] ∧ Bag H b m ∧ m + 100 ≤ LIM ∧ ∀ (z : Str) (H' : Hp), WT z 400 → Go b 5 H H' → Q (.str z) H'
section
variable {P : Program} {w : World} {K : PySem.W.Frag} {mg : Str → Option Value} {base : Heap} {cs : Tabs}
theorem ok_law_bag (T : Txt K mg cs) : Cal P w K mg base 1 "_law_bag" ["cell", "k"] spBagB := by
  refine T.f_law_bag.cal scLawBag (fun vs H Q E h => ?_) (fun f cdv A outer s H vs Q E hr h => ?_)
  · obtain ⟨a, k, rfl, _⟩ := h
    rfl
  obtain ⟨c, k, rfl, hk, q⟩ := h
  have p41 : ((10 : Int) ^ ((41 : Int)).toNat + 9) = 100000000000000000000000000000000000000009 := by decide
  refine ⟨_, (pss_one (ps_ret (pe_lst (pa_cons (pe_callB (call_max2 rfl) rfl T.n_max (by decide +kernel) (pa_cons pe_int (pa_cons (pe_op op_sub (pv 0) (pe_op op_powW pe_int pe_int)) pa_nil))) (pa_cons (pe_op op_add (pe_op op_mod (pv 0) (pe_op op_add (pe_op op_powW pe_int pe_int) pe_int)) (pe_op op_mulW pe_int (pe_op op_add (pv 1) pe_int))) (pa_cons pe_int pa_nil)))))), ?_⟩
  refine ⟨_, rfl, 10, 18, rfl, rfl, ⟨by decide, by decide, by decide⟩, c, _, rfl, rfl, 0, _, rfl, ?_⟩
  refine ⟨_, rfl, 10, 41, rfl, rfl, ⟨by decide, by decide, by decide⟩, _, 9, rfl, rfl, ?_⟩
  refine ⟨c, 100000000000000000000000000000000000000009, rfl, congrArg V.int p41, (show (0 : Int) < 100000000000000000000000000000000000000009 by decide), ?_⟩
  refine ⟨_, rfl, (k : Int), 1, rfl, rfl, 104723, (k : Int) + 1, rfl, rfl, wide_mul (a := 40) (b := 40) (by decide) (nat_lt (by omega) (by omega)) (by decide) (by decide) (by decide), _, _, rfl, rfl, ?_⟩
  refine ⟨(by show 3 ≤ sizeLine; decide), fun p hp => q p _ hp (Sm.new hp) ⟨_, _, 0, upd_same, ?_, ?_, Int.le_refl 0, Int.le_refl 0⟩⟩
  · have := Int.emod_nonneg c (show (100000000000000000000000000000000000000009 : Int) ≠ 0 by decide)
    show 0 ≤ c % 100000000000000000000000000000000000000009 + 104723 * ((k : Int) + 1)
    omega
  · have := Int.emod_lt_of_pos c (show (0 : Int) < 100000000000000000000000000000000000000009 by decide)
    show c % 100000000000000000000000000000000000000009 + 104723 * ((k : Int) + 1) < 2 ^ 200
    omega
theorem ok_law_take (T : Txt K mg cs) : Cal P w K mg base 1 "_law_take" ["bag", "many"] spDraw := by
  refine T.f_law_take.cal scLawTake (fun vs H Q E h => ?_) (fun f cdv A outer s H vs Q E hr h => ?_)
  · obtain ⟨b, many, m, rfl, _⟩ := h
    rfl
  obtain ⟨b, many, m, rfl, B, hm, h0, h1, q⟩ := h
  obtain ⟨x, y, z, hb, y0, y1, z0, z1⟩ := id B
  refine ⟨_, (pss_cons (ps_if (pt_cmpR op_gt (pe_ix (ixL K) (pv 0) pe_int (fun _ _ => rfl)) pe_int (nomark _)) (pss_cons (ps_set (i := 3) scLawTake.nd rfl (by first | exact Or.inl rfl | exact Or.inr rfl) (pe_op op_mod (pe_ix (ixL K) (pv 0) pe_int (fun _ _ => rfl)) (pv 1)))
        (pss_cons (ps_asg (pe_op op_fdivW (pe_ix (ixL K) (pv 0) pe_int (fun _ _ => rfl)) (pv 1)) (pg_sub (pv 0) pe_int set_list))
        (pss_one (ps_ret (pv 3))))) pss_nil)
    (pss_cons (ps_asg (pe_op op_add (pe_ix (ixL K) (pv 0) pe_int (fun _ _ => rfl)) pe_int) (pg_sub (pv 0) pe_int set_list))
    (pss_cons (ps_set (i := 2) scLawTake.nd rfl (by first | exact Or.inl rfl | exact Or.inr rfl) (pe_op op_mod (pe_op op_powW (pe_op op_add (pe_ix (ixL K) (pv 0) pe_int (fun _ _ => rfl)) (pe_op op_mulW pe_int (pe_ix (ixL K) (pv 0) pe_int (fun _ _ => rfl)))) pe_int) (pe_op op_add (pe_op op_powW pe_int pe_int) pe_int)))
    (pss_cons (ps_set (i := 2) scLawTake.nd rfl (by first | exact Or.inl rfl | exact Or.inr rfl) (pe_op op_mod (pe_op op_powW (pe_op op_add (pv 2) (pe_op op_mulW pe_int (pe_ix (ixL K) (pv 0) pe_int (fun _ _ => rfl)))) pe_int) (pe_op op_add (pe_op op_powW pe_int pe_int) pe_int)))
    (pss_one (ps_ret (pe_op op_mod (pe_op op_fdivW (pv 2) pe_int) (pv 1)))))))), ?_⟩
  have hS : SqL K H b [.int x, .int y, .int z] := SqL.of hb
  have hdiv : CDivW x many := wide_div (b := 256) h0 (nat_lt (by omega) h1) (by decide) (by decide)
  refine ⟨_, rfl, b, _, 0, .int x, rfl, rfl, hS, rfl, x, 1, rfl, rfl, _, rfl, ?_⟩
  refine ite2 (fun c => ?_) (fun c => ?_)
  · refine ⟨_, rfl, b, _, 0, .int x, rfl, rfl, hS, rfl, _, rfl, x, many, rfl, rfl, h0, ?_⟩
    refine ⟨_, rfl, b, _, 0, .int x, rfl, rfl, hS, rfl, _, rfl, x, many, rfl, rfl, hdiv, ?_⟩
    refine ⟨_, rfl, b, [.int x, .int y, .int z], 0, 0, rfl, rfl, hb, rfl, ?_⟩
    exact ⟨_, rfl, q _ _ (Int.emod_nonneg x (by omega)) (Int.emod_lt_of_pos x h0) (draw_set (m := m) hb (.inl rfl))⟩
  · refine ⟨_, rfl, b, _, 2, .int z, rfl, rfl, hS, rfl, z, 1, rfl, rfl, ?_⟩
    refine ⟨_, rfl, b, [.int x, .int y, .int z], 2, 2, rfl, rfl, hb, rfl, ?_⟩
    have hb1 : (upd H b (.lst [.int x, .int y, .int (z + 1)])) b = some (.lst [.int x, .int y, .int (z + 1)]) := upd_same
    have hS1 : SqL K (upd H b (.lst [.int x, .int y, .int (z + 1)])) b [.int x, .int y, .int (z + 1)] := SqL.of hb1
    unfold LIM at hm
    have ez : (z + 1).natAbs < 2 ^ 40 := nat_lt (by omega) (by omega)
    have p40 : ((10 : Int) ^ ((40 : Int)).toNat + 121) = 10000000000000000000000000000000000000121 := by decide
    have p38 : ((10 : Int) ^ ((38 : Int)).toNat + 133) = 100000000000000000000000000000000000133 := by decide
    refine ⟨_, rfl, b, _, 1, .int y, rfl, rfl, hS1, rfl, _, rfl, b, _, 2, .int (z + 1), rfl, rfl, hS1, rfl, 15485857, z + 1, rfl, rfl, wide_mul (a := 40) (b := 40) (by decide) ez (by decide) (by decide) (by decide), y, 15485857 * (z + 1), rfl, rfl,
      y + 15485857 * (z + 1), 3, rfl, rfl, ⟨by decide, by decide, pow_ok (n := 300) (nat_lt (by omega) (by omega)) (by decide) (by decide)⟩, 10, 40, rfl, rfl, ⟨by decide, by decide, by decide⟩, _, 121, rfl, rfl, ?_⟩
    refine ⟨_, 10000000000000000000000000000000000000121, rfl, congrArg V.int p40, (show (0 : Int) < 10000000000000000000000000000000000000121 by decide), ?_⟩
    have r0 := Int.emod_nonneg ((y + 15485857 * (z + 1)) ^ ((3 : Int)).toNat) (show (10000000000000000000000000000000000000121 : Int) ≠ 0 by decide)
    have r1 := Int.emod_lt_of_pos ((y + 15485857 * (z + 1)) ^ ((3 : Int)).toNat) (show (0 : Int) < 10000000000000000000000000000000000000121 by decide)
    obtain ⟨r, er⟩ : ∃ r : Int, (y + 15485857 * (z + 1)) ^ ((3 : Int)).toNat % 10000000000000000000000000000000000000121 = r := ⟨_, rfl⟩
    rw [er] at r0 r1
    refine ⟨_, rfl, _, rfl, b, _, 2, .int (z + 1), rfl, rfl, hS1, rfl, 32452843, z + 1, rfl, rfl, wide_mul (a := 40) (b := 40) (by decide) ez (by decide) (by decide) (by decide), r, 32452843 * (z + 1), congrArg V.int er, rfl,
      r + 32452843 * (z + 1), 5, rfl, rfl, ⟨by decide, by decide, pow_ok (n := 300) (nat_lt (by omega) (by omega)) (by decide) (by decide)⟩, 10, 38, rfl, rfl, ⟨by decide, by decide, by decide⟩, _, 133, rfl, rfl, ?_⟩
    refine ⟨_, 100000000000000000000000000000000000133, rfl, congrArg V.int p38, (show (0 : Int) < 100000000000000000000000000000000000133 by decide), ?_⟩
    obtain ⟨t, et⟩ : ∃ t : Int, (r + 32452843 * (z + 1)) ^ ((5 : Int)).toNat % 100000000000000000000000000000000000133 = t := ⟨_, rfl⟩
    refine ⟨_, rfl, t, 4096, congrArg V.int et, rfl, wide_div (b := 1000) (by decide) (by decide) (by decide) (by decide), _, rfl, t / 4096, many, rfl, rfl, h0, ?_⟩
    exact q _ _ (Int.emod_nonneg _ (by omega)) (Int.emod_lt_of_pos _ h0) (draw_set (m := m) hb (.inr rfl))
def SIGNSB : Str := " !\"#$&'()*+,-./0123456789:;<=>?@AZ[\\]^_`az{|}~"
theorem SIGNSB_wt : WT SIGNSB 60 := WT.dec (by decide +kernel)
theorem WT.appB {y z : Str} {n m : Nat} (h1 : WT y n) (h2 : WT z m) : WT (y ++ z) (n + m) := by
  refine ⟨by rw [tl_append, List.length_append]; have := h1.len; have := h2.len; omega, fun c hc => ?_⟩
  rw [tl_append] at hc
  rcases List.mem_append.mp hc with h | h
  · exact h1.sg c h
  · exact h2.sg c h
theorem mul_one {c n : Nat} (h : sgn c = true) : WT (Txt.mul ⟨#[c]⟩ ((n : Nat) : Int)) n ∧ (tl (Txt.mul ⟨#[c]⟩ ((n : Nat) : Int))).length = n := by
  have e : tl (Txt.mul ⟨#[c]⟩ ((n : Nat) : Int)) = List.replicate n c := by
    rw [tl_mul]
    show ((List.replicate n [c]).flatten) = _
    induction n with
    | zero => rfl
    | succ n ih => rw [List.replicate_succ, List.flatten_cons, ih, List.replicate_succ]; rfl
  refine ⟨⟨?_, fun d hd => ?_⟩, ?_⟩
  · rw [e, List.length_replicate]
    exact Nat.le_refl _
  · rw [e] at hd
    rw [(List.mem_replicate.mp hd).2]
    exact h
  · rw [e, List.length_replicate]
theorem glue_pos : ∀ {zs : List Str}, 1 ≤ zs.length → (∀ y ∈ zs, (tl y).length = 1) → 1 ≤ (tl (Txt.join "" zs)).length
  | [], h, _ => by cases h
  | y :: r, _, h => by
    rw [tl_glue, List.map_cons, List.flatten_cons, List.length_append, h y List.mem_cons_self]
    omega
/-- "signs"[draw(bag, n)] -/
theorem lit_drawn {b : Addr} {i m n : Nat} {σ : L2.St} {H : Hp} {z : Str} {Q : VK} (hb : σ[i]? = some (some (.ref b))) (B : Bag H b m) (hm : m ≤ LIM) (hz : (tl z).length = n) (h0 : 0 < n ∧ n ≤ 1000)
    (q : ∀ c H', c ∈ tl z → Go b 1 H H' → Q (.str ⟨#[c]⟩) H') : tOp rIxS (tC (.str z)) (tCall spDraw [] E0 (tCons (tVar i) (tCons (tC (.int ((n : Nat) : Int))) tNil))) σ H Q := by
  refine ⟨_, hb, b, (n : Int), m, rfl, B, hm, by omega, by omega, fun r H' r0 r1 G => ?_⟩
  obtain ⟨k, rfl⟩ : ∃ k : Nat, r = (k : Int) := ⟨r.toNat, by omega⟩
  have hk : k < (tl z).length := by omega
  exact ⟨z, (k : Int), _, rfl, rfl, (by rw [len_tl]; exact small (by omega)), atI_nat (List.getElem?_eq_getElem hk), q _ _ (List.getElem_mem hk) G⟩
theorem ok_law_key (T : Txt K mg cs) (C_law_take : Cal P w K mg base 1 "_law_take" ["bag", "many"] spDraw) : Cal P w K mg base 2 "_law_key" ["bag"] spKeyB := by
  refine T.f_law_key.cal scLawKey (fun vs H Q E h => ?_) (fun f cdv A outer s H vs Q E hr h => ?_)
  · obtain ⟨b, m, rfl, _⟩ := h
    rfl
  obtain ⟨b, m, rfl, B, hm, q⟩ := h
  refine ⟨_, (pss_cons (ps_set (i := 1) scLawKey.nd rfl (by first | exact Or.inl rfl | exact Or.inr rfl) (pe_cal C_law_take (hr.mono (by first | decide | omega)) (pa_cons (pv 0) (pa_cons pe_int pa_nil))))
    (pss_cons (ps_set (i := 2) scLawKey.nd rfl (by first | exact Or.inl rfl | exact Or.inr rfl) (pe_lst (pa_cons (pe_op op_sub (pe_cal C_law_take (hr.mono (by first | decide | omega)) (pa_cons (pv 0) (pa_cons pe_int pa_nil))) pe_int) (pa_cons (pe_cal C_law_take (hr.mono (by first | decide | omega)) (pa_cons (pv 0) (pa_cons (pe_op op_powW pe_int pe_int) pa_nil))) (pa_cons (pe_op op_sub pe_int (pe_cal C_law_take (hr.mono (by first | decide | omega)) (pa_cons (pv 0) (pa_cons (pe_op op_powW pe_int pe_int) pa_nil)))) (pa_cons (pe_cal C_law_take (hr.mono (by first | decide | omega)) (pa_cons (pv 0) (pa_cons (pe_op op_powW pe_int pe_int) pa_nil))) pa_nil))))))
    (pss_cons (ps_set (i := 3) scLawKey.nd rfl (by first | exact Or.inl rfl | exact Or.inr rfl) (pe_callTy call_str_int rfl T.n_str (by decide +kernel) (pa_cons (pe_ix (ixL K) (pv 2) (pe_cal C_law_take (hr.mono (by first | decide | omega)) (pa_cons (pv 0) (pa_cons pe_int pa_nil))) (fun _ _ => rfl)) pa_nil)))
    (pss_cons (ps_if (pt_cmpR op_lt (pv 1) pe_int (nomark _)) (pss_one (ps_ret (pv 3))) pss_nil)
    (pss_cons (ps_if (pt_cmpR op_eq (pv 1) pe_int (nomark _)) (pss_one (ps_ret (pe_op op_add_str (pe_ix (ixL K) (pe_lst (pa_cons pe_str (pa_cons pe_str (pa_cons pe_str (pa_cons pe_str pa_nil))))) (pe_cal C_law_take (hr.mono (by first | decide | omega)) (pa_cons (pv 0) (pa_cons pe_int pa_nil))) (fun _ _ => rfl)) (pv 3)))) pss_nil)
    (pss_cons (ps_if (pt_cmpR op_eq (pv 1) pe_int (nomark _)) (pss_one (ps_ret (pe_op op_add_str (pv 3) (pe_ix (ixL K) (pe_lst (pa_cons pe_str (pa_cons pe_str (pa_cons pe_str (pa_cons pe_str (pa_cons pe_str pa_nil)))))) (pe_cal C_law_take (hr.mono (by first | decide | omega)) (pa_cons (pv 0) (pa_cons pe_int pa_nil))) (fun _ _ => rfl))))) pss_nil)
    (pss_cons (ps_if (pt_cmpR op_eq (pv 1) pe_int (nomark _)) (pss_cons (ps_set (i := 4) scLawKey.nd rfl (by first | exact Or.inl rfl | exact Or.inr rfl) pe_str)
        (pss_one (ps_ret (pe_join pe_str (pe_lc (own := [("k", 5)]) (g := gName 5) (tt := tYes) rfl scLawKey.nd (pi_range1 rfl T.n_range (pa_cons (pe_op op_add pe_int (pe_cal C_law_take (hr.mono (by first | decide | omega)) (pa_cons (pv 0) (pa_cons pe_int pa_nil)))) pa_nil)) (blkOk_by (own := [("k", 5)]) (N := ["bag", "pick", "some", "number", "signs", "k"]) (sc := defScope sLawKey) (by decide +kernel)) (fun _ _ _ _ _ => (pg_name (i := 5) scLawKey.nd rfl (by first | exact Or.inl rfl | exact Or.inr rfl))) (fun _ _ _ _ _ => pts_nil) (fun _ _ _ _ _ => (pe_ix ix_str (pv 4) (pe_cal C_law_take (hr.mono (by first | decide | omega)) (pa_cons (pv 0) (pa_cons (pe_callB lenT rfl T.n_len (by decide +kernel) (pa_cons (pv 4) pa_nil)) pa_nil))) (fun _ _ => rfl)))))))) pss_nil)
    (pss_cons (ps_if (pt_cmpR op_eq (pv 1) pe_int (nomark _)) (pss_one (ps_ret (pe_join pe_str (pe_lc (own := [("k", 5)]) (g := gName 5) (tt := tYes) rfl scLawKey.nd (pi_range1 rfl T.n_range (pa_cons (pe_op op_add pe_int (pe_cal C_law_take (hr.mono (by first | decide | omega)) (pa_cons (pv 0) (pa_cons pe_int pa_nil)))) pa_nil)) (blkOk_by (own := [("k", 5)]) (N := ["bag", "pick", "some", "number", "signs", "k"]) (sc := defScope sLawKey) (by decide +kernel)) (fun _ _ _ _ _ => (pg_name (i := 5) scLawKey.nd rfl (by first | exact Or.inl rfl | exact Or.inr rfl))) (fun _ _ _ _ _ => pts_nil) (fun _ _ _ _ _ => (pe_ix ix_str pe_str (pe_cal C_law_take (hr.mono (by first | decide | omega)) (pa_cons (pv 0) (pa_cons pe_int pa_nil))) (fun _ _ => rfl))))))) pss_nil)
    (pss_one (ps_ret (pe_op op_strRep (pe_ix ix_str pe_str (pe_cal C_law_take (hr.mono (by first | decide | omega)) (pa_cons (pv 0) (pa_cons pe_int pa_nil))) (fun _ _ => rfl)) (pe_op op_add pe_int (pe_cal C_law_take (hr.mono (by first | decide | omega)) (pa_cons (pv 0) (pa_cons pe_int pa_nil))))))))))))))), ?_⟩
  unfold LIM at hm
  refine run_set (draw_here (i := 0) rfl B (by unfold LIM; omega) (by decide) (by decide) fun pick H1 p0 p1 G1 => ?_)
  have B1 := G1.bag _ B
  refine run_set ?_
  refine draw_here (i := 0) rfl B1 (by unfold LIM; omega) (by decide) (by decide) fun r1 H2 r10 r11 G2 => ?_
  have B2 := G2.bag _ B1
  refine ⟨r1, 9, rfl, rfl, _, rfl, 10, 18, rfl, rfl, ⟨by decide, by decide, by decide⟩, b, _, _, rfl, B2, by unfold LIM; omega, by decide, by decide, fun r2 H3 r20 r21 G3 => ?_⟩
  have r21' : r2 < 10 ^ 18 := r21
  have B3 := G3.bag _ B2
  refine ⟨_, rfl, 10, 18, rfl, rfl, ⟨by decide, by decide, by decide⟩, b, _, _, rfl, B3, by unfold LIM; omega, by decide, by decide, fun r3 H4 r30 r31 G4 => ?_⟩
  have r31' : r3 < 10 ^ 18 := r31
  have B4 := G4.bag _ B3
  refine ⟨0, r3, rfl, rfl, _, rfl, 10, 39, rfl, rfl, ⟨by decide, by decide, by decide⟩, b, _, _, rfl, B4, by unfold LIM; omega, by decide, by decide, fun r4 H5 r40 r41 G5 => ?_⟩
  have r41' : r4 < 10 ^ 39 := r41
  have B5 := G5.bag _ B4
  refine ⟨(by show 4 ≤ sizeLine; decide), fun L hL => ?_⟩
  have nL := B5.ne hL
  have G6 : Go b 0 H5 (upd H5 L (.lst [.int (r1 - 9), .int r2, .int (0 - r3), .int r4])) := Go.new hL
  have hL6 : (upd H5 L (.lst [.int (r1 - 9), .int r2, .int (0 - r3), .int r4])) L = some (.lst [.int (r1 - 9), .int r2, .int (0 - r3), .int r4]) := upd_same
  change tSeq _ _ _ _ (upd H5 L (.lst [.int (r1 - 9), .int r2, .int (0 - r3), .int r4]))
  generalize upd H5 L (.lst [.int (r1 - 9), .int r2, .int (0 - r3), .int r4]) = H6 at *
  have B6 := G6.bag _ B5
  refine run_set ?_
  refine list_drawn (i := 0) (j := 2) (n := 4) (A := fun v => ∃ k : Int, v = .int k ∧ k.natAbs < 10 ^ 39 ∧ (k < 0 → k.natAbs < 10 ^ 18)) rfl rfl hL6 nL B6 (by unfold LIM; omega) rfl (by decide) (fun v hv => ?_) fun v H7 hv G7 => ?_
  · rcases List.mem_cons.mp hv with rfl | hv
    · exact ⟨_, rfl, by omega, by omega⟩
    rcases List.mem_cons.mp hv with rfl | hv
    · exact ⟨_, rfl, by omega, by omega⟩
    rcases List.mem_cons.mp hv with rfl | hv
    · exact ⟨_, rfl, by omega, by omega⟩
    rcases List.mem_cons.mp hv with rfl | hv
    · exact ⟨_, rfl, by omega, by omega⟩
    · cases hv
  obtain ⟨k, rfl, hk, hk2⟩ := hv
  have B7 := G7.bag _ B6
  have G07 : Go b 6 H H7 := ((((((G1.trans G2).trans G3).trans G4).trans G5).trans G6).trans G7).mono (by omega)
  have Wn : WT (Str.ofString (toString k)) 39 := by
    by_cases c : k < 0
    · exact (WT.int (by decide) (hk2 c)).mono (by decide)
    · exact WT.nat (by decide) (by omega) (by omega)
  have pn := int_pos k
  dsimp only
  refine ⟨k, rfl, log_ok (Nat.lt_trans hk (by decide)), ?_⟩
  generalize Str.ofString (toString k) = num at *
  refine run_if ⟨_, rfl, pick, 2, rfl, rfl, _, rfl, ?_⟩
  refine ite2 (fun c => ?_) (fun c => ?_)
  · exact run_ret ⟨_, rfl, q _ _ ⟨Wn.mono (by decide), pn⟩ (G07.mono (by omega))⟩
  refine run_next ?_
  dsimp only
  refine run_if ⟨_, rfl, rfl, _, rfl, ?_⟩
  refine ite2 (fun c2 => ?_) (fun c2 => ?_)
  · refine run_ret ?_
    refine menuC (xs := [.str "0", .str "+", .str "-", .str " "]) (A := fun v => ∃ z, v = .str z ∧ WT z 1) (i := 0) (fun R h => h) (allWT_ok (by decide +kernel)) (by rfl) B7 (by unfold LIM; omega) (by decide) (by decide) fun v H8 hv G8 => ?_
    obtain ⟨z, rfl, Wz⟩ := hv
    have W0 := Wz.appB Wn
    refine ⟨_, rfl, _, _, rfl, rfl, ?_, q _ _ ⟨W0.mono (by decide), ?_⟩ ((G07.trans G8).mono (by omega))⟩
    · rw [len_tl, len_tl]
      exact Nat.le_trans (Nat.add_le_add Wz.len Wn.len) (by decide)
    · rw [tl_append, List.length_append]
      omega
  refine run_next ?_
  dsimp only
  refine run_if ⟨_, rfl, rfl, _, rfl, ?_⟩
  refine ite2 (fun c3 => ?_) (fun c3 => ?_)
  · refine run_ret ?_
    refine ⟨_, rfl, ?_⟩
    refine menuC (xs := [.str " ", .str "a", .str ".", .str "-", .str "0"]) (A := fun v => ∃ z, v = .str z ∧ WT z 1) (i := 0) (fun R h => h) (allWT_ok (by decide +kernel)) (by rfl) B7 (by unfold LIM; omega) (by decide) (by decide) fun v H8 hv G8 => ?_
    obtain ⟨z, rfl, Wz⟩ := hv
    have W0 := Wn.appB Wz
    refine ⟨_, _, rfl, rfl, ?_, q _ _ ⟨W0.mono (by decide), ?_⟩ ((G07.trans G8).mono (by omega))⟩
    · rw [len_tl, len_tl]
      exact Nat.le_trans (Nat.add_le_add Wn.len Wz.len) (by decide)
    · rw [tl_append, List.length_append]
      omega
  refine run_next ?_
  dsimp only
  refine run_if ⟨_, rfl, rfl, _, rfl, ?_⟩
  refine ite2 (fun c4 => ?_) (fun c4 => ?_)
  · refine run_set ?_
    refine run_ret ?_
    refine ⟨⟨_, rfl⟩, lc_drawn (i := 5) (N := 3) (c0 := 1) (c := 1) (A0 := fun j => 1 ≤ j) (fun v => ∃ z, v = .str z ∧ WT z 1 ∧ (tl z).length = 1) (fun R h => draw_here (i := 0) (by rfl) B7 (by unfold LIM; omega) (by decide) (by decide) fun r H3 r0 r1 G3 => ⟨1, r, rfl, rfl, h _ _ (by omega) (by omega) (by omega) G3⟩) B7 (by decide) (fun j H4 hj B4 G4 R hR => ?_) fun k D ys H4 k1 k0 _ hl hA G4 hy _ => ?_⟩
    · exact sign_drawn (z := SIGNSB) (i := 0) (j := 4) (by rfl) (by rfl) B4 (by unfold LIM; omega) (Nat.le_trans SIGNSB_wt.len (by decide)) (by decide +kernel) fun c H' hc G' => hR _ _ ⟨_, rfl, WT.one (SIGNSB_wt.sg c hc), rfl⟩ G'
    · obtain ⟨zs, rfl, hz, hW⟩ := texts_of ys hA
      have hl' : zs.length = k.toNat := by rw [hz]; exact hl
      refine ⟨_, D, zs, rfl, rfl, .inl (SqL.of hy), glue_ok (k := 1) (n := zs.length) (fun y hy => (hW y hy).1.len) rfl (by omega), ?_⟩
      refine q _ _ ⟨(WT.glue fun y hy => (hW y hy).1).mono (by omega), ?_⟩ ((G07.trans G4).mono (by omega))
      exact glue_pos (by omega) fun y hy => (hW y hy).2
  refine run_next ?_
  dsimp only
  refine run_if ⟨_, rfl, rfl, _, rfl, ?_⟩
  refine ite2 (fun c5 => ?_) (fun c5 => ?_)
  · refine run_ret ?_
    have W3 : WT ("ab," : Str) 3 := WT.dec (by decide +kernel)
    refine ⟨⟨_, rfl⟩, lc_drawn (i := 5) (N := 4) (c0 := 1) (c := 1) (A0 := fun j => 1 ≤ j) (fun v => ∃ z, v = .str z ∧ WT z 1 ∧ (tl z).length = 1) (fun R h => draw_here (i := 0) (by rfl) B7 (by unfold LIM; omega) (by decide) (by decide) fun r H3 r0 r1 G3 => ⟨1, r, rfl, rfl, h _ _ (by omega) (by omega) (by omega) G3⟩) B7 (by decide) (fun j H4 hj B4 G4 R hR => ?_) fun k D ys H4 k1 k0 _ hl hA G4 hy _ => ?_⟩
    · exact lit_drawn (z := "ab,") (n := 3) (i := 0) (by rfl) B4 (by unfold LIM; omega) (by decide +kernel) (by decide) fun c H' hc G' => hR _ _ ⟨_, rfl, WT.one (W3.sg c hc), rfl⟩ G'
    · obtain ⟨zs, rfl, hz, hW⟩ := texts_of ys hA
      have hl' : zs.length = k.toNat := by rw [hz]; exact hl
      refine ⟨_, D, zs, rfl, rfl, .inl (SqL.of hy), glue_ok (k := 1) (n := zs.length) (fun y hy => (hW y hy).1.len) rfl (by omega), ?_⟩
      refine q _ _ ⟨(WT.glue fun y hy => (hW y hy).1).mono (by omega), ?_⟩ ((G07.trans G4).mono (by omega))
      exact glue_pos (by omega) fun y hy => (hW y hy).2
  refine run_next ?_
  dsimp only
  refine run_ret ?_
  have W5 : WT ("az09 " : Str) 5 := WT.dec (by decide +kernel)
  refine lit_drawn (z := "az09 ") (n := 5) (i := 0) (by rfl) B7 (by unfold LIM; omega) (by decide +kernel) (by decide) fun c H8 hc G8 => ?_
  have B8 := G8.bag _ B7
  refine draw_here (i := 0) (by rfl) B8 (by unfold LIM; omega) (by decide) (by decide) fun r H9 r0 r1 G9 => ?_
  obtain ⟨n, hn⟩ : ∃ n : Nat, 1 + r = (n : Int) := ⟨(1 + r).toNat, by omega⟩
  have M := mul_one (n := n) (W5.sg c hc)
  refine ⟨1, r, rfl, rfl, _, _, rfl, rfl, mul_ok (by omega) (by omega) ?_, ?_⟩
  · exact (show 1 ≤ 1000 by decide)
  · rw [hn]
    exact q _ _ ⟨M.1.mono (by omega), by rw [M.2]; omega⟩ (((G07.trans G8).trans G9).mono (by omega))
theorem ok_law_worth (T : Txt K mg cs) (C_law_take : Cal P w K mg base 1 "_law_take" ["bag", "many"] spDraw) : Cal P w K mg base 2 "_law_worth" ["bag"] spWorthB := by
  refine T.f_law_worth.cal scLawWorth (fun vs H Q E h => ?_) (fun f cdv A outer s H vs Q E hr h => ?_)
  · obtain ⟨b, m, rfl, _⟩ := h
    rfl
  obtain ⟨b, m, rfl, B, hm, q⟩ := h
  refine ⟨_, (pss_cons (ps_set (i := 1) scLawWorth.nd rfl (by first | exact Or.inl rfl | exact Or.inr rfl) (pe_cal C_law_take (hr.mono (by first | decide | omega)) (pa_cons (pv 0) (pa_cons pe_int pa_nil))))
    (pss_cons (ps_if (pt_cmpR op_eq (pv 1) pe_int (nomark _)) (pss_one (ps_ret (pe_op op_strRep (pe_ix ix_str pe_str (pe_cal C_law_take (hr.mono (by first | decide | omega)) (pa_cons (pv 0) (pa_cons pe_int pa_nil))) (fun _ _ => rfl)) (pe_cal C_law_take (hr.mono (by first | decide | omega)) (pa_cons (pv 0) (pa_cons pe_int pa_nil)))))) pss_nil)
    (pss_one (ps_ret (pe_ix (ixL K) (pe_lst (pa_cons pe_str (pa_cons pe_str (pa_cons (pe_callTy call_str_int rfl T.n_str (by decide +kernel) (pa_cons (pe_cal C_law_take (hr.mono (by first | decide | omega)) (pa_cons (pv 0) (pa_cons (pe_op op_powW pe_int pe_int) pa_nil))) pa_nil)) (pa_cons pe_str (pa_cons pe_str pa_nil)))))) (pv 1) (fun _ _ => rfl)))))), ?_⟩
  unfold LIM at hm
  refine run_set (draw_here (i := 0) rfl B (by unfold LIM; omega) (by decide) (by decide) fun pick H1 p0 p1 G1 => ?_)
  have B1 := G1.bag _ B
  refine run_if ⟨_, rfl, rfl, _, rfl, ?_⟩
  refine ite2 (fun c => ?_) (fun c => ?_)
  · refine run_ret ?_
    have W5 : WT ("abc xyz~" : Str) 8 := WT.dec (by decide +kernel)
    refine lit_drawn (z := "abc xyz~") (n := 8) (i := 0) (by rfl) B1 (by unfold LIM; omega) (by decide +kernel) (by decide) fun c H8 hc G8 => ?_
    have B8 := G8.bag _ B1
    refine draw_here (i := 0) (by rfl) B8 (by unfold LIM; omega) (by decide) (by decide) fun r H9 r0 r1 G9 => ?_
    obtain ⟨n, rfl⟩ : ∃ n : Nat, r = (n : Int) := ⟨r.toNat, by omega⟩
    have M := mul_one (n := n) (W5.sg c hc)
    refine ⟨_, _, rfl, rfl, mul_ok (by omega) (by omega) ?_, q _ _ (M.1.mono (by omega)) (((G1.trans G8).trans G9).mono (by omega))⟩
    exact (show 1 ≤ 1000 by decide)
  refine run_next ?_
  dsimp only
  refine run_ret ?_
  refine run_op ?_
  refine ⟨_, rfl, 10, 20, rfl, rfl, ⟨by decide, by decide, by decide⟩, b, _, _, rfl, B1, by unfold LIM; omega, by decide, by decide, fun r H2 r0 r1 G2 => ?_⟩
  have r1' : r < 10 ^ 20 := r1
  have B2 := G2.bag _ B1
  have hr : r.natAbs < 10 ^ 20 := by omega
  have Wn := WT.int (by decide) hr
  refine ⟨r, rfl, log_ok (Nat.lt_trans hr (by decide)), (by show 5 ≤ sizeLine; decide), fun L hL => ?_⟩
  have nL := B2.ne hL
  refine ⟨_, rfl, L, [.str "", .str "0", .str (Str.ofString (toString r)), .str "a b", .str "\""], pick, ?_⟩
  have hi : ∃ z, atI [V.str "", .str "0", .str (Str.ofString (toString r)), .str "a b", .str "\""] pick = some (.str z) ∧ WT z 400 := by
    obtain ⟨j, rfl⟩ : ∃ j : Nat, pick = (j : Int) := ⟨pick.toNat, by omega⟩
    have hj : j < 5 := by
      have : ¬ ((j : Int) = 5) := fun e => c (by rw [e]; rfl)
      omega
    match j, hj with
    | 0, _ => exact ⟨_, atI_nat rfl, WT.dec (by decide +kernel)⟩
    | 1, _ => exact ⟨_, atI_nat rfl, WT.dec (by decide +kernel)⟩
    | 2, _ => exact ⟨_, atI_nat rfl, Wn.mono (by decide)⟩
    | 3, _ => exact ⟨_, atI_nat rfl, WT.dec (by decide +kernel)⟩
    | 4, _ => exact ⟨_, atI_nat rfl, WT.dec (by decide +kernel)⟩
  obtain ⟨z, hz, W⟩ := hi
  exact ⟨_, rfl, rfl, SqL.of upd_same, hz, q _ _ W (((G1.trans G2).trans (Go.new hL)).mono (by omega))⟩
end
/-! ### xs.pop(i) -/
theorem erase_map {α β : Type} (f : α → β) : ∀ (l : List α) (j : Nat), (l.map f).eraseIdx j = (l.eraseIdx j).map f
  | [], j => by simp
  | a :: r, 0 => by simp
  | a :: r, j + 1 => by
    have ih := erase_map f r j
    simp [ih]
theorem pick_perm {α : Type} : ∀ (l : List α) (k : Nat) (h : k < l.length), ([l[k]] ++ l.eraseIdx k).Perm l
  | a :: r, 0, _ => .refl _
  | a :: r, k + 1, h => by
    have ih := pick_perm r k (by simpa using h)
    exact (List.Perm.swap a (r[k]'(by simpa using h)) (r.eraseIdx k)).trans (.cons a ih)
section
variable {X : Cx}
theorem popAt : MtR X "list.pop" rPopAt := mt_popAt
end
/-! ### the second family's pool of names and keys; its references -/
theorem run_put {td ty tv : TE} {u : TS} {D : Ends} {σ : L2.St} {H : Hp} (h : tv σ H fun v H1 => td σ H1 fun x H2 => ty σ H2 fun y H3 => ∃ a H4, x = .ref a ∧ DPut H3 a y v H4 ∧ u D σ H4) : tSeq (sDPut td ty tv) u D σ H := h
structure PoolAt (H : Hp) (p : Addr) (ns ks : List Str) : Prop where
  ex : ∃ n k, H p = some (.dK [(.inr "names", .ref n), (.inr "keys", .ref k)]) ∧ H n = some (.lst (ns.map V.str)) ∧ H k = some (.lst (ks.map V.str))
def NAMESB : List Str := ["a", "ab", "b", "abcdefgh", "z"]
structure POOL (ns ks : List Str) : Prop where
  n1 : 1 ≤ ns.length
  n2 : ns.length ≤ 10
  k1 : 1 ≤ ks.length
  k2 : ks.length ≤ 40
  nm : ∀ z ∈ ns, NM z
  ky : ∀ z ∈ ks, KEY z
  nb : ∀ z ∈ ns, z ∈ NAMESB
/-- a pool's own addresses -/
def PoolOwn (H : Hp) (p : Addr) (a : Addr) : Prop := a = p ∨ ∃ n k, H p = some (.dK [(.inr "names", .ref n), (.inr "keys", .ref k)]) ∧ (a = n ∨ a = k)
theorem PoolAt.keep {H H' : Hp} {p : Addr} {ns ks : List Str} (A : PoolAt H p ns ks) (k : ∀ a o, PoolOwn H p a → H a = some o → notTbl o = true → H' a = some o) : PoolAt H' p ns ks := by
  obtain ⟨n, q, h1, h2, h3⟩ := A.ex
  exact ⟨n, q, k _ _ (.inl rfl) h1 rfl, k _ _ (.inr ⟨n, q, h1, .inl rfl⟩) h2 rfl, k _ _ (.inr ⟨n, q, h1, .inr rfl⟩) h3 rfl⟩
theorem PoolAt.sm {H H' : Hp} {p : Addr} {ns ks : List Str} (A : PoolAt H p ns ks) (S : Sm H H') : PoolAt H' p ns ks := A.keep fun a o _ h n => S.keep a o h n
theorem PoolAt.own {H H' : Hp} {p : Addr} {ns ks : List Str} (A : PoolAt H p ns ks) (B : PoolAt H' p ns ks) (k : ∀ o, H p = some o → notTbl o = true → H' p = some o) {a : Addr} (h : PoolOwn H' p a) : PoolOwn H p a := by
  rcases h with rfl | ⟨n, q, h1, h2⟩
  · exact .inl rfl
  · obtain ⟨n', q', e, _⟩ := A.ex
    have := k _ e rfl
    rw [h1] at this
    injection this with this
    injection this with this
    cases this
    exact .inr ⟨n, q, e, h2⟩
theorem PoolAt.go {H H' : Hp} {p b : Addr} {m : Nat} {ns ks : List Str} (A : PoolAt H p ns ks) (G : Go b m H H') (nb : ¬ PoolOwn H p b) : PoolAt H' p ns ks := A.keep fun a o h e n => G.keep0 a o (fun z => nb (z ▸ h)) e n
def spPool : Sp := fun vs H Q _ => ∃ (b : Addr) (m : Nat), vs = [.ref b] ∧ Bag H b m ∧ m + 1000 ≤ LIM ∧ ∀ (p : Addr) (ns ks : List Str) (H' : Hp), POOL ns ks → ks.length ≤ 7 → PoolAt H' p ns ks → (∀ a, PoolOwn H' p a → H a = none ∧ a ≠ b) → Go b 300 H H' → Q (.ref p) H'
def spRefB : Sp := fun vs H Q _ => ∃ (b p : Addr) (m most : Nat) (ns ks : List Str), vs = [.ref b, .ref p, .int (most : Int)] ∧ Bag H b m ∧ m + 100 ≤ LIM ∧ PoolAt H p ns ks ∧ ¬ PoolOwn H p b ∧ POOL ns ks ∧ most ≤ 6 ∧
  ∀ (q : Addr) (nm : Str) (qs : List Str) (H' : Hp), nm ∈ ns → (∀ z ∈ qs, z ∈ ks) → qs.length ≤ most → REF nm qs → RefT H' q nm qs → H q = none → Go b 10 H H' → Q (.ref q) H'
section
variable {P : Program} {w : World} {K : PySem.W.Frag} {mg : Str → Option Value} {base : Heap} {cs : Tabs}
theorem NM.dec {z : Str} (h : (decide ((tl z).length ≤ 8) && (decide (1 ≤ (tl z).length) && (tl z).all AZ)) = true) : NM z := by
  rw [Bool.and_eq_true, Bool.and_eq_true] at h
  exact ⟨of_decide_eq_true h.1, of_decide_eq_true h.2.1, List.all_eq_true.mp h.2.2⟩
theorem NAMESB_nm : ∀ z ∈ NAMESB, NM z := by
  intro z hz
  rcases List.mem_cons.mp hz with rfl | hz
  · exact NM.dec (by decide +kernel)
  rcases List.mem_cons.mp hz with rfl | hz
  · exact NM.dec (by decide +kernel)
  rcases List.mem_cons.mp hz with rfl | hz
  · exact NM.dec (by decide +kernel)
  rcases List.mem_cons.mp hz with rfl | hz
  · exact NM.dec (by decide +kernel)
  rcases List.mem_cons.mp hz with rfl | hz
  · exact NM.dec (by decide +kernel)
  · cases hz
theorem ok_law_pool (T : Txt K mg cs) (C_law_take : Cal P w K mg base 1 "_law_take" ["bag", "many"] spDraw) (C_law_key : Cal P w K mg base 2 "_law_key" ["bag"] spKeyB) : Cal P w K mg base 3 "_law_pool" ["bag"] spPool := by
  refine T.f_law_pool.cal scLawPool (fun vs H Q E h => ?_) (fun f cdv A outer s H vs Q E hr h => ?_)
  · obtain ⟨b, m, rfl, _⟩ := h
    rfl
  obtain ⟨b, m, rfl, B, hm, q⟩ := h
  refine ⟨_, (pss_cons (ps_set (i := 1) scLawPool.nd rfl (by first | exact Or.inl rfl | exact Or.inr rfl) (pe_lst (pa_cons pe_str (pa_cons pe_str (pa_cons pe_str (pa_cons pe_str (pa_cons pe_str pa_nil)))))))
    (pss_cons (ps_set (i := 2) scLawPool.nd rfl (by first | exact Or.inl rfl | exact Or.inr rfl) (pe_disp (pps_cons pe_str (pe_lc (own := [("k", 3)]) (g := gName 3) (tt := tYes) rfl scLawPool.nd (pi_range1 rfl T.n_range (pa_cons (pe_op op_add pe_int (pe_cal C_law_take (hr.mono (by first | decide | omega)) (pa_cons (pv 0) (pa_cons pe_int pa_nil)))) pa_nil)) (blkOk_by (own := [("k", 3)]) (N := ["bag", "names", "pool", "k"]) (sc := defScope sLawPool) (by decide +kernel)) (fun _ _ _ _ _ => (pg_name (i := 3) scLawPool.nd rfl (by first | exact Or.inl rfl | exact Or.inr rfl))) (fun _ _ _ _ _ => pts_nil) (fun _ _ _ _ _ => (pe_bmK (K := K) PySem.F.plainAttrs_list PySem.F.slot_list_pop PySem.F.type_list_pop popAt (pv 1) (pa_cons (pe_cal C_law_take (hr.mono (by first | decide | omega)) (pa_cons (pv 0) (pa_cons (pe_callB (lenQ K) rfl T.n_len (by decide +kernel) (pa_cons (pv 1) pa_nil)) pa_nil))) pa_nil)))) pps_nil) rfl rfl (by decide) (by decide)))
    (pss_cons (ps_dput (Nat.lt_trans (Nat.add_lt_add_left (show 1 < 64 by decide) _) hr.units) (pv 2) pe_str (pe_lc (own := [("k", 3)]) (g := gName 3) (tt := tYes) rfl scLawPool.nd (pi_range1 rfl T.n_range (pa_cons (pe_op op_add pe_int (pe_cal C_law_take (hr.mono (by first | decide | omega)) (pa_cons (pv 0) (pa_cons pe_int pa_nil)))) pa_nil)) (blkOk_by (own := [("k", 3)]) (N := ["bag", "names", "pool", "k"]) (sc := defScope sLawPool) (by decide +kernel)) (fun _ _ _ _ _ => (pg_name (i := 3) scLawPool.nd rfl (by first | exact Or.inl rfl | exact Or.inr rfl))) (fun _ _ _ _ _ => pts_nil) (fun _ _ _ _ _ => (pe_cal C_law_key (hr.mono (by first | decide | omega)) (pa_cons (pv 0) pa_nil)))) rfl)
    (pss_one (ps_ret (pv 2)))))), ?_⟩
  unfold LIM at hm
  refine run_set ⟨(by show 5 ≤ sizeLine; decide), fun N hN => ?_⟩
  have nN := B.ne hN
  have G0 : Go b 0 H (upd H N (.lst (NAMESB.map V.str))) := Go.new hN
  have hN0 : (upd H N (.lst (NAMESB.map V.str))) N = some (.lst (NAMESB.map V.str)) := upd_same
  have gone0 : ∀ {y : Addr}, (upd H N (.lst (NAMESB.map V.str))) y = none → H y = none := fun h => G0.gone _ h
  change tSeq _ _ _ _ (upd H N (.lst (NAMESB.map V.str)))
  generalize upd H N (.lst (NAMESB.map V.str)) = H0 at *
  have B0 := G0.bag _ B
  refine run_set ?_
  intro p hp
  have np := B0.ne hp
  have pN : N ≠ p := ne_of_none hN0 hp
  have G1 : Go b 0 H (upd H0 p (.dK [])) := (G0.trans (Go.new hp)).mono (by omega)
  have hp1 : (upd H0 p (.dK [])) p = some (.dK []) := upd_same
  have hN1 : (upd H0 p (.dK [])) N = some (.lst (NAMESB.map V.str)) := by
    rw [upd_ne pN]
    exact hN0
  have hpH : H p = none := gone0 hp
  generalize upd H0 p (.dK []) = H1 at *
  have B1 := G1.bag _ B
  refine draw_here (i := 0) (by rfl) B1 (by unfold LIM; omega) (by decide) (by decide) fun r H2 r0 r1 G2 => ?_
  have G02 := G1.trans G2
  have B2 := G2.bag _ B1
  have hp2 := G2.keep p _ np hp1
  have hN2 := G2.keep N _ nN hN1
  obtain ⟨k, hk⟩ : ∃ k : Nat, 1 + r = (k : Int) := ⟨(1 + r).toNat, by omega⟩
  refine ⟨1, r, rfl, rfl, (k : Int), by show [V.int (1 + r)] = _; rw [hk], by omega, by omega, fun D hD => ?_⟩
  have nD := B2.ne hD
  have DN' : N ≠ D := ne_of_none hN2 hD
  have Dp : p ≠ D := ne_of_none hp2 hD
  have hD0 : H D = none := G02.gone _ hD
  refine lc_range (lo := 0) (n := k) (fun j H' => ∃ got left : List Str, got.length = j ∧ left.length = 5 - j ∧ (∀ z ∈ got, z ∈ NAMESB) ∧ (∀ z ∈ left, z ∈ NAMESB) ∧ Go b (1 + j) H H' ∧ H' p = some (.dK []) ∧ H' D = some (.lst (got.map V.str)) ∧ H' N = some (.lst (left.map V.str)))
    ⟨[], NAMESB, rfl, rfl, fun _ h => (nomatch h), fun _ h => h, (G02.trans (Go.new hD)).mono (by omega), by rw [upd_ne Dp]; exact hp2, upd_same, by rw [upd_ne DN']; exact hN2⟩ (fun j H3 hj hi => ?_) fun H3 hi => ?_
  · obtain ⟨got, left, e1, e2, a1, a2, G, gp, gD, gN⟩ := hi
    refine ⟨rfl, ?_⟩
    have B3 := G.bag _ B
    refine ⟨_, rfl, .inl ⟨rfl, _, .inl (.inl gN)⟩, _, (by rfl), _, (by rfl), N, _, rfl, .inl (SqL.of gN), b, _, _, rfl, B3, by unfold LIM; omega, by rw [List.length_map]; omega, by rw [List.length_map]; omega, fun r H4 r0 r1 G4 => ?_⟩
    obtain ⟨i, rfl⟩ : ∃ i : Nat, r = (i : Int) := ⟨r.toNat, by omega⟩
    rw [List.length_map] at r1
    have hi : i < left.length := by omega
    have g4N := G4.keep N _ nN gN
    have g4D := G4.keep D _ nD gD
    have g4p := G4.keep p _ np gp
    refine ⟨N, left.map V.str, (i : Int), i, .str left[i], rfl, rfl, g4N, by omega, by omega, seqIndex_of (by omega) (by rw [List.length_map]; omega), by rw [List.getElem?_map, List.getElem?_eq_getElem hi]; rfl, ?_⟩
    refine ⟨got.map V.str, by rw [upd_ne (Ne.symm DN')]; exact g4D, small' (by rw [List.length_map]; omega), got ++ [left[i]], left.eraseIdx i, by rw [List.length_append, e1]; rfl, ?_, fun z hz => ?_, fun z hz => a2 z (List.mem_of_mem_eraseIdx hz), ?_, ?_, ?_, ?_⟩
    · rw [List.length_eraseIdx_of_lt hi, e2]
      omega
    · rcases List.mem_append.mp hz with hz | hz
      · exact a1 z hz
      · rw [List.mem_singleton.mp hz]
        exact a2 _ (List.getElem_mem hi)
    · exact Go.own (Go.own ((G.trans G4).mono (by omega)) B hN (no_tbl g4N)) B hD0 fun qs z => by
        rw [upd_ne (Ne.symm DN'), g4D] at z
        cases z
        rfl
    · rw [upd_ne Dp, upd_ne (Ne.symm pN)]
      exact g4p
    · rw [List.map_append]
      exact upd_same
    · rw [upd_ne DN', erase_map]
      exact upd_same
  obtain ⟨ns, left, e1, _, a1, _, G3, gp, gD, _⟩ := hi
  have B3 := G3.bag _ B
  refine ⟨gp, [(.inr "names", .ref D)], rfl, (show 1 ≤ 15 by decide), ?_⟩
  have G4 : Go b (1 + k) H (upd H3 p (.dK (mergeK [] [(.inr "names", V.ref D)]))) := Go.own G3 B hpH fun qs z => by
    rw [gp] at z
    cases z
    rfl
  have gp4 : (upd H3 p (.dK (mergeK [] [(.inr "names", V.ref D)]))) p = some (.dK [(.inr "names", .ref D)]) := upd_same
  have gD4 : (upd H3 p (.dK (mergeK [] [(.inr "names", V.ref D)]))) D = some (.lst (ns.map V.str)) := by
    rw [upd_ne (Ne.symm Dp)]
    exact gD
  generalize upd H3 p (.dK (mergeK [] [(.inr "names", V.ref D)])) = H4 at *
  have B4 := G4.bag _ B
  refine run_put ?_
  refine lc_drawn (i := 3) (N := 7) (c0 := 1) (c := 20) (A0 := fun j => 2 ≤ j) (fun v => ∃ z, v = .str z ∧ KEY z) (fun R h => draw_here (i := 0) (by rfl) B4 (by unfold LIM; omega) (by decide) (by decide) fun r H5 r0 r1 G5 => ⟨2, r, rfl, rfl, h _ _ (by omega) (by omega) (by omega) G5⟩) B4 (by decide) (fun j H5 hj B5 G5 R hR => ?_) fun k5 D5 ys H5 k50 _ k51 hl hA G5 hy hD5 => ?_
  · exact ⟨_, (by rfl), b, _, rfl, B5, by unfold LIM; omega, fun z H' hz G' => hR _ _ ⟨z, rfl, hz⟩ G'⟩
  obtain ⟨ks, rfl, hz, hW⟩ := texts_of ys hA
  have hl' : ks.length = k5.toNat := by rw [hz]; exact hl
  have gp5 := G5.keep p _ np gp4
  have gD5 := G5.keep D _ nD gD4
  have pD5 : p ≠ D5 := ne_of_none gp4 hD5
  have DD5 : D ≠ D5 := ne_of_none gD4 hD5
  have n5 : D5 ≠ b := B4.ne hD5
  refine ⟨_, (by rfl), p, _, rfl, .inl ⟨_, .inr "keys", gp5, rfl, small' (show 1 < 100000 by decide), rfl⟩, ?_⟩
  have G6 : Go b (1 + k + (1 + 20 * k5.toNat)) H (upd H5 p (.dK (putK [(.inr "names", V.ref D)] (.inr "keys") (.ref D5)))) := Go.own (G4.trans G5) B hpH fun qs z => by
    rw [gp5] at z
    cases z
    rfl
  have ek : putK [((Sum.inr "names" : Key), V.ref D)] (.inr "keys") (.ref D5) = [(.inr "names", .ref D), (.inr "keys", .ref D5)] := by
    have ne : decide ((Sum.inr "names" : Key) = .inr "keys") = false := by decide +kernel
    unfold putK
    rw [if_neg (by rw [List.any_cons, List.any_nil, ne]; exact Bool.false_ne_true)]
    rfl
  rw [ek] at G6 ⊢
  have A6 : PoolAt (upd H5 p (.dK [((Sum.inr "names" : Key), V.ref D), (.inr "keys", .ref D5)])) p ns ks := ⟨D, D5, upd_same, by rw [upd_ne (Ne.symm Dp)]; exact gD5, by rw [upd_ne (Ne.symm pD5)]; exact hy⟩
  have at6 : (upd H5 p (.dK [((Sum.inr "names" : Key), V.ref D), (.inr "keys", .ref D5)])) p = some (.dK [((Sum.inr "names" : Key), V.ref D), (.inr "keys", .ref D5)]) := upd_same
  generalize upd H5 p (.dK [((Sum.inr "names" : Key), V.ref D), (.inr "keys", .ref D5)]) = H6 at *
  refine run_ret ⟨_, rfl, q p ns ks H6 ⟨by omega, by omega, by omega, by omega, fun z h => NAMESB_nm z (a1 z h), hW, a1⟩ (by omega) A6 (fun a ha => ?_) (G6.mono (by omega))⟩
  rcases ha with rfl | ⟨n, k', h1, h2⟩
  · exact ⟨hpH, np⟩
  · rw [at6] at h1
    injection h1 with h1
    injection h1 with h1
    cases h1
    rcases h2 with rfl | rfl
    · exact ⟨hD0, nD⟩
    · exact ⟨G4.gone _ hD5, n5⟩
theorem ok_law_ref (T : Txt K mg cs) (C_law_take : Cal P w K mg base 1 "_law_take" ["bag", "many"] spDraw) : Cal P w K mg base 2 "_law_ref" ["bag", "pool", "most"] spRefB := by
  refine T.f_law_ref.cal scLawRef (fun vs H Q E h => ?_) (fun f cdv A outer s H vs Q E hr h => ?_)
  · obtain ⟨_, _, _, _, _, _, rfl, _⟩ := h
    rfl
  obtain ⟨b, p, m, most, ns, ks, rfl, B, hm, PA, nb, O, hmost, q⟩ := h
  refine ⟨_, (pss_cons (ps_set (i := 3) scLawRef.nd rfl (by first | exact Or.inl rfl | exact Or.inr rfl) (pe_dget (Nat.lt_trans (Nat.add_lt_add_left (show 1 < 64 by decide) _) hr.units) (pv 1) pe_str (fun _ _ => rfl)))
    (pss_cons (ps_set (i := 4) scLawRef.nd rfl (by first | exact Or.inl rfl | exact Or.inr rfl) (pe_ix (ixL K) (pe_dget (Nat.lt_trans (Nat.add_lt_add_left (show 1 < 64 by decide) _) hr.units) (pv 1) pe_str (fun _ _ => rfl)) (pe_cal C_law_take (hr.mono (by first | decide | omega)) (pa_cons (pv 0) (pa_cons (pe_callB (lenQ K) rfl T.n_len (by decide +kernel) (pa_cons (pe_dget (Nat.lt_trans (Nat.add_lt_add_left (show 1 < 64 by decide) _) hr.units) (pv 1) pe_str (fun _ _ => rfl)) pa_nil)) pa_nil))) (fun _ _ => rfl)))
    (pss_one (ps_ret (pe_tup (pa_cons (pv 4) (pa_cons (pe_callTy (tupOf K) rfl T.n_tuple (by decide +kernel) (pa_cons (pe_lc (own := [("k", 5)]) (g := gName 5) (tt := tYes) rfl scLawRef.nd (pi_range1 rfl T.n_range (pa_cons (pe_cal C_law_take (hr.mono (by first | decide | omega)) (pa_cons (pv 0) (pa_cons (pe_op op_add (pv 2) pe_int) pa_nil))) pa_nil)) (blkOk_by (own := [("k", 5)]) (N := ["bag", "pool", "most", "some", "name", "k"]) (sc := defScope sLawRef) (by decide +kernel)) (fun _ _ _ _ _ => (pg_name (i := 5) scLawRef.nd rfl (by first | exact Or.inl rfl | exact Or.inr rfl))) (fun _ _ _ _ _ => pts_nil) (fun _ _ _ _ _ => (pe_ix (ixL K) (pv 3) (pe_cal C_law_take (hr.mono (by first | decide | omega)) (pa_cons (pv 0) (pa_cons (pe_callB (lenQ K) rfl T.n_len (by decide +kernel) (pa_cons (pv 3) pa_nil)) pa_nil))) (fun _ _ => rfl)))) pa_nil)) pa_nil))))))), ?_⟩
  unfold LIM at hm
  obtain ⟨n, k, h1, h2, h3⟩ := PA.ex
  have nn : n ≠ b := fun z => nb (.inr ⟨n, k, h1, .inl z.symm⟩)
  have nk : k ≠ b := fun z => nb (.inr ⟨n, k, h1, .inr z.symm⟩)
  have np : p ≠ b := fun z => nb (.inl z.symm)
  have v1 : valV [((Sum.inr "names" : Key), V.ref n), (.inr "keys", .ref k)] (.inr "names") = some (.ref n) := by rfl
  have v2 : valV [((Sum.inr "names" : Key), V.ref n), (.inr "keys", .ref k)] (.inr "keys") = some (.ref k) := by
    rw [valV_neg (show ¬ (Sum.inr "names" : Key) = .inr "keys" by decide +kernel)]
    rfl
  refine run_set ⟨_, rfl, p, .ref k, rfl, .inl ⟨_, .inr "keys", .inl h1, rfl, v2.symm⟩, ?_⟩
  refine run_set ?_
  refine ⟨_, rfl, p, .ref n, rfl, .inl ⟨_, .inr "names", .inl h1, rfl, v1.symm⟩, _, rfl, _, rfl, p, .ref n, rfl, .inl ⟨_, .inr "names", .inl h1, rfl, v1.symm⟩, n, _, rfl, .inl (SqL.of h2), b, _, m, rfl, B, by unfold LIM; omega, ?_, ?_, fun r H1 r0 r1 G1 => ?_⟩
  · have := O.n1
    rw [List.length_map]
    omega
  · have := O.n2
    rw [List.length_map]
    omega
  obtain ⟨i, rfl⟩ : ∃ i : Nat, r = (i : Int) := ⟨r.toNat, by omega⟩
  rw [List.length_map] at r1
  have hi : i < ns.length := by omega
  have ei : (ns.map V.str)[i]? = some (.str ns[i]) := by rw [List.getElem?_map, List.getElem?_eq_getElem hi]; rfl
  refine ⟨n, ns.map V.str, (i : Int), .str ns[i], rfl, rfl, SqL.of (G1.keep n _ nn h2), atI_nat ei, ?_⟩
  have mi := List.getElem_mem hi
  generalize ns[i] = nm at *
  have B1 := G1.bag _ B
  have k1 := G1.keep k _ nk h3
  dsimp only
  refine run_ret ?_
  refine ⟨_, rfl, ?_⟩
  dsimp only [gName, tSeq, tAsg, tRet, tDrop, tNext, tCons, tNil, tTup, tCB]
  refine lc_drawn (i := 5) (N := 6) (c0 := 1) (c := 1) (A0 := fun k => k ≤ (most : Int)) (fun v => ∃ z, v = .str z ∧ z ∈ ks) (fun R h => ⟨_, (by rfl), _, (by rfl), (most : Int), 1, rfl, rfl, b, _, _, rfl, B1, by unfold LIM; omega, by omega, by omega, fun r H5 r0 r1 G5 => h _ _ (by omega) (by omega) (by omega) G5⟩) B1 (by decide) (fun j H5 hj B5 G5 R hR => ?_) fun k5 D5 ys H5 hk5 k50 k51 hl hA G5 hy hD5 => ?_
  · have k5 := G5.keep k _ nk k1
    refine ⟨_, (by rfl), _, (by rfl), _, (by rfl), k, _, rfl, .inl (SqL.of k5), b, _, _, rfl, B5, by unfold LIM; omega, ?_, ?_, fun r H6 r0 r1 G6 => ?_⟩
    · have := O.k1
      rw [List.length_map]
      omega
    · have := O.k2
      rw [List.length_map]
      omega
    obtain ⟨x, rfl⟩ : ∃ x : Nat, r = (x : Int) := ⟨r.toNat, by omega⟩
    rw [List.length_map] at r1
    have hx : x < ks.length := by omega
    have ex : (ks.map V.str)[x]? = some (.str ks[x]) := by rw [List.getElem?_map, List.getElem?_eq_getElem hx]; rfl
    exact ⟨k, ks.map V.str, (x : Int), .str ks[x], rfl, rfl, SqL.of (G6.keep k _ nk k5), atI_nat ex, hR _ _ ⟨_, rfl, List.getElem_mem hx⟩ G6⟩
  · obtain ⟨zs, rfl, hz, hW⟩ := texts_of ys hA
    have hl' : zs.length = k5.toNat := by rw [hz, hl]
    refine ⟨D5, _, rfl, .inl ⟨SqL.of hy, fun t ht => ⟨(by show 2 ≤ sizeLine; decide), fun p' hp' => ?_⟩⟩⟩
    have et : (upd (upd H5 t (.tup (zs.map V.str))) p' (.tup [.str nm, .ref t])) t = some (.tup (zs.map V.str)) := by
      rw [upd_ne (ne_of_none upd_same hp')]
      exact upd_same
    have fr := (Go.new (b := b) (o := .tup (zs.map V.str)) ht).gone _ hp'
    refine q p' nm zs _ mi hW (by omega) ⟨O.nm _ mi, by omega, fun z hz => O.ky z (hW z hz)⟩ ⟨t, upd_same, et⟩ (G1.gone _ (G5.gone _ fr)) (((G1.trans (G5.trans (Go.new ht))).trans (Go.new hp')).mono (by omega))
end
/-! ### what stands apart -/
theorem pool_own {H H' : Hp} {p : Addr} {ns ks : List Str} (A : PoolAt H p ns ks) (k : ∀ o, H p = some o → notTbl o = true → H' p = some o) {a : Addr} (h : PoolOwn H' p a) : PoolOwn H p a := by
  rcases h with rfl | ⟨n, q, h1, h2⟩
  · exact .inl rfl
  · obtain ⟨n', q', e, _⟩ := A.ex
    have := k _ e rfl
    rw [h1] at this
    injection this with this
    injection this with this
    cases this
    exact .inr ⟨n, q, e, h2⟩
theorem PoolAt.some {H : Hp} {p : Addr} {ns ks : List Str} (A : PoolAt H p ns ks) {a : Addr} (h : PoolOwn H p a) : (∃ zs : List Str, H a = some (.lst (zs.map V.str))) ∨ ∃ kvs, H a = some (.dK kvs) := by
  obtain ⟨n, k, h1, h2, h3⟩ := A.ex
  rcases h with rfl | ⟨n', k', e, h⟩
  · exact .inr ⟨_, h1⟩
  · rw [h1] at e
    injection e with e
    injection e with e
    cases e
    rcases h with rfl | rfl
    · exact .inl ⟨_, h2⟩
    · exact .inl ⟨_, h3⟩
theorem own_what {C : Addr} {H : Hp} {S : Sh} {m : Nat} (T : TreeH C H S m) {a : Addr} (h : Own S a) : (∃ zs : List Str, H a = some (.lst (zs.map V.str))) ∨ (∃ kvs, H a = some (.dK kvs)) ∨ ∃ dx fs, H a = some (.ins C dx fs) := by
  obtain ⟨q, n, e, z⟩ := h
  have B := T.at_ q n e
  obtain ⟨kvs, g, _⟩ := B.dic
  rcases z with rfl | rfl | rfl
  · exact .inr (.inr ⟨_, _, B.ins⟩)
  · exact .inl ⟨_, B.row⟩
  · exact .inr (.inl ⟨_, g⟩)
theorem bag_not {H : Hp} {b : Addr} {n : Nat} (B : Bag H b n) : (∀ zs : List Str, H b ≠ some (.lst (zs.map V.str))) ∧ (∀ kvs, H b ≠ some (.dK kvs)) ∧ (∀ C dx fs, H b ≠ some (.ins C dx fs)) ∧ (∀ x y, H b ≠ some (.lst [V.ref x, V.ref y])) ∧ (∀ w a L, H b ≠ some (DN.dnO w a L)) ∧ ∀ vs, H b ≠ some (.tup vs) := by
  obtain ⟨x, y, z, h, _⟩ := B
  rw [h]
  refine ⟨fun zs e => ?_, fun _ e => (by cases e), fun _ _ _ e => (by cases e), fun _ _ e => (by cases e), fun _ _ _ e => (by cases e), fun _ e => (by cases e)⟩
  injection e with e
  injection e with e
  cases zs with
  | nil => cases e
  | cons s r =>
    rw [List.map_cons] at e
    injection e with e1 _
    cases e1
theorem rd_ch {W : Addr → Prop} {H H' : Hp} (c : Ch W H H') {a : Addr} {u : HO} (nu : notTbl u = true) (r : L2.Rd H a u) (w : ¬ W a) : L2.Rd H' a u := r.imp (fun h => c.keep0 _ _ w h nu) fun ⟨o, h⟩ => ⟨o, c.keep0 _ _ w h rfl⟩
theorem rd_some {H : Hp} {a : Addr} {u : HO} (r : L2.Rd H a u) : H a ≠ none := fun z => by
  rcases r with h | ⟨o, h⟩ <;> (rw [z] at h; cases h)
/-! ### desks: what is meant; questions, deeds -/
theorem sqT_out {K : PySem.W.Frag} {W : Addr → Prop} {H H' : Hp} (c : Ch W H H') (ht : ∀ a, W a → (∀ vs, H a ≠ some (.tup vs)) ∧ ∀ o u, H a ≠ some (.frz o u)) {a : Addr} {xs : List V} (h : SqT K H a xs) : SqT K H' a xs := by
  rcases h with (h | ⟨o, h⟩) | h
  · exact .inl (.inl (c.keep (fun z => (ht a z).1 _ h) h))
  · exact .inl (.inr ⟨o, c.keep (fun z => (ht a z).2 _ _ h) h⟩)
  · exact .inr h
theorem RefAt.out {K : PySem.W.Frag} {W : Addr → Prop} {H H' : Hp} {p : Addr} {nm : Str} {ks : List Str} (R : RefAt K H p nm ks) (c : Ch W H H') (ht : ∀ a, W a → (∀ vs, H a ≠ some (.tup vs)) ∧ ∀ o u, H a ≠ some (.frz o u)) : RefAt K H' p nm ks := by
  obtain ⟨t, h1, h2⟩ := R.ex
  exact ⟨t, sqT_out c ht h1, sqT_out c ht h2⟩
theorem own_out {C : Addr} {H : Hp} {S : Sh} {m : Nat} (T : TreeH C H S m) : ∀ a, Own S a → (∀ vs, H a ≠ some (.tup vs)) ∧ ∀ o u, H a ≠ some (.frz o u) := fun a h => by
  rcases own_what T h with ⟨_, e⟩ | ⟨_, e⟩ | ⟨_, _, e⟩ <;> (rw [e]; exact ⟨fun _ z => (by cases z), fun _ _ z => (by cases z)⟩)
theorem ins_out {H : Hp} {d C dx : Addr} {fs : List (Str × V)} (h : H d = some (.ins C dx fs)) : ∀ a, a = d → (∀ vs, H a ≠ some (.tup vs)) ∧ ∀ o u, H a ≠ some (.frz o u) := fun a e => by
  rw [e, h]
  exact ⟨fun _ z => (by cases z), fun _ _ z => (by cases z)⟩
theorem LastV.out {K : PySem.W.Frag} {W : Addr → Prop} {H H' : Hp} {v : V} {o : Option (Str × List Str × Str)} (L : LastV K H v o) (c : Ch W H H') (ht : ∀ a, W a → (∀ vs, H a ≠ some (.tup vs)) ∧ ∀ o u, H a ≠ some (.frz o u)) : LastV K H' v o := by
  cases o with
  | none => exact L
  | some x =>
    obtain ⟨nm, h, z⟩ := x
    obtain ⟨A, p, e, R⟩ := L
    exact ⟨A, p, e, R.out c ht⟩
theorem Means.out {K : PySem.W.Frag} {W : Addr → Prop} {H H' : Hp} {p : Addr} {o : Option (Str × List Str × Str)} {nm : Str} {ks : List Str} (M : Means K H p o nm ks) (c : Ch W H H') (ht : ∀ a, W a → (∀ vs, H a ≠ some (.tup vs)) ∧ ∀ o u, H a ≠ some (.frz o u)) : Means K H' p o nm ks := by
  rcases M with R | ⟨h, z, s, e, R, ne, ek⟩
  · exact .inl (R.out c ht)
  · exact .inr ⟨h, z, s, e, R.out c ht, ne, ek⟩
theorem key_ne' {z : Str} (h : KEY z) : z ≠ "" := fun e => by
  have := h.pos
  rw [e] at this
  exact absurd this (by decide)
section
variable {P : Program} {w : World} {K : PySem.W.Frag} {mg : Str → Option Value} {base : Heap} {cs : Tabs}
theorem ne_desk (T : Txt K mg cs) : cs.a_Desk ≠ cs.a_Tree ∧ cs.a_Desk ≠ cs.a_Arrays := by
  have h := T.nc
  constructor
  · intro z
    rw [z] at h
    simp at h
  · intro z
    rw [z] at h
    simp at h
theorem ok_meant (T : Txt K mg cs) (C_is_short : Cal P w K mg base 7 "_is_short" ["thing"] (spShort K cs)) (Cis_reference : Cal P w K mg base 6 "is_reference" ["thing"] (spD refD K cs)) (Clong : Cal P w K mg base 1 "long" ["last", "keys"] (spLong K)) :
    CalM P w K mg base 8 cs.a_Desk "_meant" ["self", "ref"] (spMeant K cs) := by
  refine T.f_Desk__meant.cal scDeskMeant (fun vs H Q E h => ?_) (fun f cdv A outer s H vs Q E hr h => ?_)
  · obtain ⟨_, _, _, _, _, _, _, _, rfl, _⟩ := h
    rfl
  obtain ⟨d, dx, p, arr, v, last, nm, ks, rfl, hd, L, Mn, O, hT, q⟩ := h
  refine ⟨_, (pss_cons (ps_if (PW.pt (pw_and (pt_val (pe_cal C_is_short (hr.mono (by first | decide | omega)) (pa_cons (pv 1) pa_nil))) (pw_and1 (pt_cmpR op_ne (pe_ix (ixT K) (pe_ix (ixT K) (pv 1) pe_int (fun _ _ => rfl)) (pe_un un_neg pe_int) (fun _ _ => rfl)) pe_str (nomark _))))) (pss_one (ps_ret (pe_cal Clong (hr.mono (by first | decide | omega)) (pa_cons (pe_fldK (K := K) (pv 0)) (pa_cons (pe_ix (ixT K) (pv 1) pe_int (fun _ _ => rfl)) pa_nil))))) pss_nil)
    (pss_cons (ps_if (pt_not (pt_val (pe_cal Cis_reference (hr.mono (by first | decide | omega)) (pa_cons (pv 1) pa_nil)))) (pss_one ps_dead) pss_nil)
    (pss_one (ps_ret (pv 1))))), ?_⟩
  rcases Mn with R | ⟨h, z, s', rfl, R, ne, rfl⟩
  · refine run_if (run_and ⟨_, rfl, p, nm, ks, rfl, R, by have := O.le; omega, fun z hz => (O.ks z hz).wt, hT, .inl ⟨O.nm, fun H1 S1 => ⟨_, rfl, iteF (iteF ?_)⟩⟩⟩)
    refine run_next ?_
    dsimp only
    refine run_if ⟨_, rfl, .ref p, _, 0, fun _ => False, rfl, th_ref (R.same S1) O, fun _ z => z.elim, by decide, hT.sm S1, fun H2 S2 => ⟨_, rfl, ?_⟩⟩
    rw [ref_true O]
    refine iteF (run_next ?_)
    dsimp only
    exact run_ret ⟨_, rfl, q p H2 (S1.trans S2) ((R.same S1).same S2)⟩
  · obtain ⟨Ak, pl, rfl, Rl⟩ := L
    obtain ⟨a, y, rfl⟩ : ∃ a y, s' = a ++ [y] := ⟨_, _, (List.dropLast_concat_getLast ne).symm⟩
    have le := O.le
    rw [List.length_append, List.length_append, List.length_singleton] at le
    have ky : KEY y := O.ks y (by simp)
    have ka : ∀ z ∈ a, KEY z := fun z hz => O.ks z (by simp [hz])
    obtain ⟨t, h1, h2⟩ := R.ex
    refine run_if (run_and ⟨_, rfl, p, "", a ++ [y], rfl, R, by rw [List.length_append, List.length_singleton]; omega, fun z hz => (List.mem_append.mp hz).elim (fun hz => (ka z hz).wt) fun hz => by rw [List.mem_singleton.mp hz]; exact ky.wt, hT, .inr ⟨rfl, ⟨a, y, rfl, by omega, ka, ky.wt⟩, fun H1 S1 => ⟨_, rfl, iteT ?_⟩⟩⟩)
    refine ⟨_, rfl, p, _, 1, .ref t, rfl, rfl, Sm.seqT S1 h1, atI_nat (j := 1) rfl, 1, rfl, ?_⟩
    refine ⟨t, _, -1, .str y, rfl, rfl, Sm.seqT S1 h2, (by rw [List.map_append]; exact atI_last _ _), rfl, _, rfl, ?_⟩
    rw [show (!decide (V.str y = V.str "")) = true from by rw [decide_eq_false fun e => key_ne' ky (by injection e)]; rfl]
    refine iteT ?_
    refine run_ret ⟨_, rfl, d, _, _, _, _, rfl, S1 _ _ hd, T.cl_Desk, T.no_Desk__last, rfl, _, rfl, p, _, 1, .ref t, rfl, rfl, Sm.seqT S1 h1, atI_nat (j := 1) rfl, ?_⟩
    refine ⟨pl, t, nm, h, z, a ++ [y], rfl, Rl.same S1, Sm.seqT S1 h2, by rw [List.length_append, List.length_singleton]; omega, fun q4 H4 S4 _ R4 => ?_⟩
    exact q q4 H4 (S1.trans S4) R4
theorem ok_meantA (T : Txt K mg cs) (C_is_short : Cal P w K mg base 7 "_is_short" ["thing"] (spShort K cs)) (Cis_asking_reference : Cal P w K mg base 7 "is_asking_reference" ["thing"] (spAskRef K cs (.bl true))) (Clong : Cal P w K mg base 1 "long" ["last", "keys"] (spLong K)) :
    CalM P w K mg base 8 cs.a_Desk "_meant_asking" ["self", "ref"] (spMeantA K cs) := by
  refine T.f_Desk__meant_asking.cal scDeskMeantAsking (fun vs H Q E h => ?_) (fun f cdv A outer s H vs Q E hr h => ?_)
  · obtain ⟨_, _, _, _, _, _, _, _, _, rfl, _⟩ := h
    rfl
  obtain ⟨d, dx, p, arr, v, last, nm, h0, z0, rfl, hd, L, Mn, O, hT, q⟩ := h
  refine ⟨_, (pss_cons (ps_if (pt_val (pe_cal C_is_short (hr.mono (by first | decide | omega)) (pa_cons (pv 1) pa_nil))) (pss_one (ps_ret (pe_cal Clong (hr.mono (by first | decide | omega)) (pa_cons (pe_fldK (K := K) (pv 0)) (pa_cons (pe_ix (ixT K) (pv 1) pe_int (fun _ _ => rfl)) pa_nil))))) pss_nil)
    (pss_cons (ps_if (pt_not (pt_val (pe_cal Cis_asking_reference (hr.mono (by first | decide | omega)) (pa_cons (pv 1) pa_nil)))) (pss_one ps_dead) pss_nil)
    (pss_one (ps_ret (pv 1))))), ?_⟩
  have Wall : ∀ z ∈ h0 ++ [z0], WT z 40 := fun z hz => (List.mem_append.mp hz).elim (fun hz => (O.ks z hz).wt) fun hz => by rw [List.mem_singleton.mp hz]; exact O.lst
  rcases Mn with R | ⟨h, z, s', rfl, R, ne, ek⟩
  · refine run_if ⟨_, rfl, p, nm, h0 ++ [z0], rfl, R, by rw [List.length_append, List.length_singleton]; have := O.le; omega, Wall, hT, .inl ⟨O.nm, fun H1 S1 => ⟨_, rfl, iteF ?_⟩⟩⟩
    refine run_next ?_
    dsimp only
    refine run_if ⟨_, rfl, p, nm, h0, z0, rfl, R.same S1, O, hT.sm S1, fun H2 S2 => ⟨_, rfl, iteF ?_⟩⟩
    refine run_next ?_
    dsimp only
    exact run_ret ⟨_, rfl, q p H2 (S1.trans S2) ((R.same S1).same S2)⟩
  · obtain ⟨Ak, pl, rfl, Rl⟩ := L
    obtain ⟨a, y, rfl⟩ : ∃ a y, s' = a ++ [y] := ⟨_, _, (List.dropLast_concat_getLast ne).symm⟩
    have ek' : h0 = h ++ a ∧ z0 = y := by
      rw [← List.append_assoc] at ek
      exact snoc_inj ek
    obtain ⟨rfl, rfl⟩ := ek'
    have le := O.le
    rw [List.length_append] at le
    have ka : ∀ z ∈ a, KEY z := fun z hz => O.ks z (by simp [hz])
    obtain ⟨t, h1, h2⟩ := R.ex
    refine run_if ⟨_, rfl, p, "", a ++ [z0], rfl, R, by rw [List.length_append, List.length_singleton]; omega, fun z hz => (List.mem_append.mp hz).elim (fun hz => (ka z hz).wt) fun hz => by rw [List.mem_singleton.mp hz]; exact O.lst, hT, .inr ⟨rfl, ⟨a, z0, rfl, by omega, ka, O.lst⟩, fun H1 S1 => ⟨_, rfl, iteT ?_⟩⟩⟩
    refine run_ret ⟨_, rfl, d, _, _, _, _, rfl, S1 _ _ hd, T.cl_Desk, T.no_Desk__last, rfl, _, rfl, p, _, 1, .ref t, rfl, rfl, Sm.seqT S1 h1, atI_nat (j := 1) rfl, ?_⟩
    refine ⟨pl, t, nm, h, z, a ++ [z0], rfl, Rl.same S1, Sm.seqT S1 h2, by rw [List.length_append, List.length_singleton]; omega, fun q4 H4 S4 _ R4 => ?_⟩
    exact q q4 H4 (S1.trans S4) (by rw [List.append_assoc]; exact R4)
end
/-- what a desk has then -/
def lastOf (ks : List Str) (q : Addr) : V := if ks = [] then .non else .ref q
structure Asks (K : PySem.W.Frag) (cs : Tabs) (H : Hp) (d dx p arr : Addr) (v : V) (last : Option (Str × List Str × Str)) (S : Sh) (m : Nat) (nm : Str) (ks : List Str) : Prop where
  it : H d = some (.ins cs.a_Desk dx (dFs arr v))
  la : LastV K H v last
  mn : Means K H p last nm ks
  ar : ArrAt cs H arr S m
  le : m ≤ 80000
  tg : TGs H cs
/-- a question was asked: the desk alone changed -/
structure Told (K : PySem.W.Frag) (cs : Tabs) (H H' : Hp) (d dx arr : Addr) (nm : Str) (ks : List Str) (q : Addr) : Prop where
  ch : Ch (fun a => a = d) H H'
  it : H' d = some (.ins cs.a_Desk dx (dFs arr (lastOf ks q)))
  rf : RefAt K H' q nm ks
theorem ArrAt.desk {cs : Tabs} {H : Hp} {arr d dx : Addr} {fs : List (Str × V)} {S : Sh} {m : Nat} (nd : cs.a_Desk ≠ cs.a_Tree ∧ cs.a_Desk ≠ cs.a_Arrays) (A : ArrAt cs H arr S m) (hd : H d = some (.ins cs.a_Desk dx fs)) : ¬ Own S d ∧ arr ≠ d := by
  refine ⟨fun z => ?_, fun z => ?_⟩
  · rcases own_what A.th z with ⟨_, e⟩ | ⟨_, e⟩ | ⟨_, _, e⟩
    · rw [hd] at e
      cases e
    · rw [hd] at e
      cases e
    · rw [hd] at e
      injection e with e
      injection e with e _ _
      exact nd.1 e
  · obtain ⟨_, _, i, _⟩ := A.it
    rw [z, hd] at i
    injection i with i
    injection i with i _ _
    exact nd.2 i
def spDRead (K : PySem.W.Frag) (cs : Tabs) : Sp := fun vs H Q _ => ∃ (d dx p arr : Addr) (o v : V) (last : Option (Str × List Str × Str)) (S : Sh) (m : Nat) (nm : Str) (ks : List Str), vs = [.ref d, .ref p, o] ∧ Asks K cs H d dx p arr v last S m nm ks ∧ REF nm ks ∧
  ∀ q H', Told K cs H H' d dx arr nm ks q → Q (orV o (S.W (nm :: ks))) H'
def spDData (K : PySem.W.Frag) (cs : Tabs) : Sp := fun vs H Q _ => ∃ (d dx p arr : Addr) (v : V) (last : Option (Str × List Str × Str)) (S : Sh) (m : Nat) (nm : Str) (ks : List Str), vs = [.ref d, .ref p] ∧ Asks K cs H d dx p arr v last S m nm ks ∧ REF nm ks ∧
  ∀ q H', Told K cs H H' d dx arr nm ks q → Q (.int (dataOf S (nm :: ks))) H'
def spDOrder (K : PySem.W.Frag) (cs : Tabs) : Sp := fun vs H Q _ => ∃ (d dx p arr : Addr) (b : Bool) (v : V) (last : Option (Str × List Str × Str)) (S : Sh) (m : Nat) (nm : Str) (h : List Str) (z : Str), vs = [.ref d, .ref p, .bl b] ∧ Asks K cs H d dx p arr v last S m nm (h ++ [z]) ∧ ASK nm h z ∧
  ∀ q H', Told K cs H H' d dx arr nm (h ++ [z]) q → Q (.str (ordS S nm h z b)) H'
def spDFollow (K : PySem.W.Frag) (cs : Tabs) : Sp := fun vs H Q _ => ∃ (d dx p arr : Addr) (b : Bool) (v : V) (last : Option (Str × List Str × Str)) (S : Sh) (m : Nat) (nm : Str) (ks : List Str), vs = [.ref d, .ref p, .bl b] ∧ Asks K cs H d dx p arr v last S m nm ks ∧ REF nm ks ∧ KeyNe S ∧
  (∀ q H', Told K cs H H' d dx arr nm ks q → NoSide b S (nm :: ks) → Q .non H') ∧ ∀ q r H' ks', Told K cs H H' d dx arr nm ks q → RefT H' r nm ks' → Side b S (nm :: ks) (nm :: ks') → Q (.ref r) H'
/-- a deed: the desk and the tree changed -/
structure Done (K : PySem.W.Frag) (cs : Tabs) (H H' : Hp) (d dx arr : Addr) (S S' : Sh) (m : Nat) (nm : Str) (ks : List Str) (q : Addr) : Prop where
  ch : Ch (fun a => Own S a ∨ a = d) H H'
  own : ∀ a, Own S' a → Own S a ∨ H a = none
  it : H' d = some (.ins cs.a_Desk dx (dFs arr (lastOf ks q)))
  rf : RefAt K H' q nm ks
  ar : ArrAt cs H' arr S' m
def spDPut (K : PySem.W.Frag) (cs : Tabs) : Sp := fun vs H Q _ => ∃ (d dx p arr : Addr) (z : Str) (v : V) (last : Option (Str × List Str × Str)) (S : Sh) (m : Nat) (nm : Str) (ks : List Str), vs = [.ref d, .ref p, .str z] ∧ Asks K cs H d dx p arr v last S m nm ks ∧ REF nm ks ∧ WT z 400 ∧
  ∀ q S' H', (∀ r, S'.W r = if r = nm :: ks then some z else S.W r) → Done K cs H H' d dx arr S S' (m + 7) nm ks q → Q .non H'
def spDKill (K : PySem.W.Frag) (cs : Tabs) : Sp := fun vs H Q _ => ∃ (d dx p arr : Addr) (v : V) (last : Option (Str × List Str × Str)) (S : Sh) (m : Nat) (nm : Str) (ks : List Str), vs = [.ref d, .ref p] ∧ Asks K cs H d dx p arr v last S m nm ks ∧ REF nm ks ∧ cntAt S (nm :: ks) ≤ 100000 ∧
  ∀ q S' H', (∀ r, S'.W r = if (nm :: ks).isPrefixOf r = true then none else S.W r) → Done K cs H H' d dx arr S S' m nm ks q → Q (.int (cntAt S (nm :: ks) : Nat)) H'
/-! ### desks: the methods -/
section
variable {P : Program} {w : World} {K : PySem.W.Frag} {mg : Str → Option Value} {base : Heap} {cs : Tabs}
theorem remembered {H H1 : Hp} {d dx p arr : Addr} {v : V} {last : Option (Str × List Str × Str)} {S : Sh} {m : Nat} {nm : Str} {ks : List Str} {q : Addr} (nd : cs.a_Desk ≠ cs.a_Tree ∧ cs.a_Desk ≠ cs.a_Arrays) (x : Asks K cs H d dx p arr v last S m nm ks) (S1 : Sm H H1) (R : RefAt K H1 q nm ks) {H2 : Hp} (e : H2 = upd H1 d (.ins cs.a_Desk dx (dFs arr (if ks = [] then .non else .ref q)))) :
    Told K cs H H2 d dx arr nm ks q ∧ ArrAt cs H2 arr S m ∧ TGs H2 cs := by
  have hd := S1 _ _ x.it
  have c : Ch (fun a => a = d) H1 H2 := by rw [e]; exact Ch.upd rfl hd rfl
  have A1 := x.ar.sm S1
  obtain ⟨n1, n2⟩ := A1.desk nd hd
  refine ⟨⟨(Ch.sm S1).trans c, by rw [e]; exact upd_same, R.out c (ins_out hd)⟩, A1.ch c fun a h z => h.elim (fun h => n1 (z ▸ h)) fun h => n2 (h.symm.trans z), (x.tg.sm S1).ch c⟩
theorem Told.sm {H H' H2 : Hp} {d dx arr : Addr} {nm : Str} {ks : List Str} {q : Addr} (t : Told K cs H H' d dx arr nm ks q) (S : Sm H' H2) : Told K cs H H2 d dx arr nm ks q := ⟨t.ch.trans (Ch.sm S), S _ _ t.it, t.rf.same S⟩
theorem ok_dread (T : Txt K mg cs) (CDesk__meant : CalM P w K mg base 8 cs.a_Desk "_meant" ["self", "ref"] (spMeant K cs)) (CDesk__remember : CalM P w K mg base 1 cs.a_Desk "_remember" ["self", "asked"] (spRemember K cs)) (CArrays_read : CalW P w K mg base 8 cs.a_Arrays "read" ["self", "ref", "otherwise"] 2 [("otherwise", .str "")] (spRead K cs)) :
    CalW P w K mg base 9 cs.a_Desk "read" ["self", "ref", "otherwise"] 2 [("otherwise", .str "")] (spDRead K cs) := by
  refine T.f_Desk_read.cal ⟨fun D doc pm an cdv ct us ks h1 h2 => match us, h1, ks, h2 with | [_, _], _, [_], _ => ⟨_, _, _, _, _, _, rfl, rfl, rfl⟩, fun D doc pm an cdv ct us ws h1 h2 => match us, h1, ws, h2 with | [_, _], _, [_], _ => rfl⟩ (by simp) rfl scDeskRead (fun vs H Q E h => ?_) (fun f cdv A outer s H vs Q E hr h => ?_)
  · obtain ⟨_, _, _, _, _, _, _, _, _, _, _, rfl, _⟩ := h
    rfl
  obtain ⟨d, dx, p, arr, o, v, last, S, m, nm, ks, rfl, x, O, q⟩ := h
  refine ⟨_, (pss_cons (ps_set (i := 3) scDeskRead.nd rfl (by first | exact Or.inl rfl | exact Or.inr rfl) (pe_calM CDesk__meant T.cl_Desk (hr.mono (by first | decide | omega)) (pv 0) (pa_cons (pv 1) pa_nil)))
    (pss_cons (ps_expr (pe_calM CDesk__remember T.cl_Desk (hr.mono (by first | decide | omega)) (pv 0) (pa_cons (pv 3) pa_nil)))
    (pss_one (ps_ret (pe_calWN CArrays_read T.cl_Arrays (hr.mono (by first | decide | omega)) (pe_fldK (K := K) (pv 0)) (pa_cons (pv 3) pa_nil) (pk_cons (pv 2) pk_nil)))))), ?_⟩
  refine run_set ⟨_, rfl, d, _, _, rfl, x.it, rfl, _, rfl, d, dx, p, arr, v, last, nm, ks, rfl, x.it, x.la, x.mn, O, x.tg, fun q4 H1 S1 R1 => ?_⟩
  have hd1 := S1 _ _ x.it
  dsimp only
  refine ⟨_, rfl, d, _, _, rfl, hd1, rfl, _, rfl, d, dx, q4, arr, v, nm, ks, rfl, hd1, R1, ?_⟩
  obtain ⟨t, A2, T2⟩ := remembered (ne_desk T) x S1 R1 rfl
  generalize upd H1 d (.ins cs.a_Desk dx (dFs arr (if ks = [] then .non else .ref q4))) = H2 at *
  obtain ⟨ax, n, hi, hn⟩ := A2.it
  dsimp only
  refine run_ret ⟨_, rfl, d, _, _, _, _, rfl, t.it, T.cl_Desk, T.no_Desk__arrays, rfl, arr, _, _, rfl, hi, rfl, _, rfl, _, rfl, rfl, rfl, arr, q4, o, S, m, nm, ks, rfl, A2, t.rf, O, T2, fun H3 S3 => q q4 H3 (t.sm S3)⟩
theorem ok_ddata (T : Txt K mg cs) (CDesk__meant : CalM P w K mg base 8 cs.a_Desk "_meant" ["self", "ref"] (spMeant K cs)) (CDesk__remember : CalM P w K mg base 1 cs.a_Desk "_remember" ["self", "asked"] (spRemember K cs)) (CArrays_data : CalM P w K mg base 8 cs.a_Arrays "data" ["self", "ref"] (spData K cs)) :
    CalM P w K mg base 9 cs.a_Desk "data" ["self", "ref"] (spDData K cs) := by
  refine T.f_Desk_data.cal scDeskData (fun vs H Q E h => ?_) (fun f cdv A outer s H vs Q E hr h => ?_)
  · obtain ⟨_, _, _, _, _, _, _, _, _, _, rfl, _⟩ := h
    rfl
  obtain ⟨d, dx, p, arr, v, last, S, m, nm, ks, rfl, x, O, q⟩ := h
  refine ⟨_, (pss_cons (ps_set (i := 2) scDeskData.nd rfl (by first | exact Or.inl rfl | exact Or.inr rfl) (pe_calM CDesk__meant T.cl_Desk (hr.mono (by first | decide | omega)) (pv 0) (pa_cons (pv 1) pa_nil)))
    (pss_cons (ps_expr (pe_calM CDesk__remember T.cl_Desk (hr.mono (by first | decide | omega)) (pv 0) (pa_cons (pv 2) pa_nil)))
    (pss_one (ps_ret (pe_calM CArrays_data T.cl_Arrays (hr.mono (by first | decide | omega)) (pe_fldK (K := K) (pv 0)) (pa_cons (pv 2) pa_nil)))))), ?_⟩
  refine run_set ⟨_, rfl, d, _, _, rfl, x.it, rfl, _, rfl, d, dx, p, arr, v, last, nm, ks, rfl, x.it, x.la, x.mn, O, x.tg, fun q4 H1 S1 R1 => ?_⟩
  have hd1 := S1 _ _ x.it
  dsimp only
  refine ⟨_, rfl, d, _, _, rfl, hd1, rfl, _, rfl, d, dx, q4, arr, v, nm, ks, rfl, hd1, R1, ?_⟩
  obtain ⟨t, A2, T2⟩ := remembered (ne_desk T) x S1 R1 rfl
  generalize upd H1 d (.ins cs.a_Desk dx (dFs arr (if ks = [] then .non else .ref q4))) = H2 at *
  obtain ⟨ax, n, hi, hn⟩ := A2.it
  dsimp only
  refine run_ret ⟨_, rfl, d, _, _, _, _, rfl, t.it, T.cl_Desk, T.no_Desk__arrays, rfl, arr, _, _, rfl, hi, rfl, _, rfl, arr, q4, S, m, nm, ks, rfl, A2, t.rf, O, T2, fun H3 S3 => q q4 H3 (t.sm S3)⟩
theorem ok_dorder (T : Txt K mg cs) (CDesk__meant_asking : CalM P w K mg base 8 cs.a_Desk "_meant_asking" ["self", "ref"] (spMeantA K cs)) (CDesk__remember : CalM P w K mg base 1 cs.a_Desk "_remember" ["self", "asked"] (spRemember K cs)) (CArrays_order : CalW P w K mg base 9 cs.a_Arrays "order" ["self", "ref", "back"] 2 [("back", .bl false)] (spOrder K cs)) :
    CalW P w K mg base 10 cs.a_Desk "order" ["self", "ref", "back"] 2 [("back", .bl false)] (spDOrder K cs) := by
  refine T.f_Desk_order.cal ⟨fun D doc pm an cdv ct us ks h1 h2 => match us, h1, ks, h2 with | [_, _], _, [_], _ => ⟨_, _, _, _, _, _, rfl, rfl, rfl⟩, fun D doc pm an cdv ct us ws h1 h2 => match us, h1, ws, h2 with | [_, _], _, [_], _ => rfl⟩ (by simp) rfl scDeskOrder (fun vs H Q E h => ?_) (fun f cdv A outer s H vs Q E hr h => ?_)
  · obtain ⟨_, _, _, _, _, _, _, _, _, _, _, _, rfl, _⟩ := h
    rfl
  obtain ⟨d, dx, p, arr, b, v, last, S, m, nm, h, z, rfl, x, O, q⟩ := h
  refine ⟨_, (pss_cons (ps_set (i := 3) scDeskOrder.nd rfl (by first | exact Or.inl rfl | exact Or.inr rfl) (pe_calM CDesk__meant_asking T.cl_Desk (hr.mono (by first | decide | omega)) (pv 0) (pa_cons (pv 1) pa_nil)))
    (pss_cons (ps_expr (pe_calM CDesk__remember T.cl_Desk (hr.mono (by first | decide | omega)) (pv 0) (pa_cons (pv 3) pa_nil)))
    (pss_one (ps_ret (pe_calWN CArrays_order T.cl_Arrays (hr.mono (by first | decide | omega)) (pe_fldK (K := K) (pv 0)) (pa_cons (pv 3) pa_nil) (pk_cons (pv 2) pk_nil)))))), ?_⟩
  refine run_set ⟨_, rfl, d, _, _, rfl, x.it, rfl, _, rfl, d, dx, p, arr, v, last, nm, h, z, rfl, x.it, x.la, x.mn, O, x.tg, fun q4 H1 S1 R1 => ?_⟩
  have hd1 := S1 _ _ x.it
  dsimp only
  refine ⟨_, rfl, d, _, _, rfl, hd1, rfl, _, rfl, d, dx, q4, arr, v, nm, h ++ [z], rfl, hd1, R1, ?_⟩
  obtain ⟨t, A2, T2⟩ := remembered (ne_desk T) x S1 R1 rfl
  generalize upd H1 d (.ins cs.a_Desk dx (dFs arr (if h ++ [z] = [] then .non else .ref q4))) = H2 at *
  obtain ⟨ax, n, hi, hn⟩ := A2.it
  dsimp only
  refine run_ret ⟨_, rfl, d, _, _, _, _, rfl, t.it, T.cl_Desk, T.no_Desk__arrays, rfl, arr, _, _, rfl, hi, rfl, _, rfl, _, rfl, rfl, rfl, arr, q4, b, S, m, nm, h, z, rfl, A2, t.rf, O, x.le, T2, fun H3 S3 => q q4 H3 (t.sm S3)⟩
theorem ok_dfollow (T : Txt K mg cs) (CDesk__meant : CalM P w K mg base 8 cs.a_Desk "_meant" ["self", "ref"] (spMeant K cs)) (CDesk__remember : CalM P w K mg base 1 cs.a_Desk "_remember" ["self", "asked"] (spRemember K cs)) (CArrays_following : CalW P w K mg base 8 cs.a_Arrays "following" ["self", "ref", "back"] 2 [("back", .bl false)] (spFollow K cs)) :
    CalW P w K mg base 9 cs.a_Desk "following" ["self", "ref", "back"] 2 [("back", .bl false)] (spDFollow K cs) := by
  refine T.f_Desk_following.cal ⟨fun D doc pm an cdv ct us ks h1 h2 => match us, h1, ks, h2 with | [_, _], _, [_], _ => ⟨_, _, _, _, _, _, rfl, rfl, rfl⟩, fun D doc pm an cdv ct us ws h1 h2 => match us, h1, ws, h2 with | [_, _], _, [_], _ => rfl⟩ (by simp) rfl scDeskFollowing (fun vs H Q E h => ?_) (fun f cdv A outer s H vs Q E hr h => ?_)
  · obtain ⟨_, _, _, _, _, _, _, _, _, _, _, rfl, _⟩ := h
    rfl
  obtain ⟨d, dx, p, arr, b, v, last, S, m, nm, ks, rfl, x, O, KN, q0, q⟩ := h
  refine ⟨_, (pss_cons (ps_set (i := 3) scDeskFollowing.nd rfl (by first | exact Or.inl rfl | exact Or.inr rfl) (pe_calM CDesk__meant T.cl_Desk (hr.mono (by first | decide | omega)) (pv 0) (pa_cons (pv 1) pa_nil)))
    (pss_cons (ps_expr (pe_calM CDesk__remember T.cl_Desk (hr.mono (by first | decide | omega)) (pv 0) (pa_cons (pv 3) pa_nil)))
    (pss_one (ps_ret (pe_calWN CArrays_following T.cl_Arrays (hr.mono (by first | decide | omega)) (pe_fldK (K := K) (pv 0)) (pa_cons (pv 3) pa_nil) (pk_cons (pv 2) pk_nil)))))), ?_⟩
  refine run_set ⟨_, rfl, d, _, _, rfl, x.it, rfl, _, rfl, d, dx, p, arr, v, last, nm, ks, rfl, x.it, x.la, x.mn, O, x.tg, fun q4 H1 S1 R1 => ?_⟩
  have hd1 := S1 _ _ x.it
  dsimp only
  refine ⟨_, rfl, d, _, _, rfl, hd1, rfl, _, rfl, d, dx, q4, arr, v, nm, ks, rfl, hd1, R1, ?_⟩
  obtain ⟨t, A2, T2⟩ := remembered (ne_desk T) x S1 R1 rfl
  generalize upd H1 d (.ins cs.a_Desk dx (dFs arr (if ks = [] then .non else .ref q4))) = H2 at *
  obtain ⟨ax, n, hi, hn⟩ := A2.it
  dsimp only
  refine run_ret ⟨_, rfl, d, _, _, _, _, rfl, t.it, T.cl_Desk, T.no_Desk__arrays, rfl, arr, _, _, rfl, hi, rfl, _, rfl, _, rfl, rfl, rfl, arr, q4, b, S, m, nm, ks, rfl, A2, t.rf, O, KN, x.le, T2, fun H3 S3 no => q0 q4 H3 (t.sm S3) no, fun r H3 ks' S3 _ Rr sd => q q4 r H3 ks' (t.sm S3) Rr sd⟩
theorem ok_dkill (T : Txt K mg cs) (CDesk__meant : CalM P w K mg base 8 cs.a_Desk "_meant" ["self", "ref"] (spMeant K cs)) (CDesk__remember : CalM P w K mg base 1 cs.a_Desk "_remember" ["self", "asked"] (spRemember K cs)) (CArrays_kill : CalM P w K mg base 10 cs.a_Arrays "kill" ["self", "ref"] (spKill K cs)) :
    CalM P w K mg base 11 cs.a_Desk "kill" ["self", "ref"] (spDKill K cs) := by
  refine T.f_Desk_kill.cal scDeskKill (fun vs H Q E h => ?_) (fun f cdv A outer s H vs Q E hr h => ?_)
  · obtain ⟨_, _, _, _, _, _, _, _, _, _, rfl, _⟩ := h
    rfl
  obtain ⟨d, dx, p, arr, v, last, S, m, nm, ks, rfl, x, O, hc, q⟩ := h
  refine ⟨_, (pss_cons (ps_set (i := 2) scDeskKill.nd rfl (by first | exact Or.inl rfl | exact Or.inr rfl) (pe_calM CDesk__meant T.cl_Desk (hr.mono (by first | decide | omega)) (pv 0) (pa_cons (pv 1) pa_nil)))
    (pss_cons (ps_expr (pe_calM CDesk__remember T.cl_Desk (hr.mono (by first | decide | omega)) (pv 0) (pa_cons (pv 2) pa_nil)))
    (pss_one (ps_ret (pe_calM CArrays_kill T.cl_Arrays (hr.mono (by first | decide | omega)) (pe_fldK (K := K) (pv 0)) (pa_cons (pv 2) pa_nil)))))), ?_⟩
  refine run_set ⟨_, rfl, d, _, _, rfl, x.it, rfl, _, rfl, d, dx, p, arr, v, last, nm, ks, rfl, x.it, x.la, x.mn, O, x.tg, fun q4 H1 S1 R1 => ?_⟩
  have hd1 := S1 _ _ x.it
  dsimp only
  refine ⟨_, rfl, d, _, _, rfl, hd1, rfl, _, rfl, d, dx, q4, arr, v, nm, ks, rfl, hd1, R1, ?_⟩
  obtain ⟨t, A2, T2⟩ := remembered (ne_desk T) x S1 R1 rfl
  generalize upd H1 d (.ins cs.a_Desk dx (dFs arr (if ks = [] then .non else .ref q4))) = H2 at *
  obtain ⟨ax, n, hi, hn⟩ := A2.it
  obtain ⟨o1, _⟩ := A2.desk (ne_desk T) t.it
  have le := x.le
  dsimp only
  refine run_ret ⟨_, rfl, d, _, _, _, _, rfl, t.it, T.cl_Desk, T.no_Desk__arrays, rfl, arr, _, _, rfl, hi, rfl, _, rfl, arr, q4, S, m, nm, ks, rfl, A2, t.rf, O, by omega, hc, T2, fun S' H3 W A3 w3 => q q4 S' H3 W ⟨(t.ch.mono fun a h => .inr h).trans (w3.ch.mono fun a h => .inl h), fun a h => (w3.own a h).imp id (t.ch.gone a), w3.ch.keep o1 t.it, t.rf.out w3.ch (own_out A2.th), A3⟩⟩
theorem ok_dput (T : Txt K mg cs) (CDesk__meant : CalM P w K mg base 8 cs.a_Desk "_meant" ["self", "ref"] (spMeant K cs)) (CDesk__remember : CalM P w K mg base 1 cs.a_Desk "_remember" ["self", "asked"] (spRemember K cs)) (CArrays_put : CalM P w K mg base 8 cs.a_Arrays "put" ["self", "ref", "worth"] (spPut K cs)) :
    CalM P w K mg base 9 cs.a_Desk "put" ["self", "ref", "worth"] (spDPut K cs) := by
  refine T.f_Desk_put.cal scDeskPut (fun vs H Q E h => ?_) (fun f cdv A outer s H vs Q E hr h => ?_)
  · obtain ⟨_, _, _, _, _, _, _, _, _, _, _, rfl, _⟩ := h
    rfl
  obtain ⟨d, dx, p, arr, z, v, last, S, m, nm, ks, rfl, x, O, W, q⟩ := h
  refine ⟨_, (pss_cons (ps_set (i := 3) scDeskPut.nd rfl (by first | exact Or.inl rfl | exact Or.inr rfl) (pe_calM CDesk__meant T.cl_Desk (hr.mono (by first | decide | omega)) (pv 0) (pa_cons (pv 1) pa_nil)))
    (pss_cons (ps_expr (pe_calM CArrays_put T.cl_Arrays (hr.mono (by first | decide | omega)) (pe_fldK (K := K) (pv 0)) (pa_cons (pv 3) (pa_cons (pv 2) pa_nil))))
    (pss_one (ps_expr (pe_calM CDesk__remember T.cl_Desk (hr.mono (by first | decide | omega)) (pv 0) (pa_cons (pv 3) pa_nil)))))), ?_⟩
  refine run_set ⟨_, rfl, d, _, _, rfl, x.it, rfl, _, rfl, d, dx, p, arr, v, last, nm, ks, rfl, x.it, x.la, x.mn, O, x.tg, fun q4 H1 S1 R1 => ?_⟩
  have hd1 := S1 _ _ x.it
  have A1 := x.ar.sm S1
  obtain ⟨o1, o2⟩ := A1.desk (ne_desk T) hd1
  obtain ⟨ax, n, hi, hn⟩ := A1.it
  dsimp only
  refine ⟨_, rfl, d, _, _, _, _, rfl, hd1, T.cl_Desk, T.no_Desk__arrays, rfl, arr, _, _, rfl, hi, rfl, _, rfl, _, rfl, arr, q4, z, S, m, nm, ks, rfl, A1, R1, O, W, x.le, x.tg.sm S1, fun S' H2 Wq A2 w2 => ?_⟩
  have hd2 := w2.ch.keep o1 hd1
  have R2 := R1.out w2.ch (own_out A1.th)
  dsimp only
  refine ⟨_, rfl, d, _, _, rfl, hd2, rfl, _, rfl, d, dx, q4, arr, v, nm, ks, rfl, hd2, R2, ?_⟩
  have c : Ch (fun a => a = d) H2 (upd H2 d (.ins cs.a_Desk dx (dFs arr (if ks = [] then .non else .ref q4)))) := Ch.upd rfl hd2 rfl
  obtain ⟨n1, n2⟩ := A2.desk (ne_desk T) hd2
  exact q q4 S' _ Wq ⟨((Ch.sm S1).trans (w2.ch.mono fun a h => .inl h)).trans (c.mono fun a h => .inr h), fun a h => (w2.own a h).imp id (S1.gone a), upd_same, R2.out c (ins_out hd2), A2.ch c fun a h e => h.elim (fun h => n1 (e ▸ h)) fun h => n2 (h.symm.trans e)⟩
theorem ok_dlast (T : Txt K mg cs) : CalM P w K mg base 1 cs.a_Desk "last" ["self"] (fun vs H Q _ => ∃ (d dx arr : Addr) (v : V), vs = [.ref d] ∧ H d = some (.ins cs.a_Desk dx (dFs arr v)) ∧ Q v H) := by
  refine T.f_Desk_last.cal scDeskLast (fun vs H Q E h => ?_) (fun f cdv A outer s H vs Q E hr h => ?_)
  · obtain ⟨_, _, _, _, rfl, _⟩ := h
    rfl
  obtain ⟨d, dx, arr, v, rfl, hd, q⟩ := h
  refine ⟨_, (pss_one (ps_ret (pe_fldK (K := K) (pv 0)))), ?_⟩
  exact run_ret ⟨_, rfl, d, _, _, _, _, rfl, hd, T.cl_Desk, T.no_Desk__last, rfl, q⟩
end
/-! ### two trees with the same worths -/
structure Alike (S1 S2 : Sh) : Prop where
  w : S1.W = S2.W
  o1 : ShOk S1
  o2 : ShOk S2
  f1 : Full S1
  f2 : Full S2
theorem there_iff {S : Sh} (O : ShOk S) (F : Full S) {p : List Str} (ne : p ≠ []) : (S.N p).isSome = true ↔ ∃ t, Node S (p ++ t) := by
  constructor
  · intro h
    obtain ⟨p0, k0, rfl⟩ : ∃ p0 k0, p = p0 ++ [k0] := ⟨p.dropLast, p.getLast ne, (List.dropLast_concat_getLast ne).symm⟩
    rcases F p0 k0 h with a | a
    · exact ⟨[], by rw [List.append_nil]; exact a⟩
    · obtain ⟨u, hu⟩ := Option.isSome_iff_exists.mp h
      obtain ⟨j, r, y, e⟩ := (O.row_of F hu).mp a
      exact ⟨j :: r, by unfold Node; rw [e]; exact fun z => by cases z⟩
  · rintro ⟨t, ht⟩
    exact O.up t p (ht.some O)
namespace Alike
variable {S1 S2 : Sh} (a : Alike S1 S2)
theorem node (a : Alike S1 S2) {q : List Str} : Node S1 q ↔ Node S2 q := by unfold Node; rw [a.w]
theorem N (a : Alike S1 S2) (p : List Str) : (S1.N p).isSome = (S2.N p).isSome := by
  by_cases ne : p = []
  · subst ne
    obtain ⟨n1, h1⟩ := a.o1.root
    obtain ⟨n2, h2⟩ := a.o2.root
    rw [h1, h2]
    rfl
  · rw [Bool.eq_iff_iff, there_iff a.o1 a.f1 ne, there_iff a.o2 a.f2 ne]
    exact ⟨fun ⟨t, h⟩ => ⟨t, a.node.mp h⟩, fun ⟨t, h⟩ => ⟨t, a.node.mpr h⟩⟩
theorem R (a : Alike S1 S2) {p : List Str} (h : (S1.N p).isSome = true) : S1.R p = S2.R p := by
  obtain ⟨n1, h1⟩ := Option.isSome_iff_exists.mp h
  obtain ⟨n2, h2⟩ := Option.isSome_iff_exists.mp (by rw [← a.N]; exact h)
  refine List.Perm.eq_of_pairwise (fun _ _ _ _ x y => ahead_same y x) (le := fun x y => ahead y x = false) ?_ ?_ ((List.perm_ext_iff_of_nodup (row_nodup a.o1 h1) (row_nodup a.o2 h2)).mpr fun k => ?_)
  · exact (a.o1.srt p n1 h1).imp fun {x y} h => ahead_one h
  · exact (a.o2.srt p n2 h2).imp fun {x y} h => ahead_one h
  · rw [a.o1.row p n1 h1 k, a.o2.row p n2 h2 k, a.N]
theorem walk (a : Alike S1 S2) : ∀ (f : Nat) (p : List Str), (S1.N p).isSome = true → walkF f S1 p = walkF f S2 p
  | 0, _, _ => rfl
  | f + 1, p, h => by
    obtain ⟨n1, h1⟩ := Option.isSome_iff_exists.mp h
    unfold walkF
    rw [a.w, ← a.R h]
    congr 1
    rw [List.flatMap_def, List.flatMap_def]
    congr 1
    refine List.map_congr_left fun k hk => ?_
    rw [walk a f (p ++ [k]) ((a.o1.row p n1 h1 k).mp hk)]
theorem rows (a : Alike S1 S2) (nm : Str) (ks : List Str) : rowsS S1 nm ks = rowsS S2 nm ks := by
  unfold rowsS
  rw [a.N]
  by_cases c : (S2.N (nm :: ks)).isSome = true
  · rw [if_pos c, if_pos c]
    exact a.walk 8 _ (by rw [a.N]; exact c)
  · rw [if_neg c, if_neg c]
theorem data (a : Alike S1 S2) (p : List Str) : dataOf S1 p = dataOf S2 p := by
  unfold dataOf
  rw [a.N, a.w]
  by_cases c : (S2.N p).isSome = true
  · rw [if_pos c, if_pos c, a.R (by rw [a.N]; exact c)]
  · rw [if_neg c, if_neg c]
theorem ord (a : Alike S1 S2) (nm : Str) (ks : List Str) (z : Str) (b : Bool) : ordS S1 nm ks z b = ordS S2 nm ks z b := by
  unfold ordS
  rw [a.N]
  by_cases c : (S2.N (nm :: ks)).isSome = true
  · rw [if_pos c, if_pos c, a.R (by rw [a.N]; exact c)]
  · rw [if_neg c, if_neg c]
theorem side (a : Alike S1 S2) {b : Bool} {p r : List Str} (h : Side b S1 p r) : Side b S2 p r := by
  cases b with
  | true => exact ⟨a.node.mp h.1, h.2.1, h.2.2.1, fun q hq => h.2.2.2 q (a.node.mpr hq)⟩
  | false => exact ⟨a.node.mp h.1, h.2.1, h.2.2.1, fun q hq => h.2.2.2 q (a.node.mpr hq)⟩
theorem noside (a : Alike S1 S2) {b : Bool} {p : List Str} (h : NoSide b S1 p) : NoSide b S2 p := by
  cases b with
  | true => exact fun q hq => h q (a.node.mpr hq)
  | false => exact fun q hq => h q (a.node.mpr hq)
theorem names (a : Alike S1 S2) : S1.R [] = S2.R [] := by
  obtain ⟨n1, h1⟩ := a.o1.root
  exact a.R (by rw [h1]; rfl)
theorem cnt (a : Alike S1 S2) (p : List Str) : cntAt S1 p = cntAt S2 p := by
  unfold cntAt
  rw [a.N]
  by_cases c : (S2.N p).isSome = true
  · rw [if_pos c, if_pos c, a.walk 8 p (by rw [a.N]; exact c)]
  · rw [if_neg c, if_neg c]
end Alike
/-- what a tree holds, after a deed -/
theorem Cont.put {S S' : Sh} {L : List (List Str × Str)} (C : Cont S L) {p : List Str} {z : Str} (h : ∀ q, S'.W q = if q = p then some z else S.W q) : ∃ L', Cont S' L' ∧ L'.length ≤ L.length + 1 ∧ ∀ x ∈ L', x ∈ L ∨ x = (p, z) := by
  refine ⟨L.filter (fun x => decide (x.1 ≠ p)) ++ [(p, z)], ⟨?_, fun q y => ?_⟩, ?_, fun x hx => (List.mem_append.mp hx).imp (fun h => (List.mem_filter.mp h).1) fun h => List.mem_singleton.mp h⟩
  · rw [List.map_append, List.nodup_append]
    refine ⟨C.nd.sublist (List.Sublist.map _ List.filter_sublist), by simp, fun x hx y hy e => ?_⟩
    obtain ⟨u, hu, rfl⟩ := List.mem_map.mp hx
    have := (List.mem_filter.mp hu).2
    rw [decide_eq_true_eq] at this
    have hy' : y = p := by simpa using hy
    exact this (by rw [e, hy'])
  · rw [List.mem_append, List.mem_filter, List.mem_singleton, decide_eq_true_eq, h q, C.mem]
    by_cases e : q = p
    · subst e
      simp [eq_comm]
    · simp [e]
  · rw [List.length_append]
    have := List.length_filter_le (fun x : List Str × Str => decide (x.1 ≠ p)) L
    show (L.filter fun x => decide (x.1 ≠ p)).length + 1 ≤ L.length + 1
    omega
theorem Cont.cut {S S' : Sh} {L : List (List Str × Str)} (C : Cont S L) {p : List Str} (h : ∀ q, S'.W q = if p.isPrefixOf q = true then none else S.W q) : ∃ L', Cont S' L' ∧ L'.length ≤ L.length ∧ ∀ x ∈ L', x ∈ L := by
  refine ⟨L.filter fun x => !p.isPrefixOf x.1, ⟨C.nd.sublist (List.Sublist.map _ List.filter_sublist), fun q y => ?_⟩, List.length_filter_le _ _, fun x hx => (List.mem_filter.mp hx).1⟩
  rw [List.mem_filter, h q, C.mem]
  by_cases e : p.isPrefixOf q = true
  · simp [e]
  · simp [e]
theorem Cont.rows {S : Sh} {L : List (List Str × Str)} (C : Cont S L) (O : ShOk S) (nm : Str) (ks : List Str) : (rowsS S nm ks).length ≤ L.length := by
  unfold rowsS
  split
  · rename_i c
    have := (C.part O c).length_eq
    rw [List.length_map] at this
    rw [this]
    exact List.length_filter_le _ _
  · exact Nat.zero_le _
/-! ### two things that are the same are told to be so -/
def okD : Nat → D → Bool
  | 0, .non => true
  | 0, .bl _ => true
  | 0, .int _ => true
  | 0, .str _ => true
  | 0, _ => false
  | J + 1, .lst l => l.all (okD J)
  | J + 1, .tup l => l.all (okD J)
  | _ + 1, .dic => false
  | _ + 1, _ => true
def Av0 : Addr → Prop := fun _ => False
abbrev Is (K : PySem.W.Frag) (H : Hp) (v : V) (d : D) : Prop := Th K Av0 1000 H v d
abbrev IsAll (K : PySem.W.Frag) (H : Hp) (vs : List V) (ds : List D) : Prop := ThAll K Av0 1000 H vs ds
theorem Is.sm {K : PySem.W.Frag} {H H' : Hp} {v : V} {d : D} (h : Is K H v d) (S : Sm H H') : Is K H' v d := Th.koW (fun _ _ z _ => z.elim) (KO.sm S) h
theorem IsAll.sm {K : PySem.W.Frag} {H H' : Hp} {v : List V} {d : List D} (h : IsAll K H v d) (S : Sm H H') : IsAll K H' v d := ThAll.koW (fun _ _ z _ => z.elim) (KO.sm S) h
def spSame (K : PySem.W.Frag) (J : Nat) : Sp := fun vs H Q _ => ∃ (v u : V) (d : D), vs = [v, u] ∧ Is K H v d ∧ Is K H u d ∧ okD J d = true ∧ ∀ H', Sm H H' → Q (.bl true) H'
theorem kit_row {K : PySem.W.Frag} (d : D) : PySem.W.kitAny K (.type d.ty) [.type "list", .type "tuple"] = some (d.isLst || d.isTup) := by
  refine kitAny_cons (kitL d) (fun e => ?_) (fun e => by rw [e]; rfl)
  rw [e, Bool.false_or]
  refine kitAny_cons (kitT d) (fun e2 => ?_) (fun e2 => e2)
  rw [e2]
  rfl
theorem isrow {K : PySem.W.Frag} {i : Nat} {v : V} {d : D} {σ : L2.St} {H : Hp} {Q : VK} (hs : σ[i]? = some (some v)) (h : Is K H v d) (q : ∀ H', Sm H H' → Q (.bl (d.isLst || d.isTup)) H') :
    tCB (rIsiT K) (tCons (tVar i) (tCons (tTup (tCons (tC (V.ty "list")) (tCons (tC (V.ty "tuple")) tNil))) tNil)) σ H Q := by
  refine ⟨_, hs, small (by show 2 ≤ 100000; decide), fun p hp => ?_⟩
  have S1 := Sm.new (o := .tup [V.ty "list", .ty "tuple"]) hp
  exact ⟨v, p, _, _, _, _, rfl, upd_same, .cons (ClsV.ty "list") (.cons (ClsV.ty "tuple") .nil), (Is.sm h S1).tyx, kit_row d, q _ S1⟩
theorem rowD_of {K : PySem.W.Frag} {H : Hp} {v : V} {d : D} (h : Is K H v d) (c : (d.isLst || d.isTup) = true) : ∃ a xs ds, v = .ref a ∧ (SqL K H a xs ∨ SqT K H a xs) ∧ IsAll K H xs ds ∧ xs.length ≤ 40 + 1000 ∧ (d = .lst ds ∨ d = .tup ds) := by
  cases h with
  | lst g1 g2 g3 g4 => exact ⟨_, _, _, rfl, .inl (SqL.of g1), g4, g3, .inl rfl⟩
  | tup g1 g2 g3 => exact ⟨_, _, _, rfl, .inr g1, g3, g2, .inr rfl⟩
  | _ => cases c
theorem eqv_atom (b : Bool) : PyData.eqv (.bool b) (.bool b) = true := by
  show (b == b) = true
  simp
section
variable {P : Program} {w : World} {K : PySem.W.Frag} {mg : Str → Option Value} {base : Heap} {cs : Tabs}
theorem same_none (T : Txt K mg cs) : Cal P w K mg base 1 "_law_same" ["found", "due"] (fun _ _ _ _ => False) := by
  refine T.f_law_same.cal scLawSame (fun vs H Q E h => h.elim) (fun f cdv A outer s H vs Q E hr h => h.elim)
theorem same_next (T : Txt K mg cs) {k : Nat} {sp' : Sp} (C_law_same : Cal P w K mg base (k + 1) "_law_same" ["found", "due"] sp') (J : Nat) (hsp : ∀ j, J = j + 1 → ∀ vs H Q E, spSame K j vs H Q E → sp' vs H Q E) : Cal P w K mg base (k + 2) "_law_same" ["found", "due"] (spSame K J) := by
  refine T.f_law_same.cal scLawSame (fun vs H Q E h => ?_) (fun f cdv A outer s H vs Q E hr h => ?_)
  · obtain ⟨_, _, _, rfl, _⟩ := h
    rfl
  obtain ⟨v, u, d, rfl, hv, hu, hd, q⟩ := h
  refine ⟨_, (pss_cons (ps_if (pt_val (pe_callB (isIT K) rfl T.n_isinstance (by decide +kernel) (pa_cons (pv 1) (pa_cons (pe_tup (pa_cons (pe_bltn (v := .ty "list") rfl T.n_list (by decide +kernel) rfl) (pa_cons (pe_bltn (v := .ty "tuple") rfl T.n_tuple (by decide +kernel) rfl) pa_nil))) pa_nil)))) (pss_cons (ps_if (PW.pt (pw_or (pt_cmpR op_ne (pe_callB (isI K) rfl T.n_isinstance (by decide +kernel) (pa_cons (pv 0) (pa_cons (pe_bltn (v := .ty "list") rfl T.n_list (by decide +kernel) rfl) pa_nil))) (pe_callB (isI K) rfl T.n_isinstance (by decide +kernel) (pa_cons (pv 1) (pa_cons (pe_bltn (v := .ty "list") rfl T.n_list (by decide +kernel) rfl) pa_nil))) (nomark _)) (pw_or1 (pt_not (pt_val (pe_callB (isIT K) rfl T.n_isinstance (by decide +kernel) (pa_cons (pv 0) (pa_cons (pe_tup (pa_cons (pe_bltn (v := .ty "list") rfl T.n_list (by decide +kernel) rfl) (pa_cons (pe_bltn (v := .ty "tuple") rfl T.n_tuple (by decide +kernel) rfl) pa_nil))) pa_nil)))))))) (pss_one (ps_ret pe_bl)) pss_nil)
        (pss_one (ps_ret (pe_and (pe_cmpR op_eq (pe_callB (lenQ K) rfl T.n_len (by decide +kernel) (pa_cons (pv 0) pa_nil)) (pe_callB (lenQ K) rfl T.n_len (by decide +kernel) (pa_cons (pv 1) pa_nil)) (nomark _)) (pe_one (pe_callB (allL (K := K) rfl) rfl T.n_all (by decide +kernel) (pa_cons (pe_lc (own := [("k", 2)]) (g := gName 2) (tt := tYes) rfl scLawSame.nd (pi_range1 rfl T.n_range (pa_cons (pe_callB (lenQ K) rfl T.n_len (by decide +kernel) (pa_cons (pv 1) pa_nil)) pa_nil)) (blkOk_by (own := [("k", 2)]) (N := ["found", "due", "k"]) (sc := defScope sLawSame) (by decide +kernel)) (fun _ _ _ _ _ => (pg_name (i := 2) scLawSame.nd rfl (by first | exact Or.inl rfl | exact Or.inr rfl))) (fun _ _ _ _ _ => pts_nil) (fun _ _ _ _ _ => (pe_cal C_law_same (hr.mono (by first | decide | omega)) (pa_cons (pe_ix (IxR.or (ixL K) (ixT K)) (pv 0) (pv 2) (fun _ _ => rfl)) (pa_cons (pe_ix (IxR.or (ixL K) (ixT K)) (pv 1) (pv 2) (fun _ _ => rfl)) pa_nil))))) pa_nil))))))) pss_nil)
    (pss_cons (ps_if (pt_cmpR op_isN (pv 1) pe_non (nomark _)) (pss_one (ps_ret (pe_cmpR op_isN (pv 0) pe_non (nomark _)))) pss_nil)
    (pss_cons (ps_if (PW.pt (pw_or (pt_cmpR op_ne (pe_callB (isI K) rfl T.n_isinstance (by decide +kernel) (pa_cons (pv 0) (pa_cons (pe_bltn (v := .ty "bool") rfl T.n_bool (by decide +kernel) rfl) pa_nil))) (pe_callB (isI K) rfl T.n_isinstance (by decide +kernel) (pa_cons (pv 1) (pa_cons (pe_bltn (v := .ty "bool") rfl T.n_bool (by decide +kernel) rfl) pa_nil))) (nomark _)) (pw_or1 (pt_cmpR op_ne (pe_callB (isI K) rfl T.n_isinstance (by decide +kernel) (pa_cons (pv 0) (pa_cons (pe_bltn (v := .ty "int") rfl T.n_int (by decide +kernel) rfl) pa_nil))) (pe_callB (isI K) rfl T.n_isinstance (by decide +kernel) (pa_cons (pv 1) (pa_cons (pe_bltn (v := .ty "int") rfl T.n_int (by decide +kernel) rfl) pa_nil))) (nomark _))))) (pss_one (ps_ret pe_bl)) pss_nil)
    (pss_one (ps_ret (pe_cmpR (eqD K hr.units) (pv 0) (pv 1) (nomark _))))))), ?_⟩
  refine run_if (isrow (i := 1) rfl hu fun H1 S1 => ⟨_, rfl, ?_⟩)
  have v1 := Is.sm hv S1
  have u1 := Is.sm hu S1
  refine ite2 (fun c => ?_) (fun c => ?_)
  · refine run_if ?_
    refine ⟨_, rfl, _, _, _, _, _, rfl, ClsV.ty "list", v1.tyx, kitL d, _, rfl, _, _, _, _, _, rfl, ClsV.ty "list", u1.tyx, kitL d, rfl, _, rfl, ?_⟩
    have e : (!decide (V.bl d.isLst = V.bl d.isLst)) = false := by rw [decide_eq_true rfl]; rfl
    rw [e]
    refine iteF ?_
    refine isrow (i := 0) rfl v1 fun H2 S2 => ⟨_, rfl, ?_⟩
    rw [c]
    refine iteF ?_
    refine run_next ?_
    dsimp only
    have S02 := S1.trans S2
    obtain ⟨a, xs, ds, rfl, ra, va, la, da⟩ := rowD_of (Is.sm v1 S2) c
    obtain ⟨b, ys, es, rfl, rb, ub, lb, db⟩ := rowD_of (Is.sm u1 S2) c
    have ed : es = ds := by
      rcases da with rfl | rfl <;> rcases db with db | db <;> cases db <;> rfl
    subst ed
    have lx := va.len
    have ly := ub.len
    refine run_ret ⟨_, rfl, a, xs, rfl, ra, _, rfl, b, ys, rfl, rb, rfl, _, rfl, ?_⟩
    rw [lx, ly]
    refine ite2 (fun _ => ?_) (fun c => absurd (decide_eq_true rfl) c)
    obtain ⟨j, rfl⟩ : ∃ j, J = j + 1 := by
      cases J with
      | zero => rcases da with rfl | rfl <;> cases hd
      | succ j => exact ⟨j, rfl⟩
    have hall : es.all (okD j) = true := by
      rcases da with rfl | rfl <;> exact hd
    dsimp only [tCB, tCons, tNil]
    refine lc_picked (i := 2) (n := es.length) (p := fun _ => true) (g := fun _ => V.bl true) (fun R h => ⟨_, (by rfl), b, ys, rfl, rb, by rw [ly]; exact h _ (Sm.refl _)⟩) (by omega) (fun j H3 _ S3 R hR => hR H3 (Sm.refl _)) (fun i H3 hi S3 R hR => ?_) fun D H3 S3 hD => ?_
    · have sx : ∀ {a : Addr} {zs : List V}, (SqL K H2 a zs ∨ SqT K H2 a zs) → (SqL K H3 a zs ∨ SqT K H3 a zs) := fun h => h.imp (fun h => Sm.seq S3 h) fun h => Sm.seqT S3 h
      have ix : xs[i]? = some (xs[i]'(by omega)) := List.getElem?_eq_getElem _
      have iy : ys[i]? = some (ys[i]'(by omega)) := List.getElem?_eq_getElem _
      obtain ⟨d1, hd1, t1⟩ := va.at (i := i) (by omega)
      obtain ⟨d2, hd2, t2⟩ := ub.at (i := i) (by omega)
      have ee : d2 = d1 := Option.some.inj (hd2.symm.trans hd1)
      subst ee
      have od : okD j d2 = true := List.all_eq_true.mp hall _ (List.mem_of_getElem? hd1)
      have fin : sp' [xs[i]'(by omega), ys[i]'(by omega)] H3 R E0 := hsp j rfl _ _ _ _ ⟨_, _, d2, rfl, Is.sm t1 S3, Is.sm t2 S3, od, fun H4 S4 => hR H4 S4⟩
      have at1 : ∀ {a : Addr} {zs : List V} {z : V} {Q : VK}, (SqL K H3 a zs ∨ SqT K H3 a zs) → zs[i]? = some z → Q z H3 → (rIxL K (.ref a) (.int (0 + (i : Int))) H3 Q ∨ rIxT K (.ref a) (.int (0 + (i : Int))) H3 Q) := fun {a zs z Q} h e q => by
        rw [Int.zero_add]
        rcases h with h | h
        · exact .inl ⟨a, zs, (i : Int), z, rfl, rfl, h, atI_nat e, q⟩
        · exact .inr ⟨a, zs, (i : Int), z, rfl, rfl, h, atI_nat e, q⟩
      refine ⟨_, (by rfl), _, (by rfl), at1 (sx ra) ix ⟨_, (by rfl), _, (by rfl), at1 (sx rb) iy fin⟩⟩
    · refine ⟨D, ((List.range es.length).filter fun _ => true).map fun _ => true, rfl, ?_, ?_⟩
      · rw [List.map_map]
        exact SqL.of hD
      · have e1 : (((List.range es.length).filter fun _ => true).map fun _ => true).all id = true := by
          rw [List.all_map]
          exact List.all_eq_true.mpr fun _ _ => rfl
        rw [e1]
        exact q _ (S02.trans S3)
  refine run_next ?_
  dsimp only
  have atom : (u = v ∧ ((d = .non ∧ v = .non) ∨ (∃ x, d = .bl x ∧ v = .bl x) ∨ (∃ x, d = .int x ∧ v = .int x) ∨ ∃ x, d = .str x ∧ v = .str x ∧ PyData.strOk x = true)) := by
    cases v1 with
    | non => cases u1; exact ⟨rfl, .inl ⟨rfl, rfl⟩⟩
    | bl x => cases u1; exact ⟨rfl, .inr (.inl ⟨x, rfl, rfl⟩)⟩
    | int x h => cases u1; exact ⟨rfl, .inr (.inr (.inl ⟨x, rfl, rfl⟩))⟩
    | str x h1 h2 => cases u1; exact ⟨rfl, .inr (.inr (.inr ⟨x, rfl, rfl, strOk_of fun c hc => by have := h2 c hc; omega⟩))⟩
    | lst _ _ _ _ => exact absurd rfl c
    | tup _ _ _ => exact absurd rfl c
    | dic _ =>
      cases J with
      | zero => cases hd
      | succ j => cases hd
  obtain ⟨rfl, at'⟩ := atom
  refine run_if ⟨_, rfl, rfl, _, rfl, ?_⟩
  refine ite2 (fun c1 => ?_) (fun c1 => ?_)
  · have e1 : u = .non := of_decide_eq_true c1
    subst e1
    exact run_ret ⟨_, rfl, rfl, q _ S1⟩
  refine run_next ?_
  dsimp only
  refine run_if ?_
  refine ⟨_, rfl, _, _, _, _, _, rfl, ClsV.ty "bool", v1.tyx, kitB' d, _, rfl, _, _, _, _, _, rfl, ClsV.ty "bool", u1.tyx, kitB' d, rfl, _, rfl, ?_⟩
  have e : ∀ b : Bool, (!decide (V.bl b = V.bl b)) = false := fun b => by rw [decide_eq_true rfl]; rfl
  rw [e]
  refine iteF ?_
  refine ⟨_, rfl, _, _, _, _, _, rfl, ClsV.ty "int", v1.tyx, kitI d, _, rfl, _, _, _, _, _, rfl, ClsV.ty "int", u1.tyx, kitI d, rfl, _, rfl, ?_⟩
  rw [e]
  refine iteF ?_
  refine run_next ?_
  dsimp only
  refine run_ret ⟨_, rfl, _, rfl, ?_⟩
  rcases at' with ⟨rfl, rfl⟩ | ⟨x, rfl, rfl⟩ | ⟨x, rfl, rfl⟩ | ⟨x, rfl, rfl, hx⟩
  · exact absurd (decide_eq_true rfl) c1
  · refine ⟨.bool x, .bool x, .bl x, .bl x, rfl, rfl, ?_⟩
    rw [show PyData.eqv (.bool x) (.bool x) = true by show (x == x) = true; simp]
    exact q _ S1
  · refine ⟨.int x, .int x, .int x, .int x, rfl, rfl, ?_⟩
    rw [show PyData.eqv (.int x) (.int x) = true by show (x == x) = true; simp]
    exact q _ S1
  · refine ⟨.str x, .str x, .str x, .str x, ?_, ?_, ?_⟩
    · show (PyData.strOk x && _) = true
      rw [hx]
      rfl
    · show (PyData.strOk x && _) = true
      rw [hx]
      rfl
    rw [show PyData.eqv (.str x) (.str x) = true by show (x == x) = true; simp]
    exact q _ S1
theorem ok_law_same (T : Txt K mg cs) : ∀ J : Nat, Cal P w K mg base (J + 2) "_law_same" ["found", "due"] (spSame K J)
  | 0 => same_next T (same_none T) 0 fun _ h => nomatch h
  | J + 1 => same_next T (ok_law_same T J) (J + 1) fun j h vs H Q E q => by
    injection h with h
    subst h
    exact q
end
/-! ### references and rows as things -/
def dRef (nm : Str) (ks : List Str) : D := .tup [.str nm, .tup (ks.map D.str)]
def dPath : List Str × Str → D
  | (n :: k, z) => .tup [dRef n k, .str z]
  | ([], _) => .non
theorem okD_strs (ks : List Str) : ∀ J, (ks.map D.str).all (okD J) = true := fun J => by
  rw [List.all_eq_true]
  intro d hd
  obtain ⟨z, _, rfl⟩ := List.mem_map.mp hd
  cases J <;> rfl
theorem okD_ref (nm : Str) (ks : List Str) : okD 2 (dRef nm ks) = true := by
  show (okD 1 (.str nm) && (okD 1 (.tup (ks.map D.str)) && true)) = true
  rw [show okD 1 (.tup (ks.map D.str)) = (ks.map D.str).all (okD 0) from rfl, okD_strs]
  rfl
theorem okD_ref3 (nm : Str) (ks : List Str) : okD 3 (dRef nm ks) = true := by
  show (okD 2 (.str nm) && (okD 2 (.tup (ks.map D.str)) && true)) = true
  rw [show okD 2 (.tup (ks.map D.str)) = (ks.map D.str).all (okD 1) from rfl, okD_strs]
  rfl
theorem okD_path (x : List Str × Str) : okD 3 (dPath x) = true := by
  obtain ⟨q, z⟩ := x
  cases q with
  | nil => rfl
  | cons n k =>
    show (okD 2 (dRef n k) && (okD 2 (.str z) && true)) = true
    rw [okD_ref]
    rfl
theorem is_rows {K : PySem.W.Frag} {H : Hp} {nm : Str} {ks : List Str} : ∀ {ys : List V} {xs : List (List Str × Str)}, Paired (RowV H nm ks) ys xs → (∀ x ∈ xs, REF nm (ks ++ x.1) ∧ WT x.2 400) → IsAll K H ys (xs.map fun x => dPath (nm :: (ks ++ x.1), x.2))
  | _, _, .nil, _ => .nil
  | _, _, .cons (b := x) ⟨a, r, h1, h2, h3⟩ t, ok => by
    subst h1
    obtain ⟨O, W⟩ := ok x List.mem_cons_self
    exact .cons (.tup (SqT.of h2) (by show 2 ≤ 1040; decide) (.cons (th_ref h3.at_ O) (.cons (.str _ (by have := W.len; omega) W.asc) .nil))) (is_rows t fun e he => ok e (List.mem_cons_of_mem _ he))
/-! ### what is remembered, as a thing -/
def dO : Option (Str × List Str × Str) → D
  | none => .non
  | some (nm, h, z) => .tup [.str nm, .tup ((h ++ [z]).map D.str)]
theorem okD_O (o : Option (Str × List Str × Str)) : okD 3 (dO o) = true := by
  cases o with
  | none => rfl
  | some x => exact okD_ref3 x.1 (x.2.1 ++ [x.2.2])
theorem is_last {K : PySem.W.Frag} {H : Hp} {v : V} {o : Option (Str × List Str × Str)} (L : LastV K H v o) : Is K H v (dO o) := by
  cases o with
  | none =>
    obtain rfl : v = .non := L
    exact .non
  | some x =>
    obtain ⟨nm, h, z⟩ := x
    obtain ⟨A, p, rfl, R⟩ := L
    obtain ⟨t, h1, h2⟩ := R.ex
    have W : ∀ y ∈ h ++ [z], WT y 40 := fun y hy => (List.mem_append.mp hy).elim (fun hy => (A.ks y hy).wt) fun hy => by rw [List.mem_singleton.mp hy]; exact A.lst
    have each : ∀ {l : List Str}, (∀ z ∈ l, WT z 40) → IsAll K H (l.map V.str) (l.map D.str) := fun {l} h => by
      induction l with
      | nil => exact .nil
      | cons x r ih =>
        have w := h x List.mem_cons_self
        exact .cons (.str x (Nat.le_trans w.len (by decide)) w.asc) (ih fun z hz => h z (List.mem_cons_of_mem _ hz))
    have le := A.le
    exact .tup h1 (by show 2 ≤ 40 + 1000; decide) (.cons (.str nm (Nat.le_trans A.nm.len (by decide)) (nm_asc A.nm).2) (.cons (.tup h2 (by rw [List.length_map, List.length_append, List.length_singleton]; omega) (each W)) .nil))
/-- a place as a door takes it -/
def Plc (door nm : Str) (ks : List Str) : Prop := if door = "order" then ∃ h z, ks = h ++ [z] ∧ ASK nm h z else REF nm ks
theorem Plc.ask {door nm : Str} {ks : List Str} (h : Plc door nm ks) : NM nm ∧ ks.length ≤ 6 ∧ (∀ z ∈ ks, WT z 40) ∧ (ks = [] ∨ ∃ h z, ks = h ++ [z] ∧ ASK nm h z) := by
  unfold Plc at h
  split at h
  · obtain ⟨h, z, rfl, A⟩ := h
    have le := A.le
    exact ⟨A.nm, by rw [List.length_append, List.length_singleton]; omega, fun y hy => (List.mem_append.mp hy).elim (fun hy => (A.ks y hy).wt) fun hy => by rw [List.mem_singleton.mp hy]; exact A.lst, .inr ⟨h, z, rfl, A⟩⟩
  · refine ⟨h.nm, h.le, fun y hy => (h.ks y hy).wt, ?_⟩
    rcases List.eq_nil_or_concat ks with e | ⟨a, z, e⟩
    · exact .inl e
    · rw [List.concat_eq_append] at e
      subst e
      have le := h.le
      rw [List.length_append, List.length_singleton] at le
      exact .inr ⟨a, z, rfl, h.nm, by omega, fun y hy => h.ks y (List.mem_append_left _ hy), (h.ks z (by simp)).wt⟩
theorem Plc.last {K : PySem.W.Frag} {door nm : Str} {ks : List Str} (h : Plc door nm ks) : ∃ o', ∀ (H : Hp) (q : Addr), RefAt K H q nm ks → LastV K H (lastOf ks q) o' := by
  rcases h.ask.2.2.2 with rfl | ⟨a, z, rfl, A⟩
  · exact ⟨none, fun _ _ _ => rfl⟩
  · refine ⟨some (nm, a, z), fun H q R => ⟨A, q, ?_, R⟩⟩
    unfold lastOf
    rw [if_neg (by simp)]
theorem shaped_names {ks : List Str} (h : ∀ z ∈ ks, PyData.strOk z = true) : SeqAt.shaped (.list (dS ks)) = true := by
  show (PyData.canLayAll0 (dS ks) && decide (PyData.depthAll (dS ks) + 1 ≤ 64)) = true
  rw [lay_strs ks h, depth_strs]
  rfl
theorem okD_rows (nm : Str) (l : List (List Str × Str)) : okD 4 (.lst (l.map fun x => dPath (nm :: ([] ++ x.1), x.2))) = true := by
  show (l.map fun y => dPath (nm :: ([] ++ y.1), y.2)).all (okD 3) = true
  rw [List.all_eq_true]
  intro d hd
  obtain ⟨y, _, rfl⟩ := List.mem_map.mp hd
  exact okD_path _
/-! ### references as data -/
def pdR (nm : Str) (ks : List Str) : PyData := .tuple [.str nm, .tuple (dS ks)]
theorem dp_refA {K : PySem.W.Frag} {H : Hp} {p : Addr} {nm : Str} {ks : List Str} (R : RefAt K H p nm ks) : Dp K H (.ref p) (pdR nm ks) := by
  obtain ⟨t, h1, h2⟩ := R.ex
  exact .tup h1 (.cons (.str nm) (.cons (.tup h2 (dp_strs ks)) .nil))
theorem shaped_ref {nm : Str} {ks : List Str} (hn : PyData.strOk nm = true) (hk : ∀ z ∈ ks, PyData.strOk z = true) : SeqAt.shaped (pdR nm ks) = true := by
  show (PyData.canLayAll0 [.str nm, .tuple (dS ks)] && decide (PyData.depthAll [.str nm, .tuple (dS ks)] + 1 ≤ 64)) = true
  have e1 : PyData.canLayAll0 [.str nm, .tuple (dS ks)] = true := by
    show (PyData.strOk nm && (PyData.canLayAll0 (dS ks) && true)) = true
    rw [hn, lay_strs ks hk]
    rfl
  have e2 : PyData.depthAll [.str nm, .tuple (dS ks)] = 1 := by
    show max (PyData.depth (.str nm)) (max (PyData.depthAll (dS ks) + 1) 0) = 1
    rw [depth_strs]
    rfl
  rw [e1, e2]
  rfl
theorem eqv_ref (n1 n2 : Str) (k1 k2 : List Str) : PyData.eqv (pdR n1 k1) (pdR n2 k2) = (decide (n1 = n2) && decide (k1 = k2)) := by
  show ((n1 == n2) && (PyData.eqvAll (dS k1) (dS k2) && true)) = _
  rw [eqv_strs, Bool.and_true]
  rfl
theorem ite_last {qs : List Str} {rf : Addr} {i : Nat} {σ : L2.St} {H : Hp} {Q : VK} (hs : σ[i]? = some (some (.ref rf))) (h : Q (lastOf qs rf) H) : if (!decide (qs = [])) = true then tVar i σ H Q else tC .non σ H Q := by
  unfold lastOf at h
  by_cases e : qs = []
  · rw [if_pos e] at h
    rw [decide_eq_true e]
    exact iteF h
  · rw [if_neg e] at h
    rw [decide_eq_false e]
    exact iteT ⟨_, hs, h⟩
/-! ### the desk and the other arrays asked alike -/
structure Duo (cs : Tabs) (H : Hp) (arr ar2 : Addr) (S1 S2 : Sh) (k : Nat) (L : List (List Str × Str)) : Prop where
  a1 : ArrAt cs H arr S1 k
  a2 : ArrAt cs H ar2 S2 k
  w : S1.W = S2.W
  co : Cont S1 L
  ok : ∀ x ∈ L, ∃ nm ks, x.1 = nm :: ks ∧ REF nm ks ∧ WT x.2 400
  dis : ∀ a, Own S1 a → ¬ Own S2 a
  ne : arr ≠ ar2
theorem Duo.al {cs : Tabs} {H : Hp} {arr ar2 : Addr} {S1 S2 : Sh} {k : Nat} {L : List (List Str × Str)} (d : Duo cs H arr ar2 S1 S2 k L) : Alike S1 S2 := ⟨d.w, d.a1.ok, d.a2.ok, d.a1.full, d.a2.full⟩
theorem Duo.ch {cs : Tabs} {H H' : Hp} {arr ar2 : Addr} {S1 S2 : Sh} {k : Nat} {L : List (List Str × Str)} {W : Addr → Prop} (d : Duo cs H arr ar2 S1 S2 k L) (c : Ch W H H') (h : ∀ a, Own S1 a ∨ Own S2 a ∨ a = arr ∨ a = ar2 → ¬ W a) : Duo cs H' arr ar2 S1 S2 k L :=
  ⟨d.a1.ch c fun a z => h a (z.elim .inl fun z => .inr (.inr (.inl z))), d.a2.ch c fun a z => h a (z.elim (fun z => .inr (.inl z)) fun z => .inr (.inr (.inr z))), d.w, d.co, d.ok, d.dis, d.ne⟩
theorem Duo.sm {cs : Tabs} {H H' : Hp} {arr ar2 : Addr} {S1 S2 : Sh} {k : Nat} {L : List (List Str × Str)} (d : Duo cs H arr ar2 S1 S2 k L) (s : Sm H H') : Duo cs H' arr ar2 S1 S2 k L := d.ch (W := fun _ => False) (Ch.sm s) fun _ _ z => z
theorem Duo.node {cs : Tabs} {H : Hp} {arr ar2 : Addr} {S1 S2 : Sh} {k : Nat} {L : List (List Str × Str)} (d : Duo cs H arr ar2 S1 S2 k L) {q : List Str} (h : Node S1 q) : ∃ nm ks, q = nm :: ks ∧ REF nm ks := by
  obtain ⟨z, hz⟩ := Option.ne_none_iff_exists'.mp h
  obtain ⟨nm, ks, e, O, _⟩ := d.ok _ ((d.co.mem q z).mpr hz)
  exact ⟨nm, ks, e, O⟩
theorem Duo.key {cs : Tabs} {H : Hp} {arr ar2 : Addr} {S1 S2 : Sh} {k : Nat} {L : List (List Str × Str)} (d : Duo cs H arr ar2 S1 S2 k L) {q : List Str} {j : Str} (h : (S1.N (q ++ [j])).isSome = true) : j ≠ "" ∧ (tl j).length ≤ 40 ∧ ∀ c ∈ tl j, c < 128 := by
  obtain ⟨t, ht⟩ := (there_iff d.a1.ok d.a1.full (by simp)).mp h
  obtain ⟨nm, ks, e, O⟩ := d.node ht
  have mj : j ∈ nm :: ks := by
    rw [← e]
    simp
  rcases List.mem_cons.mp mj with z | z
  · subst z
    exact ⟨nm_ne O.nm, Nat.le_trans O.nm.len (by decide), (nm_asc O.nm).2⟩
  · have ky := O.ks j z
    exact ⟨key_ne ky, ky.wt.len, ky.wt.asc⟩
theorem Duo.keyne {cs : Tabs} {H : Hp} {arr ar2 : Addr} {S1 S2 : Sh} {k : Nat} {L : List (List Str × Str)} (d : Duo cs H arr ar2 S1 S2 k L) : KeyNe S1 ∧ KeyNe S2 :=
  ⟨fun q j h => (d.key h).1, fun q j h => (d.key (by rw [d.al.N]; exact h)).1⟩
theorem ord_asc {cs : Tabs} {H : Hp} {arr ar2 : Addr} {S1 S2 : Sh} {k : Nat} {L : List (List Str × Str)} {K : PySem.W.Frag} (d : Duo cs H arr ar2 S1 S2 k L) (nm : Str) (ks : List Str) (z : Str) (b : Bool) (H' : Hp) : Is K H' (.str (ordS S1 nm ks z b)) (.str (ordS S1 nm ks z b)) := by
  have empty : Is K H' (.str "") (.str "") := .str "" (by decide) (by intro c hc; cases hc)
  unfold ordS
  split
  · rename_i c
    unfold pickI
    split
    · rename_i hi
      obtain ⟨n, hn⟩ := Option.isSome_iff_exists.mp c
      have lt : (nextI (S1.R (nm :: ks)) z b).toNat < (S1.R (nm :: ks)).length := by omega
      rw [List.getElem?_eq_getElem lt]
      have := d.key ((d.a1.ok.row _ n hn _).mp (List.getElem_mem lt))
      exact .str _ (by have := this.2.1; show _ ≤ 400 + 1000; simp only [Option.getD_some]; omega) this.2.2
    · exact empty
  · exact empty
theorem ArrAt.mono {H : Hp} {arr : Addr} {S : Sh} {m m' : Nat} (A : ArrAt cs H arr S m) (h : m ≤ m') : ArrAt cs H arr S m' := ⟨A.it, A.th.mono h, A.ok, A.full⟩
/-! ### two arrays told alike: lists of things, what stands on a side -/
/-- a list of things -/
def Fd (K : PySem.W.Frag) (H : Hp) (F : Addr) (ds : List D) : Prop := ∃ vs, H F = some (.lst vs) ∧ IsAll K H vs ds
theorem Fd.sm {K : PySem.W.Frag} {H H' : Hp} {F : Addr} {ds : List D} (f : Fd K H F ds) (s : Sm H H') : Fd K H' F ds := by
  obtain ⟨vs, h, i⟩ := f
  exact ⟨vs, s _ _ h, i.sm s⟩
theorem isAll_len {K : PySem.W.Frag} {H : Hp} {vs : List V} {ds : List D} (i : IsAll K H vs ds) : vs.length = ds.length := i.len
theorem isAll_app {K : PySem.W.Frag} {H : Hp} : ∀ {vs ws : List V} {ds es : List D}, IsAll K H vs ds → IsAll K H ws es → IsAll K H (vs ++ ws) (ds ++ es)
  | _, _, _, _, .nil, j => j
  | _, _, _, _, .cons h t, j => .cons h (isAll_app t j)
/-- found + [..] -/
theorem fd_cat {K : PySem.W.Frag} {H : Hp} {F : Addr} {ds es : List D} {ws : List V} {Q : VK} {B : Addr} (f : Fd K H F ds) (hB : H B = some (.lst ws)) (i : IsAll K H ws es) (hl : ds.length + es.length ≤ 1000) (q : ∀ G H', Sm H H' → Fd K H' G (ds ++ es) → Q (.ref G) H') : rCat (.ref F) (.ref B) H Q := by
  obtain ⟨vs, h, j⟩ := f
  have l1 := isAll_len j
  have l2 := isAll_len i
  refine ⟨F, B, vs, ws, rfl, rfl, h, hB, small (by omega), fun G hG => ?_⟩
  have s := Sm.new (o := .lst (vs ++ ws)) hG
  exact q G _ s ⟨_, upd_same, isAll_app (j.sm s) (i.sm s)⟩
theorem nodup_le {α : Type} [DecidableEq α] : ∀ {l m : List α}, l.Nodup → (∀ x ∈ l, x ∈ m) → l.length ≤ m.length
  | [], _, _, _ => Nat.zero_le _
  | x :: r, m, nd, sub => by
    have hx := sub x List.mem_cons_self
    have n := List.nodup_cons.mp nd
    have := nodup_le (l := r) (m := m.erase x) n.2 fun y hy => (List.mem_erase_of_ne (show y ≠ x from fun e => n.1 (by rw [← e]; exact hy))).mpr (sub y (List.mem_cons_of_mem _ hy))
    rw [List.length_erase_of_mem hx] at this
    have := List.length_pos_of_mem hx
    show r.length + 1 ≤ m.length
    omega
theorem Duo.names {cs : Tabs} {H : Hp} {arr ar2 : Addr} {S1 S2 : Sh} {k : Nat} {L : List (List Str × Str)} (d : Duo cs H arr ar2 S1 S2 k L) : (S1.R []).length ≤ L.length ∧ ∀ z ∈ S1.R [], (tl z).length ≤ 40 ∧ ∀ c ∈ tl z, c < 128 := by
  obtain ⟨n, hn⟩ := d.a1.ok.root
  refine ⟨?_, fun z hz => (d.key (q := []) ((d.a1.ok.row [] n hn z).mp hz)).2⟩
  have := nodup_le (l := S1.R []) (m := L.map fun x => x.1.headD "") (row_nodup d.a1.ok hn) fun z hz => by
    obtain ⟨t, ht⟩ := (there_iff d.a1.ok d.a1.full (by simp)).mp ((d.a1.ok.row [] n hn z).mp hz)
    obtain ⟨y, hy⟩ := Option.ne_none_iff_exists'.mp ht
    exact List.mem_map.mpr ⟨_, (d.co.mem _ y).mpr hy, rfl⟩
  rwa [List.length_map] at this
theorem is_txts {K : PySem.W.Frag} {H : Hp} : ∀ {ks : List Str}, (∀ z ∈ ks, (tl z).length ≤ 40 ∧ ∀ c ∈ tl z, c < 128) → IsAll K H (ks.map V.str) (ks.map D.str)
  | [], _ => .nil
  | z :: r, h => .cons (.str z (by have := (h z List.mem_cons_self).1; omega) (h z List.mem_cons_self).2) (is_txts fun y hy => h y (List.mem_cons_of_mem _ hy))
def dW (o : D) : Option Str → D
  | some z => .str z
  | none => o
theorem Alike.symm {S1 S2 : Sh} (a : Alike S1 S2) : Alike S2 S1 := ⟨a.w.symm, a.o2, a.o1, a.f2, a.f1⟩
/-- what stands on a side of a reference, as a thing -/
theorem follow_tw {K : PySem.W.Frag} {cs : Tabs} {H : Hp} {a1 a2 : Addr} {S1 S2 : Sh} {k : Nat} {L : List (List Str × Str)} (x : Duo cs H a1 a2 S1 S2 k L) (b : Bool) (nm : Str) (ks : List Str) :
    ∃ dF, okD 3 dF = true ∧ okD 4 dF = true ∧ ∀ S, Alike S S1 → (∀ H', NoSide b S (nm :: ks) → Is K H' .non dF) ∧ ∀ H' q ks', RefT H' q nm ks' → Side b S (nm :: ks) (nm :: ks') → Is K H' (.ref q) dF := by
  by_cases h : ∃ r, Side b S1 (nm :: ks) (nm :: r)
  · obtain ⟨r, sd⟩ := h
    refine ⟨dRef nm r, okD_ref3 nm r, (by
      show (okD 3 (.str nm) && (okD 3 (.tup (r.map D.str)) && true)) = true
      rw [show okD 3 (.tup (r.map D.str)) = (r.map D.str).all (okD 2) from rfl, okD_strs]
      rfl), fun S al => ⟨fun H' no => (side_no sd (al.noside no)).elim, fun H' q ks' R sd' => ?_⟩⟩
    have e := side_one (al.side sd') sd
    injection e with _ e
    subst e
    have nd : Node S1 (nm :: ks') := by
      cases b with
      | true => exact sd.1
      | false => exact sd.1
    obtain ⟨n0, k0, e0, O0⟩ := x.node nd
    injection e0 with ea eb
    subst ea eb
    exact th_ref R.at_ O0
  · exact ⟨.non, rfl, rfl, fun S al => ⟨fun _ _ => .non, fun H' q ks' R sd' => (h ⟨ks', al.side sd'⟩).elim⟩⟩
theorem follow_at {K : PySem.W.Frag} {cs : Tabs} {H : Hp} {arr p : Addr} {S : Sh} {k : Nat} {b : Bool} {nm : Str} {ks : List Str} {dF : D} {Q : VK} {E : XK} (A : ArrAt cs H arr S k) (R : RefAt K H p nm ks) (O : REF nm ks) (kn : KeyNe S) (hk : k ≤ 80000) (tg : TGs H cs)
    (n : (∀ H', NoSide b S (nm :: ks) → Is K H' .non dF) ∧ ∀ H' q ks', RefT H' q nm ks' → Side b S (nm :: ks) (nm :: ks') → Is K H' (.ref q) dF) (hQ : ∀ v H', Sm H H' → Is K H' v dF → Q v H') : spFollow K cs [.ref arr, .ref p, .bl b] H Q E :=
  ⟨arr, p, b, S, k, nm, ks, rfl, A, R, O, kn, hk, tg, fun H' S' no => hQ _ _ S' (n.1 H' no), fun q H' ks' S' _ Rq sd => hQ _ _ S' (n.2 H' q ks' Rq sd)⟩
/-! ### two desks, of two arrays that hold the same -/
structure TD (K : PySem.W.Frag) (cs : Tabs) (H : Hp) (d1 d2 x1 x2 a1 a2 : Addr) (v1 v2 : V) (o1 o2 : Option (Str × List Str × Str)) (S1 S2 : Sh) (k : Nat) (L : List (List Str × Str)) : Prop where
  i1 : H d1 = some (.ins cs.a_Desk x1 (dFs a1 v1))
  i2 : H d2 = some (.ins cs.a_Desk x2 (dFs a2 v2))
  l1 : LastV K H v1 o1
  l2 : LastV K H v2 o2
  duo : Duo cs H a1 a2 S1 S2 k L
  tg : TGs H cs
  dd : d1 ≠ d2
structure TDAp (d1 d2 a1 a2 : Addr) (S1 S2 : Sh) : Prop where
  s11 : ¬ Own S1 d1
  s12 : ¬ Own S1 d2
  s21 : ¬ Own S2 d1
  s22 : ¬ Own S2 d2
  a11 : a1 ≠ d1
  a12 : a1 ≠ d2
  a21 : a2 ≠ d1
  a22 : a2 ≠ d2
  o11 : ¬ Own S1 a1
  o12 : ¬ Own S1 a2
  o21 : ¬ Own S2 a1
  o22 : ¬ Own S2 a2
section
variable {K : PySem.W.Frag} {mg : Str → Option Value} {cs : Tabs} {H H' H1 : Hp} {d1 d2 x1 x2 a1 a2 b q : Addr} {v1 v2 : V} {o1 o2 o' : Option (Str × List Str × Str)} {S1 S2 S1' S2' : Sh} {k m1 n : Nat} {L L' : List (List Str × Str)} {nm : Str} {ks : List Str}
theorem Duo.apA (T : Txt K mg cs) (x : Duo cs H a1 a2 S1 S2 k L) : ¬ Own S1 a1 ∧ ¬ Own S1 a2 ∧ ¬ Own S2 a1 ∧ ¬ Own S2 a2 := by
  obtain ⟨_, _, i1, _⟩ := x.a1.it
  obtain ⟨_, _, i2, _⟩ := x.a2.it
  have ne : cs.a_Arrays ≠ cs.a_Tree := ne_arr T
  have own : ∀ {S : Sh} {m : Nat} {a dx : Addr} {fs : List (Str × V)}, TreeH cs.a_Tree H S m → H a = some (.ins cs.a_Arrays dx fs) → ¬ Own S a := fun {S m a dx fs} T h z => by
    rcases own_what T z with ⟨_, e⟩ | ⟨_, e⟩ | ⟨_, _, e⟩
    · rw [h] at e; cases e
    · rw [h] at e; cases e
    · rw [h] at e
      injection e with e
      injection e with e _ _
      exact ne e
  exact ⟨own x.a1.th i1, own x.a1.th i2, own x.a2.th i1, own x.a2.th i2⟩
theorem TD.ap (T : Txt K mg cs) (x : TD K cs H d1 d2 x1 x2 a1 a2 v1 v2 o1 o2 S1 S2 k L) : TDAp d1 d2 a1 a2 S1 S2 := by
  obtain ⟨p1, p2⟩ := x.duo.a1.desk (ne_desk T) x.i1
  obtain ⟨p3, p4⟩ := x.duo.a1.desk (ne_desk T) x.i2
  obtain ⟨p5, p6⟩ := x.duo.a2.desk (ne_desk T) x.i1
  obtain ⟨p7, p8⟩ := x.duo.a2.desk (ne_desk T) x.i2
  obtain ⟨q1, q2, q3, q4⟩ := x.duo.apA T
  exact ⟨p1, p3, p5, p7, p2, p4, p6, p8, q1, q2, q3, q4⟩
/-- things change elsewhere -/
theorem TD.ch {W : Addr → Prop} (x : TD K cs H d1 d2 x1 x2 a1 a2 v1 v2 o1 o2 S1 S2 k L) (c : Ch W H H') (ht : ∀ a, W a → (∀ vs, H a ≠ some (.tup vs)) ∧ ∀ o u, H a ≠ some (.frz o u)) (hw : ∀ a, W a → ¬ Own S1 a ∧ ¬ Own S2 a ∧ ∀ C dx fs, H a ≠ some (.ins C dx fs)) : TD K cs H' d1 d2 x1 x2 a1 a2 v1 v2 o1 o2 S1 S2 k L := by
  obtain ⟨_, _, ia, _⟩ := x.duo.a1.it
  obtain ⟨_, _, ib, _⟩ := x.duo.a2.it
  exact ⟨c.keep (fun w => (hw _ w).2.2 _ _ _ x.i1) x.i1, c.keep (fun w => (hw _ w).2.2 _ _ _ x.i2) x.i2, x.l1.out c ht, x.l2.out c ht, x.duo.ch c fun a h w => by
    obtain ⟨h1, h2, h3⟩ := hw a w
    rcases h with h | h | h | h
    · exact h1 h
    · exact h2 h
    · exact h3 _ _ _ (h ▸ ia)
    · exact h3 _ _ _ (h ▸ ib), x.tg.ch c, x.dd⟩
theorem TD.sm (x : TD K cs H d1 d2 x1 x2 a1 a2 v1 v2 o1 o2 S1 S2 k L) (s : Sm H H') : TD K cs H' d1 d2 x1 x2 a1 a2 v1 v2 o1 o2 S1 S2 k L := x.ch (W := fun _ => False) (Ch.sm s) (fun _ z => z.elim) fun _ z => z.elim
theorem TD.go {j : Nat} (x : TD K cs H d1 d2 x1 x2 a1 a2 v1 v2 o1 o2 S1 S2 k L) (B : Bag H b n) (G : Go b j H H') : TD K cs H' d1 d2 x1 x2 a1 a2 v1 v2 o1 o2 S1 S2 k L := by
  obtain ⟨n1, n2, n3, _⟩ := bag_not B
  obtain ⟨xs, hb⟩ := B.some
  have nb : ∀ {S : Sh} {m : Nat}, TreeH cs.a_Tree H S m → ¬ Own S b := fun T z => by
    rcases own_what T z with ⟨_, h⟩ | ⟨_, h⟩ | ⟨_, _, h⟩
    · exact n1 _ h
    · exact n2 _ h
    · exact n3 _ _ _ h
  exact x.ch (W := fun a => a = b) (Ch.go G rfl) (fun a e => by
    rw [e, hb]
    exact ⟨fun _ z => (by cases z), fun _ _ z => (by cases z)⟩) fun a e => by
    subst e
    exact ⟨nb x.duo.a1.th, nb x.duo.a2.th, n3⟩
/-- behind a question at the first desk -/
theorem TD.told1 (T : Txt K mg cs) (x : TD K cs H d1 d2 x1 x2 a1 a2 v1 v2 o1 o2 S1 S2 k L) (t : Told K cs H H1 d1 x1 a1 nm ks q) (lv : LastV K H1 (lastOf ks q) o') : TD K cs H1 d1 d2 x1 x2 a1 a2 (lastOf ks q) v2 o' o2 S1 S2 k L := by
  have ap := x.ap T
  exact ⟨t.it, t.ch.keep (Ne.symm x.dd) x.i2, lv, x.l2.out t.ch (ins_out x.i1), x.duo.ch t.ch fun a h e => by
    rcases h with h | h | h | h
    · exact ap.s11 (e ▸ h)
    · exact ap.s21 (e ▸ h)
    · exact ap.a11 (h.symm.trans e)
    · exact ap.a21 (h.symm.trans e), x.tg.ch t.ch, x.dd⟩
theorem TD.told2 (T : Txt K mg cs) (x : TD K cs H d1 d2 x1 x2 a1 a2 v1 v2 o1 o2 S1 S2 k L) (t : Told K cs H H1 d2 x2 a2 nm ks q) (lv : LastV K H1 (lastOf ks q) o') : TD K cs H1 d1 d2 x1 x2 a1 a2 v1 (lastOf ks q) o1 o' S1 S2 k L := by
  have ap := x.ap T
  exact ⟨t.ch.keep x.dd x.i1, t.it, x.l1.out t.ch (ins_out x.i2), lv, x.duo.ch t.ch fun a h e => by
    rcases h with h | h | h | h
    · exact ap.s12 (e ▸ h)
    · exact ap.s22 (e ▸ h)
    · exact ap.a12 (h.symm.trans e)
    · exact ap.a22 (h.symm.trans e), x.tg.ch t.ch, x.dd⟩
theorem TD.asks1 {p : Addr} (x : TD K cs H d1 d2 x1 x2 a1 a2 v1 v2 o1 o2 S1 S2 k L) (m : Means K H p o1 nm ks) (hk : k ≤ 80000) : Asks K cs H d1 x1 p a1 v1 o1 S1 k nm ks := ⟨x.i1, x.l1, m, x.duo.a1, hk, x.tg⟩
theorem TD.asks2 {p : Addr} (x : TD K cs H d1 d2 x1 x2 a1 a2 v1 v2 o1 o2 S1 S2 k L) (m : Means K H p o2 nm ks) (hk : k ≤ 80000) : Asks K cs H d2 x2 p a2 v2 o2 S2 k nm ks := ⟨x.i2, x.l2, m, x.duo.a2, hk, x.tg⟩
end
/-! ### a deed of both desks; of both arrays -/
/-- what a deed or a question of both leaves -/
structure NextT (K : PySem.W.Frag) (cs : Tabs) (H H' : Hp) (d1 d2 x1 x2 a1 a2 : Addr) (S1 S2 S1' S2' : Sh) (k : Nat) (L : List (List Str × Str)) (v1 v2 : V) (o : Option (Str × List Str × Str)) : Prop where
  ch : Ch (fun a => Own S1 a ∨ Own S2 a ∨ a = d1 ∨ a = d2) H H'
  w1 : ∀ a, Own S1' a → Own S1 a ∨ H a = none
  w2 : ∀ a, Own S2' a → Own S2 a ∨ H a = none
  td : TD K cs H' d1 d2 x1 x2 a1 a2 v1 v2 o o S1' S2' k L
section
variable {K : PySem.W.Frag} {mg : Str → Option Value} {cs : Tabs} {H H' H1 H2 : Hp} {d1 d2 x1 x2 a1 a2 q r : Addr} {v1 v2 v1' v2' : V} {o o1 o2 o' : Option (Str × List Str × Str)} {S1 S2 S1' S2' : Sh} {k m1 : Nat} {L L' : List (List Str × Str)} {nm : Str} {ks : List Str}
theorem NextT.sm (n : NextT K cs H H1 d1 d2 x1 x2 a1 a2 S1 S2 S1' S2' k L v1 v2 o) (s : Sm H1 H2) : NextT K cs H H2 d1 d2 x1 x2 a1 a2 S1 S2 S1' S2' k L v1 v2 o := ⟨n.ch.trans (Ch.sm s), n.w1, n.w2, n.td.sm s⟩
/-- a deed of the first desk, then of the second one -/
theorem TD.done (T : Txt K mg cs) (x : TD K cs H d1 d2 x1 x2 a1 a2 v1 v2 o1 o2 S1 S2 k L) (t : Done K cs H H1 d1 x1 a1 S1 S1' m1 nm ks q) (hm : m1 ≤ k + 7) (u : Done K cs H1 H2 d2 x2 a2 S2 S2' m1 nm ks r) (w : S1'.W = S2'.W) (C : Cont S1' L') (ok : ∀ y ∈ L', ∃ n0 k0, y.1 = n0 :: k0 ∧ REF n0 k0 ∧ WT y.2 400)
    (lv : ∀ (H : Hp) (q : Addr), RefAt K H q nm ks → LastV K H (lastOf ks q) o') : NextT K cs H H2 d1 d2 x1 x2 a1 a2 S1 S2 S1' S2' (k + 7) L' (lastOf ks q) (lastOf ks r) o' := by
  have ap := x.ap T
  have there2 : ∀ a, Own S2 a → H a ≠ none := fun a h z => by
    obtain ⟨_, e, _⟩ := own_there x.duo.a2.th h
    rw [z] at e
    cases e
  have s12 : ∀ a, Own S1' a → ¬ Own S2 a := fun a h z => (t.own a h).elim (fun h => x.duo.dis a h z) fun e => there2 a z e
  have hd1 : H d1 ≠ none := fun e => by rw [x.i1] at e; cases e
  have hd2 : H d2 ≠ none := fun e => by rw [x.i2] at e; cases e
  have a1n : H a1 ≠ none := fun e => by
    obtain ⟨_, _, i, _⟩ := x.duo.a1.it
    rw [i] at e
    cases e
  have d2H1 : H1 d2 = some (.ins cs.a_Desk x2 (dFs a2 v2)) := t.ch.keep (fun z => z.elim ap.s12 fun z => x.dd z.symm) x.i2
  have A2H1 : ArrAt cs H1 a2 S2 k := x.duo.a2.ch t.ch fun a h z => by
    rcases h with h | h <;> rcases z with z | z
    · exact x.duo.dis a z h
    · exact ap.s21 (z ▸ h)
    · exact ap.o12 (h ▸ z)
    · exact ap.a21 (h.symm.trans z)
  have out2 : ∀ a, Own S2 a ∨ a = d2 → (∀ vs, H1 a ≠ some (.tup vs)) ∧ ∀ o u, H1 a ≠ some (.frz o u) := fun a h => h.elim (own_out A2H1.th a) (ins_out d2H1 a)
  have A1 : ArrAt cs H2 a1 S1' m1 := t.ar.ch u.ch fun a h z => by
    rcases h with h | h <;> rcases z with z | z
    · exact s12 a h z
    · exact (t.own a h).elim (fun h => ap.s12 (z ▸ h)) fun e => hd2 (z ▸ e)
    · exact ap.o21 (h ▸ z)
    · exact ap.a12 (h.symm.trans z)
  have there1 : ∀ a, Own S1' a → H1 a ≠ none := fun a h z => by
    obtain ⟨_, e, _⟩ := own_there t.ar.th h
    rw [z] at e
    cases e
  refine ⟨(t.ch.mono fun a h => h.elim .inl fun h => .inr (.inr (.inl h))).trans (u.ch.mono fun a h => h.elim (fun h => .inr (.inl h)) fun h => .inr (.inr (.inr h))), t.own, fun a h => (u.own a h).imp id (t.ch.gone a), ⟨u.ch.keep (fun z => z.elim ap.s21 x.dd) t.it, u.it, lv _ _ (t.rf.out u.ch out2), lv _ _ u.rf, ⟨A1.mono hm, u.ar.mono hm, w, C, ok, fun a h z => ?_, x.duo.ne⟩, (x.tg.ch t.ch).ch u.ch, x.dd⟩⟩
  rcases u.own a z with z | z
  · exact s12 a h z
  · exact there1 a h z
end
/-! ### a deed of both arrays -/
structure NextA (cs : Tabs) (H H' : Hp) (a1 a2 : Addr) (S1 S2 S1' S2' : Sh) (k : Nat) (L : List (List Str × Str)) : Prop where
  ch : Ch (fun a => Own S1 a ∨ Own S2 a) H H'
  w1 : ∀ a, Own S1' a → Own S1 a ∨ H a = none
  w2 : ∀ a, Own S2' a → Own S2 a ∨ H a = none
  duo : Duo cs H' a1 a2 S1' S2' k L
section
variable {K : PySem.W.Frag} {mg : Str → Option Value} {cs : Tabs} {H H' H1 H2 : Hp} {a1 a2 : Addr} {S1 S2 S1' S2' : Sh} {k m1 : Nat} {L L' : List (List Str × Str)}
theorem NextA.sm (n : NextA cs H H1 a1 a2 S1 S2 S1' S2' k L) (s : Sm H1 H2) : NextA cs H H2 a1 a2 S1 S2 S1' S2' k L := ⟨n.ch.trans (Ch.sm s), n.w1, n.w2, n.duo.sm s⟩
theorem Duo.same (x : Duo cs H a1 a2 S1 S2 k L) (s : Sm H H1) : NextA cs H H1 a1 a2 S1 S2 S1 S2 (k + 7) L := by
  have x1 := x.sm s
  exact ⟨Ch.sm s, fun _ h => .inl h, fun _ h => .inl h, ⟨x1.a1.mono (by omega), x1.a2.mono (by omega), x1.w, x1.co, x1.ok, x1.dis, x1.ne⟩⟩
/-- what the second array is, behind a deed of the first one -/
theorem Duo.after (T : Txt K mg cs) (x : Duo cs H a1 a2 S1 S2 k L) (t : Went S1 S1' H H1) : ArrAt cs H1 a2 S2 k := by
  obtain ⟨_, o12, _, _⟩ := x.apA T
  exact x.a2.ch t.ch fun a h z => h.elim (fun h => x.dis a z h) fun h => o12 (h ▸ z)
theorem Duo.both (T : Txt K mg cs) (x : Duo cs H a1 a2 S1 S2 k L) (A1 : ArrAt cs H1 a1 S1' m1) (t : Went S1 S1' H H1) (hm : m1 ≤ k + 7) (A2 : ArrAt cs H2 a2 S2' m1) (u : Went S2 S2' H1 H2) (w : S1'.W = S2'.W) (C : Cont S1' L') (ok : ∀ y ∈ L', ∃ n0 k0, y.1 = n0 :: k0 ∧ REF n0 k0 ∧ WT y.2 400) :
    NextA cs H H2 a1 a2 S1 S2 S1' S2' (k + 7) L' := by
  obtain ⟨o11, o12, o21, o22⟩ := x.apA T
  have there2 : ∀ a, Own S2 a → H a ≠ none := fun a h z => by
    obtain ⟨_, e, _⟩ := own_there x.a2.th h
    rw [z] at e
    cases e
  have there1 : ∀ a, Own S1' a → H1 a ≠ none := fun a h z => by
    obtain ⟨_, e, _⟩ := own_there A1.th h
    rw [z] at e
    cases e
  have s12 : ∀ a, Own S1' a → ¬ Own S2 a := fun a h z => (t.own a h).elim (fun h => x.dis a h z) fun e => there2 a z e
  have A1' : ArrAt cs H2 a1 S1' m1 := A1.ch u.ch fun a h z => h.elim (fun h => s12 a h z) fun h => o21 (h ▸ z)
  refine ⟨(t.ch.mono fun a h => .inl h).trans (u.ch.mono fun a h => .inr h), t.own, fun a h => (u.own a h).imp id (t.ch.gone a), ⟨A1'.mono hm, A2.mono hm, w, C, ok, fun a h z => ?_, x.ne⟩⟩
  rcases u.own a z with z | z
  · exact s12 a h z
  · exact there1 a h z
end
def spDeedA (K : PySem.W.Frag) (cs : Tabs) : Sp := fun vs H Q _ => ∃ (b a1 a2 p : Addr) (own : Str) (n : Nat) (S1 S2 : Sh) (k : Nat) (L : List (List Str × Str)) (nm : Str) (ks : List Str), vs = [.ref b, .ref a1, .ref a2, .ref p, .str own] ∧ Bag H b n ∧ n + 100 ≤ LIM ∧ Duo cs H a1 a2 S1 S2 k L ∧ RefAt K H p nm ks ∧ REF nm ks ∧ WT own 400 ∧ k ≤ 70000 ∧ L.length ≤ 800 ∧ TGs H cs ∧
  ∀ S1' S2' L' H1 H', Go b 1 H H1 → NextA cs H1 H' a1 a2 S1 S2 S1' S2' (k + 7) L' → L'.length ≤ L.length + 1 → Q (.bl true) H'
/-! ### a place as a desk takes it; deeds and questions of both desks, one after the other -/
def Mt (o : Option (Str × List Str × Str)) (pn : Str) (ps : List Str) (nm : Str) (ks : List Str) : Prop := (pn = nm ∧ ps = ks) ∨ ∃ h z, o = some (nm, h, z) ∧ pn = "" ∧ ps ≠ [] ∧ ks = h ++ ps
theorem Mt.means {K : PySem.W.Frag} {H : Hp} {p : Addr} {o : Option (Str × List Str × Str)} {pn : Str} {ps : List Str} {nm : Str} {ks : List Str} (M : Mt o pn ps nm ks) (R : RefAt K H p pn ps) : Means K H p o nm ks := by
  rcases M with ⟨rfl, rfl⟩ | ⟨h, z, e, rfl, ne, ek⟩
  · exact .inl R
  · exact .inr ⟨h, z, ps, e, R, ne, ek⟩
theorem ref_last {nm : Str} {ks : List Str} (O : REF nm ks) (ne : ks ≠ []) : ∃ h z, ks = h ++ [z] ∧ ASK nm h z := by
  obtain ⟨h, z, rfl⟩ : ∃ h z, ks = h ++ [z] := ⟨_, _, (List.dropLast_concat_getLast ne).symm⟩
  have le := O.le
  rw [List.length_append, List.length_singleton] at le
  exact ⟨h, z, rfl, O.nm, by omega, fun y hy => O.ks y (List.mem_append_left _ hy), (O.ks z (by simp)).wt⟩
theorem last_at {K : PySem.W.Frag} {H : Hp} {q : Addr} {nm : Str} {h : List Str} {z : Str} (A : ASK nm h z) (R : RefAt K H q nm (h ++ [z])) : LastV K H (lastOf (h ++ [z]) q) (some (nm, h, z)) := ⟨A, q, by unfold lastOf; rw [if_neg (by simp)], R⟩
mutual
/-- instances alone change -/
theorem Th.inss {K : PySem.W.Frag} {av W : Addr → Prop} {n : Nat} {H H' : Hp} (c : Ch W H H') (w : ∀ a, W a → ∃ C dx fs, H a = some (.ins C dx fs)) : ∀ {v : V} {d : D}, Th K av n H v d → Th K av n H' v d
  | _, _, .non => .non
  | _, _, .bl b => .bl b
  | _, _, .int i h => .int i h
  | _, _, .str z h1 h2 => .str z h1 h2
  | _, _, .lst h1 h2 h3 h4 => .lst (c.keep (fun z => by
      obtain ⟨_, _, _, e⟩ := w _ z
      rw [h1] at e
      cases e) h1) h2 h3 (ThAll.inss c w h4)
  | _, _, .tup h1 h2 h3 => .tup (sqT_out c (fun a z => by
      obtain ⟨_, _, _, e⟩ := w a z
      exact ins_out e a rfl) h1) h2 (ThAll.inss c w h3)
  | _, _, .dic h => .dic (c.keep0 _ _ (fun z => by
      obtain ⟨_, _, _, e⟩ := w _ z
      rw [h] at e
      cases e) h rfl)
theorem ThAll.inss {K : PySem.W.Frag} {av W : Addr → Prop} {n : Nat} {H H' : Hp} (c : Ch W H H') (w : ∀ a, W a → ∃ C dx fs, H a = some (.ins C dx fs)) : ∀ {vs : List V} {ds : List D}, ThAll K av n H vs ds → ThAll K av n H' vs ds
  | _, _, .nil => .nil
  | _, _, .cons h t => .cons (Th.inss c w h) (ThAll.inss c w t)
end
section
variable {K : PySem.W.Frag} {mg : Str → Option Value} {cs : Tabs} {H H' H1 H2 : Hp} {d1 d2 x1 x2 a1 a2 b q r p : Addr} {v1 v2 : V} {o o1 o2 o' : Option (Str × List Str × Str)} {S1 S2 S1' S2' : Sh} {k m1 n : Nat} {L L' : List (List Str × Str)} {nm : Str} {ks : List Str}
/-- the second desk is asked, behind a deed of the first one -/
theorem TD.after (T : Txt K mg cs) (x : TD K cs H d1 d2 x1 x2 a1 a2 v1 v2 o1 o2 S1 S2 k L) (t : Done K cs H H1 d1 x1 a1 S1 S1' m1 nm ks q) (m : Means K H p o2 nm ks) (hk : k ≤ 80000) : Asks K cs H1 d2 x2 p a2 v2 o2 S2 k nm ks := by
  have ap := x.ap T
  have out : ∀ a, Own S1 a ∨ a = d1 → (∀ vs, H a ≠ some (.tup vs)) ∧ ∀ o u, H a ≠ some (.frz o u) := fun a h => h.elim (own_out x.duo.a1.th a) (ins_out x.i1 a)
  exact ⟨t.ch.keep (fun z => z.elim ap.s12 fun z => x.dd z.symm) x.i2, x.l2.out t.ch out, m.out t.ch out, x.duo.a2.ch t.ch fun a h z => by
    rcases h with h | h <;> rcases z with z | z
    · exact x.duo.dis a z h
    · exact ap.s21 (z ▸ h)
    · exact ap.o12 (h ▸ z)
    · exact ap.a21 (h.symm.trans z), hk, x.tg.ch t.ch⟩
/-- .. behind a question at the first one -/
theorem TD.mid (T : Txt K mg cs) (x : TD K cs H d1 d2 x1 x2 a1 a2 v1 v2 o1 o2 S1 S2 k L) (t : Told K cs H H1 d1 x1 a1 nm ks q) (lv : ∀ (H : Hp) (q : Addr), RefAt K H q nm ks → LastV K H (lastOf ks q) o') (m : Means K H p o2 nm ks) (hk : k ≤ 80000) : Asks K cs H1 d2 x2 p a2 v2 o2 S2 k nm ks :=
  (x.told1 T t (lv _ _ t.rf)).asks2 (m.out t.ch (ins_out x.i1)) hk
/-- both desks were asked the same -/
theorem TD.told (T : Txt K mg cs) (x : TD K cs H d1 d2 x1 x2 a1 a2 v1 v2 o1 o2 S1 S2 k L) (t : Told K cs H H1 d1 x1 a1 nm ks q) (u : Told K cs H1 H2 d2 x2 a2 nm ks r) (lv : ∀ (H : Hp) (q : Addr), RefAt K H q nm ks → LastV K H (lastOf ks q) o') :
    TD K cs H2 d1 d2 x1 x2 a1 a2 (lastOf ks q) (lastOf ks r) o' o' S1 S2 k L ∧ Ch (fun a => a = d1 ∨ a = d2) H H2 ∧ ∀ a, a = d1 ∨ a = d2 → ∃ C dx fs, H a = some (.ins C dx fs) := by
  refine ⟨(x.told1 T t (lv _ _ t.rf)).told2 T u (lv _ _ u.rf), (t.ch.mono fun a h => .inl h).trans (u.ch.mono fun a h => .inr h), fun a h => ?_⟩
  rcases h with rfl | rfl
  · exact ⟨_, _, _, x.i1⟩
  · exact ⟨_, _, _, x.i2⟩
theorem inss_out {W : Addr → Prop} (h : ∀ a, W a → ∃ C dx fs, H a = some (.ins C dx fs)) : ∀ a, W a → (∀ vs, H a ≠ some (.tup vs)) ∧ ∀ o u, H a ≠ some (.frz o u) := fun a w => by
  obtain ⟨_, _, _, e⟩ := h a w
  exact ins_out e a rfl
theorem inss_lst {W : Addr → Prop} {F : Addr} {vs : List V} (c : Ch W H H') (h : ∀ a, W a → ∃ C dx fs, H a = some (.ins C dx fs)) (e : H F = some (.lst vs)) : H' F = some (.lst vs) := c.keep (fun w => by
  obtain ⟨_, _, _, z⟩ := h F w
  rw [e] at z
  cases z) e
theorem TD.asked {u1 u2 : V} (x : TD K cs H d1 d2 x1 x2 a1 a2 v1 v2 o1 o2 S1 S2 k L) (c : Ch (fun a => a = d1 ∨ a = d2) H H') (y : TD K cs H' d1 d2 x1 x2 a1 a2 u1 u2 o o S1 S2 k L) : NextT K cs H H' d1 d2 x1 x2 a1 a2 S1 S2 S1 S2 (k + 7) L u1 u2 o :=
  ⟨c.mono fun a h => .inr (.inr h), fun _ h => .inl h, fun _ h => .inl h, ⟨y.i1, y.i2, y.l1, y.l2, ⟨y.duo.a1.mono (by omega), y.duo.a2.mono (by omega), y.duo.w, y.duo.co, y.duo.ok, y.duo.dis, y.duo.ne⟩, y.tg, y.dd⟩⟩
theorem dfollow_at {d dx p arr : Addr} {v : V} {S : Sh} {b : Bool} {dF : D} {Q : VK} {E : XK} (A : Asks K cs H d dx p arr v o S k nm ks) (O : REF nm ks) (kn : KeyNe S) (n : (∀ H', NoSide b S (nm :: ks) → Is K H' .non dF) ∧ ∀ H' q ks', RefT H' q nm ks' → Side b S (nm :: ks) (nm :: ks') → Is K H' (.ref q) dF)
    (hQ : ∀ v q H', Told K cs H H' d dx arr nm ks q → Is K H' v dF → Q v H') : spDFollow K cs [.ref d, .ref p, .bl b] H Q E :=
  ⟨d, dx, p, arr, b, v, o, S, k, nm, ks, rfl, A, O, kn, fun q H' t no => hQ _ q _ t (n.1 H' no), fun q r H' ks' t Rr sd => hQ _ q _ t (n.2 H' r ks' Rr sd)⟩
theorem TD.nb (x : TD K cs H d1 d2 x1 x2 a1 a2 v1 v2 o1 o2 S1 S2 k L) (B : Bag H b n) : ¬ Own S1 b ∧ ¬ Own S2 b ∧ b ≠ d1 ∧ b ≠ d2 := by
  obtain ⟨n1, n2, n3, _⟩ := bag_not B
  have nb : ∀ {S : Sh} {m : Nat}, TreeH cs.a_Tree H S m → ¬ Own S b := fun T z => by
    rcases own_what T z with ⟨_, h⟩ | ⟨_, h⟩ | ⟨_, _, h⟩
    · exact n1 _ h
    · exact n2 _ h
    · exact n3 _ _ _ h
  exact ⟨nb x.duo.a1.th, nb x.duo.a2.th, fun e => n3 _ _ _ (e ▸ x.i1), fun e => n3 _ _ _ (e ▸ x.i2)⟩
end
theorem bagCh {W : Addr → Prop} {H H' : Hp} {b : Addr} {n : Nat} (B : Bag H b n) (c : Ch W H H') (w : ¬ W b) : Bag H' b n := by
  obtain ⟨x, y, z, h, r⟩ := B
  exact ⟨x, y, z, c.keep0 _ _ w h rfl, r⟩
/-- a place as a desk takes it in a deed: what it means then, and in each of the questions -/
structure PlD (o : Option (Str × List Str × Str)) (pn : Str) (ps : List Str) (nm : Str) (ks m1 m2 m3 : List Str) : Prop where
  m0 : Mt o pn ps nm ks
  q1 : Mt o pn (ps.take 5 ++ [("" : Str)]) nm (m1 ++ [("" : Str)])
  q2 : Mt (some (nm, m1, "")) pn (ps.take 5 ++ [("" : Str)]) nm (m2 ++ [("" : Str)])
  q3 : Mt (some (nm, m2, "")) pn ps nm m3
  a1 : ASK nm m1 ("" : Str)
  a2 : ASK nm m2 ("" : Str)
  o0 : REF nm ks
  o3 : REF nm m3
  n0 : ks ≠ []
  n3 : m3 ≠ []
def spDeedD (K : PySem.W.Frag) (cs : Tabs) : Sp := fun vs H Q _ => ∃ (b d1 d2 x1 x2 a1 a2 p : Addr) (own : Str) (n : Nat) (v1 v2 : V) (o : Option (Str × List Str × Str)) (S1 S2 : Sh) (k : Nat) (L : List (List Str × Str)) (pn : Str) (ps : List Str) (nm : Str) (ks m1 m2 m3 : List Str), vs = [.ref b, .ref d1, .ref d2, .ref p, .str own] ∧ Bag H b n ∧ n + 100 ≤ LIM ∧
  TD K cs H d1 d2 x1 x2 a1 a2 v1 v2 o o S1 S2 k L ∧ RefAt K H p pn ps ∧ PlD o pn ps nm ks m1 m2 m3 ∧ WT own 400 ∧ k ≤ 70000 ∧ L.length ≤ 800 ∧
  ∀ S1' S2' L' w1 w2 o' H1 H', Go b 1 H H1 → NextT K cs H1 H' d1 d2 x1 x2 a1 a2 S1 S2 S1' S2' (k + 7) L' w1 w2 o' → L'.length ≤ L.length + 1 → o' ≠ none → Q (.bl true) H'
/-- a reference in full -/
theorem PlD.full {o : Option (Str × List Str × Str)} {nm : Str} {ks : List Str} (O : REF nm ks) (ne : ks ≠ []) : PlD o nm ks nm ks (ks.take 5) (ks.take 5) ks := by
  have A : ASK nm (ks.take 5) ("" : Str) := ⟨O.nm, List.length_take_le _ _, fun y hy => O.ks y (List.mem_of_mem_take hy), WT.dec (by decide +kernel)⟩
  exact ⟨.inl ⟨rfl, rfl⟩, .inl ⟨rfl, rfl⟩, .inl ⟨rfl, rfl⟩, .inl ⟨rfl, rfl⟩, A, A, O, O, ne, ne⟩
/-- one key behind a head of three keys at most -/
theorem PlD.short {nm : Str} {h : List Str} {z key : Str} (N : NM nm) (le : h.length ≤ 3) (kh : ∀ y ∈ h, KEY y) (hk : KEY key) : PlD (some (nm, h, z)) "" [key] nm (h ++ [key]) (h ++ [key]) (h ++ [key] ++ [key]) (h ++ [key] ++ [key] ++ [key]) := by
  have kk : ∀ {l : List Str}, (∀ y ∈ l, KEY y) → ∀ y ∈ l ++ [key], KEY y := fun {l} h y hy => (List.mem_append.mp hy).elim (h y) fun hy => by rw [List.mem_singleton.mp hy]; exact hk
  have we : WT ("" : Str) 40 := WT.dec (by decide +kernel)
  refine ⟨.inr ⟨h, z, rfl, rfl, by simp, rfl⟩, .inr ⟨h, z, rfl, rfl, by simp, by simp⟩, .inr ⟨h ++ [key], "", rfl, rfl, by simp, by simp⟩, .inr ⟨h ++ [key] ++ [key], "", rfl, rfl, by simp, rfl⟩, ⟨N, by rw [List.length_append, List.length_singleton]; omega, kk kh, we⟩, ⟨N, by simp only [List.length_append, List.length_singleton]; omega, kk (kk kh), we⟩,
    ⟨N, by rw [List.length_append, List.length_singleton]; omega, kk kh⟩, ⟨N, by simp only [List.length_append, List.length_singleton]; omega, kk (kk (kk kh))⟩, by simp, by simp⟩
/-! ### k13's law: what stands -/
structure SitT (K : PySem.W.Frag) (cs : Tabs) (H : Hp) (p AS DS d1 d2 x1 x2 a1 a2 : Addr) (ns ks : List Str) (v1 v2 : V) (o : Option (Str × List Str × Str)) (S1 S2 : Sh) (k : Nat) (L : List (List Str × Str)) : Prop where
  pool : PoolAt H p ns ks
  as : H AS = some (.lst [.ref a1, .ref a2])
  ds : H DS = some (.lst [.ref d1, .ref d2])
  td : TD K cs H d1 d2 x1 x2 a1 a2 v1 v2 o o S1 S2 k L
  po : ∀ a, PoolOwn H p a → ¬ Own S1 a ∧ ¬ Own S2 a
theorem refs_no {H : Hp} {A x y : Addr} (h : H A = some (.lst [.ref x, .ref y])) (zs : List Str) : H A ≠ some (.lst (zs.map V.str)) := fun e => by
  rw [h] at e
  injection e with e
  injection e with e
  cases zs with
  | nil => cases e
  | cons z r =>
    rw [List.map_cons] at e
    injection e with e _
    cases e
theorem refs_own {C : Addr} {H : Hp} {S : Sh} {m : Nat} {A x y : Addr} (T : TreeH C H S m) (h : H A = some (.lst [.ref x, .ref y])) : ¬ Own S A := fun z => by
  rcases own_what T z with ⟨_, e⟩ | ⟨_, e⟩ | ⟨_, _, e⟩
  · exact refs_no h _ e
  · rw [h] at e
    cases e
  · rw [h] at e
    cases e
section
variable {K : PySem.W.Frag} {mg : Str → Option Value} {cs : Tabs} {H H' H1 : Hp} {b p AS DS d1 d2 x1 x2 a1 a2 : Addr} {ns ks : List Str} {v1 v2 u1 u2 : V} {o o' : Option (Str × List Str × Str)} {S1 S2 S1' S2' : Sh} {k k' n : Nat} {L L' : List (List Str × Str)}
theorem SitT.bag (s : SitT K cs H p AS DS d1 d2 x1 x2 a1 a2 ns ks v1 v2 o S1 S2 k L) (B : Bag H b n) : b ≠ AS ∧ b ≠ DS ∧ ¬ PoolOwn H p b := by
  obtain ⟨n1, n2, n3, n4, n5, n6⟩ := bag_not B
  obtain ⟨xs, hb⟩ := B.some
  refine ⟨?_, ?_, fun z => ?_⟩
  · rintro rfl
    exact n4 _ _ s.as
  · rintro rfl
    exact n4 _ _ s.ds
  · rcases s.pool.some z with ⟨_, e⟩ | ⟨_, e⟩
    · exact n1 _ e
    · rw [hb] at e
      cases e
/-- things change at the trees, the desks, the bag -/
theorem SitT.next {W : Addr → Prop} (s : SitT K cs H p AS DS d1 d2 x1 x2 a1 a2 ns ks v1 v2 o S1 S2 k L) (B : Bag H b n) (c : Ch W H H') (hw : ∀ a, W a → Own S1 a ∨ Own S2 a ∨ a = d1 ∨ a = d2 ∨ a = b) (w1 : ∀ a, Own S1' a → Own S1 a ∨ H a = none) (w2 : ∀ a, Own S2' a → Own S2 a ∨ H a = none)
    (td : TD K cs H' d1 d2 x1 x2 a1 a2 u1 u2 o' o' S1' S2' k' L') : SitT K cs H' p AS DS d1 d2 x1 x2 a1 a2 ns ks u1 u2 o' S1' S2' k' L' := by
  obtain ⟨b1, b2, b3⟩ := s.bag B
  have lst : ∀ {A x y : Addr}, H A = some (.lst [.ref x, .ref y]) → b ≠ A → ¬ W A := fun {A x y} h nb z => by
    rcases hw A z with z | z | z | z | z
    · exact refs_own s.td.duo.a1.th h z
    · exact refs_own s.td.duo.a2.th h z
    · rw [z, s.td.i1] at h
      cases h
    · rw [z, s.td.i2] at h
      cases h
    · exact nb z.symm
  have np : ∀ a, PoolOwn H p a → ¬ W a := fun a h z => by
    rcases hw a z with z | z | z | z | z
    · exact (s.po a h).1 z
    · exact (s.po a h).2 z
    · rcases s.pool.some h with ⟨_, e⟩ | ⟨_, e⟩ <;> (rw [z, s.td.i1] at e; cases e)
    · rcases s.pool.some h with ⟨_, e⟩ | ⟨_, e⟩ <;> (rw [z, s.td.i2] at e; cases e)
    · exact b3 (z ▸ h)
  refine ⟨s.pool.keep fun a o h e nt => c.keep0 a o (np a h) e nt, c.keep (lst s.as b1) s.as, c.keep (lst s.ds b2) s.ds, td, fun a h => ?_⟩
  have h0 := pool_own s.pool (fun o e nt => c.keep0 _ _ (np p (.inl rfl)) e nt) h
  have there : H a ≠ none := fun e => by rcases s.pool.some h0 with ⟨_, g⟩ | ⟨_, g⟩ <;> (rw [e] at g; cases g)
  exact ⟨fun z => (w1 a z).elim (s.po a h0).1 there, fun z => (w2 a z).elim (s.po a h0).2 there⟩
theorem SitT.sm (s : SitT K cs H p AS DS d1 d2 x1 x2 a1 a2 ns ks v1 v2 o S1 S2 k L) (m : Sm H H') : SitT K cs H' p AS DS d1 d2 x1 x2 a1 a2 ns ks v1 v2 o S1 S2 k L := by
  refine ⟨s.pool.sm m, m _ _ s.as, m _ _ s.ds, s.td.sm m, fun a h => s.po a (pool_own s.pool (fun o e nt => m.keep _ _ e nt) h)⟩
theorem SitT.go {j : Nat} (s : SitT K cs H p AS DS d1 d2 x1 x2 a1 a2 ns ks v1 v2 o S1 S2 k L) (B : Bag H b n) (G : Go b j H H') : SitT K cs H' p AS DS d1 d2 x1 x2 a1 a2 ns ks v1 v2 o S1 S2 k L :=
  s.next B (Ch.go (W := fun a => a = b) G rfl) (fun a h => .inr (.inr (.inr (.inr h)))) (fun _ h => .inl h) (fun _ h => .inl h) (s.td.go B G)
/-- behind a deed of both arrays -/
theorem TD.nextA (T : Txt K mg cs) (x : TD K cs H d1 d2 x1 x2 a1 a2 v1 v2 o o S1 S2 k L) (n : NextA cs H H' a1 a2 S1 S2 S1' S2' k' L') : TD K cs H' d1 d2 x1 x2 a1 a2 v1 v2 o o S1' S2' k' L' := by
  have ap := x.ap T
  have out : ∀ a, Own S1 a ∨ Own S2 a → (∀ vs, H a ≠ some (.tup vs)) ∧ ∀ o u, H a ≠ some (.frz o u) := fun a h => h.elim (own_out x.duo.a1.th a) (own_out x.duo.a2.th a)
  exact ⟨n.ch.keep (fun z => z.elim ap.s11 ap.s21) x.i1, n.ch.keep (fun z => z.elim ap.s12 ap.s22) x.i2, x.l1.out n.ch out, x.l2.out n.ch out, n.duo, x.tg.ch n.ch, x.dd⟩
/-- the script stands apart -/
def ScrT (K : PySem.W.Frag) (H : Hp) (a : Addr) (xs : List Int) (S1 S2 : Sh) : Prop := (L2.Rd H a (.lst (xs.map V.int)) ∧ ¬ Own S1 a ∧ ¬ Own S2 a) ∨ ∀ H', SqL K H' a (xs.map V.int)
variable {a : Addr} {xs : List Int}
theorem ScrT.seq (s : ScrT K H a xs S1 S2) : SqL K H a (xs.map V.int) := s.elim (fun h => .inl h.1) fun h => h H
theorem ScrT.sm (s : ScrT K H a xs S1 S2) (m : Sm H H') : ScrT K H' a xs S1 S2 := s.imp (fun h => ⟨rd_ch (Ch.sm (W := fun _ => False) m) rfl h.1 id, h.2⟩) id
theorem ScrT.next {W : Addr → Prop} {C1 C2 y1 y2 : Addr} {f1 f2 : List (Str × V)} (s : ScrT K H a xs S1 S2) (i1 : H d1 = some (.ins C1 y1 f1)) (i2 : H d2 = some (.ins C2 y2 f2)) (c : Ch W H H') (hw : ∀ a, W a → Own S1 a ∨ Own S2 a ∨ a = d1 ∨ a = d2 ∨ a = b) (ab : a ≠ b ∨ ∀ H', SqL K H' a (xs.map V.int)) (w1 : ∀ a, Own S1' a → Own S1 a ∨ H a = none) (w2 : ∀ a, Own S2' a → Own S2 a ∨ H a = none) :
    ScrT K H' a xs S1' S2' := by
  rcases ab with ab | ab
  rotate_left
  · exact .inr ab
  refine s.imp (fun h => ?_) id
  obtain ⟨r, n1, n2⟩ := h
  refine ⟨rd_ch c rfl r fun z => ?_, fun z => (w1 a z).elim n1 (rd_some r), fun z => (w2 a z).elim n2 (rd_some r)⟩
  rcases hw a z with z | z | z | z | z
  · exact n1 z
  · exact n2 z
  · rcases r with h | ⟨ob, h⟩ <;> (rw [z, i1] at h; cases h)
  · rcases r with h | ⟨ob, h⟩ <;> (rw [z, i2] at h; cases h)
  · exact ab z
end
/-! ### a method of one of two classes -/
section
variable {X : Cx}
theorem pe_eith {e : Expr} {t1 t2 : TE} (h1 : PE X e t1) (h2 : PE X e t2) : PE X e (fun σ H Q => t1 σ H Q ∨ t2 σ H Q) := ⟨fun pins s σ H Q I h => h.elim (h1.run pins s σ H Q I) (h2.run pins s σ H Q I)⟩
end
/-! ### where an exception is handled: tuples taken apart, lists walked, list comprehensions -/
section
open PyProof.Rows HotX
variable {prog : Program} {w : World} {A : Around} {E : Value → Shared → Prop} {s : Shared}
theorem list_end_hot {it l x1 : Addr} {i : Nat} {items : Array Value} {Q : Option Value → Shared → Prop} (hot : HotAt A x1 s.heap) (ne : x1 ≠ it) (hit : s.heap.IsListIter it l i) (hl : s.heap.IsList l items) (hx : items[i]? = none)
    (hQ : ∀ h', Heap.ExtBut it s.heap h' → Q none { s with heap := h' }) : wpAny (model prog w) A (pyNext (.ref it)) Q E s := by
  obtain ⟨o, ho, hc, hd⟩ := id hit
  obtain ⟨ol, hol, _, nl, hdl⟩ := hl
  obtain ⟨hh, o1, vs1, h1, d1, c1⟩ := hot
  unfold pyNext
  refine wpAny_bind (wpAny_attempt (wpAny_callSpecial?_slot (name := Str.ofString "__next__") hit.typeIs slot_listiter_next (wpAny_call_entry slot_listiter_next hit.typeIs entry_listiter_next ?_ (args_listiter_next _))))
  show wpAny _ _ (field (.ref it) 0 >>= _) _ _ s
  refine wpAny_bind (wpAny_field ho hd (x := .ref l) rfl ?_)
  show wpAny _ _ (if (Value.ref l == Value.none) = true then _ else _) _ _ s
  rw [if_neg (show ¬ ((Value.ref l == Value.none) = true) from Bool.false_ne_true)]
  show wpAny _ _ (field (.ref it) 1 >>= _) _ _ s
  refine wpAny_bind (wpAny_field ho hd (x := .int i 0) rfl ?_)
  show wpAny _ _ (seqItems? (.ref l) >>= _) _ _ s
  refine wpAny_bind (wpAny_seqItems hol hdl ?_)
  simp only [Int.toNat_natCast, hx]
  refine wpAny_bind (wpAny_rule (wpAny_bind (wpAny_setField ho hd (by simp) ?_)))
  have sb : Heap.SameBut it s.heap (s.heap.update it (Obj.mapFields (·.setIfInBounds 0 Value.none))) := Heap.SameBut.update ..
  have h2 := (sb.2 x1 ne).trans h1
  show wpAny _ _ (newExc (.type "StopIteration") [] >>= _) _ _ _
  refine wpAny_bind ?_
  simp only [newExc, newTuple]
  refine wpAny_bind (wpAny_newObj_type ?_ (by size_fits))
  refine wpAny_bind (m := firstArgMember _ _) (wpAny_of_eq (a := Value.none) (by first | rfl | (simp only [firstArgMember]; rfl)) ?_)
  refine wpAny_newObj_type ?_ (by size_fits)
  refine raiseNew_hot ⟨hh, o1, vs1, Heap.get?_push_of_some _ (Heap.get?_push_of_some _ h2), d1, c1⟩ (Nat.ne_of_lt (Heap.lt_size (Heap.get?_push_of_some _ h2))) (Heap.get?_push_size _ rfl) rfl (by first | (simp; done) | (simp; omega) | (simp only [Array.size_append]; simp; omega)) ?_
  refine wpAny_bind (wpAny_isInstance (T := "StopIteration") (b := true) ⟨_, Heap.get?_update_self _ (Heap.get?_push_size _ rfl) rfl, rfl⟩ isSubtype_stop ?_)
  refine wpAny_pure (hQ _ fun b o hb e => ?_)
  have e2 := (sb.2 b hb).trans e
  rw [Heap.get?_update_other _ _ (Nat.ne_of_gt (Heap.lt_size (Heap.get?_push_of_some _ e2)))]
  exact Heap.get?_push_of_some _ (Heap.get?_push_of_some _ e2)
theorem tup_end_hot {it t x1 : Addr} {i : Nat} {items : Array Value} {Q : Option Value → Shared → Prop} (hot : HotAt A x1 s.heap) (ne : x1 ≠ it) (hit : IsTupIter s.heap it t i) (ht : IsTup s.heap t items) (hx : items[i]? = none)
    (hQ : ∀ h', Heap.ExtBut it s.heap h' → Q none { s with heap := h' }) : wpAny (model prog w) A (pyNext (.ref it)) Q E s := by
  obtain ⟨o, ho, hc, hd⟩ := id hit
  obtain ⟨ol, hol, _, nl, hdl⟩ := ht
  obtain ⟨hh, o1, vs1, h1, d1, c1⟩ := hot
  unfold pyNext
  refine wpAny_bind (wpAny_attempt (wpAny_callSpecial?_slot (name := Str.ofString "__next__") hit.typeIs slot_tupleiter_next (wpAny_call_entry slot_tupleiter_next hit.typeIs entry_tupleiter_next ?_ (args_tupleiter_next _))))
  show wpAny _ _ (field (.ref it) 0 >>= _) _ _ s
  refine wpAny_bind (wpAny_field ho hd (x := .ref t) rfl ?_)
  show wpAny _ _ (if (Value.ref t == Value.none) = true then _ else _) _ _ s
  rw [if_neg (show ¬ ((Value.ref t == Value.none) = true) from Bool.false_ne_true)]
  show wpAny _ _ (field (.ref it) 1 >>= _) _ _ s
  refine wpAny_bind (wpAny_field ho hd (x := .int i 0) rfl ?_)
  show wpAny _ _ (seqItems? (.ref t) >>= _) _ _ s
  refine wpAny_bind (wpAny_seqItems hol hdl ?_)
  simp only [Int.toNat_natCast, hx]
  refine wpAny_bind (wpAny_rule (wpAny_bind (wpAny_setField ho hd (by simp) ?_)))
  have sb : Heap.SameBut it s.heap (s.heap.update it (Obj.mapFields (·.setIfInBounds 0 Value.none))) := Heap.SameBut.update ..
  have h2 := (sb.2 x1 ne).trans h1
  show wpAny _ _ (newExc (.type "StopIteration") [] >>= _) _ _ _
  refine wpAny_bind ?_
  simp only [newExc, newTuple]
  refine wpAny_bind (wpAny_newObj_type ?_ (by size_fits))
  refine wpAny_bind (m := firstArgMember _ _) (wpAny_of_eq (a := Value.none) (by first | rfl | (simp only [firstArgMember]; rfl)) ?_)
  refine wpAny_newObj_type ?_ (by size_fits)
  refine raiseNew_hot ⟨hh, o1, vs1, Heap.get?_push_of_some _ (Heap.get?_push_of_some _ h2), d1, c1⟩ (Nat.ne_of_lt (Heap.lt_size (Heap.get?_push_of_some _ h2))) (Heap.get?_push_size _ rfl) rfl (by first | (simp; done) | (simp; omega) | (simp only [Array.size_append]; simp; omega)) ?_
  refine wpAny_bind (wpAny_isInstance (T := "StopIteration") (b := true) ⟨_, Heap.get?_update_self _ (Heap.get?_push_size _ rfl) rfl, rfl⟩ isSubtype_stop ?_)
  refine wpAny_pure (hQ _ fun b o hb e => ?_)
  have e2 := (sb.2 b hb).trans e
  rw [Heap.get?_update_other _ _ (Nat.ne_of_gt (Heap.lt_size (Heap.get?_push_of_some _ e2)))]
  exact Heap.get?_push_of_some _ (Heap.get?_push_of_some _ e2)
/-- a tuple taken apart -/
theorem apart_hot {t x1 : Addr} {items : Array Value} {env : Env} {elts : List Expr} {k : Nat} {pos : Pos} {Q : Unit → Shared → Prop} (hot : HotAt A x1 s.heap) (ht : IsTup s.heap t items) (hn : (assignEach elts env).length = items.size) (hstar : (assignEach elts env).findIdx? (·.1) = none)
    (h : ∀ h', Heap.ExtBut s.heap.objs.size s.heap h' → wpAny (model prog w) A (assignInOrder ((assignEach elts env).map (·.2)) items.toList) Q E { s with heap := h' }) :
    wpAny (model prog w) A (assign (.Tuple elts k pos) env (.ref t)) Q E s := by
  have hlt : t ≠ s.heap.objs.size := by obtain ⟨o, ho, _⟩ := ht; exact Nat.ne_of_lt (Heap.lt_size ho)
  obtain ⟨hh, o1, vs1, h1, d1, c1⟩ := hot
  have hx1 : x1 ≠ s.heap.objs.size := Nat.ne_of_lt (Heap.lt_size h1)
  rw [assign_Tuple]
  refine wpAny_bind (wpAny_standAt ?_)
  unfold unpack
  rw [hn, hstar]
  refine wpAny_bind (wpAny_holding ?_)
  unfold unpackItems
  refine wpAny_bind ?_
  unfold notIterableAtAll
  refine wpAny_bind (wpAny_specialOf ht.typeIs slot_tuple_iter.lookup ?_)
  refine wpAny_pure ?_
  simp only [Bool.false_eq_true, if_false]
  refine wpAny_bind (wpAny_holding (iter_tuple ht ?_))
  refine wpAny_bind (wpAny_holding (draw_tuple hlt items.size 0 _ _ ⟨_, Heap.get?_push_size _ rfl, rfl, rfl⟩ (ht.push _) (by omega) fun ha hita hsa => ?_))
  have hall : List.take items.size (List.drop 0 items.toList) = items.toList := by
    rw [List.drop_zero]
    exact List.take_of_length_le (by simp)
  rw [hall, if_neg (by simp)]
  have hta : IsTup ha t items := (ht.push _).extBut hsa.extBut hlt
  refine wpAny_bind (wpAny_holding (tup_end_hot ⟨hh, o1, vs1, (hsa.2 x1 hx1).trans (Heap.get?_push_of_some _ h1), d1, c1⟩ hx1 hita hta (by simp) fun hb eb => ?_))
  simp only [Option.isSome_none, Bool.false_eq_true, if_false]
  exact wpAny_pure (h hb fun b o hb' e => eb b o hb' (hsa.extBut b o hb' (Heap.get?_push_of_some _ e)))
end
section
variable {X : Cx} {pos : Pos}
theorem pg_tupH {es : List Expr} {k : Nat} {t : L2.TGs} {n : Nat} (hc : L2H.HotC X) (h : PGs X es t) (hn : (assignEach es X.env).length = n := by rfl) (hst : (assignEach es X.env).findIdx? (·.1) = none := by rfl) : PG X (.Tuple es k pos) (gTup X.K n t) := by
  refine ⟨fun pins s σ H v u Q I r hw => ?_⟩
  obtain ⟨a, xs, e1, hq, hl, hw⟩ := hw
  subst e1
  cases r
  obtain ⟨its, rv, ht, hz⟩ := I.tuple hq
  obtain ⟨x1, hot⟩ := hc.at I
  refine apart_hot hot ht (by simp [hn, ← hl, rv.length]) hst fun h' hx => ?_
  have I1 : Inv X pins σ H { s with heap := h' } := I.kept (t' := s.toks) fun b o e => hx b o (Nat.ne_of_lt (Heap.lt_size e)) e
  exact h.run pins _ σ H xs _ Q I1 (by simpa using rv) hw
end
section
open PyProof.Rows
theorem turn_listH {P : Program} {w : World} {K : PySem.W.Frag} {tg : Expr} (a it : Addr) : L2H.TurnH P w K tg (Itl K a) [it] it (fun i h => h.IsListIter it a i) where
  mem := (turn_list (P := P) (w := w) (K := K) (tg := tg) a it).mem
  obj := (turn_list (P := P) (w := w) (K := K) (tg := tg) a it).obj
  keep := (turn_list (P := P) (w := w) (K := K) (tg := tg) a it).keep
  self := (turn_list (P := P) (w := w) (K := K) (tg := tg) a it).self
  item := by
    intro X hP hw hK hc i pins s σ H E I hf st hg
    subst hP hw hK
    obtain ⟨xs, x, hq, hx⟩ := hg
    obtain ⟨its, rv, pl, hz⟩ := I.list hq
    obtain ⟨u, hu, ru⟩ := rv.get hx
    obtain ⟨f0, f1, f2, f3, f4, f5⟩ := hf it (by simp)
    refine wpAny_pyNext_list_item st pl.isList (x := u) (by simpa using hu) fun h' st' sb => ?_
    obtain ⟨o, e, c, d⟩ := id st'
    exact ⟨u, rfl, go_of (s := { s with heap := h' }) e c d (by decide) ⟨x, H, I.turned (t' := s.toks) (fun b o hb e => (sb.2 b hb).trans e) f0 f1 f3 f4 f5, ru, ⟨rfl, fun ys hy => by rw [I.list_inj hy hq]; exact hx⟩, st', fun b hb => (hf b hb).1⟩⟩
  done := by
    intro X hP hw hK hc i pins s σ H E I hf st hg
    subst hP hw hK
    obtain ⟨xs, hq, hx⟩ := hg
    obtain ⟨its, rv, pl, hz⟩ := I.list hq
    obtain ⟨f0, f1, f2, f3, f4, f5⟩ := hf it (by simp)
    obtain ⟨p, ⟨hh, v1, e1, c1⟩, hp⟩ := hc
    have hl := rv.length
    exact list_end_hot ⟨hh, p.2, v1, (I.pin p (List.mem_append_left _ hp)).1, e1, c1⟩ (f5 p (List.mem_append_left _ hp)) st pl.isList (by simp; omega) fun h' eb => ⟨rfl, I.turned (t' := s.toks) (fun b o hb e => eb b o hb e) f0 f1 f3 f4 f5⟩
theorem pi_listH {X : Cx} {tg l : Expr} {tl : TE} (hl : PE X l tl) : L2H.PIH X tg l (iList X.K tl) := by
  refine ⟨fun pins s σ H R I h => ?_⟩
  refine thn (hl.run pins s σ H _ I h) fun v s1 ⟨x, H1, I1, r1, q1⟩ => ?_
  obtain ⟨a, e, ⟨xs, hq⟩, q⟩ := q1
  subst e
  cases r1
  obtain ⟨its, rv, pl, hz⟩ := I1.list hq
  refine wpAny_pyIter_list pl.isList ?_
  refine ⟨s1.heap.objs.size, [s1.heap.objs.size], _, _, H1, rfl, I1.kept (t' := s1.toks) fun b o e => Heap.get?_push_of_some _ e, turn_listH a _, ⟨_, Heap.get?_push_size _ rfl, rfl, rfl⟩, fun b hb => ?_, q⟩
  have e : b = s1.heap.objs.size := by simpa using hb
  subst e
  exact I1.fpOk (Nat.le_refl _) (I1.hok.fresh (Nat.le_refl _))
/-- a block's context, the handled exception in it -/
abbrev blkH (X : Cx) (p : Addr × Obj) (s : Shared) (H : Hp) (scope : Scope) (cenv : Env) (fp : List Addr) : Cx := { X.blk s H scope cenv fp with pn := [p] }
theorem hot_blk {X : Cx} {p : Addr × Obj} {s : Shared} {H : Hp} {scope : Scope} {cenv : Env} {fp : List Addr} (h : L2H.Hot1 X.A p) : L2H.HotC (blkH X p s H scope cenv fp) := ⟨p, h, List.mem_singleton.mpr rfl⟩
theorem block_startH {X : Cx} {pins : List (Addr × Obj)} {σ : L2.St} {H : Hp} {s : Shared} {p : Addr × Obj} {scope : Scope} {own : List (Str × Nat)} {fp : List Addr} (I : Inv X pins σ H s) (hp : p ∈ X.pn) (ok : BlkOk X.N X.env.scope scope own) (hN : X.N.Nodup) (hfp : ∀ b ∈ fp, FpOk X pins H b ∧ b < s.heap.objs.size) :
    Inv (blkH X p s H scope (compEnvC scope (cellsFrom (s.heap.objs.size + 1) scope.names (cloFrom X.env.cells scope.names [])) s.heap.objs.size X.env) fp) [] (wipe σ (own.map (·.2))) H { s with heap := pushCells (s.heap.push { cls := .type "dict", data := .dict #[] }) scope.names } := by
  have J := block_start I ok hN hfp
  have P1 := I.pin p (List.mem_append_left _ hp)
  refine ⟨⟨J.ok.mod, J.ok.kind, J.ok.glob, J.ok.blt, J.ok.above, J.ok.inj, J.ok.has, J.ok.cab, J.ok.hd, J.ok.frames, J.ok.stk, J.ok.exf, J.ok.bs, J.ok.bsz, J.ok.noex, J.ok.exfs, J.ok.funs, J.ok.frf⟩, J.os, J.bare, J.base, J.loc, J.cell, J.free, J.freeC, fun q hq => ?_, J.hok, J.len⟩
  obtain rfl : q = p := by simpa using (show q ∈ [p] ++ ([] : List (Addr × Obj)) from hq)
  exact ⟨pushCells_keeps _ _ _ _ (Heap.get?_push_of_some _ P1.1), P1.2.1, Nat.ne_of_lt (Heap.lt_size P1.1), fun hm => (List.mem_cons.mp (I.stkSub q.1 hm)).elim P1.2.2.1 P1.2.2.2.1, P1.2.2.2.2⟩
end
section
open PyProof.Rows
variable {X : Cx}
/-- a list comprehension where an exception is handled -/
theorem lc_hot {pins : List (Addr × Obj)} {s : Shared} {σ : L2.St} {H : Hp} {Q : VK} {elt tg iter : Expr} {ifs : List Expr} {scope : Scope} {own : List (Str × Nat)} {pos pos' : Pos} {wi : TI} {g : TG} {tt : TT} {te : TE} {use : Option (Value → Sem Unit)} {Qf : Value → Shared → Prop}
    (hot : L2H.HotC X) (hN : X.N.Nodup) (I : Inv X pins σ H s) (hi : L2H.PIH X tg iter wi) (ok : BlkOk X.N X.env.scope scope own)
    (hg : ∀ (p : Addr × Obj) (s : Shared) (H : Hp) (C : Addr) (cl : List (Str × Addr)) (fp : List Addr), L2H.Hot1 X.A p → PG (blkH X p s H scope (compEnvC scope cl C X.env) fp) tg g) (ht : ∀ (p : Addr × Obj) (s : Shared) (H : Hp) (C : Addr) (cl : List (Str × Addr)) (fp : List Addr), PTs (blkH X p s H scope (compEnvC scope cl C X.env) fp) ifs tt)
    (he : ∀ (p : Addr × Obj) (s : Shared) (H : Hp) (C : Addr) (cl : List (Str × Addr)) (fp : List Addr), PE (blkH X p s H scope (compEnvC scope cl C X.env) fp) elt te) (hs : ∀ x, foldedSetIterable iter X.env x = pure x) (h : tLc wi g tt te (own.map (·.2)) σ H Q)
    (hend : ∀ D C s' m H', Inv X pins σ H' s' → Q (.ref D) H' → s'.heap.Ns C m → FpOk X pins H' C → compPost (model X.prog X.w) X.A X.xe use Qf (.ref D) C (.ok .next) s') :
    wpAny (model X.prog X.w) X.A (comprehension (.ListComp elt [⟨tg, iter, ifs, 0⟩] scope pos) scope X.env pos' (newList []) false (eval iter X.env) use) Qf X.xe s := by
  obtain ⟨p, hp1, hpn⟩ := hot
  have caps : ∀ y ∈ scope.names, y.2 = .free → ∃ c, X.env.cells.lookup y.1 = some c := fun y hy e => (ok.free y hy e).elim (fun k => I.ok.has _ (.inl k)) fun k => I.ok.has _ (.inr k)
  refine wpAny_comprehension_free (use := use) rfl hs (closure_ok caps) ok.kind (fun y hy e => by rw [ok.uniq y hy, e]) (thn (hi.run pins s σ H _ I h) fun xv sa hx => thn hx fun itv sb hb => ?_)
  obtain ⟨it, fp, tn, J, Hb, e, Ib, T, stb, fb, q⟩ := hb
  subst e
  refine wpAny_newObj_type (newEnv_comp ?_) (by show 0 ≤ sizeLine; decide)
  generalize hD : sb.heap.objs.size = D
  have free : Hb D = none := Ib.hok.fresh (Nat.le_of_eq hD)
  obtain ⟨W, ⟨m0, w0⟩, turn⟩ := q D free
  generalize hsc : ({ sb with heap := sb.heap.push { cls := .type "list", data := .seq ([] : List Value).toArray } } : Shared) = sc
  have Ic : Inv X pins σ (upd Hb D (.lst [])) sc := by
    rw [← hsc]
    refine Ib.laid (t' := sb.toks) (fun b o e => Heap.get?_push_of_some _ e) (Nat.le_of_eq hD) ⟨Nat.zero_le _, [], 0, .nil, ?_⟩
    rw [← hD]
    exact Heap.get?_push_size _ rfl
  have hc : sc.heap = sb.heap.push { cls := .type "list", data := .seq ([] : List Value).toArray } := by rw [← hsc]
  have fc : ∀ b ∈ fp, FpOk X pins (upd Hb D (.lst [])) b ∧ b < sc.heap.objs.size := fun b hb => by
    obtain ⟨o, e, _⟩ := T.obj _ _ stb b hb
    have lt := Heap.lt_size e
    refine ⟨⟨?_, (fb b hb).2⟩, by rw [hc, Heap.size_push]; exact Nat.lt_succ_of_lt lt⟩
    rw [upd_ne (by rw [← hD]; exact Nat.ne_of_lt lt)]
    exact (fb b hb).1
  have stc : tn 0 sc.heap := T.keep _ _ _ stb fun b _ o e => by
    rw [hc]
    exact Heap.get?_push_of_some _ e
  have Id := block_startH Ic hpn ok hN fc
  have pg := hg p sc (upd Hb D (.lst [])) sc.heap.objs.size (cellsFrom (sc.heap.objs.size + 1) scope.names (cloFrom X.env.cells scope.names [])) fp hp1
  have pt := ht p sc (upd Hb D (.lst [])) sc.heap.objs.size (cellsFrom (sc.heap.objs.size + 1) scope.names (cloFrom X.env.cells scope.names [])) fp
  have pe := he p sc (upd Hb D (.lst [])) sc.heap.objs.size (cellsFrom (sc.heap.objs.size + 1) scope.names (cloFrom X.env.cells scope.names [])) fp
  show codeAny _ _ (.compStart (.ListComp elt [⟨tg, iter, ifs, 0⟩] scope pos) 0 (.ref it) (.ref D) (compEnvC scope (cellsFrom (sc.heap.objs.size + 1) scope.names (cloFrom X.env.cells scope.names [])) sc.heap.objs.size X.env)) (compPost (model X.prog X.w) X.A X.xe use Qf (.ref D) sc.heap.objs.size) { sc with heap := pushCells (sc.heap.push { cls := .type "dict", data := .dict #[] }) scope.names }
  have nfp : ∀ b ∈ fp, (upd Hb D (.lst [])) b = none := fun b hb => (fc b hb).1.1
  generalize hce : compEnvC scope (cellsFrom (sc.heap.objs.size + 1) scope.names (cloFrom X.env.cells scope.names [])) sc.heap.objs.size X.env = ce at Id pg pt pe ⊢
  have cL : ce.locals = sc.heap.objs.size := by
    subst hce
    rfl
  generalize hHc : upd Hb D (.lst []) = Hc at Ic Id pg pt pe w0 nfp fc
  generalize hsd : ({ sc with heap := pushCells (sc.heap.push { cls := .type "dict", data := .dict #[] }) scope.names } : Shared) = sd at Id ⊢
  have std : tn 0 sd.heap := T.keep _ _ _ stc fun b _ o e => by
    rw [← hsd]
    exact pushCells_keeps _ _ _ _ (Heap.get?_push_of_some _ e)
  have hotB : L2H.HotC (blkH X p sc Hc scope ce fp) := hot_blk hp1
  have stat : ∀ {σ' : L2.St} {H' : Hp} {s' : Shared}, Inv (blkH X p sc Hc scope ce fp) [] σ' H' s' → (∀ b ∈ fp, H' b = none) → ∀ b ∈ fp, FpOk (blkH X p sc Hc scope ce fp) [] H' b := fun {σ' H' s'} I' hn b hb =>
    ⟨hn b hb, (I'.ok.exf b hb).1, I'.ok.exfs b hb, .inl hb, fun x c e => (I'.ok.exf b hb).2 x c e, fun y hy => by
      obtain rfl : y = p := by simpa using (show y ∈ [p] ++ ([] : List (Addr × Obj)) from hy)
      exact (fb b hb).2.2.2.2.2 y (List.mem_append_left _ hpn)⟩
  have loop : codeAny (model X.prog X.w) X.A (.compLoop (.ListComp elt [⟨tg, iter, ifs, 0⟩] scope pos) 0 (.ref it) (.ref D) ce) (compPost (model X.prog X.w) X.A X.xe use Qf (.ref D) sc.heap.objs.size) sd := by
    refine compLoop_any (fun n s' => ∃ i H', Inv (blkH X p sc Hc scope ce fp) [] (wipe σ (own.map (·.2))) H' s' ∧ tn i s'.heap ∧ (∀ b ∈ fp, H' b = none) ∧ W i n H') ?_ m0 ⟨0, Hc, Id, std, nfp, w0⟩
    rintro n s5 ⟨i, H5, I5, st5, n5, w5⟩
    rcases turn i n H5 w5 with ⟨stop, qq⟩ | ⟨go, Nx, hNx, step⟩
    · refine thnF (T.done (blkH X p sc Hc scope ce fp) rfl rfl rfl hotB i [] s5 _ H5 (fun _ _ => False) I5 (stat I5 n5) st5 stop) fun r s6 ⟨hr, I6⟩ => ?_
      subst hr
      have I7 : Inv X pins σ H5 s6 := Ic.call' (ch := fp) I6.os I6.base I6.hok I6.bare fun b hb => ⟨(fc b hb).1.2.2.2.1, (fc b hb).1.2.1, (fc b hb).1.2.2.2.2.1, (fc b hb).1.2.2.2.2.2⟩
      have nC : H5 sc.heap.objs.size = none := by
        have z : H5 ce.locals = none := I6.free
        rwa [cL] at z
      obtain ⟨m, hn, _⟩ := I6.loc
      have hn : s6.heap.Ns ce.locals m := hn
      rw [cL] at hn
      exact hend D sc.heap.objs.size s6 m H5 I7 qq hn (Ic.fpOk (Nat.le_refl _) nC)
    · refine thnF (T.item (blkH X p sc Hc scope ce fp) rfl rfl rfl hotB i [] s5 _ H5 (fun _ _ => False) I5 (stat I5 n5) st5 go) fun r s6 ⟨u, hr, h6⟩ => ?_
      subst hr
      refine thnF h6 fun _ s7 ⟨x, H7, I7, r7, y7, st7, n7⟩ => ?_
      refine thnF (pg.run _ s7 _ H7 x u _ (I7.pinned (stat I7 n7) (T.obj _ _ st7)) r7 (step x H7 y7)) fun _ s8 ⟨σ8, H8, I8, hw8, q8⟩ => ?_
      refine thnF (pt.run _ s8 σ8 H8 _ I8 q8) fun b s9 ⟨H9, I9, q9⟩ => ?_
      have fin : ∀ {s' : Shared} {H' : Hp}, Inv (blkH X p sc Hc scope ce fp) ([] ++ pinsAt fp s7.heap) σ8 H' s' → Nx H' → ∃ m, m < n ∧ ∃ i H', Inv (blkH X p sc Hc scope ce fp) [] (wipe σ (own.map (·.2))) H' s' ∧ tn i s'.heap ∧ (∀ b ∈ fp, H' b = none) ∧ W i m H' := fun {s' H'} I' nx => by
        obtain ⟨m', hm, w'⟩ := hNx H' nx
        have pin' : ∀ b ∈ fp, ∀ o, s7.heap.get? b = some o → s'.heap.get? b = some o ∧ H' b = none := fun b hb o e =>
          let z := I'.pin (b, o) (List.mem_append_right _ (List.mem_append_right _ (mem_pinsAt hb e)))
          ⟨z.1, z.2.1⟩
        refine ⟨m', hm, i + 1, H', (I'.unpinned (pins := [])).weak (by rw [← hw8, wipe_length]) (fun j v e => ?_), T.keep _ _ _ st7 fun b hb o e => (pin' b hb o e).1, fun b hb => ?_, w'⟩
        · rw [← hw8] at e
          exact (wipe_some e).1
        · obtain ⟨o, e, _⟩ := T.obj _ _ st7 b hb
          exact (pin' b hb o e).2
      cases b with
      | false =>
        simp only [Bool.false_eq_true, if_false] at q9 ⊢
        exact fin I9 q9
      | true =>
        simp only [if_true] at q9 ⊢
        refine thnF (pe.run _ s9 σ8 H9 _ I9 q9) fun z s10 ⟨yv, H10, I10, r10, acc, hD10, hz10, nx⟩ => ?_
        exact app_ok (X := blkH X p sc Hc scope ce fp) I10 hD10 hz10 r10 fun s11 I11 => fin I11 nx
  exact codeAny_compStart_list loop (T.self X.A 0 _ _ _ std loop)
/-- name = [..] there -/
theorem ps_setLcH {i : Nat} {y : Str} {py : Pos} {elt tg iter : Expr} {ifs : List Expr} {scope : Scope} {own : List (Str × Nat)} {pos spos : Pos} {wi : TI} {g : TG} {tt : TT} {te : TE} (hot : L2H.HotC X) (hN : X.N.Nodup) (hy : X.N[i]? = some y) (hyl : X.env.scope.names.lookup y = some .local)
    (hsw : swapsWith (.ListComp elt [⟨tg, iter, ifs, 0⟩] scope pos) (some (.Name y py)) spos.line X.env = pure true) (hi : L2H.PIH X tg iter wi) (ok : BlkOk X.N X.env.scope scope own)
    (hg : ∀ (p : Addr × Obj) (s : Shared) (H : Hp) (C : Addr) (cl : List (Str × Addr)) (fp : List Addr), L2H.Hot1 X.A p → PG (blkH X p s H scope (compEnvC scope cl C X.env) fp) tg g) (ht : ∀ (p : Addr × Obj) (s : Shared) (H : Hp) (C : Addr) (cl : List (Str × Addr)) (fp : List Addr), PTs (blkH X p s H scope (compEnvC scope cl C X.env) fp) ifs tt)
    (he : ∀ (p : Addr × Obj) (s : Shared) (H : Hp) (C : Addr) (cl : List (Str × Addr)) (fp : List Addr), PE (blkH X p s H scope (compEnvC scope cl C X.env) fp) elt te) (hs : ∀ x, foldedSetIterable iter X.env x = pure x := by intro _; rfl) :
    PS X (.Assign [.Name y py] (.ListComp elt [⟨tg, iter, ifs, 0⟩] scope pos) spos) (tAsg (tLc wi g tt te (own.map (·.2))) (gName i)) := by
  refine ⟨fun pins s σ H D I h => ?_⟩
  rw [exec_Assign_Name_used _ _ _ _ hsw]
  refine wpAny_bind (wpAny_standAt (wpAny_bind ?_))
  show wpAny _ X.A (do let _ ← comprehension (.ListComp elt [⟨tg, iter, ifs, 0⟩] scope pos) scope X.env (firstIterPos [⟨tg, iter, ifs, 0⟩] pos) (newList []) false (eval iter X.env) (some (assign (.Name y py) X.env))) _ _ s
  have h : tLc wi g tt te (own.map (·.2)) σ H (fun x H1 => gName i x σ H1 D.nx) := h
  refine wpAny_bind (thn (lc_hot (Qf := fun _ s' => SP X pins D .next s') hot hN I hi ok hg ht he hs h fun L C s' m H' I' q hn f => ?_) fun _ s' hq => wpAny_pure (wpAny_pure hq))
  show wpAny _ _ (assign (.Name y py) X.env (.ref L)) _ _ _
  obtain ⟨f0, f1, f2, f3, f4, f5⟩ := f
  refine wpAny_assign_Name (store_ok2 (v := V.ref L) I' hN hy (.inl hyl) rfl (fun s2 I2 ⟨a, sb, ha⟩ => ?_) (.inr hyl))
  have haC : C ≠ a := ha.elim (fun z => z ▸ f1) fun z e => f4 y a z e.symm
  exact ⟨m, hn.sameBut sb haC, fun h3 sb3 => ⟨_, H', I2.turned (t' := s2.toks) (fun b o hb e => (sb3.2 b hb).trans e) f0 f1 f3 f4 f5, q⟩⟩
end
/-! ### refusals: defs that may let an error of an own class out; what is caught -/
section
open PyProof.Rows
/-- raise X() of an own class without an own __init__ -/
theorem pmk_own0 {X : Cx} {C : Addr} {bmB : List Value} {B newId initId : String} {x : Str} {p pos : Pos} (F : ExcBaseFacts B newId initId bmB) (q : PySem.W.excIn X.K C bmB newId = true) (gC : X.mg x = some (.ref C)) (kC : PySem.W.keepIn X.K (.ref C) = true) (r : Raises X (.ref C)) (hg : Gl X x := by rfl)
    (hdb : (x == ("__debug__" : Str)) = false := by decide) : L2N.PMk X (.Call (.Name x p) [] [] pos) (fun _ H Q => Q (.ref C) none H) := by
  intro pins s σ H Q I h
  refine wpAny_Call_Name_kw (ld_glob I hg gC ?_ hdb)
  refine PySem.W.callWith_K0 I.kIn kC ?_
  show wpAny _ _ (call (.ref C) []) _ _ _
  obtain ⟨bm, N, nm, qn, bs, hdct, sn, sub, ab, col, dd, k0, k1, k2, k3, k5, mN, hC, hN, hni, T⟩ := exc_obj I.kIn q
  refine wpAny_call_exc_subT F T hC hN hni (fun h' e hm => ?_) (by show 0 ≤ sizeLine; exact Nat.zero_le _)
  exact L2N.mk_of I hm r h (I.hok.gone hm.new)
/-- a def that may raise, called by its name -/
structure CalX (P : Program) (w : World) (K : PySem.W.Frag) (mg : Str → Option Value) (base : Heap) (k : Nat) (x : Str) (ps : List Str) (sp : Sp) : Prop where
  ex : ∃ (f : Addr) (fd : FuncData), FnOk P w K mg base (L2N.CX P w) k f fd ps sp ∧ PySem.W.keepIn K (.ref f) = true ∧ mg x = some (.ref f) ∧ Binds K fd ps []
/-- a method that may raise -/
structure CalMX (P : Program) (w : World) (K : PySem.W.Frag) (mg : Str → Option Value) (base : Heap) (k : Nat) (C : Addr) (m : Str) (ps : List Str) (sp : Sp) : Prop where
  ex : ∃ (f : Addr) (fd : FuncData), FnOk P w K mg base (L2N.CX P w) k f fd ps sp ∧ Meth K C m f ∧ Binds K fd ps []
/-- .. with keyword-only parameters -/
structure CalWX (P : Program) (w : World) (K : PySem.W.Frag) (mg : Str → Option Value) (base : Heap) (k : Nat) (C : Addr) (m : Str) (ps : List Str) (n : Nat) (kws : List (Str × V)) (sp : Sp) : Prop where
  ex : ∃ (f : Addr) (fd : FuncData), FnOk P w K mg base (L2N.CX P w) k f fd ps sp ∧ Meth K C m f ∧ (∃ ds, Vals (kws.map (·.2)) ds ∧ Binds K fd ps ds) ∧ KBn K fd ps n (kws.map (·.1)) (fun us ws => us ++ ws) (fun vs zs => vs ++ zs)
section
variable {P : Program} {w : World} {K : PySem.W.Frag} {mg : Str → Option Value} {base : Heap} {C : Addr} {x m qual : Str} {st : Stmt} {N ps : List Str} {sp : Sp} {k n : Nat} {kws : List (Str × V)}
theorem Ftx.calX (F : Ftx K mg x st ps) (S : FnScope N ps (defScope st)) (len : ∀ vs H Q E, sp vs H Q E → vs.length = ps.length)
    (h : ∀ (f : Addr) (cdv : Value) (A : Around) (outer : List Env) (s : Shared) (H : Hp) (vs : List V) (Q : VK) (E : XK), Room k (A.deeper (envOfC x (defScope st) s.heap.objs.size f cdv)) → sp vs H Q E →
      ∃ t, PSs (cxOf (L2N.CX P w) P w K mg base N x (defScope st) f cdv A outer s H E) (defBody st) t ∧ t { nx := fun _ H' => Q .non H', rt := Q } (start N vs) H) : CalX P w K mg base (k + 1) x ps sp := by
  obtain ⟨f, fd, F1, g, b⟩ := F.ex
  have kp := F1.kp
  obtain ⟨oc, od, kV, doc, pm, an, cdv, ct, osl, rfl, lk, hcd⟩ := F1.ex
  exact ⟨f, _, fn_of lk hcd S len fun A outer s H vs Q E hr hsp => h f cdv A outer s H vs Q E hr hsp, kp, g, b⟩
theorem Ftm.calX (F : Ftm K C m qual st ps) (S : FnScope N ps (defScope st)) (len : ∀ vs H Q E, sp vs H Q E → vs.length = ps.length)
    (h : ∀ (f : Addr) (cdv : Value) (A : Around) (outer : List Env) (s : Shared) (H : Hp) (vs : List V) (Q : VK) (E : XK), Room k (A.deeper (envOfC qual (defScope st) s.heap.objs.size f cdv)) → sp vs H Q E →
      ∃ t, PSs (cxOf (L2N.CX P w) P w K mg base N qual (defScope st) f cdv A outer s H E) (defBody st) t ∧ t { nx := fun _ H' => Q .non H', rt := Q } (start N vs) H) : CalMX P w K mg base (k + 1) C m ps sp := by
  obtain ⟨f, fd, F1, M, b⟩ := F.ex
  obtain ⟨oc, od, kV, doc, pm, an, cdv, ct, osl, rfl, lk, hcd⟩ := F1.ex
  exact ⟨f, _, fn_of lk hcd S len fun A outer s H vs Q E hr hsp => h f cdv A outer s H vs Q E hr hsp, M, b⟩
theorem Ftw.calX (F : Ftw K C m qual st kws) (B : KwS m qual st ps n (kws.map (·.1))) (hk : kws ≠ []) (hn : n + kws.length = ps.length) (S : FnScope N ps (defScope st)) (len : ∀ vs H Q E, sp vs H Q E → vs.length = ps.length)
    (h : ∀ (f : Addr) (cdv : Value) (A : Around) (outer : List Env) (s : Shared) (H : Hp) (vs : List V) (Q : VK) (E : XK), Room k (A.deeper (envOfC qual (defScope st) s.heap.objs.size f cdv)) → sp vs H Q E →
      ∃ t, PSs (cxOf (L2N.CX P w) P w K mg base N qual (defScope st) f cdv A outer s H E) (defBody st) t ∧ t { nx := fun _ H' => Q .non H', rt := Q } (start N vs) H) : CalWX P w K mg base (k + 1) C m ps n kws sp := by
  obtain ⟨f, fd, F1, M⟩ := F.ex
  refine ⟨f, fd, F1.ok S len fun cdv A outer s H vs Q E hr hsp => h f cdv A outer s H vs Q E hr hsp, M, ?_, ?_⟩
  · exact F1.binds0 n hk hn fun D doc pm an cdv ct us ks l1 l2 => B.none D doc pm an cdv ct us ks l1 (by rw [List.length_map]; exact l2)
  · obtain ⟨mv, z⟩ := F1.kbinds0 (ps := ps) n (kws.map (·.1)) [] (fun us _ ws => us ++ ws) hk (fun q hq => (nomatch hq)) (fun r1 _ r3 => Vals.append r1 r3) fun D doc pm an cdv ct us mv ws l1 l2 l3 => B.all D doc pm an cdv ct us ws l1 l3
    exact z
end
section
variable {X : Cx} {W : WX} {C : Addr} {x m : Str} {ps : List Str} {sp : Sp} {k n : Nat} {kws : List (Str × V)} {o e : Expr} {es : List Expr} {ta : TE} {t tk : TA} {p apos pos : Pos} {pl : Sem Bool} {kwe : List Keyword}
/-- the callee runs; what it lets out is taken -/
theorem run_x {pins : List (Addr × Obj)} {σ : L2.St} {H : Hp} {s : Shared} {Q : VK} {us us' : List Value} {kv : List (Str × Value)} {vs : List V} {f : Addr} {fd : FuncData} (F : FnOk X.prog X.w X.K X.mg X.base (L2N.CX X.prog X.w) k f fd ps sp) (hr : Room k X.A) (b : BindsTo s fd ⟨us, kv⟩ (ps.zip us')) (tk : L2N.Takes X W)
    (I : Inv X pins σ H s) (r : Vals vs us') (h : sp vs H Q (WE W σ)) : wpAny (model X.prog X.w) X.A (call (.ref f) us kv) (EP X pins σ Q) X.xe s := by
  refine wpAny_call (codeAny_mono (F.run X.A X.stack s H ⟨us, kv⟩ us' vs Q (WE W σ) hr I.env0 b r h) fun r s' hq => ?_)
  cases r with
  | error e => exact L2N.passAt tk σ pins H s e s' I hq
  | ok fl =>
    cases fl with
    | ret u => exact I.after hq
    | next => exact False.elim hq
    | brk => exact False.elim hq
    | cont => exact False.elim hq
theorem pe_calX (F : CalX X.prog X.w X.K X.mg X.base k x ps sp) (hr : Room k X.A) (tk : L2N.Takes X W) (ha : PA X (e :: es) t) (hg : Gl X x := by rfl) (hdb : (x == ("__debug__" : Str)) = false := by decide)
    (he : starEach (e :: es) X.env = (false, eval e X.env) :: starEach es X.env := by rfl) (hpl : (backTo pos (starEach es X.env)).any (·.1) = false := by rfl) : PE X (.Call (.Name x p) (e :: es) [] pos) (tCallS sp (WE W) t) := by
  obtain ⟨f, fd, F1, kp, g, b⟩ := F.ex
  exact pe_callS F1 hr hg g kp b (fun σ => L2N.passAt tk σ) ha hdb he hpl
/-- o.m(e, ..); dvs: what is left out -/
def tMethX (C : Addr) (m : Str) (sp : Sp) (dvs : List V) (E : L2.St → XK) (ta : TE) (t : TA) : TE := fun σ H Q => ta σ H fun x H1 => ∃ a dx fs, x = .ref a ∧ H1 a = some (.ins C dx fs) ∧ fs.lookup m = none ∧ t σ H1 fun vs H2 => sp (.ref a :: vs ++ dvs) H2 Q (E σ)
theorem pe_calMX (F : CalMX X.prog X.w X.K X.mg X.base k C m ps sp) (c : Cls X.K C) (hr : Room k X.A) (tk : L2N.Takes X W) (he : PE X o ta) (ha : PA X (e :: es) t)
    (hst : starEach (e :: es) X.env = (false, eval e X.env) :: starEach es X.env := by rfl) (hpl : (backTo pos (starEach es X.env)).any (·.1) = false := by rfl)
    (ht : eval (.Call (.Attribute o m apos) (e :: es) [] pos) X.env = (do let ov ← eval o X.env; standAt apos.atName; let (f, first) ← holding [ov] (getMethod ov m pl); callWith pos f first (backTo pos (starEach (e :: es) X.env)) (backToKw pos (keywordEach [] X.env))) := by rfl) :
    PE X (.Call (.Attribute o m apos) (e :: es) [] pos) (tMethX C m sp [] (WE W) ta t) := by
  obtain ⟨f, fd, F1, M, b⟩ := F.ex
  refine ⟨fun pins s σ H Q I h => ?_⟩
  refine PySem.W.methodCall_KW (pl := pl) (thn (he.run pins s σ H _ I h) fun u s1 ⟨x, H1, I1, rx, a, dx, fs, ex, ea, l, q⟩ => ?_) ht
  subst ex
  obtain rfl : u = Value.ref a := rx
  refine getmeth_ok I1 ea c M l ?_
  refine PySem.W.callWith_K (first := [.ref a]) (h₀ := X.base) I.ok.mod.kin M.kp (thn (ha.run pos pins s1 σ H1 _ I1 q) fun us s2 ⟨vs, H2, I2, r, q2⟩ => ⟨I2.kIn, ?_⟩) hst hpl
  have r2 : Vals (.ref a :: vs) (.ref a :: us) := .cons rfl r
  have q2 : sp (.ref a :: vs ++ []) H2 Q (WE W σ) := q2
  rw [List.append_nil] at q2
  have bb := b s2 (.ref a :: us) I2.kIn (by rw [List.append_nil, ← r2.length]; exact F1.len _ _ _ _ q2)
  rw [List.append_nil] at bb
  exact run_x F1 hr bb tk I2 r2 q2
theorem pe_calWX (F : CalWX X.prog X.w X.K X.mg X.base k C m ps n kws sp) (c : Cls X.K C) (hr : Room k X.A) (tk : L2N.Takes X W) (he : PE X o ta) (ha : PA X (e :: es) t)
    (hst : starEach (e :: es) X.env = (false, eval e X.env) :: starEach es X.env := by rfl) (hpl : (backTo pos (starEach es X.env)).any (·.1) = false := by rfl)
    (ht : eval (.Call (.Attribute o m apos) (e :: es) [] pos) X.env = (do let ov ← eval o X.env; standAt apos.atName; let (f, first) ← holding [ov] (getMethod ov m pl); callWith pos f first (backTo pos (starEach (e :: es) X.env)) (backToKw pos (keywordEach [] X.env))) := by rfl) :
    PE X (.Call (.Attribute o m apos) (e :: es) [] pos) (tMethX C m sp (kws.map (·.2)) (WE W) ta t) := by
  obtain ⟨f, fd, F1, M, ⟨ds, vd, b⟩, _⟩ := F.ex
  refine ⟨fun pins s σ H Q I h => ?_⟩
  refine PySem.W.methodCall_KW (pl := pl) (thn (he.run pins s σ H _ I h) fun u s1 ⟨x, H1, I1, rx, a, dx, fs, ex, ea, l, q⟩ => ?_) ht
  subst ex
  obtain rfl : u = Value.ref a := rx
  refine getmeth_ok I1 ea c M l ?_
  refine PySem.W.callWith_K (first := [.ref a]) (h₀ := X.base) I.ok.mod.kin M.kp (thn (ha.run pos pins s1 σ H1 _ I1 q) fun us s2 ⟨vs, H2, I2, r, q2⟩ => ⟨I2.kIn, ?_⟩) hst hpl
  have r2 : Vals ((.ref a :: vs) ++ kws.map (·.2)) ((.ref a :: us) ++ ds) := Vals.append (.cons rfl r) vd
  exact run_x F1 hr (b s2 (.ref a :: us) I2.kIn (by rw [← r2.length]; exact F1.len _ _ _ _ q2)) tk I2 r2 q2
def tMethNX (C : Addr) (m : Str) (n j : Nat) (sp : Sp) (E : L2.St → XK) (ta : TE) (t tk : TA) : TE := fun σ H Q => ta σ H fun x H1 => ∃ a dx fs, x = .ref a ∧ H1 a = some (.ins C dx fs) ∧ fs.lookup m = none ∧ t σ H1 fun vs H2 => tk σ H2 fun zs H3 => vs.length + 1 = n ∧ zs.length = j ∧ sp (.ref a :: vs ++ zs) H3 Q (E σ)
theorem pe_calWNX (F : CalWX X.prog X.w X.K X.mg X.base k C m ps n kws sp) (c : Cls X.K C) (hr : Room k X.A) (tk' : L2N.Takes X W) (he : PE X o ta) (ha : PA X (e :: es) t) (hkw : PK X kwe tk)
    (hall : (backToKw pos (keywordEach kwe X.env)).all (·.1.isSome) = true := by rfl) (hks : (backToKw pos (keywordEach kwe X.env)).filterMap (·.1) = kws.map (·.1) := by rfl)
    (hst : starEach (e :: es) X.env = (false, eval e X.env) :: starEach es X.env := by rfl) (hpl : ((backTo pos (starEach (e :: es) X.env)).any (·.1) || (backToKw pos (keywordEach kwe X.env)).any (·.1.isNone)) = false := by rfl)
    (ht : eval (.Call (.Attribute o m apos) (e :: es) kwe pos) X.env = (do let ov ← eval o X.env; standAt apos.atName; let (f, first) ← holding [ov] (getMethod ov m pl); callWith pos f first (backTo pos (starEach (e :: es) X.env)) (backToKw pos (keywordEach kwe X.env))) := by rfl) :
    PE X (.Call (.Attribute o m apos) (e :: es) kwe pos) (tMethNX C m n kws.length sp (WE W) ta t tk) := by
  obtain ⟨f, fd, F1, M, _, kb⟩ := F.ex
  refine ⟨fun pins s σ H Q I h => ?_⟩
  refine PySem.W.methodCall_KW (pl := pl) (thn (he.run pins s σ H _ I h) fun u s1 ⟨x, H1, I1, rx, a, dx, fs, ex, ea, l, q⟩ => ?_) ht
  subst ex
  obtain rfl : u = Value.ref a := rx
  refine getmeth_ok I1 ea c M l ?_
  refine PySem.W.callWith_KW (first := [.ref a]) (h₀ := X.base) I.ok.mod.kin M.kp hall (thn (ha.run pos pins s1 σ H1 _ I1 q) fun us s2 ⟨vs, H2, I2, r, q2⟩ => ?_) hpl hst
  refine thn (hkw.run pos pins s2 σ H2 _ I2 q2) fun ws s3 ⟨zs, H3, I3, rz, l1, l2, q3⟩ => ⟨I3.kIn, ?_⟩
  rw [hks]
  have r2 : Vals (.ref a :: vs) (.ref a :: us) := .cons rfl r
  exact run_x F1 hr (kb.to s3 (.ref a :: us) ws I3.kIn (r2.length.symm.trans l1) (rz.length.symm.trans (l2.trans (by rw [List.length_map])))) tk' I3 (kb.rel r2 rz) q3
/-- what is never come to -/
theorem pss_dead {sts : List Stmt} : PSs X sts (fun _ _ _ => False) := ⟨fun _ _ _ _ _ _ h => h.elim⟩
end
end
/-! ### a def called where an error is handled, which it is asked about -/
section
open PyProof.Rows
/-- a def that keeps its promise about the handled error p -/
structure FnP (P : Program) (w : World) (K : PySem.W.Frag) (mg : Str → Option Value) (base : Heap) (k : Nat) (f : Addr) (fd : FuncData) (ps : List Str) (sp : Addr → Value → Option Addr → Sp) : Prop where
  len : ∀ a cls d vs H Q E, sp a cls d vs H Q E → vs.length = ps.length
  run : ∀ (A : Around) (outer : List Env) (s : Shared) (H : Hp) (args : Args) (us : List Value) (vs : List V) (Q : VK) (E : XK) (p : Addr × Obj) (cls : Value) (d : Option Addr), L2N.Zn cls d p.2 → L2H.RoomH k A → L2H.Hot1 A p → L2H.PinOk outer H s p → Env0 P w K mg base A outer s H → BindsTo s fd args (ps.zip us) → Vals vs us → sp p.1 cls d vs H Q E →
    codeAny (model P w) A (.call (.ref f) args) (CR CX0 outer P w H s Q E) s
structure CalP (P : Program) (w : World) (K : PySem.W.Frag) (mg : Str → Option Value) (base : Heap) (k : Nat) (x : Str) (ps : List Str) (sp : Addr → Value → Option Addr → Sp) : Prop where
  ex : ∃ (f : Addr) (fd : FuncData), FnP P w K mg base k f fd ps sp ∧ PySem.W.keepIn K (.ref f) = true ∧ mg x = some (.ref f) ∧ Binds K fd ps []
section
variable {P : Program} {w : World} {K : PySem.W.Frag} {mg : Str → Option Value} {base : Heap} {x : Str} {st : Stmt} {N ps : List Str} {sp : Addr → Value → Option Addr → Sp} {k : Nat}
theorem Ftx.calP (F : Ftx K mg x st ps) (S : FnScope N ps (defScope st)) (len : ∀ a cls d vs H Q E, sp a cls d vs H Q E → vs.length = ps.length)
    (h : ∀ (f : Addr) (cdv : Value) (A : Around) (outer : List Env) (s : Shared) (H : Hp) (vs : List V) (Q : VK) (E : XK) (p : Addr × Obj) (cls : Value) (d : Option Addr), L2N.Zn cls d p.2 → L2H.Hot1 A p → L2H.RoomH k (A.deeper (envOfC x (defScope st) s.heap.objs.size f cdv)) → sp p.1 cls d vs H Q E →
      ∃ t, PSs (L2H.cxH CX0 P w K mg base N x (defScope st) f cdv A outer s H E p) (defBody st) t ∧ t { nx := fun _ H' => Q .non H', rt := Q } (L2.start N vs) H) : CalP P w K mg base (k + 1) x ps sp := by
  obtain ⟨f, fd, F1, g, b⟩ := F.ex
  have kp := F1.kp
  obtain ⟨oc, od, kV, doc, pm, an, cdv, ct, osl, rfl, lk, hcd⟩ := F1.ex
  refine ⟨f, _, ⟨len, fun A outer s H args us vs Q E p cls d hz hr hot hpin e0 hb r hsp => ?_⟩, kp, g, b⟩
  have hl := len _ _ _ _ _ _ _ hsp
  have kx : K.In s.heap := e0.mod.kin.keeps fun b o e => (e0.bs b o e).1
  have hkind : ∀ y ∈ ps.zip us, (defScope st).names.lookup y.1 = some .local ∨ ((defScope st).names.lookup y.1 = some .cell ∧ ((cellsFrom (s.heap.objs.size + 1) (defScope st).names []).lookup y.1).isSome = true) := fun ⟨n, v⟩ hy => by
    rcases S.par n (List.of_mem_zip hy).1 with q | q
    · exact .inl q
    · exact .inr ⟨q, PySem.W.cellsFrom_some _ _ _ (.inl q)⟩
  refine codeAny_call_function hr.depth (kx _ _ lk) rfl S.co S.gen rfl (PySem.W.codeRec_of kx hcd) (hb _ _ _ _ ?_)
  refine wpAny_newFunctionEnv_cells S.kind hkind fun env he s1 x1 => ?_
  subst he
  refine ⟨(e0.mod.nolimit.keeps fun b o e => (e0.bs b o e).1).keeps x1.toInCall.keep, codeAny_func ?_⟩
  obtain ⟨t, ht, hq⟩ := h f cdv A outer s H vs Q E p cls d hz hot (hr.deeper _) hsp
  have I := L2H.inv_startH (CX := CX0) (P := P) (w := w) (K := K) (mg := mg) (base := base) (E := E) S hpin e0 hl r x1
  refine wpAny_mono (ht.run [] s1 (L2.start N vs) H _ I hq) (fun fl s' hs => ?_) fun e s' hs => hs
  cases fl with
  | ret u =>
    obtain ⟨v, σ', H', J, rv, q⟩ := hs
    exact ⟨v, H', J.os, J.bare, J.base, J.hok, rv, q⟩
  | next =>
    obtain ⟨σ', H', J, q⟩ := hs
    exact ⟨.non, H', J.os, J.bare, J.base, J.hok, rfl, q⟩
  | brk =>
    obtain ⟨_, _, _, q⟩ := hs
    exact False.elim q
  | cont =>
    obtain ⟨_, _, _, q⟩ := hs
    exact False.elim q
end
section
variable {X : Cx} {x : Str} {ps : List Str} {sp : Addr → Value → Option Addr → Sp} {k : Nat} {q : Addr × Obj} {cls : Value} {d : Option Addr} {e : Expr} {es : List Expr} {p pos : Pos} {t : TA}
theorem pe_calP (C : CalP X.prog X.w X.K X.mg X.base k x ps sp) (hr : L2H.RoomH k X.A) {a : Addr} {oe : Obj} (hz : L2N.Zn cls d oe) (hot : L2H.Hot1 X.A (a, oe)) (hq : (a, oe) ∈ X.pn) (ha : PA X (e :: es) t) (hg : Gl X x := by rfl) (hdb : (x == ("__debug__" : Str)) = false := by decide)
    (he : starEach (e :: es) X.env = (false, eval e X.env) :: starEach es X.env := by rfl) (hpl : (backTo pos (starEach es X.env)).any (·.1) = false := by rfl) : PE X (.Call (.Name x p) (e :: es) [] pos) (fun σ H Q => t σ H fun vs H1 => sp a cls d vs H1 Q E0) := by
  obtain ⟨f, fd, F, kp, hm, b⟩ := C.ex
  refine ⟨fun pins s σ H Q I h => ?_⟩
  refine wpAny_Call_Name_kw (ld_glob I hg hm ?_ hdb)
  refine PySem.W.callWith_K (h₀ := X.base) I.ok.mod.kin kp (thn (ha.run pos pins s σ H _ I h) fun us s1 ⟨vs, H1, I1, r, h1⟩ => ⟨I1.kIn, ?_⟩) he hpl
  have bb := b s1 us I1.kIn (by rw [List.append_nil, ← r.length]; exact F.len _ _ _ _ _ _ _ h1)
  rw [List.append_nil] at bb
  have P1 := I1.pin (a, oe) (List.mem_append_left _ hq)
  refine wpAny_call (codeAny_mono (F.run X.A X.stack s1 H1 ⟨us, []⟩ us vs Q E0 (a, oe) cls d hz hr hot ⟨P1.1, P1.2.1, fun hm => (List.mem_cons.mp (I1.stkSub a hm)).elim P1.2.2.1 P1.2.2.2.1, P1.2.2.2.2⟩ I1.env0 bb r h1) fun r3 s3 hq3 => match r3, hq3 with
    | .error _, z => (z : False).elim
    | .ok (.ret _), z => I1.after z
    | .ok .next, z => (z : False).elim
    | .ok .brk, z => (z : False).elim
    | .ok .cont, z => (z : False).elim)
/-- isinstance(e, C), isinstance(e, (C, ..)) of the handled error e of the class at D -/
def rIsH (K : PySem.W.Frag) (D a : Addr) : List V → Hp → VK → Prop := fun xs H Q => ∃ (c : V) (b : Bool), xs = [.ref a, c] ∧ ((∃ cv, ClsV c cv ∧ PySem.W.kitOne K (.ref D) cv = some b) ∨ ∃ (t : Addr) (cs : List V) (ws : List Value), c = .ref t ∧ H t = some (.tup cs) ∧ Paired ClsV cs ws ∧ PySem.W.kitAny K (.ref D) ws = some b) ∧ Q (.bl b) H
theorem call_isH {D : Addr} (C : ExcC X.K D) (hz : L2N.Zn (.ref D) none q.2) (hf : ∃ vs, q.2.data = .fields vs) (hq : q ∈ X.pn) : CallR X (.builtin "isinstance") (rIsH X.K D q.1) := by
  intro pins s σ H xs us Q I r h
  obtain ⟨c, b, rfl, hc, h1⟩ := h
  obtain ⟨u1, u2, rfl, r1, r2⟩ := vals2 r
  obtain rfl : u1 = Value.ref q.1 := r1
  have hget := (I.pin q (List.mem_append_left _ hq)).1
  obtain ⟨a, oe⟩ := q
  obtain ⟨vs, hv⟩ := hf
  have J : PySem.W.InstAt s.heap a oe D none := by
    obtain ⟨oc, od, oda, osl⟩ := oe
    obtain ⟨h1, h2, _⟩ := hz
    dsimp only at h1 h2 hv
    subst h1 h2 hv
    exact ⟨hget, rfl, rfl, trivial⟩
  have Z := PySem.W.handS_kitx_exc (x := a) (ox := oe) C.hg C.hk C.hs C.hd C.ha C.hn C.ht C.hm
  rcases hc with ⟨cv, hcv, e⟩ | ⟨t, cs, ws, rfl, hT, hcs, e⟩
  · obtain rfl := hcv.eq r2
    exact PySem.W.kia_one Z I.kIn J e (fun z => nomatch z) fun tk => ⟨.bl b, H, I.kept (t' := tk) fun _ _ z => z, rfl, h1⟩
  · obtain rfl : u2 = Value.ref t := r2
    obtain ⟨_, its, rv, o, g1, g2, n, g3⟩ := (show ObjOk X.prog X.w H s.heap t (.tup cs) from I.hok t _ hT)
    obtain rfl := ClsV.all hcs rv
    obtain ⟨oc, od, dt, sl⟩ := o
    simp only at g2 g3
    subst g2 g3
    exact PySem.W.kia_tup Z I.kIn J g1 e (fun z => nomatch z) fun tk => ⟨.bl b, H, I.kept (t' := tk) fun _ _ z => z, rfl, h1⟩
end
theorem roomS {A : Around} {v : Option Value} {j k : Nat} (hr : Room k A) (h : j ≤ k) : L2H.RoomH j (A.mark v) := ⟨by have := hr.dp; show A.depth + 3 * j + 5 < _; omega, by have := hr.un; show A.units + 16 * j + 200 < _; omega⟩
theorem takes0N {X : Cx} : L2N.Takes X (fun _ _ _ _ => False) := fun _ _ x => by
  obtain ⟨_, _, _, _, _, _, _, _, _, _, _, _, _, _, _, _, z⟩ := x
  exact z.elim
theorem hot_suite {X : Cx} {a : Addr} {oe : Obj} {cls : Value} {d : Option Addr} {pn : List (Addr × Obj)} (hz : L2N.Zn cls d oe) (hf : ∃ vs, oe.data = .fields vs) : L2H.Hot1 (X.suite a ((a, oe) :: pn)).A (a, oe) := by
  obtain ⟨vs, hv⟩ := hf
  exact ⟨rfl, vs, hv, hz.2.2 vs hv⟩
end
/-! ### refused by an error; what is caught -/
/-- what a def refuses by the error x, nothing changed -/
def Ref (cs : Tabs) (x : Str) (E : XK) (H : Hp) : Prop := ∀ H', Sm H H' → E (.ref (cs.e x)) none H'
theorem Ref.sm {cs : Tabs} {x : Str} {E : XK} {H H' : Hp} (r : Ref cs x E H) (s : Sm H H') : Ref cs x E H' := fun H2 s2 => r H2 (s.trans s2)
/-- what is told where an error is caught -/
def EW (cs : Tabs) (Q : VK) : XK := fun cls d H => ∃ x ∈ RAISED, cls = .ref (cs.e x) ∧ d = none ∧ ∀ H', Sm H H' → Q (.str x) H'
theorem Ref.imp {cs : Tabs} {x : Str} {E E' : XK} {H : Hp} (i : ∀ c d H, E c d H → E' c d H) (r : Ref cs x E H) : Ref cs x E' H := fun H' s => i _ _ _ (r H' s)
section
variable {P : Program} {w : World} {K : PySem.W.Frag} {mg : Str → Option Value} {base : Heap} {cs : Tabs}
theorem strEq (a b : Str) : decide (V.str a = V.str b) = decide (a = b) := by
  rw [decide_eq_decide]
  exact ⟨fun e => by injection e, fun e => by rw [e]⟩
/-- an error that is caught is told by its word -/
theorem caught {cs : Tabs} (T : Txt K mg cs) {i : Nat} {ts : Addr → Value → Option Addr → TS} {Wout : WX} {D : Ends} {σ : L2.St} {Q : VK} (h : ∀ (a : Addr) (x : Str) (H : Hp), x ∈ RAISED → H a = none → (∀ H', Sm H H' → Q (.str x) H') → ts a (.ref (cs.e x)) none { nx := fun σ' H' => D.nx (σ'.set i none) H', rt := D.rt, bk := fun σ' H' => D.bk (σ'.set i none) H', ct := fun σ' H' => D.ct (σ'.set i none) H' } (σ.set i (some (.ref a))) H) :
    ∀ c d H, EW cs Q c d H → WE (wAs K (.ref (cs.e "StemError")) i ts Wout D) σ c d H := fun c d H ⟨x, hx, ec, ed, q⟩ => by
  subst ec ed
  refine ⟨true, ?_, fun _ a ha => h a x H hx ha q, fun z => nomatch z⟩
  rw [T.xm x hx "StemError" (by simp [ALLE]), decide_eq_true (show ("StemError" : Str) = "StemError" from rfl), Bool.or_true]
end
theorem ewRef {cs : Tabs} {x : Str} {Q : VK} {H : Hp} (hx : x ∈ RAISED) (q : ∀ H', Sm H H' → Q (.str x) H') : Ref cs x (EW cs Q) H := fun H' s => ⟨x, hx, rfl, rfl, fun H2 s2 => q H2 (s.trans s2)⟩
/-! ### an error told by its class's name -/
def spWord (cs : Tabs) : Addr → Value → Option Addr → Sp := fun a cls d vs H Q _ => ∃ (x : Str), vs = [.ref a] ∧ x ∈ RAISED ∧ cls = .ref (cs.e x) ∧ d = none ∧ ∀ H', Sm H H' → Q (.str x) H'
def WORDS : List Str := ["Within", "TooDeep", "NoRef", "NoWorth", "NoHead", "NoJob", "Held", "NoDealing", "odd"]
/-- a pair of a name and whether it is x -/
def WordV (K : PySem.W.Frag) (H : Hp) (x : Str) (v : V) (n : Str) : Prop := ∃ a, v = .ref a ∧ SqT K H a [.str n, .bl (decide (x = n))]
theorem WordV.sm {K : PySem.W.Frag} {H H' : Hp} {x : Str} {v : V} {n : Str} (h : WordV K H x v n) (s : Sm H H') : WordV K H' x v n := by
  obtain ⟨a, e, q⟩ := h
  exact ⟨a, e, Sm.seqT s q⟩
/-- a list of such -/
def WordL (K : PySem.W.Frag) (H : Hp) (x : Str) (F : Addr) (ns : List Str) : Prop := ∃ vs, H F = some (.lst vs) ∧ Paired (WordV K H x) vs ns
theorem WordL.sm {K : PySem.W.Frag} {H H' : Hp} {x : Str} {F : Addr} {ns : List Str} (h : WordL K H x F ns) (s : Sm H H') : WordL K H' x F ns := by
  obtain ⟨vs, e, q⟩ := h
  exact ⟨vs, s _ _ e, pairA_imp (fun _ _ h => h.sm s) q⟩
theorem pairA_app {α β : Type} {R : α → β → Prop} : ∀ {xs us : List α} {ys zs : List β}, Paired R xs ys → Paired R us zs → Paired R (xs ++ us) (ys ++ zs)
  | _, _, _, _, .nil, j => j
  | _, _, _, _, .cons h t, j => .cons h (pairA_app t j)
theorem word_cat {K : PySem.W.Frag} {H : Hp} {x : Str} {F B : Addr} {ns ms : List Str} {Q : VK} (f : WordL K H x F ns) (g : WordL K H x B ms) (hl : ns.length + ms.length ≤ 100) (q : ∀ G H', Sm H H' → WordL K H' x G (ns ++ ms) → Q (.ref G) H') : rCat (.ref F) (.ref B) H Q := by
  obtain ⟨vs, h, j⟩ := f
  obtain ⟨ws, h', j'⟩ := g
  have l1 := pairA_len j
  have l2 := pairA_len j'
  refine ⟨F, B, vs, ws, rfl, rfl, h, h', small (by omega), fun G hG => ?_⟩
  have s := Sm.new (o := .lst (vs ++ ws)) hG
  exact q G _ s ⟨_, upd_same, pairA_app (pairA_imp (fun _ _ h => h.sm s) j) (pairA_imp (fun _ _ h => h.sm s) j')⟩
section
variable {P : Program} {w : World} {K : PySem.W.Frag} {mg : Str → Option Value} {base : Heap} {cs : Tabs}
theorem isE (T : Txt K mg cs) {x C : Str} {a : Addr} {i : Nat} {σ : L2.St} {H : Hp} {Q : VK} (hx : x ∈ RAISED) (hs : σ[i]? = some (some (.ref a))) (hC : C ∈ ALLE) (nC : C ≠ "StemError") (q : Q (.bl (decide (x = C))) H) : tCB (rIsH K (cs.e x) a) (tCons (tVar i) (tCons (tC (.ref (cs.e C))) tNil)) σ H Q := by
  have k := T.xk x hx C hC
  rw [decide_eq_false nC, Bool.or_false] at k
  exact ⟨_, hs, .ref (cs.e C), _, rfl, .inl ⟨_, .own _, k⟩, q⟩
/-- two pairs -/
theorem two_words (T : Txt K mg cs) {x C1 C2 : Str} {a : Addr} {i : Nat} {σ : L2.St} {H : Hp} {Q : VK} (hx : x ∈ RAISED) (hs : σ[i]? = some (some (.ref a))) (h1 : C1 ∈ ALLE) (n1 : C1 ≠ "StemError") (h2 : C2 ∈ ALLE) (n2 : C2 ≠ "StemError") (q : ∀ F H', Sm H H' → WordL K H' x F [C1, C2] → Q (.ref F) H') :
    tLst (tCons (tTup (tCons (tC (.str C1)) (tCons (tCB (rIsH K (cs.e x) a) (tCons (tVar i) (tCons (tC (.ref (cs.e C1))) tNil))) tNil))) (tCons (tTup (tCons (tC (.str C2)) (tCons (tCB (rIsH K (cs.e x) a) (tCons (tVar i) (tCons (tC (.ref (cs.e C2))) tNil))) tNil))) tNil)) σ H Q := by
  refine isE T hx hs h1 n1 ⟨(by show 2 ≤ sizeLine; decide), fun t1 ht1 => ?_⟩
  refine isE T hx hs h2 n2 ⟨(by show 2 ≤ sizeLine; decide), fun t2 ht2 => ⟨(by show 2 ≤ sizeLine; decide), fun F hF => ?_⟩⟩
  have s1 := Sm.new (o := .tup [.str C1, .bl (decide (x = C1))]) ht1
  have s2 := Sm.new (o := .tup [.str C2, .bl (decide (x = C2))]) ht2
  have s3 := Sm.new (o := .lst [V.ref t1, V.ref t2]) hF
  exact q F _ (s1.trans (s2.trans s3)) ⟨_, upd_same, .cons ⟨t1, rfl, Sm.seqT (s2.trans s3) (SqT.of upd_same)⟩ (.cons ⟨t2, rfl, Sm.seqT s3 (SqT.of upd_same)⟩ .nil)⟩
theorem ok_law_word (T : Txt K mg cs) : CalP P w K mg base 1 "_law_word" ["caught"] (spWord cs) := by
  refine T.f_law_word.calP scLawWord (fun a cls d vs H Q E h => ?_) (fun f cdv A outer s H vs Q E p cls d hz hot hr h => ?_)
  · obtain ⟨_, rfl, _⟩ := h
    rfl
  obtain ⟨x, rfl, hx, rfl, rfl, q⟩ := h
  refine ⟨_, (pss_cons (ps_set (i := 1) scLawWord.nd rfl (by first | exact Or.inl rfl | exact Or.inr rfl) (pe_lst (pa_cons (pe_tup (pa_cons pe_str (pa_cons (pe_callB (call_isH (T.xc x hx).is hz (hot.2.imp fun _ h => h.1) (List.mem_singleton.mpr rfl)) rfl T.n_isinstance (by decide +kernel) (pa_cons (pv 0) (pa_cons (pe_glob (v := .ref (cs.e "Within")) rfl (T.xg "Within" (by simp [ALLE])) rfl) pa_nil))) pa_nil))) (pa_cons (pe_tup (pa_cons pe_str (pa_cons (pe_callB (call_isH (T.xc x hx).is hz (hot.2.imp fun _ h => h.1) (List.mem_singleton.mpr rfl)) rfl T.n_isinstance (by decide +kernel) (pa_cons (pv 0) (pa_cons (pe_glob (v := .ref (cs.e "TooDeep")) rfl (T.xg "TooDeep" (by simp [ALLE])) rfl) pa_nil))) pa_nil))) pa_nil))))
    (pss_cons (ps_set (i := 1) scLawWord.nd rfl (by first | exact Or.inl rfl | exact Or.inr rfl) (pe_op op_cat (pv 1) (pe_lst (pa_cons (pe_tup (pa_cons pe_str (pa_cons (pe_callB (call_isH (T.xc x hx).is hz (hot.2.imp fun _ h => h.1) (List.mem_singleton.mpr rfl)) rfl T.n_isinstance (by decide +kernel) (pa_cons (pv 0) (pa_cons (pe_glob (v := .ref (cs.e "NoRef")) rfl (T.xg "NoRef" (by simp [ALLE])) rfl) pa_nil))) pa_nil))) (pa_cons (pe_tup (pa_cons pe_str (pa_cons (pe_callB (call_isH (T.xc x hx).is hz (hot.2.imp fun _ h => h.1) (List.mem_singleton.mpr rfl)) rfl T.n_isinstance (by decide +kernel) (pa_cons (pv 0) (pa_cons (pe_glob (v := .ref (cs.e "NoWorth")) rfl (T.xg "NoWorth" (by simp [ALLE])) rfl) pa_nil))) pa_nil))) pa_nil)))))
    (pss_cons (ps_set (i := 1) scLawWord.nd rfl (by first | exact Or.inl rfl | exact Or.inr rfl) (pe_op op_cat (pv 1) (pe_lst (pa_cons (pe_tup (pa_cons pe_str (pa_cons (pe_callB (call_isH (T.xc x hx).is hz (hot.2.imp fun _ h => h.1) (List.mem_singleton.mpr rfl)) rfl T.n_isinstance (by decide +kernel) (pa_cons (pv 0) (pa_cons (pe_glob (v := .ref (cs.e "NoHead")) rfl (T.xg "NoHead" (by simp [ALLE])) rfl) pa_nil))) pa_nil))) (pa_cons (pe_tup (pa_cons pe_str (pa_cons (pe_callB (call_isH (T.xc x hx).is hz (hot.2.imp fun _ h => h.1) (List.mem_singleton.mpr rfl)) rfl T.n_isinstance (by decide +kernel) (pa_cons (pv 0) (pa_cons (pe_glob (v := .ref (cs.e "NoJob")) rfl (T.xg "NoJob" (by simp [ALLE])) rfl) pa_nil))) pa_nil))) pa_nil)))))
    (pss_cons (ps_set (i := 1) scLawWord.nd rfl (by first | exact Or.inl rfl | exact Or.inr rfl) (pe_op op_cat (pv 1) (pe_lst (pa_cons (pe_tup (pa_cons pe_str (pa_cons (pe_callB (call_isH (T.xc x hx).is hz (hot.2.imp fun _ h => h.1) (List.mem_singleton.mpr rfl)) rfl T.n_isinstance (by decide +kernel) (pa_cons (pv 0) (pa_cons (pe_glob (v := .ref (cs.e "Held")) rfl (T.xg "Held" (by simp [ALLE])) rfl) pa_nil))) pa_nil))) (pa_cons (pe_tup (pa_cons pe_str (pa_cons (pe_callB (call_isH (T.xc x hx).is hz (hot.2.imp fun _ h => h.1) (List.mem_singleton.mpr rfl)) rfl T.n_isinstance (by decide +kernel) (pa_cons (pv 0) (pa_cons (pe_glob (v := .ref (cs.e "NoDealing")) rfl (T.xg "NoDealing" (by simp [ALLE])) rfl) pa_nil))) pa_nil))) pa_nil)))))
    (pss_cons (ps_set (i := 1) scLawWord.nd rfl (by first | exact Or.inl rfl | exact Or.inr rfl) (pe_op op_cat (pv 1) (pe_lst (pa_cons (pe_tup (pa_cons pe_str (pa_cons (pe_callB (call_isH (T.xc x hx).is hz (hot.2.imp fun _ h => h.1) (List.mem_singleton.mpr rfl)) rfl T.n_isinstance (by decide +kernel) (pa_cons (pv 0) (pa_cons (pe_tup (pa_cons (pe_glob (v := .ref (cs.e "Erring")) rfl (T.xg "Erring" (by simp [ALLE])) rfl) (pa_cons (pe_glob (v := .ref (cs.e "NoLabel")) rfl (T.xg "NoLabel" (by simp [ALLE])) rfl) (pa_cons (pe_glob (v := .ref (cs.e "NoLock")) rfl (T.xg "NoLock" (by simp [ALLE])) rfl) (pa_cons (pe_glob (v := .ref (cs.e "NoProgram")) rfl (T.xg "NoProgram" (by simp [ALLE])) rfl) (pa_cons (pe_glob (v := .ref (cs.e "NoText")) rfl (T.xg "NoText" (by simp [ALLE])) rfl) (pa_cons (pe_glob (v := .ref (cs.e "TooLong")) rfl (T.xg "TooLong" (by simp [ALLE])) rfl) (pa_cons (pe_glob (v := .ref (cs.e "Waiting")) rfl (T.xg "Waiting" (by simp [ALLE])) rfl) pa_nil)))))))) pa_nil))) pa_nil))) pa_nil))))
    (pss_cons (ps_setLcH (i := 2) (own := [("word", 3), ("there", 4)]) (g := gTup K 2 (gCons (gName 3) (gCons (gName 4) gNil))) (tt := _) ⟨p, hot, List.mem_singleton.mpr rfl⟩ scLawWord.nd rfl rfl (sw_true rfl rfl rfl (by decide +kernel)) (pi_listH (pv 1)) (blkOk_by (own := [("word", 3), ("there", 4)]) (N := ["caught", "pairs", "found", "word", "there"]) (sc := defScope sLawWord) (by decide +kernel)) (fun p _ _ _ _ _ hp => (pg_tupH (hot_blk hp) (pgs_cons (pg_name (i := 3) scLawWord.nd rfl (by first | exact Or.inl rfl | exact Or.inr rfl)) (pgs_cons (pg_name (i := 4) scLawWord.nd rfl (by first | exact Or.inl rfl | exact Or.inr rfl)) pgs_nil)))) (fun _ _ _ _ _ _ => (pts_one (pt_val (pv 4)))) (fun _ _ _ _ _ _ => (pv 3)))
    (pss_one (ps_ret (pe_ifExp (PW.pt (pw_and (pt_cmpR op_eq (pe_callB (lenQ K) rfl T.n_len (by decide +kernel) (pa_cons (pv 2) pa_nil)) pe_int (nomark _)) (pw_and1 (pt_val (pe_callB (call_isH (T.xc x hx).is hz (hot.2.imp fun _ h => h.1) (List.mem_singleton.mpr rfl)) rfl T.n_isinstance (by decide +kernel) (pa_cons (pv 0) (pa_cons (pe_bltn (v := .ty "ValueError") rfl T.n_ValueError (by decide +kernel) rfl) pa_nil))))))) (pe_ix (ixL K) (pv 2) pe_int (fun _ _ => rfl)) pe_str))))))))), ?_⟩
  have mem : ∀ {C : Str}, C ∈ ALLE → C ∈ ALLE := fun h => h
  refine run_set ?_
  refine two_words T hx rfl (by simp [ALLE]) (by decide +kernel) (by simp [ALLE]) (by decide +kernel) fun F1 H1 S1 W1 => ?_
  refine run_set ⟨_, rfl, ?_⟩
  refine two_words T hx rfl (by simp [ALLE]) (by decide +kernel) (by simp [ALLE]) (by decide +kernel) fun B1 H2 S2 V1 => ?_
  refine word_cat (W1.sm S2) V1 (by decide) fun F2 H3 S3 W2 => ?_
  refine run_set ⟨_, rfl, ?_⟩
  refine two_words T hx rfl (by simp [ALLE]) (by decide +kernel) (by simp [ALLE]) (by decide +kernel) fun B2 H4 S4 V2 => ?_
  refine word_cat (W2.sm S4) V2 (by decide) fun F3 H5 S5 W3 => ?_
  refine run_set ⟨_, rfl, ?_⟩
  refine two_words T hx rfl (by simp [ALLE]) (by decide +kernel) (by simp [ALLE]) (by decide +kernel) fun B3 H6 S6 V3 => ?_
  refine word_cat (W3.sm S6) V3 (by decide) fun F4 H7 S7 W4 => ?_
  have S07 := (S1.trans (S2.trans S3)).trans ((S4.trans S5).trans (S6.trans S7))
  -- the others
  refine run_set ⟨_, rfl, ?_⟩
  refine ⟨_, rfl, (by show 7 ≤ sizeLine; decide), fun t ht => ?_⟩
  have nk : PySem.W.kitAny K (.ref (cs.e x)) [.ref (cs.e "Erring"), .ref (cs.e "NoLabel"), .ref (cs.e "NoLock"), .ref (cs.e "NoProgram"), .ref (cs.e "NoText"), .ref (cs.e "TooLong"), .ref (cs.e "Waiting")] = some false := by
    have no : ∀ C ∈ ALLE, x ≠ C → C ≠ "StemError" → PySem.W.kitOne K (.ref (cs.e x)) (.ref (cs.e C)) = some false := fun C hC n1 n2 => by
      have k := T.xk x hx C hC
      rwa [decide_eq_false n2, decide_eq_false n1] at k
    have ne : ∀ C ∈ (["Erring", "NoLabel", "NoLock", "NoProgram", "NoText", "TooLong", "Waiting"] : List Str), x ≠ C := by
      simp only [RAISED, List.mem_cons, List.not_mem_nil, or_false] at hx
      rcases hx with rfl | rfl | rfl | rfl <;> decide +kernel
    refine kitAny_cons (no "Erring" (by simp [ALLE]) (ne _ (by simp)) (by decide +kernel)) (fun _ => ?_) (fun z => z)
    refine kitAny_cons (no "NoLabel" (by simp [ALLE]) (ne _ (by simp)) (by decide +kernel)) (fun _ => ?_) (fun z => z)
    refine kitAny_cons (no "NoLock" (by simp [ALLE]) (ne _ (by simp)) (by decide +kernel)) (fun _ => ?_) (fun z => z)
    refine kitAny_cons (no "NoProgram" (by simp [ALLE]) (ne _ (by simp)) (by decide +kernel)) (fun _ => ?_) (fun z => z)
    refine kitAny_cons (no "NoText" (by simp [ALLE]) (ne _ (by simp)) (by decide +kernel)) (fun _ => ?_) (fun z => z)
    refine kitAny_cons (no "TooLong" (by simp [ALLE]) (ne _ (by simp)) (by decide +kernel)) (fun _ => ?_) (fun z => z)
    exact kitAny_cons (no "Waiting" (by simp [ALLE]) (ne _ (by simp)) (by decide +kernel)) (fun _ => rfl) (fun z => z)
  have st := Sm.new (o := .tup [.ref (cs.e "Erring"), .ref (cs.e "NoLabel"), .ref (cs.e "NoLock"), .ref (cs.e "NoProgram"), .ref (cs.e "NoText"), .ref (cs.e "TooLong"), .ref (cs.e "Waiting")]) ht
  refine ⟨.ref t, _, rfl, .inr ⟨t, _, _, rfl, upd_same, .cons (.own _) (.cons (.own _) (.cons (.own _) (.cons (.own _) (.cons (.own _) (.cons (.own _) (.cons (.own _) .nil)))))), nk⟩, (by show 2 ≤ sizeLine; decide), fun t9 ht9 => ⟨(by show 1 ≤ sizeLine; decide), fun B9 hB9 => ?_⟩⟩
  have s9 := Sm.new (o := .tup [.str "odd", .bl false]) ht9
  have s10 := Sm.new (o := .lst [V.ref t9]) hB9
  have odd : decide (x = "odd") = false := by
    simp only [RAISED, List.mem_cons, List.not_mem_nil, or_false] at hx
    rcases hx with rfl | rfl | rfl | rfl <;> decide +kernel
  have V9 : WordL K (upd (upd (upd H7 t (.tup [.ref (cs.e "Erring"), .ref (cs.e "NoLabel"), .ref (cs.e "NoLock"), .ref (cs.e "NoProgram"), .ref (cs.e "NoText"), .ref (cs.e "TooLong"), .ref (cs.e "Waiting")])) t9 (.tup [.str "odd", .bl false])) B9 (.lst [.ref t9])) x B9 ["odd"] := ⟨_, upd_same, .cons ⟨t9, rfl, by rw [odd]; exact Sm.seqT s10 (SqT.of upd_same)⟩ .nil⟩
  have S710 := st.trans (s9.trans s10)
  refine word_cat (W4.sm S710) V9 (by decide) fun F5 H11 S11 W5 => ?_
  have S011 := S07.trans (S710.trans S11)
  -- those that are so
  obtain ⟨vs, hvs, pv⟩ := W5
  have pl := pairA_len pv
  refine run_set ⟨_, rfl, F5, rfl, ⟨_, SqL.of hvs⟩, fun D hD => ?_⟩
  refine lc_list (K := K) (a := F5) (xs := vs) (fun i H' => Sm H11 H' ∧ H' D = some (.lst (((WORDS.take i).filter fun n => decide (x = n)).map V.str))) ⟨Sm.new hD, by rw [List.take_zero]; exact upd_same⟩ (fun i H' _ h => SqL.of (h.1 _ _ hvs)) (fun i v H' hi h => ?_) fun H' h => ?_
  · obtain ⟨n, hn, a, rfl, sq⟩ := pairA_at pv hi
    refine ⟨a, _, rfl, Sm.seqT h.1 sq, rfl, _, _, rfl, _, _, rfl, rfl, rfl, ?_⟩
    have hn : WORDS[i]? = some n := hn
    refine ⟨_, rfl, _, rfl, ?_⟩
    have snoc : (WORDS.take (i + 1)).filter (fun n => decide (x = n)) = (WORDS.take i).filter (fun n => decide (x = n)) ++ [n].filter fun n => decide (x = n) := by
      rw [List.take_add_one, hn, List.filter_append]
      rfl
    refine ite2 (fun c => ?_) (fun c => ?_)
    · have len : ((WORDS.take i).filter fun n => decide (x = n)).length ≤ 9 := Nat.le_trans (List.length_filter_le _ _) (by rw [List.length_take]; exact Nat.min_le_right _ _)
      refine ⟨_, rfl, _, h.2, small' (by rw [List.length_map]; omega), Sm.own h.1 hD (no_tbl h.2), ?_⟩
      rw [snoc, show [n].filter (fun n => decide (x = n)) = [n] from by rw [List.filter_cons, if_pos c]; rfl, List.map_append]
      exact upd_same
    · refine ⟨h.1, ?_⟩
      rw [snoc, show [n].filter (fun n => decide (x = n)) = [] from by rw [List.filter_cons, if_neg c]; rfl, List.append_nil]
      exact h.2
  · obtain ⟨hs, hD'⟩ := h
    have all : ((WORDS.take vs.length).filter fun n => decide (x = n)).map V.str = [.str x] := by
      rw [pl]
      show (WORDS.filter fun n => decide (x = n)).map V.str = [.str x]
      simp only [RAISED, List.mem_cons, List.not_mem_nil, or_false] at hx
      rcases hx with rfl | rfl | rfl | rfl <;> decide +kernel
    rw [all] at hD'
    refine run_ret ⟨_, rfl, D, _, rfl, .inl (SqL.of hD'), rfl, ?_⟩
    refine ⟨_, rfl, ?_⟩
    refine iteT ?_
    refine ⟨_, rfl, .ty "ValueError", true, rfl, .inl ⟨_, .ty _, (T.xc x hx).ve⟩, _, rfl, iteT ?_⟩
    exact ⟨_, rfl, D, _, 0, _, rfl, rfl, SqL.of hD', atI_nat (j := 0) rfl, q H' (S011.trans hs)⟩
end
/-! ### asking rows, short references: of any thing -/
def askD : D → Bool
  | .tup l => match l.getLast? with
    | some z => decide (l.length ≤ 6) && (l.dropLast.all kD && (wD z && decide (lenD z ≤ 40)))
    | none => false
  | _ => false
def askRefD : D → Bool
  | .tup [x, y] => nD x && askD y
  | _ => false
def shortD : D → Bool
  | .tup [.str z, y] => decide (z = "") && askD y
  | _ => false
theorem askD_snoc (es : List D) (z : D) : askD (.tup (es ++ [z])) = (decide (es.length + 1 ≤ 6) && (es.all kD && (wD z && decide (lenD z ≤ 40)))) := by
  simp only [askD, List.getLast?_concat, List.dropLast_concat, List.length_append, List.length_singleton]
theorem thAll_snoc {K : PySem.W.Frag} {av : Addr → Prop} {n : Nat} {H : Hp} {v : V} : ∀ {ys : List V} {ds : List D}, ThAll K av n H (ys ++ [v]) ds → ∃ es d, ds = es ++ [d] ∧ ThAll K av n H ys es ∧ Th K av n H v d
  | [], _, .cons h .nil => ⟨[], _, rfl, .nil, h⟩
  | y :: ys, _, .cons h t => by
    obtain ⟨es, d, rfl, t', h'⟩ := thAll_snoc t
    exact ⟨_ :: es, d, rfl, .cons h t', h'⟩
theorem slice_butV {K : PySem.W.Frag} {t : Addr} {ys : List V} {v : V} {H : Hp} {Q : VK} (h : SqT K H t (ys ++ [v])) (q : ∀ p H', Sm H H' → SqT K H' p ys → Q (.ref p) H') : rSlA K (.ref t) none (some (-1)) H Q := by
  have e1 : HT.sIx (ys ++ [v]).length (ys ++ [v]).length (some (-1)) = ys.length := by
    rw [List.length_append, List.length_singleton]
    show (if (-1 : Int) < 0 then ((-1 : Int) + ((ys.length + 1 : Nat) : Int)).toNat else min ((-1 : Int)).toNat (ys.length + 1)) = _
    rw [if_pos (by decide)]
    omega
  refine ⟨t, _, rfl, h, fun e => ?_, fun _ p hp => ?_⟩
  · have e2 := e.2
    rw [e1, List.length_append, List.length_singleton] at e2
    omega
  · have e3 : cutV (ys ++ [v]) none (some (-1)) = ys := by
      unfold cutV
      rw [e1, HT.sIx_none, List.drop_zero, Nat.sub_zero, List.take_left]
    rw [e3]
    exact q p _ (Sm.new hp) (SqT.of upd_same)
section
variable {P : Program} {w : World} {K : PySem.W.Frag} {mg : Str → Option Value} {base : Heap} {cs : Tabs}
theorem ok_asking_rowA (T : Txt K mg cs) (Cis_worth : Cal P w K mg base 2 "is_worth" ["thing"] (spD wD K cs)) (Cis_row : Cal P w K mg base 5 "is_row" ["thing"] (spD rowD K cs)) : Cal P w K mg base 6 "is_asking_row" ["thing"] (spD askD K cs) := by
  refine T.f_is_asking_row.cal scIsAskingRow (fun vs H Q E h => ?_) (fun f cdv A outer s H vs Q E hr h => ?_)
  · obtain ⟨v, d, n, av, rfl, _⟩ := h
    rfl
  obtain ⟨v, d, n, av, rfl, th, A1, hn, hT, q⟩ := h
  refine ⟨_, (pss_cons (ps_if (PW.pt (pw_or (pt_not (pt_val (pe_callB (isI K) rfl T.n_isinstance (by decide +kernel) (pa_cons (pv 0) (pa_cons (pe_bltn (v := .ty "tuple") rfl T.n_tuple (by decide +kernel) rfl) pa_nil))))) (pw_or1 (pt_not (pt_chain op_le op_le pe_int (pe_callB (lenQ K) rfl T.n_len (by decide +kernel) (pa_cons (pv 0) pa_nil)) (C8.pe_gc rfl T.g_MOST_KEYS)))))) (pss_one (ps_ret pe_bl)) pss_nil)
    (pss_cons (ps_set (i := 1) scIsAskingRow.nd rfl (by first | exact Or.inl rfl | exact Or.inr rfl) (pe_ix (ixT K) (pv 0) (pe_un un_neg pe_int) (fun _ _ => rfl)))
    (pss_one (ps_ret (pe_and (pe_cal Cis_row (hr.mono (by first | decide | omega)) (pa_cons (pe_slice (slT K) (pv 0) po_none (po_some (pe_un un_neg pe_int))) pa_nil)) (pe_and (pe_cal Cis_worth (hr.mono (by first | decide | omega)) (pa_cons (pv 1) pa_nil)) (pe_one (pe_cmpR op_le (pe_callB lenT rfl T.n_len (by decide +kernel) (pa_cons (pv 1) pa_nil)) (C8.pe_gc rfl T.g__LONGEST_KEY) (nomark _))))))))), ?_⟩
  refine run_if ?_
  refine ⟨_, rfl, _, _, _, _, _, rfl, ClsV.ty "tuple", th.tyx, kitT d, _, rfl, ?_⟩
  by_cases c : d.isTup = true
  rotate_left
  · rw [Bool.eq_false_iff.mpr c]
    refine iteT ?_
    refine iteT ?_
    have e : askD d = false := by cases d <;> first | rfl | exact absurd rfl c
    exact run_ret (e ▸ q H (Sm.refl H))
  rw [c]
  refine iteF ?_
  obtain ⟨t, xs, ds, rfl, rfl, h, hx, ha⟩ := tup_of th c
  have len := ha.len
  refine ⟨_, rfl, t, _, rfl, .inr h, ?_⟩
  refine ⟨1, (xs.length : Int), rfl, rfl, _, rfl, ?_⟩
  by_cases c1 : 1 ≤ xs.length
  rotate_left
  · rw [show decide ((1 : Int) ≤ (xs.length : Int)) = false from decide_eq_false (by omega)]
    have e0 : xs = [] := List.eq_nil_of_length_eq_zero (by omega)
    subst e0
    cases ha
    exact iteF ⟨_, rfl, iteT (run_ret (q H (Sm.refl H)))⟩
  rw [show decide ((1 : Int) ≤ (xs.length : Int)) = true from decide_eq_true (by omega)]
  refine iteT ?_
  refine ⟨(xs.length : Int), 6, rfl, rfl, _, rfl, ?_⟩
  obtain ⟨ys, v, rfl⟩ : ∃ ys v, xs = ys ++ [v] := ⟨_, _, (List.dropLast_concat_getLast (by intro e; subst e; simp at c1)).symm⟩
  obtain ⟨es, z, rfl, hy, hz⟩ := thAll_snoc ha
  have ly := hy.len
  rw [askD_snoc] at q
  rw [List.length_append, List.length_singleton]
  by_cases c2 : ys.length + 1 ≤ 6
  rotate_left
  · rw [show decide (((ys.length + 1 : Nat) : Int) ≤ 6) = false from decide_eq_false (by omega)]
    rw [decide_eq_false (show ¬ es.length + 1 ≤ 6 by omega), Bool.false_and] at q
    exact iteT (run_ret (q H (Sm.refl H)))
  rw [show decide (((ys.length + 1 : Nat) : Int) ≤ 6) = true from decide_eq_true (by omega)]
  rw [decide_eq_true (show es.length + 1 ≤ 6 by omega), Bool.true_and] at q
  refine iteF ?_
  refine run_next ?_
  dsimp only
  refine run_set ⟨_, rfl, 1, rfl, t, _, -1, v, rfl, rfl, h, atI_last _ _, ?_⟩
  dsimp only
  refine run_ret ?_
  refine ⟨_, rfl, 1, rfl, -1, rfl, slice_butV h fun p' H1 S1 h1 => ?_⟩
  have t1 : Th K av n H1 (.ref p') (.tup es) := .tup h1 (by omega) (hy.ko A1 (KO.sm S1))
  refine ⟨_, _, n, av, rfl, t1, A1.sm S1, hn, hT.sm S1, fun H2 S2 => ?_⟩
  have er : rowD (.tup es) = es.all kD := by
    show (decide (es.length ≤ 6) && es.all kD) = _
    rw [decide_eq_true (by omega), Bool.true_and]
  rw [er]
  refine ⟨_, rfl, ?_⟩
  have S12 := S1.trans S2
  refine ite2 (fun k1 => ?_) (fun k1 => ?_)
  rotate_left
  · rw [Bool.eq_false_iff.mpr k1, Bool.false_and] at q
    have := q H2 S12
    exact this
  rw [k1, Bool.true_and] at q
  refine ⟨_, rfl, v, z, n, av, rfl, hz.ko A1 (KO.sm S12), A1.sm S12, hn, hT.sm S12, fun H3 S3 => ⟨_, rfl, ?_⟩⟩
  refine ite2 (fun k2 => ?_) (fun k2 => ?_)
  rotate_left
  · rw [Bool.eq_false_iff.mpr k2, Bool.false_and] at q
    exact q H3 (S12.trans S3)
  rw [k2, Bool.true_and] at q
  have cz : z.isStr = true := by cases z <;> first | rfl | cases k2
  obtain ⟨y, rfl, rfl, hl, hasc⟩ := str_of hz cz
  refine ⟨_, rfl, y, rfl, ?_, _, _, rfl, rfl, ?_⟩
  · rw [len_tl]
    exact Nat.le_trans (Nat.le_trans hl (show 400 + n ≤ 410 by omega)) (by decide)
  · have e : decide ((y.length : Int) ≤ 40) = decide (lenD (.str y) ≤ 40) := by
      rw [decide_eq_decide, len_tl]
      show _ ↔ (tl y).length ≤ 40
      omega
    show Q (.bl (decide ((y.length : Int) ≤ 40))) H3
    rw [e]
    exact q H3 (S12.trans S3)
end
/-! ### what checks refuse, of things of any kind -/
def spNo (f : D → Bool) (x : Str) (K : PySem.W.Frag) (cs : Tabs) : Sp := fun vs H _ E => ∃ (v : V) (d : D) (n : Nat) (av : Addr → Prop), vs = [v] ∧ Th K av n H v d ∧ AvL av H ∧ n ≤ 10 ∧ f d = false ∧ TGs H cs ∧ Ref cs x E H
section
variable {P : Program} {w : World} {K : PySem.W.Frag} {mg : Str → Option Value} {base : Heap} {cs : Tabs}
theorem ok_asking_refA (T : Txt K mg cs) (Cis_pair : Cal P w K mg base 1 "is_pair" ["thing"] (spD (fun d => d.isTup && decide (lenD d = 2)) K cs)) (Cis_name : Cal P w K mg base 2 "is_name" ["thing"] (spD nD K cs)) (Cis_asking_row : Cal P w K mg base 6 "is_asking_row" ["thing"] (spD askD K cs)) : Cal P w K mg base 7 "is_asking_reference" ["thing"] (spD askRefD K cs) := by
  refine T.f_is_asking_reference.cal scIsAskingReference (fun vs H Q E h => ?_) (fun f cdv A outer s H vs Q E hr h => ?_)
  · obtain ⟨v, d, n, av, rfl, _⟩ := h
    rfl
  obtain ⟨v, d, n, av, rfl, th, A1, hn, hT, q⟩ := h
  refine ⟨_, (pss_one (ps_ret (pe_and (pe_cal Cis_pair (hr.mono (by first | decide | omega)) (pa_cons (pv 0) pa_nil)) (pe_and (pe_cal Cis_name (hr.mono (by first | decide | omega)) (pa_cons (pe_ix (ixT K) (pv 0) pe_int (fun _ _ => rfl)) pa_nil)) (pe_one (pe_cal Cis_asking_row (hr.mono (by first | decide | omega)) (pa_cons (pe_ix (ixT K) (pv 0) pe_int (fun _ _ => rfl)) pa_nil))))))), ?_⟩
  refine ⟨_, rfl, v, d, n, av, rfl, th, A1, hn, hT, fun H1 S1 => ⟨_, rfl, ?_⟩⟩
  refine ite2 (fun c => ?_) (fun c => ?_)
  rotate_left
  · have e : askRefD d = false := by
      unfold askRefD
      split
      · exact absurd rfl c
      · rfl
    exact e ▸ q H1 S1
  rw [Bool.and_eq_true] at c
  obtain ⟨a, xs, ds, rfl, rfl, h, hx, ha⟩ := tup_of th c.1
  obtain ⟨x, y, rfl, dx, dy, rfl, tx, ty⟩ := two_of ha (of_decide_eq_true c.2)
  have q : ∀ H', Sm H H' → Q (.bl (nD dx && askD dy)) H' := q
  refine ⟨_, rfl, a, _, 0, _, rfl, rfl, Sm.seqT S1 h, atI_nat (j := 0) rfl, x, dx, n, av, rfl, tx.ko A1 (KO.sm S1), A1.sm S1, hn, hT.sm S1, fun H2 S2 => ⟨_, rfl, ?_⟩⟩
  have S12 := S1.trans S2
  refine ite2 (fun c2 => ?_) (fun c2 => ?_)
  rotate_left
  · rw [Bool.eq_false_iff.mpr c2, Bool.false_and] at q
    exact q H2 S12
  rw [c2, Bool.true_and] at q
  exact ⟨_, rfl, a, _, 1, _, rfl, rfl, Sm.seqT S12 h, atI_nat (j := 1) rfl, y, dy, n, av, rfl, ty.ko A1 (KO.sm S12), A1.sm S12, hn, hT.sm S12, fun H3 S3 => q H3 (S12.trans S3)⟩
theorem ok_need_worthX (T : Txt K mg cs) (Cis_worth : Cal P w K mg base 2 "is_worth" ["thing"] (spD wD K cs)) : CalX P w K mg base 3 "need_worth" ["thing"] (spNo wD "NoWorth" K cs) := by
  refine T.f_need_worth.calX scNeedWorth (fun vs H Q E h => ?_) (fun f cdv A outer s H vs Q E hr h => ?_)
  · obtain ⟨_, _, _, _, rfl, _⟩ := h
    rfl
  obtain ⟨v, d, n, av, rfl, th, A1, hn, e, hT, r⟩ := h
  refine ⟨_, (pss_one (ps_if (pt_not (pt_val (pe_cal Cis_worth (hr.mono (by first | decide | omega)) (pa_cons (pv 0) pa_nil)))) (pss_one (L2N.ps_raise rfl (L2N.takes_of rfl rfl rfl rfl) (pmk_own0 PySem.F.excBase_ValueError (T.xc "NoWorth" (by simp [RAISED])).ex (T.xg "NoWorth" (by simp [ALLE])) (T.xc "NoWorth" (by simp [RAISED])).kp (raises_own (T.xc "NoWorth" (by simp [RAISED])).bs (T.xc "NoWorth" (by simp [RAISED])).ty)))) pss_nil)), ?_⟩
  refine ⟨_, rfl, v, d, n, av, rfl, th, A1, hn, hT, fun H1 S1 => ⟨_, rfl, ?_⟩⟩
  rw [e]
  exact iteT (r H1 S1)
end
/-! ### what is meant, refused: of any thing -/
def lastNe : D → Bool
  | .tup [_, .tup l] => match l.getLast? with
    | some (.str z) => !decide (z = "")
    | _ => true
  | _ => true
def meanD (d : D) : Bool := shortD d && lastNe d
/-- a good short one, refused for its head -/
def HeadX (cs : Tabs) (last : Option (Str × List Str × Str)) (s : List Str) (E : XK) (H : Hp) : Prop := (last = none ∧ Ref cs "NoHead" E H) ∨ ∃ nm h z, last = some (nm, h, z) ∧ 6 < h.length + s.length ∧ Ref cs "TooDeep" E H
theorem HeadX.sm {cs : Tabs} {last : Option (Str × List Str × Str)} {s : List Str} {E : XK} {H H' : Hp} (r : HeadX cs last s E H) (m : Sm H H') : HeadX cs last s E H' := by
  rcases r with ⟨e, r⟩ | ⟨nm, h, z, e, l, r⟩
  · exact .inl ⟨e, r.sm m⟩
  · exact .inr ⟨nm, h, z, e, l, r.sm m⟩
def spLongX (K : PySem.W.Frag) (cs : Tabs) : Sp := fun vs H _ E => ∃ (v : V) (t : Addr) (s : List Str) (last : Option (Str × List Str × Str)), vs = [v, .ref t] ∧ LastV K H v last ∧ SqT K H t (s.map V.str) ∧ s.length ≤ 6 ∧ HeadX cs last s E H
/-- what is no reference to a desk; ord: where it is asked for next keys -/
def BadT (K : PySem.W.Frag) (cs : Tabs) (H : Hp) (ord : Bool) (u : V) (E : XK) : Prop := ∃ (d : D) (n : Nat) (av : Addr → Prop), Th K av n H u d ∧ AvL av H ∧ n ≤ 10 ∧ (if ord = true then shortD d = false ∧ askRefD d = false else meanD d = false ∧ refD d = false) ∧ Ref cs "NoRef" E H
def ShortT (K : PySem.W.Frag) (cs : Tabs) (H : Hp) (u : V) (last : Option (Str × List Str × Str)) (E : XK) : Prop := ∃ (p : Addr) (s : List Str), u = .ref p ∧ RefAt K H p "" s ∧ s ≠ [] ∧ s.length ≤ 6 ∧ (∀ y ∈ s, KEY y) ∧ HeadX cs last s E H
def spMeantX (K : PySem.W.Frag) (cs : Tabs) (ord : Bool) : Sp := fun vs H _ E => ∃ (d dx arr : Addr) (v u : V) (last : Option (Str × List Str × Str)), vs = [.ref d, u] ∧ H d = some (.ins cs.a_Desk dx (dFs arr v)) ∧ LastV K H v last ∧ TGs H cs ∧ (BadT K cs H ord u E ∨ ShortT K cs H u last E)
theorem askD_good {a : List Str} {y : Str} (le : a.length + 1 ≤ 6) (hk : ∀ z ∈ a, KEY z) (hy : WT y 40) : askD (.tup ((a ++ [y]).map D.str)) = true := by
  rw [List.map_append]
  show askD (.tup (a.map D.str ++ [.str y])) = true
  rw [askD_snoc, List.length_map, decide_eq_true le, all_true fun d hd => ?_]
  · show (wD (.str y) && decide ((tl y).length ≤ 40)) = true
    rw [show wD (.str y) = true from all_true hy.sg, decide_eq_true hy.len]
    rfl
  · obtain ⟨z, hz, rfl⟩ := List.mem_map.mp hd
    have kz := hk z hz
    show ((tl z).all sgn && (decide (1 ≤ (tl z).length) && decide ((tl z).length ≤ 40))) = true
    rw [all_true kz.wt.sg, decide_eq_true kz.pos, decide_eq_true kz.wt.len]
    rfl
theorem short_good {a : List Str} {y : Str} (le : a.length + 1 ≤ 6) (hk : ∀ z ∈ a ++ [y], KEY z) : shortD (.tup [.str "", .tup ((a ++ [y]).map D.str)]) = true := by
  show (decide (("" : Str) = "") && askD (.tup ((a ++ [y]).map D.str))) = true
  rw [askD_good le (fun z hz => hk z (by simp [hz])) (hk y (by simp)).wt, decide_eq_true rfl]
  rfl
theorem LastV.sm {K : PySem.W.Frag} {H H' : Hp} {v : V} {o : Option (Str × List Str × Str)} (L : LastV K H v o) (s : Sm H H') : LastV K H' v o := L.out (W := fun _ => False) (Ch.sm s) fun _ z => z.elim
section
variable {P : Program} {w : World} {K : PySem.W.Frag} {mg : Str → Option Value} {base : Heap} {cs : Tabs}
theorem ok_shortA (T : Txt K mg cs) (Cis_pair : Cal P w K mg base 1 "is_pair" ["thing"] (spD (fun d => d.isTup && decide (lenD d = 2)) K cs)) (Cis_asking_row : Cal P w K mg base 6 "is_asking_row" ["thing"] (spD askD K cs)) : Cal P w K mg base 7 "_is_short" ["thing"] (spD shortD K cs) := by
  refine T.f_is_short.cal scIsShort (fun vs H Q E h => ?_) (fun f cdv A outer s H vs Q E hr h => ?_)
  · obtain ⟨v, d, n, av, rfl, _⟩ := h
    rfl
  obtain ⟨v, d, n, av, rfl, th, A1, hn, hT, q⟩ := h
  refine ⟨_, (pss_one (ps_ret (pe_and (pe_cal Cis_pair (hr.mono (by first | decide | omega)) (pa_cons (pv 0) pa_nil)) (pe_and (pe_callB (isI K) rfl T.n_isinstance (by decide +kernel) (pa_cons (pe_ix (ixT K) (pv 0) pe_int (fun _ _ => rfl)) (pa_cons (pe_bltn (v := .ty "str") rfl T.n_str (by decide +kernel) rfl) pa_nil))) (pe_and (pe_cmpR op_eq (pe_ix (ixT K) (pv 0) pe_int (fun _ _ => rfl)) pe_str (nomark _)) (pe_one (pe_cal Cis_asking_row (hr.mono (by first | decide | omega)) (pa_cons (pe_ix (ixT K) (pv 0) pe_int (fun _ _ => rfl)) pa_nil)))))))), ?_⟩
  refine run_ret ⟨_, rfl, v, d, n, av, rfl, th, A1, hn, hT, fun H1 S1 => ⟨_, rfl, ?_⟩⟩
  refine ite2 (fun c => ?_) (fun c => ?_)
  rotate_left
  · have e : shortD d = false := by
      unfold shortD
      split
      · exact absurd rfl c
      · rfl
    exact e ▸ q H1 S1
  rw [Bool.and_eq_true] at c
  obtain ⟨a, xs, ds, rfl, rfl, h, hx, ha⟩ := tup_of th c.1
  obtain ⟨x, y, rfl, dx, dy, rfl, tx, ty⟩ := two_of ha (of_decide_eq_true c.2)
  have h1 := Sm.seqT S1 h
  have tx1 := tx.ko A1 (KO.sm S1)
  refine ⟨_, rfl, a, _, 0, x, rfl, rfl, h1, atI_nat (j := 0) rfl, ?_⟩
  dsimp only [tCons, tNil, tC]
  refine isi_th (c := "str") tx1 (kit_str _) ?_
  rw [isK_str]
  refine ⟨_, rfl, ?_⟩
  refine ite2 (fun c2 => ?_) (fun c2 => ?_)
  rotate_left
  · have e : shortD (.tup [dx, dy]) = false := by cases dx <;> first | rfl | exact absurd rfl c2
    rw [e] at q
    exact q H1 S1
  obtain ⟨z, rfl, rfl, _, _⟩ := str_of tx1 c2
  refine ⟨_, rfl, a, _, 0, .str z, rfl, rfl, h1, atI_nat (j := 0) rfl, rfl, ?_⟩
  have ez : decide (V.str z = V.str "") = decide (z = "") := by
    rw [decide_eq_decide]
    exact ⟨fun e => by injection e, fun e => by rw [e]⟩
  rw [ez]
  refine ⟨_, rfl, ?_⟩
  refine ite2 (fun c3 => ?_) (fun c3 => ?_)
  rotate_left
  · have e : shortD (.tup [.str z, dy]) = false := by
      show (decide (z = "") && askD dy) = false
      rw [Bool.eq_false_iff.mpr c3, Bool.false_and]
    rw [e] at q
    exact q H1 S1
  refine ⟨_, rfl, a, _, 1, y, rfl, rfl, h1, atI_nat (j := 1) rfl, y, dy, n, av, rfl, ty.ko A1 (KO.sm S1), A1.sm S1, hn, hT.sm S1, fun H2 S2 => ?_⟩
  have e : shortD (.tup [.str z, dy]) = askD dy := by
    show (decide (z = "") && askD dy) = askD dy
    rw [c3, Bool.true_and]
  rw [e] at q
  exact q H2 (S1.trans S2)
theorem ok_longX (T : Txt K mg cs) : CalX P w K mg base 1 "long" ["last", "keys"] (fun vs H Q E => spLong K vs H Q E ∨ spLongX K cs vs H Q E) := by
  refine T.f_long.calX scLong (fun vs H Q E h => ?_) (fun f cdv A outer s H vs Q E hr h => ?_)
  · rcases h with ⟨_, _, _, _, _, _, rfl, _⟩ | ⟨_, _, _, _, rfl, _⟩ <;> rfl
  refine ⟨_, (pss_cons (ps_if (PW.pt (pw_or (pt_cmpR op_isN (pv 0) pe_non (nomark _)) (pw_or1 (pt_not (pt_truth (pe_ix (ixT K) (pv 0) pe_int (fun _ _ => rfl)) (by intro _; rfl)))))) (pss_one (L2N.ps_raise rfl (L2N.takes_of rfl rfl rfl rfl) (pmk_own0 PySem.F.excBase_ValueError (T.xc "NoHead" (by simp [RAISED])).ex (T.xg "NoHead" (by simp [ALLE])) (T.xc "NoHead" (by simp [RAISED])).kp (raises_own (T.xc "NoHead" (by simp [RAISED])).bs (T.xc "NoHead" (by simp [RAISED])).ty)))) pss_nil)
    (pss_cons (ps_set (i := 2) scLong.nd rfl (by first | exact Or.inl rfl | exact Or.inr rfl) (pe_op (catA K) (pe_slice (slT K) (pe_ix (ixT K) (pv 0) pe_int (fun _ _ => rfl)) po_none (po_some (pe_un un_neg pe_int))) (pv 1)))
    (pss_cons (ps_if (pt_cmpR op_gt (pe_callB (lenQ K) rfl T.n_len (by decide +kernel) (pa_cons (pv 2) pa_nil)) (C8.pe_gc rfl T.g_MOST_KEYS) (nomark _)) (pss_one (L2N.ps_raise rfl (L2N.takes_of rfl rfl rfl rfl) (pmk_own0 PySem.F.excBase_ValueError (T.xc "TooDeep" (by simp [RAISED])).ex (T.xg "TooDeep" (by simp [ALLE])) (T.xc "TooDeep" (by simp [RAISED])).kp (raises_own (T.xc "TooDeep" (by simp [RAISED])).bs (T.xc "TooDeep" (by simp [RAISED])).ty)))) pss_nil)
    (pss_one (ps_ret (pe_tup (pa_cons (pe_ix (ixT K) (pv 0) pe_int (fun _ _ => rfl)) (pa_cons (pv 2) pa_nil)))))))), ?_⟩
  rcases h with ⟨p, t, nm, h, z, s', rfl, R, ht, hl, q⟩ | ⟨v, t, s', last, rfl, L, ht, hl, hx⟩
  · obtain ⟨t1, h1, h2⟩ := R.ex
    refine run_if ?_
    refine ⟨_, rfl, rfl, _, rfl, iteF ?_⟩
    refine ⟨_, rfl, p, _, 1, .ref t1, rfl, rfl, h1, atI_nat (j := 1) rfl, _, .inr (.inl ⟨_, h2, rfl⟩), ?_⟩
    have e : (!((h ++ [z]).map V.str).isEmpty) = true := by cases h <;> rfl
    rw [e]
    refine iteF ?_
    refine run_next ?_
    dsimp only
    refine run_set ⟨_, rfl, p, _, 1, .ref t1, rfl, rfl, h1, atI_nat (j := 1) rfl, 1, rfl, -1, rfl, slice_but h2 fun p2 H2 S2 hp2 => ⟨_, rfl, ?_⟩⟩
    refine cat_two hp2 (Sm.seqT S2 ht) (by rw [List.length_map, List.length_map]; omega) fun p3 H3 S3 hp3 => ?_
    have S03 := S2.trans S3
    have hp4 : SqT K H3 p3 ((h ++ s').map V.str) := by rw [List.map_append]; exact hp3
    refine run_if ⟨_, rfl, p3, _, rfl, .inr hp4, ?_⟩
    refine ⟨_, 6, rfl, rfl, _, rfl, ?_⟩
    rw [show decide ((6 : Int) < (((h ++ s').map V.str).length : Int)) = false from decide_eq_false (by rw [List.length_map, List.length_append]; omega)]
    refine iteF (run_next ?_)
    dsimp only
    refine run_ret ⟨_, rfl, p, _, 0, .str nm, rfl, rfl, Sm.seqT S03 h1, atI_nat (j := 0) rfl, _, rfl, (by show 2 ≤ sizeLine; decide), fun d hd => ?_⟩
    exact q d _ (S03.trans (Sm.new hd)) (S03.gone _ hd) ⟨p3, SqT.of upd_same, Sm.seqT (Sm.new hd) hp4⟩
  rcases hx with ⟨rfl, r⟩ | ⟨nm, h, z, rfl, le, r⟩
  · obtain rfl : v = .non := L
    exact run_if ⟨_, rfl, rfl, _, rfl, iteT (iteT (r H (Sm.refl H)))⟩
  · obtain ⟨Ak, p, rfl, R⟩ := L
    obtain ⟨t1, h1, h2⟩ := R.ex
    refine run_if ?_
    refine ⟨_, rfl, rfl, _, rfl, iteF ?_⟩
    refine ⟨_, rfl, p, _, 1, .ref t1, rfl, rfl, h1, atI_nat (j := 1) rfl, _, .inr (.inl ⟨_, h2, rfl⟩), ?_⟩
    have e : (!((h ++ [z]).map V.str).isEmpty) = true := by cases h <;> rfl
    rw [e]
    refine iteF ?_
    refine run_next ?_
    dsimp only
    refine run_set ⟨_, rfl, p, _, 1, .ref t1, rfl, rfl, h1, atI_nat (j := 1) rfl, 1, rfl, -1, rfl, slice_but h2 fun p2 H2 S2 hp2 => ⟨_, rfl, ?_⟩⟩
    have lh := Ak.le
    refine cat_two hp2 (Sm.seqT S2 ht) (by rw [List.length_map, List.length_map]; omega) fun p3 H3 S3 hp3 => ?_
    have hp4 : SqT K H3 p3 ((h ++ s').map V.str) := by rw [List.map_append]; exact hp3
    refine run_if ⟨_, rfl, p3, _, rfl, .inr hp4, ?_⟩
    refine ⟨_, 6, rfl, rfl, _, rfl, ?_⟩
    rw [show decide ((6 : Int) < (((h ++ s').map V.str).length : Int)) = true from decide_eq_true (by rw [List.length_map, List.length_append]; omega)]
    exact iteT (r H3 (S2.trans S3))
theorem ok_meantX (T : Txt K mg cs) (C_is_short : Cal P w K mg base 7 "_is_short" ["thing"] (spD shortD K cs)) (Cis_reference : Cal P w K mg base 6 "is_reference" ["thing"] (spD refD K cs)) (Xlong : CalX P w K mg base 1 "long" ["last", "keys"] (fun vs H Q E => spLong K vs H Q E ∨ spLongX K cs vs H Q E)) :
    CalMX P w K mg base 8 cs.a_Desk "_meant" ["self", "ref"] (spMeantX K cs false) := by
  refine T.f_Desk__meant.calX scDeskMeant (fun vs H Q E h => ?_) (fun f cdv A outer s H vs Q E hr h => ?_)
  · obtain ⟨_, _, _, _, _, _, rfl, _⟩ := h
    rfl
  obtain ⟨d, dx, arr, v, u, last, rfl, hd, L, hT, h⟩ := h
  refine ⟨_, (pss_cons (ps_if (PW.pt (pw_and (pt_val (pe_cal C_is_short (hr.mono (by first | decide | omega)) (pa_cons (pv 1) pa_nil))) (pw_and1 (pt_cmpR op_ne (pe_ix (ixT K) (pe_ix (ixT K) (pv 1) pe_int (fun _ _ => rfl)) (pe_un un_neg pe_int) (fun _ _ => rfl)) pe_str (nomark _))))) (pss_one (ps_ret (pe_calX Xlong (hr.mono (by first | decide | omega)) (L2N.takes_of rfl rfl rfl rfl) (pa_cons (pe_fldK (K := K) (pv 0)) (pa_cons (pe_ix (ixT K) (pv 1) pe_int (fun _ _ => rfl)) pa_nil))))) pss_nil)
    (pss_cons (ps_if (pt_not (pt_val (pe_cal Cis_reference (hr.mono (by first | decide | omega)) (pa_cons (pv 1) pa_nil)))) (pss_one (L2N.ps_raise rfl (L2N.takes_of rfl rfl rfl rfl) (pmk_own0 PySem.F.excBase_ValueError (T.xc "NoRef" (by simp [RAISED])).ex (T.xg "NoRef" (by simp [ALLE])) (T.xc "NoRef" (by simp [RAISED])).kp (raises_own (T.xc "NoRef" (by simp [RAISED])).bs (T.xc "NoRef" (by simp [RAISED])).ty)))) pss_nil)
    (pss_one (ps_ret (pv 1))))), ?_⟩
  rcases h with ⟨dd, n, av, th, A1, hn, ⟨b1, b2⟩, r⟩ | ⟨p, s', rfl, R, ne, le, hk, hx⟩
  · -- no reference
    refine run_no (fun H1 => Sm H H1) (fun Rr h => run_and ⟨_, rfl, u, dd, n, av, rfl, th, A1, hn, hT, fun H1 S1 => ⟨_, rfl, ?_⟩⟩) fun H1 S1 => ?_
    · refine ite2 (fun c => ?_) (fun c => h H1 S1)
      obtain ⟨y, l, z, rfl, el, ez⟩ : ∃ (y : D) (l : List D) (z : D), dd = .tup [.str "", .tup l] ∧ l.getLast? = some z ∧ z = .str "" := by
        unfold shortD at c
        split at c
        · rename_i z y
          rw [Bool.and_eq_true] at c
          obtain ⟨c1, c2⟩ := c
          obtain rfl := of_decide_eq_true c1
          cases y with
          | tup l =>
            cases e : l.getLast? with
            | none => simp only [askD, e] at c2; cases c2
            | some x =>
              refine ⟨.non, l, x, rfl, e, ?_⟩
              unfold meanD at b1
              have cs' : shortD (.tup [.str "", .tup l]) = true := by
                show (decide ((""  : Str) = "") && askD (.tup l)) = true
                rw [c2, decide_eq_true rfl]
                rfl
              rw [cs', Bool.true_and] at b1
              simp only [lastNe, e] at b1
              cases x with
              | str x =>
                have : decide (x = "") = true := by
                  cases q : decide (x = "") with
                  | true => rfl
                  | false =>
                    have b1 : (!decide (x = "")) = false := b1
                    rw [q] at b1
                    cases b1
                rw [of_decide_eq_true this]
              | _ => cases b1
          | _ => cases c2
        · cases c
      subst ez
      obtain ⟨a, xs, ds, rfl, eds, h0, hx, ha⟩ := tup_of th rfl
      injection eds with eds
      subst eds
      obtain ⟨x0, y0, rfl, dx, dy, e2, tx, ty⟩ := two_of ha rfl
      injection e2 with e2 e3
      injection e3 with e3 _
      subst e2 e3
      obtain ⟨t, ys, es, rfl, e4, h1, hy, hb⟩ := tup_of ty rfl
      injection e4 with e4
      subst e4
      obtain ⟨es', rfl⟩ : ∃ es', l = es' ++ [.str ""] := by
        have ne : l ≠ [] := by intro e; subst e; cases el
        rw [List.getLast?_eq_some_getLast ne] at el
        exact ⟨l.dropLast, by rw [← Option.some.inj el, List.dropLast_concat_getLast]⟩
      obtain ⟨ws, u, rfl⟩ : ∃ ws u, ys = ws ++ [u] := by
        have lb := hb.len
        rw [List.length_append, List.length_singleton] at lb
        exact ⟨_, _, (List.dropLast_concat_getLast (by intro e; subst e; simp at lb)).symm⟩
      obtain ⟨es2, d2, e5, _, hz⟩ := thAll_snoc hb
      obtain ⟨_, e7⟩ := List.append_inj' e5 rfl
      injection e7 with e7 _
      subst e7
      obtain ⟨_, rfl, e6, _, _⟩ := str_of hz rfl
      injection e6 with e6
      subst e6
      refine ⟨_, rfl, a, _, 1, .ref t, rfl, rfl, Sm.seqT S1 h0, atI_nat (j := 1) rfl, 1, rfl, ?_⟩
      refine ⟨t, _, -1, .str "", rfl, rfl, Sm.seqT S1 h1, atI_last _ _, rfl, _, rfl, ?_⟩
      rw [show (!decide (V.str "" = V.str "")) = false from by rw [decide_eq_true rfl]; rfl]
      exact h H1 S1
    · refine run_if ⟨_, rfl, u, dd, n, av, rfl, th.ko A1 (KO.sm S1), A1.sm S1, hn, hT.sm S1, fun H2 S2 => ⟨_, rfl, ?_⟩⟩
      rw [b2]
      exact iteT (r H2 (S1.trans S2))
  · obtain ⟨a, y, rfl⟩ : ∃ a y, s' = a ++ [y] := ⟨_, _, (List.dropLast_concat_getLast ne).symm⟩
    rw [List.length_append, List.length_singleton] at le
    have ky : KEY y := hk y (by simp)
    obtain ⟨t, h1, h2⟩ := R.ex
    have th := th_short R ⟨Nat.zero_le _, fun c hc => (by cases hc)⟩ (by rw [List.length_append, List.length_singleton]; omega) fun z hz => (hk z hz).wt
    refine run_if (run_and ⟨_, rfl, .ref p, _, 0, fun _ => False, rfl, th, fun _ z => z.elim, by decide, hT, fun H1 S1 => ⟨_, rfl, ?_⟩⟩)
    rw [short_good le hk]
    refine iteT ?_
    refine ⟨_, rfl, p, _, 1, .ref t, rfl, rfl, Sm.seqT S1 h1, atI_nat (j := 1) rfl, 1, rfl, ?_⟩
    refine ⟨t, _, -1, .str y, rfl, rfl, Sm.seqT S1 h2, (by rw [List.map_append]; exact atI_last _ _), rfl, _, rfl, ?_⟩
    rw [show (!decide (V.str y = V.str "")) = true from by rw [decide_eq_false fun e => key_ne' ky (by injection e)]; rfl]
    refine iteT ?_
    exact run_ret ⟨_, rfl, d, _, _, _, _, rfl, S1 _ _ hd, T.cl_Desk, T.no_Desk__last, rfl, _, rfl, p, _, 1, .ref t, rfl, rfl, Sm.seqT S1 h1, atI_nat (j := 1) rfl, .inr ⟨v, t, a ++ [y], last, rfl, L.sm S1, Sm.seqT S1 h2, by rw [List.length_append, List.length_singleton]; exact le, hx.sm S1⟩⟩
end
/-! ### desks: what they refuse -/
def spPutX (K : PySem.W.Frag) (cs : Tabs) : Sp := fun vs H _ E => ∃ (arr p : Addr) (nm : Str) (ks : List Str) (o : V) (d : D) (n : Nat) (av : Addr → Prop), vs = [.ref arr, .ref p, o] ∧ RefAt K H p nm ks ∧ REF nm ks ∧ Th K av n H o d ∧ AvL av H ∧ n ≤ 10 ∧ wD d = false ∧ TGs H cs ∧ Ref cs "NoWorth" E H
/-- a place that a desk refuses, and what else is handed in -/
def spDeskX (K : PySem.W.Frag) (cs : Tabs) (ord : Bool) (j : Nat) : Sp := fun vs H _ E => ∃ (d dx arr : Addr) (v u : V) (last : Option (Str × List Str × Str)) (r : List V), vs = .ref d :: u :: r ∧ r.length = j ∧ H d = some (.ins cs.a_Desk dx (dFs arr v)) ∧ LastV K H v last ∧ TGs H cs ∧ (BadT K cs H ord u E ∨ ShortT K cs H u last E)
/-- a good place, and no worth -/
def WorthX (K : PySem.W.Frag) (cs : Tabs) (H : Hp) (arr : Addr) (u o : V) (last : Option (Str × List Str × Str)) (E : XK) : Prop := ∃ (p : Addr) (nm : Str) (ks : List Str) (S : Sh) (m : Nat) (d : D) (n : Nat) (av : Addr → Prop), u = .ref p ∧ Means K H p last nm ks ∧ REF nm ks ∧ ArrAt cs H arr S m ∧ Th K av n H o d ∧ AvL av H ∧ n ≤ 10 ∧ wD d = false ∧ Ref cs "NoWorth" E H
def spDPutX (K : PySem.W.Frag) (cs : Tabs) : Sp := fun vs H _ E => ∃ (d dx arr : Addr) (v u o : V) (last : Option (Str × List Str × Str)), vs = [.ref d, u, o] ∧ H d = some (.ins cs.a_Desk dx (dFs arr v)) ∧ LastV K H v last ∧ TGs H cs ∧ ((BadT K cs H false u E ∨ ShortT K cs H u last E) ∨ WorthX K cs H arr u o last E)
section
variable {P : Program} {w : World} {K : PySem.W.Frag} {mg : Str → Option Value} {base : Heap} {cs : Tabs}
theorem ok_meantAX (T : Txt K mg cs) (C_is_short : Cal P w K mg base 7 "_is_short" ["thing"] (spD shortD K cs)) (Cis_asking_reference : Cal P w K mg base 7 "is_asking_reference" ["thing"] (spD askRefD K cs)) (Xlong : CalX P w K mg base 1 "long" ["last", "keys"] (fun vs H Q E => spLong K vs H Q E ∨ spLongX K cs vs H Q E)) :
    CalMX P w K mg base 8 cs.a_Desk "_meant_asking" ["self", "ref"] (spMeantX K cs true) := by
  refine T.f_Desk__meant_asking.calX scDeskMeantAsking (fun vs H Q E h => ?_) (fun f cdv A outer s H vs Q E hr h => ?_)
  · obtain ⟨_, _, _, _, _, _, rfl, _⟩ := h
    rfl
  obtain ⟨d, dx, arr, v, u, last, rfl, hd, L, hT, h⟩ := h
  refine ⟨_, (pss_cons (ps_if (pt_val (pe_cal C_is_short (hr.mono (by first | decide | omega)) (pa_cons (pv 1) pa_nil))) (pss_one (ps_ret (pe_calX Xlong (hr.mono (by first | decide | omega)) (L2N.takes_of rfl rfl rfl rfl) (pa_cons (pe_fldK (K := K) (pv 0)) (pa_cons (pe_ix (ixT K) (pv 1) pe_int (fun _ _ => rfl)) pa_nil))))) pss_nil)
    (pss_cons (ps_if (pt_not (pt_val (pe_cal Cis_asking_reference (hr.mono (by first | decide | omega)) (pa_cons (pv 1) pa_nil)))) (pss_one (L2N.ps_raise rfl (L2N.takes_of rfl rfl rfl rfl) (pmk_own0 PySem.F.excBase_ValueError (T.xc "NoRef" (by simp [RAISED])).ex (T.xg "NoRef" (by simp [ALLE])) (T.xc "NoRef" (by simp [RAISED])).kp (raises_own (T.xc "NoRef" (by simp [RAISED])).bs (T.xc "NoRef" (by simp [RAISED])).ty)))) pss_nil)
    (pss_one (ps_ret (pv 1))))), ?_⟩
  rcases h with ⟨dd, n, av, th, A1, hn, ⟨b1, b2⟩, r⟩ | ⟨p, s', rfl, R, ne, le, hk, hx⟩
  · refine run_if ⟨_, rfl, u, dd, n, av, rfl, th, A1, hn, hT, fun H1 S1 => ⟨_, rfl, ?_⟩⟩
    rw [b1]
    refine iteF (run_next ?_)
    dsimp only
    refine run_if ⟨_, rfl, u, dd, n, av, rfl, th.ko A1 (KO.sm S1), A1.sm S1, hn, hT.sm S1, fun H2 S2 => ⟨_, rfl, ?_⟩⟩
    rw [b2]
    exact iteT (r H2 (S1.trans S2))
  · obtain ⟨a, y, rfl⟩ : ∃ a y, s' = a ++ [y] := ⟨_, _, (List.dropLast_concat_getLast ne).symm⟩
    rw [List.length_append, List.length_singleton] at le
    obtain ⟨t, h1, h2⟩ := R.ex
    have th := th_short R ⟨Nat.zero_le _, fun c hc => (by cases hc)⟩ (by rw [List.length_append, List.length_singleton]; omega) fun z hz => (hk z hz).wt
    refine run_if ⟨_, rfl, .ref p, _, 0, fun _ => False, rfl, th, fun _ z => z.elim, by decide, hT, fun H1 S1 => ⟨_, rfl, ?_⟩⟩
    rw [short_good le hk]
    refine iteT ?_
    exact run_ret ⟨_, rfl, d, _, _, _, _, rfl, S1 _ _ hd, T.cl_Desk, T.no_Desk__last, rfl, _, rfl, p, _, 1, .ref t, rfl, rfl, Sm.seqT S1 h1, atI_nat (j := 1) rfl, .inr ⟨v, t, a ++ [y], last, rfl, L.sm S1, Sm.seqT S1 h2, by rw [List.length_append, List.length_singleton]; exact le, hx.sm S1⟩⟩
theorem ok_putX (T : Txt K mg cs) (Cneed_reference : Cal P w K mg base 7 "need_reference" ["thing"] (spNeedRef K cs)) (Xneed_worth : CalX P w K mg base 3 "need_worth" ["thing"] (spNo wD "NoWorth" K cs)) {sp1 sp2 : Sp} (C_path : Cal P w K mg base 1 "_path" ["ref"] sp1) {k : Nat} (hk : k ≤ 7) (CTree_plant : CalM P w K mg base k cs.a_Tree "plant" ["self", "path", "worth"] sp2) :
    CalMX P w K mg base 8 cs.a_Arrays "put" ["self", "ref", "worth"] (spPutX K cs) := by
  refine T.f_Arrays_put.calX scArraysPut (fun vs H Q E h => ?_) (fun f cdv A outer s H vs Q E hr h => ?_)
  · obtain ⟨_, _, _, _, _, _, _, _, rfl, _⟩ := h
    rfl
  obtain ⟨arr, p, nm, ks, o, d, n, av, rfl, R, O, th, A1, hn, e, hT, r⟩ := h
  refine ⟨_, (pss_cons (ps_expr (pe_cal Cneed_reference (hr.mono (by first | decide | omega)) (pa_cons (pv 1) pa_nil)))
    (pss_cons (ps_expr (pe_calX Xneed_worth (hr.mono (by first | decide | omega)) (L2N.takes_of rfl rfl rfl rfl) (pa_cons (pv 2) pa_nil)))
    (pss_one (ps_expr (pe_calM CTree_plant T.cl_Tree (hr.mono (by first | decide | omega)) (pe_fldK (K := K) (pv 0)) (pa_cons (pe_cal C_path (hr.mono (by first | decide | omega)) (pa_cons (pv 1) pa_nil)) (pa_cons (pv 2) pa_nil))))))), ?_⟩
  refine ⟨_, rfl, p, nm, ks, rfl, R, O, hT, fun H1 S1 => ?_⟩
  dsimp only
  exact ⟨_, rfl, o, d, n, av, rfl, th.ko A1 (KO.sm S1), A1.sm S1, hn, e, hT.sm S1, r.sm S1⟩
theorem ok_dputX (T : Txt K mg cs) (CDesk__meant : CalM P w K mg base 8 cs.a_Desk "_meant" ["self", "ref"] (spMeant K cs)) (XDesk__meant : CalMX P w K mg base 8 cs.a_Desk "_meant" ["self", "ref"] (spMeantX K cs false)) (CDesk__remember : CalM P w K mg base 1 cs.a_Desk "_remember" ["self", "asked"] (spRemember K cs)) (XArrays_put : CalMX P w K mg base 8 cs.a_Arrays "put" ["self", "ref", "worth"] (spPutX K cs)) :
    CalMX P w K mg base 9 cs.a_Desk "put" ["self", "ref", "worth"] (spDPutX K cs) := by
  refine T.f_Desk_put.calX scDeskPut (fun vs H Q E h => ?_) (fun f cdv A outer s H vs Q E hr h => ?_)
  · obtain ⟨_, _, _, _, _, _, _, rfl, _⟩ := h
    rfl
  obtain ⟨d, dx, arr, v, u, o, last, rfl, hd, L, hT, h⟩ := h
  refine ⟨_, (pss_cons (ps_set (i := 3) scDeskPut.nd rfl (by first | exact Or.inl rfl | exact Or.inr rfl) (pe_eith (pe_calM CDesk__meant T.cl_Desk (hr.mono (by first | decide | omega)) (pv 0) (pa_cons (pv 1) pa_nil)) (pe_calMX XDesk__meant T.cl_Desk (hr.mono (by first | decide | omega)) (L2N.takes_of rfl rfl rfl rfl) (pv 0) (pa_cons (pv 1) pa_nil))))
    (pss_cons (ps_expr (pe_calMX XArrays_put T.cl_Arrays (hr.mono (by first | decide | omega)) (L2N.takes_of rfl rfl rfl rfl) (pe_fldK (K := K) (pv 0)) (pa_cons (pv 3) (pa_cons (pv 2) pa_nil))))
    (pss_one (ps_expr (pe_calM CDesk__remember T.cl_Desk (hr.mono (by first | decide | omega)) (pv 0) (pa_cons (pv 3) pa_nil)))))), ?_⟩
  rcases h with h | ⟨p, nm, ks, S, m, dw, n, av, rfl, Mn, O, Ar, th, A1, hn, e, r⟩
  · refine run_set (.inr ⟨_, rfl, d, _, _, rfl, hd, rfl, _, rfl, d, dx, arr, v, u, last, rfl, hd, L, hT, h⟩)
  · refine run_set (.inl ⟨_, rfl, d, _, _, rfl, hd, rfl, _, rfl, d, dx, p, arr, v, last, nm, ks, rfl, hd, L, Mn, O, hT, fun q4 H1 S1 R1 => ?_⟩)
    have hd1 := S1 _ _ hd
    obtain ⟨ax, n1, hi, hn1⟩ := (Ar.sm S1).it
    dsimp only
    exact ⟨_, rfl, d, _, _, _, _, rfl, hd1, T.cl_Desk, T.no_Desk__arrays, rfl, arr, _, _, rfl, hi, rfl, _, rfl, _, rfl, arr, q4, nm, ks, o, dw, n, av, rfl, R1, O, th.ko A1 (KO.sm S1), A1.sm S1, hn, e, hT.sm S1, r.sm S1⟩
theorem ok_ddataX (T : Txt K mg cs) (XDesk__meant : CalMX P w K mg base 8 cs.a_Desk "_meant" ["self", "ref"] (spMeantX K cs false)) (CDesk__remember : CalM P w K mg base 1 cs.a_Desk "_remember" ["self", "asked"] (spRemember K cs)) (CArrays_data : CalM P w K mg base 8 cs.a_Arrays "data" ["self", "ref"] (spData K cs)) :
    CalMX P w K mg base 9 cs.a_Desk "data" ["self", "ref"] (spDeskX K cs false 0) := by
  refine T.f_Desk_data.calX scDeskData (fun vs H Q E h => ?_) (fun f cdv A outer s H vs Q E hr h => ?_)
  · obtain ⟨_, _, _, _, _, _, r, rfl, hl, _⟩ := h
    show r.length + 2 = 2
    omega
  obtain ⟨d, dx, arr, v, u, last, r, rfl, hl, hd, L, hT, h⟩ := h
  refine ⟨_, (pss_cons (ps_set (i := 2) scDeskData.nd rfl (by first | exact Or.inl rfl | exact Or.inr rfl) (pe_calMX XDesk__meant T.cl_Desk (hr.mono (by first | decide | omega)) (L2N.takes_of rfl rfl rfl rfl) (pv 0) (pa_cons (pv 1) pa_nil)))
    (pss_cons (ps_expr (pe_calM CDesk__remember T.cl_Desk (hr.mono (by first | decide | omega)) (pv 0) (pa_cons (pv 2) pa_nil)))
    (pss_one (ps_ret (pe_calM CArrays_data T.cl_Arrays (hr.mono (by first | decide | omega)) (pe_fldK (K := K) (pv 0)) (pa_cons (pv 2) pa_nil)))))), ?_⟩
  exact run_set ⟨_, rfl, d, _, _, rfl, hd, rfl, _, rfl, d, dx, arr, v, u, last, rfl, hd, L, hT, h⟩
theorem ok_dkillX (T : Txt K mg cs) (XDesk__meant : CalMX P w K mg base 8 cs.a_Desk "_meant" ["self", "ref"] (spMeantX K cs false)) (CDesk__remember : CalM P w K mg base 1 cs.a_Desk "_remember" ["self", "asked"] (spRemember K cs)) (CArrays_kill : CalM P w K mg base 10 cs.a_Arrays "kill" ["self", "ref"] (spKill K cs)) :
    CalMX P w K mg base 11 cs.a_Desk "kill" ["self", "ref"] (spDeskX K cs false 0) := by
  refine T.f_Desk_kill.calX scDeskKill (fun vs H Q E h => ?_) (fun f cdv A outer s H vs Q E hr h => ?_)
  · obtain ⟨_, _, _, _, _, _, r, rfl, hl, _⟩ := h
    show r.length + 2 = 2
    omega
  obtain ⟨d, dx, arr, v, u, last, r, rfl, hl, hd, L, hT, h⟩ := h
  refine ⟨_, (pss_cons (ps_set (i := 2) scDeskKill.nd rfl (by first | exact Or.inl rfl | exact Or.inr rfl) (pe_calMX XDesk__meant T.cl_Desk (hr.mono (by first | decide | omega)) (L2N.takes_of rfl rfl rfl rfl) (pv 0) (pa_cons (pv 1) pa_nil)))
    (pss_cons (ps_expr (pe_calM CDesk__remember T.cl_Desk (hr.mono (by first | decide | omega)) (pv 0) (pa_cons (pv 2) pa_nil)))
    (pss_one (ps_ret (pe_calM CArrays_kill T.cl_Arrays (hr.mono (by first | decide | omega)) (pe_fldK (K := K) (pv 0)) (pa_cons (pv 2) pa_nil)))))), ?_⟩
  exact run_set ⟨_, rfl, d, _, _, rfl, hd, rfl, _, rfl, d, dx, arr, v, u, last, rfl, hd, L, hT, h⟩
theorem ok_dreadX (T : Txt K mg cs) (XDesk__meant : CalMX P w K mg base 8 cs.a_Desk "_meant" ["self", "ref"] (spMeantX K cs false)) (CDesk__remember : CalM P w K mg base 1 cs.a_Desk "_remember" ["self", "asked"] (spRemember K cs)) (CArrays_read : CalW P w K mg base 8 cs.a_Arrays "read" ["self", "ref", "otherwise"] 2 [("otherwise", .str "")] (spRead K cs)) :
    CalWX P w K mg base 9 cs.a_Desk "read" ["self", "ref", "otherwise"] 2 [("otherwise", .str "")] (spDeskX K cs false 1) := by
  refine T.f_Desk_read.calX ⟨fun D doc pm an cdv ct us ks h1 h2 => match us, h1, ks, h2 with | [_, _], _, [_], _ => ⟨_, _, _, _, _, _, rfl, rfl, rfl⟩, fun D doc pm an cdv ct us ws h1 h2 => match us, h1, ws, h2 with | [_, _], _, [_], _ => rfl⟩ (by simp) rfl scDeskRead (fun vs H Q E h => ?_) (fun f cdv A outer s H vs Q E hr h => ?_)
  · obtain ⟨_, _, _, _, _, _, r, rfl, hl, _⟩ := h
    show r.length + 2 = 3
    omega
  obtain ⟨d, dx, arr, v, u, last, r, rfl, hl, hd, L, hT, h⟩ := h
  refine ⟨_, (pss_cons (ps_set (i := 3) scDeskRead.nd rfl (by first | exact Or.inl rfl | exact Or.inr rfl) (pe_calMX XDesk__meant T.cl_Desk (hr.mono (by first | decide | omega)) (L2N.takes_of rfl rfl rfl rfl) (pv 0) (pa_cons (pv 1) pa_nil)))
    (pss_cons (ps_expr (pe_calM CDesk__remember T.cl_Desk (hr.mono (by first | decide | omega)) (pv 0) (pa_cons (pv 3) pa_nil)))
    (pss_one (ps_ret (pe_calWN CArrays_read T.cl_Arrays (hr.mono (by first | decide | omega)) (pe_fldK (K := K) (pv 0)) (pa_cons (pv 3) pa_nil) (pk_cons (pv 2) pk_nil)))))), ?_⟩
  exact run_set ⟨_, rfl, d, _, _, rfl, hd, rfl, _, rfl, d, dx, arr, v, u, last, rfl, hd, L, hT, h⟩
theorem ok_dorderX (T : Txt K mg cs) (XDesk__meant_asking : CalMX P w K mg base 8 cs.a_Desk "_meant_asking" ["self", "ref"] (spMeantX K cs true)) (CDesk__remember : CalM P w K mg base 1 cs.a_Desk "_remember" ["self", "asked"] (spRemember K cs)) (CArrays_order : CalW P w K mg base 9 cs.a_Arrays "order" ["self", "ref", "back"] 2 [("back", .bl false)] (spOrder K cs)) :
    CalWX P w K mg base 10 cs.a_Desk "order" ["self", "ref", "back"] 2 [("back", .bl false)] (spDeskX K cs true 1) := by
  refine T.f_Desk_order.calX ⟨fun D doc pm an cdv ct us ks h1 h2 => match us, h1, ks, h2 with | [_, _], _, [_], _ => ⟨_, _, _, _, _, _, rfl, rfl, rfl⟩, fun D doc pm an cdv ct us ws h1 h2 => match us, h1, ws, h2 with | [_, _], _, [_], _ => rfl⟩ (by simp) rfl scDeskOrder (fun vs H Q E h => ?_) (fun f cdv A outer s H vs Q E hr h => ?_)
  · obtain ⟨_, _, _, _, _, _, r, rfl, hl, _⟩ := h
    show r.length + 2 = 3
    omega
  obtain ⟨d, dx, arr, v, u, last, r, rfl, hl, hd, L, hT, h⟩ := h
  refine ⟨_, (pss_cons (ps_set (i := 3) scDeskOrder.nd rfl (by first | exact Or.inl rfl | exact Or.inr rfl) (pe_calMX XDesk__meant_asking T.cl_Desk (hr.mono (by first | decide | omega)) (L2N.takes_of rfl rfl rfl rfl) (pv 0) (pa_cons (pv 1) pa_nil)))
    (pss_cons (ps_expr (pe_calM CDesk__remember T.cl_Desk (hr.mono (by first | decide | omega)) (pv 0) (pa_cons (pv 3) pa_nil)))
    (pss_one (ps_ret (pe_calWN CArrays_order T.cl_Arrays (hr.mono (by first | decide | omega)) (pe_fldK (K := K) (pv 0)) (pa_cons (pv 3) pa_nil) (pk_cons (pv 2) pk_nil)))))), ?_⟩
  exact run_set ⟨_, rfl, d, _, _, rfl, hd, rfl, _, rfl, d, dx, arr, v, u, last, rfl, hd, L, hT, h⟩
theorem ok_dfollowX (T : Txt K mg cs) (XDesk__meant : CalMX P w K mg base 8 cs.a_Desk "_meant" ["self", "ref"] (spMeantX K cs false)) (CDesk__remember : CalM P w K mg base 1 cs.a_Desk "_remember" ["self", "asked"] (spRemember K cs)) (CArrays_following : CalW P w K mg base 8 cs.a_Arrays "following" ["self", "ref", "back"] 2 [("back", .bl false)] (spFollow K cs)) :
    CalWX P w K mg base 9 cs.a_Desk "following" ["self", "ref", "back"] 2 [("back", .bl false)] (spDeskX K cs false 1) := by
  refine T.f_Desk_following.calX ⟨fun D doc pm an cdv ct us ks h1 h2 => match us, h1, ks, h2 with | [_, _], _, [_], _ => ⟨_, _, _, _, _, _, rfl, rfl, rfl⟩, fun D doc pm an cdv ct us ws h1 h2 => match us, h1, ws, h2 with | [_, _], _, [_], _ => rfl⟩ (by simp) rfl scDeskFollowing (fun vs H Q E h => ?_) (fun f cdv A outer s H vs Q E hr h => ?_)
  · obtain ⟨_, _, _, _, _, _, r, rfl, hl, _⟩ := h
    show r.length + 2 = 3
    omega
  obtain ⟨d, dx, arr, v, u, last, r, rfl, hl, hd, L, hT, h⟩ := h
  refine ⟨_, (pss_cons (ps_set (i := 3) scDeskFollowing.nd rfl (by first | exact Or.inl rfl | exact Or.inr rfl) (pe_calMX XDesk__meant T.cl_Desk (hr.mono (by first | decide | omega)) (L2N.takes_of rfl rfl rfl rfl) (pv 0) (pa_cons (pv 1) pa_nil)))
    (pss_cons (ps_expr (pe_calM CDesk__remember T.cl_Desk (hr.mono (by first | decide | omega)) (pv 0) (pa_cons (pv 3) pa_nil)))
    (pss_one (ps_ret (pe_calWN CArrays_following T.cl_Arrays (hr.mono (by first | decide | omega)) (pe_fldK (K := K) (pv 0)) (pa_cons (pv 3) pa_nil) (pk_cons (pv 2) pk_nil)))))), ?_⟩
  exact run_set ⟨_, rfl, d, _, _, rfl, hd, rfl, _, rfl, d, dx, arr, v, u, last, rfl, hd, L, hT, h⟩
end
/-! ### doors of a desk: told, refused -/
def DOORS6 : List Str := ["put", "read", "data", "kill", "order", "following"]
def spDoor (K : PySem.W.Frag) (cs : Tabs) : Sp := fun vs H Q _ => ∃ (d dx arr p : Addr) (v : V) (door own : Str), vs = [.ref d, .str door, .ref p, .str own] ∧ door ∈ DOORS6 ∧ H d = some (.ins cs.a_Desk dx (dFs arr v)) ∧
  ((door = "put" ∧ spDPut K cs [.ref d, .ref p, .str own] H Q E0) ∨ (door = "read" ∧ spDRead K cs [.ref d, .ref p, .str ""] H Q E0) ∨ (door = "data" ∧ spDData K cs [.ref d, .ref p] H Q E0) ∨ (door = "kill" ∧ spDKill K cs [.ref d, .ref p] H Q E0) ∨ (door = "order" ∧ spDOrder K cs [.ref d, .ref p, .bl false] H Q E0) ∨ (door = "following" ∧ spDFollow K cs [.ref d, .ref p, .bl false] H Q E0))
def spDoorX (K : PySem.W.Frag) (cs : Tabs) : Sp := fun vs H _ E => ∃ (d dx arr : Addr) (v u o : V) (last : Option (Str × List Str × Str)) (door : Str) (ord : Bool), vs = [.ref d, .str door, u, o] ∧ door ∈ DOORS6 ∧ ord = decide (door = "order") ∧ H d = some (.ins cs.a_Desk dx (dFs arr v)) ∧ LastV K H v last ∧ TGs H cs ∧
  ((BadT K cs H ord u E ∨ ShortT K cs H u last E) ∨ (door = "put" ∧ WorthX K cs H arr u o last E))
theorem HeadX.imp {cs : Tabs} {last : Option (Str × List Str × Str)} {s : List Str} {E E' : XK} {H : Hp} (i : ∀ c d H, E c d H → E' c d H) (r : HeadX cs last s E H) : HeadX cs last s E' H := by
  rcases r with ⟨e, r⟩ | ⟨nm, h, z, e, l, r⟩
  · exact .inl ⟨e, r.imp i⟩
  · exact .inr ⟨nm, h, z, e, l, r.imp i⟩
theorem BadT.imp {K : PySem.W.Frag} {cs : Tabs} {H : Hp} {ord : Bool} {u : V} {E E' : XK} (i : ∀ c d H, E c d H → E' c d H) (r : BadT K cs H ord u E) : BadT K cs H ord u E' := by
  obtain ⟨d, n, av, h1, h2, h3, h4, r⟩ := r
  exact ⟨d, n, av, h1, h2, h3, h4, r.imp i⟩
theorem ShortT.imp {K : PySem.W.Frag} {cs : Tabs} {H : Hp} {u : V} {last : Option (Str × List Str × Str)} {E E' : XK} (i : ∀ c d H, E c d H → E' c d H) (r : ShortT K cs H u last E) : ShortT K cs H u last E' := by
  obtain ⟨p, s, h1, h2, h3, h4, h5, r⟩ := r
  exact ⟨p, s, h1, h2, h3, h4, h5, r.imp i⟩
theorem WorthX.imp {K : PySem.W.Frag} {cs : Tabs} {H : Hp} {arr : Addr} {u o : V} {last : Option (Str × List Str × Str)} {E E' : XK} (i : ∀ c d H, E c d H → E' c d H) (r : WorthX K cs H arr u o last E) : WorthX K cs H arr u o last E' := by
  obtain ⟨p, nm, ks, S, m, d, n, av, h1, h2, h3, h4, h5, h6, h7, h8, r⟩ := r
  exact ⟨p, nm, ks, S, m, d, n, av, h1, h2, h3, h4, h5, h6, h7, h8, r.imp i⟩
section
variable {P : Program} {w : World} {K : PySem.W.Frag} {mg : Str → Option Value} {base : Heap} {cs : Tabs}
theorem ok_law_door (T : Txt K mg cs) (CDesk_put : CalM P w K mg base 9 cs.a_Desk "put" ["self", "ref", "worth"] (spDPut K cs)) (CDesk_read : CalW P w K mg base 9 cs.a_Desk "read" ["self", "ref", "otherwise"] 2 [("otherwise", .str "")] (spDRead K cs)) (CDesk_data : CalM P w K mg base 9 cs.a_Desk "data" ["self", "ref"] (spDData K cs))
    (CDesk_kill : CalM P w K mg base 11 cs.a_Desk "kill" ["self", "ref"] (spDKill K cs)) (CDesk_order : CalW P w K mg base 10 cs.a_Desk "order" ["self", "ref", "back"] 2 [("back", .bl false)] (spDOrder K cs)) (CDesk_following : CalW P w K mg base 9 cs.a_Desk "following" ["self", "ref", "back"] 2 [("back", .bl false)] (spDFollow K cs)) :
    Cal P w K mg base 12 "_law_door" ["desk", "door", "place", "own"] (spDoor K cs) := by
  refine T.f_law_door.cal scLawDoor (fun vs H Q E h => ?_) (fun f cdv A outer s H vs Q E hr h => ?_)
  · obtain ⟨_, _, _, _, _, _, _, rfl, _⟩ := h
    rfl
  obtain ⟨d, dx, arr, p, v, door, own, rfl, hdr, hd, h⟩ := h
  refine ⟨_, (pss_cons (ps_if (pt_cmpR op_eq (pv 1) pe_str (nomark _)) (pss_one (ps_ret (pe_calM CDesk_put T.cl_Desk (hr.mono (by first | decide | omega)) (pv 0) (pa_cons (pv 2) (pa_cons (pv 3) pa_nil))))) pss_nil)
    (pss_cons (ps_if (pt_cmpR op_eq (pv 1) pe_str (nomark _)) (pss_one (ps_ret (pe_calW CDesk_read T.cl_Desk (hr.mono (by first | decide | omega)) (pv 0) (pa_cons (pv 2) pa_nil)))) pss_nil)
    (pss_cons (ps_if (pt_cmpR op_eq (pv 1) pe_str (nomark _)) (pss_one (ps_ret (pe_calM CDesk_data T.cl_Desk (hr.mono (by first | decide | omega)) (pv 0) (pa_cons (pv 2) pa_nil)))) pss_nil)
    (pss_cons (ps_if (pt_cmpR op_eq (pv 1) pe_str (nomark _)) (pss_one (ps_ret (pe_calM CDesk_kill T.cl_Desk (hr.mono (by first | decide | omega)) (pv 0) (pa_cons (pv 2) pa_nil)))) pss_nil)
    (pss_cons (ps_if (pt_cmpR op_eq (pv 1) pe_str (nomark _)) (pss_one (ps_ret (pe_calW CDesk_order T.cl_Desk (hr.mono (by first | decide | omega)) (pv 0) (pa_cons (pv 2) pa_nil)))) pss_nil)
    (pss_one (ps_ret (pe_calW CDesk_following T.cl_Desk (hr.mono (by first | decide | omega)) (pv 0) (pa_cons (pv 2) pa_nil))))))))), ?_⟩
  refine run_if ⟨_, rfl, rfl, _, rfl, ?_⟩
  rw [strEq]
  refine ite2 (fun c => ?_) (fun c => ?_)
  · obtain rfl := of_decide_eq_true c
    rcases h with ⟨_, h⟩ | ⟨e, _⟩ | ⟨e, _⟩ | ⟨e, _⟩ | ⟨e, _⟩ | ⟨e, _⟩ <;> first | exact absurd e (by decide +kernel) | skip
    exact run_ret ⟨_, rfl, d, _, _, rfl, hd, rfl, _, rfl, _, rfl, h⟩
  refine run_next ?_
  dsimp only
  refine run_if ⟨_, rfl, rfl, _, rfl, ?_⟩
  rw [strEq]
  refine ite2 (fun c => ?_) (fun c => ?_)
  · obtain rfl := of_decide_eq_true c
    rcases h with ⟨e, _⟩ | ⟨_, h⟩ | ⟨e, _⟩ | ⟨e, _⟩ | ⟨e, _⟩ | ⟨e, _⟩ <;> first | exact absurd e (by decide +kernel) | skip
    exact run_ret ⟨_, rfl, d, _, _, rfl, hd, rfl, _, rfl, h⟩
  refine run_next ?_
  dsimp only
  refine run_if ⟨_, rfl, rfl, _, rfl, ?_⟩
  rw [strEq]
  refine ite2 (fun c => ?_) (fun c => ?_)
  · obtain rfl := of_decide_eq_true c
    rcases h with ⟨e, _⟩ | ⟨e, _⟩ | ⟨_, h⟩ | ⟨e, _⟩ | ⟨e, _⟩ | ⟨e, _⟩ <;> first | exact absurd e (by decide +kernel) | skip
    exact run_ret ⟨_, rfl, d, _, _, rfl, hd, rfl, _, rfl, h⟩
  refine run_next ?_
  dsimp only
  refine run_if ⟨_, rfl, rfl, _, rfl, ?_⟩
  rw [strEq]
  refine ite2 (fun c => ?_) (fun c => ?_)
  · obtain rfl := of_decide_eq_true c
    rcases h with ⟨e, _⟩ | ⟨e, _⟩ | ⟨e, _⟩ | ⟨_, h⟩ | ⟨e, _⟩ | ⟨e, _⟩ <;> first | exact absurd e (by decide +kernel) | skip
    exact run_ret ⟨_, rfl, d, _, _, rfl, hd, rfl, _, rfl, h⟩
  refine run_next ?_
  dsimp only
  refine run_if ⟨_, rfl, rfl, _, rfl, ?_⟩
  rw [strEq]
  refine ite2 (fun c => ?_) (fun c => ?_)
  · obtain rfl := of_decide_eq_true c
    rcases h with ⟨e, _⟩ | ⟨e, _⟩ | ⟨e, _⟩ | ⟨e, _⟩ | ⟨_, h⟩ | ⟨e, _⟩ <;> first | exact absurd e (by decide +kernel) | skip
    exact run_ret ⟨_, rfl, d, _, _, rfl, hd, rfl, _, rfl, h⟩
  refine run_next ?_
  dsimp only
  rcases h with ⟨e, _⟩ | ⟨e, _⟩ | ⟨e, _⟩ | ⟨e, _⟩ | ⟨e, _⟩ | ⟨_, h⟩ <;> first | exact absurd (decide_eq_true e) (by assumption) | skip
  exact run_ret ⟨_, rfl, d, _, _, rfl, hd, rfl, _, rfl, h⟩
theorem ok_law_doorX (T : Txt K mg cs) (XDesk_put : CalMX P w K mg base 9 cs.a_Desk "put" ["self", "ref", "worth"] (spDPutX K cs)) (XDesk_read : CalWX P w K mg base 9 cs.a_Desk "read" ["self", "ref", "otherwise"] 2 [("otherwise", .str "")] (spDeskX K cs false 1)) (XDesk_data : CalMX P w K mg base 9 cs.a_Desk "data" ["self", "ref"] (spDeskX K cs false 0))
    (XDesk_kill : CalMX P w K mg base 11 cs.a_Desk "kill" ["self", "ref"] (spDeskX K cs false 0)) (XDesk_order : CalWX P w K mg base 10 cs.a_Desk "order" ["self", "ref", "back"] 2 [("back", .bl false)] (spDeskX K cs true 1)) (XDesk_following : CalWX P w K mg base 9 cs.a_Desk "following" ["self", "ref", "back"] 2 [("back", .bl false)] (spDeskX K cs false 1)) :
    CalX P w K mg base 12 "_law_door" ["desk", "door", "place", "own"] (spDoorX K cs) := by
  refine T.f_law_door.calX scLawDoor (fun vs H Q E h => ?_) (fun f cdv A outer s H vs Q E hr h => ?_)
  · obtain ⟨_, _, _, _, _, _, _, _, _, rfl, _⟩ := h
    rfl
  obtain ⟨d, dx, arr, v, u, o, last, door, ord, rfl, hdr, eo, hd, L, hT, h⟩ := h
  refine ⟨_, (pss_cons (ps_if (pt_cmpR op_eq (pv 1) pe_str (nomark _)) (pss_one (ps_ret (pe_calMX XDesk_put T.cl_Desk (hr.mono (by first | decide | omega)) (L2N.takes_of rfl rfl rfl rfl) (pv 0) (pa_cons (pv 2) (pa_cons (pv 3) pa_nil))))) pss_nil)
    (pss_cons (ps_if (pt_cmpR op_eq (pv 1) pe_str (nomark _)) (pss_one (ps_ret (pe_calWX XDesk_read T.cl_Desk (hr.mono (by first | decide | omega)) (L2N.takes_of rfl rfl rfl rfl) (pv 0) (pa_cons (pv 2) pa_nil)))) pss_nil)
    (pss_cons (ps_if (pt_cmpR op_eq (pv 1) pe_str (nomark _)) (pss_one (ps_ret (pe_calMX XDesk_data T.cl_Desk (hr.mono (by first | decide | omega)) (L2N.takes_of rfl rfl rfl rfl) (pv 0) (pa_cons (pv 2) pa_nil)))) pss_nil)
    (pss_cons (ps_if (pt_cmpR op_eq (pv 1) pe_str (nomark _)) (pss_one (ps_ret (pe_calMX XDesk_kill T.cl_Desk (hr.mono (by first | decide | omega)) (L2N.takes_of rfl rfl rfl rfl) (pv 0) (pa_cons (pv 2) pa_nil)))) pss_nil)
    (pss_cons (ps_if (pt_cmpR op_eq (pv 1) pe_str (nomark _)) (pss_one (ps_ret (pe_calWX XDesk_order T.cl_Desk (hr.mono (by first | decide | omega)) (L2N.takes_of rfl rfl rfl rfl) (pv 0) (pa_cons (pv 2) pa_nil)))) pss_nil)
    (pss_one (ps_ret (pe_calWX XDesk_following T.cl_Desk (hr.mono (by first | decide | omega)) (L2N.takes_of rfl rfl rfl rfl) (pv 0) (pa_cons (pv 2) pa_nil))))))))), ?_⟩
  refine run_if ⟨_, rfl, rfl, _, rfl, ?_⟩
  rw [strEq]
  refine ite2 (fun c => ?_) (fun c => ?_)
  · obtain rfl := of_decide_eq_true c
    obtain rfl : ord = false := eo.trans (by decide +kernel)
    exact run_ret ⟨_, rfl, d, _, _, rfl, hd, rfl, _, rfl, _, rfl, d, dx, arr, v, u, o, last, rfl, hd, L, hT, h.imp id fun h => h.2⟩
  replace h : BadT K cs H ord u E ∨ ShortT K cs H u last E := h.elim id fun h => absurd (decide_eq_true h.1) c
  refine run_next ?_
  dsimp only
  refine run_if ⟨_, rfl, rfl, _, rfl, ?_⟩
  rw [strEq]
  refine ite2 (fun c => ?_) (fun c => ?_)
  · obtain rfl := of_decide_eq_true c
    obtain rfl : ord = false := eo.trans (by decide +kernel)
    exact run_ret ⟨_, rfl, d, _, _, rfl, hd, rfl, _, rfl, d, dx, arr, v, u, last, _, rfl, rfl, hd, L, hT, h⟩
  refine run_next ?_
  dsimp only
  refine run_if ⟨_, rfl, rfl, _, rfl, ?_⟩
  rw [strEq]
  refine ite2 (fun c => ?_) (fun c => ?_)
  · obtain rfl := of_decide_eq_true c
    obtain rfl : ord = false := eo.trans (by decide +kernel)
    exact run_ret ⟨_, rfl, d, _, _, rfl, hd, rfl, _, rfl, d, dx, arr, v, u, last, _, rfl, rfl, hd, L, hT, h⟩
  refine run_next ?_
  dsimp only
  refine run_if ⟨_, rfl, rfl, _, rfl, ?_⟩
  rw [strEq]
  refine ite2 (fun c => ?_) (fun c => ?_)
  · obtain rfl := of_decide_eq_true c
    obtain rfl : ord = false := eo.trans (by decide +kernel)
    exact run_ret ⟨_, rfl, d, _, _, rfl, hd, rfl, _, rfl, d, dx, arr, v, u, last, _, rfl, rfl, hd, L, hT, h⟩
  refine run_next ?_
  dsimp only
  refine run_if ⟨_, rfl, rfl, _, rfl, ?_⟩
  rw [strEq]
  refine ite2 (fun c => ?_) (fun c => ?_)
  · obtain rfl := of_decide_eq_true c
    obtain rfl : ord = true := eo.trans (by decide +kernel)
    exact run_ret ⟨_, rfl, d, _, _, rfl, hd, rfl, _, rfl, d, dx, arr, v, u, last, _, rfl, rfl, hd, L, hT, h⟩
  obtain rfl : ord = false := eo.trans (Bool.eq_false_iff.mpr c)
  refine run_next ?_
  dsimp only
  exact run_ret ⟨_, rfl, d, _, _, rfl, hd, rfl, _, rfl, d, dx, arr, v, u, last, _, rfl, rfl, hd, L, hT, h⟩
theorem ok_law_tried (T : Txt K mg cs) (P_law_word : CalP P w K mg base 1 "_law_word" ["caught"] (spWord cs)) (X_law_door : CalX P w K mg base 12 "_law_door" ["desk", "door", "place", "own"] (spDoorX K cs)) : Cal P w K mg base 13 "_law_tried" ["desk", "door", "place", "own"] (fun vs H Q _ => spDoorX K cs vs H Q (EW cs Q)) := by
  refine T.f_law_tried.cal scLawTried (fun vs H Q E h => ?_) (fun f cdv A outer s H vs Q E hr h => ?_)
  · obtain ⟨_, _, _, _, _, _, _, _, _, rfl, _⟩ := h
    rfl
  obtain ⟨d, dx, arr, v, u, o, last, door, ord, rfl, hdr, eo, hd, L, hT, h⟩ := h
  refine ⟨_, (pss_cons (ps_set (i := 4) scLawTried.nd rfl (by first | exact Or.inl rfl | exact Or.inr rfl) pe_non)
    (pss_cons (L2N.ps_try_as (i := 5) rfl rfl scLawTried.nd rfl rfl ⟨rfl, by decide, .inl (T.xg "StemError" (by simp [ALLE]))⟩ takes0N (fun W pn xe tk _ => (pss_one (ps_expr (pe_calX X_law_door (hr.mono (by first | decide | omega)) tk (pa_cons (pv 0) (pa_cons (pv 1) (pa_cons (pv 2) (pa_cons (pv 3) pa_nil))))))))
      (fun a oe cls d pn hz hf => (pss_one (ps_set (i := 4) scLawTried.nd rfl (by first | exact Or.inl rfl | exact Or.inr rfl) (pe_calP P_law_word (roomS hr (by first | decide | omega)) hz (hot_suite hz hf) List.mem_cons_self (pa_cons (pv 5) pa_nil))))))
    (pss_one (ps_ret (pv 4))))), ?_⟩
  refine run_set ?_
  refine ⟨_, rfl, _, rfl, _, rfl, _, rfl, d, dx, arr, v, u, o, last, door, ord, rfl, hdr, eo, hd, L, hT, ?_⟩
  have imp : ∀ {E' : XK}, (∀ c d H, EW cs Q c d H → E' c d H) → (BadT K cs H ord u E' ∨ ShortT K cs H u last E') ∨ (door = "put" ∧ WorthX K cs H arr u o last E') := fun i => h.imp (fun h => h.imp (fun h => h.imp i) fun h => h.imp i) fun h => ⟨h.1, h.2.imp i⟩
  refine imp (caught T fun a x H1 hx ha q => ?_)
  refine ⟨_, rfl, x, rfl, hx, rfl, rfl, fun H2 S2 => ?_⟩
  exact ⟨_, rfl, q H2 S2⟩
theorem ok_law_long_word (T : Txt K mg cs) (P_law_word : CalP P w K mg base 1 "_law_word" ["caught"] (spWord cs)) (Xlong : CalX P w K mg base 1 "long" ["last", "keys"] (fun vs H Q E => spLong K vs H Q E ∨ spLongX K cs vs H Q E)) :
    Cal P w K mg base 2 "_law_long_word" ["last_one", "some"] (fun vs H Q _ => spLong K vs H (fun _ H' => Q .non H') E0 ∨ spLongX K cs vs H Q (EW cs Q)) := by
  refine T.f_law_long_word.cal scLawLongWord (fun vs H Q E h => ?_) (fun f cdv A outer s H vs Q E hr h => ?_)
  · rcases h with ⟨_, _, _, _, _, _, rfl, _⟩ | ⟨_, _, _, _, rfl, _⟩ <;> rfl
  refine ⟨_, (pss_cons (ps_set (i := 2) scLawLongWord.nd rfl (by first | exact Or.inl rfl | exact Or.inr rfl) pe_non)
    (pss_cons (L2N.ps_try_as (i := 3) rfl rfl scLawLongWord.nd rfl rfl ⟨rfl, by decide, .inl (T.xg "StemError" (by simp [ALLE]))⟩ takes0N (fun W pn xe tk _ => (pss_one (ps_expr (pe_calX Xlong (hr.mono (by first | decide | omega)) tk (pa_cons (pv 0) (pa_cons (pv 1) pa_nil))))))
      (fun a oe cls d pn hz hf => (pss_one (ps_set (i := 2) scLawLongWord.nd rfl (by first | exact Or.inl rfl | exact Or.inr rfl) (pe_calP P_law_word (roomS hr (by first | decide | omega)) hz (hot_suite hz hf) List.mem_cons_self (pa_cons (pv 3) pa_nil))))))
    (pss_one (ps_ret (pv 2))))), ?_⟩
  rcases h with ⟨p, t, nm, h, z, s', rfl, R, ht, le, q⟩ | ⟨v, t, s', last, rfl, L, ht, hl, hx⟩
  · refine run_set ?_
    refine ⟨_, rfl, _, rfl, .inl ⟨p, t, nm, h, z, s', rfl, R, ht, le, fun q1 H1 S1 h1 R1 => ?_⟩⟩
    exact ⟨_, rfl, q q1 H1 S1 h1 R1⟩
  · refine run_set ?_
    refine ⟨_, rfl, _, rfl, .inr ⟨v, t, s', last, rfl, L, ht, hl, hx.imp (caught T fun a x H1 hx' ha q => ?_)⟩⟩
    refine ⟨_, rfl, x, rfl, hx', rfl, rfl, fun H2 S2 => ?_⟩
    exact ⟨_, rfl, q H2 S2⟩
end
/-! ### the end of a tuple -/
theorem slice_from {K : PySem.W.Frag} {t : Addr} {xs : List V} {k : Nat} {H : Hp} {Q : VK} (h : SqT K H t xs) (hk : k ≤ xs.length) (q : ∀ p H', Sm H H' → SqT K H' p (xs.drop k) → Q (.ref p) H') : rSlA K (.ref t) (some (k : Int)) none H Q := by
  have e0 : HT.sIx xs.length 0 (some (k : Int)) = k := by
    show (if (k : Int) < 0 then ((k : Int) + (xs.length : Int)).toNat else min (k : Int).toNat xs.length) = k
    rw [if_neg (by omega)]
    omega
  refine ⟨t, xs, rfl, h, fun e => ?_, fun _ p hp => ?_⟩
  · have e1 := e.1
    rw [e0] at e1
    subst e1
    exact q t H (Sm.refl H) h
  · have e : cutV xs (some (k : Int)) none = xs.drop k := by
      unfold cutV
      rw [e0, show HT.sIx xs.length xs.length none = xs.length from rfl]
      exact List.take_of_length_le (by rw [List.length_drop]; omega)
    rw [e]
    exact q p _ (Sm.new hp) (SqT.of upd_same)
/-! ### things written on the spot, of what stands already -/
def Ev (K : PySem.W.Frag) (av : Addr → Prop) (σ : L2.St) (H0 : Hp) (te : TE) (d : D) : Prop := ∀ (H : Hp) (Q : VK), Sm H0 H → AvL av H → (∀ v H', Sm H H' → Th K av 0 H' v d → Q v H') → te σ H Q
def EvAll (K : PySem.W.Frag) (av : Addr → Prop) (σ : L2.St) (H0 : Hp) (ta : TA) (ds : List D) : Prop := ∀ (H : Hp) (R : List V → Hp → Prop), Sm H0 H → AvL av H → (∀ vs H', Sm H H' → ThAll K av 0 H' vs ds → R vs H') → ta σ H R
section
variable {K : PySem.W.Frag} {av : Addr → Prop} {σ : L2.St} {H0 : Hp} {te tb : TE} {ta : TA} {d : D} {ds es l l2 : List D}
theorem Ev.non : Ev K av σ H0 (tC .non) .non := fun H _ _ _ q => q _ H (Sm.refl H) .non
theorem Ev.bl (b : Bool) : Ev K av σ H0 (tC (.bl b)) (.bl b) := fun H _ _ _ q => q _ H (Sm.refl H) (.bl b)
theorem Ev.int (i : Int) (h : i.natAbs ≤ 10 ^ 22 + 0) : Ev K av σ H0 (tC (.int i)) (.int i) := fun H _ _ _ q => q _ H (Sm.refl H) (.int i h)
theorem th_okS {n : Nat} {H : Hp} {z : Str} (h : (decide ((tl z).length ≤ 400 + n) && (tl z).all fun c => decide (c < 128)) = true) : Th K av n H (.str z) (.str z) := by
  have h := (Bool.and_eq_true _ _).mp h
  exact .str z (of_decide_eq_true h.1) fun c hc => of_decide_eq_true (List.all_eq_true.mp h.2 c hc)
theorem Ev.str (z : Str) (h : (decide ((tl z).length ≤ 400 + 0) && (tl z).all fun c => decide (c < 128)) = true) : Ev K av σ H0 (tC (.str z)) (.str z) := fun H _ _ _ q => q _ H (Sm.refl H) (th_okS h)
theorem Ev.repS (z : Str) (i : Int) (h0 : 0 ≤ i) (h1 : i ≤ 1000) (h2 : z.length ≤ 1000) (h : (decide ((tl (Txt.mul z i)).length ≤ 400 + 0) && (tl (Txt.mul z i)).all fun c => decide (c < 128)) = true) : Ev K av σ H0 (tOp rRepS (tC (.str z)) (tC (.int i))) (.str (Txt.mul z i)) := fun H _ _ _ q => ⟨z, i, rfl, rfl, mul_ok h0 h1 h2, q _ H (Sm.refl H) (th_okS h)⟩
theorem Ev.var {i : Nat} {v : V} (hs : σ[i]? = some (some v)) (A0 : AvL av H0) (h : Th K av 0 H0 v d) : Ev K av σ H0 (tVar i) d := fun H _ S _ q => ⟨v, hs, q v H (Sm.refl H) (h.ko A0 (KO.sm S))⟩
/-- a text that is told at once -/
theorem Ev.at {z : Str} (h : ∀ (H : Hp) (Q : VK), Sm H0 H → Q (.str z) H → te σ H Q) (ok : (tl z).length ≤ 400 ∧ ∀ c ∈ tl z, c < 128) : Ev K av σ H0 te (.str z) := fun H Q S _ q => h H Q S (q _ H (Sm.refl H) (.str z ok.1 ok.2))
theorem EvAll.nil : EvAll K av σ H0 tNil [] := fun H _ _ _ q => q [] H (Sm.refl H) .nil
theorem EvAll.cons (h : Ev K av σ H0 te d) (t : EvAll K av σ H0 ta ds) : EvAll K av σ H0 (tCons te ta) (d :: ds) := fun H _ S A q =>
  h H _ S A fun _ H1 S1 hv => t H1 _ (S.trans S1) (A.sm S1) fun _ H2 S2 hvs => q _ H2 (S1.trans S2) (.cons (hv.ko (A.sm S1) (KO.sm S2)) hvs)
theorem Ev.tup (h : EvAll K av σ H0 ta ds) (hl : ds.length ≤ 40) : Ev K av σ H0 (tTup ta) (.tup ds) := fun H Q S A q => by
  refine h H _ S A fun vs H' S' hv => ⟨small (by rw [hv.len]; omega), fun p hp => q _ _ (S'.trans (Sm.new hp)) ?_⟩
  exact .tup (.inl (.inl upd_same)) (by rw [hv.len]; omega) (hv.ko (A.sm S') (KO.sm (Sm.new hp)))
theorem Ev.lst (h : EvAll K av σ H0 ta ds) (hl : ds.length ≤ 40) : Ev K av σ H0 (tLst ta) (.lst ds) := fun H Q S A q => by
  refine h H _ S A fun vs H' S' hv => ⟨small (by rw [hv.len]; omega), fun p hp => q _ _ (S'.trans (Sm.new hp)) ?_⟩
  exact .lst upd_same ((A.sm S').fresh hp) (by rw [hv.len]; omega) (hv.ko (A.sm S') (KO.sm (Sm.new hp)))
theorem Ev.cat (h1 : Ev K av σ H0 te (.tup l)) (h2 : Ev K av σ H0 tb (.tup l2)) (hl : l.length + l2.length ≤ 40) : Ev K av σ H0 (tOp (rCatA K) te tb) (.tup (l ++ l2)) := fun H Q S A q => by
  refine h1 H _ S A fun v H1 S1 t1 => h2 H1 _ (S.trans S1) (A.sm S1) fun u H2 S2 t2 => ?_
  have A1 := A.sm S1
  have A2 := A1.sm S2
  obtain ⟨a, xs, _, rfl, e1, g1, n1, x1⟩ := tup_of (t1.ko A1 (KO.sm S2)) rfl
  obtain ⟨b, ys, _, rfl, e2, g2, n2, x2⟩ := tup_of t2 rfl
  injection e1 with e1
  injection e2 with e2
  subst e1 e2
  have l1 := x1.len
  have l2 := x2.len
  refine cat_two g1 g2 (by omega) fun p H3 S3 h3 => q _ H3 (S1.trans (S2.trans S3)) (.tup h3 (by rw [List.length_append]; omega) ((x1.append x2).ko A2 (KO.sm S3)))
theorem thAll_take {n : Nat} {H : Hp} : ∀ {xs : List V} {ds : List D}, ThAll K av n H xs ds → ∀ k, ThAll K av n H (xs.take k) (ds.take k)
  | _, _, .nil, k => by rw [List.take_nil, List.take_nil]; exact .nil
  | _, _, .cons h t, 0 => .nil
  | _, _, .cons h t, k + 1 => .cons h (thAll_take t k)
theorem thAll_drop {n : Nat} {H : Hp} : ∀ {xs : List V} {ds : List D}, ThAll K av n H xs ds → ∀ k, ThAll K av n H (xs.drop k) (ds.drop k)
  | _, _, .nil, k => by rw [List.drop_nil, List.drop_nil]; exact .nil
  | _, _, .cons h t, 0 => .cons h t
  | _, _, .cons h t, k + 1 => thAll_drop t k
/-- the first ones; tk tells how many -/
theorem Ev.to {tk : TE} {k : Nat} (h : Ev K av σ H0 te (.tup l)) (hk : ∀ (H : Hp) (Q : VK), Sm H0 H → Q (.int (k : Int)) H → tk σ H Q) : Ev K av σ H0 (tSl (rSlA K) te tNoPart (tPart tk)) (.tup (l.take k)) := fun H Q S A q => by
  refine h H _ S A fun v H1 S1 t1 => ?_
  have A1 := A.sm S1
  obtain ⟨a, xs, _, rfl, e1, g1, n1, x1⟩ := tup_of t1 rfl
  injection e1 with e1
  subst e1
  refine hk H1 _ (S.trans S1) ⟨k, rfl, slice_take g1 fun p H2 S2 h2 => q _ H2 (S1.trans S2) (.tup h2 ?_ ((thAll_take x1 k).ko A1 (KO.sm S2)))⟩
  rw [List.length_take]
  omega
theorem Ev.from {tk : TE} {k : Nat} (h : Ev K av σ H0 te (.tup l)) (lk : k ≤ l.length) (hk : ∀ (H : Hp) (Q : VK), Sm H0 H → Q (.int (k : Int)) H → tk σ H Q) : Ev K av σ H0 (tSl (rSlA K) te (tPart tk) tNoPart) (.tup (l.drop k)) := fun H Q S A q => by
  refine h H _ S A fun v H1 S1 t1 => ?_
  have A1 := A.sm S1
  obtain ⟨a, xs, _, rfl, e1, g1, n1, x1⟩ := tup_of t1 rfl
  injection e1 with e1
  subst e1
  have lx := x1.len
  refine hk H1 _ (S.trans S1) ⟨k, rfl, slice_from g1 (by omega) fun p H2 S2 h2 => q _ H2 (S1.trans S2) (.tup h2 ?_ ((thAll_drop x1 k).ko A1 (KO.sm S2)))⟩
  rw [List.length_drop]
  omega
/-- list(a tuple) -/
theorem Ev.list {i : Nat} {v : V} (hs : σ[i]? = some (some v)) (A0 : AvL av H0) (h : Th K av 0 H0 v (.tup l)) : Ev K av σ H0 (tCB (rListOf K) (tCons (tVar i) tNil)) (.lst l) := fun H Q S A q => by
  obtain ⟨a, xs, _, rfl, e1, g1, n1, x1⟩ := tup_of h rfl
  injection e1 with e1
  subst e1
  refine ⟨_, hs, a, xs, rfl, .inr (Sm.seqT S g1), fun p hp => q _ _ (Sm.new hp) ?_⟩
  exact .lst upd_same (A.fresh hp) n1 (x1.ko A0 (KO.sm (S.trans (Sm.new hp))))
/-- what is said some times -/
theorem Ev.rep {k : Int} (h : EvAll K av σ H0 ta ds) (hl : ds.length ≤ 40) (h0 : ds ≠ []) (h2 : 2 ≤ k) (h3 : k ≤ 1000) (hk : (List.replicate k.toNat ds).flatten.length ≤ 40) : Ev K av σ H0 (tOp (rRepT K) (tTup ta) (tC (.int k))) (.tup (List.replicate k.toNat ds).flatten) := fun H Q S A q => by
  have rep : ∀ {H : Hp} {vs : List V}, ThAll K av 0 H vs ds → ∀ k : Nat, ThAll K av 0 H (List.replicate k vs).flatten (List.replicate k ds).flatten := fun {H vs} h k => by
    induction k with
    | zero => exact .nil
    | succ k ih =>
      rw [List.replicate_succ, List.replicate_succ, List.flatten_cons, List.flatten_cons]
      exact h.append ih
  refine h H _ S A fun vs H' S' hv => ⟨small (by rw [hv.len]; omega), fun p hp => ⟨p, k, vs, rfl, rfl, .inl (.inl upd_same), fun e => ?_, h2, h3, by rw [hv.len]; omega, fun p2 hp2 => q _ _ ((S'.trans (Sm.new hp)).trans (Sm.new hp2)) ?_⟩⟩
  · rw [e] at hv
    cases hv
    exact h0 rfl
  · have hr := rep (hv.ko (A.sm S') (KO.sm ((Sm.new (o := .tup vs) hp).trans (Sm.new (o := .tup (List.replicate k.toNat vs).flatten) hp2)))) k.toNat
    exact .tup (.inl (.inl upd_same)) (by rw [hr.len]; omega) hr
end
/-! ### lists of things written on the spot, one of them drawn -/
theorem askD_bad {l : List D} {o : D} (ho : o ∈ l) (h1 : kD o = false) (h2 : (wD o && decide (lenD o ≤ 40)) = false) : askD (.tup l) = false := by
  obtain ⟨es, z, rfl⟩ : ∃ es z, l = es ++ [z] := ⟨_, _, (List.dropLast_concat_getLast (by intro e; subst e; cases ho)).symm⟩
  rw [askD_snoc]
  rcases List.mem_append.mp ho with h | h
  · have e : es.all kD = false := by
      cases e : es.all kD with
      | false => rfl
      | true =>
        rw [List.all_eq_true.mp e o h] at h1
        cases h1
    rw [e, Bool.false_and, Bool.and_false]
  · rw [List.mem_singleton.mp h] at h2
    rw [h2, Bool.and_false, Bool.and_false]
theorem askD_len {l : List D} (h : 6 < l.length) : askD (.tup l) = false := by
  obtain ⟨es, z, rfl⟩ : ∃ es z, l = es ++ [z] := ⟨_, _, (List.dropLast_concat_getLast (by intro e; subst e; cases h)).symm⟩
  rw [List.length_append, List.length_singleton] at h
  rw [askD_snoc, decide_eq_false (show ¬ es.length + 1 ≤ 6 by omega), Bool.false_and]
section
variable {P : Program} {w : World} {K : PySem.W.Frag} {mg : Str → Option Value} {base : Heap} {cs : Tabs}
theorem Bag.avl {H : Hp} {b : Addr} {n : Nat} (B : Bag H b n) : AvL (fun a => a = b) H := fun a e => by
  rw [e]
  exact B.some
/-- one of things written on the spot, drawn -/
theorem ev_drawn {b : Addr} {i n N : Nat} {σ : L2.St} {H : Hp} {ta : TA} {ds : List D} {Q : VK} (hb : σ[i]? = some (some (.ref b))) (B : Bag H b n) (hn : n ≤ LIM) (h : EvAll K (fun a => a = b) σ H ta ds) (hN : ds.length = N) (h0 : 0 < N ∧ N ≤ 1000) (q : ∀ v d H', d ∈ ds → Th K (fun a => a = b) 0 H' v d → Go b 1 H H' → Q v H') :
    tOp (rIxL K) (tLst ta) (tCall spDraw [] E0 (tCons (tVar i) (tCons (tC (.int ((N : Nat) : Int))) tNil))) σ H Q := by
  refine h H _ (Sm.refl H) B.avl fun vs H1 S1 hv => ⟨small (by rw [hv.len]; omega), fun L hL => ?_⟩
  have SL := Sm.new (o := .lst vs) hL
  have S := S1.trans SL
  have B2 := (Go.same (b := b) S).bag _ B
  have A1 : AvL (fun a => a = b) H1 := B.avl.sm S1
  have aL : (upd H1 L (.lst vs)) L = some (.lst vs) := upd_same
  have nL : L ≠ b := ((Go.same (b := b) S1).bag _ B).ne hL
  have hv2 := hv.ko A1 (KO.sm SL)
  generalize upd H1 L (.lst vs) = H2 at *
  refine ⟨_, hb, b, (N : Int), n, rfl, B2, hn, by omega, by omega, fun r H' r0 r1 G => ?_⟩
  obtain ⟨k, rfl⟩ : ∃ k : Nat, r = (k : Int) := ⟨r.toNat, by omega⟩
  have hk : k < vs.length := by rw [hv.len]; omega
  obtain ⟨d, hd, th⟩ := hv2.at hk
  exact ⟨L, vs, (k : Int), vs[k], rfl, rfl, SqL.of (G.keep L _ nL aL), atI_nat (List.getElem?_eq_getElem hk), q _ d H' (List.mem_of_getElem? hd) (th.ko B2.avl (KO.go G rfl)) ((Go.same (b := b) S).trans G |>.mono (by omega))⟩
/-- a list of things -/
def LL (K : PySem.W.Frag) (av : Addr → Prop) (H : Hp) (L : Addr) (ds : List D) : Prop := ∃ vs, H L = some (.lst vs) ∧ ThAll K av 0 H vs ds
theorem LL.ko {av : Addr → Prop} {H H' : Hp} {L : Addr} {ds : List D} (h : LL K av H L ds) (A : AvL av H) (n : ¬ av L) (k : KO av H H') : LL K av H' L ds := by
  obtain ⟨vs, e, t⟩ := h
  exact ⟨vs, k _ _ n e rfl, t.ko A k⟩
theorem ll_new {av : Addr → Prop} {σ : L2.St} {H : Hp} {ta : TA} {ds : List D} {Q : VK} (A : AvL av H) (h : EvAll K av σ H ta ds) (hl : ds.length ≤ 40) (q : ∀ L H', Sm H H' → LL K av H' L ds → ¬ av L → Q (.ref L) H') : tLst ta σ H Q := by
  refine h H _ (Sm.refl H) A fun vs H1 S1 hv => ⟨small (by rw [hv.len]; omega), fun L hL => ?_⟩
  exact q L _ (S1.trans (Sm.new hL)) ⟨vs, upd_same, hv.ko (A.sm S1) (KO.sm (Sm.new hL))⟩ ((A.sm S1).fresh hL)
theorem ll_cat {av : Addr → Prop} {i : Nat} {F : Addr} {σ : L2.St} {H : Hp} {ta : TA} {ds es : List D} {Q : VK} (hs : σ[i]? = some (some (.ref F))) (A : AvL av H) (f : LL K av H F ds) (nF : ¬ av F) (h : EvAll K av σ H ta es) (hl : ds.length + es.length ≤ 40) (q : ∀ L H', Sm H H' → LL K av H' L (ds ++ es) → ¬ av L → Q (.ref L) H') : tOp rCat (tVar i) (tLst ta) σ H Q := by
  refine ⟨_, hs, ll_new A h (by omega) fun B H1 S1 g nB => ?_⟩
  obtain ⟨vs, h1, j1⟩ := f.ko A nF (KO.sm S1)
  obtain ⟨ws, h2, j2⟩ := g
  have l1 := j1.len
  have l2 := j2.len
  refine ⟨F, B, vs, ws, rfl, rfl, h1, h2, small (by omega), fun G hG => ?_⟩
  exact q G _ (S1.trans (Sm.new hG)) ⟨_, upd_same, (j1.append j2).ko (A.sm S1) (KO.sm (Sm.new hG))⟩ ((A.sm S1).fresh hG)
theorem ll_drawn {b F : Addr} {i j n N : Nat} {σ : L2.St} {H : Hp} {ds : List D} {Q : VK} (hb : σ[i]? = some (some (.ref b))) (hs : σ[j]? = some (some (.ref F))) (f : LL K (fun a => a = b) H F ds) (nF : F ≠ b) (B : Bag H b n) (hn : n ≤ LIM) (hN : ds.length = N) (h0 : 0 < N ∧ N ≤ 1000) (q : ∀ v d H', d ∈ ds → Th K (fun a => a = b) 0 H' v d → Go b 1 H H' → Q v H') :
    tOp (rIxL K) (tVar j) (tCall spDraw [] E0 (tCons (tVar i) (tCons (tC (.int ((N : Nat) : Int))) tNil))) σ H Q := by
  obtain ⟨vs, hF, hv⟩ := f
  have lv := hv.len
  refine ⟨_, hs, _, hb, b, (N : Int), n, rfl, B, hn, by omega, by omega, fun r H' r0 r1 G => ?_⟩
  obtain ⟨k, rfl⟩ : ∃ k : Nat, r = (k : Int) := ⟨r.toNat, by omega⟩
  have hk : k < vs.length := by omega
  obtain ⟨d, hd, th⟩ := hv.at hk
  exact ⟨F, vs, (k : Int), vs[k], rfl, rfl, SqL.of (G.keep F _ nF hF), atI_nat (List.getElem?_eq_getElem hk), q _ d H' (List.mem_of_getElem? hd) (th.ko B.avl (KO.go G rfl)) G⟩
theorem tupOf1 {te : TE} {σ : L2.St} {H : Hp} {Q : VK} (h : te σ H fun v H1 => rTupOf K [v] H1 Q) : tCB (rTupOf K) (tCons te tNil) σ H Q := h
end
/-! ### lists of two -/
/-- a comprehension over a list of two -/
theorem lc_two {K : PySem.W.Frag} {i j : Nat} {S : Addr} {x y : V} {σ : L2.St} {H : Hp} {te : TE} {Q : VK} (hj : σ[j]? = some (some (.ref S))) (hS : H S = some (.lst [x, y]))
    (h : ∀ DL, H DL = none → ∀ R1 : VK, (∀ u H1, H1 DL = some (.lst []) → H1 S = some (.lst [x, y]) → (∀ R2 : VK, (∀ v H2, H2 DL = some (.lst [u]) → H2 S = some (.lst [x, y]) → Q (.ref DL) (upd H2 DL (.lst [u, v])) → R2 v H2) → te ((σ.set i none).set i (some y)) (upd H1 DL (.lst [u])) R2) → R1 u H1) → te ((σ.set i none).set i (some x)) (upd H DL (.lst [])) R1) : tLc (iList K (tVar j)) (gName i) tYes te [i] σ H Q := by
  refine ⟨_, hj, S, rfl, ⟨_, SqL.of hS⟩, fun DL hD => ?_⟩
  have nS : S ≠ DL := fun e => by rw [e, hD] at hS; cases hS
  have up : ∀ {Hx : Hp} {l : List V}, Hx S = some (.lst [x, y]) → (upd Hx DL (.lst l)) S = some (.lst [x, y]) := fun e => by
    rw [upd_ne nS]
    exact e
  have wp : ∀ z : V, wipe ((σ.set i none).set i (some z)) [i] = wipe σ [i] := fun z => by
    show ((σ.set i none).set i (some z)).set i none = σ.set i none
    rw [List.set_set, List.set_set]
  refine lc_list (K := K) (a := S) (xs := [x, y]) (fun n H' => H' S = some (.lst [x, y]) ∧ match n with
    | 0 => H' = upd H DL (.lst [])
    | 1 => ∃ u, H' DL = some (.lst [u]) ∧ ∀ R2 : VK, (∀ v H2, H2 DL = some (.lst [u]) → H2 S = some (.lst [x, y]) → Q (.ref DL) (upd H2 DL (.lst [u, v])) → R2 v H2) → te ((σ.set i none).set i (some y)) H' R2
    | _ => Q (.ref DL) H') ⟨up hS, rfl⟩ (fun _ H' _ h => SqL.of h.1) (fun n z H' hz hp => ?_) fun H' h => h.2
  obtain ⟨sS, hp⟩ := hp
  match n, hz, hp with
  | 0, hz, hp =>
    obtain rfl : x = z := Option.some.inj hz
    obtain rfl : H' = upd H DL (.lst []) := hp
    exact ⟨wp x, h DL hD _ fun u H1 e1 e2 h2 => ⟨[], e1, by decide, up e2, u, upd_same, h2⟩⟩
  | 1, hz, hp =>
    obtain rfl : y = z := Option.some.inj hz
    obtain ⟨u, e1, h2⟩ := hp
    exact ⟨wp y, h2 _ fun v H2 e2 e3 q => ⟨[u], e2, by show 1 < sizeLine; decide, up e3, q⟩⟩
  | n + 2, hz, _ => cases hz
theorem okD_succ : ∀ {J : Nat} {d : D}, okD J d = true → okD (J + 1) d = true
  | 0, .non, _ => rfl
  | 0, .bl _, _ => rfl
  | 0, .int _, _ => rfl
  | 0, .str _, _ => rfl
  | J + 1, .non, _ => rfl
  | J + 1, .bl _, _ => rfl
  | J + 1, .int _, _ => rfl
  | J + 1, .str _, _ => rfl
  | J + 1, .lst l, h => List.all_eq_true.mpr fun x hx => okD_succ (List.all_eq_true.mp h x hx)
  | J + 1, .tup l, h => List.all_eq_true.mpr fun x hx => okD_succ (List.all_eq_true.mp h x hx)
theorem is_one {K : PySem.W.Frag} {H : Hp} {F : Addr} {v : V} {d : D} (h : H F = some (.lst [v])) (i : Is K H v d) : Is K H (.ref F) (.lst [d]) := .lst h (fun z => z) (by show 1 ≤ 40 + 1000; decide) (.cons i .nil)
theorem is_two {K : PySem.W.Frag} {H : Hp} {F : Addr} {v u : V} {d e : D} (h : H F = some (.lst [v, u])) (i : Is K H v d) (j : Is K H u e) : Is K H (.ref F) (.lst [d, e]) := .lst h (fun z => z) (by show 2 ≤ 40 + 1000; decide) (.cons i (.cons j .nil))
theorem okD_one {J : Nat} {d : D} (h : okD J d = true) : okD (J + 1) (.lst [d]) = true := by
  show (okD J d && true) = true
  rw [h]
  rfl
theorem okD_two {J : Nat} {d e : D} (h : okD J d = true) (g : okD J e = true) : okD (J + 1) (.lst [d, e]) = true := by
  show (okD J d && (okD J e && true)) = true
  rw [h, g]
  rfl
theorem run_join {s r : TS} {Dn : Ends} {σ : L2.St} {H : Hp} (J : L2.St → Hp → Prop) (h : ∀ nx : L2.St → Hp → Prop, (∀ σ1 H1, J σ1 H1 → nx σ1 H1) → s { Dn with nx := nx } σ H) (hr : ∀ σ1 H1, J σ1 H1 → r Dn σ1 H1) : tSeq s r Dn σ H := h (r Dn) hr
/-! ### what is no reference, long or short -/
def ODD7 : List D := [.non, .bl true, .int 0, .str "a\n", .lst [.str "a"], .tup [], .str (Txt.mul "x" 41)]
def badD (d : D) : Bool := !shortD d && (!askRefD d && !refD d)
theorem badD_ok {d : D} (h : badD d = true) : shortD d = false ∧ askRefD d = false ∧ refD d = false := by
  unfold badD at h
  simp only [Bool.and_eq_true, Bool.not_eq_true'] at h
  exact h
theorem odd7 : ∀ o ∈ ODD7, kD o = false ∧ (wD o && decide (lenD o ≤ 40)) = false ∧ badD o = true := by
  intro o ho
  simp only [ODD7, List.mem_cons, List.not_mem_nil, or_false] at ho
  rcases ho with rfl | rfl | rfl | rfl | rfl | rfl | rfl <;> exact ⟨by decide +kernel, by decide +kernel, by decide +kernel⟩
theorem bad_empty {d : D} (h : askD d = false) : badD (.tup [.str "", d]) = true := by
  show (!(decide (("" : Str) = "") && askD d) && (!(nD (.str "") && askD d) && !(nD (.str "") && rowD d))) = true
  rw [h, show nD (.str "") = false by decide +kernel, Bool.and_false, Bool.false_and, Bool.false_and]
  rfl
theorem bad_name {nm : Str} {d : D} (hn : nm ≠ "") (h : askD d = false) (hr : rowD d = false) : badD (.tup [.str nm, d]) = true := by
  show (!(decide (nm = "") && askD d) && (!(nD (.str nm) && askD d) && !(nD (.str nm) && rowD d))) = true
  rw [h, hr, Bool.and_false, Bool.and_false]
  rfl
theorem bad_upper {nm : Str} {d : D} (hn : nm ≠ "") (h : nD (.str nm) = false) : badD (.tup [.str nm, d]) = true := by
  show (!(decide (nm = "") && askD d) && (!(nD (.str nm) && askD d) && !(nD (.str nm) && rowD d))) = true
  rw [h, decide_eq_false hn, Bool.false_and, Bool.false_and]
  rfl
def spBad (K : PySem.W.Frag) (cs : Tabs) : Sp := fun vs H Q _ => ∃ (b p : Addr) (n : Nat) (ns ks : List Str), vs = [.ref b, .ref p] ∧ Bag H b n ∧ n + 300 ≤ LIM ∧ PoolAt H p ns ks ∧ POOL ns ks ∧ ¬ PoolOwn H p b ∧
  ∀ (v : V) (d : D) (H' : Hp), Go b 100 H H' → Th K (fun a => a = b) 0 H' v d → badD d = true → Q v H'
section
variable {P : Program} {w : World} {K : PySem.W.Frag} {mg : Str → Option Value} {base : Heap} {cs : Tabs}
theorem ok_law_bad (T : Txt K mg cs) (C_law_take : Cal P w K mg base 1 "_law_take" ["bag", "many"] spDraw) (C_law_key : Cal P w K mg base 2 "_law_key" ["bag"] spKeyB) : Cal P w K mg base 3 "_law_bad" ["bag", "pool"] (spBad K cs) := by
  refine T.f_law_bad.cal scLawBad (fun vs H Q E h => ?_) (fun f cdv A outer s H vs Q E hr h => ?_)
  · obtain ⟨_, _, _, _, _, rfl, _⟩ := h
    rfl
  obtain ⟨b, p, n, ns, ks, rfl, B, hn, PA, PO, nbp, q⟩ := h
  refine ⟨_, (pss_cons (ps_set (i := 2) scLawBad.nd rfl (by first | exact Or.inl rfl | exact Or.inr rfl) (pe_ix (ixL K) (pe_lst (pa_cons pe_non (pa_cons pe_bl (pa_cons pe_int (pa_cons pe_str (pa_cons (pe_lst (pa_cons pe_str pa_nil)) (pa_cons (pe_tup pa_nil) (pa_cons (pe_op op_strRep pe_str pe_int) pa_nil)))))))) (pe_cal C_law_take (hr.mono (by first | decide | omega)) (pa_cons (pv 0) (pa_cons pe_int pa_nil))) (fun _ _ => rfl)))
    (pss_cons (ps_set (i := 3) scLawBad.nd rfl (by first | exact Or.inl rfl | exact Or.inr rfl) (pe_callTy (tupOf K) rfl T.n_tuple (by decide +kernel) (pa_cons (pe_lc (own := [("k", 6)]) (g := gName 6) (tt := tYes) rfl scLawBad.nd (pi_range1 rfl T.n_range (pa_cons (pe_cal C_law_take (hr.mono (by first | decide | omega)) (pa_cons (pv 0) (pa_cons pe_int pa_nil))) pa_nil)) (blkOk_by (own := [("k", 6)]) (N := ["bag", "pool", "odd", "some", "at", "rows", "k"]) (sc := defScope sLawBad) (by decide +kernel)) (fun _ _ _ _ _ => (pg_name (i := 6) scLawBad.nd rfl (by first | exact Or.inl rfl | exact Or.inr rfl))) (fun _ _ _ _ _ => pts_nil) (fun _ _ _ _ _ => (pe_cal C_law_key (hr.mono (by first | decide | omega)) (pa_cons (pv 0) pa_nil)))) pa_nil)))
    (pss_cons (ps_set (i := 4) scLawBad.nd rfl (by first | exact Or.inl rfl | exact Or.inr rfl) (pe_cal C_law_take (hr.mono (by first | decide | omega)) (pa_cons (pv 0) (pa_cons (pe_op op_add (pe_callB (lenQ K) rfl T.n_len (by decide +kernel) (pa_cons (pv 3) pa_nil)) pe_int) pa_nil))))
    (pss_cons (ps_set (i := 5) scLawBad.nd rfl (by first | exact Or.inl rfl | exact Or.inr rfl) (pe_lst (pa_cons (pe_tup (pa_cons pe_str (pa_cons (pe_op (catA K) (pe_op (catA K) (pe_slice (slT K) (pv 3) po_none (po_some (pv 4))) (pe_tup (pa_cons (pv 2) pa_nil))) (pe_slice (slT K) (pv 3) (po_some (pv 4)) po_none)) pa_nil))) (pa_cons (pe_tup (pa_cons pe_str (pa_cons (pe_callTy (listOf K) rfl T.n_list (by decide +kernel) (pa_cons (pv 3) pa_nil)) pa_nil))) (pa_cons (pe_tup (pa_cons pe_str (pa_cons (pe_tup pa_nil) pa_nil))) (pa_cons (pe_tup (pa_cons pe_str (pa_cons (pe_slice (slT K) (pe_op (catA K) (pv 3) (pe_op (repT K) (pe_tup (pa_cons pe_str pa_nil)) pe_int)) po_none (po_some pe_int)) pa_nil))) (pa_cons (pv 2) pa_nil)))))))
    (pss_cons (ps_set (i := 5) scLawBad.nd rfl (by first | exact Or.inl rfl | exact Or.inr rfl) (pe_op op_cat (pv 5) (pe_lst (pa_cons (pe_tup (pa_cons pe_str (pa_cons (pe_op (catA K) (pe_op (catA K) (pe_tup (pa_cons pe_str pa_nil)) (pe_slice (slT K) (pv 3) po_none (po_some pe_int))) (pe_tup (pa_cons pe_str pa_nil))) pa_nil))) (pa_cons (pe_tup (pa_cons (pe_ix (ixL K) (pe_dget (Nat.lt_trans (Nat.add_lt_add_left (show 1 < 64 by decide) _) hr.units) (pv 1) pe_str (fun _ _ => rfl)) pe_int (fun _ _ => rfl)) (pa_cons (pe_callTy (listOf K) rfl T.n_list (by decide +kernel) (pa_cons (pv 3) pa_nil)) pa_nil))) (pa_cons (pe_tup (pa_cons pe_str (pa_cons (pv 3) pa_nil))) (pa_cons (pe_lst (pa_cons pe_str (pa_cons (pv 3) pa_nil))) (pa_cons (pe_tup (pa_cons pe_str pa_nil)) pa_nil))))))))
    (pss_cons (ps_set (i := 5) scLawBad.nd rfl (by first | exact Or.inl rfl | exact Or.inr rfl) (pe_op op_cat (pv 5) (pe_lst (pa_cons (pe_tup (pa_cons pe_str (pa_cons pe_str pa_nil))) (pa_cons (pe_tup (pa_cons pe_str (pa_cons pe_non pa_nil))) (pa_cons (pe_tup (pa_cons (pe_ix (ixL K) (pe_dget (Nat.lt_trans (Nat.add_lt_add_left (show 1 < 64 by decide) _) hr.units) (pv 1) pe_str (fun _ _ => rfl)) pe_int (fun _ _ => rfl)) (pa_cons (pe_tup (pa_cons (pv 2) pa_nil)) pa_nil))) (pa_cons (pe_tup (pa_cons pe_str (pa_cons (pv 3) (pa_cons (pv 3) pa_nil)))) pa_nil)))))))
    (pss_one (ps_ret (pe_ix (ixL K) (pv 5) (pe_cal C_law_take (hr.mono (by first | decide | omega)) (pa_cons (pv 0) (pa_cons pe_int pa_nil))) (fun _ _ => rfl)))))))))), ?_⟩
  unfold LIM at hn
  -- what is odd
  refine run_set ?_
  refine ev_drawn (ds := ODD7) (N := 7) rfl B (by unfold LIM; omega) (.cons .non (.cons (.bl true) (.cons (.int 0 (by decide)) (.cons (.str _ (by decide +kernel)) (.cons (.lst (.cons (.str _ (by decide +kernel)) .nil) (by decide)) (.cons (.tup .nil (by decide)) (.cons (.repS _ _ (by decide) (by decide) (by decide +kernel) (by decide +kernel)) .nil))))))) rfl (by decide) fun vo o H1 ho to G1 => ?_
  have B1 := G1.bag _ B
  obtain ⟨ko, wo, bo⟩ := odd7 o ho
  -- keys
  refine run_set ?_
  refine tupOf1 ?_
  refine lc_drawn (i := 6) (N := 4) (c0 := 1) (c := 20) (A0 := fun _ => True) (fun v => ∃ z, v = .str z ∧ KEY z) (fun R h => draw_here (i := 0) (many := 4) (by rfl) B1 (by unfold LIM; omega) (by decide) (by decide) fun r H5 r0 r1 G5 => h _ _ trivial r0 (by omega) G5) B1 (by decide) (fun j H5 hj B5 G5 R hR => ?_) fun k5 D5 ys H5 _ k50 k51 hl hA G5 hy hD5 => ?_
  · exact ⟨_, (by rfl), b, _, rfl, B5, by unfold LIM; omega, fun z H' hz G' => hR _ _ ⟨z, rfl, hz⟩ G'⟩
  obtain ⟨S, rfl, hz, hS⟩ := texts_of ys hA
  have lS : S.length ≤ 4 := by omega
  have B5 := G5.bag _ B1
  refine ⟨D5, _, rfl, .inl ⟨SqL.of hy, fun t ht => ?_⟩⟩
  have G6 : Go b 0 H5 (upd H5 t (.tup (S.map V.str))) := Go.new ht
  have et : SqT K (upd H5 t (.tup (S.map V.str))) t (S.map V.str) := SqT.of upd_same
  generalize upd H5 t (.tup (S.map V.str)) = H6 at *
  have B6 := G6.bag _ B5
  have tS : Th K (fun a => a = b) 0 H6 (.ref t) (.tup (S.map D.str)) := .tup et (by rw [List.length_map]; omega) (th_keys hS)
  refine run_set ?_
  refine ⟨_, rfl, ⟨_, rfl, t, _, rfl, .inr et, _, 1, rfl, rfl, b, _, _, rfl, B6, by unfold LIM; omega, by omega, by omega, fun r H7 r0 r1 G7 => ?_⟩⟩
  rw [List.length_map] at r1
  obtain ⟨m, rfl⟩ : ∃ m : Nat, r = (m : Int) := ⟨r.toNat, by omega⟩
  have hm : m ≤ S.length := by omega
  have B7 := G7.bag _ B6
  have A7 := B7.avl
  have t7 := tS.ko B6.avl (KO.go G7 rfl)
  have to7 := ((to.ko B1.avl (KO.go G5 rfl)).ko B5.avl (KO.go G6 rfl)).ko B6.avl (KO.go G7 rfl)
  have G07 := G1.trans (G5.trans (G6.trans G7))
  have P7 := PA.go G07 nbp
  obtain ⟨nm, ns', rfl⟩ : ∃ nm ns', ns = nm :: ns' := by
    cases ns with
    | nil => exact absurd PO.n1 (by decide)
    | cons x l => exact ⟨x, l, rfl⟩
  have NMn := PO.nm nm List.mem_cons_self
  have nn := nm_no NMn
  have an := nm_asc NMn
  have ne : (tl nm).length ≤ 400 := by omega
  have lD : (S.map D.str).length ≤ 4 := by rw [List.length_map]; exact lS
  -- the rows
  refine run_set ?_
  refine ll_new (ds := [.tup [.str "", .tup ((S.map D.str).take m ++ [o] ++ (S.map D.str).drop m)], .tup [.str "", .lst (S.map D.str)], .tup [.str "", .tup []], .tup [.str "", .tup ((S.map D.str ++ (List.replicate 7 [D.str "1"]).flatten).take 7)], o]) A7
    (.cons (.tup (.cons (.str _ (by decide)) (.cons (.cat (.cat (.to (.var (by rfl) A7 t7) fun H Q _ q => ⟨_, (by rfl), q⟩) (.tup (.cons (.var (by rfl) A7 to7) .nil) (by show 1 ≤ 40; decide)) ?_) (.from (.var (by rfl) A7 t7) (by rw [List.length_map]; exact hm) fun H Q _ q => ⟨_, (by rfl), q⟩) ?_) .nil)) (by show 2 ≤ 40; decide))
    (.cons (.tup (.cons (.str _ (by decide)) (.cons (.list (by rfl) A7 t7) .nil)) (by show 2 ≤ 40; decide))
    (.cons (.tup (.cons (.str _ (by decide)) (.cons (.tup .nil (by decide)) .nil)) (by show 2 ≤ 40; decide))
    (.cons (.tup (.cons (.str _ (by decide)) (.cons (.to (.cat (.var (by rfl) A7 t7) (.rep (.cons (.str _ (by decide)) .nil) (by show 1 ≤ 40; decide) (by intro h; cases h) (by decide) (by decide) (by decide)) ?_) fun H Q _ q => q) .nil)) (by show 2 ≤ 40; decide))
    (.cons (.var (by rfl) A7 to7) .nil))))) (by show 5 ≤ 40; decide) fun L1 H8 S8 g1 n1 => ?_
  · rw [List.length_take]
    show _ + 1 ≤ 40
    omega
  · rw [List.length_append, List.length_take, List.length_drop]
    show _ + 1 + _ ≤ 40
    omega
  · show _ + 7 ≤ 40
    omega
  have t8 := t7.ko A7 (KO.sm S8)
  have to8 := to7.ko A7 (KO.sm S8)
  have A8 := A7.sm S8
  have P8 := P7.sm S8
  have rd : ∀ {H H' : Hp} {σ : L2.St} {Q : VK}, PoolAt H p (nm :: ns') ks → Sm H H' → σ[1]? = some (some (.ref p)) → Q (.str nm) H' → tOp (rIxL K) (tDGet (tVar 1) (tC (.str "names"))) (tC (.int 0)) σ H' Q := fun {H H' σ Q} PX S hs q => by
    obtain ⟨x, y, h1, h2, h3⟩ := (PX.sm S).ex
    exact ⟨_, hs, p, .ref x, rfl, .inl ⟨_, .inr "names", .inl h1, rfl, (by rfl)⟩, x, _, 0, .str nm, rfl, rfl, SqL.of h2, atI_nat (xs := (nm :: ns').map V.str) (show ((nm :: ns').map V.str)[0]? = some (V.str nm) from rfl), q⟩
  refine run_set ?_
  refine ll_cat (es := [.tup [.str "", .tup ([.str ""] ++ (S.map D.str).take 2 ++ [.str "1"])], .tup [.str nm, .lst (S.map D.str)], .tup [.str "A", .tup (S.map D.str)], .lst [.str "", .tup (S.map D.str)], .tup [.str ""]]) (by rfl) A8 g1 n1
    (.cons (.tup (.cons (.str _ (by decide)) (.cons (.cat (.cat (.tup (.cons (.str _ (by decide)) .nil) (by show 1 ≤ 40; decide)) (.to (k := 2) (.var (by rfl) A8 t8) fun H Q _ q => q) ?_) (.tup (.cons (.str _ (by decide)) .nil) (by show 1 ≤ 40; decide)) ?_) .nil)) (by show 2 ≤ 40; decide))
    (.cons (.tup (.cons (.at (fun H Q S q => rd P8 S (by rfl) q) ⟨ne, an.2⟩) (.cons (.list (by rfl) A8 t8) .nil)) (by show 2 ≤ 40; decide))
    (.cons (.tup (.cons (.str _ (by decide)) (.cons (.var (by rfl) A8 t8) .nil)) (by show 2 ≤ 40; decide))
    (.cons (.lst (.cons (.str _ (by decide)) (.cons (.var (by rfl) A8 t8) .nil)) (by show 2 ≤ 40; decide))
    (.cons (.tup (.cons (.str _ (by decide)) .nil) (by show 1 ≤ 40; decide)) .nil))))) (by show 5 + 5 ≤ 40; decide) fun L2 H9 S9 g2 n2 => ?_
  · rw [List.length_take]
    show 1 + _ ≤ 40
    omega
  · rw [List.length_append, List.length_take]
    show 1 + _ + 1 ≤ 40
    omega
  have t9 := t8.ko A8 (KO.sm S9)
  have to9 := to8.ko A8 (KO.sm S9)
  have A9 := A8.sm S9
  refine run_set ?_
  refine ll_cat (es := [.tup [.str "", .str "1"], .tup [.str "", .non], .tup [.str nm, .tup [o]], .tup [.str "", .tup (S.map D.str), .tup (S.map D.str)]]) (by rfl) A9 g2 n2
    (.cons (.tup (.cons (.str _ (by decide)) (.cons (.str _ (by decide)) .nil)) (by show 2 ≤ 40; decide))
    (.cons (.tup (.cons (.str _ (by decide)) (.cons .non .nil)) (by show 2 ≤ 40; decide))
    (.cons (.tup (.cons (.at (fun H Q S q => rd P8 (S9.trans S) (by rfl) q) ⟨ne, an.2⟩) (.cons (.tup (.cons (.var (by rfl) A9 to9) .nil) (by show 1 ≤ 40; decide)) .nil)) (by show 2 ≤ 40; decide))
    (.cons (.tup (.cons (.str _ (by decide)) (.cons (.var (by rfl) A9 t9) (.cons (.var (by rfl) A9 t9) .nil))) (by show 3 ≤ 40; decide)) .nil)))) (by show 10 + 4 ≤ 40; decide) fun L3 H10 S10 g3 n3 => ?_
  have S710 := S8.trans (S9.trans S10)
  have G710 : Go b 0 H7 H10 := Go.same S710
  have B10 := G710.bag _ B7
  refine run_ret ?_
  refine ll_drawn (N := 14) (by rfl) (by rfl) g3 n3 B10 (by unfold LIM; omega) rfl (by decide) fun v d H11 hd th G11 => q v d H11 ((G07.trans (G710.trans G11)).mono (by omega)) th ?_
  have kE : kD (.str "") = false := by decide +kernel
  rcases List.mem_append.mp hd with hd | hd
  · rcases List.mem_append.mp hd with hd | hd
    · simp only [List.mem_cons, List.not_mem_nil, or_false] at hd
      rcases hd with rfl | rfl | rfl | rfl | rfl
      · exact bad_empty (askD_bad (List.mem_append.mpr (.inl (List.mem_append.mpr (.inr List.mem_cons_self)))) ko wo)
      · exact bad_empty rfl
      · exact bad_empty rfl
      · refine bad_empty (askD_len ?_)
        rw [List.length_take, List.length_append]
        show 6 < min 7 (_ + 7)
        omega
      · exact bo
    · simp only [List.mem_cons, List.not_mem_nil, or_false] at hd
      rcases hd with rfl | rfl | rfl | rfl | rfl
      · refine bad_empty ?_
        rw [askD_snoc, List.all_append, List.all_cons, kE, Bool.false_and, Bool.false_and, Bool.false_and, Bool.and_false]
      · exact bad_name nn rfl rfl
      · exact bad_upper (by decide +kernel) (by decide +kernel)
      · rfl
      · rfl
  · simp only [List.mem_cons, List.not_mem_nil, or_false] at hd
    rcases hd with rfl | rfl | rfl | rfl
    · exact bad_empty rfl
    · exact bad_empty rfl
    · refine bad_name nn (askD_bad List.mem_cons_self ko wo) ?_
      show (decide ([o].length ≤ 6) && [o].all kD) = false
      rw [List.all_cons, ko, Bool.false_and, Bool.and_false]
    · rfl
end
/-! ### why a short one is refused -/
def dueV (last : Option (Str × List Str × Str)) (n : Nat) : V := match last with
  | none => .str "NoHead"
  | some (_, h, _) => if 6 < h.length + n then .str "TooDeep" else .non
def dueP (last : Option (Str × List Str × Str)) (n : Nat) : PyData := match last with
  | none => .str "NoHead"
  | some (_, h, _) => if 6 < h.length + n then .str "TooDeep" else .none
def spDue (K : PySem.W.Frag) : Sp := fun vs H Q _ => ∃ (v : V) (t : Addr) (xs : List V) (last : Option (Str × List Str × Str)), vs = [v, .ref t] ∧ LastV K H v last ∧ SqT K H t xs ∧ ∀ H', Sm H H' → Q (dueV last xs.length) H'
theorem shaped_txt {z : Str} (h : PyData.strOk z = true) : SeqAt.shaped (.str z) = true := by
  show (PyData.strOk z && true) = true
  rw [h]
  rfl
theorem due_dp {K : PySem.W.Frag} {H : Hp} (last : Option (Str × List Str × Str)) (n : Nat) : Dp K H (dueV last n) (dueP last n) ∧ SeqAt.shaped (dueP last n) = true := by
  cases last with
  | none => exact ⟨.str _, shaped_txt (by decide +kernel)⟩
  | some x =>
    obtain ⟨nm, h, z⟩ := x
    unfold dueV dueP
    by_cases c : 6 < h.length + n
    · simp only [if_pos c]
      exact ⟨.str _, shaped_txt (by decide +kernel)⟩
    · simp only [if_neg c]
      exact ⟨.non, rfl⟩
theorem due_eqv (last : Option (Str × List Str × Str)) (n : Nat) : PyData.eqv (dueP last n) (dueP last n) = true := by
  cases last with
  | none => exact beq_self_eq_true ("NoHead" : Str)
  | some x =>
    obtain ⟨nm, h, z⟩ := x
    unfold dueP
    by_cases c : 6 < h.length + n
    · simp only [if_pos c]
      exact beq_self_eq_true ("TooDeep" : Str)
    · simp only [if_neg c]
      rfl
section
variable {P : Program} {w : World} {K : PySem.W.Frag} {mg : Str → Option Value} {base : Heap} {cs : Tabs}
theorem ok_law_due (T : Txt K mg cs) : Cal P w K mg base 1 "_law_due" ["last_one", "some"] (spDue K) := by
  refine T.f_law_due.cal scLawDue (fun vs H Q E h => ?_) (fun f cdv A outer s H vs Q E hr h => ?_)
  · obtain ⟨_, _, _, _, rfl, _⟩ := h
    rfl
  obtain ⟨v, t, xs, last, rfl, L, ht, q⟩ := h
  refine ⟨_, (pss_cons (ps_if (PW.pt (pw_or (pt_cmpR op_isN (pv 0) pe_non (nomark _)) (pw_or1 (pt_cmpR (eqD K hr.units) (pe_ix (ixT K) (pv 0) pe_int (fun _ _ => rfl)) (pe_tup pa_nil) (nomark _))))) (pss_one (ps_ret pe_str)) pss_nil)
    (pss_one (ps_ret (pe_ifExp (pt_cmpR op_gt (pe_op op_add (pe_op op_sub (pe_callB (lenQ K) rfl T.n_len (by decide +kernel) (pa_cons (pe_ix (ixT K) (pv 0) pe_int (fun _ _ => rfl)) pa_nil)) pe_int) (pe_callB (lenQ K) rfl T.n_len (by decide +kernel) (pa_cons (pv 1) pa_nil))) pe_int (nomark _)) pe_str pe_non)))), ?_⟩
  cases last with
  | none =>
    obtain rfl : v = .non := L
    exact run_if ⟨_, rfl, rfl, _, rfl, iteT (iteT (q H (Sm.refl H)))⟩
  | some x =>
    obtain ⟨ln, h, z⟩ := x
    obtain ⟨Ak, pl, rfl, Rl⟩ := L
    obtain ⟨tl', l1, l2⟩ := Rl.ex
    have okl : ∀ y ∈ h ++ [z], WT y 40 := fun y hy => (List.mem_append.mp hy).elim (fun hy => (Ak.ks y hy).wt) fun hy => by rw [List.mem_singleton.mp hy]; exact Ak.lst
    refine run_if ?_
    refine ⟨_, rfl, rfl, _, rfl, iteF ?_⟩
    refine ⟨_, rfl, pl, _, 1, .ref tl', rfl, rfl, l1, atI_nat (j := 1) rfl, (by show 0 ≤ sizeLine; exact Nat.zero_le _), fun e he => ?_⟩
    have Se := Sm.new (o := .tup []) he
    refine ⟨.tuple (dS (h ++ [z])), .tuple (dS []), .tup (Sm.seqT Se l2) (dp_strs _), .tup (SqT.of upd_same) .nil, shaped_tup (fun y hy => strOk_of (okl y hy).asc), shaped_tup (fun _ h => nomatch h), _, rfl, ?_⟩
    have e0 : PyData.eqv (.tuple (dS (h ++ [z]))) (.tuple (dS [])) = false := by
      show PyData.eqvAll _ _ = _
      rw [eqv_strs]
      simp
    rw [e0]
    refine iteF (run_next ?_)
    generalize upd H e (.tup []) = H1 at *
    dsimp only
    refine run_ret ⟨_, rfl, pl, _, 1, .ref tl', rfl, rfl, Sm.seqT Se l1, atI_nat (j := 1) rfl, tl', _, rfl, .inr (Sm.seqT Se l2), _, 1, rfl, rfl, _, rfl, t, _, rfl, .inr (Sm.seqT Se ht), _, _, rfl, rfl, _, 6, rfl, rfl, _, rfl, ?_⟩
    have e1 : decide ((6 : Int) < (((h ++ [z]).map V.str).length : Int) - 1 + (xs.length : Int)) = decide (6 < h.length + xs.length) := by
      rw [List.length_map, List.length_append, List.length_singleton, decide_eq_decide]
      omega
    rw [e1]
    have q := q H1 Se
    unfold dueV at q
    by_cases c : 6 < h.length + xs.length
    · rw [decide_eq_true c]
      simp only [if_pos c] at q
      exact iteT q
    · rw [decide_eq_false c]
      simp only [if_neg c] at q
      exact iteF q
end
/-! ### one desk beside a bag; what is refused there -/
structure RS (K : PySem.W.Frag) (cs : Tabs) (H : Hp) (d dx arr : Addr) (v : V) (last : Option (Str × List Str × Str)) (S : Sh) (m : Nat) : Prop where
  i : H d = some (.ins cs.a_Desk dx (dFs arr v))
  l : LastV K H v last
  a : ArrAt cs H arr S m
  tg : TGs H cs
section
variable {K : PySem.W.Frag} {mg : Str → Option Value} {cs : Tabs} {H H' : Hp} {d dx arr b : Addr} {v : V} {last : Option (Str × List Str × Str)} {S : Sh} {m n j : Nat}
theorem RS.sm (x : RS K cs H d dx arr v last S m) (s : Sm H H') : RS K cs H' d dx arr v last S m := ⟨s _ _ x.i, x.l.sm s, x.a.sm s, x.tg.sm s⟩
theorem RS.go (x : RS K cs H d dx arr v last S m) (B : Bag H b n) (G : Go b j H H') : RS K cs H' d dx arr v last S m := by
  obtain ⟨n1, n2, n3, _⟩ := bag_not B
  obtain ⟨xs, hb⟩ := B.some
  have c : Ch (fun a => a = b) H H' := Ch.go G rfl
  obtain ⟨_, _, ia, _⟩ := x.a.it
  have nb : ¬ Own S b := fun z => by
    rcases own_what x.a.th z with ⟨_, h⟩ | ⟨_, h⟩ | ⟨_, _, h⟩
    · exact n1 _ h
    · exact n2 _ h
    · exact n3 _ _ _ h
  exact ⟨c.keep (fun e => n3 _ _ _ (e ▸ x.i)) x.i, x.l.out c fun a e => by
    rw [e, hb]
    exact ⟨fun _ z => (by cases z), fun _ _ z => (by cases z)⟩, x.a.ch c fun a h e => by
    subst e
    rcases h with h | h
    · exact nb h
    · exact n3 _ _ _ (h ▸ ia), x.tg.ch c⟩
end
theorem due_cases (last : Option (Str × List Str × Str)) (n : Nat) : (∃ w, w ∈ RAISED ∧ dueV last n = .str w ∧ dueP last n = .str w ∧ ∀ {cs : Tabs} (s : List Str) (E : XK) (H : Hp), s.length = n → Ref cs w E H → HeadX cs last s E H) ∨ ∃ nm h z, last = some (nm, h, z) ∧ h.length + n ≤ 6 ∧ dueV last n = .non ∧ dueP last n = .none := by
  cases last with
  | none => exact .inl ⟨"NoHead", by simp [RAISED], rfl, rfl, fun s E H e r => .inl ⟨rfl, r⟩⟩
  | some x =>
    obtain ⟨nm, h, z⟩ := x
    by_cases c : 6 < h.length + n
    · refine .inl ⟨"TooDeep", by simp [RAISED], ?_, ?_, fun s E H e r => .inr ⟨nm, h, z, rfl, by rw [e]; exact c, r⟩⟩
      · unfold dueV
        simp only [if_pos c]
      · unfold dueP
        simp only [if_pos c]
    · refine .inr ⟨nm, h, z, rfl, by omega, ?_, ?_⟩
      · unfold dueV
        simp only [if_neg c]
      · unfold dueP
        simp only [if_neg c]
def spRefused (K : PySem.W.Frag) (cs : Tabs) : Sp := fun vs H Q _ => ∃ (b d p dx arr : Addr) (n : Nat) (v : V) (last : Option (Str × List Str × Str)) (S : Sh) (m : Nat) (ns ks : List Str), vs = [.ref b, .ref d, .ref p] ∧ Bag H b n ∧ n + 1000 ≤ LIM ∧ PoolAt H p ns ks ∧ POOL ns ks ∧ ¬ PoolOwn H p b ∧ RS K cs H d dx arr v last S m ∧ ∀ H', Go b 300 H H' → Q (.bl true) H'
section
variable {P : Program} {w : World} {K : PySem.W.Frag} {mg : Str → Option Value} {base : Heap} {cs : Tabs}
theorem ok_law_refused (T : Txt K mg cs) (C_law_take : Cal P w K mg base 1 "_law_take" ["bag", "many"] spDraw) (C_law_key : Cal P w K mg base 2 "_law_key" ["bag"] spKeyB) (C_law_worth : Cal P w K mg base 2 "_law_worth" ["bag"] spWorthB) (C_law_ref : Cal P w K mg base 2 "_law_ref" ["bag", "pool", "most"] spRefB) (C_law_bad : Cal P w K mg base 3 "_law_bad" ["bag", "pool"] (spBad K cs))
    (C_law_due : Cal P w K mg base 1 "_law_due" ["last_one", "some"] (spDue K)) (C_law_long_word : Cal P w K mg base 2 "_law_long_word" ["last_one", "some"] (fun vs H Q _ => spLong K vs H (fun _ H' => Q .non H') E0 ∨ spLongX K cs vs H Q (EW cs Q)))
    (C_law_tried : Cal P w K mg base 13 "_law_tried" ["desk", "door", "place", "own"] (fun vs H Q _ => spDoorX K cs vs H Q (EW cs Q))) (CDesk_last : CalM P w K mg base 1 cs.a_Desk "last" ["self"] (fun vs H Q _ => ∃ (d dx arr : Addr) (v : V), vs = [.ref d] ∧ H d = some (.ins cs.a_Desk dx (dFs arr v)) ∧ Q v H)) :
    Cal P w K mg base 14 "_law_refused" ["bag", "desk", "pool"] (spRefused K cs) := by
  refine T.f_law_refused.cal scLawRefused (fun vs H Q E h => ?_) (fun f cdv A outer s H vs Q E hr h => ?_)
  · obtain ⟨_, _, _, _, _, _, _, _, _, _, _, _, rfl, _⟩ := h
    rfl
  obtain ⟨b, d, p, dx, arr, n, v, last, S, m, ns, ks, rfl, B, hn, PA, PO, nbp, x, q⟩ := h
  refine ⟨_, (pss_cons (ps_set (i := 3) scLawRefused.nd rfl (by first | exact Or.inl rfl | exact Or.inr rfl) (pe_ix (ixL K) (pe_lst (pa_cons pe_str (pa_cons pe_str (pa_cons pe_str (pa_cons pe_str (pa_cons pe_str (pa_cons pe_str (pa_cons pe_str pa_nil)))))))) (pe_cal C_law_take (hr.mono (by first | decide | omega)) (pa_cons (pv 0) (pa_cons pe_int pa_nil))) (fun _ _ => rfl)))
    (pss_cons (ps_set (i := 4) scLawRefused.nd rfl (by first | exact Or.inl rfl | exact Or.inr rfl) (pe_ix (ixL K) (pe_lst (pa_cons (pe_cal C_law_worth (hr.mono (by first | decide | omega)) (pa_cons (pv 0) pa_nil)) (pa_cons pe_non (pa_cons pe_str (pa_cons pe_int pa_nil))))) (pe_cal C_law_take (hr.mono (by first | decide | omega)) (pa_cons (pv 0) (pa_cons pe_int pa_nil))) (fun _ _ => rfl)))
    (pss_cons (ps_set (i := 5) scLawRefused.nd rfl (by first | exact Or.inl rfl | exact Or.inr rfl) (pe_cal C_law_take (hr.mono (by first | decide | omega)) (pa_cons (pv 0) (pa_cons pe_int pa_nil))))
    (pss_cons (ps_if (pt_cmpR op_eq (pv 5) pe_int (nomark _)) (pss_one (ps_ret (pe_cmpR op_eq (pe_cal C_law_tried (hr.mono (by first | decide | omega)) (pa_cons (pv 1) (pa_cons (pv 3) (pa_cons (pe_cal C_law_bad (hr.mono (by first | decide | omega)) (pa_cons (pv 0) (pa_cons (pv 2) pa_nil))) (pa_cons (pv 4) pa_nil))))) pe_str (nomark _)))) pss_nil)
    (pss_cons (ps_if (PW.pt (pw_and (pt_cmpR op_eq (pv 5) pe_int (nomark _)) (pw_and1 (pt_cmpR op_ne (pv 3) pe_str (nomark _))))) (pss_one (ps_ret (pe_cmpR op_eq (pe_cal C_law_tried (hr.mono (by first | decide | omega)) (pa_cons (pv 1) (pa_cons (pv 3) (pa_cons (pe_tup (pa_cons pe_str (pa_cons (pe_slice (slT K) (pe_tup (pa_cons (pe_cal C_law_key (hr.mono (by first | decide | omega)) (pa_cons (pv 0) pa_nil)) (pa_cons pe_str pa_nil))) (po_some (pe_cal C_law_take (hr.mono (by first | decide | omega)) (pa_cons (pv 0) (pa_cons pe_int pa_nil)))) po_none) pa_nil))) (pa_cons (pv 4) pa_nil))))) pe_str (nomark _)))) pss_nil)
    (pss_cons (ps_if (pt_cmpR op_eq (pv 5) pe_int (nomark _)) (pss_one (ps_ret (pe_cmpR op_eq (pe_cal C_law_tried (hr.mono (by first | decide | omega)) (pa_cons (pv 1) (pa_cons pe_str (pa_cons (pe_cal C_law_ref (hr.mono (by first | decide | omega)) (pa_cons (pv 0) (pa_cons (pv 2) (pa_cons pe_int pa_nil)))) (pa_cons (pe_ix (ixL K) (pe_lst (pa_cons pe_str (pa_cons pe_non (pa_cons pe_int (pa_cons (pe_lst (pa_cons pe_str pa_nil)) pa_nil))))) (pe_cal C_law_take (hr.mono (by first | decide | omega)) (pa_cons (pv 0) (pa_cons pe_int pa_nil))) (fun _ _ => rfl)) pa_nil))))) pe_str (nomark _)))) pss_nil)
    (pss_cons (ps_set (i := 6) scLawRefused.nd rfl (by first | exact Or.inl rfl | exact Or.inr rfl) (pe_callTy (tupOf K) rfl T.n_tuple (by decide +kernel) (pa_cons (pe_lc (own := [("k", 8)]) (g := gName 8) (tt := tYes) rfl scLawRefused.nd (pi_range1 rfl T.n_range (pa_cons (pe_op op_add pe_int (pe_cal C_law_take (hr.mono (by first | decide | omega)) (pa_cons (pv 0) (pa_cons pe_int pa_nil)))) pa_nil)) (blkOk_by (own := [("k", 8)]) (N := ["bag", "desk", "pool", "door", "own", "pick", "some", "due", "k"]) (sc := defScope sLawRefused) (by decide +kernel)) (fun _ _ _ _ _ => (pg_name (i := 8) scLawRefused.nd rfl (by first | exact Or.inl rfl | exact Or.inr rfl))) (fun _ _ _ _ _ => pts_nil) (fun _ _ _ _ _ => (pe_cal C_law_key (hr.mono (by first | decide | omega)) (pa_cons (pv 0) pa_nil)))) pa_nil)))
    (pss_cons (ps_set (i := 7) scLawRefused.nd rfl (by first | exact Or.inl rfl | exact Or.inr rfl) (pe_cal C_law_due (hr.mono (by first | decide | omega)) (pa_cons (pe_calM0 CDesk_last T.cl_Desk (hr.mono (by first | decide | omega)) (pv 1)) (pa_cons (pv 6) pa_nil))))
    (pss_cons (ps_if (pt_cmpR (neD K hr.units) (pe_cal C_law_long_word (hr.mono (by first | decide | omega)) (pa_cons (pe_calM0 CDesk_last T.cl_Desk (hr.mono (by first | decide | omega)) (pv 1)) (pa_cons (pv 6) pa_nil))) (pv 7) (nomark _)) (pss_one (ps_ret pe_bl)) pss_nil)
    (pss_cons (ps_if (pt_cmpR op_notN (pv 7) pe_non (nomark _)) (pss_one (ps_ret (pe_cmpR (eqD K hr.units) (pe_cal C_law_tried (hr.mono (by first | decide | omega)) (pa_cons (pv 1) (pa_cons (pv 3) (pa_cons (pe_tup (pa_cons pe_str (pa_cons (pv 6) pa_nil))) (pa_cons (pv 4) pa_nil))))) (pv 7) (nomark _)))) pss_nil)
    (pss_one (ps_ret (pe_cmpR op_eq (pe_cal C_law_tried (hr.mono (by first | decide | omega)) (pa_cons (pv 1) (pa_cons pe_str (pa_cons (pe_tup (pa_cons pe_str (pa_cons (pv 6) pa_nil))) (pa_cons pe_str pa_nil))))) pe_str (nomark _)))))))))))))), ?_⟩
  unfold LIM at hn
  -- a door
  refine run_set ?_
  refine menuC (A := fun u => ∃ z, u = .str z ∧ z ∈ DOORS6) (xs := [.str "put", .str "put", .str "read", .str "data", .str "kill", .str "order", .str "following"]) (fun R h => h) (fun u hu => ?_) rfl B (by unfold LIM; omega) (by decide) (by decide) fun u H1 ⟨door, eu, hd⟩ G1 => ?_
  · simp only [List.mem_cons, List.not_mem_nil, or_false] at hu
    rcases hu with rfl | rfl | rfl | rfl | rfl | rfl | rfl <;> exact ⟨_, rfl, by simp [DOORS6]⟩
  subst eu
  have B1 := G1.bag _ B
  -- what is written
  refine run_set ?_
  refine menuG (A := fun _ => True) (n := 4) (c := 5) (fun R h => ⟨_, (by rfl), b, _, rfl, B1, by unfold LIM; omega, fun z H' wz G => h _ _ rfl (fun _ _ => trivial) G⟩) (by rfl) B1 (by unfold LIM; omega) (by decide) (by decide) fun own H2 _ G2 => ?_
  have B2 := G2.bag _ B1
  refine run_set ?_
  refine draw_here (i := 0) (by rfl) B2 (by unfold LIM; omega) (by decide) (by decide) fun pick H3 p0 p1 G3 => ?_
  have B3 := G3.bag _ B2
  have G03 := G1.trans (G2.trans G3)
  have x3 := x.go B G03
  have P3 := PA.go G03 nbp
  have nb3 : ¬ PoolOwn H3 p b := fun z => nbp (PA.own P3 (fun o h t => G03.keep0 p o (fun e => nbp (.inl e.symm)) h t) z)
  clear G1 G2 G3 B1 B2
  refine run_if ⟨_, rfl, rfl, _, rfl, ?_⟩
  refine ite2 (fun c => ?_) (fun c => run_next ?_)
  · -- what is no reference
    refine run_ret ⟨_, rfl, _, rfl, _, rfl, _, rfl, b, p, _, ns, ks, rfl, B3, by unfold LIM; omega, P3, PO, nb3, fun u dd H4 G4 th bd => ⟨_, rfl, ?_⟩⟩
    obtain ⟨b1, b2, b3⟩ := badD_ok bd
    have B4 := G4.bag _ B3
    have x4 := x3.go B3 G4
    refine ⟨d, dx, arr, v, u, own, last, door, _, rfl, hd, rfl, x4.i, x4.l, x4.tg, .inl (.inl ⟨dd, 0, _, th, B4.avl, by decide, ?_, ewRef (x := "NoRef") (by simp [RAISED]) fun H5 S5 => ?_⟩)⟩
    · split
      · exact ⟨b1, b2⟩
      · exact ⟨by unfold meanD; rw [b1]; rfl, b3⟩
    · refine ⟨rfl, ?_⟩
      show Q (.bl (decide (V.str "NoRef" = V.str "NoRef"))) H5
      rw [decide_eq_true rfl]
      exact q H5 (((G03.trans G4).trans (Go.same S5)).mono (by omega))
  dsimp only
  refine run_if (run_and ⟨_, rfl, rfl, _, rfl, ite2 (fun c1 => ⟨_, rfl, rfl, _, rfl, ite2 (fun c2 => ?_) (fun c2 => run_next ?_)⟩) (fun c1 => run_next ?_)⟩)
  · -- a short one whose last key is ""
    have no : door ≠ "order" := fun e => by
      rw [e, decide_eq_true rfl] at c2
      cases c2
    refine run_ret ⟨_, rfl, _, rfl, _, rfl, b, _, rfl, B3, by unfold LIM; omega, fun y H4 ky G4 => ⟨(by show 2 ≤ sizeLine; decide), fun t1 ht1 => ?_⟩⟩
    have B4 := G4.bag _ B3
    have G5 : Go b 0 H4 (upd H4 t1 (.tup [.str y, .str ""])) := Go.new ht1
    have at1 : SqT K (upd H4 t1 (.tup [.str y, .str ""])) t1 [.str y, .str ""] := SqT.of upd_same
    generalize upd H4 t1 (.tup [.str y, .str ""]) = H5 at *
    have B5 := G5.bag _ B4
    refine draw_here (i := 0) (by rfl) B5 (by unfold LIM; omega) (by decide) (by decide) fun r H6 r0 r1 G6 => ?_
    obtain ⟨k, rfl⟩ : ∃ k : Nat, r = (k : Int) := ⟨r.toNat, by omega⟩
    have B6 := G6.bag _ B5
    have at2 := sqT_out (Ch.go (W := fun a => a = b) G6 rfl) (fun a e => by
      obtain ⟨_, hb⟩ := B5.some
      rw [e, hb]
      exact ⟨fun _ z => (by cases z), fun _ _ z => (by cases z)⟩) at1
    refine ⟨k, rfl, ?_⟩
    dsimp only [tNoPart]
    refine slice_from at2 (by show k ≤ 2; omega) fun t2 H7 S7 at3 => ⟨(by show 2 ≤ sizeLine; decide), fun pl hpl => ?_⟩
    have B7 := (Go.same (b := b) S7).bag _ B6
    have g7 := ((G03.trans G4).trans (G5.trans G6)).trans (Go.same (b := b) S7)
    have x7 := x.go B g7
    refine ⟨_, rfl, d, dx, arr, v, .ref pl, own, last, door, _, rfl, hd, rfl, Sm.new hpl _ _ x7.i, x7.l.sm (Sm.new hpl), x7.tg.sm (Sm.new hpl), .inl (.inl ⟨.tup [.str "", .tup ([D.str y, .str ""].drop k)], 0, _, ?_, B7.avl.sm (Sm.new hpl), by decide, ?_, ewRef (x := "NoRef") (by simp [RAISED]) fun H8 S8 => ?_⟩)⟩
    · have ty : Th K (fun a => a = b) 0 (upd H7 pl (.tup [.str "", .ref t2])) (.str y) (.str y) := .str y (by have := ky.wt.len; omega) ky.wt.asc
      have te : Th K (fun a => a = b) 0 (upd H7 pl (.tup [.str "", .ref t2])) (.str "") (.str "") := th_okS (by decide)
      exact .tup (.inl (.inl upd_same)) (by show 2 ≤ 40; decide) (.cons te (.cons (.tup (Sm.seqT (Sm.new hpl) at3) (by rw [List.length_drop]; show 2 - k ≤ 40; omega) (thAll_drop (.cons ty (.cons te .nil)) k)) .nil))
    · rw [if_neg (by rw [decide_eq_false no]; exact Bool.false_ne_true)]
      obtain ⟨l, el⟩ : ∃ l, [D.str y, .str ""].drop k = l ++ [.str ""] := by
        rcases Nat.lt_or_ge k 1 with h | h
        · obtain rfl : k = 0 := by omega
          exact ⟨[.str y], rfl⟩
        · obtain rfl : k = 1 := by omega
          exact ⟨[], rfl⟩
      rw [el]
      refine ⟨?_, ?_⟩
      · have e : lastNe (.tup [.str "", .tup (l ++ [.str ""])]) = false := by
          simp only [lastNe, List.getLast?_concat]
          rfl
        unfold meanD
        rw [e, Bool.and_false]
      · show (nD (.str "") && rowD (.tup (l ++ [.str ""]))) = false
        rw [show nD (.str "") = false by decide +kernel, Bool.false_and]
    · refine ⟨rfl, ?_⟩
      show Q (.bl (decide (V.str "NoRef" = V.str "NoRef"))) H8
      rw [decide_eq_true rfl]
      exact q H8 ((g7.trans (Go.same ((Sm.new hpl).trans S8))).mono (by omega))
  · -- a good one, with no worth
    dsimp only
    refine run_if ⟨_, rfl, rfl, _, rfl, ite2 (fun _ => ?_) (fun c => absurd c1 c)⟩
    refine run_ret ⟨_, rfl, _, rfl, _, rfl, b, p, _, 6, ns, ks, rfl, B3, by unfold LIM; omega, P3, nb3, PO, by decide, fun pl nm qs H4 _ _ lq O R _ G4 => ?_⟩
    have B4 := G4.bag _ B3
    refine ev_drawn (ds := [.str "a\n", .non, .int 0, .lst [.str "a"]]) (N := 4) (by rfl) B4 (by unfold LIM; omega) (.cons (.str _ (by decide +kernel)) (.cons .non (.cons (.int 0 (by decide)) (.cons (.lst (.cons (.str _ (by decide +kernel)) .nil) (by show 1 ≤ 40; decide)) .nil)))) rfl (by decide) fun vo o H5 ho to G5 => ?_
    have B5 := G5.bag _ B4
    have g5 := G03.trans (G4.trans G5)
    have x5 := x.go B g5
    have wo : wD o = false := by
      simp only [List.mem_cons, List.not_mem_nil, or_false] at ho
      rcases ho with rfl | rfl | rfl | rfl
      · decide +kernel
      · rfl
      · rfl
      · rfl
    refine ⟨d, dx, arr, v, .ref pl, vo, last, "put", false, rfl, by simp [DOORS6], by decide +kernel, x5.i, x5.l, x5.tg, .inr ⟨rfl, pl, nm, qs, S, m, o, 0, _, rfl, .inl (R.at_.go G5 B4), O, x5.a, to, B5.avl, by decide, wo, ewRef (x := "NoWorth") (by simp [RAISED]) fun H6 S6 => ?_⟩⟩
    refine ⟨rfl, ?_⟩
    show Q (.bl (decide (V.str "NoWorth" = V.str "NoWorth"))) H6
    rw [decide_eq_true rfl]
    exact q H6 ((g5.trans (Go.same S6)).mono (by omega))
  dsimp only
  refine run_if ⟨_, rfl, rfl, _, rfl, ite2 (fun c => absurd c c1) (fun _ => run_next ?_)⟩
  dsimp only
  refine run_set ?_
  refine tupOf1 ?_
  refine lc_drawn (i := 8) (N := 6) (c0 := 1) (c := 20) (A0 := fun j => 1 ≤ j) (fun v => ∃ z, v = .str z ∧ KEY z) (fun R h => draw_here (i := 0) (many := 6) (by rfl) B3 (by unfold LIM; omega) (by decide) (by decide) fun r H5 r0 r1 G5 => ⟨1, r, rfl, rfl, h _ _ (by omega) (by omega) (by omega) G5⟩) B3 (by decide) (fun j H5 hj B5 G5 R hR => ?_) fun k5 D5 ys H5 k51 k50 k52 hl hA G5 hy hD5 => ?_
  · exact ⟨_, (by rfl), b, _, rfl, B5, by unfold LIM; omega, fun z H' hz G' => hR _ _ ⟨z, rfl, hz⟩ G'⟩
  obtain ⟨s, rfl, hz, hS⟩ := texts_of ys hA
  have ls : s.length ≤ 6 := by omega
  have ns' : s ≠ [] := fun e => by
    rw [e] at hz hl
    simp at hl
    omega
  have B5 := G5.bag _ B3
  refine ⟨D5, _, rfl, .inl ⟨SqL.of hy, fun t ht => ?_⟩⟩
  have G6 : Go b 0 H5 (upd H5 t (.tup (s.map V.str))) := Go.new ht
  have et : SqT K (upd H5 t (.tup (s.map V.str))) t (s.map V.str) := SqT.of upd_same
  generalize upd H5 t (.tup (s.map V.str)) = H6 at *
  have B6 := G6.bag _ B5
  have G36 := G5.trans G6
  have x6 := x3.go B3 G36
  have g6 := G03.trans G36
  refine run_set ⟨_, rfl, d, _, _, rfl, x6.i, rfl, d, dx, arr, v, rfl, x6.i, _, rfl, v, t, _, last, rfl, x6.l, et, fun H7 S7 => ?_⟩
  rw [List.length_map]
  have x7 := x6.sm S7
  have et7 := Sm.seqT S7 et
  dsimp only [List.set]
  have made : ∀ {H8 pl : _}, Sm H7 H8 → H8 pl = none → RefAt K (upd H8 pl (.tup [.str "", .ref t])) pl "" s := fun {H8 pl} S8 hpl => ⟨t, SqT.of upd_same, Sm.seqT (S8.trans (Sm.new hpl)) et7⟩
  obtain ⟨dp, sp⟩ := due_dp (K := K) (H := H7) last s.length
  rcases due_cases last s.length with ⟨w0, hw, e1, e2, hx⟩ | ⟨nm, h, z, rfl, le, e1, e2⟩
  · -- refused
    refine run_if ⟨_, rfl, d, _, _, rfl, x7.i, rfl, d, dx, arr, v, rfl, x7.i, _, rfl, .inr ⟨v, t, s, last, rfl, x7.l, et7, ls, hx s _ _ rfl (ewRef hw fun H8 S8 => ?_)⟩⟩
    have dp8 : ∀ {H' : Hp}, Dp K H' (.str w0) (.str w0) := .str _
    have sw : SeqAt.shaped (.str w0) = true := by rw [← e2]; exact sp
    have ew : PyData.eqv (.str w0) (.str w0) = true := by
      have := due_eqv last s.length
      rw [e2] at this
      exact this
    rw [e1]
    refine ⟨_, rfl, .str w0, .str w0, dp8, dp8, sw, sw, _, rfl, ?_⟩
    rw [ew]
    refine iteF (run_next ?_)
    dsimp only
    refine run_if ⟨_, rfl, rfl, _, rfl, ?_⟩
    rw [show (!decide (V.str w0 = V.non)) = true from by rw [decide_eq_false fun e => by cases e]; rfl]
    refine iteT ?_
    have x8 := x7.sm S8
    refine run_ret ⟨_, rfl, _, rfl, _, rfl, (by show 2 ≤ sizeLine; decide), fun pl hpl => ⟨_, rfl, ?_⟩⟩
    have x9 := x8.sm (Sm.new (o := .tup [.str "", .ref t]) hpl)
    refine ⟨d, dx, arr, v, .ref pl, own, last, door, _, rfl, hd, rfl, x9.i, x9.l, x9.tg, .inl (.inr ⟨pl, s, rfl, made S8 hpl, ns', ls, hS, hx s _ _ rfl (ewRef hw fun H10 S10 => ?_)⟩)⟩
    refine ⟨_, rfl, .str w0, .str w0, dp8, dp8, sw, sw, ?_⟩
    rw [ew]
    exact q H10 ((g6.trans (Go.same (S7.trans (S8.trans ((Sm.new hpl).trans S10))))).mono (by omega))
  · -- put, with no worth
    have L7 := x7.l
    obtain ⟨Ak, pa, ev, Ra⟩ := L7
    subst ev
    refine run_if ⟨_, rfl, d, _, _, rfl, x7.i, rfl, d, dx, arr, _, rfl, x7.i, _, rfl, .inl ⟨pa, t, nm, h, z, s, rfl, Ra, et7, le, fun q1 H8 S8 _ _ => ?_⟩⟩
    rw [e1]
    refine ⟨_, rfl, .none, .none, .non, .non, rfl, rfl, _, rfl, iteF (run_next ?_)⟩
    dsimp only
    refine run_if ⟨_, rfl, rfl, _, rfl, iteF (run_next ?_)⟩
    dsimp only
    have x8 := x7.sm S8
    refine run_ret ⟨_, rfl, _, rfl, (by show 2 ≤ sizeLine; decide), fun pl hpl => ?_⟩
    have x9 := x8.sm (Sm.new (o := .tup [.str "", .ref t]) hpl)
    have O : REF nm (h ++ s) := ⟨Ak.nm, by rw [List.length_append]; exact le, fun y hy => (List.mem_append.mp hy).elim (Ak.ks y) (hS y)⟩
    refine ⟨d, dx, arr, _, .ref pl, .str "a\n", _, "put", false, rfl, by simp [DOORS6], by decide +kernel, x9.i, x9.l, x9.tg, .inr ⟨rfl, pl, nm, h ++ s, S, m, .str "a\n", 0, _, rfl, .inr ⟨h, z, s, rfl, made S8 hpl, ns', rfl⟩, O, x9.a, th_okS (by decide +kernel), ((((Go.same (b := b) S7).bag _ B6).avl).sm S8).sm (Sm.new hpl), by decide, by decide +kernel, ewRef (x := "NoWorth") (by simp [RAISED]) fun H10 S10 => ?_⟩⟩
    refine ⟨rfl, ?_⟩
    show Q (.bl (decide (V.str "NoWorth" = V.str "NoWorth"))) H10
    rw [decide_eq_true rfl]
    exact q H10 ((g6.trans (Go.same (S7.trans (S8.trans ((Sm.new hpl).trans S10))))).mono (by omega))
end
/-! ### rows of any name -/
def RowW (H : Hp) (v : V) (x : List Str × Str) : Prop := ∃ (a r : Addr) (nm : Str) (ks : List Str), x.1 = nm :: ks ∧ v = .ref a ∧ H a = some (.tup [.ref r, .str x.2]) ∧ RefT H r nm ks
theorem RowW.keep {H H' : Hp} (k : ∀ a vs, H a = some (.tup vs) → H' a = some (.tup vs)) {v : V} {x : List Str × Str} (h : RowW H v x) : RowW H' v x := by
  obtain ⟨a, r, nm, ks, h1, h2, h3, h4⟩ := h
  exact ⟨a, r, nm, ks, h1, h2, k _ _ h3, h4.keep k⟩
theorem rows_w {H : Hp} {nm : Str} : ∀ {ys : List V} {xs : List (List Str × Str)}, Paired (RowV H nm []) ys xs → Paired (RowW H) ys (xs.map fun x => (nm :: ([] ++ x.1), x.2))
  | _, _, .nil => .nil
  | _, _, .cons ⟨a, r, h1, h2, h3⟩ t => .cons ⟨a, r, nm, _, rfl, h1, h2, h3⟩ (rows_w t)
theorem is_w {K : PySem.W.Frag} {H : Hp} : ∀ {ys : List V} {xs : List (List Str × Str)}, Paired (RowW H) ys xs → (∀ x ∈ xs, ∀ nm ks, x.1 = nm :: ks → REF nm ks ∧ WT x.2 400) → IsAll K H ys (xs.map dPath)
  | _, _, .nil, _ => .nil
  | _, _, .cons (b := x) ⟨a, r, nm, ks, h1, h2, h3, h4⟩ t, ok => by
    subst h2
    obtain ⟨O, W⟩ := ok x List.mem_cons_self nm ks h1
    have e : dPath x = .tup [dRef nm ks, .str x.2] := by
      obtain ⟨x1, x2⟩ := x
      cases h1
      rfl
    refine .cons ?_ (is_w t fun y hy => ok y (List.mem_cons_of_mem _ hy))
    rw [e]
    exact .tup (SqT.of h3) (by show 2 ≤ 1040; decide) (.cons (th_ref h4.at_ O) (.cons (.str _ (by have := W.len; omega) W.asc) .nil))
/-! ### all rows of all names -/
def allR (S : Sh) : List (List Str × Str) := (S.R []).flatMap fun nm => (rowsS S nm []).map fun x => (nm :: ([] ++ x.1), x.2)
structure AllOk (S : Sh) : Prop where
  nm : ∀ nm ∈ S.R [], NM nm
  len : ∀ nm, (rowsS S nm []).length ≤ 31
  few : (S.R []).length ≤ 31
  ok : ∀ nm, ∀ x ∈ rowsS S nm [], REF nm ([] ++ x.1) ∧ WT x.2 400
theorem flat_le {α β : Type} {f : α → List β} {n : Nat} : ∀ {l : List α}, (∀ x ∈ l, (f x).length ≤ n) → (l.flatMap f).length ≤ l.length * n
  | [], _ => by simp
  | x :: r, h => by
    rw [List.flatMap_cons, List.length_append, List.length_cons, Nat.succ_mul]
    have a := h x List.mem_cons_self
    have b := flat_le (l := r) fun y hy => h y (List.mem_cons_of_mem _ hy)
    omega
theorem AllOk.total {S : Sh} (o : AllOk S) : (allR S).length ≤ 961 := by
  refine Nat.le_trans (flat_le (n := 31) fun nm _ => by rw [List.length_map]; exact o.len nm) ?_
  have := o.few
  omega
def dAll (S : Sh) : D := .lst ((allR S).map dPath)
theorem ok_dAll (S : Sh) : okD 4 (dAll S) = true := by
  show ((allR S).map dPath).all (okD 3) = true
  rw [List.all_eq_true]
  intro d hd
  obtain ⟨y, _, rfl⟩ := List.mem_map.mp hd
  exact okD_path _
def spAll (K : PySem.W.Frag) (cs : Tabs) : Sp := fun vs H Q _ => ∃ (arr : Addr) (S : Sh) (m : Nat), vs = [.ref arr] ∧ ArrAt cs H arr S m ∧ TGs H cs ∧ AllOk S ∧ ∀ v H', Sm H H' → Is K H' v (dAll S) → Q v H'
section
variable {P : Program} {w : World} {K : PySem.W.Frag} {mg : Str → Option Value} {base : Heap} {cs : Tabs}
theorem ok_law_all (T : Txt K mg cs) (CArrays_names : CalM P w K mg base 1 cs.a_Arrays "names" ["self"] (spNames cs)) (CArrays_rows : CalM P w K mg base 10 cs.a_Arrays "rows" ["self", "ref"] (spRows K cs)) : Cal P w K mg base 11 "_law_all" ["arrays"] (spAll K cs) := by
  refine T.f_law_all.cal scLawAll (fun vs H Q E h => ?_) (fun f cdv A outer s H vs Q E hr h => ?_)
  · obtain ⟨_, _, _, rfl, _⟩ := h
    rfl
  obtain ⟨arr, S, k, rfl, A0, tg, ok, q⟩ := h
  refine ⟨_, (pss_cons (ps_set (i := 1) scLawAll.nd rfl (by first | exact Or.inl rfl | exact Or.inr rfl) (pe_lst pa_nil))
    (pss_cons (ps_for PassesOwn.never rfl (pi_list (pe_calM0 CArrays_names T.cl_Arrays (hr.mono (by first | decide | omega)) (pv 0))) (pg_name (i := 2) scLawAll.nd rfl (by first | exact Or.inl rfl | exact Or.inr rfl))
      (pss_one (ps_expr (pe_bmK (K := K) PySem.F.plainAttrs_list PySem.F.slot_list_extend PySem.F.type_list_extend mt_extend (pv 1) (pa_cons (pe_calM CArrays_rows T.cl_Arrays (hr.mono (by first | decide | omega)) (pv 0) (pa_cons (pe_tup (pa_cons (pv 2) (pa_cons (pe_tup pa_nil) pa_nil))) pa_nil)) pa_nil)))))
    (pss_one (ps_ret (pv 1))))), ?_⟩
  obtain ⟨_, _, ia, _⟩ := A0.it
  have tot := ok.total
  refine run_set ?_
  refine ⟨(by show 0 ≤ sizeLine; exact Nat.zero_le _), fun F hF => ?_⟩
  have SF := Sm.new (o := .lst []) hF
  have aF : (upd H F (.lst [])) F = some (.lst []) := upd_same
  generalize upd H F (.lst []) = H9 at *
  refine run_for ?_
  refine ⟨_, rfl, arr, _, _, rfl, SF _ _ ia, rfl, arr, S, k, rfl, A0.sm SF, fun l hl => ?_⟩
  have Sl := Sm.new (o := .lst ((S.R []).map V.str)) hl
  have al : (upd H9 l (.lst ((S.R []).map V.str))) l = some (.lst ((S.R []).map V.str)) := upd_same
  have lF : l ≠ F := fun e => by rw [e, aF] at hl; cases hl
  have aF2 := Sl _ _ aF
  generalize upd H9 l (.lst ((S.R []).map V.str)) = H10 at *
  have S10 := SF.trans Sl
  refine ⟨l, rfl, ⟨_, SqL.of al⟩, for_list (K := K) (a := l) (xs := (S.R []).map V.str) (fun i σ H' => (∃ y2, σ = [some (.ref arr), some (.ref F), y2]) ∧ Sm H H' ∧ H' l = some (.lst ((S.R []).map V.str)) ∧
      ∃ ys, H' F = some (.lst ys) ∧ Paired (RowW H') ys (((S.R []).take i).flatMap fun nm => (rowsS S nm []).map fun x => (nm :: ([] ++ x.1), x.2)))
    ⟨⟨_, rfl⟩, S10, al, [], aF2, by rw [List.take_zero]; exact .nil⟩ (fun _ σ H' _ h => SqL.of h.2.2.1) (fun i x σ H11 hx h => ?_) fun σ H11 h => ?_⟩
  · obtain ⟨⟨y2, rfl⟩, S11, al11, ys, aF11, P11⟩ := h
    rw [List.getElem?_map] at hx
    obtain ⟨nm, hn, rfl⟩ := Option.map_eq_some_iff.mp hx
    have O : REF nm [] := ⟨ok.nm nm (List.mem_of_getElem? hn), by decide, fun _ h => nomatch h⟩
    have et : (S.R []).take (i + 1) = (S.R []).take i ++ [nm] := by rw [List.take_add_one, hn]; rfl
    have ln : ys.length ≤ 961 := by
      rw [pairA_len P11]
      refine Nat.le_trans ?_ tot
      unfold allR
      refine List.Sublist.length_le ?_
      conv => rhs; rw [← List.take_append_drop i (S.R []), List.flatMap_append]
      exact List.sublist_append_left _ _
    dsimp only [gName]
    refine ⟨_, rfl, .inl ⟨rfl, _, SqL.of aF11⟩, _, rfl, arr, _, _, rfl, S11 _ _ ia, rfl, _, rfl, (by show 0 ≤ sizeLine; exact Nat.zero_le _), fun e1 he1 => ⟨(by show 2 ≤ sizeLine; decide), fun q1 hq1 => ?_⟩⟩
    have Sa := (Sm.new (o := .tup []) he1).trans (Sm.new (o := .tup [.str nm, .ref e1]) hq1)
    have Ra : RefAt K (upd (upd H11 e1 (.tup [])) q1 (.tup [.str nm, .ref e1])) q1 nm [] := ⟨e1, SqT.of upd_same, Sm.seqT (Sm.new hq1) (SqT.of upd_same)⟩
    refine ⟨arr, q1, S, k, nm, [], rfl, A0.sm (S11.trans Sa), Ra, O, by have := ok.len nm; omega, tg.sm (S11.trans Sa), fun D1 ys1 H13 S13 hD1 hD2 P1 => ?_⟩
    have Sb := Sa.trans S13
    have aF13 := Sb _ _ aF11
    have l1 : ys1.length ≤ 31 := by
      rw [pairA_len P1]
      exact ok.len nm
    refine ⟨F, D1, ys, ys1, rfl, rfl, aF13, hD2, small (by omega), ?_⟩
    have kp : ∀ a vs, H13 a = some (.tup vs) → (upd H13 F (.lst (ys ++ ys1))) a = some (.tup vs) := fun a vs e => by
      rw [upd_ne fun w => by rw [w, aF13] at e; cases e]
      exact e
    refine ⟨⟨_, rfl⟩, Sm.own (S11.trans Sb) hF (no_tbl aF13), ?_, ys ++ ys1, upd_same, ?_⟩
    · rw [upd_ne lF]
      exact Sb _ _ al11
    · rw [et, List.flatMap_append, List.flatMap_singleton]
      exact paired_app (pairA_imp (fun _ _ h => h.keep fun a vs e => kp a vs (Sb _ _ e)) P11) (pairA_imp (fun _ _ h => h.keep kp) (rows_w P1))
  · obtain ⟨⟨y2, rfl⟩, S11, al11, ys, aF11, P11⟩ := h
    rw [List.length_map, List.take_length] at P11
    dsimp only
    refine run_ret ⟨_, rfl, q _ H11 S11 ?_⟩
    have i := is_w (K := K) P11 fun x hx nm ks e => by
      obtain ⟨n0, _, hx⟩ := List.mem_flatMap.mp hx
      obtain ⟨y, hy, rfl⟩ := List.mem_map.mp hx
      injection e with e1 e2
      subst e1 e2
      exact ok.ok _ y hy
    exact .lst aF11 (fun z => z) (by rw [isAll_len i, List.length_map]; exact Nat.le_trans tot (by decide)) i
end
/-! ### all rows of two arrays that hold the same -/
theorem Duo.all {cs : Tabs} {H : Hp} {arr ar2 : Addr} {S1 S2 : Sh} {k : Nat} {L : List (List Str × Str)} (x : Duo cs H arr ar2 S1 S2 k L) (hL : L.length ≤ 31) : AllOk S1 := by
  obtain ⟨n, hn⟩ := x.a1.ok.root
  have okR : ∀ nm, ∀ y ∈ rowsS S1 nm [], REF nm ([] ++ y.1) ∧ WT y.2 400 := fun nm y hy => by
    unfold rowsS at hy
    split at hy
    · rename_i c
      have := (x.co.part x.a1.ok c).mem_iff.mp (List.mem_map.mpr ⟨y, hy, rfl⟩)
      obtain ⟨n1, k1, e, O, W⟩ := x.ok _ (List.mem_filter.mp this).1
      injection e with e1 e2
      subst e1 e2
      exact ⟨O, W⟩
    · cases hy
  refine ⟨fun nm h => ?_, fun nm => Nat.le_trans (x.co.rows x.a1.ok nm []) hL, Nat.le_trans x.names.1 hL, okR⟩
  obtain ⟨t, ht⟩ := (there_iff x.a1.ok x.a1.full (by simp)).mp ((x.a1.ok.row [] n hn nm).mp h)
  obtain ⟨n0, k0, e, O⟩ := x.node ht
  injection e with e1 _
  rw [e1]
  exact O.nm
theorem dAll_alike {S1 S2 : Sh} (a : Alike S1 S2) : dAll S1 = dAll S2 := by
  have e : allR S1 = allR S2 := by
    unfold allR
    rw [a.names]
    congr 1
    funext nm
    rw [a.rows nm []]
  unfold dAll
  rw [e]
/-! ### k15: one door of both desks, the second one behind the first one; a list grows between -/
structure PlE (door : Str) (o : Option (Str × List Str × Str)) (pn : Str) (ps : List Str) (nm : Str) (ks : List Str) : Prop where
  mt : Mt o pn ps nm ks
  go : (door ≠ "order" ∧ REF nm ks) ∨ (door = "order" ∧ ∃ h z, ks = h ++ [z] ∧ ASK nm h z)
theorem PlE.lv {K : PySem.W.Frag} {door : Str} {o : Option (Str × List Str × Str)} {pn : Str} {ps : List Str} {nm : Str} {ks : List Str} (P : PlE door o pn ps nm ks) : ∃ o', ∀ (H : Hp) (q : Addr), RefAt K H q nm ks → LastV K H (lastOf ks q) o' := by
  have some_ : ∀ h z, ks = h ++ [z] → ASK nm h z → ∃ o', ∀ (H : Hp) (q : Addr), RefAt K H q nm ks → LastV K H (lastOf ks q) o' := fun h z e A => by
    subst e
    exact ⟨_, fun H q R => last_at A R⟩
  rcases P.go with ⟨_, O⟩ | ⟨_, h, z, e, A⟩
  · by_cases ne : ks = []
    · subst ne
      exact ⟨none, fun H q _ => rfl⟩
    · obtain ⟨h, z, e, A⟩ := ref_last O ne
      exact some_ h z e A
  · exact some_ h z e A
theorem Told.done {K : PySem.W.Frag} {cs : Tabs} {H H1 : Hp} {d dx arr : Addr} {S : Sh} {m : Nat} {nm : Str} {ks : List Str} {q : Addr} (t : Told K cs H H1 d dx arr nm ks q) (A : ArrAt cs H arr S m) (n : ¬ Own S d) (ne : arr ≠ d) : Done K cs H H1 d dx arr S S m nm ks q :=
  ⟨t.ch.mono fun _ h => .inr h, fun _ h => .inl h, t.it, t.rf, A.ch t.ch fun a h e => h.elim (fun h => n (e ▸ h)) fun h => ne (h.symm.trans e)⟩
/-- what is told, wherever tuples are kept -/
def ResE (K : PySem.W.Frag) (H : Hp) (u : V) (d : D) : Prop := ∀ H', (∀ a vs, H a = some (.tup vs) → H' a = some (.tup vs)) → Is K H' u d
structure MidE (K : PySem.W.Frag) (cs : Tabs) (Hb H1 : Hp) (d1 d2 x1 x2 a1 a2 : Addr) (v2 : V) (o : Option (Str × List Str × Str)) (S1 S2 S1' : Sh) (k m1 : Nat) (nm : Str) (ks : List Str) (q DL : Addr) (zs : List V) : Prop where
  ch : Ch (fun a => Own S1 a ∨ Own S2 a ∨ a = d1 ∨ a = d2) Hb H1
  own : ∀ a, Own S1' a → Own S1 a ∨ Hb a = none
  nD : ¬ Own S1' DL
  dis : ∀ a, Own S1' a → ¬ Own S2 a
  i1 : H1 d1 = some (.ins cs.a_Desk x1 (dFs a1 (lastOf ks q)))
  i2 : H1 d2 = some (.ins cs.a_Desk x2 (dFs a2 v2))
  l2 : LastV K H1 v2 o
  rf : RefAt K H1 q nm ks
  r1 : ArrAt cs H1 a1 S1' m1
  r2 : ArrAt cs H1 a2 S2 k
  tg : TGs H1 cs
  aD : H1 DL = some (.lst zs)
section
variable {K : PySem.W.Frag} {mg : Str → Option Value} {cs : Tabs} {Hb H H' H0 H1 H2 : Hp} {d1 d2 x1 x2 a1 a2 q r DL p : Addr} {v1 v2 w1 w2 : V} {o o' : Option (Str × List Str × Str)} {S1 S2 S1' S2' : Sh} {k m1 m2 : Nat} {L L' : List (List Str × Str)} {nm : Str} {ks : List Str} {zs ys : List V}
theorem TD.there (x : TD K cs H d1 d2 x1 x2 a1 a2 v1 v2 o o S1 S2 k L) : (∀ a, Own S1 a → H a ≠ none) ∧ ∀ a, Own S2 a → H a ≠ none := by
  constructor
  · intro a h z
    obtain ⟨_, e, _⟩ := own_there x.duo.a1.th h
    rw [z] at e
    cases e
  · intro a h z
    obtain ⟨_, e, _⟩ := own_there x.duo.a2.th h
    rw [z] at e
    cases e
theorem MidE.of (T : Txt K mg cs) (x : TD K cs Hb d1 d2 x1 x2 a1 a2 v1 v2 o o S1 S2 k L) (s : Sm Hb H0) (aD : H0 DL = some (.lst zs)) (hD : Hb DL = none) (t : Done K cs H0 H1 d1 x1 a1 S1 S1' m1 nm ks q) : MidE K cs Hb H1 d1 d2 x1 x2 a1 a2 v2 o S1 S2 S1' k m1 nm ks q DL zs := by
  obtain ⟨th1, th2⟩ := x.there
  have x0 := x.sm s
  have ap := x0.ap T
  have out : ∀ a, Own S1 a ∨ a = d1 → (∀ vs, H0 a ≠ some (.tup vs)) ∧ ∀ o u, H0 a ≠ some (.frz o u) := fun a h => h.elim (own_out x0.duo.a1.th a) (ins_out x0.i1 a)
  have w : ∀ a, Own S1' a → Own S1 a ∨ Hb a = none := fun a h => (t.own a h).imp id (s.gone a)
  refine ⟨(Ch.sm s).trans (t.ch.mono fun a h => h.elim .inl fun h => .inr (.inr (.inl h))), w, fun z => ?_, fun a h z => ?_, t.it, t.ch.keep (fun z => z.elim ap.s12 fun z => x.dd z.symm) x0.i2, x0.l2.out t.ch out, t.rf, t.ar, x0.duo.a2.ch t.ch fun a h z => ?_, x0.tg.ch t.ch, t.ch.keep (fun z => ?_) aD⟩
  · rcases t.own _ z with h | h
    · exact th1 _ h hD
    · rw [aD] at h
      cases h
  · exact (w a h).elim (fun h => x.duo.dis a h z) (th2 a z)
  · rcases h with h | h <;> rcases z with z | z
    · exact x.duo.dis a z h
    · exact ap.s21 (z ▸ h)
    · exact ap.o12 (h ▸ z)
    · exact ap.a21 (h.symm.trans z)
  · rcases z with z | z
    · exact th1 _ z hD
    · rw [z, x0.i1] at aD
      cases aD
theorem MidE.up (x : TD K cs Hb d1 d2 x1 x2 a1 a2 v1 v2 o o S1 S2 k L) (m : MidE K cs Hb H1 d1 d2 x1 x2 a1 a2 v2 o S1 S2 S1' k m1 nm ks q DL zs) (hD : Hb DL = none) : MidE K cs Hb (upd H1 DL (.lst ys)) d1 d2 x1 x2 a1 a2 v2 o S1 S2 S1' k m1 nm ks q DL ys := by
  have aD := m.aD
  have c : Ch (fun a => a = DL) H1 (upd H1 DL (.lst ys)) := Ch.upd rfl aD rfl
  obtain ⟨_, th2⟩ := x.there
  have out : ∀ a, a = DL → (∀ vs, H1 a ≠ some (.tup vs)) ∧ ∀ o u, H1 a ≠ some (.frz o u) := fun a e => by
    rw [e, aD]
    exact ⟨fun _ z => (by cases z), fun _ _ z => (by cases z)⟩
  have no : ∀ {a C e : Addr} {fs : List (Str × V)}, H1 a = some (.ins C e fs) → a ≠ DL := fun h z => by
    rw [z, aD] at h
    cases h
  obtain ⟨_, _, ia, _⟩ := m.r1.it
  obtain ⟨_, _, ib, _⟩ := m.r2.it
  refine ⟨m.ch.trans' c fun a e => .inr (e ▸ hD), m.own, m.nD, m.dis, c.keep (no m.i1) m.i1, c.keep (no m.i2) m.i2, m.l2.out c out, m.rf.out c out, m.r1.ch c fun a h e => ?_, m.r2.ch c fun a h e => ?_, m.tg.ch c, upd_same⟩
  · rcases h with h | h
    · exact m.nD (e ▸ h)
    · exact no ia (h.symm.trans e)
  · rcases h with h | h
    · exact th2 a h (e ▸ hD)
    · exact no ib (h.symm.trans e)
theorem MidE.fin (T : Txt K mg cs) (x : TD K cs Hb d1 d2 x1 x2 a1 a2 v1 v2 o o S1 S2 k L) (m : MidE K cs Hb H1 d1 d2 x1 x2 a1 a2 v2 o S1 S2 S1' k m1 nm ks q DL zs) (u : Done K cs H1 H2 d2 x2 a2 S2 S2' m2 nm ks r) (hm1 : m1 ≤ k + 7) (hm2 : m2 ≤ k + 7) (w : S1'.W = S2'.W) (C : Cont S1' L') (ok : ∀ y ∈ L', ∃ n0 k0, y.1 = n0 :: k0 ∧ REF n0 k0 ∧ WT y.2 400)
    (lv : ∀ (H : Hp) (q : Addr), RefAt K H q nm ks → LastV K H (lastOf ks q) o') : NextT K cs Hb H2 d1 d2 x1 x2 a1 a2 S1 S2 S1' S2' (k + 7) L' (lastOf ks q) (lastOf ks r) o' := by
  have ap := x.ap T
  have hd2 : Hb d2 ≠ none := fun e => by rw [x.i2] at e; cases e
  have out2 : ∀ a, Own S2 a ∨ a = d2 → (∀ vs, H1 a ≠ some (.tup vs)) ∧ ∀ o u, H1 a ≠ some (.frz o u) := fun a h => h.elim (own_out m.r2.th a) (ins_out m.i2 a)
  have A1 : ArrAt cs H2 a1 S1' m1 := m.r1.ch u.ch fun a h z => by
    rcases h with h | h <;> rcases z with z | z
    · exact m.dis a h z
    · exact (m.own a h).elim (fun h => ap.s12 (z ▸ h)) fun e => hd2 (z ▸ e)
    · exact ap.o21 (h ▸ z)
    · exact ap.a12 (h.symm.trans z)
  refine ⟨m.ch.trans (u.ch.mono fun a h => h.elim (fun h => .inr (.inl h)) fun h => .inr (.inr (.inr h))), m.own, fun a h => (u.own a h).imp id (m.ch.gone a), ⟨u.ch.keep (fun z => z.elim ap.s21 x.dd) m.i1, u.it, lv _ _ (m.rf.out u.ch out2), lv _ _ u.rf, ⟨A1.mono hm1, u.ar.mono hm2, w, C, ok, fun a h z => ?_, x.duo.ne⟩, m.tg.ch u.ch, x.dd⟩⟩
  rcases u.own a z with z | z
  · exact m.dis a h z
  · obtain ⟨_, e, _⟩ := own_there m.r1.th h
    rw [z] at e
    cases e
theorem NextT.up (n : NextT K cs Hb H2 d1 d2 x1 x2 a1 a2 S1 S2 S1' S2' k L w1 w2 o) (hD : Hb DL = none) (aD : H2 DL = some (.lst zs)) (n1 : ¬ Own S1' DL) (n2 : ¬ Own S2' DL) : NextT K cs Hb (upd H2 DL (.lst ys)) d1 d2 x1 x2 a1 a2 S1 S2 S1' S2' k L w1 w2 o := by
  have c : Ch (fun a => a = DL) H2 (upd H2 DL (.lst ys)) := Ch.upd rfl aD rfl
  refine ⟨n.ch.trans' c fun a e => .inr (e ▸ hD), n.w1, n.w2, n.td.ch c (fun a e => ?_) (fun a e => ?_)⟩
  · rw [e, aD]
    exact ⟨fun _ z => (by cases z), fun _ _ z => (by cases z)⟩
  · subst e
    exact ⟨n1, n2, fun _ _ _ z => by rw [aD] at z; cases z⟩
/-- what both doors leave, the list told of -/
def BothD (K : PySem.W.Frag) (cs : Tabs) (Hb H3 : Hp) (d1 d2 x1 x2 a1 a2 : Addr) (S1 S2 : Sh) (k : Nat) (L : List (List Str × Str)) (u1 u2 : V) : Prop := ∃ S1' S2' L' w1 w2 o' d, NextT K cs Hb H3 d1 d2 x1 x2 a1 a2 S1 S2 S1' S2' (k + 7) L' w1 w2 o' ∧ L'.length ≤ L.length + 1 ∧ okD 3 d = true ∧ Is K H3 u1 d ∧ Is K H3 u2 d
theorem MidE.both {u1 u2 : V} {d : D} (T : Txt K mg cs) (x : TD K cs Hb d1 d2 x1 x2 a1 a2 v1 v2 o o S1 S2 k L) (m : MidE K cs Hb H1 d1 d2 x1 x2 a1 a2 v2 o S1 S2 S1' k m1 nm ks q DL []) (hD : Hb DL = none) (u : Done K cs (upd H1 DL (.lst [u1])) H2 d2 x2 a2 S2 S2' m2 nm ks r) (hm1 : m1 ≤ k + 7) (hm2 : m2 ≤ k + 7) (w : S1'.W = S2'.W) (C : Cont S1' L') (ok : ∀ y ∈ L', ∃ n0 k0, y.1 = n0 :: k0 ∧ REF n0 k0 ∧ WT y.2 400)
    (lv : ∀ (H : Hp) (q : Addr), RefAt K H q nm ks → LastV K H (lastOf ks q) o') (hl : L'.length ≤ L.length + 1) (okd : okD 3 d = true) (e1 : ResE K H1 u1 d) (e2 : ResE K H2 u2 d) : H2 DL = some (.lst [u1]) ∧ BothD K cs Hb (upd H2 DL (.lst [u1, u2])) d1 d2 x1 x2 a1 a2 S1 S2 k L u1 u2 := by
  have m' := m.up (ys := [u1]) x hD
  have nx := m'.fin T x u hm1 hm2 w C ok lv
  obtain ⟨_, th2⟩ := x.there
  have aD2 : H2 DL = some (.lst [u1]) := u.ch.keep (fun z => by
    rcases z with z | z
    · exact th2 _ z hD
    · have := m'.i2
      rw [← z, upd_same] at this
      cases this) upd_same
  have n2 : ¬ Own S2' DL := fun z => by
    rcases u.own _ z with h | h
    · exact th2 _ h hD
    · rw [upd_same] at h
      cases h
  have k1 : ∀ {Hx : Hp} {l ys : List V}, Hx DL = some (.lst l) → ∀ a vs, Hx a = some (.tup vs) → (upd Hx DL (.lst ys)) a = some (.tup vs) := fun e a vs h => by
    rw [upd_ne fun z => by rw [z, e] at h; cases h]
    exact h
  have k2 : ∀ a vs, (upd H1 DL (.lst [u1])) a = some (.tup vs) → H2 a = some (.tup vs) := fun a vs h => u.ch.keep (fun z => (z.elim (own_out m'.r2.th a) (ins_out m'.i2 a)).1 vs h) h
  exact ⟨aD2, _, _, _, _, _, _, d, nx.up hD aD2 m'.nD n2, hl, okd, e1 _ fun a vs h => k1 aD2 a vs (k2 a vs (k1 m.aD a vs h)), e2 _ (k1 aD2)⟩
end
/-! ### k15: a door of both desks, in a comprehension -/
section
variable {K : PySem.W.Frag} {mg : Str → Option Value} {cs : Tabs} {Hb H0 : Hp} {d1 d2 x1 x2 a1 a2 DL pl : Addr} {v1 v2 : V} {o : Option (Str × List Str × Str)} {S1 S2 : Sh} {k : Nat} {L : List (List Str × Str)} {nm pn door own : Str} {ks ps : List Str} {Q : VK} {E : XK}
theorem both_doors (T : Txt K mg cs) (x : TD K cs Hb d1 d2 x1 x2 a1 a2 v1 v2 o o S1 S2 k L) (s : Sm Hb H0) (hD : Hb DL = none) (aD : H0 DL = some (.lst [])) (pe : PlE door o pn ps nm ks) (R : RefAt K H0 pl pn ps) (hd : door ∈ DOORS6) (wo : WT own 400) (hk : k ≤ 70000) (hL : L.length ≤ 800)
    (hQ : ∀ u1 H1, H1 DL = some (.lst []) → Ch (fun a => Own S1 a ∨ Own S2 a ∨ a = d1 ∨ a = d2) Hb H1 → (∀ (Q2 : VK) (E2 : XK), (∀ u2 H2, H2 DL = some (.lst [u1]) → Ch (fun a => Own S1 a ∨ Own S2 a ∨ a = d1 ∨ a = d2) Hb H2 → BothD K cs Hb (upd H2 DL (.lst [u1, u2])) d1 d2 x1 x2 a1 a2 S1 S2 k L u1 u2 → Q2 u2 H2) → spDoor K cs [.ref d2, .str door, .ref pl, .str own] (upd H1 DL (.lst [u1])) Q2 E2) → Q u1 H1) : spDoor K cs [.ref d1, .str door, .ref pl, .str own] H0 Q E := by
  have x0 := x.sm s
  have ap := x0.ap T
  obtain ⟨o', lv⟩ := pe.lv (K := K)
  have M0 := pe.mt.means R
  have out0 : ∀ a, Own S1 a ∨ a = d1 → (∀ vs, H0 a ≠ some (.tup vs)) ∧ ∀ o u, H0 a ≠ some (.frz o u) := fun a h => h.elim (own_out x0.duo.a1.th a) (ins_out x0.i1 a)
  -- behind the first one, the second one is asked
  have asks : ∀ {S1' : Sh} {m1 : Nat} {q : Addr} {H1 : Hp} {u1 : V}, Done K cs H0 H1 d1 x1 a1 S1 S1' m1 nm ks q → MidE K cs Hb H1 d1 d2 x1 x2 a1 a2 v2 o S1 S2 S1' k m1 nm ks q DL [] ∧ Asks K cs (upd H1 DL (.lst [u1])) d2 x2 pl a2 v2 o S2 k nm ks := fun {S1' m1 q H1 u1} t => by
    have m := MidE.of T x s aD hD t
    have m' := m.up (ys := [u1]) x hD
    have R1 : RefAt K (upd H1 DL (.lst [u1])) pl pn ps := (R.out t.ch out0).out (Ch.upd (W := fun a => a = DL) rfl m.aD rfl) fun a e => by
      rw [e, m.aD]
      exact ⟨fun _ z => (by cases z), fun _ _ z => (by cases z)⟩
    exact ⟨m, m'.i2, m'.l2, pe.mt.means R1, m'.r2, by omega, m'.tg⟩
  -- a question of both
  have quest : ∀ {q : Addr} {H1 : Hp} {u1 : V} {d : D}, Told K cs H0 H1 d1 x1 a1 nm ks q → okD 3 d = true → ResE K H1 u1 d → (Asks K cs (upd H1 DL (.lst [u1])) d2 x2 pl a2 v2 o S2 k nm ks → ∀ (Q2 : VK) (E2 : XK), (∀ r u2 H2, Told K cs (upd H1 DL (.lst [u1])) H2 d2 x2 a2 nm ks r → ResE K H2 u2 d → Q2 u2 H2) → spDoor K cs [.ref d2, .str door, .ref pl, .str own] (upd H1 DL (.lst [u1])) Q2 E2) → Q u1 H1 := fun {q H1 u1 d} t okd e1 h => by
    have td := t.done x0.duo.a1 ap.s11 ap.a11
    obtain ⟨m, A⟩ := asks (u1 := u1) td
    refine hQ u1 H1 m.aD m.ch fun Q2 E2 h2 => h A Q2 E2 fun r u2 H2 u e2 => ?_
    have m' := m.up (ys := [u1]) x hD
    have ud := u.done m'.r2 ap.s22 ap.a22
    obtain ⟨aD2, bd⟩ := m.both T x hD ud (by omega) (by omega) x.duo.w x.duo.co x.duo.ok lv (by omega) okd e1 e2
    exact h2 u2 H2 aD2 (m'.ch.trans (ud.ch.mono fun a h => h.elim (fun h => .inr (.inl h)) fun h => .inr (.inr (.inr h)))) bd
  simp only [DOORS6, List.mem_cons, List.not_mem_nil, or_false] at hd
  have hd' : door ∈ DOORS6 := by simp only [DOORS6, List.mem_cons, List.not_mem_nil, or_false]; exact hd
  have reg : door ≠ "order" → REF nm ks := fun n => pe.go.elim (fun h => h.2) fun h => (n h.1).elim
  rcases hd with rfl | rfl | rfl | rfl | rfl | rfl
  · -- put
    have O := reg (by decide +kernel)
    refine ⟨d1, x1, a1, pl, v1, _, own, rfl, hd', x0.i1, .inl ⟨rfl, d1, x1, pl, a1, own, v1, o, S1, k, nm, ks, rfl, x0.asks1 M0 (by omega), O, wo, fun q S1' H1 W1 t => ?_⟩⟩
    obtain ⟨m, A⟩ := asks (u1 := .non) t
    refine hQ .non H1 m.aD m.ch fun Q2 E2 h2 => ⟨d2, x2, a2, pl, v2, _, own, rfl, hd', A.it, .inl ⟨rfl, d2, x2, pl, a2, own, v2, o, S2, k, nm, ks, rfl, A, O, wo, fun r S2' H2 W2 u => ?_⟩⟩
    obtain ⟨L', C', l', mm⟩ := x.duo.co.put W1
    obtain ⟨aD2, bd⟩ := m.both T x hD u (by omega) (by omega) (funext fun r => by rw [W1, W2, x.duo.w]) C' (fun y hy => by
      rcases mm y hy with hy | rfl
      · exact x.duo.ok y hy
      · exact ⟨nm, ks, rfl, O, wo⟩) lv l' (d := .non) rfl (fun _ _ => .non) (fun _ _ => .non)
    exact h2 _ H2 aD2 ((m.up (ys := [.non]) x hD).ch.trans (u.ch.mono fun a h => h.elim (fun h => .inr (.inl h)) fun h => .inr (.inr (.inr h)))) bd
  · -- read
    have O := reg (by decide +kernel)
    have isW : ∀ {H' : Hp}, Is K H' (orV (.str "") (S1.W (nm :: ks))) (dW (.str "") (S1.W (nm :: ks))) := fun {H'} => by
      cases e : S1.W (nm :: ks) with
      | none => exact .str _ (by decide) (by intro c hc; cases hc)
      | some z =>
        obtain ⟨_, _, _, _, wz⟩ := x.duo.ok _ ((x.duo.co.mem _ z).mpr e)
        exact .str _ (Nat.le_trans wz.len (by decide)) wz.asc
    refine ⟨d1, x1, a1, pl, v1, _, own, rfl, hd', x0.i1, .inr (.inl ⟨rfl, d1, x1, pl, a1, .str "", v1, o, S1, k, nm, ks, rfl, x0.asks1 M0 (by omega), O, fun q H1 t => ?_⟩)⟩
    refine quest t (d := dW (.str "") (S1.W (nm :: ks))) (by cases S1.W (nm :: ks) <;> rfl) (fun _ _ => isW) fun A Q2 E2 h2 => ⟨d2, x2, a2, pl, v2, _, own, rfl, hd', A.it, .inr (.inl ⟨rfl, d2, x2, pl, a2, .str "", v2, o, S2, k, nm, ks, rfl, A, O, fun r H2 u => h2 r _ H2 u fun _ _ => ?_⟩)⟩
    rw [← x.duo.w]
    exact isW
  · -- data
    have O := reg (by decide +kernel)
    have isD : ∀ {H' : Hp}, Is K H' (.int (dataOf S1 (nm :: ks))) (.int (dataOf S1 (nm :: ks))) := fun {_} => .int _ (by
      unfold dataOf
      split
      · split <;> split <;> decide
      · decide)
    refine ⟨d1, x1, a1, pl, v1, _, own, rfl, hd', x0.i1, .inr (.inr (.inl ⟨rfl, d1, x1, pl, a1, v1, o, S1, k, nm, ks, rfl, x0.asks1 M0 (by omega), O, fun q H1 t => ?_⟩))⟩
    refine quest t (d := .int (dataOf S1 (nm :: ks))) rfl (fun _ _ => isD) fun A Q2 E2 h2 => ⟨d2, x2, a2, pl, v2, _, own, rfl, hd', A.it, .inr (.inr (.inl ⟨rfl, d2, x2, pl, a2, v2, o, S2, k, nm, ks, rfl, A, O, fun r H2 u => h2 r _ H2 u fun _ _ => ?_⟩))⟩
    rw [← x.duo.al.data (nm :: ks)]
    exact isD
  · -- kill
    have O := reg (by decide +kernel)
    have c1 : cntAt S1 (nm :: ks) ≤ 900 := by
      rw [x.duo.co.cnt x.duo.a1.ok]
      exact Nat.le_trans (List.length_filter_le _ _) (by omega)
    have ec := x.duo.al.cnt (nm :: ks)
    have isC : ∀ {H' : Hp}, Is K H' (.int (cntAt S1 (nm :: ks) : Nat)) (.int (cntAt S1 (nm :: ks) : Nat)) := fun {_} => .int _ (by rw [Int.natAbs_natCast]; exact Nat.le_trans c1 (by decide))
    refine ⟨d1, x1, a1, pl, v1, _, own, rfl, hd', x0.i1, .inr (.inr (.inr (.inl ⟨rfl, d1, x1, pl, a1, v1, o, S1, k, nm, ks, rfl, x0.asks1 M0 (by omega), O, by omega, fun q S1' H1 W1 t => ?_⟩)))⟩
    obtain ⟨m, A⟩ := asks (u1 := .int (cntAt S1 (nm :: ks) : Nat)) t
    refine hQ _ H1 m.aD m.ch fun Q2 E2 h2 => ⟨d2, x2, a2, pl, v2, _, own, rfl, hd', A.it, .inr (.inr (.inr (.inl ⟨rfl, d2, x2, pl, a2, v2, o, S2, k, nm, ks, rfl, A, O, by rw [← ec]; omega, fun r S2' H2 W2 u => ?_⟩)))⟩
    obtain ⟨L', C', l', mm⟩ := x.duo.co.cut W1
    obtain ⟨aD2, bd⟩ := m.both T x hD u (by omega) (by omega) (funext fun r => by rw [W1, W2, x.duo.w]) C' (fun y hy => x.duo.ok y (mm y hy)) lv (Nat.le_succ_of_le l') (d := .int (cntAt S1 (nm :: ks) : Nat)) rfl (fun _ _ => isC) (fun _ _ => isC)
    rw [← ec]
    exact h2 _ H2 aD2 ((m.up (ys := [_]) x hD).ch.trans (u.ch.mono fun a h => h.elim (fun h => .inr (.inl h)) fun h => .inr (.inr (.inr h)))) bd
  · -- order
    obtain ⟨h, z, rfl, A0⟩ := pe.go.elim (fun h => (h.1 rfl).elim) fun h => h.2
    refine ⟨d1, x1, a1, pl, v1, _, own, rfl, hd', x0.i1, .inr (.inr (.inr (.inr (.inl ⟨rfl, d1, x1, pl, a1, false, v1, o, S1, k, nm, h, z, rfl, x0.asks1 M0 (by omega), A0, fun q H1 t => ?_⟩))))⟩
    refine quest t (d := .str (ordS S1 nm h z false)) rfl (fun H' _ => ord_asc x.duo nm h z false H') fun A Q2 E2 h2 => ⟨d2, x2, a2, pl, v2, _, own, rfl, hd', A.it, .inr (.inr (.inr (.inr (.inl ⟨rfl, d2, x2, pl, a2, false, v2, o, S2, k, nm, h, z, rfl, A, A0, fun r H2 u => h2 r _ H2 u fun H' _ => ?_⟩))))⟩
    rw [← x.duo.al.ord nm h z false]
    exact ord_asc x.duo nm h z false H'
  · -- following
    have O := reg (by decide +kernel)
    obtain ⟨dF, okF, _, fw⟩ := follow_tw (K := K) x.duo false nm ks
    have fw1 := fw S1 ⟨rfl, x.duo.a1.ok, x.duo.a1.ok, x.duo.a1.full, x.duo.a1.full⟩
    have fw2 := fw S2 x.duo.al.symm
    have second : ∀ {H1 : Hp} {u1 : V}, Asks K cs (upd H1 DL (.lst [u1])) d2 x2 pl a2 v2 o S2 k nm ks → ∀ (Q2 : VK) (E2 : XK), (∀ r u2 H2, Told K cs (upd H1 DL (.lst [u1])) H2 d2 x2 a2 nm ks r → ResE K H2 u2 dF → Q2 u2 H2) → spDoor K cs [.ref d2, .str "following", .ref pl, .str own] (upd H1 DL (.lst [u1])) Q2 E2 := fun {H1 u1} A Q2 E2 h2 =>
      ⟨d2, x2, a2, pl, v2, _, own, rfl, hd', A.it, .inr (.inr (.inr (.inr (.inr ⟨rfl, d2, x2, pl, a2, false, v2, o, S2, k, nm, ks, rfl, A, O, x.duo.keyne.2, fun r H2 u no => h2 r _ H2 u fun H' _ => fw2.1 H' no, fun r r' H2 ks' u Rr sd => h2 r _ H2 u fun H' kp => fw2.2 H' _ ks' (Rr.keep kp) sd⟩))))⟩
    refine ⟨d1, x1, a1, pl, v1, _, own, rfl, hd', x0.i1, .inr (.inr (.inr (.inr (.inr ⟨rfl, d1, x1, pl, a1, false, v1, o, S1, k, nm, ks, rfl, x0.asks1 M0 (by omega), O, x.duo.keyne.1, fun q H1 t no => ?_, fun q r' H1 ks' t Rr sd => ?_⟩))))⟩
    · exact quest t okF (fun H' _ => fw1.1 H' no) second
    · exact quest t okF (fun H' kp => fw1.2 H' _ ks' (Rr.keep kp) sd) second
end
/-! ### law k15 -/
def spLaw (K : PySem.W.Frag) (cs : Tabs) : Sp := fun vs H Q _ => ∃ (a : Addr) (ns : List Int), vs = [.ref a] ∧ SqL K H a (ns.map V.int) ∧ ns.length ≤ 63 ∧ TGs H cs ∧ ∀ H', Q (.bl true) H'
section
variable {P : Program} {w : World} {K : PySem.W.Frag} {mg : Str → Option Value} {base : Heap} {cs : Tabs}
theorem ok_law (T : Txt K mg cs) (B : TBs base mg cs) {f : Addr} {fd : FuncData} (F : Fun K "law" "law" sLaw f fd) : FnOk P w K mg base CX0 15 f fd ["script"] (spLaw K cs) := by
  have C_law_cell_at := ok_law_cell_at (P := P) (w := w) (base := base) T
  have C_law_bag := ok_law_bag (P := P) (w := w) (base := base) T
  have C_law_take := ok_law_take (P := P) (w := w) (base := base) T
  have C_law_key := ok_law_key T C_law_take
  have C_law_pool := ok_law_pool T C_law_take C_law_key
  have C_law_ref := ok_law_ref T C_law_take
  have C_law_worth := ok_law_worth T C_law_take
  have Cis_worth := ok_is_worth (P := P) (w := w) T B
  have Cis_key := ok_is_key T Cis_worth
  have Cis_name := ok_is_name (P := P) (w := w) T B
  have Cis_row := ok_is_row T B Cis_key
  have Cis_pair := ok_is_pair (P := P) (w := w) (base := base) T
  have Cis_reference := ok_is_reference T Cis_pair Cis_name Cis_row
  have Cis_asking_row := ok_asking_row T Cis_worth Cis_row
  have Cis_asking_rowA := ok_asking_rowA T Cis_worth Cis_row
  have Cis_asking_reference := ok_asking_reference T Cis_pair Cis_name Cis_asking_row
  have Cis_asking_referenceA := ok_asking_refA T Cis_pair Cis_name Cis_asking_rowA
  have C_number_of_figures := ok_number_of_figures (P := P) (w := w) (base := base) T
  have Cnumber_of := ok_number_of T C_number_of_figures
  have Cis_number_text := ok_is_number_text (P := P) (w := w) T B
  have Ckey_rank := ok_key_rank T Cnumber_of Cis_number_text
  have Cbefore := ok_before T Ckey_rank
  have Cneed_reference := ok_need_reference T Cis_reference
  have Cneed_asking_reference := ok_need_asking T Cis_asking_reference
  have Cneed_worth := ok_need_worth T Cis_worth
  have Xneed_worth := ok_need_worthX T Cis_worth
  have C_path := ok_path (P := P) (w := w) (base := base) T
  have C_reference := ok_reference (P := P) (w := w) (base := base) T
  have C_how_many_ahead := ok_how_many T Cbefore
  have CTree := ok_tree (P := P) (w := w) (base := base) T
  have CTree_at := ok_at (P := P) (w := w) (base := base) T
  have CTree__made := ok_made T C_how_many_ahead CTree
  have CTree_plant := ok_plant T CTree__made
  have CTree_cut := ok_cut T CTree_at
  have CTree_walked := ok_walked (P := P) (w := w) (base := base) T 8
  have CTree_next_key := ok_next T C_how_many_ahead
  have CTree__first_path := ok_first T CTree_at
  have CTree__last_path := ok_last T CTree_at
  have CTree_path_behind := ok_behind T CTree_at CTree_next_key CTree__first_path
  have CTree_path_ahead := ok_aheadp T CTree_at CTree_next_key CTree__last_path
  have CArrays := ok_arrays T CTree
  have CArrays_put := ok_put T Cneed_reference Cneed_worth C_path CTree_plant
  have XArrays_put := ok_putX T Cneed_reference Xneed_worth C_path (by decide) CTree_plant
  have CArrays_read := ok_read T Cneed_reference C_path CTree_at
  have CArrays_data := ok_data T Cneed_reference C_path CTree_at
  have CArrays_uproot := ok_uproot T C_path CTree_at CTree_cut
  have CArrays_kill := ok_kill T Cneed_reference CArrays_uproot CTree_walked
  have CArrays_rows := ok_rows T Cneed_reference C_path C_reference CTree_at CTree_walked
  have CArrays_following := ok_following T Cneed_reference C_path C_reference CTree_path_behind CTree_path_ahead
  have CArrays_order := ok_order T Cneed_asking_reference C_path CTree_at CTree_next_key
  have CArrays_names := ok_names (P := P) (w := w) (base := base) T
  have C_is_short := ok_short T Cis_pair Cis_asking_row
  have C_is_shortA := ok_shortA T Cis_pair Cis_asking_rowA
  have Clong := ok_long (P := P) (w := w) (base := base) T
  have Xlong := ok_longX (P := P) (w := w) (base := base) T
  have CDesk := ok_desk (P := P) (w := w) (base := base) T
  have CDesk__meant := ok_meant T C_is_short Cis_reference Clong
  have CDesk__meant_asking := ok_meantA T C_is_short Cis_asking_reference Clong
  have XDesk__meant := ok_meantX T C_is_shortA Cis_reference Xlong
  have XDesk__meant_asking := ok_meantAX T C_is_shortA Cis_asking_referenceA Xlong
  have CDesk__remember := ok_remember (P := P) (w := w) (base := base) T
  have CDesk_put := ok_dput T CDesk__meant CDesk__remember CArrays_put
  have CDesk_read := ok_dread T CDesk__meant CDesk__remember CArrays_read
  have CDesk_data := ok_ddata T CDesk__meant CDesk__remember CArrays_data
  have CDesk_kill := ok_dkill T CDesk__meant CDesk__remember CArrays_kill
  have CDesk_order := ok_dorder T CDesk__meant_asking CDesk__remember CArrays_order
  have CDesk_following := ok_dfollow T CDesk__meant CDesk__remember CArrays_following
  have XDesk_put := ok_dputX T CDesk__meant XDesk__meant CDesk__remember XArrays_put
  have XDesk_read := ok_dreadX T XDesk__meant CDesk__remember CArrays_read
  have XDesk_data := ok_ddataX T XDesk__meant CDesk__remember CArrays_data
  have XDesk_kill := ok_dkillX T XDesk__meant CDesk__remember CArrays_kill
  have XDesk_order := ok_dorderX T XDesk__meant_asking CDesk__remember CArrays_order
  have XDesk_following := ok_dfollowX T XDesk__meant CDesk__remember CArrays_following
  have CDesk_last := ok_dlast (P := P) (w := w) (base := base) T
  have C_law_same := ok_law_same (P := P) (w := w) (base := base) T 5
  have P_law_word := ok_law_word (P := P) (w := w) (base := base) T
  have C_law_door := ok_law_door T CDesk_put CDesk_read CDesk_data CDesk_kill CDesk_order CDesk_following
  have X_law_door := ok_law_doorX T XDesk_put XDesk_read XDesk_data XDesk_kill XDesk_order XDesk_following
  have C_law_tried := ok_law_tried T P_law_word X_law_door
  have C_law_long_word := ok_law_long_word T P_law_word Xlong
  have C_law_due := ok_law_due (P := P) (w := w) (base := base) T
  have C_law_bad := ok_law_bad T C_law_take C_law_key
  have C_law_refused := ok_law_refused T C_law_take C_law_key C_law_worth C_law_ref C_law_bad C_law_due C_law_long_word C_law_tried CDesk_last
  have C_law_all := ok_law_all T CArrays_names CArrays_rows
  refine F.ok scLaw (fun vs H Q E h => ?_) (fun cdv A outer s H vs Q E hr h => ?_)
  · obtain ⟨a, ns, rfl, _⟩ := h
    rfl
  obtain ⟨a, xs, rfl, hS, h63, hT, q⟩ := h
  refine ⟨_, (pss_cons (ps_set (i := 1) scLaw.nd rfl (by first | exact Or.inl rfl | exact Or.inr rfl) (pe_cal C_law_bag (hr.mono (by first | decide | omega)) (pa_cons (pe_cal C_law_cell_at (hr.mono (by first | decide | omega)) (pa_cons (pv 0) (pa_cons pe_int pa_nil))) (pa_cons pe_int pa_nil))))
    (pss_cons (ps_set (i := 2) scLaw.nd rfl (by first | exact Or.inl rfl | exact Or.inr rfl) (pe_cal C_law_pool (hr.mono (by first | decide | omega)) (pa_cons (pv 1) pa_nil)))
    (pss_cons (ps_set (i := 3) scLaw.nd rfl (by first | exact Or.inl rfl | exact Or.inr rfl) (pe_lst (pa_cons (pe_calC0 CArrays (hr.mono (by first | decide | omega))) (pa_cons (pe_calC0 CArrays (hr.mono (by first | decide | omega))) pa_nil))))
    (pss_cons (ps_setLc (i := 4) (own := [("arrays", 12)]) (g := gName 12) (tt := tYes) rfl scLaw.nd rfl rfl (sw_true rfl rfl rfl (by decide +kernel)) (pi_list (pv 3)) (blkOk_by (own := [("arrays", 12)]) (N := ["script", "bag", "pool", "both", "desks", "k", "kept", "j", "door", "place", "own", "found", "arrays", "desk"]) (sc := defScope sLaw) (by decide +kernel)) (fun _ _ _ _ _ => (pg_name (i := 12) scLaw.nd rfl (by first | exact Or.inl rfl | exact Or.inr rfl))) (fun _ _ _ _ _ => pts_nil) (fun _ _ _ _ _ => (pe_calC CDesk (hr.mono (by first | decide | omega)) (pa_cons (pv 12) pa_nil))))
    (pss_cons (ps_for PassesOwn.never rfl (pi_range1 rfl T.n_range (pa_cons (pe_callB (call_max2 rfl) rfl T.n_max (by decide +kernel) (pa_cons pe_int (pa_cons (pe_callB (call_min2 rfl) rfl T.n_min (by decide +kernel) (pa_cons pe_int (pa_cons (pe_callB (lenQ K) rfl T.n_len (by decide +kernel) (pa_cons (pv 0) pa_nil)) pa_nil))) pa_nil))) pa_nil)) (pg_name (i := 5) scLaw.nd rfl (by first | exact Or.inl rfl | exact Or.inr rfl))
      (pss_cons (ps_if (pt_cmpR op_gt (pv 5) pe_int (nomark _)) (pss_cons (ps_set (i := 1) scLaw.nd rfl (by first | exact Or.inl rfl | exact Or.inr rfl) (pe_cal C_law_bag (hr.mono (by first | decide | omega)) (pa_cons (pe_cal C_law_cell_at (hr.mono (by first | decide | omega)) (pa_cons (pv 0) (pa_cons (pv 5) pa_nil))) (pa_cons (pv 5) pa_nil))))
            (pss_cons (ps_set (i := 8) scLaw.nd rfl (by first | exact Or.inl rfl | exact Or.inr rfl) (pe_ix (ixL K) (pe_lst (pa_cons pe_str (pa_cons pe_str (pa_cons pe_str (pa_cons pe_str (pa_cons pe_str (pa_cons pe_str (pa_cons pe_str (pa_cons pe_str pa_nil))))))))) (pe_cal C_law_take (hr.mono (by first | decide | omega)) (pa_cons (pv 1) (pa_cons pe_int pa_nil))) (fun _ _ => rfl)))
            (pss_cons (ps_set (i := 9) scLaw.nd rfl (by first | exact Or.inl rfl | exact Or.inr rfl) (pe_cal C_law_ref (hr.mono (by first | decide | omega)) (pa_cons (pv 1) (pa_cons (pv 2) (pa_cons (pe_ix (ixL K) (pe_lst (pa_cons pe_int (pa_cons pe_int pa_nil))) (pe_cal C_law_take (hr.mono (by first | decide | omega)) (pa_cons (pv 1) (pa_cons pe_int pa_nil))) (fun _ _ => rfl)) pa_nil)))))
            (pss_cons (ps_set (i := 10) scLaw.nd rfl (by first | exact Or.inl rfl | exact Or.inr rfl) (pe_cal C_law_worth (hr.mono (by first | decide | omega)) (pa_cons (pv 1) pa_nil)))
            (pss_cons (ps_if (pt_cmpR op_eq (pv 8) pe_str (nomark _)) (pss_one (ps_set (i := 9) scLaw.nd rfl (by first | exact Or.inl rfl | exact Or.inr rfl) (pe_tup (pa_cons (pe_ix (ixT K) (pv 9) pe_int (fun _ _ => rfl)) (pa_cons (pe_op (catA K) (pe_slice (slT K) (pe_ix (ixT K) (pv 9) pe_int (fun _ _ => rfl)) po_none (po_some pe_int)) (pe_tup (pa_cons pe_str pa_nil))) pa_nil))))) pss_nil)
            (pss_cons (ps_if (PW.pt (pw_and (pt_cmpR op_isN (pe_cal C_law_due (hr.mono (by first | decide | omega)) (pa_cons (pe_calM0 CDesk_last T.cl_Desk (hr.mono (by first | decide | omega)) (pe_ix (ixL K) (pv 4) pe_int (fun _ _ => rfl))) (pa_cons (pe_tup (pa_cons pe_str pa_nil)) pa_nil))) pe_non (nomark _)) (pw_and1 (pt_cmpR op_eq (pe_cal C_law_take (hr.mono (by first | decide | omega)) (pa_cons (pv 1) (pa_cons pe_int pa_nil))) pe_int (nomark _))))) (pss_one (ps_set (i := 9) scLaw.nd rfl (by first | exact Or.inl rfl | exact Or.inr rfl) (pe_tup (pa_cons pe_str (pa_cons (pe_tup (pa_cons (pe_cal C_law_key (hr.mono (by first | decide | omega)) (pa_cons (pv 1) pa_nil)) pa_nil)) pa_nil))))) pss_nil)
            (pss_cons (ps_setLc (i := 11) (own := [("desk", 13)]) (g := gName 13) (tt := tYes) rfl scLaw.nd rfl rfl (sw_true rfl rfl rfl (by decide +kernel)) (pi_list (pv 4)) (blkOk_by (own := [("desk", 13)]) (N := ["script", "bag", "pool", "both", "desks", "k", "kept", "j", "door", "place", "own", "found", "arrays", "desk"]) (sc := defScope sLaw) (by decide +kernel)) (fun _ _ _ _ _ => (pg_name (i := 13) scLaw.nd rfl (by first | exact Or.inl rfl | exact Or.inr rfl))) (fun _ _ _ _ _ => pts_nil) (fun _ _ _ _ _ => (pe_cal C_law_door (hr.mono (by first | decide | omega)) (pa_cons (pv 13) (pa_cons (pv 8) (pa_cons (pv 9) (pa_cons (pv 10) pa_nil)))))))
            (pss_one (ps_if (pt_not (pt_val (pe_cal C_law_same (hr.mono (by first | decide | omega)) (pa_cons (pe_lst (pa_cons (pe_ix (ixL K) (pv 11) pe_int (fun _ _ => rfl)) pa_nil)) (pa_cons (pe_lst (pa_cons (pe_ix (ixL K) (pv 11) pe_int (fun _ _ => rfl)) pa_nil)) pa_nil))))) (pss_one (ps_ret pe_bl)) pss_nil))))))))) pss_nil)
        (pss_cons (ps_set (i := 6) scLaw.nd rfl (by first | exact Or.inl rfl | exact Or.inr rfl) (pe_calM0 CDesk_last T.cl_Desk (hr.mono (by first | decide | omega)) (pe_ix (ixL K) (pv 4) pe_int (fun _ _ => rfl))))
        (pss_cons (ps_for PassesOwn.never rfl (pi_range1 rfl T.n_range (pa_cons (pe_op op_add pe_int (pe_cal C_law_take (hr.mono (by first | decide | omega)) (pa_cons (pv 1) (pa_cons pe_int pa_nil)))) pa_nil)) (pg_name (i := 7) scLaw.nd rfl (by first | exact Or.inl rfl | exact Or.inr rfl))
          (pss_one (ps_if (PW.pt (pw_or (pt_not (pt_val (pe_cal C_law_refused (hr.mono (by first | decide | omega)) (pa_cons (pv 1) (pa_cons (pe_ix (ixL K) (pv 4) pe_int (fun _ _ => rfl)) (pa_cons (pv 2) pa_nil)))))) (pw_or1 (pt_not (pt_val (pe_cal C_law_same (hr.mono (by first | decide | omega)) (pa_cons (pe_lst (pa_cons (pe_calM0 CDesk_last T.cl_Desk (hr.mono (by first | decide | omega)) (pe_ix (ixL K) (pv 4) pe_int (fun _ _ => rfl))) pa_nil)) (pa_cons (pe_lst (pa_cons (pv 6) pa_nil)) pa_nil)))))))) (pss_one (ps_ret pe_bl)) pss_nil)))
        (pss_one (ps_if (pt_not (pt_val (pe_cal C_law_same (hr.mono (by first | decide | omega)) (pa_cons (pe_lst (pa_cons (pe_calM0 CDesk_last T.cl_Desk (hr.mono (by first | decide | omega)) (pe_ix (ixL K) (pv 4) pe_int (fun _ _ => rfl))) (pa_cons (pe_cal C_law_all (hr.mono (by first | decide | omega)) (pa_cons (pe_ix (ixL K) (pv 3) pe_int (fun _ _ => rfl)) pa_nil)) pa_nil))) (pa_cons (pe_lst (pa_cons (pv 6) (pa_cons (pe_cal C_law_all (hr.mono (by first | decide | omega)) (pa_cons (pe_ix (ixL K) (pv 3) pe_int (fun _ _ => rfl)) pa_nil)) pa_nil))) pa_nil))))) (pss_one (ps_ret pe_bl)) pss_nil))))))
    (pss_one (ps_ret pe_bl))))))), ?_⟩
  have hlm : (xs.map V.int).length = xs.length := List.length_map _
  -- bag, pool
  refine run_set ⟨_, rfl, a, xs, 0, rfl, hS, fun c => ⟨c, 0, rfl, by omega, fun b H1 hb S1 Bg => ?_⟩⟩
  have ab0 : a ≠ b ∨ ∀ H', SqL K H' a (xs.map V.int) := by
    rcases hS with h | h
    · exact .inl fun z => rd_some h (z ▸ hb)
    · exact .inr fun _ => .inr h
  dsimp only
  refine run_set ⟨_, rfl, b, 0, rfl, Bg, by unfold LIM; omega, fun p nms ks H2 PO _ PA4 fresh G2 => ?_⟩
  have B2 := G2.bag _ Bg
  have S4 : Sm H H2 := Sm.go S1 G2 hb
  have T4 : TGs H2 cs := hT.sm S4
  have fresh2 : ∀ {H' : Hp} {S : Sh} {arr x0 C : Addr}, (∀ y, Own S y → (upd (upd H' x0 (.own arr)) arr (.ins C x0 [])) y = none) → ∀ y, Own S y → H' y = none := fun {H' S arr x0 C} N y h => by
    have h := N y h
    by_cases e1 : y = arr
    · rw [e1, upd_same] at h
      cases h
    · rw [upd_ne e1] at h
      by_cases e2 : y = x0
      · rw [e2, upd_same] at h
        cases h
      · rw [upd_ne e2] at h
        exact h
  -- two arrays
  dsimp only
  refine run_set ?_
  intro a1 x1 ha1 hx1 ne1
  refine ⟨a1, x1, rfl, upd_same, fun S1 H5 W1 M5 A5 N5 => ⟨rfl, ?_⟩⟩
  have S5 : Sm H2 H5 := Made.new ha1 hx1 ne1 M5
  have N1 := fresh2 N5
  intro a2 x2 ha2 hx2 ne2
  refine ⟨a2, x2, rfl, upd_same, fun S2 H6 W2 M6 A6 N6 => ⟨rfl, ?_⟩⟩
  have S6 : Sm H5 H6 := Made.new ha2 hx2 ne2 M6
  have N2 := fresh2 N6
  refine ⟨(by show 2 ≤ sizeLine; decide), fun AS hAS => ?_⟩
  have S7 := Sm.new (o := .lst [.ref a1, .ref a2]) hAS
  have eAS : (upd H6 AS (.lst [.ref a1, .ref a2])) AS = some (.lst [.ref a1, .ref a2]) := upd_same
  change tSeq _ _ _ _ (upd H6 AS (.lst [.ref a1, .ref a2]))
  generalize upd H6 AS (.lst [.ref a1, .ref a2]) = H7 at *
  -- two desks
  refine run_set ?_
  refine lc_two (by rfl) eAS fun DS hDS R1 h1 => ?_
  have nAD : AS ≠ DS := fun e => by rw [e, hDS] at eAS; cases eAS
  have S7a := Sm.new (o := .lst []) hDS
  have aDS : (upd H7 DS (.lst [])) DS = some (.lst []) := upd_same
  have eAS2 := S7a _ _ eAS
  generalize upd H7 DS (.lst []) = H7a at *
  refine ⟨_, (by rfl), ?_⟩
  intro d1 y1 hd1 hy1 nd1
  refine ⟨d1, y1, a1, rfl, upd_same, fun H8 M8 D8 => ⟨rfl, ?_⟩⟩
  have S8 : Sm H7a H8 := Made.new hd1 hy1 nd1 M8
  refine h1 _ H8 (S8 _ _ aDS) (S8 _ _ eAS2) fun R2 h2 => ?_
  have aDS8 := S8 _ _ aDS
  have S8a : Sm H7 (upd H8 DS (.lst [.ref d1])) := Sm.own (S7a.trans S8) hDS (no_tbl aDS8)
  have eDS : (upd H8 DS (.lst [.ref d1])) DS = some (.lst [.ref d1]) := upd_same
  have nd : d1 ≠ DS := fun e => by rw [e, aDS8] at D8; cases D8
  have D8a : (upd H8 DS (.lst [.ref d1])) d1 = _ := (upd_ne nd).trans D8
  generalize upd H8 DS (.lst [.ref d1]) = H8a at *
  refine ⟨_, (by rfl), ?_⟩
  intro d2 y2 hd2 hy2 nd2
  refine ⟨d2, y2, a2, rfl, upd_same, fun H9 M9 D9 => ⟨rfl, ?_⟩⟩
  have S9 : Sm H8a H9 := Made.new hd2 hy2 nd2 M9
  refine h2 _ H9 (S9 _ _ eDS) (S9 _ _ (S8a _ _ eAS)) ?_
  clear h1 h2
  have eDS9 := S9 _ _ eDS
  have S710 : Sm H7 (upd H9 DS (.lst [.ref d1, .ref d2])) := Sm.own (S8a.trans S9) hDS (no_tbl eDS9)
  have e10 : (upd H9 DS (.lst [.ref d1, .ref d2])) DS = some (.lst [.ref d1, .ref d2]) := upd_same
  have nd' : d2 ≠ DS := fun e => by rw [e, eDS9] at D9; cases D9
  have i1 : (upd H9 DS (.lst [.ref d1, .ref d2])) d1 = _ := (upd_ne nd).trans (S9 _ _ D8a)
  have i2 : (upd H9 DS (.lst [.ref d1, .ref d2])) d2 = _ := (upd_ne nd').trans D9
  generalize upd H9 DS (.lst [.ref d1, .ref d2]) = H10 at *
  have S610 := S7.trans S710
  have S510 := S6.trans S610
  have S210 := S5.trans S510
  have t10 : SitT K cs H10 p AS DS d1 d2 y1 y2 a1 a2 nms ks .non .non none S1 S2 0 [] := by
    obtain ⟨_, _, ia, _⟩ := A5.it
    refine ⟨PA4.sm S210, S710 _ _ eAS, e10, ⟨i1, i2, rfl, rfl, ⟨A5.sm S510, A6.sm S610, funext fun r => by rw [W1, W2], ⟨.nil, fun r z => ⟨fun m => (nomatch m), fun m => by rw [W1] at m; cases m⟩⟩, fun _ h => (nomatch h), fun y h z => ?_, fun e => ?_⟩, T4.sm S210, fun e => ?_⟩, fun y h => ⟨fun z => ?_, fun z => ?_⟩⟩
    · obtain ⟨_, g, _⟩ := own_there A5.th h
      rw [N2 y z] at g
      cases g
    · rw [e, ha2] at ia
      cases ia
    · rw [← e, D8a] at hd2
      cases hd2
    · have h2 : PoolOwn H2 p y := pool_own PA4 (fun o e nt => S210.keep0 _ _ e nt) h
      rcases PA4.some h2 with ⟨_, e⟩ | ⟨_, e⟩ <;> (rw [N1 y z] at e; cases e)
    · have h2 : PoolOwn H2 p y := pool_own PA4 (fun o e nt => S210.keep0 _ _ e nt) h
      have e8 := S5.gone _ (N2 y z)
      rcases PA4.some h2 with ⟨_, e⟩ | ⟨_, e⟩ <;> (rw [e8] at e; cases e)
  have sc10 : ScrT K H10 a xs S1 S2 := by
    rcases hS with h | h
    · have h2 := rd_ch (Ch.sm (W := fun _ => False) S4) rfl h id
      exact .inl ⟨rd_ch (Ch.sm (W := fun _ => False) S210) rfl h2 id, fun z => rd_some h2 (N1 a z), fun z => rd_some h2 (S5.gone _ (N2 a z))⟩
    · exact .inr fun _ => .inr h
  have B10 := (Go.same (b := b) S210).bag _ B2
  clear e10 eDS9 eDS aDS8 aDS eAS eAS2 D8 D8a D9 i1 i2 A5 A6
  -- the cells
  refine run_for ?_
  refine ⟨_, rfl, a, _, rfl, .inl sc10.seq, 30, _, rfl, 13, _, rfl, ?_⟩
  have e : (if (if ((xs.map V.int).length : Int) < 30 then ((xs.map V.int).length : Int) else 30) > 13 then (if ((xs.map V.int).length : Int) < 30 then ((xs.map V.int).length : Int) else 30) else (13 : Int)) = ((max 13 (min 30 xs.length) : Nat) : Int) := by
    rw [hlm]
    split <;> split at * <;> omega
  rw [e]
  obtain ⟨hi, ehi⟩ : ∃ hi : Nat, max 13 (min 30 xs.length) = hi := ⟨_, rfl⟩
  have hhi : hi ≤ 30 := by omega
  rw [ehi]
  refine ⟨(hi : Int), rfl, by omega, by omega, ?_⟩
  refine for_range (lo := 0) (n := hi) (fun j σ H' => ∃ b n v1 v2 o S1 S2 k L z5 z6 z7 z8 z9 z10 z11 z12 z13, σ = [some (.ref a), some (.ref b), some (.ref p), some (.ref AS), some (.ref DS), z5, z6, z7, z8, z9, z10, z11, z12, z13] ∧ Bag H' b n ∧ (j = 0 → n ≤ 1000) ∧ (a ≠ b ∨ ∀ H', SqL K H' a (xs.map V.int)) ∧ SitT K cs H' p AS DS d1 d2 y1 y2 a1 a2 nms ks v1 v2 o S1 S2 k L ∧ ScrT K H' a xs S1 S2 ∧ k ≤ 7 * j ∧ L.length ≤ j)
    ⟨b, _, _, _, _, S1, S2, 0, [], _, _, _, _, _, _, _, _, _, rfl, B10, fun _ => by omega, ab0, t10, sc10, by omega, by simp⟩ (fun j σ H11 hj hp => ?_) fun σ H11 hp => ?_
  · obtain ⟨b, n, v1, v2, o, S1, S2, k, L, z5, z6, z7, z8, z9, z10, z11, z12, z13, rfl, B0, n0, ab, s, sc, hk, hL⟩ := hp
    clear t10 sc10 B10 ab0 B2 Bg
    have ek : (0 : Int) + (j : Int) = ((j : Nat) : Int) := by omega
    rw [ek]
    dsimp only [List.set]
    refine run_join (fun σ' H' => ∃ b n v1 v2 o S1 S2 k L z6 z7 z8 z9 z10 z11 z12 z13, σ' = [some (.ref a), some (.ref b), some (.ref p), some (.ref AS), some (.ref DS), some (.int (j : Int)), z6, z7, z8, z9, z10, z11, z12, z13] ∧ Bag H' b n ∧ n ≤ 3000 ∧ (a ≠ b ∨ ∀ H', SqL K H' a (xs.map V.int)) ∧ SitT K cs H' p AS DS d1 d2 y1 y2 a1 a2 nms ks v1 v2 o S1 S2 k L ∧ ScrT K H' a xs S1 S2 ∧ k ≤ 7 * (j + 1) ∧ L.length ≤ j + 1) (fun nx hnx => ?_) fun σ' H' hp => ?_
    · refine run_ifE ⟨_, rfl, _, 0, rfl, rfl, _, rfl, ?_⟩
      refine ite2 (fun c => ?_) (fun c => ?_)
      rotate_left
      · refine run_next (hnx _ _ ⟨b, n, v1, v2, o, S1, S2, k, L, _, _, _, _, _, _, _, _, rfl, B0, ?_, ab, s, sc, by omega, by omega⟩)
        have : ¬ (0 : Int) < (j : Int) := fun z => c (decide_eq_true z)
        have := n0 (by omega)
        omega
      clear B0 n0 ab
      refine run_set ⟨_, rfl, _, rfl, a, xs, j, rfl, sc.seq, fun c => ⟨_, rfl, c, j, rfl, by omega, fun b2 H12 hb2 S12 Bg2 => ?_⟩⟩
      have s12 := s.sm S12
      have sc12 := sc.sm S12
      have ab : a ≠ b2 ∨ ∀ H', SqL K H' a (xs.map V.int) := sc.imp (fun h z => rd_some h.1 (z ▸ hb2)) id
      clear s sc
      dsimp only [List.set]
      -- the door
      refine run_set ?_
      refine menuC (A := fun u => ∃ z, u = .str z ∧ z ∈ DOORS6) (xs := [.str "put", .str "put", .str "put", .str "read", .str "data", .str "kill", .str "order", .str "following"]) (fun R h => h) (fun u hu => ?_) rfl Bg2 (by unfold LIM; omega) (by decide) (by decide) fun u H13 ⟨door, eu, hd⟩ G13 => ?_
      · simp only [List.mem_cons, List.not_mem_nil, or_false] at hu
        rcases hu with rfl | rfl | rfl | rfl | rfl | rfl | rfl | rfl <;> exact ⟨_, rfl, by simp [DOORS6]⟩
      subst eu
      have goSc : ∀ {S1 S2 : Sh} {H H' : Hp} {m : Nat} {C1 C2 e1 e2 : Addr} {f1 f2 : List (Str × V)}, ScrT K H a xs S1 S2 → H d1 = some (.ins C1 e1 f1) → H d2 = some (.ins C2 e2 f2) → Go b2 m H H' → ScrT K H' a xs S1 S2 := fun sc i1 i2 G => sc.next i1 i2 (Ch.go (W := fun a => a = b2) G rfl) (fun a h => .inr (.inr (.inr (.inr h)))) ab (fun _ h => .inl h) (fun _ h => .inl h)
      have B13 := G13.bag _ Bg2
      have s13 := s12.go Bg2 G13
      have sc13 := goSc sc12 s12.td.i1 s12.td.i2 G13
      clear s12 sc12
      dsimp only [List.set]
      -- the place
      refine run_set ?_
      refine ⟨_, rfl, _, rfl, (by show 2 ≤ sizeLine; decide), fun M hM => ?_⟩
      have SM := Sm.new (o := .lst [V.int 1, .int 6]) hM
      have aM : (upd H13 M (.lst [V.int 1, .int 6])) M = some (.lst [V.int 1, .int 6]) := upd_same
      have BM := (Go.same (b := b2) SM).bag _ B13
      have nM : M ≠ b2 := fun e => by
        obtain ⟨_, hb⟩ := B13.some
        rw [← e, hM] at hb
        cases hb
      have sM := s13.sm SM
      have scM := sc13.sm SM
      generalize upd H13 M (.lst [V.int 1, .int 6]) = H13a at *
      refine ⟨_, rfl, b2, 2, _, rfl, BM, by unfold LIM; omega, by decide, by decide, fun r H14 r0 r1 G14 => ?_⟩
      obtain ⟨most, hmo, hix⟩ : ∃ most : Nat, most ≤ 6 ∧ atI [V.int 1, .int 6] r = some (.int (most : Int)) := by
        have : r = 0 ∨ r = 1 := by omega
        rcases this with rfl | rfl
        · exact ⟨1, by decide, rfl⟩
        · exact ⟨6, by decide, rfl⟩
      have B14 := G14.bag _ BM
      have s14 := sM.go BM G14
      have sc14 := goSc scM sM.td.i1 sM.td.i2 G14
      refine ⟨M, _, r, _, rfl, rfl, SqL.of (G14.keep M _ nM aM), hix, b2, p, _, most, nms, ks, rfl, B14, by unfold LIM; omega, s14.pool, (s14.bag B14).2.2, PO, hmo, fun pl nm qs H15 _ _ lq O R15' _ G15 => ?_⟩
      have B15 := G15.bag _ B14
      have s15 := s14.go B14 G15
      have sc15 := goSc sc14 s14.td.i1 s14.td.i2 G15
      have R15 : RefAt K H15 pl nm qs := R15'.at_
      clear s13 sc13 sM scM s14 sc14 R15' hix
      dsimp only [List.set]
      refine run_set ⟨_, rfl, b2, _, rfl, B15, by unfold LIM; omega, fun own H16 wo G16 => ?_⟩
      have B16 := G16.bag _ B15
      have s16 := s15.go B15 G16
      have sc16 := goSc sc15 s15.td.i1 s15.td.i2 G16
      have R16 := R15.go G16 B15
      clear s15 sc15 R15
      dsimp only [List.set]
      -- an order's place
      have we : WT ("" : Str) 40 := WT.dec (by decide +kernel)
      have An : ASK nm (qs.take 5) ("" : Str) := ⟨O.nm, List.length_take_le _ _, fun y hy => O.ks y (List.mem_of_mem_take hy), we⟩
      refine run_ifset (i := 9) (v0 := .ref pl) (fun v H' => Sm H16 H' ∧ ∃ p2 ps, v = .ref p2 ∧ RefAt K H' p2 nm ps ∧ PlE door o nm ps nm ps) rfl (fun R hR => ?_) fun v H17 hv => ?_
      · refine ⟨_, rfl, rfl, _, rfl, ?_⟩
        rw [strEq]
        refine ite2 (fun c2 => ?_) (fun c2 => hR _ H16 ⟨Sm.refl _, pl, qs, rfl, R16, .inl ⟨rfl, rfl⟩, .inl ⟨fun e => c2 (decide_eq_true e), O⟩⟩)
        obtain rfl := of_decide_eq_true c2
        obtain ⟨tp, p1, p2⟩ := R16.ex
        refine ⟨_, rfl, pl, _, 0, .str nm, rfl, rfl, p1, atI_nat (j := 0) rfl, _, rfl, pl, _, 1, .ref tp, rfl, rfl, p1, atI_nat (j := 1) rfl, 5, rfl, slice_take (k := 5) p2 fun e1 H2 S2' he1 => ⟨(by show 1 ≤ sizeLine; decide), fun e2 he2 => ?_⟩⟩
        rw [← List.map_take] at he1
        have Se := Sm.new (o := .tup [V.str ""]) he2
        refine cat_two (Sm.seqT Se he1) (SqT.of upd_same) (by rw [List.length_map, List.length_take, List.length_singleton]; omega) fun e3 H3 S3 he3 => ⟨(by show 2 ≤ sizeLine; decide), fun nr hnr => ?_⟩
        have he4 : SqT K H3 e3 ((qs.take 5 ++ [("" : Str)]).map V.str) := by rw [List.map_append]; exact he3
        have Sn := Sm.new (o := .tup [.str nm, .ref e3]) hnr
        exact hR _ _ ⟨(S2'.trans Se).trans (S3.trans Sn), nr, _, rfl, ⟨e3, SqT.of upd_same, Sm.seqT Sn he4⟩, .inl ⟨rfl, rfl⟩, .inr ⟨rfl, _, _, rfl, An⟩⟩
      obtain ⟨S17, p2, ps2, rfl, R17, pe17⟩ := hv
      have B17 := (Go.same (b := b2) S17).bag _ B16
      have s17 := s16.sm S17
      have sc17 := sc16.sm S17
      clear s16 sc16 R16
      dsimp only [List.set]
      -- a short one
      refine run_ifset (i := 9) (v0 := .ref p2) (fun v H' => Go b2 60 H17 H' ∧ ∃ p3 pn ps nm3 ks3, v = .ref p3 ∧ RefAt K H' p3 pn ps ∧ PlE door o pn ps nm3 ks3) rfl (fun R hR => ?_) fun v H18 hv => ?_
      · refine run_and ⟨_, rfl, DS, _, 0, _, rfl, rfl, SqL.of s17.ds, atI_nat (j := 0) rfl, d1, _, _, rfl, s17.td.i1, rfl, d1, y1, a1, v1, rfl, s17.td.i1, (by show 1 ≤ sizeLine; decide), fun t1 ht1 => ?_⟩
        have St := Sm.new (o := .tup [.str "1"]) ht1
        refine ⟨v1, t1, [.str "1"], o, rfl, s17.td.l1.sm St, SqT.of upd_same, fun H18 S18 => ⟨rfl, _, rfl, ?_⟩⟩
        have S78 := St.trans S18
        rcases due_cases o 1 with ⟨w0, _, e1, _⟩ | ⟨nm1, h, z, rfl, le, e1, _⟩
        · rw [show dueV o [V.str "1"].length = .str w0 from e1]
          exact iteF (iteF (hR _ H18 ⟨(Go.same S78).mono (by omega), p2, nm, ps2, nm, ps2, rfl, R17.same S78, pe17⟩))
        · rw [show dueV (some (nm1, h, z)) [V.str "1"].length = .non from e1]
          refine iteT ?_
          have B18 := (Go.same (b := b2) S78).bag _ B17
          refine draw_here (i := 1) (many := 2) (by rfl) B18 (by unfold LIM; omega) (by decide) (by decide) fun r2 H19 _ _ G19 => ?_
          have G79 := (Go.same (b := b2) S78).trans G19
          have B19 := G19.bag _ B18
          refine ⟨rfl, _, rfl, ite2 (fun _ => ?_) (fun _ => hR _ H19 ⟨G79.mono (by omega), p2, nm, ps2, nm, ps2, rfl, R17.go G79 B17, pe17⟩)⟩
          refine ⟨_, rfl, b2, _, rfl, B19, by unfold LIM; omega, fun key H20 kk G20 => ⟨(by show 1 ≤ sizeLine; decide), fun e5 he5 => ⟨(by show 2 ≤ sizeLine; decide), fun sh hsh => ?_⟩⟩⟩
          have sb := Sm.new (o := .tup [.str "", .ref e5]) hsh
          have sa := Sm.new (o := .tup [.str key]) he5
          obtain ⟨Ak, _⟩ := s17.td.l1
          have kall : ∀ y ∈ h ++ [key], KEY y := fun y hy => (List.mem_append.mp hy).elim (Ak.ks y) fun hy => by rw [List.mem_singleton.mp hy]; exact kk
          refine hR _ _ ⟨(G79.trans (G20.trans (Go.same (sa.trans sb)))).mono (by omega), sh, "", [key], nm1, h ++ [key], rfl, ⟨e5, SqT.of upd_same, Sm.seqT sb (SqT.of upd_same)⟩, .inr ⟨h, z, rfl, rfl, by simp, rfl⟩, ?_⟩
          by_cases ed : door = "order"
          · exact .inr ⟨ed, h, key, rfl, Ak.nm, Ak.le, Ak.ks, kk.wt⟩
          · exact .inl ⟨ed, Ak.nm, by rw [List.length_append, List.length_singleton]; exact le, kall⟩
      obtain ⟨G18, p3, pn, ps, nm3, ks3, rfl, R18, pe⟩ := hv
      have B18 := G18.bag _ B17
      have s18 := s17.go B17 G18
      have sc18 := goSc sc17 s17.td.i1 s17.td.i2 G18
      clear s17 sc17 R17 pe17
      dsimp only [List.set]
      -- both doors
      refine run_set ?_
      have nDS : ¬ (Own S1 DS ∨ Own S2 DS ∨ DS = d1 ∨ DS = d2) := fun z => by
        rcases z with z | z | z | z
        · exact refs_own s18.td.duo.a1.th s18.ds z
        · exact refs_own s18.td.duo.a2.th s18.ds z
        · have := s18.ds
          rw [z, s18.td.i1] at this
          cases this
        · have := s18.ds
          rw [z, s18.td.i2] at this
          cases this
      refine lc_two (by rfl) s18.ds fun DL hDL R1 h1 => ⟨_, (by rfl), _, (by rfl), _, (by rfl), _, (by rfl), ?_⟩
      refine both_doors (E := E0) T s18.td (Sm.new hDL) hDL upd_same pe (R18.same (Sm.new hDL)) hd wo (by omega) (by omega) fun u1 H19 e19 c19 sec => h1 u1 H19 e19 (c19.keep nDS s18.ds) fun R2 h2 => ⟨_, (by rfl), _, (by rfl), _, (by rfl), _, (by rfl), sec R2 E0 fun u2 H20 e20 c20 bd => h2 u2 H20 e20 (c20.keep nDS s18.ds) ?_⟩
      obtain ⟨S3, S4, L3, w1, w2, o3, dd, nt, hl3, okd, is1, is2⟩ := bd
      have aDL : (upd H20 DL (.lst [u1, u2])) DL = some (.lst [u1, u2]) := upd_same
      generalize upd H20 DL (.lst [u1, u2]) = H21 at *
      have in5 : ∀ a, Own S1 a ∨ Own S2 a ∨ a = d1 ∨ a = d2 → Own S1 a ∨ Own S2 a ∨ a = d1 ∨ a = d2 ∨ a = b2 := fun a h => h.elim .inl fun h => .inr (h.elim .inl fun h => .inr (h.elim .inl fun h => .inr (.inl h)))
      obtain ⟨nb1, nb2, nb3, nb4⟩ := s18.td.nb B18
      have B21 : Bag H21 b2 _ := bagCh B18 nt.ch fun z => z.elim nb1 fun z => z.elim nb2 fun z => z.elim nb3 nb4
      have s21 := s18.next B18 nt.ch in5 nt.w1 nt.w2 nt.td
      have sc21 := sc18.next s18.td.i1 s18.td.i2 nt.ch in5 ab nt.w1 nt.w2
      dsimp only [List.set]
      refine run_ifE ⟨_, rfl, DL, _, 0, _, rfl, rfl, SqL.of aDL, atI_nat (j := 0) rfl, (by show 1 ≤ sizeLine; decide), fun F1 hF1 => ?_⟩
      have SF1 := Sm.new (o := .lst [u1]) hF1
      refine ⟨_, rfl, DL, _, 1, _, rfl, rfl, SqL.of (SF1 _ _ aDL), atI_nat (j := 1) rfl, (by show 1 ≤ sizeLine; decide), fun F2 hF2 => ?_⟩
      have SF2 := Sm.new (o := .lst [u2]) hF2
      refine ⟨_, _, .lst [dd], rfl, is_one (SF2 _ _ upd_same) (is1.sm (SF1.trans SF2)), is_one upd_same (is2.sm (SF1.trans SF2)), okD_one (okD_succ okd), fun H22 S22 => ⟨_, rfl, iteF (run_next (hnx _ _ ?_))⟩⟩
      have S122 := SF1.trans (SF2.trans S22)
      exact ⟨b2, _, w1, w2, o3, S3, S4, k + 7, L3, _, _, _, _, _, _, _, _, rfl, (Go.same (b := b2) S122).bag _ B21, by omega, ab, s21.sm S122, sc21.sm S122, by omega, by omega⟩
    · obtain ⟨b, n, v1, v2, o, S1, S2, k, L, z6, z7, z8, z9, z10, z11, z12, z13, rfl, B1, n1, ab, s, sc, hk, hL⟩ := hp
      have goSc : ∀ {S1 S2 : Sh} {H H' : Hp} {m : Nat} {C1 C2 e1 e2 : Addr} {f1 f2 : List (Str × V)}, ScrT K H a xs S1 S2 → H d1 = some (.ins C1 e1 f1) → H d2 = some (.ins C2 e2 f2) → Go b m H H' → ScrT K H' a xs S1 S2 := fun sc i1 i2 G => sc.next i1 i2 (Ch.go (W := fun a => a = b) G rfl) (fun a h => .inr (.inr (.inr (.inr h)))) ab (fun _ h => .inl h) (fun _ h => .inl h)
      refine run_set ⟨_, rfl, DS, _, 0, _, rfl, rfl, SqL.of s.ds, atI_nat (j := 0) rfl, d1, _, _, rfl, s.td.i1, rfl, d1, y1, a1, v1, rfl, s.td.i1, ?_⟩
      dsimp only [List.set]
      -- what is refused
      refine run_for ?_
      refine draw_here (i := 1) (many := 3) (by rfl) B1 (by unfold LIM; omega) (by decide) (by decide) fun r H2 r0 r1 G2 => ?_
      obtain ⟨c, ec⟩ : ∃ c : Nat, 1 + r = (c : Int) := ⟨(1 + r).toNat, by omega⟩
      refine ⟨1, r, rfl, rfl, (c : Int), by show [V.int (1 + r)] = _; rw [ec], by omega, by omega, ?_⟩
      have B2 := G2.bag _ B1
      have s2 := s.go B1 G2
      have sc2 := goSc sc s.td.i1 s.td.i2 G2
      clear s sc
      refine for_range (lo := 0) (n := c) (fun i σ H' => ∃ n z7, σ = [some (.ref a), some (.ref b), some (.ref p), some (.ref AS), some (.ref DS), some (.int (j : Int)), some v1, z7, z8, z9, z10, z11, z12, z13] ∧ Bag H' b n ∧ n ≤ 3001 + 301 * i ∧ SitT K cs H' p AS DS d1 d2 y1 y2 a1 a2 nms ks v1 v2 o S1 S2 k L ∧ ScrT K H' a xs S1 S2)
        ⟨_, _, rfl, B2, by omega, s2, sc2⟩ (fun i σ H3 hi hp => ?_) fun σ H3 hp => ?_
      · obtain ⟨n3, z7, rfl, B3, hn3, s3, sc3⟩ := hp
        dsimp only [List.set]
        refine run_ifE ⟨_, rfl, _, rfl, DS, _, 0, _, rfl, rfl, SqL.of s3.ds, atI_nat (j := 0) rfl, _, rfl, b, d1, p, y1, a1, n3, v1, o, S1, k, nms, ks, rfl, B3, by unfold LIM; omega, s3.pool, PO, (s3.bag B3).2.2, ⟨s3.td.i1, s3.td.l1, s3.td.duo.a1, s3.td.tg⟩, fun H4 G4 => ⟨_, rfl, iteF ?_⟩⟩
        have B4 := G4.bag _ B3
        have s4 := s3.go B3 G4
        have sc4 := goSc sc3 s3.td.i1 s3.td.i2 G4
        refine ⟨_, rfl, DS, _, 0, _, rfl, rfl, SqL.of s4.ds, atI_nat (j := 0) rfl, d1, _, _, rfl, s4.td.i1, rfl, d1, y1, a1, v1, rfl, s4.td.i1, (by show 1 ≤ sizeLine; decide), fun F1 hF1 => ?_⟩
        have SF1 := Sm.new (o := .lst [v1]) hF1
        refine ⟨_, rfl, (by show 1 ≤ sizeLine; decide), fun F2 hF2 => ?_⟩
        have SF2 := Sm.new (o := .lst [v1]) hF2
        have S12 := SF1.trans SF2
        refine ⟨_, _, .lst [dO o], rfl, is_one (SF2 _ _ upd_same) (is_last (s4.td.l1.sm S12)), is_one upd_same (is_last (s4.td.l1.sm S12)), okD_one (okD_succ (okD_O o)), fun H5 S5 => ⟨_, rfl, iteF (run_next ?_)⟩⟩
        have S15 := S12.trans S5
        exact ⟨_, _, rfl, (Go.same (b := b) S15).bag _ B4, by omega, s4.sm S15, sc4.sm S15⟩
      · obtain ⟨n3, z7, rfl, B3, hn3, s3, sc3⟩ := hp
        dsimp only
        -- all is as it was
        refine run_ifE ⟨_, rfl, DS, _, 1, _, rfl, rfl, SqL.of s3.ds, atI_nat (j := 1) rfl, d2, _, _, rfl, s3.td.i2, rfl, d2, y2, a2, v2, rfl, s3.td.i2, ?_⟩
        refine ⟨_, rfl, AS, _, 0, _, rfl, rfl, SqL.of s3.as, atI_nat (j := 0) rfl, a1, S1, k, rfl, s3.td.duo.a1, s3.td.tg, s3.td.duo.all (by omega), fun w1 H4 S4 i4 => ⟨(by show 2 ≤ sizeLine; decide), fun F1 hF1 => ?_⟩⟩
        have SF1 := Sm.new (o := .lst [v2, w1]) hF1
        have s5 := s3.sm (S4.trans SF1)
        have eF1 : (upd H4 F1 (.lst [v2, w1])) F1 = some (.lst [v2, w1]) := upd_same
        have i5 := i4.sm SF1
        generalize upd H4 F1 (.lst [v2, w1]) = H5 at *
        have ok2 : AllOk S2 := by
          have o1 := s5.td.duo.all (by omega)
          have al := s5.td.duo.al
          exact ⟨fun nm h => o1.nm nm (by rw [al.names]; exact h), fun nm => by rw [← al.rows nm []]; exact o1.len nm, by rw [← al.names]; exact o1.few, fun nm x h => o1.ok nm x (by rw [al.rows nm []]; exact h)⟩
        refine ⟨_, rfl, _, rfl, AS, _, 1, _, rfl, rfl, SqL.of s5.as, atI_nat (j := 1) rfl, a2, S2, k, rfl, s5.td.duo.a2, s5.td.tg, ok2, fun w2 H6 S6 i6 => ⟨(by show 2 ≤ sizeLine; decide), fun F2 hF2 => ?_⟩⟩
        have SF2 := Sm.new (o := .lst [v1, w2]) hF2
        rw [← dAll_alike s5.td.duo.al] at i6
        have s7 := s5.sm (S6.trans SF2)
        refine ⟨_, _, .lst [dO o, dAll S1], rfl, is_two ((S6.trans SF2) _ _ eF1) (is_last s7.td.l2) (i5.sm (S6.trans SF2)), is_two upd_same (is_last s7.td.l1) (i6.sm SF2), okD_two (okD_succ (okD_O o)) (ok_dAll S1), fun H8 S8 => ⟨_, rfl, iteF (run_next ?_)⟩⟩
        have S38 := (S4.trans SF1).trans ((S6.trans SF2).trans S8)
        exact ⟨b, _, v1, v2, o, S1, S2, k, L, _, _, _, _, _, _, _, _, _, rfl, (Go.same (b := b) S38).bag _ B3, fun e => by omega, ab, s7.sm S8, sc3.sm S38, by omega, by omega⟩
  · dsimp only
    refine run_ret ?_
    exact q H11
end
open PyProof.Rows
def names0 : List Str := ["__name__", "StemError", "NoRef", "NoWorth", "Within", "TooDeep", "NoHead", "NoJob", "Waiting", "NoLock", "Held", "NoDealing", "Erring", "NoProgram", "NoLabel", "TooLong", "NoText", "MOST_KEYS", "_LONGEST_KEY", "_LONGEST_NAME", "_FIGURES", "_PERCENT", "is_worth", "number_of", "_number_of_figures"]
def names1 : List Str := ["is_number_text", "is_key", "key_rank", "before", "is_name", "is_row", "is_asking_row", "is_pair", "is_reference", "is_asking_reference", "is_stem", "meet", "need_reference", "need_asking_reference", "need_worth", "_how_many_ahead", "Tree", "Arrays", "Desk", "long", "_is_short", "_path", "_reference", "_law_cell_at", "_law_bag"]
def names2 : List Str := ["_law_take", "_law_key", "_law_pool", "_law_ref", "_law_worth", "_law_same", "_law_word", "_law_door", "_law_tried", "_law_long_word", "_law_due", "_law_bad", "_law_refused", "_law_all"]
def names : List Str := names0 ++ names1 ++ names2
def d1 : He.DefD := ⟨("is_worth", none), "is_worth", "is_worth", defArgs sIsWorth, defBody sIsWorth, defScope sIsWorth, [], []⟩
def d2 : He.DefD := ⟨("number_of", none), "number_of", "number_of", defArgs sNumberOf, defBody sNumberOf, defScope sNumberOf, [], []⟩
def d3 : He.DefD := ⟨("_number_of_figures", none), "_number_of_figures", "_number_of_figures", defArgs sNumberOfFigures, defBody sNumberOfFigures, defScope sNumberOfFigures, [], []⟩
def d4 : He.DefD := ⟨("is_number_text", none), "is_number_text", "is_number_text", defArgs sIsNumberText, defBody sIsNumberText, defScope sIsNumberText, [], []⟩
def d5 : He.DefD := ⟨("is_key", none), "is_key", "is_key", defArgs sIsKey, defBody sIsKey, defScope sIsKey, [], []⟩
def d6 : He.DefD := ⟨("key_rank", none), "key_rank", "key_rank", defArgs sKeyRank, defBody sKeyRank, defScope sKeyRank, [], []⟩
def d7 : He.DefD := ⟨("before", none), "before", "before", defArgs sBefore, defBody sBefore, defScope sBefore, [], []⟩
def d8 : He.DefD := ⟨("is_name", none), "is_name", "is_name", defArgs sIsName, defBody sIsName, defScope sIsName, [], []⟩
def d9 : He.DefD := ⟨("is_row", none), "is_row", "is_row", defArgs sIsRow, defBody sIsRow, defScope sIsRow, [], []⟩
def d10 : He.DefD := ⟨("is_asking_row", none), "is_asking_row", "is_asking_row", defArgs sIsAskingRow, defBody sIsAskingRow, defScope sIsAskingRow, [], []⟩
def d11 : He.DefD := ⟨("is_pair", none), "is_pair", "is_pair", defArgs sIsPair, defBody sIsPair, defScope sIsPair, [], []⟩
def d12 : He.DefD := ⟨("is_reference", none), "is_reference", "is_reference", defArgs sIsReference, defBody sIsReference, defScope sIsReference, [], []⟩
def d13 : He.DefD := ⟨("is_asking_reference", none), "is_asking_reference", "is_asking_reference", defArgs sIsAskingReference, defBody sIsAskingReference, defScope sIsAskingReference, [], []⟩
def d14 : He.DefD := ⟨("need_reference", none), "need_reference", "need_reference", defArgs sNeedReference, defBody sNeedReference, defScope sNeedReference, [], []⟩
def d15 : He.DefD := ⟨("need_asking_reference", none), "need_asking_reference", "need_asking_reference", defArgs sNeedAskingReference, defBody sNeedAskingReference, defScope sNeedAskingReference, [], []⟩
def d16 : He.DefD := ⟨("need_worth", none), "need_worth", "need_worth", defArgs sNeedWorth, defBody sNeedWorth, defScope sNeedWorth, [], []⟩
def d17 : He.DefD := ⟨("_how_many_ahead", none), "_how_many_ahead", "_how_many_ahead", defArgs sHowManyAhead, defBody sHowManyAhead, defScope sHowManyAhead, [], []⟩
def d18 : He.DefD := ⟨("Tree", some "__init__"), "__init__", "Tree.__init__", defArgs sTreeInit, defBody sTreeInit, defScope sTreeInit, [], []⟩
def d19 : He.DefD := ⟨("Tree", some "at"), "at", "Tree.at", defArgs sTreeAt, defBody sTreeAt, defScope sTreeAt, [], []⟩
def d20 : He.DefD := ⟨("Tree", some "plant"), "plant", "Tree.plant", defArgs sTreePlant, defBody sTreePlant, defScope sTreePlant, [], []⟩
def d21 : He.DefD := ⟨("Tree", some "_made"), "_made", "Tree._made", defArgs sTreeMade, defBody sTreeMade, defScope sTreeMade, [], []⟩
def d22 : He.DefD := ⟨("Tree", some "cut"), "cut", "Tree.cut", defArgs sTreeCut, defBody sTreeCut, defScope sTreeCut, [], []⟩
def d23 : He.DefD := ⟨("Tree", some "next_key"), "next_key", "Tree.next_key", defArgs sTreeNextKey, defBody sTreeNextKey, defScope sTreeNextKey, [], []⟩
def d24 : He.DefD := ⟨("Tree", some "walked"), "walked", "Tree.walked", defArgs sTreeWalked, defBody sTreeWalked, defScope sTreeWalked, [], []⟩
def d25 : He.DefD := ⟨("Tree", some "path_behind"), "path_behind", "Tree.path_behind", defArgs sTreePathBehind, defBody sTreePathBehind, defScope sTreePathBehind, [], []⟩
def d26 : He.DefD := ⟨("Tree", some "path_ahead"), "path_ahead", "Tree.path_ahead", defArgs sTreePathAhead, defBody sTreePathAhead, defScope sTreePathAhead, [], []⟩
def d27 : He.DefD := ⟨("Tree", some "_first_path"), "_first_path", "Tree._first_path", defArgs sTreeFirstPath, defBody sTreeFirstPath, defScope sTreeFirstPath, [], []⟩
def d28 : He.DefD := ⟨("Tree", some "_last_path"), "_last_path", "Tree._last_path", defArgs sTreeLastPath, defBody sTreeLastPath, defScope sTreeLastPath, [], []⟩
def d29 : He.DefD := ⟨("Arrays", some "__init__"), "__init__", "Arrays.__init__", defArgs sArraysInit, defBody sArraysInit, defScope sArraysInit, [], []⟩
def d30 : He.DefD := ⟨("Arrays", some "put"), "put", "Arrays.put", defArgs sArraysPut, defBody sArraysPut, defScope sArraysPut, [], []⟩
def d31 : He.DefD := ⟨("Arrays", some "read"), "read", "Arrays.read", defArgs sArraysRead, defBody sArraysRead, defScope sArraysRead, [], [("otherwise", .str "")]⟩
def d32 : He.DefD := ⟨("Arrays", some "data"), "data", "Arrays.data", defArgs sArraysData, defBody sArraysData, defScope sArraysData, [], []⟩
def d33 : He.DefD := ⟨("Arrays", some "kill"), "kill", "Arrays.kill", defArgs sArraysKill, defBody sArraysKill, defScope sArraysKill, [], []⟩
def d34 : He.DefD := ⟨("Arrays", some "names"), "names", "Arrays.names", defArgs sArraysNames, defBody sArraysNames, defScope sArraysNames, [], []⟩
def d35 : He.DefD := ⟨("Arrays", some "count"), "count", "Arrays.count", defArgs sArraysCount, defBody sArraysCount, defScope sArraysCount, [], []⟩
def d36 : He.DefD := ⟨("Arrays", some "order"), "order", "Arrays.order", defArgs sArraysOrder, defBody sArraysOrder, defScope sArraysOrder, [], [("back", .bl false)]⟩
def d37 : He.DefD := ⟨("Arrays", some "following"), "following", "Arrays.following", defArgs sArraysFollowing, defBody sArraysFollowing, defScope sArraysFollowing, [], [("back", .bl false)]⟩
def d38 : He.DefD := ⟨("Arrays", some "rows"), "rows", "Arrays.rows", defArgs sArraysRows, defBody sArraysRows, defScope sArraysRows, [], []⟩
def d39 : He.DefD := ⟨("Arrays", some "uproot"), "uproot", "Arrays.uproot", defArgs sArraysUproot, defBody sArraysUproot, defScope sArraysUproot, [], []⟩
def d40 : He.DefD := ⟨("Desk", some "__init__"), "__init__", "Desk.__init__", defArgs sDeskInit, defBody sDeskInit, defScope sDeskInit, [], []⟩
def d41 : He.DefD := ⟨("Desk", some "put"), "put", "Desk.put", defArgs sDeskPut, defBody sDeskPut, defScope sDeskPut, [], []⟩
def d42 : He.DefD := ⟨("Desk", some "read"), "read", "Desk.read", defArgs sDeskRead, defBody sDeskRead, defScope sDeskRead, [], [("otherwise", .str "")]⟩
def d43 : He.DefD := ⟨("Desk", some "data"), "data", "Desk.data", defArgs sDeskData, defBody sDeskData, defScope sDeskData, [], []⟩
def d44 : He.DefD := ⟨("Desk", some "kill"), "kill", "Desk.kill", defArgs sDeskKill, defBody sDeskKill, defScope sDeskKill, [], []⟩
def d45 : He.DefD := ⟨("Desk", some "order"), "order", "Desk.order", defArgs sDeskOrder, defBody sDeskOrder, defScope sDeskOrder, [], [("back", .bl false)]⟩
def d46 : He.DefD := ⟨("Desk", some "following"), "following", "Desk.following", defArgs sDeskFollowing, defBody sDeskFollowing, defScope sDeskFollowing, [], [("back", .bl false)]⟩
def d47 : He.DefD := ⟨("Desk", some "last"), "last", "Desk.last", defArgs sDeskLast, defBody sDeskLast, defScope sDeskLast, [], []⟩
def d48 : He.DefD := ⟨("Desk", some "_meant"), "_meant", "Desk._meant", defArgs sDeskMeant, defBody sDeskMeant, defScope sDeskMeant, [], []⟩
def d49 : He.DefD := ⟨("Desk", some "_meant_asking"), "_meant_asking", "Desk._meant_asking", defArgs sDeskMeantAsking, defBody sDeskMeantAsking, defScope sDeskMeantAsking, [], []⟩
def d50 : He.DefD := ⟨("Desk", some "_remember"), "_remember", "Desk._remember", defArgs sDeskRemember, defBody sDeskRemember, defScope sDeskRemember, [], []⟩
def d51 : He.DefD := ⟨("long", none), "long", "long", defArgs sLong, defBody sLong, defScope sLong, [], []⟩
def d52 : He.DefD := ⟨("_is_short", none), "_is_short", "_is_short", defArgs sIsShort, defBody sIsShort, defScope sIsShort, [], []⟩
def d53 : He.DefD := ⟨("_path", none), "_path", "_path", defArgs sPath, defBody sPath, defScope sPath, [], []⟩
def d54 : He.DefD := ⟨("_reference", none), "_reference", "_reference", defArgs sReference, defBody sReference, defScope sReference, [], []⟩
def d55 : He.DefD := ⟨("_law_cell_at", none), "_law_cell_at", "_law_cell_at", defArgs sLawCellAt, defBody sLawCellAt, defScope sLawCellAt, [], []⟩
def d56 : He.DefD := ⟨("_law_bag", none), "_law_bag", "_law_bag", defArgs sLawBag, defBody sLawBag, defScope sLawBag, [], []⟩
def d57 : He.DefD := ⟨("_law_take", none), "_law_take", "_law_take", defArgs sLawTake, defBody sLawTake, defScope sLawTake, [], []⟩
def d58 : He.DefD := ⟨("_law_key", none), "_law_key", "_law_key", defArgs sLawKey, defBody sLawKey, defScope sLawKey, [], []⟩
def d59 : He.DefD := ⟨("_law_pool", none), "_law_pool", "_law_pool", defArgs sLawPool, defBody sLawPool, defScope sLawPool, [], []⟩
def d60 : He.DefD := ⟨("_law_ref", none), "_law_ref", "_law_ref", defArgs sLawRef, defBody sLawRef, defScope sLawRef, [], []⟩
def d61 : He.DefD := ⟨("_law_worth", none), "_law_worth", "_law_worth", defArgs sLawWorth, defBody sLawWorth, defScope sLawWorth, [], []⟩
def d62 : He.DefD := ⟨("_law_same", none), "_law_same", "_law_same", defArgs sLawSame, defBody sLawSame, defScope sLawSame, [], []⟩
def d63 : He.DefD := ⟨("_law_word", none), "_law_word", "_law_word", defArgs sLawWord, defBody sLawWord, defScope sLawWord, [], []⟩
def d64 : He.DefD := ⟨("_law_door", none), "_law_door", "_law_door", defArgs sLawDoor, defBody sLawDoor, defScope sLawDoor, [], []⟩
def d65 : He.DefD := ⟨("_law_tried", none), "_law_tried", "_law_tried", defArgs sLawTried, defBody sLawTried, defScope sLawTried, [], []⟩
def d66 : He.DefD := ⟨("_law_long_word", none), "_law_long_word", "_law_long_word", defArgs sLawLongWord, defBody sLawLongWord, defScope sLawLongWord, [], []⟩
def d67 : He.DefD := ⟨("_law_due", none), "_law_due", "_law_due", defArgs sLawDue, defBody sLawDue, defScope sLawDue, [], []⟩
def d68 : He.DefD := ⟨("_law_bad", none), "_law_bad", "_law_bad", defArgs sLawBad, defBody sLawBad, defScope sLawBad, [], []⟩
def d69 : He.DefD := ⟨("_law_refused", none), "_law_refused", "_law_refused", defArgs sLawRefused, defBody sLawRefused, defScope sLawRefused, [], []⟩
def d70 : He.DefD := ⟨("_law_all", none), "_law_all", "_law_all", defArgs sLawAll, defBody sLawAll, defScope sLawAll, [], []⟩
def d71 : He.DefD := ⟨("law", none), "law", "law", defArgs sLaw, defBody sLaw, defScope sLaw, [], []⟩
def fnl : List He.DefD := [d1, d2, d3, d4, d5, d6, d7, d8, d9, d10, d11, d12, d13, d14, d15, d16, d17, d18, d19, d20, d21, d22, d23, d24, d25, d26, d27, d28, d29, d30, d31, d32, d33, d34, d35, d36, d37, d38, d39, d40, d41, d42, d43, d44, d45, d46, d47, d48, d49, d50, d51, d52, d53, d54, d55, d56, d57, d58, d59, d60, d61, d62, d63, d64, d65, d66, d67, d68, d69, d70, d71]
def fal : List He.Fa := [.cls "Tree", .noat "Tree" "worth", .noat "Tree" "row", .noat "Tree" "beneath", .cls "Arrays", .noat "Arrays" "_tree", .cls "Desk", .noat "Desk" "_arrays", .noat "Desk" "_last", .glo "is_worth", .glo "number_of", .glo "_number_of_figures", .glo "is_number_text", .glo "is_key", .glo "key_rank", .glo "before", .glo "is_name", .glo "is_row", .glo "is_asking_row", .glo "is_pair", .glo "is_reference", .glo "is_asking_reference", .glo "need_reference", .glo "need_asking_reference", .glo "need_worth", .glo "_how_many_ahead", .mkr "Tree", .glo "Tree", .meth "Tree" "at", .meth "Tree" "plant", .meth "Tree" "_made", .meth "Tree" "cut", .meth "Tree" "next_key", .meth "Tree" "walked", .meth "Tree" "path_behind", .meth "Tree" "path_ahead", .meth "Tree" "_first_path", .meth "Tree" "_last_path", .mkr "Arrays", .glo "Arrays", .meth "Arrays" "put", .meth "Arrays" "read", .meth "Arrays" "data", .meth "Arrays" "kill", .meth "Arrays" "names", .meth "Arrays" "count", .meth "Arrays" "order", .meth "Arrays" "following", .meth "Arrays" "rows", .meth "Arrays" "uproot", .mkr "Desk", .glo "Desk", .meth "Desk" "put", .meth "Desk" "read", .meth "Desk" "data", .meth "Desk" "kill", .meth "Desk" "order", .meth "Desk" "following", .meth "Desk" "last", .meth "Desk" "_meant", .meth "Desk" "_meant_asking", .meth "Desk" "_remember", .glo "long", .glo "_is_short", .glo "_path", .glo "_reference", .glo "_law_cell_at", .glo "_law_bag", .glo "_law_take", .glo "_law_key", .glo "_law_pool", .glo "_law_ref", .glo "_law_worth", .glo "_law_same", .glo "_law_word", .glo "_law_door", .glo "_law_tried", .glo "_law_long_word", .glo "_law_due", .glo "_law_bad", .glo "_law_refused", .glo "_law_all", .glo "law", .glo "StemError", .glo "NoRef", .glo "NoWorth", .glo "Within", .glo "TooDeep", .glo "NoHead", .glo "NoJob", .glo "Waiting", .glo "NoLock", .glo "Held", .glo "NoDealing", .glo "Erring", .glo "NoProgram", .glo "NoLabel", .glo "TooLong", .glo "NoText", .free "isinstance", .free "str", .free "all", .free "ord", .free "len", .free "int", .free "range", .free "tuple", .free "list", .free "max", .free "bool", .free "ValueError", .free "min", .int "_PERCENT" 37, .str "_FIGURES" "0123456789", .int "_LONGEST_KEY" 40, .int "_LONGEST_NAME" 8, .int "MOST_KEYS" 6]
def tfl : List He.Defn := [("is_worth", none), ("is_number_text", none), ("is_name", none), ("is_row", none)]
def clsl : List Str := ["Tree", "Arrays", "Desk"]
def bound : List (Str × Option Str) := []
def exB (K : PySem.W.Frag) : Bool := (bound.all fun p => He.eqO (PySem.W.specialIn K (.ref (He.fAd K p)) "__get__") (some (some (.builtin "function.__get__"))) && (decide (PySem.W.takesIn K (.ref (He.fAd K p)) = some false) && PySem.W.fnIn K (He.fAd K p))) && (decide (bound.map (He.fAd K)).Nodup && decide (clsl.map (He.ga K)).Nodup) && errsB K RAISED ALLE
theorem saysA_of {as : List Addr} {fa : List He.Fa} {fn : List He.DefD} {tf : List He.Defn} {ex : PySem.W.Frag → Bool} {w : World} {h : Heap} {K : PySem.W.Frag} (eK : K = He.frT h.get? as) (e : (He.obsT fa fn [] K, ex K && He.tabsB h.get? tf K) = He.valX fn [] w) : He.SaysX fa fn [] tf ex w h K := by
  have e2 : (ex K && He.tabsB h.get? tf K) = true := congrArg Prod.snd e
  obtain ⟨g1, g2⟩ := He.ba e2
  have key : ∀ p ∈ tf, PySem.W.codeHdIn K (He.cT K p).1 (He.cT K p).2 = true ∧ ∃ o, h.get? (He.cT K p).2 = some o ∧ He.emptyTab o = true := fun p hp => by
    obtain ⟨q1, q2⟩ := He.ba (List.all_eq_true.mp g2 p hp)
    refine ⟨q1, ?_⟩
    cases q : h.get? (He.cT K p).2 with
    | none => rw [q] at q2; cases q2
    | some o => rw [q] at q2; exact ⟨o, rfl, q2⟩
  refine ⟨congrArg Prod.fst e, g1, fun p hp => (key p hp).1, fun p hp => ?_, fun p hp => ?_⟩
  · obtain ⟨_, o, q, z⟩ := key p hp
    have nn := He.frT_none (as := as) q z
    rw [← eK] at nn
    exact nn
  · obtain ⟨_, o, q, z⟩ := key p hp
    rw [q, He.emptyTab_eq z]
def obsA (as : List Addr) (fa : List He.Fa) (fn : List He.DefD) (tf : List He.Defn) (ex : PySem.W.Frag → Bool) (g : Addr → Option Obj) : He.AlX := (He.obsT fa fn [] (He.frT g as), ex (He.frT g as) && He.tabsB g tf (He.frT g as))
def hookA (as : List Addr) (fa : List He.Fa) (fn : List He.DefD) (tf : List He.Defn) (ex : PySem.W.Frag → Bool) : PySem.W.Hook :=
  { α := He.AlX, obs := fun s => obsA as fa fn tf ex s.heap.get?, val := fun w => He.valX fn [] w, says := fun w h => ∃ K : PySem.W.Frag, K.In h ∧ He.SaysX fa fn [] tf ex w h K
    of := fun _ _ e => ⟨_, He.frT_in, saysA_of rfl e⟩
    keeps := fun _ _ _ x k => (match x with | ⟨K, hK, c⟩ => ⟨K, PySem.W.Frag.In.keeps hK k, c.t, c.more, c.hd, c.out, fun p hp => k _ _ (c.empty p hp)⟩) }
theorem obsA_eq {as : List Addr} {fa : List He.Fa} {fn : List He.DefD} {tf : List He.Defn} {ex : PySem.W.Frag → Bool} {g : Addr → Option Obj} {s : Shared} (h : ∀ a, g a = s.heap.get? a) : obsA as fa fn tf ex g = (hookA as fa fn tf ex).obs s := by
  rw [show g = s.heap.get? from funext h] <;> rfl
theorem more_of {K : PySem.W.Frag} (m : exB K = true) (p : Str × Option Str) (h : p ∈ bound) : PySem.W.specialIn K (.ref (He.fAd K p)) "__get__" = some (some (.builtin "function.__get__")) ∧ PySem.W.takesIn K (.ref (He.fAd K p)) = some false ∧ PySem.W.fnIn K (He.fAd K p) = true := by
  have h1 := List.all_eq_true.mp (Bool.and_eq_true_iff.mp (Bool.and_eq_true_iff.mp m).1).1 p h
  obtain ⟨a, b⟩ := Bool.and_eq_true_iff.mp h1
  obtain ⟨b, c⟩ := Bool.and_eq_true_iff.mp b
  exact ⟨He.eqO_ok a, of_decide_eq_true b, c⟩
theorem nd_of {K : PySem.W.Frag} (m : exB K = true) : (bound.map (He.fAd K)).Nodup := of_decide_eq_true (Bool.and_eq_true_iff.mp (Bool.and_eq_true_iff.mp (Bool.and_eq_true_iff.mp m).1).2).1
theorem nc_of {K : PySem.W.Frag} (m : exB K = true) : (clsl.map (He.ga K)).Nodup := of_decide_eq_true (Bool.and_eq_true_iff.mp (Bool.and_eq_true_iff.mp (Bool.and_eq_true_iff.mp m).1).2).2
theorem bm_of {K : PySem.W.Frag} {C f : Addr} {m : Str} (M : Meth K C m f) (cp : PySem.W.copiedNames.contains m = false) (h : PySem.W.specialIn K (.ref f) "__get__" = some (some (.builtin "function.__get__")) ∧ PySem.W.takesIn K (.ref f) = some false ∧ PySem.W.fnIn K f = true) : BMeth K C m f := ⟨M, h.1, h.2.1, cp, h.2.2⟩
theorem fun_of {K : PySem.W.Frag} {x q : Str} {st : Stmt} {f : Addr} {fd : FuncData} (F : FunD K x q (defArgs st) (defBody st) (defScope st) [] [] f fd) : Fun K x q st f fd := by
  obtain ⟨⟨oc, od, dV, kV, doc, pm, an, cdv, ct, osl, e, lk, hc, hD, _⟩, kp⟩ := F
  rcases hD with ⟨_, rfl⟩ | ⟨h, _⟩
  · exact ⟨⟨oc, od, kV, doc, pm, an, cdv, ct, osl, e, lk, hc⟩, kp⟩
  · exact absurd rfl h
theorem gi {mg : Str → Option Value} {x : Str} {i : Int} (h : ∃ t, mg x = some (.int i t)) : ∃ u, mg x = some u ∧ RelV (.int i) u := by
  obtain ⟨t, e⟩ := h
  exact ⟨_, e, t, rfl⟩
theorem gs {mg : Str → Option Value} {x z : Str} (h : ∃ t, mg x = some (.str z t)) : ∃ u, mg x = some u ∧ RelV (.str z) u := by
  obtain ⟨t, e⟩ := h
  exact ⟨_, e, t, rfl⟩
theorem code_ref {K : PySem.W.Frag} {p : He.Defn} {fd : FuncData} {oc : Value} {od : Option Addr} {osl : Array (Option Value)} (lk : K.lookup (He.fAd K p) = some ⟨oc, od, .func fd, osl⟩) (h : PySem.W.codeHdIn K (He.cT K p).1 (He.cT K p).2 = true) (hc : ∃ q, PySem.W.codeIn K fd.code q = true) : fd.code = .ref (He.cT K p).1 := by
  obtain ⟨q, hc⟩ := hc
  have e : He.codeOf K p = (match fd.code with | .ref c => c | _ => 0) := by
    unfold He.codeOf
    rw [lk]
    rfl
  cases z : fd.code with
  | ref c =>
    show Value.ref c = Value.ref (He.codeOf K p)
    rw [e, z]
  | _ =>
    rw [z] at hc
    cases hc
theorem ftc_of {K : PySem.W.Frag} {mg : Str → Option Value} {x : Str} {st : Stmt} {ps : List Str} {fd : FuncData} (D : FunD K x x (defArgs st) (defBody st) (defScope st) [] [] (He.fAd K (x, none)) fd) (h : PySem.W.codeHdIn K (He.cT K (x, none)).1 (He.cT K (x, none)).2 = true) (g : mg x = some (.ref (He.fAd K (x, none)))) (b : Binds K fd ps []) : Ftc K mg x st ps (He.cT K (x, none)).1 := by
  obtain ⟨⟨oc, od, dV, kV, doc, pm, an, cdv, ct, osl, e, lk, hc, hD, _⟩, kp⟩ := D
  have hcr := code_ref lk h ⟨x, by rw [e]; exact hc⟩
  rcases hD with ⟨_, rfl⟩ | ⟨z, _⟩
  · subst e
    have e2 : cdv = .ref (He.cT K (x, none)).1 := hcr
    subst e2
    exact ⟨_, oc, od, kV, doc, pm, an, ct, osl, lk, hc, kp, g, b⟩
  · exact absurd rfl z

theorem er_of {K : PySem.W.Frag} (m : exB K = true) : (∀ D ∈ RAISED, ErrC K (He.ga K D)) ∧ (∀ D ∈ RAISED, ∀ C ∈ ALLE, PySem.W.kitOne K (.ref (He.ga K D)) (.ref (He.ga K C)) = some (decide (D = C) || decide (C = "StemError"))) ∧ ∀ D ∈ RAISED, ∀ C ∈ ALLE, PySem.W.exmOne K (.ref (He.ga K D)) (.ref (He.ga K C)) = some (decide (D = C) || decide (C = "StemError")) := errsB_ok (Bool.and_eq_true_iff.mp m).2
def adr : List Addr := [3, 24, 37, 49, 61, 73, 85, 97, 116, 128, 147, 159, 178, 190, 209, 228, 240, 249, 256, 263, 270, 277, 284, 291, 298, 305, 312, 319, 326, 333, 354, 361, 368, 375, 476, 589, 683, 694, 701, 708, 715, 722, 729, 736, 741, 746, 751, 758, 763, 768, 775, 782, 789, 796, 801, 806, 813, 818, 23, 36, 48, 72, 84, 248, 255, 262, 269, 276, 283, 290, 297, 304, 311, 318, 325, 332, 353, 360, 367, 374, 475, 588, 682, 693, 700, 707, 714, 721, 728, 735, 740, 745, 750, 757, 762, 767, 774, 781, 788, 795, 800, 805, 812, 817, 389, 396, 403, 417, 431, 438, 445, 452, 459, 466, 473, 494, 501, 509, 516, 523, 530, 537, 545, 553, 558, 572, 607, 614, 622, 629, 636, 644, 652, 659, 666, 673, 680, 388, 395, 402, 416, 430, 437, 444, 451, 458, 465, 472, 493, 500, 508, 502, 515, 522, 529, 536, 544, 538, 552, 546, 557, 571, 606, 613, 621, 615, 628, 635, 643, 637, 651, 645, 658, 665, 672, 679]
abbrev R : PySem.W.OpenRow := PySem.W.OpenLaw.row PySem.Challenge.rw_stemkeep_k15_short_refused
abbrev hk : PySem.W.Hook := hookA adr fal fnl tfl exB
def ob (s : PySem.W.SharedT) : He.AlX := obsA adr fal fnl tfl exB (HandSHeadRun.getT s)
theorem ob_eq (s : PySem.W.SharedT) : ob s = hk.obs s.abs := obsA_eq (HandSHeadRun.getT_eq s)
theorem run_false (w : World) : HandSHeadRun.RunEq R (PySem.W.view R.prog [69]) hk ob 20000 names (w.withFollow "special-get-raises" false) := by
  intro os
  kernel_rfl
theorem run_true (w : World) : HandSHeadRun.RunEq R (PySem.W.view R.prog [69]) hk ob 20000 names (w.withFollow "special-get-raises" true) := by
  intro os
  kernel_rfl
theorem run (w : World) : HandSHeadRun.RunEq R (PySem.W.view R.prog [69]) hk ob 20000 names w := PySem.W.byRow2 (P := fun w => HandSHeadRun.RunEq R (PySem.W.view R.prog [69]) hk ob 20000 names w) "special-get-raises" run_false run_true w
set_option maxHeartbeats 0 in
theorem facts {w1 : World} {K : PySem.W.Frag} {h : Heap} {mg : Str → Option Value} {f : Addr} (X : K.In h) (G : h.Ns mainGlobals mg) (hfa : mg ("law" : Str) = some (.ref f)) (s : He.SaysX fal fnl [] tfl exB w1 h K) (w : World) :
    LamX.LawAtS PySem.Challenge.rw_stemkeep_k15_short_refused w K CX0 15 63 "script" mg f h := by
  have c : He.SaysD fal fnl K := s.t.d
  have m := s.more
  obtain ⟨fd1, D1⟩ := c.def_ 0 (d := d1) rfl
  have F1 := fun_of (st := sIsWorth) D1
  have b1 := F1.binds (ps := ["thing"]) fun _ _ _ _ _ _ us hl => match us, hl with | [_], _ => rfl
  obtain ⟨fd2, D2⟩ := c.def_ 1 (d := d2) rfl
  have F2 := fun_of (st := sNumberOf) D2
  have b2 := F2.binds (ps := ["worth"]) fun _ _ _ _ _ _ us hl => match us, hl with | [_], _ => rfl
  obtain ⟨fd3, D3⟩ := c.def_ 2 (d := d3) rfl
  have F3 := fun_of (st := sNumberOfFigures) D3
  have b3 := F3.binds (ps := ["figures"]) fun _ _ _ _ _ _ us hl => match us, hl with | [_], _ => rfl
  obtain ⟨fd4, D4⟩ := c.def_ 3 (d := d4) rfl
  have F4 := fun_of (st := sIsNumberText) D4
  have b4 := F4.binds (ps := ["worth"]) fun _ _ _ _ _ _ us hl => match us, hl with | [_], _ => rfl
  obtain ⟨fd5, D5⟩ := c.def_ 4 (d := d5) rfl
  have F5 := fun_of (st := sIsKey) D5
  have b5 := F5.binds (ps := ["thing"]) fun _ _ _ _ _ _ us hl => match us, hl with | [_], _ => rfl
  obtain ⟨fd6, D6⟩ := c.def_ 5 (d := d6) rfl
  have F6 := fun_of (st := sKeyRank) D6
  have b6 := F6.binds (ps := ["key"]) fun _ _ _ _ _ _ us hl => match us, hl with | [_], _ => rfl
  obtain ⟨fd7, D7⟩ := c.def_ 6 (d := d7) rfl
  have F7 := fun_of (st := sBefore) D7
  have b7 := F7.binds (ps := ["one", "other"]) fun _ _ _ _ _ _ us hl => match us, hl with | [_, _], _ => rfl
  obtain ⟨fd8, D8⟩ := c.def_ 7 (d := d8) rfl
  have F8 := fun_of (st := sIsName) D8
  have b8 := F8.binds (ps := ["thing"]) fun _ _ _ _ _ _ us hl => match us, hl with | [_], _ => rfl
  obtain ⟨fd9, D9⟩ := c.def_ 8 (d := d9) rfl
  have F9 := fun_of (st := sIsRow) D9
  have b9 := F9.binds (ps := ["thing"]) fun _ _ _ _ _ _ us hl => match us, hl with | [_], _ => rfl
  obtain ⟨fd10, D10⟩ := c.def_ 9 (d := d10) rfl
  have F10 := fun_of (st := sIsAskingRow) D10
  have b10 := F10.binds (ps := ["thing"]) fun _ _ _ _ _ _ us hl => match us, hl with | [_], _ => rfl
  obtain ⟨fd11, D11⟩ := c.def_ 10 (d := d11) rfl
  have F11 := fun_of (st := sIsPair) D11
  have b11 := F11.binds (ps := ["thing"]) fun _ _ _ _ _ _ us hl => match us, hl with | [_], _ => rfl
  obtain ⟨fd12, D12⟩ := c.def_ 11 (d := d12) rfl
  have F12 := fun_of (st := sIsReference) D12
  have b12 := F12.binds (ps := ["thing"]) fun _ _ _ _ _ _ us hl => match us, hl with | [_], _ => rfl
  obtain ⟨fd13, D13⟩ := c.def_ 12 (d := d13) rfl
  have F13 := fun_of (st := sIsAskingReference) D13
  have b13 := F13.binds (ps := ["thing"]) fun _ _ _ _ _ _ us hl => match us, hl with | [_], _ => rfl
  obtain ⟨fd14, D14⟩ := c.def_ 13 (d := d14) rfl
  have F14 := fun_of (st := sNeedReference) D14
  have b14 := F14.binds (ps := ["thing"]) fun _ _ _ _ _ _ us hl => match us, hl with | [_], _ => rfl
  obtain ⟨fd15, D15⟩ := c.def_ 14 (d := d15) rfl
  have F15 := fun_of (st := sNeedAskingReference) D15
  have b15 := F15.binds (ps := ["thing"]) fun _ _ _ _ _ _ us hl => match us, hl with | [_], _ => rfl
  obtain ⟨fd16, D16⟩ := c.def_ 15 (d := d16) rfl
  have F16 := fun_of (st := sNeedWorth) D16
  have b16 := F16.binds (ps := ["thing"]) fun _ _ _ _ _ _ us hl => match us, hl with | [_], _ => rfl
  obtain ⟨fd17, D17⟩ := c.def_ 16 (d := d17) rfl
  have F17 := fun_of (st := sHowManyAhead) D17
  have b17 := F17.binds (ps := ["row", "key"]) fun _ _ _ _ _ _ us hl => match us, hl with | [_, _], _ => rfl
  obtain ⟨fd18, D18⟩ := c.def_ 17 (d := d18) rfl
  have F18 := fun_of (st := sTreeInit) D18
  have b18 := F18.binds (ps := ["self"]) fun _ _ _ _ _ _ us hl => match us, hl with | [_], _ => rfl
  obtain ⟨fd19, D19⟩ := c.def_ 18 (d := d19) rfl
  have F19 := fun_of (st := sTreeAt) D19
  have b19 := F19.binds (ps := ["self", "path"]) fun _ _ _ _ _ _ us hl => match us, hl with | [_, _], _ => rfl
  obtain ⟨fd20, D20⟩ := c.def_ 19 (d := d20) rfl
  have F20 := fun_of (st := sTreePlant) D20
  have b20 := F20.binds (ps := ["self", "path", "worth"]) fun _ _ _ _ _ _ us hl => match us, hl with | [_, _, _], _ => rfl
  obtain ⟨fd21, D21⟩ := c.def_ 20 (d := d21) rfl
  have F21 := fun_of (st := sTreeMade) D21
  have b21 := F21.binds (ps := ["self", "path"]) fun _ _ _ _ _ _ us hl => match us, hl with | [_, _], _ => rfl
  obtain ⟨fd22, D22⟩ := c.def_ 21 (d := d22) rfl
  have F22 := fun_of (st := sTreeCut) D22
  have b22 := F22.binds (ps := ["self", "path"]) fun _ _ _ _ _ _ us hl => match us, hl with | [_, _], _ => rfl
  obtain ⟨fd23, D23⟩ := c.def_ 22 (d := d23) rfl
  have F23 := fun_of (st := sTreeNextKey) D23
  have b23 := F23.binds (ps := ["self", "key", "back"]) fun _ _ _ _ _ _ us hl => match us, hl with | [_, _, _], _ => rfl
  obtain ⟨fd24, D24⟩ := c.def_ 23 (d := d24) rfl
  have F24 := fun_of (st := sTreeWalked) D24
  have b24 := F24.binds (ps := ["self", "path"]) fun _ _ _ _ _ _ us hl => match us, hl with | [_, _], _ => rfl
  obtain ⟨fd25, D25⟩ := c.def_ 24 (d := d25) rfl
  have F25 := fun_of (st := sTreePathBehind) D25
  have b25 := F25.binds (ps := ["self", "path"]) fun _ _ _ _ _ _ us hl => match us, hl with | [_, _], _ => rfl
  obtain ⟨fd26, D26⟩ := c.def_ 25 (d := d26) rfl
  have F26 := fun_of (st := sTreePathAhead) D26
  have b26 := F26.binds (ps := ["self", "path"]) fun _ _ _ _ _ _ us hl => match us, hl with | [_, _], _ => rfl
  obtain ⟨fd27, D27⟩ := c.def_ 26 (d := d27) rfl
  have F27 := fun_of (st := sTreeFirstPath) D27
  have b27 := F27.binds (ps := ["self", "path"]) fun _ _ _ _ _ _ us hl => match us, hl with | [_, _], _ => rfl
  obtain ⟨fd28, D28⟩ := c.def_ 27 (d := d28) rfl
  have F28 := fun_of (st := sTreeLastPath) D28
  have b28 := F28.binds (ps := ["self", "path"]) fun _ _ _ _ _ _ us hl => match us, hl with | [_, _], _ => rfl
  obtain ⟨fd29, D29⟩ := c.def_ 28 (d := d29) rfl
  have F29 := fun_of (st := sArraysInit) D29
  have b29 := F29.binds (ps := ["self"]) fun _ _ _ _ _ _ us hl => match us, hl with | [_], _ => rfl
  obtain ⟨fd30, D30⟩ := c.def_ 29 (d := d30) rfl
  have F30 := fun_of (st := sArraysPut) D30
  have b30 := F30.binds (ps := ["self", "ref", "worth"]) fun _ _ _ _ _ _ us hl => match us, hl with | [_, _, _], _ => rfl
  obtain ⟨fd31, D31⟩ := c.def_ 30 (d := d31) rfl
  obtain ⟨fd32, D32⟩ := c.def_ 31 (d := d32) rfl
  have F32 := fun_of (st := sArraysData) D32
  have b32 := F32.binds (ps := ["self", "ref"]) fun _ _ _ _ _ _ us hl => match us, hl with | [_, _], _ => rfl
  obtain ⟨fd33, D33⟩ := c.def_ 32 (d := d33) rfl
  have F33 := fun_of (st := sArraysKill) D33
  have b33 := F33.binds (ps := ["self", "ref"]) fun _ _ _ _ _ _ us hl => match us, hl with | [_, _], _ => rfl
  obtain ⟨fd34, D34⟩ := c.def_ 33 (d := d34) rfl
  have F34 := fun_of (st := sArraysNames) D34
  have b34 := F34.binds (ps := ["self"]) fun _ _ _ _ _ _ us hl => match us, hl with | [_], _ => rfl
  obtain ⟨fd35, D35⟩ := c.def_ 34 (d := d35) rfl
  have F35 := fun_of (st := sArraysCount) D35
  have b35 := F35.binds (ps := ["self"]) fun _ _ _ _ _ _ us hl => match us, hl with | [_], _ => rfl
  obtain ⟨fd36, D36⟩ := c.def_ 35 (d := d36) rfl
  obtain ⟨fd37, D37⟩ := c.def_ 36 (d := d37) rfl
  obtain ⟨fd38, D38⟩ := c.def_ 37 (d := d38) rfl
  have F38 := fun_of (st := sArraysRows) D38
  have b38 := F38.binds (ps := ["self", "ref"]) fun _ _ _ _ _ _ us hl => match us, hl with | [_, _], _ => rfl
  obtain ⟨fd39, D39⟩ := c.def_ 38 (d := d39) rfl
  have F39 := fun_of (st := sArraysUproot) D39
  have b39 := F39.binds (ps := ["self", "ref"]) fun _ _ _ _ _ _ us hl => match us, hl with | [_, _], _ => rfl
  obtain ⟨fd40, D40⟩ := c.def_ 39 (d := d40) rfl
  have F40 := fun_of (st := sDeskInit) D40
  have b40 := F40.binds (ps := ["self", "arrays"]) fun _ _ _ _ _ _ us hl => match us, hl with | [_, _], _ => rfl
  obtain ⟨fd41, D41⟩ := c.def_ 40 (d := d41) rfl
  have F41 := fun_of (st := sDeskPut) D41
  have b41 := F41.binds (ps := ["self", "ref", "worth"]) fun _ _ _ _ _ _ us hl => match us, hl with | [_, _, _], _ => rfl
  obtain ⟨fd42, D42⟩ := c.def_ 41 (d := d42) rfl
  obtain ⟨fd43, D43⟩ := c.def_ 42 (d := d43) rfl
  have F43 := fun_of (st := sDeskData) D43
  have b43 := F43.binds (ps := ["self", "ref"]) fun _ _ _ _ _ _ us hl => match us, hl with | [_, _], _ => rfl
  obtain ⟨fd44, D44⟩ := c.def_ 43 (d := d44) rfl
  have F44 := fun_of (st := sDeskKill) D44
  have b44 := F44.binds (ps := ["self", "ref"]) fun _ _ _ _ _ _ us hl => match us, hl with | [_, _], _ => rfl
  obtain ⟨fd45, D45⟩ := c.def_ 44 (d := d45) rfl
  obtain ⟨fd46, D46⟩ := c.def_ 45 (d := d46) rfl
  obtain ⟨fd47, D47⟩ := c.def_ 46 (d := d47) rfl
  have F47 := fun_of (st := sDeskLast) D47
  have b47 := F47.binds (ps := ["self"]) fun _ _ _ _ _ _ us hl => match us, hl with | [_], _ => rfl
  obtain ⟨fd48, D48⟩ := c.def_ 47 (d := d48) rfl
  have F48 := fun_of (st := sDeskMeant) D48
  have b48 := F48.binds (ps := ["self", "ref"]) fun _ _ _ _ _ _ us hl => match us, hl with | [_, _], _ => rfl
  obtain ⟨fd49, D49⟩ := c.def_ 48 (d := d49) rfl
  have F49 := fun_of (st := sDeskMeantAsking) D49
  have b49 := F49.binds (ps := ["self", "ref"]) fun _ _ _ _ _ _ us hl => match us, hl with | [_, _], _ => rfl
  obtain ⟨fd50, D50⟩ := c.def_ 49 (d := d50) rfl
  have F50 := fun_of (st := sDeskRemember) D50
  have b50 := F50.binds (ps := ["self", "asked"]) fun _ _ _ _ _ _ us hl => match us, hl with | [_, _], _ => rfl
  obtain ⟨fd51, D51⟩ := c.def_ 50 (d := d51) rfl
  have F51 := fun_of (st := sLong) D51
  have b51 := F51.binds (ps := ["last", "keys"]) fun _ _ _ _ _ _ us hl => match us, hl with | [_, _], _ => rfl
  obtain ⟨fd52, D52⟩ := c.def_ 51 (d := d52) rfl
  have F52 := fun_of (st := sIsShort) D52
  have b52 := F52.binds (ps := ["thing"]) fun _ _ _ _ _ _ us hl => match us, hl with | [_], _ => rfl
  obtain ⟨fd53, D53⟩ := c.def_ 52 (d := d53) rfl
  have F53 := fun_of (st := sPath) D53
  have b53 := F53.binds (ps := ["ref"]) fun _ _ _ _ _ _ us hl => match us, hl with | [_], _ => rfl
  obtain ⟨fd54, D54⟩ := c.def_ 53 (d := d54) rfl
  have F54 := fun_of (st := sReference) D54
  have b54 := F54.binds (ps := ["path"]) fun _ _ _ _ _ _ us hl => match us, hl with | [_], _ => rfl
  obtain ⟨fd55, D55⟩ := c.def_ 54 (d := d55) rfl
  have F55 := fun_of (st := sLawCellAt) D55
  have b55 := F55.binds (ps := ["script", "k"]) fun _ _ _ _ _ _ us hl => match us, hl with | [_, _], _ => rfl
  obtain ⟨fd56, D56⟩ := c.def_ 55 (d := d56) rfl
  have F56 := fun_of (st := sLawBag) D56
  have b56 := F56.binds (ps := ["cell", "k"]) fun _ _ _ _ _ _ us hl => match us, hl with | [_, _], _ => rfl
  obtain ⟨fd57, D57⟩ := c.def_ 56 (d := d57) rfl
  have F57 := fun_of (st := sLawTake) D57
  have b57 := F57.binds (ps := ["bag", "many"]) fun _ _ _ _ _ _ us hl => match us, hl with | [_, _], _ => rfl
  obtain ⟨fd58, D58⟩ := c.def_ 57 (d := d58) rfl
  have F58 := fun_of (st := sLawKey) D58
  have b58 := F58.binds (ps := ["bag"]) fun _ _ _ _ _ _ us hl => match us, hl with | [_], _ => rfl
  obtain ⟨fd59, D59⟩ := c.def_ 58 (d := d59) rfl
  have F59 := fun_of (st := sLawPool) D59
  have b59 := F59.binds (ps := ["bag"]) fun _ _ _ _ _ _ us hl => match us, hl with | [_], _ => rfl
  obtain ⟨fd60, D60⟩ := c.def_ 59 (d := d60) rfl
  have F60 := fun_of (st := sLawRef) D60
  have b60 := F60.binds (ps := ["bag", "pool", "most"]) fun _ _ _ _ _ _ us hl => match us, hl with | [_, _, _], _ => rfl
  obtain ⟨fd61, D61⟩ := c.def_ 60 (d := d61) rfl
  have F61 := fun_of (st := sLawWorth) D61
  have b61 := F61.binds (ps := ["bag"]) fun _ _ _ _ _ _ us hl => match us, hl with | [_], _ => rfl
  obtain ⟨fd62, D62⟩ := c.def_ 61 (d := d62) rfl
  have F62 := fun_of (st := sLawSame) D62
  have b62 := F62.binds (ps := ["found", "due"]) fun _ _ _ _ _ _ us hl => match us, hl with | [_, _], _ => rfl
  obtain ⟨fd63, D63⟩ := c.def_ 62 (d := d63) rfl
  have F63 := fun_of (st := sLawWord) D63
  have b63 := F63.binds (ps := ["caught"]) fun _ _ _ _ _ _ us hl => match us, hl with | [_], _ => rfl
  obtain ⟨fd64, D64⟩ := c.def_ 63 (d := d64) rfl
  have F64 := fun_of (st := sLawDoor) D64
  have b64 := F64.binds (ps := ["desk", "door", "place", "own"]) fun _ _ _ _ _ _ us hl => match us, hl with | [_, _, _, _], _ => rfl
  obtain ⟨fd65, D65⟩ := c.def_ 64 (d := d65) rfl
  have F65 := fun_of (st := sLawTried) D65
  have b65 := F65.binds (ps := ["desk", "door", "place", "own"]) fun _ _ _ _ _ _ us hl => match us, hl with | [_, _, _, _], _ => rfl
  obtain ⟨fd66, D66⟩ := c.def_ 65 (d := d66) rfl
  have F66 := fun_of (st := sLawLongWord) D66
  have b66 := F66.binds (ps := ["last_one", "some"]) fun _ _ _ _ _ _ us hl => match us, hl with | [_, _], _ => rfl
  obtain ⟨fd67, D67⟩ := c.def_ 66 (d := d67) rfl
  have F67 := fun_of (st := sLawDue) D67
  have b67 := F67.binds (ps := ["last_one", "some"]) fun _ _ _ _ _ _ us hl => match us, hl with | [_, _], _ => rfl
  obtain ⟨fd68, D68⟩ := c.def_ 67 (d := d68) rfl
  have F68 := fun_of (st := sLawBad) D68
  have b68 := F68.binds (ps := ["bag", "pool"]) fun _ _ _ _ _ _ us hl => match us, hl with | [_, _], _ => rfl
  obtain ⟨fd69, D69⟩ := c.def_ 68 (d := d69) rfl
  have F69 := fun_of (st := sLawRefused) D69
  have b69 := F69.binds (ps := ["bag", "desk", "pool"]) fun _ _ _ _ _ _ us hl => match us, hl with | [_, _, _], _ => rfl
  obtain ⟨fd70, D70⟩ := c.def_ 69 (d := d70) rfl
  have F70 := fun_of (st := sLawAll) D70
  have b70 := F70.binds (ps := ["arrays"]) fun _ _ _ _ _ _ us hl => match us, hl with | [_], _ => rfl
  obtain ⟨fd71, D71⟩ := c.def_ 70 (d := d71) rfl
  have F71 := fun_of (st := sLaw) D71
  have b71 := F71.binds (ps := ["script"]) fun _ _ _ _ _ _ us hl => match us, hl with | [_], _ => rfl
  have e := hfa.symm.trans (He.glo_ok X G (c.fact 82 (f := .glo "law") rfl))
  cases e
  let cs : Tabs := ⟨(He.cT K ("is_worth", none)).1, (He.cT K ("is_worth", none)).2, (He.cT K ("is_number_text", none)).1, (He.cT K ("is_number_text", none)).2, (He.cT K ("is_name", none)).1, (He.cT K ("is_name", none)).2, (He.cT K ("is_row", none)).1, (He.cT K ("is_row", none)).2, He.ga K "Tree", He.ga K "Arrays", He.ga K "Desk", He.ga K⟩
  have T : Txt K mg cs := ⟨He.cls_ok (c.fact 0 (f := .cls "Tree") rfl), He.noat_ok (c.fact 1 (f := .noat "Tree" "worth") rfl), He.noat_ok (c.fact 2 (f := .noat "Tree" "row") rfl), He.noat_ok (c.fact 3 (f := .noat "Tree" "beneath") rfl), He.cls_ok (c.fact 4 (f := .cls "Arrays") rfl), He.noat_ok (c.fact 5 (f := .noat "Arrays" "_tree") rfl), He.cls_ok (c.fact 6 (f := .cls "Desk") rfl), He.noat_ok (c.fact 7 (f := .noat "Desk" "_arrays") rfl), He.noat_ok (c.fact 8 (f := .noat "Desk" "_last") rfl), nc_of m, ftc_of D1 (s.hd ("is_worth", none) (by simp [tfl])) (He.glo_ok X G (c.fact 9 (f := .glo "is_worth") rfl)) b1, ⟨_, _, F2, He.glo_ok X G (c.fact 10 (f := .glo "number_of") rfl), b2⟩, ⟨_, _, F3, He.glo_ok X G (c.fact 11 (f := .glo "_number_of_figures") rfl), b3⟩, ftc_of D4 (s.hd ("is_number_text", none) (by simp [tfl])) (He.glo_ok X G (c.fact 12 (f := .glo "is_number_text") rfl)) b4, ⟨_, _, F5, He.glo_ok X G (c.fact 13 (f := .glo "is_key") rfl), b5⟩, ⟨_, _, F6, He.glo_ok X G (c.fact 14 (f := .glo "key_rank") rfl), b6⟩, ⟨_, _, F7, He.glo_ok X G (c.fact 15 (f := .glo "before") rfl), b7⟩, ftc_of D8 (s.hd ("is_name", none) (by simp [tfl])) (He.glo_ok X G (c.fact 16 (f := .glo "is_name") rfl)) b8, ftc_of D9 (s.hd ("is_row", none) (by simp [tfl])) (He.glo_ok X G (c.fact 17 (f := .glo "is_row") rfl)) b9, ⟨_, _, F10, He.glo_ok X G (c.fact 18 (f := .glo "is_asking_row") rfl), b10⟩, ⟨_, _, F11, He.glo_ok X G (c.fact 19 (f := .glo "is_pair") rfl), b11⟩, ⟨_, _, F12, He.glo_ok X G (c.fact 20 (f := .glo "is_reference") rfl), b12⟩, ⟨_, _, F13, He.glo_ok X G (c.fact 21 (f := .glo "is_asking_reference") rfl), b13⟩, ⟨_, _, F14, He.glo_ok X G (c.fact 22 (f := .glo "need_reference") rfl), b14⟩, ⟨_, _, F15, He.glo_ok X G (c.fact 23 (f := .glo "need_asking_reference") rfl), b15⟩, ⟨_, _, F16, He.glo_ok X G (c.fact 24 (f := .glo "need_worth") rfl), b16⟩, ⟨_, _, F17, He.glo_ok X G (c.fact 25 (f := .glo "_how_many_ahead") rfl), b17⟩, ⟨_, _, [], D18, He.mkr_ok (c.fact 26 (f := .mkr "Tree") rfl), b18, .nil, He.glo_ok X G (c.fact 27 (f := .glo "Tree") rfl)⟩, ⟨_, _, F19, He.meth_ok (c.fact 28 (f := .meth "Tree" "at") rfl), b19⟩, ⟨_, _, F20, He.meth_ok (c.fact 29 (f := .meth "Tree" "plant") rfl), b20⟩, ⟨_, _, F21, He.meth_ok (c.fact 30 (f := .meth "Tree" "_made") rfl), b21⟩, ⟨_, _, F22, He.meth_ok (c.fact 31 (f := .meth "Tree" "cut") rfl), b22⟩, ⟨_, _, F23, He.meth_ok (c.fact 32 (f := .meth "Tree" "next_key") rfl), b23⟩, ⟨_, _, F24, He.meth_ok (c.fact 33 (f := .meth "Tree" "walked") rfl), b24⟩, ⟨_, _, F25, He.meth_ok (c.fact 34 (f := .meth "Tree" "path_behind") rfl), b25⟩, ⟨_, _, F26, He.meth_ok (c.fact 35 (f := .meth "Tree" "path_ahead") rfl), b26⟩, ⟨_, _, F27, He.meth_ok (c.fact 36 (f := .meth "Tree" "_first_path") rfl), b27⟩, ⟨_, _, F28, He.meth_ok (c.fact 37 (f := .meth "Tree" "_last_path") rfl), b28⟩, ⟨_, _, [], D29, He.mkr_ok (c.fact 38 (f := .mkr "Arrays") rfl), b29, .nil, He.glo_ok X G (c.fact 39 (f := .glo "Arrays") rfl)⟩, ⟨_, _, F30, He.meth_ok (c.fact 40 (f := .meth "Arrays" "put") rfl), b30⟩, ⟨_, _, D31, He.meth_ok (c.fact 41 (f := .meth "Arrays" "read") rfl)⟩, ⟨_, _, F32, He.meth_ok (c.fact 42 (f := .meth "Arrays" "data") rfl), b32⟩, ⟨_, _, F33, He.meth_ok (c.fact 43 (f := .meth "Arrays" "kill") rfl), b33⟩, ⟨_, _, F34, He.meth_ok (c.fact 44 (f := .meth "Arrays" "names") rfl), b34⟩, ⟨_, _, F35, He.meth_ok (c.fact 45 (f := .meth "Arrays" "count") rfl), b35⟩, ⟨_, _, D36, He.meth_ok (c.fact 46 (f := .meth "Arrays" "order") rfl)⟩, ⟨_, _, D37, He.meth_ok (c.fact 47 (f := .meth "Arrays" "following") rfl)⟩, ⟨_, _, F38, He.meth_ok (c.fact 48 (f := .meth "Arrays" "rows") rfl), b38⟩, ⟨_, _, F39, He.meth_ok (c.fact 49 (f := .meth "Arrays" "uproot") rfl), b39⟩, ⟨_, _, [], D40, He.mkr_ok (c.fact 50 (f := .mkr "Desk") rfl), b40, .nil, He.glo_ok X G (c.fact 51 (f := .glo "Desk") rfl)⟩, ⟨_, _, F41, He.meth_ok (c.fact 52 (f := .meth "Desk" "put") rfl), b41⟩, ⟨_, _, D42, He.meth_ok (c.fact 53 (f := .meth "Desk" "read") rfl)⟩, ⟨_, _, F43, He.meth_ok (c.fact 54 (f := .meth "Desk" "data") rfl), b43⟩, ⟨_, _, F44, He.meth_ok (c.fact 55 (f := .meth "Desk" "kill") rfl), b44⟩, ⟨_, _, D45, He.meth_ok (c.fact 56 (f := .meth "Desk" "order") rfl)⟩, ⟨_, _, D46, He.meth_ok (c.fact 57 (f := .meth "Desk" "following") rfl)⟩, ⟨_, _, F47, He.meth_ok (c.fact 58 (f := .meth "Desk" "last") rfl), b47⟩, ⟨_, _, F48, He.meth_ok (c.fact 59 (f := .meth "Desk" "_meant") rfl), b48⟩, ⟨_, _, F49, He.meth_ok (c.fact 60 (f := .meth "Desk" "_meant_asking") rfl), b49⟩, ⟨_, _, F50, He.meth_ok (c.fact 61 (f := .meth "Desk" "_remember") rfl), b50⟩, ⟨_, _, F51, He.glo_ok X G (c.fact 62 (f := .glo "long") rfl), b51⟩, ⟨_, _, F52, He.glo_ok X G (c.fact 63 (f := .glo "_is_short") rfl), b52⟩, ⟨_, _, F53, He.glo_ok X G (c.fact 64 (f := .glo "_path") rfl), b53⟩, ⟨_, _, F54, He.glo_ok X G (c.fact 65 (f := .glo "_reference") rfl), b54⟩, ⟨_, _, F55, He.glo_ok X G (c.fact 66 (f := .glo "_law_cell_at") rfl), b55⟩, ⟨_, _, F56, He.glo_ok X G (c.fact 67 (f := .glo "_law_bag") rfl), b56⟩, ⟨_, _, F57, He.glo_ok X G (c.fact 68 (f := .glo "_law_take") rfl), b57⟩, ⟨_, _, F58, He.glo_ok X G (c.fact 69 (f := .glo "_law_key") rfl), b58⟩, ⟨_, _, F59, He.glo_ok X G (c.fact 70 (f := .glo "_law_pool") rfl), b59⟩, ⟨_, _, F60, He.glo_ok X G (c.fact 71 (f := .glo "_law_ref") rfl), b60⟩, ⟨_, _, F61, He.glo_ok X G (c.fact 72 (f := .glo "_law_worth") rfl), b61⟩, ⟨_, _, F62, He.glo_ok X G (c.fact 73 (f := .glo "_law_same") rfl), b62⟩, ⟨_, _, F63, He.glo_ok X G (c.fact 74 (f := .glo "_law_word") rfl), b63⟩, ⟨_, _, F64, He.glo_ok X G (c.fact 75 (f := .glo "_law_door") rfl), b64⟩, ⟨_, _, F65, He.glo_ok X G (c.fact 76 (f := .glo "_law_tried") rfl), b65⟩, ⟨_, _, F66, He.glo_ok X G (c.fact 77 (f := .glo "_law_long_word") rfl), b66⟩, ⟨_, _, F67, He.glo_ok X G (c.fact 78 (f := .glo "_law_due") rfl), b67⟩, ⟨_, _, F68, He.glo_ok X G (c.fact 79 (f := .glo "_law_bad") rfl), b68⟩, ⟨_, _, F69, He.glo_ok X G (c.fact 80 (f := .glo "_law_refused") rfl), b69⟩, ⟨_, _, F70, He.glo_ok X G (c.fact 81 (f := .glo "_law_all") rfl), b70⟩, ⟨_, _, F71, He.glo_ok X G (c.fact 82 (f := .glo "law") rfl), b71⟩, (fun x hx => by
    simp only [ALLE, List.mem_cons, List.not_mem_nil, or_false] at hx
    rcases hx with rfl | rfl | rfl | rfl | rfl | rfl | rfl | rfl | rfl | rfl | rfl | rfl | rfl | rfl | rfl | rfl
    · exact He.glo_ok X G (c.fact 83 (f := .glo "StemError") rfl)
    · exact He.glo_ok X G (c.fact 84 (f := .glo "NoRef") rfl)
    · exact He.glo_ok X G (c.fact 85 (f := .glo "NoWorth") rfl)
    · exact He.glo_ok X G (c.fact 86 (f := .glo "Within") rfl)
    · exact He.glo_ok X G (c.fact 87 (f := .glo "TooDeep") rfl)
    · exact He.glo_ok X G (c.fact 88 (f := .glo "NoHead") rfl)
    · exact He.glo_ok X G (c.fact 89 (f := .glo "NoJob") rfl)
    · exact He.glo_ok X G (c.fact 90 (f := .glo "Waiting") rfl)
    · exact He.glo_ok X G (c.fact 91 (f := .glo "NoLock") rfl)
    · exact He.glo_ok X G (c.fact 92 (f := .glo "Held") rfl)
    · exact He.glo_ok X G (c.fact 93 (f := .glo "NoDealing") rfl)
    · exact He.glo_ok X G (c.fact 94 (f := .glo "Erring") rfl)
    · exact He.glo_ok X G (c.fact 95 (f := .glo "NoProgram") rfl)
    · exact He.glo_ok X G (c.fact 96 (f := .glo "NoLabel") rfl)
    · exact He.glo_ok X G (c.fact 97 (f := .glo "TooLong") rfl)
    · exact He.glo_ok X G (c.fact 98 (f := .glo "NoText") rfl)), (er_of m).1, (er_of m).2.1, (er_of m).2.2, He.free_ok X G (c.fact 99 (f := .free "isinstance") rfl), He.free_ok X G (c.fact 100 (f := .free "str") rfl), He.free_ok X G (c.fact 101 (f := .free "all") rfl), He.free_ok X G (c.fact 102 (f := .free "ord") rfl), He.free_ok X G (c.fact 103 (f := .free "len") rfl), He.free_ok X G (c.fact 104 (f := .free "int") rfl), He.free_ok X G (c.fact 105 (f := .free "range") rfl), He.free_ok X G (c.fact 106 (f := .free "tuple") rfl), He.free_ok X G (c.fact 107 (f := .free "list") rfl), He.free_ok X G (c.fact 108 (f := .free "max") rfl), He.free_ok X G (c.fact 109 (f := .free "bool") rfl), He.free_ok X G (c.fact 110 (f := .free "ValueError") rfl), He.free_ok X G (c.fact 111 (f := .free "min") rfl), gi (He.int_ok X G (c.fact 112 (f := .int "_PERCENT" 37) rfl)), gs (He.str_ok X G (c.fact 113 (f := .str "_FIGURES" "0123456789") rfl)), gi (He.int_ok X G (c.fact 114 (f := .int "_LONGEST_KEY" 40) rfl)), gi (He.int_ok X G (c.fact 115 (f := .int "_LONGEST_NAME" 8) rfl)), gi (He.int_ok X G (c.fact 116 (f := .int "MOST_KEYS" 6) rfl))⟩
  have bl := FunD.bindsA (ps := ["script"]) D71 fun _ _ _ _ _ _ us hl => match us, hl with | [_], _ => rfl
  refine ⟨fd71, tfl.map (He.cT K), spLaw K cs, ?_, ?_, ?_, fun s v => bl s [v] rfl, fun H a ns hl hb hT hS => ⟨a, ns, rfl, hS, hl, ?_, fun _ => rfl⟩, fun base _ _ hB => ?_⟩
  · intro p hp
    obtain ⟨q, hq, rfl⟩ := List.mem_map.mp hp
    exact s.empty q hq
  · intro p hp
    obtain ⟨q, hq, rfl⟩ := List.mem_map.mp hp
    exact s.out q hq
  · intro p hp
    obtain ⟨q, hq, rfl⟩ := List.mem_map.mp hp
    exact PySem.W.codeHd_of_K X (s.hd q hq)
  · exact ⟨trivial, Tb.new (hT _ (List.mem_map.mpr ⟨("is_worth", none), by simp [tfl], rfl⟩)), Tb.new (hT _ (List.mem_map.mpr ⟨("is_number_text", none), by simp [tfl], rfl⟩)), Tb.new (hT _ (List.mem_map.mpr ⟨("is_name", none), by simp [tfl], rfl⟩)), Tb.new (hT _ (List.mem_map.mpr ⟨("is_row", none), by simp [tfl], rfl⟩))⟩
  · exact ok_law T ⟨trivial, tabB_of (hB _ (List.mem_map.mpr ⟨("is_worth", none), by simp [tfl], rfl⟩)), tabB_of (hB _ (List.mem_map.mpr ⟨("is_number_text", none), by simp [tfl], rfl⟩)), tabB_of (hB _ (List.mem_map.mpr ⟨("is_name", none), by simp [tfl], rfl⟩)), tabB_of (hB _ (List.mem_map.mpr ⟨("is_row", none), by simp [tfl], rfl⟩))⟩ F71
end My
open PySem PySem.W PySem.Calls PyProof.Rows
set_option maxRecDepth 100000 in
set_option maxHeartbeats 0 in
theorem PySem.Challenge.cw_stemkeep_k15_short_refused_holds : PySem.Challenge.rw_stemkeep_k15_short_refused.Holds := by
  w_on; o_law
  refine HandSHeadRun.head_any (r := OpenLaw.row PySem.Challenge.rw_stemkeep_k15_short_refused) (q := view (OpenLaw.row PySem.Challenge.rw_stemkeep_k15_short_refused).prog [69]) (H := My.hk) (ob := My.ob) (M := 20000) (loose := My.names) (d := HandSHeadRun.topDef (OpenLaw.row PySem.Challenge.rw_stemkeep_k15_short_refused).prog 69) (kwd := []) My.ob_eq
    (by kernel_rfl) (fun s => by kernel_rfl) My.run (by kernel_rfl) (by kernel_rfl) (by kernel_rfl) (by rfl) (by first | assumption | decide +kernel) (by decide +kernel) ⟨rfl, rfl, rfl, rfl, rfl, by decide +kernel⟩ ?hw ?hc
  case hw => w_witness2
  case hc =>
    refine LamX.walk_ofTsE (l := PySem.Challenge.rw_stemkeep_k15_short_refused) (n := 63) (k := 15) (x := "script") (CX := fun _ => L2.CX0) rfl (by decide) (by kernel_rfl) ⟨rfl, by decide, by decide⟩ ?F (fun _ _ _ _ _ z => z)
    intro w mg fa h Y G hmg0
    obtain ⟨K, KX, c⟩ := Y
    have hmg : mg ("law" : PySem.Str) = some (.ref fa) := by
      have e : (HandSHeadRun.topDef (OpenLaw.row PySem.Challenge.rw_stemkeep_k15_short_refused).prog 69).name = ("law" : PySem.Str) := by kernel_rfl
      rw [← e]
      exact hmg0
    exact ⟨K, KX, My.facts KX G hmg c w⟩
#print axioms PySem.Challenge.cw_stemkeep_k15_short_refused_holds
