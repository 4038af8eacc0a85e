import PyProof.Rows.All
import Wide.All
import OpenK.AllK
import Wide.FinOn
import HandS.ForMost
import HandS.Wide
import HandS.TupAny
import HandS.EndBits
import HandS.IsInst
import HandS.AnyAll
import HandS.EndTab
import HandS.Style
import HandS.StrMore
import HandS.WideBits
import HandS.Codes
import HandS.GenOver
import HandS.GenList
import HandS.EndOwn
import HandS.TupMul
import HandS.TupLe
import KE.SortKeyHeap
import HandS.SortKw
import HandS.More
import HandS.Defaults
import HandS.MakeKw
import HandS.MakeKwOnly
import HandS.Exc
import KE.KeyNested
import HandS.Walk
import HandS.Strs
import HandS.SetFor
import HandS.Replace
import HandS.Lambda
import HandS.Conv
import KE.DataCmp
import HandS.NoneIn
import HandS.ExcIs
import HandS.ExcCtx
import HandS.Hot
import HandS.HotCalls
import KE.KExcHand
import KE.KDictSum
import HandS.Head0
import HandS.Head1
import HandS.Head2
import HandS.HeadEnd
import HandS.HeadHook1
import HandS.HeadHook2
import HandS.HeadHook3
import HandS.HeadHook4
import HandS.HeadWalk
import PySem.Challenge.RW_stemkeep_k11_arrays_refused
set_option Elab.async false
set_option linter.all false
set_option maxRecDepth 100000
namespace My
def lams : List (PySem.Pos × PySem.Str) := [(⟨373, 28, 373, 65⟩, "_law_walked.<locals>.<lambda>")]
/-! ### what every law of these keys leans on: defs by name, powers, the bag, heaps that grow -/
open PySem PySem.Spec L2 TL
/-- a def of the text as its top leaves it -/
structure Ftx (K : PySem.W.Frag) (mg : Str → Option Value) (x : Str) (st : Stmt) (ps : List Str) : Prop where
  ex : ∃ (f : Addr) (fd : FuncData), Fun K x x st f fd ∧ mg x = some (.ref f) ∧ Binds K fd ps []
/-- a def that keeps a promise, called by its name -/
structure Cal (P : Program) (w : World) (K : PySem.W.Frag) (mg : Str → Option Value) (base : Heap) (k : Nat) (x : Str) (ps : List Str) (sp : Sp) : Prop where
  ex : ∃ (f : Addr) (fd : FuncData), FnOk P w K mg base CX0 k f fd ps sp ∧ PySem.W.keepIn K (.ref f) = true ∧ mg x = some (.ref f) ∧ Binds K fd ps [] ∧ ∃ (oc : Value) (od : Option Addr) (osl : Array (Option Value)), K.lookup f = some ⟨oc, od, .func fd, osl⟩
section
variable {P : Program} {w : World} {K : PySem.W.Frag} {mg : Str → Option Value} {base : Heap}
theorem Ftx.cal {x : Str} {st : Stmt} {N ps : List Str} {sp : Sp} {k : Nat} (F : Ftx K mg x st ps) (S : FnScope N ps (defScope st)) (len : ∀ vs H Q E, sp vs H Q E → vs.length = ps.length)
    (h : ∀ (f : Addr) (cdv : Value) (A : Around) (outer : List Env) (s : Shared) (H : Hp) (vs : List V) (Q : VK) (E : XK), Room k (A.deeper (PyProof.Rows.envOfC x (defScope st) s.heap.objs.size f cdv)) → sp vs H Q E →
      ∃ t, PSs (cxOf CX0 P w K mg base N x (defScope st) f cdv A outer s H E).nox (defBody st) t ∧ t { nx := fun _ H' => Q .non H', rt := Q } (start N vs) H) : Cal P w K mg base (k + 1) x ps sp := by
  obtain ⟨f, fd, F1, g, b⟩ := F.ex
  have F2 := F1.ok S len (h f)
  obtain ⟨oc, od, kV, doc, pm, an, cdv, ct, osl, e, lk, hcd⟩ := F1.ex
  exact ⟨f, fd, F2, F1.kp, g, b, oc, od, osl, lk⟩
theorem Cal.mono {j k : Nat} {x : Str} {ps : List Str} {sp : Sp} (C : Cal P w K mg base j x ps sp) (h : j ≤ k) : Cal P w K mg base k x ps sp := by
  obtain ⟨f, fd, F, a, b, c⟩ := C.ex
  exact ⟨f, fd, F.mono h, a, b, c⟩
end
section
variable {X : Cx}
theorem pe_cal {k : Nat} {x : Str} {ps : List Str} {sp : Sp} {e : Expr} {es : List Expr} {p pos : Pos} {t : TA} (C : Cal X.prog X.w X.K X.mg X.base k x ps sp) (hr : Room k X.A) (ha : PA X (e :: es) t) (hg : Gl X x := by rfl)
    (hdb : (x == ("__debug__" : Str)) = false := by decide) (he : starEach (e :: es) X.env = (false, eval e X.env) :: starEach es X.env := by rfl) (hpl : (backTo pos (starEach es X.env)).any (·.1) = false := by rfl) :
    PE X (.Call (.Name x p) (e :: es) [] pos) (tCall sp [] E0 t) := by
  obtain ⟨f, fd, F, a, b, c, _⟩ := C.ex
  exact pe_call F hr hg b a c .nil pass0 ha hdb he hpl
theorem pe_cal0 {k : Nat} {x : Str} {ps : List Str} {sp : Sp} {p pos : Pos} (C : Cal X.prog X.w X.K X.mg X.base k x ps sp) (hr : Room k X.A) (hg : Gl X x := by rfl)
    (hdb : (x == ("__debug__" : Str)) = false := by decide) : PE X (.Call (.Name x p) [] [] pos) (tCall sp [] E0 tNil) := by
  obtain ⟨f, fd, F, a, b, c, _⟩ := C.ex
  exact pe_call0 F hr hg b a c .nil pass0 hdb
/-- ** of an exponent up to 64 and a base below 2 ^ 10000 -/
def CPowW (i j : Int) : Prop := 0 ≤ j ∧ j ≤ 64 ∧ i.natAbs.log2 < 10000
theorem op_powW : OpR X (binaryOp .Pow) (rI CPowW fun i j => .int (i ^ j.toNat)) := opI fun i j _ _ _ _ _ hc q => by
  obtain ⟨h1, h2, h3⟩ := hc
  refine PyProof.Rows.pow_int h1 ?_ q
  have b : Builtin.Int.intBits i ≤ i.natAbs.log2 + 1 := by
    unfold Builtin.Int.intBits
    split <;> omega
  have h : (Builtin.Int.intBits i : Int) * j ≤ 10000 * j := Int.mul_le_mul_of_nonneg_right (by omega) h1
  omega
/-- a text some times -/
def rRepS : R2 := fun x y H Q => ∃ z i, x = .str z ∧ y = .int i ∧ PySem.MulOk z i ∧ Q (.str (Txt.mul z i)) H
theorem op_strRep : OpR X (binaryOp .Mult) rRepS := by
  intro pins s σ H x y v u Q I rx ry h
  obtain ⟨z, i, rfl, rfl, ok, q⟩ := h
  obtain ⟨t, rfl⟩ := rx
  obtain ⟨t', rfl⟩ := ry
  exact PySem.SB.mul ok fun t' k => ⟨.str _, H, I.tok _, ⟨t', rfl⟩, q⟩
end
theorem mul_ok {z : Str} {i : Int} (h0 : 0 ≤ i) (h1 : i ≤ 1000) (h2 : z.length ≤ 1000) : PySem.MulOk z i := by
  refine ⟨?_, fun a _ => ?_, fun a _ => ?_⟩
  · rw [decide_eq_false (by omega), decide_eq_false (by omega)]
    rfl
  · intro c
    have : (2 ^ 63 - 1 : Int) / 1000 ≤ (2 ^ 63 - 1) / i := by
      refine Int.le_ediv_of_mul_le (by omega) ?_
      have : (2 ^ 63 - 1 : Int) / 1000 * i ≤ (2 ^ 63 - 1 : Int) / 1000 * 1000 := Int.mul_le_mul_of_nonneg_left h1 (by decide)
      exact Int.le_trans this (by decide)
    have e : (2 ^ 63 - 1 : Int) / 1000 = 9223372036854775 := by decide
    omega
  · have : z.length * i.toNat ≤ 1000 * 1000 := Nat.mul_le_mul h2 (by omega)
    generalize z.length * i.toNat = n at this
    show decide (n > sizeLine) = false
    exact decide_eq_false (Nat.not_lt.mpr (Nat.le_trans this (by decide)))
theorem tl_mul (z : Str) (n : Nat) : tl (Txt.mul z (n : Int)) = (List.replicate n (tl z)).flatten := by
  unfold Txt.mul
  split
  · have : n = 0 := by omega
    subst this
    rfl
  · split
    · rename_i h
      rw [Bool.or_eq_true, beq_iff_eq, beq_iff_eq] at h
      rcases h with h | h
      · have : n = 1 := by omega
        subst this
        simp
      · have e : tl z = [] := (len0_tl z).mp h
        rw [e]
        simp
    · have key : ∀ (l : List (Array Nat)) (a : Array Nat), (l.foldl (· ++ ·) a).toList = a.toList ++ (l.map Array.toList).flatten := by
        intro l
        induction l with
        | nil => intro a; simp
        | cons x r ih => intro a; rw [List.foldl_cons, ih]; simp
      show ((List.replicate n z.cps).foldl (· ++ ·) #[]).toList = _
      rw [key, List.map_replicate]
      rfl
theorem pow_ok {i : Int} {n : Nat} (h : i.natAbs < 2 ^ n) (hn : 0 < n) (h2 : n ≤ 10000) : i.natAbs.log2 < 10000 := Nat.lt_of_lt_of_le (PySem.Flt.log2_lt_of hn h) h2
theorem small {n : Nat} (h : n ≤ 100000) : n ≤ sizeLine := Nat.le_trans h (by decide)
theorem small' {n : Nat} (h : n < 100000) : n < sizeLine := Nat.lt_of_lt_of_le h (by decide)

/-! ### heaps that grow: all stays but the tables of code objects, which grow -/
def notTbl : HO → Bool
  | .tbl _ => false
  | _ => true
/-- what may be written over -/
def plainO : HO → Bool
  | .tbl _ => false
  | .frz _ (.frz _ _) => false
  | _ => true
/-- a code object that a table tells -/
def codeH (oc : Obj) : HO := .frz oc (.frz oc (.own 0))
def CodeN (oc : Obj) (q : Str) : Prop := ∃ (vs : Array Value) (t : Tok), oc.data = .fields vs ∧ vs[1]? = some (.str q t)
/-- a code object's table; what it tells of a lambda's place is that lambda's code -/
def Tb (H : Hp) (P : Addr) : Prop := ∃ ps : Array Value, H P = some (.tbl ps) ∧ TriplesOk ps.toList ∧ ∀ x ∈ lams, ∀ cv, codeAmong x.1 ps.toList = some cv → ∃ (c : Addr) (oc : Obj), cv = .ref c ∧ H c = some (codeH oc) ∧ CodeN oc x.2
theorem Tb.g {H : Hp} {P : Addr} (h : Tb H P) : GxR.TabG H P := by
  obtain ⟨ps, h1, h2, _⟩ := h
  exact ⟨ps, h1, h2⟩
theorem Tb.new {H : Hp} {P : Addr} (h : H P = some (.tbl #[])) : Tb H P := ⟨#[], h, True.intro, fun x _ cv hc => by
  have z : codeAmong x.1 [] = some cv := hc
  simp [codeAmong] at z⟩
theorem among_ne {pos gp : Pos} {c cv : Value} (ne : ¬ (pos.line = gp.line ∧ pos.col = gp.col)) (l : List Value) (h : TriplesOk l) (hc : codeAmong pos (l ++ [rawInt gp.line, rawInt gp.col, c]) = some cv) : codeAmong pos l = some cv := by
  fun_induction TriplesOk l with
  | case1 =>
    simp only [List.nil_append, rawInt, codeAmong] at hc
    split at hc
    · rename_i q
      exfalso
      simp only [Bool.and_eq_true, beq_iff_eq] at q
      exact ne ⟨by omega, by omega⟩
    · cases hc
  | case2 a t b u x rest ih =>
    simp only [List.cons_append, codeAmong] at hc ⊢
    split at hc
    · rename_i q
      rw [if_pos q]
      exact hc
    · rename_i q
      rw [if_neg q]
      exact ih h hc
  | case3 l h1 h2 => exact h.elim
class NT (o : HO) : Prop where
  is : notTbl o = true
instance nt1 {xs : List V} : NT (.lst xs) := ⟨rfl⟩
instance nt2 {xs : List V} : NT (.tup xs) := ⟨rfl⟩
instance nt3 {C dx : Addr} {fs : List (Str × V)} : NT (.ins C dx fs) := ⟨rfl⟩
instance nt4 {kvs : List (Key × V)} : NT (.dK kvs) := ⟨rfl⟩
instance nt5 {o : Obj} {u : HO} : NT (.frz o u) := ⟨rfl⟩
instance nt8 {oc : Obj} : NT (codeH oc) := ⟨rfl⟩
instance nt6 {x : Addr} : NT (.own x) := ⟨rfl⟩
instance nt7 {φ : Heap → Prop} : NT (.ext φ) := ⟨rfl⟩
structure Sm (H H' : Hp) : Prop where
  keep0 : ∀ (a : Addr) (o : HO), H a = some o → notTbl o = true → H' a = some o
  tab : ∀ P, Tb H P → Tb H' P
  gone : ∀ a, H' a = none → H a = none
theorem Sm.keep {H H' : Hp} (s : Sm H H') (a : Addr) (o : HO) (h : H a = some o) (nt : notTbl o = true := by rfl) : H' a = some o := s.keep0 a o h nt
theorem Sm.fn {H H' : Hp} (s : Sm H H') (a : Addr) (o : HO) [n : NT o] (h : H a = some o) : H' a = some o := s.keep0 a o h n.is
instance smFn {H H' : Hp} : CoeFun (Sm H H') (fun _ => ∀ (a : Addr) (o : HO) [NT o], H a = some o → H' a = some o) := ⟨fun s => @Sm.fn H H' s⟩
theorem Sm.refl (H : Hp) : Sm H H := ⟨fun _ _ h _ => h, fun _ h => h, fun _ h => h⟩
theorem Sm.trans {H H1 H2 : Hp} (a : Sm H H1) (b : Sm H1 H2) : Sm H H2 := ⟨fun c o h n => b.keep c o (a.keep c o h n) n, fun P h => b.tab P (a.tab P h), fun c h => a.gone c (b.gone c h)⟩
theorem Sm.free {H H' : Hp} (e : Sm H H') {l : Addr} (h : H' l = none) : H l = none := e.gone l h
theorem Sm.seq {K : PySem.W.Frag} {H H' : Hp} {a : Addr} {xs : List V} (e : Sm H H') (h : SqL K H a xs) : SqL K H' a xs := by
  rcases h with (h | ⟨o, h⟩) | h
  · exact .inl (.inl (e _ _ h))
  · exact .inl (.inr ⟨o, e _ _ h⟩)
  · exact .inr h
/-- a table stands apart from what is written -/
theorem TabG.upd {H : Hp} {P p : Addr} {o : HO} (h : Tb H P) (hp : ∀ qs, H p = some qs → plainO qs = true) : Tb (upd H p o) P := by
  obtain ⟨ps, h1, h2, h3⟩ := h
  have ne : P ≠ p := fun e => by
    rw [e] at h1
    have := hp _ h1
    cases this
  refine ⟨ps, by rw [upd_ne ne]; exact h1, h2, fun x hx cv hc => ?_⟩
  obtain ⟨c, oc, e1, e2, e3⟩ := h3 x hx cv hc
  refine ⟨c, oc, e1, ?_, e3⟩
  rw [upd_ne fun z => by
    rw [z] at e2
    have := hp _ e2
    cases this]
  exact e2
theorem Sm.new {H : Hp} {p : Addr} {o : HO} (h : H p = none) : Sm H (upd H p o) := ⟨fun a u e _ => by
  rw [upd_ne (ne_of_none e h)]
  exact e, fun P t => TabG.upd t (fun qs z => by rw [h] at z; cases z), fun a ha => by
  by_cases e : a = p
  · rw [e]
    exact h
  · rw [upd_ne e] at ha
    exact ha⟩
theorem Sm.over {H H' : Hp} {p : Addr} {o : HO} (S : Sm H H') (h : H p = none) (ht : ∀ qs, H' p = some qs → plainO qs = true) : Sm H (upd H' p o) := by
  refine ⟨fun b u e n => ?_, fun P t => TabG.upd (S.tab P t) ht, fun b e => ?_⟩
  · rw [upd_ne (ne_of_none e h)]
    exact S.keep b u e n
  · by_cases z : b = p
    · rw [z]; exact h
    · rw [upd_ne z] at e
      exact S.gone b e
/-- a table grew -/
def Grew (gp : Pos) (P : Addr) (H H' : Hp) : Prop := ∃ ps more : Array Value, H P = some (.tbl ps) ∧ H' P = some (.tbl (ps ++ more)) ∧ TriplesOk (ps ++ more).toList ∧ (more = #[] ∨ ∃ cv, more = #[rawInt gp.line, rawInt gp.col, cv]) ∧ ∀ b, b ≠ P → H' b = H b
theorem Sm.tabbed {H H' : Hp} {P : Addr} {gp : Pos} (t : Tb H P) (hl : ∀ x ∈ lams, ¬ (x.1.line = gp.line ∧ x.1.col = gp.col)) (h : Grew gp P H H') : Sm H H' := by
  obtain ⟨ps, more, h1, h2, h3, h4, h5⟩ := h
  refine ⟨fun a o e n => ?_, fun Q q => ?_, fun a e => ?_⟩
  · have ne : a ≠ P := fun z => by
      rw [z, h1] at e
      rw [← Option.some.inj e] at n
      cases n
    rw [h5 a ne]
    exact e
  · obtain ⟨qs, q1, q2, q3⟩ := q
    have old : ∀ {c : Addr} {oc : Obj}, H c = some (codeH oc) → H' c = some (codeH oc) := fun {c oc} e => by
      rw [h5 c fun z => by rw [z, h1] at e; cases e]
      exact e
    by_cases e : Q = P
    · rw [e, h1] at q1
      cases q1
      refine ⟨ps ++ more, by rw [e]; exact h2, h3, fun x hx cv hc => ?_⟩
      have : codeAmong x.1 ps.toList = some cv := by
        rcases h4 with rfl | ⟨cw, rfl⟩
        · simpa using hc
        · exact among_ne (hl x hx) _ q2 (by simpa using hc)
      obtain ⟨c, oc, e1, e2, e3⟩ := q3 x hx cv this
      exact ⟨c, oc, e1, old e2, e3⟩
    · refine ⟨qs, by rw [h5 Q e]; exact q1, q2, fun x hx cv hc => ?_⟩
      obtain ⟨c, oc, e1, e2, e3⟩ := q3 x hx cv hc
      exact ⟨c, oc, e1, old e2, e3⟩
  · by_cases z : a = P
    · rw [z, h2] at e
      cases e
    · rw [h5 a z] at e
      exact e
/-! ### the bag, and heaps in which it alone was turned -/
def LIM : Nat := 1000000000
/-- the bag at b: how many draws were mixed is at most m -/
def Bag (H : Hp) (b : Addr) (m : Nat) : Prop := ∃ x y z : Int, H b = some (.lst [.int x, .int y, .int z]) ∧ 0 ≤ y ∧ y < 2 ^ 200 ∧ 0 ≤ z ∧ z ≤ m
structure Go (b : Addr) (n : Nat) (H H' : Hp) : Prop where
  keep0 : ∀ (a : Addr) (o : HO), a ≠ b → H a = some o → notTbl o = true → H' a = some o
  bag : ∀ m, Bag H b m → Bag H' b (m + n)
  tab : ∀ P, Tb H P → Tb H' P
  gone : ∀ a, H' a = none → H a = none
theorem Go.keep {b : Addr} {n : Nat} {H H' : Hp} (G : Go b n H H') (a : Addr) (o : HO) (ne : a ≠ b) (h : H a = some o) (nt : notTbl o = true := by rfl) : H' a = some o := G.keep0 a o ne h nt
theorem Bag.mono {H : Hp} {b : Addr} {m n : Nat} (h : Bag H b m) (l : m ≤ n) : Bag H b n := by
  obtain ⟨x, y, z, h1, h2, h3, h4, h5⟩ := h
  exact ⟨x, y, z, h1, h2, h3, h4, by omega⟩
theorem Bag.some {H : Hp} {b : Addr} {m : Nat} (h : Bag H b m) : ∃ xs, H b = some (.lst xs) := by
  obtain ⟨x, y, z, h1, _⟩ := h
  exact ⟨_, h1⟩
theorem Go.refl (b : Addr) (H : Hp) : Go b 0 H H := ⟨fun _ _ _ h _ => h, fun _ h => h, fun _ h => h, fun _ h => h⟩
theorem Go.trans {b : Addr} {n m : Nat} {H H1 H2 : Hp} (x : Go b n H H1) (y : Go b m H1 H2) : Go b (n + m) H H2 :=
  ⟨fun a o e h n => y.keep a o e (x.keep a o e h n) n, fun k h => by
    have z := y.bag _ (x.bag k h)
    exact z.mono (by omega), fun P h => y.tab P (x.tab P h), fun a h => x.gone a (y.gone a h)⟩
theorem Go.mono {b : Addr} {n m : Nat} {H H' : Hp} (x : Go b n H H') (l : n ≤ m) : Go b m H H' := ⟨x.keep0, fun k h => (x.bag k h).mono (by omega), x.tab, x.gone⟩
theorem Go.same {b : Addr} {H H' : Hp} (s : Sm H H') : Go b 0 H H' := ⟨fun a o _ h n => s.keep a o h n, fun m h => by
  obtain ⟨x, y, z, h1, h2⟩ := h
  exact ⟨x, y, z, s _ _ h1, h2⟩, s.tab, s.gone⟩
theorem Go.new {b : Addr} {H : Hp} {p : Addr} {o : HO} (h : H p = none) : Go b 0 H (upd H p o) := Go.same (Sm.new h)
/-- a thing that is no list stands apart from the bag -/
theorem Go.at {b : Addr} {n m : Nat} {H H' : Hp} (G : Go b n H H') (B : Bag H b m) {a : Addr} {o : HO} (h : H a = some o) (no : ∀ xs, o ≠ .lst xs) (nt : notTbl o = true := by rfl) : H' a = some o := by
  refine G.keep a o (fun e => ?_) h nt
  obtain ⟨xs, hx⟩ := B.some
  rw [e, hx] at h
  exact no xs (Option.some.inj h).symm
theorem Go.seqT {K : PySem.W.Frag} {b : Addr} {n m : Nat} {H H' : Hp} (G : Go b n H H') (B : Bag H b m) {a : Addr} {xs : List V} (h : SqT K H a xs) : SqT K H' a xs := by
  rcases h with (h | ⟨o, h⟩) | h
  · exact .inl (.inl (G.at B h fun _ z => by cases z))
  · exact .inl (.inr ⟨o, G.at B h fun _ z => by cases z⟩)
  · exact .inr h
theorem Go.frz {b : Addr} {n m : Nat} {H H' : Hp} (G : Go b n H H') (B : Bag H b m) {a : Addr} {ob : Obj} {u : HO} (h : H a = some (.frz ob u)) : H' a = some (.frz ob u) := G.at B h fun _ z => by cases z
theorem Sm.seqT {K : PySem.W.Frag} {H H' : Hp} (e : Sm H H') {a : Addr} {xs : List V} (h : SqT K H a xs) : SqT K H' a xs := by
  rcases h with (h | ⟨o, h⟩) | h
  · exact .inl (.inl (e _ _ h))
  · exact .inl (.inr ⟨o, e _ _ h⟩)
  · exact .inr h
/-- what was free behind is free ahead -/
theorem Go.free {b : Addr} {n m : Nat} {H H' : Hp} (G : Go b n H H') (B : Bag H b m) {p : Addr} (h : H' p = none) : H p = none := G.gone p h
theorem Bag.ne {H : Hp} {b p : Addr} {m : Nat} (B : Bag H b m) (h : H p = none) : p ≠ b := fun e => by
  obtain ⟨xs, hx⟩ := B.some
  rw [← e, h] at hx
  cases hx
/-- a new list's own address may be written: the rest goes on -/
theorem Go.own {b : Addr} {n m : Nat} {H H' : Hp} {p : Addr} {o : HO} (G : Go b n H H') (B : Bag H b m) (h : H p = none) (hp' : ∀ qs, H' p = some qs → plainO qs = true) : Go b n H (upd H' p o) := by
  have hp := B.ne h
  refine ⟨fun a u e ha nt => ?_, fun k hk => ?_, fun P t => TabG.upd (G.tab P t) hp', fun a ha => ?_⟩
  · rw [upd_ne (ne_of_none ha h)]
    exact G.keep a u e ha nt
  · obtain ⟨x, y, z, h1, h2⟩ := G.bag k hk
    exact ⟨x, y, z, by rw [upd_ne (Ne.symm hp)]; exact h1, h2⟩
  · by_cases e : a = p
    · rw [e]
      exact h
    · rw [upd_ne e] at ha
      exact G.gone a ha
theorem no_tbl {H : Hp} {p : Addr} {xs : List V} (h : H p = some (.lst xs)) : ∀ qs, H p = some qs → plainO qs = true := fun qs z => by
  rw [h] at z
  cases z
  rfl
/-! ### the rules over K alone (within a comprehension's block the context's own K is the same) -/
section
variable {X : Cx} (K : PySem.W.Frag)
theorem ixL (h : X.K = K := by rfl) : IxR X (rIxL K) := h ▸ ix_list
theorem ixT (h : X.K = K := by rfl) : IxR X (rIxT K) := h ▸ ix_tup
theorem eqD (hu : X.A.units + 64 < cLine) (h : X.K = K := by rfl) : OpR X (compareOp .Eq) (rEqD K) := h ▸ op_eqD hu
theorem neD (hu : X.A.units + 64 < cLine) (h : X.K = K := by rfl) : OpR X (compareOp .NotEq) (rNeD K) := h ▸ op_neD hu
def rLenQ (K : PySem.W.Frag) : List V → Hp → VK → Prop := fun xs H Q => ∃ p ys, xs = [.ref p] ∧ (SqL K H p ys ∨ SqT K H p ys) ∧ Q (.int ys.length) H
theorem lenQ (h : X.K = K := by rfl) : CallR X (.builtin "len") (rLenQ K) := h ▸ call_len_seq
def rLenT1 : List V → Hp → VK → Prop := fun xs H Q => ∃ z, xs = [.str z] ∧ z.length ≤ sizeLine ∧ Q (.int z.length) H
theorem lenT : CallR X (.builtin "len") rLenT1 := call_len_str
theorem slL (h : X.K = K := by rfl) : SlR X (rSlL K) := h ▸ sl_list
theorem slT (h : X.K = K := by rfl) : SlR X (rSlA K) := h ▸ sl_tupA
theorem catA (h : X.K = K := by rfl) : OpR X (binaryOp .Add) (rCatA K) := h ▸ op_catA
theorem inQ (h : X.K = K := by rfl) : OpR X (compareOp .In) (rIn K false) := h ▸ op_in_seq
theorem ninQ (h : X.K = K := by rfl) : OpR X (compareOp .NotIn) (rIn K true) := h ▸ op_notIn_seq
def rListOf (K : PySem.W.Frag) : List V → Hp → VK → Prop := fun xs H Q => ∃ p ys, xs = [.ref p] ∧ (SqL K H p ys ∨ SqT K H p ys) ∧ ∀ l, H l = none → Q (.ref l) (upd H l (.lst ys))
theorem listOf (h : X.K = K := by rfl) : CallR X (.type "list") (rListOf K) := h ▸ call_list_of
def rTupOf (K : PySem.W.Frag) : List V → Hp → VK → Prop := fun xs H Q => ∃ p ys, xs = [.ref p] ∧ ((SqL K H p ys ∧ ∀ l, H l = none → Q (.ref l) (upd H l (.tup ys))) ∨ (SqT K H p ys ∧ Q (.ref p) H))
theorem tupOf (h : X.K = K := by rfl) : CallR X (.type "tuple") (rTupOf K) := h ▸ call_tuple_of
theorem isI (h : X.K = K := by rfl) : CallR X (.builtin "isinstance") (rIsi K) := h ▸ call_isi
end
/-! ### defs whose code object is known; the end of a law with tables -/
structure Ftc (K : PySem.W.Frag) (mg : Str → Option Value) (x : Str) (st : Stmt) (ps : List Str) (c : Addr) : Prop where
  ex : ∃ (f : Addr) (oc : Value) (od : Option Addr) (kV doc pm : Value) (an : Option Addr) (ct : Value) (osl : Array (Option Value)),
    K.lookup f = some ⟨oc, od, .func (PySem.W.fnOf x x (defArgs st) (defBody st) (defScope st) .none kV doc pm an (.ref c) ct), osl⟩ ∧ PySem.W.codeIn K (.ref c) x = true ∧ PySem.W.keepIn K (.ref f) = true ∧ mg x = some (.ref f) ∧ Binds K (PySem.W.fnOf x x (defArgs st) (defBody st) (defScope st) .none kV doc pm an (.ref c) ct) ps []
section
variable {P : Program} {w : World} {K : PySem.W.Frag} {mg : Str → Option Value} {base : Heap}
theorem Ftc.cal {x : Str} {st : Stmt} {N ps : List Str} {c : Addr} {sp : Sp} {k : Nat} (F : Ftc K mg x st ps c) (S : FnScope N ps (defScope st)) (len : ∀ vs H Q E, sp vs H Q E → vs.length = ps.length)
    (h : ∀ (f : Addr) (A : Around) (outer : List Env) (s : Shared) (H : Hp) (vs : List V) (Q : VK) (E : XK), Room k (A.deeper (PyProof.Rows.envOfC x (defScope st) s.heap.objs.size f (.ref c))) → sp vs H Q E →
      ∃ t, PSs (cxOf CX0 P w K mg base N x (defScope st) f (.ref c) A outer s H E).nox (defBody st) t ∧ t { nx := fun _ H' => Q .non H', rt := Q } (start N vs) H) : Cal P w K mg base (k + 1) x ps sp := by
  obtain ⟨f, oc, od, kV, doc, pm, an, ct, osl, lk, hcd, kp, g, b⟩ := F.ex
  refine ⟨f, _, fn_of lk hcd S len (fun A outer s H vs Q E hr hsp => ?_), kp, g, b, oc, od, osl, lk⟩
  obtain ⟨t, h1, q⟩ := h f A outer s H vs Q E hr hsp
  exact ⟨t, h1.nox, q⟩
end
def hdOk (vs : Array Value) (c P : Addr) : Bool := (match (vs[11]? : Option Value) with | some (.ref P') => P' == P | _ => false) &&
  (match vs.getD 18 .none with | .str _ _ => true | _ => false) && (match vs.getD 7 .none with | .int _ _ => true | _ => false) &&
  (match vs.getD 9 .none with | .bool _ => true | _ => false) && (match vs.getD 10 .none with | .int _ _ => true | _ => false) && c != P
theorem hdOk_ok {K : PySem.W.Frag} {c P : Addr} {vs : Array Value} {dd : Option Addr} {sl : Array (Option Value)} (h : K.lookup c = some ⟨.type "code", dd, .fields vs, sl⟩) (o : hdOk vs c P = true) : PySem.W.codeHdIn K c P = true := by
  unfold PySem.W.codeHdIn
  rw [h]
  exact o
theorem tri0 : TriplesOk (#[] : Array Value).toList := by
  first
    | trivial
    | exact .nil
    | simp [TriplesOk]
    | decide
def OwnTabs (q : Program) (K : PySem.W.Frag) (mg : Str → Option Value) (h : Heap) : Prop := ∀ (x : Str) (f : Addr), ((PyProof.Rows.recsOf q).any fun e => e.name == x) = true → mg x = some (.ref f) → LamX.OwnTab K f h
theorem walk_ofAll {l : PySem.W.OpenLaw} {n k : Nat} {q : Program} {loose : List Str} {XP : (Str → Option Value) → Heap → Prop} {YP : World → Heap → Prop} {d : DefRec} {K : Params → PySem.W.Frag} {CX : World → CXT} {x : Str}
    (hn : l.most = some n) (hn2 : n ≤ sizeLine) (hdf : d.params.defaults = []) (hr : Room k callerA) (hY : ∀ (w : World) (h : Heap), YP w h → (K w.params).In h)
    (F : ∀ (w : World) (mg : Str → Option Value) (fa : Addr) (h : Heap), YP w h → (K w.params).In h → h.Ns mainGlobals mg → mg d.name = some (.ref fa) → OwnTabs q (K w.params) mg h → LamX.LawAtS l w (K w.params) (CX w) k n x mg fa h)
    (hCX : ∀ (w : World) (H : Hp) (s : Shared) (e : Value) (s' : Shared), CX w [] H s (fun _ _ _ => False) e s' → False) :
    PySem.W.WalkO q loose XP YP l.row.toRowW d [] (fun f vs => PySem.call f vs) := by
  refine Att.attach_callB hn hdf fun w s₀ s₁ mg mb fa o pm cd doc a vs ns G Y ho hd hcd hmg hobj hints hlen hbits hg => ?_
  have KX := hY w _ Y
  have own : OwnTabs q (K w.params) mg s₁.heap := fun x f hrec hx c P o1 fd1 e dd vs1 sl k1 k2 k3 k4 k5 => by
    obtain ⟨dL, hm, hn1⟩ := List.any_eq_true.mp hrec
    have hn2 : dL.name = x := beq_iff_eq.mp hn1
    obtain ⟨a', o', fd', c', P', h1, h2, h3, h4, h5, h6⟩ := G.T.tab dL hm
    rw [hn2, hx] at h1
    cases h1
    have g1 := KX _ _ k1
    rw [g1] at h2
    cases h2
    rw [k2] at h3
    cases h3
    rw [k3] at h4
    cases h4
    obtain ⟨⟨oc, vc, e1, _, e3, e4⟩, hP⟩ := h6
    have g2 := KX _ _ k4
    rw [g2] at e1
    cases e1
    cases e3
    rw [k5] at e4
    cases e4
    exact hP
  obtain ⟨fd, cs, sp, hT, nT, C, hb, hsp, hF⟩ := F w mg fa _ Y KX G.T.g hmg own
  exact LamX.law_callTs KX G.T.g G.T.b G.T.builtins G.T.nolimit hg hT nT C G.T.bmain hobj hints (Nat.le_trans hlen hn2) hr hF hb (fun H hH hS => hsp H a ns hlen hbits hH hS) fun H e s' => hCX w H s₁ e s'
/-! ### all(e for x in it): the generator expression's own frame, its elements by rules (they may call) -/
namespace GA
open PySem PySem.Spec PyProof.Rows L2 GenW
/-- the context of a generator expression's frame: s, H: as it began; pn: the generator itself -/
abbrev genX (X : Cx) (A' : Around) (s : Shared) (H : Hp) (cenv : Env) (fp : List Addr) (pn : List (Addr × Obj)) : Cx :=
  { X with A := A', s_0 := s, H_0 := H, env := cenv, outer := X.stack, stack := cenv :: X.stack, ex := fp, fn := fun _ => false, pn := pn, xe := fun _ _ => False }
abbrev genE (X : Cx) (scope : Scope) (C : Addr) (code : Value) : Env := genEnv scope (cloFrom X.env.cells scope.names []) C code builtinsNs X.env
section
variable {X : Cx} {pins : List (Addr × Obj)} {σ : L2.St} {H : Hp} {s : Shared}
theorem gen_start {scope : Scope} {own : List (Str × Nat)} {fp : List Addr} {A' : Around} {code : Value} {gs : GenState} {a : Addr} {gobj : Obj} {h5 : Heap} {tk : Nat} (I : Inv X pins σ H s) (ok : BlkOk X.N X.env.scope scope own) (hN : X.N.Nodup) (hfp : ∀ b ∈ fp, FpOk X pins H b ∧ b < s.heap.objs.size)
    (hcell : ∀ y ∈ scope.names, y.2 ≠ .cell) (hA : A'.handled = none) (hfr : A'.frames = some (genE X scope s.heap.objs.size code :: X.stack)) (hgs : gs.bare = true) (hsz : s.heap.objs.size < a) (ha : h5.get? a = some gobj) (hgo : ∀ v, gobj.data ≠ .cell v)
    (kp : ∀ b o, s.heap.get? b = some o → h5.get? b = some o) (hns : ∃ m, h5.Ns s.heap.objs.size m) :
    Inv (genX X A' s H (genE X scope s.heap.objs.size code) fp [(a, gobj)]) [] (wipe σ (own.map (·.2))) H { s with gens := s.gens.push gs, toks := tk, heap := h5 } := by
  have hfree : ∀ y ∈ scope.names, y.2 = .free → ∃ c, X.env.cells.lookup y.1 = some c := fun y hy e => by
    rcases ok.free y hy e with k | k
    · exact I.ok.has _ (.inl k)
    · exact I.ok.has _ (.inr k)
  generalize hcenv : genE X scope s.heap.objs.size code = cenv at hfr ⊢
  have hL : cenv.locals = s.heap.objs.size := by rw [← hcenv]; rfl
  have hcl : cenv.cells = cloFrom X.env.cells scope.names [] := by rw [← hcenv]; rfl
  have hsc : cenv.scope = scope := by rw [← hcenv]; rfl
  have cm : ∀ {y c}, (y, c) ∈ cloFrom X.env.cells scope.names [] → X.env.cells.lookup y = some c ∧ c < s.heap.objs.size := fun {y c} hm => by
    rcases cloFrom_mem hm with hm | ⟨h1, rfl⟩
    · cases hm
    · obtain ⟨c, hc⟩ := hfree _ h1 rfl
      rw [hc]
      obtain ⟨w, z⟩ := I.cell _ _ hc
      exact ⟨rfl, z.lt⟩
  have mem : ∀ {y c}, cenv.cells.lookup y = some c → X.env.cells.lookup y = some c ∧ c < s.heap.objs.size := fun {y c} e => by
    rw [hcl] at e
    exact cm (PySem.mem_of_lookup e)
  have look : ∀ {y}, scope.names.lookup y = some .free → ∃ c, cenv.cells.lookup y = some c ∧ X.env.cells.lookup y = some c := fun {y} hl => by
    have hy : (y, NameKind.free) ∈ scope.names := PySem.mem_of_lookup hl
    obtain ⟨c', e'⟩ := mem_lookup (cloFrom_has (cells := X.env.cells) (acc := []) hy)
    rw [← hcl] at e'
    exact ⟨c', e', (mem e').1⟩
  have okB : (genX X A' s H cenv fp [(a, gobj)]).Ok := by
    refine ⟨I.ok.mod, by show cenv.scope.kind = _; rw [hsc]; exact ok.kind, by show cenv.globals = _; rw [← hcenv]; exact I.ok.glob, by show cenv.builtins = _; rw [← hcenv]; rfl, by show s.heap.objs.size ≤ cenv.locals; rw [hL]; exact Nat.le_refl _,
      fun y z c e1 e2 => ?_, fun y hy => ?_, fun y c z e => (by cases z), fun _ => hA, hfr, .inr ⟨rfl, ?_⟩, fun b hb => ⟨?_, fun y c e z => ?_⟩, I.bs, Nat.le_trans I.ok.bsz I.sz, fun b o e hb => ?_, fun b hb z => ?_, I.stack, I.stkFree⟩
    · exact I.ok.inj y z c (mem (show cenv.cells.lookup y = some c from e1)).1 (mem (show cenv.cells.lookup z = some c from e2)).1
    · show ∃ c, cenv.cells.lookup y = some c
      have key : cenv.kindOf y = some .free → ∃ c, cenv.cells.lookup y = some c := fun hk => by
        unfold Env.kindOf at hk
        rw [hsc] at hk
        obtain ⟨c, h1, _⟩ := look hk
        exact ⟨c, h1⟩
      rcases hy with hy | hy
      · exfalso
        have hy : cenv.scope.names.lookup y = some .cell := hy
        rw [hsc] at hy
        exact hcell _ (PySem.mem_of_lookup hy) rfl
      · exact key hy
    · show cenv.frame = some cenv.locals
      rw [← hcenv]
      rfl
    · show b ≠ cenv.locals
      rw [hL]; exact Nat.ne_of_lt (hfp b hb).2
    · have e : cenv.cells.lookup y = some c := e
      exact (hfp b hb).1.2.2.2.2.1 y c (mem e).1 z
    · rcases (hfp b hb).1.2.2.2.1 with z | z
      · exact I.ok.noex b o e z
      · exact absurd (Nat.lt_of_lt_of_le (Heap.lt_size e) (Nat.le_trans I.ok.bsz z)) (Nat.lt_irrefl _)
    · rcases List.mem_cons.mp (I.stkSub b z) with z | z
      · exact (hfp b hb).1.2.1 z
      · exact (hfp b hb).1.2.2.1 z
  obtain ⟨mm, hmm⟩ := hns
  refine ⟨okB, rfl, I.bare.push hgs, Un.kept kp, ⟨mm, ?_, fun i y av e1 e2 e3 => ?_⟩, fun y c e => ?_, ?_, fun y c e => ?_, fun p hp => ?_, I.hok.kept kp, by rw [wipe_length]; exact I.len⟩
  · show Heap.Ns _ cenv.locals _
    rw [hL]
    exact hmm
  · obtain ⟨e2, hne⟩ := wipe_some e2
    have hfr : scope.names.lookup y = some .free := by
      have key : ∀ k, scope.names.lookup y = some k → k = .local ∨ k = .cell ∨ k = .free → scope.names.lookup y = some .free := fun k hk hk' => by
        have no : ¬ (k = .local ∨ k = .cell) := fun hh => by
          rcases ok.own _ (PySem.mem_of_lookup hk) hh with e' | e'
          · obtain ⟨p, hp, hpy⟩ := List.mem_map.mp e'
            have e3 := ok.ix p hp
            have : p.1 = y := hpy
            rw [this] at e3
            exact hne (List.mem_map.mpr ⟨p, hp, nodup_ix hN e3 e1⟩)
          · exact e' (List.mem_of_getElem? e1)
        rcases hk' with rfl | rfl | rfl
        · exact absurd (.inl rfl) no
        · exact absurd (.inr rfl) no
        · exact hk
      have e3 : Vis cenv.scope y := e3
      rw [hsc] at e3
      rcases e3 with e3 | e3 | e3
      · exact key _ e3 (.inl rfl)
      · exact key _ e3 (.inr (.inl rfl))
      · exact key _ e3 (.inr (.inr rfl))
    obtain ⟨m, hn, hl⟩ := I.loc
    have hvis : Vis X.env.scope y := (ok.free _ (PySem.mem_of_lookup hfr) rfl).elim (fun k => .inr (.inl k)) (fun k => .inr (.inr k))
    obtain ⟨w, r, q⟩ := hl i y av e1 e2 hvis
    refine ⟨w, r, .inr ⟨.inr ?_, ?_⟩⟩
    · show cenv.kindOf y = some .free
      unfold Env.kindOf
      rw [hsc]
      exact hfr
    · obtain ⟨c, h1, h2⟩ := look hfr
      rcases q with ⟨k, _⟩ | ⟨_, c', e', z⟩
      · have k : X.env.scope.names.lookup y = some .local := k
        rcases ok.free _ (PySem.mem_of_lookup hfr) rfl with k' | k' <;> rw [show X.env.scope.names.lookup y = _ from k'] at k <;> cases k
      · rw [h2] at e'; cases e'
        exact ⟨c, h1, z.keeps kp⟩
  · have e : cenv.cells.lookup y = some c := e
    obtain ⟨w, z⟩ := I.cell y c (mem e).1
    exact ⟨w, z.keeps kp⟩
  · show H cenv.locals = none
    rw [hL]; exact I.hok.fresh (Nat.le_refl _)
  · have e : cenv.cells.lookup y = some c := e
    exact I.freeC y c (mem e).1
  · have hp' : p = (a, gobj) := List.mem_singleton.mp (by simpa using hp)
    subst hp'
    refine ⟨ha, I.hok.fresh (Nat.le_of_lt hsz), ?_, (fun z => by
      rcases List.mem_cons.mp (I.stkSub a z) with z | z
      · have q := I.lt
        rw [← z] at q
        exact absurd (Nat.lt_trans q hsz) (Nat.lt_irrefl _)
      · exact I.nofs (Nat.le_of_lt hsz) z), hgo⟩
    show a ≠ cenv.locals
    rw [hL]
    exact Nat.ne_of_gt hsz
/-- only generators, tokens, draws turned -/
theorem regens {s' : Shared} (I : Inv X pins σ H s) (ho : s'.os = s.os) (hh : s'.heap = s.heap) (hg : AllBare s'.gens) : Inv X pins σ H s' := by
  obtain ⟨h', g', d', t', o'⟩ := s'
  have e : o' = s.os := ho
  have e2 : h' = s.heap := hh
  subst e e2
  exact I.step (g' := g') (t' := t') (d' := d') (ch := []) (fun b hb => absurd hb (by simp)) (fun b o _ _ _ q _ => q) (fun b o _ _ _ q _ => ⟨o.slots, q⟩) (fun _ _ _ _ n => n) (fun b o _ q => ⟨o, q⟩) (fun _ _ q => q) (fun _ _ _ q => q) (fun b ps q => ⟨#[], by rw [q]; simp⟩) (fun m hm => hm) I.hok hg
end
/-! ### the loop of the frame, handing out a truth a turn -/
/-- the end of the frame: all items were walked -/
def Rg (Xg : Cx) (σw : L2.St) (Qt : Hp → Prop) : GenEnd := fun _ _ r s => r = .ok .next ∧ ∃ H', Inv Xg [] σw H' s ∧ Qt H'
/-- a truth is handed out: False ends it, behind True it goes on -/
def Yg (Xg : Cx) (σw : L2.St) (Qf : Hp → Prop) : Protocol := fun _ _ v s kap => ∃ (b : Bool) (H' : Hp) (pins' : List (Addr × Obj)) (σ' : L2.St), v = .bool b ∧ Inv Xg pins' σ' H' s ∧ (b = false → Qf H') ∧
  (b = true → ∀ s', s'.os = s.os → s'.heap = s.heap → AllBare s'.gens → kap (.send .none) s')
/-- the invariant of the turns -/
def TurnsG (J : It) (g : TG) (te : TE) (own : List Nat) (σ : L2.St) (Qt Qf : Hp → Prop) (W : Nat → Nat → Hp → Prop) : Prop := ∀ i m H, W i m H →
  (J.stop i H ∧ Qt H) ∨ (J.go i H ∧ ∃ Nx : Hp → Prop, (∀ H', Nx H' → ∃ m', m' < m ∧ W (i + 1) m' H') ∧ ∀ x H', J.yld i H x H' → g x (wipe σ own) H' fun σ2 H2 => wipe σ2 own = wipe σ own ∧ te σ2 H2 fun y H3 => ∃ b : Bool, y = .bl b ∧ if b = true then Nx H3 else Qf H3)
section
variable {X : Cx} {σ : L2.St} {elt tg iter : Expr} {scope : Scope} {pos : Pos} {it : Addr} {ce : Env} {fp : List Addr} {pn : List (Addr × Obj)} {sB : Shared} {HB : Hp} {Ar : Around} {J : It} {tn : Nat → Heap → Prop} {g : TG} {te : TE} {own : List Nat} {Qt Qf : Hp → Prop} {W : Nat → Nat → Hp → Prop}
theorem seg_allLoop (hc : X.calm = true) (T : Turn X.prog X.w X.K tg J fp it tn) (hW : TurnsG J g te own σ Qt Qf W) (hco : ce.scope.isCoroutine = false) (hpn : ∀ p ∈ pn, p.1 ∉ fp)
    (pg : PG (genX X (Ar.over (.compLoop (.GeneratorExp elt [⟨tg, iter, [], 0⟩] scope pos) 0 (.ref it) .none ce) []) sB HB ce fp pn) tg g) (pe : PE (genX X (Ar.over (.compLoop (.GeneratorExp elt [⟨tg, iter, [], 0⟩] scope pos) 0 (.ref it) .none ce) []) sB HB ce fp pn) elt te) :
    ∀ (k i m : Nat) (s₀ s : Shared) (H : Hp), m < k → W i m H → Inv (genX X (Ar.over (.compLoop (.GeneratorExp elt [⟨tg, iter, [], 0⟩] scope pos) 0 (.ref it) .none ce) []) sB HB ce fp pn) [] (wipe σ own) H s → tn i s.heap → (∀ b ∈ fp, H b = none) →
      Seg (model X.prog X.w) Ar (Rg (genX X (Ar.over (.compLoop (.GeneratorExp elt [⟨tg, iter, [], 0⟩] scope pos) 0 (.ref it) .none ce) []) sB HB ce fp pn) (wipe σ own) Qt) (Yg (genX X (Ar.over (.compLoop (.GeneratorExp elt [⟨tg, iter, [], 0⟩] scope pos) 0 (.ref it) .none ce) []) sB HB ce fp pn) (wipe σ own) Qf) k s₀ (.compLoop (.GeneratorExp elt [⟨tg, iter, [], 0⟩] scope pos) 0 (.ref it) .none ce) ((model X.prog X.w).den (.compLoop (.GeneratorExp elt [⟨tg, iter, [], 0⟩] scope pos) 0 (.ref it) .none ce)) [] s := by
  have stat : ∀ {σ' : L2.St} {H' : Hp} {s' : Shared}, Inv (genX X (Ar.over (.compLoop (.GeneratorExp elt [⟨tg, iter, [], 0⟩] scope pos) 0 (.ref it) .none ce) []) sB HB ce fp pn) [] σ' H' s' → (∀ b ∈ fp, H' b = none) → ∀ b ∈ fp, FpOk (genX X (Ar.over (.compLoop (.GeneratorExp elt [⟨tg, iter, [], 0⟩] scope pos) 0 (.ref it) .none ce) []) sB HB ce fp pn) [] H' b := fun {σ' H' s'} I' hn b hb =>
    ⟨hn b hb, (I'.ok.exf b hb).1, I'.ok.exfs b hb, .inl hb, fun x c e => (I'.ok.exf b hb).2 x c e, fun p hp z => by
      have hp' : p ∈ pn := by simpa using hp
      rw [← z] at hb
      exact hpn p hp' hb⟩
  intro k
  induction k with
  | zero => intro i m s₀ s H hm; omega
  | succ k ih =>
    intro i m s₀ s H hm w I st nf
    show Seg _ Ar _ _ _ s₀ _ ((compTurn (.GeneratorExp elt [⟨tg, iter, [], 0⟩] scope pos) 0 (.ref it) .none ce).onRaise (leaving ce)) [] s
    rw [compTurn_gen, Sem.onRaise_eq_wrap]
    refine seg_bind_wrap (wpAny_standAt ?_)
    rcases hW i m H w with ⟨stop, qt⟩ | ⟨go, Nx, hNx, step⟩
    · refine seg_bind_wrap (wpAny_mono (T.done (genX X (Ar.over (.compLoop (.GeneratorExp elt [⟨tg, iter, [], 0⟩] scope pos) 0 (.ref it) .none ce) []) sB HB ce fp pn) rfl rfl rfl hc i [] s _ H (fun _ _ => False) I (stat I nf) st stop) (fun r s6 ⟨hr, I6⟩ => ?_) fun _ _ e => e.elim)
      subst hr
      exact seg_end (.ok .next) ⟨rfl, H, I6, qt⟩
    · refine seg_bind_wrap (wpAny_mono (T.item (genX X (Ar.over (.compLoop (.GeneratorExp elt [⟨tg, iter, [], 0⟩] scope pos) 0 (.ref it) .none ce) []) sB HB ce fp pn) rfl rfl rfl hc i [] s _ H (fun _ _ => False) I (stat I nf) st go) (fun r s6 ⟨u, hr, h6⟩ => ?_) fun _ _ e => e.elim)
      subst hr
      refine seg_bind_wrap (wpAny_mono h6 (fun _ s7 ⟨x, H7, I7, r7, y7, st7, n7⟩ => ?_) fun _ _ e => e.elim)
      have I7' := I7.pinned (stat I7 n7) (T.obj _ _ st7)
      refine seg_bind_wrap (wpAny_mono (pg.run _ s7 _ H7 x u _ I7' r7 (step x H7 y7)) (fun _ s8 ⟨σ8, H8, I8, hw8, q8⟩ => ?_) fun _ _ e => e.elim)
      refine seg_bind_wrap ?_
      simp only [List.forIn_nil]
      refine wpAny_pure ?_
      simp only [if_true]
      have hy : ∀ v, yieldOut ce v = yieldValue v := fun v => by simp only [yieldOut, hco, Bool.false_eq_true, if_false]
      simp only [hy]
      rw [Sem.bind_eq_wrap', Sem.bind_eq_wrap', Sem.wrap_wrap, Sem.wrap_wrap]
      refine seg_wrap (wpAny_mono (pe.run _ s8 σ8 H8 _ I8 q8) (fun y s9 ⟨yv, H9, I9, r9, b, eb, q9⟩ => ?_) fun _ _ e => e.elim)
      subst eb
      obtain rfl : y = Value.bool b := r9
      refine seg_at (seg_yield rfl rfl rfl ⟨b, H9, _, σ8, rfl, I9, fun e => ?_, fun e s'' ho hh hg => ?_⟩)
      · subst e
        simpa using q9
      · subst e
        simp only [if_true] at q9
        obtain ⟨m', hm', w'⟩ := hNx H9 q9
        have I9' := regens I9 ho hh hg
        have pin' : ∀ b ∈ fp, ∀ o, s7.heap.get? b = some o → s''.heap.get? b = some o ∧ H9 b = none := fun b hb o e =>
          let z := I9'.pin (b, o) (List.mem_append_right _ (List.mem_append_right _ (mem_pinsAt hb e)))
          ⟨z.1, z.2.1⟩
        have hl : (wipe σ own).length = σ8.length := by rw [← hw8, wipe_length]
        refine seg_again rfl (ih (i + 1) m' s'' s'' H9 (by omega) w' ((I9'.unpinned (pins := [])).weak hl (fun j v e => ?_)) (T.keep _ _ _ st7 fun b hb o e => (pin' b hb o e).1) fun b hb => ?_)
        · rw [← hw8] at e
          exact (wipe_some e).1
        · obtain ⟨o, e, _⟩ := T.obj _ _ st7 b hb
          exact (pin' b hb o e).2
theorem seg_allStart (T : Turn X.prog X.w X.K tg J fp it tn) {R : GenEnd} {Y : Protocol} {k : Nat} {s₀ s : Shared} (st : tn 0 s.heap)
    (loop : Seg (model X.prog X.w) Ar R Y k s₀ (.compLoop (.GeneratorExp elt [⟨tg, iter, [], 0⟩] scope pos) 0 (.ref it) .none ce) ((model X.prog X.w).den (.compLoop (.GeneratorExp elt [⟨tg, iter, [], 0⟩] scope pos) 0 (.ref it) .none ce)) [] s) : Seg (model X.prog X.w) Ar R Y k s₀ (.compStart (.GeneratorExp elt [⟨tg, iter, [], 0⟩] scope pos) 0 (.ref it) .none ce) ((model X.prog X.w).den (.compStart (.GeneratorExp elt [⟨tg, iter, [], 0⟩] scope pos) 0 (.ref it) .none ce)) [] s := by
  show Seg _ Ar _ _ _ s₀ _ ((compStart (.GeneratorExp elt [⟨tg, iter, [], 0⟩] scope pos) 0 (.ref it) .none ce).onRaise (leaving ce)) [] s
  unfold compStart
  rw [Sem.onRaise_eq_wrap]
  show Seg _ Ar _ _ _ s₀ _ ((ask >>= _).wrap _ _ _ _) [] s
  refine seg_bind_wrap (wpAny_askSetting ?_)
  split
  · exact seg_again rfl loop
  · first
      | exact seg_bind_wrap (wpAny_rule (seg_bind_wrap (wpAny_standAt (seg_bind_wrap (T.self _ 0 s _ _ st (seg_again rfl loop))))))
      | (refine seg_bind_wrap (wpAny_rule ?_); show Seg _ Ar _ _ _ s₀ _ ((standAt iter.pos >>= _).wrap _ _ _ _) [] s; exact seg_bind_wrap (wpAny_standAt (seg_bind_wrap (T.self _ 0 s _ _ st (seg_again rfl loop)))))
/-- the consumer: all -/
theorem all_loop {A : Around} {R : Result → Shared → Prop} {a : Addr} {gn : Nat} {gobj : Obj} (hh : A.handled = none) (hd : A.depth < recursionLimit) (hpn : pn = [(a, gobj)]) (hgen : ∀ h : Heap, h.get? a = some gobj → h.IsGen a gn)
    (hT : ∀ (s1 : Shared) (H' : Hp), Inv (genX X (A.in1.in1.over (.compLoop (.GeneratorExp elt [⟨tg, iter, [], 0⟩] scope pos) 0 (.ref it) .none ce) []) sB HB ce fp pn) [] (wipe σ own) H' s1 → Qt H' → ∀ h' : Heap, (∀ b o, s1.heap.get? b = some o → h'.get? b = some o) → R (.ok (.ret (.bool true))) { s1.setGen gn .finished with heap := h' })
    (hF : ∀ (s1 : Shared) (H' : Hp) (pins' : List (Addr × Obj)) (σ' : L2.St) (gs' : GenState), gs'.bare = true → Inv (genX X (A.in1.in1.over (.compLoop (.GeneratorExp elt [⟨tg, iter, [], 0⟩] scope pos) 0 (.ref it) .none ce) []) sB HB ce fp pn) pins' σ' H' s1 → Qf H' → R (.ok (.ret (.bool false))) (s1.setGen gn gs')) :
    ∀ (k : Nat) (s : Shared), s.heap.IsGen a gn → s.heap.NoLimit →
      (∃ gs, s.gens[gn]? = some gs ∧ gs.Goes (model X.prog X.w) A.in1.in1 (Rg (genX X (A.in1.in1.over (.compLoop (.GeneratorExp elt [⟨tg, iter, [], 0⟩] scope pos) 0 (.ref it) .none ce) []) sB HB ce fp pn) (wipe σ own) Qt) (Yg (genX X (A.in1.in1.over (.compLoop (.GeneratorExp elt [⟨tg, iter, [], 0⟩] scope pos) 0 (.ref it) .none ce) []) sB HB ce fp pn) (wipe σ own) Qf) k (.send .none) (s.setGen gn .running)) →
      codeAny (model X.prog X.w) A (.builtin "all.loop" ⟨[.ref a], []⟩) R s := by
  intro k
  induction k with
  | zero =>
    intro s hg hl ⟨gs, hgs, hgo⟩
    refine codeAny_builtin F.entry_all_loop ?_
    rw [Around.under_plainId F.plain_all_loop _]
    show wpAny _ A.in1 (pyNext (.ref a) >>= _) _ _ s
    refine wpAny_bind (wpAny_pyNext_genexpQ (A := A.in1) (P := fun _ _ s => ∃ H', Inv (genX X (A.in1.in1.over (.compLoop (.GeneratorExp elt [⟨tg, iter, [], 0⟩] scope pos) 0 (.ref it) .none ce) []) sB HB ce fp pn) [] (wipe σ own) H' s ∧ Qt H') hh hl hd hg hgs hgo (fun v s1 gs' hb hv => ?_) (fun s1 hp h' hk => ?_))
    · obtain ⟨b, H', pins', σ', rfl, I1, hf, ht⟩ := hv
      refine wpAny_bind (wpAny_holding (wpAny_truthy_bool ?_))
      refine wpAny_bind (wpAny_letGo ?_)
      cases b with
      | true => exact (ht rfl s1 rfl rfl I1.bare).elim
      | false =>
        simp only [Bool.false_eq_true, if_false]
        exact wpAny_bind (wpAny_rule (wpAny_pure (hF s1 H' pins' σ' gs' hb I1 (hf rfl))))
    · obtain ⟨H', I1, qt⟩ := hp
      exact wpAny_bind (wpAny_rule (wpAny_pure (hT s1 H' I1 qt h' hk)))
  | succ k ih =>
    intro s hg hl ⟨gs, hgs, hgo⟩
    have hgl : gn < s.gens.size := (Array.getElem?_eq_some_iff.mp hgs).1
    refine codeAny_builtin F.entry_all_loop ?_
    rw [Around.under_plainId F.plain_all_loop _]
    show wpAny _ A.in1 (pyNext (.ref a) >>= _) _ _ s
    refine wpAny_bind (wpAny_gsz (n := gn + 1) hgl (wpAny_pyNext_genexpQ (A := A.in1) (P := fun _ _ s => ∃ H', Inv (genX X (A.in1.in1.over (.compLoop (.GeneratorExp elt [⟨tg, iter, [], 0⟩] scope pos) 0 (.ref it) .none ce) []) sB HB ce fp pn) [] (wipe σ own) H' s ∧ Qt H') hh hl hd hg hgs hgo (fun v s1 gs' hb hv => ?_) (fun s1 hp h' hk => ?_)))
    · intro hsz
      obtain ⟨b, H', pins', σ', rfl, I1, hf, ht⟩ := hv
      refine wpAny_bind (wpAny_holding (wpAny_truthy_bool ?_))
      refine wpAny_bind (wpAny_letGo ?_)
      cases b with
      | true =>
        simp only [if_true]
        have hsz1 : gn < s1.gens.size := by
          have q : (s1.setGen gn gs').gens.size = s1.gens.size := setGen_size _ _ _
          have hsz' : gn + 1 ≤ (s1.setGen gn gs').gens.size := hsz
          omega
        have ha : s1.heap.get? a = some gobj := (I1.pin (a, gobj) (List.mem_append_left _ (by rw [hpn]; exact List.mem_singleton.mpr rfl))).1
        refine wpAny_pure ⟨plainId_quiet F.plain_all_loop _, ih (s1.setGen gn gs') (hgen _ ha) I1.nolimit ⟨gs', setGen_at hsz1, ?_⟩⟩
        exact ht rfl _ rfl rfl (allBare_setGen (s := s1.setGen gn gs') (allBare_setGen I1.bare hb) rfl)
      | false =>
        simp only [Bool.false_eq_true, if_false]
        exact wpAny_bind (wpAny_rule (wpAny_pure (hF s1 H' pins' σ' gs' hb I1 (hf rfl))))
    · intro hsz
      obtain ⟨H', I1, qt⟩ := hp
      exact wpAny_bind (wpAny_rule (wpAny_pure (hT s1 H' I1 qt h' hk)))
end
/-- all(e for tg in iter); behind its making the def's table may have grown -/
def tAllG (P : Addr) (wi : TI) (g : TG) (te : TE) (own : List Nat) : TE := fun σ H Q => wi σ H fun J H1 => Tb H1 P ∧ ∀ H2, Sm H1 H2 → ∃ W : Nat → Nat → Hp → Prop, (∃ m, W 0 m H2) ∧ TurnsG J g te own σ (Q (.bl true)) (Q (.bl false)) W
section
variable {X : Cx} {c P : Addr} {elt tg iter : Expr} {p pos gpos : Pos} {scope : Scope} {own : List (Str × Nat)} {wi : TI} {g : TG} {te : TE} {k : Nat}
def gobjOf (gn : Nat) (nm qn : Value) : Obj := { cls := .type "generator", data := .fields #[.int gn 0, nm, qn] }
theorem gen_made {pins : List (Addr × Obj)} {σ : L2.St} {H : Hp} {s : Shared} {Q' : Value → Shared → Prop} {R : It → Hp → Prop} (hr : Room (k + 1) X.A) (TB : GxR.TabB X.base X.mg c P) (hN : X.N.Nodup) (ok : BlkOk X.N X.env.scope scope own) (hcell' : (scope.names.all fun y => decide (y.2 ≠ .cell)) = true) (hi : PI X tg iter wi)
    (hcode : X.env.code = .ref c) (hco : scope.isCoroutine = false) (h0 : scope.names.lookup (".0" : Str) = some NameKind.local) (hs : ∀ v, genFold iter X.env v = pure v) (I : Inv X pins σ H s) (h : wi σ H fun J H1 => Tb H1 P ∧ R J H1)
    (hQ : ∀ (J : It) (H1 HB : Hp) (sB s5 : Shared) (it : Addr) (fp : List Addr) (tn : Nat → Heap → Prop) (a : Addr) (gobj : Obj) (gn : Nat) (code : Value), R J H1 → Tb H1 P → Grew gpos P H1 HB → Inv X pins σ HB sB → Turn X.prog X.w X.K tg J fp it tn →
      (∀ b ∈ fp, FpOk X pins HB b ∧ b < sB.heap.objs.size) → tn 0 s5.heap → (∃ nm qn, gobj = gobjOf gn nm qn) → s5.heap.get? a = some gobj → a ∉ fp → s5.gens[gn]? = some (.fresh (.compStart (.GeneratorExp elt [⟨tg, iter, [], 0⟩] scope gpos) 0 (.ref it) .none (genE X scope sB.heap.objs.size code))) →
      Inv (genX X (X.A.in1.in1.over (.compLoop (.GeneratorExp elt [⟨tg, iter, [], 0⟩] scope gpos) 0 (.ref it) .none (genE X scope sB.heap.objs.size code)) []) sB HB (genE X scope sB.heap.objs.size code) fp [(a, gobj)]) [] (wipe σ (own.map (·.2))) HB s5 → Q' (.ref a) s5) :
    wpAny (model X.prog X.w) X.A (eval (.GeneratorExp elt [⟨tg, iter, [], 0⟩] scope gpos) X.env) Q' X.xe s := by
  have hcell : ∀ y ∈ scope.names, y.2 ≠ .cell := fun y hy => of_decide_eq_true (List.all_eq_true.mp hcell' y hy)
  have hfree : ∀ y ∈ scope.names, y.2 = .free → ∃ c, X.env.cells.lookup y.1 = some c := fun y hy e => by
    rcases ok.free y hy e with k | k
    · exact I.ok.has _ (.inl k)
    · exact I.ok.has _ (.inr k)
  refine wpAny_GeneratorExp_make hco (closure_ok hfree) hcell h0 ok.kind (by have := hr.dp; omega) ?_ hs
  refine thn (hi.run pins s σ H _ I h) fun xv s1 hx => thn hx fun itv s2 h2 => ?_
  obtain ⟨it, fp, tn, J, H2, rfl, I2, T, st2, f2, htb, q⟩ := h2
  obtain ⟨ps, hP, ht, _⟩ := id htb
  have hPs : s2.heap.get? P = some { cls := .none, data := .fields ps } := I2.hok P _ hP
  have cd : PySem.W.CodeHd s2.heap c P := TB.code.keeps fun b u e => I2.bk b u e
  refine ⟨I2.nolimit, ?_⟩
  have sz : ∀ b ∈ fp, b < s2.heap.objs.size := fun b hb => by
    obtain ⟨o, e, _⟩ := T.obj _ _ st2 b hb
    exact Heap.lt_size e
  have nP : ∀ b ∈ fp, b ≠ P := fun b hb z => by
    have := (f2 b hb).1
    rw [z, hP] at this
    cases this
  have cont : ∀ (code : Value) (h3 : Heap) (tk : Nat) (ps' : Array Value), Heap.ExtBut P s2.heap h3 → s2.heap.objs.size ≤ h3.objs.size → h3.get? P = some { cls := .none, data := .fields ps' } → (∃ more, ps' = ps ++ more ∧ (more = #[] ∨ ∃ cv, more = #[rawInt gpos.line, rawInt gpos.col, cv])) → TriplesOk ps'.toList →
      wpAny (model X.prog X.w) X.A (builtinsFor X.env.globals X.env.builtins) (fun bi s₄ =>
        ∀ h', h'.Ns s₄.heap.objs.size (fun y => if y = ".0" then some (Value.ref it) else none) → Heap.SameBut s₄.heap.objs.size (s₄.heap.push { cls := .type "frame", data := .dict #[] }) h' →
          Q' (.ref h'.objs.size) { s₄ with
            gens := s₄.gens.push (.fresh (.compStart (.GeneratorExp elt [⟨tg, iter, [], 0⟩] scope gpos) 0 (.ref it) .none (genEnv scope (cloFrom X.env.cells scope.names []) s₄.heap.objs.size code bi X.env))),
            toks := s₄.toks + 1 + 1 + 1,
            heap := h'.push { cls := .type "generator", data := .fields #[.int s₄.gens.size 0, .str "<genexpr>" (s₄.toks + 1), .str (X.env.qual ++ "<genexpr>") (s₄.toks + 1 + 1)] } }) X.xe { s2 with heap := h3, toks := tk } := by
    intro code h3 tk ps' hx hsz hP3 hmore ht3
    obtain ⟨more, em, em2⟩ := hmore
    obtain ⟨bm, ob, e1, e2, e3, e4, e5, e6, e7, e8⟩ := TB.bm
    have I3 := GxR.inv_tab (more := more) (h' := h3) (g' := s2.gens) (d' := s2.drawn) (t' := tk) I2 hP (fun b u hb e => hx b u hb e) (by rw [← em]; exact hP3) I2.bare
    refine wpAny_builtinsFor (m := X.mg) (by rw [I2.ok.glob]; exact (I2.mod.glob.keeps I2.bk).extBut hx TB.gP) e1 e2 (hx _ _ e4 (I2.bk _ _ e5)) e6 e7 e8 ?_
    intro h' hn' hs'
    have hsz' : h'.objs.size = h3.objs.size + 1 := by rw [hs'.1, Heap.size_push]
    have keep' : ∀ b o, h3.get? b = some o → h'.get? b = some o := fun b o e => hs'.extBut b o (Nat.ne_of_lt (Heap.lt_size e)) (Heap.get?_push_of_some _ e)
    have keep5 : ∀ b o, h3.get? b = some o → (h'.push (gobjOf s2.gens.size (.str "<genexpr>" (tk + 1)) (.str (X.env.qual ++ "<genexpr>") (tk + 1 + 1)))).get? b = some o := fun b o e => Heap.get?_push_of_some _ (keep' b o e)
    have fB : ∀ b ∈ fp, FpOk X pins (upd H2 P (.tbl (ps ++ more))) b ∧ b < h3.objs.size := fun b hb => by
      refine ⟨⟨?_, (f2 b hb).2⟩, Nat.lt_of_lt_of_le (sz b hb) hsz⟩
      rw [upd_ne (nP b hb)]
      exact (f2 b hb).1
    have st3 : tn 0 h3 := T.keep _ _ _ st2 fun b hb o e => hx b o (nP b hb) e
    have st5 : tn 0 (h'.push (gobjOf s2.gens.size (.str "<genexpr>" (tk + 1)) (.str (X.env.qual ++ "<genexpr>") (tk + 1 + 1)))) := T.keep _ _ _ st3 fun b _ o e => keep5 b o e
    refine hQ J H2 (upd H2 P (.tbl (ps ++ more))) _ _ it fp tn h'.objs.size _ s2.gens.size code q htb ⟨ps, more, hP, upd_same, by rw [← em]; exact ht3, em2, fun b hb => upd_ne hb⟩ I3 T fB st5 ⟨_, _, rfl⟩ (Heap.get?_push_size _ rfl) (fun hb => ?_) (Array.getElem?_push_size ..) ?_
    · have q1 : h'.objs.size < h3.objs.size := (fB _ hb).2
      rw [hsz'] at q1
      exact absurd (Nat.lt_trans (Nat.lt_succ_self _) q1) (Nat.lt_irrefl _)
    · refine gen_start (code := code) I3 ok hN fB hcell hr.hd ?_ rfl (by show h3.objs.size < h'.objs.size; omega) (Heap.get?_push_size _ rfl) (fun v z => by cases z) keep5 ⟨_, hn'.push _⟩
      show pushEnvs [_] (pushEnvs [] X.A.frames) = _
      rw [I.ok.frames]
      rfl
  cases hf : codeAmong gpos ps.toList with
  | none =>
    refine wpAny_genexprCodeX hcode (cd.code hPs ht) (cd.tab hPs) hf fun c' h' tk hx hge hlt hco' _ htab' _ => ?_
    obtain ⟨o1, vs, f1, tf, fl, tg, inF, tx, tt, op, _, _, _, _, _, _, _, _, _, htr, _⟩ := hco'
    exact cont _ h' tk _ hx (Nat.le_trans hge (Nat.le_of_lt hlt)) htab'.2 ⟨_, rfl, .inr ⟨_, rfl⟩⟩ htr
  | some cv =>
    refine wpAny_genexprCode_hit hcode (cd.code hPs ht) hf ?_
    exact cont cv s2.heap s2.toks ps (Heap.ExtBut.refl _ _) (Nat.le_refl _) hPs ⟨#[], by simp, .inl rfl⟩ ht
theorem pe_allG (hr : Room (k + 1) X.A) (TB : GxR.TabB X.base X.mg c P) (hN : X.N.Nodup) (ok : BlkOk X.N X.env.scope scope own) (hcell' : (scope.names.all fun y => decide (y.2 ≠ .cell)) = true) (hi : PI X tg iter wi) (hm : X.mg "all" = none)
    (hgt : ∀ (A' : Around) (s : Shared) (H : Hp) (C : Addr) (code : Value) (fp : List Addr) (pn : List (Addr × Obj)), Room k A' → PG (genX X A' s H (genE X scope C code) fp pn) tg g)
    (he : ∀ (A' : Around) (s : Shared) (H : Hp) (C : Addr) (code : Value) (fp : List Addr) (pn : List (Addr × Obj)), Room k A' → PE (genX X A' s H (genE X scope C code) fp pn) elt te)
    (hcode : X.env.code = .ref c := by rfl) (hc : X.calm = true := by rfl) (hg : Gl X "all" := by rfl) (hco : scope.isCoroutine = false := by rfl) (h0 : scope.names.lookup (".0" : Str) = some NameKind.local := by rfl)
    (hs : ∀ v, genFold iter X.env v = pure v := by intro _; rfl) (hl : ∀ x ∈ lams, ¬ (x.1.line = gpos.line ∧ x.1.col = gpos.col) := by decide)
    (hse : starEach [(.GeneratorExp elt [⟨tg, iter, [], 0⟩] scope gpos)] X.env = (false, eval (.GeneratorExp elt [⟨tg, iter, [], 0⟩] scope gpos) X.env) :: starEach [] X.env := by rfl) :
    PE X (.Call (.Name "all" p) [(.GeneratorExp elt [⟨tg, iter, [], 0⟩] scope gpos)] [] pos) (tAllG P wi g te (own.map (·.2))) := by
  refine ⟨fun pins s σ H Q I h => ?_⟩
  refine wpAny_Call_Name_kw (ld_blt I hg hm (show bootBuiltins "all" = some (.builtin "all") by decide +kernel) ?_)
  refine PyProof.Rows.callWith_builtin1 ?_ hse (by rfl)
  rw [hse]
  show wpAny _ _ (spliced ((false, eval (.GeneratorExp elt [⟨tg, iter, [], 0⟩] scope gpos) X.env) :: backTo pos (starEach [] X.env))) _ _ s
  refine Calls.spliced_cons (gen_made hr TB hN ok hcell' hi hcode hco h0 hs I h fun J H1 HB sB s5 it fp tn a gobj gn code q ht1 hTb IB T fB st5 hgo ha haf hgs I5 => ?_)
  refine Calls.spliced_nil ?_
  obtain ⟨W, ⟨m0, w0⟩, turns⟩ := q HB (Sm.tabbed ht1 hl hTb)
  obtain ⟨nm, qn, rfl⟩ := hgo
  have hgen : ∀ h : Heap, h.get? a = some (gobjOf gn nm qn) → h.IsGen a gn := fun h e => ⟨_, nm, qn, e, rfl, rfl, rfl⟩
  have hA : Room k (X.A.in1.in1.over (.compLoop (.GeneratorExp elt [⟨tg, iter, [], 0⟩] scope gpos) 0 (.ref it) .none (genE X scope sB.heap.objs.size code)) []) := by
    refine ⟨hr.hd, ?_, ?_⟩
    · have := hr.dp
      show X.A.depth + 0 + 1 + 3 * k + 5 < _
      omega
    · have := hr.un
      show X.A.units + 1 + 1 + 0 + 3 + 16 * k + 200 < _
      omega
  have back : ∀ {s1 : Shared} {H' : Hp} {pins' : List (Addr × Obj)} {σ' : L2.St} (s' : Shared), Inv (genX X (X.A.in1.in1.over (.compLoop (.GeneratorExp elt [⟨tg, iter, [], 0⟩] scope gpos) 0 (.ref it) .none (genE X scope sB.heap.objs.size code)) []) sB HB (genE X scope sB.heap.objs.size code) fp [(a, gobjOf gn nm qn)]) pins' σ' H' s1 → s'.os = s1.os → (∀ b o, s1.heap.get? b = some o → s'.heap.get? b = some o) → AllBare s'.gens → Inv X pins σ H' s' :=
    fun s' I1 ho hk hgb => IB.call' (ch := fp) (ho.trans I1.os) (I1.base.trans (Un.kept hk)) (I1.hok.kept hk) hgb fun b hb => ⟨(fB b hb).1.2.2.2.1, (fB b hb).1.2.1, (fB b hb).1.2.2.2.2.1, (fB b hb).1.2.2.2.2.2⟩
  refine call_function_tree F.kind_all F.plain_all F.entry_all (F.args_all1 _) ?_
  unfold Builtin.«all»
  refine wpAny_bind (m := oneArg "all" _) (wpAny_pure ?_)
  refine wpAny_bind (wpAny_pyIter_gen (hgen _ ha) ?_)
  refine wpAny_pure ⟨plainId_quiet F.plain_all_loop _, all_loop (X := X) (sB := sB) (HB := HB) (own := own.map (·.2)) (σ := σ) (Qt := Q (.bl true)) (Qf := Q (.bl false)) (fp := fp) (pn := [(a, gobjOf gn nm qn)]) (gobj := gobjOf gn nm qn) (ce := (genE X scope sB.heap.objs.size code)) (tg := tg) (iter := iter) (elt := elt) (scope := scope) (pos := gpos) (it := it) hr.hd (by have := hr.dp; omega) rfl hgen
    (fun s1 H' I1 qt h' hk => ?_) (fun s1 H' pins' σ' gs' hb I1 qf => ?_) (m0 + 1) s5 (hgen _ ha) I5.nolimit ⟨_, hgs, rfl, ?_⟩⟩
  · exact ⟨.bl true, H', back _ I1 rfl hk (allBare_setGen I1.bare rfl), rfl, qt⟩
  · exact ⟨.bl false, H', back _ I1 rfl (fun _ _ e => e) (allBare_setGen I1.bare hb), rfl, qf⟩
  · have I5' := regens (s' := s5.setGen gn .running) I5 rfl rfl (allBare_setGen I5.bare rfl)
    refine seg_allStart T st5 (seg_allLoop (own := own.map (·.2)) hc T turns hco (fun p hp => ?_) (hgt _ _ _ _ _ _ _ hA) (he _ _ _ _ _ _ _ hA) (m0 + 1) 0 m0 _ _ HB (Nat.lt_succ_self _) w0 I5' st5 fun b hb => (fB b hb).1.1)
    rw [List.mem_singleton.mp hp]
    exact haf
end
end GA
/-! ### classes: instances made, methods called, methods as values -/
structure Ftm (K : PySem.W.Frag) (C : Addr) (m qual : Str) (st : Stmt) (ps : List Str) : Prop where
  ex : ∃ (f : Addr) (fd : FuncData), Fun K m qual st f fd ∧ Meth K C m f ∧ Binds K fd ps []
/-- the def at f -/
def LkF (K : PySem.W.Frag) (f : Addr) (fd : FuncData) : Prop := ∃ (oc : Value) (od : Option Addr) (osl : Array (Option Value)), K.lookup f = some ⟨oc, od, .func fd, osl⟩
theorem LkF.of {K : PySem.W.Frag} {m qual : Str} {st : Stmt} {f : Addr} {fd : FuncData} (F : Fun K m qual st f fd) : LkF K f fd := by
  obtain ⟨oc, od, _, _, _, _, _, _, osl, _, lk, _⟩ := F.ex
  exact ⟨oc, od, osl, lk⟩
theorem LkF.ofD {K : PySem.W.Frag} {x qual : Str} {params : Arguments} {body : List Stmt} {scope : Scope} {dvs : List V} {kws : List (Str × V)} {f : Addr} {fd : FuncData} (F : FunD K x qual params body scope dvs kws f fd) : LkF K f fd := by
  obtain ⟨oc, od, _, _, _, _, _, _, _, osl, _, lk, _⟩ := F.ex
  exact ⟨oc, od, osl, lk⟩
/-- a method that keeps a promise -/
structure CalM (P : Program) (w : World) (K : PySem.W.Frag) (mg : Str → Option Value) (base : Heap) (k : Nat) (C : Addr) (m : Str) (ps : List Str) (sp : Sp) : Prop where
  ex : ∃ (f : Addr) (fd : FuncData), FnOk P w K mg base CX0 k f fd ps sp ∧ Meth K C m f ∧ Binds K fd ps [] ∧ LkF K f fd
/-- a class that is made by its name; what is missing of its arguments is dvs -/
structure CalC (P : Program) (w : World) (K : PySem.W.Frag) (mg : Str → Option Value) (base : Heap) (k : Nat) (x : Str) (C : Addr) (ps : List Str) (dvs : List V) (sp : Sp) : Prop where
  ex : ∃ (f : Addr) (fd : FuncData) (ds : List Value), FnOk P w K mg base CX0 k f fd ps sp ∧ Mk K C f ∧ Binds K fd ps ds ∧ Vals dvs ds ∧ mg x = some (.ref C) ∧ LkF K f fd
structure Ftk (K : PySem.W.Frag) (mg : Str → Option Value) (x : Str) (C : Addr) (qual : Str) (st : Stmt) (ps : List Str) (dvs : List V) : Prop where
  ex : ∃ (f : Addr) (fd : FuncData) (ds : List Value), FunD K "__init__" qual (defArgs st) (defBody st) (defScope st) dvs [] f fd ∧ Mk K C f ∧ Binds K fd ps ds ∧ Vals dvs ds ∧ mg x = some (.ref C)
/-- the method m of the class at C is the def at g, and may be taken as a value -/
structure Bm (K : PySem.W.Frag) (C : Addr) (m qual : Str) (st : Stmt) (g : Addr) (ps : List Str) : Prop where
  ex : ∃ fd : FuncData, Fun K m qual st g fd ∧ BMeth K C m g ∧ Binds K fd ps []
section
variable {P : Program} {w : World} {K : PySem.W.Frag} {mg : Str → Option Value} {base : Heap} {C : Addr} {x m qual : Str} {st : Stmt} {N ps : List Str} {dvs : List V} {sp : Sp} {k : Nat}
theorem Ftm.cal (F : Ftm K C m qual st ps) (S : FnScope N ps (defScope st)) (len : ∀ vs H Q E, sp vs H Q E → vs.length = ps.length)
    (h : ∀ (f : Addr) (cdv : Value) (A : Around) (outer : List Env) (s : Shared) (H : Hp) (vs : List V) (Q : VK) (E : XK), Room k (A.deeper (PyProof.Rows.envOfC qual (defScope st) s.heap.objs.size f cdv)) → sp vs H Q E →
      ∃ t, PSs (cxOf CX0 P w K mg base N qual (defScope st) f cdv A outer s H E).nox (defBody st) t ∧ t { nx := fun _ H' => Q .non H', rt := Q } (start N vs) H) : CalM P w K mg base (k + 1) C m ps sp := by
  obtain ⟨f, fd, F1, M, b⟩ := F.ex
  exact ⟨f, fd, F1.ok S len (h f), M, b, LkF.of F1⟩
theorem Ftk.cal (F : Ftk K mg x C qual st ps dvs) (S : FnScope N ps (defScope st)) (len : ∀ vs H Q E, sp vs H Q E → vs.length = ps.length)
    (h : ∀ (f : Addr) (cdv : Value) (A : Around) (outer : List Env) (s : Shared) (H : Hp) (vs : List V) (Q : VK) (E : XK), Room k (A.deeper (PyProof.Rows.envOfC qual (defScope st) s.heap.objs.size f cdv)) → sp vs H Q E →
      ∃ t, PSs (cxOf CX0 P w K mg base N qual (defScope st) f cdv A outer s H E).nox (defBody st) t ∧ t { nx := fun _ H' => Q .non H', rt := Q } (start N vs) H) : CalC P w K mg base (k + 1) x C ps dvs sp := by
  obtain ⟨f, fd, ds, F1, M, b, hd, hm⟩ := F.ex
  refine ⟨f, fd, ds, F1.ok S len fun cdv A outer s H vs Q E hr hsp => ?_, M, b, hd, hm, LkF.ofD F1⟩
  obtain ⟨t, h1, q⟩ := h f cdv A outer s H vs Q E hr hsp
  exact ⟨t, h1.nox, q⟩
theorem CalM.mono {j : Nat} (F : CalM P w K mg base j C m ps sp) (h : j ≤ k) : CalM P w K mg base k C m ps sp := by
  obtain ⟨f, fd, F1, M, b, l⟩ := F.ex
  exact ⟨f, fd, F1.mono h, M, b, l⟩
/-- at its own address -/
theorem Bm.ok {g : Addr} (F : Bm K C m qual st g ps) (S : FnScope N ps (defScope st)) (len : ∀ vs H Q E, sp vs H Q E → vs.length = ps.length)
    (h : ∀ (cdv : Value) (A : Around) (outer : List Env) (s : Shared) (H : Hp) (vs : List V) (Q : VK) (E : XK), Room k (A.deeper (PyProof.Rows.envOfC qual (defScope st) s.heap.objs.size g cdv)) → sp vs H Q E →
      ∃ t, PSs (cxOf CX0 P w K mg base N qual (defScope st) g cdv A outer s H E).nox (defBody st) t ∧ t { nx := fun _ H' => Q .non H', rt := Q } (start N vs) H) :
    ∃ fd, FnOk P w K mg base CX0 (k + 1) g fd ps sp ∧ BMeth K C m g ∧ Binds K fd ps [] := by
  obtain ⟨fd, F1, M, b⟩ := F.ex
  exact ⟨fd, F1.ok S len h, M, b⟩
end
section
variable {X : Cx} {C : Addr} {m x : Str} {ps : List Str} {sp : Sp} {k : Nat} {o e : Expr} {es : List Expr} {ta : TE} {t : TA} {p apos pos : Pos} {pl : Sem Bool} {dvs : List V}
theorem pe_calM (F : CalM X.prog X.w X.K X.mg X.base k C m ps sp) (c : Cls X.K C) (hr : Room k X.A) (he : PE X o ta) (ha : PA X (e :: es) t)
    (hst : starEach (e :: es) X.env = (false, eval e X.env) :: starEach es X.env := by rfl) (hpl : (backTo pos (starEach es X.env)).any (·.1) = false := by rfl)
    (ht : eval (.Call (.Attribute o m apos) (e :: es) [] pos) X.env = (do let ov ← eval o X.env; standAt apos.atName; let (f, first) ← holding [ov] (getMethod ov m pl); callWith pos f first (backTo pos (starEach (e :: es) X.env)) (backToKw pos (keywordEach [] X.env))) := by rfl) :
    PE X (.Call (.Attribute o m apos) (e :: es) [] pos) (tMeth C m sp [] E0 ta t) := by
  obtain ⟨f, fd, F1, M, b, _⟩ := F.ex
  exact pe_meth he c M F1 hr b .nil pass0 ha hst hpl ht
theorem pe_calM0 (F : CalM X.prog X.w X.K X.mg X.base k C m ps sp) (c : Cls X.K C) (hr : Room k X.A) (he : PE X o ta)
    (ht : eval (.Call (.Attribute o m apos) [] [] pos) X.env = (do let ov ← eval o X.env; standAt apos.atName; let (f, first) ← holding [ov] (getMethod ov m pl); callWith pos f first (backTo pos (starEach [] X.env)) (backToKw pos (keywordEach [] X.env))) := by rfl) :
    PE X (.Call (.Attribute o m apos) [] [] pos) (tMeth C m sp [] E0 ta tNil) := by
  obtain ⟨f, fd, F1, M, b, _⟩ := F.ex
  exact pe_meth0 he c M F1 hr b .nil pass0 ht
theorem pe_calC (F : CalC X.prog X.w X.K X.mg X.base k x C ps dvs sp) (hr : Room (k + 1) X.A) (ha : PA X (e :: es) t) (hg : Gl X x := by rfl) (hdb : (x == ("__debug__" : Str)) = false := by decide)
    (he : starEach (e :: es) X.env = (false, eval e X.env) :: starEach es X.env := by rfl) (hpl : (backTo pos (starEach es X.env)).any (·.1) = false := by rfl) : PE X (.Call (.Name x p) (e :: es) [] pos) (tMake C sp dvs E0 t) := by
  obtain ⟨f, fd, ds, F1, M, b, hd, hm, _⟩ := F.ex
  exact pe_make M F1 hr hg hm b hd pass0 ha hdb he hpl
theorem pe_calC0 (F : CalC X.prog X.w X.K X.mg X.base k x C ps dvs sp) (hr : Room (k + 1) X.A) (hg : Gl X x := by rfl) (hdb : (x == ("__debug__" : Str)) = false := by decide) : PE X (.Call (.Name x p) [] [] pos) (tMake C sp dvs E0 tNil) := by
  obtain ⟨f, fd, ds, F1, M, b, hd, hm, _⟩ := F.ex
  exact pe_make0 M F1 hr hg hm b hd pass0 hdb
theorem pe_fldK {K : PySem.W.Frag} {f : Str} (he : PE X e ta) (hb : attributeBase e f X.env (eval e X.env) = eval e X.env := by rfl) (hK : X.K = K := by rfl) : PE X (.Attribute e f pos) (tFld K ta f) := by
  subst hK
  exact pe_fld he hb
/-- a statement that is never come to -/
theorem ps_dead {st : Stmt} : PS X st (fun _ _ _ => False) := ⟨fun _ _ _ _ _ _ h => h.elim⟩
/-- o.m, not called: a new bound method -/
def tBnd (C g : Addr) (m : Str) (ta : TE) : TE := fun σ H Q => ta σ H fun x H1 => ∃ a dx fs, x = .ref a ∧ H1 a = some (.ins C dx fs) ∧ fs.lookup m = none ∧ ∀ q, H1 q = none → Q (.ref q) (upd H1 q (.met g a))
theorem pe_bnd {g : Addr} (he : PE X e ta) (c : Cls X.K C) (b : BMeth X.K C m g) (hb : attributeBase e m X.env (eval e X.env) = eval e X.env := by rfl) : PE X (.Attribute e m pos) (tBnd C g m ta) := by
  refine ⟨fun pins s σ H Q I h => ?_⟩
  refine attr_of hb (thn (he.run pins s σ H _ I h) fun u s1 ⟨x, H1, I1, rx, a, dx, fs, ex, ea, l, q⟩ => ?_)
  subst ex
  exact op_getbound I1 ea c b l rx q
/-- y(e, ..), y a name that holds a bound method; S tells what the method's def promises -/
def tMet (i : Nat) (S : Addr → Option Sp) (t : TA) : TE := fun σ H Q => ∃ q g a sp, σ[i]? = some (some (.ref q)) ∧ H q = some (.met g a) ∧ S g = some sp ∧ t σ H fun vs H1 => H1 q = some (.met g a) ∧ sp (.ref a :: vs) H1 Q E0
structure HeldM (P : Program) (w : World) (K : PySem.W.Frag) (mg : Str → Option Value) (base : Heap) (k : Nat) (g : Addr) (sp : Sp) : Prop where
  ex : ∃ (fd : FuncData) (ps : List Str), FnOk P w K mg base CX0 k g fd ps sp ∧ PySem.W.fnIn K g = true ∧ Binds K fd ps []
theorem pe_met {i : Nat} {S : Addr → Option Sp} (A : ∀ g sp, S g = some sp → HeldM X.prog X.w X.K X.mg X.base k g sp) (hr : Room k X.A) (hN : X.N[i]? = some x) (hv : Vis X.env.scope x) (ha : PA X (e :: es) t)
    (hdb : (x == ("__debug__" : Str)) = false := by decide) (hcd : (x == ("__classdict__" : Str)) = false := by decide)
    (he : starEach (e :: es) X.env = (false, eval e X.env) :: starEach es X.env := by rfl) (hpl : (backTo pos (starEach es X.env)).any (·.1) = false := by rfl) : PE X (.Call (.Name x p) (e :: es) [] pos) (tMet i S t) := by
  refine ⟨fun pins s σ H Q I h => ?_⟩
  obtain ⟨q, g, a, sp, hs, hq, hS, ht⟩ := h
  obtain ⟨fd, ps, F, hfi, hb⟩ := (A g sp hS).ex
  refine wpAny_Call_Name_kw (thn ((pe_var (pos := p) hN hv hdb hcd).run pins s σ H (fun v H1 => v = .ref q ∧ H1 = H) I ⟨.ref q, hs, rfl, rfl⟩) fun u s1 ⟨v, H1, I1, r1, q1⟩ => ?_)
  obtain ⟨rfl, rfl⟩ := q1
  cases r1
  have args := ha.run pos pins s1 σ _ _ I1 ht
  rw [he] at args ⊢
  refine callwith_met (by show ((false || (backTo pos (starEach es X.env)).any (·.1)) || false) = false; rw [hpl]; rfl) hfi (PySem.Calls.evalArgs_plain (thn args fun us s2 ⟨vs, H2, I2, r, hq2, q2⟩ => ⟨met_P I2 hq2, ?_⟩))
  have r2 : Vals (V.ref a :: vs) (Value.ref a :: us) := .cons rfl r
  have hl : (Value.ref a :: us ++ []).length = ps.length := by rw [List.append_nil, ← r2.length]; exact F.len _ _ _ _ q2
  have hbt := hb s2 (Value.ref a :: us) I2.kIn hl
  rw [List.append_nil] at hbt
  refine wpAny_call (call_met I2 hq2 (codeAny_mono (F.run X.A X.stack s2 H2 ⟨.ref a :: us, []⟩ (.ref a :: us) (.ref a :: vs) Q E0 hr I2.env0 hbt r2 q2) fun r3 s3 hq3 => match r3, hq3 with
    | .error _, z => (z : False).elim
    | .ok (.ret _), z => I2.after z
    | .ok .next, z => (z : False).elim
    | .ok .brk, z => (z : False).elim
    | .ok .cont, z => (z : False).elim))
end
/-! ### methods with keyword-only parameters that have constants for defaults -/
structure Ftw (K : PySem.W.Frag) (C : Addr) (m qual : Str) (st : Stmt) (kws : List (Str × V)) : Prop where
  ex : ∃ (f : Addr) (fd : FuncData), FunD K m qual (defArgs st) (defBody st) (defScope st) [] kws f fd ∧ Meth K C m f
/-- how such a method's parameters bind: none of the keywords written, or all of them in their order -/
structure KwS (x qual : Str) (st : Stmt) (ps : List Str) (n : Nat) (kws : List Str) : Prop where
  none : ∀ (D : Addr) (doc pm : Value) (an : Option Addr) (cdv ct : Value) (us ks : List Value), us.length = n → ks.length = kws.length → KwChain D (kws.zip ks) (bindArgs (PySem.W.fnOf x qual (defArgs st) (defBody st) (defScope st) .none (.ref D) doc pm an cdv ct) ⟨us, []⟩) (ps.zip (us ++ ks))
  all : ∀ (D : Addr) (doc pm : Value) (an : Option Addr) (cdv ct : Value) (us ws : List Value), us.length = n → ws.length = kws.length → bindArgs (PySem.W.fnOf x qual (defArgs st) (defBody st) (defScope st) .none (.ref D) doc pm an cdv ct) ⟨us, kws.zip ws⟩ = pure (ps.zip (us ++ ws))
structure CalW (P : Program) (w : World) (K : PySem.W.Frag) (mg : Str → Option Value) (base : Heap) (k : Nat) (C : Addr) (m : Str) (ps : List Str) (n : Nat) (kws : List (Str × V)) (sp : Sp) : Prop where
  ex : ∃ (f : Addr) (fd : FuncData), FnOk P w K mg base CX0 k f fd ps sp ∧ Meth K C m f ∧ (∃ ds, Vals (kws.map (·.2)) ds ∧ Binds K fd ps ds) ∧ KBn K fd ps n (kws.map (·.1)) (fun us ws => us ++ ws) (fun vs zs => vs ++ zs) ∧ LkF K f fd
section
variable {P : Program} {w : World} {K : PySem.W.Frag} {mg : Str → Option Value} {base : Heap} {C : Addr} {m qual : Str} {st : Stmt} {N ps : List Str} {sp : Sp} {k n : Nat} {kws : List (Str × V)}
theorem Ftw.cal (F : Ftw K C m qual st kws) (B : KwS m qual st ps n (kws.map (·.1))) (hk : kws ≠ []) (hn : n + kws.length = ps.length) (S : FnScope N ps (defScope st)) (len : ∀ vs H Q E, sp vs H Q E → vs.length = ps.length)
    (h : ∀ (f : Addr) (cdv : Value) (A : Around) (outer : List Env) (s : Shared) (H : Hp) (vs : List V) (Q : VK) (E : XK), Room k (A.deeper (PyProof.Rows.envOfC qual (defScope st) s.heap.objs.size f cdv)) → sp vs H Q E →
      ∃ t, PSs (cxOf CX0 P w K mg base N qual (defScope st) f cdv A outer s H E).nox (defBody st) t ∧ t { nx := fun _ H' => Q .non H', rt := Q } (start N vs) H) : CalW P w K mg base (k + 1) C m ps n kws sp := by
  obtain ⟨f, fd, F1, M⟩ := F.ex
  refine ⟨f, fd, F1.ok S len fun cdv A outer s H vs Q E hr hsp => ?_, M, ?_, ?_, LkF.ofD F1⟩
  · obtain ⟨t, h1, q⟩ := h f cdv A outer s H vs Q E hr hsp
    exact ⟨t, h1.nox, q⟩
  · exact F1.binds0 n hk hn fun D doc pm an cdv ct us ks l1 l2 => B.none D doc pm an cdv ct us ks l1 (by rw [List.length_map]; exact l2)
  · obtain ⟨mv, z⟩ := F1.kbinds0 (ps := ps) n (kws.map (·.1)) [] (fun us _ ws => us ++ ws) hk (fun q hq => (nomatch hq)) (fun r1 _ r3 => Vals.append r1 r3) fun D doc pm an cdv ct us mv ws l1 l2 l3 => B.all D doc pm an cdv ct us ws l1 l3
    exact z
end
def tMethN (C : Addr) (m : Str) (n j : Nat) (sp : Sp) (ta : TE) (t tk : TA) : TE := fun σ H Q => ta σ H fun x H1 => ∃ a dx fs, x = .ref a ∧ H1 a = some (.ins C dx fs) ∧ fs.lookup m = none ∧ t σ H1 fun vs H2 => tk σ H2 fun zs H3 => vs.length + 1 = n ∧ zs.length = j ∧ sp (.ref a :: vs ++ zs) H3 Q E0
section
variable {X : Cx} {C : Addr} {m : Str} {ps : List Str} {sp : Sp} {k n : Nat} {o e : Expr} {es : List Expr} {ta : TE} {t tk : TA} {apos pos : Pos} {pl : Sem Bool} {kws : List (Str × V)} {kwe : List Keyword}
theorem pe_calW (F : CalW X.prog X.w X.K X.mg X.base k C m ps n kws sp) (c : Cls X.K C) (hr : Room k X.A) (he : PE X o ta) (ha : PA X (e :: es) t)
    (hst : starEach (e :: es) X.env = (false, eval e X.env) :: starEach es X.env := by rfl) (hpl : (backTo pos (starEach es X.env)).any (·.1) = false := by rfl)
    (ht : eval (.Call (.Attribute o m apos) (e :: es) [] pos) X.env = (do let ov ← eval o X.env; standAt apos.atName; let (f, first) ← holding [ov] (getMethod ov m pl); callWith pos f first (backTo pos (starEach (e :: es) X.env)) (backToKw pos (keywordEach [] X.env))) := by rfl) :
    PE X (.Call (.Attribute o m apos) (e :: es) [] pos) (tMeth C m sp (kws.map (·.2)) E0 ta t) := by
  obtain ⟨f, fd, F1, M, ⟨ds, vd, b⟩, _⟩ := F.ex
  exact pe_meth he c M F1 hr b vd pass0 ha hst hpl ht
theorem pe_calWN (F : CalW X.prog X.w X.K X.mg X.base k C m ps n kws sp) (c : Cls X.K C) (hr : Room k X.A) (he : PE X o ta) (ha : PA X (e :: es) t) (hkw : PK X kwe tk)
    (hall : (backToKw pos (keywordEach kwe X.env)).all (·.1.isSome) = true := by rfl) (hks : (backToKw pos (keywordEach kwe X.env)).filterMap (·.1) = kws.map (·.1) := by rfl)
    (hst : starEach (e :: es) X.env = (false, eval e X.env) :: starEach es X.env := by rfl) (hpl : ((backTo pos (starEach (e :: es) X.env)).any (·.1) || (backToKw pos (keywordEach kwe X.env)).any (·.1.isNone)) = false := by rfl)
    (ht : eval (.Call (.Attribute o m apos) (e :: es) kwe pos) X.env = (do let ov ← eval o X.env; standAt apos.atName; let (f, first) ← holding [ov] (getMethod ov m pl); callWith pos f first (backTo pos (starEach (e :: es) X.env)) (backToKw pos (keywordEach kwe X.env))) := by rfl) :
    PE X (.Call (.Attribute o m apos) (e :: es) kwe pos) (tMethN C m n kws.length sp ta t tk) := by
  obtain ⟨f, fd, F1, M, _, kb, _⟩ := F.ex
  refine ⟨fun pins s σ H Q I h => ?_⟩
  refine PySem.W.methodCall_KW (pl := pl) (thn (he.run pins s σ H _ I h) fun u s1 ⟨x, H1, I1, rx, a, dx, fs, ex, ea, l, q⟩ => ?_) ht
  subst ex
  obtain rfl : u = Value.ref a := rx
  refine getmeth_ok I1 ea c M l ?_
  refine PySem.W.callWith_KW (first := [.ref a]) (h₀ := X.base) I.ok.mod.kin M.kp hall (thn (ha.run pos pins s1 σ H1 _ I1 q) fun us s2 ⟨vs, H2, I2, r, q2⟩ => ?_) hpl hst
  refine thn (hkw.run pos pins s2 σ H2 _ I2 q2) fun ws s3 ⟨zs, H3, I3, rz, l1, l2, q3⟩ => ⟨I3.kIn, ?_⟩
  rw [hks]
  exact run_fnN (us := .ref a :: us) (vs := .ref a :: vs) F1 hr kb pass0 I3 (.cons rfl r) rz l1 (by rw [List.length_map]; exact l2) q3
end
/-! ### the errors' classes: what their text says of them -/
structure ErrC (K : PySem.W.Frag) (C : Addr) : Prop where
  ex : PySem.W.excIn K C He.veBase "ValueError.__new__" = true
  kp : PySem.W.keepIn K (.ref C) = true
  bs : PySem.W.subIn K (.ref C) (.type "BaseException") = some true
  ty : PySem.W.typeIn K (.ref C) = some (.type "type")
  ve : PySem.W.kitOne K (.ref C) (.type "ValueError") = some true
  is : ExcC K C
def errB (K : PySem.W.Frag) (C : Addr) : Bool :=
  PySem.W.excIn K C He.veBase "ValueError.__new__" && (PySem.W.keepIn K (.ref C) && (decide (PySem.W.subIn K (.ref C) (.type "BaseException") = some true) && (decide (PySem.W.typeIn K (.ref C) = some (.type "type")) && (decide (PySem.W.kitOne K (.ref C) (.type "ValueError") = some true) &&
    (decide (PySem.W.findIn K (.ref C) "__getattribute__" = some (some (.builtin "BaseException.__getattribute__"))) && (decide (PySem.W.findIn K (.ref C) "__getattr__" = some none) && (PySem.W.hasDictIn K C && (decide (PySem.W.findIn K (.ref C) "__class__" = some (some (.builtin "object.__class__"))) &&
      (decide (PySem.W.specialIn K (.builtin "object.__class__") "__get__" = some (some (.builtin "getset_descriptor.__get__"))) && (decide (PySem.W.takesIn K (.builtin "object.__class__") = some true) && decide (PySem.W.mroIn K C (.type "object") = some true)))))))))))
theorem errB_ok {K : PySem.W.Frag} {C : Addr} (h : errB K C = true) : ErrC K C := by
  unfold errB at h
  simp only [Bool.and_eq_true, decide_eq_true_eq] at h
  obtain ⟨h1, h2, h3, h4, h5, h6, h7, h8, h9, h10, h11, h12⟩ := h
  exact ⟨h1, h2, h3, h4, h5, h6, h7, h3, h8, h9, h10, h11, h12⟩
/-- of errors that are raised, and all errors that are spoken of -/
def errsB (K : PySem.W.Frag) (raised all : List Str) : Bool := (raised.all fun D => errB K (He.ga K D)) && raised.all fun D => all.all fun C =>
  decide (PySem.W.kitOne K (.ref (He.ga K D)) (.ref (He.ga K C)) = some (decide (D = C) || decide (C = "StemError"))) && decide (PySem.W.exmOne K (.ref (He.ga K D)) (.ref (He.ga K C)) = some (decide (D = C) || decide (C = "StemError")))
theorem errsB_ok {K : PySem.W.Frag} {raised all : List Str} (h : errsB K raised all = true) : (∀ D ∈ raised, ErrC K (He.ga K D)) ∧ (∀ D ∈ raised, ∀ C ∈ all, PySem.W.kitOne K (.ref (He.ga K D)) (.ref (He.ga K C)) = some (decide (D = C) || decide (C = "StemError"))) ∧
    ∀ D ∈ raised, ∀ C ∈ all, PySem.W.exmOne K (.ref (He.ga K D)) (.ref (He.ga K C)) = some (decide (D = C) || decide (C = "StemError")) := by
  unfold errsB at h
  rw [Bool.and_eq_true] at h
  have g := fun D hD C hC => Bool.and_eq_true_iff.mp (List.all_eq_true.mp (List.all_eq_true.mp h.2 D hD) C hC)
  exact ⟨fun D hD => errB_ok (List.all_eq_true.mp h.1 D hD), fun D hD C hC => of_decide_eq_true (g D hD C hC).1, fun D hD C hC => of_decide_eq_true (g D hD C hC).2⟩
def top (i : Nat) : Stmt := PySem.Challenge.pw_stemkeep_k11_arrays_refused.main.body.getD i (.Pass ⟨0, 0, 0, 0⟩)
abbrev sIsWorth : Stmt := top 23
theorem scIsWorth : FnScope ["thing", "sign"] ["thing"] (defScope sIsWorth) := ⟨rfl, rfl, rfl, by decide +kernel, rfl, by decide +kernel, by decide +kernel⟩
abbrev sNumberOf : Stmt := top 24
theorem scNumberOf : FnScope ["worth", "start", "end", "number"] ["worth"] (defScope sNumberOf) := ⟨rfl, rfl, rfl, by decide +kernel, rfl, by decide +kernel, by decide +kernel⟩
abbrev sNumberOfFigures : Stmt := top 25
theorem scNumberOfFigures : FnScope ["figures", "first", "number", "at"] ["figures"] (defScope sNumberOfFigures) := ⟨rfl, rfl, rfl, by decide +kernel, rfl, by decide +kernel, by decide +kernel⟩
abbrev sIsNumberText : Stmt := top 26
theorem scIsNumberText : FnScope ["worth", "figures", "sign"] ["worth"] (defScope sIsNumberText) := ⟨rfl, rfl, rfl, by decide +kernel, rfl, by decide +kernel, by decide +kernel⟩
abbrev sIsKey : Stmt := top 27
theorem scIsKey : FnScope ["thing"] ["thing"] (defScope sIsKey) := ⟨rfl, rfl, rfl, by decide +kernel, rfl, by decide +kernel, by decide +kernel⟩
abbrev sKeyRank : Stmt := top 28
theorem scKeyRank : FnScope ["key"] ["key"] (defScope sKeyRank) := ⟨rfl, rfl, rfl, by decide +kernel, rfl, by decide +kernel, by decide +kernel⟩
abbrev sBefore : Stmt := top 29
theorem scBefore : FnScope ["one", "other"] ["one", "other"] (defScope sBefore) := ⟨rfl, rfl, rfl, by decide +kernel, rfl, by decide +kernel, by decide +kernel⟩
abbrev sIsName : Stmt := top 30
theorem scIsName : FnScope ["thing", "sign"] ["thing"] (defScope sIsName) := ⟨rfl, rfl, rfl, by decide +kernel, rfl, by decide +kernel, by decide +kernel⟩
abbrev sIsRow : Stmt := top 31
theorem scIsRow : FnScope ["thing", "key"] ["thing"] (defScope sIsRow) := ⟨rfl, rfl, rfl, by decide +kernel, rfl, by decide +kernel, by decide +kernel⟩
abbrev sIsAskingRow : Stmt := top 32
theorem scIsAskingRow : FnScope ["thing", "last"] ["thing"] (defScope sIsAskingRow) := ⟨rfl, rfl, rfl, by decide +kernel, rfl, by decide +kernel, by decide +kernel⟩
abbrev sIsPair : Stmt := top 33
theorem scIsPair : FnScope ["thing"] ["thing"] (defScope sIsPair) := ⟨rfl, rfl, rfl, by decide +kernel, rfl, by decide +kernel, by decide +kernel⟩
abbrev sIsReference : Stmt := top 34
theorem scIsReference : FnScope ["thing"] ["thing"] (defScope sIsReference) := ⟨rfl, rfl, rfl, by decide +kernel, rfl, by decide +kernel, by decide +kernel⟩
abbrev sIsAskingReference : Stmt := top 35
theorem scIsAskingReference : FnScope ["thing"] ["thing"] (defScope sIsAskingReference) := ⟨rfl, rfl, rfl, by decide +kernel, rfl, by decide +kernel, by decide +kernel⟩
abbrev sIsStem : Stmt := top 36
theorem scIsStem : FnScope ["one", "other"] ["one", "other"] (defScope sIsStem) := ⟨rfl, rfl, rfl, by decide +kernel, rfl, by decide +kernel, by decide +kernel⟩
abbrev sMeet : Stmt := top 37
theorem scMeet : FnScope ["one", "other"] ["one", "other"] (defScope sMeet) := ⟨rfl, rfl, rfl, by decide +kernel, rfl, by decide +kernel, by decide +kernel⟩
abbrev sNeedReference : Stmt := top 39
theorem scNeedReference : FnScope ["thing"] ["thing"] (defScope sNeedReference) := ⟨rfl, rfl, rfl, by decide +kernel, rfl, by decide +kernel, by decide +kernel⟩
abbrev sNeedAskingReference : Stmt := top 40
theorem scNeedAskingReference : FnScope ["thing"] ["thing"] (defScope sNeedAskingReference) := ⟨rfl, rfl, rfl, by decide +kernel, rfl, by decide +kernel, by decide +kernel⟩
abbrev sNeedWorth : Stmt := top 41
theorem scNeedWorth : FnScope ["thing"] ["thing"] (defScope sNeedWorth) := ⟨rfl, rfl, rfl, by decide +kernel, rfl, by decide +kernel, by decide +kernel⟩
abbrev sHowManyAhead : Stmt := top 43
theorem scHowManyAhead : FnScope ["row", "key", "low", "high", "middle"] ["row", "key"] (defScope sHowManyAhead) := ⟨rfl, rfl, rfl, by decide +kernel, rfl, by decide +kernel, by decide +kernel⟩
abbrev sTreeInit : Stmt := inClass (top 44) 0
theorem scTreeInit : FnScope ["self"] ["self"] (defScope sTreeInit) := ⟨rfl, rfl, rfl, by decide +kernel, rfl, by decide +kernel, by decide +kernel⟩
abbrev sTreeAt : Stmt := inClass (top 44) 1
theorem scTreeAt : FnScope ["self", "path", "place", "key"] ["self", "path"] (defScope sTreeAt) := ⟨rfl, rfl, rfl, by decide +kernel, rfl, by decide +kernel, by decide +kernel⟩
abbrev sTreePlant : Stmt := inClass (top 44) 2
theorem scTreePlant : FnScope ["self", "path", "worth", "place"] ["self", "path", "worth"] (defScope sTreePlant) := ⟨rfl, rfl, rfl, by decide +kernel, rfl, by decide +kernel, by decide +kernel⟩
abbrev sTreeMade : Stmt := inClass (top 44) 4
theorem scTreeMade : FnScope ["self", "path", "place", "key"] ["self", "path"] (defScope sTreeMade) := ⟨rfl, rfl, rfl, by decide +kernel, rfl, by decide +kernel, by decide +kernel⟩
abbrev sTreeCut : Stmt := inClass (top 44) 6
theorem scTreeCut : FnScope ["self", "path", "size", "above"] ["self", "path"] (defScope sTreeCut) := ⟨rfl, rfl, rfl, by decide +kernel, rfl, by decide +kernel, by decide +kernel⟩
abbrev sTreeNextKey : Stmt := inClass (top 44) 7
theorem scTreeNextKey : FnScope ["self", "key", "back", "at"] ["self", "key", "back"] (defScope sTreeNextKey) := ⟨rfl, rfl, rfl, by decide +kernel, rfl, by decide +kernel, by decide +kernel⟩
abbrev sTreeWalked : Stmt := inClass (top 44) 8
theorem scTreeWalked : FnScope ["self", "path", "found", "key"] ["self", "path"] (defScope sTreeWalked) := ⟨rfl, rfl, rfl, by decide +kernel, rfl, by decide +kernel, by decide +kernel⟩
abbrev sTreePathBehind : Stmt := inClass (top 44) 9
theorem scTreePathBehind : FnScope ["self", "path", "asked", "size", "head", "key"] ["self", "path"] (defScope sTreePathBehind) := ⟨rfl, rfl, rfl, by decide +kernel, rfl, by decide +kernel, by decide +kernel⟩
abbrev sTreePathAhead : Stmt := inClass (top 44) 10
theorem scTreePathAhead : FnScope ["self", "path", "size", "head", "key"] ["self", "path"] (defScope sTreePathAhead) := ⟨rfl, rfl, rfl, by decide +kernel, rfl, by decide +kernel, by decide +kernel⟩
abbrev sTreeFirstPath : Stmt := inClass (top 44) 11
theorem scTreeFirstPath : FnScope ["self", "path", "place"] ["self", "path"] (defScope sTreeFirstPath) := ⟨rfl, rfl, rfl, by decide +kernel, rfl, by decide +kernel, by decide +kernel⟩
abbrev sTreeLastPath : Stmt := inClass (top 44) 12
theorem scTreeLastPath : FnScope ["self", "path", "place"] ["self", "path"] (defScope sTreeLastPath) := ⟨rfl, rfl, rfl, by decide +kernel, rfl, by decide +kernel, by decide +kernel⟩
abbrev sArraysInit : Stmt := inClass (top 46) 0
theorem scArraysInit : FnScope ["self"] ["self"] (defScope sArraysInit) := ⟨rfl, rfl, rfl, by decide +kernel, rfl, by decide +kernel, by decide +kernel⟩
abbrev sArraysPut : Stmt := inClass (top 46) 1
theorem scArraysPut : FnScope ["self", "ref", "worth"] ["self", "ref", "worth"] (defScope sArraysPut) := ⟨rfl, rfl, rfl, by decide +kernel, rfl, by decide +kernel, by decide +kernel⟩
abbrev sArraysRead : Stmt := inClass (top 46) 2
theorem scArraysRead : FnScope ["self", "ref", "otherwise", "place"] ["self", "ref", "otherwise"] (defScope sArraysRead) := ⟨rfl, rfl, rfl, by decide +kernel, rfl, by decide +kernel, by decide +kernel⟩
abbrev sArraysData : Stmt := inClass (top 46) 3
theorem scArraysData : FnScope ["self", "ref", "place"] ["self", "ref"] (defScope sArraysData) := ⟨rfl, rfl, rfl, by decide +kernel, rfl, by decide +kernel, by decide +kernel⟩
abbrev sArraysKill : Stmt := inClass (top 46) 4
theorem scArraysKill : FnScope ["self", "ref", "gone"] ["self", "ref"] (defScope sArraysKill) := ⟨rfl, rfl, rfl, by decide +kernel, rfl, by decide +kernel, by decide +kernel⟩
abbrev sArraysNames : Stmt := inClass (top 46) 5
theorem scArraysNames : FnScope ["self"] ["self"] (defScope sArraysNames) := ⟨rfl, rfl, rfl, by decide +kernel, rfl, by decide +kernel, by decide +kernel⟩
abbrev sArraysCount : Stmt := inClass (top 46) 6
theorem scArraysCount : FnScope ["self"] ["self"] (defScope sArraysCount) := ⟨rfl, rfl, rfl, by decide +kernel, rfl, by decide +kernel, by decide +kernel⟩
abbrev sArraysOrder : Stmt := inClass (top 46) 7
theorem scArraysOrder : FnScope ["self", "ref", "back", "path", "head"] ["self", "ref", "back"] (defScope sArraysOrder) := ⟨rfl, rfl, rfl, by decide +kernel, rfl, by decide +kernel, by decide +kernel⟩
abbrev sArraysFollowing : Stmt := inClass (top 46) 8
theorem scArraysFollowing : FnScope ["self", "ref", "back", "path", "found"] ["self", "ref", "back"] (defScope sArraysFollowing) := ⟨rfl, rfl, rfl, by decide +kernel, rfl, by decide +kernel, by decide +kernel⟩
abbrev sArraysRows : Stmt := inClass (top 46) 9
theorem scArraysRows : FnScope ["self", "ref", "path", "place", "found", "worth"] ["self", "ref"] (defScope sArraysRows) := ⟨rfl, rfl, rfl, by decide +kernel, rfl, by decide +kernel, by decide +kernel⟩
abbrev sArraysMerge : Stmt := inClass (top 46) 10
theorem scArraysMerge : FnScope ["self", "to", "source", "given", "ref", "worth", "keys"] ["self", "to", "source"] (defScope sArraysMerge) := ⟨rfl, rfl, rfl, by decide +kernel, rfl, by decide +kernel, by decide +kernel⟩
abbrev sArraysUproot : Stmt := inClass (top 46) 11
theorem scArraysUproot : FnScope ["self", "ref", "path", "place"] ["self", "ref"] (defScope sArraysUproot) := ⟨rfl, rfl, rfl, by decide +kernel, rfl, by decide +kernel, by decide +kernel⟩
abbrev sPath : Stmt := top 47
theorem scPath : FnScope ["ref"] ["ref"] (defScope sPath) := ⟨rfl, rfl, rfl, by decide +kernel, rfl, by decide +kernel, by decide +kernel⟩
abbrev sReference : Stmt := top 48
theorem scReference : FnScope ["path"] ["path"] (defScope sReference) := ⟨rfl, rfl, rfl, by decide +kernel, rfl, by decide +kernel, by decide +kernel⟩
abbrev sLawCellAt : Stmt := top 50
theorem scLawCellAt : FnScope ["script", "k"] ["script", "k"] (defScope sLawCellAt) := ⟨rfl, rfl, rfl, by decide +kernel, rfl, by decide +kernel, by decide +kernel⟩
abbrev sLawBag : Stmt := top 51
theorem scLawBag : FnScope ["cell", "k"] ["cell", "k"] (defScope sLawBag) := ⟨rfl, rfl, rfl, by decide +kernel, rfl, by decide +kernel, by decide +kernel⟩
abbrev sLawTake : Stmt := top 52
theorem scLawTake : FnScope ["bag", "many", "mixed", "found"] ["bag", "many"] (defScope sLawTake) := ⟨rfl, rfl, rfl, by decide +kernel, rfl, by decide +kernel, by decide +kernel⟩
abbrev sLawKey : Stmt := top 53
theorem scLawKey : FnScope ["bag", "pick", "some", "number", "signs", "k"] ["bag"] (defScope sLawKey) := ⟨rfl, rfl, rfl, by decide +kernel, rfl, by decide +kernel, by decide +kernel⟩
abbrev sLawPool : Stmt := top 54
theorem scLawPool : FnScope ["bag", "names", "pool", "k"] ["bag"] (defScope sLawPool) := ⟨rfl, rfl, rfl, by decide +kernel, rfl, by decide +kernel, by decide +kernel⟩
abbrev sLawRef : Stmt := top 55
theorem scLawRef : FnScope ["bag", "pool", "most", "some", "name", "k"] ["bag", "pool", "most"] (defScope sLawRef) := ⟨rfl, rfl, rfl, by decide +kernel, rfl, by decide +kernel, by decide +kernel⟩
abbrev sLawWorth : Stmt := top 56
theorem scLawWorth : FnScope ["bag", "pick"] ["bag"] (defScope sLawWorth) := ⟨rfl, rfl, rfl, by decide +kernel, rfl, by decide +kernel, by decide +kernel⟩
abbrev sLawBegins : Stmt := top 57
theorem scLawBegins : FnScope ["one", "other"] ["one", "other"] (defScope sLawBegins) := ⟨rfl, rfl, rfl, by decide +kernel, rfl, by decide +kernel, by decide +kernel⟩
abbrev sLawBeneath : Stmt := top 58
theorem scLawBeneath : FnScope ["m", "ref", "one"] ["m", "ref"] (defScope sLawBeneath) := ⟨rfl, rfl, rfl, by decide +kernel, rfl, by decide +kernel, by decide +kernel⟩
abbrev sLawKilled : Stmt := top 59
theorem scLawKilled : FnScope ["m", "ref", "gone", "one"] ["m", "ref"] (defScope sLawKilled) := ⟨rfl, rfl, rfl, by decide +kernel, rfl, by decide +kernel, by decide +kernel⟩
abbrev sLawRank : Stmt := top 60
theorem scLawRank : FnScope ["mark", "signs", "figures", "sign"] ["mark"] (defScope sLawRank) := ⟨rfl, rfl, rfl, by decide +kernel, rfl, by decide +kernel, by decide +kernel⟩
abbrev sLawRanks : Stmt := top 61
theorem scLawRanks : FnScope ["ref", "mark"] ["ref"] (defScope sLawRanks) := ⟨rfl, rfl, rfl, by decide +kernel, rfl, by decide +kernel, by decide +kernel⟩
abbrev sLawWalked : Stmt := top 62
theorem scLawWalked : FnScope ["refs"] ["refs"] (defScope sLawWalked) := ⟨rfl, rfl, rfl, by decide +kernel, rfl, by decide +kernel, by decide +kernel⟩
abbrev sLawSame : Stmt := top 63
theorem scLawSame : FnScope ["found", "due", "k"] ["found", "due"] (defScope sLawSame) := ⟨rfl, rfl, rfl, by decide +kernel, rfl, by decide +kernel, by decide +kernel⟩
abbrev sLawActed : Stmt := top 64
theorem scLawActed : FnScope ["bag", "both", "m", "ref", "kills", "worth", "due", "found", "arrays"] ["bag", "both", "m", "ref"] (defScope sLawActed) := ⟨rfl, rfl, rfl, by decide +kernel, rfl, by decide +kernel, by decide +kernel⟩
abbrev sLawOdd : Stmt := top 65
theorem scLawOdd : FnScope ["bag", "some"] ["bag"] (defScope sLawOdd) := ⟨rfl, rfl, rfl, by decide +kernel, rfl, by decide +kernel, by decide +kernel⟩
abbrev sLawNoRef : Stmt := top 66
theorem scLawNoRef : FnScope ["bag", "pool", "name", "keys", "at", "odd", "some"] ["bag", "pool"] (defScope sLawNoRef) := ⟨rfl, rfl, rfl, by decide +kernel, rfl, by decide +kernel, by decide +kernel⟩
abbrev sLawWord : Stmt := top 67
theorem scLawWord : FnScope ["caught", "pairs", "found", "word", "there"] ["caught"] (defScope sLawWord) := ⟨rfl, rfl, rfl, by decide +kernel, rfl, by decide +kernel, by decide +kernel⟩
abbrev sLawTried : Stmt := top 68
theorem scLawTried : FnScope ["arrays", "door", "ref", "worth", "other", "found", "e"] ["arrays", "door", "ref", "worth", "other"] (defScope sLawTried) := ⟨rfl, rfl, rfl, by decide +kernel, rfl, by decide +kernel, by decide +kernel⟩
abbrev sLawAll : Stmt := top 69
theorem scLawAll : FnScope ["arrays", "found", "name"] ["arrays"] (defScope sLawAll) := ⟨rfl, rfl, rfl, by decide +kernel, rfl, by decide +kernel, by decide +kernel⟩
abbrev sLawRefused : Stmt := top 70
theorem scLawRefused : FnScope ["bag", "arrays", "pool", "door", "worth", "good", "bad", "odd"] ["bag", "arrays", "pool"] (defScope sLawRefused) := ⟨rfl, rfl, rfl, by decide +kernel, rfl, by decide +kernel, by decide +kernel⟩
abbrev sLaw : Stmt := top 71
theorem scLaw : FnScope ["script", "bag", "pool", "both", "m", "k", "j", "due", "one", "arrays"] ["script"] (defScope sLaw) := ⟨rfl, rfl, rfl, by decide +kernel, rfl, by decide +kernel, by decide +kernel⟩
structure Tabs where
  c_is_worth : Addr
  p_is_worth : Addr
  c_is_number_text : Addr
  p_is_number_text : Addr
  c_is_name : Addr
  p_is_name : Addr
  c_is_row : Addr
  p_is_row : Addr
  c__law_walked : Addr
  p__law_walked : Addr
  a_Tree : Addr
  a_Arrays : Addr
  e : Str → Addr
theorem tabB_of {base : Heap} {mg : Str → Option Value} {c P : Addr} (h : LamX.TabB base mg c P) : GxR.TabB base mg c P := ⟨h.code, h.bm, h.gP⟩
def RAISED : List Str := ["NoRef", "NoWorth", "Within", "TooDeep"]
def ALLE : List Str := ["StemError", "NoRef", "NoWorth", "Within", "TooDeep", "NoHead", "NoJob", "Waiting", "NoLock", "Held", "NoDealing", "Erring", "NoProgram", "NoLabel", "TooLong", "NoText"]
structure Txt (K : PySem.W.Frag) (mg : Str → Option Value) (cs : Tabs) : Prop where
  cl_Tree : Cls K cs.a_Tree
  no_Tree_worth : NoAttr K cs.a_Tree "worth"
  no_Tree_row : NoAttr K cs.a_Tree "row"
  no_Tree_beneath : NoAttr K cs.a_Tree "beneath"
  cl_Arrays : Cls K cs.a_Arrays
  no_Arrays__tree : NoAttr K cs.a_Arrays "_tree"
  nc : [cs.a_Tree, cs.a_Arrays].Nodup
  f_is_worth : Ftc K mg "is_worth" sIsWorth ["thing"] cs.c_is_worth
  f_number_of : Ftx K mg "number_of" sNumberOf ["worth"]
  f_number_of_figures : Ftx K mg "_number_of_figures" sNumberOfFigures ["figures"]
  f_is_number_text : Ftc K mg "is_number_text" sIsNumberText ["worth"] cs.c_is_number_text
  f_is_key : Ftx K mg "is_key" sIsKey ["thing"]
  f_key_rank : Ftx K mg "key_rank" sKeyRank ["key"]
  f_before : Ftx K mg "before" sBefore ["one", "other"]
  f_is_name : Ftc K mg "is_name" sIsName ["thing"] cs.c_is_name
  f_is_row : Ftc K mg "is_row" sIsRow ["thing"] cs.c_is_row
  f_is_asking_row : Ftx K mg "is_asking_row" sIsAskingRow ["thing"]
  f_is_pair : Ftx K mg "is_pair" sIsPair ["thing"]
  f_is_reference : Ftx K mg "is_reference" sIsReference ["thing"]
  f_is_asking_reference : Ftx K mg "is_asking_reference" sIsAskingReference ["thing"]
  f_is_stem : Ftx K mg "is_stem" sIsStem ["one", "other"]
  f_meet : Ftx K mg "meet" sMeet ["one", "other"]
  f_need_reference : Ftx K mg "need_reference" sNeedReference ["thing"]
  f_need_asking_reference : Ftx K mg "need_asking_reference" sNeedAskingReference ["thing"]
  f_need_worth : Ftx K mg "need_worth" sNeedWorth ["thing"]
  f_how_many_ahead : Ftx K mg "_how_many_ahead" sHowManyAhead ["row", "key"]
  f_Tree___init__ : Ftk K mg "Tree" cs.a_Tree "Tree.__init__" sTreeInit ["self"] []
  f_Tree_at : Ftm K cs.a_Tree "at" "Tree.at" sTreeAt ["self", "path"]
  f_Tree_plant : Ftm K cs.a_Tree "plant" "Tree.plant" sTreePlant ["self", "path", "worth"]
  f_Tree__made : Ftm K cs.a_Tree "_made" "Tree._made" sTreeMade ["self", "path"]
  f_Tree_cut : Ftm K cs.a_Tree "cut" "Tree.cut" sTreeCut ["self", "path"]
  f_Tree_next_key : Ftm K cs.a_Tree "next_key" "Tree.next_key" sTreeNextKey ["self", "key", "back"]
  f_Tree_walked : Ftm K cs.a_Tree "walked" "Tree.walked" sTreeWalked ["self", "path"]
  f_Tree_path_behind : Ftm K cs.a_Tree "path_behind" "Tree.path_behind" sTreePathBehind ["self", "path"]
  f_Tree_path_ahead : Ftm K cs.a_Tree "path_ahead" "Tree.path_ahead" sTreePathAhead ["self", "path"]
  f_Tree__first_path : Ftm K cs.a_Tree "_first_path" "Tree._first_path" sTreeFirstPath ["self", "path"]
  f_Tree__last_path : Ftm K cs.a_Tree "_last_path" "Tree._last_path" sTreeLastPath ["self", "path"]
  f_Arrays___init__ : Ftk K mg "Arrays" cs.a_Arrays "Arrays.__init__" sArraysInit ["self"] []
  f_Arrays_put : Ftm K cs.a_Arrays "put" "Arrays.put" sArraysPut ["self", "ref", "worth"]
  f_Arrays_read : Ftw K cs.a_Arrays "read" "Arrays.read" sArraysRead [("otherwise", (.str ""))]
  f_Arrays_data : Ftm K cs.a_Arrays "data" "Arrays.data" sArraysData ["self", "ref"]
  f_Arrays_kill : Ftm K cs.a_Arrays "kill" "Arrays.kill" sArraysKill ["self", "ref"]
  f_Arrays_names : Ftm K cs.a_Arrays "names" "Arrays.names" sArraysNames ["self"]
  f_Arrays_count : Ftm K cs.a_Arrays "count" "Arrays.count" sArraysCount ["self"]
  f_Arrays_order : Ftw K cs.a_Arrays "order" "Arrays.order" sArraysOrder [("back", (.bl false))]
  f_Arrays_following : Ftw K cs.a_Arrays "following" "Arrays.following" sArraysFollowing [("back", (.bl false))]
  f_Arrays_rows : Ftm K cs.a_Arrays "rows" "Arrays.rows" sArraysRows ["self", "ref"]
  f_Arrays_merge : Ftm K cs.a_Arrays "merge" "Arrays.merge" sArraysMerge ["self", "to", "source"]
  f_Arrays_uproot : Ftm K cs.a_Arrays "uproot" "Arrays.uproot" sArraysUproot ["self", "ref"]
  f_path : Ftx K mg "_path" sPath ["ref"]
  f_reference : Ftx K mg "_reference" sReference ["path"]
  f_law_cell_at : Ftx K mg "_law_cell_at" sLawCellAt ["script", "k"]
  f_law_bag : Ftx K mg "_law_bag" sLawBag ["cell", "k"]
  f_law_take : Ftx K mg "_law_take" sLawTake ["bag", "many"]
  f_law_key : Ftx K mg "_law_key" sLawKey ["bag"]
  f_law_pool : Ftx K mg "_law_pool" sLawPool ["bag"]
  f_law_ref : Ftx K mg "_law_ref" sLawRef ["bag", "pool", "most"]
  f_law_worth : Ftx K mg "_law_worth" sLawWorth ["bag"]
  f_law_begins : Ftx K mg "_law_begins" sLawBegins ["one", "other"]
  f_law_beneath : Ftx K mg "_law_beneath" sLawBeneath ["m", "ref"]
  f_law_killed : Ftx K mg "_law_killed" sLawKilled ["m", "ref"]
  f_law_rank : Ftx K mg "_law_rank" sLawRank ["mark"]
  f_law_ranks : Ftx K mg "_law_ranks" sLawRanks ["ref"]
  f_law_walked : Ftc K mg "_law_walked" sLawWalked ["refs"] cs.c__law_walked
  f_law_same : Ftx K mg "_law_same" sLawSame ["found", "due"]
  f_law_acted : Ftx K mg "_law_acted" sLawActed ["bag", "both", "m", "ref"]
  f_law_odd : Ftx K mg "_law_odd" sLawOdd ["bag"]
  f_law_no_ref : Ftx K mg "_law_no_ref" sLawNoRef ["bag", "pool"]
  f_law_word : Ftx K mg "_law_word" sLawWord ["caught"]
  f_law_tried : Ftx K mg "_law_tried" sLawTried ["arrays", "door", "ref", "worth", "other"]
  f_law_all : Ftx K mg "_law_all" sLawAll ["arrays"]
  f_law_refused : Ftx K mg "_law_refused" sLawRefused ["bag", "arrays", "pool"]
  f_law : Ftx K mg "law" sLaw ["script"]
  xg : ∀ x ∈ ALLE, mg x = some (.ref (cs.e x))
  xc : ∀ D ∈ RAISED, ErrC K (cs.e D)
  xk : ∀ D ∈ RAISED, ∀ C ∈ ALLE, PySem.W.kitOne K (.ref (cs.e D)) (.ref (cs.e C)) = some (decide (D = C) || decide (C = "StemError"))
  xm : ∀ D ∈ RAISED, ∀ C ∈ ALLE, PySem.W.exmOne K (.ref (cs.e D)) (.ref (cs.e C)) = some (decide (D = C) || decide (C = "StemError"))
  n_isinstance : mg "isinstance" = none
  n_str : mg "str" = none
  n_all : mg "all" = none
  n_ord : mg "ord" = none
  n_len : mg "len" = none
  n_int : mg "int" = none
  n_range : mg "range" = none
  n_tuple : mg "tuple" = none
  n_list : mg "list" = none
  n_max : mg "max" = none
  n_sorted : mg "sorted" = none
  n_bool : mg "bool" = none
  n_ValueError : mg "ValueError" = none
  n_min : mg "min" = none
  g__PERCENT : ∃ u, mg "_PERCENT" = some u ∧ RelV (.int 37) u
  g__FIGURES : ∃ u, mg "_FIGURES" = some u ∧ RelV (.str "0123456789") u
  g__LONGEST_KEY : ∃ u, mg "_LONGEST_KEY" = some u ∧ RelV (.int 40) u
  g__LONGEST_NAME : ∃ u, mg "_LONGEST_NAME" = some u ∧ RelV (.int 8) u
  g_MOST_KEYS : ∃ u, mg "MOST_KEYS" = some u ∧ RelV (.int 6) u
structure TBs (base : Heap) (mg : Str → Option Value) (cs : Tabs) : Prop where
  triv : True
  b_is_worth : GxR.TabB base mg cs.c_is_worth cs.p_is_worth
  b_is_number_text : GxR.TabB base mg cs.c_is_number_text cs.p_is_number_text
  b_is_name : GxR.TabB base mg cs.c_is_name cs.p_is_name
  b_is_row : GxR.TabB base mg cs.c_is_row cs.p_is_row
  b__law_walked : GxR.TabB base mg cs.c__law_walked cs.p__law_walked
structure TGs (H : Hp) (cs : Tabs) : Prop where
  triv : True
  t_is_worth : Tb H cs.p_is_worth
  t_is_number_text : Tb H cs.p_is_number_text
  t_is_name : Tb H cs.p_is_name
  t_is_row : Tb H cs.p_is_row
  t__law_walked : Tb H cs.p__law_walked
theorem TGs.sm {H H' : Hp} {cs : Tabs} (t : TGs H cs) (S : Sm H H') : TGs H' cs := ⟨trivial, S.tab _ t.t_is_worth, S.tab _ t.t_is_number_text, S.tab _ t.t_is_name, S.tab _ t.t_is_row, S.tab _ t.t__law_walked⟩
theorem TGs.tabs {H H' : Hp} {cs : Tabs} (t : TGs H cs) (S : ∀ P, Tb H P → Tb H' P) : TGs H' cs := ⟨trivial, S _ t.t_is_worth, S _ t.t_is_number_text, S _ t.t_is_name, S _ t.t_is_row, S _ t.t__law_walked⟩
theorem TGs.go {b : Addr} {n : Nat} {H H' : Hp} {cs : Tabs} (t : TGs H cs) (S : Go b n H H') : TGs H' cs := ⟨trivial, S.tab _ t.t_is_worth, S.tab _ t.t_is_number_text, S.tab _ t.t_is_name, S.tab _ t.t_is_row, S.tab _ t.t__law_walked⟩
/-! ### dicts whose keys are tuples, of any depth to eight -/
namespace DN
open PySem (NestedKey NestedIs NestedAll nestedKind HeapKind atKey storedH withoutH)
mutual
/-- the value v is the key k, by the tuples that are tracked -/
inductive NK (H : Hp) : NestedKey → V → Prop
  | non : NK H .none .non
  | int (i : Int) : NK H (.num i) (.int i)
  | str (x : Str) : NK H (.text x) (.str x)
  | tup {a : Addr} {vs : List V} {ks : List NestedKey} : H a = some (.tup vs) → NKs H ks vs → NK H (.tup ks) (.ref a)
inductive NKs (H : Hp) : List NestedKey → List V → Prop
  | nil : NKs H [] []
  | cons {k : NestedKey} {v : V} {ks : List NestedKey} {vs : List V} : NK H k v → NKs H ks vs → NKs H (k :: ks) (v :: vs)
end
mutual
theorem NK.mono {H H' : Hp} (t : ∀ a vs, H a = some (.tup vs) → H' a = some (.tup vs)) : ∀ {k : NestedKey} {v : V}, NK H k v → NK H' k v
  | _, _, .non => .non
  | _, _, .int i => .int i
  | _, _, .str x => .str x
  | _, _, .tup h r => .tup (t _ _ h) (NKs.mono t r)
theorem NKs.mono {H H' : Hp} (t : ∀ a vs, H a = some (.tup vs) → H' a = some (.tup vs)) : ∀ {ks : List NestedKey} {vs : List V}, NKs H ks vs → NKs H' ks vs
  | _, _, .nil => .nil
  | _, _, .cons h r => .cons (h.mono t) (r.mono t)
end
mutual
theorem NK.is {P : Program} {w : World} {H : Hp} {h : Heap} (ok : HOk P w H h) : ∀ {k : NestedKey} {v : V} {u : Value}, NK H k v → RelV v u → NestedIs h k u
  | _, _, u, .non, r => by
    cases (show u = Value.none from r)
    exact .none
  | _, _, u, .int i, r => by
    obtain ⟨t, rfl⟩ := r
    exact .int i t
  | _, _, u, .str x, r => by
    obtain ⟨t, rfl⟩ := r
    exact .text x t
  | _, _, u, .tup (a := a) (vs := vs) e q, r => by
    cases (show u = Value.ref a from r)
    obtain ⟨_, its, rv, o, ho, hc, n, hd⟩ := (show ObjOk P w H h a (.tup vs) from ok a _ e)
    exact .tup ho hc hd (NKs.is ok q rv)
theorem NKs.is {P : Program} {w : World} {H : Hp} {h : Heap} (ok : HOk P w H h) : ∀ {ks : List NestedKey} {vs : List V} {us : List Value}, NKs H ks vs → Vals vs us → NestedAll h ks us
  | _, _, _, .nil, r => by
    cases r
    exact .nil
  | _, _, _, .cons e q, r => by
    cases r with
    | cons r1 r2 => exact .cons (e.is ok r1) (q.is ok r2)
end
/-- an entry: the key, its own tuple, the value -/
abbrev Ent : Type := NestedKey × Addr × V
abbrev EntR : List Ent → List (NestedKey × Addr × Value) → Prop := Paired fun p q => p.1 = q.1 ∧ p.2.1 = q.2.1 ∧ RelV p.2.2 q.2.2
def raw (w : World) (x : NestedKey × Addr × Value) : DictEntry := ⟨x.1.hash w, .ref x.2.1, x.2.2⟩
def dnP (w : World) (a : Addr) (L : List Ent) (h : Heap) : Prop :=
  L.length ≤ sizeLine ∧ (a == sysModules) = false ∧ ∃ (xs : List (NestedKey × Addr × Value)) (o : Obj) (es : Array DictEntry) (ep : Nat), EntR L xs ∧ h.get? a = some o ∧ o.ExactDict ∧ o.data = .dict es ep ∧ es.toList = xs.map (raw w)
/-- the dict at a, entry by entry -/
def dnO (w : World) (a : Addr) (L : List Ent) : HO := .ext (dnP w a L)
theorem dnO_ok {P : Program} {w : World} {H : Hp} {h : Heap} {a : Addr} {L : List Ent} (x : dnP w a L h) : ObjOk P w H h a (dnO w a L) := by
  refine ⟨x, ?_, fun h1 h2 y k => ?_⟩
  · obtain ⟨_, _, _, o, _, _, _, ho, _⟩ := x
    exact ⟨o, ho⟩
  · obtain ⟨z, d, xs, o, es, ep, r, ho, q⟩ := y
    exact ⟨z, d, xs, o, es, ep, r, k o ho, q⟩
structure At (w : World) (H : Hp) (a : Addr) (L : List Ent) : Prop where
  it : H a = some (dnO w a L)
  keys : ∀ p ∈ L, NK H p.1 (.ref p.2.1) ∧ p.1.depth ≤ 8
  nd : (L.map (·.1)).Nodup
/-- the dict may be read: it is there, or locked -/
structure Rd (w : World) (H : Hp) (a : Addr) (L : List Ent) : Prop where
  it : L2.Rd H a (dnO w a L)
  keys : ∀ p ∈ L, NK H p.1 (.ref p.2.1) ∧ p.1.depth ≤ 8
  nd : (L.map (·.1)).Nodup
theorem At.rd {w : World} {H : Hp} {a : Addr} {L : List Ent} (d : At w H a L) : Rd w H a L := ⟨.inl d.it, d.keys, d.nd⟩
theorem ent_keys {L : List Ent} {xs : List (NestedKey × Addr × Value)} (r : EntR L xs) : L.map (·.1) = xs.map (·.1) := by
  induction r with
  | nil => rfl
  | cons h _ ih => rw [List.map_cons, List.map_cons, ih, h.1]
theorem ent_mem {L : List Ent} {xs : List (NestedKey × Addr × Value)} (r : EntR L xs) : ∀ x ∈ xs, ∃ p ∈ L, p.1 = x.1 ∧ p.2.1 = x.2.1 := by
  induction r with
  | nil => exact fun x h => nomatch h
  | cons h _ ih =>
    intro x hx
    rcases List.mem_cons.mp hx with rfl | hx
    · exact ⟨_, .head _, h.1, h.2.1⟩
    · obtain ⟨p, hp, q⟩ := ih x hx
      exact ⟨p, .tail _ hp, q⟩
theorem Rd.of {P : Program} {w : World} {H : Hp} {h : Heap} {a : Addr} {L : List Ent} (ok : HOk P w H h) (d : Rd w H a L) : L.length ≤ sizeLine ∧ (a == sysModules) = false ∧ ∃ xs, EntR L xs ∧ h.DictOfH (nestedKind P w) a xs := by
  obtain ⟨z, s, xs, o, es, ep, r, ho, hx, hd, he⟩ := (show dnP w a L h from (d.it.ok ok).1)
  refine ⟨z, s, xs, r, o, es, ep, ho, hx, hd, he, fun x hx => ?_, by rw [← ent_keys r]; exact d.nd⟩
  obtain ⟨p, hp, e1, e2⟩ := ent_mem r x hx
  obtain ⟨k1, k2⟩ := d.keys p hp
  rw [e1] at k1 k2
  rw [e2] at k1
  exact ⟨k1.is ok rfl, k2⟩
/-- what is at a key -/
def val (L : List Ent) (k : NestedKey) : Option V := (L.find? fun p => decide (p.1 = k)).map (·.2.2)
theorem EntR.val {L : List Ent} {xs : List (NestedKey × Addr × Value)} (r : EntR L xs) (k : NestedKey) : RelO (val L k) ((atKey xs k).map (·.2)) := by
  induction r with
  | nil => exact trivial
  | @cons p q l m h _ ih =>
    unfold DN.val atKey at ih ⊢
    rw [List.find?_cons, List.find?_cons, ← h.1]
    cases decide (p.1 = k) with
    | true => exact h.2.2
    | false => exact ih
def put (L : List Ent) (k : NestedKey) (b : Addr) (v : V) : List Ent := if (val L k).isSome = true then L.map (fun p => if p.1 = k then (p.1, p.2.1, v) else p) else L ++ [(k, b, v)]
def drop (L : List Ent) (k : NestedKey) : List Ent := L.filter fun p => decide (p.1 ≠ k)
theorem EntR.repl {L : List Ent} {xs : List (NestedKey × Addr × Value)} (r : EntR L xs) (k : NestedKey) {y : V} {u : Value} (ry : RelV y u) : EntR (L.map fun p => if p.1 = k then (p.1, p.2.1, y) else p) (xs.map (PySem.putAt k u)) := by
  induction r with
  | nil => exact .nil
  | @cons p q l m h _ ih =>
    rw [List.map_cons, List.map_cons]
    refine .cons ?_ ih
    unfold PySem.putAt
    by_cases e : p.1 = k
    · rw [if_pos e, if_pos (h.1.symm.trans e)]
      exact ⟨h.1, h.2.1, ry⟩
    · rw [if_neg e, if_neg fun z => e (h.1.trans z)]
      exact h
theorem EntR.snoc {L : List Ent} {xs : List (NestedKey × Addr × Value)} (r : EntR L xs) {p : Ent} {q : NestedKey × Addr × Value} (h : p.1 = q.1 ∧ p.2.1 = q.2.1 ∧ RelV p.2.2 q.2.2) : EntR (L ++ [p]) (xs ++ [q]) := by
  induction r with
  | nil => exact .cons h .nil
  | cons g _ ih => exact .cons g ih
theorem EntR.put {L : List Ent} {xs : List (NestedKey × Addr × Value)} (r : EntR L xs) (k : NestedKey) (b : Addr) {y : V} {u : Value} (ry : RelV y u) : EntR (put L k b y) (storedH xs k b u) := by
  have q := (EntR.val r k).isSome_eq
  rw [Option.isSome_map] at q
  unfold DN.put storedH
  rw [q]
  split
  · exact EntR.repl r k ry
  · exact EntR.snoc r ⟨rfl, rfl, ry⟩
theorem EntR.drop {L : List Ent} {xs : List (NestedKey × Addr × Value)} (r : EntR L xs) (k : NestedKey) : EntR (drop L k) (withoutH xs k) := by
  induction r with
  | nil => exact .nil
  | @cons p q l m h _ ih =>
    unfold DN.drop withoutH at ih ⊢
    rw [List.filter_cons, List.filter_cons, ← h.1]
    split
    · exact .cons h ih
    · exact ih
/-! #### the pairs as mathematics -/
theorem val_map (k j : NestedKey) (y : V) : ∀ L : List Ent, val (L.map fun p => if p.1 = k then (p.1, p.2.1, y) else p) j = (val L j).map fun x => if j = k then y else x
  | [] => rfl
  | p :: r => by
    have ih := val_map k j y r
    unfold val at ih ⊢
    rw [List.map_cons, List.find?_cons, List.find?_cons]
    by_cases h : p.1 = k
    · rw [if_pos h]
      by_cases e : p.1 = j
      · simp only [decide_eq_true e]
        rw [Option.map_some, Option.map_some, Option.map_some, if_pos (e.symm.trans h)]
      · simp only [decide_eq_false e]
        exact ih
    · rw [if_neg h]
      by_cases e : p.1 = j
      · simp only [decide_eq_true e]
        rw [Option.map_some, Option.map_some, if_neg fun z => h (e.trans z)]
      · simp only [decide_eq_false e]
        exact ih
theorem val_snoc (k j : NestedKey) (b : Addr) (y : V) (L : List Ent) : val (L ++ [(k, b, y)]) j = (val L j).or (if k = j then some y else none) := by
  unfold val
  rw [List.find?_append]
  cases L.find? fun p => decide (p.1 = j) with
  | some p => rfl
  | none =>
    rw [Option.none_or, List.find?_cons]
    by_cases e : k = j
    · simp only [decide_eq_true e]
      rw [if_pos e]
      rfl
    · simp only [decide_eq_false e]
      rw [if_neg e]
      rfl
theorem val_put (L : List Ent) (k j : NestedKey) (b : Addr) (y : V) : val (put L k b y) j = if j = k then some y else val L j := by
  unfold put
  by_cases h : (val L k).isSome = true
  · rw [if_pos h, val_map]
    by_cases e : j = k
    · subst e
      rw [if_pos rfl]
      obtain ⟨x, hx⟩ := Option.isSome_iff_exists.mp h
      rw [hx, Option.map_some, if_pos rfl]
    · rw [if_neg e]
      cases val L j with
      | none => rfl
      | some x => rw [Option.map_some, if_neg e]
  · rw [if_neg h, val_snoc]
    by_cases e : j = k
    · subst e
      rw [if_pos rfl, if_pos rfl, Option.not_isSome_iff_eq_none.mp h]
      rfl
    · rw [if_neg e, if_neg (Ne.symm e), Option.or_none]
theorem val_drop (k j : NestedKey) : ∀ L : List Ent, val (drop L k) j = if j = k then none else val L j
  | [] => by
    show none = _
    split <;> rfl
  | p :: r => by
    have ih := val_drop k j r
    unfold drop val at ih ⊢
    rw [List.filter_cons]
    by_cases h : p.1 = k
    · rw [if_neg (by simp [h]), ih, List.find?_cons]
      by_cases e : j = k
      · rw [if_pos e, if_pos e]
      · rw [if_neg e, if_neg e, decide_eq_false fun z => e (z.symm.trans h)]
    · rw [if_pos (by simp [h]), List.find?_cons, List.find?_cons]
      by_cases e : p.1 = j
      · simp only [decide_eq_true e]
        rw [if_neg fun z => h (e.trans z)]
      · simp only [decide_eq_false e]
        exact ih
theorem val_some {L : List Ent} {k : NestedKey} : (val L k).isSome = true ↔ k ∈ L.map (·.1) := by
  unfold val
  rw [Option.isSome_map, List.find?_isSome]
  constructor
  · rintro ⟨p, hp, e⟩
    exact List.mem_map.mpr ⟨p, hp, of_decide_eq_true e⟩
  · intro h
    obtain ⟨p, hp, e⟩ := List.mem_map.mp h
    exact ⟨p, hp, decide_eq_true e⟩
theorem val_of_mem {L : List Ent} (nd : (L.map (·.1)).Nodup) {p : Ent} (hp : p ∈ L) : val L p.1 = some p.2.2 := by
  unfold val
  induction L with
  | nil => cases hp
  | cons q r ih =>
    rw [List.map_cons, List.nodup_cons] at nd
    rw [List.find?_cons]
    rcases List.mem_cons.mp hp with rfl | hp
    · rw [decide_eq_true rfl]
      rfl
    · have ne : ¬ q.1 = p.1 := fun z => nd.1 (by rw [z]; exact List.mem_map.mpr ⟨p, hp, rfl⟩)
      rw [decide_eq_false ne]
      exact ih nd.2 hp
theorem put_keys (L : List Ent) (k : NestedKey) (b : Addr) (y : V) : (put L k b y).map (·.1) = if k ∈ L.map (·.1) then L.map (·.1) else L.map (·.1) ++ [k] := by
  unfold put
  by_cases h : k ∈ L.map (·.1)
  · rw [if_pos (val_some.mpr h), if_pos h, List.map_map]
    refine List.map_congr_left fun p _ => ?_
    show (if p.1 = k then (p.1, p.2.1, y) else p).1 = p.1
    split <;> rfl
  · rw [if_neg fun z => h (val_some.mp z), if_neg h, List.map_append]
    rfl
theorem put_nd {L : List Ent} (nd : (L.map (·.1)).Nodup) (k : NestedKey) (b : Addr) (y : V) : ((put L k b y).map (·.1)).Nodup := by
  rw [put_keys]
  split
  · exact nd
  · rename_i h
    exact List.nodup_append.mpr ⟨nd, by simp, fun a ha c hc => by
      rw [List.mem_singleton.mp hc]
      exact fun z => h (z ▸ ha)⟩
theorem put_len (L : List Ent) (k : NestedKey) (b : Addr) (y : V) : (put L k b y).length ≤ L.length + 1 := by
  unfold put
  split
  · rw [List.length_map]
    omega
  · rw [List.length_append]
    exact Nat.le_refl _
theorem put_mem {L : List Ent} {k : NestedKey} {b : Addr} {y : V} {p : Ent} (h : p ∈ put L k b y) : (∃ q ∈ L, q.1 = p.1 ∧ q.2.1 = p.2.1) ∨ p = (k, b, y) := by
  unfold put at h
  split at h
  · obtain ⟨q, hq, e⟩ := List.mem_map.mp h
    refine .inl ⟨q, hq, ?_⟩
    rw [← e]
    split <;> exact ⟨rfl, rfl⟩
  · rcases List.mem_append.mp h with h | h
    · exact .inl ⟨p, h, rfl, rfl⟩
    · exact .inr (List.mem_singleton.mp h)
theorem drop_nd {L : List Ent} (nd : (L.map (·.1)).Nodup) (k : NestedKey) : ((drop L k).map (·.1)).Nodup := nd.sublist (List.Sublist.map _ (List.filter_sublist))
theorem drop_len (L : List Ent) (k : NestedKey) : (drop L k).length ≤ L.length := List.length_filter_le _ _
/-- a dict that is changed elsewhere stays, with its keys' tuples -/
theorem At.keep {w : World} {H H' : Hp} {a : Addr} {L : List Ent} (d : At w H a L) (it : H' a = some (dnO w a L)) (t : ∀ b vs, H b = some (.tup vs) → H' b = some (.tup vs)) : At w H' a L := ⟨it, fun p hp => ⟨(d.keys p hp).1.mono t, (d.keys p hp).2⟩, d.nd⟩
theorem At.put {w : World} {H : Hp} {a : Addr} {L : List Ent} (d : At w H a L) {k : NestedKey} {b : Addr} (hk : NK H k (.ref b)) (h8 : k.depth ≤ 8) (y : V) : At w (upd H a (dnO w a (put L k b y))) a (put L k b y) := by
  have t : ∀ c vs, H c = some (.tup vs) → upd H a (dnO w a (DN.put L k b y)) c = some (.tup vs) := fun c vs e => by
    rw [upd_ne (ne_of e d.it fun z => by cases z)]
    exact e
  refine ⟨upd_same, fun p hp => ?_, put_nd d.nd k b y⟩
  rcases put_mem hp with ⟨q, hq, e1, e2⟩ | rfl
  · rw [← e1, ← e2]
    exact ⟨(d.keys q hq).1.mono t, (d.keys q hq).2⟩
  · exact ⟨hk.mono t, h8⟩
theorem At.drop {w : World} {H : Hp} {a : Addr} {L : List Ent} (d : At w H a L) (k : NestedKey) : At w (upd H a (dnO w a (drop L k))) a (drop L k) := by
  refine ⟨upd_same, fun p hp => ?_, drop_nd d.nd k⟩
  have q := d.keys p (List.mem_filter.mp hp).1
  refine ⟨q.1.mono fun c vs e => ?_, q.2⟩
  rw [upd_ne (ne_of e d.it fun z => by cases z)]
  exact e
end DN
/-! ### rules for dicts whose keys are tuples -/
namespace DN
open PyProof.Rows
open PySem (NestedKey NestedIs NestedAll nestedKind HeapKind atKey storedH withoutH)
section
variable {X : Cx} {pins : List (Addr × Obj)} {σ : L2.St} {H : Hp} {s : Shared} {a b : Addr} {L : List Ent} {k : NestedKey}
theorem key_is (I : Inv X pins σ H s) (hk : NK H k (.ref b)) (h8 : k.depth ≤ 8) : (nestedKind X.prog X.w).is s.heap k b := ⟨hk.is I.hok rfl, h8⟩
theorem wrote (I : Inv X pins σ H s) (d : At X.w H a L) {L' : List Ent} {xs' : List (NestedKey × Addr × Value)} {h' : Heap} {t' : Nat} (hl : L'.length ≤ sizeLine) (hd : (a == sysModules) = false) (r : EntR L' xs') (m : h'.DictOfH (nestedKind X.prog X.w) a xs') (hs : Heap.SameBut a s.heap h') :
    Inv X pins σ (upd H a (dnO X.w a L')) { s with heap := h', toks := t' } := by
  obtain ⟨o, es, ep, ho, hx, hdt, he, _, _⟩ := m
  exact d_write I (by rw [d.it]; exact True.intro) hs ⟨o, ho⟩ (dnO_ok ⟨hl, hd, xs', o, es, ep, r, ho, hx, hdt, he⟩)
theorem room1 (hu : X.A.units + 64 < cLine) : (nestedKind X.prog X.w).room X.A.in1 := by
  show X.A.units + 1 + 8 < cLine
  omega
def rIn (w : World) (no : Bool) : R2 := fun x y H Q => ∃ (b a : Addr) (L : List Ent) (k : NestedKey), x = .ref b ∧ y = .ref a ∧ Rd w H a L ∧ NK H k (.ref b) ∧ k.depth ≤ 8 ∧ Q (.bl (no != (val L k).isSome)) H
theorem inN {w : World} (hu : X.A.units + 64 < cLine) (hw : X.w = w := by rfl) : OpR X (compareOp .In) (rIn w false) := by
  subst hw
  intro pins s σ H x y v u Q I rx ry h
  obtain ⟨b, a, L, k, rfl, rfl, d, hk, h8, q⟩ := h
  cases rx
  cases ry
  obtain ⟨z, hd, xs, r, m⟩ := d.of I.hok
  have e := (EntR.val r k).isSome_eq
  rw [Option.isSome_map] at e
  refine wpAny_in_heap (room1 hu) (key_is I hk h8) hd m ⟨_, H, I.tok _, ?_, q⟩
  rw [Bool.false_bne, e]
  exact rfl
theorem ninN {w : World} (hu : X.A.units + 64 < cLine) (hw : X.w = w := by rfl) : OpR X (compareOp .NotIn) (rIn w true) := by
  subst hw
  intro pins s σ H x y v u Q I rx ry h
  obtain ⟨b, a, L, k, rfl, rfl, d, hk, h8, q⟩ := h
  cases rx
  cases ry
  obtain ⟨z, hd, xs, r, m⟩ := d.of I.hok
  have e := (EntR.val r k).isSome_eq
  rw [Option.isSome_map] at e
  refine wpAny_notIn_heap (room1 hu) (key_is I hk h8) hd m ⟨_, H, I.tok _, ?_, q⟩
  rw [e]
  cases (atKey xs k).isSome <;> exact rfl
def rGet (w : World) : R2 := fun x y H Q => ∃ (b a : Addr) (L : List Ent) (k : NestedKey) (v : V), y = .ref b ∧ x = .ref a ∧ Rd w H a L ∧ NK H k (.ref b) ∧ k.depth ≤ 8 ∧ val L k = some v ∧ Q v H
theorem ixN {w : World} (hu : X.A.units + 64 < cLine) (hw : X.w = w := by rfl) : IxR X (rGet w) := by
  subst hw
  intro value slice pins s σ H x y v u Q I rx ry h hs
  obtain ⟨b, a, L, k, y0, rfl, rfl, d, hk, h8, hv, q⟩ := h
  cases rx
  cases ry
  obtain ⟨z, hd, xs, r, m⟩ := d.of I.hok
  have e := EntR.val r k
  rw [hv] at e
  obtain ⟨u0, hu0, ru0⟩ := RelO.some_of e
  obtain ⟨p, hp, hp2⟩ := Option.map_eq_some_iff.mp hu0
  refine tail_any m.typeIs PySem.F.slot_dict_getitem.lookup (wpAny_getItem_heap (room1 hu) (key_is I hk h8) m hp ⟨y0, H, I.tok _, ?_, q⟩) hs
  rw [hp2]
  exact ru0
def rSet (w : World) : V → V → V → Hp → (Hp → Prop) → Prop := fun x y v H Q => ∃ (b a : Addr) (L : List Ent) (k : NestedKey), y = .ref b ∧ x = .ref a ∧ At w H a L ∧ NK H k (.ref b) ∧ k.depth ≤ 8 ∧ L.length < sizeLine ∧ Q (upd H a (dnO w a (put L k b v)))
theorem setN {w : World} (hu : X.A.units + 64 < cLine) (hw : X.w = w := by rfl) : PSet X (rSet w) := by
  subst hw
  intro pins s σ H o i v ov iv u Q I ro ri rv h
  obtain ⟨b, a, L, k, rfl, rfl, d, hk, h8, hl, q⟩ := h
  cases ro
  cases ri
  obtain ⟨z, hd, xs, r, m⟩ := d.rd.of I.hok
  have hz : xs.length ≤ sizeLine := by rw [← Paired.length r]; exact z
  refine wpAny_setItem_heap (hsz := hz) (room1 hu) (key_is I hk h8) m fun h' m' hs => ⟨_, wrote I d ?_ hd (EntR.put r k b rv) m' hs, q⟩
  exact Nat.le_trans (put_len L k b v) hl
theorem len_at {prog : Program} {w : World} {A : Around} {E : Value → Shared → Prop} {s : Shared} {a : Addr} {o : Obj} {es : Array DictEntry} {ep : Nat} {Q : Value → Shared → Prop} (hd : (a == sysModules) = false) (ho : s.heap.get? a = some o) (hx : o.ExactDict) (hdt : o.data = .dict es ep) (fit : es.size ≤ sizeLine)
    (h : Q (.int es.size (s.toks + 1)) { s with toks := s.toks + 1 + 1 }) : wpAny (model prog w) A (call (.builtin "len") [.ref a]) Q E s := by
  have hT : s.TypeIs (.ref a) "dict" := ⟨o, ho, hx.1⟩
  have z := PySem.sizeLine_eq
  have m : MeetsIn prog w (Builtin.«dict.__len__» ⟨[.ref a], []⟩) (fun _ R s => ∃ o, s.heap.get? a = some o ∧ o.data = .dict es ep ∧ R (.ok (.ret (.int es.size s.toks))) { s with toks := s.toks + 1 }) :=
    .of_wp fun A R s ⟨o, ho, hdt, h⟩ => (by
      show wpAny _ _ (dictSize a >>= _) _ _ s
      unfold dictSize
      exact wpAny_bind (wpAny_bind (wpAny_dictEntries ho hdt (wpAny_pure (by
        show wpAny _ _ (Builtin.Dict.pendingCount a >>= _) _ _ s
        exact wpAny_bind (wpAny_pendingCount_other hd (wpAny_ret_mkInt (by rw [Nat.add_zero]; exact h))))))))
  refine Calls.call_function_entry PySem.kind_len PySem.plain_len PySem.entry_len (PySem.args_len1 _) (by
    unfold Builtin.«len»
    refine wpAny_bind (m := oneArg "len" _) (wpAny_pure (wpAny_bind (m := callSpecial? (.ref a) (Str.ofString "__len__")) (wpAny_callSpecial?_slot (name := Str.ofString "__len__") hT PySem.F.slot_dict_len (call_meetsIn PySem.F.slot_dict_len hT PySem.F.entry_dict_len (PySem.F.args_dict_len_1 _) m ⟨o, ho, hdt, ?_⟩))))
    show wpAny _ _ _ _ _ { s with toks := s.toks + 1 }
    refine wpAny_bind (wpAny_holding (wpAny_pure (wpAny_bind (wpAny_letGo ?_))))
    show wpAny _ _ (if ((es.size : Nat) : Int) < 0 then _ else _) _ _ _
    rw [if_neg (show ¬ ((es.size : Nat) : Int) < 0 by omega)]
    show wpAny _ _ (if ((es.size : Nat) : Int) ≥ 2 ^ 63 then _ else _) _ _ _
    rw [if_neg (show ¬ ((es.size : Nat) : Int) ≥ 2 ^ 63 by omega)]
    exact wpAny_bind (wpAny_mkInt (wpAny_pure ⟨_, rfl, h⟩)))
def rLen (w : World) : List V → Hp → VK → Prop := fun xs H Q => ∃ (a : Addr) (L : List Ent), xs = [.ref a] ∧ Rd w H a L ∧ Q (.int L.length) H
theorem Inv.dn (I : Inv X pins σ H s) (d : Rd X.w H a L) : ∃ (o : Obj) (es : Array DictEntry) (ep : Nat), (a == sysModules) = false ∧ s.heap.get? a = some o ∧ o.ExactDict ∧ o.data = .dict es ep ∧ es.size = L.length ∧ L.length ≤ sizeLine ∧
    ∀ (i : Nat) (p : Ent), L[i]? = some p → ∃ en : DictEntry, es[i]? = some en ∧ en.key = .ref p.2.1 ∧ RelV p.2.2 en.val := by
  obtain ⟨z, hd, xs, o, es, ep, r, ho, hx, hdt, he⟩ := (show dnP X.w a L s.heap from (d.it.ok I.hok).1)
  refine ⟨o, es, ep, hd, ho, hx, hdt, ?_, z, fun i p hp => ?_⟩
  · rw [← Array.length_toList, he, List.length_map, Paired.length r]
  · obtain ⟨q, hq, _, e2, e3⟩ := paired_get r hp
    refine ⟨raw X.w q, ?_, ?_, e3⟩
    · rw [← Array.getElem?_toList, he, List.getElem?_map, hq]
      rfl
    · rw [e2]
      rfl
theorem lenN {w : World} (hw : X.w = w := by rfl) : CallR X (.builtin "len") (rLen w) := by
  subst hw
  intro pins s σ H xs us Q I r h
  obtain ⟨a, L, rfl, d, q⟩ := h
  obtain rfl := Vals.ref1 r
  obtain ⟨o, es, ep, hd, ho, hx, hdt, hz, hl, _⟩ := Inv.dn I d
  refine len_at hd ho hx hdt (by rw [hz]; exact hl) ⟨_, H, I.tok _, ?_, q⟩
  rw [hz]
  exact ⟨_, rfl⟩
def rGetD (w : World) : V → List V → Hp → VK → Prop := fun x xs H Q => ∃ (b a : Addr) (d : V) (L : List Ent) (k : NestedKey), xs = [.ref b, d] ∧ x = .ref a ∧ Rd w H a L ∧ NK H k (.ref b) ∧ k.depth ≤ 8 ∧ Q ((val L k).getD d) H
theorem getN {w : World} (hu : X.A.units + 64 < cLine) (hw : X.w = w := by rfl) : MtR X "dict.get" (rGetD w) := by
  subst hw
  intro pins s σ H x xs v us Q I rx rxs h
  obtain ⟨b, a, d, L, k, rfl, rfl, D, hk, h8, q⟩ := h
  cases rx
  obtain ⟨u1, u2, rfl, r1, r2⟩ := vals2 rxs
  cases r1
  obtain ⟨z, hd, ys, r, m⟩ := D.of I.hok
  refine call_meetsIn PySem.F.slot_dict_get m.typeIs PySem.F.entry_dict_get (PySem.F.args_dict_get_3 _ _ _) (meetsH_dict_get_default (nestedKind X.prog X.w) a b hd u2) ⟨room1 hu, k, ys, key_is I hk h8, m, ?_⟩
  exact ⟨_, H, I.tok _, (EntR.val r k).getD r2, q⟩
def rGet1 (w : World) : V → List V → Hp → VK → Prop := fun x xs H Q => ∃ (b a : Addr) (L : List Ent) (k : NestedKey), xs = [.ref b] ∧ x = .ref a ∧ Rd w H a L ∧ NK H k (.ref b) ∧ k.depth ≤ 8 ∧ Q ((val L k).getD .non) H
theorem getN1 {w : World} (hu : X.A.units + 64 < cLine) (hw : X.w = w := by rfl) : MtR X "dict.get" (rGet1 w) := by
  subst hw
  intro pins s σ H x xs v us Q I rx rxs h
  obtain ⟨b, a, L, k, rfl, rfl, D, hk, h8, q⟩ := h
  cases rx
  obtain rfl := Vals.ref1 rxs
  obtain ⟨z, hd, ys, r, m⟩ := D.of I.hok
  refine call_meetsIn PySem.F.slot_dict_get m.typeIs PySem.F.entry_dict_get (PySem.F.args_dict_get_2 _ _) (meetsH_dict_get (nestedKind X.prog X.w) a b hd) ⟨room1 hu, k, ys, key_is I hk h8, m, ?_⟩
  exact ⟨_, H, I.tok _, (EntR.val r k).getD (show L2.RelV .non Value.none from rfl), q⟩
def rPop (w : World) : V → List V → Hp → VK → Prop := fun x xs H Q => ∃ (b a : Addr) (v : V) (L : List Ent) (k : NestedKey), xs = [.ref b] ∧ x = .ref a ∧ At w H a L ∧ NK H k (.ref b) ∧ k.depth ≤ 8 ∧ val L k = some v ∧ Q v (upd H a (dnO w a (drop L k)))
theorem popN {w : World} (hu : X.A.units + 64 < cLine) (hw : X.w = w := by rfl) : MtR X "dict.pop" (rPop w) := by
  subst hw
  intro pins s σ H x xs v us Q I rx rxs h
  obtain ⟨b, a, v0, L, k, rfl, rfl, D, hk, h8, hv, q⟩ := h
  cases rx
  obtain rfl := Vals.ref1 rxs
  obtain ⟨z, hd, ys, r, m⟩ := D.rd.of I.hok
  have hz : ys.length ≤ sizeLine := by rw [← Paired.length r]; exact z
  have e := EntR.val r k
  rw [hv] at e
  obtain ⟨u0, hu0, ru0⟩ := RelO.some_of e
  obtain ⟨p, hp, hp2⟩ := Option.map_eq_some_iff.mp hu0
  refine call_pop_heap (hsz := hz) (.inl rfl) (PySem.F.args_dict_pop_2 _ _) (room1 hu) (key_is I hk h8) hd m hp fun h' m' hs => ⟨v0, _, wrote I D (Nat.le_trans (drop_len L k) z) hd (EntR.drop r k) m' hs, ?_, q⟩
  rw [hp2]
  exact ru0
/-- {}, to be a dict with such keys -/
def tNew (w : World) : TE := fun _ H Q => ∀ p, H p = none → At w (upd H p (dnO w p [])) p [] → Q (.ref p) (upd H p (dnO w p []))
theorem pe_dnewN {pos : Pos} {w : World} (hw : X.w = w := by rfl) : PE X (.Dict [] [] pos) (tNew w) := by
  subst hw
  refine ⟨fun pins s σ H Q I h => wpAny_Dict_empty ?_⟩
  have hn := I.hok.fresh (Nat.le_refl s.heap.objs.size)
  refine ⟨.ref s.heap.objs.size, _, I.laid (a := s.heap.objs.size) (o := dnO X.w s.heap.objs.size []) (t' := s.toks) (fun _ _ q => Heap.get?_push_of_some _ q) (Nat.le_refl _) (dnO_ok ⟨Nat.zero_le _, beq_eq_false_iff_ne.mpr (Ne.symm (Nat.ne_of_lt I.big)), [], _, #[], 0, .nil, Heap.get?_push_size _ rfl, ⟨rfl, rfl, rfl⟩, rfl, rfl⟩), rfl, ?_⟩
  exact h _ hn ⟨upd_same, fun p hp => (nomatch hp), List.nodup_nil⟩
/-! #### for k in d -/
/-- the keys of the locked dict, each by its own tuple -/
def ItN (w : World) (d : Addr) (o : Obj) (L : List Ent) : It :=
  ⟨fun i H => H d = some (.frz o (dnO w d L)) ∧ i < L.length, fun i H x H' => H' = H ∧ ∃ p : Ent, L[i]? = some p ∧ x = .ref p.2.1, fun i H => H d = some (.frz o (dnO w d L)) ∧ L.length ≤ i⟩
theorem walk_N {w : World} {d : Addr} {o : Obj} {L : List Ent} : Walk (ItN w d o L) L.length (fun H => H d = some (.frz o (dnO w d L))) (fun i H x H' => H' = H ∧ ∃ p : Ent, L[i]? = some p ∧ x = .ref p.2.1) :=
  ⟨fun _ _ hi q => ⟨q, hi⟩, fun _ q => ⟨q, Nat.le_refl _⟩, fun _ _ _ _ _ _ y => y⟩
theorem frzN {d : Addr} {o : Obj} (I : Inv X pins σ H s) (h : H d = some (.frz o (dnO X.w d L))) : ∃ (es : Array DictEntry) (ep : Nat), (d == sysModules) = false ∧ s.heap.get? d = some o ∧ o.ExactDict ∧ o.data = .dict es ep ∧ es.size = L.length ∧
    ∀ (i : Nat) (p : Ent), L[i]? = some p → ∃ en : DictEntry, es[i]? = some en ∧ en.key = .ref p.2.1 := by
  obtain ⟨hg, _⟩ := I.hok d _ h
  obtain ⟨z, hd, xs, o', es, ep, r, ho, hx, hdt, he⟩ := (show dnP X.w d L s.heap from ((L2.Rd.ok (.inr ⟨o, h⟩) I.hok : ObjOk X.prog X.w H s.heap d (dnO X.w d L))).1)
  have e : o' = o := Option.some.inj (ho.symm.trans hg)
  subst e
  refine ⟨es, ep, hd, ho, hx, hdt, ?_, fun i p hp => ?_⟩
  · rw [← Array.length_toList, he, List.length_map, Paired.length r]
  · obtain ⟨q, hq, _, e2, _⟩ := paired_get r hp
    refine ⟨raw X.w q, ?_, ?_⟩
    · rw [← Array.getElem?_toList, he, List.getElem?_map, hq]
      rfl
    · rw [e2]
      rfl
theorem turn_N {P : Program} {w : World} {K : PySem.W.Frag} {tg : Expr} {d : Addr} {o : Obj} {es : Array DictEntry} {ep : Nat} {L : List Ent} (it : Addr) (hod : o.data = .dict es ep) : Turn P w K tg (ItN w d o L) [it] it (fun i h => h.IsKeyIter it d i L.length ep) where
  mem := List.mem_singleton.mpr rfl
  obj := fun i h st b hb => by
    obtain rfl := List.mem_singleton.mp hb
    obtain ⟨oi, e, c, dd⟩ := st
    exact ⟨oi, e, fun v z => by rw [dd] at z; cases z⟩
  keep := fun i h h' st k => st.at fun oi e => k it (List.mem_singleton.mpr rfl) oi e
  item := by
    intro X hP hw hK hc i pins s σ H E I hf st hg
    subst hP hw hK
    obtain ⟨f0, f1, f2, f3, f4, f5⟩ := hf it (List.mem_singleton.mpr rfl)
    obtain ⟨es', ep', hs, hgd, hx, hdt, hsz, ent⟩ := frzN I hg.1
    obtain ⟨rfl, rfl⟩ := dict_ep hod hdt
    obtain ⟨p, hp⟩ : ∃ p, L[i]? = some p := ⟨L[i]'hg.2, List.getElem?_eq_getElem hg.2⟩
    obtain ⟨en, hen, hkey⟩ := ent i p hp
    refine next_key_item st hgd hdt hsz hen fun h' st' sb => ?_
    have I1 := I.turned (t' := s.toks) (fun b ob hb e => (sb.2 b hb).trans e) f0 f1 f3 f4 f5
    obtain ⟨oi, e, c, dd⟩ := id st'
    exact ⟨en.key, rfl, go_of (s := { s with heap := h' }) e c dd (by decide) ⟨.ref p.2.1, H, I1, hkey, ⟨rfl, p, hp, rfl⟩, st', fun b hb => (hf b hb).1⟩⟩
  done := by
    intro X hP hw hK hc i pins s σ H E I hf st hg
    subst hP hw hK
    obtain ⟨f0, f1, f2, f3, f4, f5⟩ := hf it (List.mem_singleton.mpr rfl)
    obtain ⟨es', ep', hs, hgd, hx, hdt, hsz, ent⟩ := frzN I hg.1
    obtain ⟨rfl, rfl⟩ := dict_ep hod hdt
    exact next_key_end (I.ok.hd hc) st hgd hdt hsz hg.2 fun h' eb => ⟨rfl, I.turned (t' := s.toks) (fun b ob hb e => eb b ob hb e) f0 f1 f3 f4 f5⟩
  self := fun A i s Q E st h => by
    refine wpAny_pyIter_slot st.typeIs PySem.F.slot_dict_keyiterator_iter (wpAny_call_entry PySem.F.slot_dict_keyiterator_iter st.typeIs PySem.F.entry_dict_keyiterator_iter (by
      show wpAny _ _ (ret (.ref it)) _ _ s
      exact wpAny_pure ⟨_, rfl, ("dict_keyiterator" : String), _, st.typeIs, PySem.F.slot_dict_keyiterator_next.lookup, h⟩) (PySem.F.args_dict_keyiterator_iter_1 _))
def iKeysN (w : World) (td : TE) : TI := fun σ H R => td σ H fun x H1 => ∃ (d : Addr) (o : Obj) (L : List Ent), x = .ref d ∧ H1 d = some (.frz o (dnO w d L)) ∧ R (ItN w d o L) H1
theorem pi_keysN {w : World} {tg e : Expr} {td : TE} (he : PE X e td) (hw : X.w = w := by rfl) : PI X tg e (iKeysN w td) := by
  subst hw
  refine ⟨fun pins s σ H R I h => ?_⟩
  refine thn (he.run pins s σ H _ I h) fun u s1 ⟨x, H1, I1, rx, d, o, L, ex, hd, q⟩ => ?_
  subst ex
  obtain rfl : u = Value.ref d := rx
  obtain ⟨es, ep, hs, hgd, hx, hdt, hsz, ent⟩ := frzN I1 hd
  refine iter_keys hs hgd hx hdt (pi_one (tk := s1.toks) I1 _ (turn_N _ hdt) ⟨_, Heap.get?_push_size _ rfl, rfl, ?_⟩ q)
  rw [hsz] <;> rfl
end
end DN
/-! ### a draw -/
def spDraw : Sp := fun vs H Q _ => ∃ (b : Addr) (many : Int) (m : Nat), vs = [.ref b, .int many] ∧ Bag H b m ∧ m ≤ LIM ∧ 0 < many ∧ many < 2 ^ 256 ∧ ∀ (r : Int) (H' : Hp), 0 ≤ r → r < many → Go b 1 H H' → Q (.int r) H'
theorem nat_lt {i : Int} {n : Nat} (h0 : 0 ≤ i) (h : i < ((2 ^ n : Nat) : Int)) : i.natAbs < 2 ^ n := by omega
theorem draw_set {b : Addr} {m : Nat} {H : Hp} {x y z x' z' : Int} (hb : H b = some (.lst [.int x, .int y, .int z])) (hz : z' = z ∨ z' = z + 1) : Go b 1 H (upd H b (.lst [.int x', .int y, .int z'])) := by
  refine ⟨fun a o e h _ => by rw [upd_ne e]; exact h, fun k hk => ?_, fun P t => TabG.upd t (no_tbl hb), fun a ha => by
    by_cases e : a = b
    · rw [e, upd_same] at ha
      cases ha
    · rw [upd_ne e] at ha
      exact ha⟩
  obtain ⟨x1, y1, z1, h1, h2, h3, h4, h5⟩ := hk
  rw [hb] at h1
  injection h1 with h1
  injection h1 with h1
  injection h1 with e1 h1
  injection h1 with e2 h1
  injection h1 with e3 h1
  injection e1 with e1
  injection e2 with e2
  injection e3 with e3
  subst e1 e2 e3
  exact ⟨x', y, z', upd_same, h2, h3, by omega, by omega⟩
/-! ### texts, menus, comprehensions of draws -/
/-- a sign of worths -/
def sgn (c : Nat) : Bool := decide (32 ≤ c) && (decide (c ≤ 126) && !decide (c = 37))
/-- a text of signs of worths, of at most n signs -/
structure WT (z : Str) (n : Nat) : Prop where
  len : (tl z).length ≤ n
  sg : ∀ c ∈ tl z, sgn c = true
theorem WT.mono {z : Str} {n m : Nat} (h : WT z n) (l : n ≤ m) : WT z m := ⟨Nat.le_trans h.len l, h.sg⟩
theorem WT.line {z : Str} {n : Nat} (h : WT z n) (l : n ≤ 100000) : z.length ≤ sizeLine := by
  rw [len_tl]
  exact small (Nat.le_trans h.len l)
theorem tl_cut (z : Str) (k : Nat) : tl (cutS z none (some (k : Int))) = (tl z).take k := by
  show (((z.cps.toList.drop (HT.sIx z.length 0 none)).take (HT.sIx z.length z.length (some (k : Int)) - HT.sIx z.length 0 none)).toArray).toList = _
  rw [HT.sIx_none, HT.sIx_nat, List.drop_zero, Nat.sub_zero, List.toList_toArray]
  have e : z.length = (tl z).length := len_tl z
  rw [e]
  show (tl z).take (min k (tl z).length) = _
  by_cases h : k ≤ (tl z).length
  · rw [Nat.min_eq_left h]
  · rw [Nat.min_eq_right (by omega), List.take_of_length_le (Nat.le_refl _), List.take_of_length_le (by omega)]
theorem WT.cut {z : Str} (h : ∀ c ∈ tl z, sgn c = true) (k : Nat) : WT (cutS z none (some (k : Int))) k :=
  ⟨by rw [tl_cut, List.length_take]; exact Nat.min_le_left _ _, fun c hc => h c (by rw [tl_cut] at hc; exact List.mem_of_mem_take hc)⟩
theorem WT.int {i : Int} {k : Nat} (hk : 0 < k) (h : i.natAbs < 10 ^ k) : WT (Str.ofString (toString i)) (k + 1) := by
  refine ⟨?_, fun c hc => ?_⟩
  · rw [← len_tl, PySem.ofString_length]
    exact PySem.int_text_length_le10 hk h
  · have f := fun q hq => PyProof.Rows.int_text_free' q hq i
    have z : ¬ (c ≠ 45 ∧ (c < 48 ∨ 57 < c)) := fun q => f c q hc
    unfold sgn
    by_cases e : c = 45
    · subst e; rfl
    · have q : 48 ≤ c ∧ c ≤ 57 := by omega
      rw [decide_eq_true (show 32 ≤ c by omega), decide_eq_true (show c ≤ 126 by omega), decide_eq_false (show ¬ c = 37 by omega)]
      rfl
theorem joinL_nil : ∀ ps : List (List Nat), joinL [] ps = ps.flatten
  | [] => rfl
  | [p] => by
    show p = [p].flatten
    simp
  | p :: q :: r => by
    show p ++ ([] ++ joinL [] (q :: r)) = _
    rw [joinL_nil (q :: r), List.nil_append]
    rfl
theorem tl_glue (ys : List Str) : tl (Txt.join "" ys) = (ys.map tl).flatten := by
  rw [join_eq, tl_join]
  exact joinL_nil _
theorem flat_len {k : Nat} : ∀ ys : List Str, (∀ y ∈ ys, (tl y).length ≤ k) → (ys.map tl).flatten.length ≤ k * ys.length
  | [], _ => by simp
  | y :: r, h => by
    have a := h y List.mem_cons_self
    have b := flat_len r fun z hz => h z (List.mem_cons_of_mem _ hz)
    rw [List.map_cons, List.flatten_cons, List.length_append, List.length_cons, Nat.mul_succ]
    omega
theorem WT.glue {k : Nat} {ys : List Str} (h : ∀ y ∈ ys, WT y k) : WT (Txt.join "" ys) (k * ys.length) := by
  refine ⟨by rw [tl_glue]; exact flat_len ys fun y hy => (h y hy).len, fun c hc => ?_⟩
  rw [tl_glue] at hc
  obtain ⟨l, hl, hcl⟩ := List.mem_flatten.mp hc
  obtain ⟨y, hy, rfl⟩ := List.mem_map.mp hl
  exact (h y hy).sg c hcl
theorem glue_sum {k : Nat} : ∀ ys : List Str, (∀ y ∈ ys, (tl y).length ≤ k) → (ys.map (·.length)).sum ≤ k * ys.length
  | [], _ => by simp
  | y :: r, h => by
    have a := h y List.mem_cons_self
    have b := glue_sum r fun z hz => h z (List.mem_cons_of_mem _ hz)
    have c : y.length = (tl y).length := len_tl y
    rw [List.map_cons, List.sum_cons, List.length_cons, Nat.mul_succ]
    omega
theorem glue_ok {k n : Nat} {ys : List Str} (h : ∀ y ∈ ys, (tl y).length ≤ k) (hl : ys.length = n) (hb : k * n ≤ 1000000) : (ys.map (·.length)).sum + ys.length * ("" : Str).length ≤ 16777216 := by
  have a := glue_sum ys h
  rw [hl] at a
  have e : ("" : Str).length = 0 := rfl
  rw [e]
  omega
/-- texts as values: what a list of values that are texts holds -/
theorem texts_of {P : Str → Prop} : ∀ vs : List V, (∀ v ∈ vs, ∃ y, v = .str y ∧ P y) → ∃ ys : List Str, vs = ys.map V.str ∧ ys.length = vs.length ∧ ∀ y ∈ ys, P y
  | [], _ => ⟨[], rfl, rfl, fun _ h => by cases h⟩
  | v :: r, h => by
    obtain ⟨y, rfl, hy⟩ := h v List.mem_cons_self
    obtain ⟨ys, rfl, e, hp⟩ := texts_of r fun z hz => h z (List.mem_cons_of_mem _ hz)
    refine ⟨y :: ys, rfl, by rw [List.length_cons, List.length_cons, e], fun z hz => ?_⟩
    rcases List.mem_cons.mp hz with rfl | hz
    · exact hy
    · exact hp z hz
section
variable {K : PySem.W.Frag}
/-- the n-th of a list that is written on the spot, n drawn -/
theorem menuG {A : V → Prop} {b : Addr} {i n c m : Nat} {σ : L2.St} {H : Hp} {ta : TA} {Q : VK} (ha : ∀ R : List V → Hp → Prop, (∀ xs H1, xs.length = n → (∀ v ∈ xs, A v) → Go b c H H1 → R xs H1) → ta σ H R)
    (hb : σ[i]? = some (some (.ref b))) (B : Bag H b m) (hm : m + c ≤ LIM) (h0 : 0 < n) (hn : n ≤ 1000) (q : ∀ v H', A v → Go b (c + 1) H H' → Q v H') : tOp (rIxL K) (tLst ta) (tCall spDraw [] E0 (tCons (tVar i) (tCons (tC (.int ((n : Nat) : Int))) tNil))) σ H Q := by
  refine ha _ fun xs H1 hl hA G => ⟨small (by omega), fun p hp => ?_⟩
  have B1 := (Go.new (o := .lst xs) hp).bag _ (G.bag _ B)
  refine ⟨_, hb, b, (n : Int), _, rfl, B1, by omega, by omega, by omega, fun r H' r0 r1 G' => ?_⟩
  have hp' : (upd H1 p (.lst xs)) p = some (.lst xs) := upd_same
  have np : p ≠ b := (G.bag _ B).ne hp
  obtain ⟨j, rfl⟩ : ∃ j : Nat, r = (j : Int) := ⟨r.toNat, by omega⟩
  have hj : j < xs.length := by omega
  refine ⟨p, xs, (j : Int), xs[j], rfl, rfl, SqL.of (G'.keep p _ np hp'), atI_nat (List.getElem?_eq_getElem hj), ?_⟩
  exact q _ _ (hA _ (List.getElem_mem hj)) ((G.trans ((Go.new hp).trans G')).mono (by omega))
/-- .. of values that are there -/
theorem menuC {A : V → Prop} {b : Addr} {i m : Nat} {xs : List V} {σ : L2.St} {H : Hp} {ta : TA} {Q : VK} (ha : ∀ R : List V → Hp → Prop, R xs H → ta σ H R) (hA : ∀ v ∈ xs, A v)
    (hb : σ[i]? = some (some (.ref b))) (B : Bag H b m) (hm : m ≤ LIM) (h0 : 0 < xs.length) (hn : xs.length ≤ 1000) (q : ∀ v H', A v → Go b 1 H H' → Q v H') : tOp (rIxL K) (tLst ta) (tCall spDraw [] E0 (tCons (tVar i) (tCons (tC (.int ((xs.length : Nat) : Int))) tNil))) σ H Q :=
  menuG (n := xs.length) (c := 0) (fun R h => ha R (h _ _ rfl hA (Go.refl b H))) hb B hm h0 hn fun v H' hv G => q v H' hv (G.mono (by omega))
theorem draw_here {b : Addr} {i m : Nat} {many : Int} {σ : L2.St} {H : Hp} {Q : VK} (hb : σ[i]? = some (some (.ref b))) (B : Bag H b m) (hm : m ≤ LIM) (h0 : 0 < many) (hn : many < 2 ^ 256) (q : ∀ (r : Int) (H' : Hp), 0 ≤ r → r < many → Go b 1 H H' → Q (.int r) H') :
    tCall spDraw [] E0 (tCons (tVar i) (tCons (tC (.int many)) tNil)) σ H Q := ⟨_, hb, b, many, m, rfl, B, hm, h0, hn, q⟩
/-- [e for k in range(n)], e by draws of the bag at b: a new list of n values that are so -/
theorem lc_draws {b : Addr} {i n c m : Nat} {σ : L2.St} {H1 : Hp} {D : Addr} {te : TE} {Q : VK} (A : V → Prop) (B : Bag H1 b m) (hD : H1 D = none) (hn : n ≤ 90000)
    (he : ∀ (j : Nat) (H : Hp), j < n → Bag H b (m + c * j) → Go b (c * j) H1 H → ∀ R : VK, (∀ y H', A y → Go b c H H' → R y H') → te ((σ.set i none).set i (some (.int (0 + (j : Int))))) H R)
    (hQ : ∀ ys H', ys.length = n → (∀ y ∈ ys, A y) → Go b (c * n) H1 H' → H' D = some (.lst ys) → Q (.ref D) H') :
    ∃ W : Nat → Nat → Hp → Prop, (∃ k, W 0 k (upd H1 D (.lst []))) ∧ ∀ j k H, W j k H →
      ((Itr 0 n).stop j H ∧ Q (.ref D) H) ∨ ((Itr 0 n).go j H ∧ ∃ Nx : Hp → Prop, (∀ H', Nx H' → ∃ k', k' < k ∧ W (j + 1) k' H') ∧ ∀ x H', (Itr 0 n).yld j H x H' → gName i x (wipe σ [i]) H' fun σ2 H2 => wipe σ2 [i] = wipe σ [i] ∧ tYes σ2 H2 fun b H3 =>
        if b = true then te σ2 H3 fun y H4 => ∃ acc, H4 D = some (.lst acc) ∧ acc.length < sizeLine ∧ Nx (upd H4 D (.lst (acc ++ [y]))) else Nx H3) := by
  have nD := B.ne hD
  refine lc_range (lo := 0) (n := n) (fun j H => ∃ ys : List V, ys.length = j ∧ (∀ y ∈ ys, A y) ∧ Go b (c * j) H1 H ∧ H D = some (.lst ys)) ⟨[], rfl, fun _ h => (by cases h), ?_, upd_same⟩ (fun j H hj hp => ?_) fun H hp => ?_
  · exact (Go.new hD).mono (by omega)
  · obtain ⟨ys, hl, hA, G, hy⟩ := hp
    refine ⟨?_, ?_⟩
    · show ((wipe σ [i]).set i (some (.int (0 + (j : Int))))).set i none = (σ.set i none)
      show ((σ.set i none).set i (some (.int (0 + (j : Int))))).set i none = (σ.set i none)
      rw [List.set_set, List.set_set]
    · show te ((σ.set i none).set i (some (.int (0 + (j : Int))))) H _
      refine he j H hj (G.bag _ B) G _ fun y H' hy' G' => ⟨ys, G'.keep D _ nD hy, small' (by omega), ys ++ [y], by rw [List.length_append, hl]; rfl, fun z hz => ?_, ?_, upd_same⟩
      · rcases List.mem_append.mp hz with hz | hz
        · exact hA z hz
        · rw [List.mem_singleton.mp hz]
          exact hy'
      · refine Go.own ((G.trans G').mono ?_) B hD (no_tbl (G'.keep D _ nD hy))
        rw [Nat.mul_succ]
        exact Nat.le_refl _
  · obtain ⟨ys, hl, hA, G, hy⟩ := hp
    exact hQ ys H hl hA G hy
theorem lc_drawn {b : Addr} {i N c c0 m : Nat} {σ : L2.St} {H : Hp} {ta : TA} {te : TE} {Q : VK} {A0 : Int → Prop} (A : V → Prop) (ha : ∀ R : List V → Hp → Prop, (∀ (k : Int) H1, A0 k → 0 ≤ k → k ≤ N → Go b c0 H H1 → R [.int k] H1) → ta σ H R) (B : Bag H b m) (hN : N ≤ 90000)
    (he : ∀ (j : Nat) (H2 : Hp), j < N → Bag H2 b (m + c0 + c * j) → Go b (c0 + c * j) H H2 → ∀ R : VK, (∀ y H', A y → Go b c H2 H' → R y H') → te ((σ.set i none).set i (some (.int (0 + (j : Int))))) H2 R)
    (hQ : ∀ (k : Int) D ys H', A0 k → 0 ≤ k → k ≤ N → ys.length = k.toNat → (∀ y ∈ ys, A y) → Go b (c0 + c * k.toNat) H H' → H' D = some (.lst ys) → H D = none → Q (.ref D) H') : tLc (iRng1 ta) (gName i) tYes te [i] σ H Q := by
  refine ha _ fun k H1 hk k0 k1 G => ⟨k, rfl, by omega, by omega, fun D hD => ?_⟩
  have B1 := G.bag _ B
  refine lc_draws (c := c) (i := i) (n := k.toNat) (te := te) A B1 hD (by omega) (fun j H2 hj B2 G2 R hR => ?_) fun ys H' hl hA G' hy => ?_
  · exact he j H2 (by omega) B2 (G.trans G2) R hR
  · exact hQ k D ys H' hk k0 k1 hl hA (G.trans G') hy (G.free B hD)
end
/-! ### the law's cells, bags, texts, names, keys, references -/
def spCellAt (K : PySem.W.Frag) : Sp := fun vs H Q _ => ∃ (a : Addr) (ns : List Int) (k : Nat), vs = [.ref a, .int (k : Int)] ∧ SqL K H a (ns.map V.int) ∧ ∀ c : Int, Q (.int c) H
def spBag : Sp := fun vs H Q _ => ∃ (c : Int) (k : Nat), vs = [.int c, .int (k : Int)] ∧ k ≤ 1000 ∧ ∀ (p : Addr) (H' : Hp), H p = none → Sm H H' → Bag H' p 0 → Q (.ref p) H'
def SIGNS : Str := " !\"#$&'()*+,-./0123456789:;<=>?@ABCDEFGHIJKLMNOPQRSTUVWXYZ[\\]^_`abcdefghijklmnopqrstuvwxyz{|}~"
def spSigns : Sp := fun vs H Q _ => vs = [] ∧ Q (.str SIGNS) H
def spText : Sp := fun vs H Q _ => ∃ (b : Addr) (most m : Nat), vs = [.ref b, .int (most : Int)] ∧ Bag H b m ∧ m + 2000 ≤ LIM ∧ most ≤ 1000 ∧ ∀ (z : Str) (H' : Hp), WT z most → Go b 1100 H H' → Q (.str z) H'
def AZ (c : Nat) : Bool := decide (97 ≤ c) && decide (c ≤ 122)
structure NM (z : Str) : Prop where
  len : (tl z).length ≤ 8
  pos : 1 ≤ (tl z).length
  sg : ∀ c ∈ tl z, AZ c = true
def spName : Sp := fun vs H Q _ => ∃ (b : Addr) (m : Nat), vs = [.ref b] ∧ Bag H b m ∧ m + 2000 ≤ LIM ∧ ∀ (z : Str) (H' : Hp), NM z → Go b 20 H H' → Q (.str z) H'
structure KEY (z : Str) : Prop where
  wt : WT z 40
  pos : 1 ≤ (tl z).length
def spKey : Sp := fun vs H Q _ => ∃ (b : Addr) (m : Nat), vs = [.ref b] ∧ Bag H b m ∧ m + 5000 ≤ LIM ∧ ∀ (z : Str) (H' : Hp), KEY z → Go b 1200 H H' → Q (.str z) H'
/-- a reference stands at p -/
structure RefAt (K : PySem.W.Frag) (H : Hp) (p : Addr) (name : Str) (keys : List Str) : Prop where
  ex : ∃ t : Addr, SqT K H p [.str name, .ref t] ∧ SqT K H t (keys.map V.str)
structure REF (name : Str) (keys : List Str) : Prop where
  nm : NM name
  le : keys.length ≤ 6
  ks : ∀ z ∈ keys, KEY z
def spRef (K : PySem.W.Frag) : Sp := fun vs H Q _ => ∃ (b : Addr) (m : Nat), vs = [.ref b] ∧ Bag H b m ∧ m + 20000 ≤ LIM ∧ ∀ (p : Addr) (name : Str) (keys : List Str) (H' : Hp), REF name keys → RefAt K H' p name keys → Go b 8000 H H' → Q (.ref p) H'
theorem sgn_of {z : Str} (h : (tl z).all sgn = true) : ∀ c ∈ tl z, sgn c = true := fun c hc => List.all_eq_true.mp h c hc
theorem WT.dec {z : Str} {n : Nat} (h : (decide ((tl z).length ≤ n) && (tl z).all sgn) = true) : WT z n := by
  rw [Bool.and_eq_true] at h
  exact ⟨of_decide_eq_true h.1, sgn_of h.2⟩
/-- all of a list of values are texts that are so -/
def allWT (n : Nat) (vs : List V) : Bool := vs.all fun v => match v with
  | .str z => decide ((tl z).length ≤ n) && (tl z).all sgn
  | _ => false
theorem allWT_ok {n : Nat} {vs : List V} (h : allWT n vs = true) : ∀ v ∈ vs, ∃ z, v = .str z ∧ WT z n := fun v hv => by
  have q := List.all_eq_true.mp h v hv
  cases v with
  | str z => exact ⟨z, rfl, WT.dec q⟩
  | _ => cases q
def allInt (lo hi : Int) (vs : List V) : Bool := vs.all fun v => match v with
  | .int z => decide (lo ≤ z) && decide (z ≤ hi)
  | _ => false
theorem allInt_ok {lo hi : Int} {vs : List V} (h : allInt lo hi vs = true) : ∀ v ∈ vs, ∃ z, v = .int z ∧ lo ≤ z ∧ z ≤ hi := fun v hv => by
  have q := List.all_eq_true.mp h v hv
  cases v with
  | int z =>
    have q' : (decide (lo ≤ z) && decide (z ≤ hi)) = true := q
    rw [Bool.and_eq_true] at q'
    exact ⟨z, rfl, of_decide_eq_true q'.1, of_decide_eq_true q'.2⟩
  | _ => cases q
theorem RefAt.go {K : PySem.W.Frag} {b : Addr} {n m : Nat} {H H' : Hp} {p : Addr} {name : Str} {keys : List Str} (R : RefAt K H p name keys) (G : Go b n H H') (B : Bag H b m) : RefAt K H' p name keys := by
  obtain ⟨t, h1, h2⟩ := R.ex
  exact ⟨t, G.seqT B h1, G.seqT B h2⟩
theorem RefAt.same {K : PySem.W.Frag} {H H' : Hp} {p : Addr} {name : Str} {keys : List Str} (R : RefAt K H p name keys) (G : Sm H H') : RefAt K H' p name keys := by
  obtain ⟨t, h1, h2⟩ := R.ex
  exact ⟨t, Sm.seqT G h1, Sm.seqT G h2⟩
theorem nm_asc {nm : Str} (h : NM nm) : (tl nm).length ≤ 8 ∧ ∀ c ∈ tl nm, c < 128 := ⟨h.len, fun c hc => by
  have q := h.sg c hc
  unfold AZ at q
  rw [Bool.and_eq_true] at q
  have := of_decide_eq_true q.2
  omega⟩
theorem nm_no {z : Str} (h : NM z) : z ≠ "" := fun e => by
  have := h.pos
  rw [e] at this
  exact absurd this (by decide)
section
variable {P : Program} {w : World} {K : PySem.W.Frag} {mg : Str → Option Value} {base : Heap} {cs : Tabs}
theorem ok_law_cell_at (T : Txt K mg cs) : Cal P w K mg base 1 "_law_cell_at" ["script", "k"] (spCellAt K) := by
  refine T.f_law_cell_at.cal scLawCellAt (fun vs H Q E h => ?_) (fun f cdv A outer s H vs Q E hr h => ?_)
  · obtain ⟨a, ns, k, rfl, _⟩ := h
    rfl
  obtain ⟨a, ns, k, rfl, hS, q⟩ := h
  refine ⟨_, (pss_cons (ps_if (pt_cmpR op_lt (pv 1) (pe_callB (lenQ K) rfl T.n_len (by decide +kernel) (pa_cons (pv 0) pa_nil)) (nomark _)) (pss_one (ps_ret (pe_ix (ixL K) (pv 0) (pv 1) (fun _ _ => rfl)))) pss_nil)
    (pss_one (ps_ret pe_int))), ?_⟩
  refine ⟨_, rfl, _, rfl, a, _, rfl, .inl hS, _, _, rfl, rfl, _, rfl, ?_⟩
  refine ite2 (fun c => ?_) (fun c => ?_)
  · have c' : (k : Int) < (((ns.map V.int).length : Nat) : Int) := of_decide_eq_true c
    have hk : k < ns.length := by
      rw [List.length_map] at c'
      omega
    have e : (ns.map V.int)[k]? = some (.int ns[k]) := by
      rw [List.getElem?_map, List.getElem?_eq_getElem hk]
      rfl
    exact ⟨_, rfl, _, rfl, a, _, (k : Int), _, rfl, rfl, hS, atI_nat e, q _⟩
  · exact q 0
end
/-! ### the numbers that texts begin with: reckoned over their signs -/
open PySem.NumText (digitsVal AllDigits)
def SG : Str := "+-"
def FG : Str := "0123456789"
def isS (c : Nat) : Bool := decide (c ∈ tl SG)
def isF (c : Nat) : Bool := decide (c ∈ tl FG)
theorem tl_SG : tl SG = [43, 45] := by decide +kernel
theorem tl_FG : tl FG = [48, 49, 50, 51, 52, 53, 54, 55, 56, 57] := by decide +kernel
theorem isS_iff {c : Nat} : isS c = true ↔ c = 43 ∨ c = 45 := by
  unfold isS
  rw [tl_SG, decide_eq_true_eq]
  simp
theorem isF_iff {c : Nat} : isF c = true ↔ 48 ≤ c ∧ c ≤ 57 := by
  unfold isF
  rw [tl_FG, decide_eq_true_eq]
  simp only [List.mem_cons, List.not_mem_nil, or_false]
  omega
theorem find_FG {c : Nat} (h : isF c = true) : Txt.find FG ⟨#[c]⟩ = ((c - 48 : Nat) : Int) := by
  have h := isF_iff.mp h
  obtain ⟨j, rfl⟩ : ∃ j, c = 48 + j := ⟨c - 48, by omega⟩
  have hj : j < 10 := by omega
  have : ∀ j : Fin 10, Txt.find FG ⟨#[48 + j.val]⟩ = ((48 + j.val - 48 : Nat) : Int) := by decide +kernel
  exact this ⟨j, hj⟩
def cnt45 (l : List Nat) : Nat := l.countP fun c => c == 45
theorem count_cnt (x : Str) : Txt.count x "-" = (cnt45 (tl x) : Int) := by
  have e : ("-" : Str) = ⟨#[45]⟩ := by decide +kernel
  rw [e, PyProof.Rows.count_is]
  show PyProof.Rows.cnt 45 (tl x) = _
  generalize tl x = l
  induction l with
  | nil => rfl
  | cons a r ih =>
    rw [PyProof.Rows.cnt_cons, ih]
    unfold cnt45
    rw [List.countP_cons]
    by_cases h : a = 45
    · subst h
      simp
      omega
    · simp [h]
def figs (l : List Nat) : List Nat := (l.dropWhile isS).takeWhile isF
def minus (l : List Nat) : Bool := decide (cnt45 (l.takeWhile isS) % 2 = 1)
def numOf (l : List Nat) : Int := if minus l then -((digitsVal (figs l) : Nat) : Int) else ((digitsVal (figs l) : Nat) : Int)
/-- a walk ahead as long as p holds -/
theorem walked {p : Nat → Bool} : ∀ {l : List Nat} {i : Nat}, (∀ j c, j < i → l[j]? = some c → p c = true) → i ≤ l.length → (∀ c, l[i]? = some c → p c = false) → l.takeWhile p = l.take i ∧ l.dropWhile p = l.drop i
  | [], 0, _, _, _ => ⟨rfl, rfl⟩
  | c :: r, 0, _, _, h => by
    have := h c rfl
    simp [List.takeWhile_cons, List.dropWhile_cons, this]
  | c :: r, i + 1, h, hl, h2 => by
    have hc := h 0 c (by omega) rfl
    obtain ⟨a, b⟩ := walked (l := r) (i := i) (fun j d hj hd => h (j + 1) d (by omega) hd) (by simp at hl; omega) (fun d hd => h2 d hd)
    simp [List.takeWhile_cons, List.dropWhile_cons, hc, a, b]
theorem val_from (x : Nat) : ∀ b : List Nat, b.foldl (fun acc c => acc * 10 + (c - 48)) x = x * 10 ^ b.length + b.foldl (fun acc c => acc * 10 + (c - 48)) 0
  | [] => by simp
  | c :: r => by
    rw [List.foldl_cons, List.foldl_cons, val_from (x * 10 + (c - 48)) r, val_from (0 * 10 + (c - 48)) r, List.length_cons, Nat.pow_succ]
    generalize 10 ^ r.length = z
    generalize r.foldl (fun acc c => acc * 10 + (c - 48)) 0 = y
    rw [Nat.add_mul, Nat.zero_mul, Nat.zero_add, Nat.mul_assoc, Nat.mul_comm 10 z, Nat.add_assoc]
theorem val_append (a b : List Nat) : digitsVal (a ++ b) = digitsVal a * 10 ^ b.length + digitsVal b := by
  unfold digitsVal
  rw [List.foldl_append, val_from]
theorem val_lt : ∀ {l : List Nat}, AllDigits l → digitsVal l < 10 ^ l.length
  | [], _ => by decide
  | c :: r, h => by
    have hr := val_lt (l := r) fun d hd => h d (List.mem_cons_of_mem _ hd)
    have hc := h c List.mem_cons_self
    have e := val_append [c] r
    have e1 : digitsVal [c] = c - 48 := by
      show 0 * 10 + (c - 48) = _
      omega
    rw [show c :: r = [c] ++ r from rfl, e, e1, List.length_append, List.length_singleton, Nat.add_comm, Nat.pow_add]
    have : (c - 48) * 10 ^ r.length ≤ 9 * 10 ^ r.length := Nat.mul_le_mul_right _ (by omega)
    omega
theorem tw_self {p : Nat → Bool} : ∀ {l : List Nat}, (∀ c ∈ l, p c = true) → l.takeWhile p = l
  | [], _ => rfl
  | c :: r, h => by
    rw [List.takeWhile_cons, if_pos (h c List.mem_cons_self), tw_self fun d hd => h d (List.mem_cons_of_mem _ hd)]
theorem figs_digits (l : List Nat) : AllDigits (figs l) := fun c hc => isF_iff.mp (by
  have := List.all_takeWhile (p := isF) (l := l.dropWhile isS)
  exact List.all_eq_true.mp this c hc)
theorem figs_len (l : List Nat) : (figs l).length ≤ l.length := by
  unfold figs
  have a := (List.takeWhile_sublist (l := l.dropWhile isS) isF).length_le
  have b := (List.dropWhile_sublist (l := l) isS).length_le
  omega
/-- a number's text -/
def numT (n : Int) : List Nat := if n < 0 then 45 :: numL n.natAbs else numL n.natAbs
theorem numL_head : ∀ {n : Nat}, 0 < n → ∃ c r, numL n = c :: r ∧ 49 ≤ c := by
  intro n
  induction n using Nat.strongRecOn with
  | _ n ih =>
    intro h
    by_cases h10 : n < 10
    · exact ⟨48 + n, [], numL_lt h10, by omega⟩
    · obtain ⟨c, r, e, hc⟩ := ih (n / 10) (by omega) (by omega)
      exact ⟨c, r ++ [48 + n % 10], by rw [numL_step (by omega), e]; rfl, hc⟩
theorem numL_zero : numL 0 = [48] := numL_lt (by decide)
theorem numL_of {c : Nat} {r : List Nat} (h : AllDigits (c :: r)) (hc : 49 ≤ c) : numL (digitsVal (c :: r)) = c :: r := by
  unfold numL
  rw [PySem.NumText.toDigits_digitsVal r.length (c :: r) rfl h (.inr ⟨c, r, rfl, hc⟩), List.map_map]
  have : ∀ d ∈ c :: r, (Char.toNat ∘ Char.ofNat) d = d := fun d hd => by
    have := h d hd
    obtain ⟨j, rfl⟩ : ∃ j, d = 48 + j := ⟨d - 48, by omega⟩
    have hj : j < 10 := by omega
    have q : ∀ j : Fin 10, (Char.toNat ∘ Char.ofNat) (48 + j.val) = 48 + j.val := by decide +kernel
    exact q ⟨j, hj⟩
  rw [List.map_congr_left this, List.map_id'']
  intro _; rfl
/-- what is_number_text looks at -/
def bareOf (l : List Nat) : List Nat := match l with
  | 45 :: r => r
  | l => l
def isNum (l : List Nat) : Bool := match bareOf l with
  | 48 :: _ => decide (l = [48])
  | f => !decide (f = []) && f.all isF
theorem isNum_is (l : List Nat) : isNum l = decide (numT (numOf l) = l) := by
  have back : ∀ n : Int, isNum (numT n) = true := fun n => by
    unfold numT
    split
    · obtain ⟨c, r, e, hc⟩ := numL_head (n := n.natAbs) (by omega)
      have d := numL_digits n.natAbs
      rw [e] at d ⊢
      unfold isNum
      have : bareOf (45 :: c :: r) = c :: r := rfl
      rw [this]
      have hne : c ≠ 48 := by omega
      split
      · rename_i h
        injection h with h1
        exact absurd h1 hne
      · rw [Bool.and_eq_true]
        refine ⟨by simp, List.all_eq_true.mpr fun x hx => isF_iff.mpr (d x hx)⟩
    · by_cases z : n.natAbs = 0
      · rw [z, numL_zero]
        rfl
      · obtain ⟨c, r, e, hc⟩ := numL_head (n := n.natAbs) (by omega)
        have d := numL_digits n.natAbs
        rw [e] at d ⊢
        unfold isNum
        have hc' := d c List.mem_cons_self
        have : bareOf (c :: r) = c :: r := by
          unfold bareOf
          split
          · rename_i h
            injection h with h1
            omega
          · rfl
        rw [this]
        have hne : c ≠ 48 := by omega
        split
        · rename_i h
          injection h with h1
          exact absurd h1 hne
        · rw [Bool.and_eq_true]
          refine ⟨by simp, List.all_eq_true.mpr fun x hx => isF_iff.mpr (d x hx)⟩
  have forth : isNum l = true → numT (numOf l) = l := fun h => by
    unfold isNum at h
    split at h
    · have e := of_decide_eq_true h
      subst e
      decide +kernel
    · rename_i hf
      rw [Bool.and_eq_true] at h
      have hne : bareOf l ≠ [] := by simpa using h.1
      have hd : AllDigits (bareOf l) := fun c hc => isF_iff.mp (List.all_eq_true.mp h.2 c hc)
      obtain ⟨c, r, e⟩ : ∃ c r, bareOf l = c :: r := by
        cases q : bareOf l with
        | nil => exact absurd q hne
        | cons c r => exact ⟨c, r, rfl⟩
      rw [e] at hd
      have hc := hd c List.mem_cons_self
      have hc9 : 49 ≤ c := by
        have : c ≠ 48 := fun z => hf r (by rw [e, z])
        omega
      have nS : isS c = false := by
        cases q : isS c with
        | false => rfl
        | true =>
          have := isS_iff.mp q
          omega
      have tk : (c :: r).takeWhile isF = c :: r := tw_self fun d hd' => isF_iff.mpr (hd d hd')
      have pos := PySem.NumText.digitsVal_pos (cs := r) hc9
      by_cases h45 : ∃ s, l = 45 :: s
      · obtain ⟨s, rfl⟩ := h45
        have es : s = c :: r := e
        subst es
        have s45 : isS 45 = true := by decide +kernel
        have e1 : figs (45 :: c :: r) = c :: r := by
          unfold figs
          rw [List.dropWhile_cons, if_pos s45, List.dropWhile_cons, if_neg (by rw [nS]; decide), tk]
        have e2 : minus (45 :: c :: r) = true := by
          unfold minus
          rw [List.takeWhile_cons, if_pos s45, List.takeWhile_cons, if_neg (by rw [nS]; decide)]
          rfl
        unfold numOf
        rw [e2, e1, if_pos rfl]
        unfold numT
        rw [if_pos (by omega)]
        have : (-((digitsVal (c :: r) : Nat) : Int)).natAbs = digitsVal (c :: r) := by omega
        rw [this, numL_of hd hc9]
      · have el : l = c :: r := by
          rw [← e]
          unfold bareOf
          split
          · exact absurd ⟨_, rfl⟩ h45
          · rfl
        subst el
        have e1 : figs (c :: r) = c :: r := by
          unfold figs
          rw [List.dropWhile_cons, if_neg (by rw [nS]; decide), tk]
        have e2 : minus (c :: r) = false := by
          unfold minus
          rw [List.takeWhile_cons, if_neg (by rw [nS]; decide)]
          rfl
        unfold numOf
        rw [e2, e1, if_neg (by decide)]
        unfold numT
        rw [if_neg (by omega)]
        have : (((digitsVal (c :: r) : Nat) : Int)).natAbs = digitsVal (c :: r) := by omega
        rw [this, numL_of hd hc9]
  by_cases h : numT (numOf l) = l
  · rw [decide_eq_true h, ← h]
    rw [h]
    have := back (numOf l)
    rwa [h] at this
  · rw [decide_eq_false h]
    cases q : isNum l with
    | false => rfl
    | true => exact absurd (forth q) h
theorem numOf_numT (n : Int) : numOf (numT n) = n := by
  have hF : ∀ k : Nat, (numL k).takeWhile isF = numL k := fun k => tw_self fun d hd => isF_iff.mpr (numL_digits k d hd)
  have hS : ∀ k : Nat, (numL k).takeWhile isS = [] ∧ (numL k).dropWhile isS = numL k := fun k => by
    obtain ⟨c, r, e⟩ : ∃ c r, numL k = c :: r := by
      cases q : numL k with
      | nil => exact absurd q (numL_ne k)
      | cons c r => exact ⟨c, r, rfl⟩
    have hc := numL_digits k c (by rw [e]; exact List.mem_cons_self)
    have nS : isS c = false := by
      cases q : isS c with
      | false => rfl
      | true =>
        have := isS_iff.mp q
        omega
    rw [e, List.takeWhile_cons, List.dropWhile_cons, nS]
    exact ⟨rfl, rfl⟩
  have s45 : isS 45 = true := by decide +kernel
  unfold numT
  split
  · have e1 : figs (45 :: numL n.natAbs) = numL n.natAbs := by
      unfold figs
      rw [List.dropWhile_cons, if_pos s45, (hS _).2, hF]
    have e2 : minus (45 :: numL n.natAbs) = true := by
      unfold minus
      rw [List.takeWhile_cons, if_pos s45, (hS _).1]
      rfl
    unfold numOf
    rw [e2, e1, if_pos rfl, numL_val]
    omega
  · have e1 : figs (numL n.natAbs) = numL n.natAbs := by
      unfold figs
      rw [(hS _).2, hF]
    have e2 : minus (numL n.natAbs) = false := by
      unfold minus
      rw [(hS _).1]
      rfl
    unfold numOf
    rw [e2, e1, if_neg (by decide), numL_val]
    omega
/-! ### the defs that reckon with numbers of texts -/
open PySem.NumText (digitsVal AllDigits)
def spNumOf : Sp := fun vs H Q _ => ∃ z : Str, vs = [.str z] ∧ (tl z).length ≤ 250 ∧ Q (.int (numOf (tl z))) H
def spFigs : Sp := fun vs H Q _ => ∃ z : Str, vs = [.str z] ∧ (tl z).length ≤ 250 ∧ AllDigits (tl z) ∧ Q (.int ((digitsVal (tl z) : Nat) : Int)) H
theorem tl_sub (z : Str) (i j : Nat) (hi : i ≤ j) : tl (cutS z (some (i : Int)) (some (j : Int))) = ((tl z).take j).drop i := by
  show (((z.cps.toList.drop (HT.sIx z.length 0 (some (i : Int)))).take (HT.sIx z.length z.length (some (j : Int)) - HT.sIx z.length 0 (some (i : Int)))).toArray).toList = _
  rw [HT.sIx_nat, HT.sIx_nat, List.toList_toArray]
  have e : z.length = (tl z).length := len_tl z
  rw [e]
  show ((tl z).drop (min i (tl z).length)).take (min j (tl z).length - min i (tl z).length) = _
  rw [List.drop_take]
  by_cases h : i ≤ (tl z).length
  · rw [Nat.min_eq_left h]
    by_cases h2 : j ≤ (tl z).length
    · rw [Nat.min_eq_left h2]
    · rw [Nat.min_eq_right (by omega), List.take_of_length_le (by rw [List.length_drop]; exact Nat.le_refl _), List.take_of_length_le (by rw [List.length_drop]; omega)]
  · rw [List.drop_eq_nil_of_le (as := tl z) (i := i) (by omega), List.drop_eq_nil_of_le (as := tl z) (i := min i (tl z).length) (by omega)]
    simp
def rInS : R2 := fun x y H Q => ∃ (c : Nat) (z : Str), x = .str ⟨#[c]⟩ ∧ y = .str z ∧ Q (.bl (decide (c ∈ z.cps.toList))) H
/-- while at < len(worth) and worth[at] in Z: at += 1 -/
theorem scan_loop {i : Nat} {z Z : Str} {k0 : Nat} {σ : L2.St} {H : Hp} {D : Ends} (hz : σ[0]? = some (some (.str z))) (hi : σ[i]? = some (some (.int (k0 : Int)))) (i0 : i ≠ 0) (hl : (tl z).length ≤ 1000) (hk0 : k0 ≤ (tl z).length)
    (q : ∀ k, k0 ≤ k → k ≤ (tl z).length → (∀ j c, k0 ≤ j → j < k → (tl z)[j]? = some c → c ∈ tl Z) → (∀ c, (tl z)[k]? = some c → ¬ c ∈ tl Z) → D.nx (σ.set i (some (.int (k : Int)))) H) :
    tWhile (tAnd (tTest (tOp (rI0 fun i j => V.bl (decide (i < j))) (tVar i) (tCB rLenT1 (tCons (tVar 0) tNil)))) (tTest (tOp rInS (tOp rIxS (tVar 0) (tVar i)) (tC (.str Z))))) (tAug i (tC (.int 1)) (ipI fun i j => i + j)) D σ H := by
  have ez : z.length = (tl z).length := len_tl z
  have hlt : i < σ.length := (List.getElem?_eq_some_iff.mp hi).1
  have e0 : σ.set i (some (.int (k0 : Int))) = σ := List.ext_getElem? fun j => by
    by_cases e : i = j
    · subst e
      rw [List.getElem?_set_self hlt, hi]
    · rw [List.getElem?_set_ne e]
  refine ⟨fun m σ' H' => ∃ k : Nat, k0 ≤ k ∧ k ≤ (tl z).length ∧ (∀ j c, k0 ≤ j → j < k → (tl z)[j]? = some c → c ∈ tl Z) ∧ m = (tl z).length - k ∧ H' = H ∧ σ' = σ.set i (some (.int (k : Int))), ⟨_, k0, Nat.le_refl _, hk0, fun j c h1 h2 => absurd h2 (Nat.not_lt.mpr h1), rfl, rfl, e0.symm⟩, fun m σ' H' hw => ?_⟩
  obtain ⟨k, hk1, hk, hS, rfl, rfl, rfl⟩ := hw
  have v0 : (σ.set i (some (V.int (k : Int))))[0]? = some (some (.str z)) := by rw [List.getElem?_set_ne i0, hz]
  have vi : (σ.set i (some (V.int (k : Int))))[i]? = some (some (.int (k : Int))) := List.getElem?_set_self hlt
  refine ⟨_, vi, _, v0, z, rfl, (by rw [ez]; exact small (by omega)), _, _, rfl, rfl, _, rfl, ?_⟩
  refine ite2 (fun c1 => ?_) (fun c1 => ?_)
  · have hk' : k < (tl z).length := by
      have := of_decide_eq_true c1
      omega
    refine ⟨_, v0, _, vi, z, _, _, rfl, rfl, (by rw [ez]; exact small (by omega)), atI_nat (List.getElem?_eq_getElem hk'), _, _, rfl, rfl, _, rfl, ?_⟩
    refine ite2 (fun c2 => ?_) (fun c2 => ?_)
    · refine ⟨fun σ' H'' => H'' = H' ∧ σ' = σ.set i (some (.int ((k + 1 : Nat) : Int))), fun σ' H'' h => ⟨_, ?_, k + 1, by omega, by omega, fun j c h1 h2 hc => ?_, rfl, h.1, h.2⟩, ?_⟩
      · omega
      · by_cases e : j = k
        · subst e
          rw [List.getElem?_eq_getElem hk'] at hc
          rw [← Option.some.inj hc]
          exact of_decide_eq_true c2
        · exact hS j c h1 (by omega) hc
      · refine ⟨_, vi, _, _, rfl, rfl, rfl, ?_⟩
        rw [List.set_set]
        rfl
    · refine q k hk1 hk hS fun c hc => ?_
      rw [List.getElem?_eq_getElem hk'] at hc
      rw [← Option.some.inj hc]
      exact fun z => c2 (decide_eq_true z)
  · refine iteF (q k hk1 hk hS fun c hc => ?_)
    have hk' := (List.getElem?_eq_some_iff.mp hc).1
    exact absurd (decide_eq_true (show (k : Int) < z.length by omega)) c1
theorem drop_at {l : List Nat} {i j : Nat} : (l.drop i)[j]? = l[i + j]? := by rw [List.getElem?_drop]
section
variable {P : Program} {w : World} {K : PySem.W.Frag} {mg : Str → Option Value} {base : Heap} {cs : Tabs}
theorem ok_number_of (T : Txt K mg cs) (C_number_of_figures : Cal P w K mg base 1 "_number_of_figures" ["figures"] spFigs) : Cal P w K mg base 2 "number_of" ["worth"] spNumOf := by
  refine T.f_number_of.cal scNumberOf (fun vs H Q E h => ?_) (fun f cdv A outer s H vs Q E hr h => ?_)
  · obtain ⟨z, rfl, _⟩ := h
    rfl
  obtain ⟨z, rfl, hl, q⟩ := h
  refine ⟨_, (pss_cons (ps_set (i := 1) scNumberOf.nd rfl (by first | exact Or.inl rfl | exact Or.inr rfl) pe_int)
    (pss_cons (ps_while PassesOwn.never (PW.pt (pw_and (pt_cmpR op_lt (pv 1) (pe_callB lenT rfl T.n_len (by decide +kernel) (pa_cons (pv 0) pa_nil)) (nomark _)) (pw_and1 (pt_cmpR op_in_sign (pe_ix ix_str (pv 0) (pv 1) (fun _ _ => rfl)) pe_str rfl))))
      (pss_one (ps_aug (i := 1) scNumberOf.nd rfl (by first | exact Or.inl rfl | exact Or.inr rfl) pe_int ip_add)))
    (pss_cons (ps_set (i := 2) scNumberOf.nd rfl (by first | exact Or.inl rfl | exact Or.inr rfl) (pv 1))
    (pss_cons (ps_while PassesOwn.never (PW.pt (pw_and (pt_cmpR op_lt (pv 2) (pe_callB lenT rfl T.n_len (by decide +kernel) (pa_cons (pv 0) pa_nil)) (nomark _)) (pw_and1 (pt_cmpR op_in_sign (pe_ix ix_str (pv 0) (pv 2) (fun _ _ => rfl)) (C8.pe_gc rfl T.g__FIGURES) rfl))))
      (pss_one (ps_aug (i := 2) scNumberOf.nd rfl (by first | exact Or.inl rfl | exact Or.inr rfl) pe_int ip_add)))
    (pss_cons (ps_set (i := 3) scNumberOf.nd rfl (by first | exact Or.inl rfl | exact Or.inr rfl) (pe_cal C_number_of_figures (hr.mono (by first | decide | omega)) (pa_cons (pe_slice sl_str (pv 0) (po_some (pv 1)) (po_some (pv 2))) pa_nil)))
    (pss_one (ps_ret (pe_ifExp (pt_cmpR op_eq (pe_op op_mod (pe_m1 PySem.F.slot_str_count PySem.F.type_str_count mt_count (pe_slice sl_str (pv 0) po_none (po_some (pv 1))) pe_str) pe_int) pe_int (nomark _)) (pe_un un_neg (pv 3)) (pv 3))))))))), ?_⟩
  have ez : z.length = (tl z).length := len_tl z
  have zl : z.length ≤ sizeLine := by rw [ez]; exact small (by omega)
  refine scan_loop (i := 1) (k0 := 0) (z := z) (Z := SG) rfl rfl (by decide) (by omega) (Nat.zero_le _) fun k _ hk hS hS' => ?_
  obtain ⟨t1, d1⟩ := walked (p := isS) (l := tl z) (i := k) (fun j c hj hc => decide_eq_true (hS j c (Nat.zero_le _) hj hc)) hk (fun c hc => decide_eq_false (hS' c hc))
  refine ⟨_, rfl, ?_⟩
  refine scan_loop (i := 2) (k0 := k) (z := z) (Z := FG) rfl rfl (by decide) (by omega) hk fun e hke he hF hF' => ?_
  obtain ⟨t2, _⟩ := walked (p := isF) (l := (tl z).drop k) (i := e - k) (fun j c hj hc => decide_eq_true (hF (k + j) c (by omega) (by omega) (by rw [← List.getElem?_drop]; exact hc))) (by rw [List.length_drop]; omega) (fun c hc => decide_eq_false (hF' c (by rw [List.getElem?_drop, show k + (e - k) = e by omega] at hc; exact hc)))
  have ef : tl (cutS z (some (k : Int)) (some (e : Int))) = figs (tl z) := by
    rw [tl_sub z k e hke, List.drop_take]
    unfold figs
    rw [d1, t2]
  refine ⟨_, rfl, _, rfl, _, rfl, _, rfl, _, rfl, z, rfl, zl, _, rfl, by rw [ef]; exact Nat.le_trans (figs_len _) hl, by rw [ef]; exact figs_digits _, ?_⟩
  rw [ef]
  have ec : Txt.count (cutS z none (some (k : Int))) "-" = (cnt45 ((tl z).takeWhile isS) : Int) := by
    rw [count_cnt, tl_cut, t1]
  dsimp only [gName, tSeq, tAsg, tRet, tDrop, tNext]
  refine ⟨_, rfl, _, rfl, _, rfl, z, rfl, zl, ⟨_, rfl⟩, _, _, rfl, rfl, _, _, rfl, rfl, show (0 : Int) < 2 by decide, rfl, _, rfl, ?_⟩
  rw [ec]
  have em : decide (V.int ((cnt45 ((tl z).takeWhile isS) : Int) % 2) = V.int 1) = minus (tl z) := by
    unfold minus
    generalize cnt45 ((tl z).takeWhile isS) = n
    by_cases h : n % 2 = 1
    · have : ((n : Int) % 2) = 1 := by omega
      rw [this, decide_eq_true h]
      rfl
    · have : ¬ ((n : Int) % 2) = 1 := by omega
      rw [decide_eq_false h, decide_eq_false]
      intro e
      injection e with e
      exact this e
  rw [em]
  refine ite2 (fun c => ?_) (fun c => ?_)
  · refine ⟨_, rfl, _, rfl, ?_⟩
    unfold numOf at q
    rw [if_pos c] at q
    exact q
  · refine ⟨_, rfl, ?_⟩
    unfold numOf at q
    rw [if_neg c] at q
    exact q
theorem rg64 {i n : Nat} (h : i + 64 * n ≤ 1000000) : RgC (i : Int) ((i + 64 * n : Nat) : Int) 64 n := by
  refine ⟨by decide, by decide, ?_, ?_⟩
  · have e : Builtin.Range.rangeSize (i : Int) ((i + 64 * n : Nat) : Int) 64 = n := by
      unfold Builtin.Range.rangeSize
      rw [if_pos (by decide)]
      split
      · have e : (((i + 64 * n : Nat) : Int) - (i : Int) - 1) / 64 = (n : Int) - 1 := by omega
        rw [e]
        omega
      · omega
    unfold Builtin.Range.small
    rw [e]
    have f : ∀ x : Int, 0 ≤ x → x < 2000000 → Builtin.Range.rangeFitsLong x = true := fun x h0 h1 => by
      unfold Builtin.Range.rangeFitsLong
      rw [Bool.and_eq_true]
      exact ⟨decide_eq_true (Int.le_trans (by decide) h0), decide_eq_true (Int.lt_trans h1 (by decide))⟩
    rw [f _ (by omega) (by omega), f _ (by omega) (by omega), f 64 (by decide) (by decide), f _ (by omega) (by omega), if_pos (by decide), f _ (by omega) (by omega), Bool.or_true]
    rfl
  · unfold Builtin.Range.rangeSize
    rw [if_pos (by decide)]
    split
    · have e : (((i + 64 * n : Nat) : Int) - (i : Int) - 1) / 64 = (n : Int) - 1 := by omega
      rw [e]
      omega
    · omega
theorem int_digits {x : Str} (h : AllDigits (tl x)) (h1 : tl x ≠ []) (h2 : (tl x).length ≤ 640) : PySem.intText? x = some ((digitsVal (tl x) : Nat) : Int) := intText_digits h h1 (by rw [len_tl]; omega)
theorem pow250 {n : Nat} (h : n < 10 ^ 250) : (n : Int).natAbs < 2 ^ 900 := Nat.lt_trans h (by decide)
theorem ok_number_of_figures (T : Txt K mg cs) : Cal P w K mg base 1 "_number_of_figures" ["figures"] spFigs := by
  refine T.f_number_of_figures.cal scNumberOfFigures (fun vs H Q E h => ?_) (fun f cdv A outer s H vs Q E hr h => ?_)
  · obtain ⟨z, rfl, _⟩ := h
    rfl
  obtain ⟨z, rfl, hl, hd, q⟩ := h
  refine ⟨_, (pss_cons (ps_set (i := 1) scNumberOfFigures.nd rfl (by first | exact Or.inl rfl | exact Or.inr rfl) (pe_op op_mod (pe_callB lenT rfl T.n_len (by decide +kernel) (pa_cons (pv 0) pa_nil)) pe_int))
    (pss_cons (ps_set (i := 2) scNumberOfFigures.nd rfl (by first | exact Or.inl rfl | exact Or.inr rfl) (pe_callTy call_int_str rfl T.n_int (by decide +kernel) (pa_cons (pe_op op_add_str pe_str (pe_slice sl_str (pv 0) po_none (po_some (pv 1)))) pa_nil)))
    (pss_cons (ps_for PassesOwn.never rfl (pi_range3 rfl T.n_range (pa_cons (pv 1) (pa_cons (pe_callB lenT rfl T.n_len (by decide +kernel) (pa_cons (pv 0) pa_nil)) (pa_cons pe_int pa_nil)))) (pg_name (i := 3) scNumberOfFigures.nd rfl (by first | exact Or.inl rfl | exact Or.inr rfl))
      (pss_one (ps_set (i := 2) scNumberOfFigures.nd rfl (by first | exact Or.inl rfl | exact Or.inr rfl) (pe_op op_add (pe_op op_mulW (pv 2) (pe_op op_powW pe_int pe_int)) (pe_callTy call_int_str rfl T.n_int (by decide +kernel) (pa_cons (pe_slice sl_str (pv 0) (po_some (pv 3)) (po_some (pe_op op_add (pv 3) pe_int))) pa_nil))))))
    (pss_one (ps_ret (pv 2)))))), ?_⟩
  have ez : z.length = (tl z).length := len_tl z
  have zl : z.length ≤ sizeLine := by rw [ez]; exact small (by omega)
  refine ⟨_, rfl, z, rfl, zl, _, _, rfl, rfl, show (0 : Int) < 64 by decide, ?_⟩
  dsimp only [gName, tSeq, tAsg, tRet, tDrop, tNext]
  have e64 : ((z.length : Int) % 64) = (((tl z).length % 64 : Nat) : Int) := by rw [ez]; omega
  rw [e64]
  generalize hg : (tl z).length % 64 = g
  obtain ⟨n, hn⟩ : ∃ n, (tl z).length = g + 64 * n := ⟨(tl z).length / 64, by omega⟩
  have e0 : tl ("0" ++ cutS z none (some (g : Int))) = 48 :: (tl z).take g := by
    rw [tl_append, tl_cut]
    rfl
  have d0 : AllDigits (48 :: (tl z).take g) := fun c hc => by
    rcases List.mem_cons.mp hc with rfl | hc
    · omega
    · exact hd c (List.mem_of_mem_take hc)
  refine ⟨_, rfl, _, rfl, _, rfl, z, rfl, zl, _, _, rfl, rfl, ?_, _, _, rfl, int_digits (by rw [e0]; exact d0) (by rw [e0]; exact List.cons_ne_nil _ _) (by rw [e0, List.length_cons, List.length_take]; omega), ?_, ?_⟩
  · rw [len_tl, len_tl, tl_cut]
    refine Nat.le_trans (Nat.add_le_add (show (tl ("0" : Str)).length ≤ 1 by decide) (show ((tl z).take g).length ≤ 250 by rw [List.length_take]; omega)) (by decide)
  · rw [len_tl, e0, List.length_cons, List.length_take]
    omega
  rw [e0]
  have ev : ∀ l : List Nat, digitsVal (48 :: l) = digitsVal l := fun l => rfl
  rw [ev]
  dsimp only [gName, tSeq, tAsg, tRet, tDrop, tNext]
  refine ⟨_, rfl, _, rfl, z, rfl, zl, _, _, _, n, rfl, (by rw [ez, hn]; exact rg64 (by omega)), ?_⟩
  refine for_rangeC (fun j σ H' => H' = H ∧ ∃ x3, σ = [some (.str z), some (.int (g : Int)), some (.int ((digitsVal ((tl z).take (g + 64 * j)) : Nat) : Int)), x3]) ⟨rfl, none, rfl⟩ (fun j σ H' hj hp => ?_) fun σ H' hp => ?_
  · obtain ⟨rfl, x3, rfl⟩ := hp
    have ej : (g : Int) + (j : Int) * 64 = ((g + 64 * j : Nat) : Int) := by omega
    rw [ej]
    have e2 : ((g + 64 * j : Nat) : Int) + 64 = ((g + 64 * j + 64 : Nat) : Int) := by omega
    have et : tl (cutS z (some ((g + 64 * j : Nat) : Int)) (some (((g + 64 * j : Nat) : Int) + 64))) = ((tl z).drop (g + 64 * j)).take 64 := by
      rw [e2, tl_sub z _ _ (by omega), List.drop_take, show g + 64 * j + 64 - (g + 64 * j) = 64 by omega]
    have dt : AllDigits (((tl z).drop (g + 64 * j)).take 64) := fun c hc => hd c (List.mem_of_mem_drop (List.mem_of_mem_take hc))
    have lt : (((tl z).drop (g + 64 * j)).take 64).length = 64 := by rw [List.length_take, List.length_drop]; omega
    have dv : digitsVal ((tl z).take (g + 64 * j)) < 10 ^ 250 := by
      have := val_lt (l := (tl z).take (g + 64 * j)) fun c hc => hd c (List.mem_of_mem_take hc)
      exact Nat.lt_of_lt_of_le this (Nat.pow_le_pow_right (by decide) (by rw [List.length_take]; omega))
    refine ⟨_, rfl, 10, 64, rfl, rfl, ⟨by decide, by decide, by decide⟩, _, _, rfl, rfl, wide_mul (a := 900) (b := 300) (pow250 dv) (by decide) (by decide) (by decide) (by decide), ?_⟩
    refine ⟨_, rfl, _, rfl, _, rfl, _, rfl, _, _, rfl, rfl, _, rfl, z, rfl, zl, _, _, rfl, int_digits (by rw [et]; exact dt) (by rw [et]; intro z; rw [z] at lt; cases lt) (by rw [et, lt]; decide), by rw [len_tl, et, lt]; decide, _, _, rfl, rfl, ?_⟩
    refine ⟨rfl, some (.int ((g + 64 * j : Nat) : Int)), ?_⟩
    rw [et]
    have e3 : (tl z).take (g + 64 * (j + 1)) = (tl z).take (g + 64 * j) ++ ((tl z).drop (g + 64 * j)).take 64 := by
      rw [show g + 64 * (j + 1) = (g + 64 * j) + 64 by omega, List.take_add]
    have e4 : ((digitsVal ((tl z).take (g + 64 * j)) : Nat) : Int) * 10 ^ ((64 : Int)).toNat + ((digitsVal (((tl z).drop (g + 64 * j)).take 64) : Nat) : Int) = ((digitsVal ((tl z).take (g + 64 * (j + 1))) : Nat) : Int) := by
      rw [e3, val_append, lt, Int.natCast_add, Int.natCast_mul]
      rfl
    rw [← e4]
    rfl
  · obtain ⟨rfl, x3, rfl⟩ := hp
    refine ⟨_, rfl, ?_⟩
    rw [← hn, List.take_length]
    exact q
end
/-! ### all(.. for sign in text) -/
theorem all_signs {p : Addr} {te0 te : TE} {i : Nat} {σ : L2.St} {H : Hp} {Q : VK} {z : Str} (pb : Nat → Bool) (h0 : ∀ R : VK, R (.str z) H → te0 σ H R) (ht : Tb H p)
    (he : ∀ (c : Nat) (H2 : Hp) (R : VK), c ∈ tl z → Sm H H2 → (∀ H3, Sm H2 H3 → R (.bl (pb c)) H3) → te ((σ.set i none).set i (some (.str ⟨#[c]⟩))) H2 R) (q : ∀ H', Sm H H' → Q (.bl ((tl z).all pb)) H') : GA.tAllG p (iStr te0) (gName i) te [i] σ H Q := by
  refine h0 _ ⟨z, rfl, ht, fun H2 hT => ?_⟩
  have S2 : Sm H H2 := hT
  refine ⟨fun j m H' => Sm H H' ∧ j ≤ (tl z).length ∧ m = (tl z).length - j ∧ ∀ k c, k < j → (tl z)[k]? = some c → pb c = true, ⟨_, S2, Nat.zero_le _, rfl, fun k c hk => absurd hk (Nat.not_lt_zero _)⟩, fun j m H' hw => ?_⟩
  obtain ⟨S, hj, rfl, hp⟩ := hw
  have sz : z.cps.size = (tl z).length := by simp [tl]
  by_cases hlt : j < (tl z).length
  · refine .inr ⟨by show j < z.cps.size; omega, fun H'' => Sm H H'' ∧ pb (tl z)[j] = true, fun H'' h => ⟨_, ?_, h.1, by omega, rfl, fun k c hk hc => ?_⟩, fun x H'' hy => ?_⟩
    · omega
    · by_cases e : k = j
      · subst e
        rw [List.getElem?_eq_getElem hlt] at hc
        rw [← Option.some.inj hc]
        exact h.2
      · exact hp k c (by omega) hc
    · obtain ⟨rfl, c, hc, rfl⟩ := hy
      have hc' : (tl z)[j]? = some c := by
        show z.cps.toList[j]? = some c
        rw [Array.getElem?_toList]
        exact hc
      have ec : (tl z)[j] = c := by
        rw [List.getElem?_eq_getElem hlt] at hc'
        exact Option.some.inj hc'
      refine ⟨?_, ?_⟩
      · show ((σ.set i none).set i (some (V.str ⟨#[c]⟩))).set i none = σ.set i none
        rw [List.set_set, List.set_set]
      · refine he c H'' _ (List.mem_of_getElem? hc') S fun H3 S3 => ⟨_, rfl, ?_⟩
        refine ite2 (fun e => ?_) (fun e => ?_)
        · exact ⟨S.trans S3, by rw [ec]; exact e⟩
        · have : (tl z).all pb = false := by
            cases q' : (tl z).all pb with
            | false => rfl
            | true => exact absurd (List.all_eq_true.mp q' c (List.mem_of_getElem? hc')) e
          have := this ▸ q H3 (S.trans S3)
          exact this
  · refine .inl ⟨by show z.cps.size ≤ j; omega, ?_⟩
    have : (tl z).all pb = true := List.all_eq_true.mpr fun c hc => by
      obtain ⟨k, hk, e⟩ := List.mem_iff_getElem.mp hc
      exact hp k c (by omega) (by rw [List.getElem?_eq_getElem hk, e])
    have := this ▸ q H' S
    exact this
open PySem.NumText (digitsVal AllDigits)
def spIsNum (p : Addr) : Sp := fun vs H Q _ => ∃ z : Str, vs = [.str z] ∧ (tl z).length ≤ 250 ∧ Tb H p ∧ ∀ H', Sm H H' → Q (.bl (isNum (tl z))) H'
theorem starts_one (x : Str) (c : Nat) : Txt.startswith x ⟨#[c]⟩ = decide ((tl x)[0]? = some c) := by
  have h := StrLaws.subAt_one x c 0
  unfold Txt.startswith
  by_cases e : (tl x)[0]? = some c
  · have := h.mpr e
    rw [decide_eq_true e, Bool.and_eq_true]
    exact ⟨decide_eq_true this.1, this.2⟩
  · rw [decide_eq_false e]
    cases q : (decide (0 + (⟨#[c]⟩ : Str).length ≤ x.length) && Builtin.Str.subAt x ⟨#[c]⟩ 0) with
    | false => rfl
    | true =>
      rw [Bool.and_eq_true] at q
      exact absurd (h.mp ⟨of_decide_eq_true q.1, q.2⟩) e
theorem tl_bare (z : Str) : tl (Txt.removeprefix z "-") = bareOf (tl z) := by
  have e0 : ("-" : Str) = ⟨#[45]⟩ := by decide +kernel
  rw [e0, StrLaws.removeprefix_eq]
  have h := starts_one z 45
  unfold Txt.startswith at h
  rw [h]
  by_cases e : (tl z)[0]? = some 45
  · rw [decide_eq_true e, if_pos rfl]
    show ((z.cps.toList.drop 1).take (z.length - 1)) = _
    have ez : z.length = (tl z).length := len_tl z
    rw [ez]
    show ((tl z).drop 1).take ((tl z).length - 1) = _
    rw [List.take_of_length_le (by rw [List.length_drop]; exact Nat.le_refl _)]
    cases q : tl z with
    | nil => rw [q] at e; cases e
    | cons a r =>
      rw [q] at e
      have : a = 45 := Option.some.inj e
      subst this
      rfl
  · rw [decide_eq_false e, if_neg (by decide)]
    cases q : tl z with
    | nil => rfl
    | cons a r =>
      rw [q] at e
      unfold bareOf
      split
      · rename_i he
        injection he with h1
        subst h1
        exact absurd rfl e
      · rfl
theorem isNum_head {l : List Nat} (h : (bareOf l)[0]? = some 48) : isNum l = decide (l = [48]) := by
  unfold isNum
  split
  · rfl
  · rename_i hf
    cases q : bareOf l with
    | nil => rw [q] at h; cases h
    | cons a r =>
      rw [q] at h
      exact absurd (by rw [q, Option.some.inj h]) (hf r)
theorem isNum_else {l : List Nat} (h : ¬ (bareOf l)[0]? = some 48) : isNum l = (!decide (bareOf l = []) && (bareOf l).all isF) := by
  unfold isNum
  split
  · rename_i r e
    exact absurd (by rw [e]; rfl) h
  · rfl
theorem dec_str (x y : Str) : decide (V.str x = V.str y) = decide (tl x = tl y) := by
  by_cases e : x = y
  · subst e
    simp
  · rw [decide_eq_false (fun h => e (ext_tl h)), decide_eq_false]
    intro h
    injection h with h
    exact e h
section
variable {P : Program} {w : World} {K : PySem.W.Frag} {mg : Str → Option Value} {base : Heap} {cs : Tabs}
theorem ok_is_number_text (T : Txt K mg cs) (B : TBs base mg cs) : Cal P w K mg base 2 "is_number_text" ["worth"] (spIsNum cs.p_is_number_text) := by
  refine T.f_is_number_text.cal scIsNumberText (fun vs H Q E h => ?_) (fun f A outer s H vs Q E hr h => ?_)
  · obtain ⟨z, rfl, _⟩ := h
    rfl
  obtain ⟨z, rfl, hl, ht, q⟩ := h
  refine ⟨_, (pss_cons (ps_set (i := 1) scIsNumberText.nd rfl (by first | exact Or.inl rfl | exact Or.inr rfl) (pe_m1 PySem.F.slot_str_removeprefix PySem.F.type_str_removeprefix mt_removeprefix (pv 0) pe_str))
    (pss_cons (ps_if (pt_val (pe_m1 PySem.F.slot_str_startswith PySem.F.type_str_startswith mt_startswith (pv 1) pe_str)) (pss_one (ps_ret (pe_cmpR op_eq (pv 0) pe_str (nomark _)))) pss_nil)
    (pss_one (ps_ret (pe_and (pe_cmpR op_ne (pv 1) pe_str (nomark _)) (pe_one (GA.pe_allG (k := 0) (own := [("sign", 2)]) (g := gName 2) (hr.mono (by decide)) B.b_is_number_text scIsNumberText.nd (blkOk_by (own := [("sign", 2)]) (N := ["worth", "figures", "sign"]) (sc := defScope sIsNumberText) (by decide +kernel)) (by decide +kernel) (pi_str (pv 1)) T.n_all (fun _ _ _ _ _ _ _ _ => (pg_name (i := 2) scIsNumberText.nd rfl (by first | exact Or.inl rfl | exact Or.inr rfl))) (fun _ _ _ _ _ _ _ hr => (pe_cmpR op_in_sign (pv 2) (C8.pe_gc rfl T.g__FIGURES) rfl))))))))), ?_⟩
  have ez : z.length = (tl z).length := len_tl z
  have zl : z.length ≤ sizeLine := by rw [ez]; exact small (by omega)
  have e48 : ("0" : Str) = ⟨#[48]⟩ := by decide +kernel
  refine ⟨_, rfl, ⟨_, rfl⟩, _, _, rfl, rfl, zl, ?_⟩
  dsimp only [gName, tSeq, tAsg, tRet, tDrop, tNext]
  refine ⟨_, rfl, ⟨_, rfl⟩, _, _, rfl, rfl, _, rfl, ?_⟩
  rw [e48, starts_one, tl_bare]
  have G := Sm.refl H
  refine ite2 (fun c => ?_) (fun c => ?_)
  · refine ⟨_, rfl, rfl, ?_⟩
    have := q H G
    rw [isNum_head (of_decide_eq_true c)] at this
    rw [dec_str]
    exact this
  · have hc : ¬ (bareOf (tl z))[0]? = some 48 := fun e => c (decide_eq_true e)
    rw [isNum_else hc] at q
    refine ⟨_, rfl, rfl, _, rfl, ?_⟩
    rw [dec_str, tl_bare]
    have e0 : tl ("" : Str) = [] := by decide +kernel
    rw [e0]
    refine ite2 (fun c2 => ?_) (fun c2 => ?_)
    · rw [c2, Bool.true_and, ← tl_bare] at q
      refine all_signs (i := 2) (z := Txt.removeprefix z "-") isF (fun R h => ⟨_, rfl, h⟩) ht (fun c H2 R _ _ h => ?_) q
      exact ⟨_, rfl, _, _, rfl, rfl, h H2 (Sm.refl H2)⟩
    · rw [Bool.eq_false_iff.mpr c2, Bool.false_and] at q
      exact q H G
end
/-! ### numbers' texts, how long they are -/
def spNumText : Sp := fun vs H Q _ => ∃ n : Int, vs = [.int n] ∧ n.natAbs < 10 ^ 60 ∧ ∀ (z : Str) (H' : Hp), Sm H H' → tl z = numT n → Q (.str z) H'
theorem tl_int (i : Int) (h : 0 ≤ i) : tl (Str.ofString (toString i)) = numL i.natAbs := by
  obtain ⟨n, rfl⟩ : ∃ n : Nat, i = (n : Int) := ⟨i.toNat, by omega⟩
  exact tl_num n
theorem log_ok {i : Int} (h : i.natAbs < 10 ^ 250) : i.natAbs.log2 < 1920 := Nat.lt_trans (PySem.Flt.log2_lt_of (n := i.natAbs) (k := 900) (by decide) (Nat.lt_trans h (by decide))) (by decide)
theorem upd_twice {H : Hp} {p : Addr} {o u : HO} : upd (upd H p o) p u = upd H p u := by
  funext a
  by_cases e : a = p
  · subst e
    rw [upd_same, upd_same]
  · rw [upd_ne e, upd_ne e, upd_ne e]
/-! ### references compared -/
theorem strOk_of {z : Str} (h : ∀ c ∈ tl z, c < 128) : PyData.strOk z = true := by
  unfold PyData.strOk
  rw [← Array.all_toList, List.all_eq_true]
  intro c hc
  exact decide_eq_true (Nat.lt_trans (h c hc) (by decide))
def dS (ks : List Str) : List PyData := ks.map PyData.str
theorem dp_strs {K : PySem.W.Frag} {H : Hp} : ∀ ks : List Str, DpAll K H (ks.map V.str) (dS ks)
  | [] => .nil
  | x :: r => .cons (.str x) (dp_strs r)
theorem eqv_strs : ∀ a b : List Str, PyData.eqvAll (dS a) (dS b) = decide (a = b)
  | [], [] => by simp [dS, PyData.eqvAll]
  | [], _ :: _ => by simp [dS, PyData.eqvAll]
  | _ :: _, [] => by simp [dS, PyData.eqvAll]
  | x :: a, y :: b => by
    have ih := eqv_strs a b
    unfold dS at ih ⊢
    rw [List.map_cons, List.map_cons, PyData.eqvAll, ih]
    show ((x == y) && decide (a = b)) = decide (x :: a = y :: b)
    by_cases e : x = y
    · subst e
      simp
    · simp [e]
theorem lay_strs : ∀ ks : List Str, (∀ z ∈ ks, PyData.strOk z = true) → PyData.canLayAll0 (dS ks) = true
  | [], _ => rfl
  | x :: r, h => by
    show (PyData.strOk x && PyData.canLayAll0 (dS r)) = true
    rw [h x List.mem_cons_self, lay_strs r fun z hz => h z (List.mem_cons_of_mem _ hz)]
    rfl
theorem depth_strs : ∀ ks : List Str, PyData.depthAll (dS ks) = 0
  | [] => rfl
  | x :: r => by
    show max 0 (PyData.depthAll (dS r)) = 0
    rw [depth_strs r]
    rfl
theorem Sm.own {H0 H1 : Hp} {b : Addr} {o : HO} (S : Sm H0 H1) (hb : H0 b = none) (nt : ∀ qs, H1 b = some qs → plainO qs = true) : Sm H0 (upd H1 b o) := ⟨fun a u h n => by
  rw [upd_ne (ne_of_none h hb)]
  exact S.keep a u h n, fun P t => TabG.upd (S.tab P t) nt, fun a ha => by
  by_cases e : a = b
  · rw [e]
    exact hb
  · rw [upd_ne e] at ha
    exact S.gone a ha⟩
/-! ### references compared -/
theorem shaped_tup {ks : List Str} (h : ∀ z ∈ ks, PyData.strOk z = true) : SeqAt.shaped (.tuple (dS ks)) = true := by
  show (PyData.canLayAll0 (dS ks) && decide (PyData.depthAll (dS ks) + 1 ≤ 64)) = true
  rw [lay_strs ks h, depth_strs]
  rfl
theorem KEY.ok {z : Str} (h : KEY z) : PyData.strOk z = true := strOk_of fun c hc => by
  have q := h.wt.sg c hc
  unfold sgn at q
  rw [Bool.and_eq_true, Bool.and_eq_true] at q
  have := of_decide_eq_true q.2.1
  omega

theorem cut_take (xs : List V) (k : Nat) : cutV xs none (some (k : Int)) = xs.take k := by
  unfold cutV
  rw [HT.sIx_none, HT.sIx_nat, List.drop_zero, Nat.sub_zero]
  by_cases h : k ≤ xs.length
  · rw [Nat.min_eq_left h]
  · rw [Nat.min_eq_right (by omega), List.take_of_length_le (Nat.le_refl _), List.take_of_length_le (by omega)]
theorem slice_take {K : PySem.W.Frag} {t : Addr} {xs : List V} {k : Nat} {H : Hp} {Q : VK} (h : SqT K H t xs) (q : ∀ p H', Sm H H' → SqT K H' p (xs.take k) → Q (.ref p) H') : rSlA K (.ref t) none (some (k : Int)) H Q := by
  refine ⟨t, xs, rfl, h, fun e => ?_, fun _ p hp => ?_⟩
  · refine q t H (Sm.refl H) ?_
    have e2 := e.2
    rw [HT.sIx_nat] at e2
    rw [List.take_of_length_le (by omega)]
    exact h
  · rw [cut_take]
    exact q p _ (Sm.new hp) (.inl (.inl upd_same))
/-- [g j for j in range(n) if p j], all of it told without a change of what stands -/
theorem lc_pick {i n : Nat} {σ : L2.St} {H1 : Hp} {D : Addr} {tt : TT} {te : TE} {Q : VK} (p : Nat → Bool) (g : Nat → V) (hD : H1 D = none) (hn : n ≤ 90000)
    (ht : ∀ j H, j < n → Sm H1 H → ∀ R : Bool → Hp → Prop, (∀ H', Sm H H' → R (p j) H') → tt ((σ.set i none).set i (some (.int (0 + (j : Int))))) H R)
    (he : ∀ j H, j < n → Sm H1 H → ∀ R : VK, (∀ H', Sm H H' → R (g j) H') → te ((σ.set i none).set i (some (.int (0 + (j : Int))))) H R)
    (hQ : ∀ H', Sm H1 H' → H' D = some (.lst (((List.range n).filter p).map g)) → Q (.ref D) H') :
    ∃ W : Nat → Nat → Hp → Prop, (∃ k, W 0 k (upd H1 D (.lst []))) ∧ ∀ j k H, W j k H →
      ((Itr 0 n).stop j H ∧ Q (.ref D) H) ∨ ((Itr 0 n).go j H ∧ ∃ Nx : Hp → Prop, (∀ H', Nx H' → ∃ k', k' < k ∧ W (j + 1) k' H') ∧ ∀ x H', (Itr 0 n).yld j H x H' → gName i x (wipe σ [i]) H' fun σ2 H2 => wipe σ2 [i] = wipe σ [i] ∧ tt σ2 H2 fun b H3 =>
        if b = true then te σ2 H3 fun y H4 => ∃ acc, H4 D = some (.lst acc) ∧ acc.length < sizeLine ∧ Nx (upd H4 D (.lst (acc ++ [y]))) else Nx H3) := by
  refine lc_range (lo := 0) (n := n) (fun j H => Sm H1 H ∧ H D = some (.lst (((List.range j).filter p).map g))) ⟨Sm.new hD, upd_same⟩ (fun j H hj hp => ?_) fun H hp => hQ H hp.1 hp.2
  obtain ⟨G, hy⟩ := hp
  have hl : (((List.range j).filter p).map g).length ≤ j := by
    rw [List.length_map]
    exact Nat.le_trans (List.length_filter_le _ _) (by rw [List.length_range]; exact Nat.le_refl _)
  refine ⟨?_, ?_⟩
  · show ((σ.set i none).set i (some (.int (0 + (j : Int))))).set i none = (σ.set i none)
    rw [List.set_set, List.set_set]
  · show tt ((σ.set i none).set i (some (.int (0 + (j : Int))))) H _
    refine ht j H hj G _ fun H' G' => ?_
    have er : (List.range (j + 1)).filter p = (List.range j).filter p ++ (if p j = true then [j] else []) := by
      rw [List.range_succ, List.filter_append]
      congr 1
      by_cases c : p j = true <;> simp [c]
    refine ite2 (fun c => ?_) (fun c => ?_)
    · refine he j H' hj (G.trans G') _ fun H4 G4 => ⟨_, G4 _ _ (G' _ _ hy), small' (by omega), ?_, ?_⟩
      · exact Sm.own ((G.trans G').trans G4) hD (no_tbl (G4 _ _ (G' _ _ hy)))
      · rw [er, if_pos c, List.map_append]
        exact upd_same
    · refine ⟨G.trans G', ?_⟩
      rw [er, if_neg c, List.append_nil]
      exact G' _ _ hy
theorem lc_picked {i n : Nat} {σ : L2.St} {H : Hp} {ta : TA} {tt : TT} {te : TE} {Q : VK} (p : Nat → Bool) (g : Nat → V) (ha : ∀ R : List V → Hp → Prop, (∀ H1, Sm H H1 → R [.int (n : Int)] H1) → ta σ H R) (hn : n ≤ 90000)
    (ht : ∀ j H2, j < n → Sm H H2 → ∀ R : Bool → Hp → Prop, (∀ H', Sm H2 H' → R (p j) H') → tt ((σ.set i none).set i (some (.int (0 + (j : Int))))) H2 R)
    (he : ∀ j H2, j < n → Sm H H2 → ∀ R : VK, (∀ H', Sm H2 H' → R (g j) H') → te ((σ.set i none).set i (some (.int (0 + (j : Int))))) H2 R)
    (hQ : ∀ D H', Sm H H' → H' D = some (.lst (((List.range n).filter p).map g)) → Q (.ref D) H') : tLc (iRng1 ta) (gName i) tt te [i] σ H Q := by
  refine ha _ fun H1 G => ⟨(n : Int), rfl, by omega, by omega, fun D hD => ?_⟩
  exact lc_pick (i := i) (n := n) (tt := tt) (te := te) p g hD (by omega) (fun j H2 hj G2 R hR => ht j H2 hj (G.trans G2) R hR) (fun j H2 hj G2 R hR => he j H2 hj (G.trans G2) R hR) fun H' G' hy => hQ D H' (G.trans G') hy
/-- a list of numbers against the empty one -/
theorem dp_ints {K : PySem.W.Frag} {H : Hp} : ∀ ns : List Int, DpAll K H (ns.map V.int) (ns.map PyData.int)
  | [] => .nil
  | x :: r => .cons (.int x) (dp_ints r)
theorem lay_ints : ∀ ns : List Int, PyData.canLayAll0 (ns.map PyData.int) = true
  | [] => rfl
  | x :: r => by
    show (true && PyData.canLayAll0 (r.map PyData.int)) = true
    rw [lay_ints r]
    rfl
theorem depth_ints : ∀ ns : List Int, PyData.depthAll (ns.map PyData.int) = 0
  | [] => rfl
  | x :: r => by
    show max 0 (PyData.depthAll (r.map PyData.int)) = 0
    rw [depth_ints r]
    rfl
theorem shaped_ints (ns : List Int) : SeqAt.shaped (.list (ns.map PyData.int)) = true := by
  show (PyData.canLayAll0 (ns.map PyData.int) && decide (PyData.depthAll (ns.map PyData.int) + 1 ≤ 64)) = true
  rw [lay_ints, depth_ints]
  rfl
theorem eqv_nil (ns : List PyData) : PyData.eqv (.list ns) (.list []) = ns.isEmpty := by
  show PyData.eqvAll ns [] = _
  cases ns with
  | nil => rfl
  | cons a r => rfl
def stemB (n1 : Str) (k1 : List Str) (n2 : Str) (k2 : List Str) : Bool := decide (n1 = n2) && decide (k1 = k2.take k1.length)
def spTwo (K : PySem.W.Frag) (B : Str → List Str → Str → List Str → Bool) : Sp := fun vs H Q _ => ∃ (p q : Addr) (n1 n2 : Str) (k1 k2 : List Str), vs = [.ref p, .ref q] ∧ RefAt K H p n1 k1 ∧ RefAt K H q n2 k2 ∧ REF n1 k1 ∧ REF n2 k2 ∧ ∀ H', Sm H H' → Q (.bl (B n1 k1 n2 k2)) H'
theorem cut_drop (xs : List V) (k : Nat) : cutV xs (some (k : Int)) none = xs.drop k := by
  unfold cutV
  rw [HT.sIx_none, HT.sIx_nat]
  by_cases h : k ≤ xs.length
  · rw [Nat.min_eq_left h, List.take_of_length_le]
    rw [List.length_drop]
    exact Nat.le_refl _
  · rw [Nat.min_eq_right (by omega), List.drop_eq_nil_of_le (Nat.le_refl _), List.drop_eq_nil_of_le (by omega), List.take_nil]
/-! ### loops, and heaps behind a bag that is one's own -/
theorem Sm.go {H0 H1 H2 : Hp} {b : Addr} {n : Nat} (S : Sm H0 H1) (G : Go b n H1 H2) (hb : H0 b = none) : Sm H0 H2 := ⟨fun a o h nt => G.keep a o (ne_of_none h hb) (S.keep a o h nt) nt, fun P t => G.tab P (S.tab P t), fun a ha => S.gone a (G.gone a ha)⟩
theorem SqT.upd {K : PySem.W.Frag} {H : Hp} {S t : Addr} {xs ys : List V} {o : HO} (h : SqT K H t xs) (hs : H S = some (.lst ys)) : SqT K (upd H S o) t xs := by
  have ne : ∀ {u : HO}, H t = some u → (∀ zs, u ≠ .lst zs) → t ≠ S := fun hu no e => by
    rw [e, hs] at hu
    exact no _ (Option.some.inj hu).symm
  rcases h with (h | ⟨ob, h⟩) | h
  · exact .inl (.inl (by rw [upd_ne (ne h fun _ z => by cases z)]; exact h))
  · exact .inl (.inr ⟨ob, by rw [upd_ne (ne h fun _ z => by cases z)]; exact h⟩)
  · exact .inr h
theorem RefAt.upd {K : PySem.W.Frag} {H : Hp} {S p : Addr} {n : Str} {ks : List Str} {ys : List V} {o : HO} (h : RefAt K H p n ks) (hs : H S = some (.lst ys)) : RefAt K (upd H S o) p n ks := by
  obtain ⟨t, h1, h2⟩ := h.ex
  exact ⟨t, SqT.upd h1 hs, SqT.upd h2 hs⟩
theorem Bag.upd {H : Hp} {b S : Addr} {m : Nat} {o : HO} (B : Bag H b m) (ne : S ≠ b) : Bag (upd H S o) b m := by
  obtain ⟨x, y, z, h1, h2⟩ := B
  exact ⟨x, y, z, by rw [upd_ne (Ne.symm ne)]; exact h1, h2⟩
section
variable {K : PySem.W.Frag}
theorem for_in {i j : Nat} {S : Addr} {xs : List V} {tb : TS} {D : Ends} {σ : L2.St} {H : Hp} (Pv : Nat → L2.St → Hp → Prop) (hj : σ[j]? = some (some (.ref S))) (hS : SqL K H S xs) (h0 : Pv 0 σ H) (hl : ∀ n σ H, n ≤ xs.length → Pv n σ H → SqL K H S xs)
    (hs : ∀ n x σ H, xs[n]? = some x → Pv n σ H → tb { D with nx := Pv (n + 1), ct := Pv (n + 1), bk := D.nx } (σ.set i (some x)) H) (hd : ∀ σ H, Pv xs.length σ H → D.nx σ H) : tFor (iList K (tVar j)) (gName i) tb D σ H :=
  ⟨_, hj, S, rfl, ⟨_, hS⟩, for_list (xs := xs) Pv h0 hl hs hd⟩
theorem for_rng {i n : Nat} {ta : TA} {tb : TS} {D : Ends} {σ : L2.St} {H : Hp} (Pv : Nat → L2.St → Hp → Prop) (ha : ∀ R : List V → Hp → Prop, (∀ H1, Sm H H1 → R [.int (n : Int)] H1) → ta σ H R) (hn : n ≤ 90000) (h0 : ∀ H1, Sm H H1 → Pv 0 σ H1)
    (hs : ∀ j σ H, j < n → Pv j σ H → tb { D with nx := Pv (j + 1), ct := Pv (j + 1), bk := D.nx } (σ.set i (some (.int (0 + (j : Int))))) H) (hd : ∀ σ H, Pv n σ H → D.nx σ H) : tFor (iRng1 ta) (gName i) tb D σ H := by
  refine ha _ fun H1 S => ⟨(n : Int), rfl, by omega, by omega, ?_⟩
  exact for_range (lo := 0) (n := n) Pv (h0 H1 S) hs hd
/-- a comprehension over a list that keeps nothing -/
theorem lc_empty {i j : Nat} {S : Addr} {xs : List V} {σ : L2.St} {H : Hp} {tt : TT} {te : TE} {Q : VK} (hj : σ[j]? = some (some (.ref S))) (hS : SqL K H S xs)
    (ht : ∀ x H2, x ∈ xs → Sm H H2 → ∀ R : Bool → Hp → Prop, (∀ H', Sm H2 H' → R false H') → tt ((σ.set i none).set i (some x)) H2 R)
    (hQ : ∀ D H', Sm H H' → H' D = some (.lst []) → Q (.ref D) H') : tLc (iList K (tVar j)) (gName i) tt te [i] σ H Q := by
  refine ⟨_, hj, S, rfl, ⟨_, hS⟩, fun D hD => ?_⟩
  refine lc_list (K := K) (a := S) (xs := xs) (fun _ H' => Sm H H' ∧ H' D = some (.lst [])) ⟨Sm.new hD, upd_same⟩ (fun _ H' _ h => Sm.seq h.1 hS) (fun n x H' hx h => ?_) fun H' h => hQ D H' h.1 h.2
  refine ⟨?_, ?_⟩
  · show ((σ.set i none).set i (some x)).set i none = (σ.set i none)
    rw [List.set_set, List.set_set]
  · exact ht x H' (List.mem_of_getElem? hx) h.1 _ fun H2 S2 => iteF ⟨h.1.trans S2, S2 _ _ h.2⟩
theorem isi_bool {k : Bool} {H : Hp} {Q : VK} (q : Q (.bl true) H) : rIsi K [.bl k, .ty "bool"] H Q :=
  ⟨_, _, .type "bool", .type "bool", true, rfl, .ty "bool", .base (.bl k), kit_ty (by decide +kernel), q⟩
end
/-- a comprehension over a list that keeps nothing -/
theorem lc_none {K : PySem.W.Frag} {i : Nat} {te0 : TE} {xs : List V} {σ : L2.St} {H : Hp} {tt : TT} {te : TE} {Q : VK} (h0 : ∀ R : VK, (∀ S H1, Sm H H1 → SqL K H1 S xs → R (.ref S) H1) → te0 σ H R)
    (ht : ∀ x H2, x ∈ xs → Sm H H2 → ∀ R : Bool → Hp → Prop, (∀ H', Sm H2 H' → R false H') → tt ((σ.set i none).set i (some x)) H2 R)
    (hQ : ∀ D H', Sm H H' → H' D = some (.lst []) → Q (.ref D) H') : tLc (iList K te0) (gName i) tt te [i] σ H Q := by
  refine h0 _ fun S H1 S1 hS => ⟨S, rfl, ⟨_, hS⟩, fun D hD => ?_⟩
  refine lc_list (K := K) (a := S) (xs := xs) (fun _ H' => Sm H1 H' ∧ H' D = some (.lst [])) ⟨Sm.new hD, upd_same⟩ (fun _ H' _ h => Sm.seq h.1 hS) (fun n x H' hx h => ?_) fun H' h => hQ D H' (S1.trans h.1) h.2
  refine ⟨?_, ?_⟩
  · show ((σ.set i none).set i (some x)).set i none = (σ.set i none)
    rw [List.set_set, List.set_set]
  · exact ht x H' (List.mem_of_getElem? hx) (S1.trans h.1) _ fun H2 S2 => iteF ⟨h.1.trans S2, S2 _ _ h.2⟩
/-! ### < of two tuples of ints and texts, place by place -/
def eqF : V → V → Bool
  | .int a, .int b => a == b
  | .str a, .str b => a == b
  | _, _ => false
def ltF : V → V → Bool
  | .int a, .int b => decide (a < b)
  | .str a, .str b => decide (tl a < tl b)
  | _, _ => false
def alike : V → V → Bool
  | .int _, .int _ => true
  | .str _, .str _ => true
  | _, _ => false
def lexF : List V → List V → Bool
  | [], ys => !ys.isEmpty
  | _ :: _, [] => false
  | x :: xs, y :: ys => if eqF x y = true then lexF xs ys else ltF x y
theorem lexF_at : ∀ (xs ys : List V) (e r : Nat → Bool) (i : Nat), (∀ j x y, xs[j]? = some x → ys[j]? = some y → e (i + j) = eqF x y ∧ r (i + j) = ltF x y) → Ob.lexAt e r (decide (xs.length < ys.length)) i (min xs.length ys.length) = lexF xs ys
  | [], ys, e, r, i, _ => by
    rw [List.length_nil, Nat.zero_min, Ob.lexAt_zero]
    cases ys <;> simp [lexF]
  | x :: xs, [], e, r, i, _ => by
    rw [List.length_nil, Nat.min_zero, Ob.lexAt_zero]
    simp [lexF]
  | x :: xs, y :: ys, e, r, i, h => by
    have h0 := h 0 x y rfl rfl
    rw [Nat.add_zero] at h0
    rw [List.length_cons, List.length_cons, Nat.succ_min_succ, Ob.lexAt_succ, h0.1, h0.2]
    show _ = if eqF x y = true then lexF xs ys else ltF x y
    have ih := lexF_at xs ys e r (i + 1) fun j a b ha hb => by
      have := h (j + 1) a b ha hb
      rwa [show i + (j + 1) = i + 1 + j by omega] at this
    have ed : decide (xs.length + 1 < ys.length + 1) = decide (xs.length < ys.length) := by rw [decide_eq_decide]; omega
    rw [ed, ih]
def rLtF (K : PySem.W.Frag) : R2 := fun x y H Q => ∃ (a b : Addr) (xs ys : List V), x = .ref a ∧ y = .ref b ∧ SqT K H a xs ∧ SqT K H b ys ∧ (∀ (j : Nat) (x y : V), xs[j]? = some x → ys[j]? = some y → alike x y = true) ∧ Q (.bl (lexF xs ys)) H
section
variable {X : Cx} (K : PySem.W.Frag)
theorem val_at {xs : List V} {us : List Value} (r : Vals xs us) : ∀ {j : Nat} {u : Value}, us[j]? = some u → ∃ x, xs[j]? = some x ∧ RelV x u := by
  induction r with
  | nil => intro j u h; simp at h
  | cons rx _ ih =>
    intro j u h
    cases j with
    | zero => exact ⟨_, rfl, by rw [← Option.some.inj h]; exact rx⟩
    | succ j => exact ih (j := j) (by simpa using h)
theorem ltK (hu : X.A.units + 64 < cLine) (h : X.K = K := by rfl) : OpR X (compareOp .Lt) (rLtF K) := by
  subst h
  intro pins s σ H x y v u Q I rx ry h
  obtain ⟨a, b, xs, ys, rfl, rfl, ha, hb, hk, q⟩ := h
  obtain rfl : v = Value.ref a := rx
  obtain rfl : u = Value.ref b := ry
  obtain ⟨us, r1, p1, _⟩ := I.tuple ha
  obtain ⟨ws, r2, p2, _⟩ := I.tuple hb
  have key : ∀ j (h1 : j < us.toArray.size) (h2 : j < ws.toArray.size), ∃ x y, xs[j]? = some x ∧ ys[j]? = some y ∧ RelV x us.toArray[j] ∧ RelV y ws.toArray[j] := fun j h1 h2 => by
    obtain ⟨x, hx, qx⟩ := val_at r1 (j := j) (u := us.toArray[j]) (by simp at h1 ⊢)
    obtain ⟨y, hy, qy⟩ := val_at r2 (j := j) (u := ws.toArray[j]) (by simp at h2 ⊢)
    exact ⟨x, y, hx, hy, qx, qy⟩
  have fin : lexF xs ys = Ob.lexAt (fun j => match xs[j]?, ys[j]? with | some x, some y => eqF x y | _, _ => false) (fun j => match xs[j]?, ys[j]? with | some x, some y => ltF x y | _, _ => false) (decide (us.toArray.size < ws.toArray.size)) 0 (min us.toArray.size ws.toArray.size) := by
    rw [List.size_toArray, List.size_toArray, ← r1.length, ← r2.length]
    refine (lexF_at xs ys _ _ 0 fun j x y hx hy => ?_).symm
    rw [Nat.zero_add, hx, hy]
    exact ⟨rfl, rfl⟩
  refine Ob.RcOp.tuples_lt (e := fun j => match xs[j]?, ys[j]? with | some x, some y => eqF x y | _, _ => false) (r := fun j => match xs[j]?, ys[j]? with | some x, some y => ltF x y | _, _ => false) p1 p2 (by omega) (fun j h1 h2 => ?_) (fun j h1 h2 _ => ?_) X.prog X.w _ _ ⟨.bl _, H, I, rfl, by rw [← fin]; exact q⟩
  · obtain ⟨x, y, hx, hy, qx, qy⟩ := key j h1 h2
    have al := hk j x y hx hy
    simp only [hx, hy]
    cases x <;> cases y <;> first | (cases al; done) | skip
    · obtain ⟨t, e⟩ := qx
      obtain ⟨t', e'⟩ := qy
      rw [e, e']
      exact SeqAt.EqAt.int_int _ _ _ _
    · obtain ⟨t, e⟩ := qx
      obtain ⟨t', e'⟩ := qy
      rw [e, e']
      exact SeqAt.EqAt.str_str _ _ _ _
  · obtain ⟨x, y, hx, hy, qx, qy⟩ := key j h1 h2
    have al := hk j x y hx hy
    simp only [hx, hy]
    cases x <;> cases y <;> first | (cases al; done) | skip
    · obtain ⟨t, e⟩ := qx
      obtain ⟨t', e'⟩ := qy
      rw [e, e']
      exact Ob.RcOp.lt_int _ _ _ _
    · obtain ⟨t, e⟩ := qx
      obtain ⟨t', e'⟩ := qy
      rw [e, e']
      exact fun _ _ _ _ h => PyProof.Rows.lt_str h
end
/-! ### the order of keys: their ranks -/
def rankV (z : Str) : List V := if isNum (tl z) = true then [.int 0, .int (numOf (tl z)), .str ""] else [.int 1, .int 0, .str z]
/-- one key ahead of another -/
def ahead (x y : Str) : Bool := lexF (rankV x) (rankV y)
theorem rank_alike (x y : Str) : ∀ (j : Nat) (a b : V), (rankV x)[j]? = some a → (rankV y)[j]? = some b → alike a b = true := fun j a b ha hb => by
  unfold rankV at ha hb
  match j with
  | 0 => split at ha <;> split at hb <;> (cases ha; cases hb; rfl)
  | 1 => split at ha <;> split at hb <;> (cases ha; cases hb; rfl)
  | 2 => split at ha <;> split at hb <;> (cases ha; cases hb; rfl)
  | j + 3 => split at ha <;> cases ha
def spRank (K : PySem.W.Frag) (p : Addr) : Sp := fun vs H Q _ => ∃ z : Str, vs = [.str z] ∧ (tl z).length ≤ 250 ∧ Tb H p ∧ ∀ a H', Sm H H' → H' a = some (.tup (rankV z)) → Q (.ref a) H'
def spBefore (p : Addr) : Sp := fun vs H Q _ => ∃ x y : Str, vs = [.str x, .str y] ∧ (tl x).length ≤ 250 ∧ (tl y).length ≤ 250 ∧ Tb H p ∧ ∀ H', Sm H H' → Q (.bl (ahead x y)) H'
section
variable {P : Program} {w : World} {K : PySem.W.Frag} {mg : Str → Option Value} {base : Heap} {cs : Tabs}
theorem ok_key_rank (T : Txt K mg cs) (Cnumber_of : Cal P w K mg base 2 "number_of" ["worth"] spNumOf) (Cis_number_text : Cal P w K mg base 2 "is_number_text" ["worth"] (spIsNum cs.p_is_number_text)) : Cal P w K mg base 3 "key_rank" ["key"] (spRank K cs.p_is_number_text) := by
  refine T.f_key_rank.cal scKeyRank (fun vs H Q E h => ?_) (fun f cdv A outer s H vs Q E hr h => ?_)
  · obtain ⟨z, rfl, _⟩ := h
    rfl
  obtain ⟨z, rfl, hl, ht, q⟩ := h
  refine ⟨_, (pss_cons (ps_if (pt_val (pe_cal Cis_number_text (hr.mono (by first | decide | omega)) (pa_cons (pv 0) pa_nil))) (pss_one (ps_ret (pe_tup (pa_cons pe_int (pa_cons (pe_cal Cnumber_of (hr.mono (by first | decide | omega)) (pa_cons (pv 0) pa_nil)) (pa_cons pe_str pa_nil)))))) pss_nil)
    (pss_one (ps_ret (pe_tup (pa_cons pe_int (pa_cons pe_int (pa_cons (pv 0) pa_nil))))))), ?_⟩
  refine ⟨_, rfl, z, rfl, hl, ht, fun H1 S1 => ⟨_, rfl, ?_⟩⟩
  refine ite2 (fun c => ?_) (fun c => ?_)
  · refine ⟨_, rfl, z, rfl, hl, small (by show 3 ≤ 100000; decide), fun p hp => ?_⟩
    refine q p _ (S1.trans (Sm.new hp)) ?_
    unfold rankV
    rw [if_pos c]
    exact upd_same
  · refine ⟨_, rfl, small (by show 3 ≤ 100000; decide), fun p hp => ?_⟩
    refine q p _ (S1.trans (Sm.new hp)) ?_
    unfold rankV
    rw [if_neg c]
    exact upd_same
theorem ok_before (T : Txt K mg cs) (Ckey_rank : Cal P w K mg base 3 "key_rank" ["key"] (spRank K cs.p_is_number_text)) : Cal P w K mg base 4 "before" ["one", "other"] (spBefore cs.p_is_number_text) := by
  refine T.f_before.cal scBefore (fun vs H Q E h => ?_) (fun f cdv A outer s H vs Q E hr h => ?_)
  · obtain ⟨x, y, rfl, _⟩ := h
    rfl
  obtain ⟨x, y, rfl, hx, hy, ht, q⟩ := h
  refine ⟨_, (pss_one (ps_ret (pe_cmpR (ltK K hr.units) (pe_cal Ckey_rank (hr.mono (by first | decide | omega)) (pa_cons (pv 0) pa_nil)) (pe_cal Ckey_rank (hr.mono (by first | decide | omega)) (pa_cons (pv 1) pa_nil)) (nomark _)))), ?_⟩
  refine ⟨_, rfl, x, rfl, hx, ht, fun a H1 S1 e1 => ⟨_, rfl, y, rfl, hy, S1.tab _ ht, fun b H2 S2 e2 => ?_⟩⟩
  exact ⟨a, b, rankV x, rankV y, rfl, rfl, .inl (.inl (S2 _ _ e1)), .inl (.inl e2), rank_alike x y, q H2 (S1.trans S2)⟩
end
/-! ### the order of keys: one order -/
def isN (z : Str) : Bool := isNum (tl z)
def nO (z : Str) : Int := numOf (tl z)
theorem rank_n {x : Str} (h : isN x = true) : rankV x = [.int 0, .int (nO x), .str ""] := if_pos (show isNum (tl x) = true from h)
theorem rank_o {x : Str} (h : isN x = false) : rankV x = [.int 1, .int 0, .str x] := if_neg (show ¬ isNum (tl x) = true from fun z => by
  have e : isNum (tl x) = false := h
  rw [e] at z
  cases z)
theorem isN_inj {x y : Str} (hx : isN x = true) (hy : isN y = true) (e : nO x = nO y) : x = y := by
  unfold isN at hx hy
  rw [isNum_is] at hx hy
  refine ext_tl ?_
  rw [← of_decide_eq_true hx, ← of_decide_eq_true hy]
  exact congrArg numT e
theorem ahead_nn {x y : Str} (hx : isN x = true) (hy : isN y = true) : ahead x y = decide (nO x < nO y) := by
  unfold ahead
  rw [rank_n hx, rank_n hy]
  show (if eqF (.int 0) (.int 0) = true then (if eqF (.int (nO x)) (.int (nO y)) = true then (if eqF (.str "") (.str "") = true then lexF [] [] else ltF (.str "") (.str "")) else ltF (.int (nO x)) (.int (nO y))) else ltF (.int 0) (.int 0)) = _
  rw [if_pos (show eqF (.int 0) (.int 0) = true from rfl), if_pos (show eqF (.str "") (.str "") = true from by decide)]
  by_cases e : nO x = nO y
  · rw [if_pos (by show (nO x == nO y) = true; exact beq_iff_eq.mpr e), decide_eq_false (by omega)]
    rfl
  · rw [if_neg (by show ¬ (nO x == nO y) = true; exact fun h => e (beq_iff_eq.mp h))]
    rfl
theorem ahead_no {x y : Str} (hx : isN x = true) (hy : isN y = false) : ahead x y = true := by
  unfold ahead
  rw [rank_n hx, rank_o hy]
  rfl
theorem ahead_on {x y : Str} (hx : isN x = false) (hy : isN y = true) : ahead x y = false := by
  unfold ahead
  rw [rank_o hx, rank_n hy]
  rfl
theorem ahead_oo {x y : Str} (hx : isN x = false) (hy : isN y = false) : ahead x y = decide (tl x < tl y) := by
  unfold ahead
  rw [rank_o hx, rank_o hy]
  show (if eqF (.int 1) (.int 1) = true then (if eqF (.int 0) (.int 0) = true then (if eqF (.str x) (.str y) = true then lexF [] [] else ltF (.str x) (.str y)) else ltF (.int 0) (.int 0)) else ltF (.int 1) (.int 1)) = _
  rw [if_pos (show eqF (.int 1) (.int 1) = true from rfl), if_pos (show eqF (.int 0) (.int 0) = true from rfl)]
  by_cases e : x = y
  · subst e
    rw [if_pos (by show (x == x) = true; exact beq_self_eq_true x), decide_eq_false (List.lt_irrefl _)]
    rfl
  · rw [if_neg (by show ¬ (x == y) = true; exact fun h => e (eq_of_beq h))]
    rfl
theorem bool_cases (b : Bool) : b = true ∨ b = false := by cases b <;> simp
theorem ahead_self (x : Str) : ahead x x = false := by
  rcases bool_cases (isN x) with h | h
  · rw [ahead_nn h h]
    exact decide_eq_false (by omega)
  · rw [ahead_oo h h]
    exact decide_eq_false (List.lt_irrefl _)
theorem ahead_two {x y : Str} (e : x ≠ y) : (ahead x y || ahead y x) = true := by
  rcases bool_cases (isN x) with h | h <;> rcases bool_cases (isN y) with g | g
  · rw [ahead_nn h g, ahead_nn g h]
    have ne : nO x ≠ nO y := fun z => e (isN_inj h g z)
    rcases (by omega : nO x < nO y ∨ nO y < nO x) with z | z <;> simp [z]
  · rw [ahead_no h g]
    rfl
  · rw [ahead_no g h, Bool.or_true]
  · rw [ahead_oo h g, ahead_oo g h]
    by_cases z : tl x < tl y
    · simp [z]
    · by_cases z2 : tl y < tl x
      · simp [z2]
      · exact absurd (ext_tl (List.le_antisymm (List.not_lt.mp z2) (List.not_lt.mp z))) e
theorem ahead_one {x y : Str} (h : ahead x y = true) : ahead y x = false := by
  rcases bool_cases (isN x) with a | a <;> rcases bool_cases (isN y) with b | b
  · rw [ahead_nn a b] at h
    rw [ahead_nn b a]
    have := of_decide_eq_true h
    exact decide_eq_false (by omega)
  · exact ahead_on b a
  · rw [ahead_on a b] at h
    cases h
  · rw [ahead_oo a b] at h
    rw [ahead_oo b a]
    exact decide_eq_false (List.lt_asymm (of_decide_eq_true h))
theorem ahead_tr {x y z : Str} (h : ahead x y = true) (g : ahead y z = true) : ahead x z = true := by
  rcases bool_cases (isN x) with a | a <;> rcases bool_cases (isN y) with b | b <;> rcases bool_cases (isN z) with c | c
  · rw [ahead_nn a b] at h
    rw [ahead_nn b c] at g
    rw [ahead_nn a c]
    have := of_decide_eq_true h
    have := of_decide_eq_true g
    exact decide_eq_true (by omega)
  · exact ahead_no a c
  · rw [ahead_on b c] at g
    cases g
  · exact ahead_no a c
  · rw [ahead_on a b] at h
    cases h
  · rw [ahead_on a b] at h
    cases h
  · rw [ahead_on b c] at g
    cases g
  · rw [ahead_oo a b] at h
    rw [ahead_oo b c] at g
    rw [ahead_oo a c]
    exact decide_eq_true (List.lt_trans (of_decide_eq_true h) (of_decide_eq_true g))
theorem ahead_same {x y : Str} (h : ahead x y = false) (g : ahead y x = false) : x = y := by
  by_cases e : x = y
  · exact e
  · have := ahead_two e
    rw [h, g] at this
    cases this
theorem le_tr (x y z : Str) (h : (!ahead y x) = true) (g : (!ahead z y) = true) : (!ahead z x) = true := by
  rw [Bool.not_eq_true'] at *
  by_cases e : ahead z x = true
  · by_cases exy : x = y
    · subst exy
      rw [e] at g
      cases g
    · have := ahead_two exy
      rw [h, Bool.or_false] at this
      rw [ahead_tr e this] at g
      cases g
  · simpa using e
theorem le_tot (x y : Str) : ((!ahead y x) || (!ahead x y)) = true := by
  rcases bool_cases (ahead x y) with h | h
  · rw [ahead_one h]
    rfl
  · rw [h]
    simp
/-! ### one step of a term at a time -/
theorem run_set {i : Nat} {te : TE} {u : TS} {D : Ends} {σ : L2.St} {H : Hp} (h : te σ H fun v H1 => u D (σ.set i (some v)) H1) : tSeq (tAsg te (gName i)) u D σ H := h
theorem run_ret {te : TE} {D : Ends} {σ : L2.St} {H : Hp} (h : te σ H D.rt) : tRet te D σ H := h
theorem run_op {r : R2} {ta tb : TE} {σ : L2.St} {H : Hp} {Q : VK} (h : ta σ H fun x H1 => tb σ H1 fun y H2 => r x y H2 Q) : tOp r ta tb σ H Q := h
theorem run_if {c : TT} {t u r : TS} {D : Ends} {σ : L2.St} {H : Hp} (h : c σ H fun b H1 => if b = true then t { D with nx := r D } σ H1 else u { D with nx := r D } σ H1) : tSeq (tIfS c t u) r D σ H := h
theorem run_ifE {c : TT} {t u : TS} {D : Ends} {σ : L2.St} {H : Hp} (h : c σ H fun b H1 => if b = true then t D σ H1 else u D σ H1) : tIfS c t u D σ H := h
theorem run_next {D : Ends} {σ : L2.St} {H : Hp} (h : D.nx σ H) : tNext D σ H := h
theorem run_for {i : TI} {g : TG} {tb u : TS} {D : Ends} {σ : L2.St} {H : Hp} (h : tFor i g tb { D with nx := u D } σ H) : tSeq (tFor i g tb) u D σ H := h
theorem run_test {r : R2} {ta tb : TE} {σ : L2.St} {H : Hp} {Q : Bool → Hp → Prop} (h : ta σ H fun x H1 => tb σ H1 fun y H2 => r x y H2 fun v H' => ∃ k, v = .bl k ∧ Q k H') : tTest (tOp r ta tb) σ H Q := h
/-- an if whose condition fails on every way -/
theorem run_no {c : TT} {t r : TS} {D : Ends} {σ : L2.St} {H : Hp} (Ph : Hp → Prop) (h : ∀ R : Bool → Hp → Prop, (∀ H1, Ph H1 → R false H1) → c σ H R) (hr : ∀ H1, Ph H1 → r D σ H1) : tSeq (tIfS c t tNext) r D σ H :=
  run_if (h _ fun H1 p => iteF (hr H1 p))
theorem run_noE {c : TT} {t : TS} {D : Ends} {σ : L2.St} {H : Hp} (Ph : Hp → Prop) (h : ∀ R : Bool → Hp → Prop, (∀ H1, Ph H1 → R false H1) → c σ H R) (hr : ∀ H1, Ph H1 → D.nx σ H1) : tIfS c t tNext D σ H :=
  run_ifE (h _ fun H1 p => iteF (hr H1 p))
/-- an if that gives a name another value, or not -/
theorem run_ifset {i : Nat} {te : TE} {c : TT} {r : TS} {D : Ends} {σ : L2.St} {H : Hp} {v0 : V} (Pv : V → Hp → Prop) (h0 : σ.set i (some v0) = σ) (h : ∀ R : VK, (∀ v H1, Pv v H1 → R v H1) → c σ H fun b H1 => if b = true then te σ H1 R else R v0 H1) (hr : ∀ v H1, Pv v H1 → r D (σ.set i (some v)) H1) :
    tSeq (tIfS c (tAsg te (gName i)) tNext) r D σ H := by
  have q := h (fun v H1 => r D (σ.set i (some v)) H1) hr
  rw [h0] at q
  exact q
theorem run_and {t u : TT} {σ : L2.St} {H : Hp} {Q : Bool → Hp → Prop} (h : t σ H fun c H1 => if c = true then u σ H1 Q else Q false H1) : tAnd t u σ H Q := h
theorem run_setP {i : Nat} {te : TE} {u : TS} {D : Ends} {σ : L2.St} {H : Hp} (Pv : V → Hp → Prop) (h : ∀ R : VK, (∀ v H1, Pv v H1 → R v H1) → te σ H R) (hr : ∀ v H1, Pv v H1 → u D (σ.set i (some v)) H1) : tSeq (tAsg te (gName i)) u D σ H := h _ hr
theorem run_gate {s r : TS} {D : Ends} {σ : L2.St} {H : Hp} (Ph : Hp → Prop) (h : ∀ nx : L2.St → Hp → Prop, (∀ H1, Ph H1 → nx σ H1) → s { D with nx := nx } σ H) (hr : ∀ H1, Ph H1 → r D σ H1) : tSeq s r D σ H := h (r D) hr
/-! ### heaps that change at some addresses alone -/
structure Ch (W : Addr → Prop) (H H' : Hp) : Prop where
  keep0 : ∀ (a : Addr) (o : HO), ¬ W a → H a = some o → notTbl o = true → H' a = some o
  tab : ∀ P, Tb H P → Tb H' P
  gone : ∀ a, H' a = none → H a = none
theorem Ch.keep {W : Addr → Prop} {H H' : Hp} (c : Ch W H H') {a : Addr} {o : HO} [n : NT o] (h : ¬ W a) (e : H a = some o) : H' a = some o := c.keep0 a o h e n.is
theorem Ch.refl {W : Addr → Prop} (H : Hp) : Ch W H H := ⟨fun _ _ _ h _ => h, fun _ h => h, fun _ h => h⟩
theorem Ch.sm {W : Addr → Prop} {H H' : Hp} (S : Sm H H') : Ch W H H' := ⟨fun a o _ h n => S.keep a o h n, S.tab, S.gone⟩
theorem Ch.trans {W : Addr → Prop} {H H1 H2 : Hp} (x : Ch W H H1) (y : Ch W H1 H2) : Ch W H H2 := ⟨fun a o w h n => y.keep0 a o w (x.keep0 a o w h n) n, fun P h => y.tab P (x.tab P h), fun a h => x.gone a (y.gone a h)⟩
theorem Ch.mono {W W' : Addr → Prop} {H H' : Hp} (x : Ch W H H') (i : ∀ a, W a → W' a) : Ch W' H H' := ⟨fun a o w h n => x.keep0 a o (fun z => w (i a z)) h n, x.tab, x.gone⟩
/-- what was made on the way may be changed, too -/
theorem Ch.trans' {W W' : Addr → Prop} {H H1 H2 : Hp} (x : Ch W H H1) (y : Ch W' H1 H2) (i : ∀ a, W' a → W a ∨ H a = none) : Ch W H H2 :=
  ⟨fun a o w h n => y.keep0 a o (fun z => (i a z).elim w fun e => by rw [h] at e; cases e) (x.keep0 a o w h n) n, fun P h => y.tab P (x.tab P h), fun a h => x.gone a (y.gone a h)⟩
theorem Ch.upd {W : Addr → Prop} {H : Hp} {p : Addr} {u o : HO} (w : W p) (e : H p = some u) (nt : plainO u = true) : Ch W H (upd H p o) := by
  refine ⟨fun a v h g n => ?_, fun P t => TabG.upd t fun qs z => ?_, fun a h => ?_⟩
  · rw [upd_ne fun z => h (by rw [z]; exact w)]
    exact g
  · rw [e] at z
    cases z
    exact nt
  · by_cases z : a = p
    · rw [z, upd_same] at h
      cases h
    · rw [upd_ne z] at h
      exact h
theorem Ch.nil {H H' : Hp} (c : Ch (fun _ => False) H H') : Sm H H' := ⟨fun a o h n => c.keep0 a o (fun z => z) h n, c.tab, c.gone⟩
theorem Ch.go {W : Addr → Prop} {H H' : Hp} {b : Addr} {n : Nat} (G : Go b n H H') (w : W b) : Ch W H H' := ⟨fun a o h e k => G.keep0 a o (fun z => h (z ▸ w)) e k, G.tab, G.gone⟩
theorem Ch.seq {K : PySem.W.Frag} {W : Addr → Prop} {H H' : Hp} (c : Ch W H H') {a : Addr} {xs : List V} (w : ¬ W a) (h : SqL K H a xs) : SqL K H' a xs := by
  rcases h with (h | ⟨o, h⟩) | h
  · exact .inl (.inl (c.keep w h))
  · exact .inl (.inr ⟨o, c.keep w h⟩)
  · exact .inr h
/-! ### trees, by paths -/
structure Nd where
  a : Addr
  dx : Addr
  r : Addr
  d : Addr
/-- which places there are, their worths, their rows -/
structure Sh where
  N : List Str → Option Nd
  W : List Str → Option Str
  R : List Str → List Str
def wV : Option Str → V
  | none => .non
  | some z => .str z
def ndFs (S : Sh) (p : List Str) (n : Nd) : List (Str × V) := [("worth", wV (S.W p)), ("row", .ref n.r), ("beneath", .ref n.d)]
structure NdAt (C : Addr) (H : Hp) (S : Sh) (m : Nat) (p : List Str) (n : Nd) : Prop where
  ins : H n.a = some (.ins C n.dx (ndFs S p n))
  row : H n.r = some (.lst ((S.R p).map V.str))
  dic : ∃ kvs : List (Key × V), H n.d = some (.dK kvs) ∧ (∀ k : Str, valV kvs (.inr k) = (S.N (p ++ [k])).map fun n => V.ref n.a) ∧ kvs.length ≤ m
  rl : (S.R p).length ≤ m
structure TreeH (C : Addr) (H : Hp) (S : Sh) (m : Nat) : Prop where
  at_ : ∀ p n, S.N p = some n → NdAt C H S m p n
  ia : ∀ p q n n', S.N p = some n → S.N q = some n' → n.a = n'.a → p = q
  ir : ∀ p q n n', S.N p = some n → S.N q = some n' → n.r = n'.r → p = q
  id : ∀ p q n n', S.N p = some n → S.N q = some n' → n.d = n'.d → p = q
structure ShOk (S : Sh) : Prop where
  root : ∃ n, S.N [] = some n
  row : ∀ p n, S.N p = some n → ∀ k, k ∈ S.R p ↔ (S.N (p ++ [k])).isSome = true
  srt : ∀ p n, S.N p = some n → (S.R p).Pairwise fun x y => ahead x y = true
  pre : ∀ p k, (S.N (p ++ [k])).isSome = true → (S.N p).isSome = true
  out : ∀ p, S.N p = none → S.W p = none
  key : ∀ p k, (S.N (p ++ [k])).isSome = true → (tl k).length ≤ 200
  deep : ∀ p, (S.N p).isSome = true → p.length ≤ 7
/-- no place but the top is bare -/
def Full (S : Sh) : Prop := ∀ p k, (S.N (p ++ [k])).isSome = true → S.W (p ++ [k]) ≠ none ∨ S.R (p ++ [k]) ≠ []
/-- the addresses of a tree -/
def Own (S : Sh) (a : Addr) : Prop := ∃ p n, S.N p = some n ∧ (a = n.a ∨ a = n.r ∨ a = n.d)
theorem own_a {S : Sh} {p : List Str} {n : Nd} (h : S.N p = some n) : Own S n.a := ⟨p, n, h, .inl rfl⟩
theorem own_r {S : Sh} {p : List Str} {n : Nd} (h : S.N p = some n) : Own S n.r := ⟨p, n, h, .inr (.inl rfl)⟩
theorem own_d {S : Sh} {p : List Str} {n : Nd} (h : S.N p = some n) : Own S n.d := ⟨p, n, h, .inr (.inr rfl)⟩
theorem own_there {C : Addr} {H : Hp} {S : Sh} {m : Nat} (T : TreeH C H S m) {a : Addr} (h : Own S a) : ∃ o, H a = some o ∧ notTbl o = true ∧ ∀ vs, o ≠ .tup vs := by
  obtain ⟨p, n, e, h⟩ := h
  have A := T.at_ p n e
  obtain ⟨kvs, h3, _⟩ := A.dic
  rcases h with rfl | rfl | rfl
  · exact ⟨_, A.ins, rfl, fun _ z => by cases z⟩
  · exact ⟨_, A.row, rfl, fun _ z => by cases z⟩
  · exact ⟨_, h3, rfl, fun _ z => by cases z⟩
/-- a tree that nothing touched -/
theorem TreeH.keep {C : Addr} {H H' : Hp} {S : Sh} {m : Nat} (T : TreeH C H S m) (k : ∀ a o, Own S a → H a = some o → notTbl o = true → H' a = some o) : TreeH C H' S m := by
  refine ⟨fun p n e => ?_, T.ia, T.ir, T.id⟩
  have A := T.at_ p n e
  obtain ⟨kvs, h1, h2⟩ := A.dic
  exact ⟨k _ _ (own_a e) A.ins rfl, k _ _ (own_r e) A.row rfl, ⟨kvs, k _ _ (own_d e) h1 rfl, h2⟩, A.rl⟩
theorem TreeH.sm {C : Addr} {H H' : Hp} {S : Sh} {m : Nat} (T : TreeH C H S m) (s : Sm H H') : TreeH C H' S m := T.keep fun a o _ h n => s.keep a o h n
theorem TreeH.ch {C : Addr} {W : Addr → Prop} {H H' : Hp} {S : Sh} {m : Nat} (T : TreeH C H S m) (c : Ch W H H') (w : ∀ a, Own S a → ¬ W a) : TreeH C H' S m := T.keep fun a o h e n => c.keep0 a o (w a h) e n
theorem TreeH.mono {C : Addr} {H : Hp} {S : Sh} {m m' : Nat} (T : TreeH C H S m) (h : m ≤ m') : TreeH C H S m' := by
  refine ⟨fun p n e => ?_, T.ia, T.ir, T.id⟩
  have A := T.at_ p n e
  obtain ⟨kvs, h1, h2, h3⟩ := A.dic
  exact ⟨A.ins, A.row, ⟨kvs, h1, h2, Nat.le_trans h3 h⟩, Nat.le_trans A.rl h⟩
theorem own_tup {C : Addr} {H : Hp} {S : Sh} {m : Nat} (T : TreeH C H S m) {a : Addr} {vs : List V} (h : H a = some (.tup vs)) : ¬ Own S a := fun z => by
  obtain ⟨o, e, _, n⟩ := own_there T z
  rw [h] at e
  exact n vs (Option.some.inj e).symm
theorem own_new {C : Addr} {H : Hp} {S : Sh} {m : Nat} (T : TreeH C H S m) {a : Addr} (h : H a = none) : ¬ Own S a := fun z => by
  obtain ⟨o, e, _⟩ := own_there T z
  rw [h] at e
  cases e
/-- all prefixes of a place are there -/
theorem ShOk.up {S : Sh} (O : ShOk S) : ∀ (q p : List Str), (S.N (p ++ q)).isSome = true → (S.N p).isSome = true
  | [], p, h => by rw [List.append_nil] at h; exact h
  | k :: q, p, h => O.pre p k (ShOk.up O q (p ++ [k]) (by rw [List.append_assoc]; exact h))
/-! ### what is done to a tree: mathematics -/
theorem snoc_inj {p q : List Str} {j k : Str} (e : p ++ [j] = q ++ [k]) : p = q ∧ j = k := by
  have h := List.append_inj' e rfl
  exact ⟨h.1, by injection h.2⟩
theorem snoc_ne {p : List Str} {k : Str} : p ++ [k] ≠ p := fun e => by
  have := congrArg List.length e
  simp at this
theorem snoc_nil {p : List Str} {k : Str} : p ++ [k] ≠ [] := by simp
/-- a worth is given, or taken -/
def Sh.setW (S : Sh) (p : List Str) (v : Option Str) : Sh := { S with W := fun q => if q = p then v else S.W q }
/-- a new place beneath p -/
def Sh.add (S : Sh) (p : List Str) (k : Str) (i : Nat) (x : Nd) : Sh where
  N := fun q => if q = p ++ [k] then some x else S.N q
  W := S.W
  R := fun q => if q = p then (S.R p).take i ++ [k] ++ (S.R p).drop i else if q = p ++ [k] then [] else S.R q
/-- the place k beneath p, and all beneath, is gone -/
def Sh.cut (S : Sh) (p : List Str) (k : Str) : Sh where
  N := fun q => if (p ++ [k]).isPrefixOf q = true then none else S.N q
  W := fun q => if (p ++ [k]).isPrefixOf q = true then none else S.W q
  R := fun q => if q = p then (S.R p).erase k else S.R q
theorem pre_of {p q : List Str} (h : p.isPrefixOf q = true) : ∃ r, q = p ++ r := by
  obtain ⟨r, e⟩ := List.isPrefixOf_iff_prefix.mp h
  exact ⟨r, e.symm⟩
theorem pre_app (p r : List Str) : p.isPrefixOf (p ++ r) = true := List.isPrefixOf_iff_prefix.mpr ⟨r, rfl⟩
theorem pre_snoc {p q : List Str} {k j : Str} (h : (p ++ [k]).isPrefixOf (q ++ [j]) = true) (n : ¬ (p ++ [k]).isPrefixOf q = true) : p = q ∧ k = j := by
  obtain ⟨r, e⟩ := pre_of h
  rcases List.eq_nil_or_concat r with rfl | ⟨r', x, rfl⟩
  · rw [List.append_nil] at e
    obtain ⟨a, b⟩ := snoc_inj e
    exact ⟨a.symm, b.symm⟩
  · rw [List.concat_eq_append, ← List.append_assoc] at e
    obtain ⟨a, b⟩ := snoc_inj e
    exact absurd (by rw [a]; exact pre_app _ _) n
theorem pre_up {p q : List Str} {j : Str} (h : p.isPrefixOf q = true) : p.isPrefixOf (q ++ [j]) = true := by
  obtain ⟨r, rfl⟩ := pre_of h
  rw [List.append_assoc]
  exact pre_app _ _
theorem pre_self (p : List Str) : p.isPrefixOf p = true := List.isPrefixOf_iff_prefix.mpr ⟨[], List.append_nil p⟩
theorem pre_not {p : List Str} {k : Str} : ¬ (p ++ [k]).isPrefixOf p = true := fun h => by
  obtain ⟨r, e⟩ := pre_of h
  have := congrArg List.length e
  simp at this
theorem ShOk.setW {S : Sh} (O : ShOk S) {p : List Str} {n : Nd} (e : S.N p = some n) (v : Option Str) : ShOk (S.setW p v) := by
  refine ⟨O.root, O.row, O.srt, O.pre, fun q h => ?_, O.key, O.deep⟩
  have h' : S.N q = none := h
  show (if q = p then v else S.W q) = none
  rw [if_neg fun z => by rw [z, e] at h'; cases h']
  exact O.out q h'
theorem ShOk.none_up {S : Sh} (O : ShOk S) {p : List Str} {k : Str} (h : S.N p = none) : S.N (p ++ [k]) = none := by
  cases e : S.N (p ++ [k]) with
  | none => rfl
  | some n =>
    have := O.pre p k (by rw [e]; rfl)
    rw [h] at this
    cases this
theorem ShOk.add {S : Sh} (O : ShOk S) {p : List Str} {n : Nd} (e : S.N p = some n) {k : Str} (h : S.N (p ++ [k]) = none) (hl : p.length ≤ 6) (hk : (tl k).length ≤ 200) {i : Nat} (x : Nd)
    (h1 : ∀ y ∈ (S.R p).take i, ahead y k = true) (h2 : ∀ y ∈ (S.R p).drop i, ahead k y = true) : ShOk (S.add p k i x) := by
  have nk : k ∉ S.R p := fun z => by
    have := (O.row p n e k).mp z
    rw [h] at this
    cases this
  have memb : ∀ y, y ∈ (S.R p).take i ++ [k] ++ (S.R p).drop i ↔ y = k ∨ y ∈ S.R p := fun y => by
    have q : y ∈ S.R p ↔ y ∈ (S.R p).take i ∨ y ∈ (S.R p).drop i := by
      rw [← List.mem_append, List.take_append_drop]
    rw [q, List.mem_append, List.mem_append, List.mem_singleton]
    constructor
    · rintro ((a | a) | a)
      · exact .inr (.inl a)
      · exact .inl a
      · exact .inr (.inr a)
    · rintro (a | a | a)
      · exact .inl (.inr a)
      · exact .inl (.inl a)
      · exact .inr a
  refine ⟨?_, fun q m hm j => ?_, fun q m hm => ?_, fun q j hs => ?_, fun q hs => ?_, fun q j hs => ?_, fun q hs => ?_⟩
  · obtain ⟨r, hr⟩ := O.root
    refine ⟨r, ?_⟩
    show (if [] = p ++ [k] then some x else S.N []) = some r
    rw [if_neg (Ne.symm snoc_nil)]
    exact hr
  · show j ∈ (if q = p then _ else if q = p ++ [k] then [] else S.R q) ↔ (if q ++ [j] = p ++ [k] then some x else S.N (q ++ [j])).isSome = true
    by_cases z : q = p
    · subst z
      rw [if_pos rfl, memb]
      by_cases y : j = k
      · subst y
        rw [if_pos rfl]
        exact ⟨fun _ => rfl, fun _ => .inl rfl⟩
      · rw [if_neg fun w => y (snoc_inj w).2, ← O.row q n e j]
        exact ⟨fun w => w.elim (fun a => absurd a y) id, .inr⟩
    · rw [if_neg z]
      by_cases y : q = p ++ [k]
      · subst y
        rw [if_pos rfl, if_neg fun w => z (snoc_inj w).1, O.none_up h]
        exact ⟨fun a => (nomatch a), fun a => (nomatch a)⟩
      · rw [if_neg y, if_neg fun w => z (snoc_inj w).1]
        have hm' : (if q = p ++ [k] then some x else S.N q) = some m := hm
        rw [if_neg y] at hm'
        exact O.row q m hm' j
  · show (if q = p then _ else if q = p ++ [k] then [] else S.R q).Pairwise _
    by_cases z : q = p
    · subst z
      rw [if_pos rfl]
      have P := O.srt q n e
      rw [← List.take_append_drop i (S.R q)] at P
      obtain ⟨P1, P2, P3⟩ := List.pairwise_append.mp P
      refine List.pairwise_append.mpr ⟨List.pairwise_append.mpr ⟨P1, List.pairwise_singleton _ _, fun a ha b hb => ?_⟩, P2, fun a ha b hb => ?_⟩
      · rw [List.mem_singleton.mp hb]
        exact h1 a ha
      · rcases List.mem_append.mp ha with ha | ha
        · exact P3 a ha b hb
        · rw [List.mem_singleton.mp ha]
          exact h2 b hb
    · rw [if_neg z]
      by_cases y : q = p ++ [k]
      · rw [if_pos y]
        exact .nil
      · rw [if_neg y]
        have hm' : (if q = p ++ [k] then some x else S.N q) = some m := hm
        rw [if_neg y] at hm'
        exact O.srt q m hm'
  · have hs' : (if q ++ [j] = p ++ [k] then some x else S.N (q ++ [j])).isSome = true := hs
    show (if q = p ++ [k] then some x else S.N q).isSome = true
    by_cases y : q = p ++ [k]
    · rw [if_pos y]
      rfl
    · rw [if_neg y]
      by_cases z : q ++ [j] = p ++ [k]
      · obtain ⟨a, _⟩ := snoc_inj z
        rw [a, e]
        rfl
      · rw [if_neg z] at hs'
        exact O.pre q j hs'
  · have hs' : (if q = p ++ [k] then some x else S.N q) = none := hs
    by_cases y : q = p ++ [k]
    · rw [if_pos y] at hs'
      cases hs'
    · rw [if_neg y] at hs'
      exact O.out q hs'
  · have hs' : (if q ++ [j] = p ++ [k] then some x else S.N (q ++ [j])).isSome = true := hs
    by_cases z : q ++ [j] = p ++ [k]
    · rw [(snoc_inj z).2]
      exact hk
    · rw [if_neg z] at hs'
      exact O.key q j hs'
  · have hs' : (if q = p ++ [k] then some x else S.N q).isSome = true := hs
    by_cases y : q = p ++ [k]
    · rw [y, List.length_append]
      exact Nat.add_le_add_right hl 1
    · rw [if_neg y] at hs'
      exact O.deep q hs'
theorem ShOk.cut {S : Sh} (O : ShOk S) {p : List Str} {n : Nd} (e : S.N p = some n) (k : Str) : ShOk (S.cut p k) := by
  have nd : (S.R p).Nodup := (O.srt p n e).imp fun {x y} h z => by
    rw [z, ahead_self] at h
    cases h
  have away : ∀ q m, (S.cut p k).N q = some m → ¬ (p ++ [k]).isPrefixOf q = true ∧ S.N q = some m := fun q m h => by
    have h' : (if (p ++ [k]).isPrefixOf q = true then none else S.N q) = some m := h
    by_cases z : (p ++ [k]).isPrefixOf q = true
    · rw [if_pos z] at h'
      cases h'
    · rw [if_neg z] at h'
      exact ⟨z, h'⟩
  have awayS : ∀ q, ((S.cut p k).N q).isSome = true → ¬ (p ++ [k]).isPrefixOf q = true ∧ (S.N q).isSome = true := fun q h => by
    obtain ⟨m, hm⟩ := Option.isSome_iff_exists.mp h
    obtain ⟨a, b⟩ := away q m hm
    exact ⟨a, by rw [b]; rfl⟩
  refine ⟨?_, fun q m hm j => ?_, fun q m hm => ?_, fun q j hs => ?_, fun q hs => ?_, fun q j hs => O.key q j (awayS _ hs).2, fun q hs => O.deep q (awayS q hs).2⟩
  · obtain ⟨r, hr⟩ := O.root
    refine ⟨r, ?_⟩
    show (if (p ++ [k]).isPrefixOf [] = true then none else S.N []) = some r
    rw [if_neg fun z => by
      obtain ⟨r, e⟩ := pre_of z
      have := congrArg List.length e
      simp at this]
    exact hr
  · obtain ⟨h1, h2⟩ := away q m hm
    show j ∈ (if q = p then (S.R p).erase k else S.R q) ↔ (if (p ++ [k]).isPrefixOf (q ++ [j]) = true then none else S.N (q ++ [j])).isSome = true
    by_cases z : q = p
    · subst z
      rw [if_pos rfl, nd.mem_erase_iff]
      by_cases y : j = k
      · subst y
        rw [if_pos (pre_self _)]
        exact ⟨fun a => absurd rfl a.1, fun a => (nomatch a)⟩
      · rw [if_neg fun w => y (pre_snoc w h1).2.symm, ← O.row q n e j]
        exact ⟨fun a => a.2, fun a => ⟨y, a⟩⟩
    · rw [if_neg z, if_neg fun w => z (pre_snoc w h1).1.symm]
      exact O.row q m h2 j
  · obtain ⟨h1, h2⟩ := away q m hm
    show (if q = p then (S.R p).erase k else S.R q).Pairwise _
    split
    · exact (O.srt p n e).sublist List.erase_sublist
    · exact O.srt q m h2
  · obtain ⟨h1, h2⟩ := awayS _ hs
    show (if (p ++ [k]).isPrefixOf q = true then none else S.N q).isSome = true
    rw [if_neg fun w => h1 (pre_up w)]
    exact O.pre q j h2
  · have hs' : (if (p ++ [k]).isPrefixOf q = true then none else S.N q) = none := hs
    show (if (p ++ [k]).isPrefixOf q = true then none else S.W q) = none
    split
    · rfl
    · rename_i z
      rw [if_neg z] at hs'
      exact O.out q hs'
/-! ### .. and in the heap -/
theorem valV_drop (k j : Key) : ∀ kvs : List (Key × V), valV (dropK kvs k) j = if j = k then none else valV kvs j
  | [] => by
    show none = _
    split <;> rfl
  | p :: r => by
    have ih := valV_drop k j r
    unfold dropK at ih ⊢
    rw [List.filter_cons]
    by_cases h : p.1 = k
    · rw [if_neg (by simp [h]), ih]
      by_cases e : j = k
      · rw [if_pos e, if_pos e]
      · rw [if_neg e, if_neg e, valV_neg fun z => e (z.symm.trans h)]
    · rw [if_pos (by simp [h])]
      by_cases e : p.1 = j
      · rw [valV_pos e, valV_pos e, if_neg fun z => h (e.trans z)]
      · rw [valV_neg e, valV_neg e, ih]
section
variable {C : Addr} {H : Hp} {S : Sh} {m : Nat} {p : List Str} {n : Nd}
theorem TreeH.a_r (T : TreeH C H S m) {q : List Str} {n' : Nd} (e : S.N p = some n) (e' : S.N q = some n') : n.a ≠ n'.r := ne_of (T.at_ _ _ e).ins (T.at_ _ _ e').row fun z => by cases z
theorem TreeH.a_d (T : TreeH C H S m) {q : List Str} {n' : Nd} (e : S.N p = some n) (e' : S.N q = some n') : n.a ≠ n'.d := by
  obtain ⟨_, h, _⟩ := (T.at_ _ _ e').dic
  exact ne_of (T.at_ _ _ e).ins h fun z => by cases z
theorem TreeH.r_d (T : TreeH C H S m) {q : List Str} {n' : Nd} (e : S.N p = some n) (e' : S.N q = some n') : n.r ≠ n'.d := by
  obtain ⟨_, h, _⟩ := (T.at_ _ _ e').dic
  exact ne_of (T.at_ _ _ e).row h fun z => by cases z
theorem TreeH.setW (T : TreeH C H S m) (e : S.N p = some n) (v : Option Str) : TreeH C (upd H n.a (.ins C n.dx [("worth", wV v), ("row", .ref n.r), ("beneath", .ref n.d)])) (S.setW p v) m := by
  refine ⟨fun q n' e' => ?_, T.ia, T.ir, T.id⟩
  have A := T.at_ q n' e'
  obtain ⟨kvs, h1, h2, h3⟩ := A.dic
  refine ⟨?_, ?_, ⟨kvs, ?_, h2, h3⟩, A.rl⟩
  · by_cases z : q = p
    · subst z
      have en : n' = n := Option.some.inj (Eq.trans (Eq.symm e') e)
      subst en
      rw [upd_same]
      show some (HO.ins C n'.dx _) = some (HO.ins C n'.dx [("worth", wV (if q = q then v else S.W q)), ("row", .ref n'.r), ("beneath", .ref n'.d)])
      rw [if_pos rfl]
    · rw [upd_ne fun y => z (T.ia _ _ _ _ e' e y), A.ins]
      show some (HO.ins C n'.dx [("worth", wV (S.W q)), ("row", .ref n'.r), ("beneath", .ref n'.d)]) = some (HO.ins C n'.dx [("worth", wV (if q = p then v else S.W q)), ("row", .ref n'.r), ("beneath", .ref n'.d)])
      rw [if_neg z]
  · rw [upd_ne (Ne.symm (T.a_r e e'))]
    exact A.row
  · rw [upd_ne (Ne.symm (T.a_d e e'))]
    exact h1
/-- the new place: its row and its dict are empty -/
structure NewNd (C : Addr) (H0 H : Hp) (x : Nd) : Prop where
  ins : H x.a = some (.ins C x.dx [("worth", .non), ("row", .ref x.r), ("beneath", .ref x.d)])
  row : H x.r = some (.lst [])
  dic : H x.d = some (.dK [])
  na : H0 x.a = none
  nr : H0 x.r = none
  nd : H0 x.d = none
theorem TreeH.add (T : TreeH C H S m) (e : S.N p = some n) {k : Str} (O : ShOk S) (h : S.N (p ++ [k]) = none) {i : Nat} {H1 H2 : Hp} {x : Nd} {kvs : List (Key × V)} (e1 : H1 = upd H n.r (.lst (((S.R p).map V.str).take i ++ [.str k] ++ ((S.R p).map V.str).drop i))) (S2 : Sm H1 H2) (X : NewNd C H1 H2 x) (hd : H n.d = some (.dK kvs)) :
    TreeH C (upd H2 n.d (.dK (putK kvs (.inr k) (.ref x.a)))) (S.add p k i x) (m + 1) := by
  have A := T.at_ p n e
  have old : ∀ {b : Addr} {o : HO}, H b = some o → notTbl o = true → b ≠ n.r → H2 b = some o := fun {b o} hb nt ne => S2.keep b o (by rw [e1, upd_ne ne]; exact hb) nt
  have hr2 : H2 n.r = some (.lst (((S.R p).map V.str).take i ++ [.str k] ++ ((S.R p).map V.str).drop i)) := S2 _ _ (by rw [e1]; exact upd_same)
  have hd2 : H2 n.d = some (.dK kvs) := old hd rfl (Ne.symm (T.r_d e e))
  have xd : ∀ {b : Addr}, H1 b = none → b ≠ n.d := fun {b} hb z => by
    have : H1 n.d = some (.dK kvs) := by rw [e1, upd_ne (Ne.symm (T.r_d e e))]; exact hd
    rw [z, this] at hb
    cases hb
  have new1 : ∀ {b : Addr} {o : HO}, H b = some o → H1 b ≠ none := fun {b o} hb z => by
    rw [e1] at z
    by_cases y : b = n.r
    · rw [y, upd_same] at z
      cases z
    · rw [upd_ne y, hb] at z
      cases z
  have rowE : (((S.R p).map V.str).take i ++ [.str k] ++ ((S.R p).map V.str).drop i) = ((S.R p).take i ++ [k] ++ (S.R p).drop i).map V.str := by
    rw [List.map_append, List.map_append, List.map_take, List.map_drop]
    rfl
  have Nx : ∀ q n', (S.add p k i x).N q = some n' → (q = p ++ [k] ∧ n' = x) ∨ (q ≠ p ++ [k] ∧ S.N q = some n') := fun q n' hq => by
    have hq' : (if q = p ++ [k] then some x else S.N q) = some n' := hq
    by_cases y : q = p ++ [k]
    · rw [if_pos y] at hq'
      exact .inl ⟨y, (Option.some.inj hq').symm⟩
    · rw [if_neg y] at hq'
      exact .inr ⟨y, hq'⟩
  refine ⟨fun q n' e0 => ?_, fun q r n1 n2 h1 h2 z => ?_, fun q r n1 n2 h1 h2 z => ?_, fun q r n1 n2 h1 h2 z => ?_⟩
  · rcases Nx q n' e0 with ⟨rfl, rfl⟩ | ⟨y, e'⟩
    · have nil : (S.add p k i n').R (p ++ [k]) = [] := by
        show (if p ++ [k] = p then _ else if p ++ [k] = p ++ [k] then [] else _) = _
        rw [if_neg snoc_ne, if_pos rfl]
      refine ⟨?_, ?_, ⟨[], ?_, fun j => ?_, Nat.zero_le _⟩, by rw [nil]; exact Nat.zero_le _⟩
      · rw [upd_ne (xd X.na), X.ins]
        show _ = some (HO.ins C n'.dx [("worth", wV (S.W (p ++ [k]))), ("row", .ref n'.r), ("beneath", .ref n'.d)])
        rw [O.out _ h]
        rfl
      · rw [upd_ne (xd X.nr), X.row, nil]
        rfl
      · rw [upd_ne (xd X.nd)]
        exact X.dic
      · show none = ((if p ++ [k] ++ [j] = p ++ [k] then some n' else S.N (p ++ [k] ++ [j])).map fun n => V.ref n.a)
        rw [if_neg snoc_ne, O.none_up h]
        rfl
    · have B := T.at_ q n' e'
      obtain ⟨kv, g1, g2, g3⟩ := B.dic
      by_cases z : q = p
      · subst z
        have en : n' = n := Option.some.inj (Eq.trans (Eq.symm e') e)
        subst en
        have ek : kv = kvs := by
          rw [g1] at hd
          injection hd with w
          injection w
        subst ek
        have rq : (S.add q k i x).R q = (S.R q).take i ++ [k] ++ (S.R q).drop i := if_pos rfl
        refine ⟨?_, ?_, ⟨_, upd_same, fun j => ?_, ?_⟩, ?_⟩
        · rw [upd_ne (T.a_d e e)]
          exact old B.ins rfl (T.a_r e e)
        · rw [upd_ne (T.r_d e e), hr2, rq, rowE]
        · rw [valV_put]
          show _ = ((if q ++ [j] = q ++ [k] then some x else S.N (q ++ [j])).map fun n => V.ref n.a)
          by_cases w : j = k
          · rw [w, if_pos rfl, if_pos rfl]
            rfl
          · rw [if_neg fun u => w (Sum.inr.inj u), if_neg fun u => w (snoc_inj u).2]
            exact g2 j
        · exact Nat.le_trans (length_putK _ _ _) (Nat.add_le_add_right g3 1)
        · rw [rq, List.length_append, List.length_append, List.length_take, List.length_drop]
          have := B.rl
          show min i (S.R q).length + 1 + ((S.R q).length - i) ≤ m + 1
          omega
      · have rq : (S.add p k i x).R q = S.R q := by
          show (if q = p then _ else if q = p ++ [k] then [] else S.R q) = S.R q
          rw [if_neg z, if_neg y]
        refine ⟨?_, ?_, ⟨kv, ?_, fun j => ?_, Nat.le_succ_of_le g3⟩, by rw [rq]; exact Nat.le_succ_of_le B.rl⟩
        · rw [upd_ne (T.a_d e' e)]
          exact old B.ins rfl (T.a_r e' e)
        · rw [upd_ne (T.r_d e' e), rq]
          exact old B.row rfl fun w => z (T.ir _ _ _ _ e' e w)
        · rw [upd_ne fun w => z (T.id _ _ _ _ e' e w)]
          exact old g1 rfl (Ne.symm (T.r_d e e'))
        · rw [g2 j]
          show _ = ((if q ++ [j] = p ++ [k] then some x else S.N (q ++ [j])).map fun n => V.ref n.a)
          rw [if_neg fun u => z (snoc_inj u).1]
  · rcases Nx _ _ h1 with ⟨a, b⟩ | ⟨_, h1⟩ <;> rcases Nx _ _ h2 with ⟨c, d⟩ | ⟨_, h2⟩
    · rw [a, c]
    · rw [b] at z
      exact absurd (by rw [← z]; exact X.na) (new1 (T.at_ _ _ h2).ins)
    · rw [d] at z
      exact absurd (by rw [z]; exact X.na) (new1 (T.at_ _ _ h1).ins)
    · exact T.ia _ _ _ _ h1 h2 z
  · rcases Nx _ _ h1 with ⟨a, b⟩ | ⟨_, h1⟩ <;> rcases Nx _ _ h2 with ⟨c, d⟩ | ⟨_, h2⟩
    · rw [a, c]
    · rw [b] at z
      exact absurd (by rw [← z]; exact X.nr) (new1 (T.at_ _ _ h2).row)
    · rw [d] at z
      exact absurd (by rw [z]; exact X.nr) (new1 (T.at_ _ _ h1).row)
    · exact T.ir _ _ _ _ h1 h2 z
  · rcases Nx _ _ h1 with ⟨a, b⟩ | ⟨_, h1⟩ <;> rcases Nx _ _ h2 with ⟨c, d⟩ | ⟨_, h2⟩
    · rw [a, c]
    · obtain ⟨_, g, _⟩ := (T.at_ _ _ h2).dic
      rw [b] at z
      exact absurd (by rw [← z]; exact X.nd) (new1 g)
    · obtain ⟨_, g, _⟩ := (T.at_ _ _ h1).dic
      rw [d] at z
      exact absurd (by rw [z]; exact X.nd) (new1 g)
    · exact T.id _ _ _ _ h1 h2 z
theorem TreeH.cut (T : TreeH C H S m) (e : S.N p = some n) (O : ShOk S) (k : Str) {kvs : List (Key × V)} (hd : H n.d = some (.dK kvs)) :
    TreeH C (upd (upd H n.r (.lst (((S.R p).erase k).map V.str))) n.d (.dK (dropK kvs (.inr k)))) (S.cut p k) m := by
  have Nx : ∀ q n', (S.cut p k).N q = some n' → ¬ (p ++ [k]).isPrefixOf q = true ∧ S.N q = some n' := fun q n' hq => by
    have hq' : (if (p ++ [k]).isPrefixOf q = true then none else S.N q) = some n' := hq
    by_cases y : (p ++ [k]).isPrefixOf q = true
    · rw [if_pos y] at hq'
      cases hq'
    · rw [if_neg y] at hq'
      exact ⟨y, hq'⟩
  refine ⟨fun q n' e0 => ?_, fun q r n1 n2 h1 h2 z => T.ia _ _ _ _ (Nx _ _ h1).2 (Nx _ _ h2).2 z, fun q r n1 n2 h1 h2 z => T.ir _ _ _ _ (Nx _ _ h1).2 (Nx _ _ h2).2 z, fun q r n1 n2 h1 h2 z => T.id _ _ _ _ (Nx _ _ h1).2 (Nx _ _ h2).2 z⟩
  obtain ⟨y, e'⟩ := Nx q n' e0
  have B := T.at_ q n' e'
  obtain ⟨kv, g1, g2, g3⟩ := B.dic
  have fs : ndFs (S.cut p k) q n' = ndFs S q n' := by
    show ([("worth", wV (if (p ++ [k]).isPrefixOf q = true then none else S.W q)), ("row", .ref n'.r), ("beneath", .ref n'.d)] : List (Str × V)) = _
    rw [if_neg y]
    rfl
  by_cases z : q = p
  · subst z
    have en : n' = n := Option.some.inj (Eq.trans (Eq.symm e') e)
    subst en
    have ek : kv = kvs := by
      rw [g1] at hd
      injection hd with w
      injection w
    subst ek
    have rq : (S.cut q k).R q = (S.R q).erase k := if_pos rfl
    refine ⟨?_, ?_, ⟨_, upd_same, fun j => ?_, Nat.le_trans (dropK_le _ _) g3⟩, by rw [rq]; exact Nat.le_trans List.erase_sublist.length_le B.rl⟩
    · rw [upd_ne (T.a_d e e), upd_ne (T.a_r e e), fs]
      exact B.ins
    · rw [upd_ne (T.r_d e e), upd_same, rq]
    · rw [valV_drop]
      show _ = ((if (q ++ [k]).isPrefixOf (q ++ [j]) = true then none else S.N (q ++ [j])).map fun n => V.ref n.a)
      by_cases w : j = k
      · rw [w, if_pos rfl, if_pos (pre_self _)]
        rfl
      · rw [if_neg fun u => w (Sum.inr.inj u), if_neg fun u => w (pre_snoc u y).2.symm]
        exact g2 j
  · have rq : (S.cut p k).R q = S.R q := if_neg z
    refine ⟨?_, ?_, ⟨kv, ?_, fun j => ?_, g3⟩, by rw [rq]; exact B.rl⟩
    · rw [upd_ne (T.a_d e' e), upd_ne (T.a_r e' e), fs]
      exact B.ins
    · rw [upd_ne (T.r_d e' e), upd_ne fun w => z (T.ir _ _ _ _ e' e w), rq]
      exact B.row
    · rw [upd_ne fun w => z (T.id _ _ _ _ e' e w), upd_ne (Ne.symm (T.r_d e e'))]
      exact g1
    · rw [g2 j]
      show _ = ((if (p ++ [k]).isPrefixOf (q ++ [j]) = true then none else S.N (q ++ [j])).map fun n => V.ref n.a)
      rw [if_neg fun u => z (pre_snoc u y).1.symm]
end
/-! ### a built-in method, K given -/
section
variable {X : Cx}
/-- a built-in's method, K told -/
theorem pe_bmK {K : PySem.W.Frag} {T id : String} {name : Str} {apos cpos : Pos} {o e : Expr} {es : List Expr} {r : V → List V → Hp → VK → Prop} {to : TE} {t : TA} (pa : PlainAttrs T) (slot : Slot T name id) (hty : typeOf (.builtin id) = pure (.type "method_descriptor")) (hm : MtR X id r) (ho : PE X o to) (ha : PA X (e :: es) t) (hK : X.K = K := by rfl)
    (h1 : attributeBase o name X.env (eval o X.env) = eval o X.env := by rfl) (h2 : ((backTo cpos (starEach (e :: es) X.env)).all (fun x => !x.1) && (backToKw cpos (keywordEach [] X.env)).all (fun x => x.1.isSome) && decide ((e :: es).length + ([] : List Keyword).length + (if ([] : List Keyword).isEmpty then 0 else 1) < 30)) = true := by rfl) (h3 : (apos.endLine == cpos.line) = true := by rfl)
    (h4 : starEach (e :: es) X.env = (false, eval e X.env) :: starEach es X.env := by rfl) (h5 : (backTo cpos (starEach es X.env)).any (·.1) = false := by rfl) :
    PE X (.Call (.Attribute o name apos) (e :: es) [] cpos) (tBM K T r to t) := by
  subst hK
  exact pe_bm pa slot hty hm ho ha h1 h2 h3 h4 h5
end
/-! ### rules that trees ask for -/
def rDin (no : Bool) : R2 := fun x y H Q => ∃ (a : Addr) (o : Option V), y = .ref a ∧ DGet H a x o ∧ Q (.bl (no != o.isSome)) H
section
variable {X : Cx}
theorem dinK (hu : X.A.units + 64 < cLine) : OpR X (compareOp .In) (rDin false) := by
  intro pins s σ H x y v u Q I rx ry h
  obtain ⟨a, o, rfl, g, q⟩ := h
  cases ry
  refine d_in (Nat.lt_trans (Nat.add_lt_add_left (show 1 < 64 by decide) _) hu) I g rx fun s' I' => ⟨_, H, I', ?_, q⟩
  rw [Bool.false_bne]
  exact rfl
theorem dninK (hu : X.A.units + 64 < cLine) : OpR X (compareOp .NotIn) (rDin true) := by
  intro pins s σ H x y v u Q I rx ry h
  obtain ⟨a, o, rfl, g, q⟩ := h
  cases ry
  refine d_notIn (Nat.lt_trans (Nat.add_lt_add_left (show 1 < 64 by decide) _) hu) I g rx fun s' I' => ⟨_, H, I', ?_, q⟩
  cases o.isSome <;> exact rfl
def eqS (y : Str) (v : Value) : Bool := match v with
  | .str x _ => x.cps.toList == y.cps.toList
  | _ => false
theorem val_get {xs : List V} {us : List Value} {j : Nat} {x : Value} (r : Vals xs us) (h : us[j]? = some x) : ∃ y, xs[j]? = some y ∧ RelV y x := by
  cases e : xs[j]? with
  | none =>
    rw [r.none_of e] at h
    cases h
  | some y =>
    obtain ⟨u, hu, ru⟩ := r.get e
    rw [hu] at h
    cases h
    exact ⟨y, rfl, ru⟩
theorem str_at {zs : List Str} {us : List Value} (r : Vals (zs.map V.str) us) {i : Nat} (h : i < us.length) : ∃ (z : Str) (t : Tok), zs[i]? = some z ∧ us[i] = .str z t := by
  obtain ⟨v, hv, rv⟩ := val_get r (List.getElem?_eq_getElem h)
  rw [List.getElem?_map] at hv
  cases e : zs[i]? with
  | none => rw [e] at hv; cases hv
  | some z =>
    rw [e] at hv
    cases hv
    obtain ⟨t, et⟩ := rv
    exact ⟨z, t, rfl, et⟩
theorem eqS_iff {y z : Str} {t : Tok} : eqS y (.str z t) = true ↔ z = y := by
  show (z.cps.toList == y.cps.toList) = true ↔ _
  rw [beq_iff_eq]
  constructor
  · exact fun h => ext_tl h
  · rintro rfl
    rfl
theorem eraseIdx_maps {α β : Type} (f : α → β) : ∀ (l : List α) (i : Nat), (l.map f).eraseIdx i = (l.eraseIdx i).map f
  | [], _ => rfl
  | _ :: _, 0 => rfl
  | a :: l, i + 1 => by
    rw [List.map_cons, List.eraseIdx_cons_succ, List.eraseIdx_cons_succ, List.map_cons, eraseIdx_maps f l i]
/-- xs.remove(y), texts: the first such goes -/
def rRemS : V → List V → Hp → VK → Prop := fun x xs H Q => ∃ (l : Addr) (zs : List Str) (y : Str), x = .ref l ∧ xs = [.str y] ∧ H l = some (.lst (zs.map V.str)) ∧ y ∈ zs ∧ Q .non (upd H l (.lst ((zs.erase y).map V.str)))
theorem removeS : MtR X "list.remove" rRemS := by
  intro pins s σ H x xs v us Q I rx rxs h
  obtain ⟨l, zs, y, rfl, rfl, hH, hy, q⟩ := h
  cases rx
  obtain ⟨u, rfl, ru⟩ := rxs.one
  obtain ⟨t, rfl⟩ := ru
  obtain ⟨z, its, n, r, hl, e⟩ := I.lstM hH
  rw [List.length_map] at hl z
  have hj : zs.idxOf y < zs.length := List.idxOf_lt_length_iff.mpr hy
  have lz : its.length = zs.length := by rw [← r.length, List.length_map]
  have hjl : zs.idxOf y < its.toArray.size := by rw [List.size_toArray]; omega
  refine call_meets PySem.F.slot_list_remove ⟨_, e, rfl⟩ PySem.F.entry_list_remove (PySem.F.args_list_remove_2 _ _)
    (MeetsSeq.list_remove l its.toArray n (.str y t) (eqS y) (fun w hw => ?_) (zs.idxOf y) hjl ?_ ?_ (by rw [List.size_toArray]; omega)) ⟨e, ?_⟩
  · obtain ⟨i, hi, rfl⟩ := List.mem_iff_getElem.mp (show w ∈ its by simpa using hw)
    obtain ⟨z', t', _, h2⟩ := str_at r hi
    rw [h2]
    exact SeqRoads2.EqGives.str z' y t' t
  · obtain ⟨z', t', h1, h2⟩ := str_at r (i := zs.idxOf y) (by omega)
    have e1 : its.toArray[zs.idxOf y] = .str z' t' := by simpa using h2
    rw [e1]
    refine eqS_iff.mpr ?_
    rw [List.getElem?_eq_getElem hj, List.getElem_idxOf hj] at h1
    exact (Option.some.inj h1).symm
  · intro m hm hmj
    obtain ⟨z', t', h1, h2⟩ := str_at r (i := m) (by simpa using hm)
    have e1 : its.toArray[m] = .str z' t' := by simpa using h2
    rw [e1]
    cases c : eqS y (.str z' t') with
    | false => rfl
    | true =>
      have ey := eqS_iff.mp c
      subst ey
      have hmz : m < zs.length := by omega
      rw [List.getElem?_eq_getElem hmz] at h1
      have nn := List.not_of_lt_findIdx (p := (· == z')) (show m < zs.findIdx (· == z') from hmj)
      rw [Option.some.inj h1] at nn
      simp at nn
  · have rr := r.eraseIdx (zs.idxOf y)
    have em : ((zs.map V.str).eraseIdx (zs.idxOf y)) = (zs.erase y).map V.str := by
      rw [List.erase_eq_eraseIdx_of_idxOf (i := zs.idxOf y) (l := zs) (a := y) rfl, eraseIdx_maps]
    rw [em] at rr
    refine ⟨.non, _, I.lset (its' := its.eraseIdx (zs.idxOf y)) (t' := s.toks) hH e ?_ rr ?_, rfl, q⟩
    · show its.toArray.eraseIdxIfInBounds (zs.idxOf y) = (its.eraseIdx (zs.idxOf y)).toArray
      rw [List.eraseIdxIfInBounds_toArray]
    · rw [List.length_map]
      exact Nat.le_trans List.erase_sublist.length_le z
end
/-! #### the order of keys, asked by halves -/
/-- how many of a row stand ahead -/
def posOf (zs : List Str) (k : Str) : Nat := (zs.takeWhile fun z => ahead z k).length
theorem pos_le (zs : List Str) (k : Str) : posOf zs k ≤ zs.length := (List.takeWhile_prefix _).length_le
theorem pos_take (zs : List Str) (k : Str) : ∀ y ∈ zs.take (posOf zs k), ahead y k = true := by
  induction zs with
  | nil => exact fun y h => by simp at h
  | cons z r ih =>
    intro y h
    unfold posOf at h
    rw [List.takeWhile_cons] at h
    by_cases c : ahead z k = true
    · rw [if_pos c, List.length_cons, List.take_succ_cons] at h
      rcases List.mem_cons.mp h with rfl | h
      · exact c
      · exact ih y h
    · rw [if_neg c] at h
      simp at h
theorem pos_is {zs : List Str} {k : Str} {i : Nat} (hi : i ≤ zs.length) (h1 : ∀ j z, j < i → zs[j]? = some z → ahead z k = true) (h2 : ∀ z, zs[i]? = some z → ahead z k = false) : posOf zs k = i := by
  induction zs generalizing i with
  | nil =>
    have : i = 0 := by simpa using hi
    rw [this]
    rfl
  | cons z r ih =>
    unfold posOf
    rw [List.takeWhile_cons]
    cases i with
    | zero =>
      rw [if_neg (by rw [h2 z rfl]; exact Bool.false_ne_true)]
      rfl
    | succ i =>
      rw [if_pos (h1 0 z (Nat.succ_pos _) rfl), List.length_cons]
      exact congrArg (· + 1) (ih (Nat.le_of_succ_le_succ hi) (fun j w hj hw => h1 (j + 1) w (Nat.succ_lt_succ hj) (by rw [List.getElem?_cons_succ]; exact hw)) fun w hw => h2 w (by rw [List.getElem?_cons_succ]; exact hw))
theorem pos_drop {zs : List Str} (P : zs.Pairwise fun x y => ahead x y = true) {k : Str} (hk : k ∉ zs) : ∀ y ∈ zs.drop (posOf zs k), ahead k y = true := by
  induction zs with
  | nil => exact fun y h => by simp at h
  | cons z r ih =>
    obtain ⟨P1, P2⟩ := List.pairwise_cons.mp P
    intro y h
    unfold posOf at h
    rw [List.takeWhile_cons] at h
    have nz : z ≠ k := fun e => hk (by rw [e]; exact .head _)
    by_cases c : ahead z k = true
    · rw [if_pos c, List.length_cons, List.drop_succ_cons] at h
      exact ih P2 (fun m => hk (.tail _ m)) y h
    · rw [if_neg c] at h
      have kz : ahead k z = true := by
        have t := ahead_two nz
        rw [Bool.not_eq_true] at c
        rw [c, Bool.false_or] at t
        exact t
      have h' : y ∈ z :: r := h
      rcases List.mem_cons.mp h' with rfl | h'
      · exact kz
      · exact ahead_tr kz (P1 y h')
/-! ### instances that are made -/
theorem put_lt {f : Str} {y : V} {n : Nat} : ∀ {fs : List (Str × V)}, fs.length < n → (putF f y fs).length < n + 1
  | [], h => by show 1 < n + 1; simp at h; omega
  | (g, x) :: r, h => by
    unfold putF
    split
    · exact Nat.lt_succ_of_lt h
    · rw [List.length_cons]
      have := put_lt (f := f) (y := y) (n := n - 1) (fs := r) (by rw [List.length_cons] at h; omega)
      rw [List.length_cons] at h
      omega
/-- what an instance's own making leaves: all else as it was -/
def Made (p : Addr) (H H' : Hp) : Prop := ∀ H0 : Hp, H0 p = none → Sm H0 H → Sm H0 H'
theorem Made.refl (p : Addr) (H : Hp) : Made p H H := fun _ _ h => h
theorem Made.put {p : Addr} {H H1 : Hp} {o u : HO} (M : Made p H H1) (h : H1 p = some u) (nt : plainO u = true) : Made p H (upd H1 p o) := fun H0 h0 S => (M H0 h0 S).over h0 fun qs z => by
  rw [h] at z
  cases z
  exact nt
theorem Made.sm {p : Addr} {H H1 H2 : Hp} (M : Made p H H1) (S : Sm H1 H2) : Made p H H2 := fun H0 h0 S0 => (M H0 h0 S0).trans S
theorem Made.own {p d : Addr} {H Ha Hb : Hp} {o : HO} (M : Made p H Ha) (hd : Ha d = none) (S : Sm Ha Hb) (nt : ∀ qs, Hb d = some qs → plainO qs = true) : Made p H (upd Hb d o) := fun H0 h0 S0 => ((M H0 h0 S0).trans S).over ((M H0 h0 S0).free hd) nt
/-- a new instance, made -/
theorem Made.new {p dx C : Addr} {H H' : Hp} (hp : H p = none) (hd : H dx = none) (ne : dx ≠ p) (M : Made p (upd (upd H dx (.own p)) p (.ins C dx [])) H') : Sm H H' := M H hp ((Sm.new (o := .own p) hd).over hp fun qs z => by
  rw [upd_ne (Ne.symm ne), hp] at z
  cases z)
theorem paired_mem {α β : Type} {F : α → β → Prop} : ∀ {l : List α} {m : List β}, Paired F l m → ∀ a ∈ l, ∃ b, (a, b) ∈ l.zip m ∧ F a b
  | _, _, .cons h t, a, ha => by
    rcases List.mem_cons.mp ha with rfl | ha
    · exact ⟨_, .head _, h⟩
    · obtain ⟨b, h1, h2⟩ := paired_mem t a ha
      exact ⟨b, .tail _ h1, h2⟩
theorem paired_len {α β : Type} {F : α → β → Prop} : ∀ {l : List α} {m : List β}, Paired F l m → l.length = m.length
  | _, _, .nil => rfl
  | _, _, .cons _ t => congrArg (· + 1) (paired_len t)
/-! ### trees: how many stand ahead, a tree made, a place found -/
def spHow (K : PySem.W.Frag) (p : Addr) : Sp := fun vs H Q _ => ∃ (a : Addr) (zs : List Str) (k : Str), vs = [.ref a, .str k] ∧ SqL K H a (zs.map V.str) ∧ (zs.Pairwise fun x y => ahead x y = true) ∧ (∀ z ∈ zs, (tl z).length ≤ 200) ∧ (tl k).length ≤ 200 ∧ zs.length ≤ 100000 ∧ Tb H p ∧
  ∀ H', Sm H H' → Q (.int (posOf zs k : Nat)) H'
/-- a new tree: its parts are new -/
def spTree (C : Addr) : Sp := fun vs H Q _ => ∃ (p dx : Addr), vs = [.ref p] ∧ H p = some (.ins C dx []) ∧
  ∀ (r d : Addr) (H' : Hp), H r = none → H d = none → Made p H H' → H' p = some (.ins C dx [("worth", .non), ("row", .ref r), ("beneath", .ref d)]) → H' r = some (.lst []) → H' d = some (.dK []) → Q .non H'
section
variable {P : Program} {w : World} {K : PySem.W.Frag} {mg : Str → Option Value} {base : Heap} {cs : Tabs}
theorem ok_how_many (T : Txt K mg cs) (Cbefore : Cal P w K mg base 4 "before" ["one", "other"] (spBefore cs.p_is_number_text)) : Cal P w K mg base 5 "_how_many_ahead" ["row", "key"] (spHow K cs.p_is_number_text) := by
  refine T.f_how_many_ahead.cal scHowManyAhead (fun vs H Q E h => ?_) (fun f cdv A outer s H vs Q E hr h => ?_)
  · obtain ⟨a, zs, k, rfl, _⟩ := h
    rfl
  obtain ⟨a, zs, k, rfl, hS, hP, hz, hk, hl, hT, q⟩ := h
  refine ⟨_, (pss_cons (ps_set (i := 2) scHowManyAhead.nd rfl (by first | exact Or.inl rfl | exact Or.inr rfl) pe_int)
    (pss_cons (ps_set (i := 3) scHowManyAhead.nd rfl (by first | exact Or.inl rfl | exact Or.inr rfl) (pe_callB (lenQ K) rfl T.n_len (by decide +kernel) (pa_cons (pv 0) pa_nil)))
    (pss_cons (ps_while PassesOwn.never (pt_cmpR op_lt (pv 2) (pv 3) (nomark _))
      (pss_cons (ps_set (i := 4) scHowManyAhead.nd rfl (by first | exact Or.inl rfl | exact Or.inr rfl) (pe_op op_fdivW (pe_op op_add (pv 2) (pv 3)) pe_int))
        (pss_one (ps_if (pt_val (pe_cal Cbefore (hr.mono (by first | decide | omega)) (pa_cons (pe_ix (ixL K) (pv 0) (pv 4) (fun _ _ => rfl)) (pa_cons (pv 1) pa_nil)))) (pss_one (ps_set (i := 2) scHowManyAhead.nd rfl (by first | exact Or.inl rfl | exact Or.inr rfl) (pe_op op_add (pv 4) pe_int))) (pss_one (ps_set (i := 3) scHowManyAhead.nd rfl (by first | exact Or.inl rfl | exact Or.inr rfl) (pv 4)))))))
    (pss_one (ps_ret (pv 2)))))), ?_⟩
  refine run_set ?_
  refine run_set ⟨_, rfl, a, _, rfl, .inl hS, ?_⟩
  rw [List.length_map]
  dsimp only [tSeq]
  refine ⟨fun m σ' H' => ∃ (lo hi : Nat) (x : Option V), σ' = [some (.ref a), some (.str k), some (.int (lo : Int)), some (.int (hi : Int)), x] ∧ lo ≤ hi ∧ hi ≤ zs.length ∧ (∀ j z, j < lo → zs[j]? = some z → ahead z k = true) ∧ (∀ j z, hi ≤ j → zs[j]? = some z → ahead z k = false) ∧ Sm H H' ∧ m = hi - lo,
    ⟨_, 0, zs.length, none, rfl, Nat.zero_le _, Nat.le_refl _, fun j z h => absurd h (Nat.not_lt_zero _), fun j z h e => ?_, Sm.refl H, rfl⟩, ?_⟩
  · rw [List.getElem?_eq_none h] at e
    cases e
  rintro m σ' H' ⟨lo, hi, x, rfl, h1, h2, h3, h4, S, rfl⟩
  refine ⟨_, rfl, _, rfl, _, _, rfl, rfl, _, rfl, ?_⟩
  refine ite2 (fun c => ?_) (fun c => ?_)
  · have hlt : lo < hi := by have := of_decide_eq_true c; omega
    refine ⟨_, fun σ' H' h => h, ?_⟩
    refine run_set ?_
    refine ⟨_, rfl, _, rfl, _, _, rfl, rfl, _, 2, rfl, rfl, wide_div (b := 256) (by decide) (by decide) (by decide) (by decide), ?_⟩
    have em : ((lo : Int) + (hi : Int)) / 2 = (((lo + hi) / 2 : Nat) : Int) := by omega
    dsimp only
    rw [em]
    have hm1 : lo ≤ (lo + hi) / 2 := by omega
    have hm2 : (lo + hi) / 2 < hi := by omega
    generalize (lo + hi) / 2 = mid at hm1 hm2 ⊢
    have hmz : mid < zs.length := by omega
    have ez : zs[mid]? = some zs[mid] := List.getElem?_eq_getElem hmz
    refine run_ifE ⟨_, rfl, _, rfl, a, _, _, _, rfl, rfl, Sm.seq S hS, atI_nat (j := mid) (by rw [List.getElem?_map, ez]; rfl), _, rfl, _, _, rfl, ?_, Nat.le_trans hk (by decide), S.tab _ hT, fun H1 S1 => ⟨_, rfl, ?_⟩⟩
    · exact Nat.le_trans (hz _ (List.getElem_mem hmz)) (by decide)
    refine ite2 (fun c2 => ?_) (fun c2 => ?_)
    · refine ⟨_, rfl, mid, 1, rfl, rfl, hi - (mid + 1), by omega, mid + 1, hi, _, rfl, by omega, h2, fun j z hj hjz => ?_, h4, S.trans S1, rfl⟩
      rcases Nat.lt_or_ge j mid with h | h
      · have hjl : j < zs.length := by omega
        have pw := List.pairwise_iff_getElem.mp hP j mid hjl hmz h
        have ejz : zs[j] = z := by
          rw [List.getElem?_eq_getElem hjl] at hjz
          exact Option.some.inj hjz
        rw [ejz] at pw
        exact ahead_tr pw c2
      · have : j = mid := by omega
        subst this
        rw [ez] at hjz
        rw [← Option.some.inj hjz]
        exact c2
    · refine ⟨_, rfl, mid - lo, by omega, lo, mid, _, rfl, hm1, by omega, h3, fun j z hj hjz => ?_, S.trans S1, rfl⟩
      rcases Nat.lt_or_ge mid j with h | h
      · cases g : ahead z k with
        | false => rfl
        | true =>
          have hjl : j < zs.length := (List.getElem?_eq_some_iff.mp hjz).1
          have pw := List.pairwise_iff_getElem.mp hP mid j hmz hjl h
          have ejz : zs[j] = z := by
            rw [List.getElem?_eq_getElem hjl] at hjz
            exact Option.some.inj hjz
          rw [ejz] at pw
          exact absurd (ahead_tr pw g) c2
      · have : j = mid := by omega
        subst this
        rw [ez] at hjz
        rw [← Option.some.inj hjz]
        exact Bool.not_eq_true _ ▸ c2
  · have e : lo = hi := by
      have : ¬ ((lo : Int) < (hi : Int)) := fun z => c (decide_eq_true z)
      omega
    subst e
    dsimp only
    refine run_ret ?_
    refine ⟨_, rfl, ?_⟩
    have ep : posOf zs k = lo := pos_is h2 h3 fun z hz => h4 lo z (Nat.le_refl _) hz
    rw [← ep]
    exact q H' S
theorem ok_tree (T : Txt K mg cs) : CalC P w K mg base 1 "Tree" cs.a_Tree ["self"] [] (spTree cs.a_Tree) := by
  refine T.f_Tree___init__.cal scTreeInit (fun vs H Q E h => ?_) (fun f cdv A outer s H vs Q E hr h => ?_)
  · obtain ⟨p, dx, rfl, _⟩ := h
    rfl
  obtain ⟨p, dx, rfl, hp, q⟩ := h
  refine ⟨_, (pss_cons (ps_fld (pv 0) pe_non rfl)
    (pss_cons (ps_fld (pv 0) (pe_lst pa_nil) rfl)
    (pss_one (ps_fld (pv 0) pe_dnewK rfl)))), ?_⟩
  refine ⟨_, rfl, p, _, dx, _, rfl, hp, T.cl_Tree, T.no_Tree_worth, (by decide), ?_⟩
  refine ⟨(by decide), fun l hl => ⟨_, rfl, p, _, dx, _, rfl, by rw [upd_ne (ne_of_none upd_same hl)]; exact upd_same, T.cl_Tree, T.no_Tree_row, put_lt (by decide), ?_⟩⟩
  refine fun d hd => ⟨_, rfl, p, _, dx, _, rfl, by rw [upd_ne (ne_of_none upd_same hd)]; exact upd_same, T.cl_Tree, T.no_Tree_beneath, put_lt (put_lt (by decide)), ?_⟩
  have M := ((((Made.refl p H).put (o := .ins cs.a_Tree dx (putF "worth" .non [])) hp rfl).sm (Sm.new (o := .lst []) hl)).put (o := .ins cs.a_Tree dx (putF "row" (.ref l) (putF "worth" .non []))) (by rw [upd_ne (ne_of_none upd_same hl)]; exact upd_same) rfl).sm (Sm.new (o := .dK []) hd) |>.put (o := .ins cs.a_Tree dx (putF "beneath" (.ref d) (putF "row" (.ref l) (putF "worth" .non [])))) (by rw [upd_ne (ne_of_none upd_same hd)]; exact upd_same) rfl
  have pl : p ≠ l := ne_of_none upd_same hl
  have pd : p ≠ d := ne_of_none upd_same hd
  have ld : l ≠ d := fun z => by
    rw [z] at pl
    rw [← z, upd_ne (Ne.symm (by rw [← z] at pd; exact pd)), upd_same] at hd
    cases hd
  refine q l d _ ?_ ?_ M upd_same ?_ ?_
  · rw [upd_ne (Ne.symm pl)] at hl
    exact hl
  · rw [upd_ne (Ne.symm pd), upd_ne (Ne.symm ld), upd_ne (Ne.symm pd)] at hd
    exact hd
  · rw [upd_ne (Ne.symm pl), upd_ne ld, upd_ne (Ne.symm pl)]
    exact upd_same
  · rw [upd_ne (Ne.symm pd)]
    exact upd_same
/-! #### at -/
def spAt (K : PySem.W.Frag) (C : Addr) : Sp := fun vs H Q _ => ∃ (S : Sh) (m : Nat) (n : Nd) (pt : Addr) (ks : List Str), vs = [.ref n.a, .ref pt] ∧ TreeH C H S m ∧ ShOk S ∧ S.N [] = some n ∧ SqT K H pt (ks.map V.str) ∧ ks.length ≤ 1000 ∧ Q (match S.N ks with | some x => .ref x.a | none => .non) H
theorem ok_at (T : Txt K mg cs) : CalM P w K mg base 1 cs.a_Tree "at" ["self", "path"] (spAt K cs.a_Tree) := by
  refine T.f_Tree_at.cal scTreeAt (fun vs H Q E h => ?_) (fun f cdv A outer s H vs Q E hr h => ?_)
  · obtain ⟨_, _, _, _, _, rfl, _⟩ := h
    rfl
  obtain ⟨S, m, n, pt, ks, rfl, TH, O, hn, hp, hl, q⟩ := h
  refine ⟨_, (pss_cons (ps_set (i := 2) scTreeAt.nd rfl (by first | exact Or.inl rfl | exact Or.inr rfl) (pv 0))
    (pss_cons (ps_for PassesOwn.never rfl (pi_tup (pv 1)) (pg_name (i := 3) scTreeAt.nd rfl (by first | exact Or.inl rfl | exact Or.inr rfl))
      (pss_cons (ps_if (pt_cmpR (dninK hr.units) (pv 3) (pe_fldK (K := K) (pv 2)) rfl) (pss_one (ps_ret pe_non)) pss_nil)
        (pss_one (ps_set (i := 2) scTreeAt.nd rfl (by first | exact Or.inl rfl | exact Or.inr rfl) (pe_dget (Nat.lt_trans (Nat.add_lt_add_left (show 1 < 64 by decide) _) hr.units) (pe_fldK (K := K) (pv 2)) (pv 3) (fun _ _ => rfl))))))
    (pss_one (ps_ret (pv 2))))), ?_⟩
  refine run_set ⟨_, rfl, ?_⟩
  refine run_for ?_
  refine ⟨_, rfl, pt, rfl, ⟨_, hp⟩, for_it (walk_tup (K := K) (a := pt) (xs := ks.map V.str)) (fun i σ H' => H' = H ∧ ∃ (x : Nd) (y : Option V), S.N (ks.take i) = some x ∧ σ = [some (.ref n.a), some (.ref pt), some (.ref x.a), y]) ⟨rfl, n, none, hn, rfl⟩ (fun i σ H' _ h => by rw [h.1]; exact hp) (fun i v σ H' H'' hi h y => ?_) (fun σ H' h => ?_)⟩
  · obtain ⟨rfl, x, u, hx, rfl⟩ := h
    obtain ⟨rfl, hv⟩ := y
    rw [List.length_map] at hi
    rw [List.getElem?_map, List.getElem?_eq_getElem hi] at hv
    cases hv
    have tk : ks.take (i + 1) = ks.take i ++ [ks[i]] := by rw [List.take_succ_eq_append_getElem hi]
    have A := TH.at_ _ _ hx
    obtain ⟨kvs, h1, h2, _⟩ := A.dic
    have g := DGet.k (k := Sum.inr ks[i]) h1
    rw [show valV kvs (Sum.inr ks[i]) = _ from h2 ks[i], ← tk] at g
    refine run_if ⟨_, rfl, _, rfl, x.a, _, _, _, _, rfl, A.ins, T.cl_Tree, T.no_Tree_beneath, rfl, x.d, _, rfl, g, _, rfl, ?_⟩
    cases e : S.N (ks.take (i + 1)) with
    | none =>
      show if (true != ((none : Option Nd).map fun n => V.ref n.a).isSome) = true then _ else _
      refine iteT ?_
      have en : S.N ks = none := by
        cases e2 : S.N ks with
        | none => rfl
        | some z =>
          have := O.up (ks.drop (i + 1)) (ks.take (i + 1)) (by rw [List.take_append_drop, e2]; rfl)
          rw [e] at this
          cases this
      rw [en] at q
      exact q
    | some z =>
      show if (true != ((some z).map fun n => V.ref n.a).isSome) = true then _ else _
      refine iteF ?_
      rw [e] at g
      exact ⟨_, rfl, x.a, _, _, _, _, rfl, A.ins, T.cl_Tree, T.no_Tree_beneath, rfl, _, rfl, x.d, _, rfl, g, rfl, z, _, rfl, rfl⟩
  · obtain ⟨rfl, x, u, hx, rfl⟩ := h
    rw [List.length_map, List.take_length] at hx
    rw [hx] at q
    dsimp only
    refine run_ret ?_
    exact ⟨_, rfl, q⟩
end
/-! ### trees: a place made, a worth planted -/
structure Grown (S S' : Sh) (ks : List Str) : Prop where
  W : S'.W = S.W
  old : ∀ q n, S.N q = some n → S'.N q = some n
  new : ∀ q, (S'.N q).isSome = true → (S.N q).isSome = true ∨ q.isPrefixOf ks = true
  row : ∀ q, (S.N q).isSome = true → S.R q ≠ [] → S'.R q ≠ []
theorem Grown.refl (S : Sh) (ks : List Str) : Grown S S ks := ⟨rfl, fun _ _ h => h, fun _ h => .inl h, fun _ _ h => h⟩
theorem Grown.add {S S' : Sh} {p : List Str} (G : Grown S S' p) {n : Nd} (e : S'.N p = some n) {k : Str} (h : S'.N (p ++ [k]) = none) (i : Nat) (x : Nd) : Grown S (S'.add p k i x) (p ++ [k]) := by
  refine ⟨G.W, fun q u hq => ?_, fun q hq => ?_, fun q hq hr => ?_⟩
  · show (if q = p ++ [k] then some x else S'.N q) = some u
    have o := G.old q u hq
    rw [if_neg fun z => by rw [z, h] at o; cases o]
    exact o
  · have hq' : (if q = p ++ [k] then some x else S'.N q).isSome = true := hq
    by_cases z : q = p ++ [k]
    · exact .inr (by rw [z]; exact pre_self _)
    · rw [if_neg z] at hq'
      rcases G.new q hq' with a | a
      · exact .inl a
      · exact .inr (by
          obtain ⟨r, e⟩ := pre_of a
          rw [e, List.append_assoc]
          exact pre_app _ _)
  · show (if q = p then (S'.R p).take i ++ [k] ++ (S'.R p).drop i else if q = p ++ [k] then [] else S'.R q) ≠ []
    by_cases z : q = p
    · rw [if_pos z]
      simp
    · rw [if_neg z]
      by_cases y : q = p ++ [k]
      · obtain ⟨u, hu⟩ := Option.isSome_iff_exists.mp hq
        have o := G.old q u hu
        rw [y, h] at o
        cases o
      · rw [if_neg y]
        exact G.row q hq hr
theorem Grown.longer {S S' : Sh} {p r : List Str} (G : Grown S S' p) : Grown S S' (p ++ r) := ⟨G.W, G.old, fun q h => (G.new q h).imp id fun a => by
  obtain ⟨t, e⟩ := pre_of a
  rw [e, List.append_assoc]
  exact pre_app _ _, G.row⟩
/-- how a tree's heap went on: what is not its own stays, what is new was free -/
structure Went (S S' : Sh) (H H' : Hp) : Prop where
  ch : Ch (Own S) H H'
  own : ∀ a, Own S' a → Own S a ∨ H a = none
theorem Went.refl (S : Sh) (H : Hp) : Went S S H H := ⟨Ch.refl H, fun _ h => .inl h⟩
theorem Went.trans {S S1 S2 : Sh} {H H1 H2 : Hp} (x : Went S S1 H H1) (y : Went S1 S2 H1 H2) : Went S S2 H H2 := ⟨x.ch.trans' y.ch x.own, fun a h => (y.own a h).elim (x.own a) fun e => .inr (x.ch.gone a e)⟩
theorem Went.sm {S : Sh} {H H' : Hp} (s : Sm H H') : Went S S H H' := ⟨Ch.sm s, fun _ h => .inl h⟩
theorem Own.add {S : Sh} {p : List Str} {k : Str} {i : Nat} {x : Nd} {a : Addr} (h : Own (S.add p k i x) a) : Own S a ∨ a = x.a ∨ a = x.r ∨ a = x.d := by
  obtain ⟨q, n, e, h⟩ := h
  have e' : (if q = p ++ [k] then some x else S.N q) = some n := e
  by_cases z : q = p ++ [k]
  · rw [if_pos z] at e'
    cases e'
    exact .inr h
  · rw [if_neg z] at e'
    exact .inl ⟨q, n, e', h⟩
def spMade (K : PySem.W.Frag) (C p : Addr) : Sp := fun vs H Q _ => ∃ (S : Sh) (m : Nat) (n : Nd) (pt : Addr) (ks : List Str), vs = [.ref n.a, .ref pt] ∧ TreeH C H S m ∧ ShOk S ∧ S.N [] = some n ∧ SqT K H pt (ks.map V.str) ∧ ks.length ≤ 7 ∧ (∀ k ∈ ks, (tl k).length ≤ 200) ∧ m ≤ 90000 ∧ Tb H p ∧
  ∀ (S' : Sh) (x : Nd) (H' : Hp), Grown S S' ks → TreeH C H' S' (m + ks.length) → ShOk S' → S'.N ks = some x → Went S S' H H' → Q (.ref x.a) H'
section
variable {P : Program} {w : World} {K : PySem.W.Frag} {mg : Str → Option Value} {base : Heap} {cs : Tabs}
theorem sqT_ch {K : PySem.W.Frag} {C : Addr} {H H' : Hp} {S : Sh} {m : Nat} (T : TreeH C H S m) (c : Ch (Own S) H H') {a : Addr} {xs : List V} (h : SqT K H a xs) : SqT K H' a xs := by
  have no : ∀ {u : HO}, (∃ vs, u = .tup vs) ∨ (∃ o v, u = .frz o v) → H a = some u → ¬ Own S a := fun {u} hu e z => by
    obtain ⟨p, n, en, h⟩ := z
    have A := T.at_ p n en
    obtain ⟨kvs, h3, _⟩ := A.dic
    rcases hu with ⟨vs, rfl⟩ | ⟨o, v, rfl⟩ <;> rcases h with rfl | rfl | rfl
    · rw [A.ins] at e; cases e
    · rw [A.row] at e; cases e
    · rw [h3] at e; cases e
    · rw [A.ins] at e; cases e
    · rw [A.row] at e; cases e
    · rw [h3] at e; cases e
  rcases h with (h | ⟨o, h⟩) | h
  · exact .inl (.inl (c.keep (no (.inl ⟨_, rfl⟩) h) h))
  · exact .inl (.inr ⟨o, c.keep (no (.inr ⟨_, _, rfl⟩) h) h⟩)
  · exact .inr h
theorem row_len {S : Sh} (O : ShOk S) {p : List Str} {n : Nd} (e : S.N p = some n) : ∀ z ∈ S.R p, (tl z).length ≤ 200 := fun z hz => O.key p z ((O.row p n e z).mp hz)
theorem ok_made (T : Txt K mg cs) (C_how_many_ahead : Cal P w K mg base 5 "_how_many_ahead" ["row", "key"] (spHow K cs.p_is_number_text)) (CTree : CalC P w K mg base 1 "Tree" cs.a_Tree ["self"] [] (spTree cs.a_Tree)) : CalM P w K mg base 6 cs.a_Tree "_made" ["self", "path"] (spMade K cs.a_Tree cs.p_is_number_text) := by
  refine T.f_Tree__made.cal scTreeMade (fun vs H Q E h => ?_) (fun f cdv A outer s H vs Q E hr h => ?_)
  · obtain ⟨_, _, _, _, _, rfl, _⟩ := h
    rfl
  obtain ⟨S, m, n, pt, ks, rfl, TH, O, hn, hp, hl, hk, hm, hT, q⟩ := h
  refine ⟨_, (pss_cons (ps_set (i := 2) scTreeMade.nd rfl (by first | exact Or.inl rfl | exact Or.inr rfl) (pv 0))
    (pss_cons (ps_for PassesOwn.never rfl (pi_tup (pv 1)) (pg_name (i := 3) scTreeMade.nd rfl (by first | exact Or.inl rfl | exact Or.inr rfl))
      (pss_cons (ps_if (pt_cmpR (dninK hr.units) (pv 3) (pe_fldK (K := K) (pv 2)) rfl) (pss_cons (ps_expr (pe_bmK (K := K) PySem.F.plainAttrs_list PySem.F.slot_list_insert PySem.F.type_list_insert mt_insert (pe_fldK (K := K) (pv 2)) (pa_cons (pe_cal C_how_many_ahead (hr.mono (by first | decide | omega)) (pa_cons (pe_fldK (K := K) (pv 2)) (pa_cons (pv 3) pa_nil))) (pa_cons (pv 3) pa_nil))))
            (pss_one (ps_dput (Nat.lt_trans (Nat.add_lt_add_left (show 1 < 64 by decide) _) hr.units) (pe_fldK (K := K) (pv 2)) (pv 3) (pe_calC0 CTree (hr.mono (by first | decide | omega))) rfl))) pss_nil)
        (pss_one (ps_set (i := 2) scTreeMade.nd rfl (by first | exact Or.inl rfl | exact Or.inr rfl) (pe_dget (Nat.lt_trans (Nat.add_lt_add_left (show 1 < 64 by decide) _) hr.units) (pe_fldK (K := K) (pv 2)) (pv 3) (fun _ _ => rfl))))))
    (pss_one (ps_ret (pv 2))))), ?_⟩
  refine run_set ⟨_, rfl, ?_⟩
  refine run_for ?_
  refine ⟨_, rfl, pt, rfl, ⟨_, hp⟩, for_it (walk_tup (K := K) (a := pt) (xs := ks.map V.str)) (fun i σ H' => ∃ (S' : Sh) (x : Nd) (y : Option V), Grown S S' (ks.take i) ∧ TreeH cs.a_Tree H' S' (m + i) ∧ ShOk S' ∧ S'.N (ks.take i) = some x ∧ Went S S' H H' ∧ σ = [some (.ref n.a), some (.ref pt), some (.ref x.a), y])
    ⟨S, n, none, Grown.refl _ _, TH, O, hn, Went.refl _ _, rfl⟩ (fun i σ H' _ h => ?_) (fun i v σ H' H'' hi h y => ?_) (fun σ H' h => ?_)⟩
  · obtain ⟨_, _, _, _, _, _, _, g, _⟩ := h
    exact sqT_ch TH g.ch hp
  · obtain ⟨S1, x, u, G1, T1, O1, hx, W1, rfl⟩ := h
    obtain ⟨rfl, hv⟩ := y
    rw [List.length_map] at hi
    rw [List.getElem?_map, List.getElem?_eq_getElem hi] at hv
    cases hv
    have tk : ks.take (i + 1) = ks.take i ++ [ks[i]] := by rw [List.take_succ_eq_append_getElem hi]
    have A1 := T1.at_ _ _ hx
    obtain ⟨kvs, h1, h2, h3⟩ := A1.dic
    have g := DGet.k (k := Sum.inr ks[i]) h1
    have hki := hk _ (List.getElem_mem hi)
    rw [show valV kvs (Sum.inr ks[i]) = _ from h2 ks[i], ← tk] at g
    refine run_if ⟨_, rfl, _, rfl, x.a, _, _, _, _, rfl, A1.ins, T.cl_Tree, T.no_Tree_beneath, rfl, x.d, _, rfl, g, _, rfl, ?_⟩
    cases e : S1.N (ks.take (i + 1)) with
    | none =>
      show if (true != ((none : Option Nd).map fun n => V.ref n.a).isSome) = true then _ else _
      refine iteT ?_
      dsimp only [tSeq, tDrop]
      refine ⟨_, rfl, x.a, _, _, _, _, rfl, A1.ins, T.cl_Tree, T.no_Tree_row, rfl, .inl ⟨rfl, _, SqL.of A1.row⟩, ?_⟩
      have len : i ≤ 6 := by omega
      refine ⟨_, rfl, x.a, _, _, _, _, rfl, A1.ins, T.cl_Tree, T.no_Tree_row, rfl, _, rfl, x.r, S1.R (ks.take i), ks[i], rfl, SqL.of A1.row, O1.srt _ _ hx, row_len O1 hx, hki, Nat.le_trans A1.rl (by omega), W1.ch.tab _ hT, fun H1 Sa => ?_⟩
      have A1a := (T1.sm Sa).at_ _ _ hx
      refine ⟨_, rfl, x.r, _, _, _, rfl, rfl, A1a.row, ?_, by omega, ?_, ?_⟩
      · rw [List.length_map]
        exact small' (Nat.lt_of_le_of_lt A1.rl (by omega))
      · have := pos_le (S1.R (ks.take i)) ks[i]
        have := A1.rl
        omega
      have en : ((posOf (S1.R (ks.take i)) ks[i] : Nat) : Int).toNat = posOf (S1.R (ks.take i)) ks[i] := Int.toNat_natCast _
      rw [en]
      intro x2 dx hx2 hdx ne
      refine ⟨x2, dx, rfl, upd_same, fun r d H2 hr2 hd2 M2 i2 r2 d2 => ⟨rfl, ?_⟩⟩
      have TS := T1.sm Sa
      have S2 := Made.new hx2 hdx ne M2
      have free : ∀ {b : Addr}, upd (upd (upd H1 x.r (.lst (((S1.R (ks.take i)).map V.str).take (posOf (S1.R (ks.take i)) ks[i]) ++ [.str ks[i]] ++ ((S1.R (ks.take i)).map V.str).drop (posOf (S1.R (ks.take i)) ks[i])))) dx (.own x2)) x2 (.ins cs.a_Tree dx []) b = none → upd H1 x.r (.lst (((S1.R (ks.take i)).map V.str).take (posOf (S1.R (ks.take i)) ks[i]) ++ [.str ks[i]] ++ ((S1.R (ks.take i)).map V.str).drop (posOf (S1.R (ks.take i)) ks[i]))) b = none := fun {b} hb => by
        by_cases e1 : b = x2
        · rw [e1, upd_same] at hb
          cases hb
        · rw [upd_ne e1] at hb
          by_cases e2 : b = dx
          · rw [e2, upd_same] at hb
            cases hb
          · rw [upd_ne e2] at hb
            exact hb
      have hr3 := free hr2
      have hd3 := free hd2
      have ex : H2 x.a = some (.ins cs.a_Tree x.dx (ndFs S1 (ks.take i) x)) := S2 _ _ (by rw [upd_ne (TS.a_r hx hx)]; exact A1a.ins)
      have exd : H2 x.d = some (.dK kvs) := S2 _ _ (by rw [upd_ne (Ne.symm (TS.r_d hx hx))]; exact Sa _ _ h1)
      have X : NewNd cs.a_Tree _ H2 ⟨x2, dx, r, d⟩ := ⟨i2, r2, d2, hx2, hr3, hd3⟩
      rw [tk] at e
      have TA := TS.add hx O1 e rfl S2 X (Sa _ _ h1)
      have OA := O1.add hx e (by rw [List.length_take]; omega) hki ⟨x2, dx, r, d⟩ (pos_take (S1.R (ks.take i)) ks[i]) (pos_drop (O1.srt _ _ hx) fun z => by
        have := (O1.row _ _ hx _).mp z
        rw [e] at this
        cases this)
      have GA := G1.add hx e (posOf (S1.R (ks.take i)) ks[i]) ⟨x2, dx, r, d⟩
      refine ⟨_, rfl, x.a, _, _, _, _, rfl, ex, T.cl_Tree, T.no_Tree_beneath, rfl, _, rfl, x.d, _, rfl, DPut.k (k := Sum.inr ks[i]) exd (small' (Nat.lt_of_le_of_lt h3 (by omega))), ?_⟩
      generalize hHe : upd H2 x.d (.dK (putK kvs (.inr ks[i]) (.ref x2))) = He at TA ⊢
      have AA := TA.at_ _ _ (show (S1.add (ks.take i) ks[i] (posOf (S1.R (ks.take i)) ks[i]) ⟨x2, dx, r, d⟩).N (ks.take i) = some x from by
        show (if ks.take i = ks.take i ++ [ks[i]] then _ else _) = _
        rw [if_neg (Ne.symm snoc_ne)]
        exact hx)
      obtain ⟨kv2, g1, g2, _⟩ := AA.dic
      have gg := DGet.k (k := Sum.inr ks[i]) g1
      have nk : (S1.add (ks.take i) ks[i] (posOf (S1.R (ks.take i)) ks[i]) ⟨x2, dx, r, d⟩).N (ks.take i ++ [ks[i]]) = some ⟨x2, dx, r, d⟩ := if_pos rfl
      rw [show valV kv2 (Sum.inr ks[i]) = _ from g2 ks[i], nk] at gg
      refine ⟨_, rfl, x.a, _, _, _, _, rfl, AA.ins, T.cl_Tree, T.no_Tree_beneath, rfl, _, rfl, x.d, _, rfl, gg, _, _, _, by rw [tk]; exact GA, TA, OA, by rw [tk]; exact nk, ?_, rfl⟩
      refine W1.trans ⟨?_, fun a ha => ?_⟩
      · refine (Ch.sm Sa).trans ((Ch.upd (own_r hx) A1a.row rfl).trans ((Ch.sm S2).trans ?_))
        rw [← hHe]
        exact Ch.upd (own_d hx) exd rfl
      · rcases Own.add ha with h | rfl | rfl | rfl
        · exact .inl h
        · refine .inr (Sa.gone _ ?_)
          rw [upd_ne fun z => by rw [z, upd_same] at hx2; cases hx2] at hx2
          exact hx2
        · refine .inr (Sa.gone _ ?_)
          rw [upd_ne fun z => by rw [z, upd_same] at hr3; cases hr3] at hr3
          exact hr3
        · refine .inr (Sa.gone _ ?_)
          rw [upd_ne fun z => by rw [z, upd_same] at hd3; cases hd3] at hd3
          exact hd3
    | some z =>
      show if (true != ((some z).map fun n => V.ref n.a).isSome) = true then _ else _
      refine iteF ?_
      rw [e] at g
      refine ⟨_, rfl, x.a, _, _, _, _, rfl, A1.ins, T.cl_Tree, T.no_Tree_beneath, rfl, _, rfl, x.d, _, rfl, g, S1, z, _, ?_, T1.mono (by omega), O1, e, W1, rfl⟩
      rw [tk]
      exact G1.longer
  · obtain ⟨S1, x, u, G1, T1, O1, hx, W1, rfl⟩ := h
    rw [List.length_map] at T1
    rw [List.length_map, List.take_length] at hx G1
    dsimp only
    refine run_ret ?_
    exact ⟨_, rfl, q S1 x H' G1 T1 O1 hx W1⟩
end
/-! ### trees: a worth planted, a place cut away -/
def spPlant (K : PySem.W.Frag) (C p : Addr) : Sp := fun vs H Q _ => ∃ (S : Sh) (m : Nat) (n : Nd) (pt : Addr) (ks : List Str) (z : Str), vs = [.ref n.a, .ref pt, .str z] ∧ TreeH C H S m ∧ ShOk S ∧ Full S ∧ S.N [] = some n ∧ SqT K H pt (ks.map V.str) ∧ ks.length ≤ 7 ∧ (∀ k ∈ ks, (tl k).length ≤ 200) ∧ m ≤ 90000 ∧ Tb H p ∧
  ∀ (S' : Sh) (H' : Hp), (∀ q, S'.W q = if q = ks then some z else S.W q) → TreeH C H' S' (m + ks.length) → ShOk S' → Full S' → S'.N [] = some n → Went S S' H H' → Q .non H'
theorem Grown.full {S S' : Sh} {ks : List Str} (G : Grown S S' ks) (F : Full S) (O' : ShOk S') {x : Nd} (hx : S'.N ks = some x) (z : Str) : Full (S'.setW ks (some z)) := by
  intro p k h
  have h' : (S'.N (p ++ [k])).isSome = true := h
  show (if p ++ [k] = ks then some z else S'.W (p ++ [k])) ≠ none ∨ S'.R (p ++ [k]) ≠ []
  by_cases e : p ++ [k] = ks
  · rw [if_pos e]
    exact .inl fun z => by cases z
  · rw [if_neg e]
    rcases G.new _ h' with o | o
    · rw [G.W]
      exact (F p k o).imp id (G.row _ o)
    · obtain ⟨r, er⟩ := pre_of o
      cases r with
      | nil =>
        rw [List.append_nil] at er
        exact absurd er.symm e
      | cons j r =>
        obtain ⟨y, hy⟩ := Option.isSome_iff_exists.mp h'
        refine .inr fun z => ?_
        have up := O'.up r (p ++ [k] ++ [j]) (by
          rw [List.append_assoc (p ++ [k]), List.singleton_append, ← er, hx]
          rfl)
        have := (O'.row _ _ hy j).mpr up
        rw [z] at this
        cases this
section
variable {P : Program} {w : World} {K : PySem.W.Frag} {mg : Str → Option Value} {base : Heap} {cs : Tabs}
theorem ok_plant (T : Txt K mg cs) (CTree__made : CalM P w K mg base 6 cs.a_Tree "_made" ["self", "path"] (spMade K cs.a_Tree cs.p_is_number_text)) : CalM P w K mg base 7 cs.a_Tree "plant" ["self", "path", "worth"] (spPlant K cs.a_Tree cs.p_is_number_text) := by
  refine T.f_Tree_plant.cal scTreePlant (fun vs H Q E h => ?_) (fun f cdv A outer s H vs Q E hr h => ?_)
  · obtain ⟨_, _, _, _, _, _, rfl, _⟩ := h
    rfl
  obtain ⟨S, m, n, pt, ks, z, rfl, TH, O, F, hn, hp, hl, hk, hm, hT, q⟩ := h
  refine ⟨_, (pss_cons (ps_set (i := 3) scTreePlant.nd rfl (by first | exact Or.inl rfl | exact Or.inr rfl) (pe_calM CTree__made T.cl_Tree (hr.mono (by first | decide | omega)) (pv 0) (pa_cons (pv 1) pa_nil)))
    (pss_one (ps_fld (pv 3) (pv 2) rfl))), ?_⟩
  have A := TH.at_ _ _ hn
  refine run_set ⟨_, rfl, n.a, n.dx, _, rfl, A.ins, rfl, _, rfl, S, m, n, pt, ks, rfl, TH, O, hn, hp, hl, hk, hm, hT, fun S' x H' G T' O' hx W => ?_⟩
  have A' := T'.at_ _ _ hx
  refine ⟨_, rfl, _, rfl, x.a, _, _, _, rfl, A'.ins, T.cl_Tree, T.no_Tree_worth, (by show 3 < 1000; decide), ?_⟩
  have e : putF "worth" (V.str z) (ndFs S' ks x) = ([("worth", wV (some z)), ("row", .ref x.r), ("beneath", .ref x.d)] : List (Str × V)) := by
    show (if ("worth" : Str) = "worth" then _ else _) = _
    rw [if_pos rfl]
    rfl
  rw [e]
  refine q (S'.setW ks (some z)) _ (fun q => ?_) (T'.setW hx (some z)) (O'.setW hx _) (G.full F O' hx z) (G.old _ _ hn) (W.trans ⟨Ch.upd (own_a hx) A'.ins rfl, fun a h => .inl h⟩)
  show (if q = ks then some z else S'.W q) = _
  rw [G.W]
/-! #### cut -/
def spCut (K : PySem.W.Frag) (C : Addr) : Sp := fun vs H Q _ => ∃ (S : Sh) (m : Nat) (n : Nd) (pt : Addr) (ks : List Str), vs = [.ref n.a, .ref pt] ∧ TreeH C H S m ∧ ShOk S ∧ Full S ∧ S.N [] = some n ∧ SqT K H pt (ks.map V.str) ∧ ks ≠ [] ∧ ks.length ≤ 1000 ∧ m ≤ 90000 ∧ (S.N ks).isSome = true ∧
  ∀ (S' : Sh) (H' : Hp), (∀ q, S'.W q = if ks.isPrefixOf q = true then none else S.W q) → TreeH C H' S' m → ShOk S' → Full S' → S'.N [] = some n → Went S S' H H' → (∀ r x, S.N (ks ++ r) = some x → NdAt C H' S m (ks ++ r) x) → (∀ q x, S'.N q = some x → S.N q = some x) → Q .non H'
/-- what stands between the turns: the place at ks.take j is the next to go -/
structure CutI (C : Addr) (H0 : Hp) (S : Sh) (m : Nat) (n : Nd) (ks : List Str) (j : Nat) (S' : Sh) (H' : Hp) : Prop where
  th : TreeH C H' S' m
  ok : ShOk S'
  top : S'.N [] = some n
  went : Went S S' H0 H'
  sub : ∀ q x, S'.N q = some x → S.N q = some x
  gone : ∀ r x, S.N (ks ++ r) = some x → NdAt C H' S m (ks ++ r) x
  there : (S'.N (ks.take j)).isSome = true
  full : ∀ p k, (S'.N (p ++ [k])).isSome = true → (j < ks.length → p ++ [k] ≠ ks.take j) → S'.W (p ++ [k]) ≠ none ∨ S'.R (p ++ [k]) ≠ []
  W : j < ks.length → ∀ q, S'.W q = if ks.isPrefixOf q = true then none else S.W q
  bare : j < ks.length → S'.W (ks.take j) = none ∧ S'.R (ks.take j) = []
  start : j = ks.length → S' = S
theorem Went.cut {S S' : Sh} {H H' : Hp} {p : List Str} {k : Str} (c : Ch (Own S) H H') (i : ∀ q x, (S'.cut p k).N q = some x → S.N q = some x) : Went S (S'.cut p k) H H' := ⟨c, fun a h => by
  obtain ⟨q, x, e, h⟩ := h
  exact .inl ⟨q, x, i q x e, h⟩⟩
theorem cut_sub {S : Sh} {p : List Str} {k : Str} {q : List Str} {x : Nd} (h : (S.cut p k).N q = some x) : S.N q = some x ∧ ¬ (p ++ [k]).isPrefixOf q = true := by
  have h' : (if (p ++ [k]).isPrefixOf q = true then none else S.N q) = some x := h
  by_cases z : (p ++ [k]).isPrefixOf q = true
  · rw [if_pos z] at h'
    cases h'
  · rw [if_neg z] at h'
    exact ⟨h', z⟩
/-- one turn -/
theorem CutI.turn {C : Addr} {H0 : Hp} {S : Sh} {m : Nat} {n : Nd} {ks : List Str} {j : Nat} {S' : Sh} {H1 : Hp} (hj : j < ks.length) (I : CutI C H0 S m n ks (j + 1) S' H1) (T0 : TreeH C H0 S m) {x : Nd} (hx : S'.N (ks.take j) = some x) {kvs : List (Key × V)} (hd : H1 x.d = some (.dK kvs)) {H2 : Hp}
    (e2 : H2 = upd (upd H1 x.r (.lst (((S'.R (ks.take j)).erase ks[j]).map V.str))) x.d (.dK (dropK kvs (.inr ks[j])))) :
    (∀ q, (S'.cut (ks.take j) ks[j]).W q = if ks.isPrefixOf q = true then none else S.W q) ∧ TreeH C H2 (S'.cut (ks.take j) ks[j]) m ∧ ShOk (S'.cut (ks.take j) ks[j]) ∧ (S'.cut (ks.take j) ks[j]).N [] = some n ∧ (S'.cut (ks.take j) ks[j]).N (ks.take j) = some x ∧
    Went S (S'.cut (ks.take j) ks[j]) H0 H2 ∧ (∀ r y, S.N (ks ++ r) = some y → NdAt C H2 S m (ks ++ r) y) ∧ (∀ q y, (S'.cut (ks.take j) ks[j]).N q = some y → S.N q = some y) ∧
    (∀ p k, ((S'.cut (ks.take j) ks[j]).N (p ++ [k])).isSome = true → p ++ [k] ≠ ks.take j → (S'.cut (ks.take j) ks[j]).W (p ++ [k]) ≠ none ∨ (S'.cut (ks.take j) ks[j]).R (p ++ [k]) ≠ []) := by
  have tk : ks.take j ++ [ks[j]] = ks.take (j + 1) := (List.take_succ_eq_append_getElem hj).symm
  have sub : ∀ q y, (S'.cut (ks.take j) ks[j]).N q = some y → S.N q = some y := fun q y h => I.sub q y (cut_sub h).1
  have hxS := I.sub _ _ hx
  have A := I.th.at_ _ _ hx
  have topn : ¬ (ks.take j ++ [ks[j]]).isPrefixOf [] = true := fun z => by
    obtain ⟨r, e⟩ := pre_of z
    have := congrArg List.length e
    simp at this
    omega
  have self : (S'.cut (ks.take j) ks[j]).N (ks.take j) = some x := by
    show (if (ks.take j ++ [ks[j]]).isPrefixOf (ks.take j) = true then none else S'.N (ks.take j)) = some x
    rw [if_neg pre_not]
    exact hx
  have ch : Ch (Own S) H1 H2 := by
    rw [e2]
    exact (Ch.upd (own_r hxS) A.row rfl).trans (Ch.upd (own_d hxS) (by rw [upd_ne (Ne.symm (I.th.r_d hx hx))]; exact hd) rfl)
  refine ⟨fun q => ?_, by rw [e2]; exact I.th.cut hx I.ok ks[j] hd, I.ok.cut hx _, ?_, self, Went.cut (I.went.ch.trans ch) sub, fun r y hy => ?_, sub, fun p k hs ne => ?_⟩
  · show (if (ks.take j ++ [ks[j]]).isPrefixOf q = true then none else S'.W q) = _
    rw [tk]
    rcases Nat.lt_or_ge (j + 1) ks.length with hlt | hge
    · rw [I.W hlt q]
      by_cases z : (ks.take (j + 1)).isPrefixOf q = true
      · rw [if_pos z]
        obtain ⟨r, rfl⟩ := pre_of z
        have none' : S'.W (ks.take (j + 1) ++ r) = none := by
          cases r with
          | nil =>
            rw [List.append_nil]
            exact (I.bare hlt).1
          | cons k r =>
            refine I.ok.out _ ?_
            cases e : S'.N (ks.take (j + 1) ++ k :: r) with
            | none => rfl
            | some y =>
              have up := I.ok.up r (ks.take (j + 1) ++ [k]) (by rw [List.append_assoc, List.singleton_append, e]; rfl)
              obtain ⟨y', hy'⟩ := Option.isSome_iff_exists.mp I.there
              have := (I.ok.row _ _ hy' k).mpr up
              rw [(I.bare hlt).2] at this
              cases this
        rw [I.W hlt] at none'
        exact none'.symm
      · rw [if_neg z]
    · have ej : j + 1 = ks.length := by omega
      rw [I.start ej, ej, List.take_length]
  · show (if (ks.take j ++ [ks[j]]).isPrefixOf [] = true then none else S'.N []) = _
    rw [if_neg topn]
    exact I.top
  · have B := I.gone r y hy
    obtain ⟨kv, g1, g2⟩ := B.dic
    have nej : ks ++ r ≠ ks.take j := fun z => by
      have := congrArg List.length z
      rw [List.length_append, List.length_take] at this
      omega
    have n1 : y.a ≠ x.r := T0.a_r hy hxS
    have n2 : y.a ≠ x.d := T0.a_d hy hxS
    have n3 : y.r ≠ x.d := T0.r_d hy hxS
    have n4 : y.r ≠ x.r := fun z => nej (T0.ir _ _ _ _ hy hxS z)
    have n5 : y.d ≠ x.d := fun z => nej (T0.id _ _ _ _ hy hxS z)
    have n6 : y.d ≠ x.r := Ne.symm (T0.r_d hxS hy)
    refine ⟨?_, ?_, ⟨kv, ?_, g2⟩, B.rl⟩
    · rw [e2, upd_ne n2, upd_ne n1]
      exact B.ins
    · rw [e2, upd_ne n3, upd_ne n4]
      exact B.row
    · rw [e2, upd_ne n5, upd_ne n6]
      exact g1
  · obtain ⟨y, hy⟩ := Option.isSome_iff_exists.mp hs
    obtain ⟨h1, h2⟩ := cut_sub hy
    rw [tk] at h2
    have f := I.full p k (by rw [h1]; rfl) fun _ z => h2 (by rw [z]; exact pre_self _)
    refine f.imp (fun a => ?_) fun a => ?_
    · show (if (ks.take j ++ [ks[j]]).isPrefixOf (p ++ [k]) = true then none else S'.W (p ++ [k])) ≠ none
      rw [tk, if_neg h2]
      exact a
    · show (if p ++ [k] = ks.take j then (S'.R (ks.take j)).erase ks[j] else S'.R (p ++ [k])) ≠ []
      rw [if_neg ne]
      exact a
theorem ok_cut (T : Txt K mg cs) (CTree_at : CalM P w K mg base 1 cs.a_Tree "at" ["self", "path"] (spAt K cs.a_Tree)) : CalM P w K mg base 2 cs.a_Tree "cut" ["self", "path"] (spCut K cs.a_Tree) := by
  refine T.f_Tree_cut.cal scTreeCut (fun vs H Q E h => ?_) (fun f cdv A outer s H vs Q E hr h => ?_)
  · obtain ⟨_, _, _, _, _, rfl, _⟩ := h
    rfl
  obtain ⟨S, m, n, pt, ks, rfl, TH, O, F, hn, hp, hne, hl, hm, hks, q⟩ := h
  refine ⟨_, (pss_one (ps_for PassesOwn.never rfl (pi_range3 rfl T.n_range (pa_cons (pe_op op_sub (pe_callB (lenQ K) rfl T.n_len (by decide +kernel) (pa_cons (pv 1) pa_nil)) pe_int) (pa_cons (pe_un un_neg pe_int) (pa_cons (pe_un un_neg pe_int) pa_nil)))) (pg_name (i := 2) scTreeCut.nd rfl (by first | exact Or.inl rfl | exact Or.inr rfl))
      (pss_cons (ps_set (i := 3) scTreeCut.nd rfl (by first | exact Or.inl rfl | exact Or.inr rfl) (pe_calM CTree_at T.cl_Tree (hr.mono (by first | decide | omega)) (pv 0) (pa_cons (pe_slice (slT K) (pv 1) po_none (po_some (pv 2))) pa_nil)))
        (pss_cons (ps_expr (pe_bmK (K := K) PySem.F.plainAttrs_list PySem.F.slot_list_remove PySem.F.type_list_remove removeS (pe_fldK (K := K) (pv 3)) (pa_cons (pe_ix (ixT K) (pv 1) (pv 2) (fun _ _ => rfl)) pa_nil)))
        (pss_cons (ps_ddel (pe_fldK (K := K) (pv 3)) (pe_ix (ixT K) (pv 1) (pv 2) (fun _ _ => rfl)))
        (pss_one (ps_if (PW.pt (pw_or (pt_cmpR op_notN (pe_fldK (K := K) (pv 3)) pe_non (nomark _)) (pw_or1 (pt_truth (pe_fldK (K := K) (pv 3)) (by intro _; rfl))))) (pss_one ps_retN) pss_nil))))))), ?_⟩
  have pos : 0 < ks.length := List.length_pos_iff.mpr hne
  refine ⟨_, rfl, pt, _, rfl, .inr hp, _, 1, rfl, rfl, _, rfl, _, rfl, _, _, _, ks.length, rfl, ?_, ?_⟩
  · rw [List.length_map]
    have := RgC.neg (i := (ks.length : Int) - 1) (j := -1) (by omega) (by omega) (by omega) (by omega)
    have e : (((ks.length : Int) - 1) - -1).toNat = ks.length := by omega
    rw [e] at this
    exact this
  rw [List.length_map]
  refine for_rangeC (fun i σ H' => ∃ (S' : Sh) (x2 x3 : Option V), CutI cs.a_Tree H S m n ks (ks.length - i) S' H' ∧ σ = [some (.ref n.a), some (.ref pt), x2, x3]) ⟨S, none, none, ?_, rfl⟩ (fun i σ H' hi h => ?_) (fun σ H' h => ?_)
  · refine ⟨TH, O, hn, Went.refl _ _, fun _ _ h => h, fun r x h => TH.at_ _ _ h, ?_, fun p k h _ => F p k h, fun h => absurd h (by omega), fun h => absurd h (by omega), fun _ => rfl⟩
    rw [Nat.sub_zero, List.take_length]
    exact hks
  · obtain ⟨S', x2, x3, I, rfl⟩ := h
    have ej : (ks.length : Int) - 1 + (i : Int) * (-1) = ((ks.length - 1 - i : Nat) : Int) := by omega
    rw [ej]
    have e1 : ks.length - i = ks.length - 1 - i + 1 := by omega
    rw [e1] at I
    have hj : ks.length - 1 - i < ks.length := by omega
    have e3 : ks.length - (i + 1) = ks.length - 1 - i := by omega
    rw [e3]
    generalize ks.length - 1 - i = j at I hj ⊢
    have hp' := sqT_ch TH I.went.ch hp
    have tk : ks.take j ++ [ks[j]] = ks.take (j + 1) := (List.take_succ_eq_append_getElem hj).symm
    obtain ⟨x, hx⟩ := Option.isSome_iff_exists.mp (I.ok.pre (ks.take j) ks[j] (by rw [tk]; exact I.there))
    have At := I.th.at_ _ _ I.top
    have hin : ks[j] ∈ S'.R (ks.take j) := (I.ok.row _ _ hx _).mpr (by rw [tk]; exact I.there)
    dsimp only [gName]
    refine run_set ⟨_, rfl, n.a, n.dx, _, rfl, At.ins, rfl, _, rfl, _, rfl, (j : Int), rfl, slice_take hp' fun pq H1 S1 hq => ?_⟩
    refine ⟨S', m, n, pq, ks.take j, rfl, I.th.sm S1, I.ok, I.top, by rw [List.map_take]; exact hq, by rw [List.length_take]; omega, ?_⟩
    rw [hx]
    have T1 := I.th.sm S1
    have A1 := T1.at_ _ _ hx
    obtain ⟨kvs, g1, g2, g3⟩ := A1.dic
    have hp1 := Sm.seqT S1 hp'
    have kj : atI (ks.map V.str) ((j : Nat) : Int) = some (.str ks[j]) := atI_nat (by rw [List.getElem?_map, List.getElem?_eq_getElem hj]; rfl)
    dsimp only [tSeq, tDrop]
    refine ⟨_, rfl, x.a, _, _, _, _, rfl, A1.ins, T.cl_Tree, T.no_Tree_row, rfl, .inl ⟨rfl, _, SqL.of A1.row⟩, _, rfl, _, rfl, pt, _, _, _, rfl, rfl, hp1, kj, x.r, S'.R (ks.take j), ks[j], rfl, rfl, A1.row, hin, ?_⟩
    have er : (upd H1 x.r (.lst (((S'.R (ks.take j)).erase ks[j]).map V.str))) x.a = some (.ins cs.a_Tree x.dx (ndFs S' (ks.take j) x)) := by
      rw [upd_ne (T1.a_r hx hx)]
      exact A1.ins
    have ed : (upd H1 x.r (.lst (((S'.R (ks.take j)).erase ks[j]).map V.str))) x.d = some (.dK kvs) := by
      rw [upd_ne (Ne.symm (T1.r_d hx hx))]
      exact g1
    have hp2 : SqT K (upd H1 x.r (.lst (((S'.R (ks.take j)).erase ks[j]).map V.str))) pt (ks.map V.str) := SqT.upd hp1 A1.row
    refine ⟨_, rfl, x.a, _, _, _, _, rfl, er, T.cl_Tree, T.no_Tree_beneath, rfl, _, rfl, _, rfl, pt, _, _, _, rfl, rfl, hp2, kj, x.d, kvs, .inr ks[j], rfl, ed, rfl, ?_, ?_⟩
    · rw [g2, tk]
      obtain ⟨y, hy⟩ := Option.isSome_iff_exists.mp I.there
      rw [hy]
      rfl
    have I1 : CutI cs.a_Tree H S m n ks (j + 1) S' H1 := ⟨T1, I.ok, I.top, I.went.trans (Went.sm S1), I.sub, fun r y hy => ?_, I.there, I.full, I.W, I.bare, I.start⟩
    · obtain ⟨Wq, T2, O2, top2, self2, went2, gone2, sub2, full2⟩ := I1.turn hj TH hx g1 rfl
      generalize upd (upd H1 x.r (.lst (((S'.R (ks.take j)).erase ks[j]).map V.str))) x.d (.dK (dropK kvs (.inr ks[j]))) = H2 at *
      generalize hS2 : S'.cut (ks.take j) ks[j] = S2 at *
      have A2 := T2.at_ _ _ self2
      have fin : (S2.W (ks.take j) ≠ none ∨ S2.R (ks.take j) ≠ []) → Full S2 := fun h p k hs => by
        by_cases e : p ++ [k] = ks.take j
        · rw [e]
          exact h
        · exact full2 p k hs e
      have wv : ∀ b : Bool, (wV (S2.W (ks.take j)) = .non ↔ S2.W (ks.take j) = none) := fun _ => by
        cases S2.W (ks.take j) with
        | none => exact ⟨fun _ => rfl, fun _ => rfl⟩
        | some z => exact ⟨fun h => (nomatch h), fun h => (nomatch h)⟩
      dsimp only
      refine run_ifE ?_
      refine ⟨_, rfl, x.a, _, _, _, _, rfl, A2.ins, T.cl_Tree, T.no_Tree_worth, rfl, rfl, _, rfl, ?_⟩
      have done : S2.W (ks.take j) ≠ none ∨ S2.R (ks.take j) ≠ [] → Q .non H2 := fun h => q S2 H2 Wq T2 O2 (fin h) top2 went2 gone2 sub2
      refine ite2 (fun c => ?_) (fun c => ?_)
      · refine iteT (done (.inl fun z => ?_))
        rw [z] at c
        cases c
      · have c1 : S2.W (ks.take j) = none := by
          cases e : S2.W (ks.take j) with
          | none => rfl
          | some z =>
            rw [e] at c
            exact absurd rfl c
        refine ⟨_, rfl, x.a, _, _, _, _, rfl, A2.ins, T.cl_Tree, T.no_Tree_row, rfl, _, .inl ⟨_, SqL.of A2.row, rfl⟩, ?_⟩
        cases e : S2.R (ks.take j) with
        | cons z r =>
          refine iteT (done (.inr ?_))
          rw [e]
          exact List.cons_ne_nil _ _
        | nil =>
          refine iteF ?_
          exact ⟨S2, _, _, ⟨T2, O2, top2, went2, sub2, gone2, by rw [self2]; rfl, fun p k hs ne => full2 p k hs (ne hj), fun _ => Wq, fun _ => ⟨c1, e⟩, fun z => absurd z (by omega)⟩, rfl⟩
    · have B := I.gone r y hy
      obtain ⟨kv, b1, b2⟩ := B.dic
      exact ⟨S1 _ _ B.ins, S1 _ _ B.row, ⟨kv, S1 _ _ b1, b2⟩, B.rl⟩
  · obtain ⟨S', x2, x3, I, rfl⟩ := h
    rw [Nat.sub_self] at I
    refine q S' H' (I.W pos) I.th I.ok (fun p k hs => I.full p k hs fun _ z => ?_) I.top I.went I.gone I.sub
    rw [List.take_zero] at z
    exact snoc_nil z
end
/-! ### trees walked -/
def ownW : Option Str → List (List Str × Str)
  | some z => [([], z)]
  | none => []
def walkF : Nat → Sh → List Str → List (List Str × Str)
  | 0, _, _ => []
  | f + 1, S, p => ownW (S.W p) ++ (S.R p).flatMap fun k => (walkF f S (p ++ [k])).map fun x => (k :: x.1, x.2)
/-- the part of a tree from a place on -/
def Sh.sub (S : Sh) (p : List Str) : Sh := ⟨fun q => S.N (p ++ q), fun q => S.W (p ++ q), fun q => S.R (p ++ q)⟩
theorem sub_N {S : Sh} {p q : List Str} : (S.sub p).N q = S.N (p ++ q) := rfl
theorem walk_sub (S : Sh) (p : List Str) : ∀ (f : Nat) (q : List Str), walkF f (S.sub p) q = walkF f S (p ++ q)
  | 0, _ => rfl
  | f + 1, q => by
    have e : ∀ k, walkF f (S.sub p) (q ++ [k]) = walkF f S (p ++ q ++ [k]) := fun k => by rw [walk_sub S p f (q ++ [k]), List.append_assoc]
    unfold walkF
    simp only [e]
    rfl
theorem ShOk.sub {S : Sh} (O : ShOk S) {p : List Str} (h : (S.N p).isSome = true) : ShOk (S.sub p) := by
  obtain ⟨n, hn⟩ := Option.isSome_iff_exists.mp h
  refine ⟨⟨n, by rw [sub_N, List.append_nil]; exact hn⟩, fun q x e k => ?_, fun q x e => O.srt _ x e, fun q k hs => O.pre (p ++ q) k ?_, fun q e => O.out _ e, fun q k hs => O.key (p ++ q) k ?_, fun q hs => ?_⟩
  · show k ∈ S.R (p ++ q) ↔ (S.N (p ++ (q ++ [k]))).isSome = true
    rw [← List.append_assoc]
    exact O.row _ x e k
  · rw [List.append_assoc]
    exact hs
  · rw [List.append_assoc]
    exact hs
  · have := O.deep _ hs
    rw [List.length_append] at this
    omega
theorem TreeH.sub {C : Addr} {H H' : Hp} {S : Sh} {m : Nat} (T : TreeH C H S m) (p : List Str) (g : ∀ r x, S.N (p ++ r) = some x → NdAt C H' S m (p ++ r) x) : TreeH C H' (S.sub p) m := by
  refine ⟨fun q x e => ?_, fun q r x y h1 h2 z => List.append_cancel_left (T.ia _ _ _ _ h1 h2 z), fun q r x y h1 h2 z => List.append_cancel_left (T.ir _ _ _ _ h1 h2 z), fun q r x y h1 h2 z => List.append_cancel_left (T.id _ _ _ _ h1 h2 z)⟩
  have B := g q x e
  obtain ⟨kvs, h1, h2, h3⟩ := B.dic
  refine ⟨B.ins, B.row, ⟨kvs, h1, fun k => ?_, h3⟩, B.rl⟩
  rw [h2 k, sub_N, List.append_assoc]
/-- what walked tells: each place's own row of keys behind the beginning pp, and its worth -/
def RowIt (K : PySem.W.Frag) (H : Hp) (pp : List Str) (a : Addr) (x : List Str × Str) : Prop := ∃ q, H a = some (.tup [.ref q, .str x.2]) ∧ SqT K H q ((pp ++ x.1).map V.str)
theorem RowIt.sm {K : PySem.W.Frag} {H H' : Hp} {pp : List Str} {a : Addr} {x : List Str × Str} (S : Sm H H') (h : RowIt K H pp a x) : RowIt K H' pp a x := by
  obtain ⟨q, h1, h2⟩ := h
  exact ⟨q, S _ _ h1, Sm.seqT S h2⟩
/-- the list alone changed -/
theorem RowIt.upd {K : PySem.W.Frag} {H : Hp} {pp : List Str} {a l : Addr} {x : List Str × Str} {ys zs : List V} (e : H l = some (.lst ys)) (h : RowIt K H pp a x) : RowIt K (L2.upd H l (.lst zs)) pp a x := by
  obtain ⟨q, h1, h2⟩ := h
  exact ⟨q, by rw [upd_ne (ne_of h1 e fun z => by cases z)]; exact h1, SqT.upd h2 e⟩
def RowsAt (K : PySem.W.Frag) (H : Hp) (pp : List Str) (l : Addr) (L : List (List Str × Str)) : Prop := ∃ as : List Addr, H l = some (.lst (as.map V.ref)) ∧ Paired (RowIt K H pp) as L
theorem paired_app {α β : Type} {F : α → β → Prop} : ∀ {a c : List α} {b d : List β}, Paired F a b → Paired F c d → Paired F (a ++ c) (b ++ d)
  | _, _, _, _, .nil, h => h
  | _, _, _, _, .cons h t, g => .cons h (paired_app t g)
theorem paired_map {α β γ : Type} {F : α → β → Prop} {G : α → γ → Prop} {f : β → γ} (i : ∀ a b, F a b → G a (f b)) : ∀ {l : List α} {m : List β}, Paired F l m → Paired G l (m.map f)
  | _, _, .nil => .nil
  | _, _, .cons h t => .cons (i _ _ h) (paired_map i t)
theorem paired_imp {α β : Type} {F G : α → β → Prop} (i : ∀ a b, F a b → G a b) : ∀ {l : List α} {m : List β}, Paired F l m → Paired G l m
  | _, _, .nil => .nil
  | _, _, .cons h t => .cons (i _ _ h) (paired_imp i t)
def spWalk (K : PySem.W.Frag) (C : Addr) (f : Nat) : Sp := fun vs H Q _ => ∃ (S : Sh) (m : Nat) (p : List Str) (x : Nd) (pt : Addr) (pp : List Str), vs = [.ref x.a, .ref pt] ∧ TreeH C H S m ∧ ShOk S ∧ S.N p = some x ∧ SqT K H pt (pp.map V.str) ∧ 8 ≤ p.length + f ∧ pp.length + f ≤ 100 ∧ (walkF f S p).length ≤ 100000 ∧
  ∀ (l : Addr) (H' : Hp), H l = none → Sm H H' → RowsAt K H' pp l (walkF f S p) → Q (.ref l) H'
theorem flatM_take {α β : Type} {l : List α} {i : Nat} {x : α} (g : α → List β) (h : l[i]? = some x) : (l.take (i + 1)).flatMap g = (l.take i).flatMap g ++ g x := by
  rw [List.take_succ, h, Option.toList_some, List.flatMap_append, List.flatMap_singleton]
theorem flatM_len {α β : Type} (g : α → List β) (l : List α) (i : Nat) : ((l.take i).flatMap g).length ≤ (l.flatMap g).length := by
  have e : (l.flatMap g).length = ((l.take i).flatMap g).length + ((l.drop i).flatMap g).length := by
    rw [← List.length_append, ← List.flatMap_append, List.take_append_drop]
  omega
section
variable {P : Program} {w : World} {K : PySem.W.Frag} {mg : Str → Option Value} {base : Heap} {cs : Tabs}
theorem ok_walked (T : Txt K mg cs) : ∀ f : Nat, CalM P w K mg base (f + 1) cs.a_Tree "walked" ["self", "path"] (spWalk K cs.a_Tree f)
  | 0 => by
    refine T.f_Tree_walked.cal scTreeWalked (fun vs H Q E h => ?_) (fun f cdv A outer s H vs Q E hr h => ?_)
    · obtain ⟨_, _, _, _, _, _, rfl, _⟩ := h
      rfl
    · obtain ⟨S, m, p, x, pt, pp, _, _, O, hx, _, h8, _⟩ := h
      have := O.deep p (by rw [hx]; rfl)
      omega
  | f0 + 1 => by
    have CTree_walked := ok_walked T f0
    refine T.f_Tree_walked.cal scTreeWalked (fun vs H Q E h => ?_) (fun f cdv A outer s H vs Q E hr h => ?_)
    · obtain ⟨_, _, _, _, _, _, rfl, _⟩ := h
      rfl
    obtain ⟨S, m, p, x, pt, pp, rfl, TH, O, hx, hp, h8, hpp, hlen, q⟩ := h
    refine ⟨_, (pss_cons (ps_set (i := 2) scTreeWalked.nd rfl (by first | exact Or.inl rfl | exact Or.inr rfl) (pe_ifExp (pt_cmpR op_isN (pe_fldK (K := K) (pv 0)) pe_non (nomark _)) (pe_lst pa_nil) (pe_lst (pa_cons (pe_tup (pa_cons (pv 1) (pa_cons (pe_fldK (K := K) (pv 0)) pa_nil))) pa_nil))))
    (pss_cons (ps_for PassesOwn.never rfl (pi_list (pe_fldK (K := K) (pv 0))) (pg_name (i := 3) scTreeWalked.nd rfl (by first | exact Or.inl rfl | exact Or.inr rfl))
      (pss_one (ps_expr (pe_bmK (K := K) PySem.F.plainAttrs_list PySem.F.slot_list_extend PySem.F.type_list_extend mt_extend (pv 2) (pa_cons (pe_calM CTree_walked T.cl_Tree (hr.mono (by first | decide | omega)) (pe_dget (Nat.lt_trans (Nat.add_lt_add_left (show 1 < 64 by decide) _) hr.units) (pe_fldK (K := K) (pv 0)) (pv 3) (fun _ _ => rfl)) (pa_cons (pe_op (catA K) (pv 1) (pe_tup (pa_cons (pv 3) pa_nil))) pa_nil)) pa_nil)))))
    (pss_one (ps_ret (pv 2))))), ?_⟩
    have A0 := TH.at_ _ _ hx
    have own : (ownW (S.W p)).length ≤ 1 := by
      cases S.W p with
      | none => exact Nat.zero_le 1
      | some z => exact Nat.le_refl 1
    have hlen' : (ownW (S.W p)).length + ((S.R p).flatMap fun k => (walkF f0 S (p ++ [k])).map fun x => (k :: x.1, x.2)).length ≤ 100000 := by
      rw [← List.length_append]
      exact hlen
    have start : ∀ R : VK, (∀ (l : Addr) (H' : Hp), H l = none → Sm H H' → RowsAt K H' pp l (ownW (S.W p)) → R (.ref l) H') → (tIf (tTest (tOp (fun x y H Q => y = V.non ∧ Q (V.bl (decide (x = V.non))) H) (tFld K (tVar 0) "worth") (tC V.non))) (tLst tNil) (tLst (tCons (tTup (tCons (tVar 1) (tCons (tFld K (tVar 0) "worth") tNil))) tNil))) [some (V.ref x.a), some (V.ref pt), none, none] H R := fun R hR => by
      refine ⟨_, rfl, x.a, _, _, _, _, rfl, A0.ins, T.cl_Tree, T.no_Tree_worth, rfl, rfl, _, rfl, ?_⟩
      cases e : S.W p with
      | none =>
        rw [e] at hR
        refine iteT ⟨(by decide), fun l hl => hR l _ hl (Sm.new hl) ⟨[], upd_same, .nil⟩⟩
      | some z =>
        rw [e] at hR
        have A1 : H x.a = some (.ins cs.a_Tree x.dx [("worth", .str z), ("row", .ref x.r), ("beneath", .ref x.d)]) := by
          rw [A0.ins]
          show some (HO.ins cs.a_Tree x.dx [("worth", wV (S.W p)), ("row", .ref x.r), ("beneath", .ref x.d)]) = _
          rw [e]
          rfl
        refine iteF ⟨_, rfl, _, rfl, x.a, _, _, _, _, rfl, A1, T.cl_Tree, T.no_Tree_worth, rfl, (by show 2 ≤ sizeLine; decide), fun t ht => ⟨(by show 1 ≤ sizeLine; decide), fun l hl => ?_⟩⟩
        have S1 : Sm H (upd H t (.tup [.ref pt, .str z])) := Sm.new ht
        refine hR l _ (S1.free hl) (S1.trans (Sm.new hl)) ⟨[t], upd_same, .cons ⟨pt, ?_, ?_⟩ .nil⟩
        · rw [upd_ne (ne_of_none upd_same hl)]
          exact upd_same
        · rw [List.append_nil]
          exact Sm.seqT (S1.trans (Sm.new hl)) hp
    refine run_set (start _ fun l H1 hl S1 hrows => ?_)
    refine run_for ?_
    have A1 := (TH.sm S1).at_ _ _ hx
    refine ⟨_, rfl, x.a, _, _, _, _, rfl, A1.ins, T.cl_Tree, T.no_Tree_row, rfl, x.r, rfl, ⟨_, SqL.of A1.row⟩, for_list (xs := (S.R p).map V.str) (fun i σ H' => ∃ y, σ = [some (.ref x.a), some (.ref pt), some (.ref l), y] ∧ Sm H H' ∧ RowsAt K H' pp l ((ownW (S.W p)) ++ ((S.R p).take i).flatMap fun k => (walkF f0 S (p ++ [k])).map fun x => (k :: x.1, x.2)))
      ⟨none, rfl, S1, by rw [List.take_zero, List.flatMap_nil, List.append_nil]; exact hrows⟩ (fun i σ H' _ h => ?_) (fun i v σ H' hi h => ?_) (fun σ H' h => ?_)⟩
    · obtain ⟨_, _, S2, _⟩ := h
      exact SqL.of ((TH.sm S2).at_ _ _ hx).row
    · obtain ⟨y, rfl, S2, as, hl2, rows⟩ := h
      rw [List.getElem?_map] at hi
      cases ek : (S.R p)[i]? with
      | none =>
        rw [ek] at hi
        cases hi
      | some k =>
        rw [ek] at hi
        cases hi
        have TH2 := TH.sm S2
        have A2 := TH2.at_ _ _ hx
        obtain ⟨kvs, g1, g2, _⟩ := A2.dic
        obtain ⟨x', hx'⟩ := Option.isSome_iff_exists.mp ((O.row p x hx k).mp (List.mem_of_getElem? ek))
        have g := DGet.k (k := Sum.inr k) g1
        rw [show valV kvs (Sum.inr k) = _ from g2 k, hx'] at g
        have A2' := TH2.at_ _ _ hx'
        have hp2 := Sm.seqT S2 hp
        have step : ∀ (pt' : Addr) (H3 : Hp), Sm H' H3 → SqT K H3 pt' ((pp ++ [k]).map V.str) → spWalk K cs.a_Tree f0 [.ref x'.a, .ref pt'] H3 (fun v H4 => (rExtend : V → List V → Hp → VK → Prop) (.ref l) [v] H4 fun _ H5 => ∃ y : Option V, ([some (V.ref x.a), some (V.ref pt), some (V.ref l), some (V.str k)] : L2.St) = [some (V.ref x.a), some (V.ref pt), some (V.ref l), y] ∧ Sm H H5 ∧ RowsAt K H5 pp l ((ownW (S.W p)) ++ ((S.R p).take (i + 1)).flatMap fun k => (walkF f0 S (p ++ [k])).map fun x => (k :: x.1, x.2))) E0 := fun pt' H3 S3 hpt' => by
          refine ⟨S, m, p ++ [k], x', pt', pp ++ [k], rfl, TH2.sm S3, O, hx', hpt', ?_, ?_, ?_, fun l2 H4 hn2 S4 rows2 => ?_⟩
          · rw [List.length_append, List.length_singleton]
            omega
          · rw [List.length_append, List.length_singleton]
            omega
          · have z := flatM_len (fun k => (walkF f0 S (p ++ [k])).map fun x => (k :: x.1, x.2)) (S.R p) (i + 1)
            rw [flatM_take _ ek, List.length_append, List.length_map] at z
            omega
          · obtain ⟨as2, hl4, rows4⟩ := rows2
            have hl4' : H4 l = some (.lst (as.map V.ref)) := S4 _ _ (S3 _ _ hl2)
            have ne : l ≠ l2 := fun z => by
              rw [← z] at hn2
              rw [S3 _ _ hl2] at hn2
              cases hn2
            have lz : as.length + as2.length ≤ 100000 := by
              have z := flatM_len (fun k => (walkF f0 S (p ++ [k])).map fun x => (k :: x.1, x.2)) (S.R p) (i + 1)
              rw [flatM_take _ ek, List.length_append, List.length_map] at z
              have z1 := paired_len rows
              have z2 := paired_len rows4
              rw [List.length_append] at z1
              omega
            refine ⟨l, l2, _, _, rfl, rfl, hl4', hl4, ?_, some (.str k), rfl, ?_, as ++ as2, ?_, ?_⟩
            · rw [List.length_map, List.length_map]
              exact Nat.le_trans lz (by decide)
            · refine ((S2.trans S3).trans S4).over hl fun qs z => ?_
              rw [hl4'] at z
              cases z
              rfl
            · rw [upd_same, List.map_append]
            · rw [flatM_take _ ek, ← List.append_assoc]
              refine paired_app (paired_imp (fun a y h => (RowIt.sm (S3.trans S4) h).upd hl4') rows) (paired_map (fun a y h => ?_) rows4)
              obtain ⟨q, h1, h2⟩ := h
              refine RowIt.upd hl4' ⟨q, h1, ?_⟩
              rw [List.append_assoc] at h2
              exact h2
        refine ⟨_, rfl, .inl ⟨rfl, _, SqL.of hl2⟩, _, rfl, x.a, _, _, _, _, rfl, A2.ins, T.cl_Tree, T.no_Tree_beneath, rfl, _, rfl, x.d, _, rfl, g, x'.a, _, _, rfl, A2'.ins, rfl, _, rfl, _, rfl, (by show 1 ≤ sizeLine; decide), fun b hb => ⟨pt, b, pp.map V.str, [.str k], rfl, rfl, Sm.seqT (Sm.new hb) hp2, SqT.of upd_same, ?_, fun e => ?_, fun e1 e2 => (nomatch e2), fun e1 e2 c hc => ?_⟩⟩
        · rw [List.length_map]
          exact Nat.le_trans (show pp.length + 1 ≤ 1000 by omega) (by decide)
        · have e' : pp = [] := List.map_eq_nil_iff.mp e
          refine step b _ (Sm.new hb) ?_
          rw [e']
          exact SqT.of upd_same
        · refine step c _ ((Sm.new hb).trans (Sm.new hc)) ?_
          rw [List.map_append]
          exact SqT.of upd_same
    · obtain ⟨y, rfl, S2, rows⟩ := h
      rw [List.length_map, List.take_length] at rows
      dsimp only
      refine run_ret ?_
      exact ⟨_, rfl, q l H' hl S2 rows⟩
end
/-! ### what a walk comes by -/
theorem walk_mem {S : Sh} (O : ShOk S) : ∀ (f : Nat) (p : List Str), (S.N p).isSome = true → 8 ≤ p.length + f → ∀ (r : List Str) (z : Str), (r, z) ∈ walkF f S p ↔ S.W (p ++ r) = some z
  | 0, p, h, l, r, z => by
    have := O.deep p h
    omega
  | f + 1, p, h, l, r, z => by
    obtain ⟨x, hx⟩ := Option.isSome_iff_exists.mp h
    unfold walkF
    rw [List.mem_append]
    have own : ((r, z) ∈ ownW (S.W p)) ↔ r = [] ∧ S.W p = some z := by
      cases S.W p with
      | none => exact ⟨fun h => (nomatch h), fun h => (nomatch h.2)⟩
      | some y =>
        refine Iff.trans List.mem_singleton ?_
        exact ⟨fun h => by cases h; exact ⟨rfl, rfl⟩, fun h => by cases h.2; rw [h.1]⟩
    rw [own]
    constructor
    · rintro (⟨rfl, h⟩ | h)
      · rw [List.append_nil]
        exact h
      · obtain ⟨k, hk, hm⟩ := List.mem_flatMap.mp h
        obtain ⟨⟨r', z'⟩, h2, e⟩ := List.mem_map.mp hm
        injection e with e1 e2
        subst e1 e2
        have := (walk_mem O f (p ++ [k]) ((O.row p x hx k).mp hk) (by rw [List.length_append, List.length_singleton]; omega) r' z').mp h2
        rw [List.append_assoc] at this
        exact this
    · intro h
      cases r with
      | nil =>
        rw [List.append_nil] at h
        exact .inl ⟨rfl, h⟩
      | cons k r' =>
        refine .inr (List.mem_flatMap.mpr ⟨k, ?_, List.mem_map.mpr ⟨(r', z), ?_, rfl⟩⟩)
        · refine (O.row p x hx k).mpr (O.up r' (p ++ [k]) ?_)
          rw [List.append_assoc, List.singleton_append]
          cases e : S.N (p ++ k :: r') with
          | some _ => rfl
          | none =>
            rw [O.out _ e] at h
            cases h
        · have hk : (S.N (p ++ [k])).isSome = true := by
            refine O.up r' (p ++ [k]) ?_
            rw [List.append_assoc, List.singleton_append]
            cases e : S.N (p ++ k :: r') with
            | some _ => rfl
            | none =>
              rw [O.out _ e] at h
              cases h
          refine (walk_mem O f (p ++ [k]) hk (by rw [List.length_append, List.length_singleton]; omega) r' z).mpr ?_
          rw [List.append_assoc]
          exact h
theorem row_nodup {S : Sh} (O : ShOk S) {p : List Str} {x : Nd} (h : S.N p = some x) : (S.R p).Nodup := (O.srt p x h).imp fun {a b} h z => by
  rw [z, ahead_self] at h
  cases h
theorem walk_nodup {S : Sh} (O : ShOk S) : ∀ (f : Nat) (p : List Str), (S.N p).isSome = true → ((walkF f S p).map (·.1)).Nodup
  | 0, _, _ => List.nodup_nil
  | f + 1, p, h => by
    obtain ⟨x, hx⟩ := Option.isSome_iff_exists.mp h
    unfold walkF
    rw [List.map_append]
    refine List.nodup_append.mpr ⟨?_, ?_, fun a ha b hb e => ?_⟩
    · cases S.W p with
      | none => exact List.nodup_nil
      | some z => exact List.pairwise_singleton _ _
    · have nd := row_nodup O hx
      have sub : ∀ k ∈ S.R p, (S.N (p ++ [k])).isSome = true := fun k hk => (O.row p x hx k).mp hk
      generalize S.R p = l at nd sub
      induction l with
      | nil => exact List.nodup_nil
      | cons k l ih =>
        obtain ⟨n1, n2⟩ := List.nodup_cons.mp nd
        rw [List.flatMap_cons, List.map_append]
        refine List.nodup_append.mpr ⟨?_, ih n2 fun j hj => sub j (.tail _ hj), fun a ha b hb e => ?_⟩
        · have q := walk_nodup O f (p ++ [k]) (sub k (.head _))
          rw [List.map_map]
          have e : ((fun x : List Str × Str => x.1) ∘ fun x : List Str × Str => (k :: x.1, x.2)) = (fun r : List Str => k :: r) ∘ (fun x => x.1) := rfl
          rw [e, ← List.map_map]
          exact List.Pairwise.map _ (fun a b h e => h (by injection e)) q
        · rw [List.map_map] at ha
          obtain ⟨y, _, rfl⟩ := List.mem_map.mp ha
          obtain ⟨u, hu, rfl⟩ := List.mem_map.mp hb
          obtain ⟨j, hj, hu⟩ := List.mem_flatMap.mp hu
          obtain ⟨v, _, rfl⟩ := List.mem_map.mp hu
          have : k = j := by injection e
          exact n1 (this ▸ hj)
    · obtain ⟨u, hu, rfl⟩ := List.mem_map.mp hb
      obtain ⟨j, hj, hu⟩ := List.mem_flatMap.mp hu
      obtain ⟨v, _, rfl⟩ := List.mem_map.mp hu
      have : a = [] := by
        cases hw : S.W p with
        | none =>
          rw [hw] at ha
          cases ha
        | some y =>
          rw [hw] at ha
          exact List.mem_singleton.mp ha
      rw [this] at e
      cases e
/-- the worths of a tree, told by a list -/
structure Cont (S : Sh) (L : List (List Str × Str)) : Prop where
  nd : (L.map (·.1)).Nodup
  mem : ∀ q z, (q, z) ∈ L ↔ S.W q = some z
theorem pairs_nodup {L : List (List Str × Str)} (h : (L.map (·.1)).Nodup) : L.Nodup := List.Pairwise.of_map (·.1) (fun a b h e => h (by rw [e])) h
theorem Cont.walk {S : Sh} {L : List (List Str × Str)} (C : Cont S L) (O : ShOk S) : (walkF 8 S []).Perm L := by
  obtain ⟨n, hn⟩ := O.root
  have h : (S.N []).isSome = true := by rw [hn]; rfl
  refine (List.perm_ext_iff_of_nodup (pairs_nodup (walk_nodup O 8 [] h)) (pairs_nodup C.nd)).mpr fun ⟨r, z⟩ => ?_
  rw [walk_mem O 8 [] h (by simp), C.mem]
  rfl
/-- .. of a part -/
theorem Cont.part {S : Sh} {L : List (List Str × Str)} (C : Cont S L) (O : ShOk S) {p : List Str} (h : (S.N p).isSome = true) : ((walkF 8 S p).map fun x => (p ++ x.1, x.2)).Perm (L.filter fun x => p.isPrefixOf x.1) := by
  refine (List.perm_ext_iff_of_nodup ?_ ((pairs_nodup C.nd).sublist List.filter_sublist)).mpr fun ⟨q, z⟩ => ?_
  · refine List.Pairwise.map _ (fun a b ne e => ne ?_) (pairs_nodup (walk_nodup O 8 p h))
    injection e with e1 e2
    exact Prod.ext (List.append_cancel_left e1) e2
  · rw [List.mem_filter, C.mem, List.mem_map]
    constructor
    · rintro ⟨⟨r, y⟩, hm, e⟩
      injection e with e1 e2
      subst e1 e2
      exact ⟨(walk_mem O 8 p h (by omega) r y).mp hm, pre_app p r⟩
    · rintro ⟨hw, hp⟩
      obtain ⟨r, rfl⟩ := pre_of hp
      exact ⟨(r, z), (walk_mem O 8 p h (by omega) r z).mpr hw, rfl⟩
/-- how many worths there are at a place and beneath -/
def cntAt (S : Sh) (p : List Str) : Nat := if (S.N p).isSome = true then (walkF 8 S p).length else 0
theorem Cont.cnt {S : Sh} {L : List (List Str × Str)} (C : Cont S L) (O : ShOk S) (p : List Str) : cntAt S p = (L.filter fun x => p.isPrefixOf x.1).length := by
  unfold cntAt
  split
  · rename_i h
    rw [← (C.part O h).length_eq, List.length_map]
  · rename_i h
    symm
    rw [List.length_eq_zero_iff, List.filter_eq_nil_iff]
    rintro ⟨q, z⟩ hm hp
    obtain ⟨r, rfl⟩ := pre_of hp
    have hw := (C.mem _ _).mp hm
    refine h (O.up r p ?_)
    cases e : S.N (p ++ r) with
    | some _ => rfl
    | none =>
      rw [O.out _ e] at hw
      cases hw
/-- a worth beneath a place makes it be there, with a row -/
theorem ShOk.row_of {S : Sh} (O : ShOk S) (F : Full S) {p : List Str} {n : Nd} (hn : S.N p = some n) : S.R p ≠ [] ↔ ∃ k r z, S.W (p ++ k :: r) = some z := by
  constructor
  · intro h
    have deep : ∀ (f : Nat) (q : List Str), 8 ≤ q.length + f → (S.N q).isSome = true → q ≠ [] → ∃ r z, S.W (q ++ r) = some z := by
      intro f
      induction f with
      | zero =>
        intro q hl hq _
        have := O.deep q hq
        omega
      | succ f ih =>
        intro q hl hq hne
        obtain ⟨q', k, rfl⟩ : ∃ q' k, q = q' ++ [k] := ⟨q.dropLast, q.getLast hne, (List.dropLast_concat_getLast hne).symm⟩
        rcases F q' k hq with a | a
        · obtain ⟨z, hz⟩ := Option.ne_none_iff_exists'.mp a
          exact ⟨[], z, by rw [List.append_nil]; exact hz⟩
        · obtain ⟨x, hx⟩ := Option.isSome_iff_exists.mp hq
          obtain ⟨j, hj⟩ := List.exists_mem_of_ne_nil _ a
          obtain ⟨r, z, e⟩ := ih (q' ++ [k] ++ [j]) (by rw [List.length_append, List.length_singleton]; omega) ((O.row _ x hx j).mp hj) snoc_nil
          exact ⟨j :: r, z, by rw [List.append_assoc] at e; exact e⟩
    obtain ⟨k, hk⟩ := List.exists_mem_of_ne_nil _ h
    obtain ⟨r, z, e⟩ := deep 8 (p ++ [k]) (by omega) ((O.row p n hn k).mp hk) snoc_nil
    exact ⟨k, r, z, by rw [List.append_assoc] at e; exact e⟩
  · rintro ⟨k, r, z, e⟩ h
    have up := O.up r (p ++ [k]) (by
      rw [List.append_assoc, List.singleton_append]
      cases e2 : S.N (p ++ k :: r) with
      | some _ => rfl
      | none =>
        rw [O.out _ e2] at e
        cases e)
    have := (O.row p n hn k).mpr up
    rw [h] at this
    cases this
/-! ### things of any kind: their shape, kept as long as nothing outside some addresses changes -/
inductive D where
  | non
  | bl (b : Bool)
  | int (i : Int)
  | str (z : Str)
  | lst (l : List D)
  | tup (l : List D)
  | dic
mutual
inductive Th (K : PySem.W.Frag) (av : Addr → Prop) (n : Nat) (H : Hp) : V → D → Prop
  | non : Th K av n H .non .non
  | bl (b : Bool) : Th K av n H (.bl b) (.bl b)
  | int (i : Int) : i.natAbs ≤ 10 ^ 22 + n → Th K av n H (.int i) (.int i)
  | str (z : Str) : (tl z).length ≤ 400 + n → (∀ c ∈ tl z, c < 128) → Th K av n H (.str z) (.str z)
  | lst {a : Addr} {xs : List V} {ds : List D} : H a = some (.lst xs) → ¬ av a → xs.length ≤ 40 + n → ThAll K av n H xs ds → Th K av n H (.ref a) (.lst ds)
  | tup {a : Addr} {xs : List V} {ds : List D} : SqT K H a xs → xs.length ≤ 40 + n → ThAll K av n H xs ds → Th K av n H (.ref a) (.tup ds)
  | dic {a : Addr} : H a = some (.dK []) → Th K av n H (.ref a) .dic
inductive ThAll (K : PySem.W.Frag) (av : Addr → Prop) (n : Nat) (H : Hp) : List V → List D → Prop
  | nil : ThAll K av n H [] []
  | cons {v : V} {vs : List V} {d : D} {ds : List D} : Th K av n H v d → ThAll K av n H vs ds → ThAll K av n H (v :: vs) (d :: ds)
end
/-- what is avoided are lists -/
def AvL (av : Addr → Prop) (H : Hp) : Prop := ∀ a, av a → ∃ xs, H a = some (.lst xs)
/-- outside of what is avoided all is kept -/
def KO (av : Addr → Prop) (H H' : Hp) : Prop := ∀ a o, ¬ av a → H a = some o → notTbl o = true → H' a = some o
theorem KO.sm {av : Addr → Prop} {H H' : Hp} (S : Sm H H') : KO av H H' := fun a o _ h n => S.keep a o h n
theorem KO.go {av : Addr → Prop} {b : Addr} {n : Nat} {H H' : Hp} (G : Go b n H H') (hb : av b) : KO av H H' := fun a o h e n => G.keep a o (fun z => h (z ▸ hb)) e n
theorem KO.refl {av : Addr → Prop} {H : Hp} : KO av H H := fun _ _ _ h _ => h
theorem KO.trans {av : Addr → Prop} {H H1 H2 : Hp} (x : KO av H H1) (y : KO av H1 H2) : KO av H H2 := fun a o h e n => y a o h (x a o h e n) n
theorem KO.upd {av : Addr → Prop} {H : Hp} {p : Addr} {o : HO} (hp : av p) : KO av H (upd H p o) := fun a u h e _ => by
  have ne : a ≠ p := fun z => h (by rw [z]; exact hp)
  rw [upd_ne ne]
  exact e
theorem AvL.sm {av : Addr → Prop} {H H' : Hp} (A : AvL av H) (S : Sm H H') : AvL av H' := fun a h => by
  obtain ⟨xs, e⟩ := A a h
  exact ⟨xs, S _ _ e⟩
theorem AvL.go {av : Addr → Prop} {b : Addr} {n m : Nat} {H H' : Hp} (A : AvL av H) (G : Go b n H H') (B : Bag H b m) : AvL av H' := fun a h => by
  by_cases e : a = b
  · subst e
    obtain ⟨x, y, z, q, _⟩ := G.bag _ B
    exact ⟨_, q⟩
  · obtain ⟨xs, q⟩ := A a h
    exact ⟨xs, G.keep a _ e q⟩
theorem AvL.fresh {av : Addr → Prop} {H : Hp} (A : AvL av H) {p : Addr} (h : H p = none) : ¬ av p := fun z => by
  obtain ⟨xs, e⟩ := A p z
  rw [h] at e
  cases e
/-- the addresses avoided, and one more -/
def Av1 (av : Addr → Prop) (p : Addr) : Addr → Prop := fun a => av a ∨ a = p
theorem AvL.one {av : Addr → Prop} {H : Hp} {p : Addr} {xs : List V} (A : AvL av H) (h : H p = some (.lst xs)) : AvL (Av1 av p) H := fun a z => by
  rcases z with z | rfl
  · exact A a z
  · exact ⟨xs, h⟩
/-- .. if they are there at all -/
def AvW (av : Addr → Prop) (H : Hp) : Prop := ∀ a o, av a → H a = some o → ∃ xs, o = .lst xs
theorem AvL.w {av : Addr → Prop} {H : Hp} (A : AvL av H) : AvW av H := fun a o h e => by
  obtain ⟨xs, q⟩ := A a h
  rw [e] at q
  exact ⟨xs, Option.some.inj q⟩
theorem AvW.one {av : Addr → Prop} {H : Hp} {p : Addr} (A : AvW av H) (h : H p = none) : AvW (Av1 av p) H := fun a o z e => by
  rcases z with z | rfl
  · exact A a o z e
  · rw [h] at e
    cases e
section
variable {K : PySem.W.Frag} {av av' : Addr → Prop} {n n' : Nat} {H H' : Hp}
theorem sqT_koW (A : AvW av H) (k : KO av H H') {a : Addr} {xs : List V} (h : SqT K H a xs) : SqT K H' a xs := by
  have out : ∀ {u : HO}, H a = some u → (∀ ys, u ≠ .lst ys) → ¬ av a := fun hu no z => by
    obtain ⟨ys, e⟩ := A a _ z hu
    exact no ys e
  rcases h with (h | ⟨o, h⟩) | h
  · exact .inl (.inl (k a _ (out h fun _ z => by cases z) h rfl))
  · exact .inl (.inr ⟨o, k a _ (out h fun _ z => by cases z) h rfl⟩)
  · exact .inr h
theorem sqT_ko (A : AvL av H) (k : KO av H H') {a : Addr} {xs : List V} (h : SqT K H a xs) : SqT K H' a xs := sqT_koW A.w k h
mutual
theorem Th.koW (A : AvW av H) (k : KO av H H') : ∀ {v : V} {d : D}, Th K av n H v d → Th K av n H' v d
  | _, _, .non => .non
  | _, _, .bl b => .bl b
  | _, _, .int i h => .int i h
  | _, _, .str z h1 h2 => .str z h1 h2
  | _, _, .lst h1 h2 h3 h4 => .lst (k _ _ h2 h1 rfl) h2 h3 (ThAll.koW A k h4)
  | _, _, .tup h1 h2 h3 => .tup (sqT_koW A k h1) h2 (ThAll.koW A k h3)
  | _, _, .dic h => .dic (k _ _ (fun z => by
      obtain ⟨ys, e⟩ := A _ _ z h
      cases e) h rfl)
theorem ThAll.koW (A : AvW av H) (k : KO av H H') : ∀ {vs : List V} {ds : List D}, ThAll K av n H vs ds → ThAll K av n H' vs ds
  | _, _, .nil => .nil
  | _, _, .cons h t => .cons (Th.koW A k h) (ThAll.koW A k t)
end
theorem Th.ko (A : AvL av H) (k : KO av H H') {v : V} {d : D} (h : Th K av n H v d) : Th K av n H' v d := h.koW A.w k
theorem ThAll.ko (A : AvL av H) (k : KO av H H') {vs : List V} {ds : List D} (h : ThAll K av n H vs ds) : ThAll K av n H' vs ds := h.koW A.w k
mutual
/-- other bounds, other addresses avoided -/
theorem Th.turn (hn : n ≤ n') (ha : ∀ a xs, H a = some (.lst xs) → ¬ av a → ¬ av' a) : ∀ {v : V} {d : D}, Th K av n H v d → Th K av' n' H v d
  | _, _, .non => .non
  | _, _, .bl b => .bl b
  | _, _, .int i h => .int i (by omega)
  | _, _, .str z h1 h2 => .str z (by omega) h2
  | _, _, .lst h1 h2 h3 h4 => .lst h1 (ha _ _ h1 h2) (by omega) (ThAll.turn hn ha h4)
  | _, _, .tup h1 h2 h3 => .tup h1 (by omega) (ThAll.turn hn ha h3)
  | _, _, .dic h => .dic h
theorem ThAll.turn (hn : n ≤ n') (ha : ∀ a xs, H a = some (.lst xs) → ¬ av a → ¬ av' a) : ∀ {vs : List V} {ds : List D}, ThAll K av n H vs ds → ThAll K av' n' H vs ds
  | _, _, .nil => .nil
  | _, _, .cons h t => .cons (Th.turn hn ha h) (ThAll.turn hn ha t)
end
theorem Th.mono (hn : n ≤ n') {v : V} {d : D} (h : Th K av n H v d) : Th K av n' H v d := h.turn hn fun _ _ _ z => z
theorem ThAll.mono (hn : n ≤ n') {vs : List V} {ds : List D} (h : ThAll K av n H vs ds) : ThAll K av n' H vs ds := h.turn hn fun _ _ _ z => z
/-- one more is avoided that wasn't there -/
theorem Th.more {p : Addr} (hp : H p = none) {v : V} {d : D} (h : Th K av n H v d) : Th K (Av1 av p) n H v d := h.turn (Nat.le_refl _) fun a xs e z q => by
  rcases q with q | rfl
  · exact z q
  · rw [hp] at e
    cases e
theorem ThAll.more {p : Addr} (hp : H p = none) {vs : List V} {ds : List D} (h : ThAll K av n H vs ds) : ThAll K (Av1 av p) n H vs ds := h.turn (Nat.le_refl _) fun a xs e z q => by
  rcases q with q | rfl
  · exact z q
  · rw [hp] at e
    cases e
theorem Th.less {p : Addr} {v : V} {d : D} (h : Th K (Av1 av p) n H v d) : Th K av n H v d := h.turn (Nat.le_refl _) fun a xs _ z q => z (.inl q)
theorem ThAll.less {p : Addr} {vs : List V} {ds : List D} (h : ThAll K (Av1 av p) n H vs ds) : ThAll K av n H vs ds := h.turn (Nat.le_refl _) fun a xs _ z q => z (.inl q)
theorem ThAll.len : ∀ {vs : List V} {ds : List D}, ThAll K av n H vs ds → vs.length = ds.length
  | _, _, .nil => rfl
  | _, _, .cons _ t => congrArg (· + 1) (ThAll.len t)
theorem ThAll.append {vs ws : List V} {ds es : List D} : ThAll K av n H vs ds → ThAll K av n H ws es → ThAll K av n H (vs ++ ws) (ds ++ es)
  | .nil, t => t
  | .cons h r, t => .cons h (ThAll.append r t)
theorem ThAll.at : ∀ {vs : List V} {ds : List D} {i : Nat}, ThAll K av n H vs ds → (hi : i < vs.length) → ∃ d, ds[i]? = some d ∧ Th K av n H vs[i] d
  | _, _, 0, .cons h _, _ => ⟨_, rfl, h⟩
  | _, _, i + 1, .cons _ t, hi => ThAll.at (i := i) t (by simpa using hi)
theorem ThAll.take : ∀ {vs : List V} {ds : List D} (i : Nat), ThAll K av n H vs ds → ThAll K av n H (vs.take i) (ds.take i)
  | _, _, 0, _ => by simp; exact .nil
  | _, _, i + 1, .nil => by simp; exact .nil
  | _, _, i + 1, .cons h t => .cons h (ThAll.take i t)
theorem ThAll.drop : ∀ {vs : List V} {ds : List D} (i : Nat), ThAll K av n H vs ds → ThAll K av n H (vs.drop i) (ds.drop i)
  | _, _, 0, h => by simpa using h
  | _, _, i + 1, .nil => by simp; exact .nil
  | _, _, i + 1, .cons _ t => by simpa using ThAll.drop i t
theorem ThAll.set : ∀ {vs : List V} {ds : List D} {i : Nat} {v : V} {d : D}, ThAll K av n H vs ds → Th K av n H v d → ThAll K av n H (vs.set i v) (ds.set i d)
  | _, _, 0, _, _, .cons _ t, h => .cons h t
  | _, _, i + 1, _, _, .cons a t, h => .cons a (ThAll.set t h)
  | _, _, _, _, _, .nil, _ => .nil
theorem ThAll.rev : ∀ {vs : List V} {ds : List D}, ThAll K av n H vs ds → ThAll K av n H vs.reverse ds.reverse
  | _, _, .nil => .nil
  | _, _, .cons a t => by
    rw [List.reverse_cons, List.reverse_cons]
    exact ThAll.append (ThAll.rev t) (.cons a .nil)
end
/-! ### their kinds -/
def D.ty : D → String
  | .non => "NoneType"
  | .bl _ => "bool"
  | .int _ => "int"
  | .str _ => "str"
  | .lst _ => "list"
  | .tup _ => "tuple"
  | .dic => "dict"
section
variable {K : PySem.W.Frag} {av : Addr → Prop} {n : Nat} {H : Hp}
theorem Th.tyx {v : V} {d : D} (h : Th K av n H v d) : TyX K H v (.type d.ty) := by
  cases h with
  | non => exact .base .non
  | bl b => exact .base (.bl b)
  | int i => exact .base (.int i)
  | str z => exact .base (.str z)
  | lst h => exact .base (.lst h)
  | tup h =>
    rcases h with (h | ⟨o, h⟩) | ⟨o, its, m, e, c, _⟩
    · exact .base (.tup h)
    · exact .fTuple h
    · exact .kTuple e c
  | dic h => exact .base (.dK h)
def isK (d : D) (c : String) : Bool := (kitB d.ty c).getD false
theorem isi_th {v : V} {d : D} {c : String} {Q : VK} (h : Th K av n H v d) (hk : (kitB d.ty c).isSome = true) (q : Q (.bl (isK d c)) H) : rIsi K [v, .ty c] H Q := by
  obtain ⟨r, e⟩ := Option.isSome_iff_exists.mp hk
  refine ⟨v, .ty c, _, .type c, r, rfl, ClsV.ty c, h.tyx, kit_ty e, ?_⟩
  unfold isK at q
  rw [e] at q
  exact q
theorem some_kit {c : String} (hc : (["NoneType", "bool", "int", "str", "list", "tuple", "dict"].all fun t => (kitB t c).isSome) = true) (d : D) : (kitB d.ty c).isSome = true := by
  have := List.all_eq_true.mp hc
  cases d <;> exact this _ (by simp [D.ty])
theorem kit_str (d : D) : (kitB d.ty "str").isSome = true := some_kit (by decide +kernel) d
theorem kit_int (d : D) : (kitB d.ty "int").isSome = true := some_kit (by decide +kernel) d
theorem kit_bool (d : D) : (kitB d.ty "bool").isSome = true := some_kit (by decide +kernel) d
theorem kit_list (d : D) : (kitB d.ty "list").isSome = true := some_kit (by decide +kernel) d
theorem kit_tuple (d : D) : (kitB d.ty "tuple").isSome = true := some_kit (by decide +kernel) d
end
def D.isStr : D → Bool
  | .str _ => true
  | _ => false
def D.isTup : D → Bool
  | .tup _ => true
  | _ => false
def D.isLst : D → Bool
  | .lst _ => true
  | _ => false
def D.isInt : D → Bool
  | .int _ => true
  | .bl _ => true
  | _ => false
def D.isBl : D → Bool
  | .bl _ => true
  | _ => false
theorem isK_str (d : D) : isK d "str" = d.isStr := by cases d <;> (simp only [isK, D.ty, D.isStr]; decide +kernel)
theorem isK_tup (d : D) : isK d "tuple" = d.isTup := by cases d <;> (simp only [isK, D.ty, D.isTup]; decide +kernel)
theorem isK_lst (d : D) : isK d "list" = d.isLst := by cases d <;> (simp only [isK, D.ty, D.isLst]; decide +kernel)
theorem isK_int (d : D) : isK d "int" = d.isInt := by cases d <;> (simp only [isK, D.ty, D.isInt]; decide +kernel)
theorem isK_bl (d : D) : isK d "bool" = d.isBl := by cases d <;> (simp only [isK, D.ty, D.isBl]; decide +kernel)
theorem kit_isK {K : PySem.W.Frag} {d : D} {c : String} (hk : (kitB d.ty c).isSome = true) : PySem.W.kitOne K (.type d.ty) (.type c) = some (isK d c) := by
  obtain ⟨r, e⟩ := Option.isSome_iff_exists.mp hk
  unfold isK
  rw [e]
  exact kit_ty e
theorem kitS {K : PySem.W.Frag} (d : D) : PySem.W.kitOne K (.type d.ty) (.type "str") = some d.isStr := by rw [← isK_str]; exact kit_isK (kit_str d)
theorem kitT {K : PySem.W.Frag} (d : D) : PySem.W.kitOne K (.type d.ty) (.type "tuple") = some d.isTup := by rw [← isK_tup]; exact kit_isK (kit_tuple d)
theorem kitL {K : PySem.W.Frag} (d : D) : PySem.W.kitOne K (.type d.ty) (.type "list") = some d.isLst := by rw [← isK_lst]; exact kit_isK (kit_list d)
theorem kitI {K : PySem.W.Frag} (d : D) : PySem.W.kitOne K (.type d.ty) (.type "int") = some d.isInt := by rw [← isK_int]; exact kit_isK (kit_int d)
theorem kitB' {K : PySem.W.Frag} (d : D) : PySem.W.kitOne K (.type d.ty) (.type "bool") = some d.isBl := by rw [← isK_bl]; exact kit_isK (kit_bool d)
/-! ### rules: against the empty list; isinstance of two; a tuple some times -/
section
variable {X : Cx} (K : PySem.W.Frag)
theorem isIT (h : X.K = K := by rfl) : CallR X (.builtin "isinstance") (rIsiT K) := h ▸ call_isiT
theorem repT (h : X.K = K := by rfl) : OpR X (binaryOp .Mult) (rRepT K) := h ▸ op_repT
def rEqE (K : PySem.W.Frag) : R2 := fun x y H Q => ∃ a b xs, x = .ref a ∧ y = .ref b ∧ SqL K H a xs ∧ SqL K H b [] ∧ Q (.bl xs.isEmpty) H
def rNeE (K : PySem.W.Frag) : R2 := fun x y H Q => ∃ a b xs, x = .ref a ∧ y = .ref b ∧ SqL K H a xs ∧ SqL K H b [] ∧ Q (.bl (!xs.isEmpty)) H
theorem eqE (hu : X.A.units + 64 < cLine) (h : X.K = K := by rfl) : OpR X (compareOp .Eq) (rEqE K) := by
  subst h
  intro pins s σ H x y v u Q I rx ry h
  obtain ⟨a, b, xs, rfl, rfl, hx, hy, q⟩ := h
  obtain rfl : v = Value.ref a := rx
  obtain rfl : u = Value.ref b := ry
  obtain ⟨us, r1, p1, _⟩ := I.list hx
  obtain ⟨ws, r2, p2, _⟩ := I.list hy
  cases r2
  cases r1 with
  | nil => exact SeqAt.RcAt.lists (e := fun _ => true) p1.isList p2.isList rfl (by omega) (fun j h1 _ => absurd h1 (Nat.not_lt_zero _)) X.prog X.w _ _ ⟨.bl true, H, I, rfl, q⟩
  | cons _ _ => exact SeqAt.RcAt.lists_lengths p1.isList p2.isList (by simp) (by omega) X.prog X.w _ _ ⟨.bl false, H, I, rfl, q⟩
theorem neE (hu : X.A.units + 64 < cLine) (h : X.K = K := by rfl) : OpR X (compareOp .NotEq) (rNeE K) := by
  subst h
  intro pins s σ H x y v u Q I rx ry h
  obtain ⟨a, b, xs, rfl, rfl, hx, hy, q⟩ := h
  obtain rfl : v = Value.ref a := rx
  obtain rfl : u = Value.ref b := ry
  obtain ⟨us, r1, p1, _⟩ := I.list hx
  obtain ⟨ws, r2, p2, _⟩ := I.list hy
  cases r2
  cases r1 with
  | nil => exact SeqAt.RcNeAt.lists (e := fun _ => true) p1.isList p2.isList rfl (by omega) (fun j h1 _ => absurd h1 (Nat.not_lt_zero _)) X.prog X.w _ _ ⟨.bl false, H, I, rfl, q⟩
  | cons _ _ => exact SeqAt.RcNeAt.lists_lengths p1.isList p2.isList (by simp) (by omega) X.prog X.w _ _ ⟨.bl true, H, I, rfl, q⟩
theorem pe_revK {e : Expr} {te : TE} {k : Nat} {p1 p2 p3 pos : Pos} (he : PE X e te) (h : X.K = K := by rfl) : PE X (.Subscript e (.Slice none none (some (.UnaryOp .USub (.Constant (.int 1) k p1) p2)) p3) pos) (tRevL K te) := h ▸ pe_revL he
end
/-! ### what is a worth, a key, a name, a row of keys, a reference: of things of any kind -/
def wD : D → Bool
  | .str z => (tl z).all sgn
  | _ => false
def lenD : D → Nat
  | .str z => (tl z).length
  | .tup l => l.length
  | _ => 0
def kD (d : D) : Bool := wD d && (decide (1 ≤ lenD d) && decide (lenD d ≤ 40))
def nD : D → Bool
  | .str z => (decide (1 ≤ (tl z).length) && decide ((tl z).length ≤ 8)) && (tl z).all AZ
  | _ => false
def rowD : D → Bool
  | .tup l => decide (l.length ≤ 6) && l.all kD
  | _ => false
def refD : D → Bool
  | .tup [x, y] => nD x && rowD y
  | _ => false
def spD (f : D → Bool) (K : PySem.W.Frag) (cs : Tabs) : Sp := fun vs H Q _ => ∃ (v : V) (d : D) (n : Nat) (av : Addr → Prop), vs = [v] ∧ Th K av n H v d ∧ AvL av H ∧ n ≤ 10 ∧ TGs H cs ∧ ∀ H', Sm H H' → Q (.bl (f d)) H'
theorem str_of {K : PySem.W.Frag} {av : Addr → Prop} {n : Nat} {H : Hp} {v : V} {d : D} (h : Th K av n H v d) (c : d.isStr = true) : ∃ z, v = .str z ∧ d = .str z ∧ (tl z).length ≤ 400 + n ∧ ∀ c ∈ tl z, c < 128 := by
  cases h with
  | str z h1 h2 => exact ⟨z, rfl, rfl, h1, h2⟩
  | _ => cases c
theorem tup_of {K : PySem.W.Frag} {av : Addr → Prop} {n : Nat} {H : Hp} {v : V} {d : D} (h : Th K av n H v d) (c : d.isTup = true) : ∃ a xs ds, v = .ref a ∧ d = .tup ds ∧ SqT K H a xs ∧ xs.length ≤ 40 + n ∧ ThAll K av n H xs ds := by
  cases h with
  | tup h1 h2 h3 => exact ⟨_, _, _, rfl, rfl, h1, h2, h3⟩
  | _ => cases c
theorem lt1 (a b : Nat) : decide ([a] < [b]) = decide (a < b) := by
  by_cases h : a < b
  · rw [decide_eq_true h]
    exact decide_eq_true (List.Lex.rel h)
  · rw [decide_eq_false h]
    refine decide_eq_false fun c => h ?_
    cases c with
    | rel q => exact q
    | cons q => cases q
theorem two_of {K : PySem.W.Frag} {av : Addr → Prop} {n : Nat} {H : Hp} {xs : List V} {ds : List D} (h : ThAll K av n H xs ds) (hl : lenD (.tup ds) = 2) : ∃ x y, xs = [x, y] ∧ ∃ d e, ds = [d, e] ∧ Th K av n H x d ∧ Th K av n H y e := by
  have hl : ds.length = 2 := hl
  cases h with
  | nil => cases hl
  | cons h1 t =>
    cases t with
    | nil => cases hl
    | cons h2 t =>
      cases t with
      | nil => exact ⟨_, _, rfl, _, _, rfl, h1, h2⟩
      | cons h3 t => simp at hl
/-- all(.. for x in tuple) -/
theorem all_tup {K : PySem.W.Frag} {av : Addr → Prop} {n : Nat} {p a : Addr} {te0 te : TE} {i : Nat} {σ : L2.St} {H : Hp} {Q : VK} {xs : List V} {ds : List D} (pb : D → Bool) (A1 : AvL av H) (h1 : SqT K H a xs) (hx : ThAll K av n H xs ds) (h0 : ∀ R : VK, R (.ref a) H → te0 σ H R) (ht : Tb H p)
    (he : ∀ (x : V) (d : D) (H2 : Hp) (R : VK), Th K av n H2 x d → Sm H H2 → (∀ H3, Sm H2 H3 → R (.bl (pb d)) H3) → te ((σ.set i none).set i (some x)) H2 R) (q : ∀ H', Sm H H' → Q (.bl (ds.all pb)) H') : GA.tAllG p (iTup K te0) (gName i) te [i] σ H Q := by
  refine h0 _ ⟨a, rfl, ⟨xs, h1⟩, ht, fun H2 hT => ?_⟩
  have S2 : Sm H H2 := hT
  refine ⟨fun j m H' => Sm H H' ∧ j ≤ ds.length ∧ m = ds.length - j ∧ ∀ k d, k < j → ds[k]? = some d → pb d = true, ⟨_, S2, Nat.zero_le _, rfl, fun k c hk => absurd hk (Nat.not_lt_zero _)⟩, fun j m H' hw => ?_⟩
  obtain ⟨S, hj, rfl, hp⟩ := hw
  have len := hx.len
  by_cases hlt : j < ds.length
  · have hlx : j < xs.length := by omega
    obtain ⟨d, hd, hth⟩ := hx.at hlx
    refine .inr ⟨⟨xs, xs[j], Sm.seqT S h1, List.getElem?_eq_getElem hlx⟩, fun H'' => Sm H H'' ∧ pb d = true, fun H'' h => ⟨_, ?_, h.1, by omega, rfl, fun k c hk hc => ?_⟩, fun x H'' hy => ?_⟩
    · omega
    · by_cases e : k = j
      · subst e
        rw [hd] at hc
        rw [← Option.some.inj hc]
        exact h.2
      · exact hp k c (by omega) hc
    · obtain ⟨rfl, hy⟩ := hy
      have hxj := hy xs (Sm.seqT S h1)
      rw [List.getElem?_eq_getElem hlx] at hxj
      have ex := Option.some.inj hxj
      rw [ex] at hth
      refine ⟨?_, ?_⟩
      · show ((σ.set i none).set i (some x)).set i none = σ.set i none
        rw [List.set_set, List.set_set]
      · refine he x d H'' _ (hth.ko A1 (KO.sm S)) S fun H3 S3 => ⟨_, rfl, ?_⟩
        refine ite2 (fun e => ?_) (fun e => ?_)
        · exact ⟨S.trans S3, e⟩
        · have : ds.all pb = false := by
            cases q' : ds.all pb with
            | false => rfl
            | true => exact absurd (List.all_eq_true.mp q' d (List.mem_of_getElem? hd)) e
          have := this ▸ q H3 (S.trans S3)
          exact this
  · refine .inl ⟨⟨xs, Sm.seqT S h1, by omega⟩, ?_⟩
    have : ds.all pb = true := List.all_eq_true.mpr fun c hc => by
      obtain ⟨k, hk, e⟩ := List.mem_iff_getElem.mp hc
      exact hp k c (by omega) (by rw [List.getElem?_eq_getElem hk, e])
    have := this ▸ q H' S
    exact this
section
variable {P : Program} {w : World} {K : PySem.W.Frag} {mg : Str → Option Value} {base : Heap} {cs : Tabs}
theorem ok_is_worth (T : Txt K mg cs) (B : TBs base mg cs) : Cal P w K mg base 2 "is_worth" ["thing"] (spD wD K cs) := by
  refine T.f_is_worth.cal scIsWorth (fun vs H Q E h => ?_) (fun f A outer s H vs Q E hr h => ?_)
  · obtain ⟨v, d, n, av, rfl, _⟩ := h
    rfl
  obtain ⟨v, d, n, av, rfl, h, A1, hn, ht, q⟩ := h
  refine ⟨_, (pss_one (ps_ret (pe_and (pe_callB (isI K) rfl T.n_isinstance (by decide +kernel) (pa_cons (pv 0) (pa_cons (pe_bltn (v := .ty "str") rfl T.n_str (by decide +kernel) rfl) pa_nil))) (pe_one (GA.pe_allG (k := 0) (own := [("sign", 1)]) (g := gName 1) (hr.mono (by decide)) B.b_is_worth scIsWorth.nd (blkOk_by (own := [("sign", 1)]) (N := ["thing", "sign"]) (sc := defScope sIsWorth) (by decide +kernel)) (by decide +kernel) (pi_str (pv 0)) T.n_all (fun _ _ _ _ _ _ _ _ => (pg_name (i := 1) scIsWorth.nd rfl (by first | exact Or.inl rfl | exact Or.inr rfl))) (fun _ _ _ _ _ _ _ hr => (pe_and (pe_chain op_le_str op_le_str pe_str (pv 1) pe_str) (pe_one (pe_cmpR op_ne (pe_callB call_ord rfl T.n_ord (by decide +kernel) (pa_cons (pv 1) pa_nil)) (C8.pe_gc rfl T.g__PERCENT) (nomark _)))))))))), ?_⟩
  refine ⟨_, rfl, _, _, _, _, _, rfl, ClsV.ty "str", h.tyx, kitS d, _, rfl, ?_⟩
  refine ite2 (fun c => ?_) (fun c => ?_)
  · obtain ⟨z, rfl, rfl, hl, ha⟩ := str_of h c
    refine all_signs (i := 1) (z := z) sgn (fun R h => ⟨_, rfl, h⟩) ht.t_is_worth (fun c H2 R hc _ hR => ?_) q
    refine ⟨_, rfl, _, _, rfl, rfl, _, rfl, ?_⟩
    have e1 : (!decide (([c] : List Nat) < tl (" " : Str))) = decide (32 ≤ c) := by
      rw [show tl (" " : Str) = [32] by decide +kernel, lt1]
      by_cases h : 32 ≤ c
      · rw [decide_eq_true h, decide_eq_false (by omega)]; rfl
      · rw [decide_eq_false h, decide_eq_true (by omega)]; rfl
    have e2 : (!decide (tl ("~" : Str) < ([c] : List Nat))) = decide (c ≤ 126) := by
      rw [show tl ("~" : Str) = [126] by decide +kernel, lt1]
      by_cases h : c ≤ 126
      · rw [decide_eq_true h, decide_eq_false (by omega)]; rfl
      · rw [decide_eq_false h, decide_eq_true (by omega)]; rfl
    have no : ∀ {b : Bool}, sgn c = b → b = false → R (.bl false) H2 := fun e1 e2 => by
      have := hR H2 (Sm.refl H2)
      rw [e1, e2] at this
      exact this
    have s0 : sgn c = (decide (32 ≤ c) && (decide (c ≤ 126) && !decide (c = 37))) := rfl
    refine ite2 (fun c1 => ?_) (fun c1 => ?_)
    · have c1' : decide (32 ≤ c) = true := e1 ▸ c1
      refine ⟨_, _, rfl, rfl, _, rfl, ?_⟩
      refine ite2 (fun c2 => ?_) (fun c2 => ?_)
      · have c2' : decide (c ≤ 126) = true := e2 ▸ c2
        refine ⟨_, rfl, ⟨#[c]⟩, rfl, rfl, rfl, ?_⟩
        have e3 : (!decide (V.int (((⟨#[c]⟩ : Str).cps.getD 0 0 : Nat) : Int) = V.int 37)) = sgn c := by
          rw [s0, c1', c2', Bool.true_and, Bool.true_and]
          show (!decide (V.int (c : Int) = V.int 37)) = !decide (c = 37)
          by_cases h : c = 37
          · subst h; rfl
          · rw [decide_eq_false h, decide_eq_false]
            intro e
            injection e with e
            exact h (by omega)
        have := hR H2 (Sm.refl H2)
        rw [← e3] at this
        exact this
      · refine no s0 ?_
        have c2' : ¬ decide (c ≤ 126) = true := e2 ▸ c2
        rw [Bool.eq_false_iff.mpr c2', Bool.false_and, Bool.and_false]
    · refine ⟨_, rfl, iteF (no s0 ?_)⟩
      have c1' : ¬ decide (32 ≤ c) = true := e1 ▸ c1
      rw [Bool.eq_false_iff.mpr c1', Bool.false_and]
  · have : wD d = false := by
      cases d <;> first | rfl | exact absurd rfl c
    have q' := q H (Sm.refl H)
    rw [this] at q'
    exact q'
theorem ok_is_key (T : Txt K mg cs) (Cis_worth : Cal P w K mg base 2 "is_worth" ["thing"] (spD wD K cs)) : Cal P w K mg base 3 "is_key" ["thing"] (spD kD K cs) := by
  refine T.f_is_key.cal scIsKey (fun vs H Q E h => ?_) (fun f cdv A outer s H vs Q E hr h => ?_)
  · obtain ⟨v, d, n, av, rfl, _⟩ := h
    rfl
  obtain ⟨v, d, n, av, rfl, h, A1, hn, ht, q⟩ := h
  refine ⟨_, (pss_one (ps_ret (pe_and (pe_cal Cis_worth (hr.mono (by first | decide | omega)) (pa_cons (pv 0) pa_nil)) (pe_one (pe_chain op_le op_le pe_int (pe_callB lenT rfl T.n_len (by decide +kernel) (pa_cons (pv 0) pa_nil)) (C8.pe_gc rfl T.g__LONGEST_KEY)))))), ?_⟩
  refine ⟨_, rfl, v, d, n, av, rfl, h, A1, hn, ht, fun H1 S1 => ⟨_, rfl, ?_⟩⟩
  have q := q H1 S1
  refine ite2 (fun c => ?_) (fun c => ?_)
  · obtain ⟨z, rfl, rfl, hl, ha⟩ := str_of h (by cases d <;> first | rfl | cases c)
    have ez : z.length = (tl z).length := len_tl z
    have zl : z.length ≤ sizeLine := by rw [ez]; exact small (by omega)
    have e : kD (.str z) = (decide ((1 : Int) ≤ z.length) && decide ((z.length : Int) ≤ 40)) := by
      unfold kD
      rw [c, Bool.true_and]
      show (decide (1 ≤ (tl z).length) && decide ((tl z).length ≤ 40)) = _
      rw [ez]
      congr 1 <;> (rw [decide_eq_decide]; omega)
    rw [e] at q
    refine ⟨_, rfl, z, rfl, zl, _, _, rfl, rfl, _, rfl, ?_⟩
    refine ite2 (fun c1 => ?_) (fun c1 => ?_)
    · rw [c1, Bool.true_and] at q
      exact ⟨_, _, rfl, rfl, q⟩
    · rw [Bool.eq_false_iff.mpr c1, Bool.false_and] at q
      exact q
  · have : kD d = false := by
      unfold kD
      rw [Bool.eq_false_iff.mpr c, Bool.false_and]
    rw [this] at q
    exact q
theorem ok_is_name (T : Txt K mg cs) (B : TBs base mg cs) : Cal P w K mg base 2 "is_name" ["thing"] (spD nD K cs) := by
  refine T.f_is_name.cal scIsName (fun vs H Q E h => ?_) (fun f A outer s H vs Q E hr h => ?_)
  · obtain ⟨v, d, n, av, rfl, _⟩ := h
    rfl
  obtain ⟨v, d, n, av, rfl, h, A1, hn, ht, q⟩ := h
  refine ⟨_, (pss_cons (ps_if (PW.pt (pw_or (pt_not (pt_val (pe_callB (isI K) rfl T.n_isinstance (by decide +kernel) (pa_cons (pv 0) (pa_cons (pe_bltn (v := .ty "str") rfl T.n_str (by decide +kernel) rfl) pa_nil))))) (pw_or1 (pt_not (pt_chain op_le op_le pe_int (pe_callB lenT rfl T.n_len (by decide +kernel) (pa_cons (pv 0) pa_nil)) (C8.pe_gc rfl T.g__LONGEST_NAME)))))) (pss_one (ps_ret pe_bl)) pss_nil)
    (pss_one (ps_ret (GA.pe_allG (k := 0) (own := [("sign", 1)]) (g := gName 1) (hr.mono (by decide)) B.b_is_name scIsName.nd (blkOk_by (own := [("sign", 1)]) (N := ["thing", "sign"]) (sc := defScope sIsName) (by decide +kernel)) (by decide +kernel) (pi_str (pv 0)) T.n_all (fun _ _ _ _ _ _ _ _ => (pg_name (i := 1) scIsName.nd rfl (by first | exact Or.inl rfl | exact Or.inr rfl))) (fun _ _ _ _ _ _ _ hr => (pe_chain op_le_str op_le_str pe_str (pv 1) pe_str)))))), ?_⟩
  dsimp only [gName, tSeq, tAsg, tRet, tDrop, tNext, tOp, tIfS, tTest]
  refine ⟨_, rfl, _, _, _, _, _, rfl, ClsV.ty "str", h.tyx, kitS d, _, rfl, ?_⟩
  cases hs : d.isStr with
  | false =>
    refine iteT ?_
    have : nD d = false := by
      cases d <;> first | rfl | cases hs
    have q' := q H (Sm.refl H)
    rw [this] at q'
    exact q'
  | true =>
    refine iteF ?_
    obtain ⟨z, rfl, rfl, hl, ha⟩ := str_of h hs
    have ez : z.length = (tl z).length := len_tl z
    have zl : z.length ≤ sizeLine := by rw [ez]; exact small (by omega)
    have e : nD (.str z) = ((decide ((1 : Int) ≤ z.length) && decide ((z.length : Int) ≤ 8)) && (tl z).all AZ) := by
      show ((decide (1 ≤ (tl z).length) && decide ((tl z).length ≤ 8)) && (tl z).all AZ) = _
      rw [ez]
      congr 2 <;> (rw [decide_eq_decide]; omega)
    rw [e] at q
    refine ⟨_, rfl, z, rfl, zl, _, _, rfl, rfl, _, rfl, ?_⟩
    refine ite2 (fun c1 => ?_) (fun c1 => ?_)
    · rw [c1, Bool.true_and] at q
      refine ⟨_, _, rfl, rfl, _, rfl, ?_⟩
      refine ite2 (fun c2 => ?_) (fun c2 => ?_)
      · have c2' : decide ((z.length : Int) ≤ 8) = false := by simpa using c2
        rw [c2', Bool.false_and] at q
        exact q H (Sm.refl H)
      · have c2' : decide ((z.length : Int) ≤ 8) = true := by
          cases e : decide ((z.length : Int) ≤ 8) with
          | true => rfl
          | false => exact absurd (by rw [e]; rfl) c2
        rw [c2', Bool.true_and] at q
        refine all_signs (i := 1) (z := z) AZ (fun R h => ⟨_, rfl, h⟩) ht.t_is_name (fun c H2 R hc _ hR => ?_) q
        have s0 : AZ c = (decide (97 ≤ c) && decide (c ≤ 122)) := rfl
        have e1 : (!decide (([c] : List Nat) < tl ("a" : Str))) = decide (97 ≤ c) := by
          rw [show tl ("a" : Str) = [97] by decide +kernel, lt1]
          by_cases h : 97 ≤ c
          · rw [decide_eq_true h, decide_eq_false (by omega)]; rfl
          · rw [decide_eq_false h, decide_eq_true (by omega)]; rfl
        have e2 : (!decide (tl ("z" : Str) < ([c] : List Nat))) = decide (c ≤ 122) := by
          rw [show tl ("z" : Str) = [122] by decide +kernel, lt1]
          by_cases h : c ≤ 122
          · rw [decide_eq_true h, decide_eq_false (by omega)]; rfl
          · rw [decide_eq_false h, decide_eq_true (by omega)]; rfl
        have hR := hR H2 (Sm.refl H2)
        rw [s0, ← e1, ← e2] at hR
        refine ⟨_, rfl, _, _, rfl, rfl, _, rfl, ?_⟩
        refine ite2 (fun c1 => ?_) (fun c1 => ?_)
        · have c1' : (!decide (([c] : List Nat) < tl ("a" : Str))) = true := c1
          rw [c1', Bool.true_and] at hR
          exact ⟨_, _, rfl, rfl, hR⟩
        · have c1' : ¬ (!decide (([c] : List Nat) < tl ("a" : Str))) = true := c1
          rw [Bool.eq_false_iff.mpr c1', Bool.false_and] at hR
          exact hR
    · rw [Bool.eq_false_iff.mpr c1, Bool.false_and, Bool.false_and] at q
      exact ⟨_, rfl, iteT (q H (Sm.refl H))⟩
theorem ok_is_pair (T : Txt K mg cs) : Cal P w K mg base 1 "is_pair" ["thing"] (spD (fun d => d.isTup && decide (lenD d = 2)) K cs) := by
  refine T.f_is_pair.cal scIsPair (fun vs H Q E h => ?_) (fun f cdv A outer s H vs Q E hr h => ?_)
  · obtain ⟨v, d, n, av, rfl, _⟩ := h
    rfl
  obtain ⟨v, d, n, av, rfl, h, A1, hn, ht, q⟩ := h
  refine ⟨_, (pss_one (ps_ret (pe_and (pe_callB (isI K) rfl T.n_isinstance (by decide +kernel) (pa_cons (pv 0) (pa_cons (pe_bltn (v := .ty "tuple") rfl T.n_tuple (by decide +kernel) rfl) pa_nil))) (pe_one (pe_cmpR op_eq (pe_callB (lenQ K) rfl T.n_len (by decide +kernel) (pa_cons (pv 0) pa_nil)) pe_int (nomark _)))))), ?_⟩
  refine ⟨_, rfl, _, _, _, _, _, rfl, ClsV.ty "tuple", h.tyx, kitT d, _, rfl, ?_⟩
  have q : Q (.bl (d.isTup && decide (lenD d = 2))) H := q H (Sm.refl H)
  refine ite2 (fun c => ?_) (fun c => ?_)
  · obtain ⟨a, xs, ds, rfl, rfl, h1, h2, h3⟩ := tup_of h c
    refine ⟨_, rfl, a, xs, rfl, .inr h1, rfl, ?_⟩
    have e : decide (V.int (xs.length : Int) = V.int 2) = ((D.tup ds).isTup && decide (lenD (.tup ds) = 2)) := by
      show _ = (true && decide (ds.length = 2))
      rw [Bool.true_and, decide_eq_decide, ← h3.len]
      exact ⟨fun e => by injection e with e; omega, fun e => by rw [e]; rfl⟩
    rw [e]
    exact q
  · rw [Bool.eq_false_iff.mpr c, Bool.false_and] at q
    exact q
theorem ok_is_row (T : Txt K mg cs) (B : TBs base mg cs) (Cis_key : Cal P w K mg base 3 "is_key" ["thing"] (spD kD K cs)) : Cal P w K mg base 5 "is_row" ["thing"] (spD rowD K cs) := by
  refine T.f_is_row.cal scIsRow (fun vs H Q E h => ?_) (fun f A outer s H vs Q E hr h => ?_)
  · obtain ⟨v, d, n, av, rfl, _⟩ := h
    rfl
  obtain ⟨v, d, n, av, rfl, h, A1, hn, ht, q⟩ := h
  refine ⟨_, (pss_one (ps_ret (pe_and (pe_callB (isI K) rfl T.n_isinstance (by decide +kernel) (pa_cons (pv 0) (pa_cons (pe_bltn (v := .ty "tuple") rfl T.n_tuple (by decide +kernel) rfl) pa_nil))) (pe_and (pe_cmpR op_le (pe_callB (lenQ K) rfl T.n_len (by decide +kernel) (pa_cons (pv 0) pa_nil)) (C8.pe_gc rfl T.g_MOST_KEYS) (nomark _)) (pe_one (GA.pe_allG (k := 3) (own := [("key", 1)]) (g := gName 1) (hr.mono (by decide)) B.b_is_row scIsRow.nd (blkOk_by (own := [("key", 1)]) (N := ["thing", "key"]) (sc := defScope sIsRow) (by decide +kernel)) (by decide +kernel) (pi_tup (pv 0)) T.n_all (fun _ _ _ _ _ _ _ _ => (pg_name (i := 1) scIsRow.nd rfl (by first | exact Or.inl rfl | exact Or.inr rfl))) (fun _ _ _ _ _ _ _ hr => (pe_cal Cis_key (hr.mono (by first | decide | omega)) (pa_cons (pv 1) pa_nil))))))))), ?_⟩
  refine ⟨_, rfl, _, _, _, _, _, rfl, ClsV.ty "tuple", h.tyx, kitT d, _, rfl, ?_⟩
  refine ite2 (fun c => ?_) (fun c => ?_)
  · obtain ⟨a, xs, ds, rfl, rfl, h1, h2, h3⟩ := tup_of h c
    have e : rowD (.tup ds) = (decide ((xs.length : Int) ≤ 6) && ds.all kD) := by
      show (decide (ds.length ≤ 6) && ds.all kD) = _
      rw [← h3.len]
      congr 1
      rw [decide_eq_decide]
      omega
    rw [e] at q
    refine ⟨_, rfl, a, xs, rfl, .inr h1, _, _, rfl, rfl, _, rfl, ?_⟩
    refine ite2 (fun c1 => ?_) (fun c1 => ?_)
    · rw [c1, Bool.true_and] at q
      refine all_tup (i := 1) (a := a) (xs := xs) (ds := ds) kD A1 h1 h3 (fun R h => ⟨_, rfl, h⟩) ht.t_is_row (fun x d H2 R hd S hR => ?_) q
      exact ⟨_, rfl, x, d, n, av, rfl, hd, A1.sm S, hn, ht.sm S, hR⟩
    · rw [Bool.eq_false_iff.mpr c1, Bool.false_and] at q
      exact q H (Sm.refl H)
  · have : rowD d = false := by
      cases d <;> first | rfl | exact absurd rfl c
    have q' := q H (Sm.refl H)
    rw [this] at q'
    exact q'
theorem ok_is_reference (T : Txt K mg cs) (Cis_pair : Cal P w K mg base 1 "is_pair" ["thing"] (spD (fun d => d.isTup && decide (lenD d = 2)) K cs)) (Cis_name : Cal P w K mg base 2 "is_name" ["thing"] (spD nD K cs)) (Cis_row : Cal P w K mg base 5 "is_row" ["thing"] (spD rowD K cs)) :
    Cal P w K mg base 6 "is_reference" ["thing"] (spD refD K cs) := by
  refine T.f_is_reference.cal scIsReference (fun vs H Q E h => ?_) (fun f cdv A outer s H vs Q E hr h => ?_)
  · obtain ⟨v, d, n, av, rfl, _⟩ := h
    rfl
  obtain ⟨v, d, n, av, rfl, h, A1, hn, ht, q⟩ := h
  refine ⟨_, (pss_one (ps_ret (pe_and (pe_cal Cis_pair (hr.mono (by first | decide | omega)) (pa_cons (pv 0) pa_nil)) (pe_and (pe_cal Cis_name (hr.mono (by first | decide | omega)) (pa_cons (pe_ix (ixT K) (pv 0) pe_int (fun _ _ => rfl)) pa_nil)) (pe_one (pe_cal Cis_row (hr.mono (by first | decide | omega)) (pa_cons (pe_ix (ixT K) (pv 0) pe_int (fun _ _ => rfl)) pa_nil))))))), ?_⟩
  refine ⟨_, rfl, v, d, n, av, rfl, h, A1, hn, ht, fun H1 S1 => ⟨_, rfl, ?_⟩⟩
  refine ite2 (fun c => ?_) (fun c => ?_)
  · have c := (Bool.and_eq_true _ _).mp c
    obtain ⟨a, xs, ds, rfl, rfl, h1, h2, h3⟩ := tup_of h c.1
    obtain ⟨x, y, rfl, d1, d2, rfl, hx, hy⟩ := two_of h3 (of_decide_eq_true c.2)
    refine ⟨_, rfl, a, _, 0, x, rfl, rfl, Sm.seqT S1 h1, rfl, x, d1, n, av, rfl, hx.ko A1 (KO.sm S1), A1.sm S1, hn, ht.sm S1, fun H2 S2 => ⟨_, rfl, ?_⟩⟩
    have S12 := S1.trans S2
    refine ite2 (fun c1 => ?_) (fun c1 => ?_)
    · refine ⟨_, rfl, a, _, 1, y, rfl, rfl, Sm.seqT S12 h1, rfl, y, d2, n, av, rfl, hy.ko A1 (KO.sm S12), A1.sm S12, hn, ht.sm S12, fun H3 S3 => ?_⟩
      have := q H3 (S12.trans S3)
      have e : refD (.tup [d1, d2]) = rowD d2 := by
        show (nD d1 && rowD d2) = _
        rw [c1, Bool.true_and]
      rw [e] at this
      exact this
    · have := q H2 S12
      have e : refD (.tup [d1, d2]) = false := by
        show (nD d1 && rowD d2) = _
        rw [Bool.eq_false_iff.mpr c1, Bool.false_and]
      rw [e] at this
      exact this
  · have : refD d = false := by
      unfold refD
      split
      · exact absurd rfl c
      · rfl
    have q' := q H1 S1
    rw [this] at q'
    exact q'
end
/-! ### texts, keys and references as things -/
theorem WT.asc {z : Str} {n : Nat} (h : WT z n) : ∀ c ∈ tl z, c < 128 := fun c hc => by
  have q := h.sg c hc
  unfold sgn at q
  rw [Bool.and_eq_true, Bool.and_eq_true] at q
  have := of_decide_eq_true q.2.1
  omega
theorem th_keys {K : PySem.W.Frag} {av : Addr → Prop} {n : Nat} {H : Hp} : ∀ {ks : List Str}, (∀ z ∈ ks, KEY z) → ThAll K av n H (ks.map V.str) (ks.map D.str)
  | [], _ => .nil
  | z :: r, h => .cons (.str z (by have := (h z List.mem_cons_self).wt.len; omega) (h z List.mem_cons_self).wt.asc) (th_keys fun y hy => h y (List.mem_cons_of_mem _ hy))
theorem th_ref {K : PySem.W.Frag} {av : Addr → Prop} {n : Nat} {H : Hp} {p : Addr} {nm : Str} {ks : List Str} (R : RefAt K H p nm ks) (O : REF nm ks) : Th K av n H (.ref p) (.tup [.str nm, .tup (ks.map D.str)]) := by
  obtain ⟨t, h1, h2⟩ := R.ex
  have hn : ∀ c ∈ tl nm, c < 128 := fun c hc => by
    have q := O.nm.sg c hc
    unfold AZ at q
    rw [Bool.and_eq_true] at q
    have := of_decide_eq_true q.2
    omega
  refine .tup h1 (by show 2 ≤ 40 + n; omega) (.cons (.str nm (by have := O.nm.len; omega) hn) (.cons (.tup h2 ?_ (th_keys O.ks)) .nil))
  rw [List.length_map]
  have := O.le
  omega
/-! ### arrays -/
/-- the arrays at arr have the tree S -/
structure ArrAt (cs : Tabs) (H : Hp) (arr : Addr) (S : Sh) (m : Nat) : Prop where
  it : ∃ (dx : Addr) (n : Nd), H arr = some (.ins cs.a_Arrays dx [("_tree", .ref n.a)]) ∧ S.N [] = some n
  th : TreeH cs.a_Tree H S m
  ok : ShOk S
  full : Full S
theorem ArrAt.apart {cs : Tabs} {H : Hp} {arr : Addr} {S : Sh} {m : Nat} (A : ArrAt cs H arr S m) (ne : cs.a_Arrays ≠ cs.a_Tree) : ¬ Own S arr := fun z => by
  obtain ⟨dx, n, h, _⟩ := A.it
  obtain ⟨p, x, e, z⟩ := z
  have B := A.th.at_ p x e
  obtain ⟨kvs, g, _⟩ := B.dic
  rcases z with rfl | rfl | rfl
  · rw [B.ins] at h
    injection h with h
    injection h with h
    exact ne h.symm
  · rw [B.row] at h; cases h
  · rw [g] at h; cases h
theorem ArrAt.keep {cs : Tabs} {H H' : Hp} {arr : Addr} {S : Sh} {m : Nat} (A : ArrAt cs H arr S m) (k : ∀ a o, (Own S a ∨ a = arr) → H a = some o → notTbl o = true → H' a = some o) : ArrAt cs H' arr S m := by
  obtain ⟨dx, n, h, hn⟩ := A.it
  exact ⟨⟨dx, n, k _ _ (.inr rfl) h rfl, hn⟩, A.th.keep fun a o h => k a o (.inl h), A.ok, A.full⟩
theorem ArrAt.sm {cs : Tabs} {H H' : Hp} {arr : Addr} {S : Sh} {m : Nat} (A : ArrAt cs H arr S m) (s : Sm H H') : ArrAt cs H' arr S m := A.keep fun a o _ h n => s.keep a o h n
theorem ArrAt.ch {cs : Tabs} {W : Addr → Prop} {H H' : Hp} {arr : Addr} {S : Sh} {m : Nat} (A : ArrAt cs H arr S m) (c : Ch W H H') (w : ∀ a, Own S a ∨ a = arr → ¬ W a) : ArrAt cs H' arr S m := A.keep fun a o h e n => c.keep0 a o (w a h) e n
theorem TGs.ch {W : Addr → Prop} {H H' : Hp} {cs : Tabs} (t : TGs H cs) (c : Ch W H H') : TGs H' cs := TGs.tabs t c.tab
/-- references: both tuples are tracked -/
structure RefT (H : Hp) (p : Addr) (nm : Str) (ks : List Str) : Prop where
  ex : ∃ t, H p = some (.tup [.str nm, .ref t]) ∧ H t = some (.tup (ks.map V.str))
theorem RefT.at_ {K : PySem.W.Frag} {H : Hp} {p : Addr} {nm : Str} {ks : List Str} (R : RefT H p nm ks) : RefAt K H p nm ks := by
  obtain ⟨t, h1, h2⟩ := R.ex
  exact ⟨t, SqT.of h1, SqT.of h2⟩
theorem RefT.keep {H H' : Hp} {p : Addr} {nm : Str} {ks : List Str} (R : RefT H p nm ks) (k : ∀ a vs, H a = some (.tup vs) → H' a = some (.tup vs)) : RefT H' p nm ks := by
  obtain ⟨t, h1, h2⟩ := R.ex
  exact ⟨t, k _ _ h1, k _ _ h2⟩
def spNeedRef (K : PySem.W.Frag) (cs : Tabs) : Sp := fun vs H Q _ => ∃ (p : Addr) (nm : Str) (ks : List Str), vs = [.ref p] ∧ RefAt K H p nm ks ∧ REF nm ks ∧ TGs H cs ∧ ∀ H', Sm H H' → Q .non H'
def spNeedWorth (cs : Tabs) : Sp := fun vs H Q _ => ∃ z : Str, vs = [.str z] ∧ WT z 400 ∧ TGs H cs ∧ ∀ H', Sm H H' → Q .non H'
def spPath (K : PySem.W.Frag) : Sp := fun vs H Q _ => ∃ (p : Addr) (nm : Str) (ks : List Str), vs = [.ref p] ∧ RefAt K H p nm ks ∧ ks.length ≤ 1000 ∧ ∀ t H', Sm H H' → H' t = some (.tup ((nm :: ks).map V.str)) → Q (.ref t) H'
theorem all_true {α : Type} {p : α → Bool} : ∀ {l : List α}, (∀ x ∈ l, p x = true) → l.all p = true := fun h => List.all_eq_true.mpr h
theorem ref_true {nm : Str} {ks : List Str} (O : REF nm ks) : refD (.tup [.str nm, .tup (ks.map D.str)]) = true := by
  show (((decide (1 ≤ (tl nm).length) && decide ((tl nm).length ≤ 8)) && (tl nm).all AZ) && (decide ((ks.map D.str).length ≤ 6) && (ks.map D.str).all kD)) = true
  rw [decide_eq_true O.nm.pos, decide_eq_true O.nm.len, all_true O.nm.sg, List.length_map, decide_eq_true O.le, all_true fun d hd => ?_]
  · rfl
  · obtain ⟨z, hz, rfl⟩ := List.mem_map.mp hd
    have kz := O.ks z hz
    show ((tl z).all sgn && (decide (1 ≤ (tl z).length) && decide ((tl z).length ≤ 40))) = true
    rw [all_true kz.wt.sg, decide_eq_true kz.pos, decide_eq_true kz.wt.len]
    rfl
section
variable {P : Program} {w : World} {K : PySem.W.Frag} {mg : Str → Option Value} {base : Heap} {cs : Tabs}
theorem ne_arr (T : Txt K mg cs) : cs.a_Arrays ≠ cs.a_Tree := fun z => by
  have h := T.nc
  rw [z] at h
  simp at h
theorem ok_need_reference (T : Txt K mg cs) (Cis_reference : Cal P w K mg base 6 "is_reference" ["thing"] (spD refD K cs)) : Cal P w K mg base 7 "need_reference" ["thing"] (spNeedRef K cs) := by
  refine T.f_need_reference.cal scNeedReference (fun vs H Q E h => ?_) (fun f cdv A outer s H vs Q E hr h => ?_)
  · obtain ⟨p, nm, ks, rfl, _⟩ := h
    rfl
  obtain ⟨p, nm, ks, rfl, R, O, hT, q⟩ := h
  refine ⟨_, (pss_one (ps_if (pt_not (pt_val (pe_cal Cis_reference (hr.mono (by first | decide | omega)) (pa_cons (pv 0) pa_nil)))) (pss_one ps_dead) pss_nil)), ?_⟩
  refine run_ifE ⟨_, rfl, .ref p, _, 0, fun _ => False, rfl, th_ref R O, fun _ z => z.elim, by decide, hT, fun H1 S1 => ⟨_, rfl, ?_⟩⟩
  rw [ref_true O]
  exact iteF (q H1 S1)
theorem ok_need_worth (T : Txt K mg cs) (Cis_worth : Cal P w K mg base 2 "is_worth" ["thing"] (spD wD K cs)) : Cal P w K mg base 3 "need_worth" ["thing"] (spNeedWorth cs) := by
  refine T.f_need_worth.cal scNeedWorth (fun vs H Q E h => ?_) (fun f cdv A outer s H vs Q E hr h => ?_)
  · obtain ⟨z, rfl, _⟩ := h
    rfl
  obtain ⟨z, rfl, W, hT, q⟩ := h
  refine ⟨_, (pss_one (ps_if (pt_not (pt_val (pe_cal Cis_worth (hr.mono (by first | decide | omega)) (pa_cons (pv 0) pa_nil)))) (pss_one ps_dead) pss_nil)), ?_⟩
  refine run_ifE ⟨_, rfl, .str z, .str z, 0, fun _ => False, rfl, .str z W.len W.asc, fun _ z => z.elim, by decide, hT, fun H1 S1 => ⟨_, rfl, ?_⟩⟩
  rw [show wD (.str z) = true from all_true W.sg]
  exact iteF (q H1 S1)
theorem ok_path (T : Txt K mg cs) : Cal P w K mg base 1 "_path" ["ref"] (spPath K) := by
  refine T.f_path.cal scPath (fun vs H Q E h => ?_) (fun f cdv A outer s H vs Q E hr h => ?_)
  · obtain ⟨p, nm, ks, rfl, _⟩ := h
    rfl
  obtain ⟨p, nm, ks, rfl, R, hl, q⟩ := h
  obtain ⟨t, h1, h2⟩ := R.ex
  refine ⟨_, (pss_one (ps_ret (pe_op (catA K) (pe_tup (pa_cons (pe_ix (ixT K) (pv 0) pe_int (fun _ _ => rfl)) pa_nil)) (pe_ix (ixT K) (pv 0) pe_int (fun _ _ => rfl))))), ?_⟩
  refine run_ret (run_op ⟨_, rfl, p, _, 0, _, rfl, rfl, h1, rfl, (by show 1 ≤ sizeLine; decide), fun b hb => ⟨_, rfl, p, _, 1, _, rfl, rfl, Sm.seqT (Sm.new hb) h1, rfl, b, t, _, _, rfl, rfl, SqT.of upd_same, Sm.seqT (Sm.new hb) h2, ?_, fun e => (nomatch e), fun _ e => ?_, fun _ _ c hc => ?_⟩⟩)
  · rw [List.length_map]
    exact Nat.le_trans (show 1 + ks.length ≤ 2000 by omega) (by decide)
  · have e' : ks = [] := List.map_eq_nil_iff.mp e
    refine q b _ (Sm.new hb) ?_
    rw [e']
    exact upd_same
  · refine q c _ ((Sm.new hb).trans (Sm.new hc)) ?_
    exact upd_same
/-! #### the methods -/
def spArrays (cs : Tabs) : Sp := fun vs H Q _ => ∃ (arr dx : Addr), vs = [.ref arr] ∧ H arr = some (.ins cs.a_Arrays dx []) ∧
  ∀ (S : Sh) (H' : Hp), (∀ q, S.W q = none) → Made arr H H' → ArrAt cs H' arr S 0 → (∀ a, Own S a → H a = none) → Q .non H'
def spPut (K : PySem.W.Frag) (cs : Tabs) : Sp := fun vs H Q _ => ∃ (arr p : Addr) (z : Str) (S : Sh) (m : Nat) (nm : Str) (ks : List Str), vs = [.ref arr, .ref p, .str z] ∧ ArrAt cs H arr S m ∧ RefAt K H p nm ks ∧ REF nm ks ∧ WT z 400 ∧ m ≤ 80000 ∧ TGs H cs ∧
  ∀ (S' : Sh) (H' : Hp), (∀ q, S'.W q = if q = nm :: ks then some z else S.W q) → ArrAt cs H' arr S' (m + 7) → Went S S' H H' → Q .non H'
def orV (d : V) : Option Str → V
  | some z => .str z
  | none => d
def spRead (K : PySem.W.Frag) (cs : Tabs) : Sp := fun vs H Q _ => ∃ (arr p : Addr) (d : V) (S : Sh) (m : Nat) (nm : Str) (ks : List Str), vs = [.ref arr, .ref p, d] ∧ ArrAt cs H arr S m ∧ RefAt K H p nm ks ∧ REF nm ks ∧ TGs H cs ∧ ∀ H', Sm H H' → Q (orV d (S.W (nm :: ks))) H'
def dataOf (S : Sh) (p : List Str) : Int := if (S.N p).isSome = true then (if S.W p = none then 0 else 1) + (if S.R p = [] then 0 else 10) else 0
def spData (K : PySem.W.Frag) (cs : Tabs) : Sp := fun vs H Q _ => ∃ (arr p : Addr) (S : Sh) (m : Nat) (nm : Str) (ks : List Str), vs = [.ref arr, .ref p] ∧ ArrAt cs H arr S m ∧ RefAt K H p nm ks ∧ REF nm ks ∧ TGs H cs ∧ ∀ H', Sm H H' → Q (.int (dataOf S (nm :: ks))) H'
/-- what uproot tells of a place that was there: its tree -/
def spUproot (K : PySem.W.Frag) (cs : Tabs) : Sp := fun vs H Q _ => ∃ (arr p : Addr) (S : Sh) (m : Nat) (nm : Str) (ks : List Str), vs = [.ref arr, .ref p] ∧ ArrAt cs H arr S m ∧ RefAt K H p nm ks ∧ ks.length ≤ 6 ∧ m ≤ 90000 ∧
  (S.N (nm :: ks) = none → ∀ H', Sm H H' → Q .non H') ∧
  ∀ x, S.N (nm :: ks) = some x → ∀ (S' : Sh) (H' : Hp), (∀ q, S'.W q = if (nm :: ks).isPrefixOf q = true then none else S.W q) → ArrAt cs H' arr S' m → Went S S' H H' → TreeH cs.a_Tree H' (S.sub (nm :: ks)) m → (∀ q y, S'.N q = some y → S.N q = some y) → Q (.ref x.a) H'
def spKill (K : PySem.W.Frag) (cs : Tabs) : Sp := fun vs H Q _ => ∃ (arr p : Addr) (S : Sh) (m : Nat) (nm : Str) (ks : List Str), vs = [.ref arr, .ref p] ∧ ArrAt cs H arr S m ∧ RefAt K H p nm ks ∧ REF nm ks ∧ m ≤ 90000 ∧ cntAt S (nm :: ks) ≤ 100000 ∧ TGs H cs ∧
  ∀ (S' : Sh) (H' : Hp), (∀ q, S'.W q = if (nm :: ks).isPrefixOf q = true then none else S.W q) → ArrAt cs H' arr S' m → Went S S' H H' → Q (.int (cntAt S (nm :: ks) : Nat)) H'
def spNames (cs : Tabs) : Sp := fun vs H Q _ => ∃ (arr : Addr) (S : Sh) (m : Nat), vs = [.ref arr] ∧ ArrAt cs H arr S m ∧ ∀ l, H l = none → Q (.ref l) (upd H l (.lst ((S.R []).map V.str)))
def spCount (cs : Tabs) : Sp := fun vs H Q _ => ∃ (arr : Addr) (S : Sh) (m : Nat), vs = [.ref arr] ∧ ArrAt cs H arr S m ∧ (walkF 8 S []).length ≤ 100000 ∧ ∀ H', Sm H H' → Q (.int ((walkF 8 S []).length : Nat)) H'
theorem ok_arrays (T : Txt K mg cs) (CTree : CalC P w K mg base 1 "Tree" cs.a_Tree ["self"] [] (spTree cs.a_Tree)) : CalC P w K mg base 3 "Arrays" cs.a_Arrays ["self"] [] (spArrays cs) := by
  refine T.f_Arrays___init__.cal scArraysInit (fun vs H Q E h => ?_) (fun f cdv A outer s H vs Q E hr h => ?_)
  · obtain ⟨p, dx, rfl, _⟩ := h
    rfl
  obtain ⟨arr, dx, rfl, hp, q⟩ := h
  refine ⟨_, (pss_one (ps_fld (pv 0) (pe_calC0 CTree (hr.mono (by first | decide | omega))) rfl)), ?_⟩
  intro x d hx hd ne
  refine ⟨x, d, rfl, upd_same, fun r b H1 hr1 hb1 M1 i1 r1 b1 => ⟨rfl, ?_⟩⟩
  have S1 := Made.new hx hd ne M1
  have free : ∀ {y : Addr}, upd (upd H d (.own x)) x (.ins cs.a_Tree d []) y = none → H y = none := fun {y} h => by
    by_cases e1 : y = x
    · rw [e1, upd_same] at h
      cases h
    · rw [upd_ne e1] at h
      by_cases e2 : y = d
      · rw [e2, upd_same] at h
        cases h
      · rw [upd_ne e2] at h
        exact h
  refine ⟨_, rfl, arr, _, dx, _, rfl, S1 _ _ hp, T.cl_Arrays, T.no_Arrays__tree, (by decide), ?_⟩
  have xa : x ≠ arr := fun z => by rw [z, hp] at hx; cases hx
  have ra : r ≠ arr := fun z => by
    have := free hr1
    rw [z, hp] at this
    cases this
  have ba : b ≠ arr := fun z => by
    have := free hb1
    rw [z, hp] at this
    cases this
  let n : Nd := ⟨x, d, r, b⟩
  let S : Sh := ⟨fun q => if q = [] then some n else none, fun _ => none, fun _ => []⟩
  have only : ∀ q y, S.N q = some y → q = [] ∧ y = n := fun q y h => by
    have h' : (if q = [] then some n else none) = some y := h
    by_cases z : q = []
    · rw [if_pos z] at h'
      exact ⟨z, (Option.some.inj h').symm⟩
    · rw [if_neg z] at h'
      cases h'
  have onlyS : ∀ q k, ¬ (S.N (q ++ [k])).isSome = true := fun q k h => by
    obtain ⟨y, hy⟩ := Option.isSome_iff_exists.mp h
    exact snoc_nil (only _ _ hy).1
  refine q S _ (fun _ => rfl) (((Made.refl arr H).sm S1).put (S1 _ _ hp) rfl) ⟨⟨dx, n, upd_same, rfl⟩, ⟨fun q y h => ?_, fun q r y z h1 h2 _ => by rw [(only _ _ h1).1, (only _ _ h2).1], fun q r y z h1 h2 _ => by rw [(only _ _ h1).1, (only _ _ h2).1], fun q r y z h1 h2 _ => by rw [(only _ _ h1).1, (only _ _ h2).1]⟩,
    ⟨⟨n, rfl⟩, fun q y h k => ⟨fun h => (nomatch h), fun h => absurd h (onlyS q k)⟩, fun _ _ _ => .nil, fun q k h => absurd h (onlyS q k), fun _ _ => rfl, fun q k h => absurd h (onlyS q k), fun q h => ?_⟩, fun q k h => absurd h (onlyS q k)⟩ fun a h => ?_
  · obtain ⟨rfl, rfl⟩ := only q y h
    refine ⟨?_, ?_, ⟨[], ?_, fun k => ?_, Nat.le_refl _⟩, Nat.le_refl _⟩
    · rw [upd_ne xa]
      exact i1
    · rw [upd_ne ra]
      exact r1
    · rw [upd_ne ba]
      exact b1
    · show none = (if [] ++ [k] = [] then some n else none).map _
      rw [if_neg snoc_nil]
      rfl
  · obtain ⟨y, hy⟩ := Option.isSome_iff_exists.mp h
    rw [(only _ _ hy).1]
    exact Nat.zero_le _
  · obtain ⟨q, y, hy, h⟩ := h
    obtain ⟨_, rfl⟩ := only q y hy
    rcases h with rfl | rfl | rfl
    · exact hx
    · exact free hr1
    · exact free hb1
theorem ok_put (T : Txt K mg cs) (Cneed_reference : Cal P w K mg base 7 "need_reference" ["thing"] (spNeedRef K cs)) (Cneed_worth : Cal P w K mg base 3 "need_worth" ["thing"] (spNeedWorth cs)) (C_path : Cal P w K mg base 1 "_path" ["ref"] (spPath K))
    (CTree_plant : CalM P w K mg base 7 cs.a_Tree "plant" ["self", "path", "worth"] (spPlant K cs.a_Tree cs.p_is_number_text)) : CalM P w K mg base 8 cs.a_Arrays "put" ["self", "ref", "worth"] (spPut K cs) := by
  refine T.f_Arrays_put.cal scArraysPut (fun vs H Q E h => ?_) (fun f cdv A outer s H vs Q E hr h => ?_)
  · obtain ⟨_, _, _, _, _, _, _, rfl, _⟩ := h
    rfl
  obtain ⟨arr, p, z, S, m, nm, ks, rfl, A0, R, O, W, hm, hT, q⟩ := h
  refine ⟨_, (pss_cons (ps_expr (pe_cal Cneed_reference (hr.mono (by first | decide | omega)) (pa_cons (pv 1) pa_nil)))
    (pss_cons (ps_expr (pe_cal Cneed_worth (hr.mono (by first | decide | omega)) (pa_cons (pv 2) pa_nil)))
    (pss_one (ps_expr (pe_calM CTree_plant T.cl_Tree (hr.mono (by first | decide | omega)) (pe_fldK (K := K) (pv 0)) (pa_cons (pe_cal C_path (hr.mono (by first | decide | omega)) (pa_cons (pv 1) pa_nil)) (pa_cons (pv 2) pa_nil))))))), ?_⟩
  refine ⟨_, rfl, p, nm, ks, rfl, R, O, hT, fun H1 S1 => ⟨_, rfl, z, rfl, W, hT.sm S1, fun H2 S2 => ?_⟩⟩
  have S12 := S1.trans S2
  have A2 := A0.sm S12
  obtain ⟨dx, n, hi, hn⟩ := A2.it
  have Bn := A2.th.at_ _ _ hn
  refine ⟨_, rfl, arr, _, _, _, _, rfl, hi, T.cl_Arrays, T.no_Arrays__tree, rfl, n.a, n.dx, _, rfl, Bn.ins, rfl, _, rfl, p, nm, ks, rfl, R.same S12, Nat.le_trans O.le (by decide), fun t H3 S3 ht => ⟨_, rfl, ?_⟩⟩
  have A3 := A2.sm S3
  refine ⟨S, m, n, t, nm :: ks, z, rfl, A3.th, A3.ok, A3.full, hn, SqT.of ht, Nat.succ_le_succ O.le, fun k hk => ?_, Nat.le_trans hm (by decide), (hT.sm (S12.trans S3)).t_is_number_text, fun S' H4 W4 T4 O4 F4 n4 w4 => ?_⟩
  · rcases List.mem_cons.mp hk with rfl | hk
    · exact Nat.le_trans O.nm.len (by decide)
    · exact Nat.le_trans (O.ks k hk).wt.len (by decide)
  · have hl : (nm :: ks).length ≤ 7 := Nat.succ_le_succ O.le
    obtain ⟨dx3, n3, hi3, hn3⟩ := A3.it
    refine q S' H4 W4 ⟨⟨dx3, n3, ?_, ?_⟩, T4.mono (by omega), O4, F4⟩ ((Went.sm (S12.trans S3)).trans w4)
    · exact w4.ch.keep (A3.apart (ne_arr T)) hi3
    · rw [hn] at hn3
      cases hn3
      exact n4
end
/-! ### arrays: read, data -/
section
variable {P : Program} {w : World} {K : PySem.W.Frag} {mg : Str → Option Value} {base : Heap} {cs : Tabs}
theorem ok_read (T : Txt K mg cs) (Cneed_reference : Cal P w K mg base 7 "need_reference" ["thing"] (spNeedRef K cs)) (C_path : Cal P w K mg base 1 "_path" ["ref"] (spPath K))
    (CTree_at : CalM P w K mg base 1 cs.a_Tree "at" ["self", "path"] (spAt K cs.a_Tree)) : CalW P w K mg base 8 cs.a_Arrays "read" ["self", "ref", "otherwise"] 2 [("otherwise", .str "")] (spRead K cs) := by
  refine T.f_Arrays_read.cal ⟨fun D doc pm an cdv ct us ks h1 h2 => match us, h1, ks, h2 with | [_, _], _, [_], _ => ⟨_, _, _, _, _, _, rfl, rfl, rfl⟩, fun D doc pm an cdv ct us ws h1 h2 => match us, h1, ws, h2 with | [_, _], _, [_], _ => rfl⟩ (by simp) rfl scArraysRead (fun vs H Q E h => ?_) (fun f cdv A outer s H vs Q E hr h => ?_)
  · obtain ⟨_, _, _, _, _, _, _, rfl, _⟩ := h
    rfl
  obtain ⟨arr, p, d, S, m, nm, ks, rfl, A0, R, O, hT, q⟩ := h
  refine ⟨_, (pss_cons (ps_expr (pe_cal Cneed_reference (hr.mono (by first | decide | omega)) (pa_cons (pv 1) pa_nil)))
    (pss_cons (ps_set (i := 3) scArraysRead.nd rfl (by first | exact Or.inl rfl | exact Or.inr rfl) (pe_calM CTree_at T.cl_Tree (hr.mono (by first | decide | omega)) (pe_fldK (K := K) (pv 0)) (pa_cons (pe_cal C_path (hr.mono (by first | decide | omega)) (pa_cons (pv 1) pa_nil)) pa_nil)))
    (pss_cons (ps_if (PW.pt (pw_or (pt_cmpR op_isN (pv 3) pe_non (nomark _)) (pw_or1 (pt_cmpR op_isN (pe_fldK (K := K) (pv 3)) pe_non (nomark _))))) (pss_one (ps_ret (pv 2))) pss_nil)
    (pss_one (ps_ret (pe_fldK (K := K) (pv 3))))))), ?_⟩
  refine ⟨_, rfl, p, nm, ks, rfl, R, O, hT, fun H1 S1 => ?_⟩
  have A2 := A0.sm S1
  obtain ⟨dx, n, hi, hn⟩ := A2.it
  have Bn := A2.th.at_ _ _ hn
  dsimp only
  refine run_set ⟨_, rfl, arr, _, _, _, _, rfl, hi, T.cl_Arrays, T.no_Arrays__tree, rfl, n.a, n.dx, _, rfl, Bn.ins, rfl, _, rfl, p, nm, ks, rfl, R.same S1, Nat.le_trans O.le (by decide), fun t H3 S3 ht => ?_⟩
  have A3 := A2.sm S3
  refine ⟨S, m, n, t, nm :: ks, rfl, A3.th, A3.ok, hn, SqT.of ht, Nat.succ_le_succ (Nat.le_trans O.le (by decide)), ?_⟩
  have Q3 := q H3 (S1.trans S3)
  cases e : S.N (nm :: ks) with
  | none =>
    rw [A0.ok.out _ e] at Q3
    dsimp only
    refine run_if ⟨_, rfl, rfl, _, rfl, iteT ?_⟩
    refine iteT ?_
    refine run_ret ?_
    exact ⟨_, rfl, Q3⟩
  | some x =>
    have Bx := A3.th.at_ _ _ e
    dsimp only
    refine run_if ⟨_, rfl, rfl, _, rfl, iteF ⟨_, rfl, x.a, _, _, _, _, rfl, Bx.ins, T.cl_Tree, T.no_Tree_worth, rfl, rfl, _, rfl, ?_⟩⟩
    cases e2 : S.W (nm :: ks) with
    | none =>
      rw [e2] at Q3
      refine iteT ?_
      refine run_ret ?_
      exact ⟨_, rfl, Q3⟩
    | some z =>
      rw [e2] at Q3
      refine iteF ?_
      have Bx' : H3 x.a = some (.ins cs.a_Tree x.dx [("worth", .str z), ("row", .ref x.r), ("beneath", .ref x.d)]) := by
        rw [Bx.ins]
        show some (HO.ins cs.a_Tree x.dx [("worth", wV (S.W (nm :: ks))), ("row", .ref x.r), ("beneath", .ref x.d)]) = _
        rw [e2]
        rfl
      dsimp only [tNext]
      refine run_ret ?_
      exact ⟨_, rfl, x.a, _, _, _, _, rfl, Bx', T.cl_Tree, T.no_Tree_worth, rfl, Q3⟩
theorem data_test {S : Sh} {p : List Str} {C : Addr} {x : Nd} {H : Hp} {m : Nat} (B : NdAt C H S m p x) : H x.a = some (.ins C x.dx [("worth", wV (S.W p)), ("row", .ref x.r), ("beneath", .ref x.d)]) := B.ins
theorem wV_non {o : Option Str} : decide (wV o = V.non) = decide (o = none) := by
  cases o with
  | none => rfl
  | some z => rfl
theorem ok_data (T : Txt K mg cs) (Cneed_reference : Cal P w K mg base 7 "need_reference" ["thing"] (spNeedRef K cs)) (C_path : Cal P w K mg base 1 "_path" ["ref"] (spPath K))
    (CTree_at : CalM P w K mg base 1 cs.a_Tree "at" ["self", "path"] (spAt K cs.a_Tree)) : CalM P w K mg base 8 cs.a_Arrays "data" ["self", "ref"] (spData K cs) := by
  refine T.f_Arrays_data.cal scArraysData (fun vs H Q E h => ?_) (fun f cdv A outer s H vs Q E hr h => ?_)
  · obtain ⟨_, _, _, _, _, _, rfl, _⟩ := h
    rfl
  obtain ⟨arr, p, S, m, nm, ks, rfl, A0, R, O, hT, q⟩ := h
  refine ⟨_, (pss_cons (ps_expr (pe_cal Cneed_reference (hr.mono (by first | decide | omega)) (pa_cons (pv 1) pa_nil)))
    (pss_cons (ps_set (i := 2) scArraysData.nd rfl (by first | exact Or.inl rfl | exact Or.inr rfl) (pe_calM CTree_at T.cl_Tree (hr.mono (by first | decide | omega)) (pe_fldK (K := K) (pv 0)) (pa_cons (pe_cal C_path (hr.mono (by first | decide | omega)) (pa_cons (pv 1) pa_nil)) pa_nil)))
    (pss_cons (ps_if (pt_cmpR op_isN (pv 2) pe_non (nomark _)) (pss_one (ps_ret pe_int)) pss_nil)
    (pss_one (ps_ret (pe_op op_add (pe_ifExp (pt_cmpR op_isN (pe_fldK (K := K) (pv 2)) pe_non (nomark _)) pe_int pe_int) (pe_ifExp (pt_truth (pe_fldK (K := K) (pv 2)) (by intro _; rfl)) pe_int pe_int))))))), ?_⟩
  refine ⟨_, rfl, p, nm, ks, rfl, R, O, hT, fun H1 S1 => ?_⟩
  have A2 := A0.sm S1
  obtain ⟨dx, n, hi, hn⟩ := A2.it
  have Bn := A2.th.at_ _ _ hn
  dsimp only
  refine run_set ⟨_, rfl, arr, _, _, _, _, rfl, hi, T.cl_Arrays, T.no_Arrays__tree, rfl, n.a, n.dx, _, rfl, Bn.ins, rfl, _, rfl, p, nm, ks, rfl, R.same S1, Nat.le_trans O.le (by decide), fun t H3 S3 ht => ?_⟩
  have A3 := A2.sm S3
  refine ⟨S, m, n, t, nm :: ks, rfl, A3.th, A3.ok, hn, SqT.of ht, Nat.succ_le_succ (Nat.le_trans O.le (by decide)), ?_⟩
  have Q3 := q H3 (S1.trans S3)
  unfold dataOf at Q3
  cases e : S.N (nm :: ks) with
  | none =>
    rw [e] at Q3
    dsimp only
    refine run_if ⟨_, rfl, rfl, _, rfl, iteT ?_⟩
    exact Q3
  | some x =>
    rw [e] at Q3
    have Bx := A3.th.at_ _ _ e
    dsimp only
    refine run_if ⟨_, rfl, rfl, _, rfl, iteF ?_⟩
    refine run_next ?_
    dsimp only
    refine run_ret (run_op ?_)
    refine ⟨_, rfl, x.a, _, _, _, _, rfl, Bx.ins, T.cl_Tree, T.no_Tree_worth, rfl, rfl, _, rfl, ?_⟩
    have Q4 : Q (.int ((if S.W (nm :: ks) = none then 0 else 1) + (if S.R (nm :: ks) = [] then 0 else 10))) H3 := Q3
    have row : ∀ (i : Int) (R : VK), R (.int (i + (if S.R (nm :: ks) = [] then 0 else 10))) H3 → (tIf (fun σ H Q => tFld K (tVar 2) "row" σ H fun x H' => ∃ k, TruV K x H' k ∧ Q k H') (tC (.int 10)) (tC (.int 0))) [some (.ref arr), some (.ref p), some (.ref x.a)] H3 (fun y H2 => (rI0 fun i j => V.int (i + j)) (.int i) y H2 R) := fun i R hR => by
      refine ⟨_, rfl, x.a, _, _, _, _, rfl, Bx.ins, T.cl_Tree, T.no_Tree_row, rfl, _, .inl ⟨_, SqL.of Bx.row, rfl⟩, ?_⟩
      cases er : S.R (nm :: ks) with
      | nil =>
        rw [er, if_pos rfl] at hR
        exact iteF ⟨i, 0, rfl, rfl, hR⟩
      | cons y ys =>
        rw [er, if_neg (List.cons_ne_nil _ _)] at hR
        exact iteT ⟨i, 10, rfl, rfl, hR⟩
    refine ite2 (fun c => ?_) (fun c => ?_)
    · have c' : S.W (nm :: ks) = none := by
        rw [wV_non] at c
        exact of_decide_eq_true c
      rw [if_pos c'] at Q4
      exact row 0 _ Q4
    · have c' : ¬ S.W (nm :: ks) = none := fun z => c (by rw [wV_non]; exact decide_eq_true z)
      rw [if_neg c'] at Q4
      exact row 1 _ Q4
end
/-! ### arrays: uproot, kill -/
section
variable {P : Program} {w : World} {K : PySem.W.Frag} {mg : Str → Option Value} {base : Heap} {cs : Tabs}
theorem ok_uproot (T : Txt K mg cs) (C_path : Cal P w K mg base 1 "_path" ["ref"] (spPath K)) (CTree_at : CalM P w K mg base 1 cs.a_Tree "at" ["self", "path"] (spAt K cs.a_Tree)) (CTree_cut : CalM P w K mg base 2 cs.a_Tree "cut" ["self", "path"] (spCut K cs.a_Tree)) : CalM P w K mg base 3 cs.a_Arrays "uproot" ["self", "ref"] (spUproot K cs) := by
  refine T.f_Arrays_uproot.cal scArraysUproot (fun vs H Q E h => ?_) (fun f cdv A outer s H vs Q E hr h => ?_)
  · obtain ⟨_, _, _, _, _, _, rfl, _⟩ := h
    rfl
  obtain ⟨arr, p, S, m, nm, ks, rfl, A0, R, hl, hm, q1, q2⟩ := h
  refine ⟨_, (pss_cons (ps_set (i := 2) scArraysUproot.nd rfl (by first | exact Or.inl rfl | exact Or.inr rfl) (pe_cal C_path (hr.mono (by first | decide | omega)) (pa_cons (pv 1) pa_nil)))
    (pss_cons (ps_set (i := 3) scArraysUproot.nd rfl (by first | exact Or.inl rfl | exact Or.inr rfl) (pe_calM CTree_at T.cl_Tree (hr.mono (by first | decide | omega)) (pe_fldK (K := K) (pv 0)) (pa_cons (pv 2) pa_nil)))
    (pss_cons (ps_if (pt_cmpR op_notN (pv 3) pe_non (nomark _)) (pss_one (ps_expr (pe_calM CTree_cut T.cl_Tree (hr.mono (by first | decide | omega)) (pe_fldK (K := K) (pv 0)) (pa_cons (pv 2) pa_nil)))) pss_nil)
    (pss_one (ps_ret (pv 3)))))), ?_⟩
  refine run_set ⟨_, rfl, p, nm, ks, rfl, R, Nat.le_trans hl (by decide), fun t H1 S1 ht => ?_⟩
  have A1 := A0.sm S1
  obtain ⟨dx, n, hi, hn⟩ := A1.it
  have Bn := A1.th.at_ _ _ hn
  dsimp only
  refine run_set ⟨_, rfl, arr, _, _, _, _, rfl, hi, T.cl_Arrays, T.no_Arrays__tree, rfl, n.a, n.dx, _, rfl, Bn.ins, rfl, _, rfl, S, m, n, t, nm :: ks, rfl, A1.th, A1.ok, hn, SqT.of ht, Nat.succ_le_succ (Nat.le_trans hl (by decide)), ?_⟩
  cases e : S.N (nm :: ks) with
  | none =>
    dsimp only
    refine run_if ⟨_, rfl, rfl, _, rfl, iteF ?_⟩
    refine run_next ?_
    dsimp only
    refine run_ret ?_
    exact ⟨_, rfl, q1 e H1 S1⟩
  | some x =>
    dsimp only
    refine run_if ⟨_, rfl, rfl, _, rfl, iteT ?_⟩
    refine ⟨_, rfl, arr, _, _, _, _, rfl, hi, T.cl_Arrays, T.no_Arrays__tree, rfl, n.a, n.dx, _, rfl, Bn.ins, rfl, _, rfl, S, m, n, t, nm :: ks, rfl, A1.th, A1.ok, A1.full, hn, SqT.of ht, List.cons_ne_nil _ _, Nat.succ_le_succ (Nat.le_trans hl (by decide)), hm, by rw [e]; rfl, fun S' H2 W2 T2 O2 F2 n2 w2 g2 s2 => ?_⟩
    dsimp only
    refine run_ret ⟨_, rfl, q2 x e S' H2 W2 ⟨⟨dx, n, ?_, n2⟩, T2, O2, F2⟩ ((Went.sm S1).trans w2) (A1.th.sub _ g2) s2⟩
    exact w2.ch.keep (A1.apart (ne_arr T)) hi
theorem ok_kill (T : Txt K mg cs) (Cneed_reference : Cal P w K mg base 7 "need_reference" ["thing"] (spNeedRef K cs)) (CArrays_uproot : CalM P w K mg base 3 cs.a_Arrays "uproot" ["self", "ref"] (spUproot K cs)) (CTree_walked : CalM P w K mg base 9 cs.a_Tree "walked" ["self", "path"] (spWalk K cs.a_Tree 8)) : CalM P w K mg base 10 cs.a_Arrays "kill" ["self", "ref"] (spKill K cs) := by
  refine T.f_Arrays_kill.cal scArraysKill (fun vs H Q E h => ?_) (fun f cdv A outer s H vs Q E hr h => ?_)
  · obtain ⟨_, _, _, _, _, _, rfl, _⟩ := h
    rfl
  obtain ⟨arr, p, S, m, nm, ks, rfl, A0, R, O, hm, hw, hT, q⟩ := h
  refine ⟨_, (pss_cons (ps_expr (pe_cal Cneed_reference (hr.mono (by first | decide | omega)) (pa_cons (pv 1) pa_nil)))
    (pss_cons (ps_set (i := 2) scArraysKill.nd rfl (by first | exact Or.inl rfl | exact Or.inr rfl) (pe_calM CArrays_uproot T.cl_Arrays (hr.mono (by first | decide | omega)) (pv 0) (pa_cons (pv 1) pa_nil)))
    (pss_one (ps_ret (pe_ifExp (pt_cmpR op_isN (pv 2) pe_non (nomark _)) pe_int (pe_callB (lenQ K) rfl T.n_len (by decide +kernel) (pa_cons (pe_calM CTree_walked T.cl_Tree (hr.mono (by first | decide | omega)) (pv 2) (pa_cons (pe_tup pa_nil) pa_nil)) pa_nil))))))), ?_⟩
  refine ⟨_, rfl, p, nm, ks, rfl, R, O, hT, fun H1 S1 => ?_⟩
  have A1 := A0.sm S1
  obtain ⟨dx, n, hi, hn⟩ := A1.it
  dsimp only
  refine run_set ⟨_, rfl, arr, _, _, rfl, hi, rfl, _, rfl, arr, p, S, m, nm, ks, rfl, A1, R.same S1, O.le, hm, fun e H2 S2 => ?_, fun x e S' H2 W2 A2 w2 T2 _ => ?_⟩
  · have z : cntAt S (nm :: ks) = 0 := by
      unfold cntAt
      rw [e]
      rfl
    have Q2 := q S H2 (fun q' => ?_) (A1.sm S2) (Went.sm (S1.trans S2))
    · rw [z] at Q2
      dsimp only
      refine run_ret ⟨_, rfl, rfl, _, rfl, iteT ?_⟩
      exact Q2
    · split
      · rename_i h
        obtain ⟨r, rfl⟩ := pre_of h
        refine A0.ok.out _ ?_
        cases e2 : S.N (nm :: ks ++ r) with
        | none => rfl
        | some y =>
          have := A0.ok.up r (nm :: ks) (by rw [e2]; rfl)
          rw [e] at this
          cases this
      · rfl
  · have z : cntAt S (nm :: ks) = (walkF 8 S (nm :: ks)).length := by
      unfold cntAt
      rw [e]
      rfl
    have Os : ShOk (S.sub (nm :: ks)) := A0.ok.sub (by rw [e]; rfl)
    have ex : (S.sub (nm :: ks)).N [] = some x := by
      rw [sub_N, List.append_nil]
      exact e
    have ew : walkF 8 (S.sub (nm :: ks)) [] = walkF 8 S (nm :: ks) := by
      rw [walk_sub, List.append_nil]
    have Bx := T2.at_ _ _ ex
    dsimp only
    refine run_ret ⟨_, rfl, rfl, _, rfl, iteF ⟨_, rfl, x.a, _, _, rfl, Bx.ins, rfl, (by decide), fun b hb => ?_⟩⟩
    have Sb : Sm H2 (upd H2 b (.tup [])) := Sm.new hb
    refine ⟨S.sub (nm :: ks), m, [], x, b, [], rfl, T2.sm Sb, Os, ex, SqT.of upd_same, by decide, by decide, by rw [ew, ← z]; exact hw, fun l H4 hl S4 rows => ?_⟩
    obtain ⟨as, hl4, rows4⟩ := rows
    have len := paired_len rows4
    rw [ew] at len
    have Q2 := q S' H4 W2 (A2.sm (Sb.trans S4)) (((Went.sm S1).trans w2).trans (Went.sm (Sb.trans S4)))
    refine ⟨l, _, rfl, .inl (SqL.of hl4), ?_⟩
    rw [z, ← len] at Q2
    rw [List.length_map]
    exact Q2
end
/-! ### arrays: names, count -/
section
variable {P : Program} {w : World} {K : PySem.W.Frag} {mg : Str → Option Value} {base : Heap} {cs : Tabs}
theorem ok_names (T : Txt K mg cs) : CalM P w K mg base 1 cs.a_Arrays "names" ["self"] (spNames cs) := by
  refine T.f_Arrays_names.cal scArraysNames (fun vs H Q E h => ?_) (fun f cdv A outer s H vs Q E hr h => ?_)
  · obtain ⟨_, _, _, rfl, _⟩ := h
    rfl
  obtain ⟨arr, S, m, rfl, A0, q⟩ := h
  refine ⟨_, (pss_one (ps_ret (pe_callTy (listOf K) rfl T.n_list (by decide +kernel) (pa_cons (pe_fldK (K := K) (pe_fldK (K := K) (pv 0))) pa_nil)))), ?_⟩
  obtain ⟨dx, n, hi, hn⟩ := A0.it
  have Bn := A0.th.at_ _ _ hn
  refine run_ret ?_
  exact ⟨_, rfl, arr, _, _, _, _, rfl, hi, T.cl_Arrays, T.no_Arrays__tree, rfl, n.a, _, _, _, _, rfl, Bn.ins, T.cl_Tree, T.no_Tree_row, rfl, n.r, _, rfl, .inl (SqL.of Bn.row), q⟩
theorem ok_count (T : Txt K mg cs) (CTree_walked : CalM P w K mg base 9 cs.a_Tree "walked" ["self", "path"] (spWalk K cs.a_Tree 8)) : CalM P w K mg base 10 cs.a_Arrays "count" ["self"] (spCount cs) := by
  refine T.f_Arrays_count.cal scArraysCount (fun vs H Q E h => ?_) (fun f cdv A outer s H vs Q E hr h => ?_)
  · obtain ⟨_, _, _, rfl, _⟩ := h
    rfl
  obtain ⟨arr, S, m, rfl, A0, hw, q⟩ := h
  refine ⟨_, (pss_one (ps_ret (pe_callB (lenQ K) rfl T.n_len (by decide +kernel) (pa_cons (pe_calM CTree_walked T.cl_Tree (hr.mono (by first | decide | omega)) (pe_fldK (K := K) (pv 0)) (pa_cons (pe_tup pa_nil) pa_nil)) pa_nil)))), ?_⟩
  obtain ⟨dx, n, hi, hn⟩ := A0.it
  have Bn := A0.th.at_ _ _ hn
  refine run_ret ⟨_, rfl, arr, _, _, _, _, rfl, hi, T.cl_Arrays, T.no_Arrays__tree, rfl, n.a, _, _, rfl, Bn.ins, rfl, (by decide), fun b hb => ?_⟩
  have Sb : Sm H (upd H b (.tup [])) := Sm.new hb
  refine ⟨S, m, [], n, b, [], rfl, A0.th.sm Sb, A0.ok, hn, SqT.of upd_same, by decide, by decide, hw, fun l H4 hl S4 rows => ?_⟩
  obtain ⟨as, hl4, rows4⟩ := rows
  have len := paired_len rows4
  refine ⟨l, _, rfl, .inl (SqL.of hl4), ?_⟩
  have Q2 := q H4 (Sb.trans S4)
  rw [← len] at Q2
  rw [List.length_map]
  exact Q2
end
/-! ### asking references: the last key may be empty -/
structure ASK (nm : Str) (ks : List Str) (z : Str) : Prop where
  nm : NM nm
  le : ks.length ≤ 5
  ks : ∀ z ∈ ks, KEY z
  lst : WT z 40
def spAskRow (K : PySem.W.Frag) (cs : Tabs) : Sp := fun vs H Q _ => ∃ (t : Addr) (ks : List Str) (z : Str), vs = [.ref t] ∧ SqT K H t ((ks ++ [z]).map V.str) ∧ ks.length ≤ 5 ∧ (∀ z ∈ ks, KEY z) ∧ WT z 40 ∧ TGs H cs ∧ ∀ H', Sm H H' → Q (.bl true) H'
def spAskRef (K : PySem.W.Frag) (cs : Tabs) (r : V) : Sp := fun vs H Q _ => ∃ (p : Addr) (nm : Str) (ks : List Str) (z : Str), vs = [.ref p] ∧ RefAt K H p nm (ks ++ [z]) ∧ ASK nm ks z ∧ TGs H cs ∧ ∀ H', Sm H H' → Q r H'
theorem slice_but {K : PySem.W.Frag} {t : Addr} {ks : List Str} {z : Str} {H : Hp} {Q : VK} (h : SqT K H t ((ks ++ [z]).map V.str)) (q : ∀ p H', Sm H H' → SqT K H' p (ks.map V.str) → Q (.ref p) H') : rSlA K (.ref t) none (some (-1)) H Q := by
  have e1 : HT.sIx ((ks ++ [z]).map V.str).length ((ks ++ [z]).map V.str).length (some (-1)) = ks.length := by
    rw [List.length_map, List.length_append, List.length_singleton]
    show (if (-1 : Int) < 0 then ((-1 : Int) + ((ks.length + 1 : Nat) : Int)).toNat else min ((-1 : Int)).toNat (ks.length + 1)) = _
    rw [if_pos (by decide)]
    omega
  refine ⟨t, _, rfl, h, fun e => ?_, fun _ p hp => ?_⟩
  · have e2 := e.2
    rw [e1, List.length_map, List.length_append, List.length_singleton] at e2
    omega
  · have e3 : cutV ((ks ++ [z]).map V.str) none (some (-1)) = ks.map V.str := by
      unfold cutV
      rw [e1, HT.sIx_none, List.drop_zero, Nat.sub_zero, List.map_append]
      have : ks.length = (ks.map V.str).length := (List.length_map _).symm
      rw [this, List.take_left]
    rw [e3]
    exact q p _ (Sm.new hp) (SqT.of upd_same)
section
variable {P : Program} {w : World} {K : PySem.W.Frag} {mg : Str → Option Value} {base : Heap} {cs : Tabs}
theorem ok_asking_row (T : Txt K mg cs) (Cis_worth : Cal P w K mg base 2 "is_worth" ["thing"] (spD wD K cs)) (Cis_row : Cal P w K mg base 5 "is_row" ["thing"] (spD rowD K cs)) : Cal P w K mg base 6 "is_asking_row" ["thing"] (spAskRow K cs) := by
  refine T.f_is_asking_row.cal scIsAskingRow (fun vs H Q E h => ?_) (fun f cdv A outer s H vs Q E hr h => ?_)
  · obtain ⟨_, _, _, rfl, _⟩ := h
    rfl
  obtain ⟨t, ks, z, rfl, h, le, hk, W, hT, q⟩ := h
  refine ⟨_, (pss_cons (ps_if (PW.pt (pw_or (pt_not (pt_val (pe_callB (isI K) rfl T.n_isinstance (by decide +kernel) (pa_cons (pv 0) (pa_cons (pe_bltn (v := .ty "tuple") rfl T.n_tuple (by decide +kernel) rfl) pa_nil))))) (pw_or1 (pt_not (pt_chain op_le op_le pe_int (pe_callB (lenQ K) rfl T.n_len (by decide +kernel) (pa_cons (pv 0) pa_nil)) (C8.pe_gc rfl T.g_MOST_KEYS)))))) (pss_one (ps_ret pe_bl)) pss_nil)
    (pss_cons (ps_set (i := 1) scIsAskingRow.nd rfl (by first | exact Or.inl rfl | exact Or.inr rfl) (pe_ix (ixT K) (pv 0) (pe_un un_neg pe_int) (fun _ _ => rfl)))
    (pss_one (ps_ret (pe_and (pe_cal Cis_row (hr.mono (by first | decide | omega)) (pa_cons (pe_slice (slT K) (pv 0) po_none (po_some (pe_un un_neg pe_int))) pa_nil)) (pe_and (pe_cal Cis_worth (hr.mono (by first | decide | omega)) (pa_cons (pv 1) pa_nil)) (pe_one (pe_cmpR op_le (pe_callB lenT rfl T.n_len (by decide +kernel) (pa_cons (pv 1) pa_nil)) (C8.pe_gc rfl T.g__LONGEST_KEY) (nomark _))))))))), ?_⟩
  have th : Th K (fun _ => False) 0 H (.ref t) (.tup ((ks ++ [z]).map D.str)) := .tup h (by rw [List.length_map, List.length_append]; show ks.length + 1 ≤ 40 + 0; omega) (by
    rw [List.map_append, List.map_append]
    exact ThAll.append (th_keys hk) (.cons (.str z (Nat.le_trans W.len (by decide)) W.asc) .nil))
  refine run_if ?_
  refine ⟨_, rfl, _, _, _, _, _, rfl, ClsV.ty "tuple", th.tyx, kitT _, _, rfl, iteF ?_⟩
  have len : ((ks ++ [z]).map V.str).length = ks.length + 1 := by rw [List.length_map, List.length_append, List.length_singleton]
  refine ⟨_, rfl, t, _, rfl, .inr h, ?_⟩
  rw [len]
  refine ⟨1, ((ks.length + 1 : Nat) : Int), rfl, rfl, _, rfl, ?_⟩
  rw [show decide ((1 : Int) ≤ ((ks.length + 1 : Nat) : Int)) = true from decide_eq_true (by omega)]
  refine iteT ?_
  refine ⟨((ks.length + 1 : Nat) : Int), 6, rfl, rfl, _, rfl, ?_⟩
  rw [show decide (((ks.length + 1 : Nat) : Int) ≤ 6) = true from decide_eq_true (by omega)]
  refine iteF ?_
  refine run_next ?_
  dsimp only
  refine run_set ⟨_, rfl, 1, rfl, t, _, -1, .str z, rfl, rfl, h, (by rw [List.map_append]; exact atI_last _ _), ?_⟩
  dsimp only
  refine run_ret ?_
  refine ⟨_, rfl, 1, rfl, -1, rfl, slice_but h fun p' H1 S1 h1 => ?_⟩
  have t1 : Th K (fun _ => False) 0 H1 (.ref p') (.tup (ks.map D.str)) := .tup h1 (by rw [List.length_map]; show ks.length ≤ 40 + 0; omega) (th_keys hk)
  refine ⟨_, _, 0, _, rfl, t1, fun _ z => z.elim, by decide, hT.sm S1, fun H2 S2 => ?_⟩
  have er : rowD (.tup (ks.map D.str)) = true := by
    show (decide ((ks.map D.str).length ≤ 6) && (ks.map D.str).all kD) = true
    rw [List.length_map, decide_eq_true (show ks.length ≤ 6 by omega), all_true fun d hd => ?_]
    · rfl
    · obtain ⟨y, hy, rfl⟩ := List.mem_map.mp hd
      have ky := hk y hy
      show ((tl y).all sgn && (decide (1 ≤ (tl y).length) && decide ((tl y).length ≤ 40))) = true
      rw [all_true ky.wt.sg, decide_eq_true ky.pos, decide_eq_true ky.wt.len]
      rfl
  rw [er]
  refine ⟨_, rfl, ?_⟩
  refine iteT ?_
  have S12 := S1.trans S2
  refine ⟨_, rfl, .str z, .str z, 0, fun _ => False, rfl, .str z (Nat.le_trans W.len (by decide)) W.asc, fun _ z => z.elim, by decide, hT.sm S12, fun H3 S3 => ?_⟩
  rw [show wD (.str z) = true from all_true W.sg]
  refine ⟨_, rfl, iteT ?_⟩
  refine ⟨_, rfl, z, rfl, W.line (by decide), _, _, rfl, rfl, ?_⟩
  have e40 : decide ((z.length : Int) ≤ 40) = true := decide_eq_true (by have := W.len; rw [← len_tl] at this; omega)
  show Q (.bl (decide ((z.length : Int) ≤ 40))) H3
  rw [e40]
  exact q _ (S12.trans S3)
theorem ok_asking_reference (T : Txt K mg cs) (Cis_pair : Cal P w K mg base 1 "is_pair" ["thing"] (spD (fun d => d.isTup && decide (lenD d = 2)) K cs)) (Cis_name : Cal P w K mg base 2 "is_name" ["thing"] (spD nD K cs)) (Cis_asking_row : Cal P w K mg base 6 "is_asking_row" ["thing"] (spAskRow K cs)) : Cal P w K mg base 7 "is_asking_reference" ["thing"] (spAskRef K cs (.bl true)) := by
  refine T.f_is_asking_reference.cal scIsAskingReference (fun vs H Q E h => ?_) (fun f cdv A outer s H vs Q E hr h => ?_)
  · obtain ⟨_, _, _, _, rfl, _⟩ := h
    rfl
  obtain ⟨p, nm, ks, z, rfl, R, O, hT, q⟩ := h
  refine ⟨_, (pss_one (ps_ret (pe_and (pe_cal Cis_pair (hr.mono (by first | decide | omega)) (pa_cons (pv 0) pa_nil)) (pe_and (pe_cal Cis_name (hr.mono (by first | decide | omega)) (pa_cons (pe_ix (ixT K) (pv 0) pe_int (fun _ _ => rfl)) pa_nil)) (pe_one (pe_cal Cis_asking_row (hr.mono (by first | decide | omega)) (pa_cons (pe_ix (ixT K) (pv 0) pe_int (fun _ _ => rfl)) pa_nil))))))), ?_⟩
  obtain ⟨t, h1, h2⟩ := R.ex
  have tk : Th K (fun _ => False) 0 H (.ref t) (.tup ((ks ++ [z]).map D.str)) := .tup h2 (by rw [List.length_map, List.length_append]; show ks.length + 1 ≤ 40 + 0; have := O.le; omega) (by
    rw [List.map_append, List.map_append]
    exact ThAll.append (th_keys O.ks) (.cons (.str z (Nat.le_trans O.lst.len (by decide)) O.lst.asc) .nil))
  have hn : ∀ c ∈ tl nm, c < 128 := fun c hc => by
    have q := O.nm.sg c hc
    unfold AZ at q
    rw [Bool.and_eq_true] at q
    have := of_decide_eq_true q.2
    omega
  have tn : Th K (fun _ => False) 0 H (.str nm) (.str nm) := .str nm (by have := O.nm.len; omega) hn
  have th : Th K (fun _ => False) 0 H (.ref p) (.tup [.str nm, .tup ((ks ++ [z]).map D.str)]) := .tup h1 (by show 2 ≤ 40 + 0; decide) (.cons tn (.cons tk .nil))
  have av : AvL (fun _ => False) H := fun _ z => z.elim
  refine ⟨_, rfl, .ref p, _, 0, _, rfl, th, av, by decide, hT, fun H1 S1 => ⟨_, rfl, ?_⟩⟩
  refine iteT ?_
  refine ⟨_, rfl, p, _, 0, _, rfl, rfl, Sm.seqT S1 h1, rfl, .str nm, .str nm, 0, _, rfl, tn.ko av (KO.sm S1), fun _ z => z.elim, by decide, hT.sm S1, fun H2 S2 => ⟨_, rfl, ?_⟩⟩
  have S12 := S1.trans S2
  have en : nD (.str nm) = true := by
    show ((decide (1 ≤ (tl nm).length) && decide ((tl nm).length ≤ 8)) && (tl nm).all AZ) = true
    rw [decide_eq_true O.nm.pos, decide_eq_true O.nm.len, all_true O.nm.sg]
    rfl
  rw [en]
  refine iteT ?_
  exact ⟨_, rfl, p, _, 1, _, rfl, rfl, Sm.seqT S12 h1, rfl, t, ks, z, rfl, Sm.seqT S12 h2, O.le, O.ks, O.lst, hT.sm S12, fun H3 S3 => q H3 (S12.trans S3)⟩
theorem ok_need_asking (T : Txt K mg cs) (Cis_asking_reference : Cal P w K mg base 7 "is_asking_reference" ["thing"] (spAskRef K cs (.bl true))) : Cal P w K mg base 8 "need_asking_reference" ["thing"] (spAskRef K cs .non) := by
  refine T.f_need_asking_reference.cal scNeedAskingReference (fun vs H Q E h => ?_) (fun f cdv A outer s H vs Q E hr h => ?_)
  · obtain ⟨_, _, _, _, rfl, _⟩ := h
    rfl
  obtain ⟨p, nm, ks, z, rfl, R, O, hT, q⟩ := h
  refine ⟨_, (pss_one (ps_if (pt_not (pt_val (pe_cal Cis_asking_reference (hr.mono (by first | decide | omega)) (pa_cons (pv 0) pa_nil)))) (pss_one ps_dead) pss_nil)), ?_⟩
  refine run_ifE ⟨_, rfl, p, nm, ks, z, rfl, R, O, hT, fun H1 S1 => ⟨_, rfl, iteF (q H1 S1)⟩⟩
end
/-! ### < of two lists of ints -/
def lexI : List Int → List Int → Bool
  | [], ys => !ys.isEmpty
  | _ :: _, [] => false
  | x :: xs, y :: ys => if (x == y) = true then lexI xs ys else decide (x < y)
theorem lexI_first : ∀ (xs ys : List Int) (e r : Nat → Bool) (i : Nat), (∀ j x y, xs[j]? = some x → ys[j]? = some y → e (i + j) = (x == y) ∧ r (i + j) = decide (x < y)) → PySem.SeqAt.firstLt e r (decide (xs.length < ys.length)) (List.range' i (min xs.length ys.length)) = lexI xs ys
  | [], ys, e, r, i, _ => by
    rw [List.length_nil, Nat.zero_min]
    show decide (0 < ys.length) = _
    cases ys <;> simp [lexI]
  | x :: xs, [], e, r, i, _ => by
    rw [List.length_nil, Nat.min_zero]
    show decide ((x :: xs).length < 0) = false
    simp
  | x :: xs, y :: ys, e, r, i, h => by
    have h0 := h 0 x y rfl rfl
    rw [Nat.add_zero] at h0
    rw [List.length_cons, List.length_cons, Nat.succ_min_succ, List.range'_succ]
    have ih := lexI_first xs ys e r (i + 1) fun j a b ha hb => by
      have := h (j + 1) a b ha hb
      rwa [show i + (j + 1) = i + 1 + j by omega] at this
    have ed : decide (xs.length + 1 < ys.length + 1) = decide (xs.length < ys.length) := by rw [decide_eq_decide]; omega
    rw [ed]
    unfold lexI
    by_cases c : (x == y) = true
    · rw [if_pos c, PySem.SeqAt.firstLt_yes (by rw [h0.1]; exact c)]
      exact ih
    · rw [if_neg c, PySem.SeqAt.firstLt_no (by rw [h0.1]; exact Bool.eq_false_iff.mpr c)]
      exact h0.2
def rLtL (K : PySem.W.Frag) : R2 := fun x y H Q => ∃ (a b : Addr) (xs ys : List Int), x = .ref a ∧ y = .ref b ∧ SqL K H a (xs.map V.int) ∧ SqL K H b (ys.map V.int) ∧ Q (.bl (lexI xs ys)) H
section
variable {X : Cx} (K : PySem.W.Frag)
theorem ltL (hu : X.A.units + 64 < cLine) (h : X.K = K := by rfl) : OpR X (compareOp .Lt) (rLtL K) := by
  subst h
  intro pins s σ H x y v u Q I rx ry h
  obtain ⟨a, b, xs, ys, rfl, rfl, ha, hb, q⟩ := h
  obtain rfl : v = Value.ref a := rx
  obtain rfl : u = Value.ref b := ry
  obtain ⟨us, r1, p1, _⟩ := I.list ha
  obtain ⟨ws, r2, p2, _⟩ := I.list hb
  have l1 : xs.length = us.length := by rw [← r1.length, List.length_map]
  have l2 : ys.length = ws.length := by rw [← r2.length, List.length_map]
  have key : ∀ j (h1 : j < us.toArray.size) (h2 : j < ws.toArray.size), ∃ x y t t', xs[j]? = some x ∧ ys[j]? = some y ∧ us.toArray[j] = .int x t ∧ ws.toArray[j] = .int y t' := fun j h1 h2 => by
    obtain ⟨x, hx, qx⟩ := val_at r1 (j := j) (u := us.toArray[j]) (by simp at h1 ⊢)
    obtain ⟨y, hy, qy⟩ := val_at r2 (j := j) (u := ws.toArray[j]) (by simp at h2 ⊢)
    rw [List.getElem?_map] at hx hy
    obtain ⟨x', hx', rfl⟩ := Option.map_eq_some_iff.mp hx
    obtain ⟨y', hy', rfl⟩ := Option.map_eq_some_iff.mp hy
    obtain ⟨t, e⟩ := qx
    obtain ⟨t', e'⟩ := qy
    exact ⟨x', y', t, t', hx', hy', e, e'⟩
  have fin : PySem.SeqAt.firstLt (fun j => match xs[j]?, ys[j]? with | some x, some y => x == y | _, _ => false) (fun j => match xs[j]?, ys[j]? with | some x, some y => decide (x < y) | _, _ => false) (decide (us.toArray.size < ws.toArray.size)) (List.range (min us.toArray.size ws.toArray.size)) = lexI xs ys := by
    rw [List.size_toArray, List.size_toArray, ← l1, ← l2, List.range_eq_range']
    refine lexI_first xs ys _ _ 0 fun j x y hx hy => ?_
    rw [Nat.zero_add, hx, hy]
    exact ⟨rfl, rfl⟩
  refine PySem.SeqAt.RcLt.lists (e := fun j => match xs[j]?, ys[j]? with | some x, some y => x == y | _, _ => false) (r := fun j => match xs[j]?, ys[j]? with | some x, some y => decide (x < y) | _, _ => false) p1.isList p2.isList (by omega) (fun j h1 h2 => ?_) (fun j h1 h2 _ => ?_) X.prog X.w _ _ ⟨.bl _, H, I, rfl, by rw [fin]; exact q⟩
  · obtain ⟨x, y, t, t', hx, hy, e1, e2⟩ := key j h1 h2
    simp only [hx, hy]
    rw [e1, e2]
    exact SeqAt.EqAt.int_int _ _ _ _
  · obtain ⟨x, y, t, t', hx, hy, e1, e2⟩ := key j h1 h2
    simp only [hx, hy]
    rw [e1, e2]
    exact fun _ _ _ _ h => PyProof.Rows.lt_int h
end
/-! ### comprehensions over the signs of a text -/
theorem filter_take_next {α : Type} {l : List α} {p : α → Bool} {j : Nat} {x : α} (h : l[j]? = some x) : (l.take (j + 1)).filter p = (l.take j).filter p ++ (if p x = true then [x] else []) := by
  rw [List.take_succ, h, List.filter_append]
  congr 1
  by_cases c : p x = true <;> simp [c]
/-- [sign for sign in z if p sign] -/
theorem lc_signs {i : Nat} {z : Str} {te0 : TE} {σ : L2.St} {H : Hp} {tt : TT} {Q : VK} (p : Nat → Bool) (hi : i < σ.length) (h0 : ∀ R : VK, R (.str z) H → te0 σ H R) (hl : (tl z).length ≤ 1000)
    (ht : ∀ c H2, c ∈ tl z → Sm H H2 → ∀ R : Bool → Hp → Prop, (∀ H', Sm H2 H' → R (p c) H') → tt ((σ.set i none).set i (some (.str ⟨#[c]⟩))) H2 R)
    (hQ : ∀ D H', Sm H H' → H' D = some (.lst (((tl z).filter p).map fun c => V.str ⟨#[c]⟩)) → Q (.ref D) H') : tLc (iStr te0) (gName i) tt (tVar i) [i] σ H Q := by
  have sz : z.cps.size = (tl z).length := by simp [tl]
  refine h0 _ ⟨z, rfl, fun D hD => ?_⟩
  refine ⟨fun j m H' => m = (tl z).length - j ∧ j ≤ (tl z).length ∧ Sm H H' ∧ H' D = some (.lst ((((tl z).take j).filter p).map fun c => V.str ⟨#[c]⟩)), ⟨_, rfl, Nat.zero_le _, Sm.new hD, upd_same⟩, fun j m H' hw => ?_⟩
  obtain ⟨rfl, hj, S, hy⟩ := hw
  by_cases hlt : j < (tl z).length
  · refine .inr ⟨by show j < z.cps.size; omega, fun H'' => Sm H H'' ∧ H'' D = some (.lst ((((tl z).take (j + 1)).filter p).map fun c => V.str ⟨#[c]⟩)), fun H'' h => ⟨_, ?_, rfl, by omega, h.1, h.2⟩, fun x H'' hx => ?_⟩
    · omega
    obtain ⟨rfl, c, hc, rfl⟩ := hx
    have hc' : (tl z)[j]? = some c := by
      show z.cps.toList[j]? = some c
      rw [Array.getElem?_toList]
      exact hc
    refine ⟨?_, ?_⟩
    · show ((σ.set i none).set i (some (V.str ⟨#[c]⟩))).set i none = σ.set i none
      rw [List.set_set, List.set_set]
    refine ht c H'' (List.mem_of_getElem? hc') S _ fun H3 S3 => ?_
    have er := filter_take_next (p := p) hc'
    refine ite2 (fun e => ?_) (fun e => ?_)
    · refine ⟨.str ⟨#[c]⟩, ?_, _, S3 _ _ hy, ?_, ?_, ?_⟩
      · show ((σ.set i none).set i (some (V.str ⟨#[c]⟩)))[i]? = _
        rw [List.getElem?_set_self (by rw [List.length_set]; exact hi)]
      · rw [List.length_map]
        have := List.length_filter_le p ((tl z).take j)
        rw [List.length_take] at this
        exact small' (by omega)
      · exact Sm.own (S.trans S3) hD (no_tbl (S3 _ _ hy))
      · rw [er, if_pos e, List.map_append]
        exact upd_same
    · refine ⟨S.trans S3, ?_⟩
      rw [er, if_neg e, List.append_nil]
      exact S3 _ _ hy
  · refine .inl ⟨by show z.cps.size ≤ j; omega, hQ D H' S ?_⟩
    rw [List.take_of_length_le (by omega)] at hy
    exact hy
/-- [e for sign in z], e told by a number -/
theorem lc_smap {i : Nat} {z : Str} {te0 te : TE} {σ : L2.St} {H : Hp} {Q : VK} (g : Nat → V) (h0 : ∀ R : VK, R (.str z) H → te0 σ H R) (hl : (tl z).length ≤ 1000)
    (he : ∀ c H2, c ∈ tl z → Sm H H2 → ∀ R : VK, (∀ H', Sm H2 H' → R (g c) H') → te ((σ.set i none).set i (some (.str ⟨#[c]⟩))) H2 R)
    (hQ : ∀ D H', Sm H H' → H' D = some (.lst ((tl z).map g)) → Q (.ref D) H') : tLc (iStr te0) (gName i) tYes te [i] σ H Q := by
  have sz : z.cps.size = (tl z).length := by simp [tl]
  refine h0 _ ⟨z, rfl, fun D hD => ?_⟩
  refine ⟨fun j m H' => m = (tl z).length - j ∧ j ≤ (tl z).length ∧ Sm H H' ∧ H' D = some (.lst (((tl z).take j).map g)), ⟨_, rfl, Nat.zero_le _, Sm.new hD, upd_same⟩, fun j m H' hw => ?_⟩
  obtain ⟨rfl, hj, S, hy⟩ := hw
  by_cases hlt : j < (tl z).length
  · refine .inr ⟨by show j < z.cps.size; omega, fun H'' => Sm H H'' ∧ H'' D = some (.lst (((tl z).take (j + 1)).map g)), fun H'' h => ⟨_, ?_, rfl, by omega, h.1, h.2⟩, fun x H'' hx => ?_⟩
    · omega
    obtain ⟨rfl, c, hc, rfl⟩ := hx
    have hc' : (tl z)[j]? = some c := by
      show z.cps.toList[j]? = some c
      rw [Array.getElem?_toList]
      exact hc
    refine ⟨?_, ?_⟩
    · show ((σ.set i none).set i (some (V.str ⟨#[c]⟩))).set i none = σ.set i none
      rw [List.set_set, List.set_set]
    refine he c H'' (List.mem_of_getElem? hc') S _ fun H3 S3 => ⟨_, S3 _ _ hy, small' (by rw [List.length_map, List.length_take]; omega), Sm.own (S.trans S3) hD (no_tbl (S3 _ _ hy)), ?_⟩
    rw [List.take_add_one, hc', List.map_append]
    exact upd_same
  · refine .inl ⟨by show z.cps.size ≤ j; omega, hQ D H' S ?_⟩
    rw [List.take_of_length_le (by omega)] at hy
    exact hy
/-! ### the second family's rank of a key -/
def posB (c : Nat) : Nat := if c < 37 then c - 32 else c - 33
def rankL (z : Str) : List Int := if isNum (tl z) = true then [0, numOf (tl z)] else 1 :: (tl z).map fun c => (posB c : Int)
def spRankB (K : PySem.W.Frag) : Sp := fun vs H Q _ => ∃ z : Str, vs = [.str z] ∧ WT z 40 ∧ 1 ≤ (tl z).length ∧ ∀ l H', Sm H H' → H' l = some (.lst ((rankL z).map V.int)) → Q (.ref l) H'
theorem occ_at {c : Nat} (h : sgn c = true) : ∃ rest, PySem.Builtin.Str.occurrences SIGNS ⟨#[c]⟩ 0 SIGNS.length 1 = posB c :: rest := by
  have q := h
  unfold sgn at q
  rw [Bool.and_eq_true, Bool.and_eq_true] at q
  have h1 := of_decide_eq_true q.1
  have h2 := of_decide_eq_true q.2.1
  have key : ∀ j : Fin 95, sgn (32 + j.val) = true → (PySem.Builtin.Str.occurrences SIGNS ⟨#[32 + j.val]⟩ 0 SIGNS.length 1).head? = some (posB (32 + j.val)) := by decide +kernel
  have t := key ⟨c - 32, by omega⟩ (by show sgn (32 + (c - 32)) = true; rw [show 32 + (c - 32) = c by omega]; exact h)
  have e : 32 + (c - 32) = c := by omega
  rw [show (32 + (⟨c - 32, by omega⟩ : Fin 95).val) = c from e] at t
  cases hh : PySem.Builtin.Str.occurrences SIGNS ⟨#[c]⟩ 0 SIGNS.length 1 with
  | nil => rw [hh] at t; cases t
  | cons x r => rw [hh] at t; exact ⟨r, by rw [show x = posB c from Option.some.inj t]⟩
theorem posB_lt {c d : Nat} (hc : sgn c = true) (hd : sgn d = true) : ((posB c : Int) < (posB d : Int) ↔ c < d) ∧ ((posB c : Int) = (posB d : Int) ↔ c = d) := by
  unfold sgn at hc hd
  rw [Bool.and_eq_true, Bool.and_eq_true] at hc hd
  have c1 := of_decide_eq_true hc.1
  have d1 := of_decide_eq_true hd.1
  have c2 : c ≠ 37 := by simpa using hc.2.2
  have d2 : d ≠ 37 := by simpa using hd.2.2
  unfold posB
  constructor <;> (split <;> split <;> omega)
theorem lexI_pos : ∀ {l m : List Nat}, (∀ c ∈ l, sgn c = true) → (∀ c ∈ m, sgn c = true) → lexI (l.map fun c => (posB c : Int)) (m.map fun c => (posB c : Int)) = decide (l < m)
  | [], [], _, _ => by simp [lexI]
  | [], _ :: _, _, _ => by simp [lexI]
  | _ :: _, [], _, _ => by simp [lexI]
  | c :: l, d :: m, h1, h2 => by
    have p := posB_lt (h1 c List.mem_cons_self) (h2 d List.mem_cons_self)
    have ih := lexI_pos (l := l) (m := m) (fun x hx => h1 x (List.mem_cons_of_mem _ hx)) fun x hx => h2 x (List.mem_cons_of_mem _ hx)
    rw [List.map_cons, List.map_cons]
    unfold lexI
    by_cases e : c = d
    · subst e
      rw [if_pos (beq_self_eq_true _), ih, decide_eq_decide, List.cons_lt_cons_iff]
      simp
    · rw [if_neg (by rw [beq_iff_eq]; exact fun z => e (p.2.mp z)), decide_eq_decide, List.cons_lt_cons_iff, p.1]
      simp [e]
theorem lexI_rank {x y : Str} (hx : ∀ c ∈ tl x, sgn c = true) (hy : ∀ c ∈ tl y, sgn c = true) : lexI (rankL x) (rankL y) = ahead x y := by
  unfold rankL
  by_cases a : isN x = true
  · by_cases b : isN y = true
    · rw [if_pos (show isNum (tl x) = true from a), if_pos (show isNum (tl y) = true from b), ahead_nn a b]
      show (if ((0 : Int) == 0) = true then (if (numOf (tl x) == numOf (tl y)) = true then lexI [] [] else decide (numOf (tl x) < numOf (tl y))) else _) = _
      rw [if_pos (show ((0 : Int) == 0) = true from rfl)]
      unfold nO
      by_cases e : numOf (tl x) = numOf (tl y)
      · rw [if_pos (beq_iff_eq.mpr e), decide_eq_false (by omega)]
        rfl
      · rw [if_neg fun z => e (beq_iff_eq.mp z)]
    · rw [if_pos (show isNum (tl x) = true from a), if_neg (show ¬ isNum (tl y) = true from b), ahead_no a (Bool.eq_false_iff.mpr b)]
      rfl
  · by_cases b : isN y = true
    · rw [if_neg (show ¬ isNum (tl x) = true from a), if_pos (show isNum (tl y) = true from b), ahead_on (Bool.eq_false_iff.mpr a) b]
      rfl
    · rw [if_neg (show ¬ isNum (tl x) = true from a), if_neg (show ¬ isNum (tl y) = true from b), ahead_oo (Bool.eq_false_iff.mpr a) (Bool.eq_false_iff.mpr b)]
      show (if ((1 : Int) == 1) = true then lexI _ _ else _) = _
      rw [if_pos (show ((1 : Int) == 1) = true from rfl)]
      exact lexI_pos hx hy
theorem tl_drop1 (z : Str) : tl (cutS z (some ((1 : Nat) : Int)) none) = (tl z).drop 1 := by
  show (((z.cps.toList.drop (HT.sIx z.length 0 (some ((1 : Nat) : Int)))).take (HT.sIx z.length z.length none - HT.sIx z.length 0 (some ((1 : Nat) : Int)))).toArray).toList = _
  rw [HT.sIx_none, HT.sIx_nat, List.toList_toArray]
  have e : z.length = (tl z).length := len_tl z
  rw [e]
  show ((tl z).drop (min 1 (tl z).length)).take ((tl z).length - min 1 (tl z).length) = _
  by_cases h : 1 ≤ (tl z).length
  · rw [Nat.min_eq_left h, List.take_of_length_le (by rw [List.length_drop]; exact Nat.le_refl _)]
  · have : tl z = [] := List.length_eq_zero_iff.mp (by omega)
    rw [this]
    rfl
theorem one_is {c d : Nat} : decide (V.str ⟨#[c]⟩ = V.str ⟨#[d]⟩) = decide (c = d) := by
  rw [dec_str, decide_eq_decide]
  show [c] = [d] ↔ c = d
  simp
theorem int_txt {z : Str} (h : isNum (tl z) = true) (hl : (tl z).length ≤ 640) : PySem.intText? z = some (numOf (tl z)) := by
  have e := h
  rw [isNum_is] at e
  have e := of_decide_eq_true e
  have dv : ∀ n : Nat, PySem.NumText.digitsVal (numL n) = n := fun n => numL_val n
  by_cases c : numOf (tl z) < 0
  · unfold numT at e
    rw [if_pos c] at e
    rw [PySem.intText_neg (x := z) (cs := numL (numOf (tl z)).natAbs) e.symm (numL_digits _) (numL_ne _) (by rw [len_tl]; omega), dv]
    congr 1
    omega
  · unfold numT at e
    rw [if_neg c] at e
    have e' : tl z = numL (numOf (tl z)).natAbs := e.symm
    rw [int_digits (x := z) (by rw [e']; exact numL_digits _) (by rw [e']; exact numL_ne _) hl]
    congr 1
    rw [e', dv]
    rw [← e']
    omega
section
variable {P : Program} {w : World} {K : PySem.W.Frag} {mg : Str → Option Value} {base : Heap} {cs : Tabs}
theorem ok_law_rank (T : Txt K mg cs) : Cal P w K mg base 1 "_law_rank" ["mark"] (spRankB K) := by
  refine T.f_law_rank.cal scLawRank (fun vs H Q E h => ?_) (fun f cdv A outer s H vs Q E hr h => ?_)
  · obtain ⟨z, rfl, _⟩ := h
    rfl
  obtain ⟨z, rfl, W, hp, q⟩ := h
  refine ⟨_, (pss_cons (ps_set (i := 1) scLawRank.nd rfl (by first | exact Or.inl rfl | exact Or.inr rfl) pe_str)
    (pss_cons (ps_set (i := 2) scLawRank.nd rfl (by first | exact Or.inl rfl | exact Or.inr rfl) (pe_ifExp (pt_cmpR op_eq (pe_ix ix_str (pv 0) pe_int (fun _ _ => rfl)) pe_str (nomark _)) (pe_slice sl_str (pv 0) (po_some pe_int) po_none) (pv 0)))
    (pss_cons (ps_if (PW.pt (pw_and (pt_cmpR op_ne (pv 2) pe_str (nomark _)) (pw_and1 (pt_cmpR (eqE K hr.units) (pe_lc (own := [("sign", 3)]) (g := gName 3) (tt := _) rfl scLawRank.nd (pi_str (pv 2)) (blkOk_by (own := [("sign", 3)]) (N := ["mark", "signs", "figures", "sign"]) (sc := defScope sLawRank) (by decide +kernel)) (fun _ _ _ _ _ => (pg_name (i := 3) scLawRank.nd rfl (by first | exact Or.inl rfl | exact Or.inr rfl))) (fun _ _ _ _ _ => (pts_one (pt_cmpR op_notIn_sign (pv 3) pe_str rfl))) (fun _ _ _ _ _ => (pv 3))) (pe_lst pa_nil) (nomark _))))) (pss_one (ps_if (PW.pt (pw_or (pt_cmpR op_ne (pe_ix ix_str (pv 2) pe_int (fun _ _ => rfl)) pe_str (nomark _)) (pw_or1 (pt_cmpR op_eq (pv 0) pe_str (nomark _))))) (pss_one (ps_ret (pe_lst (pa_cons pe_int (pa_cons (pe_callTy call_int_str rfl T.n_int (by decide +kernel) (pa_cons (pv 0) pa_nil)) pa_nil))))) pss_nil)) pss_nil)
    (pss_one (ps_ret (pe_op op_cat (pe_lst (pa_cons pe_int pa_nil)) (pe_lc (own := [("sign", 3)]) (g := gName 3) (tt := tYes) rfl scLawRank.nd (pi_str (pv 0)) (blkOk_by (own := [("sign", 3)]) (N := ["mark", "signs", "figures", "sign"]) (sc := defScope sLawRank) (by decide +kernel)) (fun _ _ _ _ _ => (pg_name (i := 3) scLawRank.nd rfl (by first | exact Or.inl rfl | exact Or.inr rfl))) (fun _ _ _ _ _ => pts_nil) (fun _ _ _ _ _ => (pe_m1 PySem.F.slot_str_index PySem.F.type_str_index mt_sindex (pv 1) (pv 3)))))))))), ?_⟩
  obtain ⟨c, r, ez⟩ : ∃ c r, tl z = c :: r := by
    cases e : tl z with
    | nil =>
      rw [e] at hp
      cases hp
    | cons c r => exact ⟨c, r, rfl⟩
  have i0 : atI (tl z) (0 : Int) = some c := by rw [ez]; exact atI_nat (j := 0) rfl
  refine run_set ?_
  refine run_setP (i := 2) (fun v H1 => H1 = H ∧ ∃ fz : Str, v = .str fz ∧ tl fz = bareOf (tl z)) (fun R hR => ?_) fun v H1 hv => ?_
  · refine ⟨_, rfl, z, 0, c, rfl, rfl, W.line (by decide), i0, rfl, _, rfl, ?_⟩
    have e45 : decide (V.str ⟨#[c]⟩ = V.str "-") = decide (c = 45) := one_is (d := 45)
    refine ite2 (fun k => ?_) (fun k => ?_)
    · have c45 : c = 45 := by
        have k' : decide (V.str ⟨#[c]⟩ = V.str "-") = true := k
        rw [e45] at k'
        exact of_decide_eq_true k'
      refine ⟨_, rfl, 1, rfl, z, rfl, W.line (by decide), hR _ _ ⟨rfl, _, rfl, ?_⟩⟩
      rw [show (1 : Int) = ((1 : Nat) : Int) from rfl, tl_drop1, ez, c45]
      rfl
    · have c45 : ¬ c = 45 := fun e => k (by
        show decide (V.str ⟨#[c]⟩ = V.str "-") = true
        rw [e45]
        exact decide_eq_true e)
      exact ⟨_, rfl, hR _ _ ⟨rfl, z, rfl, by
        rw [ez]
        unfold bareOf
        split
        · rename_i h
          injection h with h1 _
          exact absurd h1 c45
        · rfl⟩⟩
  obtain ⟨rfl, fz, rfl, ef⟩ := hv
  have lf : (tl fz).length ≤ (tl z).length := by
    rw [ef, ez]
    unfold bareOf
    split
    · rename_i h
      rw [h, List.length_cons]
      omega
    · exact Nat.le_refl _
  have Wl := W.len
  have en : isNum (tl z) = (match tl fz with | 48 :: _ => decide (tl z = [48]) | f => !decide (f = []) && f.all isF) := by
    rw [ef]
    rfl
  refine run_gate (fun H2 => Sm H1 H2 ∧ isNum (tl z) = false) (fun nx hnx => ?_) fun H2 hp2 => ?_
  · refine run_ifE (run_and ⟨_, rfl, rfl, _, rfl, ?_⟩)
    have e0 : decide (V.str fz = V.str "") = decide (tl fz = []) := dec_str _ _
    refine ite2 (fun k => ?_) (fun k => ?_)
    · have ne : ¬ tl fz = [] := fun e => by
        have k' : (!decide (V.str fz = V.str "")) = true := k
        rw [e0, decide_eq_true e] at k'
        cases k'
      refine run_test ?_
      refine lc_signs (i := 3) (z := fz) (fun c => !isF c) (by show 3 < 4; decide) (fun R h => ⟨_, rfl, h⟩) (by omega) (fun c H2 _ S2 R h => ?_) fun D H2 S2 hD => ?_
      · exact ⟨_, (by rfl), c, "0123456789", rfl, rfl, _, rfl, h H2 (Sm.refl H2)⟩
      refine ⟨Nat.zero_le _, fun D2 hD2 => ⟨D, D2, _, rfl, rfl, SqL.of ((Sm.new hD2) _ _ hD), SqL.of upd_same, _, rfl, ?_⟩⟩
      have S3 := S2.trans (Sm.new (o := .lst []) hD2)
      generalize upd H2 D2 (.lst []) = H3 at *
      refine ite2 (fun k2 => ?_) (fun k2 => ?_)
      · have all : (tl fz).all isF = true := by
          have k3 : (((tl fz).filter fun c => !isF c).map fun c => V.str ⟨#[c]⟩).isEmpty = true := k2
          rw [List.isEmpty_iff, List.map_eq_nil_iff, List.filter_eq_nil_iff] at k3
          exact List.all_eq_true.mpr fun c hc => by
            have := k3 c hc
            cases hh : isF c with
            | true => rfl
            | false => rw [hh] at this; exact absurd rfl this
        obtain ⟨d, r2, ed⟩ : ∃ d r2, tl fz = d :: r2 := by
          cases e : tl fz with
          | nil => exact absurd e ne
          | cons d r2 => exact ⟨d, r2, rfl⟩
        have i1 : atI (tl fz) (0 : Int) = some d := by rw [ed]; exact atI_nat (j := 0) rfl
        have number : isNum (tl z) = true → ∀ l H4, Sm H3 H4 → H4 l = some (.lst ([0, numOf (tl z)].map V.int)) → Q (.ref l) H4 := fun hn l H4 S4 hl => q l H4 (S3.trans S4) (by unfold rankL; rw [if_pos hn]; exact hl)
        refine run_ifE ?_
        have e48 : decide (V.str ⟨#[d]⟩ = V.str "0") = decide (d = 48) := one_is (d := 48)
        have ret : isNum (tl z) = true → ∀ Qr : VK, (∀ l H4, Sm H3 H4 → H4 l = some (.lst ([0, numOf (tl z)].map V.int)) → Qr (.ref l) H4) → True := fun _ _ _ => trivial
        refine ⟨_, rfl, fz, 0, d, rfl, rfl, by rw [len_tl]; exact small (by omega), i1, rfl, _, rfl, ?_⟩
        refine ite2 (fun k3 => ?_) (fun k3 => ?_)
        · have nd : ¬ d = 48 := fun e => by
            have k' : (!decide (V.str ⟨#[d]⟩ = V.str "0")) = true := k3
            rw [e48, decide_eq_true e] at k'
            cases k'
          have hn : isNum (tl z) = true := by
            rw [en]
            split
            · rename_i r3 e
              rw [ed] at e
              injection e with e1 _
              exact absurd e1 nd
            · rw [all, decide_eq_false ne]
              rfl
          refine iteT ?_
          refine run_ret ⟨_, rfl, z, _, rfl, int_txt hn (by omega), by rw [len_tl]; omega, (by show 2 ≤ sizeLine; decide), fun l hl => ?_⟩
          exact number hn l _ (Sm.new hl) upd_same
        · have nd : d = 48 := by
            by_cases e : d = 48
            · exact e
            · exact absurd (by show (!decide (V.str ⟨#[d]⟩ = V.str "0")) = true; rw [e48, decide_eq_false e]; rfl) k3
          have ez0 : decide (V.str z = V.str "0") = decide (tl z = [48]) := dec_str _ _
          have hn : isNum (tl z) = decide (tl z = [48]) := by
            rw [en, ed, nd]
            rfl
          refine ⟨_, rfl, rfl, _, rfl, ?_⟩
          refine ite2 (fun k4 => ?_) (fun k4 => ?_)
          · have k5 : decide (V.str z = V.str "0") = true := k4
            rw [ez0] at k5
            rw [k5] at hn
            refine run_ret ⟨_, rfl, z, _, rfl, int_txt hn (by omega), by rw [len_tl]; omega, (by show 2 ≤ sizeLine; decide), fun l hl => ?_⟩
            exact number hn l _ (Sm.new hl) upd_same
          · refine hnx _ ⟨S3, ?_⟩
            rw [hn, ← ez0]
            exact Bool.eq_false_iff.mpr k4
      · have all : (tl fz).all isF = false := by
          cases hh : (tl fz).all isF with
          | false => rfl
          | true =>
            refine absurd ?_ k2
            show (((tl fz).filter fun c => !isF c).map fun c => V.str ⟨#[c]⟩).isEmpty = true
            rw [List.isEmpty_iff, List.map_eq_nil_iff, List.filter_eq_nil_iff]
            intro c hc
            rw [List.all_eq_true.mp hh c hc]
            exact Bool.false_ne_true
        refine hnx _ ⟨S3, ?_⟩
        rw [en]
        split
        · rename_i r2 e
          refine decide_eq_false fun z1 => ?_
          have f48 : isF 48 = true := by unfold isF; rw [tl_FG]; decide
          have : bareOf (tl z) = [48] := by rw [z1]; rfl
          rw [ef, this] at all
          rw [List.all_cons, f48] at all
          cases all
        · rw [all, Bool.and_false]
    · have ne : tl fz = [] := by
        by_cases e : tl fz = []
        · exact e
        · exact absurd (by show (!decide (V.str fz = V.str "")) = true; rw [e0, decide_eq_false e]; rfl) k
      refine hnx _ ⟨Sm.refl _, ?_⟩
      rw [en, ne]
      rfl
  · obtain ⟨S2, hn⟩ := hp2
    have ho : rankL z = 1 :: (tl z).map fun c => (posB c : Int) := by
      unfold rankL
      rw [if_neg (by rw [hn]; exact Bool.false_ne_true)]
    rw [ho] at q
    refine run_ret ?_
    refine run_op ⟨(by show 1 ≤ sizeLine; decide), fun L hL => ?_⟩
    have S3 := S2.trans (Sm.new (o := .lst [V.int 1]) hL)
    have atL : (upd H2 L (.lst [V.int 1])) L = some (.lst [V.int 1]) := upd_same
    generalize upd H2 L (.lst [V.int 1]) = H3 at *
    refine lc_smap (i := 3) (z := z) (fun c => V.int (posB c : Nat)) (fun R h => ⟨_, rfl, h⟩) (by omega) (fun c H4 hc S4 R h => ?_) fun D H4 S4 hD => ?_
    · obtain ⟨rr, hr⟩ := occ_at (W.sg c hc)
      exact ⟨_, rfl, ⟨_, rfl⟩, _, (by rfl), SIGNS, ⟨#[c]⟩, posB c, rr, rfl, rfl, hr, h H4 (Sm.refl H4)⟩
    · have S34 := S3.trans S4
      refine ⟨L, D, _, _, rfl, rfl, S4 _ _ atL, hD, small (by rw [List.length_map]; show 1 + (tl z).length ≤ 100000; omega), fun l hl => q l _ (S34.trans (Sm.new hl)) ?_⟩
      rw [List.map_cons, List.map_map]
      exact upd_same
end
/-! ### a lambda without captured names: made, called -/
def AtO (a : Addr) (o : Obj) : Heap → Prop := fun h => h.get? a = some o
theorem atO_new {P : Program} {w : World} {H : Hp} {h : Heap} {a : Addr} {o : Obj} (e : h.get? a = some o) : ObjOk P w H h a (.ext (AtO a o)) := ⟨e, ⟨o, e⟩, fun _ _ p k => k o p⟩
theorem atO_ok {P : Program} {w : World} {H : Hp} {h : Heap} {a : Addr} {o : Obj} (x : HOk P w H h) (e : H a = some (.ext (AtO a o))) : h.get? a = some o := (x a _ e).1
/-- a lambda stands at f -/
def LamAt (H : Hp) (q : Str) (params : Arguments) (body : Expr) (scope : Scope) (f : Addr) : Prop := ∃ (c : Addr) (oc : Obj) (pm ct : Value), H f = some (.ext (AtO f (PySem.W.kla_obj "<lambda>" q params body scope [] pm c ct))) ∧ H c = some (codeH oc) ∧ CodeN oc q
theorem LamAt.sm {H H' : Hp} {q : Str} {params : Arguments} {body : Expr} {scope : Scope} {f : Addr} (S : Sm H H') (L : LamAt H q params body scope f) : LamAt H' q params body scope f := by
  obtain ⟨c, oc, pm, ct, h1, h2, h3⟩ := L
  exact ⟨c, oc, pm, ct, S _ _ h1, S _ _ h2, h3⟩
theorem among_eq {p r : Pos} (h1 : p.line = r.line) (h2 : p.col = r.col) : ∀ l : List Value, codeAmong p l = codeAmong r l := by
  intro l
  fun_induction codeAmong r l with
  | case1 a x b y u rest h =>
    rw [codeAmong, h1, h2, if_pos h]
  | case2 a x b y u rest h ih =>
    rw [codeAmong, h1, h2, if_neg h]
    exact ih
  | case3 l h =>
    unfold codeAmong
    split
    · exact (h _ _ _ _ _ _ rfl).elim
    · rfl
theorem clo_none {cells : List (Str × Addr)} {names : List (Str × NameKind)} (h : ∀ y ∈ names, y.2 ≠ .free) : cloFrom cells names [] = [] := by
  cases e : cloFrom cells names [] with
  | nil => rfl
  | cons x r =>
    have hm : (x.1, x.2) ∈ cloFrom cells names [] := by rw [e]; exact List.mem_cons_self
    rcases cloFrom_mem hm with z | ⟨z, _⟩
    · cases z
    · exact absurd rfl (h _ z)
section
variable {X : Cx} {pins : List (Addr × Obj)} {σ : L2.St} {H : Hp} {s : Shared}
/-- the lambda is made: its code is new, or the one that the table tells -/
theorem lam_made {P c : Addr} {params : Arguments} {body : Expr} {scope : Scope} {pos : Pos} {E : Value → Shared → Prop} {Q : Value → Shared → Prop} (I : Inv X pins σ H s) (TB : GxR.TabB X.base X.mg c P) (hcode : X.env.code = .ref c) (t : Tb H P)
    (hm : (pos, X.env.qual ++ "<lambda>") ∈ lams) (hu : ∀ x ∈ lams, x.1.line = pos.line → x.1.col = pos.col → x.2 = X.env.qual ++ "<lambda>") (hdef : defaultsOf params X.env = ([], [])) (hnf : ∀ y ∈ scope.names, y.2 ≠ .free)
    (h : ∀ (f : Addr) (H1 : Hp) (s' : Shared), Inv X pins σ H1 s' → Sm H H1 → LamAt H1 (X.env.qual ++ "<lambda>") params body scope f → Q (.ref f) s') :
    wpAny (model X.prog X.w) X.A (eval (.Lambda params body scope pos) X.env) Q E s := by
  obtain ⟨ps, hP, ht, ha⟩ := id t
  have hcl : closureFor scope X.env = pure [] := by
    rw [closure_ok fun y hy e => absurd e (hnf y hy), clo_none hnf]
  refine PySem.W.kla_eval hdef ?_
  have bP := TB.bm.keeps I.bk
  have gP : s.heap.get? P = some { cls := .none, data := .fields ps } := I.hok P _ hP
  cases hc : codeAmong pos ps.toList with
  | none =>
    refine PySem.W.kla_makeFunction (mg := X.mg) (c := c) (P := P) (ps := ps) hcl I.ok.glob (I.mod.glob.keeps I.bk) hcode (TB.code.keeps I.bk) gP ht hc TB.gP bP fun c' ctv h' tk hx hge hlt hrec htb => ?_
    obtain ⟨c2, oc, vs, tq, e2, hoc, hd, hv⟩ := hrec
    cases e2
    have gU : (s.heap.update P fun _ => { cls := .none, data := .fields (ps ++ #[rawInt pos.line, rawInt pos.col, .ref c']) }).get? P = some { cls := .none, data := .fields (ps ++ #[rawInt pos.line, rawInt pos.col, .ref c']) } := Heap.get?_update_self _ gP rfl
    have I1 := GxR.inv_tab (more := #[rawInt pos.line, rawInt pos.col, .ref c']) (g' := s.gens) (d' := s.drawn) (t' := s.toks) I hP (fun b u hb e => (Heap.get?_update_other _ _ (Ne.symm hb)).trans e) gU I.bare
    have nC : H c' = none := I.hok.fresh hge
    have I2 := I1.laid (a := c') (o := codeH oc) (h' := h') (t' := tk) (fun b u e => by
      by_cases hb : b = P
      · rw [hb, gU] at e
        rw [hb, ← e]
        exact htb
      · rw [Heap.get?_update_other _ _ (Ne.symm hb)] at e
        exact hx b u hb e) (by rw [Heap.size_update]; exact hge) ⟨hoc, hoc, _, hoc⟩
    have I3 := I2.laid (a := h'.objs.size) (o := .ext (AtO h'.objs.size (PySem.W.kla_obj "<lambda>" (X.env.qual ++ "<lambda>") params body scope [] ((X.mg "__name__").getD .none) c' ctv))) (h' := h'.push (PySem.W.kla_obj "<lambda>" (X.env.qual ++ "<lambda>") params body scope [] ((X.mg "__name__").getD .none) c' ctv)) (t' := tk)
      (fun b u e => Heap.get?_push_of_some _ e) (Nat.le_refl _) (atO_new (Heap.get?_push_size _ rfl))
    have nPc : P ≠ c' := ne_of_none hP nC
    have nf : (upd (upd H P (.tbl (ps ++ #[rawInt pos.line, rawInt pos.col, .ref c']))) c' (codeH oc)) h'.objs.size = none := I2.hok.fresh (Nat.le_refl _)
    have S1 : Sm H (upd (upd H P (.tbl (ps ++ #[rawInt pos.line, rawInt pos.col, .ref c']))) c' (codeH oc)) := by
      have old : ∀ {b : Addr} {o : HO}, H b = some o → notTbl o = true → (upd (upd H P (.tbl (ps ++ #[rawInt pos.line, rawInt pos.col, .ref c']))) c' (codeH oc)) b = some o := fun {b o} e n => by
        rw [upd_ne (ne_of_none e nC), upd_ne fun z => by rw [z, hP] at e; cases e; cases n]
        exact e
      refine ⟨fun b o e n => old e n, fun Z q => ?_, fun b e => ?_⟩
      · obtain ⟨qs, q1, q2, q3⟩ := q
        by_cases hZ : Z = P
        · rw [hZ, hP] at q1
          cases q1
          have eL : (ps ++ #[rawInt pos.line, rawInt pos.col, Value.ref c']).toList = ps.toList ++ [rawInt pos.line, rawInt pos.col, .ref c'] := by simp
          refine ⟨_, by rw [hZ, upd_ne nPc, upd_same], by rw [eL]; exact PySem.TriplesOk_snoc _ _ _ _ ht, fun x hx2 cv hcv => ?_⟩
          rw [eL] at hcv
          rcases LamX.among_app _ ht hcv with z | z
          · obtain ⟨c0, o0, e1, e2, e3⟩ := q3 x hx2 cv z
            exact ⟨c0, o0, e1, old e2 rfl, e3⟩
          · by_cases hp : x.1.line = pos.line ∧ x.1.col = pos.col
            · exact ⟨c', oc, z, upd_same, by rw [hu x hx2 hp.1 hp.2]; exact ⟨vs, tq, hd, hv⟩⟩
            · obtain ⟨c0, o0, e1, e2, e3⟩ := q3 x hx2 cv (among_ne hp _ ht hcv)
              exact ⟨c0, o0, e1, old e2 rfl, e3⟩
        · refine ⟨qs, ?_, q2, fun x hx2 cv hcv => ?_⟩
          · rw [upd_ne (ne_of_none q1 nC), upd_ne hZ]
            exact q1
          · obtain ⟨c0, o0, e1, e2, e3⟩ := q3 x hx2 cv hcv
            exact ⟨c0, o0, e1, old e2 rfl, e3⟩
      · by_cases e1 : b = c'
        · rw [e1]
          exact nC
        · rw [upd_ne e1] at e
          by_cases e2 : b = P
          · rw [e2, upd_same] at e
            cases e
          · rw [upd_ne e2] at e
            exact e
    have cf : c' ≠ h'.objs.size := Nat.ne_of_lt hlt
    exact h _ _ _ I3 (S1.trans (Sm.new nf)) ⟨c', oc, _, ctv, upd_same, by rw [upd_ne cf, upd_same], vs, tq, hd, hv⟩
  | some cv =>
    obtain ⟨c', oc, e, hco, hn⟩ := ha _ hm cv hc
    subst e
    refine PySem.W.kla_makeFunctionHit (mg := X.mg) (c := c) (P := P) (ps := ps) hcl I.ok.glob (I.mod.glob.keeps I.bk) hcode (TB.code.keeps I.bk) gP ht hc bP fun ctv h' tk hx hsz => ?_
    have nf : H h'.objs.size = none := I.hok.fresh hsz
    have I1 := I.laid (a := h'.objs.size) (o := .ext (AtO h'.objs.size (PySem.W.kla_obj "<lambda>" (X.env.qual ++ "<lambda>") params body scope [] ((X.mg "__name__").getD .none) c' ctv))) (h' := h'.push (PySem.W.kla_obj "<lambda>" (X.env.qual ++ "<lambda>") params body scope [] ((X.mg "__name__").getD .none) c' ctv)) (t' := tk)
      (fun b u e => Heap.get?_push_of_some _ (hx b u e)) hsz (atO_new (Heap.get?_push_size _ rfl))
    exact h _ _ _ I1 (Sm.new nf) ⟨c', oc, _, ctv, upd_same, by rw [upd_ne (ne_of_none hco nf)]; exact hco, hn⟩
end
/-- the lambda is called -/
theorem lam_called {P : Program} {w : World} {K : PySem.W.Frag} {mg : Str → Option Value} {base : Heap} {k : Nat} {f : Addr} {q : Str} {params : Arguments} {body : Expr} {scope : Scope} {N ps : List Str} {tb : TE} (S : FnScope N ps scope)
    (hbind : ∀ (pm cd ct : Value) (us : List Value), us.length = ps.length → bindArgs (PySem.W.kla_fn "<lambda>" q params body scope [] pm cd ct) ⟨us, []⟩ = pure (ps.zip us))
    (hbody : ∀ (f : Addr) (cd : Value) (A : Around) (outer : List Env) (s : Shared) (H : Hp), Room k (A.deeper (PyProof.Rows.envOfC q scope s.heap.objs.size f cd)) → PE (cxOf CX0 P w K mg base N q scope f cd A outer s H E0) body tb)
    {A : Around} {outer : List Env} {s : Shared} {H : Hp} {us : List Value} {vs : List V} {Q : VK} (hr : Room (k + 1) A) (e0 : Env0 P w K mg base A outer s H) (L : LamAt H q params body scope f) (r : Vals vs us) (hl : vs.length = ps.length) (h : tb (L2.start N vs) H Q) :
    codeAny (model P w) A (.call (.ref f) ⟨us, []⟩) (CR CX0 outer P w H s Q E0) s := by
  obtain ⟨c, oc, pm, ct, h1, h2, vs2, tq, h3, h4⟩ := L
  have hf := atO_ok e0.hok h1
  have hoc : s.heap.get? c = some oc := (e0.hok c _ h2).1
  have nl : s.heap.NoLimit := e0.mod.nolimit.keeps fun b o z => (e0.bs b o z).1
  have hlu : us.length = ps.length := by rw [← r.length]; exact hl
  refine PySem.W.kla_callFunE hr.depth hf rfl S.co S.gen rfl ⟨c, oc, vs2, tq, rfl, hoc, h3, h4⟩ ?_
  rw [hbind _ _ _ us hlu]
  refine wpAny_pure (wpAny_newFunctionEnv_cells S.kind (fun y hy => ?_) fun env he s1 x => ?_)
  · rcases S.par y.1 (List.of_mem_zip hy).1 with z | z
    · exact .inl z
    · exact .inr ⟨z, PySem.W.cellsFrom_some _ _ _ (.inl z)⟩
  subst he
  refine ⟨nl.keeps x.toInCall.keep, ?_⟩
  have J : Inv (cxOf CX0 P w K mg base N q scope f (.ref c) A outer s H E0) [] (L2.start N vs) H s1 := inv_start S hr.hd e0 hl r x
  refine PySem.W.kla_codeExpr (wpAny_mono ((hbody f (.ref c) A outer s H (hr.deeper _)).run [] s1 _ H Q J h) (fun v s' hq => ?_) fun e s' hs => hs)
  obtain ⟨w', H', J', rv, hq⟩ := hq
  exact ⟨w', H', J'.os, J'.bare, J'.base, J'.hok, rv, hq⟩
/-! ### sorted(xs, key=lambda x: ..): keys of ints, texts, tuples and lists; any length -/
open PyProof.Rows in
mutual
/-- what a value reads as -/
inductive GR (H : Hp) : V → PyData → Prop
  | int (i : Int) : GR H (.int i) (.int i)
  | str (z : Str) : GR H (.str z) (.str z)
  | tup {p : Addr} {xs : List V} {ds : List PyData} : H p = some (.tup xs) → GRs H xs ds → GR H (.ref p) (.tuple ds)
  | lst {p : Addr} {xs : List V} {ds : List PyData} : H p = some (.lst xs) → GRs H xs ds → GR H (.ref p) (.list ds)
inductive GRs (H : Hp) : List V → List PyData → Prop
  | nil : GRs H [] []
  | cons {v : V} {vs : List V} {d : PyData} {ds : List PyData} : GR H v d → GRs H vs ds → GRs H (v :: vs) (d :: ds)
end
def isSq : HO → Bool
  | .lst _ => true
  | .tup _ => true
  | _ => false
theorem sq_nt {o : HO} (h : isSq o = true) : notTbl o = true := by cases o <;> first | rfl | cases h
theorem sq_ne {H : Hp} {a b : Addr} {o : HO} {φ : Heap → Prop} (g : H a = some o) (n : isSq o = true) (k : H b = some (.ext φ)) : a ≠ b := fun z => by
  rw [z, k] at g
  cases g
  cases n
mutual
theorem GR.keep {H H' : Hp} (k : ∀ p o, H p = some o → isSq o = true → H' p = some o) : ∀ {v : V} {d : PyData}, GR H v d → GR H' v d
  | _, _, .int i => .int i
  | _, _, .str z => .str z
  | _, _, .tup h t => .tup (k _ _ h rfl) (GRs.keep k t)
  | _, _, .lst h t => .lst (k _ _ h rfl) (GRs.keep k t)
theorem GRs.keep {H H' : Hp} (k : ∀ p o, H p = some o → isSq o = true → H' p = some o) : ∀ {v : List V} {d : List PyData}, GRs H v d → GRs H' v d
  | _, _, .nil => .nil
  | _, _, .cons h t => .cons (GR.keep k h) (GRs.keep k t)
end
theorem GR.sm {H H' : Hp} (S : Sm H H') {v : V} {d : PyData} (h : GR H v d) : GR H' v d := h.keep fun _ _ e n => S.keep _ _ e (sq_nt n)
theorem GRs.sm {H H' : Hp} (S : Sm H H') {v : List V} {d : List PyData} (h : GRs H v d) : GRs H' v d := h.keep fun _ _ e n => S.keep _ _ e (sq_nt n)
section
variable {P : Program} {w : World} {H : Hp} {h : Heap}
mutual
theorem GR.reads (ok : HOk P w H h) : ∀ {v : V} {d : PyData} {u : Value}, GR H v d → RelV v u → ∃ as, PySem.Reads h u d as
  | _, _, _, .int i, r => by
    obtain ⟨t, rfl⟩ := r
    exact ⟨_, .int _ _⟩
  | _, _, _, .str z, r => by
    obtain ⟨t, rfl⟩ := r
    exact ⟨_, .str _ _⟩
  | _, _, u, .tup (p := p) e t, r => by
    have e2 : u = Value.ref p := r
    subst e2
    obtain ⟨_, its, r2, ob, g1, g2, n, g3⟩ := ok p _ e
    obtain ⟨as, ra⟩ := GRs.reads ok t r2
    exact ⟨_, .tuple g1 g2 g3 (by simpa using ra)⟩
  | _, _, u, .lst (p := p) e t, r => by
    have e2 : u = Value.ref p := r
    subst e2
    obtain ⟨_, its, n, r2, g1⟩ := ok p _ e
    obtain ⟨as, ra⟩ := GRs.reads ok t r2
    exact ⟨_, .list g1 rfl rfl (by simpa using ra)⟩
theorem GRs.reads (ok : HOk P w H h) : ∀ {vs : List V} {ds : List PyData} {us : List Value}, GRs H vs ds → Vals vs us → ∃ as, PySem.ReadsAll h us ds as
  | _, _, _, .nil, .nil => ⟨_, .nil⟩
  | _, _, _, .cons g t, .cons r rt => by
    obtain ⟨_, a⟩ := GR.reads ok g r
    obtain ⟨_, b⟩ := GRs.reads ok t rt
    exact ⟨_, .cons a b⟩
end
end
/-- the same place, two calls of built-ins deeper; nothing is raised -/
def sub (X : Cx) : Cx := { X with A := X.A.in1.in1, xe := fun _ _ => False }
section
variable {X : Cx} {pins : List (Addr × Obj)} {σ : St} {H : Hp} {s : Shared}
theorem sub_in (I : Inv X pins σ H s) : Inv (sub X) pins σ H s := by
  have k := I.ok
  exact ⟨⟨k.mod, k.kind, k.glob, k.blt, k.above, k.inj, k.has, k.cab, k.hd, k.frames, k.stk, k.exf, k.bs, k.bsz, k.noex, k.exfs, k.funs, k.frf⟩, I.os, I.bare, I.base, I.loc, I.cell, I.free, I.freeC, I.pin, I.hok, I.len⟩
theorem sub_out (k : X.Ok) (I : Inv (sub X) pins σ H s) : Inv X pins σ H s :=
  ⟨k, I.os, I.bare, I.base, I.loc, I.cell, I.free, I.freeC, I.pin, I.hok, I.len⟩
end
theorem vals_each : ∀ {xs : List V} {vs : List Value}, Vals xs vs → PySem.W.EachIs (fun v x => RelV x v) vs xs
  | _, _, .nil => .nil
  | _, _, .cons r t => .cons r (vals_each t)
theorem each_vals : ∀ {xs : List V} {vs : List Value}, PySem.W.EachIs (fun v x => RelV x v) vs xs → Vals xs vs
  | _, _, .nil => .nil
  | _, _, .cons r t => .cons r (each_vals t)
def KRow (kd : V → PyData) (H : Hp) : List V → List V → Prop := Paired fun x k => GR H k (kd x)
theorem KRow.keep {kd : V → PyData} {H H' : Hp} (k : ∀ p o, H p = some o → isSq o = true → H' p = some o) : ∀ {xs ks : List V}, KRow kd H xs ks → KRow kd H' xs ks
  | _, _, .nil => .nil
  | _, _, .cons h t => .cons (h.keep k) (KRow.keep k t)
theorem krow_reads {kd : V → PyData} {P : Program} {w : World} {H : Hp} {h : Heap} (ok : HOk P w H h) : ∀ {xs ks : List V} {us : List Value}, KRow kd H xs ks → Vals ks us → PySem.W.EachIs (fun v d => ∃ as, PySem.Reads h v d as) us (xs.map kd)
  | _, _, _, .nil, .nil => .nil
  | _, _, _, .cons g t, .cons r1 t1 => .cons (g.reads ok r1) (krow_reads ok t t1)
section
variable {X : Cx} {pins : List (Addr × Obj)} {σ : St} {H : Hp} {s : Shared} {Pq : PySem.Fin → Shared → Prop} {E : Value → Shared → Prop}
/-- the keys are there: the rows are sorted by them -/
theorem sortL_end {a kS : Addr} {e1 e : Nat} {kA : Array Value} {vs : List Value} {xs ks : List V} {kd : V → PyData} (H0 : Hp) (I : Inv X pins σ H s) (S0 : Sm H0 H) (na : H0 a = none) (nk : H0 kS = none) (hak : kS ≠ a)
    (ha : H a = some (.ext (AtO a (PyProof.Rows.seqObj "list" #[] e1)))) (hk : H kS = some (.ext (AtO kS (PyProof.Rows.seqObj "list" kA e)))) (hup : X.s_0.heap.objs.size ≤ kS ∧ kS ≠ X.env.locals ∧ (∀ x c, X.env.cells.lookup x = some c → c ≠ kS) ∧ ∀ p ∈ X.pn ++ pins, p.1 ≠ kS)
    (rv : Vals xs vs) (hz : vs.length ≤ sizeLine) (hu : X.A.units + 8 < cLine) (hR : KRow kd H xs ks) (rk' : Vals ks kA.toList)
    (hsk : PySem.W.Sortable (xs.map kd)) (hdq : ∀ x ∈ xs, (kd x).depth ≤ 8) (hal : PySem.W.AllAlike (xs.map kd))
    (q : ∀ (H2 : Hp) (s2 : Shared), Inv X pins σ H2 s2 → Sm H0 H2 → H2 a = some (.lst (xs.mergeSort (PySem.W.dataLe false kd))) → Pq (.done (.ret .none)) s2) :
    wpAny (model X.prog X.w) X.A (PyProof.Rows.ksk_end a false vs.toArray e1 (.ref kS) kA) Pq E s := by
  have oa := atO_ok I.hok ha
  have ok := atO_ok I.hok hk
  have er := krow_reads I.hok hR rk'
  have hdp : ∀ d, d ∈ xs.map kd → X.A.units + d.depth < cLine := fun d hd => by
    obtain ⟨x, hx, rfl⟩ := List.mem_map.mp hd
    have := hdq x hx
    omega
  have hs1 : kA.size = vs.length := by
    have h1 := er.length
    rw [Array.length_toList, List.length_map] at h1
    rw [h1]
    exact rv.length
  refine PySem.W.keyH_end (κ := PySem.W.dataKind s.heap (xs.map kd)) (h₁ := PySem.W.hideAll s.heap [kS]) (fun b o _ e => PySem.W.of_hideAll _ e) (PySem.W.hideAll_none _ (.head _)) ok oa hak (PySem.W.SortsAt.data er hal hsk hdp) hs1 hz
    fun h' tk c kp ho => ?_
  have kp' : ∀ b o, b ≠ a → b ≠ kS → s.heap.get? b = some o → h'.get? b = some o := fun b o h1 h2 g => kp b o h1 (PySem.W.hideAll_get _ g (by simpa using h2))
  have out := PySem.W.keyedOut_each (rev := false) (R := fun v x => RelV x v) kd ⟨s.heap, kA.toList, hal, rfl, er⟩ (vals_each rv)
  have rv2 : Vals (xs.mergeSort (PySem.W.dataLe false kd)) (PySem.W.sortVals (PySem.W.dataKind s.heap (xs.map kd)) false kA.toList vs) := each_vals out
  have hlen : (xs.mergeSort (PySem.W.dataLe false kd)).length ≤ sizeLine := by
    rw [List.length_mergeSort, rv.length]
    exact hz
  have hmu : ∀ b u, H b = some u → (∀ φ, u ≠ .ext φ) → b ≠ a ∧ b ≠ kS := fun b u g n =>
    ⟨fun z => by rw [z, ha] at g; exact n _ (Option.some.inj g).symm, fun z => by rw [z, hk] at g; exact n _ (Option.some.inj g).symm⟩
  have ua : ∀ b, b ≠ kS → b ≠ a → (if b = kS then none else upd H a (.lst (xs.mergeSort (PySem.W.dataLe false kd))) b) = H b := fun b h1 h2 => by
    rw [if_neg h1, upd_ne h2]
  refine q (fun b => if b = kS then none else upd H a (.lst (xs.mergeSort (PySem.W.dataLe false kd))) b) _ (I.call (g' := s.gens) (d' := s.drawn) (t' := tk) (ch := [kS]) ⟨fun b o g n _ hx => ?_, fun b o g n _ hx => ?_, fun b o g n hx => ?_, fun b o g hx => ?_, fun b ys g => ?_, fun b o u g => ?_, fun b ps g => ⟨#[], ?_⟩⟩ (fun b u g => ?_) I.bare ?_) ?_ ?_
  · have h1 : b ≠ kS := by simpa using hx
    have h2 : b ≠ a := fun z => by rw [z, ha] at n; cases n
    exact kp' b o h2 h1 g
  · have h1 : b ≠ kS := by simpa using hx
    have h2 : b ≠ a := fun z => by rw [z, ha] at n; cases n
    exact ⟨o.slots, kp' b o h2 h1 g⟩
  · have h1 : b ≠ kS := by simpa using hx
    have h2 : b ≠ a := fun z => by rw [z, ha] at n; cases n
    rw [ua b h1 h2]
    exact n
  · have h1 : b ≠ kS := by simpa using hx
    by_cases h2 : b = a
    · rw [h2]
      exact ⟨_, ho⟩
    · exact ⟨o, kp' b o h2 h1 g⟩
  · obtain ⟨h2, h1⟩ := hmu b _ g fun φ z => by cases z
    rw [ua b h1 h2]
    exact g
  · obtain ⟨h2, h1⟩ := hmu b _ g fun φ z => by cases z
    rw [ua b h1 h2]
    exact g
  · obtain ⟨h2, h1⟩ := hmu b _ g fun φ z => by cases z
    rw [ua b h1 h2, g]
    simp
  · by_cases h1 : b = kS
    · rw [if_pos h1] at g
      cases g
    rw [if_neg h1] at g
    by_cases h2 : b = a
    · subst h2
      rw [upd_same] at g
      cases g
      exact ⟨hlen, _, c, rv2, ho⟩
    · rw [upd_ne h2] at g
      refine (I.hok b u g).stay (fun d v hd gd => ?_) (fun d gd => ?_) fun d ys gd => ?_
      · rcases hd with rfl | hd
        · exact kp' _ v h2 h1 gd
        · obtain ⟨z2, z1⟩ := hmu d _ hd fun φ z => by cases z
          exact kp' d v z2 z1 gd
      · obtain ⟨z2, z1⟩ := hmu d _ gd fun φ z => by cases z
        rw [ua d z1 z2]
        exact gd
      · obtain ⟨z2, z1⟩ := hmu d _ gd fun φ z => by cases z
        rw [ua d z1 z2]
        exact gd
  · intro b hb
    have : b = kS := by simpa using hb
    subst this
    exact ⟨.inr hup.1, hup.2.1, hup.2.2.1, hup.2.2.2⟩
  · refine ⟨fun b u g n => ?_, fun P t => ?_, fun b g => ?_⟩
    · rw [ua b (ne_of_none g nk) (ne_of_none g na)]
      exact S0.keep b u g n
    · obtain ⟨ps, t1, t2, t3⟩ := S0.tab P t
      obtain ⟨h2, h1⟩ := hmu P _ t1 fun φ z => by cases z
      refine ⟨ps, (ua P h1 h2).trans t1, t2, fun x hx cv hc => ?_⟩
      obtain ⟨c0, o0, i1, i2, i3⟩ := t3 x hx cv hc
      obtain ⟨j2, j1⟩ := hmu c0 _ i2 fun φ z => by cases z
      exact ⟨c0, o0, i1, (ua c0 j1 j2).trans i2, i3⟩
    · by_cases h1 : b = kS
      · rw [h1]; exact nk
      · by_cases h2 : b = a
        · rw [h2]; exact na
        · rw [ua b h1 h2] at g
          exact S0.gone b g
  · show (if a = kS then none else _) = _
    rw [if_neg (Ne.symm hak), upd_same]
/-- the keys are told, one behind the other -/
theorem sortL_rest {a kS f : Addr} {e1 : Nat} {vs : List Value} {xs : List V} {kd : V → PyData} (H0 : Hp) (I : Inv X pins σ H s) (S0 : Sm H0 H) (na : H0 a = none) (nk : H0 kS = none) (hak : kS ≠ a)
    (ha : H a = some (.ext (AtO a (PyProof.Rows.seqObj "list" #[] e1)))) (hk : H kS = some (.ext (AtO kS (PyProof.Rows.seqObj "list" #[] 0)))) (hup : X.s_0.heap.objs.size ≤ kS ∧ kS ≠ X.env.locals ∧ (∀ x c, X.env.cells.lookup x = some c → c ≠ kS) ∧ ∀ p ∈ X.pn ++ pins, p.1 ≠ kS)
    (rv : Vals xs vs) (hz : vs.length ≤ sizeLine) (hu : X.A.units + 8 < cLine)
    (tells : ∀ x ∈ xs, ∀ u, RelV x u → ∀ H1 s1, Sm H0 H1 → Inv X pins σ H1 s1 → wpAny (model X.prog X.w) X.A (call (.ref f) [u]) (EP X pins σ fun v H2 => Sm H1 H2 ∧ GR H2 v (kd x)) (fun _ _ => False) s1)
    (hsk : PySem.W.Sortable (xs.map kd)) (hdq : ∀ x ∈ xs, (kd x).depth ≤ 8) (hal : PySem.W.AllAlike (xs.map kd))
    (q : ∀ (H2 : Hp) (s2 : Shared), Inv X pins σ H2 s2 → Sm H0 H2 → H2 a = some (.lst (xs.mergeSort (PySem.W.dataLe false kd))) → Pq (.done (.ret .none)) s2) :
    wpAny (model X.prog X.w) X.A (PyProof.Rows.ksk_rest a (.ref f) false vs.toArray e1 (.ref kS)) Pq E s := by
  unfold PyProof.Rows.ksk_rest
  refine wpAny_bind (wpAny_rule ?_)
  rw [List.forIn_toArray]
  refine wpAny_bind (PyProof.Rows.ksk_fold (fun i s' => ∃ H' kA ks e, Inv X pins σ H' s' ∧ Sm H0 H' ∧ H' a = some (.ext (AtO a (PyProof.Rows.seqObj "list" #[] e1))) ∧ H' kS = some (.ext (AtO kS (PyProof.Rows.seqObj "list" kA e))) ∧
    KRow kd H' (xs.take i) ks ∧ Vals ks kA.toList) vs 0 s ⟨H, #[], [], 0, I, S0, ha, hk, by rw [List.take_zero]; exact .nil, .nil⟩ ?_ ?_)
  · rintro j v s1 hv ⟨H1, kA, ks, e, I1, S1, a1, k1, hR, rk1⟩
    simp only [Nat.zero_add] at hR ⊢
    obtain ⟨x, hx, rx⟩ := val_at rv hv
    have hm : x ∈ xs := List.mem_of_getElem? hx
    have run := tells x hm v rx H1 s1 S1 I1
    refine wpAny_bind (wpAny_attempt (wpAny_mono run (fun u s2 hq => ?_) fun _ _ z => z.elim))
    obtain ⟨v2, H2, I2, r2, S2, hp⟩ := hq
    dsimp only
    have a2 := S2 _ _ a1
    have k2 := S2 _ _ k1
    have ok := atO_ok I2.hok k2
    have hlt : j < vs.length := (List.getElem?_eq_some_iff.mp hv).1
    have hz1 : kA.size ≤ vs.length := by
      have h1 : ks.length = kA.size := by simpa using rk1.length
      have h2 := hR.length
      rw [List.length_take] at h2
      have := rv.length
      omega
    obtain ⟨c, nobj⟩ : ∃ c, (s2.heap.update kS (Obj.mapSeq (·.push u))).get? kS = some (PyProof.Rows.seqObj "list" (kA.push u) c) := ⟨_, PyProof.Rows.get?_update_seq ok _⟩
    refine wpAny_bind (PyProof.Rows.listUpdate_at ok rfl ?_ (Nat.le_trans hz1 hz) (by rw [Array.size_push]; exact Nat.succ_le_succ (Nat.le_trans hz1 hz)))
    have sb := Heap.SameBut.update s2.heap kS (Obj.mapSeq (·.push u))
    refine wpAny_pure ⟨rfl, upd H2 kS (.ext (AtO kS (PyProof.Rows.seqObj "list" (kA.push u) c))), kA.push u, ks ++ [v2], c, ?_, ?_, ?_, upd_same, ?_, ?_⟩
    · exact I2.write (e := kS) (t' := s2.toks) (by rw [k2]; trivial) (.inl rfl) (fun b u hb g => (sb.2 b hb).trans g) ⟨_, nobj⟩ (atO_new nobj)
    · exact (S1.trans S2).over nk fun qs z => by rw [k2] at z; cases z; rfl
    · rw [upd_ne (Ne.symm hak)]
      exact a2
    · have key : KRow kd (upd H2 kS (.ext (AtO kS (PyProof.Rows.seqObj "list" (kA.push u) c)))) (xs.take j) ks := hR.keep fun b o g n => by
        rw [upd_ne (sq_ne g n k1)]
        exact S2.keep _ _ g (sq_nt n)
      rw [List.take_add_one, hx]
      exact Paired.snoc key (hp.keep fun b o g n => by rw [upd_ne (sq_ne g n k2)]; exact g)
    · rw [Array.toList_push]
      exact Paired.snoc rk1 r2
  · rintro s1 ⟨H1, kA, ks, e, I1, S1, a1, k1, hR, rk1⟩
    have e3 : xs.take (0 + vs.length) = xs := List.take_of_length_le (by have := rv.length; omega)
    rw [e3] at hR
    refine wpAny_bind (PyProof.Rows.listItems_at (atO_ok I1.hok k1) rfl ?_)
    exact sortL_end H0 I1 S1 na nk hak a1 k1 hup rv hz hu hR rk1 hsk hdq hal q
end
section
variable {X : Cx} {pins : List (Addr × Obj)} {σ : St} {H : Hp} {s : Shared}
theorem sortL_run {l f : Addr} {xs : List V} {kd : V → PyData} {Q : VK} (I : Inv X pins σ H s) (hs : SqL X.K H l xs) (hu : X.A.in1.in1.units + 8 < cLine)
    (tells : ∀ x ∈ xs, ∀ u, RelV x u → ∀ H1 s1, Sm H H1 → Inv (sub X) pins σ H1 s1 → wpAny (model X.prog X.w) (sub X).A (call (.ref f) [u]) (EP (sub X) pins σ fun v H2 => Sm H1 H2 ∧ GR H2 v (kd x)) (fun _ _ => False) s1)
    (hsk : PySem.W.Sortable (xs.map kd)) (hdq : ∀ x ∈ xs, (kd x).depth ≤ 8) (hal : PySem.W.AllAlike (xs.map kd))
    (q : ∀ (a : Addr) (H2 : Hp), Sm H H2 → H a = none → H2 a = some (.lst (xs.mergeSort (PySem.W.dataLe false kd))) → Q (.ref a) H2) :
    wpAny (model X.prog X.w) X.A (call (.builtin "sorted") [.ref l] [(Str.ofString "key", .ref f)]) (EP X pins σ Q) X.xe s := by
  obtain ⟨its, rv, hl, hz⟩ := I.list hs
  have hz2 : its.length ≤ sizeLine := by rw [← rv.length]; exact hz
  refine PySem.W.sorted_of_sort hl.isList hz2 (PyProof.Rows.ksk_s1 _ _) (fun _ => PyProof.Rows.ksk_l1 _ _) fun E' => ?_
  rw [PyProof.Rows.ksk_t1]
  have na : H (s.heap.objs.size + 1) = none := I.hok.fresh (Nat.le_succ _)
  generalize ea : s.heap.objs.size + 1 = a at *
  have c0 : (PySem.W.copyHeap s.heap its).get? a = some (PyProof.Rows.seqObj "list" its.toArray 0) := by
    rw [← ea]
    exact PySem.W.copyHeap_at _ _
  have J0 : Inv (sub X) pins σ (upd H a (.ext (AtO a (PyProof.Rows.seqObj "list" its.toArray 0)))) { s with heap := PySem.W.copyHeap s.heap its } :=
    (sub_in I).laid (t' := s.toks) (fun _ _ g => PySem.W.copyHeap_old g) (by omega) (atO_new c0)
  generalize PySem.W.copyHeap s.heap its = h0 at *
  unfold PyProof.Rows.ksk_tree
  refine wpAny_bind (PyProof.Rows.listItems_at c0 rfl ?_)
  refine wpAny_bind (PyProof.Rows.listUpdate_at c0 rfl ?_ (by rw [List.size_toArray]; exact hz2) (Nat.zero_le _))
  have sb := Heap.SameBut.update h0 a (Obj.mapSeq fun _ => (#[] : Array Value))
  obtain ⟨e1, c1⟩ : ∃ e1, (h0.update a (Obj.mapSeq fun _ => (#[] : Array Value))).get? a = some (PyProof.Rows.seqObj "list" #[] e1) := ⟨_, PyProof.Rows.get?_update_seq c0 fun _ => #[]⟩
  have J1 : Inv (sub X) pins σ (upd H a (.ext (AtO a (PyProof.Rows.seqObj "list" #[] e1)))) { s with heap := h0.update a (Obj.mapSeq fun _ => (#[] : Array Value)) } := by
    have := J0.write (e := a) (o := .ext (AtO a (PyProof.Rows.seqObj "list" #[] e1))) (t' := s.toks) (by rw [upd_same]; trivial) (.inl rfl) (fun b u hb g => (sb.2 b hb).trans g) ⟨_, c1⟩ (atO_new c1)
    rw [upd_upd] at this
    exact this
  refine wpAny_bind (PyProof.Rows.seqEpoch_at c1 rfl ?_)
  refine wpAny_bind (wpAny_newTuple ?_ (by show its.length ≤ _; exact hz2))
  refine wpAny_bind (wpAny_newList ?_ (Nat.zero_le _))
  refine wpAny_holding ?_
  dsimp only
  have J2 : Inv (sub X) pins σ _ { s with heap := (h0.update a (Obj.mapSeq fun _ => (#[] : Array Value))).push { cls := .type "tuple", data := .seq its.toArray.toList.toArray } } := J1.kept (t' := s.toks) fun b u g => Heap.get?_push_of_some _ g
  generalize ((h0.update a (Obj.mapSeq fun _ => (#[] : Array Value))).push { cls := .type "tuple", data := .seq its.toArray.toList.toArray }) = h2 at *
  have gS : (h2.push (PyProof.Rows.seqObj "list" #[] 0)).get? h2.objs.size = some (PyProof.Rows.seqObj "list" #[] 0) := Heap.get?_push_size _ rfl
  have hka : h2.objs.size ≠ a := fun z => by
    have h1 := J2.hok.lt (upd_same (H := H) (a := a) (o := .ext (AtO a (PyProof.Rows.seqObj "list" #[] e1))))
    rw [← z] at h1
    exact Nat.lt_irrefl _ h1
  have nS : (upd H a (.ext (AtO a (PyProof.Rows.seqObj "list" #[] e1)))) h2.objs.size = none := J2.hok.fresh (Nat.le_refl _)
  have nS0 : H h2.objs.size = none := by
    rw [upd_ne hka] at nS
    exact nS
  have J3 := J2.laid (a := h2.objs.size) (o := .ext (AtO h2.objs.size (PyProof.Rows.seqObj "list" #[] 0))) (h' := h2.push (PyProof.Rows.seqObj "list" #[] 0)) (t' := s.toks) (fun b u g => Heap.get?_push_of_some _ g) (Nat.le_refl _) (atO_new gS)
  have hup : (sub X).s_0.heap.objs.size ≤ h2.objs.size ∧ h2.objs.size ≠ (sub X).env.locals ∧ (∀ x c, (sub X).env.cells.lookup x = some c → c ≠ h2.objs.size) ∧ ∀ p ∈ (sub X).pn ++ pins, p.1 ≠ h2.objs.size := by
    refine ⟨J2.sz, Nat.ne_of_gt J2.lt, fun x c e z => ?_, fun p hp z => ?_⟩
    · obtain ⟨v, hv⟩ := J2.cell x c e
      rw [z] at hv
      exact absurd hv.lt (Nat.lt_irrefl _)
    · have h1 := (J2.pin p hp).1
      rw [z] at h1
      exact absurd (Heap.lt_size h1) (Nat.lt_irrefl _)
  refine sortL_rest (X := sub X) H J3 ((Sm.new na).over nS0 fun qs z => by rw [nS] at z; cases z) na nS0 hka (by rw [upd_ne (Ne.symm hka), upd_same]) upd_same hup rv hz2 hu tells hsk hdq hal fun H2 s2 I2 S2 g2 => ?_
  exact ⟨rfl, .ref a, H2, sub_out I.ok I2, rfl, q a H2 S2 na g2⟩
/-- sorted(l, key=lambda ..) -/
def rSortL (K : PySem.W.Frag) (q : Str) (params : Arguments) (body : Expr) (scope : Scope) (kd : V → PyData) (x : Str) (tb : TE) : List V → List V → Hp → VK → Prop := fun vs zs H Q => ∃ (l f : Addr) (xs : List V), vs = [.ref l] ∧ zs = [.ref f] ∧ LamAt H q params body scope f ∧ SqL K H l xs ∧
  (∀ y ∈ xs, ∀ H1, Sm H H1 → tb (L2.start [x] [y]) H1 (fun v H2 => Sm H1 H2 ∧ GR H2 v (kd y))) ∧
  PySem.W.Sortable (xs.map kd) ∧ (∀ y ∈ xs, (kd y).depth ≤ 8) ∧ PySem.W.AllAlike (xs.map kd) ∧
  ∀ (a : Addr) (H2 : Hp), Sm H H2 → H a = none → H2 a = some (.lst (xs.mergeSort (PySem.W.dataLe false kd))) → Q (.ref a) H2
theorem sortL {K : PySem.W.Frag} {q x : Str} {params : Arguments} {body : Expr} {scope : Scope} {k : Nat} {tb : TE} (kd : V → PyData) (S : FnScope [x] [x] scope)
    (hbind : ∀ (pm cd ct : Value) (us : List Value), us.length = 1 → bindArgs (PySem.W.kla_fn "<lambda>" q params body scope [] pm cd ct) ⟨us, []⟩ = pure ([x].zip us))
    (hbody : ∀ (f : Addr) (cd : Value) (A : Around) (outer : List Env) (s : Shared) (H : Hp), Room k (A.deeper (PyProof.Rows.envOfC q scope s.heap.objs.size f cd)) → PE (cxOf CX0 X.prog X.w X.K X.mg X.base [x] q scope f cd A outer s H E0) body tb)
    (hr : Room (k + 3) X.A) (h : X.K = K := by rfl) : CallRK X (.builtin "sorted") [Str.ofString "key"] (rSortL K q params body scope kd x tb) := by
  subst h
  intro pins s σ H vs zs us ws Q I r rz h
  obtain ⟨l, f, xs, rfl, rfl, L, hs, turn, h1, h2, h3, q⟩ := h
  obtain rfl := Vals.ref1 r
  obtain rfl := Vals.ref1 rz
  have hr2 : Room (k + 1) (sub X).A := hr.in1.in1
  refine sortL_run I hs (show (sub X).A.units + 8 < cLine from Nat.lt_of_le_of_lt (show (sub X).A.units + 8 ≤ (sub X).A.units + 16 * (k + 1) + 200 by omega) hr2.un) (fun y hy u ru H1 s1 S1 I1 => ?_) h1 h2 h3 q
  refine wpAny_call (codeAny_mono (lam_called S hbind hbody hr2 I1.env0 (L.sm S1) (.cons ru .nil) rfl (turn y hy H1 S1)) fun r s' hq => ?_)
  cases r with
  | error e => exact (show False from hq).elim
  | ok fl =>
    cases fl with
    | ret u => exact I1.after hq
    | next => exact False.elim hq
    | brk => exact False.elim hq
    | cont => exact False.elim hq
end
/-- lambda ..: .. -/
def tLamE (P : Addr) (q : Str) (params : Arguments) (body : Expr) (scope : Scope) : TE := fun _ H Q => Tb H P ∧ ∀ (f : Addr) (H1 : Hp), Sm H H1 → LamAt H1 q params body scope f → Q (.ref f) H1
section
variable {X : Cx} {k : Nat} {x : Str} {c P : Addr} {params : Arguments} {body : Expr} {scope : Scope} {e : Expr} {p lpos kpos pos : Pos} {t : TA} {tb : TE}
theorem pe_lam {q0 : Str} (hq : X.env.qual = q0) (TB : GxR.TabB X.base X.mg c P) (hcode : X.env.code = .ref c := by rfl) (hm : (lpos, q0 ++ "<lambda>") ∈ lams := by decide +kernel) (hu : ∀ x ∈ lams, x.1.line = lpos.line → x.1.col = lpos.col → x.2 = q0 ++ "<lambda>" := by decide +kernel)
    (hdef : defaultsOf params X.env = ([], []) := by rfl) (hnf : ∀ y ∈ scope.names, y.2 ≠ .free := by decide +kernel) : PE X (.Lambda params body scope lpos) (tLamE P (q0 ++ "<lambda>") params body scope) := by
  subst hq
  refine ⟨fun pins s σ H Q I h => ?_⟩
  obtain ⟨ht, h⟩ := h
  exact lam_made I TB hcode ht hm hu hdef hnf fun f H1 s' I1 S1 L => ⟨.ref f, H1, I1, rfl, h f H1 S1 L⟩
theorem pe_sortL {K : PySem.W.Frag} {q0 : Str} (kd : V → PyData) (hr : Room (k + 3) X.A) (TB : GxR.TabB X.base X.mg c P) (hs : X.mg "sorted" = none) (ha : PA X [e] t)
    (hbody : ∀ (f : Addr) (cd : Value) (A : Around) (outer : List Env) (s : Shared) (H : Hp), Room k (A.deeper (PyProof.Rows.envOfC (q0 ++ "<lambda>") scope s.heap.objs.size f cd)) → PE (cxOf CX0 X.prog X.w X.K X.mg X.base [x] (q0 ++ "<lambda>") scope f cd A outer s H E0) body tb)
    (S : FnScope [x] [x] scope := by exact ⟨rfl, rfl, rfl, by decide +kernel, rfl, by decide +kernel, by decide +kernel⟩)
    (hbind : ∀ (q : Str) (pm cd ct : Value) (us : List Value), us.length = 1 → bindArgs (PySem.W.kla_fn "<lambda>" q params body scope [] pm cd ct) ⟨us, []⟩ = pure ([x].zip us) := by exact fun _ _ _ _ us hl => match us, hl with | [_], _ => rfl)
    (hq : X.env.qual = q0 := by rfl) (hcode : X.env.code = .ref c := by rfl) (hm : (lpos, q0 ++ "<lambda>") ∈ lams := by decide +kernel) (hu : ∀ x ∈ lams, x.1.line = lpos.line → x.1.col = lpos.col → x.2 = q0 ++ "<lambda>" := by decide +kernel)
    (hdef : defaultsOf params X.env = ([], []) := by rfl) (hnf : ∀ y ∈ scope.names, y.2 ≠ .free := by decide +kernel)
    (hK : X.K = K := by rfl) (hgs : Gl X "sorted" := by rfl)
    (he : backTo pos (starEach [e] X.env) = (false, eval e X.env) :: backTo pos (starEach [] X.env) := by rfl) (hpl : (backTo pos (starEach [e] X.env)).any (·.1) = false := by rfl)
    (hall : (backToKw pos (keywordEach [⟨some "key", .Lambda params body scope lpos, kpos⟩] X.env)).all (·.1.isSome) = true := by rfl) (hnone : (backToKw pos (keywordEach [⟨some "key", .Lambda params body scope lpos, kpos⟩] X.env)).any (·.1.isNone) = false := by rfl) (hks : (backToKw pos (keywordEach [⟨some "key", .Lambda params body scope lpos, kpos⟩] X.env)).filterMap (·.1) = [Str.ofString "key"] := by rfl) :
    PE X (.Call (.Name "sorted" p) [e] [⟨some "key", .Lambda params body scope lpos, kpos⟩] pos) (tCKw (rSortL K (q0 ++ "<lambda>") params body scope kd x tb) t (tCons (tLamE P (q0 ++ "<lambda>") params body scope) tNil)) := by
  subst hK
  exact pe_callBK (sortL kd S (hbind _) hbody hr) hgs hs (by decide +kernel) ha (pk_cons (pe_lam hq TB hcode hm hu hdef hnf) pk_nil) (by decide) (by decide) he hpl hall hnone hks
end
/-! ### dicts keyed by references: != {}, list(d) -/
namespace DN
open PySem PySem.Spec PyProof.Rows L2
theorem vals_list {es : Array DictEntry} {L : List Ent} (hz : es.size = L.length) (it : ∀ (i : Nat) (p : Ent), L[i]? = some p → ∃ en : DictEntry, es[i]? = some en ∧ en.key = .ref p.2.1 ∧ RelV p.2.2 en.val) {acc : Array Value} (hl : acc.size = es.size) (hk : ∀ (j : Nat) (v : Value), acc[j]? = some v → ∃ en : DictEntry, es[j]? = some en ∧ v = en.key) :
    acc.toList = (L.map fun e => e.2.1).map Value.ref := by
  apply List.ext_getElem?
  intro j
  rw [List.getElem?_map, List.getElem?_map, Array.getElem?_toList]
  cases hj : L[j]? with
  | none =>
    have h1 := List.getElem?_eq_none_iff.mp hj
    rw [Array.getElem?_eq_none (by omega)]
    rfl
  | some p =>
    obtain ⟨en, h1, h2, _⟩ := it j p hj
    have hlt : j < L.length := (List.getElem?_eq_some_iff.mp hj).1
    have hj2 : j < acc.size := by omega
    obtain ⟨en', g1, g2⟩ := hk j acc[j] (Array.getElem?_eq_getElem hj2)
    rw [h1] at g1
    cases g1
    rw [Array.getElem?_eq_getElem hj2, g2, h2]
    rfl
section
variable {X : Cx} {pins : List (Addr × Obj)} {σ : L2.St} {H : Hp} {s : Shared}
def rListN (w : World) : List V → Hp → VK → Prop := fun xs H Q => ∃ (a : Addr) (L : List Ent), xs = [.ref a] ∧ Rd w H a L ∧ ∀ p, H p = none → Q (.ref p) (upd H p (.lst (L.map fun e => V.ref e.2.1)))
theorem listN {w : World} (hc : X.calm = true) (hw : X.w = w := by rfl) : CallR X (.type "list") (rListN w) := by
  subst hw
  intro pins s σ H xs us Q I r h
  obtain ⟨a, L, rfl, d, q⟩ := h
  obtain rfl := Vals.ref1 r
  obtain ⟨o, es, ep, hd, ho, hx, hdt, hz, hl, it⟩ := Inv.dn I d
  refine PySem.W.kdl_call (kdl_raw hd hx hdt) (I.ok.hd hc) ho (by omega) fun h' tk acc' c' kp e ia => ?_
  have eb := vals_list hz it ia.1 ia.2
  have rv : Vals (L.map fun e => V.ref e.2.1) acc'.toList := by
    rw [eb, show (L.map fun e => V.ref e.2.1) = (L.map fun e => e.2.1).map V.ref from by rw [List.map_map]; rfl]
    exact vals_refs _
  refine ⟨.ref s.heap.objs.size, _, I.laid (t' := tk) (o := .lst (L.map fun e => V.ref e.2.1)) kp (Nat.le_refl _) ?_, rfl, q _ (I.hok.fresh (Nat.le_refl _))⟩
  exact ⟨by rw [List.length_map]; exact hl, acc'.toList, c', rv, by rw [Array.toArray_toList]; exact e⟩
def rNe0 (w : World) : R2 := fun x y H Q => ∃ (a b : Addr) (L : List Ent), x = .ref a ∧ y = .ref b ∧ Rd w H a L ∧ Rd w H b [] ∧ Q (.bl (!L.isEmpty)) H
theorem neN0 {w : World} (hu : X.A.units + 64 < cLine) (hw : X.w = w := by rfl) : OpR X (compareOp .NotEq) (rNe0 w) := by
  subst hw
  intro pins s σ H x y v u Q I rx ry h
  obtain ⟨a, b, L, rfl, rfl, d1, d2, q⟩ := h
  obtain rfl : v = Value.ref a := rx
  obtain rfl : u = Value.ref b := ry
  obtain ⟨o, es, ep, hd, ho, hx, hdt, hz, hl, it⟩ := Inv.dn I d1
  obtain ⟨o2, es2, ep2, hd2, ho2, hx2, hdt2, hz2, _, _⟩ := Inv.dn I d2
  have fin : EP X pins σ Q (.bool (!L.isEmpty)) s := ⟨.bl (!L.isEmpty), H, I, rfl, q⟩
  refine wpAny_richCompare_same_room (T := "dict") (op := .NotEq) ⟨o, ho, hx.1⟩ ⟨o2, ho2, hx2.1⟩ PySem.F.slot_dict_ne (wpAny_call_entry PySem.F.slot_dict_ne ⟨o, ho, hx.1⟩ PySem.F.entry_dict_ne ?_ (PySem.F.args_dict_ne_2 _ _)) (by omega)
  show wpAny _ _ (Builtin.Dict.dictSlotArgs "__ne__" ⟨[.ref a, .ref b], []⟩ >>= _) _ _ s
  refine wpAny_bind ?_
  unfold Builtin.Dict.dictSlotArgs
  refine wpAny_bind (wpAny_notOrdered_dict ⟨o, ho, hx.1⟩ ?_)
  show wpAny _ _ (pure (Value.ref a, Value.ref b)) _ _ s
  refine wpAny_pure (wpAny_bind (wpAny_isInstance (T := "dict") ⟨o2, ho2, hx2.1⟩ PySem.F.sub_dict_dict ?_))
  simp only [Bool.not_true, Bool.false_eq_true, if_false]
  refine wpAny_bind (wpAny_pure (wpAny_bind (wpAny_pure ?_)))
  have pairs : ∀ {Qb : Bool → Shared → Prop}, Qb L.isEmpty s → wpAny (model X.prog X.w) X.A.in1 (Builtin.Dict.samePairs "dict.__ne__" a b) Qb X.xe s := by
    intro Qb hq
    unfold Builtin.Dict.samePairs Builtin.Dict.showsAll
    rw [hd, hd2]
    refine wpAny_bind (wpAny_pure (wpAny_bind (wpAny_pure (wpAny_bind (wpAny_dictEntries ho hdt ?_)))))
    dsimp only
    refine wpAny_bind (wpAny_dictEntries ho2 hdt2 ?_)
    have h0 : es2.size = 0 := hz2
    cases L with
    | nil =>
      have h1 : es.size = 0 := hz
      rw [h0, h1]
      simp only [bne_self_eq_false, Bool.false_eq_true, if_false]
      refine wpAny_bind (wpAny_dictEpoch ho hdt (wpAny_bind ?_))
      rw [Std.Legacy.Range.forIn_eq_forIn_range']
      simp only [Std.Legacy.Range.size, Nat.sub_zero, Nat.add_sub_cancel, Nat.div_one, List.range'_zero, List.forIn_nil]
      exact wpAny_pure (wpAny_pure hq)
    | cons e L =>
      rw [if_pos (by rw [h0, hz]; simp)]
      exact wpAny_bind (wpAny_rule (wpAny_pure hq))
  refine wpAny_bind (pairs ?_)
  refine wpAny_pure ⟨_, rfl, (fun z => by cases z), ?_⟩
  cases L with
  | nil => exact fin
  | cons e L => exact fin
end
end DN
/-! ### sorted(d, key=lambda x: ..) of a dict keyed by references, too -/
section
variable {X : Cx} {pins : List (Addr × Obj)} {σ : St} {H : Hp} {s : Shared}
/-- the new list is sorted -/
theorem sortM_from {f a : Addr} {xs : List V} {its : List Value} {h0 : Heap} {tk : Nat} {kd : V → PyData} {Q : VK} {E' : Value → Shared → Prop} (I : Inv X pins σ H s) (keep : ∀ b o, s.heap.get? b = some o → h0.get? b = some o) (hsz : s.heap.objs.size ≤ a) (c0 : h0.get? a = some (PyProof.Rows.seqObj "list" its.toArray 0))
    (rv : Vals xs its) (hz2 : its.length ≤ sizeLine) (hu : X.A.in1.in1.units + 8 < cLine)
    (tells : ∀ x ∈ xs, ∀ u, RelV x u → ∀ H1 s1, Sm H H1 → Inv (sub X) pins σ H1 s1 → wpAny (model X.prog X.w) (sub X).A (call (.ref f) [u]) (EP (sub X) pins σ fun v H2 => Sm H1 H2 ∧ GR H2 v (kd x)) (fun _ _ => False) s1)
    (hsk : PySem.W.Sortable (xs.map kd)) (hdq : ∀ x ∈ xs, (kd x).depth ≤ 8) (hal : PySem.W.AllAlike (xs.map kd))
    (q : ∀ (a : Addr) (H2 : Hp), Sm H H2 → H a = none → H2 a = some (.lst (xs.mergeSort (PySem.W.dataLe false kd))) → Q (.ref a) H2) :
    wpAny (model X.prog X.w) X.A.in1.in1 (Builtin.«list.sort» ⟨[.ref a], [(Str.ofString "key", .ref f)]⟩) (fun r s' => r = .done (.ret .none) ∧ EP X pins σ Q (.ref a) s') E' { s with heap := h0, toks := tk } := by
  rw [PyProof.Rows.ksk_t1]
  have na : H a = none := I.hok.fresh hsz
  have J0 : Inv (sub X) pins σ (upd H a (.ext (AtO a (PyProof.Rows.seqObj "list" its.toArray 0)))) { s with heap := h0, toks := tk } :=
    (sub_in I).laid (t' := tk) keep hsz (atO_new c0)
  unfold PyProof.Rows.ksk_tree
  refine wpAny_bind (PyProof.Rows.listItems_at c0 rfl ?_)
  refine wpAny_bind (PyProof.Rows.listUpdate_at c0 rfl ?_ (by rw [List.size_toArray]; exact hz2) (Nat.zero_le _))
  have sb := Heap.SameBut.update h0 a (Obj.mapSeq fun _ => (#[] : Array Value))
  obtain ⟨e1, c1⟩ : ∃ e1, (h0.update a (Obj.mapSeq fun _ => (#[] : Array Value))).get? a = some (PyProof.Rows.seqObj "list" #[] e1) := ⟨_, PyProof.Rows.get?_update_seq c0 fun _ => #[]⟩
  have J1 : Inv (sub X) pins σ (upd H a (.ext (AtO a (PyProof.Rows.seqObj "list" #[] e1)))) { s with heap := h0.update a (Obj.mapSeq fun _ => (#[] : Array Value)), toks := tk } := by
    have := J0.write (e := a) (o := .ext (AtO a (PyProof.Rows.seqObj "list" #[] e1))) (t' := tk) (by rw [upd_same]; trivial) (.inl rfl) (fun b u hb g => (sb.2 b hb).trans g) ⟨_, c1⟩ (atO_new c1)
    rw [upd_upd] at this
    exact this
  refine wpAny_bind (PyProof.Rows.seqEpoch_at c1 rfl ?_)
  refine wpAny_bind (wpAny_newTuple ?_ (by show its.length ≤ _; exact hz2))
  refine wpAny_bind (wpAny_newList ?_ (Nat.zero_le _))
  refine wpAny_holding ?_
  dsimp only
  have J2 : Inv (sub X) pins σ _ { s with heap := (h0.update a (Obj.mapSeq fun _ => (#[] : Array Value))).push { cls := .type "tuple", data := .seq its.toArray.toList.toArray }, toks := tk } := J1.kept (t' := tk) fun b u g => Heap.get?_push_of_some _ g
  generalize ((h0.update a (Obj.mapSeq fun _ => (#[] : Array Value))).push { cls := .type "tuple", data := .seq its.toArray.toList.toArray }) = h2 at *
  have gS : (h2.push (PyProof.Rows.seqObj "list" #[] 0)).get? h2.objs.size = some (PyProof.Rows.seqObj "list" #[] 0) := Heap.get?_push_size _ rfl
  have hka : h2.objs.size ≠ a := fun z => by
    have h1 := J2.hok.lt (upd_same (H := H) (a := a) (o := .ext (AtO a (PyProof.Rows.seqObj "list" #[] e1))))
    rw [← z] at h1
    exact Nat.lt_irrefl _ h1
  have nS : (upd H a (.ext (AtO a (PyProof.Rows.seqObj "list" #[] e1)))) h2.objs.size = none := J2.hok.fresh (Nat.le_refl _)
  have nS0 : H h2.objs.size = none := by
    rw [upd_ne hka] at nS
    exact nS
  have J3 := J2.laid (a := h2.objs.size) (o := .ext (AtO h2.objs.size (PyProof.Rows.seqObj "list" #[] 0))) (h' := h2.push (PyProof.Rows.seqObj "list" #[] 0)) (t' := tk) (fun b u g => Heap.get?_push_of_some _ g) (Nat.le_refl _) (atO_new gS)
  have hup : (sub X).s_0.heap.objs.size ≤ h2.objs.size ∧ h2.objs.size ≠ (sub X).env.locals ∧ (∀ x c, (sub X).env.cells.lookup x = some c → c ≠ h2.objs.size) ∧ ∀ p ∈ (sub X).pn ++ pins, p.1 ≠ h2.objs.size := by
    refine ⟨J2.sz, Nat.ne_of_gt J2.lt, fun x c e z => ?_, fun p hp z => ?_⟩
    · obtain ⟨v, hv⟩ := J2.cell x c e
      rw [z] at hv
      exact absurd hv.lt (Nat.lt_irrefl _)
    · have h1 := (J2.pin p hp).1
      rw [z] at h1
      exact absurd (Heap.lt_size h1) (Nat.lt_irrefl _)
  refine sortL_rest (X := sub X) H J3 ((Sm.new na).over nS0 fun qs z => by rw [nS] at z; cases z) na nS0 hka (by rw [upd_ne (Ne.symm hka), upd_same]) upd_same hup rv hz2 hu tells hsk hdq hal fun H2 s2 I2 S2 g2 => ?_
  exact ⟨rfl, .ref a, H2, sub_out I.ok I2, rfl, q a H2 S2 na g2⟩
theorem sortM_run {l f : Addr} {L : List DN.Ent} {kd : V → PyData} {Q : VK} (hc : X.calm = true) (I : Inv X pins σ H s) (d : DN.Rd X.w H l L) (hu : X.A.in1.in1.units + 8 < cLine)
    (tells : ∀ x ∈ L.map (fun e => V.ref e.2.1), ∀ u, RelV x u → ∀ H1 s1, Sm H H1 → Inv (sub X) pins σ H1 s1 → wpAny (model X.prog X.w) (sub X).A (call (.ref f) [u]) (EP (sub X) pins σ fun v H2 => Sm H1 H2 ∧ GR H2 v (kd x)) (fun _ _ => False) s1)
    (hsk : PySem.W.Sortable ((L.map fun e => V.ref e.2.1).map kd)) (hdq : ∀ x ∈ L.map (fun e => V.ref e.2.1), (kd x).depth ≤ 8) (hal : PySem.W.AllAlike ((L.map fun e => V.ref e.2.1).map kd))
    (q : ∀ (a : Addr) (H2 : Hp), Sm H H2 → H a = none → H2 a = some (.lst ((L.map fun e => V.ref e.2.1).mergeSort (PySem.W.dataLe false kd))) → Q (.ref a) H2) :
    wpAny (model X.prog X.w) X.A (call (.builtin "sorted") [.ref l] [(Str.ofString "key", .ref f)]) (EP X pins σ Q) X.xe s := by
  obtain ⟨o, es, ep, hd, ho, hx, hdt, hz, hl, it⟩ := DN.Inv.dn I d
  refine PyProof.Rows.call_function_entry_kw PyProof.Rows.kind_sorted PyProof.Rows.plain_sorted PyProof.Rows.entry_sorted (PyProof.Rows.ksk_s1 _ _) ?_
  unfold Builtin.«sorted»
  refine wpAny_bind (m := checkCount "sorted" 1 1 _) (wpAny_pure ?_)
  refine wpAny_bind (PySem.W.kdu_collect (A := X.A.in1) (kdl_raw hd hx hdt) (I.ok.hd hc) ho (by omega) fun h' tk acc kp ia => ?_)
  have eb := DN.vals_list hz it ia.1 ia.2
  have rv : Vals (L.map fun e => V.ref e.2.1) acc.toList := by
    rw [eb, show (L.map fun e => V.ref e.2.1) = (L.map fun e => e.2.1).map V.ref from by rw [List.map_map]; rfl]
    exact vals_refs _
  have hz2 : acc.toList.length ≤ sizeLine := by
    rw [← rv.length, List.length_map]
    exact hl
  refine wpAny_bind (wpAny_newList ?_ hz2)
  have c0 : (h'.push (PyProof.Rows.seqObj "list" acc.toList.toArray 0)).get? h'.objs.size = some (PyProof.Rows.seqObj "list" acc.toList.toArray 0) := Heap.get?_push_size _ rfl
  have I1 : Inv X pins σ H { s with heap := h', toks := tk } := I.kept (t' := tk) fun b o e => kp b o e
  refine wpAny_bind (wpAny_holding (PyProof.Rows.wpAny_call_entry_kw PyProof.Rows.slot_list_sort ⟨_, c0, rfl⟩ PyProof.Rows.entry_list_sort ?body (PyProof.Rows.ksk_l1 _ _)))
  case body =>
    refine wpAny_mono (sortM_from (tk := tk) (E' := fun _ _ => False) I1 (fun b o e => Heap.get?_push_of_some _ e) (Nat.le_refl _) c0 rv hz2 hu tells hsk hdq hal q) (fun r s' hf => ?_) fun _ _ e => e.elim
    obtain ⟨rfl, hq⟩ := hf
    exact ⟨_, rfl, wpAny_pure ⟨_, rfl, hq⟩⟩
/-- sorted(l, key=lambda ..) -/
def rSortM (w : World) (K : PySem.W.Frag) (q : Str) (params : Arguments) (body : Expr) (scope : Scope) (kd : V → PyData) (x : Str) (tb : TE) : List V → List V → Hp → VK → Prop := fun vs zs H Q => ∃ (l f : Addr) (xs : List V), vs = [.ref l] ∧ zs = [.ref f] ∧ LamAt H q params body scope f ∧ (SqL K H l xs ∨ ∃ L, DN.Rd w H l L ∧ xs = L.map fun e => V.ref e.2.1) ∧
  (∀ y ∈ xs, ∀ H1, Sm H H1 → tb (L2.start [x] [y]) H1 (fun v H2 => Sm H1 H2 ∧ GR H2 v (kd y))) ∧
  PySem.W.Sortable (xs.map kd) ∧ (∀ y ∈ xs, (kd y).depth ≤ 8) ∧ PySem.W.AllAlike (xs.map kd) ∧
  ∀ (a : Addr) (H2 : Hp), Sm H H2 → H a = none → H2 a = some (.lst (xs.mergeSort (PySem.W.dataLe false kd))) → Q (.ref a) H2
theorem sortM {w : World} {K : PySem.W.Frag} {q x : Str} {params : Arguments} {body : Expr} {scope : Scope} {k : Nat} {tb : TE} (kd : V → PyData) (S : FnScope [x] [x] scope)
    (hbind : ∀ (pm cd ct : Value) (us : List Value), us.length = 1 → bindArgs (PySem.W.kla_fn "<lambda>" q params body scope [] pm cd ct) ⟨us, []⟩ = pure ([x].zip us))
    (hbody : ∀ (f : Addr) (cd : Value) (A : Around) (outer : List Env) (s : Shared) (H : Hp), Room k (A.deeper (PyProof.Rows.envOfC q scope s.heap.objs.size f cd)) → PE (cxOf CX0 X.prog X.w X.K X.mg X.base [x] q scope f cd A outer s H E0) body tb)
    (hc : X.calm = true) (hr : Room (k + 3) X.A) (h : X.K = K := by rfl) (hw : X.w = w := by rfl) : CallRK X (.builtin "sorted") [Str.ofString "key"] (rSortM w K q params body scope kd x tb) := by
  subst h
  subst hw
  intro pins s σ H vs zs us ws Q I r rz h
  obtain ⟨l, f, xs, rfl, rfl, L, hs, turn, h1, h2, h3, q⟩ := h
  obtain rfl := Vals.ref1 r
  obtain rfl := Vals.ref1 rz
  have hr2 : Room (k + 1) (sub X).A := hr.in1.in1
  rcases hs with hs | hs
  · refine sortL_run I hs (show (sub X).A.units + 8 < cLine from Nat.lt_of_le_of_lt (show (sub X).A.units + 8 ≤ (sub X).A.units + 16 * (k + 1) + 200 by omega) hr2.un) (fun y hy u ru H1 s1 S1 I1 => ?_) h1 h2 h3 q
    refine wpAny_call (codeAny_mono (lam_called S hbind hbody hr2 I1.env0 (L.sm S1) (.cons ru .nil) rfl (turn y hy H1 S1)) fun r s' hq => ?_)
    cases r with
    | error e => exact (show False from hq).elim
    | ok fl =>
      cases fl with
      | ret u => exact I1.after hq
      | next => exact False.elim hq
      | brk => exact False.elim hq
      | cont => exact False.elim hq
  · obtain ⟨L0, hs, rfl⟩ := hs
    refine sortM_run hc I hs (show (sub X).A.units + 8 < cLine from Nat.lt_of_le_of_lt (show (sub X).A.units + 8 ≤ (sub X).A.units + 16 * (k + 1) + 200 by omega) hr2.un) (fun y hy u ru H1 s1 S1 I1 => ?_) h1 h2 h3 q
    refine wpAny_call (codeAny_mono (lam_called S hbind hbody hr2 I1.env0 (L.sm S1) (.cons ru .nil) rfl (turn y hy H1 S1)) fun r s' hq => ?_)
    cases r with
    | error e => exact (show False from hq).elim
    | ok fl =>
      cases fl with
      | ret u => exact I1.after hq
      | next => exact False.elim hq
      | brk => exact False.elim hq
      | cont => exact False.elim hq
end
section
variable {X : Cx} {k : Nat} {x : Str} {c P : Addr} {params : Arguments} {body : Expr} {scope : Scope} {e : Expr} {p lpos kpos pos : Pos} {t : TA} {tb : TE}
theorem pe_sortM {w : World} {K : PySem.W.Frag} {q0 : Str} (kd : V → PyData) (hc : X.calm = true) (hr : Room (k + 3) X.A) (TB : GxR.TabB X.base X.mg c P) (hs : X.mg "sorted" = none) (ha : PA X [e] t)
    (hbody : ∀ (f : Addr) (cd : Value) (A : Around) (outer : List Env) (s : Shared) (H : Hp), Room k (A.deeper (PyProof.Rows.envOfC (q0 ++ "<lambda>") scope s.heap.objs.size f cd)) → PE (cxOf CX0 X.prog X.w X.K X.mg X.base [x] (q0 ++ "<lambda>") scope f cd A outer s H E0) body tb)
    (S : FnScope [x] [x] scope := by exact ⟨rfl, rfl, rfl, by decide +kernel, rfl, by decide +kernel, by decide +kernel⟩)
    (hbind : ∀ (q : Str) (pm cd ct : Value) (us : List Value), us.length = 1 → bindArgs (PySem.W.kla_fn "<lambda>" q params body scope [] pm cd ct) ⟨us, []⟩ = pure ([x].zip us) := by exact fun _ _ _ _ us hl => match us, hl with | [_], _ => rfl)
    (hq : X.env.qual = q0 := by rfl) (hcode : X.env.code = .ref c := by rfl) (hm : (lpos, q0 ++ "<lambda>") ∈ lams := by decide +kernel) (hu : ∀ x ∈ lams, x.1.line = lpos.line → x.1.col = lpos.col → x.2 = q0 ++ "<lambda>" := by decide +kernel)
    (hdef : defaultsOf params X.env = ([], []) := by rfl) (hnf : ∀ y ∈ scope.names, y.2 ≠ .free := by decide +kernel)
    (hK : X.K = K := by rfl) (hw : X.w = w := by rfl) (hgs : Gl X "sorted" := by rfl)
    (he : backTo pos (starEach [e] X.env) = (false, eval e X.env) :: backTo pos (starEach [] X.env) := by rfl) (hpl : (backTo pos (starEach [e] X.env)).any (·.1) = false := by rfl)
    (hall : (backToKw pos (keywordEach [⟨some "key", .Lambda params body scope lpos, kpos⟩] X.env)).all (·.1.isSome) = true := by rfl) (hnone : (backToKw pos (keywordEach [⟨some "key", .Lambda params body scope lpos, kpos⟩] X.env)).any (·.1.isNone) = false := by rfl) (hks : (backToKw pos (keywordEach [⟨some "key", .Lambda params body scope lpos, kpos⟩] X.env)).filterMap (·.1) = [Str.ofString "key"] := by rfl) :
    PE X (.Call (.Name "sorted" p) [e] [⟨some "key", .Lambda params body scope lpos, kpos⟩] pos) (tCKw (rSortM w K (q0 ++ "<lambda>") params body scope kd x tb) t (tCons (tLamE P (q0 ++ "<lambda>") params body scope) tNil)) := by
  subst hK
  subst hw
  exact pe_callBK (sortM kd S (hbind _) hbody hc hr) hgs hs (by decide +kernel) ha (pk_cons (pe_lam hq TB hcode hm hu hdef hnf) pk_nil) (by decide) (by decide) he hpl hall hnone hks
end
/-! ### the order in which nodes are walked -/
def wlt : List Str → List Str → Bool
  | _, [] => false
  | [], _ :: _ => true
  | x :: a, y :: b => if x = y then wlt a b else ahead x y
theorem wlt_nil (a : List Str) : wlt a [] = false := by cases a <;> rfl
theorem wlt_same (x : Str) (a b : List Str) : wlt (x :: a) (x :: b) = wlt a b := if_pos rfl
theorem wlt_app : ∀ (c a b : List Str), wlt (c ++ a) (c ++ b) = wlt a b
  | [], _, _ => rfl
  | x :: c, a, b => (wlt_same x _ _).trans (wlt_app c a b)
theorem wlt_self : ∀ a : List Str, wlt a a = false
  | [] => rfl
  | x :: a => (wlt_same x a a).trans (wlt_self a)
theorem wlt_ext {c : List Str} {k : Str} {t : List Str} : wlt c (c ++ k :: t) = true := by
  have := wlt_app c [] (k :: t)
  rw [List.append_nil] at this
  exact this
theorem wlt_two : ∀ {a b : List Str}, a ≠ b → wlt a b = true ∨ wlt b a = true
  | [], [], h => absurd rfl h
  | [], _ :: _, _ => .inl rfl
  | _ :: _, [], _ => .inr rfl
  | x :: a, y :: b, h => by
    by_cases e : x = y
    · subst e
      rw [wlt_same, wlt_same]
      exact wlt_two fun z => h (by rw [z])
    · have := ahead_two e
      rw [Bool.or_eq_true] at this
      unfold wlt
      rw [if_neg e, if_neg (Ne.symm e)]
      exact this
theorem wlt_one : ∀ {a b : List Str}, wlt a b = true → wlt b a = false
  | a, [], h => by rw [wlt_nil] at h; cases h
  | [], _ :: _, _ => rfl
  | x :: a, y :: b, h => by
    by_cases e : x = y
    · subst e
      rw [wlt_same] at h ⊢
      exact wlt_one h
    · unfold wlt at h ⊢
      rw [if_neg e] at h
      rw [if_neg (Ne.symm e)]
      exact ahead_one h
theorem wlt_tr : ∀ {a b c : List Str}, wlt a b = true → wlt b c = true → wlt a c = true
  | a, b, [], _, g => by rw [wlt_nil] at g; cases g
  | [], _, _ :: _, _, _ => rfl
  | x :: a, [], z :: c, h, _ => by rw [wlt_nil] at h; cases h
  | x :: a, y :: b, z :: c, h, g => by
    by_cases e : x = y
    · subst e
      by_cases e2 : x = z
      · subst e2
        rw [wlt_same] at h g ⊢
        exact wlt_tr h g
      · unfold wlt at g ⊢
        rw [if_neg e2] at g ⊢
        exact g
    · by_cases e2 : y = z
      · subst e2
        unfold wlt at h ⊢
        rw [if_neg e] at h ⊢
        exact h
      · have h' : ahead x y = true := by
          unfold wlt at h
          rw [if_neg e] at h
          exact h
        have g' : ahead y z = true := by
          unfold wlt at g
          rw [if_neg e2] at g
          exact g
        have ne : x ≠ z := fun w => by
          subst w
          rw [ahead_one h'] at g'
          cases g'
        unfold wlt
        rw [if_neg ne]
        exact ahead_tr h' g'
theorem wlt_anti {a b : List Str} (h : wlt a b = false) (g : wlt b a = false) : a = b := by
  by_cases e : a = b
  · exact e
  · rcases wlt_two e with z | z
    · rw [z] at h; cases h
    · rw [z] at g; cases g
/-- a tree is walked so -/
theorem walk_srt {S : Sh} (O : ShOk S) : ∀ (f : Nat) (p : List Str), (S.N p).isSome = true → (walkF f S p).Pairwise fun x y => wlt x.1 y.1 = true
  | 0, _, _ => .nil
  | f + 1, p, h => by
    obtain ⟨n, hn⟩ := Option.isSome_iff_exists.mp h
    unfold walkF
    rw [List.pairwise_append]
    refine ⟨?_, ?_, fun x hx y hy => ?_⟩
    · cases S.W p with
      | none => exact .nil
      | some z => exact List.pairwise_singleton _ _
    · rw [List.pairwise_flatMap]
      refine ⟨fun k hk => ?_, ?_⟩
      · rw [List.pairwise_map]
        refine (walk_srt O f (p ++ [k]) ((O.row p n hn k).mp hk)).imp fun {a b} g => ?_
        show wlt (k :: a.1) (k :: b.1) = true
        rw [wlt_same]
        exact g
      · refine (O.srt p n hn).imp fun {k j} hkj x hx y hy => ?_
        obtain ⟨x', _, rfl⟩ := List.mem_map.mp hx
        obtain ⟨y', _, rfl⟩ := List.mem_map.mp hy
        have ne : k ≠ j := fun z => by
          rw [z, ahead_self] at hkj
          cases hkj
        show wlt (k :: x'.1) (j :: y'.1) = true
        unfold wlt
        rw [if_neg ne]
        exact hkj
    · cases e : S.W p with
      | none =>
        rw [e] at hx
        cases hx
      | some z =>
        rw [e] at hx
        obtain rfl := List.mem_singleton.mp hx
        obtain ⟨k, _, hy⟩ := List.mem_flatMap.mp hy
        obtain ⟨y', _, rfl⟩ := List.mem_map.mp hy
        rfl
/-! ### the order of references that the law sorts by -/
def rlt (n1 : Str) (k1 : List Str) (n2 : Str) (k2 : List Str) : Bool := if n1 = n2 then wlt k1 k2 else decide (tl n1 < tl n2)
open PySem.W in
def rankD (z : Str) : PyData := .list ((rankL z).map PyData.int)
def keyD (nm : Str) (ks : List Str) : PyData := .tuple [.str nm, .list (ks.map rankD)]
theorem lexI_dec : ∀ xs ys : List Int, lexI xs ys = decide (xs < ys)
  | [], [] => by simp [lexI]
  | [], _ :: _ => by simp [lexI]
  | _ :: _, [] => by simp [lexI]
  | x :: xs, y :: ys => by
    unfold lexI
    by_cases e : x = y
    · subst e
      rw [if_pos (beq_self_eq_true _), lexI_dec xs ys, decide_eq_decide, List.cons_lt_cons_iff]
      simp
    · rw [if_neg (by rw [beq_iff_eq]; exact e), decide_eq_decide, List.cons_lt_cons_iff]
      simp [e]
theorem alike_ints : ∀ xs ys : List Int, PySem.W.alikeAll (xs.map PyData.int) (ys.map PyData.int) = true
  | [], ys => by cases ys <;> simp [PySem.W.alikeAll]
  | _ :: _, [] => by simp [PySem.W.alikeAll]
  | x :: xs, y :: ys => by
    rw [List.map_cons, List.map_cons, PySem.W.alikeAll, alike_ints xs ys]
    simp [PySem.W.alike]
theorem alike_rank (x y : Str) : PySem.W.alike (rankD x) (rankD y) = true := by
  unfold rankD
  rw [PySem.W.alike]
  exact alike_ints _ _
theorem alike_ranks : ∀ a b : List Str, PySem.W.alikeAll (a.map rankD) (b.map rankD) = true
  | [], b => by cases b <;> simp [PySem.W.alikeAll]
  | _ :: _, [] => by simp [PySem.W.alikeAll]
  | x :: a, y :: b => by
    rw [List.map_cons, List.map_cons, PySem.W.alikeAll, alike_ranks a b, alike_rank]
    rfl
theorem alike_key (n1 : Str) (k1 : List Str) (n2 : Str) (k2 : List Str) : PySem.W.alike (keyD n1 k1) (keyD n2 k2) = true := by
  unfold keyD
  rw [PySem.W.alike, PySem.W.alikeAll, PySem.W.alikeAll, PySem.W.alikeAll, PySem.W.alike, PySem.W.alike, alike_ranks]
  rfl
theorem eqv_ints : ∀ xs ys : List Int, PyData.eqvAll (xs.map PyData.int) (ys.map PyData.int) = decide (xs = ys)
  | [], [] => by simp [PyData.eqvAll]
  | [], _ :: _ => by simp [PyData.eqvAll]
  | _ :: _, [] => by simp [PyData.eqvAll]
  | x :: xs, y :: ys => by
    rw [List.map_cons, List.map_cons, PyData.eqvAll, eqv_ints xs ys]
    simp only [PyData.eqv]
    by_cases e : x = y <;> simp [e]
/-- signs of a law's key -/
def SgS (z : Str) : Prop := ∀ c ∈ tl z, sgn c = true
theorem rank_inj {x y : Str} (hx : SgS x) (hy : SgS y) (h : rankL x = rankL y) : x = y := by
  have a := lexI_rank hx hy
  have b := lexI_rank hy hx
  have self : ∀ l : List Int, lexI l l = false := fun l => by rw [lexI_dec]; simp
  rw [h, self] at a
  rw [← h, self] at b
  exact ahead_same a.symm b.symm
theorem eqv_rank {x y : Str} (hx : SgS x) (hy : SgS y) : PyData.eqv (rankD x) (rankD y) = decide (x = y) := by
  unfold rankD
  rw [PyData.eqv, eqv_ints, decide_eq_decide]
  exact ⟨rank_inj hx hy, fun e => by rw [e]⟩
theorem eqv_ranks : ∀ {a b : List Str}, (∀ z ∈ a, SgS z) → (∀ z ∈ b, SgS z) → PyData.eqvAll (a.map rankD) (b.map rankD) = decide (a = b)
  | [], [], _, _ => by simp [PyData.eqvAll]
  | [], _ :: _, _, _ => by simp [PyData.eqvAll]
  | _ :: _, [], _, _ => by simp [PyData.eqvAll]
  | x :: a, y :: b, ha, hb => by
    rw [List.map_cons, List.map_cons, PyData.eqvAll, eqv_rank (ha x List.mem_cons_self) (hb y List.mem_cons_self), eqv_ranks (fun z hz => ha z (List.mem_cons_of_mem _ hz)) fun z hz => hb z (List.mem_cons_of_mem _ hz)]
    by_cases e : x = y <;> simp [e]
theorem lt_rank {x y : Str} (hx : SgS x) (hy : SgS y) : PySem.W.dataLt (rankD x) (rankD y) = ahead x y := by
  rw [← lexI_rank hx hy, lexI_dec, ← PySem.W.dataLt_ints]
  rfl
theorem lt_ranks : ∀ {a b : List Str}, (∀ z ∈ a, SgS z) → (∀ z ∈ b, SgS z) → PySem.W.dataLt (.list (a.map rankD)) (.list (b.map rankD)) = wlt a b
  | [], [], _, _ => by rw [PySem.W.dataLt_list]; exact PyProof.Rows.lex_irrefl _
  | [], y :: b, _, _ => by
    rw [PySem.W.dataLt_list, List.map_nil, List.map_cons, PySem.W.toks_all_cons]
    simp only [PySem.W.keyToksAll]
    rw [PyProof.Rows.lex_diff (O := PyProof.Rows.itemOrd) (by simp)]
    rfl
  | x :: a, [], _, _ => by
    rw [PySem.W.dataLt_list, List.map_nil, List.map_cons, PySem.W.toks_all_cons]
    simp only [PySem.W.keyToksAll]
    rw [PyProof.Rows.lex_diff (O := PyProof.Rows.itemOrd) (by simp)]
    rfl
  | x :: a, y :: b, ha, hb => by
    have ih := lt_ranks (a := a) (b := b) (fun z hz => ha z (List.mem_cons_of_mem _ hz)) fun z hz => hb z (List.mem_cons_of_mem _ hz)
    rw [PySem.W.dataLt_list] at ih ⊢
    rw [List.map_cons, List.map_cons, PySem.W.dataLt_cons (alike_rank x y), ih, eqv_rank (ha x List.mem_cons_self) (hb y List.mem_cons_self), lt_rank (ha x List.mem_cons_self) (hb y List.mem_cons_self)]
    by_cases e : x = y
    · subst e
      rw [wlt_same]
      simp
    · show _ = if x = y then wlt a b else ahead x y
      simp [e]
theorem lt_key {n1 n2 : Str} {k1 k2 : List Str} (h1 : ∀ z ∈ k1, SgS z) (h2 : ∀ z ∈ k2, SgS z) : PySem.W.dataLt (keyD n1 k1) (keyD n2 k2) = rlt n1 k1 n2 k2 := by
  unfold keyD rlt
  rw [PySem.W.dataLt_pair (by simp [PySem.W.alike]) (by rw [PySem.W.alike]; exact alike_ranks _ _), lt_ranks h1 h2, PySem.W.dataLt_str]
  have e1 : PyData.eqv (.str n1) (.str n2) = decide (n1 = n2) := by
    simp only [PyData.eqv]
    by_cases e : n1 = n2 <;> simp [e]
  have e2 : PyData.eqv (.list (k1.map rankD)) (.list (k2.map rankD)) = decide (k1 = k2) := by
    rw [PyData.eqv, eqv_ranks h1 h2]
  rw [e1, e2]
  by_cases e : n1 = n2
  · by_cases e3 : k1 = k2
    · rw [e3, wlt_self]
      simp [e]
    · simp [e, e3]
  · simp only [e, decide_false, if_false]
    rfl
/-! ### comprehensions that tell something of each item; rows of arrays -/
structure Stb {β : Type} (A : Hp → V → β → Prop) : Prop where
  sm : ∀ {H H' : Hp} {v : V} {b : β}, Sm H H' → A H v b → A H' v b
  up : ∀ {H : Hp} {D : Addr} {ys zs : List V} {v : V} {b : β}, H D = some (.lst ys) → (∀ y ∈ ys, ∃ H0 b0, A H0 y b0) → A H v b → A (upd H D (.lst zs)) v b
theorem pairA_imp {α β : Type} {F G : α → β → Prop} (i : ∀ a b, F a b → G a b) : ∀ {l : List α} {m : List β}, Paired F l m → Paired G l m
  | _, _, .nil => .nil
  | _, _, .cons h t => .cons (i _ _ h) (pairA_imp i t)
theorem pairA_len {α β : Type} {F : α → β → Prop} : ∀ {l : List α} {m : List β}, Paired F l m → l.length = m.length
  | _, _, .nil => rfl
  | _, _, .cons _ t => congrArg (· + 1) (pairA_len t)
theorem pairA_at {α β : Type} {F : α → β → Prop} : ∀ {l : List α} {m : List β}, Paired F l m → ∀ {j : Nat} {x : α}, l[j]? = some x → ∃ b, m[j]? = some b ∧ F x b
  | _, _, .nil, j, x, h => by cases h
  | _, _, .cons h t, 0, x, e => by
    cases e
    exact ⟨_, rfl, h⟩
  | _, _, .cons _ t, j + 1, x, e => pairA_at t e
theorem pairA_mem {α β : Type} {F : α → β → Prop} : ∀ {l : List α} {m : List β}, Paired F l m → ∀ x ∈ l, ∃ b ∈ m, F x b
  | _, _, .cons h t, x, hx => by
    rcases List.mem_cons.mp hx with rfl | hx
    · exact ⟨_, List.mem_cons_self, h⟩
    · obtain ⟨b, hb, f⟩ := pairA_mem t x hx
      exact ⟨b, List.mem_cons_of_mem _ hb, f⟩
theorem pairA_snoc {α β : Type} {F : α → β → Prop} {l : List α} {m : List β} {x : α} {b : β} (p : Paired F l m) (h : F x b) : Paired F (l ++ [x]) (m ++ [b]) := Paired.snoc p h
theorem paired_mapL {α β : Type} {F : α → β → Prop} {f : α → V} : ∀ {l : List α} {m : List β}, Paired F l m → Paired (fun v b => ∃ a, v = f a ∧ F a b) (l.map f) m
  | _, _, .nil => .nil
  | _, _, .cons h t => .cons ⟨_, rfl, h⟩ (paired_mapL t)
section
variable {K : PySem.W.Frag} {β : Type}
theorem lc_each {g : TG} {own : List Nat} {te0 te : TE} {ds : List β} {σ : L2.St} {H : Hp} {Q : VK} (B A : Hp → V → β → Prop) (sB : ∀ {H H' : Hp} {v : V} {b : β}, Sm H H' → B H v b → B H' v b) (sA : Stb A)
    (h0 : ∀ R : VK, (∀ S xs H1, Sm H H1 → SqL K H1 S xs → Paired (B H1) xs ds → R (.ref S) H1) → te0 σ H R) (hn : ds.length ≤ 90000)
    (he : ∀ x b H2, b ∈ ds → B H2 x b → Sm H H2 → ∀ R : VK, (∀ y H', A H' y b → Sm H2 H' → R y H') → g x (wipe σ own) H2 fun σ2 H3 => wipe σ2 own = wipe σ own ∧ te σ2 H3 R)
    (hQ : ∀ D ys H', Sm H H' → Paired (A H') ys ds → H' D = some (.lst ys) → H D = none → Q (.ref D) H') : tLc (iList K te0) g tYes te own σ H Q := by
  refine h0 _ fun S xs H1 S1 hS hP => ⟨S, rfl, ⟨_, hS⟩, fun D hD => ?_⟩
  have hl := pairA_len hP
  refine lc_list (K := K) (a := S) (xs := xs) (fun j H' => Sm H1 H' ∧ ∃ ys, Paired (A H') ys (ds.take j) ∧ H' D = some (.lst ys)) ⟨Sm.new hD, [], by rw [List.take_zero]; exact .nil, upd_same⟩ (fun _ H' _ h => Sm.seq h.1 hS) (fun n x H' hx h => ?_) fun H' h => ?_
  · obtain ⟨Sh, ys, hy, hDy⟩ := h
    obtain ⟨b, hb, hB⟩ := pairA_at hP hx
    have hlt : n < ds.length := (List.getElem?_eq_some_iff.mp hb).1
    have ly := pairA_len hy
    rw [List.length_take] at ly
    refine he x b H' (List.mem_of_getElem? hb) (sB Sh hB) (S1.trans Sh) _ fun y H2 ay S2 => ⟨ys, S2 _ _ hDy, small' (by omega), Sm.own (Sh.trans S2) hD (no_tbl (S2 _ _ hDy)), ys ++ [y], ?_, upd_same⟩
    rw [List.take_add_one, hb]
    have told : ∀ y ∈ ys, ∃ H0 b0, A H0 y b0 := fun y hm => by
      obtain ⟨b0, _, f⟩ := pairA_mem hy y hm
      exact ⟨_, b0, f⟩
    exact pairA_snoc (pairA_imp (fun _ _ h => sA.up (S2 _ _ hDy) told (sA.sm S2 h)) hy) (sA.up (S2 _ _ hDy) told ay)
  · obtain ⟨Sh, ys, hy, hDy⟩ := h
    rw [hl, List.take_length] at hy
    exact hQ D ys H' (S1.trans Sh) hy hDy (S1.free hD)
theorem lc_eachT {g : TG} {own : List Nat} {te0 te : TE} {ds : List β} {σ : L2.St} {H : Hp} {Q : VK} (B A : Hp → V → β → Prop) (sB : ∀ {H H' : Hp} {v : V} {b : β}, Sm H H' → B H v b → B H' v b) (sA : Stb A)
    (h0 : ∀ R : VK, (∀ S xs H1, Sm H H1 → SqT K H1 S xs → Paired (B H1) xs ds → R (.ref S) H1) → te0 σ H R) (hn : ds.length ≤ 90000)
    (he : ∀ x b H2, b ∈ ds → B H2 x b → Sm H H2 → ∀ R : VK, (∀ y H', A H' y b → Sm H2 H' → R y H') → g x (wipe σ own) H2 fun σ2 H3 => wipe σ2 own = wipe σ own ∧ te σ2 H3 R)
    (hQ : ∀ D ys H', Sm H H' → Paired (A H') ys ds → H' D = some (.lst ys) → H D = none → Q (.ref D) H') : tLc (iTup K te0) g tYes te own σ H Q := by
  refine h0 _ fun S xs H1 S1 hS hP => ⟨S, rfl, ⟨_, hS⟩, fun D hD => ?_⟩
  have hl := pairA_len hP
  refine lc_tup (K := K) (a := S) (xs := xs) (fun j H' => Sm H1 H' ∧ ∃ ys, Paired (A H') ys (ds.take j) ∧ H' D = some (.lst ys)) ⟨Sm.new hD, [], by rw [List.take_zero]; exact .nil, upd_same⟩ (fun _ H' _ h => Sm.seqT h.1 hS) (fun n x H' hx h => ?_) fun H' h => ?_
  · obtain ⟨Sh, ys, hy, hDy⟩ := h
    obtain ⟨b, hb, hB⟩ := pairA_at hP hx
    have hlt : n < ds.length := (List.getElem?_eq_some_iff.mp hb).1
    have ly := pairA_len hy
    rw [List.length_take] at ly
    refine he x b H' (List.mem_of_getElem? hb) (sB Sh hB) (S1.trans Sh) _ fun y H2 ay S2 => ⟨ys, S2 _ _ hDy, small' (by omega), Sm.own (Sh.trans S2) hD (no_tbl (S2 _ _ hDy)), ys ++ [y], ?_, upd_same⟩
    rw [List.take_add_one, hb]
    have told : ∀ y ∈ ys, ∃ H0 b0, A H0 y b0 := fun y hm => by
      obtain ⟨b0, _, f⟩ := pairA_mem hy y hm
      exact ⟨_, b0, f⟩
    exact pairA_snoc (pairA_imp (fun _ _ h => sA.up (S2 _ _ hDy) told (sA.sm S2 h)) hy) (sA.up (S2 _ _ hDy) told ay)
  · obtain ⟨Sh, ys, hy, hDy⟩ := h
    rw [hl, List.take_length] at hy
    exact hQ D ys H' (S1.trans Sh) hy hDy (S1.free hD)
end
/-- a reference told of a path -/
def spRefO (K : PySem.W.Frag) : Sp := fun vs H Q _ => ∃ (t : Addr) (nm : Str) (ks : List Str), vs = [.ref t] ∧ SqT K H t ((nm :: ks).map V.str) ∧ ∀ (q : Addr) (H' : Hp), Sm H H' → H q = none → RefT H' q nm ks → Q (.ref q) H'
theorem slice_tail {K : PySem.W.Frag} {t : Addr} {x : V} {xs : List V} {H : Hp} {Q : VK} (h : SqT K H t (x :: xs)) (q : ∀ p, H p = none → Q (.ref p) (upd H p (.tup xs))) : rSlA K (.ref t) (some 1) none H Q := by
  refine ⟨t, _, rfl, h, fun e => ?_, fun _ p hp => ?_⟩
  · have := e.1
    rw [show HT.sIx (x :: xs).length 0 (some 1) = min 1 (x :: xs).length from rfl, List.length_cons] at this
    omega
  · have e : cutV (x :: xs) (some 1) none = xs := by
      unfold cutV
      rw [show HT.sIx (x :: xs).length 0 (some 1) = min 1 (x :: xs).length from rfl, show HT.sIx (x :: xs).length (x :: xs).length none = (x :: xs).length from rfl, List.length_cons, show min 1 (xs.length + 1) = 1 by omega]
      show xs.take (xs.length + 1 - 1) = xs
      rw [Nat.add_sub_cancel, List.take_length]
    rw [e]
    exact q p hp
/-- what rows tells -/
def RowV (H : Hp) (nm : Str) (ks : List Str) (v : V) (x : List Str × Str) : Prop := ∃ (a r : Addr), v = .ref a ∧ H a = some (.tup [.ref r, .str x.2]) ∧ RefT H r nm (ks ++ x.1)
theorem rowV_stb (nm : Str) (ks : List Str) : Stb fun H v x => RowV H nm ks v x := by
  refine ⟨fun S h => ?_, fun e _ h => ?_⟩
  · obtain ⟨a, r, h1, h2, h3⟩ := h
    exact ⟨a, r, h1, S _ _ h2, h3.keep fun _ _ e => S _ _ e⟩
  · obtain ⟨a, r, h1, h2, h3⟩ := h
    refine ⟨a, r, h1, ?_, h3.keep fun b vs g => ?_⟩
    · rw [upd_ne (ne_of h2 e fun z => by cases z)]
      exact h2
    · rw [upd_ne (ne_of g e fun z => by cases z)]
      exact g
def rowsS (S : Sh) (nm : Str) (ks : List Str) : List (List Str × Str) := if (S.N (nm :: ks)).isSome = true then walkF 8 S (nm :: ks) else []
def spRows (K : PySem.W.Frag) (cs : Tabs) : Sp := fun vs H Q _ => ∃ (arr p : Addr) (S : Sh) (m : Nat) (nm : Str) (ks : List Str), vs = [.ref arr, .ref p] ∧ ArrAt cs H arr S m ∧ RefAt K H p nm ks ∧ REF nm ks ∧ (rowsS S nm ks).length ≤ 80000 ∧ TGs H cs ∧
  ∀ (D : Addr) (ys : List V) (H' : Hp), Sm H H' → H D = none → H' D = some (.lst ys) → Paired (RowV H' nm ks) ys (rowsS S nm ks) → Q (.ref D) H'
section
variable {P : Program} {w : World} {K : PySem.W.Frag} {mg : Str → Option Value} {base : Heap} {cs : Tabs}
theorem ok_reference (T : Txt K mg cs) : Cal P w K mg base 1 "_reference" ["path"] (spRefO K) := by
  refine T.f_reference.cal scReference (fun vs H Q E h => ?_) (fun f cdv A outer s H vs Q E hr h => ?_)
  · obtain ⟨_, _, _, rfl, _⟩ := h
    rfl
  obtain ⟨t, nm, ks, rfl, ht, q⟩ := h
  refine ⟨_, (pss_one (ps_ret (pe_tup (pa_cons (pe_ix (ixT K) (pv 0) pe_int (fun _ _ => rfl)) (pa_cons (pe_slice (slT K) (pv 0) (po_some pe_int) po_none) pa_nil))))), ?_⟩
  refine run_ret ⟨_, rfl, t, _, 0, .str nm, rfl, rfl, ht, atI_nat (j := 0) rfl, _, rfl, 1, rfl, ?_⟩
  dsimp only [tNoPart]
  refine slice_tail ht fun p hp => ⟨(by show 2 ≤ sizeLine; decide), fun d hd => ?_⟩
  have hd0 : H d = none := (Sm.new hp).gone _ hd
  refine q d _ ((Sm.new hp).trans (Sm.new hd)) hd0 ⟨p, upd_same, ?_⟩
  rw [upd_ne (ne_of_none (o := .tup (ks.map V.str)) upd_same hd)]
  exact upd_same
theorem ok_rows (T : Txt K mg cs) (Cneed_reference : Cal P w K mg base 7 "need_reference" ["thing"] (spNeedRef K cs)) (C_path : Cal P w K mg base 1 "_path" ["ref"] (spPath K)) (C_reference : Cal P w K mg base 1 "_reference" ["path"] (spRefO K))
    (CTree_at : CalM P w K mg base 1 cs.a_Tree "at" ["self", "path"] (spAt K cs.a_Tree)) (CTree_walked : CalM P w K mg base 9 cs.a_Tree "walked" ["self", "path"] (spWalk K cs.a_Tree 8)) : CalM P w K mg base 10 cs.a_Arrays "rows" ["self", "ref"] (spRows K cs) := by
  refine T.f_Arrays_rows.cal scArraysRows (fun vs H Q E h => ?_) (fun f cdv A outer s H vs Q E hr h => ?_)
  · obtain ⟨_, _, _, _, _, _, rfl, _⟩ := h
    rfl
  obtain ⟨arr, p, S, m, nm, ks, rfl, A0, R, O, hm, hT, q⟩ := h
  refine ⟨_, (pss_cons (ps_expr (pe_cal Cneed_reference (hr.mono (by first | decide | omega)) (pa_cons (pv 1) pa_nil)))
    (pss_cons (ps_set (i := 2) scArraysRows.nd rfl (by first | exact Or.inl rfl | exact Or.inr rfl) (pe_cal C_path (hr.mono (by first | decide | omega)) (pa_cons (pv 1) pa_nil)))
    (pss_cons (ps_set (i := 3) scArraysRows.nd rfl (by first | exact Or.inl rfl | exact Or.inr rfl) (pe_calM CTree_at T.cl_Tree (hr.mono (by first | decide | omega)) (pe_fldK (K := K) (pv 0)) (pa_cons (pv 2) pa_nil)))
    (pss_cons (ps_if (pt_cmpR op_isN (pv 3) pe_non (nomark _)) (pss_one (ps_ret (pe_lst pa_nil))) pss_nil)
    (pss_one (ps_ret (pe_lc (own := [("found", 4), ("worth", 5)]) (g := gTup K 2 (gCons (gName 4) (gCons (gName 5) gNil))) (tt := tYes) rfl scArraysRows.nd (pi_list (pe_calM CTree_walked T.cl_Tree (hr.mono (by first | decide | omega)) (pv 3) (pa_cons (pv 2) pa_nil))) (blkOk_by (own := [("found", 4), ("worth", 5)]) (N := ["self", "ref", "path", "place", "found", "worth"]) (sc := defScope sArraysRows) (by decide +kernel)) (fun _ _ _ _ _ => (pg_tup rfl (pgs_cons (pg_name (i := 4) scArraysRows.nd rfl (by first | exact Or.inl rfl | exact Or.inr rfl)) (pgs_cons (pg_name (i := 5) scArraysRows.nd rfl (by first | exact Or.inl rfl | exact Or.inr rfl)) pgs_nil)))) (fun _ _ _ _ _ => pts_nil) (fun _ _ _ _ _ => (pe_tup (pa_cons (pe_cal C_reference (hr.mono (by first | decide | omega)) (pa_cons (pv 4) pa_nil)) (pa_cons (pv 5) pa_nil))))))))))), ?_⟩
  refine ⟨_, rfl, p, nm, ks, rfl, R, O, hT, fun H1 S1 => ?_⟩
  have A1 := A0.sm S1
  have lk : ks.length ≤ 1000 := Nat.le_trans O.le (by decide)
  dsimp only
  refine run_set ⟨_, rfl, p, nm, ks, rfl, R.same S1, lk, fun t H2 S2 ht => ?_⟩
  have A2 := A1.sm S2
  obtain ⟨dx, n, hi, hn⟩ := A2.it
  have Bn := A2.th.at_ _ _ hn
  have h2 : SqT K H2 t ((nm :: ks).map V.str) := SqT.of ht
  have l7 : (nm :: ks).length ≤ 1000 := by show ks.length + 1 ≤ 1000; have := O.le; omega
  dsimp only
  refine run_set ⟨_, rfl, arr, _, _, _, _, rfl, hi, T.cl_Arrays, T.no_Arrays__tree, rfl, n.a, n.dx, _, rfl, Bn.ins, rfl, _, rfl, S, m, n, t, nm :: ks, rfl, A2.th, A2.ok, hn, h2, l7, ?_⟩
  unfold rowsS at q hm
  cases e : S.N (nm :: ks) with
  | none =>
    rw [e] at q hm
    dsimp only
    refine run_if ⟨_, rfl, rfl, _, rfl, iteT ?_⟩
    refine run_ret ⟨(by show 0 ≤ sizeLine; decide), fun D hD => ?_⟩
    exact q D [] _ ((S1.trans S2).trans (Sm.new hD)) ((S1.trans S2).gone _ hD) upd_same .nil
  | some x =>
    rw [e] at q hm
    dsimp only
    refine run_if ⟨_, rfl, rfl, _, rfl, iteF ?_⟩
    refine run_next ?_
    dsimp only
    refine run_ret ?_
    have Bx := A2.th.at_ _ _ e
    refine lc_each (K := K) (fun H v (x : List Str × Str) => ∃ a, v = .ref a ∧ RowIt K H (nm :: ks) a x) (fun H v x => RowV H nm ks v x) (fun S h => ?_) (ds := walkF 8 S (nm :: ks)) (rowV_stb nm ks) (fun R h => ?_) (by simp only [Option.isSome_some, if_true] at hm; omega) (fun v b H3 hb hB S3 R h => ?_) fun D ys H3 S3 hP hD hD0 => ?_
    · obtain ⟨a, h1, h2⟩ := h
      exact ⟨a, h1, h2.sm S⟩
    · refine ⟨_, rfl, x.a, _, _, rfl, Bx.ins, rfl, _, rfl, S, m, nm :: ks, x, t, nm :: ks, rfl, A2.th, A2.ok, e, h2, ?_, ?_, ?_, fun l H3 hl S3 hr => ?_⟩
      · show 8 ≤ (ks.length + 1) + 8
        omega
      · show (ks.length + 1) + 8 ≤ 100
        have := O.le
        omega
      · simp only [Option.isSome_some, if_true] at hm
        omega
      · obtain ⟨as, h1, h2⟩ := hr
        refine h l _ H3 S3 (SqL.of h1) ?_
        exact paired_mapL h2
    · obtain ⟨a, rfl, qa, g1, g2⟩ := hB
      refine ⟨a, _, rfl, SqT.of g1, rfl, _, _, rfl, _, _, rfl, rfl, rfl, ?_⟩
      refine ⟨_, (by rfl), qa, nm, ks ++ b.1, rfl, g2, fun q4 H4 S4 hq4 Rq => ⟨_, (by rfl), (by show 2 ≤ sizeLine; decide), fun d hd => ?_⟩⟩
      exact h _ _ ⟨d, q4, rfl, upd_same, Rq.keep fun b vs e => by rw [upd_ne (ne_of_none e hd)]; exact e⟩ (S4.trans (Sm.new hd))
    · have S13 := (S1.trans S2).trans S3
      exact q D ys H3 S13 ((S1.trans S2).gone D hD0) hD hP
end
theorem cat_two {K : PySem.W.Frag} {a b : Addr} {xs ys : List V} {H : Hp} {Q : VK} (h1 : SqT K H a xs) (h2 : SqT K H b ys) (hl : xs.length + ys.length ≤ 90000) (q : ∀ p H', Sm H H' → SqT K H' p (xs ++ ys) → Q (.ref p) H') : rCatA K (.ref a) (.ref b) H Q := by
  refine ⟨a, b, xs, ys, rfl, rfl, h1, h2, small (by omega), fun e => ?_, fun e e2 => ?_, fun _ _ p hp => q p _ (Sm.new hp) (SqT.of upd_same)⟩
  · refine q b H (Sm.refl H) ?_
    rw [e]
    exact h2
  · refine q a H (Sm.refl H) ?_
    rw [e2, List.append_nil]
    exact h1
theorem sqT_out {K : PySem.W.Frag} {W : Addr → Prop} {H H' : Hp} (c : Ch W H H') (ht : ∀ a, W a → (∀ vs, H a ≠ some (.tup vs)) ∧ ∀ o u, H a ≠ some (.frz o u)) {a : Addr} {xs : List V} (h : SqT K H a xs) : SqT K H' a xs := by
  rcases h with (h | ⟨o, h⟩) | h
  · exact .inl (.inl (c.keep (fun z => (ht a z).1 _ h) h))
  · exact .inl (.inr ⟨o, c.keep (fun z => (ht a z).2 _ _ h) h⟩)
  · exact .inr h
theorem RefAt.out {K : PySem.W.Frag} {W : Addr → Prop} {H H' : Hp} {p : Addr} {nm : Str} {ks : List Str} (R : RefAt K H p nm ks) (c : Ch W H H') (ht : ∀ a, W a → (∀ vs, H a ≠ some (.tup vs)) ∧ ∀ o u, H a ≠ some (.frz o u)) : RefAt K H' p nm ks := by
  obtain ⟨t, h1, h2⟩ := R.ex
  exact ⟨t, sqT_out c ht h1, sqT_out c ht h2⟩
theorem nodup_le {α : Type} [DecidableEq α] : ∀ {l m : List α}, l.Nodup → (∀ x ∈ l, x ∈ m) → l.length ≤ m.length
  | [], _, _, _ => Nat.zero_le _
  | x :: r, m, nd, sub => by
    have hx := sub x List.mem_cons_self
    have n := List.nodup_cons.mp nd
    have := nodup_le (l := r) (m := m.erase x) n.2 fun y hy => (List.mem_erase_of_ne (show y ≠ x from fun e => n.1 (by rw [← e]; exact hy))).mpr (sub y (List.mem_cons_of_mem _ hy))
    rw [List.length_erase_of_mem hx] at this
    have := List.length_pos_of_mem hx
    show r.length + 1 ≤ m.length
    omega
/-! ### methods of a dict whose keys are tuples; all(list) -/
namespace DN
open PyProof.Rows
def tMN (w : World) (r : V → List V → Hp → VK → Prop) (to : TE) (t : TA) : TE := fun σ H Q => to σ H fun x H1 => (∃ (a : Addr) (L : List Ent), x = .ref a ∧ Rd w H1 a L) ∧ t σ H1 fun xs H2 => r x xs H2 Q
section
variable {X : Cx}
theorem pe_mN {w : World} {id : String} {name : Str} {apos cpos : Pos} {o e : Expr} {es : List Expr} {r : V → List V → Hp → VK → Prop} {to : TE} {t : TA} (slot : Slot "dict" name id) (hty : typeOf (.builtin id) = pure (.type "method_descriptor")) (hm : MtR X id r) (ho : PE X o to) (ha : PA X (e :: es) t) (hw : X.w = w := by rfl)
    (h1 : attributeBase o name X.env (eval o X.env) = eval o X.env := by rfl) (h2 : ((backTo cpos (starEach (e :: es) X.env)).all (fun x => !x.1) && (backToKw cpos (keywordEach [] X.env)).all (fun x => x.1.isSome) && decide ((e :: es).length + ([] : List Keyword).length + (if ([] : List Keyword).isEmpty then 0 else 1) < 30)) = true := by rfl) (h3 : (apos.endLine == cpos.line) = true := by rfl)
    (h4 : starEach (e :: es) X.env = (false, eval e X.env) :: starEach es X.env := by rfl) (h5 : (backTo cpos (starEach es X.env)).any (·.1) = false := by rfl) :
    PE X (.Call (.Attribute o name apos) (e :: es) [] cpos) (tMN w r to t) := by
  subst hw
  refine ⟨fun pins s σ H Q I h => ?_⟩
  refine wpAny_Call_method_late h1 h2 h3 rfl (thn (ho.run pins s σ H _ I h) fun v s1 ⟨x, H1, I1, r1, ty, q1⟩ => ?_)
  obtain ⟨a, L, rfl, d⟩ := ty
  obtain ⟨ob, oes, ep, hd, hob, hx, _⟩ := Inv.dn I1 d
  cases r1
  refine ⟨"dict", id, PySem.F.plainAttrs_dict, slot, hty, ⟨ob, hob, hx.1⟩, fun b q => by cases q; exact ⟨ob, hob, hx.2.1⟩, ?_⟩
  have hA := ha.run cpos pins s1 σ H1 _ I1 q1
  rw [h4] at hA ⊢
  refine Calls.callWith_builtin (by show (false || (backTo cpos (starEach es X.env)).any (·.1)) = false; rw [h5] <;> rfl) (Calls.evalArgs_plain ?_)
  exact thn hA fun us s2 ⟨vs, H2, I2, r2, q2⟩ => hm pins s2 σ H2 (.ref a) vs (.ref a) us Q I2 rfl r2 q2
end
end DN
section
variable {X : Cx}
theorem allL {K : PySem.W.Frag} (hc : X.calm = true) (h : X.K = K := by rfl) : CallR X (.builtin "all") (rAll K) := h ▸ cr_all hc
end
/-- locked here, or ahead already -/
def tLockO (t : TE) : TE := fun σ H Q => tLockE t σ H Q ∨ t σ H Q
theorem pe_lockO {X : Cx} {e : Expr} {t : TE} (h : PE X e t) : PE X e (tLockO t) := ⟨fun pins s σ H Q I q => q.elim (fun q => (pe_lock h).run pins s σ H Q I q) fun q => h.run pins s σ H Q I q⟩
section
variable {P : Program} {w : World} {K : PySem.W.Frag} {mg : Str → Option Value} {base : Heap} {cs : Tabs}
def JOINTS : List V := [.str "; ", .str ":", .str "=", .str ",", .str "|", .str "|  ", .str ")", .str "(", .str "\"", .str "\"\"", .str ")=\"", .str "; write 1", .str "=\"", .str "x", .str " "]
theorem SIGNS_wt : WT SIGNS 94 := WT.dec (by decide +kernel)
theorem some_sign {z : Str} {n j : Nat} (h : WT z n) (hj : j < (tl z).length) : ∃ c, atI (tl z) (j : Int) = some c ∧ sgn c = true := ⟨(tl z)[j], atI_nat (List.getElem?_eq_getElem hj), h.sg _ (List.getElem_mem hj)⟩
theorem WT.one {c : Nat} (h : sgn c = true) : WT ⟨#[c]⟩ 1 := ⟨Nat.le_refl _, fun d hd => by
  have e : d = c := List.mem_singleton.mp (show d ∈ [c] from hd)
  rw [e]
  exact h⟩
/-- some[draw(bag, len(some))], some a text -/
theorem sign_drawn {b : Addr} {i j m : Nat} {σ : L2.St} {H : Hp} {z : Str} {Q : VK} (hb : σ[i]? = some (some (.ref b))) (hs : σ[j]? = some (some (.str z))) (B : Bag H b m) (hm : m ≤ LIM) (hz : (tl z).length ≤ 1000) (h0 : 0 < (tl z).length)
    (q : ∀ c H', c ∈ tl z → Go b 1 H H' → Q (.str ⟨#[c]⟩) H') :
    tOp rIxS (tVar j) (tCall spDraw [] E0 (tCons (tVar i) (tCons (tCB rLenT1 (tCons (tVar j) tNil)) tNil))) σ H Q := by
  have e : z.length = (tl z).length := len_tl z
  refine ⟨_, hs, _, hb, _, hs, z, rfl, (by rw [e]; exact small (by omega)), b, (z.length : Int), m, rfl, B, hm, by omega, by omega, fun r H' r0 r1 G => ?_⟩
  obtain ⟨k, rfl⟩ : ∃ k : Nat, r = (k : Int) := ⟨r.toNat, by omega⟩
  have hk : k < (tl z).length := by omega
  exact ⟨z, (k : Int), _, rfl, rfl, (by rw [e]; exact small (by omega)), atI_nat (List.getElem?_eq_getElem hk), q _ _ (List.getElem_mem hk) G⟩
theorem list_drawn {A : V → Prop} {b p : Addr} {i j n m : Nat} {σ : L2.St} {H : Hp} {xs : List V} {Q : VK} (hb : σ[i]? = some (some (.ref b))) (hs : σ[j]? = some (some (.ref p))) (hp : H p = some (.lst xs)) (np : p ≠ b) (B : Bag H b m) (hm : m ≤ LIM) (hn : xs.length = n) (h0 : 0 < n ∧ n ≤ 1000)
    (hA : ∀ v ∈ xs, A v) (q : ∀ v H', A v → Go b 1 H H' → Q v H') : tOp (rIxL K) (tVar j) (tCall spDraw [] E0 (tCons (tVar i) (tCons (tC (.int ((n : Nat) : Int))) tNil))) σ H Q := by
  refine ⟨_, hs, _, hb, b, (n : Int), m, rfl, B, hm, by omega, by omega, fun r H' r0 r1 G => ?_⟩
  obtain ⟨k, rfl⟩ : ∃ k : Nat, r = (k : Int) := ⟨r.toNat, by omega⟩
  have hk : k < xs.length := by omega
  exact ⟨p, xs, (k : Int), _, rfl, rfl, SqL.of (G.keep p _ np hp), atI_nat (List.getElem?_eq_getElem hk), q _ _ (hA _ (List.getElem_mem hk)) G⟩
end
/-! ### the second family's bag and draws -/
theorem WT.nat {i : Int} {k : Nat} (hk : 0 < k) (h0 : 0 ≤ i) (h : i < ((10 ^ k : Nat) : Int)) : WT (Str.ofString (toString i)) k := by
  have W := WT.int (i := i) hk (by omega)
  refine ⟨?_, W.sg⟩
  rw [← len_tl, PySem.ofString_length]
  obtain ⟨m, rfl⟩ : ∃ m : Nat, i = (m : Int) := ⟨i.toNat, by omega⟩
  have e : toString ((m : Nat) : Int) = Nat.repr m := rfl
  rw [e]
  exact (Nat.length_repr_le_iff hk).mpr (by omega)
theorem int_pos (i : Int) : 1 ≤ (tl (Str.ofString (toString i))).length := by
  rw [← len_tl, PySem.ofString_length]
  cases i with
  | ofNat m =>
    have e : toString (Int.ofNat m) = Nat.repr m := rfl
    rw [e, ← String.length_toList, Nat.toList_repr]
    exact Nat.length_toDigits_pos
  | negSucc m =>
    have e : toString (Int.negSucc m) = "-" ++ Nat.repr (m + 1) := rfl
    rw [e, String.length_append]
    have e1 : "-".length = 1 := rfl
    omega
def spBagB : Sp := fun vs H Q _ => ∃ (c : Int) (k : Nat), vs = [.int c, .int (k : Int)] ∧ k ≤ 1000 ∧ ∀ (p : Addr) (H' : Hp), H p = none → Sm H H' → Bag H' p 0 → Q (.ref p) H'
def spKeyB : Sp := fun vs H Q _ => ∃ (b : Addr) (m : Nat), vs = [.ref b] ∧ Bag H b m ∧ m + 100 ≤ LIM ∧ ∀ (z : Str) (H' : Hp), KEY z → Go b 20 H H' → Q (.str z) H'
def spWorthB : Sp := fun vs H Q _ => ∃ (b : Addr) (m : Nat), vs = [.ref b] ∧ Bag H b m ∧ m + 100 ≤ LIM ∧ ∀ (z : Str) (H' : Hp), WT z 400 → Go b 5 H H' → Q (.str z) H'
section
variable {P : Program} {w : World} {K : PySem.W.Frag} {mg : Str → Option Value} {base : Heap} {cs : Tabs}
theorem ok_law_bag (T : Txt K mg cs) : Cal P w K mg base 1 "_law_bag" ["cell", "k"] spBagB := by
  refine T.f_law_bag.cal scLawBag (fun vs H Q E h => ?_) (fun f cdv A outer s H vs Q E hr h => ?_)
  · obtain ⟨a, k, rfl, _⟩ := h
    rfl
  obtain ⟨c, k, rfl, hk, q⟩ := h
  have p41 : ((10 : Int) ^ ((41 : Int)).toNat + 9) = 100000000000000000000000000000000000000009 := by decide
  refine ⟨_, (pss_one (ps_ret (pe_lst (pa_cons (pe_callB (call_max2 rfl) rfl T.n_max (by decide +kernel) (pa_cons pe_int (pa_cons (pe_op op_sub (pv 0) (pe_op op_powW pe_int pe_int)) pa_nil))) (pa_cons (pe_op op_add (pe_op op_mod (pv 0) (pe_op op_add (pe_op op_powW pe_int pe_int) pe_int)) (pe_op op_mulW pe_int (pe_op op_add (pv 1) pe_int))) (pa_cons pe_int pa_nil)))))), ?_⟩
  refine ⟨_, rfl, 10, 18, rfl, rfl, ⟨by decide, by decide, by decide⟩, c, _, rfl, rfl, 0, _, rfl, ?_⟩
  refine ⟨_, rfl, 10, 41, rfl, rfl, ⟨by decide, by decide, by decide⟩, _, 9, rfl, rfl, ?_⟩
  refine ⟨c, 100000000000000000000000000000000000000009, rfl, congrArg V.int p41, (show (0 : Int) < 100000000000000000000000000000000000000009 by decide), ?_⟩
  refine ⟨_, rfl, (k : Int), 1, rfl, rfl, 104723, (k : Int) + 1, rfl, rfl, wide_mul (a := 40) (b := 40) (by decide) (nat_lt (by omega) (by omega)) (by decide) (by decide) (by decide), _, _, rfl, rfl, ?_⟩
  refine ⟨(by show 3 ≤ sizeLine; decide), fun p hp => q p _ hp (Sm.new hp) ⟨_, _, 0, upd_same, ?_, ?_, Int.le_refl 0, Int.le_refl 0⟩⟩
  · have := Int.emod_nonneg c (show (100000000000000000000000000000000000000009 : Int) ≠ 0 by decide)
    show 0 ≤ c % 100000000000000000000000000000000000000009 + 104723 * ((k : Int) + 1)
    omega
  · have := Int.emod_lt_of_pos c (show (0 : Int) < 100000000000000000000000000000000000000009 by decide)
    show c % 100000000000000000000000000000000000000009 + 104723 * ((k : Int) + 1) < 2 ^ 200
    omega
theorem ok_law_take (T : Txt K mg cs) : Cal P w K mg base 1 "_law_take" ["bag", "many"] spDraw := by
  refine T.f_law_take.cal scLawTake (fun vs H Q E h => ?_) (fun f cdv A outer s H vs Q E hr h => ?_)
  · obtain ⟨b, many, m, rfl, _⟩ := h
    rfl
  obtain ⟨b, many, m, rfl, B, hm, h0, h1, q⟩ := h
  obtain ⟨x, y, z, hb, y0, y1, z0, z1⟩ := id B
  refine ⟨_, (pss_cons (ps_if (pt_cmpR op_gt (pe_ix (ixL K) (pv 0) pe_int (fun _ _ => rfl)) pe_int (nomark _)) (pss_cons (ps_set (i := 3) scLawTake.nd rfl (by first | exact Or.inl rfl | exact Or.inr rfl) (pe_op op_mod (pe_ix (ixL K) (pv 0) pe_int (fun _ _ => rfl)) (pv 1)))
        (pss_cons (ps_asg (pe_op op_fdivW (pe_ix (ixL K) (pv 0) pe_int (fun _ _ => rfl)) (pv 1)) (pg_sub (pv 0) pe_int set_list))
        (pss_one (ps_ret (pv 3))))) pss_nil)
    (pss_cons (ps_asg (pe_op op_add (pe_ix (ixL K) (pv 0) pe_int (fun _ _ => rfl)) pe_int) (pg_sub (pv 0) pe_int set_list))
    (pss_cons (ps_set (i := 2) scLawTake.nd rfl (by first | exact Or.inl rfl | exact Or.inr rfl) (pe_op op_mod (pe_op op_powW (pe_op op_add (pe_ix (ixL K) (pv 0) pe_int (fun _ _ => rfl)) (pe_op op_mulW pe_int (pe_ix (ixL K) (pv 0) pe_int (fun _ _ => rfl)))) pe_int) (pe_op op_add (pe_op op_powW pe_int pe_int) pe_int)))
    (pss_cons (ps_set (i := 2) scLawTake.nd rfl (by first | exact Or.inl rfl | exact Or.inr rfl) (pe_op op_mod (pe_op op_powW (pe_op op_add (pv 2) (pe_op op_mulW pe_int (pe_ix (ixL K) (pv 0) pe_int (fun _ _ => rfl)))) pe_int) (pe_op op_add (pe_op op_powW pe_int pe_int) pe_int)))
    (pss_one (ps_ret (pe_op op_mod (pe_op op_fdivW (pv 2) pe_int) (pv 1)))))))), ?_⟩
  have hS : SqL K H b [.int x, .int y, .int z] := SqL.of hb
  have hdiv : CDivW x many := wide_div (b := 256) h0 (nat_lt (by omega) h1) (by decide) (by decide)
  refine ⟨_, rfl, b, _, 0, .int x, rfl, rfl, hS, rfl, x, 1, rfl, rfl, _, rfl, ?_⟩
  refine ite2 (fun c => ?_) (fun c => ?_)
  · refine ⟨_, rfl, b, _, 0, .int x, rfl, rfl, hS, rfl, _, rfl, x, many, rfl, rfl, h0, ?_⟩
    refine ⟨_, rfl, b, _, 0, .int x, rfl, rfl, hS, rfl, _, rfl, x, many, rfl, rfl, hdiv, ?_⟩
    refine ⟨_, rfl, b, [.int x, .int y, .int z], 0, 0, rfl, rfl, hb, rfl, ?_⟩
    exact ⟨_, rfl, q _ _ (Int.emod_nonneg x (by omega)) (Int.emod_lt_of_pos x h0) (draw_set (m := m) hb (.inl rfl))⟩
  · refine ⟨_, rfl, b, _, 2, .int z, rfl, rfl, hS, rfl, z, 1, rfl, rfl, ?_⟩
    refine ⟨_, rfl, b, [.int x, .int y, .int z], 2, 2, rfl, rfl, hb, rfl, ?_⟩
    have hb1 : (upd H b (.lst [.int x, .int y, .int (z + 1)])) b = some (.lst [.int x, .int y, .int (z + 1)]) := upd_same
    have hS1 : SqL K (upd H b (.lst [.int x, .int y, .int (z + 1)])) b [.int x, .int y, .int (z + 1)] := SqL.of hb1
    unfold LIM at hm
    have ez : (z + 1).natAbs < 2 ^ 40 := nat_lt (by omega) (by omega)
    have p40 : ((10 : Int) ^ ((40 : Int)).toNat + 121) = 10000000000000000000000000000000000000121 := by decide
    have p38 : ((10 : Int) ^ ((38 : Int)).toNat + 133) = 100000000000000000000000000000000000133 := by decide
    refine ⟨_, rfl, b, _, 1, .int y, rfl, rfl, hS1, rfl, _, rfl, b, _, 2, .int (z + 1), rfl, rfl, hS1, rfl, 15485857, z + 1, rfl, rfl, wide_mul (a := 40) (b := 40) (by decide) ez (by decide) (by decide) (by decide), y, 15485857 * (z + 1), rfl, rfl,
      y + 15485857 * (z + 1), 3, rfl, rfl, ⟨by decide, by decide, pow_ok (n := 300) (nat_lt (by omega) (by omega)) (by decide) (by decide)⟩, 10, 40, rfl, rfl, ⟨by decide, by decide, by decide⟩, _, 121, rfl, rfl, ?_⟩
    refine ⟨_, 10000000000000000000000000000000000000121, rfl, congrArg V.int p40, (show (0 : Int) < 10000000000000000000000000000000000000121 by decide), ?_⟩
    have r0 := Int.emod_nonneg ((y + 15485857 * (z + 1)) ^ ((3 : Int)).toNat) (show (10000000000000000000000000000000000000121 : Int) ≠ 0 by decide)
    have r1 := Int.emod_lt_of_pos ((y + 15485857 * (z + 1)) ^ ((3 : Int)).toNat) (show (0 : Int) < 10000000000000000000000000000000000000121 by decide)
    obtain ⟨r, er⟩ : ∃ r : Int, (y + 15485857 * (z + 1)) ^ ((3 : Int)).toNat % 10000000000000000000000000000000000000121 = r := ⟨_, rfl⟩
    rw [er] at r0 r1
    refine ⟨_, rfl, _, rfl, b, _, 2, .int (z + 1), rfl, rfl, hS1, rfl, 32452843, z + 1, rfl, rfl, wide_mul (a := 40) (b := 40) (by decide) ez (by decide) (by decide) (by decide), r, 32452843 * (z + 1), congrArg V.int er, rfl,
      r + 32452843 * (z + 1), 5, rfl, rfl, ⟨by decide, by decide, pow_ok (n := 300) (nat_lt (by omega) (by omega)) (by decide) (by decide)⟩, 10, 38, rfl, rfl, ⟨by decide, by decide, by decide⟩, _, 133, rfl, rfl, ?_⟩
    refine ⟨_, 100000000000000000000000000000000000133, rfl, congrArg V.int p38, (show (0 : Int) < 100000000000000000000000000000000000133 by decide), ?_⟩
    obtain ⟨t, et⟩ : ∃ t : Int, (r + 32452843 * (z + 1)) ^ ((5 : Int)).toNat % 100000000000000000000000000000000000133 = t := ⟨_, rfl⟩
    refine ⟨_, rfl, t, 4096, congrArg V.int et, rfl, wide_div (b := 1000) (by decide) (by decide) (by decide) (by decide), _, rfl, t / 4096, many, rfl, rfl, h0, ?_⟩
    exact q _ _ (Int.emod_nonneg _ (by omega)) (Int.emod_lt_of_pos _ h0) (draw_set (m := m) hb (.inr rfl))
def SIGNSB : Str := " !\"#$&'()*+,-./0123456789:;<=>?@AZ[\\]^_`az{|}~"
theorem SIGNSB_wt : WT SIGNSB 60 := WT.dec (by decide +kernel)
theorem WT.appB {y z : Str} {n m : Nat} (h1 : WT y n) (h2 : WT z m) : WT (y ++ z) (n + m) := by
  refine ⟨by rw [tl_append, List.length_append]; have := h1.len; have := h2.len; omega, fun c hc => ?_⟩
  rw [tl_append] at hc
  rcases List.mem_append.mp hc with h | h
  · exact h1.sg c h
  · exact h2.sg c h
theorem mul_one {c n : Nat} (h : sgn c = true) : WT (Txt.mul ⟨#[c]⟩ ((n : Nat) : Int)) n ∧ (tl (Txt.mul ⟨#[c]⟩ ((n : Nat) : Int))).length = n := by
  have e : tl (Txt.mul ⟨#[c]⟩ ((n : Nat) : Int)) = List.replicate n c := by
    rw [tl_mul]
    show ((List.replicate n [c]).flatten) = _
    induction n with
    | zero => rfl
    | succ n ih => rw [List.replicate_succ, List.flatten_cons, ih, List.replicate_succ]; rfl
  refine ⟨⟨?_, fun d hd => ?_⟩, ?_⟩
  · rw [e, List.length_replicate]
    exact Nat.le_refl _
  · rw [e] at hd
    rw [(List.mem_replicate.mp hd).2]
    exact h
  · rw [e, List.length_replicate]
theorem glue_pos : ∀ {zs : List Str}, 1 ≤ zs.length → (∀ y ∈ zs, (tl y).length = 1) → 1 ≤ (tl (Txt.join "" zs)).length
  | [], h, _ => by cases h
  | y :: r, _, h => by
    rw [tl_glue, List.map_cons, List.flatten_cons, List.length_append, h y List.mem_cons_self]
    omega
/-- "signs"[draw(bag, n)] -/
theorem lit_drawn {b : Addr} {i m n : Nat} {σ : L2.St} {H : Hp} {z : Str} {Q : VK} (hb : σ[i]? = some (some (.ref b))) (B : Bag H b m) (hm : m ≤ LIM) (hz : (tl z).length = n) (h0 : 0 < n ∧ n ≤ 1000)
    (q : ∀ c H', c ∈ tl z → Go b 1 H H' → Q (.str ⟨#[c]⟩) H') : tOp rIxS (tC (.str z)) (tCall spDraw [] E0 (tCons (tVar i) (tCons (tC (.int ((n : Nat) : Int))) tNil))) σ H Q := by
  refine ⟨_, hb, b, (n : Int), m, rfl, B, hm, by omega, by omega, fun r H' r0 r1 G => ?_⟩
  obtain ⟨k, rfl⟩ : ∃ k : Nat, r = (k : Int) := ⟨r.toNat, by omega⟩
  have hk : k < (tl z).length := by omega
  exact ⟨z, (k : Int), _, rfl, rfl, (by rw [len_tl]; exact small (by omega)), atI_nat (List.getElem?_eq_getElem hk), q _ _ (List.getElem_mem hk) G⟩
theorem ok_law_key (T : Txt K mg cs) (C_law_take : Cal P w K mg base 1 "_law_take" ["bag", "many"] spDraw) : Cal P w K mg base 2 "_law_key" ["bag"] spKeyB := by
  refine T.f_law_key.cal scLawKey (fun vs H Q E h => ?_) (fun f cdv A outer s H vs Q E hr h => ?_)
  · obtain ⟨b, m, rfl, _⟩ := h
    rfl
  obtain ⟨b, m, rfl, B, hm, q⟩ := h
  refine ⟨_, (pss_cons (ps_set (i := 1) scLawKey.nd rfl (by first | exact Or.inl rfl | exact Or.inr rfl) (pe_cal C_law_take (hr.mono (by first | decide | omega)) (pa_cons (pv 0) (pa_cons pe_int pa_nil))))
    (pss_cons (ps_set (i := 2) scLawKey.nd rfl (by first | exact Or.inl rfl | exact Or.inr rfl) (pe_lst (pa_cons (pe_op op_sub (pe_cal C_law_take (hr.mono (by first | decide | omega)) (pa_cons (pv 0) (pa_cons pe_int pa_nil))) pe_int) (pa_cons (pe_cal C_law_take (hr.mono (by first | decide | omega)) (pa_cons (pv 0) (pa_cons (pe_op op_powW pe_int pe_int) pa_nil))) (pa_cons (pe_op op_sub pe_int (pe_cal C_law_take (hr.mono (by first | decide | omega)) (pa_cons (pv 0) (pa_cons (pe_op op_powW pe_int pe_int) pa_nil)))) (pa_cons (pe_cal C_law_take (hr.mono (by first | decide | omega)) (pa_cons (pv 0) (pa_cons (pe_op op_powW pe_int pe_int) pa_nil))) pa_nil))))))
    (pss_cons (ps_set (i := 3) scLawKey.nd rfl (by first | exact Or.inl rfl | exact Or.inr rfl) (pe_callTy call_str_int rfl T.n_str (by decide +kernel) (pa_cons (pe_ix (ixL K) (pv 2) (pe_cal C_law_take (hr.mono (by first | decide | omega)) (pa_cons (pv 0) (pa_cons pe_int pa_nil))) (fun _ _ => rfl)) pa_nil)))
    (pss_cons (ps_if (pt_cmpR op_lt (pv 1) pe_int (nomark _)) (pss_one (ps_ret (pv 3))) pss_nil)
    (pss_cons (ps_if (pt_cmpR op_eq (pv 1) pe_int (nomark _)) (pss_one (ps_ret (pe_op op_add_str (pe_ix (ixL K) (pe_lst (pa_cons pe_str (pa_cons pe_str (pa_cons pe_str (pa_cons pe_str pa_nil))))) (pe_cal C_law_take (hr.mono (by first | decide | omega)) (pa_cons (pv 0) (pa_cons pe_int pa_nil))) (fun _ _ => rfl)) (pv 3)))) pss_nil)
    (pss_cons (ps_if (pt_cmpR op_eq (pv 1) pe_int (nomark _)) (pss_one (ps_ret (pe_op op_add_str (pv 3) (pe_ix (ixL K) (pe_lst (pa_cons pe_str (pa_cons pe_str (pa_cons pe_str (pa_cons pe_str (pa_cons pe_str pa_nil)))))) (pe_cal C_law_take (hr.mono (by first | decide | omega)) (pa_cons (pv 0) (pa_cons pe_int pa_nil))) (fun _ _ => rfl))))) pss_nil)
    (pss_cons (ps_if (pt_cmpR op_eq (pv 1) pe_int (nomark _)) (pss_cons (ps_set (i := 4) scLawKey.nd rfl (by first | exact Or.inl rfl | exact Or.inr rfl) pe_str)
        (pss_one (ps_ret (pe_join pe_str (pe_lc (own := [("k", 5)]) (g := gName 5) (tt := tYes) rfl scLawKey.nd (pi_range1 rfl T.n_range (pa_cons (pe_op op_add pe_int (pe_cal C_law_take (hr.mono (by first | decide | omega)) (pa_cons (pv 0) (pa_cons pe_int pa_nil)))) pa_nil)) (blkOk_by (own := [("k", 5)]) (N := ["bag", "pick", "some", "number", "signs", "k"]) (sc := defScope sLawKey) (by decide +kernel)) (fun _ _ _ _ _ => (pg_name (i := 5) scLawKey.nd rfl (by first | exact Or.inl rfl | exact Or.inr rfl))) (fun _ _ _ _ _ => pts_nil) (fun _ _ _ _ _ => (pe_ix ix_str (pv 4) (pe_cal C_law_take (hr.mono (by first | decide | omega)) (pa_cons (pv 0) (pa_cons (pe_callB lenT rfl T.n_len (by decide +kernel) (pa_cons (pv 4) pa_nil)) pa_nil))) (fun _ _ => rfl)))))))) pss_nil)
    (pss_cons (ps_if (pt_cmpR op_eq (pv 1) pe_int (nomark _)) (pss_one (ps_ret (pe_join pe_str (pe_lc (own := [("k", 5)]) (g := gName 5) (tt := tYes) rfl scLawKey.nd (pi_range1 rfl T.n_range (pa_cons (pe_op op_add pe_int (pe_cal C_law_take (hr.mono (by first | decide | omega)) (pa_cons (pv 0) (pa_cons pe_int pa_nil)))) pa_nil)) (blkOk_by (own := [("k", 5)]) (N := ["bag", "pick", "some", "number", "signs", "k"]) (sc := defScope sLawKey) (by decide +kernel)) (fun _ _ _ _ _ => (pg_name (i := 5) scLawKey.nd rfl (by first | exact Or.inl rfl | exact Or.inr rfl))) (fun _ _ _ _ _ => pts_nil) (fun _ _ _ _ _ => (pe_ix ix_str pe_str (pe_cal C_law_take (hr.mono (by first | decide | omega)) (pa_cons (pv 0) (pa_cons pe_int pa_nil))) (fun _ _ => rfl))))))) pss_nil)
    (pss_one (ps_ret (pe_op op_strRep (pe_ix ix_str pe_str (pe_cal C_law_take (hr.mono (by first | decide | omega)) (pa_cons (pv 0) (pa_cons pe_int pa_nil))) (fun _ _ => rfl)) (pe_op op_add pe_int (pe_cal C_law_take (hr.mono (by first | decide | omega)) (pa_cons (pv 0) (pa_cons pe_int pa_nil))))))))))))))), ?_⟩
  unfold LIM at hm
  refine run_set (draw_here (i := 0) rfl B (by unfold LIM; omega) (by decide) (by decide) fun pick H1 p0 p1 G1 => ?_)
  have B1 := G1.bag _ B
  refine run_set ?_
  refine draw_here (i := 0) rfl B1 (by unfold LIM; omega) (by decide) (by decide) fun r1 H2 r10 r11 G2 => ?_
  have B2 := G2.bag _ B1
  refine ⟨r1, 9, rfl, rfl, _, rfl, 10, 18, rfl, rfl, ⟨by decide, by decide, by decide⟩, b, _, _, rfl, B2, by unfold LIM; omega, by decide, by decide, fun r2 H3 r20 r21 G3 => ?_⟩
  have r21' : r2 < 10 ^ 18 := r21
  have B3 := G3.bag _ B2
  refine ⟨_, rfl, 10, 18, rfl, rfl, ⟨by decide, by decide, by decide⟩, b, _, _, rfl, B3, by unfold LIM; omega, by decide, by decide, fun r3 H4 r30 r31 G4 => ?_⟩
  have r31' : r3 < 10 ^ 18 := r31
  have B4 := G4.bag _ B3
  refine ⟨0, r3, rfl, rfl, _, rfl, 10, 39, rfl, rfl, ⟨by decide, by decide, by decide⟩, b, _, _, rfl, B4, by unfold LIM; omega, by decide, by decide, fun r4 H5 r40 r41 G5 => ?_⟩
  have r41' : r4 < 10 ^ 39 := r41
  have B5 := G5.bag _ B4
  refine ⟨(by show 4 ≤ sizeLine; decide), fun L hL => ?_⟩
  have nL := B5.ne hL
  have G6 : Go b 0 H5 (upd H5 L (.lst [.int (r1 - 9), .int r2, .int (0 - r3), .int r4])) := Go.new hL
  have hL6 : (upd H5 L (.lst [.int (r1 - 9), .int r2, .int (0 - r3), .int r4])) L = some (.lst [.int (r1 - 9), .int r2, .int (0 - r3), .int r4]) := upd_same
  change tSeq _ _ _ _ (upd H5 L (.lst [.int (r1 - 9), .int r2, .int (0 - r3), .int r4]))
  generalize upd H5 L (.lst [.int (r1 - 9), .int r2, .int (0 - r3), .int r4]) = H6 at *
  have B6 := G6.bag _ B5
  refine run_set ?_
  refine list_drawn (i := 0) (j := 2) (n := 4) (A := fun v => ∃ k : Int, v = .int k ∧ k.natAbs < 10 ^ 39 ∧ (k < 0 → k.natAbs < 10 ^ 18)) rfl rfl hL6 nL B6 (by unfold LIM; omega) rfl (by decide) (fun v hv => ?_) fun v H7 hv G7 => ?_
  · rcases List.mem_cons.mp hv with rfl | hv
    · exact ⟨_, rfl, by omega, by omega⟩
    rcases List.mem_cons.mp hv with rfl | hv
    · exact ⟨_, rfl, by omega, by omega⟩
    rcases List.mem_cons.mp hv with rfl | hv
    · exact ⟨_, rfl, by omega, by omega⟩
    rcases List.mem_cons.mp hv with rfl | hv
    · exact ⟨_, rfl, by omega, by omega⟩
    · cases hv
  obtain ⟨k, rfl, hk, hk2⟩ := hv
  have B7 := G7.bag _ B6
  have G07 : Go b 6 H H7 := ((((((G1.trans G2).trans G3).trans G4).trans G5).trans G6).trans G7).mono (by omega)
  have Wn : WT (Str.ofString (toString k)) 39 := by
    by_cases c : k < 0
    · exact (WT.int (by decide) (hk2 c)).mono (by decide)
    · exact WT.nat (by decide) (by omega) (by omega)
  have pn := int_pos k
  dsimp only
  refine ⟨k, rfl, log_ok (Nat.lt_trans hk (by decide)), ?_⟩
  generalize Str.ofString (toString k) = num at *
  refine run_if ⟨_, rfl, pick, 2, rfl, rfl, _, rfl, ?_⟩
  refine ite2 (fun c => ?_) (fun c => ?_)
  · exact run_ret ⟨_, rfl, q _ _ ⟨Wn.mono (by decide), pn⟩ (G07.mono (by omega))⟩
  refine run_next ?_
  dsimp only
  refine run_if ⟨_, rfl, rfl, _, rfl, ?_⟩
  refine ite2 (fun c2 => ?_) (fun c2 => ?_)
  · refine run_ret ?_
    refine menuC (xs := [.str "0", .str "+", .str "-", .str " "]) (A := fun v => ∃ z, v = .str z ∧ WT z 1) (i := 0) (fun R h => h) (allWT_ok (by decide +kernel)) (by rfl) B7 (by unfold LIM; omega) (by decide) (by decide) fun v H8 hv G8 => ?_
    obtain ⟨z, rfl, Wz⟩ := hv
    have W0 := Wz.appB Wn
    refine ⟨_, rfl, _, _, rfl, rfl, ?_, q _ _ ⟨W0.mono (by decide), ?_⟩ ((G07.trans G8).mono (by omega))⟩
    · rw [len_tl, len_tl]
      exact Nat.le_trans (Nat.add_le_add Wz.len Wn.len) (by decide)
    · rw [tl_append, List.length_append]
      omega
  refine run_next ?_
  dsimp only
  refine run_if ⟨_, rfl, rfl, _, rfl, ?_⟩
  refine ite2 (fun c3 => ?_) (fun c3 => ?_)
  · refine run_ret ?_
    refine ⟨_, rfl, ?_⟩
    refine menuC (xs := [.str " ", .str "a", .str ".", .str "-", .str "0"]) (A := fun v => ∃ z, v = .str z ∧ WT z 1) (i := 0) (fun R h => h) (allWT_ok (by decide +kernel)) (by rfl) B7 (by unfold LIM; omega) (by decide) (by decide) fun v H8 hv G8 => ?_
    obtain ⟨z, rfl, Wz⟩ := hv
    have W0 := Wn.appB Wz
    refine ⟨_, _, rfl, rfl, ?_, q _ _ ⟨W0.mono (by decide), ?_⟩ ((G07.trans G8).mono (by omega))⟩
    · rw [len_tl, len_tl]
      exact Nat.le_trans (Nat.add_le_add Wn.len Wz.len) (by decide)
    · rw [tl_append, List.length_append]
      omega
  refine run_next ?_
  dsimp only
  refine run_if ⟨_, rfl, rfl, _, rfl, ?_⟩
  refine ite2 (fun c4 => ?_) (fun c4 => ?_)
  · refine run_set ?_
    refine run_ret ?_
    refine ⟨⟨_, rfl⟩, lc_drawn (i := 5) (N := 3) (c0 := 1) (c := 1) (A0 := fun j => 1 ≤ j) (fun v => ∃ z, v = .str z ∧ WT z 1 ∧ (tl z).length = 1) (fun R h => draw_here (i := 0) (by rfl) B7 (by unfold LIM; omega) (by decide) (by decide) fun r H3 r0 r1 G3 => ⟨1, r, rfl, rfl, h _ _ (by omega) (by omega) (by omega) G3⟩) B7 (by decide) (fun j H4 hj B4 G4 R hR => ?_) fun k D ys H4 k1 k0 _ hl hA G4 hy _ => ?_⟩
    · exact sign_drawn (z := SIGNSB) (i := 0) (j := 4) (by rfl) (by rfl) B4 (by unfold LIM; omega) (Nat.le_trans SIGNSB_wt.len (by decide)) (by decide +kernel) fun c H' hc G' => hR _ _ ⟨_, rfl, WT.one (SIGNSB_wt.sg c hc), rfl⟩ G'
    · obtain ⟨zs, rfl, hz, hW⟩ := texts_of ys hA
      have hl' : zs.length = k.toNat := by rw [hz]; exact hl
      refine ⟨_, D, zs, rfl, rfl, .inl (SqL.of hy), glue_ok (k := 1) (n := zs.length) (fun y hy => (hW y hy).1.len) rfl (by omega), ?_⟩
      refine q _ _ ⟨(WT.glue fun y hy => (hW y hy).1).mono (by omega), ?_⟩ ((G07.trans G4).mono (by omega))
      exact glue_pos (by omega) fun y hy => (hW y hy).2
  refine run_next ?_
  dsimp only
  refine run_if ⟨_, rfl, rfl, _, rfl, ?_⟩
  refine ite2 (fun c5 => ?_) (fun c5 => ?_)
  · refine run_ret ?_
    have W3 : WT ("ab," : Str) 3 := WT.dec (by decide +kernel)
    refine ⟨⟨_, rfl⟩, lc_drawn (i := 5) (N := 4) (c0 := 1) (c := 1) (A0 := fun j => 1 ≤ j) (fun v => ∃ z, v = .str z ∧ WT z 1 ∧ (tl z).length = 1) (fun R h => draw_here (i := 0) (by rfl) B7 (by unfold LIM; omega) (by decide) (by decide) fun r H3 r0 r1 G3 => ⟨1, r, rfl, rfl, h _ _ (by omega) (by omega) (by omega) G3⟩) B7 (by decide) (fun j H4 hj B4 G4 R hR => ?_) fun k D ys H4 k1 k0 _ hl hA G4 hy _ => ?_⟩
    · exact lit_drawn (z := "ab,") (n := 3) (i := 0) (by rfl) B4 (by unfold LIM; omega) (by decide +kernel) (by decide) fun c H' hc G' => hR _ _ ⟨_, rfl, WT.one (W3.sg c hc), rfl⟩ G'
    · obtain ⟨zs, rfl, hz, hW⟩ := texts_of ys hA
      have hl' : zs.length = k.toNat := by rw [hz]; exact hl
      refine ⟨_, D, zs, rfl, rfl, .inl (SqL.of hy), glue_ok (k := 1) (n := zs.length) (fun y hy => (hW y hy).1.len) rfl (by omega), ?_⟩
      refine q _ _ ⟨(WT.glue fun y hy => (hW y hy).1).mono (by omega), ?_⟩ ((G07.trans G4).mono (by omega))
      exact glue_pos (by omega) fun y hy => (hW y hy).2
  refine run_next ?_
  dsimp only
  refine run_ret ?_
  have W5 : WT ("az09 " : Str) 5 := WT.dec (by decide +kernel)
  refine lit_drawn (z := "az09 ") (n := 5) (i := 0) (by rfl) B7 (by unfold LIM; omega) (by decide +kernel) (by decide) fun c H8 hc G8 => ?_
  have B8 := G8.bag _ B7
  refine draw_here (i := 0) (by rfl) B8 (by unfold LIM; omega) (by decide) (by decide) fun r H9 r0 r1 G9 => ?_
  obtain ⟨n, hn⟩ : ∃ n : Nat, 1 + r = (n : Int) := ⟨(1 + r).toNat, by omega⟩
  have M := mul_one (n := n) (W5.sg c hc)
  refine ⟨1, r, rfl, rfl, _, _, rfl, rfl, mul_ok (by omega) (by omega) ?_, ?_⟩
  · exact (show 1 ≤ 1000 by decide)
  · rw [hn]
    exact q _ _ ⟨M.1.mono (by omega), by rw [M.2]; omega⟩ (((G07.trans G8).trans G9).mono (by omega))
theorem ok_law_worth (T : Txt K mg cs) (C_law_take : Cal P w K mg base 1 "_law_take" ["bag", "many"] spDraw) : Cal P w K mg base 2 "_law_worth" ["bag"] spWorthB := by
  refine T.f_law_worth.cal scLawWorth (fun vs H Q E h => ?_) (fun f cdv A outer s H vs Q E hr h => ?_)
  · obtain ⟨b, m, rfl, _⟩ := h
    rfl
  obtain ⟨b, m, rfl, B, hm, q⟩ := h
  refine ⟨_, (pss_cons (ps_set (i := 1) scLawWorth.nd rfl (by first | exact Or.inl rfl | exact Or.inr rfl) (pe_cal C_law_take (hr.mono (by first | decide | omega)) (pa_cons (pv 0) (pa_cons pe_int pa_nil))))
    (pss_cons (ps_if (pt_cmpR op_eq (pv 1) pe_int (nomark _)) (pss_one (ps_ret (pe_op op_strRep (pe_ix ix_str pe_str (pe_cal C_law_take (hr.mono (by first | decide | omega)) (pa_cons (pv 0) (pa_cons pe_int pa_nil))) (fun _ _ => rfl)) (pe_cal C_law_take (hr.mono (by first | decide | omega)) (pa_cons (pv 0) (pa_cons pe_int pa_nil)))))) pss_nil)
    (pss_one (ps_ret (pe_ix (ixL K) (pe_lst (pa_cons pe_str (pa_cons pe_str (pa_cons (pe_callTy call_str_int rfl T.n_str (by decide +kernel) (pa_cons (pe_cal C_law_take (hr.mono (by first | decide | omega)) (pa_cons (pv 0) (pa_cons (pe_op op_powW pe_int pe_int) pa_nil))) pa_nil)) (pa_cons pe_str (pa_cons pe_str pa_nil)))))) (pv 1) (fun _ _ => rfl)))))), ?_⟩
  unfold LIM at hm
  refine run_set (draw_here (i := 0) rfl B (by unfold LIM; omega) (by decide) (by decide) fun pick H1 p0 p1 G1 => ?_)
  have B1 := G1.bag _ B
  refine run_if ⟨_, rfl, rfl, _, rfl, ?_⟩
  refine ite2 (fun c => ?_) (fun c => ?_)
  · refine run_ret ?_
    have W5 : WT ("abc xyz~" : Str) 8 := WT.dec (by decide +kernel)
    refine lit_drawn (z := "abc xyz~") (n := 8) (i := 0) (by rfl) B1 (by unfold LIM; omega) (by decide +kernel) (by decide) fun c H8 hc G8 => ?_
    have B8 := G8.bag _ B1
    refine draw_here (i := 0) (by rfl) B8 (by unfold LIM; omega) (by decide) (by decide) fun r H9 r0 r1 G9 => ?_
    obtain ⟨n, rfl⟩ : ∃ n : Nat, r = (n : Int) := ⟨r.toNat, by omega⟩
    have M := mul_one (n := n) (W5.sg c hc)
    refine ⟨_, _, rfl, rfl, mul_ok (by omega) (by omega) ?_, q _ _ (M.1.mono (by omega)) (((G1.trans G8).trans G9).mono (by omega))⟩
    exact (show 1 ≤ 1000 by decide)
  refine run_next ?_
  dsimp only
  refine run_ret ?_
  refine run_op ?_
  refine ⟨_, rfl, 10, 20, rfl, rfl, ⟨by decide, by decide, by decide⟩, b, _, _, rfl, B1, by unfold LIM; omega, by decide, by decide, fun r H2 r0 r1 G2 => ?_⟩
  have r1' : r < 10 ^ 20 := r1
  have B2 := G2.bag _ B1
  have hr : r.natAbs < 10 ^ 20 := by omega
  have Wn := WT.int (by decide) hr
  refine ⟨r, rfl, log_ok (Nat.lt_trans hr (by decide)), (by show 5 ≤ sizeLine; decide), fun L hL => ?_⟩
  have nL := B2.ne hL
  refine ⟨_, rfl, L, [.str "", .str "0", .str (Str.ofString (toString r)), .str "a b", .str "\""], pick, ?_⟩
  have hi : ∃ z, atI [V.str "", .str "0", .str (Str.ofString (toString r)), .str "a b", .str "\""] pick = some (.str z) ∧ WT z 400 := by
    obtain ⟨j, rfl⟩ : ∃ j : Nat, pick = (j : Int) := ⟨pick.toNat, by omega⟩
    have hj : j < 5 := by
      have : ¬ ((j : Int) = 5) := fun e => c (by rw [e]; rfl)
      omega
    match j, hj with
    | 0, _ => exact ⟨_, atI_nat rfl, WT.dec (by decide +kernel)⟩
    | 1, _ => exact ⟨_, atI_nat rfl, WT.dec (by decide +kernel)⟩
    | 2, _ => exact ⟨_, atI_nat rfl, Wn.mono (by decide)⟩
    | 3, _ => exact ⟨_, atI_nat rfl, WT.dec (by decide +kernel)⟩
    | 4, _ => exact ⟨_, atI_nat rfl, WT.dec (by decide +kernel)⟩
  obtain ⟨z, hz, W⟩ := hi
  exact ⟨_, rfl, rfl, SqL.of upd_same, hz, q _ _ W (((G1.trans G2).trans (Go.new hL)).mono (by omega))⟩
end
/-! ### xs.pop(i) -/
theorem erase_map {α β : Type} (f : α → β) : ∀ (l : List α) (j : Nat), (l.map f).eraseIdx j = (l.eraseIdx j).map f
  | [], j => by simp
  | a :: r, 0 => by simp
  | a :: r, j + 1 => by
    have ih := erase_map f r j
    simp [ih]
theorem pick_perm {α : Type} : ∀ (l : List α) (k : Nat) (h : k < l.length), ([l[k]] ++ l.eraseIdx k).Perm l
  | a :: r, 0, _ => .refl _
  | a :: r, k + 1, h => by
    have ih := pick_perm r k (by simpa using h)
    exact (List.Perm.swap a (r[k]'(by simpa using h)) (r.eraseIdx k)).trans (.cons a ih)
section
variable {X : Cx}
theorem popAt : MtR X "list.pop" rPopAt := mt_popAt
end
/-! ### the second family's pool of names and keys; its references -/
theorem run_put {td ty tv : TE} {u : TS} {D : Ends} {σ : L2.St} {H : Hp} (h : tv σ H fun v H1 => td σ H1 fun x H2 => ty σ H2 fun y H3 => ∃ a H4, x = .ref a ∧ DPut H3 a y v H4 ∧ u D σ H4) : tSeq (sDPut td ty tv) u D σ H := h
structure PoolAt (H : Hp) (p : Addr) (ns ks : List Str) : Prop where
  ex : ∃ n k, H p = some (.dK [(.inr "names", .ref n), (.inr "keys", .ref k)]) ∧ H n = some (.lst (ns.map V.str)) ∧ H k = some (.lst (ks.map V.str))
def NAMESB : List Str := ["a", "ab", "b", "abcdefgh", "z"]
structure POOL (ns ks : List Str) : Prop where
  n1 : 1 ≤ ns.length
  n2 : ns.length ≤ 10
  k1 : 1 ≤ ks.length
  k2 : ks.length ≤ 40
  nm : ∀ z ∈ ns, NM z
  ky : ∀ z ∈ ks, KEY z
  nb : ∀ z ∈ ns, z ∈ NAMESB
/-- a pool's own addresses -/
def PoolOwn (H : Hp) (p : Addr) (a : Addr) : Prop := a = p ∨ ∃ n k, H p = some (.dK [(.inr "names", .ref n), (.inr "keys", .ref k)]) ∧ (a = n ∨ a = k)
theorem PoolAt.keep {H H' : Hp} {p : Addr} {ns ks : List Str} (A : PoolAt H p ns ks) (k : ∀ a o, PoolOwn H p a → H a = some o → notTbl o = true → H' a = some o) : PoolAt H' p ns ks := by
  obtain ⟨n, q, h1, h2, h3⟩ := A.ex
  exact ⟨n, q, k _ _ (.inl rfl) h1 rfl, k _ _ (.inr ⟨n, q, h1, .inl rfl⟩) h2 rfl, k _ _ (.inr ⟨n, q, h1, .inr rfl⟩) h3 rfl⟩
theorem PoolAt.sm {H H' : Hp} {p : Addr} {ns ks : List Str} (A : PoolAt H p ns ks) (S : Sm H H') : PoolAt H' p ns ks := A.keep fun a o _ h n => S.keep a o h n
theorem PoolAt.own {H H' : Hp} {p : Addr} {ns ks : List Str} (A : PoolAt H p ns ks) (B : PoolAt H' p ns ks) (k : ∀ o, H p = some o → notTbl o = true → H' p = some o) {a : Addr} (h : PoolOwn H' p a) : PoolOwn H p a := by
  rcases h with rfl | ⟨n, q, h1, h2⟩
  · exact .inl rfl
  · obtain ⟨n', q', e, _⟩ := A.ex
    have := k _ e rfl
    rw [h1] at this
    injection this with this
    injection this with this
    cases this
    exact .inr ⟨n, q, e, h2⟩
theorem PoolAt.go {H H' : Hp} {p b : Addr} {m : Nat} {ns ks : List Str} (A : PoolAt H p ns ks) (G : Go b m H H') (nb : ¬ PoolOwn H p b) : PoolAt H' p ns ks := A.keep fun a o h e n => G.keep0 a o (fun z => nb (z ▸ h)) e n
def spPool : Sp := fun vs H Q _ => ∃ (b : Addr) (m : Nat), vs = [.ref b] ∧ Bag H b m ∧ m + 1000 ≤ LIM ∧ ∀ (p : Addr) (ns ks : List Str) (H' : Hp), POOL ns ks → ks.length ≤ 7 → PoolAt H' p ns ks → (∀ a, PoolOwn H' p a → H a = none ∧ a ≠ b) → Go b 300 H H' → Q (.ref p) H'
def spRefB : Sp := fun vs H Q _ => ∃ (b p : Addr) (m most : Nat) (ns ks : List Str), vs = [.ref b, .ref p, .int (most : Int)] ∧ Bag H b m ∧ m + 100 ≤ LIM ∧ PoolAt H p ns ks ∧ ¬ PoolOwn H p b ∧ POOL ns ks ∧ most ≤ 6 ∧
  ∀ (q : Addr) (nm : Str) (qs : List Str) (H' : Hp), nm ∈ ns → (∀ z ∈ qs, z ∈ ks) → qs.length ≤ most → REF nm qs → RefT H' q nm qs → H q = none → Go b 10 H H' → Q (.ref q) H'
section
variable {P : Program} {w : World} {K : PySem.W.Frag} {mg : Str → Option Value} {base : Heap} {cs : Tabs}
theorem NM.dec {z : Str} (h : (decide ((tl z).length ≤ 8) && (decide (1 ≤ (tl z).length) && (tl z).all AZ)) = true) : NM z := by
  rw [Bool.and_eq_true, Bool.and_eq_true] at h
  exact ⟨of_decide_eq_true h.1, of_decide_eq_true h.2.1, List.all_eq_true.mp h.2.2⟩
theorem NAMESB_nm : ∀ z ∈ NAMESB, NM z := by
  intro z hz
  rcases List.mem_cons.mp hz with rfl | hz
  · exact NM.dec (by decide +kernel)
  rcases List.mem_cons.mp hz with rfl | hz
  · exact NM.dec (by decide +kernel)
  rcases List.mem_cons.mp hz with rfl | hz
  · exact NM.dec (by decide +kernel)
  rcases List.mem_cons.mp hz with rfl | hz
  · exact NM.dec (by decide +kernel)
  rcases List.mem_cons.mp hz with rfl | hz
  · exact NM.dec (by decide +kernel)
  · cases hz
theorem ok_law_pool (T : Txt K mg cs) (C_law_take : Cal P w K mg base 1 "_law_take" ["bag", "many"] spDraw) (C_law_key : Cal P w K mg base 2 "_law_key" ["bag"] spKeyB) : Cal P w K mg base 3 "_law_pool" ["bag"] spPool := by
  refine T.f_law_pool.cal scLawPool (fun vs H Q E h => ?_) (fun f cdv A outer s H vs Q E hr h => ?_)
  · obtain ⟨b, m, rfl, _⟩ := h
    rfl
  obtain ⟨b, m, rfl, B, hm, q⟩ := h
  refine ⟨_, (pss_cons (ps_set (i := 1) scLawPool.nd rfl (by first | exact Or.inl rfl | exact Or.inr rfl) (pe_lst (pa_cons pe_str (pa_cons pe_str (pa_cons pe_str (pa_cons pe_str (pa_cons pe_str pa_nil)))))))
    (pss_cons (ps_set (i := 2) scLawPool.nd rfl (by first | exact Or.inl rfl | exact Or.inr rfl) (pe_disp (pps_cons pe_str (pe_lc (own := [("k", 3)]) (g := gName 3) (tt := tYes) rfl scLawPool.nd (pi_range1 rfl T.n_range (pa_cons (pe_op op_add pe_int (pe_cal C_law_take (hr.mono (by first | decide | omega)) (pa_cons (pv 0) (pa_cons pe_int pa_nil)))) pa_nil)) (blkOk_by (own := [("k", 3)]) (N := ["bag", "names", "pool", "k"]) (sc := defScope sLawPool) (by decide +kernel)) (fun _ _ _ _ _ => (pg_name (i := 3) scLawPool.nd rfl (by first | exact Or.inl rfl | exact Or.inr rfl))) (fun _ _ _ _ _ => pts_nil) (fun _ _ _ _ _ => (pe_bmK (K := K) PySem.F.plainAttrs_list PySem.F.slot_list_pop PySem.F.type_list_pop popAt (pv 1) (pa_cons (pe_cal C_law_take (hr.mono (by first | decide | omega)) (pa_cons (pv 0) (pa_cons (pe_callB (lenQ K) rfl T.n_len (by decide +kernel) (pa_cons (pv 1) pa_nil)) pa_nil))) pa_nil)))) pps_nil) rfl rfl (by decide) (by decide)))
    (pss_cons (ps_dput (Nat.lt_trans (Nat.add_lt_add_left (show 1 < 64 by decide) _) hr.units) (pv 2) pe_str (pe_lc (own := [("k", 3)]) (g := gName 3) (tt := tYes) rfl scLawPool.nd (pi_range1 rfl T.n_range (pa_cons (pe_op op_add pe_int (pe_cal C_law_take (hr.mono (by first | decide | omega)) (pa_cons (pv 0) (pa_cons pe_int pa_nil)))) pa_nil)) (blkOk_by (own := [("k", 3)]) (N := ["bag", "names", "pool", "k"]) (sc := defScope sLawPool) (by decide +kernel)) (fun _ _ _ _ _ => (pg_name (i := 3) scLawPool.nd rfl (by first | exact Or.inl rfl | exact Or.inr rfl))) (fun _ _ _ _ _ => pts_nil) (fun _ _ _ _ _ => (pe_cal C_law_key (hr.mono (by first | decide | omega)) (pa_cons (pv 0) pa_nil)))) rfl)
    (pss_one (ps_ret (pv 2)))))), ?_⟩
  unfold LIM at hm
  refine run_set ⟨(by show 5 ≤ sizeLine; decide), fun N hN => ?_⟩
  have nN := B.ne hN
  have G0 : Go b 0 H (upd H N (.lst (NAMESB.map V.str))) := Go.new hN
  have hN0 : (upd H N (.lst (NAMESB.map V.str))) N = some (.lst (NAMESB.map V.str)) := upd_same
  have gone0 : ∀ {y : Addr}, (upd H N (.lst (NAMESB.map V.str))) y = none → H y = none := fun h => G0.gone _ h
  change tSeq _ _ _ _ (upd H N (.lst (NAMESB.map V.str)))
  generalize upd H N (.lst (NAMESB.map V.str)) = H0 at *
  have B0 := G0.bag _ B
  refine run_set ?_
  intro p hp
  have np := B0.ne hp
  have pN : N ≠ p := ne_of_none hN0 hp
  have G1 : Go b 0 H (upd H0 p (.dK [])) := (G0.trans (Go.new hp)).mono (by omega)
  have hp1 : (upd H0 p (.dK [])) p = some (.dK []) := upd_same
  have hN1 : (upd H0 p (.dK [])) N = some (.lst (NAMESB.map V.str)) := by
    rw [upd_ne pN]
    exact hN0
  have hpH : H p = none := gone0 hp
  generalize upd H0 p (.dK []) = H1 at *
  have B1 := G1.bag _ B
  refine draw_here (i := 0) (by rfl) B1 (by unfold LIM; omega) (by decide) (by decide) fun r H2 r0 r1 G2 => ?_
  have G02 := G1.trans G2
  have B2 := G2.bag _ B1
  have hp2 := G2.keep p _ np hp1
  have hN2 := G2.keep N _ nN hN1
  obtain ⟨k, hk⟩ : ∃ k : Nat, 1 + r = (k : Int) := ⟨(1 + r).toNat, by omega⟩
  refine ⟨1, r, rfl, rfl, (k : Int), by show [V.int (1 + r)] = _; rw [hk], by omega, by omega, fun D hD => ?_⟩
  have nD := B2.ne hD
  have DN' : N ≠ D := ne_of_none hN2 hD
  have Dp : p ≠ D := ne_of_none hp2 hD
  have hD0 : H D = none := G02.gone _ hD
  refine lc_range (lo := 0) (n := k) (fun j H' => ∃ got left : List Str, got.length = j ∧ left.length = 5 - j ∧ (∀ z ∈ got, z ∈ NAMESB) ∧ (∀ z ∈ left, z ∈ NAMESB) ∧ Go b (1 + j) H H' ∧ H' p = some (.dK []) ∧ H' D = some (.lst (got.map V.str)) ∧ H' N = some (.lst (left.map V.str)))
    ⟨[], NAMESB, rfl, rfl, fun _ h => (nomatch h), fun _ h => h, (G02.trans (Go.new hD)).mono (by omega), by rw [upd_ne Dp]; exact hp2, upd_same, by rw [upd_ne DN']; exact hN2⟩ (fun j H3 hj hi => ?_) fun H3 hi => ?_
  · obtain ⟨got, left, e1, e2, a1, a2, G, gp, gD, gN⟩ := hi
    refine ⟨rfl, ?_⟩
    have B3 := G.bag _ B
    refine ⟨_, rfl, .inl ⟨rfl, _, .inl (.inl gN)⟩, _, (by rfl), _, (by rfl), N, _, rfl, .inl (SqL.of gN), b, _, _, rfl, B3, by unfold LIM; omega, by rw [List.length_map]; omega, by rw [List.length_map]; omega, fun r H4 r0 r1 G4 => ?_⟩
    obtain ⟨i, rfl⟩ : ∃ i : Nat, r = (i : Int) := ⟨r.toNat, by omega⟩
    rw [List.length_map] at r1
    have hi : i < left.length := by omega
    have g4N := G4.keep N _ nN gN
    have g4D := G4.keep D _ nD gD
    have g4p := G4.keep p _ np gp
    refine ⟨N, left.map V.str, (i : Int), i, .str left[i], rfl, rfl, g4N, by omega, by omega, seqIndex_of (by omega) (by rw [List.length_map]; omega), by rw [List.getElem?_map, List.getElem?_eq_getElem hi]; rfl, ?_⟩
    refine ⟨got.map V.str, by rw [upd_ne (Ne.symm DN')]; exact g4D, small' (by rw [List.length_map]; omega), got ++ [left[i]], left.eraseIdx i, by rw [List.length_append, e1]; rfl, ?_, fun z hz => ?_, fun z hz => a2 z (List.mem_of_mem_eraseIdx hz), ?_, ?_, ?_, ?_⟩
    · rw [List.length_eraseIdx_of_lt hi, e2]
      omega
    · rcases List.mem_append.mp hz with hz | hz
      · exact a1 z hz
      · rw [List.mem_singleton.mp hz]
        exact a2 _ (List.getElem_mem hi)
    · exact Go.own (Go.own ((G.trans G4).mono (by omega)) B hN (no_tbl g4N)) B hD0 fun qs z => by
        rw [upd_ne (Ne.symm DN'), g4D] at z
        cases z
        rfl
    · rw [upd_ne Dp, upd_ne (Ne.symm pN)]
      exact g4p
    · rw [List.map_append]
      exact upd_same
    · rw [upd_ne DN', erase_map]
      exact upd_same
  obtain ⟨ns, left, e1, _, a1, _, G3, gp, gD, _⟩ := hi
  have B3 := G3.bag _ B
  refine ⟨gp, [(.inr "names", .ref D)], rfl, (show 1 ≤ 15 by decide), ?_⟩
  have G4 : Go b (1 + k) H (upd H3 p (.dK (mergeK [] [(.inr "names", V.ref D)]))) := Go.own G3 B hpH fun qs z => by
    rw [gp] at z
    cases z
    rfl
  have gp4 : (upd H3 p (.dK (mergeK [] [(.inr "names", V.ref D)]))) p = some (.dK [(.inr "names", .ref D)]) := upd_same
  have gD4 : (upd H3 p (.dK (mergeK [] [(.inr "names", V.ref D)]))) D = some (.lst (ns.map V.str)) := by
    rw [upd_ne (Ne.symm Dp)]
    exact gD
  generalize upd H3 p (.dK (mergeK [] [(.inr "names", V.ref D)])) = H4 at *
  have B4 := G4.bag _ B
  refine run_put ?_
  refine lc_drawn (i := 3) (N := 7) (c0 := 1) (c := 20) (A0 := fun j => 2 ≤ j) (fun v => ∃ z, v = .str z ∧ KEY z) (fun R h => draw_here (i := 0) (by rfl) B4 (by unfold LIM; omega) (by decide) (by decide) fun r H5 r0 r1 G5 => ⟨2, r, rfl, rfl, h _ _ (by omega) (by omega) (by omega) G5⟩) B4 (by decide) (fun j H5 hj B5 G5 R hR => ?_) fun k5 D5 ys H5 k50 _ k51 hl hA G5 hy hD5 => ?_
  · exact ⟨_, (by rfl), b, _, rfl, B5, by unfold LIM; omega, fun z H' hz G' => hR _ _ ⟨z, rfl, hz⟩ G'⟩
  obtain ⟨ks, rfl, hz, hW⟩ := texts_of ys hA
  have hl' : ks.length = k5.toNat := by rw [hz]; exact hl
  have gp5 := G5.keep p _ np gp4
  have gD5 := G5.keep D _ nD gD4
  have pD5 : p ≠ D5 := ne_of_none gp4 hD5
  have DD5 : D ≠ D5 := ne_of_none gD4 hD5
  have n5 : D5 ≠ b := B4.ne hD5
  refine ⟨_, (by rfl), p, _, rfl, .inl ⟨_, .inr "keys", gp5, rfl, small' (show 1 < 100000 by decide), rfl⟩, ?_⟩
  have G6 : Go b (1 + k + (1 + 20 * k5.toNat)) H (upd H5 p (.dK (putK [(.inr "names", V.ref D)] (.inr "keys") (.ref D5)))) := Go.own (G4.trans G5) B hpH fun qs z => by
    rw [gp5] at z
    cases z
    rfl
  have ek : putK [((Sum.inr "names" : Key), V.ref D)] (.inr "keys") (.ref D5) = [(.inr "names", .ref D), (.inr "keys", .ref D5)] := by
    have ne : decide ((Sum.inr "names" : Key) = .inr "keys") = false := by decide +kernel
    unfold putK
    rw [if_neg (by rw [List.any_cons, List.any_nil, ne]; exact Bool.false_ne_true)]
    rfl
  rw [ek] at G6 ⊢
  have A6 : PoolAt (upd H5 p (.dK [((Sum.inr "names" : Key), V.ref D), (.inr "keys", .ref D5)])) p ns ks := ⟨D, D5, upd_same, by rw [upd_ne (Ne.symm Dp)]; exact gD5, by rw [upd_ne (Ne.symm pD5)]; exact hy⟩
  have at6 : (upd H5 p (.dK [((Sum.inr "names" : Key), V.ref D), (.inr "keys", .ref D5)])) p = some (.dK [((Sum.inr "names" : Key), V.ref D), (.inr "keys", .ref D5)]) := upd_same
  generalize upd H5 p (.dK [((Sum.inr "names" : Key), V.ref D), (.inr "keys", .ref D5)]) = H6 at *
  refine run_ret ⟨_, rfl, q p ns ks H6 ⟨by omega, by omega, by omega, by omega, fun z h => NAMESB_nm z (a1 z h), hW, a1⟩ (by omega) A6 (fun a ha => ?_) (G6.mono (by omega))⟩
  rcases ha with rfl | ⟨n, k', h1, h2⟩
  · exact ⟨hpH, np⟩
  · rw [at6] at h1
    injection h1 with h1
    injection h1 with h1
    cases h1
    rcases h2 with rfl | rfl
    · exact ⟨hD0, nD⟩
    · exact ⟨G4.gone _ hD5, n5⟩
theorem ok_law_ref (T : Txt K mg cs) (C_law_take : Cal P w K mg base 1 "_law_take" ["bag", "many"] spDraw) : Cal P w K mg base 2 "_law_ref" ["bag", "pool", "most"] spRefB := by
  refine T.f_law_ref.cal scLawRef (fun vs H Q E h => ?_) (fun f cdv A outer s H vs Q E hr h => ?_)
  · obtain ⟨_, _, _, _, _, _, rfl, _⟩ := h
    rfl
  obtain ⟨b, p, m, most, ns, ks, rfl, B, hm, PA, nb, O, hmost, q⟩ := h
  refine ⟨_, (pss_cons (ps_set (i := 3) scLawRef.nd rfl (by first | exact Or.inl rfl | exact Or.inr rfl) (pe_dget (Nat.lt_trans (Nat.add_lt_add_left (show 1 < 64 by decide) _) hr.units) (pv 1) pe_str (fun _ _ => rfl)))
    (pss_cons (ps_set (i := 4) scLawRef.nd rfl (by first | exact Or.inl rfl | exact Or.inr rfl) (pe_ix (ixL K) (pe_dget (Nat.lt_trans (Nat.add_lt_add_left (show 1 < 64 by decide) _) hr.units) (pv 1) pe_str (fun _ _ => rfl)) (pe_cal C_law_take (hr.mono (by first | decide | omega)) (pa_cons (pv 0) (pa_cons (pe_callB (lenQ K) rfl T.n_len (by decide +kernel) (pa_cons (pe_dget (Nat.lt_trans (Nat.add_lt_add_left (show 1 < 64 by decide) _) hr.units) (pv 1) pe_str (fun _ _ => rfl)) pa_nil)) pa_nil))) (fun _ _ => rfl)))
    (pss_one (ps_ret (pe_tup (pa_cons (pv 4) (pa_cons (pe_callTy (tupOf K) rfl T.n_tuple (by decide +kernel) (pa_cons (pe_lc (own := [("k", 5)]) (g := gName 5) (tt := tYes) rfl scLawRef.nd (pi_range1 rfl T.n_range (pa_cons (pe_cal C_law_take (hr.mono (by first | decide | omega)) (pa_cons (pv 0) (pa_cons (pe_op op_add (pv 2) pe_int) pa_nil))) pa_nil)) (blkOk_by (own := [("k", 5)]) (N := ["bag", "pool", "most", "some", "name", "k"]) (sc := defScope sLawRef) (by decide +kernel)) (fun _ _ _ _ _ => (pg_name (i := 5) scLawRef.nd rfl (by first | exact Or.inl rfl | exact Or.inr rfl))) (fun _ _ _ _ _ => pts_nil) (fun _ _ _ _ _ => (pe_ix (ixL K) (pv 3) (pe_cal C_law_take (hr.mono (by first | decide | omega)) (pa_cons (pv 0) (pa_cons (pe_callB (lenQ K) rfl T.n_len (by decide +kernel) (pa_cons (pv 3) pa_nil)) pa_nil))) (fun _ _ => rfl)))) pa_nil)) pa_nil))))))), ?_⟩
  unfold LIM at hm
  obtain ⟨n, k, h1, h2, h3⟩ := PA.ex
  have nn : n ≠ b := fun z => nb (.inr ⟨n, k, h1, .inl z.symm⟩)
  have nk : k ≠ b := fun z => nb (.inr ⟨n, k, h1, .inr z.symm⟩)
  have np : p ≠ b := fun z => nb (.inl z.symm)
  have v1 : valV [((Sum.inr "names" : Key), V.ref n), (.inr "keys", .ref k)] (.inr "names") = some (.ref n) := by rfl
  have v2 : valV [((Sum.inr "names" : Key), V.ref n), (.inr "keys", .ref k)] (.inr "keys") = some (.ref k) := by
    rw [valV_neg (show ¬ (Sum.inr "names" : Key) = .inr "keys" by decide +kernel)]
    rfl
  refine run_set ⟨_, rfl, p, .ref k, rfl, .inl ⟨_, .inr "keys", .inl h1, rfl, v2.symm⟩, ?_⟩
  refine run_set ?_
  refine ⟨_, rfl, p, .ref n, rfl, .inl ⟨_, .inr "names", .inl h1, rfl, v1.symm⟩, _, rfl, _, rfl, p, .ref n, rfl, .inl ⟨_, .inr "names", .inl h1, rfl, v1.symm⟩, n, _, rfl, .inl (SqL.of h2), b, _, m, rfl, B, by unfold LIM; omega, ?_, ?_, fun r H1 r0 r1 G1 => ?_⟩
  · have := O.n1
    rw [List.length_map]
    omega
  · have := O.n2
    rw [List.length_map]
    omega
  obtain ⟨i, rfl⟩ : ∃ i : Nat, r = (i : Int) := ⟨r.toNat, by omega⟩
  rw [List.length_map] at r1
  have hi : i < ns.length := by omega
  have ei : (ns.map V.str)[i]? = some (.str ns[i]) := by rw [List.getElem?_map, List.getElem?_eq_getElem hi]; rfl
  refine ⟨n, ns.map V.str, (i : Int), .str ns[i], rfl, rfl, SqL.of (G1.keep n _ nn h2), atI_nat ei, ?_⟩
  have mi := List.getElem_mem hi
  generalize ns[i] = nm at *
  have B1 := G1.bag _ B
  have k1 := G1.keep k _ nk h3
  dsimp only
  refine run_ret ?_
  refine ⟨_, rfl, ?_⟩
  dsimp only [gName, tSeq, tAsg, tRet, tDrop, tNext, tCons, tNil, tTup, tCB]
  refine lc_drawn (i := 5) (N := 6) (c0 := 1) (c := 1) (A0 := fun k => k ≤ (most : Int)) (fun v => ∃ z, v = .str z ∧ z ∈ ks) (fun R h => ⟨_, (by rfl), _, (by rfl), (most : Int), 1, rfl, rfl, b, _, _, rfl, B1, by unfold LIM; omega, by omega, by omega, fun r H5 r0 r1 G5 => h _ _ (by omega) (by omega) (by omega) G5⟩) B1 (by decide) (fun j H5 hj B5 G5 R hR => ?_) fun k5 D5 ys H5 hk5 k50 k51 hl hA G5 hy hD5 => ?_
  · have k5 := G5.keep k _ nk k1
    refine ⟨_, (by rfl), _, (by rfl), _, (by rfl), k, _, rfl, .inl (SqL.of k5), b, _, _, rfl, B5, by unfold LIM; omega, ?_, ?_, fun r H6 r0 r1 G6 => ?_⟩
    · have := O.k1
      rw [List.length_map]
      omega
    · have := O.k2
      rw [List.length_map]
      omega
    obtain ⟨x, rfl⟩ : ∃ x : Nat, r = (x : Int) := ⟨r.toNat, by omega⟩
    rw [List.length_map] at r1
    have hx : x < ks.length := by omega
    have ex : (ks.map V.str)[x]? = some (.str ks[x]) := by rw [List.getElem?_map, List.getElem?_eq_getElem hx]; rfl
    exact ⟨k, ks.map V.str, (x : Int), .str ks[x], rfl, rfl, SqL.of (G6.keep k _ nk k5), atI_nat ex, hR _ _ ⟨_, rfl, List.getElem_mem hx⟩ G6⟩
  · obtain ⟨zs, rfl, hz, hW⟩ := texts_of ys hA
    have hl' : zs.length = k5.toNat := by rw [hz, hl]
    refine ⟨D5, _, rfl, .inl ⟨SqL.of hy, fun t ht => ⟨(by show 2 ≤ sizeLine; decide), fun p' hp' => ?_⟩⟩⟩
    have et : (upd (upd H5 t (.tup (zs.map V.str))) p' (.tup [.str nm, .ref t])) t = some (.tup (zs.map V.str)) := by
      rw [upd_ne (ne_of_none upd_same hp')]
      exact upd_same
    have fr := (Go.new (b := b) (o := .tup (zs.map V.str)) ht).gone _ hp'
    refine q p' nm zs _ mi hW (by omega) ⟨O.nm _ mi, by omega, fun z hz => O.ky z (hW z hz)⟩ ⟨t, upd_same, et⟩ (G1.gone _ (G5.gone _ fr)) (((G1.trans (G5.trans (Go.new ht))).trans (Go.new hp')).mono (by omega))
end
/-! ### what a reference begins with -/
section
variable {P : Program} {w : World} {K : PySem.W.Frag} {mg : Str → Option Value} {base : Heap} {cs : Tabs}
def begB (n1 : Str) (k1 : List Str) (n2 : Str) (k2 : List Str) : Bool := (n1 :: k1).isPrefixOf (n2 :: k2)
theorem beg_eq (n1 : Str) (k1 : List Str) (n2 : Str) (k2 : List Str) : begB n1 k1 n2 k2 = (decide (n1 = n2) && decide (k2.take k1.length = k1)) := by
  unfold begB
  rw [Bool.eq_iff_iff, List.isPrefixOf_iff_prefix, Bool.and_eq_true, decide_eq_true_eq, decide_eq_true_eq, List.cons_prefix_cons, List.prefix_iff_eq_take]
  exact and_congr Iff.rfl ⟨Eq.symm, Eq.symm⟩
theorem ok_law_begins (T : Txt K mg cs) : Cal P w K mg base 1 "_law_begins" ["one", "other"] (spTwo K begB) := by
  refine T.f_law_begins.cal scLawBegins (fun vs H Q E h => ?_) (fun f cdv A outer s H vs Q E hr h => ?_)
  · obtain ⟨p, q, n1, n2, k1, k2, rfl, _⟩ := h
    rfl
  obtain ⟨p, q, n1, n2, k1, k2, rfl, R1, R2, O1, O2, q⟩ := h
  obtain ⟨t1, a1, a2⟩ := R1.ex
  obtain ⟨t2, b1, b2⟩ := R2.ex
  refine ⟨_, (pss_one (ps_ret (pe_and (pe_cmpR op_eq (pe_ix (ixT K) (pv 0) pe_int (fun _ _ => rfl)) (pe_ix (ixT K) (pv 1) pe_int (fun _ _ => rfl)) (nomark _)) (pe_one (pe_cmpR (eqD K hr.units) (pe_slice (slT K) (pe_ix (ixT K) (pv 1) pe_int (fun _ _ => rfl)) po_none (po_some (pe_callB (lenQ K) rfl T.n_len (by decide +kernel) (pa_cons (pe_ix (ixT K) (pv 0) pe_int (fun _ _ => rfl)) pa_nil)))) (pe_ix (ixT K) (pv 0) pe_int (fun _ _ => rfl)) (nomark _)))))), ?_⟩
  refine ⟨_, rfl, _, _, 0, _, rfl, rfl, a1, rfl, _, rfl, _, _, 0, _, rfl, rfl, b1, rfl, rfl, _, rfl, ?_⟩
  refine ite2 (fun c => ?_) (fun c => ?_)
  · have e : n1 = n2 := by
      have c' := of_decide_eq_true c
      injection c'
    refine ⟨_, rfl, _, _, 1, _, rfl, rfl, b1, rfl, _, rfl, _, _, 1, _, rfl, rfl, a1, rfl, t1, _, rfl, .inr a2, _, rfl, ?_⟩
    refine slice_take (k := (k1.map V.str).length) b2 fun p' H' S h' => ?_
    rw [List.length_map, ← List.map_take] at h'
    refine ⟨_, (by rfl), _, _, 1, _, rfl, rfl, Sm.seqT S a1, rfl, .tuple (dS (k2.take k1.length)), .tuple (dS k1), .tup h' (dp_strs _), .tup (Sm.seqT S a2) (dp_strs _), shaped_tup fun z hz => (O2.ks z (List.mem_of_mem_take hz)).ok, shaped_tup fun z hz => (O1.ks z hz).ok, ?_⟩
    have r : PyData.eqv (.tuple (dS (k2.take k1.length))) (.tuple (dS k1)) = begB n1 k1 n2 k2 := by
      show PyData.eqvAll _ _ = _
      rw [eqv_strs, beg_eq, decide_eq_true e, Bool.true_and]
    rw [r]
    exact q H' S
  · have e : ¬ n1 = n2 := fun e => c (by rw [e]; exact decide_eq_true rfl)
    have r : begB n1 k1 n2 k2 = false := by
      rw [beg_eq, decide_eq_false e, Bool.false_and]
    have := q H (Sm.refl H)
    rw [r] at this
    exact this
end
/-! ### the second family's dict of worths: entries in their order -/
open PySem (NestedKey) in
def keyM (nm : Str) (ks : List Str) : NestedKey := .tup [.text nm, .tup (ks.map .text)]
theorem text_inj : ∀ {a b : List Str}, a.map PySem.NestedKey.text = b.map PySem.NestedKey.text → a = b
  | [], [], _ => rfl
  | [], _ :: _, h => by cases h
  | _ :: _, [], h => by cases h
  | x :: a, y :: b, h => by
    rw [List.map_cons, List.map_cons] at h
    injection h with h1 h2
    injection h1 with h1
    rw [h1, text_inj h2]
theorem keyM_inj {n1 n2 : Str} {k1 k2 : List Str} (h : keyM n1 k1 = keyM n2 k2) : n1 = n2 ∧ k1 = k2 := by
  unfold keyM at h
  injection h with h
  injection h with h1 h
  injection h1 with h1
  injection h with h2 _
  injection h2 with h2
  exact ⟨h1, text_inj h2⟩
theorem depth_texts : ∀ ks : List Str, PySem.NestedKey.depthAll (ks.map .text) = 0
  | [] => rfl
  | x :: r => by
    rw [List.map_cons]
    show max 0 (PySem.NestedKey.depthAll (r.map .text)) = 0
    rw [depth_texts r]
    rfl
theorem keyM_depth (nm : Str) (ks : List Str) : (keyM nm ks).depth ≤ 8 := by
  show max 0 (max (PySem.NestedKey.depthAll (ks.map .text) + 1) 0) + 1 ≤ 8
  rw [depth_texts]
  decide
theorem nks_texts {H : Hp} : ∀ ks : List Str, DN.NKs H (ks.map .text) (ks.map V.str)
  | [] => .nil
  | x :: r => .cons (.str x) (nks_texts r)
theorem texts_nks {H : Hp} : ∀ {ks : List Str} {vs : List V}, DN.NKs H (ks.map .text) vs → vs = ks.map V.str
  | [], _, h => by cases h; rfl
  | x :: r, _, h => by
    cases h with
    | cons h1 h2 =>
      cases h1
      rw [texts_nks h2]
      rfl
theorem RefT.nk {H : Hp} {p : Addr} {nm : Str} {ks : List Str} (R : RefT H p nm ks) : DN.NK H (keyM nm ks) (.ref p) := by
  obtain ⟨t, h1, h2⟩ := R.ex
  exact .tup h1 (.cons (.str nm) (.cons (.tup h2 (nks_texts ks)) .nil))
theorem RefT.of_nk {H : Hp} {p : Addr} {nm : Str} {ks : List Str} (h : DN.NK H (keyM nm ks) (.ref p)) : RefT H p nm ks := by
  cases h with
  | tup e q =>
    cases q with
    | cons q1 q2 =>
      cases q1
      cases q2 with
      | cons q3 q4 =>
        cases q4
        cases q3 with
        | tup e2 q5 =>
          rw [texts_nks q5] at e2
          exact ⟨_, e, e2⟩
structure ME where
  nm : Str
  ks : List Str
  a : Addr
  z : Str
def ME.path (e : ME) : List Str := e.nm :: e.ks
def entM (e : ME) : DN.Ent := (keyM e.nm e.ks, e.a, .str e.z)
def pathsM (M : List ME) : List (List Str × Str) := M.map fun e => (e.path, e.z)
structure MAt (w : World) (H : Hp) (m : Addr) (M : List ME) : Prop where
  it : DN.At w H m (M.map entM)
  ok : ∀ e ∈ M, REF e.nm e.ks ∧ WT e.z 400
/-- it may be locked -/
structure MRd (w : World) (H : Hp) (m : Addr) (M : List ME) : Prop where
  it : DN.Rd w H m (M.map entM)
  ok : ∀ e ∈ M, REF e.nm e.ks ∧ WT e.z 400
theorem MAt.rd {w : World} {H : Hp} {m : Addr} {M : List ME} (A : MAt w H m M) : MRd w H m M := ⟨A.it.rd, A.ok⟩
theorem MRd.ref {w : World} {H : Hp} {m : Addr} {M : List ME} (A : MRd w H m M) {e : ME} (h : e ∈ M) : RefT H e.a e.nm e.ks := .of_nk (A.it.keys _ (List.mem_map.mpr ⟨e, h, rfl⟩)).1
theorem MRd.sm {w : World} {H H' : Hp} {m : Addr} {M : List ME} (A : MRd w H m M) (S : Sm H H') : MRd w H' m M := by
  refine ⟨⟨?_, fun p hp => ⟨(A.it.keys p hp).1.mono fun a vs e => S _ _ e, (A.it.keys p hp).2⟩, A.it.nd⟩, A.ok⟩
  rcases A.it.it with h | ⟨o, h⟩
  · exact .inl (S.keep _ _ h)
  · exact .inr ⟨o, S.keep _ _ h⟩
theorem MAt.ref {w : World} {H : Hp} {m : Addr} {M : List ME} (A : MAt w H m M) {e : ME} (h : e ∈ M) : RefT H e.a e.nm e.ks := .of_nk (A.it.keys _ (List.mem_map.mpr ⟨e, h, rfl⟩)).1
theorem entM_path {e f : ME} : (entM e).1 = (entM f).1 ↔ e.path = f.path := by
  constructor
  · intro h
    obtain ⟨h1, h2⟩ := keyM_inj h
    show e.nm :: e.ks = f.nm :: f.ks
    rw [h1, h2]
  · intro h
    injection h with h1 h2
    show keyM e.nm e.ks = keyM f.nm f.ks
    rw [h1, h2]
theorem keys_nodup {M : List ME} (h : ((M.map entM).map (·.1)).Nodup) : ((pathsM M).map (·.1)).Nodup := by
  unfold pathsM
  rw [List.map_map] at h ⊢
  refine List.Pairwise.map _ (fun a b ne e => ne ?_) (List.Pairwise.of_map (fun e : ME => (entM e).1) (fun a b h z => h z) h : M.Pairwise fun a b => (entM a).1 ≠ (entM b).1)
  exact entM_path.mpr e
/-- what stands at a reference -/
def valM (M : List ME) (nm : Str) (ks : List Str) : Option Str := (M.find? fun e => decide (e.path = nm :: ks)).map (·.z)
theorem valM_val (M : List ME) (nm : Str) (ks : List Str) : DN.val (M.map entM) (keyM nm ks) = (valM M nm ks).map V.str := by
  unfold DN.val valM
  induction M with
  | nil => rfl
  | cons e r ih =>
    rw [List.map_cons, List.find?_cons, List.find?_cons]
    have q : decide ((entM e).1 = keyM nm ks) = decide (e.path = nm :: ks) := by
      rw [decide_eq_decide]
      exact entM_path (f := ⟨nm, ks, 0, ""⟩)
    rw [q]
    cases decide (e.path = nm :: ks) with
    | true => rfl
    | false => exact ih
/-- the tree's worths and the dict's -/
def Same (S : Sh) (M : List ME) : Prop := Cont S (pathsM M)
theorem Same.val {S : Sh} {M : List ME} (C : Same S M) (nm : Str) (ks : List Str) : valM M nm ks = S.W (nm :: ks) := by
  unfold valM
  cases e : M.find? fun e => decide (e.path = nm :: ks) with
  | some x =>
    have h1 : x.path = nm :: ks := by
      have := List.find?_some e
      exact of_decide_eq_true this
    have h2 := List.mem_of_find?_eq_some e
    have := (C.mem x.path x.z).mp (List.mem_map.mpr ⟨x, h2, rfl⟩)
    rw [h1] at this
    exact this.symm
  | none =>
    cases e2 : S.W (nm :: ks) with
    | none => rfl
    | some z =>
      obtain ⟨x, hx, ex⟩ := List.mem_map.mp ((C.mem _ _).mpr e2)
      have := List.find?_eq_none.mp e x hx
      injection ex with e3 e4
      exact absurd (decide_eq_true e3) this
/-- a worth put -/
def putM (M : List ME) (nm : Str) (ks : List Str) (p : Addr) (z : Str) : List ME := if (valM M nm ks).isSome = true then M.map (fun e => if e.path = nm :: ks then { e with z := z } else e) else M ++ [⟨nm, ks, p, z⟩]
theorem putM_put (M : List ME) (nm : Str) (ks : List Str) (p : Addr) (z : Str) : (putM M nm ks p z).map entM = DN.put (M.map entM) (keyM nm ks) p (.str z) := by
  unfold putM DN.put
  rw [valM_val, Option.isSome_map]
  split
  · rw [List.map_map, List.map_map]
    refine List.map_congr_left fun e _ => ?_
    show entM (if e.path = nm :: ks then { e with z := z } else e) = (if (entM e).1 = keyM nm ks then ((entM e).1, (entM e).2.1, V.str z) else entM e)
    by_cases c : e.path = nm :: ks
    · rw [if_pos c, if_pos (show (entM e).1 = keyM nm ks from (entM_path (f := ⟨nm, ks, 0, ""⟩)).mpr c)]
      rfl
    · rw [if_neg c, if_neg (show ¬ (entM e).1 = keyM nm ks from fun h => c ((entM_path (f := ⟨nm, ks, 0, ""⟩)).mp h))]
  · rw [List.map_append]
    rfl
theorem putM_path {M : List ME} {nm : Str} {ks : List Str} {p : Addr} {z : Str} : ∀ e ∈ putM M nm ks p z, (∃ f ∈ M, f.path = e.path ∧ f.nm = e.nm ∧ f.ks = e.ks) ∨ (e.nm = nm ∧ e.ks = ks) := by
  intro e he
  unfold putM at he
  split at he
  · obtain ⟨f, hf, rfl⟩ := List.mem_map.mp he
    refine .inl ⟨f, hf, ?_⟩
    split <;> exact ⟨rfl, rfl, rfl⟩
  · rcases List.mem_append.mp he with h | h
    · exact .inl ⟨e, h, rfl, rfl, rfl⟩
    · rw [List.mem_singleton.mp h]
      exact .inr ⟨rfl, rfl⟩
theorem putM_worth {M : List ME} {nm : Str} {ks : List Str} {p : Addr} {z : Str} : ∀ e ∈ putM M nm ks p z, (∃ f ∈ M, f.z = e.z) ∨ e.z = z := by
  intro e he
  unfold putM at he
  split at he
  · obtain ⟨f, hf, rfl⟩ := List.mem_map.mp he
    split
    · exact .inr rfl
    · exact .inl ⟨f, hf, rfl⟩
  · rcases List.mem_append.mp he with h | h
    · exact .inl ⟨e, h, rfl⟩
    · rw [List.mem_singleton.mp h]
      exact .inr rfl
theorem MAt.put {w : World} {H : Hp} {m : Addr} {M : List ME} (A : MAt w H m M) {nm : Str} {ks : List Str} {p : Addr} {z : Str} (R : RefT H p nm ks) (O : REF nm ks) (W : WT z 400) :
    MAt w (upd H m (DN.dnO w m (DN.put (M.map entM) (keyM nm ks) p (.str z)))) m (putM M nm ks p z) := by
  refine ⟨?_, fun e he => ⟨?_, ?_⟩⟩
  · rw [putM_put]
    exact A.it.put R.nk (keyM_depth nm ks) (.str z)
  · rcases putM_path e he with ⟨f, hf, _, h1, h2⟩ | ⟨h1, h2⟩
    · rw [← h1, ← h2]
      exact (A.ok f hf).1
    · rw [h1, h2]
      exact O
  · rcases putM_worth e he with ⟨f, hf, h⟩ | h
    · rw [← h]
      exact (A.ok f hf).2
    · rw [h]
      exact W
theorem MAt.same_put {w : World} {H : Hp} {m : Addr} {M : List ME} {S S' : Sh} (C : Same S M) {nm : Str} {ks : List Str} {p : Addr} {z : Str} (A' : MAt w H m (putM M nm ks p z)) (h : ∀ q, S'.W q = if q = nm :: ks then some z else S.W q) : Same S' (putM M nm ks p z) := by
  refine ⟨keys_nodup A'.it.nd, fun q y => ?_⟩
  rw [h]
  have v := C.val nm ks
  unfold pathsM putM
  by_cases c : (valM M nm ks).isSome = true
  · rw [if_pos c, List.map_map, List.mem_map]
    by_cases e : q = nm :: ks
    · rw [if_pos e]
      constructor
      · rintro ⟨f, hf, ef⟩
        injection ef with e1 e2
        by_cases g : f.path = nm :: ks
        · rw [← e2]
          simp only [Function.comp, if_pos g]
        · simp only [Function.comp, if_neg g] at e1
          exact absurd (e1.trans e) g
      · intro hz
        obtain ⟨x, hx⟩ := Option.isSome_iff_exists.mp c
        rw [hx] at v
        obtain ⟨f, hf, ef⟩ := List.mem_map.mp ((C.mem (nm :: ks) x).mpr v.symm)
        injection ef with e1 e2
        refine ⟨f, hf, ?_⟩
        simp only [Function.comp, if_pos e1]
        rw [e, ← Option.some.inj hz]
        exact Prod.ext e1 rfl
    · rw [if_neg e, ← C.mem]
      unfold pathsM
      rw [List.mem_map]
      constructor
      · rintro ⟨f, hf, ef⟩
        refine ⟨f, hf, ?_⟩
        by_cases g : f.path = nm :: ks
        · simp only [Function.comp, if_pos g] at ef
          injection ef with e1 _
          exact absurd (e1.symm.trans g) e
        · simp only [Function.comp, if_neg g] at ef
          exact ef
      · rintro ⟨f, hf, ef⟩
        refine ⟨f, hf, ?_⟩
        have g : ¬ f.path = nm :: ks := fun g => by
          injection ef with e1 _
          exact e (e1.symm.trans g)
        simp only [Function.comp, if_neg g]
        exact ef
  · rw [if_neg c, List.map_append, List.mem_append]
    have hn : S.W (nm :: ks) = none := by rw [← v]; exact Option.not_isSome_iff_eq_none.mp c
    by_cases e : q = nm :: ks
    · rw [if_pos e]
      constructor
      · rintro (h1 | h1)
        · have := (C.mem q y).mp h1
          rw [e, hn] at this
          cases this
        · cases List.mem_singleton.mp h1
          rfl
      · intro hz
        refine .inr (List.mem_singleton.mpr ?_)
        rw [e, Option.some.inj hz]
        rfl
    · rw [if_neg e, ← C.mem]
      constructor
      · rintro (h1 | h1)
        · exact h1
        · cases List.mem_singleton.mp h1
          exact absurd rfl e
      · exact .inl
theorem len_putM (M : List ME) (nm : Str) (ks : List Str) (p : Addr) (z : Str) : (putM M nm ks p z).length ≤ M.length + 1 := by
  unfold putM
  split
  · rw [List.length_map]
    omega
  · rw [List.length_append]
    exact Nat.le_refl _
/-- what is beneath a reference -/
def benM (M : List ME) (nm : Str) (ks : List Str) : List ME := M.filter fun e => (nm :: ks).isPrefixOf e.path
def leftM (M : List ME) (nm : Str) (ks : List Str) : List ME := M.filter fun e => !(nm :: ks).isPrefixOf e.path
theorem Same.killed {S S' : Sh} {M : List ME} (C : Same S M) {nm : Str} {ks : List Str} (h : ∀ q, S'.W q = if (nm :: ks).isPrefixOf q = true then none else S.W q) : Same S' (leftM M nm ks) := by
  refine ⟨(C.nd.sublist ?_), fun q y => ?_⟩
  · unfold pathsM leftM
    rw [List.map_map, List.map_map]
    exact List.Sublist.map _ List.filter_sublist
  · rw [h]
    unfold pathsM leftM
    rw [List.mem_map]
    constructor
    · rintro ⟨e, he, ee⟩
      obtain ⟨h1, h2⟩ := List.mem_filter.mp he
      injection ee with e1 e2
      have nz : ¬ (nm :: ks).isPrefixOf e.path = true := fun z => by
        rw [z] at h2
        cases h2
      rw [← e1, if_neg nz, ← C.mem]
      exact List.mem_map.mpr ⟨e, h1, Prod.ext rfl e2⟩
    · intro hz
      by_cases c : (nm :: ks).isPrefixOf q = true
      · rw [if_pos c] at hz
        cases hz
      · rw [if_neg c] at hz
        obtain ⟨e, he, ee⟩ := List.mem_map.mp ((C.mem q y).mpr hz)
        injection ee with e1 e2
        exact ⟨e, List.mem_filter.mpr ⟨he, by rw [e1]; cases hh : (nm :: ks).isPrefixOf q with
          | true => exact absurd hh c
          | false => rfl⟩, Prod.ext e1 e2⟩
theorem Same.cnt {S : Sh} {M : List ME} (C : Same S M) (O : ShOk S) (nm : Str) (ks : List Str) : cntAt S (nm :: ks) = (benM M nm ks).length := by
  rw [Cont.cnt C O]
  unfold pathsM benM
  rw [List.filter_map, List.length_map]
  rfl
theorem Same.all {S : Sh} {M : List ME} (C : Same S M) (O : ShOk S) : (walkF 8 S []).length = M.length := by
  rw [(Cont.walk C O).length_eq]
  unfold pathsM
  rw [List.length_map]
/-! ### the law's ranks of a reference; references sorted -/
def spRanks (K : PySem.W.Frag) : Sp := fun vs H Q _ => ∃ (p : Addr) (nm : Str) (ks : List Str), vs = [.ref p] ∧ RefAt K H p nm ks ∧ REF nm ks ∧ ∀ (D : Addr) (H' : Hp), Sm H H' → H D = none → GR H' (.ref D) (.list (ks.map rankD)) → Q (.ref D) H'
def RankV (H : Hp) (v : V) (z : Str) : Prop := ∃ l, v = .ref l ∧ H l = some (.lst ((rankL z).map V.int))
theorem rankL_cons (z : Str) : ∃ i r, rankL z = i :: r := by
  unfold rankL
  split
  · exact ⟨_, _, rfl⟩
  · exact ⟨_, _, rfl⟩
theorem rankV_stb : Stb RankV := by
  refine ⟨fun S h => ?_, fun {H D ys zs v z} e told h => ?_⟩
  · obtain ⟨l, h1, h2⟩ := h
    exact ⟨l, h1, S _ _ h2⟩
  · obtain ⟨l, h1, h2⟩ := h
    refine ⟨l, h1, ?_⟩
    have ne : l ≠ D := fun w => by
      rw [w, e] at h2
      injection h2 with h2
      injection h2 with h2
      obtain ⟨i, r, er⟩ := rankL_cons z
      rw [er, List.map_cons] at h2
      obtain ⟨H0, b0, l0, z1, _⟩ := told (.int i) (by rw [h2]; exact List.mem_cons_self)
      cases z1
    rw [upd_ne ne]
    exact h2
theorem gr_ints (H : Hp) : ∀ xs : List Int, GRs H (xs.map V.int) (xs.map PyData.int)
  | [] => .nil
  | x :: xs => .cons (.int x) (gr_ints H xs)
theorem gr_ranks {H : Hp} : ∀ {ys : List V} {ks : List Str}, Paired (RankV H) ys ks → GRs H ys (ks.map rankD)
  | _, _, .nil => .nil
  | _, _, .cons ⟨_, e, h⟩ t => by
    subst e
    exact .cons (.lst h (gr_ints H _)) (gr_ranks t)
theorem RefT.one {H : Hp} {p : Addr} {n1 n2 : Str} {k1 k2 : List Str} (a : RefT H p n1 k1) (b : RefT H p n2 k2) : n1 = n2 ∧ k1 = k2 := by
  obtain ⟨t, h1, h2⟩ := a.ex
  obtain ⟨u, g1, g2⟩ := b.ex
  rw [h1] at g1
  injection g1 with g1
  injection g1 with g1
  injection g1 with e1 g1
  injection g1 with e2 _
  injection e1 with e1
  injection e2 with e2
  rw [← e2, h2] at g2
  injection g2 with g2
  injection g2 with g2
  exact ⟨e1, (List.map_inj_right (f := V.str) fun a b h => by injection h).mp g2⟩
open Classical in
noncomputable def keyW (H : Hp) (v : V) : PyData := if h : ∃ x : Str × List Str, ∃ a, v = .ref a ∧ RefT H a x.1 x.2 then keyD h.choose.1 h.choose.2 else .none
theorem keyW_of {H : Hp} {a : Addr} {nm : Str} {ks : List Str} (R : RefT H a nm ks) : keyW H (.ref a) = keyD nm ks := by
  have h : ∃ x : Str × List Str, ∃ b, V.ref a = .ref b ∧ RefT H b x.1 x.2 := ⟨(nm, ks), a, rfl, R⟩
  unfold keyW
  rw [dif_pos h]
  obtain ⟨b, e, Rb⟩ := h.choose_spec
  cases e
  obtain ⟨e1, e2⟩ := Rb.one R
  rw [e1, e2]
def leM (e f : ME) : Bool := !rlt f.nm f.ks e.nm e.ks
theorem KEY.sg {z : Str} (k : KEY z) : SgS z := fun c hc => k.wt.sg c hc
theorem depth_ranks : ∀ ks : List Str, PyData.depthAll (ks.map rankD) ≤ 1
  | [] => Nat.zero_le _
  | z :: ks => by
    show max (PyData.depthAll ((rankL z).map PyData.int) + 1) (PyData.depthAll (ks.map rankD)) ≤ 1
    rw [depth_ints]
    exact Nat.max_le.mpr ⟨Nat.le_refl _, depth_ranks ks⟩
theorem depth_keyD (nm : Str) (ks : List Str) : (keyD nm ks).depth ≤ 8 := by
  show max 0 (max (PyData.depthAll (ks.map rankD) + 1) 0) + 1 ≤ 8
  have := depth_ranks ks
  omega
theorem pair_strs : ∀ ks : List Str, Paired (fun v z => v = V.str z) (ks.map V.str) ks
  | [] => .nil
  | _ :: r => .cons rfl (pair_strs r)
section
variable {P : Program} {w : World} {K : PySem.W.Frag} {mg : Str → Option Value} {base : Heap} {cs : Tabs}
theorem ok_law_ranks (T : Txt K mg cs) (C_law_rank : Cal P w K mg base 1 "_law_rank" ["mark"] (spRankB K)) : Cal P w K mg base 2 "_law_ranks" ["ref"] (spRanks K) := by
  refine T.f_law_ranks.cal scLawRanks (fun vs H Q E h => ?_) (fun f cdv A outer s H vs Q E hr h => ?_)
  · obtain ⟨_, _, _, rfl, _⟩ := h
    rfl
  obtain ⟨p, nm, ks, rfl, R, O, q⟩ := h
  refine ⟨_, (pss_one (ps_ret (pe_lc (own := [("mark", 1)]) (g := gName 1) (tt := tYes) rfl scLawRanks.nd (pi_tup (pe_ix (ixT K) (pv 0) pe_int (fun _ _ => rfl))) (blkOk_by (own := [("mark", 1)]) (N := ["ref", "mark"]) (sc := defScope sLawRanks) (by decide +kernel)) (fun _ _ _ _ _ => (pg_name (i := 1) scLawRanks.nd rfl (by first | exact Or.inl rfl | exact Or.inr rfl))) (fun _ _ _ _ _ => pts_nil) (fun _ _ _ _ _ => (pe_cal C_law_rank (hr.mono (by first | decide | omega)) (pa_cons (pv 1) pa_nil)))))), ?_⟩
  obtain ⟨t, r1, r2⟩ := R.ex
  refine run_ret ?_
  refine lc_eachT (K := K) (ds := ks) (fun _ v z => v = V.str z) RankV (fun _ h => h) rankV_stb (fun Rr h => ?_) (by have := O.le; omega) (fun v b H3 hb hB S3 Rr h => ?_) fun D ys H3 S3 hP hD hD0 => ?_
  · refine ⟨_, rfl, p, _, 1, .ref t, rfl, rfl, r1, atI_nat (j := 1) rfl, h t _ H (Sm.refl H) r2 ?_⟩
    exact pair_strs ks
  · subst hB
    have kb := O.ks b hb
    refine ⟨rfl, _, (by rfl), b, rfl, kb.wt, kb.pos, fun l H4 S4 hl => h _ _ ⟨l, rfl, hl⟩ S4⟩
  · exact q D H3 S3 hD0 (.lst hD (gr_ranks hP))
end
/-! ### references sorted: of a list or of the dict -/
def spWalkedD (w : World) (K : PySem.W.Frag) (cs : Tabs) : Sp := fun vs H Q _ => ∃ (l : Addr) (es : List ME), vs = [.ref l] ∧ (SqL K H l (es.map fun e => V.ref e.a) ∨ MRd w H l es) ∧ (∀ e ∈ es, RefT H e.a e.nm e.ks ∧ REF e.nm e.ks) ∧ TGs H cs ∧
  ∀ (D : Addr) (H' : Hp), Sm H H' → H D = none → H' D = some (.lst ((es.mergeSort leM).map fun e => V.ref e.a)) → Q (.ref D) H'
section
variable {P : Program} {w : World} {K : PySem.W.Frag} {mg : Str → Option Value} {base : Heap} {cs : Tabs}
theorem ok_law_walkedD (T : Txt K mg cs) (B : TBs base mg cs) (C_law_ranks : Cal P w K mg base 2 "_law_ranks" ["ref"] (spRanks K)) : Cal P w K mg base 6 "_law_walked" ["refs"] (spWalkedD w K cs) := by
  refine T.f_law_walked.cal scLawWalked (fun vs H Q E h => ?_) (fun f A outer s H vs Q E hr h => ?_)
  · obtain ⟨_, _, rfl, _⟩ := h
    rfl
  obtain ⟨l, es, rfl, hS, hR, hT, q⟩ := h
  refine ⟨_, (pss_one (ps_ret (pe_sortM (w := w) (k := 2) (x := "one") (q0 := "_law_walked.<locals>.") (keyW H) rfl (hr.mono (by first | decide | omega)) B.b__law_walked T.n_sorted (pa_cons (pv 0) pa_nil) (fun _ _ _ _ _ _ hr => (pe_tup (pa_cons (pe_ix (ixT K) (pv 0) pe_int (fun _ _ => rfl)) (pa_cons (pe_cal C_law_ranks (hr.mono (by first | decide | omega)) (pa_cons (pv 0) pa_nil)) pa_nil))))))), ?_⟩
  have kd : ∀ e ∈ es, keyW H (.ref e.a) = keyD e.nm e.ks := fun e he => keyW_of (hR e he).1
  have each : ∀ y ∈ es.map fun e => V.ref e.a, ∃ e ∈ es, y = .ref e.a := fun y hy => by
    obtain ⟨e, he, rfl⟩ := List.mem_map.mp hy
    exact ⟨e, he, rfl⟩
  refine run_ret ⟨_, rfl, hT.t__law_walked, fun fl H1 S1 L => ⟨l, fl, es.map fun e => V.ref e.a, rfl, rfl, L, ?_, fun y hy H2 S2 => ?_, .inl fun d hd => ?_, fun y hy => ?_, fun d hd d' hd' => ?_, fun D H3 S3 hD hD3 => ?_⟩⟩
  · rcases hS with hS | hS
    · exact .inl (Sm.seq S1 hS)
    · exact .inr ⟨_, (hS.sm S1).it, by rw [List.map_map]; rfl⟩
  · obtain ⟨e, he, rfl⟩ := each y hy
    have R2 := ((hR e he).1.keep fun _ _ g => S2 _ _ (S1 _ _ g) : RefT H2 e.a e.nm e.ks)
    obtain ⟨t, r1, r2⟩ := R2.ex
    refine ⟨_, rfl, e.a, _, 0, _, rfl, rfl, SqT.of r1, atI_nat (j := 0) rfl, _, rfl, e.a, e.nm, e.ks, rfl, R2.at_, (hR e he).2, fun D H3 S3 hD g => ⟨(by show 2 ≤ sizeLine; decide), fun d hd => ⟨S3.trans (Sm.new hd), ?_⟩⟩⟩
    rw [kd e he]
    exact .tup upd_same (.cons (.str _) (.cons (g.sm (Sm.new hd)) .nil))
  · obtain ⟨y, hy, rfl⟩ := List.mem_map.mp hd
    obtain ⟨e, he, rfl⟩ := each y hy
    exact ⟨_, _, kd e he⟩
  · obtain ⟨e, he, rfl⟩ := each y hy
    rw [kd e he]
    exact depth_keyD _ _
  · obtain ⟨y, hy, rfl⟩ := List.mem_map.mp hd
    obtain ⟨y', hy', rfl⟩ := List.mem_map.mp hd'
    obtain ⟨e, he, rfl⟩ := each y hy
    obtain ⟨e', he', rfl⟩ := each y' hy'
    rw [kd e he, kd e' he']
    exact alike_key _ _ _ _
  · refine q D H3 (S1.trans S3) (S1.gone D hD) ?_
    rw [hD3, List.map_mergeSort]
    intro e he f hf
    show leM e f = PySem.W.dataLe false (keyW H) (V.ref e.a) (V.ref f.a)
    rw [PySem.W.dataLe_eq]
    show _ = !PySem.W.dataLt (keyW H (V.ref f.a)) (keyW H (V.ref e.a))
    rw [kd e he, kd f hf, lt_key (fun z hz => ((hR f hf).2.ks z hz).sg) fun z hz => ((hR e he).2.ks z hz).sg]
    rfl
end
/-! ### what is beneath a reference in the dict; kills in it; its data -/
theorem Sm.locked {H H' : Hp} {m : Addr} {u f : HO} (h : H m = some u) (nu : plainO u = true) (S : Sm (upd H m f) H') (hf : H' m = some f) (nf : plainO f = true) : Sm H (upd H' m u) := by
  refine ⟨fun a o e n => ?_, fun P t => ?_, fun a e => ?_⟩
  · by_cases z : a = m
    · rw [z, upd_same]
      rw [z, h] at e
      exact e
    · rw [upd_ne z]
      exact S.keep a o (by rw [upd_ne z]; exact e) n
  · refine TabG.upd (S.tab P (TabG.upd t fun qs z => ?_)) fun qs z => ?_
    · rw [h] at z
      cases z
      exact nu
    · rw [hf] at z
      cases z
      exact nf
  · by_cases z : a = m
    · rw [z, upd_same] at e
      cases e
    · rw [upd_ne z] at e
      have := S.gone a e
      rw [upd_ne z] at this
      exact this
theorem RefT.upd {H : Hp} {p m : Addr} {nm : Str} {ks : List Str} {u f : HO} (R : RefT H p nm ks) (h : H m = some u) (nu : ∀ vs, u ≠ .tup vs) : RefT (upd H m f) p nm ks := R.keep fun a vs e => by
  rw [upd_ne fun z => by rw [z, h] at e; exact nu vs (Option.some.inj e)]
  exact e
theorem RefT.sm {H H' : Hp} {p : Addr} {nm : Str} {ks : List Str} (R : RefT H p nm ks) (S : Sm H H') : RefT H' p nm ks := R.keep fun a vs e => S _ _ e
/-- a comprehension over a dict, locked or not -/
theorem lockO {t : TE} {σ : L2.St} {H : Hp} {Q : VK} {m : Addr} {u : HO} (h : L2.Rd H m u) (mu : Mut (some u)) (nu : plainO u = true)
    (b : ∀ (H1 : Hp) (od : Obj) (Q' : VK), H1 m = some (.frz od u) → (∀ a, a ≠ m → H1 a = H a) → (∀ v H', Sm H1 H' → (∀ Hb, Sm H Hb → (∀ a, a ≠ m → Hb a = H' a) → Q v Hb) → Q' v H') → t σ H1 Q') : tLockO t σ H Q := by
  rcases h with h | ⟨ob, h⟩
  · refine .inl ⟨m, u, h, mu, fun od => ?_⟩
    refine b _ od _ upd_same (fun a ne => upd_ne ne) fun v H' S hq => ?_
    have e := S.keep m (.frz od u) upd_same
    exact ⟨e, hq _ (Sm.locked h nu S e (by cases u <;> first | rfl | cases mu)) fun a ne => upd_ne ne⟩
  · exact .inr (b H ob Q h (fun _ _ => rfl) fun v H' S hq => hq H' S fun _ _ => rfl)
theorem RefT.but {H H1 : Hp} {p m : Addr} {nm : Str} {ks : List Str} {od : Obj} {u : HO} (R : RefT H p nm ks) (d : L2.Rd H m u) (nu : ∀ vs, u ≠ .tup vs) (ho : ∀ a, a ≠ m → H1 a = H a) : RefT H1 p nm ks := R.keep fun a vs e => by
  rw [ho a fun z => by
    rcases d with d | ⟨o, d⟩
    · rw [z, d] at e
      exact nu vs (Option.some.inj e)
    · rw [z, d] at e
      cases e]
  exact e
def spBen (w : World) : Sp := fun vs H Q _ => ∃ (m p : Addr) (M : List ME) (nm : Str) (ks : List Str), vs = [.ref m, .ref p] ∧ MRd w H m M ∧ M.length ≤ 1000 ∧ RefT H p nm ks ∧ REF nm ks ∧
  ∀ l H', Sm H H' → H l = none → H' l = some (.lst ((benM M nm ks).map fun e => V.ref e.a)) → Q (.ref l) H'
def spKilled (w : World) : Sp := fun vs H Q _ => ∃ (m p : Addr) (M : List ME) (nm : Str) (ks : List Str), vs = [.ref m, .ref p] ∧ MAt w H m M ∧ M.length ≤ 1000 ∧ RefT H p nm ks ∧ REF nm ks ∧
  ∀ H', Ch (fun a => a = m) H H' → MAt w H' m (leftM M nm ks) → Q (.int ((benM M nm ks).length : Nat)) H'
def spDataM (w : World) : Sp := fun vs H Q _ => ∃ (m p : Addr) (M : List ME) (nm : Str) (ks : List Str), vs = [.ref m, .ref p] ∧ MRd w H m M ∧ M.length ≤ 1000 ∧ RefT H p nm ks ∧ REF nm ks ∧
  ∀ H', Sm H H' → Q (.int ((if (valM M nm ks).isSome = true then 1 else 0) + 10 * (if (if (valM M nm ks).isSome = true then 1 else 0) < (benM M nm ks).length then 1 else 0))) H'
section
variable {P : Program} {w : World} {K : PySem.W.Frag} {mg : Str → Option Value} {base : Heap} {cs : Tabs}
theorem ok_law_beneath (T : Txt K mg cs) (C_law_begins : Cal P w K mg base 1 "_law_begins" ["one", "other"] (spTwo K begB)) : Cal P w K mg base 2 "_law_beneath" ["m", "ref"] (spBen w) := by
  refine T.f_law_beneath.cal scLawBeneath (fun vs H Q E h => ?_) (fun f cdv A outer s H vs Q E hr h => ?_)
  · obtain ⟨_, _, _, _, _, rfl, _⟩ := h
    rfl
  obtain ⟨m, p, M, nm, ks, rfl, MA, hM, R, O, q⟩ := h
  refine ⟨_, (pss_one (ps_ret (pe_lockO (pe_lc (own := [("one", 2)]) (g := gName 2) (tt := _) rfl scLawBeneath.nd (DN.pi_keysN (w := w) (pv 0)) (blkOk_by (own := [("one", 2)]) (N := ["m", "ref", "one"]) (sc := defScope sLawBeneath) (by decide +kernel)) (fun _ _ _ _ _ => (pg_name (i := 2) scLawBeneath.nd rfl (by first | exact Or.inl rfl | exact Or.inr rfl))) (fun _ _ _ _ _ => (pts_one (pt_val (pe_cal C_law_begins (hr.mono (by first | decide | omega)) (pa_cons (pv 1) (pa_cons (pv 2) pa_nil)))))) (fun _ _ _ _ _ => (pv 2)))))), ?_⟩
  refine run_ret (lockO MA.it.it trivial rfl fun H1 od Q' hm1 ho hq => ?_)
  have Rm := R.but (od := od) MA.it.it (fun vs z => by cases z) ho
  have key : ∀ e ∈ M, RefT H1 e.a e.nm e.ks := fun e he => (MA.ref he).but (od := od) MA.it.it (fun vs z => by cases z) ho
  refine ⟨_, rfl, m, od, M.map entM, rfl, hm1, fun D hD => ?_⟩
  have Dm : D ≠ m := fun z => by
    rw [z, hm1] at hD
    cases hD
  have hD0 : H D = none := by rw [← ho D Dm]; exact hD
  refine lc_it (DN.walk_N (w := w) (d := m) (o := od) (L := M.map entM)) (fun j H' => Sm H1 H' ∧ H' D = some (.lst ((((M.take j).filter fun e => begB nm ks e.nm e.ks)).map fun e => V.ref e.a))) ⟨Sm.new hD, upd_same⟩ (fun _ H' _ h => h.1 _ _ hm1) (fun j x H2 H2' hj h hy => ?_) fun H2 h => ?_
  · obtain ⟨rfl, pe, hpe, rfl⟩ := hy
    rw [List.getElem?_map] at hpe
    obtain ⟨e, he, rfl⟩ := Option.map_eq_some_iff.mp hpe
    have hjl : j < M.length := (List.getElem?_eq_some_iff.mp he).1
    have me := List.mem_of_getElem? he
    have et : M.take (j + 1) = M.take j ++ [e] := by rw [List.take_add_one, he]; rfl
    have lt : ((((M.take j).filter fun e => begB nm ks e.nm e.ks)).map fun e => V.ref e.a).length < sizeLine := small' (by
      rw [List.length_map]
      have a1 := List.length_filter_le (fun e : ME => begB nm ks e.nm e.ks) (M.take j)
      rw [List.length_take] at a1
      omega)
    refine ⟨rfl, ?_⟩
    refine ⟨_, (by rfl), _, (by rfl), p, e.a, nm, e.nm, ks, e.ks, rfl, (Rm.sm h.1).at_, ((key e me).sm h.1).at_, O, (MA.ok e me).1, fun H3 S3 => ⟨_, rfl, ?_⟩⟩
    refine ite2 (fun c => ?_) (fun c => ?_)
    · have S13 := h.1.trans S3
      refine ⟨_, (by rfl), _, S3 _ _ h.2, lt, Sm.own S13 hD (no_tbl (S3 _ _ h.2)), ?_⟩
      rw [et, List.filter_append, List.filter_cons, if_pos c, List.map_append]
      exact upd_same
    · refine ⟨h.1.trans S3, ?_⟩
      rw [et, List.filter_append, List.filter_cons, if_neg c, List.filter_nil, List.append_nil]
      exact S3 _ _ h.2
  · have e1 := h.1 _ _ hm1
    have e2 := h.2
    rw [List.length_map, List.take_length] at e2
    refine hq _ _ h.1 fun Hb Sb hb => q D Hb Sb hD0 ?_
    rw [hb D Dm]
    exact e2
/-- the first j of those beneath are gone -/
def gone (M B : List ME) (j : Nat) : List ME := M.filter fun e => decide (e.path ∉ (B.take j).map ME.path)
theorem gone_zero (M B : List ME) : gone M B 0 = M := by
  unfold gone
  rw [List.take_zero, List.map_nil]
  exact List.filter_eq_self.mpr fun e _ => decide_eq_true fun h => nomatch h
theorem gone_all (M : List ME) (nm : Str) (ks : List Str) : gone M (benM M nm ks) (benM M nm ks).length = leftM M nm ks := by
  unfold gone leftM
  rw [List.take_length]
  refine List.filter_congr fun e he => ?_
  rw [Bool.eq_iff_iff, decide_eq_true_eq, Bool.not_eq_true']
  constructor
  · intro h
    cases c : (nm :: ks).isPrefixOf e.path with
    | false => rfl
    | true => exact absurd (List.mem_map.mpr ⟨e, List.mem_filter.mpr ⟨he, c⟩, rfl⟩) h
  · intro h z
    obtain ⟨f, hf, ef⟩ := List.mem_map.mp z
    have := (List.mem_filter.mp hf).2
    rw [ef, h] at this
    cases this
theorem gone_next {M B : List ME} {j : Nat} {e : ME} (h : B[j]? = some e) : DN.drop ((gone M B j).map entM) (keyM e.nm e.ks) = (gone M B (j + 1)).map entM := by
  unfold DN.drop gone
  rw [List.filter_map, List.filter_filter]
  congr 1
  refine List.filter_congr fun f _ => ?_
  rw [List.take_add_one, h, Bool.eq_iff_iff, Bool.and_eq_true]
  show (decide ((entM f).1 ≠ keyM e.nm e.ks) = true ∧ decide _ = true) ↔ decide _ = true
  rw [decide_eq_true_eq, decide_eq_true_eq, decide_eq_true_eq]
  show (¬ (entM f).1 = keyM e.nm e.ks ∧ _) ↔ _
  rw [show ((entM f).1 = keyM e.nm e.ks) = (f.path = e.path) from propext (entM_path (e := f) (f := e)), List.map_append, List.mem_append]
  show _ ↔ ¬ (_ ∨ f.path ∈ [e.path])
  rw [List.mem_singleton, not_or]
  exact And.comm
theorem gone_sub {M B : List ME} {j : Nat} {e : ME} (h : e ∈ gone M B j) : e ∈ M := (List.mem_filter.mp h).1
theorem ok_law_killed (T : Txt K mg cs) (C_law_beneath : Cal P w K mg base 2 "_law_beneath" ["m", "ref"] (spBen w)) : Cal P w K mg base 3 "_law_killed" ["m", "ref"] (spKilled w) := by
  refine T.f_law_killed.cal scLawKilled (fun vs H Q E h => ?_) (fun f cdv A outer s H vs Q E hr h => ?_)
  · obtain ⟨_, _, _, _, _, rfl, _⟩ := h
    rfl
  obtain ⟨m, p, M, nm, ks, rfl, MA, hM, R, O, q⟩ := h
  refine ⟨_, (pss_cons (ps_set (i := 2) scLawKilled.nd rfl (by first | exact Or.inl rfl | exact Or.inr rfl) (pe_cal C_law_beneath (hr.mono (by first | decide | omega)) (pa_cons (pv 0) (pa_cons (pv 1) pa_nil))))
    (pss_cons (ps_for PassesOwn.never rfl (pi_list (pv 2)) (pg_name (i := 3) scLawKilled.nd rfl (by first | exact Or.inl rfl | exact Or.inr rfl))
      (pss_one (ps_expr (DN.pe_mN (w := w) PySem.F.slot_dict_pop PySem.F.type_dict_pop (DN.popN (w := w) hr.units) (pv 0) (pa_cons (pv 3) pa_nil)))))
    (pss_one (ps_ret (pe_callB (lenQ K) rfl T.n_len (by decide +kernel) (pa_cons (pv 2) pa_nil)))))), ?_⟩
  refine run_set ⟨_, rfl, _, rfl, m, p, M, nm, ks, rfl, MA.rd, hM, R, O, fun l H1 S1 hl0 hl => ?_⟩
  have ml : m ≠ l := ne_of_none MA.it.it hl0
  have bl : (benM M nm ks).length ≤ M.length := List.length_filter_le _ _
  have nd : ((benM M nm ks).map ME.path).Nodup := by
    have := keys_nodup MA.it.nd
    unfold pathsM at this
    rw [List.map_map] at this
    exact List.Pairwise.sublist (List.Sublist.map _ List.filter_sublist) this
  refine run_for ?_
  refine ⟨_, rfl, l, rfl, ⟨_, SqL.of hl⟩, for_list (K := K) (a := l) (xs := (benM M nm ks).map fun e => V.ref e.a) (fun j σ H' => (∃ o2, σ = [some (V.ref m), some (V.ref p), some (.ref l), o2]) ∧ Ch (fun a => a = m) H H' ∧ H' l = some (.lst ((benM M nm ks).map fun e => V.ref e.a)) ∧ MAt w H' m (gone M (benM M nm ks) j)) ⟨⟨_, rfl⟩, Ch.sm S1, hl, ?_⟩ (fun j σ H' _ h => SqL.of h.2.2.1) (fun j x σ H2 hx h => ?_) fun σ H2 h => ?_⟩
  · rw [gone_zero]
    exact ⟨MA.it.keep (S1.keep _ _ MA.it.it) fun b vs e => S1 _ _ e, MA.ok⟩
  · obtain ⟨⟨o2, rfl⟩, C, hl2, MA2⟩ := h
    rw [List.getElem?_map] at hx
    obtain ⟨e, he, rfl⟩ := Option.map_eq_some_iff.mp hx
    have me : e ∈ benM M nm ks := List.mem_of_getElem? he
    have mM : e ∈ M := (List.mem_filter.mp me).1
    have Re : RefT H2 e.a e.nm e.ks := (MA.ref mM).keep fun a vs h => C.keep (fun z => by
      rw [z, MA.it.it] at h
      cases h) h
    have nj : e.path ∉ ((benM M nm ks).take j).map ME.path := fun z => by
      obtain ⟨f, hf, ef⟩ := List.mem_map.mp z
      obtain ⟨i, hi, hfi⟩ := List.mem_iff_getElem.mp hf
      rw [List.length_take] at hi
      rw [List.getElem_take] at hfi
      have hjl := (List.getElem?_eq_some_iff.mp he).1
      have e1 : ((benM M nm ks).map ME.path)[i]? = some e.path := by rw [List.getElem?_map, List.getElem?_eq_getElem (by omega), hfi, ← ef]; rfl
      have e2 : ((benM M nm ks).map ME.path)[j]? = some e.path := by rw [List.getElem?_map, he]; rfl
      have := (List.getElem?_inj (by rw [List.length_map]; omega) nd).mp (e1.trans e2.symm)
      omega
    have mg : e ∈ gone M (benM M nm ks) j := List.mem_filter.mpr ⟨mM, decide_eq_true nj⟩
    have hv : DN.val ((gone M (benM M nm ks) j).map entM) (keyM e.nm e.ks) = some (.str e.z) := DN.val_of_mem MA2.it.nd (List.mem_map.mpr ⟨e, mg, rfl⟩)
    refine ⟨_, rfl, ⟨m, _, rfl, MA2.it.rd⟩, _, rfl, e.a, m, .str e.z, _, keyM e.nm e.ks, rfl, rfl, MA2.it, Re.nk, keyM_depth _ _, hv, ?_⟩
    have hup := Ch.upd (W := fun a => a = m) (p := m) (o := DN.dnO w m (DN.drop ((gone M (benM M nm ks) j).map entM) (keyM e.nm e.ks))) rfl MA2.it.it rfl
    have at3 := MA2.it.drop (keyM e.nm e.ks)
    rw [gone_next he] at at3 hup
    refine ⟨⟨_, rfl⟩, C.trans (by rw [gone_next he]; exact hup), ?_, ?_⟩
    · rw [upd_ne (Ne.symm ml)]
      exact hl2
    · rw [gone_next he]
      exact ⟨at3, fun f hf => MA.ok f (gone_sub hf)⟩
  · obtain ⟨⟨o2, rfl⟩, C, hl2, MA2⟩ := h
    dsimp only
    refine run_ret ⟨_, rfl, l, _, rfl, .inl (SqL.of hl2), ?_⟩
    rw [List.length_map] at MA2 ⊢
    rw [gone_all] at MA2
    exact q _ C MA2
end
/-! ### two things that are the same are told to be so -/
def okD : Nat → D → Bool
  | 0, .non => true
  | 0, .bl _ => true
  | 0, .int _ => true
  | 0, .str _ => true
  | 0, _ => false
  | J + 1, .lst l => l.all (okD J)
  | J + 1, .tup l => l.all (okD J)
  | _ + 1, .dic => false
  | _ + 1, _ => true
def Av0 : Addr → Prop := fun _ => False
abbrev Is (K : PySem.W.Frag) (H : Hp) (v : V) (d : D) : Prop := Th K Av0 1000 H v d
abbrev IsAll (K : PySem.W.Frag) (H : Hp) (vs : List V) (ds : List D) : Prop := ThAll K Av0 1000 H vs ds
theorem Is.sm {K : PySem.W.Frag} {H H' : Hp} {v : V} {d : D} (h : Is K H v d) (S : Sm H H') : Is K H' v d := Th.koW (fun _ _ z _ => z.elim) (KO.sm S) h
theorem IsAll.sm {K : PySem.W.Frag} {H H' : Hp} {v : List V} {d : List D} (h : IsAll K H v d) (S : Sm H H') : IsAll K H' v d := ThAll.koW (fun _ _ z _ => z.elim) (KO.sm S) h
def spSame (K : PySem.W.Frag) (J : Nat) : Sp := fun vs H Q _ => ∃ (v u : V) (d : D), vs = [v, u] ∧ Is K H v d ∧ Is K H u d ∧ okD J d = true ∧ ∀ H', Sm H H' → Q (.bl true) H'
theorem kit_row {K : PySem.W.Frag} (d : D) : PySem.W.kitAny K (.type d.ty) [.type "list", .type "tuple"] = some (d.isLst || d.isTup) := by
  refine kitAny_cons (kitL d) (fun e => ?_) (fun e => by rw [e]; rfl)
  rw [e, Bool.false_or]
  refine kitAny_cons (kitT d) (fun e2 => ?_) (fun e2 => e2)
  rw [e2]
  rfl
theorem isrow {K : PySem.W.Frag} {i : Nat} {v : V} {d : D} {σ : L2.St} {H : Hp} {Q : VK} (hs : σ[i]? = some (some v)) (h : Is K H v d) (q : ∀ H', Sm H H' → Q (.bl (d.isLst || d.isTup)) H') :
    tCB (rIsiT K) (tCons (tVar i) (tCons (tTup (tCons (tC (V.ty "list")) (tCons (tC (V.ty "tuple")) tNil))) tNil)) σ H Q := by
  refine ⟨_, hs, small (by show 2 ≤ 100000; decide), fun p hp => ?_⟩
  have S1 := Sm.new (o := .tup [V.ty "list", .ty "tuple"]) hp
  exact ⟨v, p, _, _, _, _, rfl, upd_same, .cons (ClsV.ty "list") (.cons (ClsV.ty "tuple") .nil), (Is.sm h S1).tyx, kit_row d, q _ S1⟩
theorem rowD_of {K : PySem.W.Frag} {H : Hp} {v : V} {d : D} (h : Is K H v d) (c : (d.isLst || d.isTup) = true) : ∃ a xs ds, v = .ref a ∧ (SqL K H a xs ∨ SqT K H a xs) ∧ IsAll K H xs ds ∧ xs.length ≤ 40 + 1000 ∧ (d = .lst ds ∨ d = .tup ds) := by
  cases h with
  | lst g1 g2 g3 g4 => exact ⟨_, _, _, rfl, .inl (SqL.of g1), g4, g3, .inl rfl⟩
  | tup g1 g2 g3 => exact ⟨_, _, _, rfl, .inr g1, g3, g2, .inr rfl⟩
  | _ => cases c
theorem eqv_atom (b : Bool) : PyData.eqv (.bool b) (.bool b) = true := by
  show (b == b) = true
  simp
section
variable {P : Program} {w : World} {K : PySem.W.Frag} {mg : Str → Option Value} {base : Heap} {cs : Tabs}
theorem same_none (T : Txt K mg cs) : Cal P w K mg base 1 "_law_same" ["found", "due"] (fun _ _ _ _ => False) := by
  refine T.f_law_same.cal scLawSame (fun vs H Q E h => h.elim) (fun f cdv A outer s H vs Q E hr h => h.elim)
theorem same_next (T : Txt K mg cs) {k : Nat} {sp' : Sp} (C_law_same : Cal P w K mg base (k + 1) "_law_same" ["found", "due"] sp') (J : Nat) (hsp : ∀ j, J = j + 1 → ∀ vs H Q E, spSame K j vs H Q E → sp' vs H Q E) : Cal P w K mg base (k + 2) "_law_same" ["found", "due"] (spSame K J) := by
  refine T.f_law_same.cal scLawSame (fun vs H Q E h => ?_) (fun f cdv A outer s H vs Q E hr h => ?_)
  · obtain ⟨_, _, _, rfl, _⟩ := h
    rfl
  obtain ⟨v, u, d, rfl, hv, hu, hd, q⟩ := h
  refine ⟨_, (pss_cons (ps_if (pt_val (pe_callB (isIT K) rfl T.n_isinstance (by decide +kernel) (pa_cons (pv 1) (pa_cons (pe_tup (pa_cons (pe_bltn (v := .ty "list") rfl T.n_list (by decide +kernel) rfl) (pa_cons (pe_bltn (v := .ty "tuple") rfl T.n_tuple (by decide +kernel) rfl) pa_nil))) pa_nil)))) (pss_cons (ps_if (PW.pt (pw_or (pt_cmpR op_ne (pe_callB (isI K) rfl T.n_isinstance (by decide +kernel) (pa_cons (pv 0) (pa_cons (pe_bltn (v := .ty "list") rfl T.n_list (by decide +kernel) rfl) pa_nil))) (pe_callB (isI K) rfl T.n_isinstance (by decide +kernel) (pa_cons (pv 1) (pa_cons (pe_bltn (v := .ty "list") rfl T.n_list (by decide +kernel) rfl) pa_nil))) (nomark _)) (pw_or1 (pt_not (pt_val (pe_callB (isIT K) rfl T.n_isinstance (by decide +kernel) (pa_cons (pv 0) (pa_cons (pe_tup (pa_cons (pe_bltn (v := .ty "list") rfl T.n_list (by decide +kernel) rfl) (pa_cons (pe_bltn (v := .ty "tuple") rfl T.n_tuple (by decide +kernel) rfl) pa_nil))) pa_nil)))))))) (pss_one (ps_ret pe_bl)) pss_nil)
        (pss_one (ps_ret (pe_and (pe_cmpR op_eq (pe_callB (lenQ K) rfl T.n_len (by decide +kernel) (pa_cons (pv 0) pa_nil)) (pe_callB (lenQ K) rfl T.n_len (by decide +kernel) (pa_cons (pv 1) pa_nil)) (nomark _)) (pe_one (pe_callB (allL (K := K) rfl) rfl T.n_all (by decide +kernel) (pa_cons (pe_lc (own := [("k", 2)]) (g := gName 2) (tt := tYes) rfl scLawSame.nd (pi_range1 rfl T.n_range (pa_cons (pe_callB (lenQ K) rfl T.n_len (by decide +kernel) (pa_cons (pv 1) pa_nil)) pa_nil)) (blkOk_by (own := [("k", 2)]) (N := ["found", "due", "k"]) (sc := defScope sLawSame) (by decide +kernel)) (fun _ _ _ _ _ => (pg_name (i := 2) scLawSame.nd rfl (by first | exact Or.inl rfl | exact Or.inr rfl))) (fun _ _ _ _ _ => pts_nil) (fun _ _ _ _ _ => (pe_cal C_law_same (hr.mono (by first | decide | omega)) (pa_cons (pe_ix (IxR.or (ixL K) (ixT K)) (pv 0) (pv 2) (fun _ _ => rfl)) (pa_cons (pe_ix (IxR.or (ixL K) (ixT K)) (pv 1) (pv 2) (fun _ _ => rfl)) pa_nil))))) pa_nil))))))) pss_nil)
    (pss_cons (ps_if (pt_cmpR op_isN (pv 1) pe_non (nomark _)) (pss_one (ps_ret (pe_cmpR op_isN (pv 0) pe_non (nomark _)))) pss_nil)
    (pss_cons (ps_if (PW.pt (pw_or (pt_cmpR op_ne (pe_callB (isI K) rfl T.n_isinstance (by decide +kernel) (pa_cons (pv 0) (pa_cons (pe_bltn (v := .ty "bool") rfl T.n_bool (by decide +kernel) rfl) pa_nil))) (pe_callB (isI K) rfl T.n_isinstance (by decide +kernel) (pa_cons (pv 1) (pa_cons (pe_bltn (v := .ty "bool") rfl T.n_bool (by decide +kernel) rfl) pa_nil))) (nomark _)) (pw_or1 (pt_cmpR op_ne (pe_callB (isI K) rfl T.n_isinstance (by decide +kernel) (pa_cons (pv 0) (pa_cons (pe_bltn (v := .ty "int") rfl T.n_int (by decide +kernel) rfl) pa_nil))) (pe_callB (isI K) rfl T.n_isinstance (by decide +kernel) (pa_cons (pv 1) (pa_cons (pe_bltn (v := .ty "int") rfl T.n_int (by decide +kernel) rfl) pa_nil))) (nomark _))))) (pss_one (ps_ret pe_bl)) pss_nil)
    (pss_one (ps_ret (pe_cmpR (eqD K hr.units) (pv 0) (pv 1) (nomark _))))))), ?_⟩
  refine run_if (isrow (i := 1) rfl hu fun H1 S1 => ⟨_, rfl, ?_⟩)
  have v1 := Is.sm hv S1
  have u1 := Is.sm hu S1
  refine ite2 (fun c => ?_) (fun c => ?_)
  · refine run_if ?_
    refine ⟨_, rfl, _, _, _, _, _, rfl, ClsV.ty "list", v1.tyx, kitL d, _, rfl, _, _, _, _, _, rfl, ClsV.ty "list", u1.tyx, kitL d, rfl, _, rfl, ?_⟩
    have e : (!decide (V.bl d.isLst = V.bl d.isLst)) = false := by rw [decide_eq_true rfl]; rfl
    rw [e]
    refine iteF ?_
    refine isrow (i := 0) rfl v1 fun H2 S2 => ⟨_, rfl, ?_⟩
    rw [c]
    refine iteF ?_
    refine run_next ?_
    dsimp only
    have S02 := S1.trans S2
    obtain ⟨a, xs, ds, rfl, ra, va, la, da⟩ := rowD_of (Is.sm v1 S2) c
    obtain ⟨b, ys, es, rfl, rb, ub, lb, db⟩ := rowD_of (Is.sm u1 S2) c
    have ed : es = ds := by
      rcases da with rfl | rfl <;> rcases db with db | db <;> cases db <;> rfl
    subst ed
    have lx := va.len
    have ly := ub.len
    refine run_ret ⟨_, rfl, a, xs, rfl, ra, _, rfl, b, ys, rfl, rb, rfl, _, rfl, ?_⟩
    rw [lx, ly]
    refine ite2 (fun _ => ?_) (fun c => absurd (decide_eq_true rfl) c)
    obtain ⟨j, rfl⟩ : ∃ j, J = j + 1 := by
      cases J with
      | zero => rcases da with rfl | rfl <;> cases hd
      | succ j => exact ⟨j, rfl⟩
    have hall : es.all (okD j) = true := by
      rcases da with rfl | rfl <;> exact hd
    dsimp only [tCB, tCons, tNil]
    refine lc_picked (i := 2) (n := es.length) (p := fun _ => true) (g := fun _ => V.bl true) (fun R h => ⟨_, (by rfl), b, ys, rfl, rb, by rw [ly]; exact h _ (Sm.refl _)⟩) (by omega) (fun j H3 _ S3 R hR => hR H3 (Sm.refl _)) (fun i H3 hi S3 R hR => ?_) fun D H3 S3 hD => ?_
    · have sx : ∀ {a : Addr} {zs : List V}, (SqL K H2 a zs ∨ SqT K H2 a zs) → (SqL K H3 a zs ∨ SqT K H3 a zs) := fun h => h.imp (fun h => Sm.seq S3 h) fun h => Sm.seqT S3 h
      have ix : xs[i]? = some (xs[i]'(by omega)) := List.getElem?_eq_getElem _
      have iy : ys[i]? = some (ys[i]'(by omega)) := List.getElem?_eq_getElem _
      obtain ⟨d1, hd1, t1⟩ := va.at (i := i) (by omega)
      obtain ⟨d2, hd2, t2⟩ := ub.at (i := i) (by omega)
      have ee : d2 = d1 := Option.some.inj (hd2.symm.trans hd1)
      subst ee
      have od : okD j d2 = true := List.all_eq_true.mp hall _ (List.mem_of_getElem? hd1)
      have fin : sp' [xs[i]'(by omega), ys[i]'(by omega)] H3 R E0 := hsp j rfl _ _ _ _ ⟨_, _, d2, rfl, Is.sm t1 S3, Is.sm t2 S3, od, fun H4 S4 => hR H4 S4⟩
      have at1 : ∀ {a : Addr} {zs : List V} {z : V} {Q : VK}, (SqL K H3 a zs ∨ SqT K H3 a zs) → zs[i]? = some z → Q z H3 → (rIxL K (.ref a) (.int (0 + (i : Int))) H3 Q ∨ rIxT K (.ref a) (.int (0 + (i : Int))) H3 Q) := fun {a zs z Q} h e q => by
        rw [Int.zero_add]
        rcases h with h | h
        · exact .inl ⟨a, zs, (i : Int), z, rfl, rfl, h, atI_nat e, q⟩
        · exact .inr ⟨a, zs, (i : Int), z, rfl, rfl, h, atI_nat e, q⟩
      refine ⟨_, (by rfl), _, (by rfl), at1 (sx ra) ix ⟨_, (by rfl), _, (by rfl), at1 (sx rb) iy fin⟩⟩
    · refine ⟨D, ((List.range es.length).filter fun _ => true).map fun _ => true, rfl, ?_, ?_⟩
      · rw [List.map_map]
        exact SqL.of hD
      · have e1 : (((List.range es.length).filter fun _ => true).map fun _ => true).all id = true := by
          rw [List.all_map]
          exact List.all_eq_true.mpr fun _ _ => rfl
        rw [e1]
        exact q _ (S02.trans S3)
  refine run_next ?_
  dsimp only
  have atom : (u = v ∧ ((d = .non ∧ v = .non) ∨ (∃ x, d = .bl x ∧ v = .bl x) ∨ (∃ x, d = .int x ∧ v = .int x) ∨ ∃ x, d = .str x ∧ v = .str x ∧ PyData.strOk x = true)) := by
    cases v1 with
    | non => cases u1; exact ⟨rfl, .inl ⟨rfl, rfl⟩⟩
    | bl x => cases u1; exact ⟨rfl, .inr (.inl ⟨x, rfl, rfl⟩)⟩
    | int x h => cases u1; exact ⟨rfl, .inr (.inr (.inl ⟨x, rfl, rfl⟩))⟩
    | str x h1 h2 => cases u1; exact ⟨rfl, .inr (.inr (.inr ⟨x, rfl, rfl, strOk_of fun c hc => by have := h2 c hc; omega⟩))⟩
    | lst _ _ _ _ => exact absurd rfl c
    | tup _ _ _ => exact absurd rfl c
    | dic _ =>
      cases J with
      | zero => cases hd
      | succ j => cases hd
  obtain ⟨rfl, at'⟩ := atom
  refine run_if ⟨_, rfl, rfl, _, rfl, ?_⟩
  refine ite2 (fun c1 => ?_) (fun c1 => ?_)
  · have e1 : u = .non := of_decide_eq_true c1
    subst e1
    exact run_ret ⟨_, rfl, rfl, q _ S1⟩
  refine run_next ?_
  dsimp only
  refine run_if ?_
  refine ⟨_, rfl, _, _, _, _, _, rfl, ClsV.ty "bool", v1.tyx, kitB' d, _, rfl, _, _, _, _, _, rfl, ClsV.ty "bool", u1.tyx, kitB' d, rfl, _, rfl, ?_⟩
  have e : ∀ b : Bool, (!decide (V.bl b = V.bl b)) = false := fun b => by rw [decide_eq_true rfl]; rfl
  rw [e]
  refine iteF ?_
  refine ⟨_, rfl, _, _, _, _, _, rfl, ClsV.ty "int", v1.tyx, kitI d, _, rfl, _, _, _, _, _, rfl, ClsV.ty "int", u1.tyx, kitI d, rfl, _, rfl, ?_⟩
  rw [e]
  refine iteF ?_
  refine run_next ?_
  dsimp only
  refine run_ret ⟨_, rfl, _, rfl, ?_⟩
  rcases at' with ⟨rfl, rfl⟩ | ⟨x, rfl, rfl⟩ | ⟨x, rfl, rfl⟩ | ⟨x, rfl, rfl, hx⟩
  · exact absurd (decide_eq_true rfl) c1
  · refine ⟨.bool x, .bool x, .bl x, .bl x, rfl, rfl, ?_⟩
    rw [show PyData.eqv (.bool x) (.bool x) = true by show (x == x) = true; simp]
    exact q _ S1
  · refine ⟨.int x, .int x, .int x, .int x, rfl, rfl, ?_⟩
    rw [show PyData.eqv (.int x) (.int x) = true by show (x == x) = true; simp]
    exact q _ S1
  · refine ⟨.str x, .str x, .str x, .str x, ?_, ?_, ?_⟩
    · show (PyData.strOk x && _) = true
      rw [hx]
      rfl
    · show (PyData.strOk x && _) = true
      rw [hx]
      rfl
    rw [show PyData.eqv (.str x) (.str x) = true by show (x == x) = true; simp]
    exact q _ S1
theorem ok_law_same (T : Txt K mg cs) : ∀ J : Nat, Cal P w K mg base (J + 2) "_law_same" ["found", "due"] (spSame K J)
  | 0 => same_next T (same_none T) 0 fun _ h => nomatch h
  | J + 1 => same_next T (ok_law_same T J) (J + 1) fun j h vs H Q E q => by
    injection h with h
    subst h
    exact q
end
/-! ### references and rows as things -/
def dRef (nm : Str) (ks : List Str) : D := .tup [.str nm, .tup (ks.map D.str)]
def dPath : List Str × Str → D
  | (n :: k, z) => .tup [dRef n k, .str z]
  | ([], _) => .non
theorem okD_strs (ks : List Str) : ∀ J, (ks.map D.str).all (okD J) = true := fun J => by
  rw [List.all_eq_true]
  intro d hd
  obtain ⟨z, _, rfl⟩ := List.mem_map.mp hd
  cases J <;> rfl
theorem okD_ref (nm : Str) (ks : List Str) : okD 2 (dRef nm ks) = true := by
  show (okD 1 (.str nm) && (okD 1 (.tup (ks.map D.str)) && true)) = true
  rw [show okD 1 (.tup (ks.map D.str)) = (ks.map D.str).all (okD 0) from rfl, okD_strs]
  rfl
theorem okD_ref3 (nm : Str) (ks : List Str) : okD 3 (dRef nm ks) = true := by
  show (okD 2 (.str nm) && (okD 2 (.tup (ks.map D.str)) && true)) = true
  rw [show okD 2 (.tup (ks.map D.str)) = (ks.map D.str).all (okD 1) from rfl, okD_strs]
  rfl
theorem okD_path (x : List Str × Str) : okD 3 (dPath x) = true := by
  obtain ⟨q, z⟩ := x
  cases q with
  | nil => rfl
  | cons n k =>
    show (okD 2 (dRef n k) && (okD 2 (.str z) && true)) = true
    rw [okD_ref]
    rfl
theorem is_rows {K : PySem.W.Frag} {H : Hp} {nm : Str} {ks : List Str} : ∀ {ys : List V} {xs : List (List Str × Str)}, Paired (RowV H nm ks) ys xs → (∀ x ∈ xs, REF nm (ks ++ x.1) ∧ WT x.2 400) → IsAll K H ys (xs.map fun x => dPath (nm :: (ks ++ x.1), x.2))
  | _, _, .nil, _ => .nil
  | _, _, .cons (b := x) ⟨a, r, h1, h2, h3⟩ t, ok => by
    subst h1
    obtain ⟨O, W⟩ := ok x List.mem_cons_self
    exact .cons (.tup (SqT.of h2) (by show 2 ≤ 1040; decide) (.cons (th_ref h3.at_ O) (.cons (.str _ (by have := W.len; omega) W.asc) .nil))) (is_rows t fun e he => ok e (List.mem_cons_of_mem _ he))
/-! ### what the second family asks of arrays, by its dict: mathematics -/
theorem ShOk.there {S : Sh} (O : ShOk S) {p : List Str} {z : Str} (h : S.W p = some z) : (S.N p).isSome = true := by
  cases e : S.N p with
  | some _ => rfl
  | none =>
    rw [O.out _ e] at h
    cases h
theorem Same.mem_ben {S : Sh} {M : List ME} (C : Same S M) {nm : Str} {ks r : List Str} {z : Str} (h : S.W (nm :: ks ++ r) = some z) : ∃ e ∈ benM M nm ks, e.path = nm :: ks ++ r := by
  obtain ⟨e, he, ee⟩ := List.mem_map.mp ((C.mem _ _).mpr h)
  injection ee with e1 e2
  exact ⟨e, List.mem_filter.mpr ⟨he, by rw [e1]; exact pre_app _ _⟩, e1⟩
theorem Same.of_ben {S : Sh} {M : List ME} (C : Same S M) {nm : Str} {ks : List Str} {e : ME} (h : e ∈ benM M nm ks) : ∃ r, e.path = nm :: ks ++ r ∧ S.W (nm :: ks ++ r) = some e.z := by
  obtain ⟨h1, h2⟩ := List.mem_filter.mp h
  obtain ⟨r, hr⟩ := pre_of h2
  refine ⟨r, hr, ?_⟩
  rw [← hr]
  exact (C.mem _ _).mp (List.mem_map.mpr ⟨e, h1, rfl⟩)
theorem Same.ben_nodup {S : Sh} {M : List ME} (C : Same S M) (nm : Str) (ks : List Str) : ((benM M nm ks).map ME.path).Nodup := by
  have := C.nd
  unfold pathsM at this
  rw [List.map_map] at this
  exact List.Pairwise.sublist (List.Sublist.map _ List.filter_sublist) this
theorem data_eq {S : Sh} {M : List ME} (C : Same S M) (O : ShOk S) (F : Full S) (nm : Str) (ks : List Str) : dataOf S (nm :: ks) = ((if (valM M nm ks).isSome = true then 1 else 0) + 10 * (if (if (valM M nm ks).isSome = true then 1 else 0) < (benM M nm ks).length then 1 else 0) : Int) := by
  unfold dataOf
  rw [C.val]
  have cn := C.cnt O nm ks
  have nd := C.ben_nodup nm ks
  cases e : S.N (nm :: ks) with
  | none =>
    rw [O.out _ e]
    unfold cntAt at cn
    rw [e] at cn
    have cn' : 0 = (benM M nm ks).length := cn
    rw [← cn']
    rfl
  | some n =>
    have row := O.row_of F e
    have out : S.R (nm :: ks) ≠ [] → (if (S.W (nm :: ks)).isSome = true then 1 else 0) < (benM M nm ks).length := fun h => by
      obtain ⟨k, r, z, hz⟩ := row.mp h
      obtain ⟨e1, m1, p1⟩ := C.mem_ben hz
      cases ew : S.W (nm :: ks) with
      | none =>
        show 0 < _
        exact List.length_pos_of_mem m1
      | some y =>
        show 1 < _
        obtain ⟨e2, m2, p2⟩ := C.mem_ben (r := []) (by rw [List.append_nil]; exact ew)
        have ne : e1 ≠ e2 := fun z => by
          rw [z, p2] at p1
          have := congrArg List.length p1
          simp at this
        match hb : benM M nm ks, m1, m2 with
        | [x], m1, m2 =>
          rw [List.mem_singleton.mp m1, List.mem_singleton.mp m2] at ne
          exact absurd rfl ne
        | x :: y :: r, _, _ => simp
    have back : (if (S.W (nm :: ks)).isSome = true then 1 else 0) < (benM M nm ks).length → S.R (nm :: ks) ≠ [] := fun h => by
      refine row.mpr ?_
      have : ∃ e ∈ benM M nm ks, e.path ≠ nm :: ks := by
        cases ew : S.W (nm :: ks) with
        | none =>
          rw [ew] at h
          have h : 0 < (benM M nm ks).length := h
          obtain ⟨e1, m1⟩ := List.exists_mem_of_length_pos h
          refine ⟨e1, m1, fun z => ?_⟩
          obtain ⟨r, h1, h2⟩ := C.of_ben m1
          rw [← h1, z, ew] at h2
          cases h2
        | some y =>
          rw [ew] at h
          have h : 1 < (benM M nm ks).length := h
          match hb : benM M nm ks, h with
          | x :: y :: r, _ =>
            rw [hb, List.map_cons, List.map_cons, List.nodup_cons] at nd
            by_cases c : x.path = nm :: ks
            · refine ⟨y, by simp, fun z => nd.1 ?_⟩
              rw [c, ← z]
              exact List.mem_cons_self
            · exact ⟨x, List.mem_cons_self, c⟩
      obtain ⟨e1, m1, ne⟩ := this
      obtain ⟨r, h1, h2⟩ := C.of_ben m1
      cases r with
      | nil => exact absurd (by rw [h1, List.append_nil]) ne
      | cons k r => exact ⟨k, r, _, h2⟩
    have key : (if S.R (nm :: ks) = [] then (0 : Int) else 10) = 10 * (if (if (S.W (nm :: ks)).isSome = true then 1 else 0) < (benM M nm ks).length then 1 else 0) := by
      by_cases c : S.R (nm :: ks) = []
      · rw [if_pos c, if_neg fun h => back h c]
        rfl
      · rw [if_neg c, if_pos (out c)]
        rfl
    rw [if_pos (show (some n).isSome = true from rfl), key]
    congr 1
    cases S.W (nm :: ks) with
    | none => rfl
    | some y => rfl
/-! #### names -/
theorem nm_not {z : Str} (h : NM z) : isN z = false := by
  unfold isN
  obtain ⟨c, r, e⟩ : ∃ c r, tl z = c :: r := by
    cases e : tl z with
    | nil =>
      have := h.pos
      rw [e] at this
      cases this
    | cons c r => exact ⟨c, r, rfl⟩
  have hc := h.sg c (by rw [e]; exact List.mem_cons_self)
  unfold AZ at hc
  rw [Bool.and_eq_true] at hc
  have c1 := of_decide_eq_true hc.1
  have nf : isF c = false := by
    unfold isF
    rw [tl_FG]
    refine decide_eq_false fun m => ?_
    simp only [List.mem_cons, List.not_mem_nil, or_false] at m
    omega
  rw [e]
  have eb : bareOf (c :: r) = c :: r := by
    unfold bareOf
    split
    · rename_i q
      injection q with q1 q2
      omega
    · rfl
  unfold isNum
  rw [eb]
  split
  · rename_i q
    injection q with q1 q2
    omega
  · rename_i f q1
    rw [List.all_cons, nf, Bool.false_and, Bool.and_false]
theorem rising_pair : ∀ (l : List Str) (p : Str), PyProof.Rows.risingS p l = true → (∀ y ∈ l, ¬ tl y < tl p) ∧ l.Pairwise fun x y => ¬ tl y < tl x
  | [], p, _ => ⟨fun _ h => (nomatch h), .nil⟩
  | x :: r, p, h => by
    have h' : (!PySem.Spec.ltCps x.cps.toList p.cps.toList && PyProof.Rows.risingS x r) = true := h
    rw [Bool.and_eq_true, PyProof.Rows.ltCps_eq] at h'
    have h1 : ¬ tl x < tl p := fun z => by
      have e := h'.1
      rw [show decide (x.cps.toList < p.cps.toList) = true from decide_eq_true z] at e
      cases e
    obtain ⟨i1, i2⟩ := rising_pair r x h'.2
    refine ⟨fun y hy => ?_, List.pairwise_cons.mpr ⟨i1, i2⟩⟩
    rcases List.mem_cons.mp hy with rfl | hy
    · exact h1
    · exact fun z => h1 (List.lt_of_le_of_lt (List.not_lt.mp (i1 y hy)) z)
theorem sorted_pair {l : List Str} (h : PyProof.Rows.sortedS l = true) : l.Pairwise fun x y => ¬ tl y < tl x := by
  cases l with
  | nil => exact .nil
  | cons x r =>
    obtain ⟨i1, i2⟩ := rising_pair r x h
    exact List.pairwise_cons.mpr ⟨i1, i2⟩
theorem Same.names {S : Sh} {M : List ME} (C : Same S M) (O : ShOk S) (F : Full S) (k : Str) : k ∈ S.R [] ↔ k ∈ M.map ME.nm := by
  obtain ⟨n, hn⟩ := O.root
  rw [O.row [] n hn k, List.mem_map, List.nil_append]
  constructor
  · intro h
    have : ∃ r z, S.W (k :: r) = some z := by
      rcases F [] k h with a | a
      · obtain ⟨z, hz⟩ := Option.ne_none_iff_exists'.mp a
        exact ⟨[], z, hz⟩
      · obtain ⟨x, hx⟩ := Option.isSome_iff_exists.mp h
        obtain ⟨j, r, z, e⟩ := (O.row_of F hx).mp a
        exact ⟨j :: r, z, e⟩
    obtain ⟨r, z, e⟩ := this
    obtain ⟨x, hx, ex⟩ := List.mem_map.mp ((C.mem _ _).mpr e)
    injection ex with e1 _
    injection e1 with e1 _
    exact ⟨x, hx, e1⟩
  · rintro ⟨e, he, rfl⟩
    have := (C.mem e.path e.z).mp (List.mem_map.mpr ⟨e, he, rfl⟩)
    exact O.up e.ks [e.nm] (O.there this)
theorem names_eq {S : Sh} {M : List ME} (C : Same S M) (O : ShOk S) (F : Full S) (ok : ∀ e ∈ M, NM e.nm) {ks : List Str} (h1 : PyProof.Rows.sortedS ks = true) (h2 : ks.Nodup) (h3 : ∀ k, k ∈ ks ↔ k ∈ M.map ME.nm) : S.R [] = ks := by
  obtain ⟨n, hn⟩ := O.root
  have mem : ∀ k, k ∈ S.R [] ↔ k ∈ ks := fun k => (C.names O F k).trans (h3 k).symm
  have nmk : ∀ k ∈ ks, isN k = false := fun k hk => by
    obtain ⟨e, he, rfl⟩ := List.mem_map.mp ((h3 k).mp hk)
    exact nm_not (ok e he)
  refine List.Perm.eq_of_pairwise (fun _ _ _ _ a b => ahead_same b a) (le := fun x y => ahead y x = false) ?_ ?_ ((List.perm_ext_iff_of_nodup (row_nodup O hn) h2).mpr mem)
  · exact (O.srt [] n hn).imp fun {a b} h => ahead_one h
  · refine List.Pairwise.imp_of_mem (fun {a b} ha hb h => ?_) (sorted_pair h1)
    rw [ahead_oo (nmk b hb) (nmk a ha)]
    exact decide_eq_false h
/-! ### which key is nearer -/
def sideB (x z : Str) (t : Bool) : Bool := decide (z = "") || (!decide (x = z) && (ahead x z == t))
def nearB (x z y : Str) (t : Bool) : Bool := sideB x z t && (decide (y = "") || (ahead x y != t))
/-! ### the dict's references, sorted, are the tree's nodes, walked -/
theorem lt_names {x y : Str} (ne : x ≠ y) : tl x < tl y ∨ tl y < tl x := by
  by_cases h : tl x < tl y
  · exact .inl h
  · refine .inr ?_
    by_cases g : tl y < tl x
    · exact g
    · exact absurd (ext_tl (List.le_antisymm (List.not_lt.mp g) (List.not_lt.mp h))) ne
theorem rlt_same (nm : Str) (a b : List Str) : rlt nm a nm b = wlt a b := if_pos rfl
theorem rlt_one {n1 n2 : Str} {k1 k2 : List Str} (h : rlt n1 k1 n2 k2 = true) : rlt n2 k2 n1 k1 = false := by
  by_cases e : n1 = n2
  · subst e
    rw [rlt_same] at h ⊢
    exact wlt_one h
  · unfold rlt at h ⊢
    rw [if_neg e] at h
    rw [if_neg (Ne.symm e)]
    exact decide_eq_false (List.lt_asymm (of_decide_eq_true h))
theorem rlt_two {n1 n2 : Str} {k1 k2 : List Str} (h : ¬ (n1 = n2 ∧ k1 = k2)) : rlt n1 k1 n2 k2 = true ∨ rlt n2 k2 n1 k1 = true := by
  by_cases e : n1 = n2
  · subst e
    rw [rlt_same, rlt_same]
    exact wlt_two fun z => h ⟨rfl, z⟩
  · unfold rlt
    rw [if_neg e, if_neg (Ne.symm e)]
    exact (lt_names e).imp decide_eq_true decide_eq_true
theorem rlt_tr {n1 n2 n3 : Str} {k1 k2 k3 : List Str} (h : rlt n1 k1 n2 k2 = true) (g : rlt n2 k2 n3 k3 = true) : rlt n1 k1 n3 k3 = true := by
  by_cases e : n1 = n2
  · subst e
    by_cases e2 : n1 = n3
    · subst e2
      rw [rlt_same] at h g ⊢
      exact wlt_tr h g
    · unfold rlt at g ⊢
      rw [if_neg e2] at g ⊢
      exact g
  · have h' : tl n1 < tl n2 := by
      unfold rlt at h
      rw [if_neg e] at h
      exact of_decide_eq_true h
    by_cases e2 : n2 = n3
    · subst e2
      unfold rlt
      rw [if_neg e]
      exact decide_eq_true h'
    · have g' : tl n2 < tl n3 := by
        unfold rlt at g
        rw [if_neg e2] at g
        exact of_decide_eq_true g
      have lt := List.lt_trans h' g'
      have ne : n1 ≠ n3 := fun z => by
        subst z
        exact List.lt_irrefl _ lt
      unfold rlt
      rw [if_neg ne]
      exact decide_eq_true lt
theorem leM_tr (a b c : ME) (h : leM a b = true) (g : leM b c = true) : leM a c = true := by
  unfold leM at *
  rw [Bool.not_eq_true'] at *
  cases e : rlt c.nm c.ks a.nm a.ks with
  | false => rfl
  | true =>
    exfalso
    by_cases z : b.nm = a.nm ∧ b.ks = a.ks
    · rw [z.1, z.2, e] at g
      cases g
    · rcases rlt_two z with w | w
      · rw [w] at h
        cases h
      · rw [rlt_tr e w] at g
        cases g
theorem leM_to (a b : ME) : (leM a b || leM b a) = true := by
  unfold leM
  cases e : rlt b.nm b.ks a.nm a.ks with
  | false => rfl
  | true => rw [rlt_one e]; rfl
theorem sorted_M (es : List ME) : (es.mergeSort leM).Pairwise fun a b => leM a b = true := List.pairwise_mergeSort leM_tr leM_to es
/-- what rows tells is what the dict has beneath -/
theorem rows_due {S : Sh} {M : List ME} (C : Same S M) (O : ShOk S) (nm : Str) (ks : List Str) : ((benM M nm ks).mergeSort leM).map (fun e => (e.path, e.z)) = (rowsS S nm ks).map fun x => (nm :: (ks ++ x.1), x.2) := by
  unfold rowsS
  by_cases c : (S.N (nm :: ks)).isSome = true
  · rw [if_pos c]
    have mem : ∀ {e : ME}, e ∈ (benM M nm ks).mergeSort leM → ∃ r, e.path = nm :: ks ++ r ∧ S.W e.path = some e.z := fun {e} h => by
      obtain ⟨r, h1, h2⟩ := C.of_ben ((List.mergeSort_perm _ _).mem_iff.mp h)
      exact ⟨r, h1, by rw [h1]; exact h2⟩
    have perm : (((benM M nm ks).mergeSort leM).map fun e => (e.path, e.z)).Perm ((walkF 8 S (nm :: ks)).map fun x => (nm :: (ks ++ x.1), x.2)) := by
      refine (List.Perm.map _ (List.mergeSort_perm _ _)).trans ?_
      have p := Cont.part C O c
      have e : (benM M nm ks).map (fun e => (e.path, e.z)) = (pathsM M).filter fun x => (nm :: ks).isPrefixOf x.1 := by
        unfold benM pathsM
        rw [List.filter_map]
        rfl
      rw [e]
      exact p.symm
    refine List.Perm.eq_of_pairwise (le := fun x y : List Str × Str => wlt y.1 x.1 = false) (fun x y hx hy a b => ?_) ?_ ?_ perm
    · have e := wlt_anti a b
      have hy' := perm.mem_iff.mpr hy
      obtain ⟨e1, h1, rfl⟩ := List.mem_map.mp hx
      obtain ⟨e2, h2, rfl⟩ := List.mem_map.mp hy'
      obtain ⟨_, _, w1⟩ := mem h1
      obtain ⟨_, _, w2⟩ := mem h2
      have e' : e2.path = e1.path := e
      rw [e', w1] at w2
      injection w2 with w2
      show (e1.path, e1.z) = (e2.path, e2.z)
      rw [e', w2]
    · rw [List.pairwise_map]
      refine List.Pairwise.imp_of_mem (fun {a b} ha hb h => ?_) (sorted_M (benM M nm ks))
      obtain ⟨r1, p1, _⟩ := mem ha
      obtain ⟨r2, p2, _⟩ := mem hb
      unfold leM at h
      rw [Bool.not_eq_true'] at h
      have n1 : a.nm = nm := by
        unfold ME.path at p1
        injection p1
      have n2 : b.nm = nm := by
        unfold ME.path at p2
        injection p2
      show wlt (b.nm :: b.ks) (a.nm :: a.ks) = false
      rw [n1, n2] at h
      rw [n1, n2, wlt_same]
      rw [rlt_same] at h
      exact h
    · rw [List.pairwise_map]
      refine (walk_srt O 8 _ c).imp fun {a b} h => ?_
      show wlt (nm :: (ks ++ b.1)) (nm :: (ks ++ a.1)) = false
      rw [wlt_same, wlt_app]
      exact wlt_one h
  · rw [if_neg c]
    have e : benM M nm ks = [] := by
      cases e : benM M nm ks with
      | nil => rfl
      | cons x r =>
        obtain ⟨q, h1, h2⟩ := C.of_ben (by rw [e]; exact List.mem_cons_self)
        exact absurd (O.up q (nm :: ks) (O.there h2)) c
    rw [e, List.mergeSort_nil]
    rfl
/-! ### the dict sorted is the rows of all names -/
def lp (x y : List Str × Str) : Prop := ∀ n1 k1 n2 k2, x.1 = n1 :: k1 → y.1 = n2 :: k2 → rlt n2 k2 n1 k1 = false
theorem in_ben {M : List ME} {nm : Str} {e : ME} : e ∈ benM M nm [] ↔ e ∈ M ∧ e.nm = nm := by
  unfold benM
  rw [List.mem_filter]
  refine and_congr_right fun _ => ?_
  show (nm == e.nm && ([] : List Str).isPrefixOf e.ks) = true ↔ _
  rw [Bool.and_eq_true]
  exact ⟨fun h => (eq_of_beq h.1).symm, fun h => ⟨by rw [h]; exact beq_self_eq_true _, rfl⟩⟩
theorem whole_due {S : Sh} {M : List ME} (C : Same S M) (O : ShOk S) (F : Full S) (ok : ∀ e ∈ M, NM e.nm) : (M.mergeSort leM).map (fun e => (e.path, e.z)) = (S.R []).flatMap fun nm => (rowsS S nm []).map fun x => (nm :: ([] ++ x.1), x.2) := by
  have e2 : (fun nm => (rowsS S nm []).map fun x => (nm :: ([] ++ x.1), x.2)) = fun nm => ((benM M nm []).mergeSort leM).map fun e => (e.path, e.z) := funext fun nm => (rows_due C O nm []).symm
  rw [e2]
  obtain ⟨n, hn⟩ := O.root
  have memL : ∀ {x}, x ∈ (M.mergeSort leM).map (fun e => (e.path, e.z)) ↔ ∃ e ∈ M, (e.path, e.z) = x := fun {x} => by
    rw [List.mem_map]
    exact ⟨fun ⟨e, he, h⟩ => ⟨e, (List.mergeSort_perm _ _).mem_iff.mp he, h⟩, fun ⟨e, he, h⟩ => ⟨e, (List.mergeSort_perm _ _).mem_iff.mpr he, h⟩⟩
  have memB : ∀ {nm x}, x ∈ ((benM M nm []).mergeSort leM).map (fun e => (e.path, e.z)) ↔ ∃ e ∈ M, e.nm = nm ∧ (e.path, e.z) = x := fun {nm x} => by
    rw [List.mem_map]
    constructor
    · rintro ⟨e, he, h⟩
      obtain ⟨h1, h2⟩ := in_ben.mp ((List.mergeSort_perm _ _).mem_iff.mp he)
      exact ⟨e, h1, h2, h⟩
    · rintro ⟨e, h1, h2, h⟩
      exact ⟨e, (List.mergeSort_perm _ _).mem_iff.mpr (in_ben.mpr ⟨h1, h2⟩), h⟩
  have memR : ∀ {x}, x ∈ (S.R []).flatMap (fun nm => ((benM M nm []).mergeSort leM).map fun e => (e.path, e.z)) ↔ ∃ e ∈ M, (e.path, e.z) = x := fun {x} => by
    rw [List.mem_flatMap]
    constructor
    · rintro ⟨nm, _, h⟩
      obtain ⟨e, h1, _, h3⟩ := memB.mp h
      exact ⟨e, h1, h3⟩
    · rintro ⟨e, h1, h3⟩
      exact ⟨e.nm, (C.names O F e.nm).mpr (List.mem_map.mpr ⟨e, h1, rfl⟩), memB.mpr ⟨e, h1, rfl, h3⟩⟩
  have nd : (pathsM M).Nodup := pairs_nodup C.nd
  have rowN := row_nodup O hn
  have isn : ∀ k ∈ S.R [], isN k = false := fun k hk => by
    obtain ⟨e, he, rfl⟩ := List.mem_map.mp ((C.names O F k).mp hk)
    exact nm_not (ok e he)
  have rowS : (S.R []).Pairwise fun a b => ¬ tl b < tl a := List.Pairwise.imp_of_mem (fun {a b} ha hb h => by
    have := ahead_one h
    rw [ahead_oo (isn b hb) (isn a ha)] at this
    exact of_decide_eq_false this) (O.srt [] n hn)
  have srt : ∀ es : List ME, ((es.mergeSort leM).map fun e => (e.path, e.z)).Pairwise lp := fun es => by
    rw [List.pairwise_map]
    refine (sorted_M es).imp fun {a b} h => ?_
    intro n1 k1 n2 k2 e1 e2
    unfold leM at h
    rw [Bool.not_eq_true'] at h
    have a1 : a.nm :: a.ks = n1 :: k1 := e1
    have b1 : b.nm :: b.ks = n2 :: k2 := e2
    injection a1 with a1 a2
    injection b1 with b1 b2
    rw [← a1, ← a2, ← b1, ← b2]
    exact h
  refine List.Perm.eq_of_pairwise (le := lp) (fun x y hx hy a b => ?_) (srt M) ?_ ((List.perm_ext_iff_of_nodup ?_ ?_).mpr fun x => memL.trans memR.symm)
  · obtain ⟨e1, h1, rfl⟩ := memL.mp hx
    obtain ⟨e2, h2, rfl⟩ := memR.mp hy
    have r1 := a e1.nm e1.ks e2.nm e2.ks rfl rfl
    have r2 := b e2.nm e2.ks e1.nm e1.ks rfl rfl
    have : e1.nm = e2.nm ∧ e1.ks = e2.ks := by
      by_cases h : e1.nm = e2.nm ∧ e1.ks = e2.ks
      · exact h
      · rcases rlt_two h with w | w
        · rw [r2] at w; cases w
        · rw [r1] at w; cases w
    have ep : e1.path = e2.path := by
      unfold ME.path
      rw [this.1, this.2]
    have w1 := (C.mem e1.path e1.z).mp (List.mem_map.mpr ⟨e1, h1, rfl⟩)
    have w2 := (C.mem e2.path e2.z).mp (List.mem_map.mpr ⟨e2, h2, rfl⟩)
    rw [ep, w2] at w1
    injection w1 with w1
    rw [ep, w1]
  · refine List.pairwise_flatMap.mpr ⟨fun nm _ => srt _, ?_⟩
    refine (rowS.and rowN).imp fun {a b} h x hx y hy => ?_
    obtain ⟨e1, _, n1, rfl⟩ := memB.mp hx
    obtain ⟨e2, _, n2, rfl⟩ := memB.mp hy
    intro m1 k1 m2 k2 q1 q2
    have a1 : e1.nm :: e1.ks = m1 :: k1 := q1
    have b1 : e2.nm :: e2.ks = m2 :: k2 := q2
    injection a1 with a1 a2
    injection b1 with b1 b2
    unfold rlt
    rw [if_neg (by rw [← a1, ← b1, n1, n2]; exact fun z => h.2 z.symm), ← a1, ← b1, n1, n2]
    exact decide_eq_false h.1
  · exact ((List.mergeSort_perm _ _).map _).nodup_iff.mpr nd
  · refine List.pairwise_flatMap.mpr ⟨fun nm _ => ?_, rowN.imp fun {a b} h x hx y hy e => ?_⟩
    · refine ((List.mergeSort_perm _ _).map _).nodup_iff.mpr (nd.sublist ?_)
      exact List.Sublist.map _ List.filter_sublist
    · obtain ⟨e1, _, n1, rfl⟩ := memB.mp hx
      obtain ⟨e2, _, n2, h2⟩ := memB.mp hy
      rw [← h2] at e
      injection e with e _
      have e' : e1.nm :: e1.ks = e2.nm :: e2.ks := e
      injection e' with e' _
      exact h (by rw [← n1, ← n2, e'])
/-! ### what stands apart -/
theorem pool_own {H H' : Hp} {p : Addr} {ns ks : List Str} (A : PoolAt H p ns ks) (k : ∀ o, H p = some o → notTbl o = true → H' p = some o) {a : Addr} (h : PoolOwn H' p a) : PoolOwn H p a := by
  rcases h with rfl | ⟨n, q, h1, h2⟩
  · exact .inl rfl
  · obtain ⟨n', q', e, _⟩ := A.ex
    have := k _ e rfl
    rw [h1] at this
    injection this with this
    injection this with this
    cases this
    exact .inr ⟨n, q, e, h2⟩
theorem PoolAt.some {H : Hp} {p : Addr} {ns ks : List Str} (A : PoolAt H p ns ks) {a : Addr} (h : PoolOwn H p a) : (∃ zs : List Str, H a = some (.lst (zs.map V.str))) ∨ ∃ kvs, H a = some (.dK kvs) := by
  obtain ⟨n, k, h1, h2, h3⟩ := A.ex
  rcases h with rfl | ⟨n', k', e, h⟩
  · exact .inr ⟨_, h1⟩
  · rw [h1] at e
    injection e with e
    injection e with e
    cases e
    rcases h with rfl | rfl
    · exact .inl ⟨_, h2⟩
    · exact .inl ⟨_, h3⟩
theorem own_what {C : Addr} {H : Hp} {S : Sh} {m : Nat} (T : TreeH C H S m) {a : Addr} (h : Own S a) : (∃ zs : List Str, H a = some (.lst (zs.map V.str))) ∨ (∃ kvs, H a = some (.dK kvs)) ∨ ∃ dx fs, H a = some (.ins C dx fs) := by
  obtain ⟨q, n, e, z⟩ := h
  have B := T.at_ q n e
  obtain ⟨kvs, g, _⟩ := B.dic
  rcases z with rfl | rfl | rfl
  · exact .inr (.inr ⟨_, _, B.ins⟩)
  · exact .inl ⟨_, B.row⟩
  · exact .inr (.inl ⟨_, g⟩)
theorem bag_not {H : Hp} {b : Addr} {n : Nat} (B : Bag H b n) : (∀ zs : List Str, H b ≠ some (.lst (zs.map V.str))) ∧ (∀ kvs, H b ≠ some (.dK kvs)) ∧ (∀ C dx fs, H b ≠ some (.ins C dx fs)) ∧ (∀ x y, H b ≠ some (.lst [V.ref x, V.ref y])) ∧ (∀ w a L, H b ≠ some (DN.dnO w a L)) ∧ ∀ vs, H b ≠ some (.tup vs) := by
  obtain ⟨x, y, z, h, _⟩ := B
  rw [h]
  refine ⟨fun zs e => ?_, fun _ e => (by cases e), fun _ _ _ e => (by cases e), fun _ _ e => (by cases e), fun _ _ _ e => (by cases e), fun _ e => (by cases e)⟩
  injection e with e
  injection e with e
  cases zs with
  | nil => cases e
  | cons s r =>
    rw [List.map_cons] at e
    injection e with e1 _
    cases e1
theorem rd_ch {W : Addr → Prop} {H H' : Hp} (c : Ch W H H') {a : Addr} {u : HO} (nu : notTbl u = true) (r : L2.Rd H a u) (w : ¬ W a) : L2.Rd H' a u := r.imp (fun h => c.keep0 _ _ w h nu) fun ⟨o, h⟩ => ⟨o, c.keep0 _ _ w h rfl⟩
theorem rd_some {H : Hp} {a : Addr} {u : HO} (r : L2.Rd H a u) : H a ≠ none := fun z => by
  rcases r with h | ⟨o, h⟩ <;> (rw [z] at h; cases h)
theorem own_out {C : Addr} {H : Hp} {S : Sh} {m : Nat} (T : TreeH C H S m) : ∀ a, Own S a → (∀ vs, H a ≠ some (.tup vs)) ∧ ∀ o u, H a ≠ some (.frz o u) := fun a h => by
  rcases own_what T h with ⟨_, e⟩ | ⟨_, e⟩ | ⟨_, _, e⟩ <;> (rw [e]; exact ⟨fun _ z => (by cases z), fun _ _ z => (by cases z)⟩)
theorem ins_out {H : Hp} {d C dx : Addr} {fs : List (Str × V)} (h : H d = some (.ins C dx fs)) : ∀ a, a = d → (∀ vs, H a ≠ some (.tup vs)) ∧ ∀ o u, H a ≠ some (.frz o u) := fun a e => by
  rw [e, h]
  exact ⟨fun _ z => (by cases z), fun _ _ z => (by cases z)⟩
theorem refs_no {H : Hp} {A x y : Addr} (h : H A = some (.lst [.ref x, .ref y])) (zs : List Str) : H A ≠ some (.lst (zs.map V.str)) := fun e => by
  rw [h] at e
  injection e with e
  injection e with e
  cases zs with
  | nil => cases e
  | cons z r =>
    rw [List.map_cons] at e
    injection e with e _
    cases e
theorem refs_own {C : Addr} {H : Hp} {S : Sh} {m : Nat} {A x y : Addr} (T : TreeH C H S m) (h : H A = some (.lst [.ref x, .ref y])) : ¬ Own S A := fun z => by
  rcases own_what T z with ⟨_, e⟩ | ⟨_, e⟩ | ⟨_, _, e⟩
  · exact refs_no h _ e
  · rw [h] at e
    cases e
  · rw [h] at e
    cases e
/-! ### the second family's deeds and questions -/
/-- arrays, and the dict that holds the same -/
structure Pr (cs : Tabs) (w : World) (H : Hp) (arr m : Addr) (S : Sh) (k : Nat) (M : List ME) : Prop where
  ar : ArrAt cs H arr S k
  ma : MAt w H m M
  co : Same S M
theorem Pr.sm {cs : Tabs} {w : World} {H H' : Hp} {arr m : Addr} {S : Sh} {k : Nat} {M : List ME} (p : Pr cs w H arr m S k M) (s : Sm H H') : Pr cs w H' arr m S k M :=
  ⟨p.ar.sm s, ⟨p.ma.it.keep (s.keep _ _ p.ma.it.it) fun b vs e => s _ _ e, p.ma.ok⟩, p.co⟩
structure PrR (cs : Tabs) (w : World) (H : Hp) (arr m : Addr) (S : Sh) (k : Nat) (M : List ME) : Prop where
  ar : ArrAt cs H arr S k
  ma : MRd w H m M
  co : Same S M
theorem Pr.rd {cs : Tabs} {w : World} {H : Hp} {arr m : Addr} {S : Sh} {k : Nat} {M : List ME} (p : Pr cs w H arr m S k M) : PrR cs w H arr m S k M := ⟨p.ar, p.ma.rd, p.co⟩
theorem PrR.sm {cs : Tabs} {w : World} {H H' : Hp} {arr m : Addr} {S : Sh} {k : Nat} {M : List ME} (p : PrR cs w H arr m S k M) (s : Sm H H') : PrR cs w H' arr m S k M := ⟨p.ar.sm s, p.ma.sm s, p.co⟩
theorem Pr.apart {cs : Tabs} {w : World} {H : Hp} {arr m : Addr} {S : Sh} {k : Nat} {M : List ME} (p : Pr cs w H arr m S k M) : ¬ Own S m ∧ arr ≠ m := by
  have hm := p.ma.it.it
  refine ⟨fun z => ?_, fun z => ?_⟩
  · obtain ⟨q, n, e, z⟩ := z
    have B := p.ar.th.at_ q n e
    obtain ⟨kvs, g, _⟩ := B.dic
    rcases z with rfl | rfl | rfl
    · rw [B.ins] at hm; cases hm
    · rw [B.row] at hm; cases hm
    · rw [g] at hm; cases hm
  · obtain ⟨dx, n, h, _⟩ := p.ar.it
    rw [z, hm] at h
    cases h
theorem MAt.ch {w : World} {H H' : Hp} {m : Addr} {M : List ME} {W : Addr → Prop} (A : MAt w H m M) (c : Ch W H H') (hm : ¬ W m) (ht : ∀ a vs, W a → H a ≠ some (.tup vs)) : MAt w H' m M :=
  ⟨A.it.keep (c.keep0 _ _ hm A.it.it rfl) fun b vs e => c.keep0 _ _ (fun z => ht b vs z e) e rfl, A.ok⟩
theorem RefT.ch {H H' : Hp} {p : Addr} {nm : Str} {ks : List Str} {W : Addr → Prop} (R : RefT H p nm ks) (c : Ch W H H') (ht : ∀ a vs, W a → H a ≠ some (.tup vs)) : RefT H' p nm ks := R.keep fun b vs e => c.keep0 _ _ (fun z => ht b vs z e) e rfl
theorem own_not_tup {C : Addr} {H : Hp} {S : Sh} {m : Nat} (T : TreeH C H S m) : ∀ a vs, Own S a → H a ≠ some (.tup vs) := fun a vs h e => own_tup T e h
/-- what a deed may change -/
def Wp (S : Sh) (m b : Addr) (a : Addr) : Prop := Own S a ∨ a = m ∨ a = b
theorem okD_le {d : D} (h : okD 0 d = true) : ∀ J, okD J d = true := by
  intro J
  cases J with
  | zero => exact h
  | succ J => cases d <;> first | rfl | cases h
/-! ### where an exception is handled: tuples taken apart, lists walked, list comprehensions -/
section
open PyProof.Rows HotX
variable {prog : Program} {w : World} {A : Around} {E : Value → Shared → Prop} {s : Shared}
theorem list_end_hot {it l x1 : Addr} {i : Nat} {items : Array Value} {Q : Option Value → Shared → Prop} (hot : HotAt A x1 s.heap) (ne : x1 ≠ it) (hit : s.heap.IsListIter it l i) (hl : s.heap.IsList l items) (hx : items[i]? = none)
    (hQ : ∀ h', Heap.ExtBut it s.heap h' → Q none { s with heap := h' }) : wpAny (model prog w) A (pyNext (.ref it)) Q E s := by
  obtain ⟨o, ho, hc, hd⟩ := id hit
  obtain ⟨ol, hol, _, nl, hdl⟩ := hl
  obtain ⟨hh, o1, vs1, h1, d1, c1⟩ := hot
  unfold pyNext
  refine wpAny_bind (wpAny_attempt (wpAny_callSpecial?_slot (name := Str.ofString "__next__") hit.typeIs slot_listiter_next (wpAny_call_entry slot_listiter_next hit.typeIs entry_listiter_next ?_ (args_listiter_next _))))
  show wpAny _ _ (field (.ref it) 0 >>= _) _ _ s
  refine wpAny_bind (wpAny_field ho hd (x := .ref l) rfl ?_)
  show wpAny _ _ (if (Value.ref l == Value.none) = true then _ else _) _ _ s
  rw [if_neg (show ¬ ((Value.ref l == Value.none) = true) from Bool.false_ne_true)]
  show wpAny _ _ (field (.ref it) 1 >>= _) _ _ s
  refine wpAny_bind (wpAny_field ho hd (x := .int i 0) rfl ?_)
  show wpAny _ _ (seqItems? (.ref l) >>= _) _ _ s
  refine wpAny_bind (wpAny_seqItems hol hdl ?_)
  simp only [Int.toNat_natCast, hx]
  refine wpAny_bind (wpAny_rule (wpAny_bind (wpAny_setField ho hd (by simp) ?_)))
  have sb : Heap.SameBut it s.heap (s.heap.update it (Obj.mapFields (·.setIfInBounds 0 Value.none))) := Heap.SameBut.update ..
  have h2 := (sb.2 x1 ne).trans h1
  show wpAny _ _ (newExc (.type "StopIteration") [] >>= _) _ _ _
  refine wpAny_bind ?_
  simp only [newExc, newTuple]
  refine wpAny_bind (wpAny_newObj_type ?_ (by size_fits))
  refine wpAny_bind (m := firstArgMember _ _) (wpAny_of_eq (a := Value.none) (by first | rfl | (simp only [firstArgMember]; rfl)) ?_)
  refine wpAny_newObj_type ?_ (by size_fits)
  refine raiseNew_hot ⟨hh, o1, vs1, Heap.get?_push_of_some _ (Heap.get?_push_of_some _ h2), d1, c1⟩ (Nat.ne_of_lt (Heap.lt_size (Heap.get?_push_of_some _ h2))) (Heap.get?_push_size _ rfl) rfl (by first | (simp; done) | (simp; omega) | (simp only [Array.size_append]; simp; omega)) ?_
  refine wpAny_bind (wpAny_isInstance (T := "StopIteration") (b := true) ⟨_, Heap.get?_update_self _ (Heap.get?_push_size _ rfl) rfl, rfl⟩ isSubtype_stop ?_)
  refine wpAny_pure (hQ _ fun b o hb e => ?_)
  have e2 := (sb.2 b hb).trans e
  rw [Heap.get?_update_other _ _ (Nat.ne_of_gt (Heap.lt_size (Heap.get?_push_of_some _ e2)))]
  exact Heap.get?_push_of_some _ (Heap.get?_push_of_some _ e2)
theorem tup_end_hot {it t x1 : Addr} {i : Nat} {items : Array Value} {Q : Option Value → Shared → Prop} (hot : HotAt A x1 s.heap) (ne : x1 ≠ it) (hit : IsTupIter s.heap it t i) (ht : IsTup s.heap t items) (hx : items[i]? = none)
    (hQ : ∀ h', Heap.ExtBut it s.heap h' → Q none { s with heap := h' }) : wpAny (model prog w) A (pyNext (.ref it)) Q E s := by
  obtain ⟨o, ho, hc, hd⟩ := id hit
  obtain ⟨ol, hol, _, nl, hdl⟩ := ht
  obtain ⟨hh, o1, vs1, h1, d1, c1⟩ := hot
  unfold pyNext
  refine wpAny_bind (wpAny_attempt (wpAny_callSpecial?_slot (name := Str.ofString "__next__") hit.typeIs slot_tupleiter_next (wpAny_call_entry slot_tupleiter_next hit.typeIs entry_tupleiter_next ?_ (args_tupleiter_next _))))
  show wpAny _ _ (field (.ref it) 0 >>= _) _ _ s
  refine wpAny_bind (wpAny_field ho hd (x := .ref t) rfl ?_)
  show wpAny _ _ (if (Value.ref t == Value.none) = true then _ else _) _ _ s
  rw [if_neg (show ¬ ((Value.ref t == Value.none) = true) from Bool.false_ne_true)]
  show wpAny _ _ (field (.ref it) 1 >>= _) _ _ s
  refine wpAny_bind (wpAny_field ho hd (x := .int i 0) rfl ?_)
  show wpAny _ _ (seqItems? (.ref t) >>= _) _ _ s
  refine wpAny_bind (wpAny_seqItems hol hdl ?_)
  simp only [Int.toNat_natCast, hx]
  refine wpAny_bind (wpAny_rule (wpAny_bind (wpAny_setField ho hd (by simp) ?_)))
  have sb : Heap.SameBut it s.heap (s.heap.update it (Obj.mapFields (·.setIfInBounds 0 Value.none))) := Heap.SameBut.update ..
  have h2 := (sb.2 x1 ne).trans h1
  show wpAny _ _ (newExc (.type "StopIteration") [] >>= _) _ _ _
  refine wpAny_bind ?_
  simp only [newExc, newTuple]
  refine wpAny_bind (wpAny_newObj_type ?_ (by size_fits))
  refine wpAny_bind (m := firstArgMember _ _) (wpAny_of_eq (a := Value.none) (by first | rfl | (simp only [firstArgMember]; rfl)) ?_)
  refine wpAny_newObj_type ?_ (by size_fits)
  refine raiseNew_hot ⟨hh, o1, vs1, Heap.get?_push_of_some _ (Heap.get?_push_of_some _ h2), d1, c1⟩ (Nat.ne_of_lt (Heap.lt_size (Heap.get?_push_of_some _ h2))) (Heap.get?_push_size _ rfl) rfl (by first | (simp; done) | (simp; omega) | (simp only [Array.size_append]; simp; omega)) ?_
  refine wpAny_bind (wpAny_isInstance (T := "StopIteration") (b := true) ⟨_, Heap.get?_update_self _ (Heap.get?_push_size _ rfl) rfl, rfl⟩ isSubtype_stop ?_)
  refine wpAny_pure (hQ _ fun b o hb e => ?_)
  have e2 := (sb.2 b hb).trans e
  rw [Heap.get?_update_other _ _ (Nat.ne_of_gt (Heap.lt_size (Heap.get?_push_of_some _ e2)))]
  exact Heap.get?_push_of_some _ (Heap.get?_push_of_some _ e2)
/-- a tuple taken apart -/
theorem apart_hot {t x1 : Addr} {items : Array Value} {env : Env} {elts : List Expr} {k : Nat} {pos : Pos} {Q : Unit → Shared → Prop} (hot : HotAt A x1 s.heap) (ht : IsTup s.heap t items) (hn : (assignEach elts env).length = items.size) (hstar : (assignEach elts env).findIdx? (·.1) = none)
    (h : ∀ h', Heap.ExtBut s.heap.objs.size s.heap h' → wpAny (model prog w) A (assignInOrder ((assignEach elts env).map (·.2)) items.toList) Q E { s with heap := h' }) :
    wpAny (model prog w) A (assign (.Tuple elts k pos) env (.ref t)) Q E s := by
  have hlt : t ≠ s.heap.objs.size := by obtain ⟨o, ho, _⟩ := ht; exact Nat.ne_of_lt (Heap.lt_size ho)
  obtain ⟨hh, o1, vs1, h1, d1, c1⟩ := hot
  have hx1 : x1 ≠ s.heap.objs.size := Nat.ne_of_lt (Heap.lt_size h1)
  rw [assign_Tuple]
  refine wpAny_bind (wpAny_standAt ?_)
  unfold unpack
  rw [hn, hstar]
  refine wpAny_bind (wpAny_holding ?_)
  unfold unpackItems
  refine wpAny_bind ?_
  unfold notIterableAtAll
  refine wpAny_bind (wpAny_specialOf ht.typeIs slot_tuple_iter.lookup ?_)
  refine wpAny_pure ?_
  simp only [Bool.false_eq_true, if_false]
  refine wpAny_bind (wpAny_holding (iter_tuple ht ?_))
  refine wpAny_bind (wpAny_holding (draw_tuple hlt items.size 0 _ _ ⟨_, Heap.get?_push_size _ rfl, rfl, rfl⟩ (ht.push _) (by omega) fun ha hita hsa => ?_))
  have hall : List.take items.size (List.drop 0 items.toList) = items.toList := by
    rw [List.drop_zero]
    exact List.take_of_length_le (by simp)
  rw [hall, if_neg (by simp)]
  have hta : IsTup ha t items := (ht.push _).extBut hsa.extBut hlt
  refine wpAny_bind (wpAny_holding (tup_end_hot ⟨hh, o1, vs1, (hsa.2 x1 hx1).trans (Heap.get?_push_of_some _ h1), d1, c1⟩ hx1 hita hta (by simp) fun hb eb => ?_))
  simp only [Option.isSome_none, Bool.false_eq_true, if_false]
  exact wpAny_pure (h hb fun b o hb' e => eb b o hb' (hsa.extBut b o hb' (Heap.get?_push_of_some _ e)))
end
section
variable {X : Cx} {pos : Pos}
theorem pg_tupH {es : List Expr} {k : Nat} {t : L2.TGs} {n : Nat} (hc : L2H.HotC X) (h : PGs X es t) (hn : (assignEach es X.env).length = n := by rfl) (hst : (assignEach es X.env).findIdx? (·.1) = none := by rfl) : PG X (.Tuple es k pos) (gTup X.K n t) := by
  refine ⟨fun pins s σ H v u Q I r hw => ?_⟩
  obtain ⟨a, xs, e1, hq, hl, hw⟩ := hw
  subst e1
  cases r
  obtain ⟨its, rv, ht, hz⟩ := I.tuple hq
  obtain ⟨x1, hot⟩ := hc.at I
  refine apart_hot hot ht (by simp [hn, ← hl, rv.length]) hst fun h' hx => ?_
  have I1 : Inv X pins σ H { s with heap := h' } := I.kept (t' := s.toks) fun b o e => hx b o (Nat.ne_of_lt (Heap.lt_size e)) e
  exact h.run pins _ σ H xs _ Q I1 (by simpa using rv) hw
end
section
open PyProof.Rows
theorem turn_listH {P : Program} {w : World} {K : PySem.W.Frag} {tg : Expr} (a it : Addr) : L2H.TurnH P w K tg (Itl K a) [it] it (fun i h => h.IsListIter it a i) where
  mem := (turn_list (P := P) (w := w) (K := K) (tg := tg) a it).mem
  obj := (turn_list (P := P) (w := w) (K := K) (tg := tg) a it).obj
  keep := (turn_list (P := P) (w := w) (K := K) (tg := tg) a it).keep
  self := (turn_list (P := P) (w := w) (K := K) (tg := tg) a it).self
  item := by
    intro X hP hw hK hc i pins s σ H E I hf st hg
    subst hP hw hK
    obtain ⟨xs, x, hq, hx⟩ := hg
    obtain ⟨its, rv, pl, hz⟩ := I.list hq
    obtain ⟨u, hu, ru⟩ := rv.get hx
    obtain ⟨f0, f1, f2, f3, f4, f5⟩ := hf it (by simp)
    refine wpAny_pyNext_list_item st pl.isList (x := u) (by simpa using hu) fun h' st' sb => ?_
    obtain ⟨o, e, c, d⟩ := id st'
    exact ⟨u, rfl, go_of (s := { s with heap := h' }) e c d (by decide) ⟨x, H, I.turned (t' := s.toks) (fun b o hb e => (sb.2 b hb).trans e) f0 f1 f3 f4 f5, ru, ⟨rfl, fun ys hy => by rw [I.list_inj hy hq]; exact hx⟩, st', fun b hb => (hf b hb).1⟩⟩
  done := by
    intro X hP hw hK hc i pins s σ H E I hf st hg
    subst hP hw hK
    obtain ⟨xs, hq, hx⟩ := hg
    obtain ⟨its, rv, pl, hz⟩ := I.list hq
    obtain ⟨f0, f1, f2, f3, f4, f5⟩ := hf it (by simp)
    obtain ⟨p, ⟨hh, v1, e1, c1⟩, hp⟩ := hc
    have hl := rv.length
    exact list_end_hot ⟨hh, p.2, v1, (I.pin p (List.mem_append_left _ hp)).1, e1, c1⟩ (f5 p (List.mem_append_left _ hp)) st pl.isList (by simp; omega) fun h' eb => ⟨rfl, I.turned (t' := s.toks) (fun b o hb e => eb b o hb e) f0 f1 f3 f4 f5⟩
theorem pi_listH {X : Cx} {tg l : Expr} {tl : TE} (hl : PE X l tl) : L2H.PIH X tg l (iList X.K tl) := by
  refine ⟨fun pins s σ H R I h => ?_⟩
  refine thn (hl.run pins s σ H _ I h) fun v s1 ⟨x, H1, I1, r1, q1⟩ => ?_
  obtain ⟨a, e, ⟨xs, hq⟩, q⟩ := q1
  subst e
  cases r1
  obtain ⟨its, rv, pl, hz⟩ := I1.list hq
  refine wpAny_pyIter_list pl.isList ?_
  refine ⟨s1.heap.objs.size, [s1.heap.objs.size], _, _, H1, rfl, I1.kept (t' := s1.toks) fun b o e => Heap.get?_push_of_some _ e, turn_listH a _, ⟨_, Heap.get?_push_size _ rfl, rfl, rfl⟩, fun b hb => ?_, q⟩
  have e : b = s1.heap.objs.size := by simpa using hb
  subst e
  exact I1.fpOk (Nat.le_refl _) (I1.hok.fresh (Nat.le_refl _))
/-- a block's context, the handled exception in it -/
abbrev blkH (X : Cx) (p : Addr × Obj) (s : Shared) (H : Hp) (scope : Scope) (cenv : Env) (fp : List Addr) : Cx := { X.blk s H scope cenv fp with pn := [p] }
theorem hot_blk {X : Cx} {p : Addr × Obj} {s : Shared} {H : Hp} {scope : Scope} {cenv : Env} {fp : List Addr} (h : L2H.Hot1 X.A p) : L2H.HotC (blkH X p s H scope cenv fp) := ⟨p, h, List.mem_singleton.mpr rfl⟩
theorem block_startH {X : Cx} {pins : List (Addr × Obj)} {σ : L2.St} {H : Hp} {s : Shared} {p : Addr × Obj} {scope : Scope} {own : List (Str × Nat)} {fp : List Addr} (I : Inv X pins σ H s) (hp : p ∈ X.pn) (ok : BlkOk X.N X.env.scope scope own) (hN : X.N.Nodup) (hfp : ∀ b ∈ fp, FpOk X pins H b ∧ b < s.heap.objs.size) :
    Inv (blkH X p s H scope (compEnvC scope (cellsFrom (s.heap.objs.size + 1) scope.names (cloFrom X.env.cells scope.names [])) s.heap.objs.size X.env) fp) [] (wipe σ (own.map (·.2))) H { s with heap := pushCells (s.heap.push { cls := .type "dict", data := .dict #[] }) scope.names } := by
  have J := block_start I ok hN hfp
  have P1 := I.pin p (List.mem_append_left _ hp)
  refine ⟨⟨J.ok.mod, J.ok.kind, J.ok.glob, J.ok.blt, J.ok.above, J.ok.inj, J.ok.has, J.ok.cab, J.ok.hd, J.ok.frames, J.ok.stk, J.ok.exf, J.ok.bs, J.ok.bsz, J.ok.noex, J.ok.exfs, J.ok.funs, J.ok.frf⟩, J.os, J.bare, J.base, J.loc, J.cell, J.free, J.freeC, fun q hq => ?_, J.hok, J.len⟩
  obtain rfl : q = p := by simpa using (show q ∈ [p] ++ ([] : List (Addr × Obj)) from hq)
  exact ⟨pushCells_keeps _ _ _ _ (Heap.get?_push_of_some _ P1.1), P1.2.1, Nat.ne_of_lt (Heap.lt_size P1.1), fun hm => (List.mem_cons.mp (I.stkSub q.1 hm)).elim P1.2.2.1 P1.2.2.2.1, P1.2.2.2.2⟩
end
section
open PyProof.Rows
variable {X : Cx}
/-- a list comprehension where an exception is handled -/
theorem lc_hot {pins : List (Addr × Obj)} {s : Shared} {σ : L2.St} {H : Hp} {Q : VK} {elt tg iter : Expr} {ifs : List Expr} {scope : Scope} {own : List (Str × Nat)} {pos pos' : Pos} {wi : TI} {g : TG} {tt : TT} {te : TE} {use : Option (Value → Sem Unit)} {Qf : Value → Shared → Prop}
    (hot : L2H.HotC X) (hN : X.N.Nodup) (I : Inv X pins σ H s) (hi : L2H.PIH X tg iter wi) (ok : BlkOk X.N X.env.scope scope own)
    (hg : ∀ (p : Addr × Obj) (s : Shared) (H : Hp) (C : Addr) (cl : List (Str × Addr)) (fp : List Addr), L2H.Hot1 X.A p → PG (blkH X p s H scope (compEnvC scope cl C X.env) fp) tg g) (ht : ∀ (p : Addr × Obj) (s : Shared) (H : Hp) (C : Addr) (cl : List (Str × Addr)) (fp : List Addr), PTs (blkH X p s H scope (compEnvC scope cl C X.env) fp) ifs tt)
    (he : ∀ (p : Addr × Obj) (s : Shared) (H : Hp) (C : Addr) (cl : List (Str × Addr)) (fp : List Addr), PE (blkH X p s H scope (compEnvC scope cl C X.env) fp) elt te) (hs : ∀ x, foldedSetIterable iter X.env x = pure x) (h : tLc wi g tt te (own.map (·.2)) σ H Q)
    (hend : ∀ D C s' m H', Inv X pins σ H' s' → Q (.ref D) H' → s'.heap.Ns C m → FpOk X pins H' C → compPost (model X.prog X.w) X.A X.xe use Qf (.ref D) C (.ok .next) s') :
    wpAny (model X.prog X.w) X.A (comprehension (.ListComp elt [⟨tg, iter, ifs, 0⟩] scope pos) scope X.env pos' (newList []) false (eval iter X.env) use) Qf X.xe s := by
  obtain ⟨p, hp1, hpn⟩ := hot
  have caps : ∀ y ∈ scope.names, y.2 = .free → ∃ c, X.env.cells.lookup y.1 = some c := fun y hy e => (ok.free y hy e).elim (fun k => I.ok.has _ (.inl k)) fun k => I.ok.has _ (.inr k)
  refine wpAny_comprehension_free (use := use) rfl hs (closure_ok caps) ok.kind (fun y hy e => by rw [ok.uniq y hy, e]) (thn (hi.run pins s σ H _ I h) fun xv sa hx => thn hx fun itv sb hb => ?_)
  obtain ⟨it, fp, tn, J, Hb, e, Ib, T, stb, fb, q⟩ := hb
  subst e
  refine wpAny_newObj_type (newEnv_comp ?_) (by show 0 ≤ sizeLine; decide)
  generalize hD : sb.heap.objs.size = D
  have free : Hb D = none := Ib.hok.fresh (Nat.le_of_eq hD)
  obtain ⟨W, ⟨m0, w0⟩, turn⟩ := q D free
  generalize hsc : ({ sb with heap := sb.heap.push { cls := .type "list", data := .seq ([] : List Value).toArray } } : Shared) = sc
  have Ic : Inv X pins σ (upd Hb D (.lst [])) sc := by
    rw [← hsc]
    refine Ib.laid (t' := sb.toks) (fun b o e => Heap.get?_push_of_some _ e) (Nat.le_of_eq hD) ⟨Nat.zero_le _, [], 0, .nil, ?_⟩
    rw [← hD]
    exact Heap.get?_push_size _ rfl
  have hc : sc.heap = sb.heap.push { cls := .type "list", data := .seq ([] : List Value).toArray } := by rw [← hsc]
  have fc : ∀ b ∈ fp, FpOk X pins (upd Hb D (.lst [])) b ∧ b < sc.heap.objs.size := fun b hb => by
    obtain ⟨o, e, _⟩ := T.obj _ _ stb b hb
    have lt := Heap.lt_size e
    refine ⟨⟨?_, (fb b hb).2⟩, by rw [hc, Heap.size_push]; exact Nat.lt_succ_of_lt lt⟩
    rw [upd_ne (by rw [← hD]; exact Nat.ne_of_lt lt)]
    exact (fb b hb).1
  have stc : tn 0 sc.heap := T.keep _ _ _ stb fun b _ o e => by
    rw [hc]
    exact Heap.get?_push_of_some _ e
  have Id := block_startH Ic hpn ok hN fc
  have pg := hg p sc (upd Hb D (.lst [])) sc.heap.objs.size (cellsFrom (sc.heap.objs.size + 1) scope.names (cloFrom X.env.cells scope.names [])) fp hp1
  have pt := ht p sc (upd Hb D (.lst [])) sc.heap.objs.size (cellsFrom (sc.heap.objs.size + 1) scope.names (cloFrom X.env.cells scope.names [])) fp
  have pe := he p sc (upd Hb D (.lst [])) sc.heap.objs.size (cellsFrom (sc.heap.objs.size + 1) scope.names (cloFrom X.env.cells scope.names [])) fp
  show codeAny _ _ (.compStart (.ListComp elt [⟨tg, iter, ifs, 0⟩] scope pos) 0 (.ref it) (.ref D) (compEnvC scope (cellsFrom (sc.heap.objs.size + 1) scope.names (cloFrom X.env.cells scope.names [])) sc.heap.objs.size X.env)) (compPost (model X.prog X.w) X.A X.xe use Qf (.ref D) sc.heap.objs.size) { sc with heap := pushCells (sc.heap.push { cls := .type "dict", data := .dict #[] }) scope.names }
  have nfp : ∀ b ∈ fp, (upd Hb D (.lst [])) b = none := fun b hb => (fc b hb).1.1
  generalize hce : compEnvC scope (cellsFrom (sc.heap.objs.size + 1) scope.names (cloFrom X.env.cells scope.names [])) sc.heap.objs.size X.env = ce at Id pg pt pe ⊢
  have cL : ce.locals = sc.heap.objs.size := by
    subst hce
    rfl
  generalize hHc : upd Hb D (.lst []) = Hc at Ic Id pg pt pe w0 nfp fc
  generalize hsd : ({ sc with heap := pushCells (sc.heap.push { cls := .type "dict", data := .dict #[] }) scope.names } : Shared) = sd at Id ⊢
  have std : tn 0 sd.heap := T.keep _ _ _ stc fun b _ o e => by
    rw [← hsd]
    exact pushCells_keeps _ _ _ _ (Heap.get?_push_of_some _ e)
  have hotB : L2H.HotC (blkH X p sc Hc scope ce fp) := hot_blk hp1
  have stat : ∀ {σ' : L2.St} {H' : Hp} {s' : Shared}, Inv (blkH X p sc Hc scope ce fp) [] σ' H' s' → (∀ b ∈ fp, H' b = none) → ∀ b ∈ fp, FpOk (blkH X p sc Hc scope ce fp) [] H' b := fun {σ' H' s'} I' hn b hb =>
    ⟨hn b hb, (I'.ok.exf b hb).1, I'.ok.exfs b hb, .inl hb, fun x c e => (I'.ok.exf b hb).2 x c e, fun y hy => by
      obtain rfl : y = p := by simpa using (show y ∈ [p] ++ ([] : List (Addr × Obj)) from hy)
      exact (fb b hb).2.2.2.2.2 y (List.mem_append_left _ hpn)⟩
  have loop : codeAny (model X.prog X.w) X.A (.compLoop (.ListComp elt [⟨tg, iter, ifs, 0⟩] scope pos) 0 (.ref it) (.ref D) ce) (compPost (model X.prog X.w) X.A X.xe use Qf (.ref D) sc.heap.objs.size) sd := by
    refine compLoop_any (fun n s' => ∃ i H', Inv (blkH X p sc Hc scope ce fp) [] (wipe σ (own.map (·.2))) H' s' ∧ tn i s'.heap ∧ (∀ b ∈ fp, H' b = none) ∧ W i n H') ?_ m0 ⟨0, Hc, Id, std, nfp, w0⟩
    rintro n s5 ⟨i, H5, I5, st5, n5, w5⟩
    rcases turn i n H5 w5 with ⟨stop, qq⟩ | ⟨go, Nx, hNx, step⟩
    · refine thnF (T.done (blkH X p sc Hc scope ce fp) rfl rfl rfl hotB i [] s5 _ H5 (fun _ _ => False) I5 (stat I5 n5) st5 stop) fun r s6 ⟨hr, I6⟩ => ?_
      subst hr
      have I7 : Inv X pins σ H5 s6 := Ic.call' (ch := fp) I6.os I6.base I6.hok I6.bare fun b hb => ⟨(fc b hb).1.2.2.2.1, (fc b hb).1.2.1, (fc b hb).1.2.2.2.2.1, (fc b hb).1.2.2.2.2.2⟩
      have nC : H5 sc.heap.objs.size = none := by
        have z : H5 ce.locals = none := I6.free
        rwa [cL] at z
      obtain ⟨m, hn, _⟩ := I6.loc
      have hn : s6.heap.Ns ce.locals m := hn
      rw [cL] at hn
      exact hend D sc.heap.objs.size s6 m H5 I7 qq hn (Ic.fpOk (Nat.le_refl _) nC)
    · refine thnF (T.item (blkH X p sc Hc scope ce fp) rfl rfl rfl hotB i [] s5 _ H5 (fun _ _ => False) I5 (stat I5 n5) st5 go) fun r s6 ⟨u, hr, h6⟩ => ?_
      subst hr
      refine thnF h6 fun _ s7 ⟨x, H7, I7, r7, y7, st7, n7⟩ => ?_
      refine thnF (pg.run _ s7 _ H7 x u _ (I7.pinned (stat I7 n7) (T.obj _ _ st7)) r7 (step x H7 y7)) fun _ s8 ⟨σ8, H8, I8, hw8, q8⟩ => ?_
      refine thnF (pt.run _ s8 σ8 H8 _ I8 q8) fun b s9 ⟨H9, I9, q9⟩ => ?_
      have fin : ∀ {s' : Shared} {H' : Hp}, Inv (blkH X p sc Hc scope ce fp) ([] ++ pinsAt fp s7.heap) σ8 H' s' → Nx H' → ∃ m, m < n ∧ ∃ i H', Inv (blkH X p sc Hc scope ce fp) [] (wipe σ (own.map (·.2))) H' s' ∧ tn i s'.heap ∧ (∀ b ∈ fp, H' b = none) ∧ W i m H' := fun {s' H'} I' nx => by
        obtain ⟨m', hm, w'⟩ := hNx H' nx
        have pin' : ∀ b ∈ fp, ∀ o, s7.heap.get? b = some o → s'.heap.get? b = some o ∧ H' b = none := fun b hb o e =>
          let z := I'.pin (b, o) (List.mem_append_right _ (List.mem_append_right _ (mem_pinsAt hb e)))
          ⟨z.1, z.2.1⟩
        refine ⟨m', hm, i + 1, H', (I'.unpinned (pins := [])).weak (by rw [← hw8, wipe_length]) (fun j v e => ?_), T.keep _ _ _ st7 fun b hb o e => (pin' b hb o e).1, fun b hb => ?_, w'⟩
        · rw [← hw8] at e
          exact (wipe_some e).1
        · obtain ⟨o, e, _⟩ := T.obj _ _ st7 b hb
          exact (pin' b hb o e).2
      cases b with
      | false =>
        simp only [Bool.false_eq_true, if_false] at q9 ⊢
        exact fin I9 q9
      | true =>
        simp only [if_true] at q9 ⊢
        refine thnF (pe.run _ s9 σ8 H9 _ I9 q9) fun z s10 ⟨yv, H10, I10, r10, acc, hD10, hz10, nx⟩ => ?_
        exact app_ok (X := blkH X p sc Hc scope ce fp) I10 hD10 hz10 r10 fun s11 I11 => fin I11 nx
  exact codeAny_compStart_list loop (T.self X.A 0 _ _ _ std loop)
/-- name = [..] there -/
theorem ps_setLcH {i : Nat} {y : Str} {py : Pos} {elt tg iter : Expr} {ifs : List Expr} {scope : Scope} {own : List (Str × Nat)} {pos spos : Pos} {wi : TI} {g : TG} {tt : TT} {te : TE} (hot : L2H.HotC X) (hN : X.N.Nodup) (hy : X.N[i]? = some y) (hyl : X.env.scope.names.lookup y = some .local)
    (hsw : swapsWith (.ListComp elt [⟨tg, iter, ifs, 0⟩] scope pos) (some (.Name y py)) spos.line X.env = pure true) (hi : L2H.PIH X tg iter wi) (ok : BlkOk X.N X.env.scope scope own)
    (hg : ∀ (p : Addr × Obj) (s : Shared) (H : Hp) (C : Addr) (cl : List (Str × Addr)) (fp : List Addr), L2H.Hot1 X.A p → PG (blkH X p s H scope (compEnvC scope cl C X.env) fp) tg g) (ht : ∀ (p : Addr × Obj) (s : Shared) (H : Hp) (C : Addr) (cl : List (Str × Addr)) (fp : List Addr), PTs (blkH X p s H scope (compEnvC scope cl C X.env) fp) ifs tt)
    (he : ∀ (p : Addr × Obj) (s : Shared) (H : Hp) (C : Addr) (cl : List (Str × Addr)) (fp : List Addr), PE (blkH X p s H scope (compEnvC scope cl C X.env) fp) elt te) (hs : ∀ x, foldedSetIterable iter X.env x = pure x := by intro _; rfl) :
    PS X (.Assign [.Name y py] (.ListComp elt [⟨tg, iter, ifs, 0⟩] scope pos) spos) (tAsg (tLc wi g tt te (own.map (·.2))) (gName i)) := by
  refine ⟨fun pins s σ H D I h => ?_⟩
  rw [exec_Assign_Name_used _ _ _ _ hsw]
  refine wpAny_bind (wpAny_standAt (wpAny_bind ?_))
  show wpAny _ X.A (do let _ ← comprehension (.ListComp elt [⟨tg, iter, ifs, 0⟩] scope pos) scope X.env (firstIterPos [⟨tg, iter, ifs, 0⟩] pos) (newList []) false (eval iter X.env) (some (assign (.Name y py) X.env))) _ _ s
  have h : tLc wi g tt te (own.map (·.2)) σ H (fun x H1 => gName i x σ H1 D.nx) := h
  refine wpAny_bind (thn (lc_hot (Qf := fun _ s' => SP X pins D .next s') hot hN I hi ok hg ht he hs h fun L C s' m H' I' q hn f => ?_) fun _ s' hq => wpAny_pure (wpAny_pure hq))
  show wpAny _ _ (assign (.Name y py) X.env (.ref L)) _ _ _
  obtain ⟨f0, f1, f2, f3, f4, f5⟩ := f
  refine wpAny_assign_Name (store_ok2 (v := V.ref L) I' hN hy (.inl hyl) rfl (fun s2 I2 ⟨a, sb, ha⟩ => ?_) (.inr hyl))
  have haC : C ≠ a := ha.elim (fun z => z ▸ f1) fun z e => f4 y a z e.symm
  exact ⟨m, hn.sameBut sb haC, fun h3 sb3 => ⟨_, H', I2.turned (t' := s2.toks) (fun b o hb e => (sb3.2 b hb).trans e) f0 f1 f3 f4 f5, q⟩⟩
end
/-! ### refusals: defs that may let an error of an own class out; what is caught -/
section
open PyProof.Rows
/-- raise X() of an own class without an own __init__ -/
theorem pmk_own0 {X : Cx} {C : Addr} {bmB : List Value} {B newId initId : String} {x : Str} {p pos : Pos} (F : ExcBaseFacts B newId initId bmB) (q : PySem.W.excIn X.K C bmB newId = true) (gC : X.mg x = some (.ref C)) (kC : PySem.W.keepIn X.K (.ref C) = true) (r : Raises X (.ref C)) (hg : Gl X x := by rfl)
    (hdb : (x == ("__debug__" : Str)) = false := by decide) : L2N.PMk X (.Call (.Name x p) [] [] pos) (fun _ H Q => Q (.ref C) none H) := by
  intro pins s σ H Q I h
  refine wpAny_Call_Name_kw (ld_glob I hg gC ?_ hdb)
  refine PySem.W.callWith_K0 I.kIn kC ?_
  show wpAny _ _ (call (.ref C) []) _ _ _
  obtain ⟨bm, N, nm, qn, bs, hdct, sn, sub, ab, col, dd, k0, k1, k2, k3, k5, mN, hC, hN, hni, T⟩ := exc_obj I.kIn q
  refine wpAny_call_exc_subT F T hC hN hni (fun h' e hm => ?_) (by show 0 ≤ sizeLine; exact Nat.zero_le _)
  exact L2N.mk_of I hm r h (I.hok.gone hm.new)
/-- a def that may raise, called by its name -/
structure CalX (P : Program) (w : World) (K : PySem.W.Frag) (mg : Str → Option Value) (base : Heap) (k : Nat) (x : Str) (ps : List Str) (sp : Sp) : Prop where
  ex : ∃ (f : Addr) (fd : FuncData), FnOk P w K mg base (L2N.CX P w) k f fd ps sp ∧ PySem.W.keepIn K (.ref f) = true ∧ mg x = some (.ref f) ∧ Binds K fd ps []
/-- a method that may raise -/
structure CalMX (P : Program) (w : World) (K : PySem.W.Frag) (mg : Str → Option Value) (base : Heap) (k : Nat) (C : Addr) (m : Str) (ps : List Str) (sp : Sp) : Prop where
  ex : ∃ (f : Addr) (fd : FuncData), FnOk P w K mg base (L2N.CX P w) k f fd ps sp ∧ Meth K C m f ∧ Binds K fd ps []
/-- .. with keyword-only parameters -/
structure CalWX (P : Program) (w : World) (K : PySem.W.Frag) (mg : Str → Option Value) (base : Heap) (k : Nat) (C : Addr) (m : Str) (ps : List Str) (n : Nat) (kws : List (Str × V)) (sp : Sp) : Prop where
  ex : ∃ (f : Addr) (fd : FuncData), FnOk P w K mg base (L2N.CX P w) k f fd ps sp ∧ Meth K C m f ∧ (∃ ds, Vals (kws.map (·.2)) ds ∧ Binds K fd ps ds) ∧ KBn K fd ps n (kws.map (·.1)) (fun us ws => us ++ ws) (fun vs zs => vs ++ zs)
section
variable {P : Program} {w : World} {K : PySem.W.Frag} {mg : Str → Option Value} {base : Heap} {C : Addr} {x m qual : Str} {st : Stmt} {N ps : List Str} {sp : Sp} {k n : Nat} {kws : List (Str × V)}
theorem Ftx.calX (F : Ftx K mg x st ps) (S : FnScope N ps (defScope st)) (len : ∀ vs H Q E, sp vs H Q E → vs.length = ps.length)
    (h : ∀ (f : Addr) (cdv : Value) (A : Around) (outer : List Env) (s : Shared) (H : Hp) (vs : List V) (Q : VK) (E : XK), Room k (A.deeper (envOfC x (defScope st) s.heap.objs.size f cdv)) → sp vs H Q E →
      ∃ t, PSs (cxOf (L2N.CX P w) P w K mg base N x (defScope st) f cdv A outer s H E) (defBody st) t ∧ t { nx := fun _ H' => Q .non H', rt := Q } (start N vs) H) : CalX P w K mg base (k + 1) x ps sp := by
  obtain ⟨f, fd, F1, g, b⟩ := F.ex
  have kp := F1.kp
  obtain ⟨oc, od, kV, doc, pm, an, cdv, ct, osl, rfl, lk, hcd⟩ := F1.ex
  exact ⟨f, _, fn_of lk hcd S len fun A outer s H vs Q E hr hsp => h f cdv A outer s H vs Q E hr hsp, kp, g, b⟩
theorem Ftm.calX (F : Ftm K C m qual st ps) (S : FnScope N ps (defScope st)) (len : ∀ vs H Q E, sp vs H Q E → vs.length = ps.length)
    (h : ∀ (f : Addr) (cdv : Value) (A : Around) (outer : List Env) (s : Shared) (H : Hp) (vs : List V) (Q : VK) (E : XK), Room k (A.deeper (envOfC qual (defScope st) s.heap.objs.size f cdv)) → sp vs H Q E →
      ∃ t, PSs (cxOf (L2N.CX P w) P w K mg base N qual (defScope st) f cdv A outer s H E) (defBody st) t ∧ t { nx := fun _ H' => Q .non H', rt := Q } (start N vs) H) : CalMX P w K mg base (k + 1) C m ps sp := by
  obtain ⟨f, fd, F1, M, b⟩ := F.ex
  obtain ⟨oc, od, kV, doc, pm, an, cdv, ct, osl, rfl, lk, hcd⟩ := F1.ex
  exact ⟨f, _, fn_of lk hcd S len fun A outer s H vs Q E hr hsp => h f cdv A outer s H vs Q E hr hsp, M, b⟩
theorem Ftw.calX (F : Ftw K C m qual st kws) (B : KwS m qual st ps n (kws.map (·.1))) (hk : kws ≠ []) (hn : n + kws.length = ps.length) (S : FnScope N ps (defScope st)) (len : ∀ vs H Q E, sp vs H Q E → vs.length = ps.length)
    (h : ∀ (f : Addr) (cdv : Value) (A : Around) (outer : List Env) (s : Shared) (H : Hp) (vs : List V) (Q : VK) (E : XK), Room k (A.deeper (envOfC qual (defScope st) s.heap.objs.size f cdv)) → sp vs H Q E →
      ∃ t, PSs (cxOf (L2N.CX P w) P w K mg base N qual (defScope st) f cdv A outer s H E) (defBody st) t ∧ t { nx := fun _ H' => Q .non H', rt := Q } (start N vs) H) : CalWX P w K mg base (k + 1) C m ps n kws sp := by
  obtain ⟨f, fd, F1, M⟩ := F.ex
  refine ⟨f, fd, F1.ok S len fun cdv A outer s H vs Q E hr hsp => h f cdv A outer s H vs Q E hr hsp, M, ?_, ?_⟩
  · exact F1.binds0 n hk hn fun D doc pm an cdv ct us ks l1 l2 => B.none D doc pm an cdv ct us ks l1 (by rw [List.length_map]; exact l2)
  · obtain ⟨mv, z⟩ := F1.kbinds0 (ps := ps) n (kws.map (·.1)) [] (fun us _ ws => us ++ ws) hk (fun q hq => (nomatch hq)) (fun r1 _ r3 => Vals.append r1 r3) fun D doc pm an cdv ct us mv ws l1 l2 l3 => B.all D doc pm an cdv ct us ws l1 l3
    exact z
end
section
variable {X : Cx} {W : WX} {C : Addr} {x m : Str} {ps : List Str} {sp : Sp} {k n : Nat} {kws : List (Str × V)} {o e : Expr} {es : List Expr} {ta : TE} {t tk : TA} {p apos pos : Pos} {pl : Sem Bool} {kwe : List Keyword}
/-- the callee runs; what it lets out is taken -/
theorem run_x {pins : List (Addr × Obj)} {σ : L2.St} {H : Hp} {s : Shared} {Q : VK} {us us' : List Value} {kv : List (Str × Value)} {vs : List V} {f : Addr} {fd : FuncData} (F : FnOk X.prog X.w X.K X.mg X.base (L2N.CX X.prog X.w) k f fd ps sp) (hr : Room k X.A) (b : BindsTo s fd ⟨us, kv⟩ (ps.zip us')) (tk : L2N.Takes X W)
    (I : Inv X pins σ H s) (r : Vals vs us') (h : sp vs H Q (WE W σ)) : wpAny (model X.prog X.w) X.A (call (.ref f) us kv) (EP X pins σ Q) X.xe s := by
  refine wpAny_call (codeAny_mono (F.run X.A X.stack s H ⟨us, kv⟩ us' vs Q (WE W σ) hr I.env0 b r h) fun r s' hq => ?_)
  cases r with
  | error e => exact L2N.passAt tk σ pins H s e s' I hq
  | ok fl =>
    cases fl with
    | ret u => exact I.after hq
    | next => exact False.elim hq
    | brk => exact False.elim hq
    | cont => exact False.elim hq
theorem pe_calX (F : CalX X.prog X.w X.K X.mg X.base k x ps sp) (hr : Room k X.A) (tk : L2N.Takes X W) (ha : PA X (e :: es) t) (hg : Gl X x := by rfl) (hdb : (x == ("__debug__" : Str)) = false := by decide)
    (he : starEach (e :: es) X.env = (false, eval e X.env) :: starEach es X.env := by rfl) (hpl : (backTo pos (starEach es X.env)).any (·.1) = false := by rfl) : PE X (.Call (.Name x p) (e :: es) [] pos) (tCallS sp (WE W) t) := by
  obtain ⟨f, fd, F1, kp, g, b⟩ := F.ex
  exact pe_callS F1 hr hg g kp b (fun σ => L2N.passAt tk σ) ha hdb he hpl
/-- o.m(e, ..); dvs: what is left out -/
def tMethX (C : Addr) (m : Str) (sp : Sp) (dvs : List V) (E : L2.St → XK) (ta : TE) (t : TA) : TE := fun σ H Q => ta σ H fun x H1 => ∃ a dx fs, x = .ref a ∧ H1 a = some (.ins C dx fs) ∧ fs.lookup m = none ∧ t σ H1 fun vs H2 => sp (.ref a :: vs ++ dvs) H2 Q (E σ)
theorem pe_calMX (F : CalMX X.prog X.w X.K X.mg X.base k C m ps sp) (c : Cls X.K C) (hr : Room k X.A) (tk : L2N.Takes X W) (he : PE X o ta) (ha : PA X (e :: es) t)
    (hst : starEach (e :: es) X.env = (false, eval e X.env) :: starEach es X.env := by rfl) (hpl : (backTo pos (starEach es X.env)).any (·.1) = false := by rfl)
    (ht : eval (.Call (.Attribute o m apos) (e :: es) [] pos) X.env = (do let ov ← eval o X.env; standAt apos.atName; let (f, first) ← holding [ov] (getMethod ov m pl); callWith pos f first (backTo pos (starEach (e :: es) X.env)) (backToKw pos (keywordEach [] X.env))) := by rfl) :
    PE X (.Call (.Attribute o m apos) (e :: es) [] pos) (tMethX C m sp [] (WE W) ta t) := by
  obtain ⟨f, fd, F1, M, b⟩ := F.ex
  refine ⟨fun pins s σ H Q I h => ?_⟩
  refine PySem.W.methodCall_KW (pl := pl) (thn (he.run pins s σ H _ I h) fun u s1 ⟨x, H1, I1, rx, a, dx, fs, ex, ea, l, q⟩ => ?_) ht
  subst ex
  obtain rfl : u = Value.ref a := rx
  refine getmeth_ok I1 ea c M l ?_
  refine PySem.W.callWith_K (first := [.ref a]) (h₀ := X.base) I.ok.mod.kin M.kp (thn (ha.run pos pins s1 σ H1 _ I1 q) fun us s2 ⟨vs, H2, I2, r, q2⟩ => ⟨I2.kIn, ?_⟩) hst hpl
  have r2 : Vals (.ref a :: vs) (.ref a :: us) := .cons rfl r
  have q2 : sp (.ref a :: vs ++ []) H2 Q (WE W σ) := q2
  rw [List.append_nil] at q2
  have bb := b s2 (.ref a :: us) I2.kIn (by rw [List.append_nil, ← r2.length]; exact F1.len _ _ _ _ q2)
  rw [List.append_nil] at bb
  exact run_x F1 hr bb tk I2 r2 q2
theorem pe_calWX (F : CalWX X.prog X.w X.K X.mg X.base k C m ps n kws sp) (c : Cls X.K C) (hr : Room k X.A) (tk : L2N.Takes X W) (he : PE X o ta) (ha : PA X (e :: es) t)
    (hst : starEach (e :: es) X.env = (false, eval e X.env) :: starEach es X.env := by rfl) (hpl : (backTo pos (starEach es X.env)).any (·.1) = false := by rfl)
    (ht : eval (.Call (.Attribute o m apos) (e :: es) [] pos) X.env = (do let ov ← eval o X.env; standAt apos.atName; let (f, first) ← holding [ov] (getMethod ov m pl); callWith pos f first (backTo pos (starEach (e :: es) X.env)) (backToKw pos (keywordEach [] X.env))) := by rfl) :
    PE X (.Call (.Attribute o m apos) (e :: es) [] pos) (tMethX C m sp (kws.map (·.2)) (WE W) ta t) := by
  obtain ⟨f, fd, F1, M, ⟨ds, vd, b⟩, _⟩ := F.ex
  refine ⟨fun pins s σ H Q I h => ?_⟩
  refine PySem.W.methodCall_KW (pl := pl) (thn (he.run pins s σ H _ I h) fun u s1 ⟨x, H1, I1, rx, a, dx, fs, ex, ea, l, q⟩ => ?_) ht
  subst ex
  obtain rfl : u = Value.ref a := rx
  refine getmeth_ok I1 ea c M l ?_
  refine PySem.W.callWith_K (first := [.ref a]) (h₀ := X.base) I.ok.mod.kin M.kp (thn (ha.run pos pins s1 σ H1 _ I1 q) fun us s2 ⟨vs, H2, I2, r, q2⟩ => ⟨I2.kIn, ?_⟩) hst hpl
  have r2 : Vals ((.ref a :: vs) ++ kws.map (·.2)) ((.ref a :: us) ++ ds) := Vals.append (.cons rfl r) vd
  exact run_x F1 hr (b s2 (.ref a :: us) I2.kIn (by rw [← r2.length]; exact F1.len _ _ _ _ q2)) tk I2 r2 q2
def tMethNX (C : Addr) (m : Str) (n j : Nat) (sp : Sp) (E : L2.St → XK) (ta : TE) (t tk : TA) : TE := fun σ H Q => ta σ H fun x H1 => ∃ a dx fs, x = .ref a ∧ H1 a = some (.ins C dx fs) ∧ fs.lookup m = none ∧ t σ H1 fun vs H2 => tk σ H2 fun zs H3 => vs.length + 1 = n ∧ zs.length = j ∧ sp (.ref a :: vs ++ zs) H3 Q (E σ)
theorem pe_calWNX (F : CalWX X.prog X.w X.K X.mg X.base k C m ps n kws sp) (c : Cls X.K C) (hr : Room k X.A) (tk' : L2N.Takes X W) (he : PE X o ta) (ha : PA X (e :: es) t) (hkw : PK X kwe tk)
    (hall : (backToKw pos (keywordEach kwe X.env)).all (·.1.isSome) = true := by rfl) (hks : (backToKw pos (keywordEach kwe X.env)).filterMap (·.1) = kws.map (·.1) := by rfl)
    (hst : starEach (e :: es) X.env = (false, eval e X.env) :: starEach es X.env := by rfl) (hpl : ((backTo pos (starEach (e :: es) X.env)).any (·.1) || (backToKw pos (keywordEach kwe X.env)).any (·.1.isNone)) = false := by rfl)
    (ht : eval (.Call (.Attribute o m apos) (e :: es) kwe pos) X.env = (do let ov ← eval o X.env; standAt apos.atName; let (f, first) ← holding [ov] (getMethod ov m pl); callWith pos f first (backTo pos (starEach (e :: es) X.env)) (backToKw pos (keywordEach kwe X.env))) := by rfl) :
    PE X (.Call (.Attribute o m apos) (e :: es) kwe pos) (tMethNX C m n kws.length sp (WE W) ta t tk) := by
  obtain ⟨f, fd, F1, M, _, kb⟩ := F.ex
  refine ⟨fun pins s σ H Q I h => ?_⟩
  refine PySem.W.methodCall_KW (pl := pl) (thn (he.run pins s σ H _ I h) fun u s1 ⟨x, H1, I1, rx, a, dx, fs, ex, ea, l, q⟩ => ?_) ht
  subst ex
  obtain rfl : u = Value.ref a := rx
  refine getmeth_ok I1 ea c M l ?_
  refine PySem.W.callWith_KW (first := [.ref a]) (h₀ := X.base) I.ok.mod.kin M.kp hall (thn (ha.run pos pins s1 σ H1 _ I1 q) fun us s2 ⟨vs, H2, I2, r, q2⟩ => ?_) hpl hst
  refine thn (hkw.run pos pins s2 σ H2 _ I2 q2) fun ws s3 ⟨zs, H3, I3, rz, l1, l2, q3⟩ => ⟨I3.kIn, ?_⟩
  rw [hks]
  have r2 : Vals (.ref a :: vs) (.ref a :: us) := .cons rfl r
  exact run_x F1 hr (kb.to s3 (.ref a :: us) ws I3.kIn (r2.length.symm.trans l1) (rz.length.symm.trans (l2.trans (by rw [List.length_map])))) tk' I3 (kb.rel r2 rz) q3
/-- what is never come to -/
theorem pss_dead {sts : List Stmt} : PSs X sts (fun _ _ _ => False) := ⟨fun _ _ _ _ _ _ h => h.elim⟩
end
end
/-! ### a def called where an error is handled, which it is asked about -/
section
open PyProof.Rows
/-- a def that keeps its promise about the handled error p -/
structure FnP (P : Program) (w : World) (K : PySem.W.Frag) (mg : Str → Option Value) (base : Heap) (k : Nat) (f : Addr) (fd : FuncData) (ps : List Str) (sp : Addr → Value → Option Addr → Sp) : Prop where
  len : ∀ a cls d vs H Q E, sp a cls d vs H Q E → vs.length = ps.length
  run : ∀ (A : Around) (outer : List Env) (s : Shared) (H : Hp) (args : Args) (us : List Value) (vs : List V) (Q : VK) (E : XK) (p : Addr × Obj) (cls : Value) (d : Option Addr), L2N.Zn cls d p.2 → L2H.RoomH k A → L2H.Hot1 A p → L2H.PinOk outer H s p → Env0 P w K mg base A outer s H → BindsTo s fd args (ps.zip us) → Vals vs us → sp p.1 cls d vs H Q E →
    codeAny (model P w) A (.call (.ref f) args) (CR CX0 outer P w H s Q E) s
structure CalP (P : Program) (w : World) (K : PySem.W.Frag) (mg : Str → Option Value) (base : Heap) (k : Nat) (x : Str) (ps : List Str) (sp : Addr → Value → Option Addr → Sp) : Prop where
  ex : ∃ (f : Addr) (fd : FuncData), FnP P w K mg base k f fd ps sp ∧ PySem.W.keepIn K (.ref f) = true ∧ mg x = some (.ref f) ∧ Binds K fd ps []
section
variable {P : Program} {w : World} {K : PySem.W.Frag} {mg : Str → Option Value} {base : Heap} {x : Str} {st : Stmt} {N ps : List Str} {sp : Addr → Value → Option Addr → Sp} {k : Nat}
theorem Ftx.calP (F : Ftx K mg x st ps) (S : FnScope N ps (defScope st)) (len : ∀ a cls d vs H Q E, sp a cls d vs H Q E → vs.length = ps.length)
    (h : ∀ (f : Addr) (cdv : Value) (A : Around) (outer : List Env) (s : Shared) (H : Hp) (vs : List V) (Q : VK) (E : XK) (p : Addr × Obj) (cls : Value) (d : Option Addr), L2N.Zn cls d p.2 → L2H.Hot1 A p → L2H.RoomH k (A.deeper (envOfC x (defScope st) s.heap.objs.size f cdv)) → sp p.1 cls d vs H Q E →
      ∃ t, PSs (L2H.cxH CX0 P w K mg base N x (defScope st) f cdv A outer s H E p) (defBody st) t ∧ t { nx := fun _ H' => Q .non H', rt := Q } (L2.start N vs) H) : CalP P w K mg base (k + 1) x ps sp := by
  obtain ⟨f, fd, F1, g, b⟩ := F.ex
  have kp := F1.kp
  obtain ⟨oc, od, kV, doc, pm, an, cdv, ct, osl, rfl, lk, hcd⟩ := F1.ex
  refine ⟨f, _, ⟨len, fun A outer s H args us vs Q E p cls d hz hr hot hpin e0 hb r hsp => ?_⟩, kp, g, b⟩
  have hl := len _ _ _ _ _ _ _ hsp
  have kx : K.In s.heap := e0.mod.kin.keeps fun b o e => (e0.bs b o e).1
  have hkind : ∀ y ∈ ps.zip us, (defScope st).names.lookup y.1 = some .local ∨ ((defScope st).names.lookup y.1 = some .cell ∧ ((cellsFrom (s.heap.objs.size + 1) (defScope st).names []).lookup y.1).isSome = true) := fun ⟨n, v⟩ hy => by
    rcases S.par n (List.of_mem_zip hy).1 with q | q
    · exact .inl q
    · exact .inr ⟨q, PySem.W.cellsFrom_some _ _ _ (.inl q)⟩
  refine codeAny_call_function hr.depth (kx _ _ lk) rfl S.co S.gen rfl (PySem.W.codeRec_of kx hcd) (hb _ _ _ _ ?_)
  refine wpAny_newFunctionEnv_cells S.kind hkind fun env he s1 x1 => ?_
  subst he
  refine ⟨(e0.mod.nolimit.keeps fun b o e => (e0.bs b o e).1).keeps x1.toInCall.keep, codeAny_func ?_⟩
  obtain ⟨t, ht, hq⟩ := h f cdv A outer s H vs Q E p cls d hz hot (hr.deeper _) hsp
  have I := L2H.inv_startH (CX := CX0) (P := P) (w := w) (K := K) (mg := mg) (base := base) (E := E) S hpin e0 hl r x1
  refine wpAny_mono (ht.run [] s1 (L2.start N vs) H _ I hq) (fun fl s' hs => ?_) fun e s' hs => hs
  cases fl with
  | ret u =>
    obtain ⟨v, σ', H', J, rv, q⟩ := hs
    exact ⟨v, H', J.os, J.bare, J.base, J.hok, rv, q⟩
  | next =>
    obtain ⟨σ', H', J, q⟩ := hs
    exact ⟨.non, H', J.os, J.bare, J.base, J.hok, rfl, q⟩
  | brk =>
    obtain ⟨_, _, _, q⟩ := hs
    exact False.elim q
  | cont =>
    obtain ⟨_, _, _, q⟩ := hs
    exact False.elim q
end
section
variable {X : Cx} {x : Str} {ps : List Str} {sp : Addr → Value → Option Addr → Sp} {k : Nat} {q : Addr × Obj} {cls : Value} {d : Option Addr} {e : Expr} {es : List Expr} {p pos : Pos} {t : TA}
theorem pe_calP (C : CalP X.prog X.w X.K X.mg X.base k x ps sp) (hr : L2H.RoomH k X.A) {a : Addr} {oe : Obj} (hz : L2N.Zn cls d oe) (hot : L2H.Hot1 X.A (a, oe)) (hq : (a, oe) ∈ X.pn) (ha : PA X (e :: es) t) (hg : Gl X x := by rfl) (hdb : (x == ("__debug__" : Str)) = false := by decide)
    (he : starEach (e :: es) X.env = (false, eval e X.env) :: starEach es X.env := by rfl) (hpl : (backTo pos (starEach es X.env)).any (·.1) = false := by rfl) : PE X (.Call (.Name x p) (e :: es) [] pos) (fun σ H Q => t σ H fun vs H1 => sp a cls d vs H1 Q E0) := by
  obtain ⟨f, fd, F, kp, hm, b⟩ := C.ex
  refine ⟨fun pins s σ H Q I h => ?_⟩
  refine wpAny_Call_Name_kw (ld_glob I hg hm ?_ hdb)
  refine PySem.W.callWith_K (h₀ := X.base) I.ok.mod.kin kp (thn (ha.run pos pins s σ H _ I h) fun us s1 ⟨vs, H1, I1, r, h1⟩ => ⟨I1.kIn, ?_⟩) he hpl
  have bb := b s1 us I1.kIn (by rw [List.append_nil, ← r.length]; exact F.len _ _ _ _ _ _ _ h1)
  rw [List.append_nil] at bb
  have P1 := I1.pin (a, oe) (List.mem_append_left _ hq)
  refine wpAny_call (codeAny_mono (F.run X.A X.stack s1 H1 ⟨us, []⟩ us vs Q E0 (a, oe) cls d hz hr hot ⟨P1.1, P1.2.1, fun hm => (List.mem_cons.mp (I1.stkSub a hm)).elim P1.2.2.1 P1.2.2.2.1, P1.2.2.2.2⟩ I1.env0 bb r h1) fun r3 s3 hq3 => match r3, hq3 with
    | .error _, z => (z : False).elim
    | .ok (.ret _), z => I1.after z
    | .ok .next, z => (z : False).elim
    | .ok .brk, z => (z : False).elim
    | .ok .cont, z => (z : False).elim)
/-- isinstance(e, C), isinstance(e, (C, ..)) of the handled error e of the class at D -/
def rIsH (K : PySem.W.Frag) (D a : Addr) : List V → Hp → VK → Prop := fun xs H Q => ∃ (c : V) (b : Bool), xs = [.ref a, c] ∧ ((∃ cv, ClsV c cv ∧ PySem.W.kitOne K (.ref D) cv = some b) ∨ ∃ (t : Addr) (cs : List V) (ws : List Value), c = .ref t ∧ H t = some (.tup cs) ∧ Paired ClsV cs ws ∧ PySem.W.kitAny K (.ref D) ws = some b) ∧ Q (.bl b) H
theorem call_isH {D : Addr} (C : ExcC X.K D) (hz : L2N.Zn (.ref D) none q.2) (hf : ∃ vs, q.2.data = .fields vs) (hq : q ∈ X.pn) : CallR X (.builtin "isinstance") (rIsH X.K D q.1) := by
  intro pins s σ H xs us Q I r h
  obtain ⟨c, b, rfl, hc, h1⟩ := h
  obtain ⟨u1, u2, rfl, r1, r2⟩ := vals2 r
  obtain rfl : u1 = Value.ref q.1 := r1
  have hget := (I.pin q (List.mem_append_left _ hq)).1
  obtain ⟨a, oe⟩ := q
  obtain ⟨vs, hv⟩ := hf
  have J : PySem.W.InstAt s.heap a oe D none := by
    obtain ⟨oc, od, oda, osl⟩ := oe
    obtain ⟨h1, h2, _⟩ := hz
    dsimp only at h1 h2 hv
    subst h1 h2 hv
    exact ⟨hget, rfl, rfl, trivial⟩
  have Z := PySem.W.handS_kitx_exc (x := a) (ox := oe) C.hg C.hk C.hs C.hd C.ha C.hn C.ht C.hm
  rcases hc with ⟨cv, hcv, e⟩ | ⟨t, cs, ws, rfl, hT, hcs, e⟩
  · obtain rfl := hcv.eq r2
    exact PySem.W.kia_one Z I.kIn J e (fun z => nomatch z) fun tk => ⟨.bl b, H, I.kept (t' := tk) fun _ _ z => z, rfl, h1⟩
  · obtain rfl : u2 = Value.ref t := r2
    obtain ⟨_, its, rv, o, g1, g2, n, g3⟩ := (show ObjOk X.prog X.w H s.heap t (.tup cs) from I.hok t _ hT)
    obtain rfl := ClsV.all hcs rv
    obtain ⟨oc, od, dt, sl⟩ := o
    simp only at g2 g3
    subst g2 g3
    exact PySem.W.kia_tup Z I.kIn J g1 e (fun z => nomatch z) fun tk => ⟨.bl b, H, I.kept (t' := tk) fun _ _ z => z, rfl, h1⟩
end
theorem roomS {A : Around} {v : Option Value} {j k : Nat} (hr : Room k A) (h : j ≤ k) : L2H.RoomH j (A.mark v) := ⟨by have := hr.dp; show A.depth + 3 * j + 5 < _; omega, by have := hr.un; show A.units + 16 * j + 200 < _; omega⟩
theorem takes0N {X : Cx} : L2N.Takes X (fun _ _ _ _ => False) := fun _ _ x => by
  obtain ⟨_, _, _, _, _, _, _, _, _, _, _, _, _, _, _, _, z⟩ := x
  exact z.elim
theorem hot_suite {X : Cx} {a : Addr} {oe : Obj} {cls : Value} {d : Option Addr} {pn : List (Addr × Obj)} (hz : L2N.Zn cls d oe) (hf : ∃ vs, oe.data = .fields vs) : L2H.Hot1 (X.suite a ((a, oe) :: pn)).A (a, oe) := by
  obtain ⟨vs, hv⟩ := hf
  exact ⟨rfl, vs, hv, hz.2.2 vs hv⟩
end
/-! ### refused by an error; what is caught -/
/-- what a def refuses by the error x, nothing changed -/
def Ref (cs : Tabs) (x : Str) (E : XK) (H : Hp) : Prop := ∀ H', Sm H H' → E (.ref (cs.e x)) none H'
theorem Ref.sm {cs : Tabs} {x : Str} {E : XK} {H H' : Hp} (r : Ref cs x E H) (s : Sm H H') : Ref cs x E H' := fun H2 s2 => r H2 (s.trans s2)
/-- what is told where an error is caught -/
def EW (cs : Tabs) (Q : VK) : XK := fun cls d H => ∃ x ∈ RAISED, cls = .ref (cs.e x) ∧ d = none ∧ ∀ H', Sm H H' → Q (.str x) H'
theorem Ref.imp {cs : Tabs} {x : Str} {E E' : XK} {H : Hp} (i : ∀ c d H, E c d H → E' c d H) (r : Ref cs x E H) : Ref cs x E' H := fun H' s => i _ _ _ (r H' s)
section
variable {P : Program} {w : World} {K : PySem.W.Frag} {mg : Str → Option Value} {base : Heap} {cs : Tabs}
theorem strEq (a b : Str) : decide (V.str a = V.str b) = decide (a = b) := by
  rw [decide_eq_decide]
  exact ⟨fun e => by injection e, fun e => by rw [e]⟩
/-- an error that is caught is told by its word -/
theorem caught {cs : Tabs} (T : Txt K mg cs) {i : Nat} {ts : Addr → Value → Option Addr → TS} {Wout : WX} {D : Ends} {σ : L2.St} {Q : VK} (h : ∀ (a : Addr) (x : Str) (H : Hp), x ∈ RAISED → H a = none → (∀ H', Sm H H' → Q (.str x) H') → ts a (.ref (cs.e x)) none { nx := fun σ' H' => D.nx (σ'.set i none) H', rt := D.rt, bk := fun σ' H' => D.bk (σ'.set i none) H', ct := fun σ' H' => D.ct (σ'.set i none) H' } (σ.set i (some (.ref a))) H) :
    ∀ c d H, EW cs Q c d H → WE (wAs K (.ref (cs.e "StemError")) i ts Wout D) σ c d H := fun c d H ⟨x, hx, ec, ed, q⟩ => by
  subst ec ed
  refine ⟨true, ?_, fun _ a ha => h a x H hx ha q, fun z => nomatch z⟩
  rw [T.xm x hx "StemError" (by simp [ALLE]), decide_eq_true (show ("StemError" : Str) = "StemError" from rfl), Bool.or_true]
end
theorem ewRef {cs : Tabs} {x : Str} {Q : VK} {H : Hp} (hx : x ∈ RAISED) (q : ∀ H', Sm H H' → Q (.str x) H') : Ref cs x (EW cs Q) H := fun H' s => ⟨x, hx, rfl, rfl, fun H2 s2 => q H2 (s.trans s2)⟩
/-! ### an error told by its class's name -/
def spWord (cs : Tabs) : Addr → Value → Option Addr → Sp := fun a cls d vs H Q _ => ∃ (x : Str), vs = [.ref a] ∧ x ∈ RAISED ∧ cls = .ref (cs.e x) ∧ d = none ∧ ∀ H', Sm H H' → Q (.str x) H'
def WORDS : List Str := ["Within", "TooDeep", "NoRef", "NoWorth", "NoHead", "NoJob", "Held", "NoDealing", "odd"]
/-- a pair of a name and whether it is x -/
def WordV (K : PySem.W.Frag) (H : Hp) (x : Str) (v : V) (n : Str) : Prop := ∃ a, v = .ref a ∧ SqT K H a [.str n, .bl (decide (x = n))]
theorem WordV.sm {K : PySem.W.Frag} {H H' : Hp} {x : Str} {v : V} {n : Str} (h : WordV K H x v n) (s : Sm H H') : WordV K H' x v n := by
  obtain ⟨a, e, q⟩ := h
  exact ⟨a, e, Sm.seqT s q⟩
/-- a list of such -/
def WordL (K : PySem.W.Frag) (H : Hp) (x : Str) (F : Addr) (ns : List Str) : Prop := ∃ vs, H F = some (.lst vs) ∧ Paired (WordV K H x) vs ns
theorem WordL.sm {K : PySem.W.Frag} {H H' : Hp} {x : Str} {F : Addr} {ns : List Str} (h : WordL K H x F ns) (s : Sm H H') : WordL K H' x F ns := by
  obtain ⟨vs, e, q⟩ := h
  exact ⟨vs, s _ _ e, pairA_imp (fun _ _ h => h.sm s) q⟩
theorem pairA_app {α β : Type} {R : α → β → Prop} : ∀ {xs us : List α} {ys zs : List β}, Paired R xs ys → Paired R us zs → Paired R (xs ++ us) (ys ++ zs)
  | _, _, _, _, .nil, j => j
  | _, _, _, _, .cons h t, j => .cons h (pairA_app t j)
theorem word_cat {K : PySem.W.Frag} {H : Hp} {x : Str} {F B : Addr} {ns ms : List Str} {Q : VK} (f : WordL K H x F ns) (g : WordL K H x B ms) (hl : ns.length + ms.length ≤ 100) (q : ∀ G H', Sm H H' → WordL K H' x G (ns ++ ms) → Q (.ref G) H') : rCat (.ref F) (.ref B) H Q := by
  obtain ⟨vs, h, j⟩ := f
  obtain ⟨ws, h', j'⟩ := g
  have l1 := pairA_len j
  have l2 := pairA_len j'
  refine ⟨F, B, vs, ws, rfl, rfl, h, h', small (by omega), fun G hG => ?_⟩
  have s := Sm.new (o := .lst (vs ++ ws)) hG
  exact q G _ s ⟨_, upd_same, pairA_app (pairA_imp (fun _ _ h => h.sm s) j) (pairA_imp (fun _ _ h => h.sm s) j')⟩
section
variable {P : Program} {w : World} {K : PySem.W.Frag} {mg : Str → Option Value} {base : Heap} {cs : Tabs}
theorem isE (T : Txt K mg cs) {x C : Str} {a : Addr} {i : Nat} {σ : L2.St} {H : Hp} {Q : VK} (hx : x ∈ RAISED) (hs : σ[i]? = some (some (.ref a))) (hC : C ∈ ALLE) (nC : C ≠ "StemError") (q : Q (.bl (decide (x = C))) H) : tCB (rIsH K (cs.e x) a) (tCons (tVar i) (tCons (tC (.ref (cs.e C))) tNil)) σ H Q := by
  have k := T.xk x hx C hC
  rw [decide_eq_false nC, Bool.or_false] at k
  exact ⟨_, hs, .ref (cs.e C), _, rfl, .inl ⟨_, .own _, k⟩, q⟩
/-- two pairs -/
theorem two_words (T : Txt K mg cs) {x C1 C2 : Str} {a : Addr} {i : Nat} {σ : L2.St} {H : Hp} {Q : VK} (hx : x ∈ RAISED) (hs : σ[i]? = some (some (.ref a))) (h1 : C1 ∈ ALLE) (n1 : C1 ≠ "StemError") (h2 : C2 ∈ ALLE) (n2 : C2 ≠ "StemError") (q : ∀ F H', Sm H H' → WordL K H' x F [C1, C2] → Q (.ref F) H') :
    tLst (tCons (tTup (tCons (tC (.str C1)) (tCons (tCB (rIsH K (cs.e x) a) (tCons (tVar i) (tCons (tC (.ref (cs.e C1))) tNil))) tNil))) (tCons (tTup (tCons (tC (.str C2)) (tCons (tCB (rIsH K (cs.e x) a) (tCons (tVar i) (tCons (tC (.ref (cs.e C2))) tNil))) tNil))) tNil)) σ H Q := by
  refine isE T hx hs h1 n1 ⟨(by show 2 ≤ sizeLine; decide), fun t1 ht1 => ?_⟩
  refine isE T hx hs h2 n2 ⟨(by show 2 ≤ sizeLine; decide), fun t2 ht2 => ⟨(by show 2 ≤ sizeLine; decide), fun F hF => ?_⟩⟩
  have s1 := Sm.new (o := .tup [.str C1, .bl (decide (x = C1))]) ht1
  have s2 := Sm.new (o := .tup [.str C2, .bl (decide (x = C2))]) ht2
  have s3 := Sm.new (o := .lst [V.ref t1, V.ref t2]) hF
  exact q F _ (s1.trans (s2.trans s3)) ⟨_, upd_same, .cons ⟨t1, rfl, Sm.seqT (s2.trans s3) (SqT.of upd_same)⟩ (.cons ⟨t2, rfl, Sm.seqT s3 (SqT.of upd_same)⟩ .nil)⟩
theorem ok_law_word (T : Txt K mg cs) : CalP P w K mg base 1 "_law_word" ["caught"] (spWord cs) := by
  refine T.f_law_word.calP scLawWord (fun a cls d vs H Q E h => ?_) (fun f cdv A outer s H vs Q E p cls d hz hot hr h => ?_)
  · obtain ⟨_, rfl, _⟩ := h
    rfl
  obtain ⟨x, rfl, hx, rfl, rfl, q⟩ := h
  refine ⟨_, (pss_cons (ps_set (i := 1) scLawWord.nd rfl (by first | exact Or.inl rfl | exact Or.inr rfl) (pe_lst (pa_cons (pe_tup (pa_cons pe_str (pa_cons (pe_callB (call_isH (T.xc x hx).is hz (hot.2.imp fun _ h => h.1) (List.mem_singleton.mpr rfl)) rfl T.n_isinstance (by decide +kernel) (pa_cons (pv 0) (pa_cons (pe_glob (v := .ref (cs.e "Within")) rfl (T.xg "Within" (by simp [ALLE])) rfl) pa_nil))) pa_nil))) (pa_cons (pe_tup (pa_cons pe_str (pa_cons (pe_callB (call_isH (T.xc x hx).is hz (hot.2.imp fun _ h => h.1) (List.mem_singleton.mpr rfl)) rfl T.n_isinstance (by decide +kernel) (pa_cons (pv 0) (pa_cons (pe_glob (v := .ref (cs.e "TooDeep")) rfl (T.xg "TooDeep" (by simp [ALLE])) rfl) pa_nil))) pa_nil))) pa_nil))))
    (pss_cons (ps_set (i := 1) scLawWord.nd rfl (by first | exact Or.inl rfl | exact Or.inr rfl) (pe_op op_cat (pv 1) (pe_lst (pa_cons (pe_tup (pa_cons pe_str (pa_cons (pe_callB (call_isH (T.xc x hx).is hz (hot.2.imp fun _ h => h.1) (List.mem_singleton.mpr rfl)) rfl T.n_isinstance (by decide +kernel) (pa_cons (pv 0) (pa_cons (pe_glob (v := .ref (cs.e "NoRef")) rfl (T.xg "NoRef" (by simp [ALLE])) rfl) pa_nil))) pa_nil))) (pa_cons (pe_tup (pa_cons pe_str (pa_cons (pe_callB (call_isH (T.xc x hx).is hz (hot.2.imp fun _ h => h.1) (List.mem_singleton.mpr rfl)) rfl T.n_isinstance (by decide +kernel) (pa_cons (pv 0) (pa_cons (pe_glob (v := .ref (cs.e "NoWorth")) rfl (T.xg "NoWorth" (by simp [ALLE])) rfl) pa_nil))) pa_nil))) pa_nil)))))
    (pss_cons (ps_set (i := 1) scLawWord.nd rfl (by first | exact Or.inl rfl | exact Or.inr rfl) (pe_op op_cat (pv 1) (pe_lst (pa_cons (pe_tup (pa_cons pe_str (pa_cons (pe_callB (call_isH (T.xc x hx).is hz (hot.2.imp fun _ h => h.1) (List.mem_singleton.mpr rfl)) rfl T.n_isinstance (by decide +kernel) (pa_cons (pv 0) (pa_cons (pe_glob (v := .ref (cs.e "NoHead")) rfl (T.xg "NoHead" (by simp [ALLE])) rfl) pa_nil))) pa_nil))) (pa_cons (pe_tup (pa_cons pe_str (pa_cons (pe_callB (call_isH (T.xc x hx).is hz (hot.2.imp fun _ h => h.1) (List.mem_singleton.mpr rfl)) rfl T.n_isinstance (by decide +kernel) (pa_cons (pv 0) (pa_cons (pe_glob (v := .ref (cs.e "NoJob")) rfl (T.xg "NoJob" (by simp [ALLE])) rfl) pa_nil))) pa_nil))) pa_nil)))))
    (pss_cons (ps_set (i := 1) scLawWord.nd rfl (by first | exact Or.inl rfl | exact Or.inr rfl) (pe_op op_cat (pv 1) (pe_lst (pa_cons (pe_tup (pa_cons pe_str (pa_cons (pe_callB (call_isH (T.xc x hx).is hz (hot.2.imp fun _ h => h.1) (List.mem_singleton.mpr rfl)) rfl T.n_isinstance (by decide +kernel) (pa_cons (pv 0) (pa_cons (pe_glob (v := .ref (cs.e "Held")) rfl (T.xg "Held" (by simp [ALLE])) rfl) pa_nil))) pa_nil))) (pa_cons (pe_tup (pa_cons pe_str (pa_cons (pe_callB (call_isH (T.xc x hx).is hz (hot.2.imp fun _ h => h.1) (List.mem_singleton.mpr rfl)) rfl T.n_isinstance (by decide +kernel) (pa_cons (pv 0) (pa_cons (pe_glob (v := .ref (cs.e "NoDealing")) rfl (T.xg "NoDealing" (by simp [ALLE])) rfl) pa_nil))) pa_nil))) pa_nil)))))
    (pss_cons (ps_set (i := 1) scLawWord.nd rfl (by first | exact Or.inl rfl | exact Or.inr rfl) (pe_op op_cat (pv 1) (pe_lst (pa_cons (pe_tup (pa_cons pe_str (pa_cons (pe_callB (call_isH (T.xc x hx).is hz (hot.2.imp fun _ h => h.1) (List.mem_singleton.mpr rfl)) rfl T.n_isinstance (by decide +kernel) (pa_cons (pv 0) (pa_cons (pe_tup (pa_cons (pe_glob (v := .ref (cs.e "Erring")) rfl (T.xg "Erring" (by simp [ALLE])) rfl) (pa_cons (pe_glob (v := .ref (cs.e "NoLabel")) rfl (T.xg "NoLabel" (by simp [ALLE])) rfl) (pa_cons (pe_glob (v := .ref (cs.e "NoLock")) rfl (T.xg "NoLock" (by simp [ALLE])) rfl) (pa_cons (pe_glob (v := .ref (cs.e "NoProgram")) rfl (T.xg "NoProgram" (by simp [ALLE])) rfl) (pa_cons (pe_glob (v := .ref (cs.e "NoText")) rfl (T.xg "NoText" (by simp [ALLE])) rfl) (pa_cons (pe_glob (v := .ref (cs.e "TooLong")) rfl (T.xg "TooLong" (by simp [ALLE])) rfl) (pa_cons (pe_glob (v := .ref (cs.e "Waiting")) rfl (T.xg "Waiting" (by simp [ALLE])) rfl) pa_nil)))))))) pa_nil))) pa_nil))) pa_nil))))
    (pss_cons (ps_setLcH (i := 2) (own := [("word", 3), ("there", 4)]) (g := gTup K 2 (gCons (gName 3) (gCons (gName 4) gNil))) (tt := _) ⟨p, hot, List.mem_singleton.mpr rfl⟩ scLawWord.nd rfl rfl (sw_true rfl rfl rfl (by decide +kernel)) (pi_listH (pv 1)) (blkOk_by (own := [("word", 3), ("there", 4)]) (N := ["caught", "pairs", "found", "word", "there"]) (sc := defScope sLawWord) (by decide +kernel)) (fun p _ _ _ _ _ hp => (pg_tupH (hot_blk hp) (pgs_cons (pg_name (i := 3) scLawWord.nd rfl (by first | exact Or.inl rfl | exact Or.inr rfl)) (pgs_cons (pg_name (i := 4) scLawWord.nd rfl (by first | exact Or.inl rfl | exact Or.inr rfl)) pgs_nil)))) (fun _ _ _ _ _ _ => (pts_one (pt_val (pv 4)))) (fun _ _ _ _ _ _ => (pv 3)))
    (pss_one (ps_ret (pe_ifExp (PW.pt (pw_and (pt_cmpR op_eq (pe_callB (lenQ K) rfl T.n_len (by decide +kernel) (pa_cons (pv 2) pa_nil)) pe_int (nomark _)) (pw_and1 (pt_val (pe_callB (call_isH (T.xc x hx).is hz (hot.2.imp fun _ h => h.1) (List.mem_singleton.mpr rfl)) rfl T.n_isinstance (by decide +kernel) (pa_cons (pv 0) (pa_cons (pe_bltn (v := .ty "ValueError") rfl T.n_ValueError (by decide +kernel) rfl) pa_nil))))))) (pe_ix (ixL K) (pv 2) pe_int (fun _ _ => rfl)) pe_str))))))))), ?_⟩
  have mem : ∀ {C : Str}, C ∈ ALLE → C ∈ ALLE := fun h => h
  refine run_set ?_
  refine two_words T hx rfl (by simp [ALLE]) (by decide +kernel) (by simp [ALLE]) (by decide +kernel) fun F1 H1 S1 W1 => ?_
  refine run_set ⟨_, rfl, ?_⟩
  refine two_words T hx rfl (by simp [ALLE]) (by decide +kernel) (by simp [ALLE]) (by decide +kernel) fun B1 H2 S2 V1 => ?_
  refine word_cat (W1.sm S2) V1 (by decide) fun F2 H3 S3 W2 => ?_
  refine run_set ⟨_, rfl, ?_⟩
  refine two_words T hx rfl (by simp [ALLE]) (by decide +kernel) (by simp [ALLE]) (by decide +kernel) fun B2 H4 S4 V2 => ?_
  refine word_cat (W2.sm S4) V2 (by decide) fun F3 H5 S5 W3 => ?_
  refine run_set ⟨_, rfl, ?_⟩
  refine two_words T hx rfl (by simp [ALLE]) (by decide +kernel) (by simp [ALLE]) (by decide +kernel) fun B3 H6 S6 V3 => ?_
  refine word_cat (W3.sm S6) V3 (by decide) fun F4 H7 S7 W4 => ?_
  have S07 := (S1.trans (S2.trans S3)).trans ((S4.trans S5).trans (S6.trans S7))
  -- the others
  refine run_set ⟨_, rfl, ?_⟩
  refine ⟨_, rfl, (by show 7 ≤ sizeLine; decide), fun t ht => ?_⟩
  have nk : PySem.W.kitAny K (.ref (cs.e x)) [.ref (cs.e "Erring"), .ref (cs.e "NoLabel"), .ref (cs.e "NoLock"), .ref (cs.e "NoProgram"), .ref (cs.e "NoText"), .ref (cs.e "TooLong"), .ref (cs.e "Waiting")] = some false := by
    have no : ∀ C ∈ ALLE, x ≠ C → C ≠ "StemError" → PySem.W.kitOne K (.ref (cs.e x)) (.ref (cs.e C)) = some false := fun C hC n1 n2 => by
      have k := T.xk x hx C hC
      rwa [decide_eq_false n2, decide_eq_false n1] at k
    have ne : ∀ C ∈ (["Erring", "NoLabel", "NoLock", "NoProgram", "NoText", "TooLong", "Waiting"] : List Str), x ≠ C := by
      simp only [RAISED, List.mem_cons, List.not_mem_nil, or_false] at hx
      rcases hx with rfl | rfl | rfl | rfl <;> decide +kernel
    refine kitAny_cons (no "Erring" (by simp [ALLE]) (ne _ (by simp)) (by decide +kernel)) (fun _ => ?_) (fun z => z)
    refine kitAny_cons (no "NoLabel" (by simp [ALLE]) (ne _ (by simp)) (by decide +kernel)) (fun _ => ?_) (fun z => z)
    refine kitAny_cons (no "NoLock" (by simp [ALLE]) (ne _ (by simp)) (by decide +kernel)) (fun _ => ?_) (fun z => z)
    refine kitAny_cons (no "NoProgram" (by simp [ALLE]) (ne _ (by simp)) (by decide +kernel)) (fun _ => ?_) (fun z => z)
    refine kitAny_cons (no "NoText" (by simp [ALLE]) (ne _ (by simp)) (by decide +kernel)) (fun _ => ?_) (fun z => z)
    refine kitAny_cons (no "TooLong" (by simp [ALLE]) (ne _ (by simp)) (by decide +kernel)) (fun _ => ?_) (fun z => z)
    exact kitAny_cons (no "Waiting" (by simp [ALLE]) (ne _ (by simp)) (by decide +kernel)) (fun _ => rfl) (fun z => z)
  have st := Sm.new (o := .tup [.ref (cs.e "Erring"), .ref (cs.e "NoLabel"), .ref (cs.e "NoLock"), .ref (cs.e "NoProgram"), .ref (cs.e "NoText"), .ref (cs.e "TooLong"), .ref (cs.e "Waiting")]) ht
  refine ⟨.ref t, _, rfl, .inr ⟨t, _, _, rfl, upd_same, .cons (.own _) (.cons (.own _) (.cons (.own _) (.cons (.own _) (.cons (.own _) (.cons (.own _) (.cons (.own _) .nil)))))), nk⟩, (by show 2 ≤ sizeLine; decide), fun t9 ht9 => ⟨(by show 1 ≤ sizeLine; decide), fun B9 hB9 => ?_⟩⟩
  have s9 := Sm.new (o := .tup [.str "odd", .bl false]) ht9
  have s10 := Sm.new (o := .lst [V.ref t9]) hB9
  have odd : decide (x = "odd") = false := by
    simp only [RAISED, List.mem_cons, List.not_mem_nil, or_false] at hx
    rcases hx with rfl | rfl | rfl | rfl <;> decide +kernel
  have V9 : WordL K (upd (upd (upd H7 t (.tup [.ref (cs.e "Erring"), .ref (cs.e "NoLabel"), .ref (cs.e "NoLock"), .ref (cs.e "NoProgram"), .ref (cs.e "NoText"), .ref (cs.e "TooLong"), .ref (cs.e "Waiting")])) t9 (.tup [.str "odd", .bl false])) B9 (.lst [.ref t9])) x B9 ["odd"] := ⟨_, upd_same, .cons ⟨t9, rfl, by rw [odd]; exact Sm.seqT s10 (SqT.of upd_same)⟩ .nil⟩
  have S710 := st.trans (s9.trans s10)
  refine word_cat (W4.sm S710) V9 (by decide) fun F5 H11 S11 W5 => ?_
  have S011 := S07.trans (S710.trans S11)
  -- those that are so
  obtain ⟨vs, hvs, pv⟩ := W5
  have pl := pairA_len pv
  refine run_set ⟨_, rfl, F5, rfl, ⟨_, SqL.of hvs⟩, fun D hD => ?_⟩
  refine lc_list (K := K) (a := F5) (xs := vs) (fun i H' => Sm H11 H' ∧ H' D = some (.lst (((WORDS.take i).filter fun n => decide (x = n)).map V.str))) ⟨Sm.new hD, by rw [List.take_zero]; exact upd_same⟩ (fun i H' _ h => SqL.of (h.1 _ _ hvs)) (fun i v H' hi h => ?_) fun H' h => ?_
  · obtain ⟨n, hn, a, rfl, sq⟩ := pairA_at pv hi
    refine ⟨a, _, rfl, Sm.seqT h.1 sq, rfl, _, _, rfl, _, _, rfl, rfl, rfl, ?_⟩
    have hn : WORDS[i]? = some n := hn
    refine ⟨_, rfl, _, rfl, ?_⟩
    have snoc : (WORDS.take (i + 1)).filter (fun n => decide (x = n)) = (WORDS.take i).filter (fun n => decide (x = n)) ++ [n].filter fun n => decide (x = n) := by
      rw [List.take_add_one, hn, List.filter_append]
      rfl
    refine ite2 (fun c => ?_) (fun c => ?_)
    · have len : ((WORDS.take i).filter fun n => decide (x = n)).length ≤ 9 := Nat.le_trans (List.length_filter_le _ _) (by rw [List.length_take]; exact Nat.min_le_right _ _)
      refine ⟨_, rfl, _, h.2, small' (by rw [List.length_map]; omega), Sm.own h.1 hD (no_tbl h.2), ?_⟩
      rw [snoc, show [n].filter (fun n => decide (x = n)) = [n] from by rw [List.filter_cons, if_pos c]; rfl, List.map_append]
      exact upd_same
    · refine ⟨h.1, ?_⟩
      rw [snoc, show [n].filter (fun n => decide (x = n)) = [] from by rw [List.filter_cons, if_neg c]; rfl, List.append_nil]
      exact h.2
  · obtain ⟨hs, hD'⟩ := h
    have all : ((WORDS.take vs.length).filter fun n => decide (x = n)).map V.str = [.str x] := by
      rw [pl]
      show (WORDS.filter fun n => decide (x = n)).map V.str = [.str x]
      simp only [RAISED, List.mem_cons, List.not_mem_nil, or_false] at hx
      rcases hx with rfl | rfl | rfl | rfl <;> decide +kernel
    rw [all] at hD'
    refine run_ret ⟨_, rfl, D, _, rfl, .inl (SqL.of hD'), rfl, ?_⟩
    refine ⟨_, rfl, ?_⟩
    refine iteT ?_
    refine ⟨_, rfl, .ty "ValueError", true, rfl, .inl ⟨_, .ty _, (T.xc x hx).ve⟩, _, rfl, iteT ?_⟩
    exact ⟨_, rfl, D, _, 0, _, rfl, rfl, SqL.of hD', atI_nat (j := 0) rfl, q H' (S011.trans hs)⟩
end
/-! ### asking rows, short references: of any thing -/
def askD : D → Bool
  | .tup l => match l.getLast? with
    | some z => decide (l.length ≤ 6) && (l.dropLast.all kD && (wD z && decide (lenD z ≤ 40)))
    | none => false
  | _ => false
def askRefD : D → Bool
  | .tup [x, y] => nD x && askD y
  | _ => false
def shortD : D → Bool
  | .tup [.str z, y] => decide (z = "") && askD y
  | _ => false
theorem askD_snoc (es : List D) (z : D) : askD (.tup (es ++ [z])) = (decide (es.length + 1 ≤ 6) && (es.all kD && (wD z && decide (lenD z ≤ 40)))) := by
  simp only [askD, List.getLast?_concat, List.dropLast_concat, List.length_append, List.length_singleton]
theorem thAll_snoc {K : PySem.W.Frag} {av : Addr → Prop} {n : Nat} {H : Hp} {v : V} : ∀ {ys : List V} {ds : List D}, ThAll K av n H (ys ++ [v]) ds → ∃ es d, ds = es ++ [d] ∧ ThAll K av n H ys es ∧ Th K av n H v d
  | [], _, .cons h .nil => ⟨[], _, rfl, .nil, h⟩
  | y :: ys, _, .cons h t => by
    obtain ⟨es, d, rfl, t', h'⟩ := thAll_snoc t
    exact ⟨_ :: es, d, rfl, .cons h t', h'⟩
theorem slice_butV {K : PySem.W.Frag} {t : Addr} {ys : List V} {v : V} {H : Hp} {Q : VK} (h : SqT K H t (ys ++ [v])) (q : ∀ p H', Sm H H' → SqT K H' p ys → Q (.ref p) H') : rSlA K (.ref t) none (some (-1)) H Q := by
  have e1 : HT.sIx (ys ++ [v]).length (ys ++ [v]).length (some (-1)) = ys.length := by
    rw [List.length_append, List.length_singleton]
    show (if (-1 : Int) < 0 then ((-1 : Int) + ((ys.length + 1 : Nat) : Int)).toNat else min ((-1 : Int)).toNat (ys.length + 1)) = _
    rw [if_pos (by decide)]
    omega
  refine ⟨t, _, rfl, h, fun e => ?_, fun _ p hp => ?_⟩
  · have e2 := e.2
    rw [e1, List.length_append, List.length_singleton] at e2
    omega
  · have e3 : cutV (ys ++ [v]) none (some (-1)) = ys := by
      unfold cutV
      rw [e1, HT.sIx_none, List.drop_zero, Nat.sub_zero, List.take_left]
    rw [e3]
    exact q p _ (Sm.new hp) (SqT.of upd_same)
section
variable {P : Program} {w : World} {K : PySem.W.Frag} {mg : Str → Option Value} {base : Heap} {cs : Tabs}
theorem ok_asking_rowA (T : Txt K mg cs) (Cis_worth : Cal P w K mg base 2 "is_worth" ["thing"] (spD wD K cs)) (Cis_row : Cal P w K mg base 5 "is_row" ["thing"] (spD rowD K cs)) : Cal P w K mg base 6 "is_asking_row" ["thing"] (spD askD K cs) := by
  refine T.f_is_asking_row.cal scIsAskingRow (fun vs H Q E h => ?_) (fun f cdv A outer s H vs Q E hr h => ?_)
  · obtain ⟨v, d, n, av, rfl, _⟩ := h
    rfl
  obtain ⟨v, d, n, av, rfl, th, A1, hn, hT, q⟩ := h
  refine ⟨_, (pss_cons (ps_if (PW.pt (pw_or (pt_not (pt_val (pe_callB (isI K) rfl T.n_isinstance (by decide +kernel) (pa_cons (pv 0) (pa_cons (pe_bltn (v := .ty "tuple") rfl T.n_tuple (by decide +kernel) rfl) pa_nil))))) (pw_or1 (pt_not (pt_chain op_le op_le pe_int (pe_callB (lenQ K) rfl T.n_len (by decide +kernel) (pa_cons (pv 0) pa_nil)) (C8.pe_gc rfl T.g_MOST_KEYS)))))) (pss_one (ps_ret pe_bl)) pss_nil)
    (pss_cons (ps_set (i := 1) scIsAskingRow.nd rfl (by first | exact Or.inl rfl | exact Or.inr rfl) (pe_ix (ixT K) (pv 0) (pe_un un_neg pe_int) (fun _ _ => rfl)))
    (pss_one (ps_ret (pe_and (pe_cal Cis_row (hr.mono (by first | decide | omega)) (pa_cons (pe_slice (slT K) (pv 0) po_none (po_some (pe_un un_neg pe_int))) pa_nil)) (pe_and (pe_cal Cis_worth (hr.mono (by first | decide | omega)) (pa_cons (pv 1) pa_nil)) (pe_one (pe_cmpR op_le (pe_callB lenT rfl T.n_len (by decide +kernel) (pa_cons (pv 1) pa_nil)) (C8.pe_gc rfl T.g__LONGEST_KEY) (nomark _))))))))), ?_⟩
  refine run_if ?_
  refine ⟨_, rfl, _, _, _, _, _, rfl, ClsV.ty "tuple", th.tyx, kitT d, _, rfl, ?_⟩
  by_cases c : d.isTup = true
  rotate_left
  · rw [Bool.eq_false_iff.mpr c]
    refine iteT ?_
    refine iteT ?_
    have e : askD d = false := by cases d <;> first | rfl | exact absurd rfl c
    exact run_ret (e ▸ q H (Sm.refl H))
  rw [c]
  refine iteF ?_
  obtain ⟨t, xs, ds, rfl, rfl, h, hx, ha⟩ := tup_of th c
  have len := ha.len
  refine ⟨_, rfl, t, _, rfl, .inr h, ?_⟩
  refine ⟨1, (xs.length : Int), rfl, rfl, _, rfl, ?_⟩
  by_cases c1 : 1 ≤ xs.length
  rotate_left
  · rw [show decide ((1 : Int) ≤ (xs.length : Int)) = false from decide_eq_false (by omega)]
    have e0 : xs = [] := List.eq_nil_of_length_eq_zero (by omega)
    subst e0
    cases ha
    exact iteF ⟨_, rfl, iteT (run_ret (q H (Sm.refl H)))⟩
  rw [show decide ((1 : Int) ≤ (xs.length : Int)) = true from decide_eq_true (by omega)]
  refine iteT ?_
  refine ⟨(xs.length : Int), 6, rfl, rfl, _, rfl, ?_⟩
  obtain ⟨ys, v, rfl⟩ : ∃ ys v, xs = ys ++ [v] := ⟨_, _, (List.dropLast_concat_getLast (by intro e; subst e; simp at c1)).symm⟩
  obtain ⟨es, z, rfl, hy, hz⟩ := thAll_snoc ha
  have ly := hy.len
  rw [askD_snoc] at q
  rw [List.length_append, List.length_singleton]
  by_cases c2 : ys.length + 1 ≤ 6
  rotate_left
  · rw [show decide (((ys.length + 1 : Nat) : Int) ≤ 6) = false from decide_eq_false (by omega)]
    rw [decide_eq_false (show ¬ es.length + 1 ≤ 6 by omega), Bool.false_and] at q
    exact iteT (run_ret (q H (Sm.refl H)))
  rw [show decide (((ys.length + 1 : Nat) : Int) ≤ 6) = true from decide_eq_true (by omega)]
  rw [decide_eq_true (show es.length + 1 ≤ 6 by omega), Bool.true_and] at q
  refine iteF ?_
  refine run_next ?_
  dsimp only
  refine run_set ⟨_, rfl, 1, rfl, t, _, -1, v, rfl, rfl, h, atI_last _ _, ?_⟩
  dsimp only
  refine run_ret ?_
  refine ⟨_, rfl, 1, rfl, -1, rfl, slice_butV h fun p' H1 S1 h1 => ?_⟩
  have t1 : Th K av n H1 (.ref p') (.tup es) := .tup h1 (by omega) (hy.ko A1 (KO.sm S1))
  refine ⟨_, _, n, av, rfl, t1, A1.sm S1, hn, hT.sm S1, fun H2 S2 => ?_⟩
  have er : rowD (.tup es) = es.all kD := by
    show (decide (es.length ≤ 6) && es.all kD) = _
    rw [decide_eq_true (by omega), Bool.true_and]
  rw [er]
  refine ⟨_, rfl, ?_⟩
  have S12 := S1.trans S2
  refine ite2 (fun k1 => ?_) (fun k1 => ?_)
  rotate_left
  · rw [Bool.eq_false_iff.mpr k1, Bool.false_and] at q
    have := q H2 S12
    exact this
  rw [k1, Bool.true_and] at q
  refine ⟨_, rfl, v, z, n, av, rfl, hz.ko A1 (KO.sm S12), A1.sm S12, hn, hT.sm S12, fun H3 S3 => ⟨_, rfl, ?_⟩⟩
  refine ite2 (fun k2 => ?_) (fun k2 => ?_)
  rotate_left
  · rw [Bool.eq_false_iff.mpr k2, Bool.false_and] at q
    exact q H3 (S12.trans S3)
  rw [k2, Bool.true_and] at q
  have cz : z.isStr = true := by cases z <;> first | rfl | cases k2
  obtain ⟨y, rfl, rfl, hl, hasc⟩ := str_of hz cz
  refine ⟨_, rfl, y, rfl, ?_, _, _, rfl, rfl, ?_⟩
  · rw [len_tl]
    exact Nat.le_trans (Nat.le_trans hl (show 400 + n ≤ 410 by omega)) (by decide)
  · have e : decide ((y.length : Int) ≤ 40) = decide (lenD (.str y) ≤ 40) := by
      rw [decide_eq_decide, len_tl]
      show _ ↔ (tl y).length ≤ 40
      omega
    show Q (.bl (decide ((y.length : Int) ≤ 40))) H3
    rw [e]
    exact q H3 (S12.trans S3)
end
/-! ### what checks refuse, of things of any kind -/
def spNo (f : D → Bool) (x : Str) (K : PySem.W.Frag) (cs : Tabs) : Sp := fun vs H _ E => ∃ (v : V) (d : D) (n : Nat) (av : Addr → Prop), vs = [v] ∧ Th K av n H v d ∧ AvL av H ∧ n ≤ 10 ∧ f d = false ∧ TGs H cs ∧ Ref cs x E H
section
variable {P : Program} {w : World} {K : PySem.W.Frag} {mg : Str → Option Value} {base : Heap} {cs : Tabs}
theorem ok_asking_refA (T : Txt K mg cs) (Cis_pair : Cal P w K mg base 1 "is_pair" ["thing"] (spD (fun d => d.isTup && decide (lenD d = 2)) K cs)) (Cis_name : Cal P w K mg base 2 "is_name" ["thing"] (spD nD K cs)) (Cis_asking_row : Cal P w K mg base 6 "is_asking_row" ["thing"] (spD askD K cs)) : Cal P w K mg base 7 "is_asking_reference" ["thing"] (spD askRefD K cs) := by
  refine T.f_is_asking_reference.cal scIsAskingReference (fun vs H Q E h => ?_) (fun f cdv A outer s H vs Q E hr h => ?_)
  · obtain ⟨v, d, n, av, rfl, _⟩ := h
    rfl
  obtain ⟨v, d, n, av, rfl, th, A1, hn, hT, q⟩ := h
  refine ⟨_, (pss_one (ps_ret (pe_and (pe_cal Cis_pair (hr.mono (by first | decide | omega)) (pa_cons (pv 0) pa_nil)) (pe_and (pe_cal Cis_name (hr.mono (by first | decide | omega)) (pa_cons (pe_ix (ixT K) (pv 0) pe_int (fun _ _ => rfl)) pa_nil)) (pe_one (pe_cal Cis_asking_row (hr.mono (by first | decide | omega)) (pa_cons (pe_ix (ixT K) (pv 0) pe_int (fun _ _ => rfl)) pa_nil))))))), ?_⟩
  refine ⟨_, rfl, v, d, n, av, rfl, th, A1, hn, hT, fun H1 S1 => ⟨_, rfl, ?_⟩⟩
  refine ite2 (fun c => ?_) (fun c => ?_)
  rotate_left
  · have e : askRefD d = false := by
      unfold askRefD
      split
      · exact absurd rfl c
      · rfl
    exact e ▸ q H1 S1
  rw [Bool.and_eq_true] at c
  obtain ⟨a, xs, ds, rfl, rfl, h, hx, ha⟩ := tup_of th c.1
  obtain ⟨x, y, rfl, dx, dy, rfl, tx, ty⟩ := two_of ha (of_decide_eq_true c.2)
  have q : ∀ H', Sm H H' → Q (.bl (nD dx && askD dy)) H' := q
  refine ⟨_, rfl, a, _, 0, _, rfl, rfl, Sm.seqT S1 h, atI_nat (j := 0) rfl, x, dx, n, av, rfl, tx.ko A1 (KO.sm S1), A1.sm S1, hn, hT.sm S1, fun H2 S2 => ⟨_, rfl, ?_⟩⟩
  have S12 := S1.trans S2
  refine ite2 (fun c2 => ?_) (fun c2 => ?_)
  rotate_left
  · rw [Bool.eq_false_iff.mpr c2, Bool.false_and] at q
    exact q H2 S12
  rw [c2, Bool.true_and] at q
  exact ⟨_, rfl, a, _, 1, _, rfl, rfl, Sm.seqT S12 h, atI_nat (j := 1) rfl, y, dy, n, av, rfl, ty.ko A1 (KO.sm S12), A1.sm S12, hn, hT.sm S12, fun H3 S3 => q H3 (S12.trans S3)⟩
theorem ok_need_worthX (T : Txt K mg cs) (Cis_worth : Cal P w K mg base 2 "is_worth" ["thing"] (spD wD K cs)) : CalX P w K mg base 3 "need_worth" ["thing"] (spNo wD "NoWorth" K cs) := by
  refine T.f_need_worth.calX scNeedWorth (fun vs H Q E h => ?_) (fun f cdv A outer s H vs Q E hr h => ?_)
  · obtain ⟨_, _, _, _, rfl, _⟩ := h
    rfl
  obtain ⟨v, d, n, av, rfl, th, A1, hn, e, hT, r⟩ := h
  refine ⟨_, (pss_one (ps_if (pt_not (pt_val (pe_cal Cis_worth (hr.mono (by first | decide | omega)) (pa_cons (pv 0) pa_nil)))) (pss_one (L2N.ps_raise rfl (L2N.takes_of rfl rfl rfl rfl) (pmk_own0 PySem.F.excBase_ValueError (T.xc "NoWorth" (by simp [RAISED])).ex (T.xg "NoWorth" (by simp [ALLE])) (T.xc "NoWorth" (by simp [RAISED])).kp (raises_own (T.xc "NoWorth" (by simp [RAISED])).bs (T.xc "NoWorth" (by simp [RAISED])).ty)))) pss_nil)), ?_⟩
  refine ⟨_, rfl, v, d, n, av, rfl, th, A1, hn, hT, fun H1 S1 => ⟨_, rfl, ?_⟩⟩
  rw [e]
  exact iteT (r H1 S1)
end
/-! ### the end of a tuple -/
theorem slice_from {K : PySem.W.Frag} {t : Addr} {xs : List V} {k : Nat} {H : Hp} {Q : VK} (h : SqT K H t xs) (hk : k ≤ xs.length) (q : ∀ p H', Sm H H' → SqT K H' p (xs.drop k) → Q (.ref p) H') : rSlA K (.ref t) (some (k : Int)) none H Q := by
  have e0 : HT.sIx xs.length 0 (some (k : Int)) = k := by
    show (if (k : Int) < 0 then ((k : Int) + (xs.length : Int)).toNat else min (k : Int).toNat xs.length) = k
    rw [if_neg (by omega)]
    omega
  refine ⟨t, xs, rfl, h, fun e => ?_, fun _ p hp => ?_⟩
  · have e1 := e.1
    rw [e0] at e1
    subst e1
    exact q t H (Sm.refl H) h
  · have e : cutV xs (some (k : Int)) none = xs.drop k := by
      unfold cutV
      rw [e0, show HT.sIx xs.length xs.length none = xs.length from rfl]
      exact List.take_of_length_le (by rw [List.length_drop]; omega)
    rw [e]
    exact q p _ (Sm.new hp) (SqT.of upd_same)
/-! ### things written on the spot, of what stands already -/
def Ev (K : PySem.W.Frag) (av : Addr → Prop) (σ : L2.St) (H0 : Hp) (te : TE) (d : D) : Prop := ∀ (H : Hp) (Q : VK), Sm H0 H → AvL av H → (∀ v H', Sm H H' → Th K av 0 H' v d → Q v H') → te σ H Q
def EvAll (K : PySem.W.Frag) (av : Addr → Prop) (σ : L2.St) (H0 : Hp) (ta : TA) (ds : List D) : Prop := ∀ (H : Hp) (R : List V → Hp → Prop), Sm H0 H → AvL av H → (∀ vs H', Sm H H' → ThAll K av 0 H' vs ds → R vs H') → ta σ H R
section
variable {K : PySem.W.Frag} {av : Addr → Prop} {σ : L2.St} {H0 : Hp} {te tb : TE} {ta : TA} {d : D} {ds es l l2 : List D}
theorem Ev.non : Ev K av σ H0 (tC .non) .non := fun H _ _ _ q => q _ H (Sm.refl H) .non
theorem Ev.bl (b : Bool) : Ev K av σ H0 (tC (.bl b)) (.bl b) := fun H _ _ _ q => q _ H (Sm.refl H) (.bl b)
theorem Ev.int (i : Int) (h : i.natAbs ≤ 10 ^ 22 + 0) : Ev K av σ H0 (tC (.int i)) (.int i) := fun H _ _ _ q => q _ H (Sm.refl H) (.int i h)
theorem th_okS {n : Nat} {H : Hp} {z : Str} (h : (decide ((tl z).length ≤ 400 + n) && (tl z).all fun c => decide (c < 128)) = true) : Th K av n H (.str z) (.str z) := by
  have h := (Bool.and_eq_true _ _).mp h
  exact .str z (of_decide_eq_true h.1) fun c hc => of_decide_eq_true (List.all_eq_true.mp h.2 c hc)
theorem Ev.str (z : Str) (h : (decide ((tl z).length ≤ 400 + 0) && (tl z).all fun c => decide (c < 128)) = true) : Ev K av σ H0 (tC (.str z)) (.str z) := fun H _ _ _ q => q _ H (Sm.refl H) (th_okS h)
theorem Ev.repS (z : Str) (i : Int) (h0 : 0 ≤ i) (h1 : i ≤ 1000) (h2 : z.length ≤ 1000) (h : (decide ((tl (Txt.mul z i)).length ≤ 400 + 0) && (tl (Txt.mul z i)).all fun c => decide (c < 128)) = true) : Ev K av σ H0 (tOp rRepS (tC (.str z)) (tC (.int i))) (.str (Txt.mul z i)) := fun H _ _ _ q => ⟨z, i, rfl, rfl, mul_ok h0 h1 h2, q _ H (Sm.refl H) (th_okS h)⟩
theorem Ev.var {i : Nat} {v : V} (hs : σ[i]? = some (some v)) (A0 : AvL av H0) (h : Th K av 0 H0 v d) : Ev K av σ H0 (tVar i) d := fun H _ S _ q => ⟨v, hs, q v H (Sm.refl H) (h.ko A0 (KO.sm S))⟩
/-- a text that is told at once -/
theorem Ev.at {z : Str} (h : ∀ (H : Hp) (Q : VK), Sm H0 H → Q (.str z) H → te σ H Q) (ok : (tl z).length ≤ 400 ∧ ∀ c ∈ tl z, c < 128) : Ev K av σ H0 te (.str z) := fun H Q S _ q => h H Q S (q _ H (Sm.refl H) (.str z ok.1 ok.2))
theorem EvAll.nil : EvAll K av σ H0 tNil [] := fun H _ _ _ q => q [] H (Sm.refl H) .nil
theorem EvAll.cons (h : Ev K av σ H0 te d) (t : EvAll K av σ H0 ta ds) : EvAll K av σ H0 (tCons te ta) (d :: ds) := fun H _ S A q =>
  h H _ S A fun _ H1 S1 hv => t H1 _ (S.trans S1) (A.sm S1) fun _ H2 S2 hvs => q _ H2 (S1.trans S2) (.cons (hv.ko (A.sm S1) (KO.sm S2)) hvs)
theorem Ev.tup (h : EvAll K av σ H0 ta ds) (hl : ds.length ≤ 40) : Ev K av σ H0 (tTup ta) (.tup ds) := fun H Q S A q => by
  refine h H _ S A fun vs H' S' hv => ⟨small (by rw [hv.len]; omega), fun p hp => q _ _ (S'.trans (Sm.new hp)) ?_⟩
  exact .tup (.inl (.inl upd_same)) (by rw [hv.len]; omega) (hv.ko (A.sm S') (KO.sm (Sm.new hp)))
theorem Ev.lst (h : EvAll K av σ H0 ta ds) (hl : ds.length ≤ 40) : Ev K av σ H0 (tLst ta) (.lst ds) := fun H Q S A q => by
  refine h H _ S A fun vs H' S' hv => ⟨small (by rw [hv.len]; omega), fun p hp => q _ _ (S'.trans (Sm.new hp)) ?_⟩
  exact .lst upd_same ((A.sm S').fresh hp) (by rw [hv.len]; omega) (hv.ko (A.sm S') (KO.sm (Sm.new hp)))
theorem Ev.cat (h1 : Ev K av σ H0 te (.tup l)) (h2 : Ev K av σ H0 tb (.tup l2)) (hl : l.length + l2.length ≤ 40) : Ev K av σ H0 (tOp (rCatA K) te tb) (.tup (l ++ l2)) := fun H Q S A q => by
  refine h1 H _ S A fun v H1 S1 t1 => h2 H1 _ (S.trans S1) (A.sm S1) fun u H2 S2 t2 => ?_
  have A1 := A.sm S1
  have A2 := A1.sm S2
  obtain ⟨a, xs, _, rfl, e1, g1, n1, x1⟩ := tup_of (t1.ko A1 (KO.sm S2)) rfl
  obtain ⟨b, ys, _, rfl, e2, g2, n2, x2⟩ := tup_of t2 rfl
  injection e1 with e1
  injection e2 with e2
  subst e1 e2
  have l1 := x1.len
  have l2 := x2.len
  refine cat_two g1 g2 (by omega) fun p H3 S3 h3 => q _ H3 (S1.trans (S2.trans S3)) (.tup h3 (by rw [List.length_append]; omega) ((x1.append x2).ko A2 (KO.sm S3)))
theorem thAll_take {n : Nat} {H : Hp} : ∀ {xs : List V} {ds : List D}, ThAll K av n H xs ds → ∀ k, ThAll K av n H (xs.take k) (ds.take k)
  | _, _, .nil, k => by rw [List.take_nil, List.take_nil]; exact .nil
  | _, _, .cons h t, 0 => .nil
  | _, _, .cons h t, k + 1 => .cons h (thAll_take t k)
theorem thAll_drop {n : Nat} {H : Hp} : ∀ {xs : List V} {ds : List D}, ThAll K av n H xs ds → ∀ k, ThAll K av n H (xs.drop k) (ds.drop k)
  | _, _, .nil, k => by rw [List.drop_nil, List.drop_nil]; exact .nil
  | _, _, .cons h t, 0 => .cons h t
  | _, _, .cons h t, k + 1 => thAll_drop t k
/-- the first ones; tk tells how many -/
theorem Ev.to {tk : TE} {k : Nat} (h : Ev K av σ H0 te (.tup l)) (hk : ∀ (H : Hp) (Q : VK), Sm H0 H → Q (.int (k : Int)) H → tk σ H Q) : Ev K av σ H0 (tSl (rSlA K) te tNoPart (tPart tk)) (.tup (l.take k)) := fun H Q S A q => by
  refine h H _ S A fun v H1 S1 t1 => ?_
  have A1 := A.sm S1
  obtain ⟨a, xs, _, rfl, e1, g1, n1, x1⟩ := tup_of t1 rfl
  injection e1 with e1
  subst e1
  refine hk H1 _ (S.trans S1) ⟨k, rfl, slice_take g1 fun p H2 S2 h2 => q _ H2 (S1.trans S2) (.tup h2 ?_ ((thAll_take x1 k).ko A1 (KO.sm S2)))⟩
  rw [List.length_take]
  omega
theorem Ev.from {tk : TE} {k : Nat} (h : Ev K av σ H0 te (.tup l)) (lk : k ≤ l.length) (hk : ∀ (H : Hp) (Q : VK), Sm H0 H → Q (.int (k : Int)) H → tk σ H Q) : Ev K av σ H0 (tSl (rSlA K) te (tPart tk) tNoPart) (.tup (l.drop k)) := fun H Q S A q => by
  refine h H _ S A fun v H1 S1 t1 => ?_
  have A1 := A.sm S1
  obtain ⟨a, xs, _, rfl, e1, g1, n1, x1⟩ := tup_of t1 rfl
  injection e1 with e1
  subst e1
  have lx := x1.len
  refine hk H1 _ (S.trans S1) ⟨k, rfl, slice_from g1 (by omega) fun p H2 S2 h2 => q _ H2 (S1.trans S2) (.tup h2 ?_ ((thAll_drop x1 k).ko A1 (KO.sm S2)))⟩
  rw [List.length_drop]
  omega
/-- list(a tuple) -/
theorem Ev.list {i : Nat} {v : V} (hs : σ[i]? = some (some v)) (A0 : AvL av H0) (h : Th K av 0 H0 v (.tup l)) : Ev K av σ H0 (tCB (rListOf K) (tCons (tVar i) tNil)) (.lst l) := fun H Q S A q => by
  obtain ⟨a, xs, _, rfl, e1, g1, n1, x1⟩ := tup_of h rfl
  injection e1 with e1
  subst e1
  refine ⟨_, hs, a, xs, rfl, .inr (Sm.seqT S g1), fun p hp => q _ _ (Sm.new hp) ?_⟩
  exact .lst upd_same (A.fresh hp) n1 (x1.ko A0 (KO.sm (S.trans (Sm.new hp))))
/-- what is said some times -/
theorem Ev.rep {k : Int} (h : EvAll K av σ H0 ta ds) (hl : ds.length ≤ 40) (h0 : ds ≠ []) (h2 : 2 ≤ k) (h3 : k ≤ 1000) (hk : (List.replicate k.toNat ds).flatten.length ≤ 40) : Ev K av σ H0 (tOp (rRepT K) (tTup ta) (tC (.int k))) (.tup (List.replicate k.toNat ds).flatten) := fun H Q S A q => by
  have rep : ∀ {H : Hp} {vs : List V}, ThAll K av 0 H vs ds → ∀ k : Nat, ThAll K av 0 H (List.replicate k vs).flatten (List.replicate k ds).flatten := fun {H vs} h k => by
    induction k with
    | zero => exact .nil
    | succ k ih =>
      rw [List.replicate_succ, List.replicate_succ, List.flatten_cons, List.flatten_cons]
      exact h.append ih
  refine h H _ S A fun vs H' S' hv => ⟨small (by rw [hv.len]; omega), fun p hp => ⟨p, k, vs, rfl, rfl, .inl (.inl upd_same), fun e => ?_, h2, h3, by rw [hv.len]; omega, fun p2 hp2 => q _ _ ((S'.trans (Sm.new hp)).trans (Sm.new hp2)) ?_⟩⟩
  · rw [e] at hv
    cases hv
    exact h0 rfl
  · have hr := rep (hv.ko (A.sm S') (KO.sm ((Sm.new (o := .tup vs) hp).trans (Sm.new (o := .tup (List.replicate k.toNat vs).flatten) hp2)))) k.toNat
    exact .tup (.inl (.inl upd_same)) (by rw [hr.len]; omega) hr
end
/-! ### lists of things written on the spot, one of them drawn -/
theorem askD_bad {l : List D} {o : D} (ho : o ∈ l) (h1 : kD o = false) (h2 : (wD o && decide (lenD o ≤ 40)) = false) : askD (.tup l) = false := by
  obtain ⟨es, z, rfl⟩ : ∃ es z, l = es ++ [z] := ⟨_, _, (List.dropLast_concat_getLast (by intro e; subst e; cases ho)).symm⟩
  rw [askD_snoc]
  rcases List.mem_append.mp ho with h | h
  · have e : es.all kD = false := by
      cases e : es.all kD with
      | false => rfl
      | true =>
        rw [List.all_eq_true.mp e o h] at h1
        cases h1
    rw [e, Bool.false_and, Bool.and_false]
  · rw [List.mem_singleton.mp h] at h2
    rw [h2, Bool.and_false, Bool.and_false]
theorem askD_len {l : List D} (h : 6 < l.length) : askD (.tup l) = false := by
  obtain ⟨es, z, rfl⟩ : ∃ es z, l = es ++ [z] := ⟨_, _, (List.dropLast_concat_getLast (by intro e; subst e; cases h)).symm⟩
  rw [List.length_append, List.length_singleton] at h
  rw [askD_snoc, decide_eq_false (show ¬ es.length + 1 ≤ 6 by omega), Bool.false_and]
section
variable {P : Program} {w : World} {K : PySem.W.Frag} {mg : Str → Option Value} {base : Heap} {cs : Tabs}
theorem Bag.avl {H : Hp} {b : Addr} {n : Nat} (B : Bag H b n) : AvL (fun a => a = b) H := fun a e => by
  rw [e]
  exact B.some
/-- one of things written on the spot, drawn -/
theorem ev_drawn {b : Addr} {i n N : Nat} {σ : L2.St} {H : Hp} {ta : TA} {ds : List D} {Q : VK} (hb : σ[i]? = some (some (.ref b))) (B : Bag H b n) (hn : n ≤ LIM) (h : EvAll K (fun a => a = b) σ H ta ds) (hN : ds.length = N) (h0 : 0 < N ∧ N ≤ 1000) (q : ∀ v d H', d ∈ ds → Th K (fun a => a = b) 0 H' v d → Go b 1 H H' → Q v H') :
    tOp (rIxL K) (tLst ta) (tCall spDraw [] E0 (tCons (tVar i) (tCons (tC (.int ((N : Nat) : Int))) tNil))) σ H Q := by
  refine h H _ (Sm.refl H) B.avl fun vs H1 S1 hv => ⟨small (by rw [hv.len]; omega), fun L hL => ?_⟩
  have SL := Sm.new (o := .lst vs) hL
  have S := S1.trans SL
  have B2 := (Go.same (b := b) S).bag _ B
  have A1 : AvL (fun a => a = b) H1 := B.avl.sm S1
  have aL : (upd H1 L (.lst vs)) L = some (.lst vs) := upd_same
  have nL : L ≠ b := ((Go.same (b := b) S1).bag _ B).ne hL
  have hv2 := hv.ko A1 (KO.sm SL)
  generalize upd H1 L (.lst vs) = H2 at *
  refine ⟨_, hb, b, (N : Int), n, rfl, B2, hn, by omega, by omega, fun r H' r0 r1 G => ?_⟩
  obtain ⟨k, rfl⟩ : ∃ k : Nat, r = (k : Int) := ⟨r.toNat, by omega⟩
  have hk : k < vs.length := by rw [hv.len]; omega
  obtain ⟨d, hd, th⟩ := hv2.at hk
  exact ⟨L, vs, (k : Int), vs[k], rfl, rfl, SqL.of (G.keep L _ nL aL), atI_nat (List.getElem?_eq_getElem hk), q _ d H' (List.mem_of_getElem? hd) (th.ko B2.avl (KO.go G rfl)) ((Go.same (b := b) S).trans G |>.mono (by omega))⟩
/-- a list of things -/
def LL (K : PySem.W.Frag) (av : Addr → Prop) (H : Hp) (L : Addr) (ds : List D) : Prop := ∃ vs, H L = some (.lst vs) ∧ ThAll K av 0 H vs ds
theorem LL.ko {av : Addr → Prop} {H H' : Hp} {L : Addr} {ds : List D} (h : LL K av H L ds) (A : AvL av H) (n : ¬ av L) (k : KO av H H') : LL K av H' L ds := by
  obtain ⟨vs, e, t⟩ := h
  exact ⟨vs, k _ _ n e rfl, t.ko A k⟩
theorem ll_new {av : Addr → Prop} {σ : L2.St} {H : Hp} {ta : TA} {ds : List D} {Q : VK} (A : AvL av H) (h : EvAll K av σ H ta ds) (hl : ds.length ≤ 40) (q : ∀ L H', Sm H H' → LL K av H' L ds → ¬ av L → Q (.ref L) H') : tLst ta σ H Q := by
  refine h H _ (Sm.refl H) A fun vs H1 S1 hv => ⟨small (by rw [hv.len]; omega), fun L hL => ?_⟩
  exact q L _ (S1.trans (Sm.new hL)) ⟨vs, upd_same, hv.ko (A.sm S1) (KO.sm (Sm.new hL))⟩ ((A.sm S1).fresh hL)
theorem ll_cat {av : Addr → Prop} {i : Nat} {F : Addr} {σ : L2.St} {H : Hp} {ta : TA} {ds es : List D} {Q : VK} (hs : σ[i]? = some (some (.ref F))) (A : AvL av H) (f : LL K av H F ds) (nF : ¬ av F) (h : EvAll K av σ H ta es) (hl : ds.length + es.length ≤ 40) (q : ∀ L H', Sm H H' → LL K av H' L (ds ++ es) → ¬ av L → Q (.ref L) H') : tOp rCat (tVar i) (tLst ta) σ H Q := by
  refine ⟨_, hs, ll_new A h (by omega) fun B H1 S1 g nB => ?_⟩
  obtain ⟨vs, h1, j1⟩ := f.ko A nF (KO.sm S1)
  obtain ⟨ws, h2, j2⟩ := g
  have l1 := j1.len
  have l2 := j2.len
  refine ⟨F, B, vs, ws, rfl, rfl, h1, h2, small (by omega), fun G hG => ?_⟩
  exact q G _ (S1.trans (Sm.new hG)) ⟨_, upd_same, (j1.append j2).ko (A.sm S1) (KO.sm (Sm.new hG))⟩ ((A.sm S1).fresh hG)
theorem ll_drawn {b F : Addr} {i j n N : Nat} {σ : L2.St} {H : Hp} {ds : List D} {Q : VK} (hb : σ[i]? = some (some (.ref b))) (hs : σ[j]? = some (some (.ref F))) (f : LL K (fun a => a = b) H F ds) (nF : F ≠ b) (B : Bag H b n) (hn : n ≤ LIM) (hN : ds.length = N) (h0 : 0 < N ∧ N ≤ 1000) (q : ∀ v d H', d ∈ ds → Th K (fun a => a = b) 0 H' v d → Go b 1 H H' → Q v H') :
    tOp (rIxL K) (tVar j) (tCall spDraw [] E0 (tCons (tVar i) (tCons (tC (.int ((N : Nat) : Int))) tNil))) σ H Q := by
  obtain ⟨vs, hF, hv⟩ := f
  have lv := hv.len
  refine ⟨_, hs, _, hb, b, (N : Int), n, rfl, B, hn, by omega, by omega, fun r H' r0 r1 G => ?_⟩
  obtain ⟨k, rfl⟩ : ∃ k : Nat, r = (k : Int) := ⟨r.toNat, by omega⟩
  have hk : k < vs.length := by omega
  obtain ⟨d, hd, th⟩ := hv.at hk
  exact ⟨F, vs, (k : Int), vs[k], rfl, rfl, SqL.of (G.keep F _ nF hF), atI_nat (List.getElem?_eq_getElem hk), q _ d H' (List.mem_of_getElem? hd) (th.ko B.avl (KO.go G rfl)) G⟩
theorem tupOf1 {te : TE} {σ : L2.St} {H : Hp} {Q : VK} (h : te σ H fun v H1 => rTupOf K [v] H1 Q) : tCB (rTupOf K) (tCons te tNil) σ H Q := h
end
/-! ### lists of two -/
/-- a comprehension over a list of two -/
theorem lc_two {K : PySem.W.Frag} {i j : Nat} {S : Addr} {x y : V} {σ : L2.St} {H : Hp} {te : TE} {Q : VK} (hj : σ[j]? = some (some (.ref S))) (hS : H S = some (.lst [x, y]))
    (h : ∀ DL, H DL = none → ∀ R1 : VK, (∀ u H1, H1 DL = some (.lst []) → H1 S = some (.lst [x, y]) → (∀ R2 : VK, (∀ v H2, H2 DL = some (.lst [u]) → H2 S = some (.lst [x, y]) → Q (.ref DL) (upd H2 DL (.lst [u, v])) → R2 v H2) → te ((σ.set i none).set i (some y)) (upd H1 DL (.lst [u])) R2) → R1 u H1) → te ((σ.set i none).set i (some x)) (upd H DL (.lst [])) R1) : tLc (iList K (tVar j)) (gName i) tYes te [i] σ H Q := by
  refine ⟨_, hj, S, rfl, ⟨_, SqL.of hS⟩, fun DL hD => ?_⟩
  have nS : S ≠ DL := fun e => by rw [e, hD] at hS; cases hS
  have up : ∀ {Hx : Hp} {l : List V}, Hx S = some (.lst [x, y]) → (upd Hx DL (.lst l)) S = some (.lst [x, y]) := fun e => by
    rw [upd_ne nS]
    exact e
  have wp : ∀ z : V, wipe ((σ.set i none).set i (some z)) [i] = wipe σ [i] := fun z => by
    show ((σ.set i none).set i (some z)).set i none = σ.set i none
    rw [List.set_set, List.set_set]
  refine lc_list (K := K) (a := S) (xs := [x, y]) (fun n H' => H' S = some (.lst [x, y]) ∧ match n with
    | 0 => H' = upd H DL (.lst [])
    | 1 => ∃ u, H' DL = some (.lst [u]) ∧ ∀ R2 : VK, (∀ v H2, H2 DL = some (.lst [u]) → H2 S = some (.lst [x, y]) → Q (.ref DL) (upd H2 DL (.lst [u, v])) → R2 v H2) → te ((σ.set i none).set i (some y)) H' R2
    | _ => Q (.ref DL) H') ⟨up hS, rfl⟩ (fun _ H' _ h => SqL.of h.1) (fun n z H' hz hp => ?_) fun H' h => h.2
  obtain ⟨sS, hp⟩ := hp
  match n, hz, hp with
  | 0, hz, hp =>
    obtain rfl : x = z := Option.some.inj hz
    obtain rfl : H' = upd H DL (.lst []) := hp
    exact ⟨wp x, h DL hD _ fun u H1 e1 e2 h2 => ⟨[], e1, by decide, up e2, u, upd_same, h2⟩⟩
  | 1, hz, hp =>
    obtain rfl : y = z := Option.some.inj hz
    obtain ⟨u, e1, h2⟩ := hp
    exact ⟨wp y, h2 _ fun v H2 e2 e3 q => ⟨[u], e2, by show 1 < sizeLine; decide, up e3, q⟩⟩
  | n + 2, hz, _ => cases hz
theorem okD_succ : ∀ {J : Nat} {d : D}, okD J d = true → okD (J + 1) d = true
  | 0, .non, _ => rfl
  | 0, .bl _, _ => rfl
  | 0, .int _, _ => rfl
  | 0, .str _, _ => rfl
  | J + 1, .non, _ => rfl
  | J + 1, .bl _, _ => rfl
  | J + 1, .int _, _ => rfl
  | J + 1, .str _, _ => rfl
  | J + 1, .lst l, h => List.all_eq_true.mpr fun x hx => okD_succ (List.all_eq_true.mp h x hx)
  | J + 1, .tup l, h => List.all_eq_true.mpr fun x hx => okD_succ (List.all_eq_true.mp h x hx)
theorem is_one {K : PySem.W.Frag} {H : Hp} {F : Addr} {v : V} {d : D} (h : H F = some (.lst [v])) (i : Is K H v d) : Is K H (.ref F) (.lst [d]) := .lst h (fun z => z) (by show 1 ≤ 40 + 1000; decide) (.cons i .nil)
theorem is_two {K : PySem.W.Frag} {H : Hp} {F : Addr} {v u : V} {d e : D} (h : H F = some (.lst [v, u])) (i : Is K H v d) (j : Is K H u e) : Is K H (.ref F) (.lst [d, e]) := .lst h (fun z => z) (by show 2 ≤ 40 + 1000; decide) (.cons i (.cons j .nil))
theorem okD_one {J : Nat} {d : D} (h : okD J d = true) : okD (J + 1) (.lst [d]) = true := by
  show (okD J d && true) = true
  rw [h]
  rfl
theorem okD_two {J : Nat} {d e : D} (h : okD J d = true) (g : okD J e = true) : okD (J + 1) (.lst [d, e]) = true := by
  show (okD J d && (okD J e && true)) = true
  rw [h, g]
  rfl
theorem run_join {s r : TS} {Dn : Ends} {σ : L2.St} {H : Hp} (J : L2.St → Hp → Prop) (h : ∀ nx : L2.St → Hp → Prop, (∀ σ1 H1, J σ1 H1 → nx σ1 H1) → s { Dn with nx := nx } σ H) (hr : ∀ σ1 H1, J σ1 H1 → r Dn σ1 H1) : tSeq s r Dn σ H := h (r Dn) hr
/-! ### rows of any name -/
def RowW (H : Hp) (v : V) (x : List Str × Str) : Prop := ∃ (a r : Addr) (nm : Str) (ks : List Str), x.1 = nm :: ks ∧ v = .ref a ∧ H a = some (.tup [.ref r, .str x.2]) ∧ RefT H r nm ks
theorem RowW.keep {H H' : Hp} (k : ∀ a vs, H a = some (.tup vs) → H' a = some (.tup vs)) {v : V} {x : List Str × Str} (h : RowW H v x) : RowW H' v x := by
  obtain ⟨a, r, nm, ks, h1, h2, h3, h4⟩ := h
  exact ⟨a, r, nm, ks, h1, h2, k _ _ h3, h4.keep k⟩
theorem rows_w {H : Hp} {nm : Str} : ∀ {ys : List V} {xs : List (List Str × Str)}, Paired (RowV H nm []) ys xs → Paired (RowW H) ys (xs.map fun x => (nm :: ([] ++ x.1), x.2))
  | _, _, .nil => .nil
  | _, _, .cons ⟨a, r, h1, h2, h3⟩ t => .cons ⟨a, r, nm, _, rfl, h1, h2, h3⟩ (rows_w t)
theorem is_w {K : PySem.W.Frag} {H : Hp} : ∀ {ys : List V} {xs : List (List Str × Str)}, Paired (RowW H) ys xs → (∀ x ∈ xs, ∀ nm ks, x.1 = nm :: ks → REF nm ks ∧ WT x.2 400) → IsAll K H ys (xs.map dPath)
  | _, _, .nil, _ => .nil
  | _, _, .cons (b := x) ⟨a, r, nm, ks, h1, h2, h3, h4⟩ t, ok => by
    subst h2
    obtain ⟨O, W⟩ := ok x List.mem_cons_self nm ks h1
    have e : dPath x = .tup [dRef nm ks, .str x.2] := by
      obtain ⟨x1, x2⟩ := x
      cases h1
      rfl
    refine .cons ?_ (is_w t fun y hy => ok y (List.mem_cons_of_mem _ hy))
    rw [e]
    exact .tup (SqT.of h3) (by show 2 ≤ 1040; decide) (.cons (th_ref h4.at_ O) (.cons (.str _ (by have := W.len; omega) W.asc) .nil))
/-! ### all rows of all names -/
def allR (S : Sh) : List (List Str × Str) := (S.R []).flatMap fun nm => (rowsS S nm []).map fun x => (nm :: ([] ++ x.1), x.2)
structure AllOk (S : Sh) : Prop where
  nm : ∀ nm ∈ S.R [], NM nm
  len : ∀ nm, (rowsS S nm []).length ≤ 31
  few : (S.R []).length ≤ 31
  ok : ∀ nm, ∀ x ∈ rowsS S nm [], REF nm ([] ++ x.1) ∧ WT x.2 400
theorem flat_le {α β : Type} {f : α → List β} {n : Nat} : ∀ {l : List α}, (∀ x ∈ l, (f x).length ≤ n) → (l.flatMap f).length ≤ l.length * n
  | [], _ => by simp
  | x :: r, h => by
    rw [List.flatMap_cons, List.length_append, List.length_cons, Nat.succ_mul]
    have a := h x List.mem_cons_self
    have b := flat_le (l := r) fun y hy => h y (List.mem_cons_of_mem _ hy)
    omega
theorem AllOk.total {S : Sh} (o : AllOk S) : (allR S).length ≤ 961 := by
  refine Nat.le_trans (flat_le (n := 31) fun nm _ => by rw [List.length_map]; exact o.len nm) ?_
  have := o.few
  omega
def dAll (S : Sh) : D := .lst ((allR S).map dPath)
theorem ok_dAll (S : Sh) : okD 4 (dAll S) = true := by
  show ((allR S).map dPath).all (okD 3) = true
  rw [List.all_eq_true]
  intro d hd
  obtain ⟨y, _, rfl⟩ := List.mem_map.mp hd
  exact okD_path _
theorem all_is {K : PySem.W.Frag} {H : Hp} {S : Sh} {F : Addr} {ys : List V} (ok : AllOk S) (h : H F = some (.lst ys)) (P : Paired (RowW H) ys (allR S)) : Is K H (.ref F) (dAll S) := by
  have i := is_w (K := K) P fun x hx nm ks e => by
    obtain ⟨n0, _, hx⟩ := List.mem_flatMap.mp hx
    obtain ⟨y, hy, rfl⟩ := List.mem_map.mp hx
    injection e with e1 e2
    subst e1 e2
    exact ok.ok _ y hy
  exact .lst h (fun z => z) (by rw [i.len, List.length_map]; exact Nat.le_trans ok.total (by decide)) i
def spAll (K : PySem.W.Frag) (cs : Tabs) : Sp := fun vs H Q _ => ∃ (arr : Addr) (S : Sh) (m : Nat), vs = [.ref arr] ∧ ArrAt cs H arr S m ∧ TGs H cs ∧ AllOk S ∧ ∀ F ys H', Sm H H' → H F = none → H' F = some (.lst ys) → Paired (RowW H') ys (allR S) → Q (.ref F) H'
section
variable {P : Program} {w : World} {K : PySem.W.Frag} {mg : Str → Option Value} {base : Heap} {cs : Tabs}
theorem ok_law_all (T : Txt K mg cs) (CArrays_names : CalM P w K mg base 1 cs.a_Arrays "names" ["self"] (spNames cs)) (CArrays_rows : CalM P w K mg base 10 cs.a_Arrays "rows" ["self", "ref"] (spRows K cs)) : Cal P w K mg base 11 "_law_all" ["arrays"] (spAll K cs) := by
  refine T.f_law_all.cal scLawAll (fun vs H Q E h => ?_) (fun f cdv A outer s H vs Q E hr h => ?_)
  · obtain ⟨_, _, _, rfl, _⟩ := h
    rfl
  obtain ⟨arr, S, k, rfl, A0, tg, ok, q⟩ := h
  refine ⟨_, (pss_cons (ps_set (i := 1) scLawAll.nd rfl (by first | exact Or.inl rfl | exact Or.inr rfl) (pe_lst pa_nil))
    (pss_cons (ps_for PassesOwn.never rfl (pi_list (pe_calM0 CArrays_names T.cl_Arrays (hr.mono (by first | decide | omega)) (pv 0))) (pg_name (i := 2) scLawAll.nd rfl (by first | exact Or.inl rfl | exact Or.inr rfl))
      (pss_one (ps_expr (pe_bmK (K := K) PySem.F.plainAttrs_list PySem.F.slot_list_extend PySem.F.type_list_extend mt_extend (pv 1) (pa_cons (pe_calM CArrays_rows T.cl_Arrays (hr.mono (by first | decide | omega)) (pv 0) (pa_cons (pe_tup (pa_cons (pv 2) (pa_cons (pe_tup pa_nil) pa_nil))) pa_nil)) pa_nil)))))
    (pss_one (ps_ret (pv 1))))), ?_⟩
  obtain ⟨_, _, ia, _⟩ := A0.it
  have tot := ok.total
  refine run_set ?_
  refine ⟨(by show 0 ≤ sizeLine; exact Nat.zero_le _), fun F hF => ?_⟩
  have SF := Sm.new (o := .lst []) hF
  have aF : (upd H F (.lst [])) F = some (.lst []) := upd_same
  generalize upd H F (.lst []) = H9 at *
  refine run_for ?_
  refine ⟨_, rfl, arr, _, _, rfl, SF _ _ ia, rfl, arr, S, k, rfl, A0.sm SF, fun l hl => ?_⟩
  have Sl := Sm.new (o := .lst ((S.R []).map V.str)) hl
  have al : (upd H9 l (.lst ((S.R []).map V.str))) l = some (.lst ((S.R []).map V.str)) := upd_same
  have lF : l ≠ F := fun e => by rw [e, aF] at hl; cases hl
  have aF2 := Sl _ _ aF
  generalize upd H9 l (.lst ((S.R []).map V.str)) = H10 at *
  have S10 := SF.trans Sl
  refine ⟨l, rfl, ⟨_, SqL.of al⟩, for_list (K := K) (a := l) (xs := (S.R []).map V.str) (fun i σ H' => (∃ y2, σ = [some (.ref arr), some (.ref F), y2]) ∧ Sm H H' ∧ H' l = some (.lst ((S.R []).map V.str)) ∧
      ∃ ys, H' F = some (.lst ys) ∧ Paired (RowW H') ys (((S.R []).take i).flatMap fun nm => (rowsS S nm []).map fun x => (nm :: ([] ++ x.1), x.2)))
    ⟨⟨_, rfl⟩, S10, al, [], aF2, by rw [List.take_zero]; exact .nil⟩ (fun _ σ H' _ h => SqL.of h.2.2.1) (fun i x σ H11 hx h => ?_) fun σ H11 h => ?_⟩
  · obtain ⟨⟨y2, rfl⟩, S11, al11, ys, aF11, P11⟩ := h
    rw [List.getElem?_map] at hx
    obtain ⟨nm, hn, rfl⟩ := Option.map_eq_some_iff.mp hx
    have O : REF nm [] := ⟨ok.nm nm (List.mem_of_getElem? hn), by decide, fun _ h => nomatch h⟩
    have et : (S.R []).take (i + 1) = (S.R []).take i ++ [nm] := by rw [List.take_add_one, hn]; rfl
    have ln : ys.length ≤ 961 := by
      rw [pairA_len P11]
      refine Nat.le_trans ?_ tot
      unfold allR
      refine List.Sublist.length_le ?_
      conv => rhs; rw [← List.take_append_drop i (S.R []), List.flatMap_append]
      exact List.sublist_append_left _ _
    dsimp only [gName]
    refine ⟨_, rfl, .inl ⟨rfl, _, SqL.of aF11⟩, _, rfl, arr, _, _, rfl, S11 _ _ ia, rfl, _, rfl, (by show 0 ≤ sizeLine; exact Nat.zero_le _), fun e1 he1 => ⟨(by show 2 ≤ sizeLine; decide), fun q1 hq1 => ?_⟩⟩
    have Sa := (Sm.new (o := .tup []) he1).trans (Sm.new (o := .tup [.str nm, .ref e1]) hq1)
    have Ra : RefAt K (upd (upd H11 e1 (.tup [])) q1 (.tup [.str nm, .ref e1])) q1 nm [] := ⟨e1, SqT.of upd_same, Sm.seqT (Sm.new hq1) (SqT.of upd_same)⟩
    refine ⟨arr, q1, S, k, nm, [], rfl, A0.sm (S11.trans Sa), Ra, O, by have := ok.len nm; omega, tg.sm (S11.trans Sa), fun D1 ys1 H13 S13 hD1 hD2 P1 => ?_⟩
    have Sb := Sa.trans S13
    have aF13 := Sb _ _ aF11
    have l1 : ys1.length ≤ 31 := by
      rw [pairA_len P1]
      exact ok.len nm
    refine ⟨F, D1, ys, ys1, rfl, rfl, aF13, hD2, small (by omega), ?_⟩
    have kp : ∀ a vs, H13 a = some (.tup vs) → (upd H13 F (.lst (ys ++ ys1))) a = some (.tup vs) := fun a vs e => by
      rw [upd_ne fun w => by rw [w, aF13] at e; cases e]
      exact e
    refine ⟨⟨_, rfl⟩, Sm.own (S11.trans Sb) hF (no_tbl aF13), ?_, ys ++ ys1, upd_same, ?_⟩
    · rw [upd_ne lF]
      exact Sb _ _ al11
    · rw [et, List.flatMap_append, List.flatMap_singleton]
      exact paired_app (pairA_imp (fun _ _ h => h.keep fun a vs e => kp a vs (Sb _ _ e)) P11) (pairA_imp (fun _ _ h => h.keep kp) (rows_w P1))
  · obtain ⟨⟨y2, rfl⟩, S11, al11, ys, aF11, P11⟩ := h
    rw [List.length_map, List.take_length] at P11
    dsimp only
    exact run_ret ⟨_, rfl, q F ys H11 S11 hF aF11 P11⟩
end
/-! ### arrays: what is refused -/
/-- a method of arrays, its first argument no reference -/
def spBadA (f : D → Bool) (j : Nat) (K : PySem.W.Frag) (cs : Tabs) : Sp := fun vs H _ E => ∃ (arr : Addr) (u : V) (r : List V) (d : D) (n : Nat) (av : Addr → Prop), vs = .ref arr :: u :: r ∧ r.length = j ∧ Th K av n H u d ∧ AvL av H ∧ n ≤ 10 ∧ f d = false ∧ TGs H cs ∧ Ref cs "NoRef" E H
def spBadM (K : PySem.W.Frag) (cs : Tabs) : Sp := fun vs H _ E => ∃ (arr p : Addr) (nm : Str) (ks : List Str) (u : V) (d : D) (n : Nat) (av : Addr → Prop), vs = [.ref arr, .ref p, u] ∧ RefAt K H p nm ks ∧ REF nm ks ∧ Th K av n H u d ∧ AvL av H ∧ n ≤ 10 ∧ refD d = false ∧ TGs H cs ∧ Ref cs "NoRef" E H
def spPutW (K : PySem.W.Frag) (cs : Tabs) : Sp := fun vs H _ E => ∃ (arr p : Addr) (nm : Str) (ks : List Str) (o : V) (d : D) (n : Nat) (av : Addr → Prop), vs = [.ref arr, .ref p, o] ∧ RefAt K H p nm ks ∧ REF nm ks ∧ Th K av n H o d ∧ AvL av H ∧ n ≤ 10 ∧ wD d = false ∧ TGs H cs ∧ Ref cs "NoWorth" E H
def spRefX (K : PySem.W.Frag) (cs : Tabs) : Sp := fun vs H Q E => spNeedRef K cs vs H Q E ∨ spNo refD "NoRef" K cs vs H Q E
section
variable {P : Program} {w : World} {K : PySem.W.Frag} {mg : Str → Option Value} {base : Heap} {cs : Tabs}
theorem ok_need_refX (T : Txt K mg cs) (Cis_reference : Cal P w K mg base 6 "is_reference" ["thing"] (spD refD K cs)) : CalX P w K mg base 7 "need_reference" ["thing"] (spRefX K cs) := by
  refine T.f_need_reference.calX scNeedReference (fun vs H Q E h => ?_) (fun f cdv A outer s H vs Q E hr h => ?_)
  · rcases h with ⟨_, _, _, rfl, _⟩ | ⟨_, _, _, _, rfl, _⟩ <;> rfl
  refine ⟨_, (pss_one (ps_if (pt_not (pt_val (pe_cal Cis_reference (hr.mono (by first | decide | omega)) (pa_cons (pv 0) pa_nil)))) (pss_one (L2N.ps_raise rfl (L2N.takes_of rfl rfl rfl rfl) (pmk_own0 PySem.F.excBase_ValueError (T.xc "NoRef" (by simp [RAISED])).ex (T.xg "NoRef" (by simp [ALLE])) (T.xc "NoRef" (by simp [RAISED])).kp (raises_own (T.xc "NoRef" (by simp [RAISED])).bs (T.xc "NoRef" (by simp [RAISED])).ty)))) pss_nil)), ?_⟩
  rcases h with ⟨p, nm, ks, rfl, R, O, hT, q⟩ | ⟨v, d, n, av, rfl, th, A1, hn, e, hT, r⟩
  · refine ⟨_, rfl, .ref p, _, 0, fun _ => False, rfl, th_ref R O, fun _ z => z.elim, by decide, hT, fun H1 S1 => ⟨_, rfl, ?_⟩⟩
    rw [ref_true O]
    exact iteF (q H1 S1)
  · refine ⟨_, rfl, v, d, n, av, rfl, th, A1, hn, hT, fun H1 S1 => ⟨_, rfl, ?_⟩⟩
    rw [e]
    exact iteT (r H1 S1)
theorem ok_need_askX (T : Txt K mg cs) (Cis_asking_reference : Cal P w K mg base 7 "is_asking_reference" ["thing"] (spD askRefD K cs)) : CalX P w K mg base 8 "need_asking_reference" ["thing"] (spNo askRefD "NoRef" K cs) := by
  refine T.f_need_asking_reference.calX scNeedAskingReference (fun vs H Q E h => ?_) (fun f cdv A outer s H vs Q E hr h => ?_)
  · obtain ⟨_, _, _, _, rfl, _⟩ := h
    rfl
  obtain ⟨v, d, n, av, rfl, th, A1, hn, e, hT, r⟩ := h
  refine ⟨_, (pss_one (ps_if (pt_not (pt_val (pe_cal Cis_asking_reference (hr.mono (by first | decide | omega)) (pa_cons (pv 0) pa_nil)))) (pss_one (L2N.ps_raise rfl (L2N.takes_of rfl rfl rfl rfl) (pmk_own0 PySem.F.excBase_ValueError (T.xc "NoRef" (by simp [RAISED])).ex (T.xg "NoRef" (by simp [ALLE])) (T.xc "NoRef" (by simp [RAISED])).kp (raises_own (T.xc "NoRef" (by simp [RAISED])).bs (T.xc "NoRef" (by simp [RAISED])).ty)))) pss_nil)), ?_⟩
  refine ⟨_, rfl, v, d, n, av, rfl, th, A1, hn, hT, fun H1 S1 => ⟨_, rfl, ?_⟩⟩
  rw [e]
  exact iteT (r H1 S1)
variable {sp1 sp2 sp3 sp4 sp5 : Sp} {k1 k2 k3 k4 k5 : Nat}
theorem ok_aputX (T : Txt K mg cs) (Xneed_reference : CalX P w K mg base 7 "need_reference" ["thing"] (spRefX K cs)) (Xneed_worth : CalX P w K mg base 3 "need_worth" ["thing"] (spNo wD "NoWorth" K cs)) (C_path : Cal P w K mg base 1 "_path" ["ref"] sp1) (CTree_plant : CalM P w K mg base k1 cs.a_Tree "plant" ["self", "path", "worth"] sp2) (h1 : k1 ≤ 7) :
    CalMX P w K mg base 8 cs.a_Arrays "put" ["self", "ref", "worth"] (fun vs H Q E => spBadA refD 1 K cs vs H Q E ∨ spPutW K cs vs H Q E) := by
  refine T.f_Arrays_put.calX scArraysPut (fun vs H Q E h => ?_) (fun f cdv A outer s H vs Q E hr h => ?_)
  · rcases h with ⟨_, _, r, _, _, _, rfl, hl, _⟩ | ⟨_, _, _, _, _, _, _, _, rfl, _⟩
    · show r.length + 2 = 3
      omega
    · rfl
  refine ⟨_, (pss_cons (ps_expr (pe_calX Xneed_reference (hr.mono (by first | decide | omega)) (L2N.takes_of rfl rfl rfl rfl) (pa_cons (pv 1) pa_nil)))
    (pss_cons (ps_expr (pe_calX Xneed_worth (hr.mono (by first | decide | omega)) (L2N.takes_of rfl rfl rfl rfl) (pa_cons (pv 2) pa_nil)))
    (pss_one (ps_expr (pe_calM CTree_plant T.cl_Tree (hr.mono (by first | decide | omega)) (pe_fldK (K := K) (pv 0)) (pa_cons (pe_cal C_path (hr.mono (by first | decide | omega)) (pa_cons (pv 1) pa_nil)) (pa_cons (pv 2) pa_nil))))))), ?_⟩
  rcases h with ⟨arr, u, r, d, n, av, rfl, hl, th, A1, hn, e, hT, x⟩ | ⟨arr, p, nm, ks, o, d, n, av, rfl, R, O, th, A1, hn, e, hT, x⟩
  · exact ⟨_, rfl, .inr ⟨u, d, n, av, rfl, th, A1, hn, e, hT, x⟩⟩
  · refine ⟨_, rfl, .inl ⟨p, nm, ks, rfl, R, O, hT, fun H1 S1 => ?_⟩⟩
    dsimp only
    exact ⟨_, rfl, o, d, n, av, rfl, th.ko A1 (KO.sm S1), A1.sm S1, hn, e, hT.sm S1, x.sm S1⟩
theorem ok_areadX (T : Txt K mg cs) (Xneed_reference : CalX P w K mg base 7 "need_reference" ["thing"] (spRefX K cs)) (C_path : Cal P w K mg base 1 "_path" ["ref"] sp1) (CTree_at : CalM P w K mg base k1 cs.a_Tree "at" ["self", "path"] sp2) (h1 : k1 ≤ 7) :
    CalWX P w K mg base 8 cs.a_Arrays "read" ["self", "ref", "otherwise"] 2 [("otherwise", .str "")] (spBadA refD 1 K cs) := by
  refine T.f_Arrays_read.calX ⟨fun D doc pm an cdv ct us ks h1 h2 => match us, h1, ks, h2 with | [_, _], _, [_], _ => ⟨_, _, _, _, _, _, rfl, rfl, rfl⟩, fun D doc pm an cdv ct us ws h1 h2 => match us, h1, ws, h2 with | [_, _], _, [_], _ => rfl⟩ (by simp) rfl scArraysRead (fun vs H Q E h => ?_) (fun f cdv A outer s H vs Q E hr h => ?_)
  · obtain ⟨_, _, r, _, _, _, rfl, hl, _⟩ := h
    show r.length + 2 = 3
    omega
  obtain ⟨arr, u, r, d, n, av, rfl, hl, th, A1, hn, e, hT, x⟩ := h
  refine ⟨_, (pss_cons (ps_expr (pe_calX Xneed_reference (hr.mono (by first | decide | omega)) (L2N.takes_of rfl rfl rfl rfl) (pa_cons (pv 1) pa_nil)))
    (pss_cons (ps_set (i := 3) scArraysRead.nd rfl (by first | exact Or.inl rfl | exact Or.inr rfl) (pe_calM CTree_at T.cl_Tree (hr.mono (by first | decide | omega)) (pe_fldK (K := K) (pv 0)) (pa_cons (pe_cal C_path (hr.mono (by first | decide | omega)) (pa_cons (pv 1) pa_nil)) pa_nil)))
    (pss_cons (ps_if (PW.pt (pw_or (pt_cmpR op_isN (pv 3) pe_non (nomark _)) (pw_or1 (pt_cmpR op_isN (pe_fldK (K := K) (pv 3)) pe_non (nomark _))))) (pss_one (ps_ret (pv 2))) pss_nil)
    (pss_one (ps_ret (pe_fldK (K := K) (pv 3))))))), ?_⟩
  exact ⟨_, rfl, .inr ⟨u, d, n, av, rfl, th, A1, hn, e, hT, x⟩⟩
theorem ok_adataX (T : Txt K mg cs) (Xneed_reference : CalX P w K mg base 7 "need_reference" ["thing"] (spRefX K cs)) (C_path : Cal P w K mg base 1 "_path" ["ref"] sp1) (CTree_at : CalM P w K mg base k1 cs.a_Tree "at" ["self", "path"] sp2) (h1 : k1 ≤ 7) :
    CalMX P w K mg base 8 cs.a_Arrays "data" ["self", "ref"] (spBadA refD 0 K cs) := by
  refine T.f_Arrays_data.calX scArraysData (fun vs H Q E h => ?_) (fun f cdv A outer s H vs Q E hr h => ?_)
  · obtain ⟨_, _, r, _, _, _, rfl, hl, _⟩ := h
    show r.length + 2 = 2
    omega
  obtain ⟨arr, u, r, d, n, av, rfl, hl, th, A1, hn, e, hT, x⟩ := h
  refine ⟨_, (pss_cons (ps_expr (pe_calX Xneed_reference (hr.mono (by first | decide | omega)) (L2N.takes_of rfl rfl rfl rfl) (pa_cons (pv 1) pa_nil)))
    (pss_cons (ps_set (i := 2) scArraysData.nd rfl (by first | exact Or.inl rfl | exact Or.inr rfl) (pe_calM CTree_at T.cl_Tree (hr.mono (by first | decide | omega)) (pe_fldK (K := K) (pv 0)) (pa_cons (pe_cal C_path (hr.mono (by first | decide | omega)) (pa_cons (pv 1) pa_nil)) pa_nil)))
    (pss_cons (ps_if (pt_cmpR op_isN (pv 2) pe_non (nomark _)) (pss_one (ps_ret pe_int)) pss_nil)
    (pss_one (ps_ret (pe_op op_add (pe_ifExp (pt_cmpR op_isN (pe_fldK (K := K) (pv 2)) pe_non (nomark _)) pe_int pe_int) (pe_ifExp (pt_truth (pe_fldK (K := K) (pv 2)) (by intro _; rfl)) pe_int pe_int))))))), ?_⟩
  exact ⟨_, rfl, .inr ⟨u, d, n, av, rfl, th, A1, hn, e, hT, x⟩⟩
theorem ok_akillX (T : Txt K mg cs) (Xneed_reference : CalX P w K mg base 7 "need_reference" ["thing"] (spRefX K cs)) (CArrays_uproot : CalM P w K mg base k1 cs.a_Arrays "uproot" ["self", "ref"] sp1) (h1 : k1 ≤ 9) (CTree_walked : CalM P w K mg base k2 cs.a_Tree "walked" ["self", "path"] sp2) (h2 : k2 ≤ 9) :
    CalMX P w K mg base 10 cs.a_Arrays "kill" ["self", "ref"] (spBadA refD 0 K cs) := by
  refine T.f_Arrays_kill.calX scArraysKill (fun vs H Q E h => ?_) (fun f cdv A outer s H vs Q E hr h => ?_)
  · obtain ⟨_, _, r, _, _, _, rfl, hl, _⟩ := h
    show r.length + 2 = 2
    omega
  obtain ⟨arr, u, r, d, n, av, rfl, hl, th, A1, hn, e, hT, x⟩ := h
  refine ⟨_, (pss_cons (ps_expr (pe_calX Xneed_reference (hr.mono (by first | decide | omega)) (L2N.takes_of rfl rfl rfl rfl) (pa_cons (pv 1) pa_nil)))
    (pss_cons (ps_set (i := 2) scArraysKill.nd rfl (by first | exact Or.inl rfl | exact Or.inr rfl) (pe_calM CArrays_uproot T.cl_Arrays (hr.mono (by first | decide | omega)) (pv 0) (pa_cons (pv 1) pa_nil)))
    (pss_one (ps_ret (pe_ifExp (pt_cmpR op_isN (pv 2) pe_non (nomark _)) pe_int (pe_callB (lenQ K) rfl T.n_len (by decide +kernel) (pa_cons (pe_calM CTree_walked T.cl_Tree (hr.mono (by first | decide | omega)) (pv 2) (pa_cons (pe_tup pa_nil) pa_nil)) pa_nil))))))), ?_⟩
  exact ⟨_, rfl, .inr ⟨u, d, n, av, rfl, th, A1, hn, e, hT, x⟩⟩
theorem ok_arowsX (T : Txt K mg cs) (Xneed_reference : CalX P w K mg base 7 "need_reference" ["thing"] (spRefX K cs)) (C_path : Cal P w K mg base 1 "_path" ["ref"] sp1) (C_reference : Cal P w K mg base 1 "_reference" ["path"] sp3) (CTree_at : CalM P w K mg base k1 cs.a_Tree "at" ["self", "path"] sp2) (h1 : k1 ≤ 9) (CTree_walked : CalM P w K mg base k2 cs.a_Tree "walked" ["self", "path"] sp4) (h2 : k2 ≤ 9) :
    CalMX P w K mg base 10 cs.a_Arrays "rows" ["self", "ref"] (spBadA refD 0 K cs) := by
  refine T.f_Arrays_rows.calX scArraysRows (fun vs H Q E h => ?_) (fun f cdv A outer s H vs Q E hr h => ?_)
  · obtain ⟨_, _, r, _, _, _, rfl, hl, _⟩ := h
    show r.length + 2 = 2
    omega
  obtain ⟨arr, u, r, d, n, av, rfl, hl, th, A1, hn, e, hT, x⟩ := h
  refine ⟨_, (pss_cons (ps_expr (pe_calX Xneed_reference (hr.mono (by first | decide | omega)) (L2N.takes_of rfl rfl rfl rfl) (pa_cons (pv 1) pa_nil)))
    (pss_cons (ps_set (i := 2) scArraysRows.nd rfl (by first | exact Or.inl rfl | exact Or.inr rfl) (pe_cal C_path (hr.mono (by first | decide | omega)) (pa_cons (pv 1) pa_nil)))
    (pss_cons (ps_set (i := 3) scArraysRows.nd rfl (by first | exact Or.inl rfl | exact Or.inr rfl) (pe_calM CTree_at T.cl_Tree (hr.mono (by first | decide | omega)) (pe_fldK (K := K) (pv 0)) (pa_cons (pv 2) pa_nil)))
    (pss_cons (ps_if (pt_cmpR op_isN (pv 3) pe_non (nomark _)) (pss_one (ps_ret (pe_lst pa_nil))) pss_nil)
    (pss_one (ps_ret (pe_lc (own := [("found", 4), ("worth", 5)]) (g := gTup K 2 (gCons (gName 4) (gCons (gName 5) gNil))) (tt := tYes) rfl scArraysRows.nd (pi_list (pe_calM CTree_walked T.cl_Tree (hr.mono (by first | decide | omega)) (pv 3) (pa_cons (pv 2) pa_nil))) (blkOk_by (own := [("found", 4), ("worth", 5)]) (N := ["self", "ref", "path", "place", "found", "worth"]) (sc := defScope sArraysRows) (by decide +kernel)) (fun _ _ _ _ _ => (pg_tup rfl (pgs_cons (pg_name (i := 4) scArraysRows.nd rfl (by first | exact Or.inl rfl | exact Or.inr rfl)) (pgs_cons (pg_name (i := 5) scArraysRows.nd rfl (by first | exact Or.inl rfl | exact Or.inr rfl)) pgs_nil)))) (fun _ _ _ _ _ => pts_nil) (fun _ _ _ _ _ => (pe_tup (pa_cons (pe_cal C_reference (hr.mono (by first | decide | omega)) (pa_cons (pv 4) pa_nil)) (pa_cons (pv 5) pa_nil))))))))))), ?_⟩
  exact ⟨_, rfl, .inr ⟨u, d, n, av, rfl, th, A1, hn, e, hT, x⟩⟩
theorem ok_afollowX (T : Txt K mg cs) (Xneed_reference : CalX P w K mg base 7 "need_reference" ["thing"] (spRefX K cs)) (C_path : Cal P w K mg base 1 "_path" ["ref"] sp1) (C_reference : Cal P w K mg base 1 "_reference" ["path"] sp3) (CTree_path_behind : CalM P w K mg base k1 cs.a_Tree "path_behind" ["self", "path"] sp2) (h1 : k1 ≤ 7) (CTree_path_ahead : CalM P w K mg base k2 cs.a_Tree "path_ahead" ["self", "path"] sp4) (h2 : k2 ≤ 7) :
    CalWX P w K mg base 8 cs.a_Arrays "following" ["self", "ref", "back"] 2 [("back", .bl false)] (spBadA refD 1 K cs) := by
  refine T.f_Arrays_following.calX ⟨fun D doc pm an cdv ct us ks h1 h2 => match us, h1, ks, h2 with | [_, _], _, [_], _ => ⟨_, _, _, _, _, _, rfl, rfl, rfl⟩, fun D doc pm an cdv ct us ws h1 h2 => match us, h1, ws, h2 with | [_, _], _, [_], _ => rfl⟩ (by simp) rfl scArraysFollowing (fun vs H Q E h => ?_) (fun f cdv A outer s H vs Q E hr h => ?_)
  · obtain ⟨_, _, r, _, _, _, rfl, hl, _⟩ := h
    show r.length + 2 = 3
    omega
  obtain ⟨arr, u, r, d, n, av, rfl, hl, th, A1, hn, e, hT, x⟩ := h
  refine ⟨_, (pss_cons (ps_expr (pe_calX Xneed_reference (hr.mono (by first | decide | omega)) (L2N.takes_of rfl rfl rfl rfl) (pa_cons (pv 1) pa_nil)))
    (pss_cons (ps_set (i := 3) scArraysFollowing.nd rfl (by first | exact Or.inl rfl | exact Or.inr rfl) (pe_cal C_path (hr.mono (by first | decide | omega)) (pa_cons (pv 1) pa_nil)))
    (pss_cons (ps_set (i := 4) scArraysFollowing.nd rfl (by first | exact Or.inl rfl | exact Or.inr rfl) (pe_ifExp (pt_val (pv 2)) (pe_calM CTree_path_ahead T.cl_Tree (hr.mono (by first | decide | omega)) (pe_fldK (K := K) (pv 0)) (pa_cons (pv 3) pa_nil)) (pe_calM CTree_path_behind T.cl_Tree (hr.mono (by first | decide | omega)) (pe_fldK (K := K) (pv 0)) (pa_cons (pv 3) pa_nil))))
    (pss_one (ps_ret (pe_ifExp (pt_cmpR op_isN (pv 4) pe_non (nomark _)) pe_non (pe_cal C_reference (hr.mono (by first | decide | omega)) (pa_cons (pv 4) pa_nil)))))))), ?_⟩
  exact ⟨_, rfl, .inr ⟨u, d, n, av, rfl, th, A1, hn, e, hT, x⟩⟩
theorem ok_aorderX (T : Txt K mg cs) (Xneed_asking_reference : CalX P w K mg base 8 "need_asking_reference" ["thing"] (spNo askRefD "NoRef" K cs)) (C_path : Cal P w K mg base 1 "_path" ["ref"] sp1) (CTree_at : CalM P w K mg base k1 cs.a_Tree "at" ["self", "path"] sp2) (h1 : k1 ≤ 8) (CTree_next_key : CalM P w K mg base k2 cs.a_Tree "next_key" ["self", "key", "back"] sp4) (h2 : k2 ≤ 8) :
    CalWX P w K mg base 9 cs.a_Arrays "order" ["self", "ref", "back"] 2 [("back", .bl false)] (spBadA askRefD 1 K cs) := by
  refine T.f_Arrays_order.calX ⟨fun D doc pm an cdv ct us ks h1 h2 => match us, h1, ks, h2 with | [_, _], _, [_], _ => ⟨_, _, _, _, _, _, rfl, rfl, rfl⟩, fun D doc pm an cdv ct us ws h1 h2 => match us, h1, ws, h2 with | [_, _], _, [_], _ => rfl⟩ (by simp) rfl scArraysOrder (fun vs H Q E h => ?_) (fun f cdv A outer s H vs Q E hr h => ?_)
  · obtain ⟨_, _, r, _, _, _, rfl, hl, _⟩ := h
    show r.length + 2 = 3
    omega
  obtain ⟨arr, u, r, d, n, av, rfl, hl, th, A1, hn, e, hT, x⟩ := h
  refine ⟨_, (pss_cons (ps_expr (pe_calX Xneed_asking_reference (hr.mono (by first | decide | omega)) (L2N.takes_of rfl rfl rfl rfl) (pa_cons (pv 1) pa_nil)))
    (pss_cons (ps_set (i := 3) scArraysOrder.nd rfl (by first | exact Or.inl rfl | exact Or.inr rfl) (pe_cal C_path (hr.mono (by first | decide | omega)) (pa_cons (pv 1) pa_nil)))
    (pss_cons (ps_set (i := 4) scArraysOrder.nd rfl (by first | exact Or.inl rfl | exact Or.inr rfl) (pe_calM CTree_at T.cl_Tree (hr.mono (by first | decide | omega)) (pe_fldK (K := K) (pv 0)) (pa_cons (pe_slice (slT K) (pv 3) po_none (po_some (pe_un un_neg pe_int))) pa_nil)))
    (pss_one (ps_ret (pe_ifExp (pt_cmpR op_isN (pv 4) pe_non (nomark _)) pe_str (pe_calM CTree_next_key T.cl_Tree (hr.mono (by first | decide | omega)) (pv 4) (pa_cons (pe_ix (ixT K) (pv 3) (pe_un un_neg pe_int) (fun _ _ => rfl)) (pa_cons (pv 2) pa_nil))))))))), ?_⟩
  exact ⟨_, rfl, u, d, n, av, rfl, th, A1, hn, e, hT, x⟩
theorem ok_amergeX (T : Txt K mg cs) (Xneed_reference : CalX P w K mg base 7 "need_reference" ["thing"] (spRefX K cs)) (Cmeet : Cal P w K mg base k1 "meet" ["one", "other"] sp1) (h1 : k1 ≤ 10) (XArrays_rows : CalMX P w K mg base 10 cs.a_Arrays "rows" ["self", "ref"] sp2) (XArrays_put : CalMX P w K mg base 8 cs.a_Arrays "put" ["self", "ref", "worth"] sp3) :
    CalMX P w K mg base 11 cs.a_Arrays "merge" ["self", "to", "source"] (fun vs H Q E => spBadA refD 1 K cs vs H Q E ∨ spBadM K cs vs H Q E) := by
  refine T.f_Arrays_merge.calX scArraysMerge (fun vs H Q E h => ?_) (fun f cdv A outer s H vs Q E hr h => ?_)
  · rcases h with ⟨_, _, r, _, _, _, rfl, hl, _⟩ | ⟨_, _, _, _, _, _, _, _, rfl, _⟩
    · show r.length + 2 = 3
      omega
    · rfl
  refine ⟨_, (pss_cons (ps_expr (pe_calX Xneed_reference (hr.mono (by first | decide | omega)) (L2N.takes_of rfl rfl rfl rfl) (pa_cons (pv 1) pa_nil)))
    (pss_cons (ps_expr (pe_calX Xneed_reference (hr.mono (by first | decide | omega)) (L2N.takes_of rfl rfl rfl rfl) (pa_cons (pv 2) pa_nil)))
    (pss_cons (ps_if (pt_val (pe_cal Cmeet (hr.mono (by first | decide | omega)) (pa_cons (pv 1) (pa_cons (pv 2) pa_nil)))) (pss_one (L2N.ps_raise rfl (L2N.takes_of rfl rfl rfl rfl) (pmk_own0 PySem.F.excBase_ValueError (T.xc "Within" (by simp [RAISED])).ex (T.xg "Within" (by simp [ALLE])) (T.xc "Within" (by simp [RAISED])).kp (raises_own (T.xc "Within" (by simp [RAISED])).bs (T.xc "Within" (by simp [RAISED])).ty)))) pss_nil)
    (pss_cons (ps_set (i := 3) scArraysMerge.nd rfl (by first | exact Or.inl rfl | exact Or.inr rfl) (pe_lst pa_nil))
    (pss_cons (ps_for (passes_of rfl) rfl (pi_list (pe_calMX XArrays_rows T.cl_Arrays (hr.mono (by first | decide | omega)) (L2N.takes_of rfl rfl rfl rfl) (pv 0) (pa_cons (pv 2) pa_nil))) (pg_tup rfl (pgs_cons (pg_name (i := 4) scArraysMerge.nd rfl (by first | exact Or.inl rfl | exact Or.inr rfl)) (pgs_cons (pg_name (i := 5) scArraysMerge.nd rfl (by first | exact Or.inl rfl | exact Or.inr rfl)) pgs_nil)))
      (pss_cons (ps_set (i := 6) scArraysMerge.nd rfl (by first | exact Or.inl rfl | exact Or.inr rfl) (pe_op (catA K) (pe_ix (ixT K) (pv 1) pe_int (fun _ _ => rfl)) (pe_slice (slT K) (pe_ix (ixT K) (pv 4) pe_int (fun _ _ => rfl)) (po_some (pe_callB (lenQ K) rfl T.n_len (by decide +kernel) (pa_cons (pe_ix (ixT K) (pv 2) pe_int (fun _ _ => rfl)) pa_nil))) po_none)))
        (pss_cons (ps_if (pt_cmpR op_gt (pe_callB (lenQ K) rfl T.n_len (by decide +kernel) (pa_cons (pv 6) pa_nil)) (C8.pe_gc rfl T.g_MOST_KEYS) (nomark _)) (pss_one (L2N.ps_raise rfl (L2N.takes_of rfl rfl rfl rfl) (pmk_own0 PySem.F.excBase_ValueError (T.xc "TooDeep" (by simp [RAISED])).ex (T.xg "TooDeep" (by simp [ALLE])) (T.xc "TooDeep" (by simp [RAISED])).kp (raises_own (T.xc "TooDeep" (by simp [RAISED])).bs (T.xc "TooDeep" (by simp [RAISED])).ty)))) pss_nil)
        (pss_one (ps_expr (pe_bm PySem.F.plainAttrs_list PySem.F.slot_list_append PySem.F.type_list_append mt_append (pv 3) (pa_cons (pe_tup (pa_cons (pe_tup (pa_cons (pe_ix (ixT K) (pv 1) pe_int (fun _ _ => rfl)) (pa_cons (pv 6) pa_nil))) (pa_cons (pv 5) pa_nil))) pa_nil)))))))
    (pss_cons (ps_for (passes_of rfl) rfl (pi_list (pv 3)) (pg_tup rfl (pgs_cons (pg_name (i := 4) scArraysMerge.nd rfl (by first | exact Or.inl rfl | exact Or.inr rfl)) (pgs_cons (pg_name (i := 5) scArraysMerge.nd rfl (by first | exact Or.inl rfl | exact Or.inr rfl)) pgs_nil)))
      (pss_one (ps_expr (pe_calMX XArrays_put T.cl_Arrays (hr.mono (by first | decide | omega)) (L2N.takes_of rfl rfl rfl rfl) (pv 0) (pa_cons (pv 4) (pa_cons (pv 5) pa_nil))))))
    (pss_one (ps_ret (pe_callB (lenQ K) rfl T.n_len (by decide +kernel) (pa_cons (pv 3) pa_nil)))))))))), ?_⟩
  rcases h with ⟨arr, u, r, d, n, av, rfl, hl, th, A1, hn, e, hT, x⟩ | ⟨arr, p, nm, ks, o, d, n, av, rfl, R, O, th, A1, hn, e, hT, x⟩
  · exact ⟨_, rfl, .inr ⟨u, d, n, av, rfl, th, A1, hn, e, hT, x⟩⟩
  · refine ⟨_, rfl, .inl ⟨p, nm, ks, rfl, R, O, hT, fun H1 S1 => ?_⟩⟩
    dsimp only
    exact ⟨_, rfl, .inr ⟨o, d, n, av, rfl, th.ko A1 (KO.sm S1), A1.sm S1, hn, e, hT.sm S1, x.sm S1⟩⟩
end
/-! ### k11: what is odd; what is no reference -/
def ODD12 : List D := [.non, .bl true, .int 0, .int (-1), .lst [], .tup [], .dic, .lst [.str "a"], .tup [.str "a"], .str "a\n", .str "\t", .str "x\n"]
theorem odd12 : ∀ o ∈ ODD12, wD o = false ∧ kD o = false ∧ nD o = false ∧ refD o = false := by
  intro o ho
  simp only [ODD12, List.mem_cons, List.not_mem_nil, or_false] at ho
  rcases ho with rfl | rfl | rfl | rfl | rfl | rfl | rfl | rfl | rfl | rfl | rfl | rfl <;> exact ⟨by decide +kernel, by decide +kernel, by decide +kernel, by decide +kernel⟩
def spOdd (K : PySem.W.Frag) : Sp := fun vs H Q _ => ∃ (b : Addr) (n : Nat), vs = [.ref b] ∧ Bag H b n ∧ n + 100 ≤ LIM ∧ ∀ (v : V) (d : D) (H' : Hp), Go b 2 H H' → d ∈ ODD12 → Th K (fun a => a = b) 0 H' v d → Q v H'
def spNoRef (K : PySem.W.Frag) : Sp := fun vs H Q _ => ∃ (b p : Addr) (n : Nat) (ns ks : List Str), vs = [.ref b, .ref p] ∧ Bag H b n ∧ n + 300 ≤ LIM ∧ PoolAt H p ns ks ∧ POOL ns ks ∧ ¬ PoolOwn H p b ∧
  ∀ (v : V) (d : D) (H' : Hp), Go b 100 H H' → Th K (fun a => a = b) 0 H' v d → refD d = false → Q v H'
theorem row_bad {l : List D} {o : D} (ho : o ∈ l) (h : kD o = false) : rowD (.tup l) = false := by
  show (decide (l.length ≤ 6) && l.all kD) = false
  have e : l.all kD = false := by
    cases e : l.all kD with
    | false => rfl
    | true =>
      rw [List.all_eq_true.mp e o ho] at h
      cases h
  rw [e, Bool.and_false]
theorem rowD_len {l : List D} (h : 6 < l.length) : rowD (.tup l) = false := by
  show (decide (l.length ≤ 6) && l.all kD) = false
  rw [decide_eq_false (by omega), Bool.false_and]
theorem ref_row {x d : D} (h : rowD d = false) : refD (.tup [x, d]) = false := by
  show (nD x && rowD d) = false
  rw [h, Bool.and_false]
theorem ref_name {x d : D} (h : nD x = false) : refD (.tup [x, d]) = false := by
  show (nD x && rowD d) = false
  rw [h, Bool.false_and]
theorem Ev.dic {K : PySem.W.Frag} {av : Addr → Prop} {σ : L2.St} {H0 : Hp} : Ev K av σ H0 tDNewK .dic := fun H Q _ _ q => fun p hp => q _ _ (Sm.new hp) (.dic upd_same)
theorem ll_app {K : PySem.W.Frag} {av : Addr → Prop} {F B : Addr} {H : Hp} {ds es : List D} {Q : VK} (A : AvL av H) (f : LL K av H F ds) (g : LL K av H B es) (hl : ds.length + es.length ≤ 40) (q : ∀ L H', Sm H H' → LL K av H' L (ds ++ es) → ¬ av L → Q (.ref L) H') : rCat (.ref F) (.ref B) H Q := by
  obtain ⟨vs, h1, j1⟩ := f
  obtain ⟨ws, h2, j2⟩ := g
  have l1 := j1.len
  have l2 := j2.len
  refine ⟨F, B, vs, ws, rfl, rfl, h1, h2, small (by omega), fun G hG => ?_⟩
  exact q G _ (Sm.new hG) ⟨_, upd_same, (j1.append j2).ko A (KO.sm (Sm.new hG))⟩ (A.fresh hG)
section
variable {P : Program} {w : World} {K : PySem.W.Frag} {mg : Str → Option Value} {base : Heap} {cs : Tabs}
theorem ok_law_odd (T : Txt K mg cs) (C_law_take : Cal P w K mg base 1 "_law_take" ["bag", "many"] spDraw) : Cal P w K mg base 2 "_law_odd" ["bag"] (spOdd K) := by
  refine T.f_law_odd.cal scLawOdd (fun vs H Q E h => ?_) (fun f cdv A outer s H vs Q E hr h => ?_)
  · obtain ⟨_, _, rfl, _⟩ := h
    rfl
  obtain ⟨b, n, rfl, B, hn, q⟩ := h
  refine ⟨_, (pss_cons (ps_set (i := 1) scLawOdd.nd rfl (by first | exact Or.inl rfl | exact Or.inr rfl) (pe_lst (pa_cons pe_non (pa_cons pe_bl (pa_cons pe_int (pa_cons (pe_un un_neg pe_int) (pa_cons (pe_lst pa_nil) (pa_cons (pe_tup pa_nil) (pa_cons pe_dnewK (pa_cons (pe_lst (pa_cons pe_str pa_nil)) (pa_cons (pe_tup (pa_cons pe_str pa_nil)) (pa_cons pe_str (pa_cons pe_str (pa_cons pe_str pa_nil))))))))))))))
    (pss_one (ps_ret (pe_ix (ixL K) (pv 1) (pe_cal C_law_take (hr.mono (by first | decide | omega)) (pa_cons (pv 0) (pa_cons pe_int pa_nil))) (fun _ _ => rfl))))), ?_⟩
  unfold LIM at hn
  have A0 := B.avl
  refine run_set ?_
  refine ll_new (K := K) (ds := ODD12) A0 (.cons .non (.cons (.bl true) (.cons (.int 0 (by decide)) (.cons (fun H Q _ _ q => ⟨1, rfl, q _ H (Sm.refl H) (.int (-1) (by decide))⟩) (.cons (.lst .nil (by decide)) (.cons (.tup .nil (by decide)) (.cons .dic (.cons (.lst (.cons (.str _ (by decide +kernel)) .nil) (by show 1 ≤ 40; decide)) (.cons (.tup (.cons (.str _ (by decide +kernel)) .nil) (by show 1 ≤ 40; decide)) (.cons (.str _ (by decide +kernel)) (.cons (.str _ (by decide +kernel)) (.cons (.str _ (by decide +kernel)) .nil)))))))))))) (by show 12 ≤ 40; decide) fun L H1 S1 g1 n1 => ?_
  have G1 : Go b 0 H H1 := Go.same S1
  have B1 := G1.bag _ B
  refine run_ret ?_
  exact ll_drawn (N := 12) (by rfl) (by rfl) g1 n1 B1 (by unfold LIM; omega) rfl (by decide) fun v d H2 hd th G2 => q v d H2 ((G1.trans G2).mono (by omega)) hd th
theorem ok_law_no_ref (T : Txt K mg cs) (C_law_take : Cal P w K mg base 1 "_law_take" ["bag", "many"] spDraw) (C_law_ref : Cal P w K mg base 2 "_law_ref" ["bag", "pool", "most"] spRefB) (C_law_odd : Cal P w K mg base 2 "_law_odd" ["bag"] (spOdd K)) : Cal P w K mg base 3 "_law_no_ref" ["bag", "pool"] (spNoRef K) := by
  refine T.f_law_no_ref.cal scLawNoRef (fun vs H Q E h => ?_) (fun f cdv A outer s H vs Q E hr h => ?_)
  · obtain ⟨_, _, _, _, _, rfl, _⟩ := h
    rfl
  obtain ⟨b, p, n, ns, ks, rfl, B, hn, PA, PO, nbp, q⟩ := h
  refine ⟨_, (pss_cons (ps_asg (pe_cal C_law_ref (hr.mono (by first | decide | omega)) (pa_cons (pv 0) (pa_cons (pv 1) (pa_cons pe_int pa_nil)))) (pg_tup rfl (pgs_cons (pg_name (i := 2) scLawNoRef.nd rfl (by first | exact Or.inl rfl | exact Or.inr rfl)) (pgs_cons (pg_name (i := 3) scLawNoRef.nd rfl (by first | exact Or.inl rfl | exact Or.inr rfl)) pgs_nil))))
    (pss_cons (ps_set (i := 4) scLawNoRef.nd rfl (by first | exact Or.inl rfl | exact Or.inr rfl) (pe_cal C_law_take (hr.mono (by first | decide | omega)) (pa_cons (pv 0) (pa_cons (pe_op op_add (pe_callB (lenQ K) rfl T.n_len (by decide +kernel) (pa_cons (pv 3) pa_nil)) pe_int) pa_nil))))
    (pss_cons (ps_set (i := 5) scLawNoRef.nd rfl (by first | exact Or.inl rfl | exact Or.inr rfl) (pe_cal C_law_odd (hr.mono (by first | decide | omega)) (pa_cons (pv 0) pa_nil)))
    (pss_cons (ps_set (i := 6) scLawNoRef.nd rfl (by first | exact Or.inl rfl | exact Or.inr rfl) (pe_lst (pa_cons (pe_tup (pa_cons (pv 2) (pa_cons (pe_op (catA K) (pe_op (catA K) (pe_slice (slT K) (pv 3) po_none (po_some (pv 4))) (pe_tup (pa_cons pe_str pa_nil))) (pe_slice (slT K) (pv 3) (po_some (pv 4)) po_none)) pa_nil))) (pa_cons (pe_tup (pa_cons (pv 2) (pa_cons (pe_op (catA K) (pe_op (catA K) (pe_slice (slT K) (pv 3) po_none (po_some (pv 4))) (pe_tup (pa_cons (pv 5) pa_nil))) (pe_slice (slT K) (pv 3) (po_some (pv 4)) po_none)) pa_nil))) (pa_cons (pe_tup (pa_cons (pv 2) (pa_cons (pe_callTy (listOf K) rfl T.n_list (by decide +kernel) (pa_cons (pv 3) pa_nil)) pa_nil))) pa_nil)))))
    (pss_cons (ps_set (i := 6) scLawNoRef.nd rfl (by first | exact Or.inl rfl | exact Or.inr rfl) (pe_op op_cat (pv 6) (pe_lst (pa_cons (pe_lst (pa_cons (pv 2) (pa_cons (pv 3) pa_nil))) (pa_cons (pe_tup (pa_cons (pv 2) pa_nil)) (pa_cons (pe_tup (pa_cons (pv 2) (pa_cons (pv 3) (pa_cons (pv 3) pa_nil)))) (pa_cons (pe_tup (pa_cons (pv 2) (pa_cons (pe_slice (slT K) (pe_op (catA K) (pv 3) (pe_op (repT K) (pe_tup (pa_cons pe_str pa_nil)) pe_int)) po_none (po_some pe_int)) pa_nil))) (pa_cons (pe_tup (pa_cons (pv 5) (pa_cons (pv 3) pa_nil))) (pa_cons (pv 5) pa_nil)))))))))
    (pss_cons (ps_set (i := 6) scLawNoRef.nd rfl (by first | exact Or.inl rfl | exact Or.inr rfl) (pe_op op_cat (pv 6) (pe_lst (pa_cons (pe_tup (pa_cons (pe_ix (ixL K) (pe_lst (pa_cons pe_str (pa_cons pe_str (pa_cons pe_str (pa_cons pe_str (pa_cons pe_str pa_nil)))))) (pe_cal C_law_take (hr.mono (by first | decide | omega)) (pa_cons (pv 0) (pa_cons pe_int pa_nil))) (fun _ _ => rfl)) (pa_cons (pv 3) pa_nil))) (pa_cons (pe_tup (pa_cons pe_str (pa_cons (pv 3) pa_nil))) (pa_cons (pe_tup (pa_cons (pv 2) (pa_cons pe_str pa_nil))) pa_nil))))))
    (pss_cons (ps_set (i := 6) scLawNoRef.nd rfl (by first | exact Or.inl rfl | exact Or.inr rfl) (pe_op op_cat (pv 6) (pe_lst (pa_cons (pe_tup (pa_cons (pv 2) (pa_cons (pe_op (catA K) (pe_slice (slT K) (pv 3) po_none (po_some pe_int)) (pe_tup (pa_cons (pe_op op_strRep pe_str pe_int) pa_nil))) pa_nil))) (pa_cons (pe_tup (pa_cons (pv 2) (pa_cons pe_non pa_nil))) (pa_cons (pe_tup (pa_cons (pv 2) (pa_cons pe_dnewK pa_nil))) (pa_cons (pe_tup (pa_cons (pv 2) (pa_cons (pe_tup (pa_cons pe_int pa_nil)) pa_nil))) pa_nil)))))))
    (pss_one (ps_ret (pe_ix (ixL K) (pv 6) (pe_cal C_law_take (hr.mono (by first | decide | omega)) (pa_cons (pv 0) (pa_cons pe_int pa_nil))) (fun _ _ => rfl))))))))))), ?_⟩
  unfold LIM at hn
  refine ⟨_, rfl, _, rfl, b, p, n, 6, ns, ks, rfl, B, by unfold LIM; omega, PA, nbp, PO, by decide, fun g nm qs H1 _ _ lq O R1 _ G1 => ?_⟩
  obtain ⟨t, r1, r2⟩ := R1.ex
  refine ⟨g, _, rfl, SqT.of r1, rfl, _, _, rfl, _, _, rfl, rfl, ?_⟩
  have B1 := G1.bag _ B
  have lq' : qs.length ≤ 6 := lq
  have an := nm_asc O.nm
  dsimp only [List.set]
  refine run_set ⟨_, rfl, ⟨_, rfl, t, _, rfl, .inr (SqT.of r2), _, 1, rfl, rfl, b, _, _, rfl, B1, by unfold LIM; omega, by omega, by rw [List.length_map]; omega, fun r H2 r0 r1' G2 => ?_⟩⟩
  rw [List.length_map] at r1'
  obtain ⟨m, rfl⟩ : ∃ m : Nat, r = (m : Int) := ⟨r.toNat, by omega⟩
  have hm : m ≤ qs.length := by omega
  have B2 := G2.bag _ B1
  refine run_set ⟨_, rfl, b, _, rfl, B2, by unfold LIM; omega, fun vo o H3 G3 ho to => ?_⟩
  obtain ⟨wo, ko, no, ro⟩ := odd12 o ho
  have B3 := G3.bag _ B2
  have A3 := B3.avl
  have G13 := G2.trans G3
  have tK : Th K (fun a => a = b) 0 H3 (.ref t) (.tup (qs.map D.str)) := .tup (SqT.of (G13.keep t _ (fun e => by
    obtain ⟨_, hb⟩ := B1.some
    rw [← e, r2] at hb
    cases hb) r2)) (by rw [List.length_map]; omega) (th_keys O.ks)
  have tN : Th K (fun a => a = b) 0 H3 (.str nm) (.str nm) := .str nm (by have := O.nm.len; omega) an.2
  have lD : (qs.map D.str).length ≤ 6 := by rw [List.length_map]; exact lq'
  -- the rows
  refine run_set ?_
  refine ll_new (ds := [.tup [.str nm, .tup ((qs.map D.str).take m ++ [.str ""] ++ (qs.map D.str).drop m)], .tup [.str nm, .tup ((qs.map D.str).take m ++ [o] ++ (qs.map D.str).drop m)], .tup [.str nm, .lst (qs.map D.str)]]) A3
    (.cons (.tup (.cons (.var (by rfl) A3 tN) (.cons (.cat (.cat (.to (.var (by rfl) A3 tK) fun H Q _ q => ⟨_, (by rfl), q⟩) (.tup (.cons (.str _ (by decide)) .nil) (by show 1 ≤ 40; decide)) ?_) (.from (.var (by rfl) A3 tK) (by rw [List.length_map]; exact hm) fun H Q _ q => ⟨_, (by rfl), q⟩) ?_) .nil)) (by show 2 ≤ 40; decide))
    (.cons (.tup (.cons (.var (by rfl) A3 tN) (.cons (.cat (.cat (.to (.var (by rfl) A3 tK) fun H Q _ q => ⟨_, (by rfl), q⟩) (.tup (.cons (.var (by rfl) A3 to) .nil) (by show 1 ≤ 40; decide)) ?_) (.from (.var (by rfl) A3 tK) (by rw [List.length_map]; exact hm) fun H Q _ q => ⟨_, (by rfl), q⟩) ?_) .nil)) (by show 2 ≤ 40; decide))
    (.cons (.tup (.cons (.var (by rfl) A3 tN) (.cons (.list (by rfl) A3 tK) .nil)) (by show 2 ≤ 40; decide)) .nil))) (by show 3 ≤ 40; decide) fun L1 H4 S4 g1 n1 => ?_
  · rw [List.length_take]
    show _ + 1 ≤ 40
    omega
  · rw [List.length_append, List.length_take, List.length_drop]
    show _ + 1 + _ ≤ 40
    omega
  · rw [List.length_take]
    show _ + 1 ≤ 40
    omega
  · rw [List.length_append, List.length_take, List.length_drop]
    show _ + 1 + _ ≤ 40
    omega
  have tK4 := tK.ko A3 (KO.sm S4)
  have tN4 := tN.ko A3 (KO.sm S4)
  have to4 := to.ko A3 (KO.sm S4)
  have A4 := A3.sm S4
  refine run_set ?_
  refine ll_cat (es := [.lst [.str nm, .tup (qs.map D.str)], .tup [.str nm], .tup [.str nm, .tup (qs.map D.str), .tup (qs.map D.str)], .tup [.str nm, .tup ((qs.map D.str ++ (List.replicate 7 [D.str "1"]).flatten).take 7)], .tup [o, .tup (qs.map D.str)], o]) (by rfl) A4 g1 n1
    (.cons (.lst (.cons (.var (by rfl) A4 tN4) (.cons (.var (by rfl) A4 tK4) .nil)) (by show 2 ≤ 40; decide))
    (.cons (.tup (.cons (.var (by rfl) A4 tN4) .nil) (by show 1 ≤ 40; decide))
    (.cons (.tup (.cons (.var (by rfl) A4 tN4) (.cons (.var (by rfl) A4 tK4) (.cons (.var (by rfl) A4 tK4) .nil))) (by show 3 ≤ 40; decide))
    (.cons (.tup (.cons (.var (by rfl) A4 tN4) (.cons (.to (.cat (.var (by rfl) A4 tK4) (.rep (.cons (.str _ (by decide)) .nil) (by show 1 ≤ 40; decide) (by intro h; cases h) (by decide) (by decide) (by decide)) ?_) fun H Q _ q => q) .nil)) (by show 2 ≤ 40; decide))
    (.cons (.tup (.cons (.var (by rfl) A4 to4) (.cons (.var (by rfl) A4 tK4) .nil)) (by show 2 ≤ 40; decide))
    (.cons (.var (by rfl) A4 to4) .nil)))))) (by show 3 + 6 ≤ 40; decide) fun L2 H5 S5 g2 n2 => ?_
  · show _ + 7 ≤ 40
    omega
  have G15 : Go b _ H1 H5 := G13.trans (Go.same (S4.trans S5))
  have B5 := G15.bag _ B1
  have A5 := A4.sm S5
  have tK5 := tK4.ko A4 (KO.sm S5)
  -- names that are none
  refine run_set ⟨_, rfl, ?_⟩
  refine menuC (A := fun u => ∃ z, u = .str z ∧ nD (.str z) = false ∧ Th K (fun a => a = b) 0 H5 u (.str z)) (xs := [.str "A", .str "a1", .str "abcdefghi", .str "a b", .str "a\n"]) (fun R h => h) (fun u hu => ?_) (by rfl) B5 (by unfold LIM; omega) (by decide) (by decide) fun u H6 ⟨z, eu, nz, tz⟩ G6 => ?_
  · simp only [List.mem_cons, List.not_mem_nil, or_false] at hu
    rcases hu with rfl | rfl | rfl | rfl | rfl <;> exact ⟨_, rfl, by decide +kernel, th_okS (by decide +kernel)⟩
  subst eu
  have B6 := G6.bag _ B5
  have A6 := B6.avl
  have g26 := g2.ko A5 n2 (KO.go G6 rfl)
  have tK6 := tK5.ko A5 (KO.go G6 rfl)
  have tN6 := (tN4.ko A4 (KO.sm S5)).ko A5 (KO.go G6 rfl)
  have tz6 := tz.ko A5 (KO.go G6 rfl)
  refine ⟨_, rfl, (by show 2 ≤ sizeLine; decide), fun t0 ht0 => ?_⟩
  have S7 := Sm.new (o := .tup [.str z, .ref t]) ht0
  have th0 : Th K (fun a => a = b) 0 (upd H6 t0 (.tup [.str z, .ref t])) (.ref t0) (.tup [.str z, .tup (qs.map D.str)]) := .tup (.inl (.inl upd_same)) (by show 2 ≤ 40; decide) (.cons (tz6.ko A6 (KO.sm S7)) (.cons (tK6.ko A6 (KO.sm S7)) .nil))
  have A7 := A6.sm S7
  have tK7 := tK6.ko A6 (KO.sm S7)
  have tN7 := tN6.ko A6 (KO.sm S7)
  have g27 := g26.ko A6 n2 (KO.sm S7)
  generalize upd H6 t0 (.tup [.str z, .ref t]) = H7 at *
  have e3 : EvAll K (fun a => a = b) [some (.ref b), some (.ref p), some (.str nm), some (.ref t), some (.int (m : Int)), some vo, some (.ref L2)] H7 (tCons (tTup (tCons (tC (.str "")) (tCons (tVar 3) tNil))) (tCons (tTup (tCons (tVar 2) (tCons (tC (.str "1")) tNil))) tNil)) [.tup [.str "", .tup (qs.map D.str)], .tup [.str nm, .str "1"]] :=
    .cons (.tup (.cons (.str _ (by decide)) (.cons (.var (by rfl) A7 tK7) .nil)) (by show 2 ≤ 40; decide)) (.cons (.tup (.cons (.var (by rfl) A7 tN7) (.cons (.str _ (by decide)) .nil)) (by show 2 ≤ 40; decide)) .nil)
  refine e3 H7 _ (Sm.refl _) A7 fun vs H8 S8 hv => ⟨small (by rw [List.length_cons, hv.len]; show 2 + 1 ≤ 100000; decide), fun L hL => ?_⟩
  have SL := Sm.new (o := .lst (.ref t0 :: vs)) hL
  have A8 := A7.sm S8
  have g3 : LL K (fun a => a = b) (upd H8 L (.lst (.ref t0 :: vs))) L [.tup [.str z, .tup (qs.map D.str)], .tup [.str "", .tup (qs.map D.str)], .tup [.str nm, .str "1"]] := ⟨_, upd_same, .cons ((th0.ko A7 (KO.sm S8)).ko A8 (KO.sm SL)) (hv.ko A8 (KO.sm SL))⟩
  have S79 := S8.trans SL
  have A9 := A8.sm SL
  have g29 := g27.ko A7 n2 (KO.sm S79)
  have tK9 := tK7.ko A7 (KO.sm S79)
  have tN9 := tN7.ko A7 (KO.sm S79)
  generalize upd H8 L (.lst (.ref t0 :: vs)) = H9 at *
  refine ll_app A9 g29 g3 (by show 9 + 3 ≤ 40; decide) fun L4 H10 S10 g4 n4 => ?_
  have A10 := A9.sm S10
  have tK10 := tK9.ko A9 (KO.sm S10)
  have tN10 := tN9.ko A9 (KO.sm S10)
  refine run_set ?_
  refine ll_cat (es := [.tup [.str nm, .tup ((qs.map D.str).take 5 ++ [.str (Txt.mul "x" 41)])], .tup [.str nm, .non], .tup [.str nm, .dic], .tup [.str nm, .tup [.int 1]]]) (by rfl) A10 g4 n4
    (.cons (.tup (.cons (.var (by rfl) A10 tN10) (.cons (.cat (.to (k := 5) (.var (by rfl) A10 tK10) fun H Q _ q => q) (.tup (.cons (.repS _ _ (by decide) (by decide) (by decide +kernel) (by decide +kernel)) .nil) (by show 1 ≤ 40; decide)) ?_) .nil)) (by show 2 ≤ 40; decide))
    (.cons (.tup (.cons (.var (by rfl) A10 tN10) (.cons .non .nil)) (by show 2 ≤ 40; decide))
    (.cons (.tup (.cons (.var (by rfl) A10 tN10) (.cons .dic .nil)) (by show 2 ≤ 40; decide))
    (.cons (.tup (.cons (.var (by rfl) A10 tN10) (.cons (.tup (.cons (.int 1 (by decide)) .nil) (by show 1 ≤ 40; decide)) .nil)) (by show 2 ≤ 40; decide)) .nil)))) (by show 12 + 4 ≤ 40; decide) fun L5 H11 S11 g5 n5 => ?_
  · rw [List.length_take]
    show _ + 1 ≤ 40
    omega
  have G611 : Go b 0 H6 H11 := Go.same (S7.trans (S79.trans (S10.trans S11)))
  have B11 := G611.bag _ B6
  refine run_ret ?_
  refine ll_drawn (N := 16) (by rfl) (by rfl) g5 n5 B11 (by unfold LIM; omega) rfl (by decide) fun v d H12 hd th G12 => q v d H12 ((G1.trans (G15.trans (G6.trans (G611.trans G12)))).mono (by omega)) th ?_
  have kE : kD (.str "") = false := by decide +kernel
  rcases List.mem_append.mp hd with hd | hd
  · rcases List.mem_append.mp hd with hd | hd
    · rcases List.mem_append.mp hd with hd | hd
      · simp only [List.mem_cons, List.not_mem_nil, or_false] at hd
        rcases hd with rfl | rfl | rfl
        · exact ref_row (row_bad (List.mem_append.mpr (.inl (List.mem_append.mpr (.inr List.mem_cons_self)))) kE)
        · exact ref_row (row_bad (List.mem_append.mpr (.inl (List.mem_append.mpr (.inr List.mem_cons_self)))) ko)
        · exact ref_row rfl
      · simp only [List.mem_cons, List.not_mem_nil, or_false] at hd
        rcases hd with rfl | rfl | rfl | rfl | rfl | rfl
        · rfl
        · rfl
        · rfl
        · refine ref_row (rowD_len ?_)
          rw [List.length_take, List.length_append]
          show 6 < min 7 (_ + 7)
          omega
        · exact ref_name no
        · exact ro
    · simp only [List.mem_cons, List.not_mem_nil, or_false] at hd
      rcases hd with rfl | rfl | rfl
      · exact ref_name nz
      · exact ref_name (by decide +kernel)
      · exact ref_row rfl
  · simp only [List.mem_cons, List.not_mem_nil, or_false] at hd
    rcases hd with rfl | rfl | rfl | rfl
    · exact ref_row (row_bad (List.mem_append.mpr (.inr List.mem_cons_self)) (by decide +kernel))
    · exact ref_row rfl
    · exact ref_row rfl
    · exact ref_row (by decide +kernel)
end
/-! ### k11: a door of arrays, refused -/
def DOORS9 : List Str := ["put", "read", "data", "kill", "order", "following", "rows", "to", "from"]
def BadU (K : PySem.W.Frag) (cs : Tabs) (H : Hp) (ord : Bool) (u : V) (E : XK) : Prop := ∃ (d : D) (n : Nat) (av : Addr → Prop), Th K av n H u d ∧ AvL av H ∧ n ≤ 10 ∧ (if ord = true then askRefD d = false else refD d = false) ∧ Ref cs "NoRef" E H
def WorthU (K : PySem.W.Frag) (cs : Tabs) (H : Hp) (u o : V) (E : XK) : Prop := ∃ (p : Addr) (nm : Str) (ks : List Str) (d : D) (n : Nat) (av : Addr → Prop), u = .ref p ∧ RefAt K H p nm ks ∧ REF nm ks ∧ Th K av n H o d ∧ AvL av H ∧ n ≤ 10 ∧ wD d = false ∧ Ref cs "NoWorth" E H
theorem BadU.imp {K : PySem.W.Frag} {cs : Tabs} {H : Hp} {ord : Bool} {u : V} {E E' : XK} (i : ∀ c d H, E c d H → E' c d H) (r : BadU K cs H ord u E) : BadU K cs H ord u E' := by
  obtain ⟨d, n, av, h1, h2, h3, h4, r⟩ := r
  exact ⟨d, n, av, h1, h2, h3, h4, r.imp i⟩
theorem WorthU.imp {K : PySem.W.Frag} {cs : Tabs} {H : Hp} {u o : V} {E E' : XK} (i : ∀ c d H, E c d H → E' c d H) (r : WorthU K cs H u o E) : WorthU K cs H u o E' := by
  obtain ⟨p, nm, ks, d, n, av, h1, h2, h3, h4, h5, h6, h7, r⟩ := r
  exact ⟨p, nm, ks, d, n, av, h1, h2, h3, h4, h5, h6, h7, r.imp i⟩
def spTriedA (K : PySem.W.Frag) (cs : Tabs) : Sp := fun vs H _ E => ∃ (arr dx tr g : Addr) (door gn : Str) (gk : List Str) (u o : V) (ord : Bool), vs = [.ref arr, .str door, u, o, .ref g] ∧ door ∈ DOORS9 ∧ ord = decide (door = "order") ∧ H arr = some (.ins cs.a_Arrays dx [("_tree", .ref tr)]) ∧ RefAt K H g gn gk ∧ REF gn gk ∧ TGs H cs ∧
  (BadU K cs H ord u E ∨ (door = "put" ∧ WorthU K cs H u o E))
theorem BadU.ref1 {K : PySem.W.Frag} {cs : Tabs} {H : Hp} {arr : Addr} {u o : V} {Q : VK} {E : XK} (h : BadU K cs H false u E) (hT : TGs H cs) : spBadA refD 1 K cs [.ref arr, u, o] H Q E := by
  obtain ⟨d, n, av, h1, h2, h3, h4, r⟩ := h
  exact ⟨arr, u, [o], d, n, av, rfl, rfl, h1, h2, h3, h4, hT, r⟩
theorem BadU.ref0 {K : PySem.W.Frag} {cs : Tabs} {H : Hp} {arr : Addr} {u : V} {Q : VK} {E : XK} (h : BadU K cs H false u E) (hT : TGs H cs) : spBadA refD 0 K cs [.ref arr, u] H Q E := by
  obtain ⟨d, n, av, h1, h2, h3, h4, r⟩ := h
  exact ⟨arr, u, [], d, n, av, rfl, rfl, h1, h2, h3, h4, hT, r⟩
theorem BadU.ask1 {K : PySem.W.Frag} {cs : Tabs} {H : Hp} {arr : Addr} {u o : V} {Q : VK} {E : XK} (h : BadU K cs H true u E) (hT : TGs H cs) : spBadA askRefD 1 K cs [.ref arr, u, o] H Q E := by
  obtain ⟨d, n, av, h1, h2, h3, h4, r⟩ := h
  exact ⟨arr, u, [o], d, n, av, rfl, rfl, h1, h2, h3, h4, hT, r⟩
theorem WorthU.put {K : PySem.W.Frag} {cs : Tabs} {H : Hp} {arr : Addr} {u o : V} {Q : VK} {E : XK} (h : WorthU K cs H u o E) (hT : TGs H cs) : spPutW K cs [.ref arr, u, o] H Q E := by
  obtain ⟨p, nm, ks, d, n, av, rfl, h2, h3, h4, h5, h6, h7, r⟩ := h
  exact ⟨arr, p, nm, ks, o, d, n, av, rfl, h2, h3, h4, h5, h6, h7, hT, r⟩
theorem BadU.m2 {K : PySem.W.Frag} {cs : Tabs} {H : Hp} {arr p : Addr} {nm : Str} {ks : List Str} {u : V} {Q : VK} {E : XK} (R : RefAt K H p nm ks) (O : REF nm ks) (h : BadU K cs H false u E) (hT : TGs H cs) : spBadM K cs [.ref arr, .ref p, u] H Q E := by
  obtain ⟨d, n, av, h1, h2, h3, h4, r⟩ := h
  exact ⟨arr, p, nm, ks, u, d, n, av, rfl, R, O, h1, h2, h3, h4, hT, r⟩
theorem BadU.sm {K : PySem.W.Frag} {cs : Tabs} {H H' : Hp} {ord : Bool} {u : V} {E : XK} (h : BadU K cs H ord u E) (S : Sm H H') : BadU K cs H' ord u E := by
  obtain ⟨d, n, av, h1, h2, h3, h4, r⟩ := h
  exact ⟨d, n, av, h1.ko h2 (KO.sm S), h2.sm S, h3, h4, r.sm S⟩
theorem run_tc {v : V} {σ : L2.St} {H : Hp} {Q : VK} (h : Q v H) : tC v σ H Q := h
theorem run_seq {s u : TS} {Dn : Ends} {σ : L2.St} {H : Hp} (h : s { Dn with nx := u Dn } σ H) : tSeq s u Dn σ H := h
section
variable {P : Program} {w : World} {K : PySem.W.Frag} {mg : Str → Option Value} {base : Heap} {cs : Tabs}
theorem ok_law_tried (T : Txt K mg cs) (P_law_word : CalP P w K mg base 1 "_law_word" ["caught"] (spWord cs)) (XArrays_put : CalMX P w K mg base 8 cs.a_Arrays "put" ["self", "ref", "worth"] (fun vs H Q E => spBadA refD 1 K cs vs H Q E ∨ spPutW K cs vs H Q E)) (XArrays_read : CalWX P w K mg base 8 cs.a_Arrays "read" ["self", "ref", "otherwise"] 2 [("otherwise", .str "")] (spBadA refD 1 K cs))
    (XArrays_data : CalMX P w K mg base 8 cs.a_Arrays "data" ["self", "ref"] (spBadA refD 0 K cs)) (XArrays_kill : CalMX P w K mg base 10 cs.a_Arrays "kill" ["self", "ref"] (spBadA refD 0 K cs)) (XArrays_order : CalWX P w K mg base 9 cs.a_Arrays "order" ["self", "ref", "back"] 2 [("back", .bl false)] (spBadA askRefD 1 K cs))
    (XArrays_following : CalWX P w K mg base 8 cs.a_Arrays "following" ["self", "ref", "back"] 2 [("back", .bl false)] (spBadA refD 1 K cs)) (XArrays_rows : CalMX P w K mg base 10 cs.a_Arrays "rows" ["self", "ref"] (spBadA refD 0 K cs)) (XArrays_merge : CalMX P w K mg base 11 cs.a_Arrays "merge" ["self", "to", "source"] (fun vs H Q E => spBadA refD 1 K cs vs H Q E ∨ spBadM K cs vs H Q E)) :
    Cal P w K mg base 12 "_law_tried" ["arrays", "door", "ref", "worth", "other"] (fun vs H Q _ => spTriedA K cs vs H Q (EW cs Q)) := by
  refine T.f_law_tried.cal scLawTried (fun vs H Q E h => ?_) (fun f cdv A outer s H vs Q E hr h => ?_)
  · obtain ⟨_, _, _, _, _, _, _, _, _, _, rfl, _⟩ := h
    rfl
  obtain ⟨arr, dx, tr, g, door, gn, gk, u, o, ord, rfl, hdr, eo, hi, Rg, Og, hT, h⟩ := h
  refine ⟨_, (pss_cons (ps_set (i := 5) scLawTried.nd rfl (by first | exact Or.inl rfl | exact Or.inr rfl) pe_non)
    (pss_cons (L2N.ps_try_as (i := 6) rfl rfl scLawTried.nd rfl rfl ⟨rfl, by decide, .inl (T.xg "StemError" (by simp [ALLE]))⟩ takes0N (fun W pn xe tk _ => (pss_one (ps_if (pt_cmpR op_eq (pv 1) pe_str (nomark _)) (pss_one (ps_expr (pe_calMX XArrays_put T.cl_Arrays (hr.mono (by first | decide | omega)) tk (pv 0) (pa_cons (pv 2) (pa_cons (pv 3) pa_nil))))) (pss_one (ps_if (pt_cmpR op_eq (pv 1) pe_str (nomark _)) (pss_one (ps_expr (pe_calWNX XArrays_read T.cl_Arrays (hr.mono (by first | decide | omega)) tk (pv 0) (pa_cons (pv 2) pa_nil) (pk_cons (pv 3) pk_nil)))) (pss_one (ps_if (pt_cmpR op_eq (pv 1) pe_str (nomark _)) (pss_one (ps_expr (pe_calMX XArrays_data T.cl_Arrays (hr.mono (by first | decide | omega)) tk (pv 0) (pa_cons (pv 2) pa_nil)))) (pss_one (ps_if (pt_cmpR op_eq (pv 1) pe_str (nomark _)) (pss_one (ps_expr (pe_calMX XArrays_kill T.cl_Arrays (hr.mono (by first | decide | omega)) tk (pv 0) (pa_cons (pv 2) pa_nil)))) (pss_one (ps_if (pt_cmpR op_eq (pv 1) pe_str (nomark _)) (pss_one (ps_expr (pe_calWX XArrays_order T.cl_Arrays (hr.mono (by first | decide | omega)) tk (pv 0) (pa_cons (pv 2) pa_nil)))) (pss_one (ps_if (pt_cmpR op_eq (pv 1) pe_str (nomark _)) (pss_one (ps_expr (pe_calWX XArrays_following T.cl_Arrays (hr.mono (by first | decide | omega)) tk (pv 0) (pa_cons (pv 2) pa_nil)))) (pss_one (ps_if (pt_cmpR op_eq (pv 1) pe_str (nomark _)) (pss_one (ps_expr (pe_calMX XArrays_rows T.cl_Arrays (hr.mono (by first | decide | omega)) tk (pv 0) (pa_cons (pv 2) pa_nil)))) (pss_one (ps_expr (pe_calMX XArrays_merge T.cl_Arrays (hr.mono (by first | decide | omega)) tk (pv 0) (pa_cons (pe_ix (ixL K) (pe_lst (pa_cons (pv 2) (pa_cons (pv 4) pa_nil))) (pe_callTy call_int1 rfl T.n_int (by decide +kernel) (pa_cons (pe_cmpR op_eq (pv 1) pe_str (nomark _)) pa_nil)) (fun _ _ => rfl)) (pa_cons (pe_ix (ixL K) (pe_lst (pa_cons (pv 4) (pa_cons (pv 2) pa_nil))) (pe_callTy call_int1 rfl T.n_int (by decide +kernel) (pa_cons (pe_cmpR op_eq (pv 1) pe_str (nomark _)) pa_nil)) (fun _ _ => rfl)) pa_nil))))))))))))))))))))
      (fun a oe cls d pn hz hf => (pss_one (ps_set (i := 5) scLawTried.nd rfl (by first | exact Or.inl rfl | exact Or.inr rfl) (pe_calP P_law_word (roomS hr (by first | decide | omega)) hz (hot_suite hz hf) List.mem_cons_self (pa_cons (pv 6) pa_nil))))))
    (pss_one (ps_ret (pv 5))))), ?_⟩
  refine run_set ?_
  refine run_tc ?_
  dsimp only
  refine run_seq ?_
  dsimp only [List.set, L2.start]
  have bad : door ≠ "put" → BadU K cs H ord u (EW cs Q) := fun n => h.elim id fun h => (n h.1).elim
  have reg : door ≠ "order" → ord = false := fun n => by rw [eo, decide_eq_false n]
  refine run_ifE ⟨_, rfl, rfl, _, rfl, ?_⟩
  rw [strEq]
  refine ite2 (fun c1 => ?_) (fun c1 => ?_)
  · obtain rfl := of_decide_eq_true c1
    obtain rfl := reg (by decide +kernel)
    refine ⟨_, rfl, arr, _, _, rfl, hi, rfl, _, rfl, _, rfl, ?_⟩
    rcases h with h | ⟨_, h⟩
    · exact .inl (BadU.ref1 (Q := fun _ _ => True) (BadU.imp (caught T fun a x H1 hx ha q => ⟨_, rfl, x, rfl, hx, rfl, rfl, fun H2 S2 => ⟨_, rfl, q H2 S2⟩⟩) h) hT)
    · exact .inr (WorthU.put (Q := fun _ _ => True) (WorthU.imp (caught T fun a x H1 hx ha q => ⟨_, rfl, x, rfl, hx, rfl, rfl, fun H2 S2 => ⟨_, rfl, q H2 S2⟩⟩) h) hT)
  refine run_ifE ⟨_, rfl, rfl, _, rfl, ?_⟩
  rw [strEq]
  refine ite2 (fun c2 => ?_) (fun c2 => ?_)
  · obtain rfl := of_decide_eq_true c2
    obtain rfl := reg (by decide +kernel)
    exact ⟨_, rfl, arr, _, _, rfl, hi, rfl, _, rfl, _, rfl, rfl, rfl, BadU.ref1 (Q := fun _ _ => True) (BadU.imp (caught T fun a x H1 hx ha q => ⟨_, rfl, x, rfl, hx, rfl, rfl, fun H2 S2 => ⟨_, rfl, q H2 S2⟩⟩) (bad (by decide +kernel))) hT⟩
  refine run_ifE ⟨_, rfl, rfl, _, rfl, ?_⟩
  rw [strEq]
  refine ite2 (fun c3 => ?_) (fun c3 => ?_)
  · obtain rfl := of_decide_eq_true c3
    obtain rfl := reg (by decide +kernel)
    exact ⟨_, rfl, arr, _, _, rfl, hi, rfl, _, rfl, BadU.ref0 (Q := fun _ _ => True) (BadU.imp (caught T fun a x H1 hx ha q => ⟨_, rfl, x, rfl, hx, rfl, rfl, fun H2 S2 => ⟨_, rfl, q H2 S2⟩⟩) (bad (by decide +kernel))) hT⟩
  refine run_ifE ⟨_, rfl, rfl, _, rfl, ?_⟩
  rw [strEq]
  refine ite2 (fun c4 => ?_) (fun c4 => ?_)
  · obtain rfl := of_decide_eq_true c4
    obtain rfl := reg (by decide +kernel)
    exact ⟨_, rfl, arr, _, _, rfl, hi, rfl, _, rfl, BadU.ref0 (Q := fun _ _ => True) (BadU.imp (caught T fun a x H1 hx ha q => ⟨_, rfl, x, rfl, hx, rfl, rfl, fun H2 S2 => ⟨_, rfl, q H2 S2⟩⟩) (bad (by decide +kernel))) hT⟩
  refine run_ifE ⟨_, rfl, rfl, _, rfl, ?_⟩
  rw [strEq]
  refine ite2 (fun c5 => ?_) (fun c5 => ?_)
  · obtain rfl := of_decide_eq_true c5
    obtain rfl : ord = true := by rw [eo, decide_eq_true rfl]
    exact ⟨_, rfl, arr, _, _, rfl, hi, rfl, _, rfl, BadU.ask1 (Q := fun _ _ => True) (BadU.imp (caught T fun a x H1 hx ha q => ⟨_, rfl, x, rfl, hx, rfl, rfl, fun H2 S2 => ⟨_, rfl, q H2 S2⟩⟩) (bad (by decide +kernel))) hT⟩
  refine run_ifE ⟨_, rfl, rfl, _, rfl, ?_⟩
  rw [strEq]
  refine ite2 (fun c6 => ?_) (fun c6 => ?_)
  · obtain rfl := of_decide_eq_true c6
    obtain rfl := reg (by decide +kernel)
    exact ⟨_, rfl, arr, _, _, rfl, hi, rfl, _, rfl, BadU.ref1 (Q := fun _ _ => True) (BadU.imp (caught T fun a x H1 hx ha q => ⟨_, rfl, x, rfl, hx, rfl, rfl, fun H2 S2 => ⟨_, rfl, q H2 S2⟩⟩) (bad (by decide +kernel))) hT⟩
  refine run_ifE ⟨_, rfl, rfl, _, rfl, ?_⟩
  rw [strEq]
  refine ite2 (fun c7 => ?_) (fun c7 => ?_)
  · obtain rfl := of_decide_eq_true c7
    obtain rfl := reg (by decide +kernel)
    exact ⟨_, rfl, arr, _, _, rfl, hi, rfl, _, rfl, BadU.ref0 (Q := fun _ _ => True) (BadU.imp (caught T fun a x H1 hx ha q => ⟨_, rfl, x, rfl, hx, rfl, rfl, fun H2 S2 => ⟨_, rfl, q H2 S2⟩⟩) (bad (by decide +kernel))) hT⟩
  have hm : door = "to" ∨ door = "from" := by
    simp only [DOORS9, List.mem_cons, List.not_mem_nil, or_false] at hdr
    rcases hdr with e | e | e | e | e | e | e | e | e
    · exact absurd (decide_eq_true e) c1
    · exact absurd (decide_eq_true e) c2
    · exact absurd (decide_eq_true e) c3
    · exact absurd (decide_eq_true e) c4
    · exact absurd (decide_eq_true e) c5
    · exact absurd (decide_eq_true e) c6
    · exact absurd (decide_eq_true e) c7
    · exact .inl e
    · exact .inr e
  obtain rfl := reg fun e => absurd (decide_eq_true e) c5
  have hb := bad fun e => absurd (decide_eq_true e) c1
  refine ⟨_, rfl, arr, _, _, rfl, hi, rfl, _, rfl, _, rfl, (by show 2 ≤ sizeLine; decide), fun L1 hL1 => ?_⟩
  have S1 := Sm.new (o := .lst [u, .ref g]) hL1
  have a1 : (upd H L1 (.lst [u, .ref g])) L1 = some (.lst [u, .ref g]) := upd_same
  rcases hm with rfl | rfl
  · refine ⟨_, rfl, rfl, .inr ⟨_, rfl, L1, _, 0, u, rfl, by rw [strEq, decide_eq_false (by decide +kernel)]; rfl, SqL.of a1, atI_nat (j := 0) rfl, _, rfl, _, rfl, (by show 2 ≤ sizeLine; decide), fun L2 hL2 => ?_⟩⟩
    have S2 := Sm.new (o := .lst [.ref g, u]) hL2
    refine ⟨_, rfl, rfl, .inr ⟨_, rfl, L2, _, 0, .ref g, rfl, by rw [strEq, decide_eq_false (by decide +kernel)]; rfl, SqL.of upd_same, atI_nat (j := 0) rfl, ?_⟩⟩
    exact .inl (BadU.ref1 (Q := fun _ _ => True) (BadU.imp (caught T fun a x H1 hx ha q => ⟨_, rfl, x, rfl, hx, rfl, rfl, fun H2 S2 => ⟨_, rfl, q H2 S2⟩⟩) (hb.sm (S1.trans S2))) (hT.sm (S1.trans S2)))
  · refine ⟨_, rfl, rfl, .inr ⟨_, rfl, L1, _, 1, .ref g, rfl, by rw [strEq, decide_eq_true rfl]; rfl, SqL.of a1, atI_nat (j := 1) rfl, _, rfl, _, rfl, (by show 2 ≤ sizeLine; decide), fun L2 hL2 => ?_⟩⟩
    have S2 := Sm.new (o := .lst [.ref g, u]) hL2
    refine ⟨_, rfl, rfl, .inr ⟨_, rfl, L2, _, 1, u, rfl, by rw [strEq, decide_eq_true rfl]; rfl, SqL.of upd_same, atI_nat (j := 1) rfl, ?_⟩⟩
    exact .inr (BadU.m2 (Q := fun _ _ => True) (Rg.same (S1.trans S2)) Og (BadU.imp (caught T fun a x H1 hx ha q => ⟨_, rfl, x, rfl, hx, rfl, rfl, fun H2 S2 => ⟨_, rfl, q H2 S2⟩⟩) (hb.sm (S1.trans S2))) (hT.sm (S1.trans S2)))
end
/-! ### k11: what arrays refuse -/
def spRefusedA (K : PySem.W.Frag) (cs : Tabs) : Sp := fun vs H Q _ => ∃ (b arr p : Addr) (n : Nat) (S : Sh) (m : Nat) (ns ks : List Str), vs = [.ref b, .ref arr, .ref p] ∧ Bag H b n ∧ n + 1000 ≤ LIM ∧ PoolAt H p ns ks ∧ POOL ns ks ∧ ¬ PoolOwn H p b ∧ ArrAt cs H arr S m ∧ TGs H cs ∧ ∀ H', Go b 300 H H' → Q (.bl true) H'
theorem ll_ix {K : PySem.W.Frag} {b F : Addr} {i n N : Nat} {σ : L2.St} {H : Hp} {ds : List D} {Q : VK} (hb : σ[i]? = some (some (.ref b))) (f : LL K (fun a => a = b) H F ds) (nF : F ≠ b) (B : Bag H b n) (hn : n ≤ LIM) (hN : ds.length = N) (h0 : 0 < N ∧ N ≤ 1000) (q : ∀ v d H', d ∈ ds → Th K (fun a => a = b) 0 H' v d → Go b 1 H H' → Q v H') :
    tCall spDraw [] E0 (tCons (tVar i) (tCons (tC (.int ((N : Nat) : Int))) tNil)) σ H fun y H' => rIxL K (.ref F) y H' Q := by
  obtain ⟨vs, hF, hv⟩ := f
  have lv := hv.len
  refine ⟨_, hb, b, (N : Int), n, rfl, B, hn, by omega, by omega, fun r H' r0 r1 G => ?_⟩
  obtain ⟨k, rfl⟩ : ∃ k : Nat, r = (k : Int) := ⟨r.toNat, by omega⟩
  have hk : k < vs.length := by omega
  obtain ⟨d, hd, th⟩ := hv.at hk
  exact ⟨F, vs, (k : Int), vs[k], rfl, rfl, SqL.of (G.keep F _ nF hF), atI_nat (List.getElem?_eq_getElem hk), q _ d H' (List.mem_of_getElem? hd) (th.ko B.avl (KO.go G rfl)) G⟩
theorem run_asg {i : Nat} {te : TE} {Dn : Ends} {σ : L2.St} {H : Hp} (h : te σ H fun v H1 => Dn.nx (σ.set i (some v)) H1) : tAsg te (gName i) Dn σ H := h
section
variable {P : Program} {w : World} {K : PySem.W.Frag} {mg : Str → Option Value} {base : Heap} {cs : Tabs}
theorem ok_law_refused (T : Txt K mg cs) (C_law_take : Cal P w K mg base 1 "_law_take" ["bag", "many"] spDraw) (C_law_worth : Cal P w K mg base 2 "_law_worth" ["bag"] spWorthB) (C_law_ref : Cal P w K mg base 2 "_law_ref" ["bag", "pool", "most"] spRefB) (C_law_odd : Cal P w K mg base 2 "_law_odd" ["bag"] (spOdd K)) (C_law_no_ref : Cal P w K mg base 3 "_law_no_ref" ["bag", "pool"] (spNoRef K))
    (C_law_tried : Cal P w K mg base 12 "_law_tried" ["arrays", "door", "ref", "worth", "other"] (fun vs H Q _ => spTriedA K cs vs H Q (EW cs Q))) : Cal P w K mg base 13 "_law_refused" ["bag", "arrays", "pool"] (spRefusedA K cs) := by
  refine T.f_law_refused.cal scLawRefused (fun vs H Q E h => ?_) (fun f cdv A outer s H vs Q E hr h => ?_)
  · obtain ⟨_, _, _, _, _, _, _, _, rfl, _⟩ := h
    rfl
  obtain ⟨b, arr, p, n, S, m, ns, ks, rfl, B, hn, PA, PO, nbp, Ar, hT, q⟩ := h
  refine ⟨_, (pss_cons (ps_set (i := 3) scLawRefused.nd rfl (by first | exact Or.inl rfl | exact Or.inr rfl) (pe_ix (ixL K) (pe_lst (pa_cons pe_str (pa_cons pe_str (pa_cons pe_str (pa_cons pe_str (pa_cons pe_str (pa_cons pe_str (pa_cons pe_str (pa_cons pe_str (pa_cons pe_str pa_nil)))))))))) (pe_cal C_law_take (hr.mono (by first | decide | omega)) (pa_cons (pv 0) (pa_cons pe_int pa_nil))) (fun _ _ => rfl)))
    (pss_cons (ps_set (i := 4) scLawRefused.nd rfl (by first | exact Or.inl rfl | exact Or.inr rfl) (pe_ix (ixL K) (pe_lst (pa_cons (pe_cal C_law_worth (hr.mono (by first | decide | omega)) (pa_cons (pv 0) pa_nil)) (pa_cons (pe_cal C_law_odd (hr.mono (by first | decide | omega)) (pa_cons (pv 0) pa_nil)) pa_nil))) (pe_cal C_law_take (hr.mono (by first | decide | omega)) (pa_cons (pv 0) (pa_cons pe_int pa_nil))) (fun _ _ => rfl)))
    (pss_cons (ps_set (i := 5) scLawRefused.nd rfl (by first | exact Or.inl rfl | exact Or.inr rfl) (pe_cal C_law_ref (hr.mono (by first | decide | omega)) (pa_cons (pv 0) (pa_cons (pv 2) (pa_cons pe_int pa_nil)))))
    (pss_cons (ps_if (PW.pt (pw_and (pt_cmpR op_eq (pv 3) pe_str (nomark _)) (pw_and1 (pt_cmpR op_eq (pe_cal C_law_take (hr.mono (by first | decide | omega)) (pa_cons (pv 0) (pa_cons pe_int pa_nil))) pe_int (nomark _))))) (pss_one (ps_ret (pe_cmpR op_eq (pe_cal C_law_tried (hr.mono (by first | decide | omega)) (pa_cons (pv 1) (pa_cons (pv 3) (pa_cons (pv 5) (pa_cons (pe_cal C_law_odd (hr.mono (by first | decide | omega)) (pa_cons (pv 0) pa_nil)) (pa_cons (pv 5) pa_nil)))))) pe_str (nomark _)))) pss_nil)
    (pss_cons (ps_set (i := 6) scLawRefused.nd rfl (by first | exact Or.inl rfl | exact Or.inr rfl) (pe_cal C_law_no_ref (hr.mono (by first | decide | omega)) (pa_cons (pv 0) (pa_cons (pv 2) pa_nil))))
    (pss_cons (ps_if (PW.pt (pw_and (pt_cmpR op_eq (pv 3) pe_str (nomark _)) (pw_and1 (pt_cmpR op_eq (pe_cal C_law_take (hr.mono (by first | decide | omega)) (pa_cons (pv 0) (pa_cons pe_int pa_nil))) pe_int (nomark _))))) (pss_cons (ps_set (i := 7) scLawRefused.nd rfl (by first | exact Or.inl rfl | exact Or.inr rfl) (pe_ix (ixL K) (pe_lst (pa_cons (pe_cal C_law_odd (hr.mono (by first | decide | omega)) (pa_cons (pv 0) pa_nil)) (pa_cons (pe_op op_strRep pe_str pe_int) pa_nil))) (pe_cal C_law_take (hr.mono (by first | decide | omega)) (pa_cons (pv 0) (pa_cons pe_int pa_nil))) (fun _ _ => rfl)))
        (pss_one (ps_set (i := 6) scLawRefused.nd rfl (by first | exact Or.inl rfl | exact Or.inr rfl) (pe_ix (ixL K) (pe_lst (pa_cons (pe_tup (pa_cons (pe_ix (ixT K) (pv 5) pe_int (fun _ _ => rfl)) (pa_cons (pe_op (catA K) (pe_slice (slT K) (pe_ix (ixT K) (pv 5) pe_int (fun _ _ => rfl)) po_none (po_some pe_int)) (pe_tup (pa_cons (pv 7) pa_nil))) pa_nil))) (pa_cons (pe_tup (pa_cons (pe_ix (ixT K) (pv 5) pe_int (fun _ _ => rfl)) (pa_cons (pe_op (catA K) (pe_op (catA K) (pe_tup (pa_cons (pv 7) pa_nil)) (pe_slice (slT K) (pe_ix (ixT K) (pv 5) pe_int (fun _ _ => rfl)) po_none (po_some pe_int))) (pe_tup (pa_cons pe_str pa_nil))) pa_nil))) pa_nil))) (pe_cal C_law_take (hr.mono (by first | decide | omega)) (pa_cons (pv 0) (pa_cons pe_int pa_nil))) (fun _ _ => rfl))))) (pss_one (ps_if (pt_cmpR op_eq (pv 3) pe_str (nomark _)) (pss_one (ps_set (i := 6) scLawRefused.nd rfl (by first | exact Or.inl rfl | exact Or.inr rfl) (pe_ix (ixL K) (pe_lst (pa_cons (pe_tup (pa_cons (pe_ix (ixT K) (pv 5) pe_int (fun _ _ => rfl)) (pa_cons (pe_tup pa_nil) pa_nil))) (pa_cons (pe_tup (pa_cons (pe_ix (ixT K) (pv 5) pe_int (fun _ _ => rfl)) (pa_cons (pe_op (catA K) (pe_op (catA K) (pe_tup (pa_cons pe_str pa_nil)) (pe_slice (slT K) (pe_ix (ixT K) (pv 5) pe_int (fun _ _ => rfl)) po_none (po_some pe_int))) (pe_tup (pa_cons pe_str pa_nil))) pa_nil))) (pa_cons (pe_tup (pa_cons (pe_ix (ixT K) (pv 5) pe_int (fun _ _ => rfl)) (pa_cons (pe_op (catA K) (pe_op (repT K) (pe_tup (pa_cons pe_str pa_nil)) pe_int) (pe_tup (pa_cons pe_str pa_nil))) pa_nil))) (pa_cons (pe_lst (pa_cons (pe_ix (ixT K) (pv 5) pe_int (fun _ _ => rfl)) (pa_cons (pe_tup (pa_cons pe_str pa_nil)) pa_nil))) (pa_cons (pe_tup (pa_cons (pe_ix (ixT K) (pv 5) pe_int (fun _ _ => rfl)) (pa_cons (pe_lst (pa_cons pe_str pa_nil)) pa_nil))) (pa_cons (pe_tup (pa_cons pe_str (pa_cons (pe_tup (pa_cons pe_str pa_nil)) pa_nil))) (pa_cons pe_non (pa_cons (pe_tup (pa_cons (pe_ix (ixT K) (pv 5) pe_int (fun _ _ => rfl)) (pa_cons (pe_tup (pa_cons pe_str pa_nil)) pa_nil))) (pa_cons (pe_tup (pa_cons pe_str (pa_cons (pe_tup (pa_cons pe_str pa_nil)) pa_nil))) (pa_cons (pe_tup (pa_cons (pe_ix (ixT K) (pv 5) pe_int (fun _ _ => rfl)) pa_nil)) pa_nil))))))))))) (pe_cal C_law_take (hr.mono (by first | decide | omega)) (pa_cons (pv 0) (pa_cons pe_int pa_nil))) (fun _ _ => rfl)))) pss_nil)))
    (pss_one (ps_ret (pe_cmpR op_eq (pe_cal C_law_tried (hr.mono (by first | decide | omega)) (pa_cons (pv 1) (pa_cons (pv 3) (pa_cons (pv 6) (pa_cons (pv 4) (pa_cons (pv 5) pa_nil)))))) pe_str (nomark _)))))))))), ?_⟩
  unfold LIM at hn
  obtain ⟨dx, nd, hi, _⟩ := Ar.it
  have na : arr ≠ b := fun e => (bag_not B).2.2.1 _ _ _ (e ▸ hi)
  -- a door
  refine run_set ?_
  refine menuC (A := fun u => ∃ z, u = .str z ∧ z ∈ DOORS9) (xs := [.str "put", .str "read", .str "data", .str "kill", .str "order", .str "following", .str "rows", .str "to", .str "from"]) (fun R h => h) (fun u hu => ?_) rfl B (by unfold LIM; omega) (by decide) (by decide) fun u H1 ⟨door, eu, hd⟩ G1 => ?_
  · simp only [List.mem_cons, List.not_mem_nil, or_false] at hu
    rcases hu with rfl | rfl | rfl | rfl | rfl | rfl | rfl | rfl | rfl <;> exact ⟨_, rfl, by simp [DOORS9]⟩
  subst eu
  have B1 := G1.bag _ B
  -- a worth
  refine run_set ?_
  refine menuG (A := fun _ => True) (n := 2) (c := 7) (fun R h => ⟨_, (by rfl), b, _, rfl, B1, by unfold LIM; omega, fun z H' wz G => ⟨_, (by rfl), b, _, rfl, G.bag _ B1, by unfold LIM; omega, fun v d H2 G2 _ _ => h _ _ rfl (fun _ _ => trivial) (G.trans G2)⟩⟩) (by rfl) B1 (by unfold LIM; omega) (by decide) (by decide) fun own H2 _ G2 => ?_
  have B2 := G2.bag _ B1
  have G02 := G1.trans G2
  have P2 := PA.go G02 nbp
  have nb2 : ¬ PoolOwn H2 p b := fun z => nbp (PA.own P2 (fun o h t => G02.keep0 p o (fun e => nbp (.inl e.symm)) h t) z)
  -- a good one
  refine run_set ⟨_, rfl, _, rfl, b, p, _, 6, ns, ks, rfl, B2, by unfold LIM; omega, P2, nb2, PO, by decide, fun g gn gk H3 _ _ lg Og Rg _ G3 => ?_⟩
  have B3 := G3.bag _ B2
  have G03 := G02.trans G3
  have P3 := PA.go G03 nbp
  have nb3 : ¬ PoolOwn H3 p b := fun z => nbp (PA.own P3 (fun o h t => G03.keep0 p o (fun e => nbp (.inl e.symm)) h t) z)
  have R3 : RefAt K H3 g gn gk := Rg.at_
  have hi3 := G03.keep arr _ na hi
  have hT3 := hT.go G03
  clear P2 nb2 G1 G2 B1 B2
  have ne : ∀ {x y : Str}, decide (V.str x = V.str y) = decide (x = y) := fun {x y} => strEq x y
  -- put, with no worth
  refine run_join (fun σ1 H4 => σ1 = [some (.ref b), some (.ref arr), some (.ref p), some (.str door), some own, some (.ref g), none, none] ∧ Go b 1 H3 H4) (fun nx hnx => ?_) fun σ1 H4 hJ => ?_
  · refine run_ifE (run_and ⟨_, rfl, rfl, _, rfl, ?_⟩)
    rw [strEq]
    refine ite2 (fun c1 => ?_) (fun _ => iteF (run_next (hnx _ _ ⟨rfl, (Go.refl b H3).mono (by omega)⟩)))
    obtain rfl := of_decide_eq_true c1
    refine draw_here (i := 0) (many := 3) (by rfl) B3 (by unfold LIM; omega) (by decide) (by decide) fun r H4 _ _ G4 => ⟨rfl, _, rfl, ite2 (fun _ => ?_) (fun _ => run_next (hnx _ _ ⟨rfl, G4⟩))⟩
    have B4 := G4.bag _ B3
    refine run_ret ⟨_, rfl, _, rfl, _, rfl, _, rfl, b, _, rfl, B4, by unfold LIM; omega, fun vo o H5 G5 ho to => ?_⟩
    obtain ⟨wo, _⟩ := odd12 o ho
    have G35 := G4.trans G5
    have R5 := R3.go G35 B3
    have B5 := G35.bag _ B3
    refine ⟨_, rfl, arr, dx, _, g, "put", gn, gk, .ref g, vo, false, rfl, hd, by decide +kernel, G35.keep arr _ na hi3, R5, Og, hT3.go G35, .inr ⟨rfl, g, gn, gk, o, 0, _, rfl, R5, Og, to, B5.avl, by decide, wo, ewRef (x := "NoWorth") (by simp [RAISED]) fun H6 S6 => ?_⟩⟩
    refine ⟨rfl, ?_⟩
    show Q (.bl (decide (V.str "NoWorth" = V.str "NoWorth"))) H6
    rw [decide_eq_true rfl]
    exact q H6 (((G03.trans G35).trans (Go.same S6)).mono (by omega))
  obtain ⟨rfl, G4⟩ := hJ
  have B4 := G4.bag _ B3
  -- what is no reference
  have G04 := G03.trans G4
  have P4 := PA.go G04 nbp
  have nb4 : ¬ PoolOwn H4 p b := fun z => nbp (PA.own P4 (fun o h t => G04.keep0 p o (fun e => nbp (.inl e.symm)) h t) z)
  refine run_set ⟨_, rfl, _, rfl, b, p, _, ns, ks, rfl, B4, by unfold LIM; omega, P4, PO, nb4, fun v0 d0 H5 G5 th0 rd0 => ?_⟩
  have B5 := G5.bag _ B4
  have G35 := G4.trans G5
  have R5 := R3.go G35 B3
  clear P3 nb3 P4 nb4 Rg
  dsimp only [List.set]
  refine run_join (fun σ1 H6 => ∃ vb z7 d, σ1 = [some (.ref b), some (.ref arr), some (.ref p), some (.str door), some own, some (.ref g), some vb, z7] ∧ Go b 10 H5 H6 ∧ Th K (fun a => a = b) 0 H6 vb d ∧ (if decide (door = "order") = true then askRefD d = false else refD d = false)) (fun nx hnx => ?_) fun σ1 H6 hJ => ?_
  rotate_left
  · obtain ⟨vb, z7, d, rfl, G6, th, hd6⟩ := hJ
    have G36 := G35.trans G6
    have B6 := G6.bag _ B5
    refine run_ret ⟨_, rfl, _, rfl, _, rfl, _, rfl, _, rfl, ?_⟩
    refine ⟨arr, dx, _, g, door, gn, gk, vb, own, _, rfl, hd, rfl, G36.keep arr _ na hi3, R3.go G36 B3, Og, hT3.go G36, .inl ⟨d, 0, _, th, B6.avl, by decide, hd6, ewRef (x := "NoRef") (by simp [RAISED]) fun H7 S7 => ?_⟩⟩
    refine ⟨rfl, ?_⟩
    show Q (.bl (decide (V.str "NoRef" = V.str "NoRef"))) H7
    rw [decide_eq_true rfl]
    exact q H7 (((G03.trans G36).trans (Go.same S7)).mono (by omega))
  -- orders
  have kE : kD (.str "") = false := by decide +kernel
  have at0 : ∀ {H6 H' : Hp} {σ : L2.St} {Q : VK}, RefAt K H6 g gn gk → Sm H6 H' → σ[5]? = some (some (.ref g)) → Q (.str gn) H' → tOp (rIxT K) (tVar 5) (tC (.int 0)) σ H' Q := fun {H6 H' σ Q} R S hs q => by
    obtain ⟨t, h1, h2⟩ := R.ex
    exact ⟨_, hs, g, _, 0, .str gn, rfl, rfl, Sm.seqT S h1, atI_nat (j := 0) rfl, q⟩
  have at1 : ∀ {H6 : Hp} {σ : L2.St}, RefAt K H6 g gn gk → σ[5]? = some (some (.ref g)) → Ev K (fun a => a = b) σ H6 (tOp (rIxT K) (tVar 5) (tC (.int 1))) (.tup (gk.map D.str)) := fun {H6 σ} R hs H' Q S A q => by
    obtain ⟨t, h1, h2⟩ := R.ex
    exact ⟨_, hs, g, _, 1, .ref t, rfl, rfl, Sm.seqT S h1, atI_nat (j := 1) rfl, q _ H' (Sm.refl H') (.tup (Sm.seqT S h2) (by rw [List.length_map]; have := Og.le; omega) (th_keys Og.ks))⟩
  have an := nm_asc Og.nm
  have okn : (tl gn).length ≤ 400 ∧ ∀ c ∈ tl gn, c < 128 := ⟨by omega, an.2⟩
  have lg' : (gk.map D.str).length ≤ 6 := by rw [List.length_map]; exact Og.le
  refine run_ifE (run_and ⟨_, rfl, rfl, _, rfl, ?_⟩)
  rw [strEq]
  refine ite2 (fun c1 => ?_) (fun c1 => iteF (run_ifE ⟨_, rfl, rfl, _, rfl, ?_⟩))
  rotate_left
  · rw [strEq]
    exact ite2 (fun c => absurd c c1) (fun _ => run_next (hnx _ _ ⟨v0, _, d0, rfl, (Go.refl b H5).mono (by omega), th0, by rw [if_neg c1]; exact rd0⟩))
  have fin : ∀ {vb : V} {z7 : Option V} {d : D} {H6 : Hp}, Go b 10 H5 H6 → Th K (fun a => a = b) 0 H6 vb d → askRefD d = false → nx [some (.ref b), some (.ref arr), some (.ref p), some (.str door), some own, some (.ref g), some vb, z7] H6 := fun G th e => hnx _ _ ⟨_, _, _, rfl, G, th, by rw [if_pos c1]; exact e⟩
  refine draw_here (i := 0) (many := 2) (by rfl) B5 (by unfold LIM; omega) (by decide) (by decide) fun r H6 _ _ G6 => ⟨rfl, _, rfl, ite2 (fun _ => ?_) (fun _ => ?_)⟩
  · -- an odd key
    have B6 := G6.bag _ B5
    refine run_set ⟨_, rfl, b, _, rfl, B6, by unfold LIM; omega, fun vo o H7 G7 ho to => ⟨"x", 41, rfl, rfl, mul_ok (by decide) (by decide) (by decide +kernel), (by show 2 ≤ sizeLine; decide), fun L hL => ?_⟩⟩
    have B7 := G7.bag _ B6
    have SL := Sm.new (o := .lst [vo, .str (Txt.mul "x" 41)]) hL
    have nL : L ≠ b := B7.ne hL
    have g1 : LL K (fun a => a = b) (upd H7 L (.lst [vo, .str (Txt.mul "x" 41)])) L [o, .str (Txt.mul "x" 41)] := ⟨_, upd_same, .cons (to.ko B7.avl (KO.sm SL)) (.cons (th_okS (by decide +kernel)) .nil)⟩
    have B7' := (Go.same (b := b) SL).bag _ B7
    obtain ⟨wo, ko, _⟩ := odd12 o ho
    refine ll_ix (i := 0) (N := 2) (by rfl) g1 nL B7' (by unfold LIM; omega) rfl (by decide) fun v d H8 hd8 th8 G8 => ?_
    have B8 := G8.bag _ B7'
    have A8 := B8.avl
    have G58 := G6.trans (G7.trans ((Go.same (b := b) SL).trans G8))
    have R8 := R5.go G58 B5
    obtain ⟨kd, wd⟩ : kD d = false ∧ (wD d && decide (lenD d ≤ 40)) = false := by
      simp only [List.mem_cons, List.not_mem_nil, or_false] at hd8
      rcases hd8 with rfl | rfl
      · exact ⟨ko, by rw [wo, Bool.false_and]⟩
      · exact ⟨by decide +kernel, by decide +kernel⟩
    dsimp only [List.set]
    refine run_asg ?_
    refine ev_drawn (i := 0) (N := 2) (ds := [.tup [.str gn, .tup ((gk.map D.str).take 4 ++ [d])], .tup [.str gn, .tup ([d] ++ (gk.map D.str).take 3 ++ [.str ""])]]) (by rfl) B8 (by unfold LIM; omega)
      (.cons (.tup (.cons (.at (fun H Q S q => at0 R8 S (by rfl) q) okn) (.cons (.cat (.to (k := 4) (at1 R8 (by rfl)) fun H Q _ q => q) (.tup (.cons (.var (by rfl) A8 th8) .nil) (by show 1 ≤ 40; decide)) ?_) .nil)) (by show 2 ≤ 40; decide))
      (.cons (.tup (.cons (.at (fun H Q S q => at0 R8 S (by rfl) q) okn) (.cons (.cat (.cat (.tup (.cons (.var (by rfl) A8 th8) .nil) (by show 1 ≤ 40; decide)) (.to (k := 3) (at1 R8 (by rfl)) fun H Q _ q => q) ?_) (.tup (.cons (.str _ (by decide)) .nil) (by show 1 ≤ 40; decide)) ?_) .nil)) (by show 2 ≤ 40; decide)) .nil)) rfl (by decide) fun vb d2 H9 hd9 th9 G9 => fin ((G58.trans G9).mono (by omega)) th9 ?_
    · rw [List.length_take]
      show _ + 1 ≤ 40
      omega
    · rw [List.length_take]
      show 1 + _ ≤ 40
      omega
    · rw [List.length_append, List.length_take]
      show 1 + _ + 1 ≤ 40
      omega
    · simp only [List.mem_cons, List.not_mem_nil, or_false] at hd9
      rcases hd9 with rfl | rfl
      · show (nD (.str gn) && askD (.tup ((gk.map D.str).take 4 ++ [d]))) = false
        rw [askD_bad (List.mem_append.mpr (.inr List.mem_cons_self)) kd wd, Bool.and_false]
      · show (nD (.str gn) && askD (.tup ([d] ++ (gk.map D.str).take 3 ++ [.str ""]))) = false
        rw [askD_bad (List.mem_append.mpr (.inl (List.mem_append.mpr (.inl List.mem_cons_self)))) kd wd, Bool.and_false]
  · refine run_ifE ⟨_, rfl, rfl, _, rfl, ?_⟩
    rw [strEq]
    refine ite2 (fun _ => ?_) (fun c => absurd c1 c)
    have B6 := G6.bag _ B5
    have R6 := R5.go G6 B5
    refine run_asg ?_
    refine ev_drawn (i := 0) (N := 10) (ds := [.tup [.str gn, .tup []], .tup [.str gn, .tup ([.str ""] ++ (gk.map D.str).take 4 ++ [.str "1"])], .tup [.str gn, .tup ((List.replicate 6 [D.str "1"]).flatten ++ [.str ""])], .lst [.str gn, .tup [.str "1"]], .tup [.str gn, .lst [.str ""]], .tup [.str "A", .tup [.str ""]], .non, .tup [.str gn, .tup [.str "a\n"]], .tup [.str "", .tup [.str "1"]], .tup [.str gn]]) (by rfl) B6 (by unfold LIM; omega)
      (.cons (.tup (.cons (.at (fun H Q S q => at0 R6 S (by rfl) q) okn) (.cons (.tup .nil (by decide)) .nil)) (by show 2 ≤ 40; decide))
      (.cons (.tup (.cons (.at (fun H Q S q => at0 R6 S (by rfl) q) okn) (.cons (.cat (.cat (.tup (.cons (.str _ (by decide)) .nil) (by show 1 ≤ 40; decide)) (.to (k := 4) (at1 R6 (by rfl)) fun H Q _ q => q) ?_) (.tup (.cons (.str _ (by decide)) .nil) (by show 1 ≤ 40; decide)) ?_) .nil)) (by show 2 ≤ 40; decide))
      (.cons (.tup (.cons (.at (fun H Q S q => at0 R6 S (by rfl) q) okn) (.cons (.cat (.rep (.cons (.str _ (by decide)) .nil) (by show 1 ≤ 40; decide) (by intro h; cases h) (by decide) (by decide) (by decide)) (.tup (.cons (.str _ (by decide)) .nil) (by show 1 ≤ 40; decide)) (by show 6 + 1 ≤ 40; decide)) .nil)) (by show 2 ≤ 40; decide))
      (.cons (.lst (.cons (.at (fun H Q S q => at0 R6 S (by rfl) q) okn) (.cons (.tup (.cons (.str _ (by decide)) .nil) (by show 1 ≤ 40; decide)) .nil)) (by show 2 ≤ 40; decide))
      (.cons (.tup (.cons (.at (fun H Q S q => at0 R6 S (by rfl) q) okn) (.cons (.lst (.cons (.str _ (by decide)) .nil) (by show 1 ≤ 40; decide)) .nil)) (by show 2 ≤ 40; decide))
      (.cons (.tup (.cons (.str _ (by decide)) (.cons (.tup (.cons (.str _ (by decide)) .nil) (by show 1 ≤ 40; decide)) .nil)) (by show 2 ≤ 40; decide))
      (.cons .non
      (.cons (.tup (.cons (.at (fun H Q S q => at0 R6 S (by rfl) q) okn) (.cons (.tup (.cons (.str _ (by decide +kernel)) .nil) (by show 1 ≤ 40; decide)) .nil)) (by show 2 ≤ 40; decide))
      (.cons (.tup (.cons (.str _ (by decide)) (.cons (.tup (.cons (.str _ (by decide)) .nil) (by show 1 ≤ 40; decide)) .nil)) (by show 2 ≤ 40; decide))
      (.cons (.tup (.cons (.at (fun H Q S q => at0 R6 S (by rfl) q) okn) .nil) (by show 1 ≤ 40; decide)) .nil)))))))))) rfl (by decide) fun vb d2 H9 hd9 th9 G9 => fin ((G6.trans G9).mono (by omega)) th9 ?_
    · rw [List.length_take]
      show 1 + _ ≤ 40
      omega
    · rw [List.length_append, List.length_take]
      show 1 + _ + 1 ≤ 40
      omega
    · have nb : ∀ {x d : D}, askD d = false → askRefD (.tup [x, d]) = false := fun {x d} e => by
        show (nD x && askD d) = false
        rw [e, Bool.and_false]
      have nn : ∀ {x d : D}, nD x = false → askRefD (.tup [x, d]) = false := fun {x d} e => by
        show (nD x && askD d) = false
        rw [e, Bool.false_and]
      simp only [List.mem_cons, List.not_mem_nil, or_false] at hd9
      rcases hd9 with rfl | rfl | rfl | rfl | rfl | rfl | rfl | rfl | rfl | rfl
      · exact nb rfl
      · refine nb ?_
        rw [askD_snoc, List.all_append, List.all_cons, kE, Bool.false_and, Bool.false_and, Bool.false_and, Bool.and_false]
      · exact nb (askD_len (by show 6 < 7; decide))
      · rfl
      · exact nb rfl
      · exact nn (by decide +kernel)
      · rfl
      · exact nb (by decide +kernel)
      · exact nn (by decide +kernel)
      · rfl
end
/-! ### k11: a deed of two arrays, in a comprehension; a dict that holds the same -/
structure NextAA (cs : Tabs) (H H' : Hp) (a1 a2 : Addr) (S1 S2 S1' S2' : Sh) (m1 m2 : Nat) : Prop where
  ch : Ch (fun a => Own S1 a ∨ Own S2 a) H H'
  w1 : ∀ a, Own S1' a → Own S1 a ∨ H a = none
  w2 : ∀ a, Own S2' a → Own S2 a ∨ H a = none
  r1 : ArrAt cs H' a1 S1' m1
  r2 : ArrAt cs H' a2 S2' m2
  dis : ∀ a, Own S1' a → ¬ Own S2' a
theorem own_arr {cs : Tabs} {H : Hp} {S : Sh} {m : Nat} {a dx : Addr} {fs : List (Str × V)} (ne : cs.a_Arrays ≠ cs.a_Tree) (T : TreeH cs.a_Tree H S m) (h : H a = some (.ins cs.a_Arrays dx fs)) : ¬ Own S a := fun z => by
  rcases own_what T z with ⟨_, e⟩ | ⟨_, e⟩ | ⟨_, _, e⟩
  · rw [h] at e; cases e
  · rw [h] at e; cases e
  · rw [h] at e
    injection e with e
    injection e with e _ _
    exact ne e
theorem arr_there {cs : Tabs} {H : Hp} {S : Sh} {m : Nat} {arr : Addr} (A : ArrAt cs H arr S m) : ∀ a, Own S a → H a ≠ none := fun a h z => by
  obtain ⟨_, e, _⟩ := own_there A.th h
  rw [z] at e
  cases e
theorem two_arr {cs : Tabs} {Hb H0 H1 : Hp} {a1 a2 DL : Addr} {S1 S2 S1' : Sh} {k m1 : Nat} (ne : cs.a_Arrays ≠ cs.a_Tree) (A1 : ArrAt cs Hb a1 S1 k) (A2 : ArrAt cs Hb a2 S2 k) (dis : ∀ a, Own S1 a → ¬ Own S2 a) (s : Sm Hb H0) (hD : Hb DL = none) (aD : H0 DL = some (.lst [])) (t : Went S1 S1' H0 H1) (A1' : ArrAt cs H1 a1 S1' m1) :
    H1 DL = some (.lst []) ∧ Ch (fun a => Own S1 a ∨ Own S2 a) Hb H1 ∧ ∀ u : V, ArrAt cs (upd H1 DL (.lst [u])) a2 S2 k ∧ Ch (fun a => Own S1 a ∨ Own S2 a) Hb (upd H1 DL (.lst [u])) ∧ ∀ {H2 : Hp} {S2' : Sh} {m2 : Nat}, Went S2 S2' (upd H1 DL (.lst [u])) H2 → ArrAt cs H2 a2 S2' m2 →
      H2 DL = some (.lst [u]) ∧ Ch (fun a => Own S1 a ∨ Own S2 a) Hb H2 ∧ ∀ v : V, NextAA cs Hb (upd H2 DL (.lst [u, v])) a1 a2 S1 S2 S1' S2' m1 m2 := by
  have th1 := arr_there A1
  have th2 := arr_there A2
  have B2 := A2.sm s
  obtain ⟨_, _, i1, _⟩ := (A1.sm s).it
  obtain ⟨_, _, i2, _⟩ := B2.it
  have o12 : ¬ Own S1 a2 := own_arr ne (A1.sm s).th i2
  have o21 : ¬ Own S2 a1 := own_arr ne B2.th i1
  have nS1 : ¬ Own S1 DL := fun z => th1 _ z hD
  have nS2 : ¬ Own S2 DL := fun z => th2 _ z hD
  have w1 : ∀ a, Own S1' a → Own S1 a ∨ Hb a = none := fun a h => (t.own a h).imp id (s.gone a)
  have nD : ¬ Own S1' DL := fun z => by
    rcases t.own _ z with h | h
    · exact nS1 h
    · rw [aD] at h
      cases h
  have dis1 : ∀ a, Own S1' a → ¬ Own S2 a := fun a h z => (w1 a h).elim (fun h => dis a h z) (th2 a z)
  have aD1 : H1 DL = some (.lst []) := t.ch.keep nS1 aD
  have c1 : Ch (fun a => Own S1 a ∨ Own S2 a) Hb H1 := (Ch.sm s).trans (t.ch.mono fun a h => .inl h)
  have R2 : ArrAt cs H1 a2 S2 k := B2.ch t.ch fun a h z => h.elim (fun h => dis a z h) fun h => o12 (h ▸ z)
  obtain ⟨_, _, j1, _⟩ := A1'.it
  obtain ⟨_, _, j2, _⟩ := R2.it
  refine ⟨aD1, c1, fun u => ?_⟩
  have cD : Ch (fun a => a = DL) H1 (upd H1 DL (.lst [u])) := Ch.upd rfl aD1 rfl
  have no : ∀ {Hx : Hp} {zs : List V} {a C e : Addr} {fs : List (Str × V)}, Hx DL = some (.lst zs) → Hx a = some (.ins C e fs) → a ≠ DL := fun e h z => by
    rw [z, e] at h
    cases h
  have R1b : ArrAt cs (upd H1 DL (.lst [u])) a1 S1' m1 := A1'.ch cD fun a h e => h.elim (fun h => nD (e ▸ h)) fun h => no aD1 j1 (h.symm.trans e)
  have R2b : ArrAt cs (upd H1 DL (.lst [u])) a2 S2 k := R2.ch cD fun a h e => h.elim (fun h => nS2 (e ▸ h)) fun h => no aD1 j2 (h.symm.trans e)
  have cb : Ch (fun a => Own S1 a ∨ Own S2 a) Hb (upd H1 DL (.lst [u])) := c1.trans' cD fun a e => .inr (e ▸ hD)
  refine ⟨R2b, cb, fun {H2 S2' m2} w A2' => ?_⟩
  have aD2 : H2 DL = some (.lst [u]) := w.ch.keep nS2 upd_same
  have c2 : Ch (fun a => Own S1 a ∨ Own S2 a) Hb H2 := cb.trans (w.ch.mono fun a h => .inr h)
  have R1c : ArrAt cs H2 a1 S1' m1 := R1b.ch w.ch fun a h z => h.elim (fun h => dis1 a h z) fun h => o21 (h ▸ z)
  have nD2 : ¬ Own S2' DL := fun z => by
    rcases w.own _ z with h | h
    · exact nS2 h
    · rw [upd_same] at h
      cases h
  have w2 : ∀ a, Own S2' a → Own S2 a ∨ Hb a = none := fun a h => (w.own a h).imp id (cb.gone a)
  have dis2 : ∀ a, Own S1' a → ¬ Own S2' a := fun a h z => by
    rcases w.own a z with e | e
    · exact dis1 a h e
    · exact arr_there R1b a h e
  obtain ⟨_, _, l1, _⟩ := R1c.it
  obtain ⟨_, _, l2, _⟩ := A2'.it
  refine ⟨aD2, c2, fun v => ?_⟩
  have cE : Ch (fun a => a = DL) H2 (upd H2 DL (.lst [u, v])) := Ch.upd rfl aD2 rfl
  exact ⟨c2.trans' cE fun a e => .inr (e ▸ hD), w1, w2, R1c.ch cE fun a h e => h.elim (fun h => nD (e ▸ h)) fun h => no aD2 l1 (h.symm.trans e), A2'.ch cE fun a h e => h.elim (fun h => nD2 (e ▸ h)) fun h => no aD2 l2 (h.symm.trans e), dis2⟩
/-- two arrays, and a dict that holds the same -/
structure TwA (cs : Tabs) (w : World) (H : Hp) (a1 a2 m : Addr) (S1 S2 : Sh) (k : Nat) (M : List ME) : Prop where
  r1 : ArrAt cs H a1 S1 k
  r2 : ArrAt cs H a2 S2 k
  ma : MAt w H m M
  c1 : Same S1 M
  c2 : Same S2 M
  dis : ∀ a, Own S1 a → ¬ Own S2 a
theorem TwA.p1 {cs : Tabs} {w : World} {H : Hp} {a1 a2 m : Addr} {S1 S2 : Sh} {k : Nat} {M : List ME} (x : TwA cs w H a1 a2 m S1 S2 k M) : Pr cs w H a1 m S1 k M := ⟨x.r1, x.ma, x.c1⟩
theorem TwA.p2 {cs : Tabs} {w : World} {H : Hp} {a1 a2 m : Addr} {S1 S2 : Sh} {k : Nat} {M : List ME} (x : TwA cs w H a1 a2 m S1 S2 k M) : Pr cs w H a2 m S2 k M := ⟨x.r2, x.ma, x.c2⟩
theorem TwA.sm {cs : Tabs} {w : World} {H H' : Hp} {a1 a2 m : Addr} {S1 S2 : Sh} {k : Nat} {M : List ME} (x : TwA cs w H a1 a2 m S1 S2 k M) (s : Sm H H') : TwA cs w H' a1 a2 m S1 S2 k M := ⟨x.r1.sm s, x.r2.sm s, (x.p1.sm s).ma, x.c1, x.c2, x.dis⟩
theorem TwA.go {cs : Tabs} {w : World} {H H' : Hp} {a1 a2 m b : Addr} {S1 S2 : Sh} {k n j : Nat} {M : List ME} (x : TwA cs w H a1 a2 m S1 S2 k M) (B : Bag H b n) (G : Go b j H H') : TwA cs w H' a1 a2 m S1 S2 k M := by
  obtain ⟨n1, n2, n3, _⟩ := bag_not B
  obtain ⟨ys, hb⟩ := B.some
  have c : Ch (fun a => a = b) H H' := Ch.go G rfl
  have nb : ∀ {S : Sh} {m : Nat}, TreeH cs.a_Tree H S m → ¬ Own S b := fun T z => by
    rcases own_what T z with ⟨_, h⟩ | ⟨_, h⟩ | ⟨_, _, h⟩
    · exact n1 _ h
    · exact n2 _ h
    · exact n3 _ _ _ h
  obtain ⟨_, _, i1, _⟩ := x.r1.it
  obtain ⟨_, _, i2, _⟩ := x.r2.it
  exact ⟨x.r1.ch c fun a h e => h.elim (fun h => nb x.r1.th (e ▸ h)) fun h => n3 _ _ _ ((h.symm.trans e) ▸ i1), x.r2.ch c fun a h e => h.elim (fun h => nb x.r2.th (e ▸ h)) fun h => n3 _ _ _ ((h.symm.trans e) ▸ i2), x.ma.ch c (fun e => by
    have := x.ma.it.it
    rw [e, hb] at this
    cases this) (fun a vs e h => by
    rw [e, hb] at h
    cases h), x.c1, x.c2, x.dis⟩
def Wq (S1 S2 : Sh) (m b : Addr) (a : Addr) : Prop := Own S1 a ∨ Own S2 a ∨ a = m ∨ a = b
def spActed2 (w : World) (cs : Tabs) : Sp := fun vs H Q _ => ∃ (b L a1 a2 m p : Addr) (n k : Nat) (S1 S2 : Sh) (M : List ME) (nm : Str) (ks : List Str), vs = [.ref b, .ref L, .ref m, .ref p] ∧ H L = some (.lst [.ref a1, .ref a2]) ∧ Bag H b n ∧ n + 1000 ≤ LIM ∧ TwA cs w H a1 a2 m S1 S2 k M ∧ RefT H p nm ks ∧ REF nm ks ∧ k ≤ 80000 ∧ M.length ≤ 900 ∧ TGs H cs ∧
  ∀ (S1' S2' : Sh) (M' : List ME) (H' : Hp), TwA cs w H' a1 a2 m S1' S2' (k + 7) M' → M'.length ≤ M.length + 1 → Bag H' b (n + 10) → Ch (Wq S1 S2 m b) H H' → (∀ a, Own S1' a → Own S1 a ∨ H a = none) → (∀ a, Own S2' a → Own S2 a ∨ H a = none) → Q (.bl true) H'
section
variable {P : Program} {w : World} {K : PySem.W.Frag} {mg : Str → Option Value} {base : Heap} {cs : Tabs}
theorem ok_law_acted (T : Txt K mg cs) (C_law_take : Cal P w K mg base 1 "_law_take" ["bag", "many"] spDraw) (C_law_worth : Cal P w K mg base 2 "_law_worth" ["bag"] spWorthB) (C_law_killed : Cal P w K mg base 3 "_law_killed" ["m", "ref"] (spKilled w)) (C_law_same : Cal P w K mg base 7 "_law_same" ["found", "due"] (spSame K 5))
    (CArrays_kill : CalM P w K mg base 10 cs.a_Arrays "kill" ["self", "ref"] (spKill K cs)) (CArrays_put : CalM P w K mg base 8 cs.a_Arrays "put" ["self", "ref", "worth"] (spPut K cs)) : Cal P w K mg base 11 "_law_acted" ["bag", "both", "m", "ref"] (spActed2 w cs) := by
  refine T.f_law_acted.cal scLawActed (fun vs H Q E h => ?_) (fun f cdv A outer s H vs Q E hr h => ?_)
  · obtain ⟨_, _, _, _, _, _, _, _, _, _, _, _, _, rfl, _⟩ := h
    rfl
  obtain ⟨b, L, a1, a2, m, p, n, k, S1, S2, M, nm, ks, rfl, hL, B, hn, x, R, O, hk, hM, hT, q⟩ := h
  refine ⟨_, (pss_cons (ps_set (i := 4) scLawActed.nd rfl (by first | exact Or.inl rfl | exact Or.inr rfl) (pe_cmpR op_eq (pe_cal C_law_take (hr.mono (by first | decide | omega)) (pa_cons (pv 0) (pa_cons pe_int pa_nil))) pe_int (nomark _)))
    (pss_cons (ps_set (i := 5) scLawActed.nd rfl (by first | exact Or.inl rfl | exact Or.inr rfl) (pe_cal C_law_worth (hr.mono (by first | decide | omega)) (pa_cons (pv 0) pa_nil)))
    (pss_cons (ps_if (pt_val (pv 4)) (pss_cons (ps_set (i := 6) scLawActed.nd rfl (by first | exact Or.inl rfl | exact Or.inr rfl) (pe_cal C_law_killed (hr.mono (by first | decide | omega)) (pa_cons (pv 2) (pa_cons (pv 3) pa_nil))))
        (pss_one (ps_setLc (i := 7) (own := [("arrays", 8)]) (g := gName 8) (tt := tYes) rfl scLawActed.nd rfl rfl (sw_true rfl rfl rfl (by decide +kernel)) (pi_list (pv 1)) (blkOk_by (own := [("arrays", 8)]) (N := ["bag", "both", "m", "ref", "kills", "worth", "due", "found", "arrays"]) (sc := defScope sLawActed) (by decide +kernel)) (fun _ _ _ _ _ => (pg_name (i := 8) scLawActed.nd rfl (by first | exact Or.inl rfl | exact Or.inr rfl))) (fun _ _ _ _ _ => pts_nil) (fun _ _ _ _ _ => (pe_calM CArrays_kill T.cl_Arrays (hr.mono (by first | decide | omega)) (pv 8) (pa_cons (pv 3) pa_nil)))))) (pss_cons (ps_asg (pv 5) (pg_sub (pv 2) (pv 3) (DN.setN (w := w) hr.units)))
        (pss_cons (ps_set (i := 6) scLawActed.nd rfl (by first | exact Or.inl rfl | exact Or.inr rfl) pe_non)
        (pss_one (ps_setLc (i := 7) (own := [("arrays", 8)]) (g := gName 8) (tt := tYes) rfl scLawActed.nd rfl rfl (sw_true rfl rfl rfl (by decide +kernel)) (pi_list (pv 1)) (blkOk_by (own := [("arrays", 8)]) (N := ["bag", "both", "m", "ref", "kills", "worth", "due", "found", "arrays"]) (sc := defScope sLawActed) (by decide +kernel)) (fun _ _ _ _ _ => (pg_name (i := 8) scLawActed.nd rfl (by first | exact Or.inl rfl | exact Or.inr rfl))) (fun _ _ _ _ _ => pts_nil) (fun _ _ _ _ _ => (pe_calM CArrays_put T.cl_Arrays (hr.mono (by first | decide | omega)) (pv 8) (pa_cons (pv 3) (pa_cons (pv 5) pa_nil)))))))))
    (pss_one (ps_ret (pe_cal C_law_same (hr.mono (by first | decide | omega)) (pa_cons (pv 7) (pa_cons (pe_lst (pa_cons (pv 6) (pa_cons (pv 6) pa_nil))) pa_nil)))))))), ?_⟩
  unfold LIM at hn
  refine run_set ?_
  refine draw_here (i := 0) rfl B (by unfold LIM; omega) (by decide) (by decide) fun r H1 r0 r1 G1 => ⟨rfl, ?_⟩
  have B1 := G1.bag _ B
  dsimp only [List.set]
  refine run_set ⟨_, rfl, b, _, rfl, B1, by unfold LIM; omega, fun z H2 Wz G2 => ?_⟩
  have B2 := G2.bag _ B1
  have G02 := G1.trans G2
  have x2 := x.go B G02
  have hL2 : H2 L = some (.lst [.ref a1, .ref a2]) := G02.keep L _ (fun e => by
    have := bag_not B
    exact this.2.2.2.1 _ _ (e ▸ hL)) hL
  have R2 : RefT H2 p nm ks := R.ch (Ch.go (W := fun a => a = b) G02 rfl) fun a vs e h => by
    obtain ⟨_, hb⟩ := B.some
    rw [e, hb] at h
    cases h
  have T2 := hT.go G02
  have ne := ne_arr T
  obtain ⟨om1, am1⟩ := x2.p1.apart
  obtain ⟨om2, am2⟩ := x2.p2.apart
  have nL1 : ¬ Own S1 L := refs_own x2.r1.th hL2
  have nL2 : ¬ Own S2 L := refs_own x2.r2.th hL2
  have nLm : L ≠ m := fun e => by
    have := x2.ma.it.it
    rw [← e, hL2] at this
    cases this
  have nt1 := own_not_tup x2.r1.th
  have nt2 := own_not_tup x2.r2.th
  have bn : (benM M nm ks).length ≤ M.length := List.length_filter_le _ _
  dsimp only
  refine run_join (fun σ1 H' => ∃ vb vw due F z8 d v1 v2 S1' S2' M', σ1 = [some (.ref b), some (.ref L), some (.ref m), some (.ref p), vb, vw, some due, some (.ref F), z8] ∧ H' F = some (.lst [v1, v2]) ∧ (∀ H, Is K H v1 d ∧ Is K H v2 d ∧ Is K H due d) ∧ okD 3 d = true ∧ TwA cs w H' a1 a2 m S1' S2' (k + 7) M' ∧ M'.length ≤ M.length + 1 ∧ Ch (fun a => Own S1 a ∨ Own S2 a ∨ a = m) H2 H' ∧ (∀ a, Own S1' a → Own S1 a ∨ H2 a = none) ∧ ∀ a, Own S2' a → Own S2 a ∨ H2 a = none) (fun nx hnx => ?_) fun σ1 H' hJ => ?_
  rotate_left
  · obtain ⟨vb, vw, due, F, z8, d, v1, v2, S1', S2', M', rfl, hF, is, okd, x', ln, c, w1, w2⟩ := hJ
    refine run_ret ⟨_, rfl, _, rfl, _, rfl, (by show 2 ≤ sizeLine; decide), fun G hG => ?_⟩
    have SG := Sm.new (o := .lst [due, due]) hG
    refine ⟨_, _, .lst [d, d], rfl, is_two (SG _ _ hF) (is _).1 (is _).2.1, is_two upd_same (is _).2.2 (is _).2.2, okD_two (okD_succ okd) (okD_succ okd), fun H5 S5 => ?_⟩
    have S := SG.trans S5
    have cc : Ch (Wq S1 S2 m b) H H5 := ((Ch.go (W := Wq S1 S2 m b) G02 (.inr (.inr (.inr rfl)))).trans (c.mono fun a h => h.elim .inl fun h => .inr (h.elim .inl fun h => .inr (.inl h)))).trans (Ch.sm S)
    obtain ⟨n1, n2, n3, _⟩ := bag_not B2
    have nbo : ∀ {S : Sh} {m : Nat}, TreeH cs.a_Tree H2 S m → ¬ Own S b := fun T z => by
      rcases own_what T z with ⟨_, h⟩ | ⟨_, h⟩ | ⟨_, _, h⟩
      · exact n1 _ h
      · exact n2 _ h
      · exact n3 _ _ _ h
    have nbm : b ≠ m := fun e => by
      obtain ⟨_, hb⟩ := B2.some
      have := x2.ma.it.it
      rw [← e, hb] at this
      cases this
    obtain ⟨y1, y2, y3, hy, hy2⟩ := B2
    have nbW : ¬ (Own S1 b ∨ Own S2 b ∨ b = m) := fun z => z.elim (nbo x2.r1.th) fun z => z.elim (nbo x2.r2.th) nbm
    refine q S1' S2' M' H5 (x'.sm S) ln (Bag.mono (m := n + 6) ⟨y1, y2, y3, S _ _ (c.keep0 _ _ nbW hy rfl), hy2⟩ (by omega)) cc (fun a h => (w1 a h).imp id (G02.gone a)) fun a h => (w2 a h).imp id (G02.gone a)
  refine run_ifE ⟨_, rfl, _, rfl, ?_⟩
  refine ite2 (fun c => ?_) (fun c => ?_)
  · -- kill
    refine run_set ⟨_, rfl, _, rfl, m, p, M, nm, ks, rfl, x2.ma, by omega, R2, O, fun H3 c3 M3 => ?_⟩
    have A1 : ArrAt cs H3 a1 S1 k := x2.r1.ch c3 fun a h z => h.elim (fun h => om1 (z ▸ h)) fun h => am1 (h.symm.trans z)
    have A2 : ArrAt cs H3 a2 S2 k := x2.r2.ch c3 fun a h z => h.elim (fun h => om2 (z ▸ h)) fun h => am2 (h.symm.trans z)
    have hL3 : H3 L = some (.lst [.ref a1, .ref a2]) := c3.keep nLm hL2
    have R3 : RefT H3 p nm ks := R2.ch c3 fun a vs e h => by
      have := x2.ma.it.it
      rw [e, this] at h
      cases h
    have T3 := T2.ch c3
    dsimp only [List.set]
    refine run_asg ?_
    refine lc_two (i := 8) (j := 1) (by rfl) hL3 fun DL hDL Ra h1 => ?_
    have s0 := Sm.new (o := .lst []) hDL
    obtain ⟨_, _, i1, _⟩ := (A1.sm s0).it
    refine ⟨_, (by rfl), a1, _, _, rfl, i1, rfl, _, (by rfl), a1, p, S1, k, nm, ks, rfl, A1.sm s0, (R3.sm s0).at_, O, by omega, ?_, T3.sm s0, fun S1' H4 W1 A4 w1 => ?_⟩
    · rw [x2.c1.cnt A1.ok]
      omega
    obtain ⟨aD, c4, nxt⟩ := two_arr ne A1 A2 x2.dis s0 hDL upd_same w1 A4
    have e1 : cntAt S1 (nm :: ks) = (benM M nm ks).length := x2.c1.cnt A1.ok nm ks
    have e2 : cntAt S2 (nm :: ks) = (benM M nm ks).length := x2.c2.cnt A2.ok nm ks
    rw [e1]
    obtain ⟨R2b, cb, fin⟩ := nxt (.int ((benM M nm ks).length : Nat))
    obtain ⟨_, _, i2, _⟩ := R2b.it
    have num : ∀ {H' : Hp}, Is K H' (.int ((benM M nm ks).length : Nat)) (.int ((benM M nm ks).length : Nat)) := fun {_} => .int _ (by rw [Int.natAbs_natCast]; omega)
    have nt : ∀ a vs, Own S1 a ∨ Own S2 a → H3 a ≠ some (.tup vs) := fun a vs h => h.elim (own_not_tup A1.th a vs) (own_not_tup A2.th a vs)
    refine h1 _ H4 aD (c4.keep (fun z => z.elim nL1 nL2) hL3) fun Rb h2 => ⟨_, (by rfl), a2, _, _, rfl, i2, rfl, _, (by rfl), a2, p, S2, k, nm, ks, rfl, R2b, (R3.ch cb nt).at_, O, by omega, by omega, T3.ch cb, fun S2' H5 W2 A5 w2 => ?_⟩
    obtain ⟨aD2, c5, nn⟩ := fin w2 A5
    refine h2 _ H5 aD2 (c5.keep (fun z => z.elim nL1 nL2) hL3) ?_
    have N := nn (.int (cntAt S2 (nm :: ks) : Nat))
    refine hnx _ _ ⟨_, _, .int ((benM M nm ks).length : Nat), DL, _, .int ((benM M nm ks).length : Nat), _, _, S1', S2', leftM M nm ks, rfl, upd_same, fun _ => ⟨num, by rw [e2]; exact num, num⟩, rfl, ⟨⟨N.r1.it, N.r1.th.mono (by omega), N.r1.ok, N.r1.full⟩, ⟨N.r2.it, N.r2.th.mono (by omega), N.r2.ok, N.r2.full⟩, M3.ch N.ch (fun z => z.elim om1 om2) nt, x2.c1.killed W1, x2.c2.killed W2, N.dis⟩, Nat.le_succ_of_le (List.length_filter_le _ _), (c3.mono fun a h => .inr (.inr h)).trans (N.ch.mono fun a h => h.elim .inl fun h => .inr (.inl h)), fun a h => (N.w1 a h).imp id (c3.gone a), fun a h => (N.w2 a h).imp id (c3.gone a)⟩
  · -- put
    refine ⟨_, rfl, _, rfl, _, rfl, p, m, M.map entM, keyM nm ks, rfl, rfl, x2.ma.it, R2.nk, keyM_depth _ _, small' (by rw [List.length_map]; omega), ?_⟩
    have M3 := x2.ma.put R2 O Wz
    have c3 : Ch (fun a => a = m) H2 (upd H2 m (DN.dnO w m (DN.put (M.map entM) (keyM nm ks) p (.str z)))) := Ch.upd rfl x2.ma.it.it rfl
    generalize upd H2 m (DN.dnO w m (DN.put (M.map entM) (keyM nm ks) p (.str z))) = H3 at *
    have A1 : ArrAt cs H3 a1 S1 k := x2.r1.ch c3 fun a h z => h.elim (fun h => om1 (z ▸ h)) fun h => am1 (h.symm.trans z)
    have A2 : ArrAt cs H3 a2 S2 k := x2.r2.ch c3 fun a h z => h.elim (fun h => om2 (z ▸ h)) fun h => am2 (h.symm.trans z)
    have hL3 : H3 L = some (.lst [.ref a1, .ref a2]) := c3.keep nLm hL2
    have R3 : RefT H3 p nm ks := R2.ch c3 fun a vs e h => by
      have := x2.ma.it.it
      rw [e, this] at h
      cases h
    have T3 := T2.ch c3
    dsimp only
    refine run_set ?_
    refine run_tc ?_
    refine run_asg ?_
    refine lc_two (i := 8) (j := 1) (by rfl) hL3 fun DL hDL Ra h1 => ?_
    have s0 := Sm.new (o := .lst []) hDL
    obtain ⟨_, _, i1, _⟩ := (A1.sm s0).it
    refine ⟨_, (by rfl), a1, _, _, rfl, i1, rfl, _, (by rfl), _, (by rfl), a1, p, z, S1, k, nm, ks, rfl, A1.sm s0, (R3.sm s0).at_, O, Wz, by omega, T3.sm s0, fun S1' H4 W1 A4 w1 => ?_⟩
    obtain ⟨aD, c4, nxt⟩ := two_arr ne A1 A2 x2.dis s0 hDL upd_same w1 A4
    obtain ⟨R2b, cb, fin⟩ := nxt .non
    obtain ⟨_, _, i2, _⟩ := R2b.it
    have nt : ∀ a vs, Own S1 a ∨ Own S2 a → H3 a ≠ some (.tup vs) := fun a vs h => h.elim (own_not_tup A1.th a vs) (own_not_tup A2.th a vs)
    refine h1 _ H4 aD (c4.keep (fun z => z.elim nL1 nL2) hL3) fun Rb h2 => ⟨_, (by rfl), a2, _, _, rfl, i2, rfl, _, (by rfl), _, (by rfl), a2, p, z, S2, k, nm, ks, rfl, R2b, (R3.ch cb nt).at_, O, Wz, by omega, T3.ch cb, fun S2' H5 W2 A5 w2 => ?_⟩
    obtain ⟨aD2, c5, nn⟩ := fin w2 A5
    refine h2 _ H5 aD2 (c5.keep (fun z => z.elim nL1 nL2) hL3) ?_
    have N := nn .non
    refine hnx _ _ ⟨_, _, .non, DL, _, .non, _, _, S1', S2', putM M nm ks p z, rfl, upd_same, fun _ => ⟨.non, .non, .non⟩, rfl, ⟨⟨N.r1.it, N.r1.th.mono (by omega), N.r1.ok, N.r1.full⟩, ⟨N.r2.it, N.r2.th.mono (by omega), N.r2.ok, N.r2.full⟩, M3.ch N.ch (fun z => z.elim om1 om2) nt, MAt.same_put x2.c1 M3 W1, MAt.same_put x2.c2 M3 W2, N.dis⟩, len_putM _ _ _ _ _, (c3.mono fun a h => .inr (.inr h)).trans (N.ch.mono fun a h => h.elim .inl fun h => .inr (.inl h)), fun a h => (N.w1 a h).imp id (c3.gone a), fun a h => (N.w2 a h).imp id (c3.gone a)⟩
end
/-! ### what due holds: references of the dict, with worths -/
/-- what due holds -/
def DueV (H : Hp) (v : V) (e : ME) : Prop := ∃ a, v = .ref a ∧ H a = some (.tup [.ref e.a, .str e.z]) ∧ RefT H e.a e.nm e.ks
theorem dueV_stb : Stb DueV := by
  refine ⟨fun S h => ?_, fun e _ h => ?_⟩
  · obtain ⟨a, h1, h2, h3⟩ := h
    exact ⟨a, h1, S _ _ h2, h3.sm S⟩
  · obtain ⟨a, h1, h2, h3⟩ := h
    refine ⟨a, h1, ?_, h3.keep fun b vs g => ?_⟩
    · rw [upd_ne (ne_of h2 e fun z => by cases z)]
      exact h2
    · rw [upd_ne (ne_of g e fun z => by cases z)]
      exact g
theorem is_due {K : PySem.W.Frag} {H : Hp} : ∀ {ys : List V} {es : List ME}, Paired (DueV H) ys es → (∀ e ∈ es, REF e.nm e.ks ∧ WT e.z 400) → IsAll K H ys (es.map fun e => dPath (e.path, e.z))
  | _, _, .nil, _ => .nil
  | _, _, .cons (b := e) ⟨a, h1, h2, h3⟩ t, ok => by
    subst h1
    obtain ⟨O, W⟩ := ok e List.mem_cons_self
    exact .cons (.tup (SqT.of h2) (by show 2 ≤ 1040; decide) (.cons (th_ref h3.at_ O) (.cons (.str _ (by have := W.len; omega) W.asc) .nil))) (is_due t fun e he => ok e (List.mem_cons_of_mem _ he))
/-! ### k11's law: what stands -/
structure SitA (cs : Tabs) (w : World) (H : Hp) (p AS m a1 a2 : Addr) (ns ks : List Str) (S1 S2 : Sh) (k : Nat) (M : List ME) : Prop where
  pool : PoolAt H p ns ks
  as : H AS = some (.lst [.ref a1, .ref a2])
  tw : TwA cs w H a1 a2 m S1 S2 k M
  tg : TGs H cs
  po : ∀ a, PoolOwn H p a → ¬ Own S1 a ∧ ¬ Own S2 a
section
variable {K : PySem.W.Frag} {cs : Tabs} {w : World} {H H' : Hp} {b p AS m a1 a2 a : Addr} {ns ks : List Str} {S1 S2 S1' S2' : Sh} {k k' n j : Nat} {M M' : List ME} {xs : List Int}
theorem SitA.bag (s : SitA cs w H p AS m a1 a2 ns ks S1 S2 k M) (B : Bag H b n) : b ≠ AS ∧ b ≠ m ∧ ¬ PoolOwn H p b ∧ ¬ Own S1 b ∧ ¬ Own S2 b := by
  obtain ⟨n1, n2, n3, n4, n5, n6⟩ := bag_not B
  obtain ⟨ys, hb⟩ := B.some
  have nb : ∀ {S : Sh} {m : Nat}, TreeH cs.a_Tree H S m → ¬ Own S b := fun T z => by
    rcases own_what T z with ⟨_, h⟩ | ⟨_, h⟩ | ⟨_, _, h⟩
    · exact n1 _ h
    · exact n2 _ h
    · exact n3 _ _ _ h
  refine ⟨?_, ?_, fun z => ?_, nb s.tw.r1.th, nb s.tw.r2.th⟩
  · rintro rfl
    exact n4 _ _ s.as
  · rintro rfl
    exact n5 _ _ _ s.tw.ma.it.it
  · rcases s.pool.some z with ⟨_, e⟩ | ⟨_, e⟩
    · exact n1 _ e
    · rw [hb] at e
      cases e
theorem SitA.next (s : SitA cs w H p AS m a1 a2 ns ks S1 S2 k M) (B : Bag H b n) (c : Ch (Wq S1 S2 m b) H H') (w1 : ∀ a, Own S1' a → Own S1 a ∨ H a = none) (w2 : ∀ a, Own S2' a → Own S2 a ∨ H a = none) (tw : TwA cs w H' a1 a2 m S1' S2' k' M') : SitA cs w H' p AS m a1 a2 ns ks S1' S2' k' M' := by
  obtain ⟨b1, b2, b3, b4, b5⟩ := s.bag B
  have np : ∀ a, PoolOwn H p a → ¬ Wq S1 S2 m b a := fun a h z => by
    rcases z with z | z | z | z
    · exact (s.po a h).1 z
    · exact (s.po a h).2 z
    · have := s.tw.ma.it.it
      rcases s.pool.some h with ⟨_, e⟩ | ⟨_, e⟩ <;> (rw [z, this] at e; cases e)
    · exact b3 (z ▸ h)
  refine ⟨s.pool.keep fun a o h e nt => c.keep0 a o (np a h) e nt, c.keep (fun z => ?_) s.as, tw, s.tg.ch c, fun a h => ?_⟩
  · rcases z with z | z | z | z
    · exact refs_own s.tw.r1.th s.as z
    · exact refs_own s.tw.r2.th s.as z
    · have := s.tw.ma.it.it
      rw [← z, s.as] at this
      cases this
    · exact b1 z.symm
  · have h0 := pool_own s.pool (fun o e nt => c.keep0 _ _ (np p (.inl rfl)) e nt) h
    have there : H a ≠ none := fun e => by rcases s.pool.some h0 with ⟨_, g⟩ | ⟨_, g⟩ <;> (rw [e] at g; cases g)
    exact ⟨fun z => (w1 a z).elim (s.po a h0).1 there, fun z => (w2 a z).elim (s.po a h0).2 there⟩
theorem SitA.sm (s : SitA cs w H p AS m a1 a2 ns ks S1 S2 k M) (e : Sm H H') : SitA cs w H' p AS m a1 a2 ns ks S1 S2 k M :=
  ⟨s.pool.sm e, e _ _ s.as, s.tw.sm e, s.tg.sm e, fun a h => s.po a (pool_own s.pool (fun o h nt => e.keep _ _ h nt) h)⟩
theorem SitA.go (s : SitA cs w H p AS m a1 a2 ns ks S1 S2 k M) (B : Bag H b n) (G : Go b j H H') : SitA cs w H' p AS m a1 a2 ns ks S1 S2 k M :=
  s.next B (Ch.go (W := Wq S1 S2 m b) G (.inr (.inr (.inr rfl)))) (fun _ h => .inl h) (fun _ h => .inl h) (s.tw.go B G)
/-- the script stands apart -/
def ScrA (K : PySem.W.Frag) (H : Hp) (a : Addr) (xs : List Int) (S1 S2 : Sh) : Prop := (L2.Rd H a (.lst (xs.map V.int)) ∧ ¬ Own S1 a ∧ ¬ Own S2 a) ∨ ∀ H', SqL K H' a (xs.map V.int)
theorem ScrA.seq (s : ScrA K H a xs S1 S2) : SqL K H a (xs.map V.int) := s.elim (fun h => .inl h.1) fun h => h H
theorem ScrA.sm (s : ScrA K H a xs S1 S2) (e : Sm H H') : ScrA K H' a xs S1 S2 := s.imp (fun h => ⟨rd_ch (Ch.sm (W := fun _ => False) e) rfl h.1 id, h.2⟩) id
theorem ScrA.next {L : List DN.Ent} (s : ScrA K H a xs S1 S2) (im : H m = some (DN.dnO w m L)) (c : Ch (Wq S1 S2 m b) H H') (ab : a ≠ b ∨ ∀ H', SqL K H' a (xs.map V.int)) (w1 : ∀ a, Own S1' a → Own S1 a ∨ H a = none) (w2 : ∀ a, Own S2' a → Own S2 a ∨ H a = none) : ScrA K H' a xs S1' S2' := by
  rcases ab with ab | ab
  rotate_left
  · exact .inr ab
  refine s.imp (fun h => ?_) id
  obtain ⟨r, n1, n2⟩ := h
  refine ⟨rd_ch c rfl r fun z => ?_, fun z => (w1 a z).elim n1 (rd_some r), fun z => (w2 a z).elim n2 (rd_some r)⟩
  rcases z with z | z | z | z
  · exact n1 z
  · exact n2 z
  · rcases r with h | ⟨ob, h⟩ <;> (rw [z, im] at h; cases h)
  · exact ab z
end
theorem same_all {S : Sh} {M : List ME} (C : Same S M) (O : ShOk S) (F : Full S) (okM : ∀ e ∈ M, REF e.nm e.ks ∧ WT e.z 400) (hM : M.length ≤ 31) : AllOk S := by
  obtain ⟨n, hn⟩ := O.root
  have len : ∀ nm, (rowsS S nm []).length ≤ M.length := fun nm => by
    have := congrArg List.length (rows_due C O nm [])
    rw [List.length_map, List.length_map, List.length_mergeSort] at this
    rw [← this]
    exact List.length_filter_le _ _
  refine ⟨fun nm h => ?_, fun nm => Nat.le_trans (len nm) hM, ?_, fun nm x hx => ?_⟩
  · obtain ⟨e, he, rfl⟩ := List.mem_map.mp ((C.names O F nm).mp h)
    exact (okM e he).1.nm
  · refine Nat.le_trans (nodup_le (row_nodup O hn) fun z hz => (C.names O F z).mp hz) ?_
    rw [List.length_map]
    exact hM
  · have m : (nm :: ([] ++ x.1), x.2) ∈ (rowsS S nm []).map fun x => (nm :: ([] ++ x.1), x.2) := List.mem_map.mpr ⟨x, hx, rfl⟩
    rw [← rows_due C O nm []] at m
    obtain ⟨e, he, ee⟩ := List.mem_map.mp m
    have he := (List.mem_filter.mp ((List.mergeSort_perm _ _).mem_iff.mp he)).1
    injection ee with e1 e2
    have e1 : e.nm :: e.ks = nm :: ([] ++ x.1) := e1
    injection e1 with e3 e4
    rw [← e3, ← e4, ← e2]
    exact okM e he
theorem same_dAll {S : Sh} {M : List ME} (C : Same S M) (O : ShOk S) (F : Full S) (ok : ∀ e ∈ M, NM e.nm) : dAll S = .lst ((M.mergeSort leM).map fun e => dPath (e.path, e.z)) := by
  have e : allR S = (M.mergeSort leM).map fun e => (e.path, e.z) := (whole_due C O F ok).symm
  unfold dAll
  rw [e, List.map_map]
  rfl
/-! ### law k11 -/
def spLaw (K : PySem.W.Frag) (cs : Tabs) : Sp := fun vs H Q _ => ∃ (a : Addr) (ns : List Int), vs = [.ref a] ∧ SqL K H a (ns.map V.int) ∧ ns.length ≤ 63 ∧ TGs H cs ∧ ∀ H', Q (.bl true) H'
def spNo0 : Sp := fun _ _ _ _ => False
section
variable {P : Program} {w : World} {K : PySem.W.Frag} {mg : Str → Option Value} {base : Heap} {cs : Tabs}
theorem ok_law (T : Txt K mg cs) (B : TBs base mg cs) {f : Addr} {fd : FuncData} (F : Fun K "law" "law" sLaw f fd) : FnOk P w K mg base CX0 14 f fd ["script"] (spLaw K cs) := by
  have C_law_cell_at := ok_law_cell_at (P := P) (w := w) (base := base) T
  have C_law_bag := ok_law_bag (P := P) (w := w) (base := base) T
  have C_law_take := ok_law_take (P := P) (w := w) (base := base) T
  have C_law_key := ok_law_key T C_law_take
  have C_law_pool := ok_law_pool T C_law_take C_law_key
  have C_law_ref := ok_law_ref T C_law_take
  have C_law_worth := ok_law_worth T C_law_take
  have C_law_begins := ok_law_begins (P := P) (w := w) (base := base) T
  have C_law_beneath := ok_law_beneath T C_law_begins
  have C_law_killed := ok_law_killed T C_law_beneath
  have Cis_worth := ok_is_worth (P := P) (w := w) T B
  have Cis_key := ok_is_key T Cis_worth
  have Cis_name := ok_is_name (P := P) (w := w) T B
  have Cis_row := ok_is_row T B Cis_key
  have Cis_pair := ok_is_pair (P := P) (w := w) (base := base) T
  have Cis_reference := ok_is_reference T Cis_pair Cis_name Cis_row
  have Cis_asking_rowA := ok_asking_rowA T Cis_worth Cis_row
  have Cis_asking_referenceA := ok_asking_refA T Cis_pair Cis_name Cis_asking_rowA
  have C_number_of_figures := ok_number_of_figures (P := P) (w := w) (base := base) T
  have Cnumber_of := ok_number_of T C_number_of_figures
  have Cis_number_text := ok_is_number_text (P := P) (w := w) T B
  have Ckey_rank := ok_key_rank T Cnumber_of Cis_number_text
  have Cbefore := ok_before T Ckey_rank
  have Cneed_reference := ok_need_reference T Cis_reference
  have Cneed_worth := ok_need_worth T Cis_worth
  have Xneed_reference := ok_need_refX T Cis_reference
  have Xneed_asking_reference := ok_need_askX T Cis_asking_referenceA
  have Xneed_worth := ok_need_worthX T Cis_worth
  have C_path := ok_path (P := P) (w := w) (base := base) T
  have C_reference := ok_reference (P := P) (w := w) (base := base) T
  have C_how_many_ahead := ok_how_many T Cbefore
  have CTree := ok_tree (P := P) (w := w) (base := base) T
  have CTree_at := ok_at (P := P) (w := w) (base := base) T
  have CTree__made := ok_made T C_how_many_ahead CTree
  have CTree_plant := ok_plant T CTree__made
  have CTree_cut := ok_cut T CTree_at
  have CTree_walked := ok_walked (P := P) (w := w) (base := base) T 8
  have CTree_next_key : CalM P w K mg base 1 cs.a_Tree "next_key" ["self", "key", "back"] spNo0 := T.f_Tree_next_key.cal scTreeNextKey (fun _ _ _ _ h => h.elim) fun _ _ _ _ _ _ _ _ _ _ h => h.elim
  have CTree_path_behind : CalM P w K mg base 1 cs.a_Tree "path_behind" ["self", "path"] spNo0 := T.f_Tree_path_behind.cal scTreePathBehind (fun _ _ _ _ h => h.elim) fun _ _ _ _ _ _ _ _ _ _ h => h.elim
  have CTree_path_ahead : CalM P w K mg base 1 cs.a_Tree "path_ahead" ["self", "path"] spNo0 := T.f_Tree_path_ahead.cal scTreePathAhead (fun _ _ _ _ h => h.elim) fun _ _ _ _ _ _ _ _ _ _ h => h.elim
  have Cmeet : Cal P w K mg base 1 "meet" ["one", "other"] spNo0 := T.f_meet.cal scMeet (fun _ _ _ _ h => h.elim) fun _ _ _ _ _ _ _ _ _ _ h => h.elim
  have CArrays := ok_arrays T CTree
  have CArrays_put := ok_put T Cneed_reference Cneed_worth C_path CTree_plant
  have CArrays_uproot := ok_uproot T C_path CTree_at CTree_cut
  have CArrays_kill := ok_kill T Cneed_reference CArrays_uproot CTree_walked
  have CArrays_rows := ok_rows T Cneed_reference C_path C_reference CTree_at CTree_walked
  have CArrays_names := ok_names (P := P) (w := w) (base := base) T
  have XArrays_put := ok_aputX T Xneed_reference Xneed_worth C_path CTree_plant (by decide)
  have XArrays_read := ok_areadX T Xneed_reference C_path CTree_at (by decide)
  have XArrays_data := ok_adataX T Xneed_reference C_path CTree_at (by decide)
  have XArrays_kill := ok_akillX T Xneed_reference CArrays_uproot (by decide) CTree_walked (by decide)
  have XArrays_rows := ok_arowsX T Xneed_reference C_path C_reference CTree_at (by decide) CTree_walked (by decide)
  have XArrays_following := ok_afollowX T Xneed_reference C_path C_reference CTree_path_behind (by decide) CTree_path_ahead (by decide)
  have XArrays_order := ok_aorderX T Xneed_asking_reference C_path CTree_at (by decide) CTree_next_key (by decide)
  have XArrays_merge := ok_amergeX T Xneed_reference Cmeet (by decide) XArrays_rows XArrays_put
  have C_law_same := ok_law_same (P := P) (w := w) (base := base) T 5
  have C_law_rank := ok_law_rank (P := P) (w := w) (base := base) T
  have C_law_ranks := ok_law_ranks T C_law_rank
  have C_law_walked := ok_law_walkedD T B C_law_ranks
  have P_law_word := ok_law_word (P := P) (w := w) (base := base) T
  have C_law_tried := ok_law_tried T P_law_word XArrays_put XArrays_read XArrays_data XArrays_kill XArrays_order XArrays_following XArrays_rows XArrays_merge
  have C_law_acted := ok_law_acted T C_law_take C_law_worth C_law_killed C_law_same CArrays_kill CArrays_put
  have C_law_odd := ok_law_odd T C_law_take
  have C_law_no_ref := ok_law_no_ref T C_law_take C_law_ref C_law_odd
  have C_law_refused := ok_law_refused T C_law_take C_law_worth C_law_ref C_law_odd C_law_no_ref C_law_tried
  have C_law_all := ok_law_all T CArrays_names CArrays_rows
  refine F.ok scLaw (fun vs H Q E h => ?_) (fun cdv A outer s H vs Q E hr h => ?_)
  · obtain ⟨a, ns, rfl, _⟩ := h
    rfl
  obtain ⟨a, xs, rfl, hS, h63, hT, q⟩ := h
  refine ⟨_, (pss_cons (ps_set (i := 1) scLaw.nd rfl (by first | exact Or.inl rfl | exact Or.inr rfl) (pe_cal C_law_bag (hr.mono (by first | decide | omega)) (pa_cons (pe_cal C_law_cell_at (hr.mono (by first | decide | omega)) (pa_cons (pv 0) (pa_cons pe_int pa_nil))) (pa_cons pe_int pa_nil))))
    (pss_cons (ps_set (i := 2) scLaw.nd rfl (by first | exact Or.inl rfl | exact Or.inr rfl) (pe_cal C_law_pool (hr.mono (by first | decide | omega)) (pa_cons (pv 1) pa_nil)))
    (pss_cons (ps_set (i := 3) scLaw.nd rfl (by first | exact Or.inl rfl | exact Or.inr rfl) (pe_lst (pa_cons (pe_calC0 CArrays (hr.mono (by first | decide | omega))) (pa_cons (pe_calC0 CArrays (hr.mono (by first | decide | omega))) pa_nil))))
    (pss_cons (ps_set (i := 4) scLaw.nd rfl (by first | exact Or.inl rfl | exact Or.inr rfl) (DN.pe_dnewN (w := w)))
    (pss_cons (ps_for PassesOwn.never rfl (pi_range2 rfl T.n_range (pa_cons pe_int (pa_cons (pe_callB (call_max2 rfl) rfl T.n_max (by decide +kernel) (pa_cons pe_int (pa_cons (pe_callB (call_min2 rfl) rfl T.n_min (by decide +kernel) (pa_cons pe_int (pa_cons (pe_callB (lenQ K) rfl T.n_len (by decide +kernel) (pa_cons (pv 0) pa_nil)) pa_nil))) pa_nil))) pa_nil))) (pg_name (i := 5) scLaw.nd rfl (by first | exact Or.inl rfl | exact Or.inr rfl))
      (pss_cons (ps_set (i := 1) scLaw.nd rfl (by first | exact Or.inl rfl | exact Or.inr rfl) (pe_cal C_law_bag (hr.mono (by first | decide | omega)) (pa_cons (pe_cal C_law_cell_at (hr.mono (by first | decide | omega)) (pa_cons (pv 0) (pa_cons (pv 5) pa_nil))) (pa_cons (pv 5) pa_nil))))
        (pss_cons (ps_if (pt_not (pt_val (pe_cal C_law_acted (hr.mono (by first | decide | omega)) (pa_cons (pv 1) (pa_cons (pv 3) (pa_cons (pv 4) (pa_cons (pe_cal C_law_ref (hr.mono (by first | decide | omega)) (pa_cons (pv 1) (pa_cons (pv 2) (pa_cons pe_int pa_nil)))) pa_nil))))))) (pss_one (ps_ret pe_bl)) pss_nil)
        (pss_cons (ps_for PassesOwn.never rfl (pi_range1 rfl T.n_range (pa_cons pe_int pa_nil)) (pg_name (i := 6) scLaw.nd rfl (by first | exact Or.inl rfl | exact Or.inr rfl))
          (pss_one (ps_if (pt_not (pt_val (pe_cal C_law_refused (hr.mono (by first | decide | omega)) (pa_cons (pv 1) (pa_cons (pe_ix (ixL K) (pv 3) pe_int (fun _ _ => rfl)) (pa_cons (pv 2) pa_nil)))))) (pss_one (ps_ret pe_bl)) pss_nil)))
        (pss_cons (ps_setLc (i := 7) (own := [("one", 8)]) (g := gName 8) (tt := tYes) rfl scLaw.nd rfl rfl (sw_true rfl rfl rfl (by decide +kernel)) (pi_list (pe_cal C_law_walked (hr.mono (by first | decide | omega)) (pa_cons (pv 4) pa_nil))) (blkOk_by (own := [("one", 8)]) (N := ["script", "bag", "pool", "both", "m", "k", "j", "due", "one", "arrays"]) (sc := defScope sLaw) (by decide +kernel)) (fun _ _ _ _ _ => (pg_name (i := 8) scLaw.nd rfl (by first | exact Or.inl rfl | exact Or.inr rfl))) (fun _ _ _ _ _ => pts_nil) (fun _ _ _ _ _ => (pe_tup (pa_cons (pv 8) (pa_cons (pe_ix (DN.ixN (w := w) hr.units) (pv 4) (pv 8) (fun _ _ => rfl)) pa_nil)))))
        (pss_one (ps_if (pt_not (pt_val (pe_cal C_law_same (hr.mono (by first | decide | omega)) (pa_cons (pe_lc (own := [("arrays", 9)]) (g := gName 9) (tt := tYes) rfl scLaw.nd (pi_list (pv 3)) (blkOk_by (own := [("arrays", 9)]) (N := ["script", "bag", "pool", "both", "m", "k", "j", "due", "one", "arrays"]) (sc := defScope sLaw) (by decide +kernel)) (fun _ _ _ _ _ => (pg_name (i := 9) scLaw.nd rfl (by first | exact Or.inl rfl | exact Or.inr rfl))) (fun _ _ _ _ _ => pts_nil) (fun _ _ _ _ _ => (pe_cal C_law_all (hr.mono (by first | decide | omega)) (pa_cons (pv 9) pa_nil)))) (pa_cons (pe_lst (pa_cons (pv 7) (pa_cons (pv 7) pa_nil))) pa_nil))))) (pss_one (ps_ret pe_bl)) pss_nil)))))))
    (pss_one (ps_ret pe_bl))))))), ?_⟩
  have hlm : (xs.map V.int).length = xs.length := List.length_map _
  -- bag, pool
  refine run_set ⟨_, rfl, a, xs, 0, rfl, hS, fun c => ⟨c, 0, rfl, by omega, fun b H1 hb S1 Bg => ?_⟩⟩
  dsimp only
  refine run_set ⟨_, rfl, b, 0, rfl, Bg, by unfold LIM; omega, fun p nms ks H2 PO _ PA4 fresh G2 => ?_⟩
  have B2 := G2.bag _ Bg
  have S4 : Sm H H2 := Sm.go S1 G2 hb
  have T4 : TGs H2 cs := hT.sm S4
  have fresh2 : ∀ {H' : Hp} {S : Sh} {arr x0 C : Addr}, (∀ y, Own S y → (upd (upd H' x0 (.own arr)) arr (.ins C x0 [])) y = none) → ∀ y, Own S y → H' y = none := fun {H' S arr x0 C} N y h => by
    have h := N y h
    by_cases e1 : y = arr
    · rw [e1, upd_same] at h
      cases h
    · rw [upd_ne e1] at h
      by_cases e2 : y = x0
      · rw [e2, upd_same] at h
        cases h
      · rw [upd_ne e2] at h
        exact h
  -- two arrays
  dsimp only
  refine run_set ?_
  intro a1 x1 ha1 hx1 ne1
  refine ⟨a1, x1, rfl, upd_same, fun S1 H5 W1 M5 A5 N5 => ⟨rfl, ?_⟩⟩
  have S5 : Sm H2 H5 := Made.new ha1 hx1 ne1 M5
  have N1 := fresh2 N5
  intro a2 x2 ha2 hx2 ne2
  refine ⟨a2, x2, rfl, upd_same, fun S2 H6 W2 M6 A6 N6 => ⟨rfl, ?_⟩⟩
  have S6 : Sm H5 H6 := Made.new ha2 hx2 ne2 M6
  have N2 := fresh2 N6
  refine ⟨(by show 2 ≤ sizeLine; decide), fun AS hAS => ?_⟩
  have S7 := Sm.new (o := .lst [.ref a1, .ref a2]) hAS
  have eAS : (upd H6 AS (.lst [.ref a1, .ref a2])) AS = some (.lst [.ref a1, .ref a2]) := upd_same
  change tSeq _ _ _ _ (upd H6 AS (.lst [.ref a1, .ref a2]))
  generalize upd H6 AS (.lst [.ref a1, .ref a2]) = H7 at *
  -- the dict
  refine run_set ?_
  intro m hm At0
  have S8 : Sm H7 (upd H7 m (DN.dnO w m [])) := Sm.new hm
  generalize upd H7 m (DN.dnO w m []) = H8 at *
  have S68 := S7.trans S8
  have S58 := S6.trans S68
  have S28 := S5.trans S58
  have t8 : SitA cs w H8 p AS m a1 a2 nms ks S1 S2 0 [] := by
    refine ⟨PA4.sm S28, S8 _ _ eAS, ⟨A5.sm S58, A6.sm S68, ⟨At0, fun _ h => (nomatch h)⟩, ⟨.nil, fun r z => ⟨fun m => (nomatch m), fun m => by rw [W1] at m; cases m⟩⟩, ⟨.nil, fun r z => ⟨fun m => (nomatch m), fun m => by rw [W2] at m; cases m⟩⟩, fun y h z => ?_⟩, T4.sm S28, fun y h => ⟨fun z => ?_, fun z => ?_⟩⟩
    · obtain ⟨_, g, _⟩ := own_there A5.th h
      rw [N2 y z] at g
      cases g
    · have h2 : PoolOwn H2 p y := pool_own PA4 (fun o e nt => S28.keep0 _ _ e nt) h
      rcases PA4.some h2 with ⟨_, e⟩ | ⟨_, e⟩ <;> (rw [N1 y z] at e; cases e)
    · have h2 : PoolOwn H2 p y := pool_own PA4 (fun o e nt => S28.keep0 _ _ e nt) h
      have e8 := S5.gone _ (N2 y z)
      rcases PA4.some h2 with ⟨_, e⟩ | ⟨_, e⟩ <;> (rw [e8] at e; cases e)
  have sc8 : ScrA K H8 a xs S1 S2 := by
    rcases hS with h | h
    · have h2 := rd_ch (Ch.sm (W := fun _ => False) S4) rfl h id
      exact .inl ⟨rd_ch (Ch.sm (W := fun _ => False) S28) rfl h2 id, fun z => rd_some h2 (N1 a z), fun z => rd_some h2 (S5.gone _ (N2 a z))⟩
    · exact .inr fun _ => .inr h
  clear eAS A5 A6
  -- the cells
  refine run_for ?_
  refine ⟨_, rfl, a, _, rfl, .inl sc8.seq, 30, _, rfl, 13, _, rfl, ?_⟩
  have e : (if (if ((xs.map V.int).length : Int) < 30 then ((xs.map V.int).length : Int) else 30) > 13 then (if ((xs.map V.int).length : Int) < 30 then ((xs.map V.int).length : Int) else 30) else (13 : Int)) = ((max 13 (min 30 xs.length) : Nat) : Int) := by
    rw [hlm]
    split <;> split at * <;> omega
  rw [e]
  obtain ⟨hi, ehi⟩ : ∃ hi : Nat, max 13 (min 30 xs.length) = hi := ⟨_, rfl⟩
  have hhi : hi ≤ 30 := by omega
  rw [ehi]
  refine ⟨1, (hi : Int), rfl, by omega, ?_⟩
  refine for_range (lo := 1) (n := ((hi : Int) - 1).toNat) (fun j σ H' => ∃ S1 S2 k M z1 z5 z6 z7 z8 z9, σ = [some (.ref a), z1, some (.ref p), some (.ref AS), some (.ref m), z5, z6, z7, z8, z9] ∧ SitA cs w H' p AS m a1 a2 nms ks S1 S2 k M ∧ ScrA K H' a xs S1 S2 ∧ k ≤ 7 * j ∧ M.length ≤ j)
    ⟨S1, S2, 0, [], _, _, _, _, _, _, rfl, t8, sc8, by omega, by simp⟩ (fun j σ H11 hj hp => ?_) fun σ H11 hp => ?_
  · obtain ⟨S1, S2, k, M, z1, z5, z6, z7, z8, z9, rfl, s, sc, hk, hM⟩ := hp
    have ek : (1 : Int) + (j : Int) = ((1 + j : Nat) : Int) := by omega
    rw [ek]
    dsimp only [gName]
    refine run_set ⟨_, rfl, _, rfl, a, xs, 1 + j, rfl, sc.seq, fun c => ⟨_, rfl, c, 1 + j, rfl, by omega, fun b2 H12 hb2 S12 Bg2 => ?_⟩⟩
    have s12 := s.sm S12
    have sc12 := sc.sm S12
    have ab : a ≠ b2 ∨ ∀ H', SqL K H' a (xs.map V.int) := sc.imp (fun h z => rd_some h.1 (z ▸ hb2)) id
    clear s sc t8 sc8
    have goSc : ∀ {S1 S2 : Sh} {H H' : Hp} {j k : Nat} {M : List ME}, ScrA K H a xs S1 S2 → SitA cs w H p AS m a1 a2 nms ks S1 S2 k M → Go b2 j H H' → ScrA K H' a xs S1 S2 := fun sc s G => sc.next s.tw.ma.it.it (Ch.go (W := Wq _ _ m b2) G (.inr (.inr (.inr rfl)))) ab (fun _ h => .inl h) (fun _ h => .inl h)
    dsimp only
    -- a deed of both
    refine run_if ⟨_, rfl, _, rfl, _, rfl, _, rfl, _, rfl, b2, p, 0, 6, nms, ks, rfl, Bg2, by unfold LIM; omega, s12.pool, (s12.bag Bg2).2.2.1, PO, by decide, fun pl nm qs H13 _ _ lq O R13 _ G13 => ?_⟩
    have B13 := G13.bag _ Bg2
    have s13 := s12.go Bg2 G13
    have sc13 := goSc sc12 s12 G13
    refine ⟨b2, AS, a1, a2, m, pl, _, k, S1, S2, M, nm, qs, rfl, s13.as, B13, by unfold LIM; omega, s13.tw, R13, O, by omega, by omega, s13.tg, fun S3 S4 M3 H14 tw14 ln B14 c14 w1 w2 => ⟨_, rfl, iteF (run_next ?_)⟩⟩
    have s14 := s13.next B13 c14 w1 w2 tw14
    have sc14 := sc13.next s13.tw.ma.it.it c14 ab w1 w2
    clear s12 sc12 s13 sc13
    dsimp only
    -- what is refused
    refine run_for ?_
    refine ⟨(3 : Int), rfl, by decide, by decide, ?_⟩
    have hiA := fun {Hx : Hp} (s : SitA cs w Hx p AS m a1 a2 nms ks S3 S4 (k + 7) M3) => s.tw.r1
    refine for_range (lo := 0) (n := 3) (fun i σ H' => ∃ n z6, σ = [some (.ref a), some (.ref b2), some (.ref p), some (.ref AS), some (.ref m), some (.int ((1 + j : Nat) : Int)), z6, z7, z8, z9] ∧ Bag H' b2 n ∧ n ≤ 100 + 301 * i ∧ SitA cs w H' p AS m a1 a2 nms ks S3 S4 (k + 7) M3 ∧ ScrA K H' a xs S3 S4)
      ⟨_, _, rfl, B14, by omega, s14, sc14⟩ (fun i σ H15 hi' hp => ?_) fun σ H15 hp => ?_
    · obtain ⟨n5, z6, rfl, B15, hn5, s15, sc15⟩ := hp
      dsimp only [List.set]
      refine run_ifE ⟨_, rfl, _, rfl, AS, _, 0, _, rfl, rfl, SqL.of s15.as, atI_nat (j := 0) rfl, _, rfl, b2, a1, p, n5, S3, k + 7, nms, ks, rfl, B15, by unfold LIM; omega, s15.pool, PO, (s15.bag B15).2.2.1, s15.tw.r1, s15.tg, fun H16 G16 => ⟨_, rfl, iteF (run_next ?_)⟩⟩
      exact ⟨_, _, rfl, G16.bag _ B15, by omega, s15.go B15 G16, goSc sc15 s15 G16⟩
    obtain ⟨n5, z6, rfl, B15, hn5, s15, sc15⟩ := hp
    clear s14 sc14
    dsimp only
    -- what is due
    have okM := s15.tw.ma.ok
    have hM3 : M3.length ≤ 30 := by omega
    have memS : ∀ {e : ME}, e ∈ M3.mergeSort leM → e ∈ M3 := fun h => (List.mergeSort_perm _ _).mem_iff.mp h
    have lM : (M3.mergeSort leM).length = M3.length := List.length_mergeSort M3
    refine run_set ?_
    refine lc_each (K := K) (ds := M3.mergeSort leM) (fun H v (e : ME) => v = .ref e.a ∧ RefT H e.a e.nm e.ks) DueV (fun S h => ⟨h.1, h.2.sm S⟩) dueV_stb (fun Rr h => ?_) (by omega) (fun v e H3 he hB S3 Rr h => ?_) fun Du zs H16 S16 hP hDu hDu0 => ?_
    · refine ⟨_, rfl, m, M3, rfl, .inr s15.tw.ma.rd, fun e he => ⟨s15.tw.ma.ref he, (okM e he).1⟩, s15.tg, fun D H12 S12 hD hD2 => h D _ H12 S12 (SqL.of hD2) ?_⟩
      have all : ∀ e ∈ M3.mergeSort leM, RefT H12 e.a e.nm e.ks := fun e he => (s15.tw.ma.ref (memS he)).sm S12
      revert all
      generalize M3.mergeSort leM = es
      intro all
      induction es with
      | nil => exact .nil
      | cons e r ih => exact .cons ⟨rfl, all e List.mem_cons_self⟩ (ih fun e he => all e (List.mem_cons_of_mem _ he))
    · obtain ⟨rfl, Re⟩ := hB
      have s3 := s15.sm S3
      have me := memS he
      refine ⟨rfl, _, (by rfl), _, (by rfl), _, (by rfl), e.a, m, M3.map entM, keyM e.nm e.ks, .str e.z, rfl, rfl, s3.tw.ma.it.rd, Re.nk, keyM_depth _ _, DN.val_of_mem s3.tw.ma.it.nd (List.mem_map.mpr ⟨e, me, rfl⟩), (by show 2 ≤ sizeLine; decide), fun d hd => ?_⟩
      exact h _ _ ⟨d, rfl, upd_same, Re.sm (Sm.new hd)⟩ (Sm.new hd)
    have s16 := s15.sm S16
    have B16 := (Go.same (b := b2) S16).bag _ B15
    have sc16 := sc15.sm S16
    have ok3 := same_all s16.tw.c1 s16.tw.r1.ok s16.tw.r1.full okM (by omega)
    have ok4 := same_all s16.tw.c2 s16.tw.r2.ok s16.tw.r2.full okM (by omega)
    have d3 := same_dAll s16.tw.c1 s16.tw.r1.ok s16.tw.r1.full fun e he => (okM e he).1.nm
    have d4 : dAll S4 = dAll S3 := (same_dAll s16.tw.c2 s16.tw.r2.ok s16.tw.r2.full fun e he => (okM e he).1.nm).trans d3.symm
    have iD : Is K H16 (.ref Du) (dAll S3) := by
      rw [d3]
      exact .lst hDu (fun z => z) (by rw [pairA_len hP]; omega) (is_due hP fun e he => okM e (memS he))
    refine run_ifE ?_
    dsimp only [tNot, tB, tCall, tCons]
    refine lc_two (i := 9) (j := 3) (by rfl) s16.as fun DL hDL R1 h1 => ?_
    have s0 := Sm.new (o := .lst []) hDL
    have aDL : (upd H16 DL (.lst [])) DL = some (.lst []) := upd_same
    have x0 := s16.sm s0
    refine ⟨_, (by rfl), a1, S3, k + 7, rfl, x0.tw.r1, x0.tg, ok3, fun Fa ya H17 S17 ha0 ha Pa => h1 _ H17 (S17 _ _ aDL) (S17 _ _ x0.as) fun R2 h2 => ?_⟩
    have aDL2 := S17 _ _ aDL
    have nFa : Fa ≠ DL := fun e => by rw [e, aDL] at ha0; cases ha0
    have s1 : Sm H16 (upd H17 DL (.lst [.ref Fa])) := Sm.own (s0.trans S17) hDL (no_tbl aDL2)
    have aDL3 : (upd H17 DL (.lst [.ref Fa])) DL = some (.lst [.ref Fa]) := upd_same
    have kp : ∀ {Hx : Hp} {l l' : List V}, Hx DL = some (.lst l) → ∀ a vs, Hx a = some (.tup vs) → (upd Hx DL (.lst l')) a = some (.tup vs) := fun e a vs h => by
      rw [upd_ne fun z => by rw [z, e] at h; cases h]
      exact h
    have ha2 : (upd H17 DL (.lst [.ref Fa])) Fa = some (.lst ya) := (upd_ne nFa).trans ha
    have Pa2 : Paired (RowW (upd H17 DL (.lst [.ref Fa]))) ya (allR S3) := pairA_imp (fun _ _ h => h.keep (kp aDL2)) Pa
    have x1 := s16.sm s1
    refine ⟨_, (by rfl), a2, S4, k + 7, rfl, x1.tw.r2, x1.tg, ok4, fun Fb yb H18 S18 hb0 hb Pb => h2 _ H18 (S18 _ _ aDL3) (S18 _ _ x1.as) ?_⟩
    have aDL4 := S18 _ _ aDL3
    have nFb : Fb ≠ DL := fun e => by rw [e, aDL3] at hb0; cases hb0
    have s2 : Sm H16 (upd H18 DL (.lst [.ref Fa, .ref Fb])) := Sm.own (s1.trans S18) hDL (no_tbl aDL4)
    have aDL5 : (upd H18 DL (.lst [.ref Fa, .ref Fb])) DL = some (.lst [.ref Fa, .ref Fb]) := upd_same
    have iA : Is K (upd H18 DL (.lst [.ref Fa, .ref Fb])) (.ref Fa) (dAll S3) := all_is ok3 ((upd_ne nFa).trans (S18 _ _ ha2)) (pairA_imp (fun _ _ h => (h.keep fun a vs e => S18 _ _ e).keep (kp aDL4)) Pa2)
    have iB : Is K (upd H18 DL (.lst [.ref Fa, .ref Fb])) (.ref Fb) (dAll S3) := by
      rw [← d4]
      exact all_is ok4 ((upd_ne nFb).trans hb) (pairA_imp (fun _ _ h => h.keep (kp aDL4)) Pb)
    generalize upd H18 DL (.lst [.ref Fa, .ref Fb]) = H19 at *
    refine ⟨_, rfl, _, rfl, (by show 2 ≤ sizeLine; decide), fun G hG => ?_⟩
    have SG := Sm.new (o := .lst [.ref Du, .ref Du]) hG
    have iD2 := (iD.sm s2).sm SG
    refine ⟨_, _, .lst [dAll S3, dAll S3], rfl, is_two (SG _ _ aDL5) (iA.sm SG) (iB.sm SG), is_two upd_same iD2 iD2, okD_two (ok_dAll S3) (ok_dAll S3), fun H20 S20 => ⟨_, rfl, iteF (run_next ?_)⟩⟩
    have S1620 := s2.trans (SG.trans S20)
    exact ⟨S3, S4, k + 7, M3, _, _, _, _, _, _, rfl, s16.sm S1620, sc16.sm S1620, by omega, by omega⟩
  · dsimp only
    refine run_ret ?_
    exact q H11
end
open PyProof.Rows
def names0 : List Str := ["__name__", "StemError", "NoRef", "NoWorth", "Within", "TooDeep", "NoHead", "NoJob", "Waiting", "NoLock", "Held", "NoDealing", "Erring", "NoProgram", "NoLabel", "TooLong", "NoText", "MOST_KEYS", "_LONGEST_KEY", "_LONGEST_NAME", "_FIGURES", "_PERCENT", "is_worth", "number_of", "_number_of_figures"]
def names1 : List Str := ["is_number_text", "is_key", "key_rank", "before", "is_name", "is_row", "is_asking_row", "is_pair", "is_reference", "is_asking_reference", "is_stem", "meet", "need_reference", "need_asking_reference", "need_worth", "_how_many_ahead", "Tree", "Arrays", "_path", "_reference", "_law_cell_at", "_law_bag", "_law_take", "_law_key", "_law_pool"]
def names2 : List Str := ["_law_ref", "_law_worth", "_law_begins", "_law_beneath", "_law_killed", "_law_rank", "_law_ranks", "_law_walked", "_law_same", "_law_acted", "_law_odd", "_law_no_ref", "_law_word", "_law_tried", "_law_all", "_law_refused"]
def names : List Str := names0 ++ names1 ++ names2
def d1 : He.DefD := ⟨("is_worth", none), "is_worth", "is_worth", defArgs sIsWorth, defBody sIsWorth, defScope sIsWorth, [], []⟩
def d2 : He.DefD := ⟨("number_of", none), "number_of", "number_of", defArgs sNumberOf, defBody sNumberOf, defScope sNumberOf, [], []⟩
def d3 : He.DefD := ⟨("_number_of_figures", none), "_number_of_figures", "_number_of_figures", defArgs sNumberOfFigures, defBody sNumberOfFigures, defScope sNumberOfFigures, [], []⟩
def d4 : He.DefD := ⟨("is_number_text", none), "is_number_text", "is_number_text", defArgs sIsNumberText, defBody sIsNumberText, defScope sIsNumberText, [], []⟩
def d5 : He.DefD := ⟨("is_key", none), "is_key", "is_key", defArgs sIsKey, defBody sIsKey, defScope sIsKey, [], []⟩
def d6 : He.DefD := ⟨("key_rank", none), "key_rank", "key_rank", defArgs sKeyRank, defBody sKeyRank, defScope sKeyRank, [], []⟩
def d7 : He.DefD := ⟨("before", none), "before", "before", defArgs sBefore, defBody sBefore, defScope sBefore, [], []⟩
def d8 : He.DefD := ⟨("is_name", none), "is_name", "is_name", defArgs sIsName, defBody sIsName, defScope sIsName, [], []⟩
def d9 : He.DefD := ⟨("is_row", none), "is_row", "is_row", defArgs sIsRow, defBody sIsRow, defScope sIsRow, [], []⟩
def d10 : He.DefD := ⟨("is_asking_row", none), "is_asking_row", "is_asking_row", defArgs sIsAskingRow, defBody sIsAskingRow, defScope sIsAskingRow, [], []⟩
def d11 : He.DefD := ⟨("is_pair", none), "is_pair", "is_pair", defArgs sIsPair, defBody sIsPair, defScope sIsPair, [], []⟩
def d12 : He.DefD := ⟨("is_reference", none), "is_reference", "is_reference", defArgs sIsReference, defBody sIsReference, defScope sIsReference, [], []⟩
def d13 : He.DefD := ⟨("is_asking_reference", none), "is_asking_reference", "is_asking_reference", defArgs sIsAskingReference, defBody sIsAskingReference, defScope sIsAskingReference, [], []⟩
def d14 : He.DefD := ⟨("is_stem", none), "is_stem", "is_stem", defArgs sIsStem, defBody sIsStem, defScope sIsStem, [], []⟩
def d15 : He.DefD := ⟨("meet", none), "meet", "meet", defArgs sMeet, defBody sMeet, defScope sMeet, [], []⟩
def d16 : He.DefD := ⟨("need_reference", none), "need_reference", "need_reference", defArgs sNeedReference, defBody sNeedReference, defScope sNeedReference, [], []⟩
def d17 : He.DefD := ⟨("need_asking_reference", none), "need_asking_reference", "need_asking_reference", defArgs sNeedAskingReference, defBody sNeedAskingReference, defScope sNeedAskingReference, [], []⟩
def d18 : He.DefD := ⟨("need_worth", none), "need_worth", "need_worth", defArgs sNeedWorth, defBody sNeedWorth, defScope sNeedWorth, [], []⟩
def d19 : He.DefD := ⟨("_how_many_ahead", none), "_how_many_ahead", "_how_many_ahead", defArgs sHowManyAhead, defBody sHowManyAhead, defScope sHowManyAhead, [], []⟩
def d20 : He.DefD := ⟨("Tree", some "__init__"), "__init__", "Tree.__init__", defArgs sTreeInit, defBody sTreeInit, defScope sTreeInit, [], []⟩
def d21 : He.DefD := ⟨("Tree", some "at"), "at", "Tree.at", defArgs sTreeAt, defBody sTreeAt, defScope sTreeAt, [], []⟩
def d22 : He.DefD := ⟨("Tree", some "plant"), "plant", "Tree.plant", defArgs sTreePlant, defBody sTreePlant, defScope sTreePlant, [], []⟩
def d23 : He.DefD := ⟨("Tree", some "_made"), "_made", "Tree._made", defArgs sTreeMade, defBody sTreeMade, defScope sTreeMade, [], []⟩
def d24 : He.DefD := ⟨("Tree", some "cut"), "cut", "Tree.cut", defArgs sTreeCut, defBody sTreeCut, defScope sTreeCut, [], []⟩
def d25 : He.DefD := ⟨("Tree", some "next_key"), "next_key", "Tree.next_key", defArgs sTreeNextKey, defBody sTreeNextKey, defScope sTreeNextKey, [], []⟩
def d26 : He.DefD := ⟨("Tree", some "walked"), "walked", "Tree.walked", defArgs sTreeWalked, defBody sTreeWalked, defScope sTreeWalked, [], []⟩
def d27 : He.DefD := ⟨("Tree", some "path_behind"), "path_behind", "Tree.path_behind", defArgs sTreePathBehind, defBody sTreePathBehind, defScope sTreePathBehind, [], []⟩
def d28 : He.DefD := ⟨("Tree", some "path_ahead"), "path_ahead", "Tree.path_ahead", defArgs sTreePathAhead, defBody sTreePathAhead, defScope sTreePathAhead, [], []⟩
def d29 : He.DefD := ⟨("Tree", some "_first_path"), "_first_path", "Tree._first_path", defArgs sTreeFirstPath, defBody sTreeFirstPath, defScope sTreeFirstPath, [], []⟩
def d30 : He.DefD := ⟨("Tree", some "_last_path"), "_last_path", "Tree._last_path", defArgs sTreeLastPath, defBody sTreeLastPath, defScope sTreeLastPath, [], []⟩
def d31 : He.DefD := ⟨("Arrays", some "__init__"), "__init__", "Arrays.__init__", defArgs sArraysInit, defBody sArraysInit, defScope sArraysInit, [], []⟩
def d32 : He.DefD := ⟨("Arrays", some "put"), "put", "Arrays.put", defArgs sArraysPut, defBody sArraysPut, defScope sArraysPut, [], []⟩
def d33 : He.DefD := ⟨("Arrays", some "read"), "read", "Arrays.read", defArgs sArraysRead, defBody sArraysRead, defScope sArraysRead, [], [("otherwise", .str "")]⟩
def d34 : He.DefD := ⟨("Arrays", some "data"), "data", "Arrays.data", defArgs sArraysData, defBody sArraysData, defScope sArraysData, [], []⟩
def d35 : He.DefD := ⟨("Arrays", some "kill"), "kill", "Arrays.kill", defArgs sArraysKill, defBody sArraysKill, defScope sArraysKill, [], []⟩
def d36 : He.DefD := ⟨("Arrays", some "names"), "names", "Arrays.names", defArgs sArraysNames, defBody sArraysNames, defScope sArraysNames, [], []⟩
def d37 : He.DefD := ⟨("Arrays", some "count"), "count", "Arrays.count", defArgs sArraysCount, defBody sArraysCount, defScope sArraysCount, [], []⟩
def d38 : He.DefD := ⟨("Arrays", some "order"), "order", "Arrays.order", defArgs sArraysOrder, defBody sArraysOrder, defScope sArraysOrder, [], [("back", .bl false)]⟩
def d39 : He.DefD := ⟨("Arrays", some "following"), "following", "Arrays.following", defArgs sArraysFollowing, defBody sArraysFollowing, defScope sArraysFollowing, [], [("back", .bl false)]⟩
def d40 : He.DefD := ⟨("Arrays", some "rows"), "rows", "Arrays.rows", defArgs sArraysRows, defBody sArraysRows, defScope sArraysRows, [], []⟩
def d41 : He.DefD := ⟨("Arrays", some "merge"), "merge", "Arrays.merge", defArgs sArraysMerge, defBody sArraysMerge, defScope sArraysMerge, [], []⟩
def d42 : He.DefD := ⟨("Arrays", some "uproot"), "uproot", "Arrays.uproot", defArgs sArraysUproot, defBody sArraysUproot, defScope sArraysUproot, [], []⟩
def d43 : He.DefD := ⟨("_path", none), "_path", "_path", defArgs sPath, defBody sPath, defScope sPath, [], []⟩
def d44 : He.DefD := ⟨("_reference", none), "_reference", "_reference", defArgs sReference, defBody sReference, defScope sReference, [], []⟩
def d45 : He.DefD := ⟨("_law_cell_at", none), "_law_cell_at", "_law_cell_at", defArgs sLawCellAt, defBody sLawCellAt, defScope sLawCellAt, [], []⟩
def d46 : He.DefD := ⟨("_law_bag", none), "_law_bag", "_law_bag", defArgs sLawBag, defBody sLawBag, defScope sLawBag, [], []⟩
def d47 : He.DefD := ⟨("_law_take", none), "_law_take", "_law_take", defArgs sLawTake, defBody sLawTake, defScope sLawTake, [], []⟩
def d48 : He.DefD := ⟨("_law_key", none), "_law_key", "_law_key", defArgs sLawKey, defBody sLawKey, defScope sLawKey, [], []⟩
def d49 : He.DefD := ⟨("_law_pool", none), "_law_pool", "_law_pool", defArgs sLawPool, defBody sLawPool, defScope sLawPool, [], []⟩
def d50 : He.DefD := ⟨("_law_ref", none), "_law_ref", "_law_ref", defArgs sLawRef, defBody sLawRef, defScope sLawRef, [], []⟩
def d51 : He.DefD := ⟨("_law_worth", none), "_law_worth", "_law_worth", defArgs sLawWorth, defBody sLawWorth, defScope sLawWorth, [], []⟩
def d52 : He.DefD := ⟨("_law_begins", none), "_law_begins", "_law_begins", defArgs sLawBegins, defBody sLawBegins, defScope sLawBegins, [], []⟩
def d53 : He.DefD := ⟨("_law_beneath", none), "_law_beneath", "_law_beneath", defArgs sLawBeneath, defBody sLawBeneath, defScope sLawBeneath, [], []⟩
def d54 : He.DefD := ⟨("_law_killed", none), "_law_killed", "_law_killed", defArgs sLawKilled, defBody sLawKilled, defScope sLawKilled, [], []⟩
def d55 : He.DefD := ⟨("_law_rank", none), "_law_rank", "_law_rank", defArgs sLawRank, defBody sLawRank, defScope sLawRank, [], []⟩
def d56 : He.DefD := ⟨("_law_ranks", none), "_law_ranks", "_law_ranks", defArgs sLawRanks, defBody sLawRanks, defScope sLawRanks, [], []⟩
def d57 : He.DefD := ⟨("_law_walked", none), "_law_walked", "_law_walked", defArgs sLawWalked, defBody sLawWalked, defScope sLawWalked, [], []⟩
def d58 : He.DefD := ⟨("_law_same", none), "_law_same", "_law_same", defArgs sLawSame, defBody sLawSame, defScope sLawSame, [], []⟩
def d59 : He.DefD := ⟨("_law_acted", none), "_law_acted", "_law_acted", defArgs sLawActed, defBody sLawActed, defScope sLawActed, [], []⟩
def d60 : He.DefD := ⟨("_law_odd", none), "_law_odd", "_law_odd", defArgs sLawOdd, defBody sLawOdd, defScope sLawOdd, [], []⟩
def d61 : He.DefD := ⟨("_law_no_ref", none), "_law_no_ref", "_law_no_ref", defArgs sLawNoRef, defBody sLawNoRef, defScope sLawNoRef, [], []⟩
def d62 : He.DefD := ⟨("_law_word", none), "_law_word", "_law_word", defArgs sLawWord, defBody sLawWord, defScope sLawWord, [], []⟩
def d63 : He.DefD := ⟨("_law_tried", none), "_law_tried", "_law_tried", defArgs sLawTried, defBody sLawTried, defScope sLawTried, [], []⟩
def d64 : He.DefD := ⟨("_law_all", none), "_law_all", "_law_all", defArgs sLawAll, defBody sLawAll, defScope sLawAll, [], []⟩
def d65 : He.DefD := ⟨("_law_refused", none), "_law_refused", "_law_refused", defArgs sLawRefused, defBody sLawRefused, defScope sLawRefused, [], []⟩
def d66 : He.DefD := ⟨("law", none), "law", "law", defArgs sLaw, defBody sLaw, defScope sLaw, [], []⟩
def fnl : List He.DefD := [d1, d2, d3, d4, d5, d6, d7, d8, d9, d10, d11, d12, d13, d14, d15, d16, d17, d18, d19, d20, d21, d22, d23, d24, d25, d26, d27, d28, d29, d30, d31, d32, d33, d34, d35, d36, d37, d38, d39, d40, d41, d42, d43, d44, d45, d46, d47, d48, d49, d50, d51, d52, d53, d54, d55, d56, d57, d58, d59, d60, d61, d62, d63, d64, d65, d66]
def fal : List He.Fa := [.cls "Tree", .noat "Tree" "worth", .noat "Tree" "row", .noat "Tree" "beneath", .cls "Arrays", .noat "Arrays" "_tree", .glo "is_worth", .glo "number_of", .glo "_number_of_figures", .glo "is_number_text", .glo "is_key", .glo "key_rank", .glo "before", .glo "is_name", .glo "is_row", .glo "is_asking_row", .glo "is_pair", .glo "is_reference", .glo "is_asking_reference", .glo "is_stem", .glo "meet", .glo "need_reference", .glo "need_asking_reference", .glo "need_worth", .glo "_how_many_ahead", .mkr "Tree", .glo "Tree", .meth "Tree" "at", .meth "Tree" "plant", .meth "Tree" "_made", .meth "Tree" "cut", .meth "Tree" "next_key", .meth "Tree" "walked", .meth "Tree" "path_behind", .meth "Tree" "path_ahead", .meth "Tree" "_first_path", .meth "Tree" "_last_path", .mkr "Arrays", .glo "Arrays", .meth "Arrays" "put", .meth "Arrays" "read", .meth "Arrays" "data", .meth "Arrays" "kill", .meth "Arrays" "names", .meth "Arrays" "count", .meth "Arrays" "order", .meth "Arrays" "following", .meth "Arrays" "rows", .meth "Arrays" "merge", .meth "Arrays" "uproot", .glo "_path", .glo "_reference", .glo "_law_cell_at", .glo "_law_bag", .glo "_law_take", .glo "_law_key", .glo "_law_pool", .glo "_law_ref", .glo "_law_worth", .glo "_law_begins", .glo "_law_beneath", .glo "_law_killed", .glo "_law_rank", .glo "_law_ranks", .glo "_law_walked", .glo "_law_same", .glo "_law_acted", .glo "_law_odd", .glo "_law_no_ref", .glo "_law_word", .glo "_law_tried", .glo "_law_all", .glo "_law_refused", .glo "law", .glo "StemError", .glo "NoRef", .glo "NoWorth", .glo "Within", .glo "TooDeep", .glo "NoHead", .glo "NoJob", .glo "Waiting", .glo "NoLock", .glo "Held", .glo "NoDealing", .glo "Erring", .glo "NoProgram", .glo "NoLabel", .glo "TooLong", .glo "NoText", .free "isinstance", .free "str", .free "all", .free "ord", .free "len", .free "int", .free "range", .free "tuple", .free "list", .free "max", .free "sorted", .free "bool", .free "ValueError", .free "min", .int "_PERCENT" 37, .str "_FIGURES" "0123456789", .int "_LONGEST_KEY" 40, .int "_LONGEST_NAME" 8, .int "MOST_KEYS" 6]
def tfl : List He.Defn := [("is_worth", none), ("is_number_text", none), ("is_name", none), ("is_row", none), ("_law_walked", none)]
def clsl : List Str := ["Tree", "Arrays"]
def bound : List (Str × Option Str) := []
def exB (K : PySem.W.Frag) : Bool := (bound.all fun p => He.eqO (PySem.W.specialIn K (.ref (He.fAd K p)) "__get__") (some (some (.builtin "function.__get__"))) && (decide (PySem.W.takesIn K (.ref (He.fAd K p)) = some false) && PySem.W.fnIn K (He.fAd K p))) && (decide (bound.map (He.fAd K)).Nodup && decide (clsl.map (He.ga K)).Nodup) && errsB K RAISED ALLE
theorem saysA_of {as : List Addr} {fa : List He.Fa} {fn : List He.DefD} {tf : List He.Defn} {ex : PySem.W.Frag → Bool} {w : World} {h : Heap} {K : PySem.W.Frag} (eK : K = He.frT h.get? as) (e : (He.obsT fa fn [] K, ex K && He.tabsB h.get? tf K) = He.valX fn [] w) : He.SaysX fa fn [] tf ex w h K := by
  have e2 : (ex K && He.tabsB h.get? tf K) = true := congrArg Prod.snd e
  obtain ⟨g1, g2⟩ := He.ba e2
  have key : ∀ p ∈ tf, PySem.W.codeHdIn K (He.cT K p).1 (He.cT K p).2 = true ∧ ∃ o, h.get? (He.cT K p).2 = some o ∧ He.emptyTab o = true := fun p hp => by
    obtain ⟨q1, q2⟩ := He.ba (List.all_eq_true.mp g2 p hp)
    refine ⟨q1, ?_⟩
    cases q : h.get? (He.cT K p).2 with
    | none => rw [q] at q2; cases q2
    | some o => rw [q] at q2; exact ⟨o, rfl, q2⟩
  refine ⟨congrArg Prod.fst e, g1, fun p hp => (key p hp).1, fun p hp => ?_, fun p hp => ?_⟩
  · obtain ⟨_, o, q, z⟩ := key p hp
    have nn := He.frT_none (as := as) q z
    rw [← eK] at nn
    exact nn
  · obtain ⟨_, o, q, z⟩ := key p hp
    rw [q, He.emptyTab_eq z]
def obsA (as : List Addr) (fa : List He.Fa) (fn : List He.DefD) (tf : List He.Defn) (ex : PySem.W.Frag → Bool) (g : Addr → Option Obj) : He.AlX := (He.obsT fa fn [] (He.frT g as), ex (He.frT g as) && He.tabsB g tf (He.frT g as))
def hookA (as : List Addr) (fa : List He.Fa) (fn : List He.DefD) (tf : List He.Defn) (ex : PySem.W.Frag → Bool) : PySem.W.Hook :=
  { α := He.AlX, obs := fun s => obsA as fa fn tf ex s.heap.get?, val := fun w => He.valX fn [] w, says := fun w h => ∃ K : PySem.W.Frag, K.In h ∧ He.SaysX fa fn [] tf ex w h K
    of := fun _ _ e => ⟨_, He.frT_in, saysA_of rfl e⟩
    keeps := fun _ _ _ x k => (match x with | ⟨K, hK, c⟩ => ⟨K, PySem.W.Frag.In.keeps hK k, c.t, c.more, c.hd, c.out, fun p hp => k _ _ (c.empty p hp)⟩) }
theorem obsA_eq {as : List Addr} {fa : List He.Fa} {fn : List He.DefD} {tf : List He.Defn} {ex : PySem.W.Frag → Bool} {g : Addr → Option Obj} {s : Shared} (h : ∀ a, g a = s.heap.get? a) : obsA as fa fn tf ex g = (hookA as fa fn tf ex).obs s := by
  rw [show g = s.heap.get? from funext h] <;> rfl
theorem more_of {K : PySem.W.Frag} (m : exB K = true) (p : Str × Option Str) (h : p ∈ bound) : PySem.W.specialIn K (.ref (He.fAd K p)) "__get__" = some (some (.builtin "function.__get__")) ∧ PySem.W.takesIn K (.ref (He.fAd K p)) = some false ∧ PySem.W.fnIn K (He.fAd K p) = true := by
  have h1 := List.all_eq_true.mp (Bool.and_eq_true_iff.mp (Bool.and_eq_true_iff.mp m).1).1 p h
  obtain ⟨a, b⟩ := Bool.and_eq_true_iff.mp h1
  obtain ⟨b, c⟩ := Bool.and_eq_true_iff.mp b
  exact ⟨He.eqO_ok a, of_decide_eq_true b, c⟩
theorem nd_of {K : PySem.W.Frag} (m : exB K = true) : (bound.map (He.fAd K)).Nodup := of_decide_eq_true (Bool.and_eq_true_iff.mp (Bool.and_eq_true_iff.mp (Bool.and_eq_true_iff.mp m).1).2).1
theorem nc_of {K : PySem.W.Frag} (m : exB K = true) : (clsl.map (He.ga K)).Nodup := of_decide_eq_true (Bool.and_eq_true_iff.mp (Bool.and_eq_true_iff.mp (Bool.and_eq_true_iff.mp m).1).2).2
theorem bm_of {K : PySem.W.Frag} {C f : Addr} {m : Str} (M : Meth K C m f) (cp : PySem.W.copiedNames.contains m = false) (h : PySem.W.specialIn K (.ref f) "__get__" = some (some (.builtin "function.__get__")) ∧ PySem.W.takesIn K (.ref f) = some false ∧ PySem.W.fnIn K f = true) : BMeth K C m f := ⟨M, h.1, h.2.1, cp, h.2.2⟩
theorem fun_of {K : PySem.W.Frag} {x q : Str} {st : Stmt} {f : Addr} {fd : FuncData} (F : FunD K x q (defArgs st) (defBody st) (defScope st) [] [] f fd) : Fun K x q st f fd := by
  obtain ⟨⟨oc, od, dV, kV, doc, pm, an, cdv, ct, osl, e, lk, hc, hD, _⟩, kp⟩ := F
  rcases hD with ⟨_, rfl⟩ | ⟨h, _⟩
  · exact ⟨⟨oc, od, kV, doc, pm, an, cdv, ct, osl, e, lk, hc⟩, kp⟩
  · exact absurd rfl h
theorem gi {mg : Str → Option Value} {x : Str} {i : Int} (h : ∃ t, mg x = some (.int i t)) : ∃ u, mg x = some u ∧ RelV (.int i) u := by
  obtain ⟨t, e⟩ := h
  exact ⟨_, e, t, rfl⟩
theorem gs {mg : Str → Option Value} {x z : Str} (h : ∃ t, mg x = some (.str z t)) : ∃ u, mg x = some u ∧ RelV (.str z) u := by
  obtain ⟨t, e⟩ := h
  exact ⟨_, e, t, rfl⟩
theorem code_ref {K : PySem.W.Frag} {p : He.Defn} {fd : FuncData} {oc : Value} {od : Option Addr} {osl : Array (Option Value)} (lk : K.lookup (He.fAd K p) = some ⟨oc, od, .func fd, osl⟩) (h : PySem.W.codeHdIn K (He.cT K p).1 (He.cT K p).2 = true) (hc : ∃ q, PySem.W.codeIn K fd.code q = true) : fd.code = .ref (He.cT K p).1 := by
  obtain ⟨q, hc⟩ := hc
  have e : He.codeOf K p = (match fd.code with | .ref c => c | _ => 0) := by
    unfold He.codeOf
    rw [lk]
    rfl
  cases z : fd.code with
  | ref c =>
    show Value.ref c = Value.ref (He.codeOf K p)
    rw [e, z]
  | _ =>
    rw [z] at hc
    cases hc
theorem ftc_of {K : PySem.W.Frag} {mg : Str → Option Value} {x : Str} {st : Stmt} {ps : List Str} {fd : FuncData} (D : FunD K x x (defArgs st) (defBody st) (defScope st) [] [] (He.fAd K (x, none)) fd) (h : PySem.W.codeHdIn K (He.cT K (x, none)).1 (He.cT K (x, none)).2 = true) (g : mg x = some (.ref (He.fAd K (x, none)))) (b : Binds K fd ps []) : Ftc K mg x st ps (He.cT K (x, none)).1 := by
  obtain ⟨⟨oc, od, dV, kV, doc, pm, an, cdv, ct, osl, e, lk, hc, hD, _⟩, kp⟩ := D
  have hcr := code_ref lk h ⟨x, by rw [e]; exact hc⟩
  rcases hD with ⟨_, rfl⟩ | ⟨z, _⟩
  · subst e
    have e2 : cdv = .ref (He.cT K (x, none)).1 := hcr
    subst e2
    exact ⟨_, oc, od, kV, doc, pm, an, ct, osl, lk, hc, kp, g, b⟩
  · exact absurd rfl z

theorem er_of {K : PySem.W.Frag} (m : exB K = true) : (∀ D ∈ RAISED, ErrC K (He.ga K D)) ∧ (∀ D ∈ RAISED, ∀ C ∈ ALLE, PySem.W.kitOne K (.ref (He.ga K D)) (.ref (He.ga K C)) = some (decide (D = C) || decide (C = "StemError"))) ∧ ∀ D ∈ RAISED, ∀ C ∈ ALLE, PySem.W.exmOne K (.ref (He.ga K D)) (.ref (He.ga K C)) = some (decide (D = C) || decide (C = "StemError")) := errsB_ok (Bool.and_eq_true_iff.mp m).2
def adr : List Addr := [3, 24, 37, 49, 61, 73, 85, 97, 116, 128, 147, 159, 178, 190, 209, 228, 240, 249, 256, 263, 270, 277, 284, 291, 298, 305, 312, 319, 326, 333, 340, 347, 354, 361, 368, 375, 476, 589, 600, 607, 614, 621, 628, 633, 638, 643, 650, 657, 662, 669, 674, 679, 686, 691, 696, 703, 710, 715, 722, 729, 736, 741, 23, 36, 48, 60, 72, 248, 255, 262, 269, 276, 283, 290, 297, 304, 311, 318, 325, 332, 339, 346, 353, 360, 367, 374, 475, 588, 599, 606, 613, 620, 627, 632, 637, 642, 649, 656, 661, 668, 673, 678, 685, 690, 695, 702, 709, 714, 721, 728, 735, 740, 389, 396, 403, 417, 431, 438, 445, 452, 459, 466, 473, 494, 501, 509, 516, 523, 530, 537, 545, 553, 558, 565, 572, 388, 395, 402, 416, 430, 437, 444, 451, 458, 465, 472, 493, 500, 508, 502, 515, 522, 529, 536, 544, 538, 552, 546, 557, 564, 571]
abbrev R : PySem.W.OpenRow := PySem.W.OpenLaw.row PySem.Challenge.rw_stemkeep_k11_arrays_refused
abbrev hk : PySem.W.Hook := hookA adr fal fnl tfl exB
def ob (s : PySem.W.SharedT) : He.AlX := obsA adr fal fnl tfl exB (HandSHeadRun.getT s)
theorem ob_eq (s : PySem.W.SharedT) : ob s = hk.obs s.abs := obsA_eq (HandSHeadRun.getT_eq s)
theorem run_false (w : World) : HandSHeadRun.RunEq R (PySem.W.view R.prog [71]) hk ob 20000 names (w.withFollow "special-get-raises" false) := by
  intro os
  kernel_rfl
theorem run_true (w : World) : HandSHeadRun.RunEq R (PySem.W.view R.prog [71]) hk ob 20000 names (w.withFollow "special-get-raises" true) := by
  intro os
  kernel_rfl
theorem run (w : World) : HandSHeadRun.RunEq R (PySem.W.view R.prog [71]) hk ob 20000 names w := PySem.W.byRow2 (P := fun w => HandSHeadRun.RunEq R (PySem.W.view R.prog [71]) hk ob 20000 names w) "special-get-raises" run_false run_true w
set_option maxHeartbeats 0 in
theorem facts {w1 : World} {K : PySem.W.Frag} {h : Heap} {mg : Str → Option Value} {f : Addr} (X : K.In h) (G : h.Ns mainGlobals mg) (hfa : mg ("law" : Str) = some (.ref f)) (s : He.SaysX fal fnl [] tfl exB w1 h K) (w : World) :
    LamX.LawAtS PySem.Challenge.rw_stemkeep_k11_arrays_refused w K CX0 14 63 "script" mg f h := by
  have c : He.SaysD fal fnl K := s.t.d
  have m := s.more
  obtain ⟨fd1, D1⟩ := c.def_ 0 (d := d1) rfl
  have F1 := fun_of (st := sIsWorth) D1
  have b1 := F1.binds (ps := ["thing"]) fun _ _ _ _ _ _ us hl => match us, hl with | [_], _ => rfl
  obtain ⟨fd2, D2⟩ := c.def_ 1 (d := d2) rfl
  have F2 := fun_of (st := sNumberOf) D2
  have b2 := F2.binds (ps := ["worth"]) fun _ _ _ _ _ _ us hl => match us, hl with | [_], _ => rfl
  obtain ⟨fd3, D3⟩ := c.def_ 2 (d := d3) rfl
  have F3 := fun_of (st := sNumberOfFigures) D3
  have b3 := F3.binds (ps := ["figures"]) fun _ _ _ _ _ _ us hl => match us, hl with | [_], _ => rfl
  obtain ⟨fd4, D4⟩ := c.def_ 3 (d := d4) rfl
  have F4 := fun_of (st := sIsNumberText) D4
  have b4 := F4.binds (ps := ["worth"]) fun _ _ _ _ _ _ us hl => match us, hl with | [_], _ => rfl
  obtain ⟨fd5, D5⟩ := c.def_ 4 (d := d5) rfl
  have F5 := fun_of (st := sIsKey) D5
  have b5 := F5.binds (ps := ["thing"]) fun _ _ _ _ _ _ us hl => match us, hl with | [_], _ => rfl
  obtain ⟨fd6, D6⟩ := c.def_ 5 (d := d6) rfl
  have F6 := fun_of (st := sKeyRank) D6
  have b6 := F6.binds (ps := ["key"]) fun _ _ _ _ _ _ us hl => match us, hl with | [_], _ => rfl
  obtain ⟨fd7, D7⟩ := c.def_ 6 (d := d7) rfl
  have F7 := fun_of (st := sBefore) D7
  have b7 := F7.binds (ps := ["one", "other"]) fun _ _ _ _ _ _ us hl => match us, hl with | [_, _], _ => rfl
  obtain ⟨fd8, D8⟩ := c.def_ 7 (d := d8) rfl
  have F8 := fun_of (st := sIsName) D8
  have b8 := F8.binds (ps := ["thing"]) fun _ _ _ _ _ _ us hl => match us, hl with | [_], _ => rfl
  obtain ⟨fd9, D9⟩ := c.def_ 8 (d := d9) rfl
  have F9 := fun_of (st := sIsRow) D9
  have b9 := F9.binds (ps := ["thing"]) fun _ _ _ _ _ _ us hl => match us, hl with | [_], _ => rfl
  obtain ⟨fd10, D10⟩ := c.def_ 9 (d := d10) rfl
  have F10 := fun_of (st := sIsAskingRow) D10
  have b10 := F10.binds (ps := ["thing"]) fun _ _ _ _ _ _ us hl => match us, hl with | [_], _ => rfl
  obtain ⟨fd11, D11⟩ := c.def_ 10 (d := d11) rfl
  have F11 := fun_of (st := sIsPair) D11
  have b11 := F11.binds (ps := ["thing"]) fun _ _ _ _ _ _ us hl => match us, hl with | [_], _ => rfl
  obtain ⟨fd12, D12⟩ := c.def_ 11 (d := d12) rfl
  have F12 := fun_of (st := sIsReference) D12
  have b12 := F12.binds (ps := ["thing"]) fun _ _ _ _ _ _ us hl => match us, hl with | [_], _ => rfl
  obtain ⟨fd13, D13⟩ := c.def_ 12 (d := d13) rfl
  have F13 := fun_of (st := sIsAskingReference) D13
  have b13 := F13.binds (ps := ["thing"]) fun _ _ _ _ _ _ us hl => match us, hl with | [_], _ => rfl
  obtain ⟨fd14, D14⟩ := c.def_ 13 (d := d14) rfl
  have F14 := fun_of (st := sIsStem) D14
  have b14 := F14.binds (ps := ["one", "other"]) fun _ _ _ _ _ _ us hl => match us, hl with | [_, _], _ => rfl
  obtain ⟨fd15, D15⟩ := c.def_ 14 (d := d15) rfl
  have F15 := fun_of (st := sMeet) D15
  have b15 := F15.binds (ps := ["one", "other"]) fun _ _ _ _ _ _ us hl => match us, hl with | [_, _], _ => rfl
  obtain ⟨fd16, D16⟩ := c.def_ 15 (d := d16) rfl
  have F16 := fun_of (st := sNeedReference) D16
  have b16 := F16.binds (ps := ["thing"]) fun _ _ _ _ _ _ us hl => match us, hl with | [_], _ => rfl
  obtain ⟨fd17, D17⟩ := c.def_ 16 (d := d17) rfl
  have F17 := fun_of (st := sNeedAskingReference) D17
  have b17 := F17.binds (ps := ["thing"]) fun _ _ _ _ _ _ us hl => match us, hl with | [_], _ => rfl
  obtain ⟨fd18, D18⟩ := c.def_ 17 (d := d18) rfl
  have F18 := fun_of (st := sNeedWorth) D18
  have b18 := F18.binds (ps := ["thing"]) fun _ _ _ _ _ _ us hl => match us, hl with | [_], _ => rfl
  obtain ⟨fd19, D19⟩ := c.def_ 18 (d := d19) rfl
  have F19 := fun_of (st := sHowManyAhead) D19
  have b19 := F19.binds (ps := ["row", "key"]) fun _ _ _ _ _ _ us hl => match us, hl with | [_, _], _ => rfl
  obtain ⟨fd20, D20⟩ := c.def_ 19 (d := d20) rfl
  have F20 := fun_of (st := sTreeInit) D20
  have b20 := F20.binds (ps := ["self"]) fun _ _ _ _ _ _ us hl => match us, hl with | [_], _ => rfl
  obtain ⟨fd21, D21⟩ := c.def_ 20 (d := d21) rfl
  have F21 := fun_of (st := sTreeAt) D21
  have b21 := F21.binds (ps := ["self", "path"]) fun _ _ _ _ _ _ us hl => match us, hl with | [_, _], _ => rfl
  obtain ⟨fd22, D22⟩ := c.def_ 21 (d := d22) rfl
  have F22 := fun_of (st := sTreePlant) D22
  have b22 := F22.binds (ps := ["self", "path", "worth"]) fun _ _ _ _ _ _ us hl => match us, hl with | [_, _, _], _ => rfl
  obtain ⟨fd23, D23⟩ := c.def_ 22 (d := d23) rfl
  have F23 := fun_of (st := sTreeMade) D23
  have b23 := F23.binds (ps := ["self", "path"]) fun _ _ _ _ _ _ us hl => match us, hl with | [_, _], _ => rfl
  obtain ⟨fd24, D24⟩ := c.def_ 23 (d := d24) rfl
  have F24 := fun_of (st := sTreeCut) D24
  have b24 := F24.binds (ps := ["self", "path"]) fun _ _ _ _ _ _ us hl => match us, hl with | [_, _], _ => rfl
  obtain ⟨fd25, D25⟩ := c.def_ 24 (d := d25) rfl
  have F25 := fun_of (st := sTreeNextKey) D25
  have b25 := F25.binds (ps := ["self", "key", "back"]) fun _ _ _ _ _ _ us hl => match us, hl with | [_, _, _], _ => rfl
  obtain ⟨fd26, D26⟩ := c.def_ 25 (d := d26) rfl
  have F26 := fun_of (st := sTreeWalked) D26
  have b26 := F26.binds (ps := ["self", "path"]) fun _ _ _ _ _ _ us hl => match us, hl with | [_, _], _ => rfl
  obtain ⟨fd27, D27⟩ := c.def_ 26 (d := d27) rfl
  have F27 := fun_of (st := sTreePathBehind) D27
  have b27 := F27.binds (ps := ["self", "path"]) fun _ _ _ _ _ _ us hl => match us, hl with | [_, _], _ => rfl
  obtain ⟨fd28, D28⟩ := c.def_ 27 (d := d28) rfl
  have F28 := fun_of (st := sTreePathAhead) D28
  have b28 := F28.binds (ps := ["self", "path"]) fun _ _ _ _ _ _ us hl => match us, hl with | [_, _], _ => rfl
  obtain ⟨fd29, D29⟩ := c.def_ 28 (d := d29) rfl
  have F29 := fun_of (st := sTreeFirstPath) D29
  have b29 := F29.binds (ps := ["self", "path"]) fun _ _ _ _ _ _ us hl => match us, hl with | [_, _], _ => rfl
  obtain ⟨fd30, D30⟩ := c.def_ 29 (d := d30) rfl
  have F30 := fun_of (st := sTreeLastPath) D30
  have b30 := F30.binds (ps := ["self", "path"]) fun _ _ _ _ _ _ us hl => match us, hl with | [_, _], _ => rfl
  obtain ⟨fd31, D31⟩ := c.def_ 30 (d := d31) rfl
  have F31 := fun_of (st := sArraysInit) D31
  have b31 := F31.binds (ps := ["self"]) fun _ _ _ _ _ _ us hl => match us, hl with | [_], _ => rfl
  obtain ⟨fd32, D32⟩ := c.def_ 31 (d := d32) rfl
  have F32 := fun_of (st := sArraysPut) D32
  have b32 := F32.binds (ps := ["self", "ref", "worth"]) fun _ _ _ _ _ _ us hl => match us, hl with | [_, _, _], _ => rfl
  obtain ⟨fd33, D33⟩ := c.def_ 32 (d := d33) rfl
  obtain ⟨fd34, D34⟩ := c.def_ 33 (d := d34) rfl
  have F34 := fun_of (st := sArraysData) D34
  have b34 := F34.binds (ps := ["self", "ref"]) fun _ _ _ _ _ _ us hl => match us, hl with | [_, _], _ => rfl
  obtain ⟨fd35, D35⟩ := c.def_ 34 (d := d35) rfl
  have F35 := fun_of (st := sArraysKill) D35
  have b35 := F35.binds (ps := ["self", "ref"]) fun _ _ _ _ _ _ us hl => match us, hl with | [_, _], _ => rfl
  obtain ⟨fd36, D36⟩ := c.def_ 35 (d := d36) rfl
  have F36 := fun_of (st := sArraysNames) D36
  have b36 := F36.binds (ps := ["self"]) fun _ _ _ _ _ _ us hl => match us, hl with | [_], _ => rfl
  obtain ⟨fd37, D37⟩ := c.def_ 36 (d := d37) rfl
  have F37 := fun_of (st := sArraysCount) D37
  have b37 := F37.binds (ps := ["self"]) fun _ _ _ _ _ _ us hl => match us, hl with | [_], _ => rfl
  obtain ⟨fd38, D38⟩ := c.def_ 37 (d := d38) rfl
  obtain ⟨fd39, D39⟩ := c.def_ 38 (d := d39) rfl
  obtain ⟨fd40, D40⟩ := c.def_ 39 (d := d40) rfl
  have F40 := fun_of (st := sArraysRows) D40
  have b40 := F40.binds (ps := ["self", "ref"]) fun _ _ _ _ _ _ us hl => match us, hl with | [_, _], _ => rfl
  obtain ⟨fd41, D41⟩ := c.def_ 40 (d := d41) rfl
  have F41 := fun_of (st := sArraysMerge) D41
  have b41 := F41.binds (ps := ["self", "to", "source"]) fun _ _ _ _ _ _ us hl => match us, hl with | [_, _, _], _ => rfl
  obtain ⟨fd42, D42⟩ := c.def_ 41 (d := d42) rfl
  have F42 := fun_of (st := sArraysUproot) D42
  have b42 := F42.binds (ps := ["self", "ref"]) fun _ _ _ _ _ _ us hl => match us, hl with | [_, _], _ => rfl
  obtain ⟨fd43, D43⟩ := c.def_ 42 (d := d43) rfl
  have F43 := fun_of (st := sPath) D43
  have b43 := F43.binds (ps := ["ref"]) fun _ _ _ _ _ _ us hl => match us, hl with | [_], _ => rfl
  obtain ⟨fd44, D44⟩ := c.def_ 43 (d := d44) rfl
  have F44 := fun_of (st := sReference) D44
  have b44 := F44.binds (ps := ["path"]) fun _ _ _ _ _ _ us hl => match us, hl with | [_], _ => rfl
  obtain ⟨fd45, D45⟩ := c.def_ 44 (d := d45) rfl
  have F45 := fun_of (st := sLawCellAt) D45
  have b45 := F45.binds (ps := ["script", "k"]) fun _ _ _ _ _ _ us hl => match us, hl with | [_, _], _ => rfl
  obtain ⟨fd46, D46⟩ := c.def_ 45 (d := d46) rfl
  have F46 := fun_of (st := sLawBag) D46
  have b46 := F46.binds (ps := ["cell", "k"]) fun _ _ _ _ _ _ us hl => match us, hl with | [_, _], _ => rfl
  obtain ⟨fd47, D47⟩ := c.def_ 46 (d := d47) rfl
  have F47 := fun_of (st := sLawTake) D47
  have b47 := F47.binds (ps := ["bag", "many"]) fun _ _ _ _ _ _ us hl => match us, hl with | [_, _], _ => rfl
  obtain ⟨fd48, D48⟩ := c.def_ 47 (d := d48) rfl
  have F48 := fun_of (st := sLawKey) D48
  have b48 := F48.binds (ps := ["bag"]) fun _ _ _ _ _ _ us hl => match us, hl with | [_], _ => rfl
  obtain ⟨fd49, D49⟩ := c.def_ 48 (d := d49) rfl
  have F49 := fun_of (st := sLawPool) D49
  have b49 := F49.binds (ps := ["bag"]) fun _ _ _ _ _ _ us hl => match us, hl with | [_], _ => rfl
  obtain ⟨fd50, D50⟩ := c.def_ 49 (d := d50) rfl
  have F50 := fun_of (st := sLawRef) D50
  have b50 := F50.binds (ps := ["bag", "pool", "most"]) fun _ _ _ _ _ _ us hl => match us, hl with | [_, _, _], _ => rfl
  obtain ⟨fd51, D51⟩ := c.def_ 50 (d := d51) rfl
  have F51 := fun_of (st := sLawWorth) D51
  have b51 := F51.binds (ps := ["bag"]) fun _ _ _ _ _ _ us hl => match us, hl with | [_], _ => rfl
  obtain ⟨fd52, D52⟩ := c.def_ 51 (d := d52) rfl
  have F52 := fun_of (st := sLawBegins) D52
  have b52 := F52.binds (ps := ["one", "other"]) fun _ _ _ _ _ _ us hl => match us, hl with | [_, _], _ => rfl
  obtain ⟨fd53, D53⟩ := c.def_ 52 (d := d53) rfl
  have F53 := fun_of (st := sLawBeneath) D53
  have b53 := F53.binds (ps := ["m", "ref"]) fun _ _ _ _ _ _ us hl => match us, hl with | [_, _], _ => rfl
  obtain ⟨fd54, D54⟩ := c.def_ 53 (d := d54) rfl
  have F54 := fun_of (st := sLawKilled) D54
  have b54 := F54.binds (ps := ["m", "ref"]) fun _ _ _ _ _ _ us hl => match us, hl with | [_, _], _ => rfl
  obtain ⟨fd55, D55⟩ := c.def_ 54 (d := d55) rfl
  have F55 := fun_of (st := sLawRank) D55
  have b55 := F55.binds (ps := ["mark"]) fun _ _ _ _ _ _ us hl => match us, hl with | [_], _ => rfl
  obtain ⟨fd56, D56⟩ := c.def_ 55 (d := d56) rfl
  have F56 := fun_of (st := sLawRanks) D56
  have b56 := F56.binds (ps := ["ref"]) fun _ _ _ _ _ _ us hl => match us, hl with | [_], _ => rfl
  obtain ⟨fd57, D57⟩ := c.def_ 56 (d := d57) rfl
  have F57 := fun_of (st := sLawWalked) D57
  have b57 := F57.binds (ps := ["refs"]) fun _ _ _ _ _ _ us hl => match us, hl with | [_], _ => rfl
  obtain ⟨fd58, D58⟩ := c.def_ 57 (d := d58) rfl
  have F58 := fun_of (st := sLawSame) D58
  have b58 := F58.binds (ps := ["found", "due"]) fun _ _ _ _ _ _ us hl => match us, hl with | [_, _], _ => rfl
  obtain ⟨fd59, D59⟩ := c.def_ 58 (d := d59) rfl
  have F59 := fun_of (st := sLawActed) D59
  have b59 := F59.binds (ps := ["bag", "both", "m", "ref"]) fun _ _ _ _ _ _ us hl => match us, hl with | [_, _, _, _], _ => rfl
  obtain ⟨fd60, D60⟩ := c.def_ 59 (d := d60) rfl
  have F60 := fun_of (st := sLawOdd) D60
  have b60 := F60.binds (ps := ["bag"]) fun _ _ _ _ _ _ us hl => match us, hl with | [_], _ => rfl
  obtain ⟨fd61, D61⟩ := c.def_ 60 (d := d61) rfl
  have F61 := fun_of (st := sLawNoRef) D61
  have b61 := F61.binds (ps := ["bag", "pool"]) fun _ _ _ _ _ _ us hl => match us, hl with | [_, _], _ => rfl
  obtain ⟨fd62, D62⟩ := c.def_ 61 (d := d62) rfl
  have F62 := fun_of (st := sLawWord) D62
  have b62 := F62.binds (ps := ["caught"]) fun _ _ _ _ _ _ us hl => match us, hl with | [_], _ => rfl
  obtain ⟨fd63, D63⟩ := c.def_ 62 (d := d63) rfl
  have F63 := fun_of (st := sLawTried) D63
  have b63 := F63.binds (ps := ["arrays", "door", "ref", "worth", "other"]) fun _ _ _ _ _ _ us hl => match us, hl with | [_, _, _, _, _], _ => rfl
  obtain ⟨fd64, D64⟩ := c.def_ 63 (d := d64) rfl
  have F64 := fun_of (st := sLawAll) D64
  have b64 := F64.binds (ps := ["arrays"]) fun _ _ _ _ _ _ us hl => match us, hl with | [_], _ => rfl
  obtain ⟨fd65, D65⟩ := c.def_ 64 (d := d65) rfl
  have F65 := fun_of (st := sLawRefused) D65
  have b65 := F65.binds (ps := ["bag", "arrays", "pool"]) fun _ _ _ _ _ _ us hl => match us, hl with | [_, _, _], _ => rfl
  obtain ⟨fd66, D66⟩ := c.def_ 65 (d := d66) rfl
  have F66 := fun_of (st := sLaw) D66
  have b66 := F66.binds (ps := ["script"]) fun _ _ _ _ _ _ us hl => match us, hl with | [_], _ => rfl
  have e := hfa.symm.trans (He.glo_ok X G (c.fact 73 (f := .glo "law") rfl))
  cases e
  let cs : Tabs := ⟨(He.cT K ("is_worth", none)).1, (He.cT K ("is_worth", none)).2, (He.cT K ("is_number_text", none)).1, (He.cT K ("is_number_text", none)).2, (He.cT K ("is_name", none)).1, (He.cT K ("is_name", none)).2, (He.cT K ("is_row", none)).1, (He.cT K ("is_row", none)).2, (He.cT K ("_law_walked", none)).1, (He.cT K ("_law_walked", none)).2, He.ga K "Tree", He.ga K "Arrays", He.ga K⟩
  have T : Txt K mg cs := ⟨He.cls_ok (c.fact 0 (f := .cls "Tree") rfl), He.noat_ok (c.fact 1 (f := .noat "Tree" "worth") rfl), He.noat_ok (c.fact 2 (f := .noat "Tree" "row") rfl), He.noat_ok (c.fact 3 (f := .noat "Tree" "beneath") rfl), He.cls_ok (c.fact 4 (f := .cls "Arrays") rfl), He.noat_ok (c.fact 5 (f := .noat "Arrays" "_tree") rfl), nc_of m, ftc_of D1 (s.hd ("is_worth", none) (by simp [tfl])) (He.glo_ok X G (c.fact 6 (f := .glo "is_worth") rfl)) b1, ⟨_, _, F2, He.glo_ok X G (c.fact 7 (f := .glo "number_of") rfl), b2⟩, ⟨_, _, F3, He.glo_ok X G (c.fact 8 (f := .glo "_number_of_figures") rfl), b3⟩, ftc_of D4 (s.hd ("is_number_text", none) (by simp [tfl])) (He.glo_ok X G (c.fact 9 (f := .glo "is_number_text") rfl)) b4, ⟨_, _, F5, He.glo_ok X G (c.fact 10 (f := .glo "is_key") rfl), b5⟩, ⟨_, _, F6, He.glo_ok X G (c.fact 11 (f := .glo "key_rank") rfl), b6⟩, ⟨_, _, F7, He.glo_ok X G (c.fact 12 (f := .glo "before") rfl), b7⟩, ftc_of D8 (s.hd ("is_name", none) (by simp [tfl])) (He.glo_ok X G (c.fact 13 (f := .glo "is_name") rfl)) b8, ftc_of D9 (s.hd ("is_row", none) (by simp [tfl])) (He.glo_ok X G (c.fact 14 (f := .glo "is_row") rfl)) b9, ⟨_, _, F10, He.glo_ok X G (c.fact 15 (f := .glo "is_asking_row") rfl), b10⟩, ⟨_, _, F11, He.glo_ok X G (c.fact 16 (f := .glo "is_pair") rfl), b11⟩, ⟨_, _, F12, He.glo_ok X G (c.fact 17 (f := .glo "is_reference") rfl), b12⟩, ⟨_, _, F13, He.glo_ok X G (c.fact 18 (f := .glo "is_asking_reference") rfl), b13⟩, ⟨_, _, F14, He.glo_ok X G (c.fact 19 (f := .glo "is_stem") rfl), b14⟩, ⟨_, _, F15, He.glo_ok X G (c.fact 20 (f := .glo "meet") rfl), b15⟩, ⟨_, _, F16, He.glo_ok X G (c.fact 21 (f := .glo "need_reference") rfl), b16⟩, ⟨_, _, F17, He.glo_ok X G (c.fact 22 (f := .glo "need_asking_reference") rfl), b17⟩, ⟨_, _, F18, He.glo_ok X G (c.fact 23 (f := .glo "need_worth") rfl), b18⟩, ⟨_, _, F19, He.glo_ok X G (c.fact 24 (f := .glo "_how_many_ahead") rfl), b19⟩, ⟨_, _, [], D20, He.mkr_ok (c.fact 25 (f := .mkr "Tree") rfl), b20, .nil, He.glo_ok X G (c.fact 26 (f := .glo "Tree") rfl)⟩, ⟨_, _, F21, He.meth_ok (c.fact 27 (f := .meth "Tree" "at") rfl), b21⟩, ⟨_, _, F22, He.meth_ok (c.fact 28 (f := .meth "Tree" "plant") rfl), b22⟩, ⟨_, _, F23, He.meth_ok (c.fact 29 (f := .meth "Tree" "_made") rfl), b23⟩, ⟨_, _, F24, He.meth_ok (c.fact 30 (f := .meth "Tree" "cut") rfl), b24⟩, ⟨_, _, F25, He.meth_ok (c.fact 31 (f := .meth "Tree" "next_key") rfl), b25⟩, ⟨_, _, F26, He.meth_ok (c.fact 32 (f := .meth "Tree" "walked") rfl), b26⟩, ⟨_, _, F27, He.meth_ok (c.fact 33 (f := .meth "Tree" "path_behind") rfl), b27⟩, ⟨_, _, F28, He.meth_ok (c.fact 34 (f := .meth "Tree" "path_ahead") rfl), b28⟩, ⟨_, _, F29, He.meth_ok (c.fact 35 (f := .meth "Tree" "_first_path") rfl), b29⟩, ⟨_, _, F30, He.meth_ok (c.fact 36 (f := .meth "Tree" "_last_path") rfl), b30⟩, ⟨_, _, [], D31, He.mkr_ok (c.fact 37 (f := .mkr "Arrays") rfl), b31, .nil, He.glo_ok X G (c.fact 38 (f := .glo "Arrays") rfl)⟩, ⟨_, _, F32, He.meth_ok (c.fact 39 (f := .meth "Arrays" "put") rfl), b32⟩, ⟨_, _, D33, He.meth_ok (c.fact 40 (f := .meth "Arrays" "read") rfl)⟩, ⟨_, _, F34, He.meth_ok (c.fact 41 (f := .meth "Arrays" "data") rfl), b34⟩, ⟨_, _, F35, He.meth_ok (c.fact 42 (f := .meth "Arrays" "kill") rfl), b35⟩, ⟨_, _, F36, He.meth_ok (c.fact 43 (f := .meth "Arrays" "names") rfl), b36⟩, ⟨_, _, F37, He.meth_ok (c.fact 44 (f := .meth "Arrays" "count") rfl), b37⟩, ⟨_, _, D38, He.meth_ok (c.fact 45 (f := .meth "Arrays" "order") rfl)⟩, ⟨_, _, D39, He.meth_ok (c.fact 46 (f := .meth "Arrays" "following") rfl)⟩, ⟨_, _, F40, He.meth_ok (c.fact 47 (f := .meth "Arrays" "rows") rfl), b40⟩, ⟨_, _, F41, He.meth_ok (c.fact 48 (f := .meth "Arrays" "merge") rfl), b41⟩, ⟨_, _, F42, He.meth_ok (c.fact 49 (f := .meth "Arrays" "uproot") rfl), b42⟩, ⟨_, _, F43, He.glo_ok X G (c.fact 50 (f := .glo "_path") rfl), b43⟩, ⟨_, _, F44, He.glo_ok X G (c.fact 51 (f := .glo "_reference") rfl), b44⟩, ⟨_, _, F45, He.glo_ok X G (c.fact 52 (f := .glo "_law_cell_at") rfl), b45⟩, ⟨_, _, F46, He.glo_ok X G (c.fact 53 (f := .glo "_law_bag") rfl), b46⟩, ⟨_, _, F47, He.glo_ok X G (c.fact 54 (f := .glo "_law_take") rfl), b47⟩, ⟨_, _, F48, He.glo_ok X G (c.fact 55 (f := .glo "_law_key") rfl), b48⟩, ⟨_, _, F49, He.glo_ok X G (c.fact 56 (f := .glo "_law_pool") rfl), b49⟩, ⟨_, _, F50, He.glo_ok X G (c.fact 57 (f := .glo "_law_ref") rfl), b50⟩, ⟨_, _, F51, He.glo_ok X G (c.fact 58 (f := .glo "_law_worth") rfl), b51⟩, ⟨_, _, F52, He.glo_ok X G (c.fact 59 (f := .glo "_law_begins") rfl), b52⟩, ⟨_, _, F53, He.glo_ok X G (c.fact 60 (f := .glo "_law_beneath") rfl), b53⟩, ⟨_, _, F54, He.glo_ok X G (c.fact 61 (f := .glo "_law_killed") rfl), b54⟩, ⟨_, _, F55, He.glo_ok X G (c.fact 62 (f := .glo "_law_rank") rfl), b55⟩, ⟨_, _, F56, He.glo_ok X G (c.fact 63 (f := .glo "_law_ranks") rfl), b56⟩, ftc_of D57 (s.hd ("_law_walked", none) (by simp [tfl])) (He.glo_ok X G (c.fact 64 (f := .glo "_law_walked") rfl)) b57, ⟨_, _, F58, He.glo_ok X G (c.fact 65 (f := .glo "_law_same") rfl), b58⟩, ⟨_, _, F59, He.glo_ok X G (c.fact 66 (f := .glo "_law_acted") rfl), b59⟩, ⟨_, _, F60, He.glo_ok X G (c.fact 67 (f := .glo "_law_odd") rfl), b60⟩, ⟨_, _, F61, He.glo_ok X G (c.fact 68 (f := .glo "_law_no_ref") rfl), b61⟩, ⟨_, _, F62, He.glo_ok X G (c.fact 69 (f := .glo "_law_word") rfl), b62⟩, ⟨_, _, F63, He.glo_ok X G (c.fact 70 (f := .glo "_law_tried") rfl), b63⟩, ⟨_, _, F64, He.glo_ok X G (c.fact 71 (f := .glo "_law_all") rfl), b64⟩, ⟨_, _, F65, He.glo_ok X G (c.fact 72 (f := .glo "_law_refused") rfl), b65⟩, ⟨_, _, F66, He.glo_ok X G (c.fact 73 (f := .glo "law") rfl), b66⟩, (fun x hx => by
    simp only [ALLE, List.mem_cons, List.not_mem_nil, or_false] at hx
    rcases hx with rfl | rfl | rfl | rfl | rfl | rfl | rfl | rfl | rfl | rfl | rfl | rfl | rfl | rfl | rfl | rfl
    · exact He.glo_ok X G (c.fact 74 (f := .glo "StemError") rfl)
    · exact He.glo_ok X G (c.fact 75 (f := .glo "NoRef") rfl)
    · exact He.glo_ok X G (c.fact 76 (f := .glo "NoWorth") rfl)
    · exact He.glo_ok X G (c.fact 77 (f := .glo "Within") rfl)
    · exact He.glo_ok X G (c.fact 78 (f := .glo "TooDeep") rfl)
    · exact He.glo_ok X G (c.fact 79 (f := .glo "NoHead") rfl)
    · exact He.glo_ok X G (c.fact 80 (f := .glo "NoJob") rfl)
    · exact He.glo_ok X G (c.fact 81 (f := .glo "Waiting") rfl)
    · exact He.glo_ok X G (c.fact 82 (f := .glo "NoLock") rfl)
    · exact He.glo_ok X G (c.fact 83 (f := .glo "Held") rfl)
    · exact He.glo_ok X G (c.fact 84 (f := .glo "NoDealing") rfl)
    · exact He.glo_ok X G (c.fact 85 (f := .glo "Erring") rfl)
    · exact He.glo_ok X G (c.fact 86 (f := .glo "NoProgram") rfl)
    · exact He.glo_ok X G (c.fact 87 (f := .glo "NoLabel") rfl)
    · exact He.glo_ok X G (c.fact 88 (f := .glo "TooLong") rfl)
    · exact He.glo_ok X G (c.fact 89 (f := .glo "NoText") rfl)), (er_of m).1, (er_of m).2.1, (er_of m).2.2, He.free_ok X G (c.fact 90 (f := .free "isinstance") rfl), He.free_ok X G (c.fact 91 (f := .free "str") rfl), He.free_ok X G (c.fact 92 (f := .free "all") rfl), He.free_ok X G (c.fact 93 (f := .free "ord") rfl), He.free_ok X G (c.fact 94 (f := .free "len") rfl), He.free_ok X G (c.fact 95 (f := .free "int") rfl), He.free_ok X G (c.fact 96 (f := .free "range") rfl), He.free_ok X G (c.fact 97 (f := .free "tuple") rfl), He.free_ok X G (c.fact 98 (f := .free "list") rfl), He.free_ok X G (c.fact 99 (f := .free "max") rfl), He.free_ok X G (c.fact 100 (f := .free "sorted") rfl), He.free_ok X G (c.fact 101 (f := .free "bool") rfl), He.free_ok X G (c.fact 102 (f := .free "ValueError") rfl), He.free_ok X G (c.fact 103 (f := .free "min") rfl), gi (He.int_ok X G (c.fact 104 (f := .int "_PERCENT" 37) rfl)), gs (He.str_ok X G (c.fact 105 (f := .str "_FIGURES" "0123456789") rfl)), gi (He.int_ok X G (c.fact 106 (f := .int "_LONGEST_KEY" 40) rfl)), gi (He.int_ok X G (c.fact 107 (f := .int "_LONGEST_NAME" 8) rfl)), gi (He.int_ok X G (c.fact 108 (f := .int "MOST_KEYS" 6) rfl))⟩
  have bl := FunD.bindsA (ps := ["script"]) D66 fun _ _ _ _ _ _ us hl => match us, hl with | [_], _ => rfl
  refine ⟨fd66, tfl.map (He.cT K), spLaw K cs, ?_, ?_, ?_, fun s v => bl s [v] rfl, fun H a ns hl hb hT hS => ⟨a, ns, rfl, hS, hl, ?_, fun _ => rfl⟩, fun base _ _ hB => ?_⟩
  · intro p hp
    obtain ⟨q, hq, rfl⟩ := List.mem_map.mp hp
    exact s.empty q hq
  · intro p hp
    obtain ⟨q, hq, rfl⟩ := List.mem_map.mp hp
    exact s.out q hq
  · intro p hp
    obtain ⟨q, hq, rfl⟩ := List.mem_map.mp hp
    exact PySem.W.codeHd_of_K X (s.hd q hq)
  · exact ⟨trivial, Tb.new (hT _ (List.mem_map.mpr ⟨("is_worth", none), by simp [tfl], rfl⟩)), Tb.new (hT _ (List.mem_map.mpr ⟨("is_number_text", none), by simp [tfl], rfl⟩)), Tb.new (hT _ (List.mem_map.mpr ⟨("is_name", none), by simp [tfl], rfl⟩)), Tb.new (hT _ (List.mem_map.mpr ⟨("is_row", none), by simp [tfl], rfl⟩)), Tb.new (hT _ (List.mem_map.mpr ⟨("_law_walked", none), by simp [tfl], rfl⟩))⟩
  · exact ok_law T ⟨trivial, tabB_of (hB _ (List.mem_map.mpr ⟨("is_worth", none), by simp [tfl], rfl⟩)), tabB_of (hB _ (List.mem_map.mpr ⟨("is_number_text", none), by simp [tfl], rfl⟩)), tabB_of (hB _ (List.mem_map.mpr ⟨("is_name", none), by simp [tfl], rfl⟩)), tabB_of (hB _ (List.mem_map.mpr ⟨("is_row", none), by simp [tfl], rfl⟩)), tabB_of (hB _ (List.mem_map.mpr ⟨("_law_walked", none), by simp [tfl], rfl⟩))⟩ F66
end My
open PySem PySem.W PySem.Calls PyProof.Rows
set_option maxRecDepth 100000 in
set_option maxHeartbeats 0 in
theorem PySem.Challenge.cw_stemkeep_k11_arrays_refused_holds : PySem.Challenge.rw_stemkeep_k11_arrays_refused.Holds := by
  w_on; o_law
  refine HandSHeadRun.head_any (r := OpenLaw.row PySem.Challenge.rw_stemkeep_k11_arrays_refused) (q := view (OpenLaw.row PySem.Challenge.rw_stemkeep_k11_arrays_refused).prog [71]) (H := My.hk) (ob := My.ob) (M := 20000) (loose := My.names) (d := HandSHeadRun.topDef (OpenLaw.row PySem.Challenge.rw_stemkeep_k11_arrays_refused).prog 71) (kwd := []) My.ob_eq
    (by kernel_rfl) (fun s => by kernel_rfl) My.run (by kernel_rfl) (by kernel_rfl) (by kernel_rfl) (by rfl) (by first | assumption | decide +kernel) (by decide +kernel) ⟨rfl, rfl, rfl, rfl, rfl, by decide +kernel⟩ ?hw ?hc
  case hw => w_witness2
  case hc =>
    refine LamX.walk_ofTsE (l := PySem.Challenge.rw_stemkeep_k11_arrays_refused) (n := 63) (k := 14) (x := "script") (CX := fun _ => L2.CX0) rfl (by decide) (by kernel_rfl) ⟨rfl, by decide, by decide⟩ ?F (fun _ _ _ _ _ z => z)
    intro w mg fa h Y G hmg0
    obtain ⟨K, KX, c⟩ := Y
    have hmg : mg ("law" : PySem.Str) = some (.ref fa) := by
      have e : (HandSHeadRun.topDef (OpenLaw.row PySem.Challenge.rw_stemkeep_k11_arrays_refused).prog 71).name = ("law" : PySem.Str) := by kernel_rfl
      rw [← e]
      exact hmg0
    exact ⟨K, KX, My.facts KX G hmg c w⟩
#print axioms PySem.Challenge.cw_stemkeep_k11_arrays_refused_holds
