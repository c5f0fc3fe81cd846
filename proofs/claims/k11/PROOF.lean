import PyProof.Rows.All
import Wide.All
import OpenK.AllK
import Wide.FinOn
import HandS.ForMost
import HandS.Wide
import HandS.Gcd
import HandS.IsInst
import HandS.Deep
import HandS.Flow
import HandS.More
import HandS.SetFor
import HandS.Defaults
import PyProof.EqAt
import PyProof.EqKinds
import PyProof.TupleCall
import Open.SpecLaws
import KE.OsGo
import HandS.ForSpec
import HandS.ExcCtx
import HandS.ForExc
import HandS.TryMany
import HandS.ExcIs
import HandS.ExcInit
import HandS.ExcField
import HandS.Base
import HandS.Call
import HandS.Exc
import HandS.ExcOwn
import HandS.WordsExc
import HandS.HotCalls
import HandS.Words
import HandS.Head0
import HandS.Head1
import HandS.Head2
import HandS.Head3
import HandS.HeadEnd
import HandS.HeadHook1
import HandS.HeadHook2
import PySem.Challenge.RW_clockverdict_k11_elapsed
set_option Elab.async false
set_option linter.all false
set_option maxRecDepth 100000
namespace Vm
/-! ### sizes of rationals -/
def Sz (k : Nat) (q : Rat) : Prop := q.num.natAbs < 2 ^ k ∧ q.den < 2 ^ k
theorem Sz.mono {a b : Nat} {q : Rat} (h : Sz a q) (l : a ≤ b) : Sz b q :=
  ⟨Nat.lt_of_lt_of_le h.1 (Nat.pow_le_pow_right (by decide) l), Nat.lt_of_lt_of_le h.2 (Nat.pow_le_pow_right (by decide) l)⟩
theorem mk_num (n : Int) {d : Nat} (hd : d ≠ 0) : (mkRat n d).num = n / ((Nat.gcd n.natAbs d : Nat) : Int) := by
  rw [Rat.num_mkRat, if_neg hd, Nat.gcd_comm]
theorem mk_den (n : Int) {d : Nat} (hd : d ≠ 0) : (mkRat n d).den = d / Nat.gcd n.natAbs d := by
  rw [Rat.den_mkRat, if_neg hd, Nat.gcd_comm]
theorem sz_mk {n : Int} {d k : Nat} (h : d ≠ 0) (hn : n.natAbs < 2 ^ k) (hd : d < 2 ^ k) : Sz k (mkRat n d) := by
  have e : ∀ (z : Int) (g : Nat), (z / (g : Int)).natAbs ≤ z.natAbs := fun z g => Int.natAbs_ediv_le_natAbs z g
  exact ⟨by rw [mk_num n h]; exact Nat.lt_of_le_of_lt (e _ _) hn, by rw [mk_den n h]; exact Nat.lt_of_le_of_lt (Nat.div_le_self _ _) hd⟩
theorem lt_mul {a b i j : Nat} (h : a < 2 ^ i) (l : b < 2 ^ j) : a * b < 2 ^ (i + j) := by
  rw [Nat.pow_add]
  exact Nat.mul_lt_mul'' h l
theorem Sz.add {a b : Nat} {p q : Rat} (h : Sz a p) (l : Sz b q) : Sz (a + b + 1) (p + q) := by
  rw [Rat.add_def']
  have h1 := lt_mul h.1 l.2
  have h2 := lt_mul l.1 h.2
  have h3 := lt_mul h.2 l.2
  rw [Nat.add_comm b a] at h2
  refine sz_mk (Nat.ne_of_gt (Nat.mul_pos p.den_pos q.den_pos)) ?_ ?_
  · rw [Nat.pow_succ]
    have q1 := Int.natAbs_add_le (p.num * q.den) (q.num * p.den)
    rw [Int.natAbs_mul, Int.natAbs_mul, Int.natAbs_natCast, Int.natAbs_natCast] at q1
    omega
  · rw [Nat.pow_succ]
    omega
theorem Sz.neg {a : Nat} {p : Rat} (h : Sz a p) : Sz a (-p) := ⟨by rw [Rat.neg_num, Int.natAbs_neg]; exact h.1, h.2⟩
theorem Sz.sub {a b : Nat} {p q : Rat} (h : Sz a p) (l : Sz b q) : Sz (a + b + 1) (p - q) := by
  rw [Rat.sub_eq_add_neg]
  exact h.add l.neg
theorem Sz.mul {a b : Nat} {p q : Rat} (h : Sz a p) (l : Sz b q) : Sz (a + b) (p * q) := by
  rw [Rat.mul_def']
  refine sz_mk (Nat.ne_of_gt (Nat.mul_pos p.den_pos q.den_pos)) ?_ (lt_mul h.2 l.2)
  rw [Int.natAbs_mul]
  exact lt_mul h.1 l.1
theorem num_pos {q : Rat} (h : 0 < q) : 0 < q.num := by
  have z := (Rat.lt_iff 0 q).mp h
  simp at z
  exact z
theorem pos_of_num {q : Rat} (h : 0 < q.num) : 0 < q := by
  rw [Rat.lt_iff]
  simp
  exact h
theorem Sz.inv {a : Nat} {q : Rat} (h : Sz a q) (hq : 0 < q) : Sz a q⁻¹ := by
  have hn := num_pos hq
  refine ⟨?_, ?_⟩
  · rw [Rat.num_inv, Int.sign_eq_one_of_pos hn, Int.one_mul, Int.natAbs_natCast]
    exact h.2
  · rw [Rat.den_inv, if_neg (by omega)]
    exact h.1
theorem Sz.div {a b : Nat} {p q : Rat} (h : Sz a p) (l : Sz b q) (hq : 0 < q) : Sz (a + b) (p / q) := by
  rw [Rat.div_def]
  exact h.mul (l.inv hq)
/-! ### normal forms -/
theorem nf {n : Int} {d : Nat} (hd : d ≠ 0) (hc : Nat.gcd n.natAbs d = 1) : (mkRat n d).num = n ∧ (mkRat n d).den = d := by
  rw [mk_num n hd, mk_den n hd, hc]
  simp
theorem div_mk (p q : Rat) (hq : 0 < q) : p / q = mkRat (p.num * q.den) (p.den * q.num.toNat) := by
  have hn := num_pos hq
  rw [Rat.div_def, Rat.mul_def', Rat.num_inv, Rat.den_inv, if_neg (by omega), Int.sign_eq_one_of_pos hn, Int.one_mul]
  congr 2
  omega
/-- the sum by the divisors of the denominators alone -/
theorem add_parts (a b : Rat) (g f : Nat) (n : Int) (r : Nat) (hg : g = Nat.gcd a.den b.den) (hf : f = b.den / g) (hn : n = a.num * f + b.num * ((a.den / g : Nat) : Int)) (hr : r = Nat.gcd n.natAbs g) :
    (a + b).num = n / (r : Int) ∧ (a + b).den = a.den / r * f := by
  have gp : 0 < g := by rw [hg]; exact Nat.gcd_pos_of_pos_left _ a.den_pos
  obtain ⟨u, hu⟩ : g ∣ a.den := by rw [hg]; exact Nat.gcd_dvd_left _ _
  obtain ⟨v, hv⟩ : g ∣ b.den := by rw [hg]; exact Nat.gcd_dvd_right _ _
  have eu : a.den / g = u := by rw [hu]; exact Nat.mul_div_cancel_left _ gp
  have ev : f = v := by rw [hf, hv]; exact Nat.mul_div_cancel_left _ gp
  subst ev
  rw [eu] at hn
  have up : 0 < u := Nat.pos_of_ne_zero fun z => by rw [z, Nat.mul_zero] at hu; exact absurd hu (Nat.ne_of_gt a.den_pos)
  have fp : 0 < f := Nat.pos_of_ne_zero fun z => by rw [z, Nat.mul_zero] at hv; exact absurd hv (Nat.ne_of_gt b.den_pos)
  have cuf : Nat.Coprime u f := by
    have z : g * Nat.gcd u f = g := by rw [← Nat.gcd_mul_left, ← hu, ← hv, ← hg]
    exact Nat.eq_of_mul_eq_mul_left gp (by rw [z, Nat.mul_one])
  have ca : Nat.Coprime a.num.natAbs u := (Nat.Coprime.coprime_dvd_right ⟨g, by rw [hu, Nat.mul_comm]⟩ a.reduced)
  have cb : Nat.Coprime b.num.natAbs f := (Nat.Coprime.coprime_dvd_right ⟨g, by rw [hv, Nat.mul_comm]⟩ b.reduced)
  have key : ∀ (x y z : Int) (m : Nat), x = y + z * m → Nat.gcd x.natAbs m = Nat.gcd y.natAbs m := by
    intro x y z m h
    have e : ∀ t : Int, Nat.gcd t.natAbs m = Int.gcd t m := fun t => by rw [Int.gcd]; simp
    rw [e, e, h, Int.gcd_add_mul_right_left]
  have cnu : Nat.Coprime n.natAbs u := by
    have z := key n (a.num * f) b.num u hn
    unfold Nat.Coprime
    rw [z, Int.natAbs_mul, Int.natAbs_natCast]
    exact Nat.Coprime.mul_left ca cuf.symm
  have cnf : Nat.Coprime n.natAbs f := by
    have z := key n (b.num * u) a.num f (by rw [hn, Int.add_comm])
    unfold Nat.Coprime
    rw [z, Int.natAbs_mul, Int.natAbs_natCast]
    exact Nat.Coprime.mul_left cb cuf
  have cn : Nat.Coprime n.natAbs (u * f) := Nat.Coprime.mul_right cnu cnf
  have er : Nat.gcd n.natAbs (g * (u * f)) = r := by
    rw [hr]
    exact Nat.Coprime.gcd_mul_right_cancel_right g cn.symm
  have es : a + b = mkRat n (g * (u * f)) := by
    rw [Rat.add_def', hu, hv, hn]
    have z := Rat.mkRat_mul_left (n := a.num * f + b.num * u) (d := g * (u * f)) (a := g) (by omega)
    rw [← z]
    congr 1
    · push_cast
      grind
    · grind
  have dn : g * (u * f) ≠ 0 := Nat.ne_of_gt (Nat.mul_pos gp (Nat.mul_pos up fp))
  have rg : r ∣ g := by rw [hr]; exact Nat.gcd_dvd_right _ _
  refine ⟨by rw [es, mk_num n dn, er], ?_⟩
  rw [es, mk_den n dn, er, hu]
  obtain ⟨w, hw⟩ := rg
  have rp : 0 < r := Nat.pos_of_ne_zero fun z => by rw [z, Nat.zero_mul] at hw; omega
  rw [hw, Nat.mul_assoc, Nat.mul_div_cancel_left _ rp, Nat.mul_assoc, Nat.mul_div_cancel_left _ rp, Nat.mul_assoc]
/-! ### what the cross products make -/
theorem tn (a b : Nat) : ((a : Int) * (b : Int)).toNat = a * b := by
  rw [← Int.natCast_mul]
  rfl
theorem mk_add (p q : Rat) : mkRat (p.num * (q.den : Int) + q.num * (p.den : Int)) ((p.den : Int) * (q.den : Int)).toNat = p + q := by rw [tn, Rat.add_def']
theorem mk_sub (p q : Rat) : mkRat (p.num * (q.den : Int) - q.num * (p.den : Int)) ((p.den : Int) * (q.den : Int)).toNat = p - q := by rw [tn, Rat.sub_def']
theorem mk_mul (p q : Rat) : mkRat (p.num * q.num) ((p.den : Int) * (q.den : Int)).toNat = p * q := by rw [tn, Rat.mul_def']
theorem dd_pos (p q : Rat) : 0 < (p.den : Int) * (q.den : Int) := Int.mul_pos (by have := p.den_pos; omega) (by have := q.den_pos; omega)
theorem ab_mul {i j : Int} {a b : Nat} (h : i.natAbs < 2 ^ a) (l : j.natAbs < 2 ^ b) : (i * j).natAbs < 2 ^ (a + b) := by
  rw [Int.natAbs_mul]
  exact lt_mul h l
theorem ab_add {i j : Int} {a : Nat} (h : i.natAbs < 2 ^ a) (l : j.natAbs < 2 ^ a) : (i + j).natAbs < 2 ^ (a + 1) := by
  rw [Nat.pow_succ]
  omega
theorem ab_sub {i j : Int} {a : Nat} (h : i.natAbs < 2 ^ a) (l : j.natAbs < 2 ^ a) : (i - j).natAbs < 2 ^ (a + 1) := by
  rw [Nat.pow_succ]
  omega
theorem ab_up {i : Int} {a b : Nat} (h : i.natAbs < 2 ^ a) (l : a ≤ b) : i.natAbs < 2 ^ b := Nat.lt_of_lt_of_le h (Nat.pow_le_pow_right (by decide) l)
theorem ab_le {i j : Int} {a : Nat} (h : i.natAbs < 2 ^ a) (l : j.natAbs ≤ i.natAbs) : j.natAbs < 2 ^ a := Nat.lt_of_le_of_lt l h
theorem nn {m : Nat} {p : Rat} (h : Sz m p) : 0 < m := by
  cases m with
  | zero => have := h.2; have := p.den_pos; simp at *; omega
  | succ m => exact Nat.succ_pos _
theorem dA {m : Nat} {p : Rat} (h : Sz m p) : ((p.den : Nat) : Int).natAbs < 2 ^ m := h.2
theorem lt_num {p q : Rat} : p < q ↔ p.num * (q.den : Int) < q.num * (p.den : Int) := Rat.lt_iff p q
theorem eq_num {p q : Rat} : p = q ↔ p.num * (q.den : Int) = q.num * (p.den : Int) := Rat.eq_iff_mul_eq_mul
end Vm

namespace Vk
open PySem L2
/-! ### defs as they stand, and with a promise -/
structure Fn (K : PySem.W.Frag) (mg : Str → Option Value) (x : Str) (st : Stmt) (ps : List Str) (f : Addr) (fd : FuncData) : Prop where
  F : Fun K x x st f fd
  m : mg x = some (.ref f)
  b : Binds K fd ps []
structure Def (P : Program) (w : World) (K : PySem.W.Frag) (mg : Str → Option Value) (base : Heap) (k : Nat) (x : Str) (ps : List Str) (sp : Sp) (f : Addr) (fd : FuncData) : Prop where
  ok : FnOk P w K mg base CX0 k f fd ps sp
  m : mg x = some (.ref f)
  kp : PySem.W.keepIn K (.ref f) = true
  b : Binds K fd ps []
theorem Def.up {P : Program} {w : World} {K : PySem.W.Frag} {mg : Str → Option Value} {base : Heap} {j k : Nat} {x : Str} {ps : List Str} {sp : Sp} {f : Addr} {fd : FuncData} (d : Def P w K mg base j x ps sp f fd) (h : j ≤ k) : Def P w K mg base k x ps sp f fd := ⟨d.ok.mono h, d.m, d.kp, d.b⟩
theorem pcall {X : Cx} {k : Nat} {f : Addr} {fd : FuncData} {ps : List Str} {sp : Sp} {x : Str} {p pos : Pos} {e : Expr} {es : List Expr} {t : TA} (D : Def X.prog X.w X.K X.mg X.base k x ps sp f fd) (hr : Room k X.A) (ha : PA X (e :: es) t)
    (hg : Gl X x := by rfl) (hdb : (x == ("__debug__" : Str)) = false := by decide) (he : starEach (e :: es) X.env = (false, eval e X.env) :: starEach es X.env := by rfl) (hpl : (backTo pos (starEach es X.env)).any (·.1) = false := by rfl) :
    PE X (.Call (.Name x p) (e :: es) [] pos) (tCall sp [] E0 t) := pe_call D.ok hr hg D.m D.kp D.b .nil pass0 ha hdb he hpl
/-- a def as it stands, whatever its defaults are -/
structure FunA (K : PySem.W.Frag) (x qual : Str) (st : Stmt) (f : Addr) (fd : FuncData) : Prop where
  ex : ∃ (oc : Value) (od : Option Addr) (dV kV doc pm : Value) (an : Option Addr) (cdv ct : Value) (osl : Array (Option Value)),
    fd = PySem.W.fnOf x qual (defArgs st) (defBody st) (defScope st) dV kV doc pm an cdv ct ∧ K.lookup f = some ⟨oc, od, .func fd, osl⟩ ∧ PySem.W.codeIn K cdv qual = true
  kp : PySem.W.keepIn K (.ref f) = true
theorem FunA.ok {P : Program} {w : World} {K : PySem.W.Frag} {mg : Str → Option Value} {base : Heap} {x qual : Str} {st : Stmt} {f : Addr} {fd : FuncData} {N ps : List Str} {k : Nat} {sp : Sp} (F : FunA K x qual st f fd) (S : FnScope N ps (defScope st)) (len : ∀ vs H Q E, sp vs H Q E → vs.length = ps.length)
    (hbody : ∀ (cdv : Value) (A : Around) (outer : List Env) (s : Shared) (H : Hp) (vs : List V) (Q : VK) (E : XK), Room k (A.deeper (PyProof.Rows.envOfC qual (defScope st) s.heap.objs.size f cdv)) → sp vs H Q E →
      ∃ t, PSs (cxOf CX0 P w K mg base N qual (defScope st) f cdv A outer s H E).nox (defBody st) t ∧ t { nx := fun _ H' => Q .non H', rt := Q } (start N vs) H) : FnOk P w K mg base CX0 (k + 1) f fd ps sp := by
  obtain ⟨oc, od, dV, kV, doc, pm, an, cdv, ct, osl, rfl, lk, hcd⟩ := F.ex
  refine fn_of lk hcd S len fun A outer s H vs Q E hr hsp => ?_
  obtain ⟨t, h, q⟩ := hbody cdv A outer s H vs Q E hr hsp
  exact ⟨t, h.nox, q⟩
/-- the built-in names as the top leaves them -/
structure Bn (mg : Str → Option Value) : Prop where
  gcd_ : mg "gcd" = some (.builtin "math.gcd")
  len_ : mg "len" = none
  abs_ : mg "abs" = none
  max_ : mg "max" = none
  int_ : mg "int" = none
  isinstance_ : mg "isinstance" = none
  range_ : mg "range" = none
  enumerate_ : mg "enumerate" = none
  list_ : mg "list" = none
  tuple_ : mg "tuple" = none
  str_ : mg "str" = none
  bool_ : mg "bool" = none
  dict_ : mg "dict" = none
/-! ### heaps -/
theorem _root_.L2.Same.sqt {K : PySem.W.Frag} {H H' : Hp} {a : Addr} {xs : List V} (e : Same H H') (h : SqT K H a xs) : SqT K H' a xs := by
  rcases h with (h | ⟨o, h⟩) | h
  · exact .inl (.inl (e _ _ h))
  · exact .inl (.inr ⟨o, e _ _ h⟩)
  · exact .inr h
theorem same_new {H : Hp} {p : Addr} (h : H p = none) (o : HO) : Same H (upd H p o) := fun b u q => by rw [upd_ne (ne_of_none q h)]; exact q
/-- a pair of ints that stands for q -/
def Rq (K : PySem.W.Frag) (H : Hp) (v : V) (q : Rat) : Prop := ∃ a, v = .ref a ∧ SqT K H a [.int q.num, .int (q.den : Int)]
theorem Rq.same {K : PySem.W.Frag} {H H' : Hp} {v : V} {q : Rat} (e : Same H H') (h : Rq K H v q) : Rq K H' v q := by
  obtain ⟨a, rfl, h⟩ := h
  exact ⟨a, rfl, e.sqt h⟩
theorem sz2 : 2 ≤ sizeLine := by decide
theorem at0 {xs : List V} {v : V} (h : xs[0]? = some v) : atI xs 0 = some v := atI_nat (j := 0) h
theorem at1 {xs : List V} {v : V} (h : xs[1]? = some v) : atI xs 1 = some v := atI_nat (j := 1) h
theorem at2 {xs : List V} {v : V} (h : xs[2]? = some v) : atI xs 2 = some v := atI_nat (j := 2) h
theorem ifT {c : Bool} {A B : Prop} (hc : c = true) (h : A) : if c = true then A else B := by
  rw [if_pos hc]
  exact h
theorem ifF {c : Bool} {A B : Prop} (hc : c = false) (h : B) : if c = true then A else B := by
  rw [hc, if_neg Bool.false_ne_true]
  exact h
theorem dF {p : Prop} [Decidable p] (h : ¬ p) : decide p = false := decide_eq_false h
theorem dT {p : Prop} [Decidable p] (h : p) : decide p = true := decide_eq_true h
theorem ifD {p : Prop} [Decidable p] {A B : Prop} (h1 : p → A) (h2 : ¬ p → B) : if decide p = true then A else B := by
  by_cases h : p
  · exact ifT (decide_eq_true h) (h1 h)
  · exact ifF (decide_eq_false h) (h2 h)
theorem fmod_nat (x m : Nat) : (x : Int).fmod (m : Int) = ((x % m : Nat) : Int) := by
  rw [Int.fmod_eq_emod_of_nonneg _ (by omega)]
  rfl
/-- what stands behind a statement, said once for all its ways -/
theorem cut {t u : TS} {D : Ends} {σ : L2.St} {H : Hp} (mid : L2.St → Hp → Prop) (key : ∀ σ' H', mid σ' H' → u D σ' H') (h : (∀ σ' H', mid σ' H' → u D σ' H') → tSeq t u D σ H) : tSeq t u D σ H := h key
/-! ### the store of draws -/
/-- at s stands a store: the script's list at l, five counters -/
def Sto (l s : Addr) (H : Hp) : Prop := ∃ (ns : List Int) (pos num seed hold cnt : Int), H s = some (.lst [.ref l, .int pos, .int num, .int seed, .int hold, .int cnt]) ∧ l ≠ s ∧ H l = some (.lst (ns.map V.int)) ∧ ns.length ≤ 63 ∧ 0 ≤ pos ∧ 0 ≤ num ∧ 0 ≤ seed ∧ seed < 1000000007
/-- all but what stands at s is as it was -/
def Fr (s : Addr) (H H' : Hp) : Prop := ∀ b o, H b = some o → b ≠ s → H' b = some o
theorem Fr.refl (s : Addr) (H : Hp) : Fr s H H := fun _ _ h _ => h
theorem Fr.trans {s : Addr} {H H1 H2 : Hp} (a : Fr s H H1) (b : Fr s H1 H2) : Fr s H H2 := fun c o h n => b c o (a c o h n) n
theorem Fr.of {s : Addr} {H H' : Hp} (e : Same H H') : Fr s H H' := fun b o h _ => e b o h
theorem Fr.upd {s : Addr} {H : Hp} (o : HO) : Fr s H (upd H s o) := fun b u h n => by rw [upd_ne n]; exact h
theorem Fr.free {s : Addr} {H H' : Hp} (e : Fr s H H') {p : Addr} (h : H' p = none) (n : p ≠ s) : H p = none := by
  cases q : H p with
  | none => rfl
  | some o =>
    rw [e p o q n] at h
    cases h
theorem Sto.some {l s : Addr} {H : Hp} (h : Sto l s H) : ∃ xs, H s = some (.lst xs) := by
  obtain ⟨_, _, _, _, _, _, h, _⟩ := h
  exact ⟨_, h⟩
theorem Sto.ne {l s : Addr} {H : Hp} (h : Sto l s H) {p : Addr} (n : H p = none) : p ≠ s := by
  obtain ⟨xs, h⟩ := h.some
  exact fun z => by rw [z, h] at n; cases n
theorem Sto.nl {l s : Addr} {H : Hp} (h : Sto l s H) {p : Addr} (n : H p = none) : p ≠ l := by
  obtain ⟨_, _, _, _, _, _, _, _, h, _⟩ := h
  exact fun z => by rw [z, h] at n; cases n
theorem Sto.same {l s : Addr} {H H' : Hp} (e : Same H H') (h : Sto l s H) : Sto l s H' := by
  obtain ⟨ns, pos, num, seed, hold, cnt, h1, h2, h3, r⟩ := h
  exact ⟨ns, pos, num, seed, hold, cnt, e _ _ h1, h2, e _ _ h3, r⟩
/-- what becomes of another list does not matter -/
theorem Sto.upd {l s D : Addr} {H : Hp} {o : HO} (h : Sto l s H) (n1 : D ≠ s) (n2 : D ≠ l) : Sto l s (upd H D o) := by
  obtain ⟨ns, pos, num, seed, hold, cnt, h1, h2, h3, r⟩ := h
  exact ⟨ns, pos, num, seed, hold, cnt, by rw [upd_ne (Ne.symm n1)]; exact h1, h2, by rw [upd_ne (Ne.symm n2)]; exact h3, r⟩
/-- a tuple outlives what becomes of a list -/
theorem sqt_fr {K : PySem.W.Frag} {s a : Addr} {H H' : Hp} {xs : List V} (e : Fr s H H') (hs : ∃ ys, H s = some (.lst ys)) (h : SqT K H a xs) : SqT K H' a xs := by
  obtain ⟨ys, hs⟩ := hs
  have n : ∀ {o : HO}, H a = some o → (∀ ys, o ≠ .lst ys) → a ≠ s := fun {o} h1 h2 z => by
    rw [z, hs] at h1
    exact h2 ys (Option.some.inj h1).symm
  rcases h with (h | ⟨o, h⟩) | h
  · exact .inl (.inl (e _ _ h (n h fun _ z => by cases z)))
  · exact .inl (.inr ⟨o, e _ _ h (n h fun _ z => by cases z)⟩)
  · exact .inr h
theorem Rq.fr {K : PySem.W.Frag} {s : Addr} {H H' : Hp} {v : V} {q : Rat} (e : Fr s H H') (hs : ∃ ys, H s = some (.lst ys)) (h : Rq K H v q) : Rq K H' v q := by
  obtain ⟨a, rfl, h⟩ := h
  exact ⟨a, rfl, sqt_fr e hs h⟩
theorem seq_fr {K : PySem.W.Frag} {s a : Addr} {H H' : Hp} {xs : List V} (e : Fr s H H') (n : a ≠ s) (h : SqL K H a xs) : SqL K H' a xs := by
  rcases h with (h | ⟨o, h⟩) | h
  · exact .inl (.inl (e _ _ h n))
  · exact .inl (.inr ⟨o, e _ _ h n⟩)
  · exact .inr h
theorem sm6 : 6 ≤ sizeLine := by decide
theorem sm4 : 4 ≤ sizeLine := by decide
theorem sm3 : 3 ≤ sizeLine := by decide
theorem sm5 : 5 ≤ sizeLine := by decide
end Vk

set_option maxHeartbeats 2000000
namespace PySem
namespace ValX
open PySem.W PySem.Calls PyProof.Rows PySem.HandSPX
/-! ### the text of __init__ -/
def iA (p1 p2 : Pos) : Arguments := { posonlyargs := [], args := [{ arg := "self", annotation := none, pos := p1 }, { arg := "value", annotation := none, pos := p2 }], vararg := none, kwonlyargs := [], kw_defaults := [], kwarg := none, defaults := [] }
def iB (q1 q2 q3 q4 : Pos) : List Stmt := [.Assign [.Attribute (.Name "self" q1) "value" q2] (.Name "value" q3) q4]
def iS : Scope := { kind := .function, names := [(PySem.Str.ofString "self", .local), (PySem.Str.ofString "value", .local)], isGenerator := false, isCoroutine := false, more := [] }
/-- what the written part says of the class, at C, and of its __init__, at fI -/
structure ValTxt (K : Frag) (mg : Str → Option Value) (nm : Str) (C fI : Addr) : Prop where
  gC : mg nm = some (.ref C)
  cls : ∃ nm q N bs bm sn sub ab col dd k0 k1 k2 k3 k5, K.lookup C = some (excClassObj nm q C N bs bm true sn sub ab col dd k0 k1 k2 k3 k5 "ValueError.__new__") ∧ refsVE bm = true
  sa : findIn K (.ref C) "__setattr__" = some (some (.builtin "object.__setattr__"))
  ga : findIn K (.ref C) "__getattribute__" = some (some (.builtin "BaseException.__getattribute__"))
  gg : findIn K (.ref C) "__getattr__" = some none
  noN : findIn K (.ref C) "value" = some none
  iC : findIn K (.ref C) "__init__" = some (some (.ref fI))
  tC : typeIn K (.ref fI) = some (.type "function")
  kC : keepIn K (.ref C) = true
  exC : subIn K (.ref C) (.type "BaseException") = some true
  tyC : typeIn K (.ref C) = some (.type "type")
  hdC : hasDictIn K C = true
  te : exmOne K (.ref C) (.ref C) = some true
  fn : ∃ (q : Str) (oc : Value) (od : Option Addr) (doc pm : Value) (an : Option Addr) (cdv ct : Value) (osl : Array (Option Value)) (p1 p2 q1 q2 q3 q4 : Pos),
    K.lookup fI = some ⟨oc, od, .func (fnOf "__init__" q (iA p1 p2) (iB q1 q2 q3 q4) iS .none .none doc pm an cdv ct), osl⟩ ∧ codeIn K cdv q = true
theorem one_size (v : Value) : [v].length ≤ sizeLine := by
  rw [sizeLine_eq]
  exact (by decide : 1 ≤ 16777216)
theorem kept_but {K : Frag} {h h' : Heap} {x : Addr} (X : K.In h) (hx : K.lookup x = none) (k : ∀ b o, b ≠ x → h.get? b = some o → h'.get? b = some o) : K.In h' := fun a o e =>
  k a o (fun z => by rw [z, hx] at e; cases e) (X a o e)
theorem ldC {M : Model} {s : Shared} {name : Str} {scope : Scope} {L a : Addr} {cd : Value} {m : Str → Option Value} {x : Str} {pos : Pos} {v : Value} {Q : Value → Shared → Prop} {A : Around} {E : Value → Shared → Prop} (hn : s.heap.Ns L m) (hv : m x = some v) (h : Q v s)
    (hk : scope.kind = .function := by rfl) (hl : (envOfC name scope L a cd).kindOf x = some .local := by rfl) (hd : (x == ("__debug__" : Str)) = false := by decide) :
    wpAny M A (eval (.Name x pos) (envOfC name scope L a cd)) Q E s := wpAny_Name (wpAny_loadName_local hk hl hn hv h) hd
/-- what __init__ leaves of a fresh exception at x -/
structure InitEnd (h h' : Heap) (x C dx t1 : Addr) (v : Value) : Prop where
  keep : ∀ b o, b ≠ x → h.get? b = some o → h'.get? b = some o
  obj : h'.get? x = some { cls := .ref C, dict := some dx, data := .fields #[.ref t1, .none, .none, .none, .bool false, .none] }
  dbig : h.objs.size ≤ dx
  dne : dx ≠ x
  ns : h'.Ns1 dx (fun y => if y = "value" then some v else none)
/-- a made error -/
structure OwnMade (h h' : Heap) (e C d : Addr) (v : Value) : Prop where
  keep : ∀ b o, h.get? b = some o → h'.get? b = some o
  new : h.objs.size ≤ e
  obj : ∃ oe vs, h'.get? e = some oe ∧ oe.cls = .ref C ∧ oe.dict = some d ∧ oe.data = .fields vs ∧ vs[1]? = some .none ∧ vs[2]? = some .none
  dbig : h.objs.size ≤ d
  dne : d ≠ e
  ns : h'.Ns1 d (fun y => if y = "value" then some v else none)
section
variable {prog : Program} {w : World} {A : Around} {E : Value → Shared → Prop} {R : Result → Shared → Prop} {s : Shared} {K : Frag} {mg : Str → Option Value} {nm : Str} {C fI : Addr}
theorem val_init (T : ValTxt K mg nm C fI) {x t0 : Addr} {v : Value} (X : K.In s.heap) (hlim : s.heap.NoLimit) (hx : s.heap.get? x = some (excO C t0)) (hnx : K.lookup x = none) (hroom : A.depth < recursionLimit)
    (hq : ∀ h' tk dx, InitEnd s.heap h' x C dx t0 v → R (.ok (.ret .none)) { s with heap := h', toks := tk }) :
    codeAny (model prog w) A (.call (.ref fI) ⟨[.ref x, v], []⟩) R s := by
  obtain ⟨qn, oc, od, doc, pm, an, cdv, ct, osl, p1, p2, q1, q2, q3, q4, ho, hcd⟩ := T.fn
  obtain ⟨cnm, q, N, bs, bm, sn, sub, ab, col, dd, k0, k1, k2, k3, k5, hC, hbm⟩ := T.cls
  have hcl : clsIn K C = some { name := cnm, bases := bs, mro := .ref C :: bm, ns := N, qualname := q, hasDict := true, slotNames := sn, subclasses := sub, abstract := ab, collection := col, hasDel := false } := by unfold clsIn; rw [hC] <;> rfl
  refine Att.call_fn (binds := [("self", .ref x), ("value", v)]) X hlim ho hcd hroom (BindsTo.of_eq (by first | rfl | with_unfolding_all rfl)) (by first | rfl | decide | with_unfolding_all rfl) (fun s₁ IC => ?_) rfl rfl rfl
  obtain ⟨h₁, tk₁, rfl⟩ := IC.toInCall.same
  have k : ∀ b o, s.heap.get? b = some o → h₁.get? b = some o := IC.toInCall.keep
  have hn := IC.toInCall.ns
  have hxL : s.heap.objs.size ≠ x := Nat.ne_of_gt (Heap.lt_size hx)
  have X₁ : K.In h₁ := X.keeps k
  have hx₁ := k _ _ hx
  -- self.by = by
  show wpAny _ _ (execs _ _) _ _ _
  refine wpAny_execs_cons (plainObj_wpAny_Assign_Attribute ?_)
  refine ldC (v := v) hn (by first | rfl | with_unfolding_all rfl | kernel_rfl) (ldC (v := .ref x) hn (by first | rfl | with_unfolding_all rfl | kernel_rfl) ?_)
  refine set_plain X₁ (ox := excO C t0) (od := none) ⟨hx₁, rfl, rfl, trivial⟩ T.sa ?_
  refine exc_osa X₁ hx₁ hcl (show refsVE (.ref C :: bm) = true from hbm) rfl T.noN (fun h₃ tk₃ dx k₃ dn dne hx₃ hn₃ => ?_)
  show wpAny _ _ (execs _ _) _ _ _
  have z : s.heap.objs.size < h₁.objs.size := hn.lt
  exact wpAny_execs_nil (hq h₃ tk₃ dx ⟨fun b o hb e => k₃ b o hb (k b o e), hx₃, Nat.le_of_lt (Nat.lt_of_lt_of_le z dn), dne, hn₃⟩)
theorem val_made (T : ValTxt K mg nm C fI) {v : Value} (X : K.In s.heap) (hlim : s.heap.NoLimit) (hroom : A.depth + 1 < recursionLimit)
    (hq : ∀ h' tk e d, OwnMade s.heap h' e C d v → R (.ok (.ret (.ref e))) { s with heap := h', toks := tk }) :
    codeAny (model prog w) A (.call (.ref C) ⟨[v], []⟩) R s := by
  obtain ⟨cnm, q, N, bs, bm, sn, sub, ab, col, dd, k0, k1, k2, k3, k5, hC, hbm⟩ := T.cls
  obtain ⟨hp, g, dr, tk, os⟩ := s
  have k : ∀ b o, hp.get? b = some o → ((hp.push (kdv_tup [v])).push (excO C hp.objs.size)).get? b = some o := fun b o e => Heap.get?_push_of_some _ (Heap.get?_push_of_some _ e)
  have hget : ((hp.push (kdv_tup [v])).push (excO C hp.objs.size)).get? (hp.objs.size + 1) = some (excO C hp.objs.size) := by heap_get
  have hnx : K.lookup (hp.objs.size + 1) = none := by
    cases e : K.lookup (hp.objs.size + 1) with
    | none => rfl
    | some o =>
      have z : hp.get? (hp.objs.size + 1) = some o := X _ _ e
      exact absurd (Nat.lt_of_succ_lt (Heap.lt_size z)) (Nat.lt_irrefl _)
  refine call_own F.excBase_ValueError (fun X => refsVE_contains X bm hbm) (X _ _ hC) (looks_findIn X T.iC) (fun self => bind_fn X self T.tC) (one_size v) ?_
  refine val_init (s := ⟨(hp.push (kdv_tup [v])).push (excO C hp.objs.size), g, dr, tk, os⟩) T (X.keeps k) (hlim.keeps k) hget hnx ?_ fun h' tk' dx ⟨k', hx, dn, dne, hns⟩ => ?_
  · show A.depth + 1 < recursionLimit
    exact hroom
  · have old : ∀ b o, hp.get? b = some o → h'.get? b = some o := fun b o e => k' b o (Nat.ne_of_lt (Nat.lt_succ_of_lt (Heap.lt_size e))) (k b o e)
    have z : hp.objs.size + 1 + 1 ≤ dx := by
      first
        | (simpa only [Heap.size_push] using dn)
        | exact dn
        | (have q := dn; rw [Heap.size_push, Heap.size_push] at q; exact q)
    exact ⟨rfl, hq h' tk' (hp.objs.size + 1) dx ⟨old, Nat.le_succ _, ⟨_, _, hx, rfl, rfl, rfl, rfl, rfl⟩, Nat.le_trans (Nat.le_trans (Nat.le_succ _) (Nat.le_succ _)) z, dne, hns⟩⟩
end
end ValX
end PySem
namespace L2
open PySem PySem.Spec PyProof.Rows
theorem relO_val {v : V} {v' : Value} (r : RelV v v') (f : Str) : RelO (List.lookup f [(("value" : Str), v)]) (if f = "value" then some v' else none) := by
  by_cases hw : f = "value"
  · subst hw
    rw [if_pos rfl]
    have q : List.lookup ("value" : Str) [(("value" : Str), v)] = some v := by simp [List.lookup]
    rw [q]
    exact r
  · rw [if_neg hw]
    have qw : (f == ("value" : Str)) = false := by simpa using hw
    have q2 : List.lookup f [(("value" : Str), v)] = none := by simp [List.lookup, qw]
    rw [q2]
    trivial
section
variable {X : Cx} {nm : Str} {C fI : Addr}
/-- X(e) -/
def tMkVal (C : Addr) (ta : TA) : St → Hp → XK → Prop := fun σ H Q => ta σ H fun vs H1 => ∃ v, vs = [v] ∧ ∀ d, H1 d = none → Q (.ref C) (some d) (upd H1 d (.xd [(("value" : Str), v)]))
theorem pmk_val {a : Expr} {ta : TA} {p pos : Pos} {k : Nat} (T : PySem.ValX.ValTxt X.K X.mg nm C fI) (hr : Room k X.A) (ha : PA X [a] ta) (hg : Gl X nm := by rfl) (hdb : (nm == ("__debug__" : Str)) = false := by decide)
    (he : starEach (a :: []) X.env = (false, eval a X.env) :: starEach [] X.env := by rfl) (hpl : (backTo pos (starEach [] X.env)).any (·.1) = false := by rfl) :
    PMk X (.Call (.Name nm p) [a] [] pos) (tMkVal C ta) := by
  intro pins s σ H Q I h
  refine wpAny_Call_Name_kw (ld_glob I hg T.gC ?_ hdb)
  refine PySem.W.callWith_K (h₀ := X.base) I.ok.mod.kin T.kC (thn (ha.run pos pins s σ H _ I h) fun us s1 hh => ?_) he hpl
  obtain ⟨vs, H1, I1, r1, v, ev, q1⟩ := hh
  subst ev
  refine ⟨I1.kIn, ?_⟩
  cases r1 with
  | cons rv rn =>
    rename_i v' us'
    cases rn
    show wpAny _ _ (call (.ref C) [v']) _ _ _
    have hlim := I1.nolimit
    obtain ⟨hp, g, dr, tk, os⟩ := s1
    refine wpAny_call (PySem.ValX.val_made T I1.kIn hlim (by have := hr.dp; omega) fun h' tk' e d M => ?_)
    show MkP X pins σ Q (.ref e) ⟨h', g, dr, tk', os⟩
    obtain ⟨oe, fv, hoe, hc, hd, hdat, h1, h2⟩ := M.obj
    have hns := M.ns
    obtain ⟨G', g1, g2⟩ := restrict h' fun b => decide (b ≠ e)
    have gk : ∀ b, b ≠ e → G'.get? b = h'.get? b := fun b hb => g1 b (decide_eq_true hb)
    have ge : G'.get? e = none := g2 e (by simp)
    have old : ∀ b o, hp.get? b = some o → G'.get? b = some o := fun b o q => (gk b (Nat.ne_of_lt (Nat.lt_of_lt_of_le (Heap.lt_size q) M.new))).trans (M.keep b o q)
    have ob : ObjOk X.prog X.w (upd H1 d (.xd [(("value" : Str), v)])) G' d (.xd [(("value" : Str), v)]) :=
      ⟨_, hns.at (fun o q => (gk d M.dne).trans q), fun f => relO_val rv f⟩
    have J : Inv X pins σ (upd H1 d (.xd [(("value" : Str), v)])) ⟨G', g, dr, tk', os⟩ := I1.laid (t' := tk') old M.dbig ob
    refine ⟨e, oe, fv, ⟨G', g, dr, tk', os⟩, _, .ref C, some d, rfl, J, fun b o q => ?_, ge, hoe, ⟨hc, hd⟩, hdat, h1, ?_, rfl, I1.bare, raises_own T.exC T.tyC, q1 d (I1.hok.fresh M.dbig)⟩
    · by_cases hb : b = e
      · have q' : G'.get? b = some o := q
        rw [hb, ge] at q'; cases q'
      · exact (gk b hb).symm.trans q
    · rw [upd_ne (Ne.symm M.dne)]
      exact I1.hok.fresh M.new
/-- raise X(e) -/
def tRaiseVal (C : Addr) (W : WX) (ta : TA) : TS := fun _ σ H => tMkVal C ta σ H fun cls d H' => W cls d σ H'
theorem ps_raiseVal {a : Expr} {ta : TA} {W : WX} {p pos pos2 : Pos} {k : Nat} (hc : X.calm = true) (T : PySem.ValX.ValTxt X.K X.mg nm C fI) (hr : Room k X.A) (tk : Takes X W) (ha : PA X [a] ta) (hg : Gl X nm := by rfl) (hdb : (nm == ("__debug__" : Str)) = false := by decide)
    (he : starEach (a :: []) X.env = (false, eval a X.env) :: starEach [] X.env := by rfl) (hpl : (backTo pos (starEach [] X.env)).any (·.1) = false := by rfl) :
    PS X (.Raise (some (.Call (.Name nm p) [a] [] pos)) none pos2) (tRaiseVal C W ta) := ps_raise hc tk (pmk_val T hr ha hg hdb he hpl)
theorem pmk_valN {a : Expr} {ta : TA} {p pos : Pos} {k : Nat} (T : PySem.ValX.ValTxt X.K X.mg nm C fI) (hr : Room k X.A) (ha : PA X [a] ta) (hg : Gl X nm := by rfl) (hdb : (nm == ("__debug__" : Str)) = false := by decide)
    (he : starEach (a :: []) X.env = (false, eval a X.env) :: starEach [] X.env := by rfl) (hpl : (backTo pos (starEach [] X.env)).any (·.1) = false := by rfl) :
    L2N.PMk X (.Call (.Name nm p) [a] [] pos) (tMkVal C ta) := by
  intro pins s σ H Q I h
  refine wpAny_Call_Name_kw (ld_glob I hg T.gC ?_ hdb)
  refine PySem.W.callWith_K (h₀ := X.base) I.ok.mod.kin T.kC (thn (ha.run pos pins s σ H _ I h) fun us s1 hh => ?_) he hpl
  obtain ⟨vs, H1, I1, r1, v, ev, q1⟩ := hh
  subst ev
  refine ⟨I1.kIn, ?_⟩
  cases r1 with
  | cons rv rn =>
    rename_i v' us'
    cases rn
    show wpAny _ _ (call (.ref C) [v']) _ _ _
    have hlim := I1.nolimit
    obtain ⟨hp, g, dr, tk, os⟩ := s1
    refine wpAny_call (PySem.ValX.val_made T I1.kIn hlim (by have := hr.dp; omega) fun h' tk' e d M => ?_)
    show L2N.MkP X pins σ Q (.ref e) ⟨h', g, dr, tk', os⟩
    obtain ⟨oe, fv, hoe, hc, hd, hdat, h1, h2⟩ := M.obj
    have hns := M.ns
    obtain ⟨G', g1, g2⟩ := restrict h' fun b => decide (b ≠ e)
    have gk : ∀ b, b ≠ e → G'.get? b = h'.get? b := fun b hb => g1 b (decide_eq_true hb)
    have ge : G'.get? e = none := g2 e (by simp)
    have old : ∀ b o, hp.get? b = some o → G'.get? b = some o := fun b o q => (gk b (Nat.ne_of_lt (Nat.lt_of_lt_of_le (Heap.lt_size q) M.new))).trans (M.keep b o q)
    have ob : ObjOk X.prog X.w (upd H1 d (.xd [(("value" : Str), v)])) G' d (.xd [(("value" : Str), v)]) :=
      ⟨_, hns.at (fun o q => (gk d M.dne).trans q), fun f => relO_val rv f⟩
    have J : Inv X pins σ (upd H1 d (.xd [(("value" : Str), v)])) ⟨G', g, dr, tk', os⟩ := I1.laid (t' := tk') old M.dbig ob
    refine ⟨e, oe, fv, ⟨G', g, dr, tk', os⟩, _, .ref C, some d, rfl, J, fun b o q => ?_, ge, hoe, ⟨hc, hd, fun vs ev => by rw [hdat] at ev; cases ev; exact h2⟩, hdat, h1, ?_, rfl, I1.bare, raises_own T.exC T.tyC, q1 d (I1.hok.fresh M.dbig)⟩
    · by_cases hb : b = e
      · have q' : G'.get? b = some o := q
        rw [hb, ge] at q'; cases q'
      · exact (gk b hb).symm.trans q
    · rw [upd_ne (Ne.symm M.dne)]
      exact I1.hok.fresh M.new
/-- raise X(e), where the context of exceptions is told, too -/
theorem ps_raiseValN {a : Expr} {ta : TA} {W : WX} {p pos pos2 : Pos} {k : Nat} (hc : X.calm = true) (T : PySem.ValX.ValTxt X.K X.mg nm C fI) (hr : Room k X.A) (tk : L2N.Takes X W) (ha : PA X [a] ta) (hg : Gl X nm := by rfl) (hdb : (nm == ("__debug__" : Str)) = false := by decide)
    (he : starEach (a :: []) X.env = (false, eval a X.env) :: starEach [] X.env := by rfl) (hpl : (backTo pos (starEach [] X.env)).any (·.1) = false := by rfl) :
    PS X (.Raise (some (.Call (.Name nm p) [a] [] pos)) none pos2) (tRaiseVal C W ta) := L2N.ps_raise hc tk (pmk_valN T hr ha hg hdb he hpl)
/-- e.value, e the exception that the suite holds (at a; its class cls, its dict d) -/
def tByVal (C : Addr) (a : Addr) (cls : Value) (d : Option Addr) (te : TE) : TE := fun σ H Q => te σ H fun x H1 => x = .ref a ∧ cls = .ref C ∧ ∃ (dd : Addr) (v : V), d = some dd ∧ H1 dd = some (.xd [(("value" : Str), v)]) ∧ Q v H1
theorem pe_byVal {a : Addr} {oe : Obj} {cls : Value} {d : Option Addr} {pn : List (Addr × Obj)} {e : Expr} {te : TE} {pos : Pos} (T : PySem.ValX.ValTxt X.K X.mg nm C fI) (hz : Zc cls d oe) (hf : ∃ vs, oe.data = .fields vs) (he : PE (X.suite a ((a, oe) :: pn)) e te)
    (hb : attributeBase e "value" X.env (eval e X.env) = eval e X.env := by rfl) :
    PE (X.suite a ((a, oe) :: pn)) (.Attribute e "value" pos) (tByVal C a cls d te) := by
  refine ⟨fun pins s σ H Q I h => ?_⟩
  refine attr_of hb (thn (he.run pins s σ H _ I h) fun u s1 hh => ?_)
  obtain ⟨x, H1, I1, rx, ex, ec, dd, v, ed, ea, q⟩ := hh
  subst ex
  obtain rfl : u = Value.ref a := rx
  subst ec
  subst ed
  obtain ⟨ha, _⟩ := I1.pin (a, oe) (List.mem_append_left _ List.mem_cons_self)
  obtain ⟨vs, hd⟩ := hf
  have hx : ObjOk X.prog X.w H1 s1.heap dd (.xd [(("value" : Str), v)]) := I1.hok dd _ ea
  obtain ⟨mA, hns, hr⟩ := hx
  obtain ⟨od, ho, hl⟩ := lookIn_ns hns
  have l : List.lookup ("value" : Str) [(("value" : Str), v)] = some v := by simp [List.lookup]
  obtain ⟨u, hu, ru⟩ := RelO.some_of (v := v) (o := mA "value") (by rw [← l]; exact hr "value")
  have J : PySem.W.InstAt s1.heap a oe C (some od) := ⟨ha, hz.1, by unfold PySem.W.notCls; rw [hd] <;> rfl, by rw [hz.2]; exact ho⟩
  exact HandSPX.exc_get I1.kIn J T.ga T.gg T.exC (PySem.W.findObj_own T.hdC T.noN rfl (by rw [hl, hu])) (handed_of ru) ⟨v, H1, I1.tok _, ru, q⟩
end
end L2

set_option maxHeartbeats 4000000
/-! isinstance of a caught error of an own class that has a dict of its own -/
namespace Vk
open PySem PySem.W PySem.Spec PySem.Calls PyProof.Rows
section
variable {prog : Program} {w : World} {A : Around} {E : Value → Shared → Prop} {s : Shared} {K : Frag} {x D : Addr} {ox : Obj} {od : Option Obj}
theorem found_data {C : Addr} {name : Str} {a g : Value} (hc : (clsIn K C).isSome = true) (ha : findIn K (.ref C) name = some (some a)) (hg : specialIn K a "__get__" = some (some g)) (ht : takesIn K a = some true) : findObj K C od name = some (.bind g a) := by
  obtain ⟨cd, hc⟩ := Option.isSome_iff_exists.mp hc
  simp only [findObj, hc, ha, Option.bind_some, hg, ht]
/-- what the class must say -/
abbrev Ec (K : Frag) (D : Addr) : Prop := L2.ExcC K D
theorem class_asked {Q : Option Value → Shared → Prop} (C : Ec K D) (X : K.In s.heap) (I : InstAt s.heap x ox D od) (h : Q (some (.ref D)) { s with toks := s.toks + 1 }) : wpAny (model prog w) A (getAttr? (.ref x) "__class__") Q E s := by
  have isC : (clsIn K D).isSome = true := by
    obtain ⟨cd, e, _⟩ := any_some C.hd
    rw [e]
    rfl
  obtain ⟨hp, g, d, t, os⟩ := s
  have T0 := I.type (M := model prog w)
  have F1 := looks_findIn (M := model prog w) X C.hg
  have F2 := looks_findIn (M := model prog w) X C.hk
  have F3 := looks_find (M := model prog w) X I (found_data isC C.ha C.hn C.ht)
  have below : Looks (model prog w) hp (isInstance (.ref x) (.type "BaseException")) true := T0.andThen (looks_subIn X C.hs)
  have q1 : (Value.builtin "BaseException.__getattribute__" == Value.builtin "object.__getattribute__") = false := by decide +kernel
  have q2 : (onTheHeap (Value.ref D) && Value.builtin "BaseException.__getattribute__" == Value.builtin "object.__getattribute__") = false := by rw [q1]; rfl
  unfold getAttr? getAttrBy? getAttrBy
  refine wpAny_bind (wpAny_mkText (wpAny_bind (wpAny_attempt (wpAny_holding (wpAny_bind (T0.at (wpAny_bind (F1.at ?_))))))))
  show wpAny _ _ (if (onTheHeap (Value.ref D) && Value.builtin "BaseException.__getattribute__" == Value.builtin "object.__getattribute__") = true then _ else _) _ _ _
  rw [q2, if_neg Bool.false_ne_true]
  unfold getAttrByItsOwn hookBefore
  refine wpAny_bind ?_
  rw [if_pos (show onTheHeap (Value.ref D) = true from rfl)]
  refine F2.at (wpAny_bind (wpAny_attempt (wpAny_holding ?_)))
  unfold callGetattribute
  rw [show (false && onTheHeap (Value.builtin "BaseException.__getattribute__")) = false from rfl, if_neg Bool.false_ne_true]
  unfold boundAndCalled
  rw [PySem.F.excAttr_ValueError.ga.bind (.ref x)]
  refine wpAny_bind (wpAny_pure ?_)
  show wpAny _ _ (call (.builtin "BaseException.__getattribute__") [.ref x, .str "__class__" t]) _ _ _
  refine wpAny_call (codeAny_call_builtin PySem.F.excAttr_ValueError.ga.plain PySem.F.entry_bexc_ga ?_)
  refine @check_slot (model prog w) _ _ ⟨hp, g, d, t + 1, os⟩ "BaseException.__getattribute__" "BaseException" "__getattribute__" (.ref x) [.str "__class__" t] [] _ (by decide +kernel) (by decide +kernel) below (PySem.F.args_bexc_ga (.ref x) (.str "__class__" t)) ?_
  unfold Builtin.«object.__getattribute__»
  refine wpAny_bind (wpAny_of_eq (a := ((Value.ref x : Value), [Value.str "__class__" t])) (by first | rfl | (simp only [slotArgs]; rfl)) ?_)
  refine wpAny_bind (wpAny_pure (wpAny_bind (T0.at (wpAny_bind (F3.at ?_)))))
  show wpAny _ _ (holding [Value.builtin "object.__class__"] (call (.builtin "getset_descriptor.__get__") [.builtin "object.__class__", .ref x, .ref D]) >>= ret) _ _ _
  refine wpAny_bind (wpAny_holding (wpAny_call (class_get (s := ⟨hp, g, d, t + 1, os⟩) (ox := ox) (od := od) X I C.hm ?_)))
  refine wpAny_pure ?_
  show wpAny _ _ (handedOut (.ref D)) _ _ _
  rw [handedOut_of (v := .ref D) rfl]
  first
    | exact wpAny_pure (wpAny_pure h)
    | exact wpAny_pure h
    | exact wpAny_pure (wpAny_bind (wpAny_pure (wpAny_pure h)))
theorem kit_exc (C : Ec K D) : KitX K (.ref x) (.ref D) (fun h => InstAt h x ox D od) where
  ty := fun _ _ _ I => I.type
  it := fun _ _ X _ => by
    obtain ⟨cdD, hcD, _⟩ := any_some C.hd
    unfold clsIn at hcD
    split at hcD
    · rename_i c' d' cd' sl' ho
      intro A' Q' E' s' k q
      unfold isType loadHead
      exact wpAny_bind (wpAny_loadPart (k _ _ (X _ _ ho)) (wpAny_pure q))
    · cases hcD
  ne := fun h tp dd its n sl X htp => by
    obtain ⟨cdD, hcD, _⟩ := any_some C.hd
    unfold clsIn at hcD
    split at hcD
    · rename_i c' d' cd' sl' ho
      refine Bool.eq_false_iff.mpr fun q => ?_
      have e : D = tp := Value.ref.inj (beq_iff_eq.mp q)
      rw [← e] at htp
      cases (X _ _ ho).symm.trans htp
    · cases hcD
  ca := fun X I k => class_asked C X I k
end
end Vk
namespace Vk
open PySem PySem.Spec PyProof.Rows L2
/-- isinstance(e, c), e the exception that the suite holds, its dict tracked (or none) -/
def rIsG (K : PySem.W.Frag) (D a : Addr) (d : Option Addr) : List V → Hp → VK → Prop := fun xs H Q => ∃ (c : V) (cv : Value) (b : Bool), xs = [.ref a, c] ∧ ClsV c cv ∧ (d = none ∨ ∃ dd fs, d = some dd ∧ H dd = some (.xd fs)) ∧ PySem.W.kitOne K (.ref D) cv = some b ∧ Q (.bl b) H
theorem call_isG {X : Cx} {a D : Addr} {oe : Obj} {d : Option Addr} {pn : List (Addr × Obj)} (C : ExcC X.K D) (hz : Zc (.ref D) d oe) (hf : ∃ vs, oe.data = .fields vs) : CallR (X.suite a ((a, oe) :: pn)) (.builtin "isinstance") (rIsG X.K D a d) := by
  intro pins s σ H xs us Q I r h
  obtain ⟨c, cv, b, rfl, hcv, hd, e, q⟩ := h
  obtain ⟨u1, u2, rfl, r1, r2⟩ := vals2 r
  obtain rfl : u1 = Value.ref a := r1
  have ec := hcv.eq r2
  subst ec
  obtain ⟨hget, _⟩ := I.pin (a, oe) (List.mem_append_left _ List.mem_cons_self)
  obtain ⟨vs, hv⟩ := hf
  obtain ⟨od, J⟩ : ∃ od, PySem.W.InstAt s.heap a oe D od := by
    have no : PySem.W.notCls oe = true := by unfold PySem.W.notCls; rw [hv] <;> rfl
    rcases hd with rfl | ⟨dd, fs, rfl, hdd⟩
    · exact ⟨none, hget, hz.1, no, by rw [hz.2]; trivial⟩
    · have hx : ObjOk X.prog X.w H s.heap dd (.xd fs) := I.hok dd _ hdd
      obtain ⟨mA, hns, _⟩ := hx
      obtain ⟨o, ho, _⟩ := lookIn_ns hns
      exact ⟨some o, hget, hz.1, no, by rw [hz.2]; exact ho⟩
  exact PySem.W.kia_one (kit_exc C) I.kIn J e (fun z => nomatch z) fun tk => ⟨.bl b, H, I.kept (t' := tk) fun _ _ z => z, rfl, q⟩
end Vk

set_option maxHeartbeats 2000000
/-! several clauses «except X as n» behind one try -/
namespace L2
open PySem PySem.Spec PyProof.Rows
abbrev Clause := Value × Nat × (Addr → Value → Option Addr → TS)
/-- behind a suite its name is gone -/
def Ends.off (i : Nat) (D : Ends) : Ends := ⟨fun τ G => D.nx (τ.set i none) G, D.rt, fun τ G => D.bk (τ.set i none) G, fun τ G => D.ct (τ.set i none) G⟩
def wAses (K : PySem.W.Frag) (W0 : WX) (D : Ends) : List Clause → WX
  | [] => W0
  | q :: more => fun k dd τ G => ∃ hit, PySem.W.exmOne K k q.1 = some hit ∧ (hit = true → ∀ z, G z = none → q.2.2 z k dd (D.off q.2.1) (τ.set q.2.1 (some (.ref z))) G) ∧ (hit = false → wAses K W0 D more k dd τ G)
inductive AsOk (X : Cx) : List ExceptHandler → List Clause → Prop
  | nil : AsOk X [] []
  | cons {x n : Str} {c : Value} {i : Nat} {ts : Addr → Value → Option Addr → TS} {b0 : Stmt} {bs : List Stmt} {p1 p2 : Pos} {es : List ExceptHandler} {qs : List Clause} (hc : Names X x c) (hi : X.N[i]? = some n) (hk : X.env.kindOf n = some .local)
      (hsu : ∀ (z : Addr) (oz : Obj) (k : Value) (dd : Option Addr) (pn : List (Addr × Obj)), Zc k dd oz → (∃ vs, oz.data = .fields vs) → PSs (X.suite z ((z, oz) :: pn)) (b0 :: bs) (ts z k dd)) (more : AsOk X es qs) :
      AsOk X (.ExceptHandler (some (.Name x p1)) (some n) (b0 :: bs) p2 :: es) ((c, i, ts) :: qs)
section
variable {X : Cx} {body : List Stmt} {e0 : ExceptHandler} {es : List ExceptHandler} {qs : List Clause} {pos : Pos} {tb : WX → TS} {W0 : WX}
theorem ps_try_ases (hst : X.stack = X.env :: X.outer) (hfr : X.env.frame = some X.env.locals) (hnd : X.N.Nodup) (tk : Takes X W0)
    (hb : ∀ (W : WX) (pn : List (Addr × Obj)) (xe : Value → Shared → Prop), Takes (X.tr pn xe) W → PassesOwn (model X.prog X.w) X.A X.env xe → PSs (X.tr pn xe) body (tb W))
    (hh : AsOk X (e0 :: es) qs) : PS X (.Try body (e0 :: es) [] [] pos) (fun D τ G => tb (wAses X.K W0 D qs) D τ G) := by
  refine ⟨fun pins s τ0 G0 D inv0 wish => ?_⟩
  have okk := inv0.ok
  have frm : X.A.frames = some (X.env :: X.outer) := okk.frames.trans (congrArg some hst)
  refine wpAny_Try_except (wpAny_mono ((hb (wAses X.K W0 D qs) (X.pn ++ pins) (fun u t1 => wpAny (model X.prog X.w) X.A (noteFrame u X.env) (fun _ t2 => wpAny (model X.prog X.w) X.A (setFlight u none) (fun _ t3 =>
    wpAny (model X.prog X.w) X.A (handleBy u X.env (e0 :: es)) (SP X pins D) X.xe t3) X.xe t2) X.xe t1) (fun u t raised => ?caught) PassesOwn.looking).run [] s τ0 G0 D (inv0.toTry _) wish) (fun fl t got => ?through) (fun _ _ y => y))
  case through =>
    cases fl with
    | next => obtain ⟨τ, G, J, q⟩ := got; exact wpAny_execs_nil ⟨τ, G, J.ofTry okk, q⟩
    | brk => obtain ⟨τ, G, J, q⟩ := got; exact ⟨τ, G, J.ofTry okk, q⟩
    | cont => obtain ⟨τ, G, J, q⟩ := got; exact ⟨τ, G, J.ofTry okk, q⟩
    | ret u => obtain ⟨v, τ, G, J, r, q⟩ := got; exact ⟨v, τ, G, J.ofTry okk, r, q⟩
  case caught =>
    obtain ⟨z, B, sB, pins1, τ, G, k, dd, rfl, jT, bare, upB, inSky, zfree, os1, same1, wants⟩ := raised
    have j0 : Inv X pins τ G sB := jT.ofTry okk
    have inSky1 : Sky B (X.env :: X.outer) z (Zc k dd) X.env.locals t.heap := hst ▸ inSky
    show wpAny (model X.prog X.w) X.A (noteFrame (.ref z) X.env) _ _ _
    refine Sky.land Zc.steady frm hfr inSky1 fun hA flA upA => ?_
    have jA : Inv X pins τ G { t with heap := hA } := j0.landed bare flA.1 (upB.trans upA) os1 same1
    obtain ⟨oA, vA, getA, zcA, datA⟩ := flA.there
    have notF : z ∉ frs (X.env :: X.outer) := by
      intro hm
      obtain ⟨_, o', e', hnf⟩ := flA.2.2.1.mem hm
      rw [getA] at e'
      cases e'
      exact hnf _ datA
    have zL : z ≠ X.env.locals := fun y => notF (List.mem_filterMap.mpr ⟨X.env, List.mem_cons_self, hfr.trans (congrArg some y.symm)⟩)
    have zF : z ∉ X.fs := fun hm => by
      obtain ⟨en, hen, y⟩ := List.mem_filterMap.mp hm
      exact notF (List.mem_filterMap.mpr ⟨en, List.mem_cons_of_mem _ hen, y⟩)
    have jS := jA.suite getA datA zfree zL zF
    have turn : ∀ {es1 : List ExceptHandler} {qs1 : List Clause}, AsOk X es1 qs1 → wAses X.K W0 D qs1 k dd τ G → wpAny (model X.prog X.w) X.A (handleBy (.ref z) X.env es1) (SP X pins D) X.xe { t with heap := hA } := by
      intro es1 qs1 kk
      induction kk with
      | nil =>
        intro out
        refine wpAny_handleBy_nil ?_
        obtain ⟨_, _, _, oz, vs, Tr, oTr, tsr, geto, zco, dato, one, _⟩ := id flA
        unfold PySem.passOn
        refine wpAny_bind (wpAny_field geto dato one ?_)
        rw [if_neg (by simp : ¬ ((Value.ref Tr == Value.none) = true))]
        have away : wpAny (model X.prog X.w) X.A (setFlight (.ref z) X.env.frame) (fun _ t4 => wpAny (model X.prog X.w) X.A (throw (.ref z) : Sem Flow) (SP X pins D) X.xe t4) X.xe { t with heap := hA } := by
          rw [hfr]
          exact HandSPX.setFlight_upZ flA fun h4 sk4 up4 => wpAny_throw (tk _ _ ⟨z, B, sB, pins, τ, G, k, dd, rfl, j0, bare, (upB.trans upA).trans up4, .inr (.inr (hst.symm ▸ sk4)), zfree, os1, same1, out⟩)
        first | exact wpAny_bind (wpAny_pure (wpAny_bind away)) | exact wpAny_bind away
      | @cons x n c i ts b0 bs p1 p2 es2 qs2 hc hi hk hsu more ih =>
        rintro ⟨hit, isHit, onHit, offHit⟩
        refine wpAny_handleBy_cons (codeAny_handlers_test ?_) (by intro y; cases y)
        have looksT : PySem.W.Looks (model X.prog X.w) hA (typeOf (.ref z)) k := fun A Q E s kp y => wpAny_typeOf_ref (kp _ _ getA) (by rw [zcA.1]; exact y)
        have looksM := PySem.W.exm_one (M := model X.prog X.w) jA.kIn looksT isHit
        have named : ∀ {Q : Value → Shared → Prop} {E : Value → Shared → Prop}, Q c { t with heap := hA } → wpAny (model X.prog X.w) (X.A.mark (some (.ref z))) (eval (.Name x p1) X.env) Q E { t with heap := hA } := fun {Q E} y =>
          match hc with
          | ⟨hg, hdb, .inl hm⟩ => ld_glob (X := X.suite z ((z, oA) :: (X.pn ++ pins))) jS hg hm y hdb
          | ⟨hg, hdb, .inr ⟨hm, hv, hnn⟩⟩ => ld_blt (X := X.suite z ((z, oA) :: (X.pn ++ pins))) jS hg hm hv y hnn hdb
        refine named (looksM.here ?_)
        cases hit with
        | false => exact ih (offHit rfl)
        | true =>
          refine codeAny_handlers_suite_as (HandSPX.lands_againZ flA fun hB flB upB2 => ?_)
          have jB : Inv X pins τ G { t with heap := hB } := j0.landed bare flB.1 ((upB.trans upA).trans upB2) os1 same1
          obtain ⟨oB, vB, getB, zcB, datB⟩ := flB.there
          have jSB := jB.suite getB datB zfree zL zF
          refine store_ok (X := X.suite z ((z, oB) :: (X.pn ++ pins))) (v := .ref z) jSB hnd hi (.inl hk) rfl (fun t5 S5 => ?_) (.inr hk)
          refine wpAny_mono ((hsu z oB k dd (X.pn ++ pins) zcB ⟨_, datB⟩).run [] t5 _ G _ S5 (onHit rfl z zfree)) (fun fl t6 got => ?_) (fun _ _ y => y.elim)
          have fin : ∀ {τ6 : St} {G6 : Hp} {Q : Shared → Prop}, Inv (X.suite z ((z, oB) :: (X.pn ++ pins))) [] τ6 G6 t6 → (∀ t7, Inv X pins (τ6.set i none) G6 t7 → Q t7) →
              wpAny (model X.prog X.w) X.A (do bindName X.env n .none; unbindBehindTheSuite X.env n p2) (fun _ t7 => Q t7) X.xe t6 := fun S6 hq => gone_ok (S6.unsuite okk) hnd hi hk hq
          cases fl with
          | next => obtain ⟨_, _, S6, q6⟩ := got; exact fin S6 fun _ J7 => ⟨_, _, J7, q6⟩
          | brk => obtain ⟨_, _, S6, q6⟩ := got; exact fin S6 fun _ J7 => ⟨_, _, J7, q6⟩
          | cont => obtain ⟨_, _, S6, q6⟩ := got; exact fin S6 fun _ J7 => ⟨_, _, J7, q6⟩
          | ret u => obtain ⟨_, _, _, S6, r6, q6⟩ := got; exact fin S6 fun _ J7 => ⟨_, _, _, J7, r6, q6⟩
    exact turn hh wants
end
end L2

/-! defs that may raise, and calls with keywords -/
namespace Vk
open PySem L2 PyProof.Rows
/-- a def that may raise: its promise says when -/
structure DefX (P : Program) (w : World) (K : PySem.W.Frag) (mg : Str → Option Value) (base : Heap) (k : Nat) (x : Str) (ps : List Str) (sp : Sp) (f : Addr) (fd : FuncData) : Prop where
  ok : FnOk P w K mg base (L2.CX P w) k f fd ps sp
  m : mg x = some (.ref f)
  kp : PySem.W.keepIn K (.ref f) = true
  b : Binds K fd ps []
theorem DefX.up {P : Program} {w : World} {K : PySem.W.Frag} {mg : Str → Option Value} {base : Heap} {j k : Nat} {x : Str} {ps : List Str} {sp : Sp} {f : Addr} {fd : FuncData} (d : DefX P w K mg base j x ps sp f fd) (h : j ≤ k) : DefX P w K mg base k x ps sp f fd := ⟨d.ok.mono h, d.m, d.kp, d.b⟩
/-- with n values by place and keywords ks -/
structure DefXN (P : Program) (w : World) (K : PySem.W.Frag) (mg : Str → Option Value) (base : Heap) (k : Nat) (x : Str) (ps : List Str) (n : Nat) (ks : List Str) (sp : Sp) (f : Addr) (fd : FuncData) : Prop where
  ok : FnOk P w K mg base (L2.CX P w) k f fd ps sp
  m : mg x = some (.ref f)
  kp : PySem.W.keepIn K (.ref f) = true
  b : KBn K fd ps n ks (fun us ws => us ++ ws) (fun vs zs => vs ++ zs)
theorem DefXN.up {P : Program} {w : World} {K : PySem.W.Frag} {mg : Str → Option Value} {base : Heap} {j k n : Nat} {x : Str} {ps ks : List Str} {sp : Sp} {f : Addr} {fd : FuncData} (d : DefXN P w K mg base j x ps n ks sp f fd) (h : j ≤ k) : DefXN P w K mg base k x ps n ks sp f fd := ⟨d.ok.mono h, d.m, d.kp, d.b⟩
theorem vals_app : ∀ {vs : List V} {us : List Value} {zs : List V} {ws : List Value}, Vals vs us → Vals zs ws → Vals (vs ++ zs) (us ++ ws)
  | _, _, _, _, .nil, h => h
  | _, _, _, _, .cons r t, h => .cons r (vals_app t h)
/-- keyword-only parameters without defaults, all given -/
theorem kbn_of {K : PySem.W.Frag} {x qual : Str} {st : Stmt} {f : Addr} {fd : FuncData} {ps ks : List Str} {n : Nat} (F : Fun K x qual st f fd)
    (h : ∀ (kV doc pm : Value) (an : Option Addr) (cdv ct : Value) (us ws : List Value), us.length = n → ws.length = ks.length → bindArgs (PySem.W.fnOf x qual (defArgs st) (defBody st) (defScope st) .none kV doc pm an cdv ct) ⟨us, ks.zip ws⟩ = pure (ps.zip (us ++ ws))) :
    KBn K fd ps n ks (fun us ws => us ++ ws) (fun vs zs => vs ++ zs) := by
  obtain ⟨oc, od, kV, doc, pm, an, cdv, ct, osl, rfl, lk, hcd⟩ := F.ex
  exact ⟨fun s us ws _ l1 l2 => BindsTo.of_eq (h kV doc pm an cdv ct us ws l1 l2), vals_app⟩
section
variable {X : Cx} {k n : Nat} {f : Addr} {fd : FuncData} {ps ks : List Str} {sp : Sp} {x : Str} {p pos : Pos} {e : Expr} {es : List Expr} {kws : List Keyword} {t tkw : TA} {W : WX}
/-- called where nothing is let out -/
theorem pcallL (D : DefX X.prog X.w X.K X.mg X.base k x ps sp f fd) (hr : Room k X.A) (ha : PA X (e :: es) t)
    (hg : Gl X x := by rfl) (hdb : (x == ("__debug__" : Str)) = false := by decide) (he : starEach (e :: es) X.env = (false, eval e X.env) :: starEach es X.env := by rfl) (hpl : (backTo pos (starEach es X.env)).any (·.1) = false := by rfl) :
    PE X (.Call (.Name x p) (e :: es) [] pos) (tCall sp [] E0 t) := pe_call D.ok hr hg D.m D.kp D.b .nil passL ha hdb he hpl
/-- called where the wish W takes what it raises -/
theorem pcallX (D : DefX X.prog X.w X.K X.mg X.base k x ps sp f fd) (hr : Room k X.A) (tk : Takes X W) (ha : PA X (e :: es) t)
    (hg : Gl X x := by rfl) (hdb : (x == ("__debug__" : Str)) = false := by decide) (he : starEach (e :: es) X.env = (false, eval e X.env) :: starEach es X.env := by rfl) (hpl : (backTo pos (starEach es X.env)).any (·.1) = false := by rfl) :
    PE X (.Call (.Name x p) (e :: es) [] pos) (tCallS sp (WE W) t) := pe_callS D.ok hr hg D.m D.kp D.b (fun σ => passAt tk σ) ha hdb he hpl
theorem pcallLN (D : DefXN X.prog X.w X.K X.mg X.base k x ps n ks sp f fd) (hr : Room k X.A) (ha : PA X (e :: es) t) (hkw : PK X kws tkw)
    (hg : Gl X x := by rfl) (hall : (backToKw pos (keywordEach kws X.env)).all (·.1.isSome) = true := by rfl) (hks : (backToKw pos (keywordEach kws X.env)).filterMap (·.1) = ks := by rfl)
    (hdb : (x == ("__debug__" : Str)) = false := by decide) (he : starEach (e :: es) X.env = (false, eval e X.env) :: starEach es X.env := by rfl)
    (hpl : ((backTo pos (starEach (e :: es) X.env)).any (·.1) || (backToKw pos (keywordEach kws X.env)).any (·.1.isNone)) = false := by rfl) :
    PE X (.Call (.Name x p) (e :: es) kws pos) (tCallN n ks.length sp (fun vs zs => vs ++ zs) E0 t tkw) := pe_callN D.ok hr hg D.m D.kp D.b passL ha hkw hall hks hdb he hpl
def tCallNS (n m : Nat) (sp : Sp) (E : L2.St → XK) (t tkw : TA) : TE := fun σ H Q => t σ H fun vs H1 => tkw σ H1 fun zs H2 => vs.length = n ∧ zs.length = m ∧ sp (vs ++ zs) H2 Q (E σ)
theorem pcallXN (D : DefXN X.prog X.w X.K X.mg X.base k x ps n ks sp f fd) (hr : Room k X.A) (tk : Takes X W) (ha : PA X (e :: es) t) (hkw : PK X kws tkw)
    (hg : Gl X x := by rfl) (hall : (backToKw pos (keywordEach kws X.env)).all (·.1.isSome) = true := by rfl) (hks : (backToKw pos (keywordEach kws X.env)).filterMap (·.1) = ks := by rfl)
    (hdb : (x == ("__debug__" : Str)) = false := by decide) (he : starEach (e :: es) X.env = (false, eval e X.env) :: starEach es X.env := by rfl)
    (hpl : ((backTo pos (starEach (e :: es) X.env)).any (·.1) || (backToKw pos (keywordEach kws X.env)).any (·.1.isNone)) = false := by rfl) :
    PE X (.Call (.Name x p) (e :: es) kws pos) (tCallNS n ks.length sp (WE W) t tkw) := by
  refine ⟨fun pins s σ H Q I wish => wpAny_Call_Name_kw (ld_glob I hg D.m ?_ hdb)⟩
  refine PySem.W.callWith_KW (h₀ := X.base) I.ok.mod.kin D.kp hall (thn (ha.run pos pins s σ H _ I wish) fun us s1 ⟨vs, H1, I1, r1, q1⟩ => ?_) hpl he
  refine thn (hkw.run pos pins s1 σ H1 _ I1 q1) fun ws s2 ⟨zs, H2, I2, r2, l1, l2, q2⟩ => ⟨I2.kIn, ?_⟩
  rw [hks]
  refine wpAny_call (codeAny_mono (D.ok.run X.A X.stack s2 H2 ⟨us, ks.zip ws⟩ (us ++ ws) (vs ++ zs) Q _ hr I2.env0 (D.b.to s2 us ws I2.kIn (r1.length.symm.trans l1) (r2.length.symm.trans l2)) (D.b.rel r1 r2) q2) fun r s' hq => ?_)
  match r with
  | .error u => exact passAt tk σ pins H2 s2 u s' I2 hq
  | .ok (.ret u) => exact I2.after hq
  | .ok .next => exact hq.elim
  | .ok .brk => exact hq.elim
  | .ok .cont => exact hq.elim
end
/-- a def with keyword-only parameters, as it stands -/
structure FnK (K : PySem.W.Frag) (mg : Str → Option Value) (x : Str) (st : Stmt) (f : Addr) (fd : FuncData) : Prop where
  F : Fun K x x st f fd
  m : mg x = some (.ref f)
/-- what a raised error of the class C with this value wishes -/
def eV (E : XK) (C : Addr) (H : Hp) (v : V) : Prop := ∀ d, H d = none → E (.ref C) (some d) (upd H d (.xd [(("value" : Str), v)]))
end Vk

set_option maxHeartbeats 4000000
/-! A def that a caught error is passed to, from within the suite that holds it. -/
namespace Vk
open PySem PySem.Spec PyProof.Rows L2 L2H
/-- a def's promise about the error at hand -/
structure FnP (P : Program) (w : World) (K : PySem.W.Frag) (mg : Str → Option Value) (base : Heap) (k : Nat) (f : Addr) (fd : FuncData) (ps : List Str) (sp : Addr × Obj → Sp) : Prop where
  many : ∀ p vs H Q E, sp p vs H Q E → vs.length = ps.length
  go : ∀ (A : Around) (outer : List Env) (s : Shared) (H : Hp) (args : Args) (us : List Value) (vs : List V) (Q : VK) (E : XK) (p : Addr × Obj), RoomH k A → Hot1 A p → PinOk outer H s p →
    Env0 P w K mg base A outer s H → BindsTo s fd args (ps.zip us) → Vals vs us → sp p vs H Q E → codeAny (model P w) A (.call (.ref f) args) (CR CX0 outer P w H s Q E) s
theorem fnp_mk {P : Program} {w : World} {K : PySem.W.Frag} {mg : Str → Option Value} {base : Heap} {k : Nat} {f : Addr} {nm qual : Str} {pars : Arguments} {bod : List Stmt} {sco : Scope} {dV kV doc pm cdv ct oc : Value} {an od : Option Addr} {osl : Array (Option Value)} {N ps : List Str}
    {sp : Addr × Obj → Sp} (at_ : K.lookup f = some ⟨oc, od, .func (PySem.W.fnOf nm qual pars bod sco dV kV doc pm an cdv ct), osl⟩) (code : PySem.W.codeIn K cdv qual = true) (S : FnScope N ps sco) (many : ∀ p vs H Q E, sp p vs H Q E → vs.length = ps.length)
    (runs : ∀ (A : Around) (outer : List Env) (s : Shared) (H : Hp) (vs : List V) (Q : VK) (E : XK) (p : Addr × Obj), Hot1 A p → RoomH k (A.deeper (envOfC qual sco s.heap.objs.size f cdv)) → sp p vs H Q E →
      ∃ t, PSs (cxH CX0 P w K mg base N qual sco f cdv A outer s H E p) bod t ∧ t { nx := fun _ G => Q .non G, rt := Q } (L2.start N vs) H) : FnP P w K mg base (k + 1) f (PySem.W.fnOf nm qual pars bod sco dV kV doc pm an cdv ct) ps sp := by
  refine ⟨many, ?_⟩
  intro A outer s H args us vs Q E p room hot pin e0 bound rel want
  have cnt := many _ _ _ _ _ want
  have old : ∀ b o, base.get? b = some o → s.heap.get? b = some o := fun b o e => (e0.bs b o e).1
  have kin := e0.mod.kin.keeps old
  have nol := e0.mod.nolimit.keeps old
  have kinds : ∀ y ∈ ps.zip us, sco.names.lookup y.1 = some .local ∨ (sco.names.lookup y.1 = some .cell ∧ ((cellsFrom (s.heap.objs.size + 1) sco.names []).lookup y.1).isSome = true) := by
    rintro ⟨n, v⟩ hy
    rcases S.par n (List.of_mem_zip hy).1 with c | c
    · exact Or.inl c
    · exact Or.inr ⟨c, PySem.W.cellsFrom_some _ _ _ (.inl c)⟩
  refine codeAny_call_function room.depth (kin _ _ at_) rfl S.co S.gen rfl (PySem.W.codeRec_of kin code) (bound _ _ _ _ ?_)
  refine wpAny_newFunctionEnv_cells S.kind kinds fun env eenv s1 inC => ?_
  subst eenv
  refine ⟨nol.keeps inC.toInCall.keep, codeAny_func ?_⟩
  obtain ⟨t, ht, q⟩ := runs A outer s H vs Q E p hot (room.deeper _) want
  have I := inv_startH (CX := CX0) (E := E) S pin e0 cnt rel inC
  refine wpAny_mono (ht.run [] s1 (L2.start N vs) H _ I q) (fun fl s2 hs => ?_) fun _ _ h => h
  have out : ∀ {σ2 : L2.St} {G : Hp} {v : V} {u : Value}, Inv (cxH CX0 P w K mg base N qual sco f cdv A outer s H E p) [] σ2 G s2 → RelV v u → Q v G → CE outer P w H s Q u s2 := by
    intro σ2 G v u J r z
    exact ⟨v, G, J.os, J.bare, J.base, J.hok, r, z⟩
  cases fl with
  | ret u =>
    obtain ⟨v, _, _, J, r, z⟩ := hs
    exact out J r z
  | next =>
    obtain ⟨_, _, J, z⟩ := hs
    exact out (v := V.non) (u := Value.none) J rfl z
  | brk =>
    obtain ⟨_, _, _, z⟩ := hs
    exact z.elim
  | cont =>
    obtain ⟨_, _, _, z⟩ := hs
    exact z.elim
/-- f(e), e the error that is at hand -/
theorem pe_callP {X : Cx} {k : Nat} {f : Addr} {fd : FuncData} {ps : List Str} {sp : Addr × Obj → Sp} {p : Addr × Obj} {x : Str} {q pos : Pos} {e : Expr} {es : List Expr} {t : TA} (F : FnP X.prog X.w X.K X.mg X.base k f fd ps sp) (room : RoomH k X.A) (hot : Hot1 X.A p) (hp : p ∈ X.pn)
    (hg : Gl X x) (hm : X.mg x = some (.ref f)) (kp : PySem.W.keepIn X.K (.ref f) = true) (hb : Binds X.K fd ps []) (ha : PA X (e :: es) t) (hdb : (x == ("__debug__" : Str)) = false := by decide)
    (he : starEach (e :: es) X.env = (false, eval e X.env) :: starEach es X.env := by rfl) (hpl : (backTo pos (starEach es X.env)).any (·.1) = false := by rfl) : PE X (.Call (.Name x q) (e :: es) [] pos) (tCall (sp p) [] E0 t) := by
  refine ⟨?_⟩
  intro pins s σ H Q I want
  refine wpAny_Call_Name_kw (ld_glob I hg hm ?_ hdb)
  refine PySem.W.callWith_K (h₀ := X.base) I.ok.mod.kin kp (thn (ha.run pos pins s σ H _ I want) ?_) he hpl
  rintro us s1 ⟨vs, H1, I1, r, z⟩
  refine ⟨I1.kIn, ?_⟩
  have z : sp p vs H1 Q E0 := by rw [List.append_nil] at z; exact z
  have cnt : us.length = ps.length := by rw [← r.length]; exact F.many _ _ _ _ _ z
  have bound := hb s1 us I1.kIn (by rw [List.append_nil]; exact cnt)
  rw [List.append_nil] at bound
  have at1 := I1.pin p (List.mem_append_left _ hp)
  have pin : PinOk X.stack H1 s1 p := ⟨at1.1, at1.2.1, fun m => (List.mem_cons.mp (I1.stkSub p.1 m)).elim at1.2.2.1 at1.2.2.2.1, at1.2.2.2.2⟩
  refine wpAny_call (codeAny_mono (F.go X.A X.stack s1 H1 ⟨us, []⟩ us vs Q E0 p room hot pin I1.env0 bound r z) ?_)
  intro res s2 out
  cases res with
  | error _ => exact out.elim
  | ok fl =>
    cases fl with
    | ret u => exact I1.after out
    | next => exact out.elim
    | brk => exact out.elim
    | cont => exact out.elim
/-- isinstance of an error that the context holds -/
theorem call_isP {X : Cx} {a D : Addr} {oe : Obj} {d : Option Addr} (C : ExcC X.K D) (hz : Zc (.ref D) d oe) (hf : ∃ vs, oe.data = .fields vs) (hp : (a, oe) ∈ X.pn) : CallR X (.builtin "isinstance") (rIsG X.K D a d) := by
  intro pins s σ H xs us Q I r h
  obtain ⟨c, cv, b, rfl, hcv, hd, e, q⟩ := h
  obtain ⟨u1, u2, rfl, r1, r2⟩ := vals2 r
  obtain rfl : u1 = Value.ref a := r1
  have ec := hcv.eq r2
  subst ec
  obtain ⟨hget, _⟩ := I.pin (a, oe) (List.mem_append_left _ hp)
  obtain ⟨vs, hv⟩ := hf
  obtain ⟨od, J⟩ : ∃ od, PySem.W.InstAt s.heap a oe D od := by
    have no : PySem.W.notCls oe = true := by unfold PySem.W.notCls; rw [hv] <;> rfl
    rcases hd with rfl | ⟨dd, fs, rfl, hdd⟩
    · exact ⟨none, hget, hz.1, no, by rw [hz.2]; trivial⟩
    · have hx : ObjOk X.prog X.w H s.heap dd (.xd fs) := I.hok dd _ hdd
      obtain ⟨mA, hns, _⟩ := hx
      obtain ⟨o, ho, _⟩ := lookIn_ns hns
      exact ⟨some o, hget, hz.1, no, by rw [hz.2]; exact ho⟩
  exact PySem.W.kia_one (kit_exc C) I.kIn J e (fun z => nomatch z) fun tk => ⟨.bl b, H, I.kept (t' := tk) fun _ _ z => z, rfl, q⟩
end Vk

set_option maxHeartbeats 2000000
/-! several clauses «except X as n» behind one try -/
namespace L2N
open PySem PySem.Spec PyProof.Rows L2
inductive AsOk (X : Cx) : List ExceptHandler → List Clause → Prop
  | nil : AsOk X [] []
  | cons {x n : Str} {c : Value} {i : Nat} {ts : Addr → Value → Option Addr → TS} {b0 : Stmt} {bs : List Stmt} {p1 p2 : Pos} {es : List ExceptHandler} {qs : List Clause} (hc : Names X x c) (hi : X.N[i]? = some n) (hk : X.env.kindOf n = some .local)
      (hsu : ∀ (z : Addr) (oz : Obj) (k : Value) (dd : Option Addr) (pn : List (Addr × Obj)), Zn k dd oz → (∃ vs, oz.data = .fields vs) → PSs (X.suite z ((z, oz) :: pn)) (b0 :: bs) (ts z k dd)) (more : AsOk X es qs) :
      AsOk X (.ExceptHandler (some (.Name x p1)) (some n) (b0 :: bs) p2 :: es) ((c, i, ts) :: qs)
section
variable {X : Cx} {body : List Stmt} {e0 : ExceptHandler} {es : List ExceptHandler} {qs : List Clause} {pos : Pos} {tb : WX → TS} {W0 : WX}
theorem ps_try_ases (hst : X.stack = X.env :: X.outer) (hfr : X.env.frame = some X.env.locals) (hnd : X.N.Nodup) (tk : Takes X W0)
    (hb : ∀ (W : WX) (pn : List (Addr × Obj)) (xe : Value → Shared → Prop), Takes (X.tr pn xe) W → PassesOwn (model X.prog X.w) X.A X.env xe → PSs (X.tr pn xe) body (tb W))
    (hh : AsOk X (e0 :: es) qs) : PS X (.Try body (e0 :: es) [] [] pos) (fun D τ G => tb (wAses X.K W0 D qs) D τ G) := by
  refine ⟨fun pins s τ0 G0 D inv0 wish => ?_⟩
  have okk := inv0.ok
  have frm : X.A.frames = some (X.env :: X.outer) := okk.frames.trans (congrArg some hst)
  refine wpAny_Try_except (wpAny_mono ((hb (wAses X.K W0 D qs) (X.pn ++ pins) (fun u t1 => wpAny (model X.prog X.w) X.A (noteFrame u X.env) (fun _ t2 => wpAny (model X.prog X.w) X.A (setFlight u none) (fun _ t3 =>
    wpAny (model X.prog X.w) X.A (handleBy u X.env (e0 :: es)) (SP X pins D) X.xe t3) X.xe t2) X.xe t1) (fun u t raised => ?caught) PassesOwn.looking).run [] s τ0 G0 D (inv0.toTry _) wish) (fun fl t got => ?through) (fun _ _ y => y))
  case through =>
    cases fl with
    | next => obtain ⟨τ, G, J, q⟩ := got; exact wpAny_execs_nil ⟨τ, G, J.ofTry okk, q⟩
    | brk => obtain ⟨τ, G, J, q⟩ := got; exact ⟨τ, G, J.ofTry okk, q⟩
    | cont => obtain ⟨τ, G, J, q⟩ := got; exact ⟨τ, G, J.ofTry okk, q⟩
    | ret u => obtain ⟨v, τ, G, J, r, q⟩ := got; exact ⟨v, τ, G, J.ofTry okk, r, q⟩
  case caught =>
    obtain ⟨z, B, sB, pins1, τ, G, k, dd, rfl, jT, bare, upB, inSky, zfree, os1, same1, wants⟩ := raised
    have j0 : Inv X pins τ G sB := jT.ofTry okk
    have inSky1 : Sky B (X.env :: X.outer) z (Zn k dd) X.env.locals t.heap := hst ▸ inSky
    show wpAny (model X.prog X.w) X.A (noteFrame (.ref z) X.env) _ _ _
    refine Sky.land Zn.steady frm hfr inSky1 fun hA flA upA => ?_
    have jA : Inv X pins τ G { t with heap := hA } := j0.landed bare flA.1 (upB.trans upA) os1 same1
    obtain ⟨oA, vA, getA, zcA, datA⟩ := flA.there
    have notF : z ∉ frs (X.env :: X.outer) := by
      intro hm
      obtain ⟨_, o', e', hnf⟩ := flA.2.2.1.mem hm
      rw [getA] at e'
      cases e'
      exact hnf _ datA
    have zL : z ≠ X.env.locals := fun y => notF (List.mem_filterMap.mpr ⟨X.env, List.mem_cons_self, hfr.trans (congrArg some y.symm)⟩)
    have zF : z ∉ X.fs := fun hm => by
      obtain ⟨en, hen, y⟩ := List.mem_filterMap.mp hm
      exact notF (List.mem_filterMap.mpr ⟨en, List.mem_cons_of_mem _ hen, y⟩)
    have jS := jA.suite getA datA zfree zL zF
    have turn : ∀ {es1 : List ExceptHandler} {qs1 : List Clause}, AsOk X es1 qs1 → wAses X.K W0 D qs1 k dd τ G → wpAny (model X.prog X.w) X.A (handleBy (.ref z) X.env es1) (SP X pins D) X.xe { t with heap := hA } := by
      intro es1 qs1 kk
      induction kk with
      | nil =>
        intro out
        refine wpAny_handleBy_nil ?_
        obtain ⟨_, _, _, oz, vs, Tr, oTr, tsr, geto, zco, dato, one, _⟩ := id flA
        unfold PySem.passOn
        refine wpAny_bind (wpAny_field geto dato one ?_)
        rw [if_neg (by simp : ¬ ((Value.ref Tr == Value.none) = true))]
        have away : wpAny (model X.prog X.w) X.A (setFlight (.ref z) X.env.frame) (fun _ t4 => wpAny (model X.prog X.w) X.A (throw (.ref z) : Sem Flow) (SP X pins D) X.xe t4) X.xe { t with heap := hA } := by
          rw [hfr]
          exact HandSPX.setFlight_upZ flA fun h4 sk4 up4 => wpAny_throw (tk _ _ ⟨z, B, sB, pins, τ, G, k, dd, rfl, j0, bare, (upB.trans upA).trans up4, .inr (.inr (hst.symm ▸ sk4)), zfree, os1, same1, out⟩)
        first | exact wpAny_bind (wpAny_pure (wpAny_bind away)) | exact wpAny_bind away
      | @cons x n c i ts b0 bs p1 p2 es2 qs2 hc hi hk hsu more ih =>
        rintro ⟨hit, isHit, onHit, offHit⟩
        refine wpAny_handleBy_cons (codeAny_handlers_test ?_) (by intro y; cases y)
        have looksT : PySem.W.Looks (model X.prog X.w) hA (typeOf (.ref z)) k := fun A Q E s kp y => wpAny_typeOf_ref (kp _ _ getA) (by rw [zcA.1]; exact y)
        have looksM := PySem.W.exm_one (M := model X.prog X.w) jA.kIn looksT isHit
        have named : ∀ {Q : Value → Shared → Prop} {E : Value → Shared → Prop}, Q c { t with heap := hA } → wpAny (model X.prog X.w) (X.A.mark (some (.ref z))) (eval (.Name x p1) X.env) Q E { t with heap := hA } := fun {Q E} y =>
          match hc with
          | ⟨hg, hdb, .inl hm⟩ => ld_glob (X := X.suite z ((z, oA) :: (X.pn ++ pins))) jS hg hm y hdb
          | ⟨hg, hdb, .inr ⟨hm, hv, hnn⟩⟩ => ld_blt (X := X.suite z ((z, oA) :: (X.pn ++ pins))) jS hg hm hv y hnn hdb
        refine named (looksM.here ?_)
        cases hit with
        | false => exact ih (offHit rfl)
        | true =>
          refine codeAny_handlers_suite_as (HandSPX.lands_againZ flA fun hB flB upB2 => ?_)
          have jB : Inv X pins τ G { t with heap := hB } := j0.landed bare flB.1 ((upB.trans upA).trans upB2) os1 same1
          obtain ⟨oB, vB, getB, zcB, datB⟩ := flB.there
          have jSB := jB.suite getB datB zfree zL zF
          refine store_ok (X := X.suite z ((z, oB) :: (X.pn ++ pins))) (v := .ref z) jSB hnd hi (.inl hk) rfl (fun t5 S5 => ?_) (.inr hk)
          refine wpAny_mono ((hsu z oB k dd (X.pn ++ pins) zcB ⟨_, datB⟩).run [] t5 _ G _ S5 (onHit rfl z zfree)) (fun fl t6 got => ?_) (fun _ _ y => y.elim)
          have fin : ∀ {τ6 : St} {G6 : Hp} {Q : Shared → Prop}, Inv (X.suite z ((z, oB) :: (X.pn ++ pins))) [] τ6 G6 t6 → (∀ t7, Inv X pins (τ6.set i none) G6 t7 → Q t7) →
              wpAny (model X.prog X.w) X.A (do bindName X.env n .none; unbindBehindTheSuite X.env n p2) (fun _ t7 => Q t7) X.xe t6 := fun S6 hq => gone_ok (S6.unsuite okk) hnd hi hk hq
          cases fl with
          | next => obtain ⟨_, _, S6, q6⟩ := got; exact fin S6 fun _ J7 => ⟨_, _, J7, q6⟩
          | brk => obtain ⟨_, _, S6, q6⟩ := got; exact fin S6 fun _ J7 => ⟨_, _, J7, q6⟩
          | cont => obtain ⟨_, _, S6, q6⟩ := got; exact fin S6 fun _ J7 => ⟨_, _, J7, q6⟩
          | ret u => obtain ⟨_, _, _, S6, r6, q6⟩ := got; exact fin S6 fun _ J7 => ⟨_, _, _, J7, r6, q6⟩
    exact turn hh wants
end
end L2N

/-! defs that may raise, where the context of exceptions is told, too -/
namespace Vk
open PySem L2 PyProof.Rows
theorem passLY {X : Cx} : Passes (L2N.CX X.prog X.w) X E0 := fun _ _ _ _ _ _ _ h => by
  obtain ⟨_, _, _, _, _, _, _, _, _, _, _, _, z⟩ := h
  exact z.elim
theorem takes0Y {X : Cx} : L2N.Takes X (fun _ _ _ _ => False) := fun _ _ x => by
  obtain ⟨_, _, _, _, _, _, _, _, _, _, _, _, _, _, _, _, z⟩ := x
  exact z.elim
structure DefY (P : Program) (w : World) (K : PySem.W.Frag) (mg : Str → Option Value) (base : Heap) (k : Nat) (x : Str) (ps : List Str) (sp : Sp) (f : Addr) (fd : FuncData) : Prop where
  ok : FnOk P w K mg base (L2N.CX P w) k f fd ps sp
  m : mg x = some (.ref f)
  kp : PySem.W.keepIn K (.ref f) = true
  b : Binds K fd ps []
theorem DefY.up {P : Program} {w : World} {K : PySem.W.Frag} {mg : Str → Option Value} {base : Heap} {j k : Nat} {x : Str} {ps : List Str} {sp : Sp} {f : Addr} {fd : FuncData} (d : DefY P w K mg base j x ps sp f fd) (h : j ≤ k) : DefY P w K mg base k x ps sp f fd := ⟨d.ok.mono h, d.m, d.kp, d.b⟩
structure DefYN (P : Program) (w : World) (K : PySem.W.Frag) (mg : Str → Option Value) (base : Heap) (k : Nat) (x : Str) (ps : List Str) (n : Nat) (ks : List Str) (sp : Sp) (f : Addr) (fd : FuncData) : Prop where
  ok : FnOk P w K mg base (L2N.CX P w) k f fd ps sp
  m : mg x = some (.ref f)
  kp : PySem.W.keepIn K (.ref f) = true
  b : KBn K fd ps n ks (fun us ws => us ++ ws) (fun vs zs => vs ++ zs)
theorem DefYN.up {P : Program} {w : World} {K : PySem.W.Frag} {mg : Str → Option Value} {base : Heap} {j k n : Nat} {x : Str} {ps ks : List Str} {sp : Sp} {f : Addr} {fd : FuncData} (d : DefYN P w K mg base j x ps n ks sp f fd) (h : j ≤ k) : DefYN P w K mg base k x ps n ks sp f fd := ⟨d.ok.mono h, d.m, d.kp, d.b⟩
/-- a def that an error at hand is passed to -/
structure DefP (P : Program) (w : World) (K : PySem.W.Frag) (mg : Str → Option Value) (base : Heap) (k : Nat) (x : Str) (ps : List Str) (sp : Addr × Obj → Sp) (f : Addr) (fd : FuncData) : Prop where
  ok : FnP P w K mg base k f fd ps sp
  m : mg x = some (.ref f)
  kp : PySem.W.keepIn K (.ref f) = true
  b : Binds K fd ps []
section
variable {X : Cx} {k n : Nat} {f : Addr} {fd : FuncData} {ps ks : List Str} {sp : Sp} {x : Str} {p pos : Pos} {e : Expr} {es : List Expr} {kws : List Keyword} {t tkw : TA} {W : WX}
theorem pcallYL (D : DefY X.prog X.w X.K X.mg X.base k x ps sp f fd) (hr : Room k X.A) (ha : PA X (e :: es) t)
    (hg : Gl X x := by rfl) (hdb : (x == ("__debug__" : Str)) = false := by decide) (he : starEach (e :: es) X.env = (false, eval e X.env) :: starEach es X.env := by rfl) (hpl : (backTo pos (starEach es X.env)).any (·.1) = false := by rfl) :
    PE X (.Call (.Name x p) (e :: es) [] pos) (tCall sp [] E0 t) := pe_call D.ok hr hg D.m D.kp D.b .nil passLY ha hdb he hpl
theorem pcallY (D : DefY X.prog X.w X.K X.mg X.base k x ps sp f fd) (hr : Room k X.A) (tk : L2N.Takes X W) (ha : PA X (e :: es) t)
    (hg : Gl X x := by rfl) (hdb : (x == ("__debug__" : Str)) = false := by decide) (he : starEach (e :: es) X.env = (false, eval e X.env) :: starEach es X.env := by rfl) (hpl : (backTo pos (starEach es X.env)).any (·.1) = false := by rfl) :
    PE X (.Call (.Name x p) (e :: es) [] pos) (tCallS sp (WE W) t) := pe_callS D.ok hr hg D.m D.kp D.b (fun σ => L2N.passAt tk σ) ha hdb he hpl
theorem pcallYLN (D : DefYN X.prog X.w X.K X.mg X.base k x ps n ks sp f fd) (hr : Room k X.A) (ha : PA X (e :: es) t) (hkw : PK X kws tkw)
    (hg : Gl X x := by rfl) (hall : (backToKw pos (keywordEach kws X.env)).all (·.1.isSome) = true := by rfl) (hks : (backToKw pos (keywordEach kws X.env)).filterMap (·.1) = ks := by rfl)
    (hdb : (x == ("__debug__" : Str)) = false := by decide) (he : starEach (e :: es) X.env = (false, eval e X.env) :: starEach es X.env := by rfl)
    (hpl : ((backTo pos (starEach (e :: es) X.env)).any (·.1) || (backToKw pos (keywordEach kws X.env)).any (·.1.isNone)) = false := by rfl) :
    PE X (.Call (.Name x p) (e :: es) kws pos) (tCallN n ks.length sp (fun vs zs => vs ++ zs) E0 t tkw) := pe_callN D.ok hr hg D.m D.kp D.b passLY ha hkw hall hks hdb he hpl
theorem pcallYN (D : DefYN X.prog X.w X.K X.mg X.base k x ps n ks sp f fd) (hr : Room k X.A) (tk : L2N.Takes X W) (ha : PA X (e :: es) t) (hkw : PK X kws tkw)
    (hg : Gl X x := by rfl) (hall : (backToKw pos (keywordEach kws X.env)).all (·.1.isSome) = true := by rfl) (hks : (backToKw pos (keywordEach kws X.env)).filterMap (·.1) = ks := by rfl)
    (hdb : (x == ("__debug__" : Str)) = false := by decide) (he : starEach (e :: es) X.env = (false, eval e X.env) :: starEach es X.env := by rfl)
    (hpl : ((backTo pos (starEach (e :: es) X.env)).any (·.1) || (backToKw pos (keywordEach kws X.env)).any (·.1.isNone)) = false := by rfl) :
    PE X (.Call (.Name x p) (e :: es) kws pos) (tCallNS n ks.length sp (WE W) t tkw) := by
  refine ⟨fun pins s σ H Q I wish => wpAny_Call_Name_kw (ld_glob I hg D.m ?_ hdb)⟩
  refine PySem.W.callWith_KW (h₀ := X.base) I.ok.mod.kin D.kp hall (thn (ha.run pos pins s σ H _ I wish) fun us s1 ⟨vs, H1, I1, r1, q1⟩ => ?_) hpl he
  refine thn (hkw.run pos pins s1 σ H1 _ I1 q1) fun ws s2 ⟨zs, H2, I2, r2, l1, l2, q2⟩ => ⟨I2.kIn, ?_⟩
  rw [hks]
  refine wpAny_call (codeAny_mono (D.ok.run X.A X.stack s2 H2 ⟨us, ks.zip ws⟩ (us ++ ws) (vs ++ zs) Q _ hr I2.env0 (D.b.to s2 us ws I2.kIn (r1.length.symm.trans l1) (r2.length.symm.trans l2)) (D.b.rel r1 r2) q2) fun r s' hq => ?_)
  match r with
  | .error u => exact L2N.passAt tk σ pins H2 s2 u s' I2 hq
  | .ok (.ret u) => exact I2.after hq
  | .ok .next => exact hq.elim
  | .ok .brk => exact hq.elim
  | .ok .cont => exact hq.elim
end
section
variable {P : Program} {w : World} {K : PySem.W.Frag} {mg : Str → Option Value} {base : Heap}
theorem okY {x qual : Str} {st : Stmt} {f : Addr} {fd : FuncData} {N ps : List Str} {k : Nat} {sp : Sp} (F : Fun K x qual st f fd) (S : FnScope N ps (defScope st)) (len : ∀ vs H Q E, sp vs H Q E → vs.length = ps.length)
    (hbody : ∀ (cdv : Value) (A : Around) (outer : List Env) (s : Shared) (H : Hp) (vs : List V) (Q : VK) (E : XK), Room k (A.deeper (envOfC qual (defScope st) s.heap.objs.size f cdv)) → sp vs H Q E →
      ∃ t, PSs (cxOf (L2N.CX P w) P w K mg base N qual (defScope st) f cdv A outer s H E) (defBody st) t ∧ t { nx := fun _ H' => Q .non H', rt := Q } (start N vs) H) : FnOk P w K mg base (L2N.CX P w) (k + 1) f fd ps sp := by
  obtain ⟨oc, od, kV, doc, pm, an, cdv, ct, osl, rfl, lk, hcd⟩ := F.ex
  exact fn_of lk hcd S len fun A outer s H vs Q E hr hsp => hbody cdv A outer s H vs Q E hr hsp
theorem okP {x qual : Str} {st : Stmt} {f : Addr} {fd : FuncData} {N ps : List Str} {k : Nat} {sp : Addr × Obj → Sp} (F : Fun K x qual st f fd) (S : FnScope N ps (defScope st)) (len : ∀ p vs H Q E, sp p vs H Q E → vs.length = ps.length)
    (hbody : ∀ (cdv : Value) (A : Around) (outer : List Env) (s : Shared) (H : Hp) (vs : List V) (Q : VK) (E : XK) (p : Addr × Obj), L2H.Hot1 A p → L2H.RoomH k (A.deeper (envOfC qual (defScope st) s.heap.objs.size f cdv)) → sp p vs H Q E →
      ∃ t, PSs (L2H.cxH CX0 P w K mg base N qual (defScope st) f cdv A outer s H E p) (defBody st) t ∧ t { nx := fun _ H' => Q .non H', rt := Q } (start N vs) H) : FnP P w K mg base (k + 1) f fd ps sp := by
  obtain ⟨oc, od, kV, doc, pm, an, cdv, ct, osl, rfl, lk, hcd⟩ := F.ex
  exact fnp_mk lk hcd S len fun A outer s H vs Q E p hot hr hsp => hbody cdv A outer s H vs Q E p hot hr hsp
end
end Vk

/-! what the written part says of classes of errors -/
namespace Vk
open PySem PySem.W PySem.Calls PySem.HandSPX L2
theorem cls_both {K : Frag} {C : Addr} (h2 : isClsIn K C = true) (h3 : typeIn K (.ref C) = some (.type "type")) : ((clsIn K C).isSome && typeIn K (.ref C) == some (.type "type")) = true := by
  have h2' : (clsIn K C).isSome = true := h2
  rw [h2', h3]
  rfl
theorem exm_of {K : Frag} {S C : Addr} {b : Bool} (h1 : subIn K (.ref C) (.type "BaseException") = some true) (h2 : isClsIn K C = true) (h3 : typeIn K (.ref C) = some (.type "type")) (h4 : subIn K (.ref S) (.ref C) = some b) : exmOne K (.ref S) (.ref C) = some b := by
  have e1 : (subIn K (.ref C) (.type "BaseException") == some true) = true := by rw [h1]; rfl
  unfold exmOne kitCls
  rw [if_pos e1]
  dsimp only
  rw [if_pos (cls_both h2 h3)]
  exact h4
theorem kit_of1 {K : Frag} {S C : Addr} {b : Bool} (n : (S == C) = false) (h2 : isClsIn K C = true) (h3 : typeIn K (.ref C) = some (.type "type")) (h4 : subIn K (.ref S) (.ref C) = some b) : kitOne K (.ref S) (.ref C) = some b := by
  have e1 : (Value.ref S == Value.ref C) = false := beq_false_of_ne fun e => by
    have := Value.ref.inj e
    rw [this, beq_self_eq_true] at n
    cases n
  unfold kitOne kitCls
  rw [e1, if_neg Bool.false_ne_true]
  dsimp only
  rw [if_pos (cls_both h2 h3)]
  exact h4
theorem errTxt {K : Frag} {mg : Str → Option Value} {x nm q iq : Str} {C fi N : Addr} {bs bm sub : List Value} {sn : List Str} {ab : Bool} {col : Option Bool} {dd : Option Addr} {m0 m1 m2 m3 m5 : Option Value} {iod ian : Option Addr} {isl : Array (Option Value)} {ioc idc ipm icd ict : Value} {p1 p2 q1 q2 q3 q4 : Pos}
    (aC : mg x = some (.ref C)) (xL : K.lookup C = some (excClassObj nm q C N bs bm true sn sub ab col dd m0 m1 m2 m3 m5 "ValueError.__new__")) (rv : refsVE bm = true)
    (sa : findIn K (.ref C) "__setattr__" = some (some (.builtin "object.__setattr__"))) (ga : findIn K (.ref C) "__getattribute__" = some (some (.builtin "BaseException.__getattribute__"))) (gg : findIn K (.ref C) "__getattr__" = some none) (nb : findIn K (.ref C) "value" = some none)
    (a1 : findIn K (.ref C) "__init__" = some (some (.ref fi))) (t1 : typeIn K (.ref fi) = some (.type "function"))
    (l1 : K.lookup fi = some ⟨ioc, iod, .func (fnOf "__init__" iq (PySem.ValX.iA p1 p2) (PySem.ValX.iB q1 q2 q3 q4) PySem.ValX.iS .none .none idc ipm ian icd ict), isl⟩) (c1 : codeIn K icd iq = true)
    (kC : keepIn K (.ref C) = true) (eC : subIn K (.ref C) (.type "BaseException") = some true) (tC : typeIn K (.ref C) = some (.type "type")) (hC : hasDictIn K C = true) (te : exmOne K (.ref C) (.ref C) = some true) : PySem.ValX.ValTxt K mg x C fi :=
  { gC := aC, cls := ⟨nm, q, N, bs, bm, sn, sub, ab, col, dd, m0, m1, m2, m3, m5, xL, rv⟩, sa := sa, ga := ga, gg := gg, noN := nb, iC := a1, tC := t1, kC := kC, exC := eC, tyC := tC, hdC := hC, te := te, fn := ⟨iq, ioc, iod, idc, ipm, ian, icd, ict, isl, p1, p2, q1, q2, q3, q4, l1, c1⟩ }
end Vk

/-! the head by a Hook of its own: facts about the objects at written addresses; the top is run three times, once for each look -/
namespace Vk
open PySem PySem.W PySem.Calls PySem.HandSPX PyProof.Rows L2
def obsV (fa : List He.Fa) (fn : List He.DefD) (ex : PySem.W.Frag → Bool) (K : PySem.W.Frag) : He.AlD := ((ex K && fa.all fun f => f.ok K) && fn.all fun d => d.ok K, fn.map fun d => He.fnW K d.at_)
def valV (fn : List He.DefD) : He.AlD := (true, fn.map He.DefD.val)
def hookV (as : List Addr) (fa : List He.Fa) (fn : List He.DefD) (ex : PySem.W.Frag → Bool) : PySem.W.Hook where
  α := He.AlD
  obs := fun s => obsV fa fn ex (He.frG s.heap.get? as)
  val := fun _ => valV fn
  says := fun _ h => ∃ K : PySem.W.Frag, K.In h ∧ obsV fa fn ex K = valV fn
  of := fun _ _ e => ⟨_, He.frG_in, e⟩
  keeps := fun _ _ _ ⟨K, hK, c⟩ k => ⟨K, PySem.W.Frag.In.keeps hK k, c⟩
section
variable {as : List Addr} {fa : List He.Fa} {fn : List He.DefD} {ex : PySem.W.Frag → Bool} {K : PySem.W.Frag} {mg : Str → Option Value} {h : Heap}
theorem obV_eq (s : PySem.W.SharedT) : obsV fa fn ex (He.frG (HandSHeadRun.getT s) as) = (hookV as fa fn ex).obs s.abs := by
  have e : HandSHeadRun.getT s = s.abs.heap.get? := funext (HandSHeadRun.getT_eq s)
  rw [e]
  rfl
theorem saysV_ex (c : obsV fa fn ex K = valV fn) : ex K = true := (He.ba (He.ba (show ((ex K && fa.all fun f => f.ok K) && fn.all fun d => d.ok K) = true from congrArg (fun z : He.AlD => z.1) c)).1).1
theorem saysV_fact (c : obsV fa fn ex K = valV fn) (i : Nat) {f : He.Fa} (h : fa[i]? = some f) : f.ok K = true :=
  List.all_eq_true.mp (He.ba (He.ba (show ((ex K && fa.all fun f => f.ok K) && fn.all fun d => d.ok K) = true from congrArg (fun z : He.AlD => z.1) c)).1).2 f (List.mem_of_getElem? h)
theorem saysV_def (c : obsV fa fn ex K = valV fn) (i : Nat) {d : He.DefD} (h : fn[i]? = some d) : ∃ fd, FunD K d.name d.qual d.params d.body d.scope (d.dvs K) (d.kws K) (He.fAd K d.at_) fd := by
  have c2 := (He.ba (show ((ex K && fa.all fun f => f.ok K) && fn.all fun d => d.ok K) = true from congrArg (fun z : He.AlD => z.1) c)).2
  have e : fn.map (fun d => He.fnW K d.at_) = fn.map He.DefD.val := congrArg (fun z : He.AlD => z.2) c
  have e2 : (fn.map fun d => He.fnW K d.at_)[i]? = (fn.map He.DefD.val)[i]? := by rw [e]
  rw [List.getElem?_map, List.getElem?_map, h] at e2
  exact He.DefD.funD (Option.some.inj e2) (List.all_eq_true.mp c2 d (List.mem_of_getElem? h))
theorem run2 {α : Type} {o : Option α} {e : α → Bool} {d : α → Bool} {l : α → List He.FnW} {L : List He.FnW} (h1 : o.map e = some true) (h2 : o.map (fun x => (d x, l x)) = some (true, L)) : o.map (fun x => ((e x && d x, l x) : He.AlD)) = some (true, L) := by
  cases o with
  | none => cases h1
  | some x =>
    have e1 : e x = true := Option.some.inj h1
    have e2 : (d x, l x) = (true, L) := Option.some.inj h2
    obtain ⟨e3, e4⟩ := Prod.mk.inj e2
    show some (e x && d x, l x) = _
    rw [e1, e3, e4]
    rfl
theorem run3 {α β γ δ : Type} {o : Option α} {f : α → β} {g : α → γ} {k : α → δ} {a : β} {b : γ} {c : δ} (h1 : o.map f = some a) (h2 : o.map g = some b) (h3 : o.map k = some c) : o.map (fun x => (f x, g x, k x)) = some (a, b, c) := by
  cases o with
  | none => cases h1
  | some x =>
    have e1 : f x = a := Option.some.inj h1
    have e2 : g x = b := Option.some.inj h2
    have e3 : k x = c := Option.some.inj h3
    show some (f x, g x, k x) = _
    rw [e1, e2, e3]
theorem fn_of_d {x : Str} {st : Stmt} {ps : List Str} {f : Addr} {fd : FuncData} (F : FunD K x x (defArgs st) (defBody st) (defScope st) [] [] f fd) (m : mg x = some (.ref f))
    (h : ∀ (kV doc pm : Value) (an : Option Addr) (cdv ct : Value) (us : List Value), us.length = ps.length → bindArgs (PySem.W.fnOf x x (defArgs st) (defBody st) (defScope st) .none kV doc pm an cdv ct) ⟨us, []⟩ = pure (ps.zip us)) : Fn K mg x st ps f fd := by
  have b := F.bindsN h
  obtain ⟨oc, od, dV, kV, doc, pm, an, cdv, ct, osl, rfl, lk, hcd, hD, hK⟩ := F.ex
  rcases hD with ⟨_, rfl⟩ | ⟨e, _⟩
  · exact ⟨⟨⟨oc, od, kV, doc, pm, an, cdv, ct, osl, rfl, lk, hcd⟩, F.kp⟩, m, b⟩
  · cases e rfl
theorem funA_of_d {x : Str} {st : Stmt} {dvs : List V} {f : Addr} {fd : FuncData} (F : FunD K x x (defArgs st) (defBody st) (defScope st) dvs [] f fd) : FunA K x x st f fd := by
  obtain ⟨oc, od, dV, kV, doc, pm, an, cdv, ct, osl, rfl, lk, hcd, hD, hK⟩ := F.ex
  exact ⟨⟨oc, od, dV, kV, doc, pm, an, cdv, ct, osl, rfl, lk, hcd⟩, F.kp⟩
/-- a class of errors as its object stands -/
def clsB (K : PySem.W.Frag) (C : Addr) : Bool := match K.lookup C with
  | some ⟨.type "type", _, .cls cd, sl⟩ => (match cd.mro, sl.toList with
    | .ref C' :: bm, [_, _, _, _, some (.builtin n), _] => C' == C && (n == "ValueError.__new__" && (cd.hasDict && (!cd.hasDel && refsVE bm)))
    | _, _ => false)
  | _ => false
theorem clsB_ok {C : Addr} (h : clsB K C = true) : ∃ nm q N bs bm sn sub ab col dd k0 k1 k2 k3 k5, K.lookup C = some (excClassObj nm q C N bs bm true sn sub ab col dd k0 k1 k2 k3 k5 "ValueError.__new__") ∧ refsVE bm = true := by
  unfold clsB at h
  split at h
  · rename_i dd cd sl ho
    split at h
    · rename_i C' bm k0 k1 k2 k3 n k5 e1 e2
      obtain ⟨h1, h⟩ := He.ba h
      obtain ⟨h2, h⟩ := He.ba h
      obtain ⟨h3, h⟩ := He.ba h
      obtain ⟨h4, h5⟩ := He.ba h
      have es : sl = #[k0, k1, k2, k3, some (.builtin n), k5] := by
        rw [← Array.toArray_toList (xs := sl), e2]
      obtain ⟨nm, bs, mro, ns, q, hd, sn, sub, ab, col, del⟩ := cd
      have e3 : mro = .ref C' :: bm := e1
      have e4 : hd = true := h3
      have e5 : del = false := by
        have h4 : (!del) = true := h4
        cases del
        · rfl
        · cases h4
      rw [ho, es, e3, beq_iff_eq.mp h1, beq_iff_eq.mp h2, e4, e5]
      exact ⟨_, _, _, _, _, _, _, _, _, _, _, _, _, _, _, rfl, h5⟩
    · cases h
  · cases h
/-- an error's class, all that its text says: facts of K -/
def errB (K : PySem.W.Frag) (x : Str) : Bool :=
  clsB K (He.ga K x) && (He.eqO (findIn K (.ref (He.ga K x)) "__setattr__") (some (some (.builtin "object.__setattr__"))) && (He.eqO (findIn K (.ref (He.ga K x)) "__getattribute__") (some (some (.builtin "BaseException.__getattribute__"))) &&
  (He.eqO (findIn K (.ref (He.ga K x)) "__getattr__") (some none) && (He.eqO (findIn K (.ref (He.ga K x)) "value") (some none) && (He.eqO (findIn K (.ref (He.ga K x)) "__init__") (some (some (.ref (He.ma K (He.ga K x) "__init__")))) &&
  (decide (typeIn K (.ref (He.ma K (He.ga K x) "__init__")) = some (.type "function")) && (keepIn K (.ref (He.ga K x)) && (decide (subIn K (.ref (He.ga K x)) (.type "BaseException") = some true) && (decide (typeIn K (.ref (He.ga K x)) = some (.type "type")) &&
  (hasDictIn K (He.ga K x) && decide (exmOne K (.ref (He.ga K x)) (.ref (He.ga K x)) = some true)))))))))))
theorem errB_ok {x : Str} (g : mg x = some (.ref (He.ga K x))) (h : errB K x = true) (fn : ∃ (q : Str) (oc : Value) (od : Option Addr) (doc pm : Value) (an : Option Addr) (cdv ct : Value) (osl : Array (Option Value)) (p1 p2 q1 q2 q3 q4 : Pos),
    K.lookup (He.ma K (He.ga K x) "__init__") = some ⟨oc, od, .func (fnOf "__init__" q (PySem.ValX.iA p1 p2) (PySem.ValX.iB q1 q2 q3 q4) PySem.ValX.iS .none .none doc pm an cdv ct), osl⟩ ∧ codeIn K cdv q = true) : PySem.ValX.ValTxt K mg x (He.ga K x) (He.ma K (He.ga K x) "__init__") := by
  obtain ⟨h1, h⟩ := He.ba h
  obtain ⟨h2, h⟩ := He.ba h
  obtain ⟨h3, h⟩ := He.ba h
  obtain ⟨h4, h⟩ := He.ba h
  obtain ⟨h5, h⟩ := He.ba h
  obtain ⟨h6, h⟩ := He.ba h
  obtain ⟨h7, h⟩ := He.ba h
  obtain ⟨h8, h⟩ := He.ba h
  obtain ⟨h9, h⟩ := He.ba h
  obtain ⟨h10, h⟩ := He.ba h
  obtain ⟨h11, h12⟩ := He.ba h
  exact { gC := g, cls := clsB_ok h1, sa := He.eqO_ok h2, ga := He.eqO_ok h3, gg := He.eqO_ok h4, noN := He.eqO_ok h5, iC := He.eqO_ok h6, tC := of_decide_eq_true h7, kC := h8, exC := of_decide_eq_true h9, tyC := of_decide_eq_true h10, hdC := h11, te := of_decide_eq_true h12, fn := fn }
/-- .. and what isinstance asks of it -/
def excB (K : PySem.W.Frag) (x : Str) : Bool :=
  He.eqO (findIn K (.ref (He.ga K x)) "__getattribute__") (some (some (.builtin "BaseException.__getattribute__"))) && (He.eqO (findIn K (.ref (He.ga K x)) "__getattr__") (some none) && (decide (subIn K (.ref (He.ga K x)) (.type "BaseException") = some true) && (hasDictIn K (He.ga K x) &&
  (He.eqO (findIn K (.ref (He.ga K x)) "__class__") (some (some (.builtin "object.__class__"))) && (He.eqO (specialIn K (.builtin "object.__class__") "__get__") (some (some (.builtin "getset_descriptor.__get__"))) && (decide (takesIn K (.builtin "object.__class__") = some true) && decide (mroIn K (He.ga K x) (.type "object") = some true)))))))
theorem excB_ok {x : Str} (h : excB K x = true) : ExcC K (He.ga K x) := by
  obtain ⟨h1, h⟩ := He.ba h
  obtain ⟨h2, h⟩ := He.ba h
  obtain ⟨h3, h⟩ := He.ba h
  obtain ⟨h4, h⟩ := He.ba h
  obtain ⟨h5, h⟩ := He.ba h
  obtain ⟨h6, h⟩ := He.ba h
  obtain ⟨h7, h8⟩ := He.ba h
  exact ⟨He.eqO_ok h1, He.eqO_ok h2, of_decide_eq_true h3, h4, He.eqO_ok h5, He.eqO_ok h6, of_decide_eq_true h7, of_decide_eq_true h8⟩
end
end Vk
namespace Vk
open PySem PySem.W PySem.Calls PySem.HandSPX PyProof.Rows L2
def clsBody (s : Stmt) : List Stmt := match s with
  | .ClassDef _ _ _ b _ _ _ _ _ _ _ => b
  | _ => []
/-- the first method of a class statement -/
def method (s : Stmt) (i : Nat) : Stmt := (clsBody s).getD i (.Pass ⟨0, 0, 0, 0⟩)
def noneB : Value → Bool
  | .none => true
  | _ => false
theorem noneB_ok {v : Value} (h : noneB v = true) : v = .none := by
  cases v with
  | none => rfl
  | _ => cases h
def initB (K : PySem.W.Frag) (x : Str) : Bool := match K.lookup (He.ma K (He.ga K x) "__init__") with
  | some ⟨_, _, .func fd, _⟩ => noneB fd.kwdefaults
  | _ => false
theorem init_ok {K : PySem.W.Frag} {x q : Str} {A : Arguments} {B : List Stmt} {S : Scope} {fd : FuncData} {p1 p2 q1 q2 q3 q4 : Pos} (F : FunD K "__init__" q A B S [] [] (He.ma K (He.ga K x) "__init__") fd) (h : initB K x = true) (eA : A = PySem.ValX.iA p1 p2) (eB : B = PySem.ValX.iB q1 q2 q3 q4) (eS : S = PySem.ValX.iS) :
    ∃ (q : Str) (oc : Value) (od : Option Addr) (doc pm : Value) (an : Option Addr) (cdv ct : Value) (osl : Array (Option Value)) (p1 p2 q1 q2 q3 q4 : Pos),
    K.lookup (He.ma K (He.ga K x) "__init__") = some ⟨oc, od, .func (fnOf "__init__" q (PySem.ValX.iA p1 p2) (PySem.ValX.iB q1 q2 q3 q4) PySem.ValX.iS .none .none doc pm an cdv ct), osl⟩ ∧ codeIn K cdv q = true := by
  obtain ⟨oc, od, dV, kV, doc, pm, an, cdv, ct, osl, rfl, lk, hcd, hD, hK⟩ := F.ex
  unfold initB at h
  rw [lk] at h
  rcases hD with ⟨_, rfl⟩ | ⟨e, _⟩
  · have e : kV = .none := noneB_ok h
    subst e eA eB eS
    exact ⟨q, oc, od, doc, pm, an, cdv, ct, osl, p1, p2, q1, q2, q3, q4, lk, hcd⟩
  · cases e rfl
theorem gcd_ok {K : PySem.W.Frag} {mg : Str → Option Value} {h : Heap} (X : K.In h) (G : h.Ns mainGlobals mg) {x : Str} {v : Value} (c : He.eqO (nsIn K mainGlobals x) (some (some v)) = true) : mg x = some v := PySem.W.mg_of X G (He.eqO_ok c)
end Vk

namespace Vk
section
open PySem PySem.W PySem.Calls PySem.HandSPX PyProof.Rows L2
def topH (i : Nat) : Stmt := PySem.Challenge.pw_clockverdict_k11_elapsed.main.body.getD i (.Pass ⟨0, 0, 0, 0⟩)
abbrev sH_rational : Stmt := topH 35
abbrev sH_add : Stmt := topH 36
abbrev sH_subtract : Stmt := topH 37
abbrev sH_multiply : Stmt := topH 38
abbrev sH_negate : Stmt := topH 39
abbrev sH_divide : Stmt := topH 40
abbrev sH_compare : Stmt := topH 41
abbrev sH__shown_by : Stmt := topH 43
abbrev sH__jump_at : Stmt := topH 44
abbrev sH_jumps : Stmt := topH 45
abbrev sH_runs_within : Stmt := topH 46
abbrev sH_require_rates : Stmt := topH 47
abbrev sH_elapsed : Stmt := topH 48
abbrev sH__law_store : Stmt := topH 50
abbrev sH__law_feed : Stmt := topH 51
abbrev sH__law_mixed : Stmt := topH 52
abbrev sH__law_take : Stmt := topH 53
abbrev sH__law_pick : Stmt := topH 54
abbrev sH__law_is_int : Stmt := topH 55
abbrev sH__law_same : Stmt := topH 56
abbrev sH__law_frac : Stmt := topH 57
abbrev sH__law_plus : Stmt := topH 58
abbrev sH__law_minus : Stmt := topH 59
abbrev sH__law_times : Stmt := topH 60
abbrev sH__law_below : Stmt := topH 61
abbrev sH__law_is_frac : Stmt := topH 62
abbrev sH__law_ratio : Stmt := topH 63
abbrev sH__law_part : Stmt := topH 64
abbrev sH__law_spare : Stmt := topH 65
abbrev sH__law_above : Stmt := topH 66
abbrev sH__law_in_span : Stmt := topH 67
abbrev sH__law_is_span : Stmt := topH 68
abbrev sH__law_pace : Stmt := topH 69
abbrev sH__law_course : Stmt := topH 70
abbrev sH__law_negative : Stmt := topH 71
abbrev sH__law_not_above : Stmt := topH 72
abbrev sH__law_bad_rates : Stmt := topH 73
abbrev sH__law_alone : Stmt := topH 74
abbrev sH__law_now : Stmt := topH 75
abbrev sH__law_steady : Stmt := topH 76
abbrev sH__law_keeps : Stmt := topH 77
abbrev sH__law_changed_course : Stmt := topH 78
abbrev sH__law_told : Stmt := topH 79
abbrev sH__law_elapsed_right : Stmt := topH 80
abbrev sH__law_between_right : Stmt := topH 81
abbrev sH__law_when : Stmt := topH 82
abbrev sH__law_bounds_right : Stmt := topH 83
abbrev sH__law_long_right : Stmt := topH 84
abbrev sH_law : Stmt := topH 85
abbrev sI_BadRate : Stmt := method (topH 8) 0
def dH_rational : He.DefD := ⟨("rational", none), "rational", "rational", defArgs sH_rational, defBody sH_rational, defScope sH_rational, [.int 1], []⟩
def dH_add : He.DefD := ⟨("add", none), "add", "add", defArgs sH_add, defBody sH_add, defScope sH_add, [], []⟩
def dH_subtract : He.DefD := ⟨("subtract", none), "subtract", "subtract", defArgs sH_subtract, defBody sH_subtract, defScope sH_subtract, [], []⟩
def dH_multiply : He.DefD := ⟨("multiply", none), "multiply", "multiply", defArgs sH_multiply, defBody sH_multiply, defScope sH_multiply, [], []⟩
def dH_negate : He.DefD := ⟨("negate", none), "negate", "negate", defArgs sH_negate, defBody sH_negate, defScope sH_negate, [], []⟩
def dH_divide : He.DefD := ⟨("divide", none), "divide", "divide", defArgs sH_divide, defBody sH_divide, defScope sH_divide, [], []⟩
def dH_compare : He.DefD := ⟨("compare", none), "compare", "compare", defArgs sH_compare, defBody sH_compare, defScope sH_compare, [], []⟩
def dH__shown_by : He.DefD := ⟨("_shown_by", none), "_shown_by", "_shown_by", defArgs sH__shown_by, defBody sH__shown_by, defScope sH__shown_by, [], []⟩
def dH__jump_at : He.DefD := ⟨("_jump_at", none), "_jump_at", "_jump_at", defArgs sH__jump_at, defBody sH__jump_at, defScope sH__jump_at, [], []⟩
def dH_jumps : He.DefD := ⟨("jumps", none), "jumps", "jumps", defArgs sH_jumps, defBody sH_jumps, defScope sH_jumps, [], []⟩
def dH_runs_within : He.DefD := ⟨("runs_within", none), "runs_within", "runs_within", defArgs sH_runs_within, defBody sH_runs_within, defScope sH_runs_within, [], []⟩
def dH_require_rates : He.DefD := ⟨("require_rates", none), "require_rates", "require_rates", defArgs sH_require_rates, defBody sH_require_rates, defScope sH_require_rates, [], []⟩
def dH_elapsed : He.DefD := ⟨("elapsed", none), "elapsed", "elapsed", defArgs sH_elapsed, defBody sH_elapsed, defScope sH_elapsed, [], []⟩
def dH__law_store : He.DefD := ⟨("_law_store", none), "_law_store", "_law_store", defArgs sH__law_store, defBody sH__law_store, defScope sH__law_store, [], []⟩
def dH__law_feed : He.DefD := ⟨("_law_feed", none), "_law_feed", "_law_feed", defArgs sH__law_feed, defBody sH__law_feed, defScope sH__law_feed, [], []⟩
def dH__law_mixed : He.DefD := ⟨("_law_mixed", none), "_law_mixed", "_law_mixed", defArgs sH__law_mixed, defBody sH__law_mixed, defScope sH__law_mixed, [], []⟩
def dH__law_take : He.DefD := ⟨("_law_take", none), "_law_take", "_law_take", defArgs sH__law_take, defBody sH__law_take, defScope sH__law_take, [], []⟩
def dH__law_pick : He.DefD := ⟨("_law_pick", none), "_law_pick", "_law_pick", defArgs sH__law_pick, defBody sH__law_pick, defScope sH__law_pick, [], []⟩
def dH__law_is_int : He.DefD := ⟨("_law_is_int", none), "_law_is_int", "_law_is_int", defArgs sH__law_is_int, defBody sH__law_is_int, defScope sH__law_is_int, [], []⟩
def dH__law_same : He.DefD := ⟨("_law_same", none), "_law_same", "_law_same", defArgs sH__law_same, defBody sH__law_same, defScope sH__law_same, [], []⟩
def dH__law_frac : He.DefD := ⟨("_law_frac", none), "_law_frac", "_law_frac", defArgs sH__law_frac, defBody sH__law_frac, defScope sH__law_frac, [], []⟩
def dH__law_plus : He.DefD := ⟨("_law_plus", none), "_law_plus", "_law_plus", defArgs sH__law_plus, defBody sH__law_plus, defScope sH__law_plus, [], []⟩
def dH__law_minus : He.DefD := ⟨("_law_minus", none), "_law_minus", "_law_minus", defArgs sH__law_minus, defBody sH__law_minus, defScope sH__law_minus, [], []⟩
def dH__law_times : He.DefD := ⟨("_law_times", none), "_law_times", "_law_times", defArgs sH__law_times, defBody sH__law_times, defScope sH__law_times, [], []⟩
def dH__law_below : He.DefD := ⟨("_law_below", none), "_law_below", "_law_below", defArgs sH__law_below, defBody sH__law_below, defScope sH__law_below, [], []⟩
def dH__law_is_frac : He.DefD := ⟨("_law_is_frac", none), "_law_is_frac", "_law_is_frac", defArgs sH__law_is_frac, defBody sH__law_is_frac, defScope sH__law_is_frac, [], []⟩
def dH__law_ratio : He.DefD := ⟨("_law_ratio", none), "_law_ratio", "_law_ratio", defArgs sH__law_ratio, defBody sH__law_ratio, defScope sH__law_ratio, [], []⟩
def dH__law_part : He.DefD := ⟨("_law_part", none), "_law_part", "_law_part", defArgs sH__law_part, defBody sH__law_part, defScope sH__law_part, [], []⟩
def dH__law_spare : He.DefD := ⟨("_law_spare", none), "_law_spare", "_law_spare", defArgs sH__law_spare, defBody sH__law_spare, defScope sH__law_spare, [], []⟩
def dH__law_above : He.DefD := ⟨("_law_above", none), "_law_above", "_law_above", defArgs sH__law_above, defBody sH__law_above, defScope sH__law_above, [], []⟩
def dH__law_in_span : He.DefD := ⟨("_law_in_span", none), "_law_in_span", "_law_in_span", defArgs sH__law_in_span, defBody sH__law_in_span, defScope sH__law_in_span, [], []⟩
def dH__law_is_span : He.DefD := ⟨("_law_is_span", none), "_law_is_span", "_law_is_span", defArgs sH__law_is_span, defBody sH__law_is_span, defScope sH__law_is_span, [], []⟩
def dH__law_pace : He.DefD := ⟨("_law_pace", none), "_law_pace", "_law_pace", defArgs sH__law_pace, defBody sH__law_pace, defScope sH__law_pace, [], []⟩
def dH__law_course : He.DefD := ⟨("_law_course", none), "_law_course", "_law_course", defArgs sH__law_course, defBody sH__law_course, defScope sH__law_course, [], []⟩
def dH__law_negative : He.DefD := ⟨("_law_negative", none), "_law_negative", "_law_negative", defArgs sH__law_negative, defBody sH__law_negative, defScope sH__law_negative, [], []⟩
def dH__law_not_above : He.DefD := ⟨("_law_not_above", none), "_law_not_above", "_law_not_above", defArgs sH__law_not_above, defBody sH__law_not_above, defScope sH__law_not_above, [], []⟩
def dH__law_bad_rates : He.DefD := ⟨("_law_bad_rates", none), "_law_bad_rates", "_law_bad_rates", defArgs sH__law_bad_rates, defBody sH__law_bad_rates, defScope sH__law_bad_rates, [], []⟩
def dH__law_alone : He.DefD := ⟨("_law_alone", none), "_law_alone", "_law_alone", defArgs sH__law_alone, defBody sH__law_alone, defScope sH__law_alone, [], []⟩
def dH__law_now : He.DefD := ⟨("_law_now", none), "_law_now", "_law_now", defArgs sH__law_now, defBody sH__law_now, defScope sH__law_now, [], []⟩
def dH__law_steady : He.DefD := ⟨("_law_steady", none), "_law_steady", "_law_steady", defArgs sH__law_steady, defBody sH__law_steady, defScope sH__law_steady, [], []⟩
def dH__law_keeps : He.DefD := ⟨("_law_keeps", none), "_law_keeps", "_law_keeps", defArgs sH__law_keeps, defBody sH__law_keeps, defScope sH__law_keeps, [], []⟩
def dH__law_changed_course : He.DefD := ⟨("_law_changed_course", none), "_law_changed_course", "_law_changed_course", defArgs sH__law_changed_course, defBody sH__law_changed_course, defScope sH__law_changed_course, [], []⟩
def dH__law_told : He.DefD := ⟨("_law_told", none), "_law_told", "_law_told", defArgs sH__law_told, defBody sH__law_told, defScope sH__law_told, [], []⟩
def dH__law_elapsed_right : He.DefD := ⟨("_law_elapsed_right", none), "_law_elapsed_right", "_law_elapsed_right", defArgs sH__law_elapsed_right, defBody sH__law_elapsed_right, defScope sH__law_elapsed_right, [], []⟩
def dH__law_between_right : He.DefD := ⟨("_law_between_right", none), "_law_between_right", "_law_between_right", defArgs sH__law_between_right, defBody sH__law_between_right, defScope sH__law_between_right, [], []⟩
def dH__law_when : He.DefD := ⟨("_law_when", none), "_law_when", "_law_when", defArgs sH__law_when, defBody sH__law_when, defScope sH__law_when, [], []⟩
def dH__law_bounds_right : He.DefD := ⟨("_law_bounds_right", none), "_law_bounds_right", "_law_bounds_right", defArgs sH__law_bounds_right, defBody sH__law_bounds_right, defScope sH__law_bounds_right, [], []⟩
def dH__law_long_right : He.DefD := ⟨("_law_long_right", none), "_law_long_right", "_law_long_right", defArgs sH__law_long_right, defBody sH__law_long_right, defScope sH__law_long_right, [], []⟩
def dH_law : He.DefD := ⟨("law", none), "law", "law", defArgs sH_law, defBody sH_law, defScope sH_law, [], []⟩
def dI_BadRate : He.DefD := ⟨("BadRate", some "__init__"), "__init__", "BadRate.__init__", defArgs sI_BadRate, defBody sI_BadRate, defScope sI_BadRate, [], []⟩
def asH0 : List Addr := [3, 6, 4, 52, 65, 84, 103, 122, 141, 160, 179, 198, 217, 236, 255, 274, 293, 312, 331, 350, 367, 386, 405, 424, 443, 462, 481, 493, 512, 531, 550, 569, 581, 593, 596, 604, 611, 618, 625, 632, 639, 646, 653, 660, 667, 674, 681, 688, 695, 702, 709, 716, 723, 730, 735, 742, 749, 756, 763, 770]
def asH1 : List Addr := [777, 784, 791, 798, 805, 812, 819, 826, 833, 840, 847, 854, 861, 866, 873, 880, 887, 894, 901, 908, 915, 922, 929, 936, 0, 51, 64, 83, 102, 121, 140, 159, 178, 197, 216, 235, 254, 273, 292, 311, 330, 349, 366, 385, 404, 423, 442, 461, 480, 492, 511, 530, 549, 568, 580, 592, 603, 597, 610, 617]
def asH2 : List Addr := [624, 631, 638, 645, 652, 659, 666, 673, 680, 687, 694, 701, 708, 715, 722, 729, 734, 741, 748, 755, 762, 769, 776, 783, 790, 797, 804, 811, 818, 825, 832, 839, 846, 853, 860, 865, 872, 879, 886, 893, 900, 907, 914, 921, 928, 935, 50, 53, 63, 81, 82, 100, 101, 119, 120, 138, 139, 157, 158, 176]
def asH3 : List Addr := [177, 195, 196, 214, 215, 233, 234, 252, 253, 271, 272, 290, 291, 309, 310, 328, 329, 347, 348, 364, 365, 383, 384, 402, 403, 421, 422, 440, 441, 459, 460, 478, 479, 491, 509, 510, 528, 529, 547, 548, 566, 567, 579, 591, 598, 599, 600, 601, 602, 605, 606, 607, 608, 609, 612, 613, 614, 615, 616, 619]
def asH4 : List Addr := [620, 621, 622, 623, 626, 627, 628, 629, 630, 633, 634, 635, 636, 637, 640, 641, 642, 643, 644, 647, 648, 649, 650, 651, 654, 655, 656, 657, 658, 661, 662, 663, 664, 665, 668, 669, 670, 671, 672, 675, 676, 677, 678, 679, 682, 683, 684, 685, 686, 689, 690, 691, 692, 693, 696, 697, 698, 699, 700, 703]
def asH5 : List Addr := [704, 705, 706, 707, 710, 711, 712, 713, 714, 717, 718, 719, 720, 721, 724, 725, 726, 727, 728, 731, 732, 733, 736, 737, 738, 739, 740, 743, 744, 745, 746, 747, 750, 751, 752, 753, 754, 757, 758, 759, 760, 761, 764, 765, 766, 767, 768, 771, 772, 773, 774, 775, 778, 779, 780, 781, 782, 785, 786, 787]
def asH6 : List Addr := [788, 789, 792, 793, 794, 795, 796, 799, 800, 801, 802, 803, 806, 807, 808, 809, 810, 813, 814, 815, 816, 817, 820, 821, 822, 823, 824, 827, 828, 829, 830, 831, 834, 835, 836, 837, 838, 841, 842, 843, 844, 845, 848, 849, 850, 851, 852, 855, 856, 857, 858, 859, 862, 863, 864, 867, 868, 869, 870, 871]
def asH7 : List Addr := [874, 875, 876, 877, 878, 881, 882, 883, 884, 885, 888, 889, 890, 891, 892, 895, 896, 897, 898, 899, 902, 903, 904, 905, 906, 909, 910, 911, 912, 913, 916, 917, 918, 919, 920, 923, 924, 925, 926, 927, 930, 931, 932, 933, 934, 80, 99, 118, 137, 156, 175, 194, 213, 232, 251, 270, 289, 308, 327, 346]
def asH8 : List Addr := [363, 382, 401, 420, 439, 458, 477, 508, 527, 546, 565]
def asH : List Addr := asH0 ++ asH1 ++ asH2 ++ asH3 ++ asH4 ++ asH5 ++ asH6 ++ asH7 ++ asH8
def faH0 : List He.Fa := [.glo "rational", .glo "add", .glo "subtract", .glo "multiply", .glo "negate", .glo "divide", .glo "compare", .glo "_shown_by", .glo "_jump_at", .glo "jumps", .glo "runs_within", .glo "require_rates", .glo "elapsed", .glo "_law_store", .glo "_law_feed", .glo "_law_mixed", .glo "_law_take", .glo "_law_pick", .glo "_law_is_int", .glo "_law_same", .glo "_law_frac", .glo "_law_plus", .glo "_law_minus", .glo "_law_times", .glo "_law_below", .glo "_law_is_frac", .glo "_law_ratio", .glo "_law_part", .glo "_law_spare", .glo "_law_above"]
def faH1 : List He.Fa := [.glo "_law_in_span", .glo "_law_is_span", .glo "_law_pace", .glo "_law_course", .glo "_law_negative", .glo "_law_not_above", .glo "_law_bad_rates", .glo "_law_alone", .glo "_law_now", .glo "_law_steady", .glo "_law_keeps", .glo "_law_changed_course", .glo "_law_told", .glo "_law_elapsed_right", .glo "_law_between_right", .glo "_law_when", .glo "_law_bounds_right", .glo "_law_long_right", .glo "law", .glo "BadRate", .glo "VerdictError", .glo "ZeroDivisor", .glo "BadNumber", .glo "EmptySpan", .glo "BeforeStart", .glo "TurnsBack", .glo "BadBound", .glo "BadName", .glo "DuplicateName", .glo "UnknownName"]
def faH2 : List He.Fa := [.glo "BadLink", .glo "UnknownLink", .glo "BadNote", .glo "UnknownMoment", .glo "NoWorld", .glo "OutsideSpan", .glo "TooManyLiars", .glo "RootFollows", .glo "Condemned", .glo "BadDate", .glo "BadLeap", .glo "BadLabel", .glo "NoSuchSecond", .glo "BadCells", .glo "RefusedEntry", .glo "DuplicateTag", .glo "UnknownTag", .glo "BadLine", .glo "NothingToUndo", .glo "NothingToRedo", .glo "ZERO", .free "len", .free "abs", .free "max", .free "int", .free "isinstance", .free "range", .free "enumerate", .free "list", .free "tuple"]
def faH3 : List He.Fa := [.free "str", .free "bool", .free "dict", .free "ValueError"]
def faH : List He.Fa := faH0 ++ faH1 ++ faH2 ++ faH3
def fnH0 : List He.DefD := [dH_rational, dH_add, dH_subtract, dH_multiply, dH_negate, dH_divide, dH_compare, dH__shown_by, dH__jump_at, dH_jumps, dH_runs_within, dH_require_rates, dH_elapsed, dH__law_store, dH__law_feed, dH__law_mixed, dH__law_take, dH__law_pick, dH__law_is_int, dH__law_same, dH__law_frac, dH__law_plus, dH__law_minus, dH__law_times, dH__law_below, dH__law_is_frac, dH__law_ratio, dH__law_part, dH__law_spare, dH__law_above]
def fnH1 : List He.DefD := [dH__law_in_span, dH__law_is_span, dH__law_pace, dH__law_course, dH__law_negative, dH__law_not_above, dH__law_bad_rates, dH__law_alone, dH__law_now, dH__law_steady, dH__law_keeps, dH__law_changed_course, dH__law_told, dH__law_elapsed_right, dH__law_between_right, dH__law_when, dH__law_bounds_right, dH__law_long_right, dH_law, dI_BadRate]
def fnH : List He.DefD := fnH0 ++ fnH1
def exH0 : List (PySem.W.Frag → Bool) := [fun K => He.eqO (nsIn K mainGlobals "gcd") (some (some (.builtin "math.gcd"))), fun K => He.tupB K "ZERO" [.int 0, .int 1], fun K => errB K "BadRate", fun K => initB K "BadRate", fun K => excB K "BadRate", fun K => decide (exmOne K (.ref (He.ga K "BadRate")) (.ref (He.ga K "VerdictError")) = some true), fun K => decide (kitOne K (.ref (He.ga K "BadRate")) (.ref (He.ga K "ZeroDivisor")) = some false), fun K => decide (kitOne K (.ref (He.ga K "BadRate")) (.ref (He.ga K "BadNumber")) = some false), fun K => decide (kitOne K (.ref (He.ga K "BadRate")) (.ref (He.ga K "EmptySpan")) = some false), fun K => decide (kitOne K (.ref (He.ga K "BadRate")) (.ref (He.ga K "BeforeStart")) = some false), fun K => decide (kitOne K (.ref (He.ga K "BadRate")) (.ref (He.ga K "TurnsBack")) = some false), fun K => decide (kitOne K (.ref (He.ga K "BadRate")) (.ref (He.ga K "BadBound")) = some false), fun K => decide (kitOne K (.ref (He.ga K "BadRate")) (.ref (He.ga K "BadName")) = some false), fun K => decide (kitOne K (.ref (He.ga K "BadRate")) (.ref (He.ga K "DuplicateName")) = some false), fun K => decide (kitOne K (.ref (He.ga K "BadRate")) (.ref (He.ga K "UnknownName")) = some false), fun K => decide (kitOne K (.ref (He.ga K "BadRate")) (.ref (He.ga K "BadLink")) = some false), fun K => decide (kitOne K (.ref (He.ga K "BadRate")) (.ref (He.ga K "UnknownLink")) = some false), fun K => decide (kitOne K (.ref (He.ga K "BadRate")) (.ref (He.ga K "BadNote")) = some false), fun K => decide (kitOne K (.ref (He.ga K "BadRate")) (.ref (He.ga K "UnknownMoment")) = some false), fun K => decide (kitOne K (.ref (He.ga K "BadRate")) (.ref (He.ga K "NoWorld")) = some false)]
def exH1 : List (PySem.W.Frag → Bool) := [fun K => decide (kitOne K (.ref (He.ga K "BadRate")) (.ref (He.ga K "OutsideSpan")) = some false), fun K => decide (kitOne K (.ref (He.ga K "BadRate")) (.ref (He.ga K "TooManyLiars")) = some false), fun K => decide (kitOne K (.ref (He.ga K "BadRate")) (.ref (He.ga K "RootFollows")) = some false), fun K => decide (kitOne K (.ref (He.ga K "BadRate")) (.ref (He.ga K "Condemned")) = some false), fun K => decide (kitOne K (.ref (He.ga K "BadRate")) (.ref (He.ga K "BadDate")) = some false), fun K => decide (kitOne K (.ref (He.ga K "BadRate")) (.ref (He.ga K "BadLeap")) = some false), fun K => decide (kitOne K (.ref (He.ga K "BadRate")) (.ref (He.ga K "BadLabel")) = some false), fun K => decide (kitOne K (.ref (He.ga K "BadRate")) (.ref (He.ga K "NoSuchSecond")) = some false), fun K => decide (kitOne K (.ref (He.ga K "BadRate")) (.ref (He.ga K "BadCells")) = some false), fun K => decide (kitOne K (.ref (He.ga K "BadRate")) (.ref (He.ga K "RefusedEntry")) = some false), fun K => decide (kitOne K (.ref (He.ga K "BadRate")) (.ref (He.ga K "DuplicateTag")) = some false), fun K => decide (kitOne K (.ref (He.ga K "BadRate")) (.ref (He.ga K "UnknownTag")) = some false), fun K => decide (kitOne K (.ref (He.ga K "BadRate")) (.ref (He.ga K "BadLine")) = some false), fun K => decide (kitOne K (.ref (He.ga K "BadRate")) (.ref (He.ga K "NothingToUndo")) = some false), fun K => decide (kitOne K (.ref (He.ga K "BadRate")) (.ref (He.ga K "NothingToRedo")) = some false), fun K => decide (kitOne K (.ref (He.ga K "BadRate")) (.type "ValueError") = some true)]
def exH : List (PySem.W.Frag → Bool) := exH0 ++ exH1
def exK (K : PySem.W.Frag) : Bool := exH.all fun f => f K
theorem exK_at {K : PySem.W.Frag} (h : exK K = true) (i : Nat) {f : PySem.W.Frag → Bool} (e : exH[i]? = some f) : f K = true := List.all_eq_true.mp h f (List.mem_of_getElem? e)
def looseH0 : List PySem.Str := ["VerdictError", "ZeroDivisor", "BadNumber", "EmptySpan", "BeforeStart", "TurnsBack", "BadRate", "BadBound", "BadName", "DuplicateName", "UnknownName", "BadLink", "UnknownLink", "BadNote", "UnknownMoment", "NoWorld", "OutsideSpan", "TooManyLiars", "RootFollows", "Condemned", "BadDate", "BadLeap", "BadLabel", "NoSuchSecond", "BadCells", "RefusedEntry", "DuplicateTag", "UnknownTag", "BadLine", "NothingToUndo"]
def looseH1 : List PySem.Str := ["NothingToRedo", "ZERO", "rational", "add", "subtract", "multiply", "negate", "divide", "compare", "_shown_by", "_jump_at", "jumps", "runs_within", "require_rates", "elapsed", "_law_store", "_law_feed", "_law_mixed", "_law_take", "_law_pick", "_law_is_int", "_law_same", "_law_frac", "_law_plus", "_law_minus", "_law_times", "_law_below", "_law_is_frac", "_law_ratio", "_law_part"]
def looseH2 : List PySem.Str := ["_law_spare", "_law_above", "_law_in_span", "_law_is_span", "_law_pace", "_law_course", "_law_negative", "_law_not_above", "_law_bad_rates", "_law_alone", "_law_now", "_law_steady", "_law_keeps", "_law_changed_course", "_law_told", "_law_elapsed_right", "_law_between_right", "_law_when", "_law_bounds_right", "_law_long_right"]
def looseH : List PySem.Str := looseH0 ++ looseH1 ++ looseH2
abbrev RH : PySem.W.OpenRow := PySem.W.OpenLaw.row PySem.Challenge.rw_clockverdict_k11_elapsed
abbrev qH : Program := PySem.W.view RH.prog [0, 85]
abbrev hkH : PySem.W.Hook := hookV asH faH fnH exK
def obH (s : PySem.W.SharedT) : He.AlD := obsV faH fnH exK (He.frG (HandSHeadRun.getT s) asH)
set_option maxHeartbeats 0 in
theorem runL (w : World) : (HandSHeadRun.wholeF (fun p => HandSHeadRun.stepQ (HandSHeadRun.denQ HandSHeadRun.tabQ) p w) HandSHeadRun.fenceQ 20000 RH.prog).map (fun x => HandSHeadRun.looksF RH.prog x.1.heap x.2.abs) = some true := by kernel_rfl
set_option maxHeartbeats 0 in
theorem runS (w : World) : (HandSHeadRun.wholeF (fun p => HandSHeadRun.stepQ (HandSHeadRun.denQ HandSHeadRun.tabQ) p w) HandSHeadRun.fenceQ 20000 RH.prog).map (fun x => HandSHeadRun.seenQ qH looseH (PySem.importedModules RH.prog.main.body) (fun s => PySem.W.xlAt qH [] s && PySem.W.recOk RH.toRowW.records s) x.2.abs) = some (PySem.W.openGood qH looseH) := by kernel_rfl
set_option maxHeartbeats 0 in
theorem runA (w : World) : (HandSHeadRun.wholeF (fun p => HandSHeadRun.stepQ (HandSHeadRun.denQ HandSHeadRun.tabQ) p w) HandSHeadRun.fenceQ 20000 RH.prog).map (fun x => exK (He.frG (HandSHeadRun.getT x.2) asH) && faH.all fun f => f.ok (He.frG (HandSHeadRun.getT x.2) asH)) = some true := by kernel_rfl
set_option maxHeartbeats 0 in
theorem runB (w : World) : (HandSHeadRun.wholeF (fun p => HandSHeadRun.stepQ (HandSHeadRun.denQ HandSHeadRun.tabQ) p w) HandSHeadRun.fenceQ 20000 RH.prog).map (fun x => (fnH.all fun d => d.ok (He.frG (HandSHeadRun.getT x.2) asH), fnH.map fun d => He.fnW (He.frG (HandSHeadRun.getT x.2) asH) d.at_)) = some (true, fnH.map He.DefD.val) := by kernel_rfl
theorem runF (w : World) : (HandSHeadRun.wholeF (fun p => HandSHeadRun.stepQ (HandSHeadRun.denQ HandSHeadRun.tabQ) p w) HandSHeadRun.fenceQ 20000 RH.prog).map (fun x => obH x.2) = some (valV fnH) := run2 (runA w) (runB w)
theorem runH (w : World) : HandSHeadRun.RunEqI RH qH hkH obH 20000 looseH w := run3 (runL w) (runS w) (runF w)
end
end Vk

namespace Vs
/-! ### spans of offsets -/
abbrev Spn := Option Rat × Option Rat
def maxO : Option Rat → Option Rat → Option Rat
  | none, b => b
  | some p, none => some p
  | some p, some q => some (if q ≤ p then p else q)
def minO : Option Rat → Option Rat → Option Rat
  | none, b => b
  | some p, none => some p
  | some p, some q => some (if p ≤ q then p else q)
def crossed : Option Rat → Option Rat → Bool
  | some l, some h => decide (h < l)
  | _, _ => false
def meetO (a b : Spn) : Option Spn := if crossed (maxO a.1 b.1) (minO a.2 b.2) = true then none else some (maxO a.1 b.1, minO a.2 b.2)
def aboveO (o : Option Rat) (t : Rat) : Bool := match o with | none => true | some l => !decide (t < l)
def belowO (o : Option Rat) (t : Rat) : Bool := match o with | none => true | some h => !decide (h < t)
def inS (s : Spn) (t : Rat) : Bool := aboveO s.1 t && belowO s.2 t
def movO (o : Option Rat) (d : Rat) : Option Rat := match o with | none => none | some q => some (q + d)
def negO (o : Option Rat) : Option Rat := match o with | none => none | some q => some (-q)
def shO (s : Spn) (d : Rat) : Spn := (movO s.1 d, movO s.2 d)
def offO (x y : Rat) (fo ba : Spn) : Option Spn := meetO (shO (negO fo.2, negO fo.1) x) (shO ba y)
theorem above_max (a b : Option Rat) (t : Rat) : aboveO (maxO a b) t = (aboveO a t && aboveO b t) := by
  cases a with
  | none => simp [maxO, aboveO]
  | some p => cases b with
    | none => simp [maxO, aboveO]
    | some q =>
      simp only [maxO, aboveO]
      split <;> by_cases h1 : t < p <;> by_cases h2 : t < q <;> simp [h1, h2] <;> grind
theorem below_min (a b : Option Rat) (t : Rat) : belowO (minO a b) t = (belowO a t && belowO b t) := by
  cases a with
  | none => simp [minO, belowO]
  | some p => cases b with
    | none => simp [minO, belowO]
    | some q =>
      simp only [minO, belowO]
      split <;> by_cases h1 : p < t <;> by_cases h2 : q < t <;> simp [h1, h2] <;> grind
theorem crossed_in {l h : Option Rat} (c : crossed l h = true) (t : Rat) : (aboveO l t && belowO h t) = false := by
  cases l with
  | none => simp [crossed] at c
  | some p => cases h with
    | none => simp [crossed] at c
    | some q =>
      simp only [crossed, decide_eq_true_eq] at c
      simp only [aboveO, belowO]
      by_cases h1 : t < p <;> by_cases h2 : q < t <;> simp [h1, h2] <;> grind
theorem meet_in (a b : Spn) (t : Rat) : (inS a t && inS b t) = (match meetO a b with | none => false | some s => inS s t) := by
  have e : (inS a t && inS b t) = (aboveO (maxO a.1 b.1) t && belowO (minO a.2 b.2) t) := by
    rw [above_max, below_min]
    unfold inS
    cases aboveO a.1 t <;> cases aboveO b.1 t <;> cases belowO a.2 t <;> cases belowO b.2 t <;> rfl
  rw [e]
  unfold meetO
  by_cases c : crossed (maxO a.1 b.1) (minO a.2 b.2) = true
  · rw [if_pos c]
    exact crossed_in c t
  · rw [if_neg c]
    rfl
theorem above_mov (o : Option Rat) (x f : Rat) : aboveO (movO (negO o) x) f = belowO o (x - f) := by
  cases o with
  | none => rfl
  | some q =>
    simp only [negO, movO, aboveO, belowO]
    congr 1
    exact decide_eq_decide.mpr (by grind)
theorem below_mov (o : Option Rat) (x f : Rat) : belowO (movO (negO o) x) f = aboveO o (x - f) := by
  cases o with
  | none => rfl
  | some q =>
    simp only [negO, movO, aboveO, belowO]
    congr 1
    exact decide_eq_decide.mpr (by grind)
theorem above_mov2 (o : Option Rat) {y z : Rat} (f : Rat) (h : y = -z) : aboveO (movO o y) f = aboveO o (z + f) := by
  cases o with
  | none => rfl
  | some q =>
    simp only [movO, aboveO]
    congr 1
    exact decide_eq_decide.mpr (by grind)
theorem below_mov2 (o : Option Rat) {y z : Rat} (f : Rat) (h : y = -z) : belowO (movO o y) f = belowO o (z + f) := by
  cases o with
  | none => rfl
  | some q =>
    simp only [movO, belowO]
    congr 1
    exact decide_eq_decide.mpr (by grind)
theorem off_in (x y z : Rat) (fo ba : Spn) (f : Rat) (h : y = -z) : (inS fo (x - f) && inS ba (z + f)) = (match offO x y fo ba with | none => false | some s => inS s f) := by
  unfold offO
  rw [← meet_in]
  unfold inS shO
  simp only [above_mov, below_mov, above_mov2 _ f h, below_mov2 _ f h]
  cases aboveO fo.1 (x - f) <;> cases belowO fo.2 (x - f) <;> cases aboveO ba.1 (z + f) <;> cases belowO ba.2 (z + f) <;> rfl
theorem off_ok {x y : Rat} {fo ba s : Spn} (h : offO x y fo ba = some s) : crossed s.1 s.2 = false := by
  unfold offO meetO at h
  split at h
  · cases h
  · rename_i c
    cases h
    simpa using c
/-- both ends known: no end is farther from the plain offset than half the width -/
theorem off_half {x y lo hi : Rat} {s : Spn} (h : offO x y (some lo, some hi) (some lo, some hi) = some s) :
    ∃ l u, s = (some l, some u) ∧ ∀ f, f = l ∨ f = u → ¬ (hi - lo < 2 * ((x + y) / 2 - f)) ∧ ¬ (hi - lo < 2 * (f - (x + y) / 2)) := by
  have c := off_ok h
  unfold offO meetO at h
  split at h
  · cases h
  · simp only [shO, negO, movO, maxO, minO] at h
    obtain rfl := (Option.some.inj h).symm
    refine ⟨_, _, rfl, fun f hf => ?_⟩
    simp only [crossed, decide_eq_false_iff_not] at c
    have e2 : (x + y) / 2 + (x + y) / 2 = x + y := by grind
    generalize (x + y) / 2 = p at e2
    have e3 : ∀ q : Rat, 2 * q = q + q := fun q => by grind
    rw [e3, e3]
    split at hf <;> split at hf <;> rename_i h1 h2 <;> simp only [h1, h2, if_true, if_false] at c <;> rcases hf with rfl | rfl <;> constructor <;> grind
/-! ### sizes and items -/
def itemsO : Spn → List Rat := fun s => s.1.toList ++ s.2.toList
end Vs

namespace Vl
/-! ### laps -/
/-- the six numbers: bound, half, lap, slew, drift, goal -/
structure A6 where
  b : Rat
  h : Rat
  l : Rat
  s : Rat
  d : Rat
def ahead (x : A6) : Rat := x.h + x.d * x.l
def gain (x : A6) : Rat := (x.s - x.d) * x.l
structure Good (x : A6) : Prop where
  b0 : 0 ≤ x.b
  h0 : 0 ≤ x.h
  l0 : 0 < x.l
  s0 : 0 < x.s
  s1 : x.s < 1
  d0 : 0 ≤ x.d
  ds : x.d < x.s
theorem mul_pos' {a b : Rat} (ha : 0 < a) (hb : 0 < b) : 0 < a * b := Rat.mul_pos ha hb
theorem mul_nn {a b : Rat} (ha : 0 ≤ a) (hb : 0 ≤ b) : 0 ≤ a * b := Rat.mul_nonneg ha hb
theorem Good.gp {x : A6} (g : Good x) : 0 < gain x := mul_pos' (by have := g.ds; grind) g.l0
theorem Good.an {x : A6} (g : Good x) : 0 ≤ ahead x := by
  have h1 := g.h0
  have h2 : 0 ≤ x.d * x.l := mul_nn g.d0 (by have := g.l0; grind)
  unfold ahead
  grind
def lapsP (x : A6) (g : Rat) : Option Int := if x.b ≤ g then some 0 else if g < ahead x then none else some (-((g - x.b) / gain x).floor)
def mx (a b : Rat) : Rat := if a < b then b else a
def after (x : A6) (k : Int) : Rat := if k = 0 then x.b else mx (x.b + (k : Rat) * ((x.d - x.s) * x.l)) (ahead x)
def LapsOk (x : A6) (g : Rat) : Option Int → Prop
  | none => g < x.b ∧ g < ahead x
  | some k => 0 ≤ k ∧ k ≤ 1000 ∧ ¬ g < after x k ∧ (0 < k → g < x.b) ∧ (2 ≤ k → g < after x (k - 1))
theorem neg_gain (x : A6) (k : Rat) : k * ((x.d - x.s) * x.l) = - (k * gain x) := by unfold gain; grind
theorem laps_ok {x : A6} {g : Rat} (G : Good x) (top : x.b - g ≤ 1000 * gain x ∨ x.b = 0) : LapsOk x g (lapsP x g) := by
  have gp := G.gp
  have an := G.an
  unfold lapsP
  split
  · rename_i h
    refine ⟨by decide, by decide, ?_, fun z => absurd z (by decide), fun z => absurd z (by decide)⟩
    unfold after
    rw [if_pos rfl]
    exact Rat.not_lt.mpr h
  · rename_i h1
    split
    · rename_i h2
      exact ⟨Rat.not_le.mp h1, h2⟩
    · rename_i h2
      have h1 : g < x.b := Rat.not_le.mp h1
      have h2 : ahead x ≤ g := Rat.not_lt.mp h2
      have top : x.b - g ≤ 1000 * gain x := by
        rcases top with h | h
        · exact h
        · exfalso; grind
      obtain ⟨t, ht⟩ : ∃ t, t = (g - x.b) / gain x := ⟨_, rfl⟩
      have te : t * gain x = g - x.b := by
        rw [ht]
        exact Rat.div_mul_cancel (by grind)
      rw [← ht]
      have f1 := Rat.floor_le t
      have f2 := Rat.lt_floor_add_one t
      obtain ⟨k, hk⟩ : ∃ k : Int, k = -t.floor := ⟨_, rfl⟩
      have ek : ((t.floor : Int) : Rat) = -(k : Rat) := by rw [hk]; push_cast; grind
      have ek1 : ((t.floor + 1 : Int) : Rat) = -(k : Rat) + 1 := by rw [hk]; push_cast; grind
      rw [ek] at f1
      rw [ek1] at f2
      rw [← hk]
      -- k gain between
      have m1 : -(k : Rat) * gain x ≤ t * gain x := Rat.mul_le_mul_of_nonneg_right f1 (by grind)
      have m2 : t * gain x < (-(k : Rat) + 1) * gain x := Rat.mul_lt_mul_of_pos_right f2 gp
      have tneg : t < 0 := by
        by_cases z : t < 0
        · exact z
        · exfalso
          have := mul_nn (Rat.not_lt.mp z) (show (0 : Rat) ≤ gain x by grind)
          grind
      have t1000 : -1000 ≤ t := by
        by_cases z : -1000 ≤ t
        · exact z
        · exfalso
          have := Rat.mul_lt_mul_of_pos_right (Rat.not_le.mp z) gp
          grind
      have k1 : 0 < k := by
        have : (0 : Rat) < (k : Rat) := by grind
        exact_mod_cast this
      have k2 : k ≤ 1000 := by
        have : (k : Rat) < ((1001 : Int) : Rat) := by
          have e : ((1001 : Int) : Rat) = 1001 := rfl
          rw [e]
          grind
        have := Rat.intCast_lt_intCast.mp this
        omega
      have key : x.b - (k : Rat) * gain x ≤ g := by grind
      refine ⟨by omega, k2, ?_, fun _ => h1, fun k3 => ?_⟩
      · unfold after mx
        rw [if_neg (by omega), neg_gain]
        split <;> grind
      · unfold after mx
        rw [if_neg (by omega), neg_gain]
        have e : ((k - 1 : Int) : Rat) = (k : Rat) - 1 := by push_cast; rfl
        rw [e]
        split <;> grind
/-- one lap -/
def nextB (x : A6) (b : Rat) : Rat := x.d * x.l + (if x.h ≤ b - x.s * x.l then b - x.s * x.l else x.h)
theorem next_eq (x : A6) (b : Rat) : nextB x b = mx (b + (1 : Rat) * ((x.d - x.s) * x.l)) (ahead x) := by
  rw [neg_gain]
  unfold nextB mx ahead gain
  split <;> split <;> grind
theorem after_next {x : A6} (G : Good x) (b : Rat) (i : Int) (hi : 0 ≤ i) : nextB x (after { x with b := b } i) = after { x with b := b } (i + 1) := by
  rw [next_eq, neg_gain]
  have gp := G.gp
  have e1 : ahead { x with b := b } = ahead x := rfl
  have e2 : gain { x with b := b } = gain x := rfl
  unfold after
  rw [if_neg (show ¬ i + 1 = 0 by omega)]
  rw [neg_gain, e2, e1]
  have e3 : ((i + 1 : Int) : Rat) = (i : Rat) + 1 := by push_cast; rfl
  rw [e3]
  split
  · rename_i h
    subst h
    simp only [Rat.intCast_zero]
    congr 1
    have := neg_gain x 1
    grind
  · rw [neg_gain, e2]
    unfold mx
    split <;> split <;> split <;> grind
theorem after_le {x : A6} {g : Rat} (G : Good x) (b : Rat) (hb : b ≤ g) (ha : ahead x ≤ g) (i : Int) (hi : 0 ≤ i) : ¬ g < after { x with b := b } i := by
  have gp := G.gp
  have e1 : ahead { x with b := b } = ahead x := rfl
  have e2 : gain { x with b := b } = gain x := rfl
  unfold after mx
  split
  · exact Rat.not_lt.mpr hb
  · rw [neg_gain, e2, e1]
    have : (0 : Rat) ≤ (i : Rat) * gain x := mul_nn (by exact_mod_cast hi) (by grind)
    split <;> grind
theorem after_nn {x : A6} (G : Good x) (k : Int) : 0 ≤ after x k := by
  have := G.an
  have := G.b0
  unfold after mx
  split
  · exact G.b0
  · split <;> grind
end Vl

namespace Vk
open PySem L2 Vm
def top (i : Nat) : Stmt := PySem.Challenge.pw_clockverdict_k11_elapsed.main.body.getD i (.Pass ⟨0, 0, 0, 0⟩)
variable {P : Program} {w : World} {K : PySem.W.Frag} {mg : Str → Option Value} {base : Heap} {k : Nat} {f f1 f2 f3 f4 f5 f6 f7 f8 f9 : Addr} {fd fd1 fd2 fd3 fd4 fd5 fd6 fd7 fd8 fd9 : FuncData}
/-! ### the law's own rationals -/
def spFrac (K : PySem.W.Frag) : Sp := fun vs H Q _ => ∃ (n d : Int) (b : Nat), vs = [.int n, .int d] ∧ 0 < d ∧ n.natAbs < 2 ^ b ∧ d.natAbs < 2 ^ b ∧ b ≤ 9000 ∧
  ∀ r H', Same H H' → Rq K H' r (mkRat n d.toNat) → Q r H'
abbrev s__law_frac : Stmt := top 57
abbrev N__law_frac : List Str := ["_law_n", "_law_d", "_law_a", "_law_b"]
theorem sc__law_frac : FnScope N__law_frac ["_law_n", "_law_d"] (defScope s__law_frac) := ⟨rfl, rfl, rfl, by decide +kernel, rfl, by decide +kernel, by decide +kernel⟩
abbrev ps__law_frac : List Str := ["_law_n", "_law_d"]
theorem ok_frac (T : Bn mg) (F : Fn K mg "_law_frac" s__law_frac ps__law_frac f fd) : Def P w K mg base (k + 1) "_law_frac" ps__law_frac (spFrac K) f fd := by
  refine ⟨F.F.ok sc__law_frac (fun vs H Q E h => ?_) (fun cdv A outer s H vs Q E hr h => ?_), F.m, F.F.kp, F.b⟩
  · obtain ⟨n, d, b, rfl, _⟩ := h
    rfl
  obtain ⟨n, d, b, rfl, hd, hn, hdb, hb, q⟩ := h
  refine ⟨_, (pss_cons (ps_if (pt_cmpR op_eq (pv 1) pe_int (nomark _))
        (pss_one (ps_ret (pe_tup (pa_cons pe_int (pa_cons pe_int pa_nil)))))
        pss_nil)
      (pss_cons (ps_set (i := 2) sc__law_frac.nd rfl (Or.inl rfl) (pe_callB call_abs (by rfl) T.abs_ (by decide +kernel) (pa_cons (pv 0) pa_nil)))
      (pss_cons (ps_set (i := 3) sc__law_frac.nd rfl (Or.inl rfl) (pe_callB call_abs (by rfl) T.abs_ (by decide +kernel) (pa_cons (pv 1) pa_nil)))
      (pss_cons (ps_while PassesOwn.never (pt_cmpR op_gt (pv 3) pe_int (nomark _))
        (pss_one (ps_par (i := 2) (j := 3) (by rfl) sc__law_frac.nd rfl rfl (by decide) rfl rfl (pa_cons (pv 3) (pa_cons (pe_op op_modN (pe_callTy call_int1 (by rfl) T.int_ (by decide +kernel) (pa_cons (pv 2) pa_nil)) (pv 3)) pa_nil)) (by rfl))))
      (pss_cons (ps_if (pt_cmpR op_lt (pv 1) pe_int (nomark _))
        (pss_one (ps_set (i := 2) sc__law_frac.nd rfl (Or.inl rfl) (pe_op op_sub pe_int (pv 2))))
        pss_nil)
      (pss_one (ps_ret (pe_tup (pa_cons (pe_op op_fdivW (pv 0) (pv 2)) (pa_cons (pe_op op_fdivW (pv 1) (pv 2)) pa_nil)))))))))), ?_⟩
  have b0 : 0 < b := by
    cases b with
    | zero => simp at hdb; omega
    | succ b => exact Nat.succ_pos _
  -- if _law_d == 0
  refine ⟨_, rfl, rfl, _, rfl, ifF (dF fun c => by cases c; omega) ?_⟩
  have ea : ∀ z : Int, (if z < 0 then -z else z) = (z.natAbs : Int) := fun z => by split <;> omega
  refine ⟨_, rfl, _, rfl, _, rfl, _, rfl, (fun m σ H' => ∃ x y : Nat, m = y ∧ σ = [some (.int n), some (.int d), some (.int x), some (.int y)] ∧ H' = H ∧ Nat.gcd x y = Nat.gcd n.natAbs d.natAbs),
    ⟨_, n.natAbs, d.natAbs, rfl, by rw [ea, ea]; rfl, rfl, rfl⟩, ?_⟩
  rintro m σ H' ⟨x, y, em, rfl, rfl, hg⟩
  subst em
  -- while _law_b > 0
  refine ⟨_, rfl, _, _, rfl, rfl, _, rfl, ifD (fun c => ?_) (fun c => ?_)⟩
  · refine ⟨_, fun _ _ z => z, _, rfl, _, rfl, .inl ⟨_, rfl, _, rfl, _, _, rfl, rfl, by omega, _, _, rfl, ?_⟩⟩
    refine ⟨x % m, Nat.mod_lt _ (by omega), m, x % m, rfl, ?_, rfl, ?_⟩
    · show [some (V.int n), some (V.int d), some (V.int (m : Int)), some (V.int ((x : Int).fmod (m : Int)))] = _
      rw [fmod_nat]
    · rw [← hg, Nat.gcd_comm x m, Nat.gcd_rec m x, Nat.gcd_comm]
  have y0 : m = 0 := by omega
  subst y0
  rw [Nat.gcd_zero_right] at hg
  subst hg
  have dn : d.toNat ≠ 0 := by omega
  have gp : 0 < Nat.gcd n.natAbs d.natAbs := Nat.gcd_pos_of_pos_right _ (by omega)
  have gb : (((Nat.gcd n.natAbs d.natAbs : Nat) : Int)).natAbs < 2 ^ b := by
    rw [Int.natAbs_natCast]
    exact Nat.lt_of_le_of_lt (Nat.gcd_le_right _ (by omega)) hdb
  have w : CDivW n ((Nat.gcd n.natAbs d.natAbs : Nat) : Int) := wide_div (by omega) gb b0 (by omega)
  have w2 : CDivW d ((Nat.gcd n.natAbs d.natAbs : Nat) : Int) := wide_div (by omega) gb b0 (by omega)
  have ed : d.toNat = d.natAbs := by omega
  refine ⟨_, rfl, _, _, rfl, rfl, _, rfl, ifF (dF (by omega)) ?_⟩
  refine ⟨_, rfl, _, rfl, _, _, rfl, rfl, w, _, rfl, _, rfl, _, _, rfl, rfl, w2, sz2, fun p hp => ?_⟩
  refine q _ _ (same_new hp _) ⟨p, rfl, SqT.of ?_⟩
  rw [upd_same, mk_num n dn, mk_den n dn, ed]
  congr 4
  have e : d = (d.natAbs : Int) := by omega
  rw [show (((d.natAbs / Nat.gcd n.natAbs d.natAbs : Nat)) : Int) = (d.natAbs : Int) / ((Nat.gcd n.natAbs d.natAbs : Nat) : Int) from Int.natCast_ediv _ _]
  rw [← e]
/-- two rationals in, their f out -/
def spOp2 (K : PySem.W.Frag) (g : Rat → Rat → Rat) : Sp := fun vs H Q _ => ∃ (x y : V) (p q : Rat) (m l : Nat), vs = [x, y] ∧ Rq K H x p ∧ Rq K H y q ∧ Sz m p ∧ Sz l q ∧ m + l + 1 ≤ 9000 ∧
  ∀ r H', Same H H' → Rq K H' r (g p q) → Q r H'
/-- two rationals in, a test of them out -/
def spTest2 (K : PySem.W.Frag) (g : Rat → Rat → V) : Sp := fun vs H Q _ => ∃ (x y : V) (p q : Rat) (m l : Nat), vs = [x, y] ∧ Rq K H x p ∧ Rq K H y q ∧ Sz m p ∧ Sz l q ∧ m + l + 1 ≤ 900000 ∧ Q (g p q) H
theorem mulW {m l : Nat} {i j : Int} (hi : i.natAbs < 2 ^ m) (hj : j.natAbs < 2 ^ l) (h0 : 0 < m) (h1 : 0 < l) (h : m + l ≤ 900000) : CMulW i j := wide_mul hi hj h0 h1 (by omega)
abbrev s__law_plus : Stmt := top 58
abbrev N__law_plus : List Str := ["_law_a", "_law_b"]
theorem sc__law_plus : FnScope N__law_plus ["_law_a", "_law_b"] (defScope s__law_plus) := ⟨rfl, rfl, rfl, by decide +kernel, rfl, by decide +kernel, by decide +kernel⟩
abbrev ps__law_plus : List Str := ["_law_a", "_law_b"]
theorem ok_plus (F : Fn K mg "_law_plus" s__law_plus ps__law_plus f fd) (d_law_frac : Def P w K mg base k "_law_frac" ["_law_n", "_law_d"] (spFrac K) f1 fd1) : Def P w K mg base (k + 1) "_law_plus" ps__law_plus (spOp2 K (· + ·)) f fd := by
  refine ⟨F.F.ok sc__law_plus (fun vs H Q E h => ?_) (fun cdv A outer s H vs Q E hr h => ?_), F.m, F.F.kp, F.b⟩
  · obtain ⟨x, y, p, q, m, l, rfl, _⟩ := h
    rfl
  obtain ⟨x, y, p, q, m, l, rfl, ⟨a, rfl, ha⟩, ⟨b, rfl, hb⟩, zp, zq, hm, z⟩ := h
  have m0 := nn zp
  have l0 := nn zq
  refine ⟨_, (pss_one (ps_ret (pcall d_law_frac hr (pa_cons (pe_op op_add (pe_op op_mulW (pe_ix ix_tup (pv 0) pe_int (fun _ _ => rfl)) (pe_ix ix_tup (pv 1) pe_int (fun _ _ => rfl))) (pe_op op_mulW (pe_ix ix_tup (pv 1) pe_int (fun _ _ => rfl)) (pe_ix ix_tup (pv 0) pe_int (fun _ _ => rfl)))) (pa_cons (pe_op op_mulW (pe_ix ix_tup (pv 0) pe_int (fun _ _ => rfl)) (pe_ix ix_tup (pv 1) pe_int (fun _ _ => rfl))) pa_nil))))), ?_⟩
  refine ⟨_, rfl, a, _, _, _, rfl, rfl, ha, at0 rfl, _, rfl, b, _, _, _, rfl, rfl, hb, at1 rfl, _, _, rfl, rfl, mulW zp.1 (dA zq) m0 l0 (by omega), ?_⟩
  refine ⟨_, rfl, b, _, _, _, rfl, rfl, hb, at0 rfl, _, rfl, a, _, _, _, rfl, rfl, ha, at1 rfl, _, _, rfl, rfl, mulW zq.1 (dA zp) l0 m0 (by omega), _, _, rfl, rfl, ?_⟩
  refine ⟨_, rfl, a, _, _, _, rfl, rfl, ha, at1 rfl, _, rfl, b, _, _, _, rfl, rfl, hb, at1 rfl, _, _, rfl, rfl, mulW (dA zp) (dA zq) m0 l0 (by omega), ?_⟩
  refine ⟨_, _, m + l + 1, rfl, dd_pos p q, ab_add (ab_mul zp.1 (dA zq)) (ab_up (ab_mul zq.1 (dA zp)) (by omega)), ab_up (ab_mul (dA zp) (dA zq)) (by omega), by omega, fun r H' e hr => z r H' e ?_⟩
  rw [mk_add] at hr
  exact hr
abbrev s__law_minus : Stmt := top 59
abbrev N__law_minus : List Str := ["_law_a", "_law_b"]
theorem sc__law_minus : FnScope N__law_minus ["_law_a", "_law_b"] (defScope s__law_minus) := ⟨rfl, rfl, rfl, by decide +kernel, rfl, by decide +kernel, by decide +kernel⟩
abbrev ps__law_minus : List Str := ["_law_a", "_law_b"]
theorem ok_minus (F : Fn K mg "_law_minus" s__law_minus ps__law_minus f fd) (d_law_frac : Def P w K mg base k "_law_frac" ["_law_n", "_law_d"] (spFrac K) f1 fd1) : Def P w K mg base (k + 1) "_law_minus" ps__law_minus (spOp2 K (· - ·)) f fd := by
  refine ⟨F.F.ok sc__law_minus (fun vs H Q E h => ?_) (fun cdv A outer s H vs Q E hr h => ?_), F.m, F.F.kp, F.b⟩
  · obtain ⟨x, y, p, q, m, l, rfl, _⟩ := h
    rfl
  obtain ⟨x, y, p, q, m, l, rfl, ⟨a, rfl, ha⟩, ⟨b, rfl, hb⟩, zp, zq, hm, z⟩ := h
  have m0 := nn zp
  have l0 := nn zq
  refine ⟨_, (pss_one (ps_ret (pcall d_law_frac hr (pa_cons (pe_op op_sub (pe_op op_mulW (pe_ix ix_tup (pv 0) pe_int (fun _ _ => rfl)) (pe_ix ix_tup (pv 1) pe_int (fun _ _ => rfl))) (pe_op op_mulW (pe_ix ix_tup (pv 1) pe_int (fun _ _ => rfl)) (pe_ix ix_tup (pv 0) pe_int (fun _ _ => rfl)))) (pa_cons (pe_op op_mulW (pe_ix ix_tup (pv 0) pe_int (fun _ _ => rfl)) (pe_ix ix_tup (pv 1) pe_int (fun _ _ => rfl))) pa_nil))))), ?_⟩
  refine ⟨_, rfl, a, _, _, _, rfl, rfl, ha, at0 rfl, _, rfl, b, _, _, _, rfl, rfl, hb, at1 rfl, _, _, rfl, rfl, mulW zp.1 (dA zq) m0 l0 (by omega), ?_⟩
  refine ⟨_, rfl, b, _, _, _, rfl, rfl, hb, at0 rfl, _, rfl, a, _, _, _, rfl, rfl, ha, at1 rfl, _, _, rfl, rfl, mulW zq.1 (dA zp) l0 m0 (by omega), _, _, rfl, rfl, ?_⟩
  refine ⟨_, rfl, a, _, _, _, rfl, rfl, ha, at1 rfl, _, rfl, b, _, _, _, rfl, rfl, hb, at1 rfl, _, _, rfl, rfl, mulW (dA zp) (dA zq) m0 l0 (by omega), ?_⟩
  refine ⟨_, _, m + l + 1, rfl, dd_pos p q, ab_sub (ab_mul zp.1 (dA zq)) (ab_up (ab_mul zq.1 (dA zp)) (by omega)), ab_up (ab_mul (dA zp) (dA zq)) (by omega), by omega, fun r H' e hr => z r H' e ?_⟩
  rw [mk_sub] at hr
  exact hr
abbrev s__law_times : Stmt := top 60
abbrev N__law_times : List Str := ["_law_a", "_law_b"]
theorem sc__law_times : FnScope N__law_times ["_law_a", "_law_b"] (defScope s__law_times) := ⟨rfl, rfl, rfl, by decide +kernel, rfl, by decide +kernel, by decide +kernel⟩
abbrev ps__law_times : List Str := ["_law_a", "_law_b"]
theorem ok_times (F : Fn K mg "_law_times" s__law_times ps__law_times f fd) (d_law_frac : Def P w K mg base k "_law_frac" ["_law_n", "_law_d"] (spFrac K) f1 fd1) : Def P w K mg base (k + 1) "_law_times" ps__law_times (spOp2 K (· * ·)) f fd := by
  refine ⟨F.F.ok sc__law_times (fun vs H Q E h => ?_) (fun cdv A outer s H vs Q E hr h => ?_), F.m, F.F.kp, F.b⟩
  · obtain ⟨x, y, p, q, m, l, rfl, _⟩ := h
    rfl
  obtain ⟨x, y, p, q, m, l, rfl, ⟨a, rfl, ha⟩, ⟨b, rfl, hb⟩, zp, zq, hm, z⟩ := h
  have m0 := nn zp
  have l0 := nn zq
  refine ⟨_, (pss_one (ps_ret (pcall d_law_frac hr (pa_cons (pe_op op_mulW (pe_ix ix_tup (pv 0) pe_int (fun _ _ => rfl)) (pe_ix ix_tup (pv 1) pe_int (fun _ _ => rfl))) (pa_cons (pe_op op_mulW (pe_ix ix_tup (pv 0) pe_int (fun _ _ => rfl)) (pe_ix ix_tup (pv 1) pe_int (fun _ _ => rfl))) pa_nil))))), ?_⟩
  refine ⟨_, rfl, a, _, _, _, rfl, rfl, ha, at0 rfl, _, rfl, b, _, _, _, rfl, rfl, hb, at0 rfl, _, _, rfl, rfl, mulW zp.1 zq.1 m0 l0 (by omega), ?_⟩
  refine ⟨_, rfl, a, _, _, _, rfl, rfl, ha, at1 rfl, _, rfl, b, _, _, _, rfl, rfl, hb, at1 rfl, _, _, rfl, rfl, mulW (dA zp) (dA zq) m0 l0 (by omega), ?_⟩
  refine ⟨_, _, m + l + 1, rfl, dd_pos p q, ab_up (ab_mul zp.1 zq.1) (by omega), ab_up (ab_mul (dA zp) (dA zq)) (by omega), by omega, fun r H' e hr => z r H' e ?_⟩
  rw [mk_mul] at hr
  exact hr
abbrev s__law_below : Stmt := top 61
abbrev N__law_below : List Str := ["_law_a", "_law_b"]
theorem sc__law_below : FnScope N__law_below ["_law_a", "_law_b"] (defScope s__law_below) := ⟨rfl, rfl, rfl, by decide +kernel, rfl, by decide +kernel, by decide +kernel⟩
abbrev ps__law_below : List Str := ["_law_a", "_law_b"]
theorem ok_below (F : Fn K mg "_law_below" s__law_below ps__law_below f fd) : Def P w K mg base (k + 1) "_law_below" ps__law_below (spTest2 K fun p q => .bl (decide (p < q))) f fd := by
  refine ⟨F.F.ok sc__law_below (fun vs H Q E h => ?_) (fun cdv A outer s H vs Q E hr h => ?_), F.m, F.F.kp, F.b⟩
  · obtain ⟨x, y, p, q, m, l, rfl, _⟩ := h
    rfl
  obtain ⟨x, y, p, q, m, l, rfl, ⟨a, rfl, ha⟩, ⟨b, rfl, hb⟩, zp, zq, hm, z⟩ := h
  have m0 := nn zp
  have l0 := nn zq
  refine ⟨_, (pss_one (ps_ret (pe_cmpR op_lt (pe_op op_mulW (pe_ix ix_tup (pv 0) pe_int (fun _ _ => rfl)) (pe_ix ix_tup (pv 1) pe_int (fun _ _ => rfl))) (pe_op op_mulW (pe_ix ix_tup (pv 1) pe_int (fun _ _ => rfl)) (pe_ix ix_tup (pv 0) pe_int (fun _ _ => rfl))) (nomark _)))), ?_⟩
  refine ⟨_, rfl, a, _, _, _, rfl, rfl, ha, at0 rfl, _, rfl, b, _, _, _, rfl, rfl, hb, at1 rfl, _, _, rfl, rfl, mulW zp.1 (dA zq) m0 l0 (by omega), ?_⟩
  refine ⟨_, rfl, b, _, _, _, rfl, rfl, hb, at0 rfl, _, rfl, a, _, _, _, rfl, rfl, ha, at1 rfl, _, _, rfl, rfl, mulW zq.1 (dA zp) l0 m0 (by omega), _, _, rfl, rfl, ?_⟩
  show Q (.bl (decide (p.num * (q.den : Int) < q.num * (p.den : Int)))) H
  rw [decide_eq_decide.mpr (lt_num (p := p) (q := q)).symm]
  exact z
/-! ### the program's rationals -/
def sg (p q : Rat) : Int := if p = q then 0 else if p < q then -1 else 1
abbrev s_compare : Stmt := top 41
abbrev N_compare : List Str := ["a", "b", "left", "right"]
theorem sc_compare : FnScope N_compare ["a", "b"] (defScope s_compare) := ⟨rfl, rfl, rfl, by decide +kernel, rfl, by decide +kernel, by decide +kernel⟩
abbrev ps_compare : List Str := ["a", "b"]
theorem ok_compare (F : Fn K mg "compare" s_compare ps_compare f fd) : Def P w K mg base (k + 1) "compare" ps_compare (spTest2 K fun p q => .int (sg p q)) f fd := by
  refine ⟨F.F.ok sc_compare (fun vs H Q E h => ?_) (fun cdv A outer s H vs Q E hr h => ?_), F.m, F.F.kp, F.b⟩
  · obtain ⟨x, y, p, q, m, l, rfl, _⟩ := h
    rfl
  obtain ⟨x, y, p, q, m, l, rfl, ⟨a, rfl, ha⟩, ⟨b, rfl, hb⟩, zp, zq, hm, z⟩ := h
  have m0 := nn zp
  have l0 := nn zq
  refine ⟨_, (pss_cons (ps_set (i := 2) sc_compare.nd rfl (Or.inl rfl) (pe_op op_mulW (pe_ix ix_tup (pv 0) pe_int (fun _ _ => rfl)) (pe_ix ix_tup (pv 1) pe_int (fun _ _ => rfl))))
      (pss_cons (ps_set (i := 3) sc_compare.nd rfl (Or.inl rfl) (pe_op op_mulW (pe_ix ix_tup (pv 1) pe_int (fun _ _ => rfl)) (pe_ix ix_tup (pv 0) pe_int (fun _ _ => rfl))))
      (pss_cons (ps_if (pt_cmpR op_eq (pv 2) (pv 3) (nomark _))
        (pss_one (ps_ret pe_int))
        pss_nil)
      (pss_one (ps_ret (pe_ifExp (pt_cmpR op_lt (pv 2) (pv 3) (nomark _)) (pe_un un_neg pe_int) pe_int)))))), ?_⟩
  refine ⟨_, rfl, a, _, _, _, rfl, rfl, ha, at0 rfl, _, rfl, b, _, _, _, rfl, rfl, hb, at1 rfl, _, _, rfl, rfl, mulW zp.1 (dA zq) m0 l0 (by omega), ?_⟩
  refine ⟨_, rfl, b, _, _, _, rfl, rfl, hb, at0 rfl, _, rfl, a, _, _, _, rfl, rfl, ha, at1 rfl, _, _, rfl, rfl, mulW zq.1 (dA zp) l0 m0 (by omega), ?_⟩
  refine ⟨_, rfl, _, rfl, rfl, _, rfl, ifD (fun c => ?_) (fun c => ?_)⟩
  · have e : p = q := eq_num.mpr (V.int.inj c)
    have z' : Q (.int (sg p q)) H := z
    unfold sg at z'
    rw [if_pos e] at z'
    exact z'
  · have e : ¬ p = q := fun e => c (congrArg V.int (eq_num.mp e))
    have z' : Q (.int (sg p q)) H := z
    unfold sg at z'
    rw [if_neg e] at z'
    refine ⟨_, rfl, _, rfl, _, _, rfl, rfl, _, rfl, ifD (fun c => ?_) (fun c => ?_)⟩
    · rw [if_pos (lt_num.mpr c)] at z'
      exact ⟨_, rfl, z'⟩
    · rw [if_neg (fun e => c (lt_num.mp e))] at z'
      exact z'
abbrev s_negate : Stmt := top 39
abbrev N_negate : List Str := ["a"]
theorem sc_negate : FnScope N_negate ["a"] (defScope s_negate) := ⟨rfl, rfl, rfl, by decide +kernel, rfl, by decide +kernel, by decide +kernel⟩
abbrev ps_negate : List Str := ["a"]
def spOp1 (K : PySem.W.Frag) (g : Rat → Rat) : Sp := fun vs H Q _ => ∃ (x : V) (p : Rat), vs = [x] ∧ Rq K H x p ∧ ∀ r H', Same H H' → Rq K H' r (g p) → Q r H'
theorem ok_negate (F : Fn K mg "negate" s_negate ps_negate f fd) : Def P w K mg base (k + 1) "negate" ps_negate (spOp1 K fun p => -p) f fd := by
  refine ⟨F.F.ok sc_negate (fun vs H Q E h => ?_) (fun cdv A outer s H vs Q E hr h => ?_), F.m, F.F.kp, F.b⟩
  · obtain ⟨x, p, rfl, _⟩ := h
    rfl
  obtain ⟨x, p, rfl, ⟨a, rfl, ha⟩, z⟩ := h
  refine ⟨_, (pss_one (ps_ret (pe_tup (pa_cons (pe_un un_neg (pe_ix ix_tup (pv 0) pe_int (fun _ _ => rfl))) (pa_cons (pe_ix ix_tup (pv 0) pe_int (fun _ _ => rfl)) pa_nil))))), ?_⟩
  refine ⟨_, rfl, a, _, _, _, rfl, rfl, ha, at0 rfl, _, rfl, _, rfl, a, _, _, _, rfl, rfl, ha, at1 rfl, sz2, fun r hr' => ?_⟩
  exact z _ _ (same_new hr' _) ⟨r, rfl, SqT.of upd_same⟩
abbrev s_add : Stmt := top 36
abbrev N_add : List Str := ["a", "b", "common", "factor", "n", "rest"]
theorem sc_add : FnScope N_add ["a", "b"] (defScope s_add) := ⟨rfl, rfl, rfl, by decide +kernel, rfl, by decide +kernel, by decide +kernel⟩
abbrev ps_add : List Str := ["a", "b"]
theorem ok_add (T : Bn mg) (F : Fn K mg "add" s_add ps_add f fd) : Def P w K mg base (k + 1) "add" ps_add (spOp2 K (· + ·)) f fd := by
  refine ⟨F.F.ok sc_add (fun vs H Q E h => ?_) (fun cdv A outer s H vs Q E hr h => ?_), F.m, F.F.kp, F.b⟩
  · obtain ⟨x, y, p, q, m, l, rfl, _⟩ := h
    rfl
  obtain ⟨x, y, p, q, m, l, rfl, ⟨a, rfl, ha⟩, ⟨b, rfl, hb⟩, zp, zq, hm, z⟩ := h
  have m0 := nn zp
  have l0 := nn zq
  refine ⟨_, (pss_cons (ps_set (i := 2) sc_add.nd rfl (Or.inl rfl) (pe_callBfun cr_gcd (by rfl) T.gcd_ (pa_cons (pe_ix ix_tup (pv 0) pe_int (fun _ _ => rfl)) (pa_cons (pe_ix ix_tup (pv 1) pe_int (fun _ _ => rfl)) pa_nil))))
      (pss_cons (ps_set (i := 3) sc_add.nd rfl (Or.inl rfl) (pe_op op_fdivW (pe_ix ix_tup (pv 1) pe_int (fun _ _ => rfl)) (pv 2)))
      (pss_cons (ps_set (i := 4) sc_add.nd rfl (Or.inl rfl) (pe_op op_add (pe_op op_mulW (pe_ix ix_tup (pv 0) pe_int (fun _ _ => rfl)) (pv 3)) (pe_op op_mulW (pe_ix ix_tup (pv 1) pe_int (fun _ _ => rfl)) (pe_op op_fdivW (pe_ix ix_tup (pv 0) pe_int (fun _ _ => rfl)) (pv 2)))))
      (pss_cons (ps_set (i := 5) sc_add.nd rfl (Or.inl rfl) (pe_callBfun cr_gcd (by rfl) T.gcd_ (pa_cons (pv 4) (pa_cons (pv 2) pa_nil))))
      (pss_one (ps_ret (pe_tup (pa_cons (pe_op op_fdivW (pv 4) (pv 5)) (pa_cons (pe_op op_mulW (pe_op op_fdivW (pe_ix ix_tup (pv 0) pe_int (fun _ _ => rfl)) (pv 5)) (pv 3)) pa_nil))))))))), ?_⟩
  have gp : 0 < Nat.gcd p.den q.den := Nat.gcd_pos_of_pos_left _ p.den_pos
  have gb : (((Nat.gcd p.den q.den : Nat) : Int)).natAbs < 2 ^ m := Nat.lt_of_le_of_lt (Nat.gcd_le_left _ p.den_pos) zp.2
  have wg : ∀ x : Int, CDivW x ((Nat.gcd p.den q.den : Nat) : Int) := fun x => wide_div (by omega) gb m0 (by omega)
  have fb : (((q.den / Nat.gcd p.den q.den : Nat)) : Int).natAbs < 2 ^ l := Nat.lt_of_le_of_lt (Nat.div_le_self _ _) zq.2
  have hb' : (((p.den / Nat.gcd p.den q.den : Nat)) : Int).natAbs < 2 ^ m := Nat.lt_of_le_of_lt (Nat.div_le_self _ _) zp.2
  refine ⟨_, rfl, a, _, _, _, rfl, rfl, ha, at1 rfl, _, rfl, b, _, _, _, rfl, rfl, hb, at1 rfl, _, _, rfl, ?_⟩
  -- factor; n
  refine ⟨_, rfl, b, _, _, _, rfl, rfl, hb, at1 rfl, _, rfl, _, _, rfl, rfl, wg _, ?_⟩
  refine ⟨_, rfl, a, _, _, _, rfl, rfl, ha, at0 rfl, _, rfl, _, _, rfl, rfl, mulW zp.1 fb m0 l0 (by omega), ?_⟩
  refine ⟨_, rfl, b, _, _, _, rfl, rfl, hb, at0 rfl, _, rfl, a, _, _, _, rfl, rfl, ha, at1 rfl, _, rfl, _, _, rfl, rfl, wg _, _, _, rfl, rfl, mulW zq.1 hb' l0 m0 (by omega), _, _, rfl, rfl, ?_⟩
  -- rest
  refine ⟨_, rfl, _, rfl, _, _, rfl, ?_⟩
  obtain ⟨n, en⟩ : ∃ n : Int, n = p.num * ((q.den / Nat.gcd p.den q.den : Nat) : Int) + q.num * ((p.den / Nat.gcd p.den q.den : Nat) : Int) := ⟨_, rfl⟩
  obtain ⟨r, er⟩ : ∃ r : Nat, r = Nat.gcd n.natAbs (Nat.gcd p.den q.den) := ⟨_, rfl⟩
  have A := add_parts p q _ _ n r rfl rfl en er
  have rp : 0 < r := by rw [er]; exact Nat.gcd_pos_of_pos_right _ gp
  have rb : ((r : Nat) : Int).natAbs < 2 ^ m := by rw [er]; exact Nat.lt_of_le_of_lt (Nat.gcd_le_right _ gp) gb
  have wr : ∀ x : Int, CDivW x (r : Int) := fun x => wide_div (by omega) rb m0 (by omega)
  have db : (((p.den / r : Nat)) : Int).natAbs < 2 ^ m := Nat.lt_of_le_of_lt (Nat.div_le_self _ _) zp.2
  have en' : (fun i j : Int => i + j) ((fun i j : Int => i * j) p.num ((q.den : Int) / ((Nat.gcd p.den q.den : Nat) : Int))) ((fun i j : Int => i * j) q.num ((p.den : Int) / ((Nat.gcd p.den q.den : Nat) : Int))) = n := en.symm
  suffices hz : ∀ n' : Int, n' = n → ∀ r' : Int, r' = (r : Int) → tRet (tTup (tCons (tOp (rI CDivW fun i j => V.int (i / j)) (tVar 4) (tVar 5)) (tCons (tOp (rI CMulW fun i j => V.int (i * j)) (tOp (rI CDivW fun i j => V.int (i / j)) (tOp (rIxT K) (tVar 0) (tC (V.int 1))) (tVar 5)) (tVar 3)) tNil)))
      { nx := fun _ H' => Q V.non H', rt := Q } [some (.ref a), some (.ref b), some (.int ((Nat.gcd p.den q.den : Nat) : Int)), some (.int ((q.den / Nat.gcd p.den q.den : Nat) : Int)), some (.int n'), some (.int r')] H from hz _ en' _ (by rw [er, ← en']; rfl)
  rintro n' e1 r' e2
  subst e1 e2
  refine ⟨_, rfl, _, rfl, _, _, rfl, rfl, wr _, _, rfl, a, _, _, _, rfl, rfl, ha, at1 rfl, _, rfl, _, _, rfl, rfl, wr _, _, rfl, _, _, rfl, rfl, mulW db fb m0 l0 (by omega), sz2, fun t ht => ?_⟩
  refine z _ _ (same_new ht _) ⟨t, rfl, SqT.of ?_⟩
  rw [upd_same]
  show some (HO.tup [V.int (n' / (r : Int)), V.int (((p.den / r : Nat) : Int) * ((q.den / Nat.gcd p.den q.den : Nat) : Int))]) = some (HO.tup [V.int (p + q).num, V.int ((p + q).den : Int)])
  rw [A.1, A.2]
  rfl
abbrev s_subtract : Stmt := top 37
abbrev N_subtract : List Str := ["a", "b"]
theorem sc_subtract : FnScope N_subtract ["a", "b"] (defScope s_subtract) := ⟨rfl, rfl, rfl, by decide +kernel, rfl, by decide +kernel, by decide +kernel⟩
abbrev ps_subtract : List Str := ["a", "b"]
theorem ok_subtract (F : Fn K mg "subtract" s_subtract ps_subtract f fd) (dadd : Def P w K mg base k "add" ["a", "b"] (spOp2 K (· + ·)) f1 fd1) (dnegate : Def P w K mg base k "negate" ["a"] (spOp1 K fun p => -p) f2 fd2) :
    Def P w K mg base (k + 1) "subtract" ps_subtract (spOp2 K (· - ·)) f fd := by
  refine ⟨F.F.ok sc_subtract (fun vs H Q E h => ?_) (fun cdv A outer s H vs Q E hr h => ?_), F.m, F.F.kp, F.b⟩
  · obtain ⟨x, y, p, q, m, l, rfl, _⟩ := h
    rfl
  obtain ⟨x, y, p, q, m, l, rfl, ha, hb, zp, zq, hm, z⟩ := h
  refine ⟨_, (pss_one (ps_ret (pcall dadd hr (pa_cons (pv 0) (pa_cons (pcall dnegate hr (pa_cons (pv 1) pa_nil)) pa_nil))))), ?_⟩
  refine ⟨_, rfl, _, rfl, _, q, rfl, hb, fun r H' e hr' => ?_⟩
  refine ⟨_, _, p, -q, m, l, rfl, ha.same e, hr', zp, zq.neg, hm, fun r2 H2 e2 hr2 => z _ _ (e.trans e2) ?_⟩
  show Rq K H2 r2 (p - q)
  rw [Rat.sub_eq_add_neg]
  exact hr2
/-- rational(n, d) where d is above zero; its second argument is always written -/
abbrev s_rational : Stmt := top 35
abbrev N_rational : List Str := ["n", "d", "common"]
theorem sc_rational : FnScope N_rational ["n", "d"] (defScope s_rational) := ⟨rfl, rfl, rfl, by decide +kernel, rfl, by decide +kernel, by decide +kernel⟩
abbrev ps_rational : List Str := ["n", "d"]
theorem ok_rational (T : Bn mg) (F : FunA K "rational" "rational" s_rational f fd) (hm : mg "rational" = some (.ref f)) (hb : Binds K fd ps_rational []) : Def P w K mg base (k + 1) "rational" ps_rational (spFrac K) f fd := by
  refine ⟨F.ok sc_rational (fun vs H Q E h => ?_) (fun cdv A outer s H vs Q E hr h => ?_), hm, F.kp, hb⟩
  · obtain ⟨n, d, b, rfl, _⟩ := h
    rfl
  obtain ⟨n, d, b, rfl, hd, hn, hdb, hb, q⟩ := h
  refine ⟨_, (pss_cons (ps_if (pt_cmpR op_eq (pv 1) pe_int (nomark _))
        (pss_one ps_never)
        pss_nil)
      (pss_cons (ps_set (i := 2) sc_rational.nd rfl (Or.inl rfl) (pe_callBfun cr_gcd (by rfl) T.gcd_ (pa_cons (pv 0) (pa_cons (pv 1) pa_nil))))
      (pss_cons (ps_if (pt_cmpR op_lt (pv 1) pe_int (nomark _))
        (pss_one (ps_set (i := 2) sc_rational.nd rfl (Or.inl rfl) (pe_un un_neg (pv 2))))
        pss_nil)
      (pss_one (ps_ret (pe_tup (pa_cons (pe_op op_fdivW (pv 0) (pv 2)) (pa_cons (pe_op op_fdivW (pv 1) (pv 2)) pa_nil)))))))), ?_⟩
  have b0 : 0 < b := by
    cases b with
    | zero => simp at hdb; omega
    | succ b => exact Nat.succ_pos _
  have dn : d.toNat ≠ 0 := by omega
  have gp : 0 < Nat.gcd n.natAbs d.natAbs := Nat.gcd_pos_of_pos_right _ (by omega)
  have gb : (((Nat.gcd n.natAbs d.natAbs : Nat) : Int)).natAbs < 2 ^ b := by
    rw [Int.natAbs_natCast]
    exact Nat.lt_of_le_of_lt (Nat.gcd_le_right _ (by omega)) hdb
  have w : ∀ x : Int, CDivW x ((Nat.gcd n.natAbs d.natAbs : Nat) : Int) := fun x => wide_div (by omega) gb b0 (by omega)
  have ed : d.toNat = d.natAbs := by omega
  refine ⟨_, rfl, rfl, _, rfl, ifF (dF fun c => by cases c; omega) ?_⟩
  refine ⟨_, rfl, _, rfl, _, _, rfl, ?_⟩
  refine ⟨_, rfl, _, _, rfl, rfl, _, rfl, ifF (dF (by omega)) ?_⟩
  refine ⟨_, rfl, _, rfl, _, _, rfl, rfl, w _, _, rfl, _, rfl, _, _, rfl, rfl, w _, sz2, fun p hp => ?_⟩
  refine q _ _ (same_new hp _) ⟨p, rfl, SqT.of ?_⟩
  rw [upd_same, mk_num n dn, mk_den n dn, ed]
  congr 4
  have e : d = (d.natAbs : Int) := by omega
  rw [show (((d.natAbs / Nat.gcd n.natAbs d.natAbs : Nat)) : Int) = (d.natAbs : Int) / ((Nat.gcd n.natAbs d.natAbs : Nat) : Int) from Int.natCast_ediv _ _]
  rw [← e]
abbrev s_divide : Stmt := top 40
abbrev N_divide : List Str := ["a", "b"]
theorem sc_divide : FnScope N_divide ["a", "b"] (defScope s_divide) := ⟨rfl, rfl, rfl, by decide +kernel, rfl, by decide +kernel, by decide +kernel⟩
abbrev ps_divide : List Str := ["a", "b"]
def spDiv (K : PySem.W.Frag) : Sp := fun vs H Q _ => ∃ (x y : V) (p q : Rat) (m l : Nat), vs = [x, y] ∧ Rq K H x p ∧ Rq K H y q ∧ Sz m p ∧ Sz l q ∧ m + l + 1 ≤ 9000 ∧ 0 < q ∧ ∀ r H', Same H H' → Rq K H' r (p / q) → Q r H'
theorem ok_divide (F : Fn K mg "divide" s_divide ps_divide f fd) (drational : Def P w K mg base k "rational" ["n", "d"] (spFrac K) f1 fd1) : Def P w K mg base (k + 1) "divide" ps_divide (spDiv K) f fd := by
  refine ⟨F.F.ok sc_divide (fun vs H Q E h => ?_) (fun cdv A outer s H vs Q E hr h => ?_), F.m, F.F.kp, F.b⟩
  · obtain ⟨x, y, p, q, m, l, rfl, _⟩ := h
    rfl
  obtain ⟨x, y, p, q, m, l, rfl, ⟨a, rfl, ha⟩, ⟨b, rfl, hb⟩, zp, zq, hm, q0, z⟩ := h
  have m0 := nn zp
  have l0 := nn zq
  have hn := num_pos q0
  refine ⟨_, (pss_one (ps_ret (pcall drational hr (pa_cons (pe_op op_mulW (pe_ix ix_tup (pv 0) pe_int (fun _ _ => rfl)) (pe_ix ix_tup (pv 1) pe_int (fun _ _ => rfl))) (pa_cons (pe_op op_mulW (pe_ix ix_tup (pv 0) pe_int (fun _ _ => rfl)) (pe_ix ix_tup (pv 1) pe_int (fun _ _ => rfl))) pa_nil))))), ?_⟩
  refine ⟨_, rfl, a, _, _, _, rfl, rfl, ha, at0 rfl, _, rfl, b, _, _, _, rfl, rfl, hb, at1 rfl, _, _, rfl, rfl, mulW zp.1 (dA zq) m0 l0 (by omega), ?_⟩
  refine ⟨_, rfl, a, _, _, _, rfl, rfl, ha, at1 rfl, _, rfl, b, _, _, _, rfl, rfl, hb, at0 rfl, _, _, rfl, rfl, mulW (dA zp) zq.1 m0 l0 (by omega), ?_⟩
  refine ⟨_, _, m + l, rfl, Int.mul_pos (by have := p.den_pos; omega) hn, ab_mul zp.1 (dA zq), ab_mul (dA zp) zq.1, by omega, fun r H' e hr => z r H' e ?_⟩
  have e2 : ((p.den : Int) * q.num).toNat = p.den * q.num.toNat := by
    have e3 : q.num = (q.num.toNat : Int) := by omega
    rw [e3, tn]
    rfl
  rw [e2, ← div_mk p q q0] at hr
  exact hr
end Vk
namespace Vk
open PySem L2 Vm
variable {l : Addr} {P : Program} {w : World} {K : PySem.W.Frag} {mg : Str → Option Value} {base : Heap} {k : Nat} {f f1 f2 f3 f4 f5 f6 f7 f8 f9 : Addr} {fd fd1 fd2 fd3 fd4 fd5 fd6 fd7 fd8 fd9 : FuncData}
abbrev s__law_store : Stmt := top 50
abbrev N__law_store : List Str := ["_law_script"]
theorem sc__law_store : FnScope N__law_store ["_law_script"] (defScope s__law_store) := ⟨rfl, rfl, rfl, by decide +kernel, rfl, by decide +kernel, by decide +kernel⟩
abbrev ps__law_store : List Str := ["_law_script"]
def spStore (K : PySem.W.Frag) : Sp := fun vs H Q _ => ∃ (a : Addr) (ns : List Int), vs = [.ref a] ∧ SqL K H a (ns.map V.int) ∧ ns.length ≤ 63 ∧ ∀ (s l : Addr) H', Same H H' → H s = none → Sto l s H' → Q (.ref s) H'
theorem ok_store (T : Bn mg) (F : Fn K mg "_law_store" s__law_store ps__law_store f fd) : Def P w K mg base (k + 1) "_law_store" ps__law_store (spStore K) f fd := by
  refine ⟨F.F.ok sc__law_store (fun vs H Q E h => ?_) (fun cdv A outer s H vs Q E hr h => ?_), F.m, F.F.kp, F.b⟩
  · obtain ⟨a, ns, rfl, _⟩ := h
    rfl
  obtain ⟨a, ns, rfl, ha, hl, z⟩ := h
  refine ⟨_, (pss_one (ps_ret (pe_lst (pa_cons (pe_callTy call_list_of (by rfl) T.list_ (by decide +kernel) (pa_cons (pv 0) pa_nil)) (pa_cons pe_int (pa_cons pe_int (pa_cons pe_int (pa_cons pe_int (pa_cons pe_int pa_nil))))))))), ?_⟩
  refine ⟨_, rfl, a, _, rfl, .inl ha, fun l l0 => ?_⟩
  refine ⟨sm6, fun p p0 => ?_⟩
  have lp : l ≠ p := fun e => by rw [e, upd_same] at p0; cases p0
  have e1 : Same H (upd H l (.lst (ns.map V.int))) := same_new l0 _
  refine z _ l _ (e1.trans (same_new p0 _)) (e1.free p0) ⟨ns, 0, 0, 1, 0, 0, upd_same, lp, ?_, hl, by omega, by omega, by omega, by omega⟩
  rw [upd_ne lp, upd_same]
abbrev s__law_mixed : Stmt := top 52
abbrev N__law_mixed : List Str := ["_law_store_here"]
theorem sc__law_mixed : FnScope N__law_mixed ["_law_store_here"] (defScope s__law_mixed) := ⟨rfl, rfl, rfl, by decide +kernel, rfl, by decide +kernel, by decide +kernel⟩
abbrev ps__law_mixed : List Str := ["_law_store_here"]
def spMixed (K : PySem.W.Frag) (l : Addr) : Sp := fun vs H Q _ => ∃ (s : Addr), vs = [.ref s] ∧ Sto l s H ∧ ∀ (r : Int) H', 0 ≤ r → r < 1000000009 → Sto l s H' → Fr s H H' → Q (.int r) H'
theorem ok_mixed (T : Bn mg) (F : Fn K mg "_law_mixed" s__law_mixed ps__law_mixed f fd) : Def P w K mg base (k + 1) "_law_mixed" ps__law_mixed (spMixed K l) f fd := by
  refine ⟨F.F.ok sc__law_mixed (fun vs H Q E h => ?_) (fun cdv A outer s H vs Q E hr h => ?_), F.m, F.F.kp, F.b⟩
  · obtain ⟨a, rfl, _⟩ := h
    rfl
  obtain ⟨s, rfl, ⟨ns, pos, num, seed, hold, cnt, h1, h2, h3, h4, h5, h6, h7, h8⟩, z⟩ := h
  refine ⟨_, (pss_cons (ps_asg (pe_op op_add (pe_ix ix_list (pv 0) pe_int (fun _ _ => rfl)) pe_int) (pg_sub (pv 0) pe_int set_list))
      (pss_cons (ps_asg (pe_op op_mod (pe_callTy call_int1 (by rfl) T.int_ (by decide +kernel) (pa_cons (pe_op op_add (pe_op op_add (pe_op op_mul (pe_ix ix_list (pv 0) pe_int (fun _ _ => rfl)) pe_int) (pe_op op_mul (pe_ix ix_list (pv 0) pe_int (fun _ _ => rfl)) pe_int)) pe_int) pa_nil)) pe_int) (pg_sub (pv 0) pe_int set_list))
      (pss_one (ps_ret (pe_op op_mod (pe_callTy call_int1 (by rfl) T.int_ (by decide +kernel) (pa_cons (pe_op op_add (pe_op op_mul (pe_ix ix_list (pv 0) pe_int (fun _ _ => rfl)) pe_int) (pe_op op_fdiv (pe_ix ix_list (pv 0) pe_int (fun _ _ => rfl)) pe_int)) pa_nil)) pe_int))))), ?_⟩
  refine ⟨_, rfl, s, _, _, _, rfl, rfl, SqL.of h1, atI_nat (j := 5) rfl, _, _, rfl, rfl, _, rfl, s, _, _, _, rfl, rfl, h1, rfl, ?_⟩
  refine ⟨_, rfl, s, _, _, _, rfl, rfl, SqL.of upd_same, atI_nat (j := 3) rfl, _, _, rfl, rfl, .inr ⟨by decide, by decide⟩, ?_⟩
  refine ⟨_, rfl, s, _, _, _, rfl, rfl, SqL.of upd_same, atI_nat (j := 5) rfl, _, _, rfl, rfl, .inr ⟨by decide, by decide⟩, _, _, rfl, rfl, ?_⟩
  refine ⟨_, _, rfl, rfl, .inl ⟨_, rfl, _, _, rfl, rfl, (by show (0 : Int) < 1000000007; decide), _, rfl, s, _, _, _, rfl, rfl, upd_same, rfl, ?_⟩⟩
  refine ⟨_, rfl, s, _, _, _, rfl, rfl, SqL.of upd_same, atI_nat (j := 3) rfl, _, _, rfl, rfl, .inr ⟨by decide, by decide⟩, ?_⟩
  refine ⟨_, rfl, s, _, _, _, rfl, rfl, SqL.of upd_same, atI_nat (j := 3) rfl, _, _, rfl, rfl, ⟨by decide, by decide⟩, _, _, rfl, rfl, .inl ⟨_, rfl, _, _, rfl, rfl, (by show (0 : Int) < 1000000009; decide), ?_⟩⟩
  have e2 : ∀ o1 o2, Fr s H (upd (upd H s o1) s o2) := fun _ _ => (Fr.upd _).trans (Fr.upd _)
  exact z _ _ (Int.emod_nonneg _ (by decide)) (Int.emod_lt_of_pos _ (by decide)) ⟨ns, pos, num, _, hold, _, upd_same, h2, (e2 _ _) _ _ h3 h2, h4, h5, h6, Int.emod_nonneg _ (by decide), Int.emod_lt_of_pos _ (by decide)⟩ (e2 _ _)
abbrev s__law_feed : Stmt := top 51
abbrev N__law_feed : List Str := ["_law_store_here", "_law_cell"]
theorem sc__law_feed : FnScope N__law_feed ["_law_store_here"] (defScope s__law_feed) := ⟨rfl, rfl, rfl, by decide +kernel, rfl, by decide +kernel, by decide +kernel⟩
abbrev ps__law_feed : List Str := ["_law_store_here"]
def spFeed (K : PySem.W.Frag) (l : Addr) : Sp := fun vs H Q _ => ∃ (s : Addr) (ns : List Int) (pos num seed hold cnt : Int), vs = [.ref s] ∧ H s = some (.lst [.ref l, .int pos, .int num, .int seed, .int hold, .int cnt]) ∧ l ≠ s ∧ H l = some (.lst (ns.map V.int)) ∧ ns.length ≤ 63 ∧ 0 ≤ pos ∧ 0 ≤ num ∧ 0 ≤ seed ∧ seed < 1000000007 ∧ pos < (ns.length : Int) ∧
  ∀ H', Sto l s H' → Fr s H H' → Q .non H'
theorem ok_feed (T : Bn mg) (F : Fn K mg "_law_feed" s__law_feed ps__law_feed f fd) : Def P w K mg base (k + 1) "_law_feed" ps__law_feed (spFeed K l) f fd := by
  refine ⟨F.F.ok sc__law_feed (fun vs H Q E h => ?_) (fun cdv A outer s H vs Q E hr h => ?_), F.m, F.F.kp, F.b⟩
  · obtain ⟨_, _, _, _, _, _, _, rfl, _⟩ := h
    rfl
  obtain ⟨s, ns, pos, num, seed, hold, cnt, rfl, h1, h2, h3, h4, h5, h6, h7, h8, h9, z⟩ := h
  refine ⟨_, (pss_cons (ps_set (i := 1) sc__law_feed.nd rfl (Or.inl rfl) (pe_callTy call_int1 (by rfl) T.int_ (by decide +kernel) (pa_cons (pe_ix ix_list (pe_ix ix_list (pv 0) pe_int (fun _ _ => rfl)) (pe_ix ix_list (pv 0) pe_int (fun _ _ => rfl)) (fun _ _ => rfl)) pa_nil)))
      (pss_cons (ps_asg (pe_op op_add (pe_ix ix_list (pv 0) pe_int (fun _ _ => rfl)) pe_int) (pg_sub (pv 0) pe_int set_list))
      (pss_cons (ps_asg (pe_op op_mod (pe_callTy call_int1 (by rfl) T.int_ (by decide +kernel) (pa_cons (pe_op op_add (pe_op op_mul (pe_ix ix_list (pv 0) pe_int (fun _ _ => rfl)) pe_int) (pv 1)) pa_nil)) pe_int) (pg_sub (pv 0) pe_int set_list))
      (pss_one (ps_if (PW.pt (pw_or (pt_cmpR op_ge (pv 1) (pe_op op_pow pe_int pe_int) (nomark _)) (pw_or1 (pt_cmpR op_le (pv 1) (pe_op op_sub pe_int (pe_op op_pow pe_int pe_int)) (nomark _)))))
        (pss_one (ps_asg (pe_callB call_abs (by rfl) T.abs_ (by decide +kernel) (pa_cons (pv 1) pa_nil)) (pg_sub (pv 0) pe_int set_list)))
        (pss_one (ps_asg pe_int (pg_sub (pv 0) pe_int set_list)))))))), ?_⟩
  have hp : pos.toNat < ns.length := by omega
  have ea : atI (ns.map V.int) pos = some (.int ns[pos.toNat]) := at_of (j := pos.toNat) (by omega) (by rw [List.getElem?_map, List.getElem?_eq_getElem hp]; rfl)
  obtain ⟨c, hc⟩ : ∃ c, c = ns[pos.toNat] := ⟨_, rfl⟩
  rw [← hc] at ea
  refine ⟨_, rfl, s, _, _, _, rfl, rfl, SqL.of h1, at0 rfl, _, rfl, s, _, _, _, rfl, rfl, SqL.of h1, at1 rfl, l, _, _, _, rfl, rfl, SqL.of h3, ea, .inl ⟨_, rfl, ?_⟩⟩
  refine ⟨_, rfl, s, _, _, _, rfl, rfl, SqL.of h1, at1 rfl, _, _, rfl, rfl, _, rfl, s, _, _, _, rfl, rfl, h1, rfl, ?_⟩
  refine ⟨_, rfl, s, _, _, _, rfl, rfl, SqL.of upd_same, atI_nat (j := 3) rfl, _, _, rfl, rfl, .inr ⟨by decide, by decide⟩, _, rfl, _, _, rfl, rfl, .inl ⟨_, rfl, _, _, rfl, rfl, (by show (0 : Int) < 1000000007; decide), _, rfl, s, _, _, _, rfl, rfl, upd_same, rfl, ?_⟩⟩
  have e2 : ∀ o1 o2, Fr s H (upd (upd H s o1) s o2) := fun _ _ => (Fr.upd _).trans (Fr.upd _)
  have e3 : ∀ o1 o2 o3, Fr s H (upd (upd (upd H s o1) s o2) s o3) := fun _ _ _ => (e2 _ _).trans (Fr.upd _)
  have pw : (0 : Int) ≤ 18 ∧ (18 : Int) ≤ 1000000 ∧ (10 : Int).natAbs < 2 ^ 64 := ⟨by decide, by decide, by decide⟩
  have big : ∀ H', H' s = _ → Fr s H H' → Q .non H' := fun H' (e : H' s = some (.lst [.ref l, .int (pos + 1), .int (if c < 0 then -c else c), .int ((seed * 30011 + c) % 1000000007), .int hold, .int cnt])) e' =>
    z H' ⟨ns, pos + 1, _, _, hold, cnt, e, h2, e' _ _ h3 h2, h4, by omega, by split <;> omega, Int.emod_nonneg _ (by decide), Int.emod_lt_of_pos _ (by decide)⟩ e'
  refine ⟨_, rfl, _, _, rfl, rfl, pw, _, _, rfl, rfl, _, rfl, ifD (fun _ => ?_) (fun _ => ⟨_, rfl, _, _, rfl, rfl, pw, _, _, rfl, rfl, _, _, rfl, rfl, _, rfl, ifD (fun _ => ?_) (fun _ => ?_)⟩)⟩
  · exact ⟨_, rfl, _, rfl, _, rfl, s, _, _, _, rfl, rfl, upd_same, rfl, big _ upd_same (e3 _ _ _)⟩
  · exact ⟨_, rfl, _, rfl, _, rfl, s, _, _, _, rfl, rfl, upd_same, rfl, big _ upd_same (e3 _ _ _)⟩
  · exact ⟨_, rfl, s, _, _, _, rfl, rfl, upd_same, rfl, z _ ⟨ns, pos + 1, num, _, 3, cnt, upd_same, h2, (e3 _ _ _) _ _ h3 h2, h4, by omega, h6, Int.emod_nonneg _ (by decide), Int.emod_lt_of_pos _ (by decide)⟩ (e3 _ _ _)⟩
abbrev s__law_take : Stmt := top 53
abbrev N__law_take : List Str := ["_law_store_here", "_law_many", "_law_number"]
theorem sc__law_take : FnScope N__law_take ["_law_store_here", "_law_many"] (defScope s__law_take) := ⟨rfl, rfl, rfl, by decide +kernel, rfl, by decide +kernel, by decide +kernel⟩
abbrev ps__law_take : List Str := ["_law_store_here", "_law_many"]
def spTake (K : PySem.W.Frag) (l : Addr) : Sp := fun vs H Q _ => ∃ (s : Addr) (many : Int), vs = [.ref s, .int many] ∧ Sto l s H ∧ many < 2 ^ 64 ∧ ∀ (r : Int) H', 0 ≤ r → (r < many ∨ r = 0) → Sto l s H' → Fr s H H' → Q (.int r) H'
theorem ok_take (T : Bn mg) (F : Fn K mg "_law_take" s__law_take ps__law_take f fd) (d_law_feed : Def P w K mg base k "_law_feed" ["_law_store_here"] (spFeed K l) f1 fd1) (d_law_mixed : Def P w K mg base k "_law_mixed" ["_law_store_here"] (spMixed K l) f2 fd2) :
    Def P w K mg base (k + 1) "_law_take" ps__law_take (spTake K l) f fd := by
  refine ⟨F.F.ok sc__law_take (fun vs H Q E h => ?_) (fun cdv A outer s H vs Q E hr h => ?_), F.m, F.F.kp, F.b⟩
  · obtain ⟨_, _, rfl, _⟩ := h
    rfl
  obtain ⟨s, many, rfl, hS, hm, z⟩ := h
  refine ⟨_, (pss_cons (ps_set (i := 1) sc__law_take.nd rfl (Or.inl rfl) (pe_callB (call_max2 rfl) (by rfl) T.max_ (by decide +kernel) (pa_cons pe_int (pa_cons (pv 1) pa_nil))))
      (pss_cons (ps_if (PW.pt (pw_and (pt_cmpR op_eq (pe_ix ix_list (pv 0) pe_int (fun _ _ => rfl)) pe_int (nomark _)) (pw_and (pt_cmpR op_eq (pe_ix ix_list (pv 0) pe_int (fun _ _ => rfl)) pe_int (nomark _)) (pw_and1 (pt_cmpR op_lt (pe_ix ix_list (pv 0) pe_int (fun _ _ => rfl)) (pe_callB call_len_seq (by rfl) T.len_ PySem.boot_len (pa_cons (pe_ix ix_list (pv 0) pe_int (fun _ _ => rfl)) pa_nil)) (nomark _))))))
        (pss_one (ps_expr (pcall d_law_feed hr (pa_cons (pv 0) pa_nil))))
        pss_nil)
      (pss_cons (ps_if (pt_cmpR op_gt (pe_ix ix_list (pv 0) pe_int (fun _ _ => rfl)) pe_int (nomark _))
        (pss_cons (ps_set (i := 2) sc__law_take.nd rfl (Or.inl rfl) (pe_ix ix_list (pv 0) pe_int (fun _ _ => rfl)))
        (pss_cons (ps_asg (pe_op op_fdivW (pv 2) (pv 1)) (pg_sub (pv 0) pe_int set_list))
        (pss_one (ps_ret (pe_op op_mod (pe_callTy call_int1 (by rfl) T.int_ (by decide +kernel) (pa_cons (pv 2) pa_nil)) (pv 1))))))
        pss_nil)
      (pss_cons (ps_asg (pe_callB (call_max2 rfl) (by rfl) T.max_ (by decide +kernel) (pa_cons pe_int (pa_cons (pe_op op_sub (pe_ix ix_list (pv 0) pe_int (fun _ _ => rfl)) pe_int) pa_nil))) (pg_sub (pv 0) pe_int set_list))
      (pss_cons (ps_set (i := 2) sc__law_take.nd rfl (Or.inl rfl) (pcall d_law_mixed hr (pa_cons (pv 0) pa_nil)))
      (pss_cons (ps_if (pt_cmpR op_gt (pv 1) pe_int (nomark _))
        (pss_one (ps_set (i := 2) sc__law_take.nd rfl (Or.inl rfl) (pe_op op_add (pv 2) (pe_op op_mul (pcall d_law_mixed hr (pa_cons (pv 0) pa_nil)) pe_int))))
        pss_nil)
      (pss_one (ps_ret (pe_op op_mod (pe_callTy call_int1 (by rfl) T.int_ (by decide +kernel) (pa_cons (pv 2) pa_nil)) (pv 1)))))))))), ?_⟩
  refine ⟨_, rfl, _, _, rfl, ?_⟩
  obtain ⟨M, eM⟩ : ∃ M : Int, M = if many > 1 then many else 1 := ⟨_, rfl⟩
  have M1 : 1 ≤ M := by rw [eM]; split <;> omega
  have M2 : M.natAbs < 2 ^ 64 := by
    have : (2 : Nat) ^ 64 = 18446744073709551616 := by decide
    have : (2 : Int) ^ 64 = 18446744073709551616 := by decide
    rw [eM]; split <;> omega
  have hz : ∀ (r : Int) H', 0 ≤ r → r < M → Sto l s H' → Fr s H H' → Q (.int r) H' := fun r H' a b => z r H' a (by rw [eM] at b; split at b <;> omega)
  rw [← eM]
  dsimp only [gName]
  refine cut (fun σ' H' => σ' = [some (.ref s), some (.int M), none] ∧ Sto l s H' ∧ Fr s H H') ?_ ?_
  · rintro σ H1 ⟨rfl, hS1, e1⟩
    obtain ⟨ns, pos, num, seed, hold, cnt, h1, h2, h3, h4, h5, h6, h7, h8⟩ := id hS1
    refine ⟨_, rfl, s, _, _, _, rfl, rfl, SqL.of h1, at2 rfl, _, _, rfl, rfl, _, rfl, ifD (fun c => ?_) (fun c => ?_)⟩
    · refine ⟨_, rfl, s, _, _, _, rfl, rfl, SqL.of h1, at2 rfl, ?_⟩
      refine ⟨_, rfl, _, rfl, _, _, rfl, rfl, wide_div (by omega) M2 (by decide) (by decide), _, rfl, s, _, _, _, rfl, rfl, h1, rfl, ?_⟩
      refine ⟨_, rfl, .inl ⟨_, rfl, _, rfl, _, _, rfl, rfl, (by show 0 < M; omega), ?_⟩⟩
      have e2 : ∀ o, Fr s H1 (upd H1 s o) := fun _ => Fr.upd _
      exact hz _ _ (Int.emod_nonneg _ (by omega)) (Int.emod_lt_of_pos _ (by omega)) ⟨ns, pos, num / M, seed, hold, cnt, upd_same, h2, (e2 _) _ _ h3 h2, h4, h5, Int.ediv_nonneg (by omega) (by omega), h7, h8⟩ (e1.trans (e2 _))
    refine ⟨_, rfl, s, _, _, _, rfl, rfl, SqL.of h1, atI_nat (j := 4) rfl, _, _, rfl, rfl, _, _, rfl, _, rfl, s, _, _, _, rfl, rfl, h1, rfl, ?_⟩
    have e2 : ∀ o, Fr s H1 (upd H1 s o) := fun _ => Fr.upd _
    refine ⟨_, rfl, s, rfl, ⟨ns, pos, num, seed, _, cnt, upd_same, h2, (e2 _) _ _ h3 h2, h4, h5, h6, h7, h8⟩, fun r H2 r0 r1 S2 e3 => ?_⟩
    refine ⟨_, rfl, _, _, rfl, rfl, _, rfl, ifD (fun c => ?_) (fun c => ?_)⟩
    · refine ⟨_, rfl, _, rfl, s, rfl, S2, fun r' H3 _ _ S3 e4 => ⟨_, _, rfl, rfl, .inr ⟨by decide, by decide⟩, _, _, rfl, rfl, ?_⟩⟩
      refine ⟨_, rfl, .inl ⟨_, rfl, _, rfl, _, _, rfl, rfl, (by show 0 < M; omega), ?_⟩⟩
      exact hz _ _ (Int.emod_nonneg _ (by omega)) (Int.emod_lt_of_pos _ (by omega)) S3 (e1.trans ((e2 _).trans (e3.trans e4)))
    · refine ⟨_, rfl, .inl ⟨_, rfl, _, rfl, _, _, rfl, rfl, (by show 0 < M; omega), ?_⟩⟩
      exact hz _ _ (Int.emod_nonneg _ (by omega)) (Int.emod_lt_of_pos _ (by omega)) S2 (e1.trans ((e2 _).trans e3))
  · intro key
    obtain ⟨ns, pos, num, seed, hold, cnt, h1, h2, h3, h4, h5, h6, h7, h8⟩ := id hS
    refine ⟨_, rfl, s, _, _, _, rfl, rfl, SqL.of h1, at2 rfl, rfl, _, rfl, ifD (fun _ => ?_) (fun _ => ifF rfl (key _ _ ⟨rfl, hS, Fr.refl _ _⟩))⟩
    refine ⟨_, rfl, s, _, _, _, rfl, rfl, SqL.of h1, atI_nat (j := 4) rfl, rfl, _, rfl, ifD (fun _ => ?_) (fun _ => ifF rfl (key _ _ ⟨rfl, hS, Fr.refl _ _⟩))⟩
    refine ⟨_, rfl, s, _, _, _, rfl, rfl, SqL.of h1, at1 rfl, _, rfl, s, _, _, _, rfl, rfl, SqL.of h1, at0 rfl, l, _, rfl, .inl (SqL.of h3), _, _, rfl, rfl, _, rfl, ifD (fun c => ?_) (fun _ => key _ _ ⟨rfl, hS, Fr.refl _ _⟩)⟩
    rw [List.length_map] at c
    exact ⟨_, rfl, s, ns, pos, num, seed, hold, cnt, rfl, h1, h2, h3, h4, h5, h6, h7, h8, c, fun H' S' e' => key _ _ ⟨rfl, S', e'⟩⟩
abbrev s__law_pick : Stmt := top 54
abbrev N__law_pick : List Str := ["_law_store_here", "_law_things"]
theorem sc__law_pick : FnScope N__law_pick ["_law_store_here", "_law_things"] (defScope s__law_pick) := ⟨rfl, rfl, rfl, by decide +kernel, rfl, by decide +kernel, by decide +kernel⟩
abbrev ps__law_pick : List Str := ["_law_store_here", "_law_things"]
/-- a list that is not the store; one of its things is handed back -/
def spPick (K : PySem.W.Frag) (l : Addr) : Sp := fun vs H Q _ => ∃ (s a : Addr) (xs : List V), vs = [.ref s, .ref a] ∧ Sto l s H ∧ a ≠ s ∧ SqL K H a xs ∧ 0 < xs.length ∧ xs.length < 2 ^ 32 ∧ ∀ (v : V) H', v ∈ xs → Sto l s H' → Fr s H H' → Q v H'
theorem ok_pick (T : Bn mg) (F : Fn K mg "_law_pick" s__law_pick ps__law_pick f fd) (d_law_take : Def P w K mg base k "_law_take" ["_law_store_here", "_law_many"] (spTake K l) f1 fd1) : Def P w K mg base (k + 1) "_law_pick" ps__law_pick (spPick K l) f fd := by
  refine ⟨F.F.ok sc__law_pick (fun vs H Q E h => ?_) (fun cdv A outer s H vs Q E hr h => ?_), F.m, F.F.kp, F.b⟩
  · obtain ⟨_, _, _, rfl, _⟩ := h
    rfl
  obtain ⟨s, a, xs, rfl, hS, n, ha, h0, hl, z⟩ := h
  refine ⟨_, (pss_one (ps_ret (pe_ix ix_list (pv 1) (pcall d_law_take hr (pa_cons (pv 0) (pa_cons (pe_callB call_len_seq (by rfl) T.len_ PySem.boot_len (pa_cons (pv 1) pa_nil)) pa_nil))) (fun _ _ => rfl)))), ?_⟩
  have p32 : (2 : Nat) ^ 32 = 4294967296 := by decide
  have p64 : (2 : Int) ^ 64 = 18446744073709551616 := by decide
  refine ⟨_, rfl, _, rfl, _, rfl, a, _, rfl, .inl ha, s, _, rfl, hS, by omega, fun r H' r0 r1 S' e => ?_⟩
  have hr : r.toNat < xs.length := by omega
  refine ⟨a, _, _, xs[r.toNat], rfl, rfl, seq_fr e n ha, at_of (j := r.toNat) (by omega) (List.getElem?_eq_getElem hr), z _ _ (List.getElem_mem hr) S' e⟩
end Vk
namespace Vk
open PySem L2 Vm
variable {l : Addr} {P : Program} {w : World} {K : PySem.W.Frag} {mg : Str → Option Value} {base : Heap} {k : Nat} {f f1 f2 f3 f4 f5 f6 f7 f8 f9 : Addr} {fd fd1 fd2 fd3 fd4 fd5 fd6 fd7 fd8 fd9 : FuncData}
/-! ### data -/
def dq (q : Rat) : PyData := .tuple [.int q.num, .int (q.den : Int)]
theorem Rq.dp {H : Hp} {v : V} {q : Rat} (h : Rq K H v q) : Dp K H v (dq q) := by
  obtain ⟨a, rfl, h⟩ := h
  exact .tup h (.cons (.int _) (.cons (.int _) .nil))
theorem sh_dq (q : Rat) : SeqAt.shaped (dq q) = true := rfl
theorem eqv_dq (p q : Rat) : PyData.eqv (dq p) (dq q) = decide (p = q) := by
  show ((p.num == q.num) && (((p.den : Int) == (q.den : Int)) && true)) = decide (p = q)
  by_cases h : p = q
  · subst h
    simp
  · rw [decide_eq_false h]
    by_cases h1 : p.num = q.num
    · by_cases h2 : p.den = q.den
      · exact absurd (Rat.ext h1 h2) h
      · have : ((p.den : Int) == (q.den : Int)) = false := beq_false_of_ne (by omega)
        rw [this]
        simp
    · have : (p.num == q.num) = false := by simpa using h1
      rw [this]
      simp
inductive Tree : Nat → PyData → Prop
  | int {n} (i : Int) : Tree n (.int i)
  | non {n} : Tree n .none
  | str {n} {s : Str} (h : SeqAt.shaped (.str s) = true) : Tree n (.str s)
  | tup {n} {ds : List PyData} : ds.length ≤ 1000 → (∀ d ∈ ds, Tree n d) → Tree (n + 1) (.tuple ds)
  | lst {n} {ds : List PyData} : ds.length ≤ 1000 → (∀ d ∈ ds, Tree n d) → Tree (n + 1) (.list ds)
theorem tree_dq (n : Nat) (q : Rat) : Tree (n + 1) (dq q) := .tup (by show 2 ≤ 1000; decide) fun d h => by
  rcases List.mem_cons.mp h with rfl | h
  · exact .int _
  · rcases List.mem_cons.mp h with rfl | h
    · exact .int _
    · cases h
theorem sql_ty {H : Hp} {a : Addr} {xs : List V} (h : SqL K H a xs) : TyX K H (.ref a) (.type "list") := by
  rcases h with (h | ⟨o, h⟩) | ⟨o, its, n, h, c, _⟩
  · exact .base (.lst h)
  · exact .base (.frz h)
  · exact .kList h c
theorem sqt_ty {H : Hp} {a : Addr} {xs : List V} (h : SqT K H a xs) : TyX K H (.ref a) (.type "tuple") := by
  rcases h with (h | ⟨o, h⟩) | ⟨o, its, n, h, c, _⟩
  · exact .base (.tup h)
  · exact .fTuple h
  · exact .kTuple h c
theorem dpall_len {H : Hp} : ∀ {vs : List V} {ds : List PyData}, DpAll K H vs ds → vs.length = ds.length
  | _, _, .nil => rfl
  | _, _, .cons _ t => by simp [dpall_len t]
theorem dpall_at {H : Hp} : ∀ {vs : List V} {ds : List PyData}, DpAll K H vs ds → ∀ {i : Nat} {d : PyData}, ds[i]? = some d → ∃ v, vs[i]? = some v ∧ Dp K H v d
  | _, _, .nil, i, d, h => by simp at h
  | _, _, .cons r t, 0, d, h => ⟨_, rfl, by rw [← Option.some.inj h]; exact r⟩
  | _, _, .cons r t, i + 1, d, h => dpall_at t h
abbrev s__law_is_int : Stmt := top 55
abbrev N__law_is_int : List Str := ["_law_value"]
theorem sc__law_is_int : FnScope N__law_is_int ["_law_value"] (defScope s__law_is_int) := ⟨rfl, rfl, rfl, by decide +kernel, rfl, by decide +kernel, by decide +kernel⟩
abbrev ps__law_is_int : List Str := ["_law_value"]
def spIsInt (K : PySem.W.Frag) : Sp := fun vs H Q _ => ∃ i : Int, vs = [.int i] ∧ Q (.bl true) H
theorem ok_is_int (T : Bn mg) (F : Fn K mg "_law_is_int" s__law_is_int ps__law_is_int f fd) : Def P w K mg base (k + 1) "_law_is_int" ps__law_is_int (spIsInt K) f fd := by
  refine ⟨F.F.ok sc__law_is_int (fun vs H Q E h => ?_) (fun cdv A outer s H vs Q E hr h => ?_), F.m, F.F.kp, F.b⟩
  · obtain ⟨i, rfl, _⟩ := h
    rfl
  obtain ⟨i, rfl, z⟩ := h
  refine ⟨_, (pss_one (ps_ret (pe_and (pe_callB call_isi (by rfl) T.isinstance_ (by decide +kernel) (pa_cons (pv 0) (pa_cons (pe_bltn (v := .ty "int") (by rfl) T.int_ (by decide +kernel) rfl) pa_nil))) (pe_one (pe_not (pe_callB call_isi (by rfl) T.isinstance_ (by decide +kernel) (pa_cons (pv 0) (pa_cons (pe_bltn (v := .ty "bool") (by rfl) T.bool_ (by decide +kernel) rfl) pa_nil)))))))), ?_⟩
  exact ⟨_, rfl, _, _, _, _, true, rfl, .ty _, (.base (.int i)), kit_ty (by decide +kernel), _, rfl, ifT rfl ⟨_, rfl, _, _, _, _, false, rfl, .ty _, (.base (.int i)), kit_ty (by decide +kernel), _, rfl, z⟩⟩
abbrev s__law_same : Stmt := top 56
abbrev N__law_same : List Str := ["_law_value", "_law_due", "_law_keys", "_law_name", "_law_k"]
theorem sc__law_same : FnScope N__law_same ["_law_value", "_law_due"] (defScope s__law_same) := ⟨rfl, rfl, rfl, by decide +kernel, rfl, by decide +kernel, by decide +kernel⟩
abbrev ps__law_same : List Str := ["_law_value", "_law_due"]
def spSame (K : PySem.W.Frag) (n : Nat) : Sp := fun vs H Q _ => ∃ (v u : V) (d : PyData), vs = [v, u] ∧ Dp K H v d ∧ Dp K H u d ∧ Tree n d ∧ Q (.bl true) H
theorem ok_same1 (T : Bn mg) (n : Nat) (F : Fn K mg "_law_same" s__law_same ps__law_same f fd) (d_law_is_int : Def P w K mg base (k + n) "_law_is_int" ["_law_value"] (spIsInt K) f1 fd1)
    (d_law_same : Def P w K mg base (k + n) "_law_same" ["_law_value", "_law_due"] (fun vs H Q E => ∃ m, m + 1 = n ∧ spSame K m vs H Q E) f fd) : Def P w K mg base (k + n + 1) "_law_same" ps__law_same (spSame K n) f fd := by
  refine ⟨F.F.ok sc__law_same (fun vs H Q E h => ?_) (fun cdv A outer s H vs Q E hr h => ?_), F.m, F.F.kp, F.b⟩
  · obtain ⟨v, u, d, rfl, _⟩ := h
    rfl
  obtain ⟨v, u, d, rfl, hv, hu, ht, z⟩ := h
  refine ⟨_, (pss_cons (ps_if (pt_cmpR op_isN (pv 1) pe_non (nomark _))
        (pss_one (ps_ret (pe_cmpR op_isN (pv 0) pe_non (nomark _))))
        pss_nil)
      (pss_cons (ps_if (pt_val (pe_callB call_isi (by rfl) T.isinstance_ (by decide +kernel) (pa_cons (pv 1) (pa_cons (pe_bltn (v := .ty "bool") (by rfl) T.bool_ (by decide +kernel) rfl) pa_nil))))
        (pss_one (ps_ret (pe_and (pe_callB call_isi (by rfl) T.isinstance_ (by decide +kernel) (pa_cons (pv 0) (pa_cons (pe_bltn (v := .ty "bool") (by rfl) T.bool_ (by decide +kernel) rfl) pa_nil))) (pe_one (pe_cmpR (op_eqD hr.units) (pv 0) (pv 1) (nomark _))))))
        pss_nil)
      (pss_cons (ps_if (pt_val (pe_callB call_isi (by rfl) T.isinstance_ (by decide +kernel) (pa_cons (pv 1) (pa_cons (pe_bltn (v := .ty "int") (by rfl) T.int_ (by decide +kernel) rfl) pa_nil))))
        (pss_one (ps_ret (pe_and (pcall d_law_is_int hr (pa_cons (pv 0) pa_nil)) (pe_one (pe_cmpR (op_eqD hr.units) (pv 0) (pv 1) (nomark _))))))
        pss_nil)
      (pss_cons (ps_if (pt_val (pe_callB call_isi (by rfl) T.isinstance_ (by decide +kernel) (pa_cons (pv 1) (pa_cons (pe_bltn (v := .ty "str") (by rfl) T.str_ (by decide +kernel) rfl) pa_nil))))
        (pss_one (ps_ret (pe_and (pe_callB call_isi (by rfl) T.isinstance_ (by decide +kernel) (pa_cons (pv 0) (pa_cons (pe_bltn (v := .ty "str") (by rfl) T.str_ (by decide +kernel) rfl) pa_nil))) (pe_one (pe_cmpR (op_eqD hr.units) (pv 0) (pv 1) (nomark _))))))
        pss_nil)
      (pss_cons (ps_if (pt_val (pe_callB call_isi (by rfl) T.isinstance_ (by decide +kernel) (pa_cons (pv 1) (pa_cons (pe_bltn (v := .ty "dict") (by rfl) T.dict_ (by decide +kernel) rfl) pa_nil))))
        pss_never
        pss_nil)
      (pss_cons (ps_if (PW.pt (pw_and (pt_val (pe_callB call_isi (by rfl) T.isinstance_ (by decide +kernel) (pa_cons (pv 1) (pa_cons (pe_bltn (v := .ty "list") (by rfl) T.list_ (by decide +kernel) rfl) pa_nil)))) (pw_and1 (pt_not (pt_val (pe_callB call_isi (by rfl) T.isinstance_ (by decide +kernel) (pa_cons (pv 0) (pa_cons (pe_bltn (v := .ty "list") (by rfl) T.list_ (by decide +kernel) rfl) pa_nil))))))))
        (pss_one (ps_ret pe_bl))
        pss_nil)
      (pss_cons (ps_if (PW.pt (pw_and (pt_val (pe_callB call_isi (by rfl) T.isinstance_ (by decide +kernel) (pa_cons (pv 1) (pa_cons (pe_bltn (v := .ty "tuple") (by rfl) T.tuple_ (by decide +kernel) rfl) pa_nil)))) (pw_and1 (pt_not (pt_val (pe_callB call_isi (by rfl) T.isinstance_ (by decide +kernel) (pa_cons (pv 0) (pa_cons (pe_bltn (v := .ty "tuple") (by rfl) T.tuple_ (by decide +kernel) rfl) pa_nil))))))))
        (pss_one (ps_ret pe_bl))
        pss_nil)
      (pss_cons (ps_if (pt_cmpR op_ne (pe_callB call_len_seq (by rfl) T.len_ PySem.boot_len (pa_cons (pv 0) pa_nil)) (pe_callB call_len_seq (by rfl) T.len_ PySem.boot_len (pa_cons (pv 1) pa_nil)) (nomark _))
        (pss_one (ps_ret pe_bl))
        pss_nil)
      (pss_cons (ps_for PassesOwn.never rfl (pi_range1 (by rfl) T.range_ (pa_cons (pe_callB call_len_seq (by rfl) T.len_ PySem.boot_len (pa_cons (pv 1) pa_nil)) pa_nil)) (pg_name (i := 4) sc__law_same.nd rfl (Or.inl rfl))
        (pss_one (ps_if (pt_not (pt_val (pcall d_law_same hr (pa_cons (pe_ix ix_seq (pv 0) (pv 4) (fun _ _ => rfl)) (pa_cons (pe_ix ix_seq (pv 1) (pv 4) (fun _ _ => rfl)) pa_nil)))))
          (pss_one (ps_ret pe_bl))
          pss_nil)))
      (pss_one (ps_ret pe_bl))))))))))), ?_⟩
  cases ht with
  | int i =>
    cases hv
    cases hu
    refine ⟨_, rfl, rfl, _, rfl, ifF (dF nofun) ⟨_, rfl, _, _, _, _, false, rfl, .ty _, (.base (.int i)), kit_ty (by decide +kernel), _, rfl, ifF rfl ⟨_, rfl, _, _, _, _, true, rfl, .ty _, (.base (.int i)), kit_ty (by decide +kernel), _, rfl, ifT rfl ?_⟩⟩⟩
    refine ⟨_, rfl, i, rfl, _, rfl, ifT rfl ⟨_, rfl, _, rfl, _, _, .int i, .int i, rfl, rfl, ?_⟩⟩
    rw [show PyData.eqv (.int i) (.int i) = true from beq_self_eq_true i]
    exact z
  | non =>
    cases hv
    cases hu
    exact ⟨_, rfl, rfl, _, rfl, ifT (dT rfl) ⟨_, rfl, rfl, z⟩⟩
  | @str _ s hs =>
    cases hv
    cases hu
    refine ⟨_, rfl, rfl, _, rfl, ifF (dF nofun) ⟨_, rfl, _, _, _, _, false, rfl, .ty _, (.base (.str s)), kit_ty (by decide +kernel), _, rfl, ifF rfl ⟨_, rfl, _, _, _, _, false, rfl, .ty _, (.base (.str s)), kit_ty (by decide +kernel), _, rfl, ifF rfl ⟨_, rfl, _, _, _, _, true, rfl, .ty _, (.base (.str s)), kit_ty (by decide +kernel), _, rfl, ifT rfl ?_⟩⟩⟩⟩
    refine ⟨_, rfl, _, _, _, _, true, rfl, .ty _, (.base (.str s)), kit_ty (by decide +kernel), _, rfl, ifT rfl ⟨_, rfl, _, rfl, _, _, .str s, .str s, hs, hs, ?_⟩⟩
    rw [show PyData.eqv (.str s) (.str s) = true from beq_self_eq_true s]
    exact z
  | tup hl hall =>
    rename_i m ds
    cases hv with
    | tup ha da =>
    rename_i a xs
    cases hu with
    | tup hb db =>
    rename_i b ys
    have lx := dpall_len da
    have ly := dpall_len db
    have ta := sqt_ty ha
    have tb := sqt_ty hb
    refine ⟨_, rfl, rfl, _, rfl, ifF (dF nofun) ⟨_, rfl, _, _, _, _, false, rfl, .ty _, tb, kit_ty (by decide +kernel), _, rfl, ifF rfl ⟨_, rfl, _, _, _, _, false, rfl, .ty _, tb, kit_ty (by decide +kernel), _, rfl, ifF rfl ⟨_, rfl, _, _, _, _, false, rfl, .ty _, tb, kit_ty (by decide +kernel), _, rfl, ifF rfl ⟨_, rfl, _, _, _, _, false, rfl, .ty _, tb, kit_ty (by decide +kernel), _, rfl, ifF rfl ?_⟩⟩⟩⟩⟩
    refine ⟨_, rfl, _, _, _, _, false, rfl, .ty _, tb, kit_ty (by decide +kernel), _, rfl, ifF rfl (ifF rfl ⟨_, rfl, _, _, _, _, true, rfl, .ty _, tb, kit_ty (by decide +kernel), _, rfl, ifT rfl ⟨_, rfl, _, _, _, _, true, rfl, .ty _, ta, kit_ty (by decide +kernel), _, rfl, ifF rfl ?_⟩⟩)⟩
    refine ⟨_, rfl, a, _, rfl, .inr ha, _, rfl, b, _, rfl, .inr hb, rfl, _, rfl, ifF ?_ ?_⟩
    · rw [lx, ly]
      simp
    have p62 : (2 : Int) ^ 62 = 4611686018427387904 := by decide
    refine ⟨_, rfl, b, _, rfl, .inr hb, _, rfl, by omega, by omega, for_range (n := ((ys.length : Nat) : Int).toNat) (fun i σ H' => ∃ kk, σ = [some (.ref a), some (.ref b), none, none, kk] ∧ H' = H) ⟨none, rfl, rfl⟩ ?_ ?_⟩
    · rintro i σ H' hi ⟨kk, rfl, rfl⟩
      have hi' : i < ds.length := by omega
      obtain ⟨v, hv, dv⟩ := dpall_at da (List.getElem?_eq_getElem hi')
      obtain ⟨u, hu, du⟩ := dpall_at db (List.getElem?_eq_getElem hi')
      refine ⟨_, rfl, _, rfl, .inr (.inl ⟨a, _, _, v, rfl, rfl, ha, at_of (j := i) (by omega) hv, _, rfl, _, rfl, .inr (.inl ⟨b, _, _, u, rfl, rfl, hb, at_of (j := i) (by omega) hu, m, rfl, v, u, _, rfl, dv, du, hall _ (List.getElem_mem hi'), ?_⟩)⟩)⟩
      exact ⟨_, rfl, ifF rfl ⟨_, rfl, rfl⟩⟩
    · rintro σ H' ⟨kk, rfl, rfl⟩
      exact z
  | lst hl hall =>
    rename_i m ds
    cases hv with
    | lst ha da =>
    rename_i a xs
    cases hu with
    | lst hb db =>
    rename_i b ys
    have lx := dpall_len da
    have ly := dpall_len db
    have ta := sql_ty ha
    have tb := sql_ty hb
    refine ⟨_, rfl, rfl, _, rfl, ifF (dF nofun) ⟨_, rfl, _, _, _, _, false, rfl, .ty _, tb, kit_ty (by decide +kernel), _, rfl, ifF rfl ⟨_, rfl, _, _, _, _, false, rfl, .ty _, tb, kit_ty (by decide +kernel), _, rfl, ifF rfl ⟨_, rfl, _, _, _, _, false, rfl, .ty _, tb, kit_ty (by decide +kernel), _, rfl, ifF rfl ⟨_, rfl, _, _, _, _, false, rfl, .ty _, tb, kit_ty (by decide +kernel), _, rfl, ifF rfl ?_⟩⟩⟩⟩⟩
    refine ⟨_, rfl, _, _, _, _, true, rfl, .ty _, tb, kit_ty (by decide +kernel), _, rfl, ifT rfl ⟨_, rfl, _, _, _, _, true, rfl, .ty _, ta, kit_ty (by decide +kernel), _, rfl, ifF rfl ⟨_, rfl, _, _, _, _, false, rfl, .ty _, tb, kit_ty (by decide +kernel), _, rfl, ifF rfl (ifF rfl ?_)⟩⟩⟩
    refine ⟨_, rfl, a, _, rfl, .inl ha, _, rfl, b, _, rfl, .inl hb, rfl, _, rfl, ifF ?_ ?_⟩
    · rw [lx, ly]
      simp
    have p62 : (2 : Int) ^ 62 = 4611686018427387904 := by decide
    refine ⟨_, rfl, b, _, rfl, .inl hb, _, rfl, by omega, by omega, for_range (n := ((ys.length : Nat) : Int).toNat) (fun i σ H' => ∃ kk, σ = [some (.ref a), some (.ref b), none, none, kk] ∧ H' = H) ⟨none, rfl, rfl⟩ ?_ ?_⟩
    · rintro i σ H' hi ⟨kk, rfl, rfl⟩
      have hi' : i < ds.length := by omega
      obtain ⟨v, hv, dv⟩ := dpall_at da (List.getElem?_eq_getElem hi')
      obtain ⟨u, hu, du⟩ := dpall_at db (List.getElem?_eq_getElem hi')
      refine ⟨_, rfl, _, rfl, .inl ⟨a, _, _, v, rfl, rfl, ha, at_of (j := i) (by omega) hv, _, rfl, _, rfl, .inl ⟨b, _, _, u, rfl, rfl, hb, at_of (j := i) (by omega) hu, m, rfl, v, u, _, rfl, dv, du, hall _ (List.getElem_mem hi'), ?_⟩⟩⟩
      exact ⟨_, rfl, ifF rfl ⟨_, rfl, rfl⟩⟩
    · rintro σ H' ⟨kk, rfl, rfl⟩
      exact z
def spSize (K : PySem.W.Frag) (l : Addr) : Sp := fun vs H Q _ => ∃ (s : Addr) (lo hi : Int), vs = [.ref s, .int lo, .int hi] ∧ Sto l s H ∧ lo ≤ hi ∧ hi - lo < 2 ^ 32 ∧ ∀ (r : Int) H', lo ≤ r → r ≤ hi → Sto l s H' → Fr s H H' → Q (.int r) H'
theorem ok_same (T : Bn mg) (F : Fn K mg "_law_same" s__law_same ps__law_same f fd) (d_law_is_int : Def P w K mg base k "_law_is_int" ["_law_value"] (spIsInt K) f1 fd1) : ∀ n, Def P w K mg base (k + n + 1) "_law_same" ps__law_same (spSame K n) f fd
  | 0 => ok_same1 T 0 F (d_law_is_int.up (Nat.le_refl _)) ⟨⟨fun vs H Q E h => by obtain ⟨m, h, _⟩ := h; omega, fun A outer s H args us vs Q E _ _ _ _ h => by obtain ⟨m, h, _⟩ := h; omega⟩, F.m, F.F.kp, F.b⟩
  | n + 1 => by
    have ih := ok_same T F d_law_is_int n
    exact ok_same1 T (n + 1) F (d_law_is_int.up (by omega)) ⟨ih.ok.imp fun vs H Q E h => by
      obtain ⟨m, h, q⟩ := h
      have e : m = n := by omega
      subst e
      exact q, F.m, F.F.kp, F.b⟩
end Vk
namespace Vk
open PySem L2 Vm
variable {l : Addr} {P : Program} {w : World} {K : PySem.W.Frag} {mg : Str → Option Value} {base : Heap} {k : Nat} {f f1 f2 f3 f4 f5 f6 f7 f8 f9 : Addr} {fd fd1 fd2 fd3 fd4 fd5 fd6 fd7 fd8 fd9 : FuncData}
/-! ### drawn rationals -/
def Qd (K : PySem.W.Frag) (m : Nat) (ok : Rat → Prop) (H : Hp) (v : V) : Prop := ∃ q, Rq K H v q ∧ Sz m q ∧ ok q
theorem Qd.same {m : Nat} {ok : Rat → Prop} {H H' : Hp} {v : V} (e : Same H H') (h : Qd K m ok H v) : Qd K m ok H' v := by
  obtain ⟨q, h, r⟩ := h
  exact ⟨q, h.same e, r⟩
theorem Qd.fr {m : Nat} {ok : Rat → Prop} {s : Addr} {H H' : Hp} {v : V} (e : Fr s H H') (hs : Sto l s H) (h : Qd K m ok H v) : Qd K m ok H' v := by
  obtain ⟨q, h, r⟩ := h
  exact ⟨q, h.fr e hs.some, r⟩
theorem Qd.new {m : Nat} {ok : Rat → Prop} {H : Hp} {t : Addr} (n d : Int) (q : Rat) (en : q.num = n) (ed : (q.den : Int) = d) (z : Sz m q) (o : ok q) : Qd K m ok (upd H t (.tup [.int n, .int d])) (.ref t) :=
  ⟨q, ⟨t, rfl, SqT.of (by rw [upd_same, en, ed])⟩, z, o⟩
theorem rq_new {H : Hp} {t : Addr} (n d : Int) (q : Rat) (en : q.num = n) (ed : (q.den : Int) = d) : Rq K (upd H t (.tup [.int n, .int d])) (.ref t) q := ⟨t, rfl, SqT.of (by rw [upd_same, en, ed])⟩
instance (k : Nat) (q : Rat) : Decidable (Sz k q) := inferInstanceAs (Decidable (_ ∧ _))
/-- a written pair: from then on a drawn rational -/
theorem newq {m : Nat} {ok : Rat → Prop} {H : Hp} {Q : V → Hp → Prop} (n d : Int) (q : Rat) (en : q.num = n) (ed : (q.den : Int) = d) (z : Sz m q) (o : ok q) (h : ∀ v H', Same H H' → Qd K m ok H' v → Q v H') : ∀ t, H t = none → Q (.ref t) (upd H t (.tup [.int n, .int d])) :=
  fun t ht => h _ _ (same_new ht _) (Qd.new n d q en ed z o)
def anyQ : Rat → Prop := fun _ => True
def posQ : Rat → Prop := fun q => 0 < q
instance (q : Rat) : Decidable (posQ q) := inferInstanceAs (Decidable (0 < q))
/-- a rational is drawn -/
def spDraw (K : PySem.W.Frag) (l : Addr) (m : Nat) (ok : Rat → Prop) : Sp := fun vs H Q _ => ∃ (s : Addr), vs = [.ref s] ∧ Sto l s H ∧ ∀ (v : V) H', Qd K m ok H' v → Sto l s H' → Fr s H H' → Q v H'
theorem mk_pos {n d : Int} (hn : 0 < n) (hd : 0 < d) : 0 < mkRat n d.toNat := by
  refine pos_of_num ?_
  have dn : d.toNat ≠ 0 := by omega
  rw [mk_num n dn]
  have g := Nat.gcd_le_left d.toNat (show 0 < n.natAbs by omega)
  have gp : 0 < Nat.gcd n.natAbs d.toNat := Nat.gcd_pos_of_pos_left _ (by omega)
  exact Int.ediv_pos_of_pos_of_dvd hn (by omega) (by
    have := Nat.gcd_dvd_left n.natAbs d.toNat
    have e : n = (n.natAbs : Int) := by omega
    rw [e]
    exact Int.natCast_dvd_natCast.mpr (by rw [Int.natAbs_natCast]; exact this))
theorem lt2 {i : Int} {b : Nat} (c : Nat) (h : i.natAbs < c) (e : c ≤ 2 ^ b) : i.natAbs < 2 ^ b := Nat.lt_of_lt_of_le h e
abbrev s__law_part : Stmt := top 64
abbrev N__law_part : List Str := ["_law_store_here", "_law_sort"]
theorem sc__law_part : FnScope N__law_part ["_law_store_here"] (defScope s__law_part) := ⟨rfl, rfl, rfl, by decide +kernel, rfl, by decide +kernel, by decide +kernel⟩
abbrev ps__law_part : List Str := ["_law_store_here"]
theorem ok_part (F : Fn K mg "_law_part" s__law_part ps__law_part f fd) (d_law_take : Def P w K mg base k "_law_take" ["_law_store_here", "_law_many"] (spTake K l) f1 fd1) (d_law_pick : Def P w K mg base k "_law_pick" ["_law_store_here", "_law_things"] (spPick K l) f2 fd2)
    (d_law_frac : Def P w K mg base k "_law_frac" ["_law_n", "_law_d"] (spFrac K) f3 fd3) : Def P w K mg base (k + 1) "_law_part" ps__law_part (spDraw K l 5 anyQ) f fd := by
  refine ⟨F.F.ok sc__law_part (fun vs H Q E h => ?_) (fun cdv A outer s H vs Q E hr h => ?_), F.m, F.F.kp, F.b⟩
  · obtain ⟨_, rfl, _⟩ := h
    rfl
  obtain ⟨s, rfl, hS, z⟩ := h
  refine ⟨_, (pss_cons (ps_set (i := 1) sc__law_part.nd rfl (Or.inl rfl) (pcall d_law_take hr (pa_cons (pv 0) (pa_cons pe_int pa_nil))))
      (pss_cons (ps_if (pt_cmpR op_lt (pv 1) pe_int (nomark _))
        (pss_one (ps_ret (pcall d_law_pick hr (pa_cons (pv 0) (pa_cons (pe_lst (pa_cons (pe_tup (pa_cons pe_int (pa_cons pe_int pa_nil))) (pa_cons (pe_tup (pa_cons pe_int (pa_cons pe_int pa_nil))) (pa_cons (pe_tup (pa_cons pe_int (pa_cons pe_int pa_nil))) (pa_cons (pe_tup (pa_cons (pe_un un_neg pe_int) (pa_cons pe_int pa_nil))) (pa_cons (pe_tup (pa_cons pe_int (pa_cons pe_int pa_nil))) (pa_cons (pe_tup (pa_cons (pe_un un_neg pe_int) (pa_cons pe_int pa_nil))) pa_nil))))))) pa_nil)))))
        pss_nil)
      (pss_one (ps_ret (pcall d_law_frac hr (pa_cons (pe_op op_sub (pcall d_law_take hr (pa_cons (pv 0) (pa_cons pe_int pa_nil))) pe_int) (pa_cons (pe_op op_add pe_int (pcall d_law_take hr (pa_cons (pv 0) (pa_cons pe_int pa_nil)))) pa_nil))))))), ?_⟩
  refine ⟨_, rfl, s, 6, rfl, hS, by decide, fun r H1 r0 r1 S1 e1 => ?_⟩
  refine ⟨_, rfl, _, _, rfl, rfl, _, rfl, ifD (fun _ => ?_) (fun _ => ?_)⟩
  · refine ⟨_, rfl, sz2, fun t1 h1 => ?_⟩
    have c1 := same_new h1 (.tup [.int 0, .int 1]); have q1 := Qd.new (K := K) (m := 5) (ok := anyQ) (H := H1) (t := t1) 0 1 (0) (by decide) (by decide) (by decide) trivial; generalize upd H1 t1 (.tup [.int 0, .int 1]) = G1 at c1 q1 ⊢
    refine ⟨sz2, fun t2 h2 => ?_⟩
    have c2 := same_new h2 (.tup [.int 0, .int 1]); have q2 := Qd.new (K := K) (m := 5) (ok := anyQ) (H := G1) (t := t2) 0 1 (0) (by decide) (by decide) (by decide) trivial; generalize upd G1 t2 (.tup [.int 0, .int 1]) = G2 at c2 q2 ⊢
    refine ⟨sz2, fun t3 h3 => ?_⟩
    have c3 := same_new h3 (.tup [.int 1, .int 1]); have q3 := Qd.new (K := K) (m := 5) (ok := anyQ) (H := G2) (t := t3) 1 1 (1) (by decide) (by decide) (by decide) trivial; generalize upd G2 t3 (.tup [.int 1, .int 1]) = G3 at c3 q3 ⊢
    refine ⟨_, rfl, sz2, fun t4 h4 => ?_⟩
    have c4 := same_new h4 (.tup [.int (-1), .int 1]); have q4 := Qd.new (K := K) (m := 5) (ok := anyQ) (H := G3) (t := t4) (-1) 1 (-1) (by decide) (by decide) (by decide) trivial; generalize upd G3 t4 (.tup [.int (-1), .int 1]) = G4 at c4 q4 ⊢
    refine ⟨sz2, fun t5 h5 => ?_⟩
    have c5 := same_new h5 (.tup [.int 1, .int 2]); have q5 := Qd.new (K := K) (m := 5) (ok := anyQ) (H := G4) (t := t5) 1 2 (mkRat 1 2) (by decide) (by decide) (by decide) trivial; generalize upd G4 t5 (.tup [.int 1, .int 2]) = G5 at c5 q5 ⊢
    refine ⟨_, rfl, sz2, fun t6 h6 => ?_⟩
    have c6 := same_new h6 (.tup [.int (-1), .int 2]); have q6 := Qd.new (K := K) (m := 5) (ok := anyQ) (H := G5) (t := t6) (-1) 2 (mkRat (-1) 2) (by decide) (by decide) (by decide) trivial; generalize upd G5 t6 (.tup [.int (-1), .int 2]) = G6 at c6 q6 ⊢
    refine ⟨sm6, fun p h7 => ?_⟩
    have c7 := same_new h7 (.lst [.ref t1, .ref t2, .ref t3, .ref t4, .ref t5, .ref t6])
    have d6 := c6.trans c7; have d5 := c5.trans d6; have d4 := c4.trans d5; have d3 := c3.trans d4; have d2 := c2.trans d3; have d1 := c1.trans d2
    have S7 := S1.same d1
    have q1 := q1.same d2; have q2 := q2.same d3; have q3 := q3.same d4; have q4 := q4.same d5; have q5 := q5.same d6; have q6 := q6.same c7
    refine ⟨s, p, _, rfl, S7, (S1.same (c1.trans (c2.trans (c3.trans (c4.trans (c5.trans c6)))))).ne h7, SqL.of upd_same, (by show 0 < 6; decide), (by show 6 < 2 ^ 32; decide), fun v H' hv S' e' => z _ _ ?_ S' (e1.trans ((Fr.of d1).trans e'))⟩
    refine Qd.fr e' S7 ?_
    simp only [List.mem_cons, List.mem_nil_iff, or_false] at hv
    rcases hv with rfl | rfl | rfl | rfl | rfl | rfl <;> assumption
  · refine ⟨_, rfl, s, 49, rfl, S1, by decide, fun r2 H2 r3 r4 S2 e2 => ⟨_, _, rfl, rfl, ?_⟩⟩
    refine ⟨_, rfl, s, 6, rfl, S2, by decide, fun r5 H3 r6 r7 S3 e3 => ⟨_, _, rfl, rfl, ?_⟩⟩
    refine ⟨_, _, 5, rfl, by omega, lt2 25 (by omega) (by decide), lt2 7 (by omega) (by decide), by decide, fun v H' e hv => z _ _ ⟨_, hv, sz_mk (by omega) ?_ ?_, trivial⟩ (S3.same e) (e1.trans (e2.trans (e3.trans (Fr.of e))))⟩
    · exact lt2 25 (by omega) (by decide)
    · have : (2 : Nat) ^ 5 = 32 := by decide
      omega
abbrev s__law_above : Stmt := top 66
abbrev N__law_above : List Str := ["_law_store_here"]
theorem sc__law_above : FnScope N__law_above ["_law_store_here"] (defScope s__law_above) := ⟨rfl, rfl, rfl, by decide +kernel, rfl, by decide +kernel, by decide +kernel⟩
abbrev ps__law_above : List Str := ["_law_store_here"]
theorem ok_above (F : Fn K mg "_law_above" s__law_above ps__law_above f fd) (d_law_take : Def P w K mg base k "_law_take" ["_law_store_here", "_law_many"] (spTake K l) f1 fd1) (d_law_frac : Def P w K mg base k "_law_frac" ["_law_n", "_law_d"] (spFrac K) f3 fd3) : Def P w K mg base (k + 1) "_law_above" ps__law_above (spDraw K l 5 posQ) f fd := by
  refine ⟨F.F.ok sc__law_above (fun vs H Q E h => ?_) (fun cdv A outer s H vs Q E hr h => ?_), F.m, F.F.kp, F.b⟩
  · obtain ⟨_, rfl, _⟩ := h
    rfl
  obtain ⟨s, rfl, hS, z⟩ := h
  refine ⟨_, (pss_cons (ps_if (pt_cmpR op_eq (pcall d_law_take hr (pa_cons (pv 0) (pa_cons pe_int pa_nil))) pe_int (nomark _))
        (pss_one (ps_ret (pe_tup (pa_cons pe_int (pa_cons pe_int pa_nil)))))
        pss_nil)
      (pss_one (ps_ret (pcall d_law_frac hr (pa_cons (pe_op op_add pe_int (pcall d_law_take hr (pa_cons (pv 0) (pa_cons pe_int pa_nil)))) (pa_cons (pe_op op_add pe_int (pcall d_law_take hr (pa_cons (pv 0) (pa_cons pe_int pa_nil)))) pa_nil)))))), ?_⟩
  refine ⟨_, rfl, s, 4, rfl, hS, by decide, fun r H1 r0 r1 S1 e1 => ?_⟩
  refine ⟨rfl, _, rfl, ifD (fun _ => ?_) (fun _ => ?_)⟩
  · exact ⟨sz2, fun t ht => z _ _ (Qd.new 1 1 1 rfl rfl (by decide) (by decide)) (S1.same (same_new ht _)) (e1.trans (Fr.of (same_new ht _)))⟩
  refine ⟨_, rfl, s, 24, rfl, S1, by decide, fun r2 H2 r3 r4 S2 e2 => ⟨_, _, rfl, rfl, ?_⟩⟩
  refine ⟨_, rfl, s, 6, rfl, S2, by decide, fun r5 H3 r6 r7 S3 e3 => ⟨_, _, rfl, rfl, ?_⟩⟩
  refine ⟨_, _, 5, rfl, by omega, lt2 25 (by omega) (by decide), lt2 7 (by omega) (by decide), by decide, fun v H' e hv => z _ _ ⟨_, hv, sz_mk (by omega) ?_ ?_, mk_pos (by omega) (by omega)⟩ (S3.same e) (e1.trans (e2.trans (e3.trans (Fr.of e))))⟩
  · exact lt2 25 (by omega) (by decide)
  · have : (2 : Nat) ^ 5 = 32 := by decide
    omega
abbrev s__law_pace : Stmt := top 69
abbrev N__law_pace : List Str := ["_law_store_here"]
theorem sc__law_pace : FnScope N__law_pace ["_law_store_here"] (defScope s__law_pace) := ⟨rfl, rfl, rfl, by decide +kernel, rfl, by decide +kernel, by decide +kernel⟩
abbrev ps__law_pace : List Str := ["_law_store_here"]
theorem ok_pace (F : Fn K mg "_law_pace" s__law_pace ps__law_pace f fd) (d_law_take : Def P w K mg base k "_law_take" ["_law_store_here", "_law_many"] (spTake K l) f1 fd1) (d_law_pick : Def P w K mg base k "_law_pick" ["_law_store_here", "_law_things"] (spPick K l) f2 fd2) (d_law_frac : Def P w K mg base k "_law_frac" ["_law_n", "_law_d"] (spFrac K) f3 fd3) : Def P w K mg base (k + 1) "_law_pace" ps__law_pace (spDraw K l 5 posQ) f fd := by
  refine ⟨F.F.ok sc__law_pace (fun vs H Q E h => ?_) (fun cdv A outer s H vs Q E hr h => ?_), F.m, F.F.kp, F.b⟩
  · obtain ⟨_, rfl, _⟩ := h
    rfl
  obtain ⟨s, rfl, hS, z⟩ := h
  refine ⟨_, (pss_cons (ps_if (pt_cmpR op_eq (pcall d_law_take hr (pa_cons (pv 0) (pa_cons pe_int pa_nil))) pe_int (nomark _))
        (pss_one (ps_ret (pcall d_law_pick hr (pa_cons (pv 0) (pa_cons (pe_lst (pa_cons (pe_tup (pa_cons pe_int (pa_cons pe_int pa_nil))) (pa_cons (pe_tup (pa_cons pe_int (pa_cons pe_int pa_nil))) (pa_cons (pe_tup (pa_cons pe_int (pa_cons pe_int pa_nil))) (pa_cons (pe_tup (pa_cons pe_int (pa_cons pe_int pa_nil))) (pa_cons (pe_tup (pa_cons pe_int (pa_cons pe_int pa_nil))) (pa_cons (pe_tup (pa_cons pe_int (pa_cons pe_int pa_nil))) pa_nil))))))) pa_nil)))))
        pss_nil)
      (pss_one (ps_ret (pcall d_law_frac hr (pa_cons (pe_op op_add pe_int (pcall d_law_take hr (pa_cons (pv 0) (pa_cons pe_int pa_nil)))) (pa_cons (pe_op op_add pe_int (pcall d_law_take hr (pa_cons (pv 0) (pa_cons pe_int pa_nil)))) pa_nil)))))), ?_⟩
  refine ⟨_, rfl, s, 2, rfl, hS, by decide, fun r H1 r0 r1 S1 e1 => ?_⟩
  refine ⟨rfl, _, rfl, ifD (fun _ => ?_) (fun _ => ?_)⟩
  · refine ⟨_, rfl, sz2, fun t1 h1 => ?_⟩
    have c1 := same_new h1 (.tup [.int 1, .int 1]); have q1 := Qd.new (K := K) (m := 5) (ok := posQ) (H := H1) (t := t1) 1 1 (1) (by decide) (by decide) (by decide) (by decide); generalize upd H1 t1 (.tup [.int 1, .int 1]) = G1 at c1 q1 ⊢
    refine ⟨sz2, fun t2 h2 => ?_⟩
    have c2 := same_new h2 (.tup [.int 1, .int 1]); have q2 := Qd.new (K := K) (m := 5) (ok := posQ) (H := G1) (t := t2) 1 1 (1) (by decide) (by decide) (by decide) (by decide); generalize upd G1 t2 (.tup [.int 1, .int 1]) = G2 at c2 q2 ⊢
    refine ⟨sz2, fun t3 h3 => ?_⟩
    have c3 := same_new h3 (.tup [.int 1, .int 2]); have q3 := Qd.new (K := K) (m := 5) (ok := posQ) (H := G2) (t := t3) 1 2 (mkRat 1 2) (by decide) (by decide) (by decide) (by decide); generalize upd G2 t3 (.tup [.int 1, .int 2]) = G3 at c3 q3 ⊢
    refine ⟨sz2, fun t4 h4 => ?_⟩
    have c4 := same_new h4 (.tup [.int 2, .int 1]); have q4 := Qd.new (K := K) (m := 5) (ok := posQ) (H := G3) (t := t4) 2 1 (2) (by decide) (by decide) (by decide) (by decide); generalize upd G3 t4 (.tup [.int 2, .int 1]) = G4 at c4 q4 ⊢
    refine ⟨sz2, fun t5 h5 => ?_⟩
    have c5 := same_new h5 (.tup [.int 9, .int 10]); have q5 := Qd.new (K := K) (m := 5) (ok := posQ) (H := G4) (t := t5) 9 10 (mkRat 9 10) (by decide) (by decide) (by decide) (by decide); generalize upd G4 t5 (.tup [.int 9, .int 10]) = G5 at c5 q5 ⊢
    refine ⟨sz2, fun t6 h6 => ?_⟩
    have c6 := same_new h6 (.tup [.int 11, .int 10]); have q6 := Qd.new (K := K) (m := 5) (ok := posQ) (H := G5) (t := t6) 11 10 (mkRat 11 10) (by decide) (by decide) (by decide) (by decide); generalize upd G5 t6 (.tup [.int 11, .int 10]) = G6 at c6 q6 ⊢
    refine ⟨sm6, fun p hp => ?_⟩
    have cp := same_new hp (.lst [.ref t1, .ref t2, .ref t3, .ref t4, .ref t5, .ref t6])
    have d6 := c6.trans cp
    have d5 := c5.trans d6
    have d4 := c4.trans d5
    have d3 := c3.trans d4
    have d2 := c2.trans d3
    have d1 := c1.trans d2
    have Sp := S1.same d1
    have np := (S1.same (c1.trans (c2.trans (c3.trans (c4.trans (c5.trans c6)))))).ne hp
    have q1 := q1.same d2
    have q2 := q2.same d3
    have q3 := q3.same d4
    have q4 := q4.same d5
    have q5 := q5.same d6
    have q6 := q6.same cp
    refine ⟨s, p, _, rfl, Sp, np, SqL.of upd_same, (by show 0 < 6; decide), (by show 6 < 2 ^ 32; decide), fun v H' hv S' e' => ?_⟩
    have qv : Qd K 5 posQ H' v := by
      refine Qd.fr e' Sp ?_
      simp only [List.mem_cons, List.mem_nil_iff, or_false] at hv
      rcases hv with rfl | rfl | rfl | rfl | rfl | rfl <;> assumption
    exact z _ _ qv S' (e1.trans ((Fr.of d1).trans e'))
  refine ⟨_, rfl, s, 30, rfl, S1, by decide, fun r2 H2 r3 r4 S2 e2 => ⟨_, _, rfl, rfl, ?_⟩⟩
  refine ⟨_, rfl, s, 12, rfl, S2, by decide, fun r5 H3 r6 r7 S3 e3 => ⟨_, _, rfl, rfl, ?_⟩⟩
  refine ⟨_, _, 5, rfl, by omega, lt2 31 (by omega) (by decide), lt2 13 (by omega) (by decide), by decide, fun v H' e hv => z _ _ ⟨_, hv, sz_mk (by omega) ?_ ?_, mk_pos (by omega) (by omega)⟩ (S3.same e) (e1.trans (e2.trans (e3.trans (Fr.of e))))⟩
  · exact lt2 31 (by omega) (by decide)
  · have : (2 : Nat) ^ 5 = 32 := by decide
    omega
/-- one rational in, one near it out -/
def spNear (K : PySem.W.Frag) (l : Addr) : Sp := fun vs H Q _ => ∃ (s : Addr) (x : V) (m : Nat), vs = [.ref s, x] ∧ Sto l s H ∧ m + 11 ≤ 9000 ∧ Qd K m anyQ H x ∧ ∀ (v : V) H', Qd K (m + 11) anyQ H' v → Sto l s H' → Fr s H H' → Q v H'
end Vk
namespace Vk
open PySem L2 Vm
variable {P : Program} {w : World} {K : PySem.W.Frag} {mg : Str → Option Value} {base : Heap} {k : Nat} {f f1 f2 f3 f4 f5 f6 f7 f8 f9 : Addr} {fd fd1 fd2 fd3 fd4 fd5 fd6 fd7 fd8 fd9 : FuncData}
/-! ### courses -/
structure Pc where
  s : Rat
  v : Rat
  r : Rat
def Pq (K : PySem.W.Frag) (H : Hp) (x : V) (p : Pc) : Prop := ∃ a xs xv xr, x = .ref a ∧ SqT K H a [xs, xv, xr] ∧ Rq K H xs p.s ∧ Rq K H xv p.v ∧ Rq K H xr p.r
theorem Pq.same {H H' : Hp} {x : V} {p : Pc} (e : Same H H') (h : Pq K H x p) : Pq K H' x p := by
  obtain ⟨a, xs, xv, xr, rfl, h, h1, h2, h3⟩ := h
  exact ⟨a, xs, xv, xr, rfl, e.sqt h, h1.same e, h2.same e, h3.same e⟩
theorem Pq.fr {s : Addr} {H H' : Hp} {x : V} {p : Pc} (e : Fr s H H') (hs : ∃ ys, H s = some (.lst ys)) (h : Pq K H x p) : Pq K H' x p := by
  obtain ⟨a, xs, xv, xr, rfl, h, h1, h2, h3⟩ := h
  exact ⟨a, xs, xv, xr, rfl, sqt_fr e hs h, h1.fr e hs, h2.fr e hs, h3.fr e hs⟩
def All2 {α : Type} (R : V → α → Prop) (xs : List V) (c : List α) : Prop := xs.length = c.length ∧ ∀ (i : Nat) x p, xs[i]? = some x → c[i]? = some p → R x p
theorem All2.nil {α : Type} {R : V → α → Prop} : All2 R [] [] := ⟨rfl, fun i x p h => by simp at h⟩
theorem All2.imp {α : Type} {R R' : V → α → Prop} {xs : List V} {c : List α} (h : All2 R xs c) (g : ∀ x p, R x p → R' x p) : All2 R' xs c := ⟨h.1, fun i x p a b => g _ _ (h.2 i x p a b)⟩
theorem All2.snoc {α : Type} {R : V → α → Prop} {xs : List V} {c : List α} {x : V} {p : α} (h : All2 R xs c) (r : R x p) : All2 R (xs ++ [x]) (c ++ [p]) := by
  refine ⟨by simp [h.1], fun i y q a b => ?_⟩
  by_cases hi : i < xs.length
  · rw [List.getElem?_append_left hi] at a
    rw [List.getElem?_append_left (by rw [← h.1]; exact hi)] at b
    exact h.2 i y q a b
  · rw [List.getElem?_append_right (by omega)] at a
    rw [List.getElem?_append_right (by rw [← h.1]; omega)] at b
    have e : i - xs.length = 0 := by
      have := (List.getElem?_eq_some_iff.mp a).1
      simp at this
      omega
    rw [e] at a
    rw [← h.1, e] at b
    cases a
    cases b
    exact r
theorem All2.at {α : Type} {R : V → α → Prop} {xs : List V} {c : List α} (h : All2 R xs c) {i : Nat} {p : α} (e : c[i]? = some p) : ∃ x, xs[i]? = some x ∧ R x p := by
  have hi := (List.getElem?_eq_some_iff.mp e).1
  rw [← h.1] at hi
  exact ⟨xs[i], List.getElem?_eq_getElem hi, h.2 i _ _ (List.getElem?_eq_getElem hi) e⟩
/-- a list at a holds the course c -/
def Cq (K : PySem.W.Frag) (H : Hp) (a : Addr) (c : List Pc) : Prop := ∃ xs, SqL K H a xs ∧ All2 (Pq K H) xs c
theorem Cq.same {H H' : Hp} {a : Addr} {c : List Pc} (e : Same H H') (h : Cq K H a c) : Cq K H' a c := by
  obtain ⟨xs, h, g⟩ := h
  exact ⟨xs, e.seq h, g.imp fun _ _ h => h.same e⟩
theorem Cq.fr {s : Addr} {H H' : Hp} {a : Addr} {c : List Pc} (e : Fr s H H') (hs : ∃ ys, H s = some (.lst ys)) (n : a ≠ s) (h : Cq K H a c) : Cq K H' a c := by
  obtain ⟨xs, h, g⟩ := h
  exact ⟨xs, seq_fr e n h, g.imp fun _ _ h => h.fr e hs⟩
/-- sizes: starts, values, rates -/
def Cz (i j l : Nat) (c : List Pc) : Prop := ∀ p ∈ c, Sz i p.s ∧ Sz j p.v ∧ Sz l p.r
/-- a course's form -/
def Cok (c : List Pc) : Prop := (∀ p ∈ c, 0 < p.r) ∧ ∀ (i : Nat) p q, c[i]? = some p → c[i + 1]? = some q → p.s < q.s
def tm (p : Pc) (y : Rat) : Rat := p.s + (y - p.v) / p.r
def before (c : List Pc) (k : Nat) (t : Rat) : Bool := match c[k]? with
  | none => true
  | some q => decide (t < q.s)
def hit (c : List Pc) (y : Rat) (k : Nat) : Option Rat := match c[k]? with
  | none => none
  | some p => if p.s ≤ tm p y ∧ before c (k + 1) (tm p y) = true then some (tm p y) else none
def hits (c : List Pc) (y : Rat) (n : Nat) : List Rat := (List.range n).filterMap (hit c y)
theorem hits_succ (c : List Pc) (y : Rat) (n : Nat) : hits c y (n + 1) = hits c y n ++ (hit c y n).toList := by
  unfold hits
  rw [List.range_succ, List.filterMap_append]
  cases h : hit c y n <;> simp [h]
abbrev s__law_is_frac : Stmt := top 62
abbrev N__law_is_frac : List Str := ["_law_value"]
theorem sc__law_is_frac : FnScope N__law_is_frac ["_law_value"] (defScope s__law_is_frac) := ⟨rfl, rfl, rfl, by decide +kernel, rfl, by decide +kernel, by decide +kernel⟩
abbrev ps__law_is_frac : List Str := ["_law_value"]
def spIsFrac (K : PySem.W.Frag) : Sp := fun vs H Q _ => ∃ (x : V) (q : Rat) (m : Nat), vs = [x] ∧ Rq K H x q ∧ Sz m q ∧ m ≤ 9000 ∧ ∀ H', Same H H' → Q (.bl true) H'
theorem ok_is_frac (T : Bn mg) (F : Fn K mg "_law_is_frac" s__law_is_frac ps__law_is_frac f fd) (d_law_is_int : Def P w K mg base k "_law_is_int" ["_law_value"] (spIsInt K) f1 fd1) (d_law_frac : Def P w K mg base k "_law_frac" ["_law_n", "_law_d"] (spFrac K) f2 fd2) :
    Def P w K mg base (k + 1) "_law_is_frac" ps__law_is_frac (spIsFrac K) f fd := by
  refine ⟨F.F.ok sc__law_is_frac (fun vs H Q E h => ?_) (fun cdv A outer s H vs Q E hr h => ?_), F.m, F.F.kp, F.b⟩
  · obtain ⟨x, q, m, rfl, _⟩ := h
    rfl
  obtain ⟨x, q, m, rfl, hx, zq, hm, z⟩ := h
  obtain ⟨a, rfl, ha⟩ := id hx
  refine ⟨_, (pss_cons (ps_if (PW.pt (pw_or (pt_not (pt_val (pe_callB call_isi (by rfl) T.isinstance_ (by decide +kernel) (pa_cons (pv 0) (pa_cons (pe_bltn (v := .ty "tuple") (by rfl) T.tuple_ (by decide +kernel) rfl) pa_nil))))) (pw_or1 (pt_cmpR op_ne (pe_callB call_len_seq (by rfl) T.len_ PySem.boot_len (pa_cons (pv 0) pa_nil)) pe_int (nomark _)))))
        (pss_one (ps_ret pe_bl))
        pss_nil)
      (pss_cons (ps_if (PW.pt (pw_or (pt_not (pt_val (pcall d_law_is_int hr (pa_cons (pe_ix ix_tup (pv 0) pe_int (fun _ _ => rfl)) pa_nil)))) (pw_or (pt_not (pt_val (pcall d_law_is_int hr (pa_cons (pe_ix ix_tup (pv 0) pe_int (fun _ _ => rfl)) pa_nil)))) (pw_or1 (pt_cmpR op_lt (pe_ix ix_tup (pv 0) pe_int (fun _ _ => rfl)) pe_int (nomark _))))))
        (pss_one (ps_ret pe_bl))
        pss_nil)
      (pss_one (ps_ret (pe_cmpR (op_eqD hr.units) (pcall d_law_frac hr (pa_cons (pe_ix ix_tup (pv 0) pe_int (fun _ _ => rfl)) (pa_cons (pe_ix ix_tup (pv 0) pe_int (fun _ _ => rfl)) pa_nil))) (pv 0) (nomark _)))))), ?_⟩
  have ta := sqt_ty ha
  have dp := q.den_pos
  refine ⟨_, rfl, _, _, _, _, true, rfl, .ty _, ta, kit_ty (by decide +kernel), _, rfl, ifF rfl ⟨_, rfl, a, _, rfl, .inr ha, rfl, _, rfl, ifF rfl ?_⟩⟩
  refine ⟨_, rfl, a, _, _, _, rfl, rfl, ha, at0 rfl, _, rfl, _, rfl, ifF rfl ⟨_, rfl, a, _, _, _, rfl, rfl, ha, at1 rfl, _, rfl, _, rfl, ifF rfl ⟨_, rfl, a, _, _, _, rfl, rfl, ha, at1 rfl, _, _, rfl, rfl, _, rfl, ifF (dF (by omega)) ?_⟩⟩⟩
  refine ⟨_, rfl, a, _, _, _, rfl, rfl, ha, at0 rfl, _, rfl, a, _, _, _, rfl, rfl, ha, at1 rfl, _, _, m, rfl, by omega, zq.1, dA zq, hm, fun r H' e hr => ?_⟩
  have er : mkRat q.num ((q.den : Int)).toNat = q := Rat.mkRat_self q
  rw [er] at hr
  refine ⟨_, rfl, _, _, hr.dp, (hx.same e).dp, sh_dq _, sh_dq _, ?_⟩
  rw [eqv_dq, dT rfl]
  exact z _ e
def spTimeOf (K : PySem.W.Frag) : Sp := fun vs H Q _ => ∃ (x y : V) (p : Pc) (q : Rat) (i j l m : Nat), vs = [x, y] ∧ Pq K H x p ∧ Rq K H y q ∧ Sz i p.s ∧ Sz j p.v ∧ Sz l p.r ∧ Sz m q ∧ 0 < p.r ∧ m + j + l + i + 3 ≤ 9000 ∧
  ∀ r H', Same H H' → Rq K H' r (tm p q) → Q r H'
def endV (K : PySem.W.Frag) (H : Hp) (c : List Pc) (n : Nat) (v : V) : Prop := match c[n]? with
  | none => v = .non
  | some p => Rq K H v p.s
def spEndOf (K : PySem.W.Frag) : Sp := fun vs H Q _ => ∃ (a : Addr) (n : Nat) (c : List Pc), vs = [.ref a, .int n] ∧ Cq K H a c ∧ ∀ v, endV K H c (n + 1) v → Q v H
end Vk
namespace Vk
open PySem L2 Vm
variable {P : Program} {w : World} {K : PySem.W.Frag} {mg : Str → Option Value} {base : Heap} {k : Nat} {f f1 f2 f3 f4 f5 f6 f7 f8 f9 : Addr} {fd fd1 fd2 fd3 fd4 fd5 fd6 fd7 fd8 fd9 : FuncData}
theorem for_enum {K : PySem.W.Frag} {a : Addr} {xs : List V} {g : TG} {tb : TS} {D : Ends} {σ : L2.St} {H : Hp} (Pv : Nat → L2.St → Hp → Prop) (h0 : Pv 0 σ H) (hq : ∀ i σ H, Pv i σ H → SqL K H a xs)
    (hs : ∀ (i : Nat) (x : V) (T : Addr) (σ : L2.St) (H : Hp), xs[i]? = some x → Pv i σ H → H T = none → g (.ref T) σ (upd H T (.tup [.int (i : Nat), x])) fun σ2 H2 => tb { D with nx := Pv (i + 1), ct := Pv (i + 1), bk := D.nx } σ2 H2) (hd : ∀ σ H, Pv xs.length σ H → D.nx σ H) :
    ∃ W : Nat → Nat → L2.St → Hp → Prop, (∃ m, W 0 m σ H) ∧ ∀ i m σ H, W i m σ H →
      ((Ite K a).stop i H ∧ D.nx σ H) ∨ ((Ite K a).go i H ∧ ∃ N : L2.St → Hp → Prop, (∀ σ' H', N σ' H' → ∃ m', m' < m ∧ W (i + 1) m' σ' H') ∧ ∀ v H', (Ite K a).yld i H v H' → g v σ H' fun σ2 H2 => tb { D with nx := N, ct := N, bk := D.nx } σ2 H2) := by
  refine ⟨fun i m σ H => m = xs.length - i ∧ i ≤ xs.length ∧ Pv i σ H, ⟨xs.length, rfl, Nat.zero_le _, h0⟩, ?_⟩
  rintro i m σ H ⟨rfl, hi, p⟩
  have qx := hq i σ H p
  by_cases hlt : i < xs.length
  · have hx : xs[i]? = some xs[i] := List.getElem?_eq_getElem hlt
    refine .inr ⟨⟨xs, _, qx, hx⟩, Pv (i + 1), fun σ' H' p' => ⟨xs.length - (i + 1), by omega, rfl, hlt, p'⟩, fun v H' y => ?_⟩
    obtain ⟨T, x', rfl, hT, rfl, f1⟩ := y
    exact hs i x' T σ H (f1 xs qx) p hT
  · have e : i = xs.length := by omega
    subst e
    exact .inl ⟨⟨xs, qx, Nat.le_refl _⟩, hd σ H p⟩
theorem sg_ge {p q : Rat} : 0 ≤ sg p q ↔ q ≤ p := by
  unfold sg
  split
  · rename_i h
    subst h
    simp [Rat.le_refl]
  · split
    · rename_i h1 h2
      constructor
      · intro h; omega
      · intro h; exact absurd (Rat.not_lt.mpr h) (fun g => g h2)
    · rename_i h1 h2
      constructor
      · intro _; exact Rat.not_lt.mp h2
      · intro _; omega
theorem sg_lt {p q : Rat} : sg p q < 0 ↔ p < q := by
  unfold sg
  split
  · rename_i h
    subst h
    constructor
    · intro h; omega
    · intro h; exact absurd h Rat.lt_irrefl
  · split
    · rename_i h1 h2
      exact ⟨fun _ => h2, fun _ => by omega⟩
    · rename_i h1 h2
      exact ⟨fun h => by omega, fun h => absurd h h2⟩
theorem same_upd {H H' : Hp} {D : Addr} (e : Same H H') (h : H D = none) (o : HO) : Same H (upd H' D o) := fun b u q => by rw [upd_ne (ne_of_none q h)]; exact e b u q
theorem hits_len (c : List Pc) (y : Rat) (n : Nat) : (hits c y n).length ≤ n := by
  have := List.length_filterMap_le (hit c y) (List.range n)
  rw [List.length_range] at this
  exact this
theorem le1000 {n : Nat} (h : n ≤ 1000) : n < sizeLine := Nat.lt_of_le_of_lt h (by decide)
def spTimes (K : PySem.W.Frag) : Sp := fun vs H Q _ => ∃ (a : Addr) (y : V) (c : List Pc) (q : Rat) (i j l m : Nat), vs = [.ref a, y] ∧ Cq K H a c ∧ Rq K H y q ∧ Cz i j l c ∧ Sz m q ∧ (∀ p ∈ c, 0 < p.r) ∧ c.length ≤ 1000 ∧ m + j + l + i + i + 4 ≤ 9000 ∧
  ∀ D us H', Same H H' → H D = none → H' D = some (.lst us) → All2 (Rq K H') us (hits c q c.length) → Q (.ref D) H'
end Vk
namespace Vk
open PySem L2 Vm
variable {P : Program} {w : World} {K : PySem.W.Frag} {mg : Str → Option Value} {base : Heap} {k : Nat} {f f1 f2 f3 f4 f5 f6 f7 f8 f9 : Addr} {fd fd1 fd2 fd3 fd4 fd5 fd6 fd7 fd8 fd9 : FuncData}
def optV (K : PySem.W.Frag) (H : Hp) (v : V) : Option Rat → Prop
  | none => v = .non
  | some q => Rq K H v q
def lim (c : List Pc) (n : Nat) : Option Rat := match c[n]? with
  | none => none
  | some p => match c[n + 1]? with
    | none => none
    | some q => some (p.v + p.r * (q.s - p.s))
def spLimit (K : PySem.W.Frag) : Sp := fun vs H Q _ => ∃ (a : Addr) (n : Nat) (c : List Pc) (i j l : Nat), vs = [.ref a, .int n] ∧ Cq K H a c ∧ n < c.length ∧ Cz i j l c ∧ i + i + l + j + 3 ≤ 9000 ∧ ∀ v H', Same H H' → optV K H' v (lim c n) → Q v H'
def on (t : Rat) (p : Pc) : Bool := !decide (t < p.s)
def nowf (c : List Pc) (t : Rat) : Option Rat := ((c.filter (on t)).getLast?).map fun p => p.v + p.r * (t - p.s)
theorem filter_more {α : Type} {c : List α} {i : Nat} {p : α} (g : α → Bool) (h : c[i]? = some p) : (c.take (i + 1)).filter g = (c.take i).filter g ++ (if g p = true then [p] else []) := by
  rw [List.take_add_one, h, List.filter_append]
  congr 1
  simp only [Option.toList]
  cases e : g p <;> simp [e]
abbrev s__law_now : Stmt := top 75
abbrev N__law_now : List Str := ["_law_course_here", "_law_t", "_law_row", "_law_piece"]
theorem sc__law_now : FnScope N__law_now ["_law_course_here", "_law_t"] (defScope s__law_now) := ⟨rfl, rfl, rfl, by decide +kernel, rfl, by decide +kernel, by decide +kernel⟩
abbrev ps__law_now : List Str := ["_law_course_here", "_law_t"]
def spNow (K : PySem.W.Frag) : Sp := fun vs H Q _ => ∃ (a : Addr) (y : V) (c : List Pc) (t : Rat) (i j l m : Nat), vs = [.ref a, y] ∧ Cq K H a c ∧ Rq K H y t ∧ Cz i j l c ∧ Sz m t ∧ c.length ≤ 1000 ∧ m + i + l + j + 3 ≤ 9000 ∧ ∀ v H', Same H H' → optV K H' v (nowf c t) → Q v H'
theorem ok_now (T : Bn mg) (F : Fn K mg "_law_now" s__law_now ps__law_now f fd) (d_law_below : Def P w K mg base k "_law_below" ["_law_a", "_law_b"] (spTest2 K fun p q => .bl (decide (p < q))) f4 fd4) (d_law_plus : Def P w K mg base k "_law_plus" ["_law_a", "_law_b"] (spOp2 K (· + ·)) f1 fd1) (d_law_times : Def P w K mg base k "_law_times" ["_law_a", "_law_b"] (spOp2 K (· * ·)) f2 fd2)
    (d_law_minus : Def P w K mg base k "_law_minus" ["_law_a", "_law_b"] (spOp2 K (· - ·)) f3 fd3) : Def P w K mg base (k + 1) "_law_now" ps__law_now (spNow K) f fd := by
  refine ⟨F.F.ok sc__law_now (fun vs H Q E h => ?_) (fun cdv A outer s H vs Q E hr h => ?_), F.m, F.F.kp, F.b⟩
  · obtain ⟨_, _, _, _, _, _, _, _, rfl, _⟩ := h
    rfl
  obtain ⟨a, y, c, t, i0, j0, l0, m0, rfl, hC, hy, zc, zt, hl, hb, z⟩ := h
  obtain ⟨xs, hx, hc⟩ := id hC
  refine ⟨_, (pss_cons (ps_setLc (i := 2) (own := [("_law_piece", 3)]) (g := gName 3) rfl sc__law_now.nd rfl rfl (sw_true rfl rfl rfl (by decide +kernel)) (pi_list (pv 0)) (blkOk_by (N := N__law_now) (sc := defScope s__law_now) (by decide +kernel)) (fun _ _ _ _ _ => pg_name (i := 3) sc__law_now.nd rfl (Or.inl rfl)) (fun _ _ _ _ _ => pts_one (pt_not (pt_val (pcall d_law_below hr (pa_cons (pv 1) (pa_cons (pe_ix (show IxR _ (rIxT K) from ix_tup) (pv 3) pe_int (fun _ _ => rfl)) pa_nil)))))) (fun _ _ _ _ _ => (pv 3)))
      (pss_cons (ps_if (pt_cmpR op_eq (pe_callB call_len_seq (by rfl) T.len_ PySem.boot_len (pa_cons (pv 2) pa_nil)) pe_int (nomark _))
        (pss_one (ps_ret pe_non))
        pss_nil)
      (pss_cons (ps_set (i := 3) sc__law_now.nd rfl (Or.inl rfl) (pe_ix ix_list (pv 2) (pe_op op_sub (pe_callB call_len_seq (by rfl) T.len_ PySem.boot_len (pa_cons (pv 2) pa_nil)) pe_int) (fun _ _ => rfl)))
      (pss_one (ps_ret (pcall d_law_plus hr (pa_cons (pe_ix ix_tup (pv 3) pe_int (fun _ _ => rfl)) (pa_cons (pcall d_law_times hr (pa_cons (pe_ix ix_tup (pv 3) pe_int (fun _ _ => rfl)) (pa_cons (pcall d_law_minus hr (pa_cons (pv 1) (pa_cons (pe_ix ix_tup (pv 3) pe_int (fun _ _ => rfl)) pa_nil))) pa_nil))) pa_nil)))))))), ?_⟩
  refine ⟨_, rfl, a, rfl, ⟨_, hx⟩, fun D hD => lc_list (xs := xs) (fun i H' => ∃ acc, H' D = some (.lst acc) ∧ Same H H' ∧ All2 (Pq K H') acc ((c.take i).filter (on t))) ⟨[], upd_same, same_new hD _, All2.nil⟩ (fun i H' _ h => by obtain ⟨_, _, s1, _⟩ := h; exact s1.seq hx) ?_ ?_⟩
  · rintro i x H' hxi ⟨acc, hD1, s1, hA⟩
    have hi : i < c.length := by rw [← hc.1]; exact (List.getElem?_eq_some_iff.mp hxi).1
    have hci : c[i]? = some c[i] := List.getElem?_eq_getElem hi
    have hpx := hc.2 i x _ hxi hci
    obtain ⟨p, ep⟩ : ∃ p, p = c[i] := ⟨_, rfl⟩
    rw [← ep] at hci hpx
    have hmem : p ∈ c := by rw [ep]; exact List.getElem_mem hi
    obtain ⟨zs, zv, zr⟩ := zc p hmem
    have hal : acc.length ≤ 1000 := by
      have h1 := hA.1
      have h2 := List.length_filter_le (on t) (c.take i)
      rw [List.length_take] at h2
      omega
    obtain ⟨b, bs, bv, br, rfl, hb1, r1, r2, r3⟩ := hpx.same s1
    refine ⟨rfl, _, rfl, _, rfl, b, _, _, _, rfl, rfl, hb1, at0 rfl, _, _, t, p.s, m0, i0, rfl, hy.same s1, r1, zt, zs, by omega, _, rfl, ?_⟩
    have em := filter_more (on t) hci
    by_cases g : t < p.s
    · have eo : on t p = false := by unfold on; rw [dT g]; rfl
      refine ifF (by rw [dT g]; rfl) ⟨acc, hD1, s1, ?_⟩
      rw [em, eo]
      simpa using hA
    · have eo : on t p = true := by unfold on; rw [dF g]; rfl
      refine ifT (by rw [dF g]; rfl) ⟨_, rfl, acc, hD1, le1000 hal, _, upd_same, same_upd s1 hD _, ?_⟩
      rw [em, eo]
      have fr : Fr D H' (upd H' D (.lst (acc ++ [.ref b]))) := Fr.upd _
      exact (hA.imp fun _ _ h => h.fr fr ⟨_, hD1⟩).snoc ((hpx.same s1).fr fr ⟨_, hD1⟩)
  · rintro H' ⟨acc, hD1, s1, hA⟩
    rw [List.take_of_length_le (by rw [hc.1]; exact Nat.le_refl _)] at hA
    have ha := hA.1
    refine ⟨_, rfl, D, _, rfl, .inl (SqL.of hD1), rfl, _, rfl, ifD (fun g => ?_) (fun g => ?_)⟩
    · have g' := V.int.inj g
      refine z _ _ s1 ?_
      have e : c.filter (on t) = [] := List.eq_nil_of_length_eq_zero (by omega)
      unfold nowf
      rw [e]
      rfl
    · have ga : acc.length ≠ 0 := fun e => g (by rw [e]; rfl)
      have hlast : (c.filter (on t))[acc.length - 1]? = some (c.filter (on t))[acc.length - 1] := List.getElem?_eq_getElem (by omega)
      obtain ⟨p, ep⟩ : ∃ p, p = (c.filter (on t))[acc.length - 1] := ⟨_, rfl⟩
      rw [← ep] at hlast
      obtain ⟨x, hx1, hp⟩ := hA.at hlast
      have hmem : p ∈ c := by rw [ep]; exact (List.mem_filter.mp (List.getElem_mem _)).1
      obtain ⟨zs, zv, zr⟩ := zc p hmem
      obtain ⟨b, bs, bv, br, rfl, hb1, r1, r2, r3⟩ := hp
      refine ⟨_, rfl, _, rfl, D, _, rfl, .inl (SqL.of hD1), _, _, rfl, rfl, D, _, _, _, rfl, rfl, SqL.of hD1, at_of (j := acc.length - 1) (by omega) hx1, ?_⟩
      refine ⟨_, rfl, b, _, _, _, rfl, rfl, hb1, at1 rfl, _, rfl, b, _, _, _, rfl, rfl, hb1, at2 rfl, _, rfl, _, rfl, b, _, _, _, rfl, rfl, hb1, at0 rfl, ?_⟩
      refine ⟨_, _, _, _, m0, i0, rfl, hy.same s1, r1, zt, zs, by omega, fun w1 H1 f1 g1 => ?_⟩
      refine ⟨_, _, _, _, l0, m0 + i0 + 1, rfl, r3.same f1, g1, zr, zt.sub zs, by omega, fun w2 H2 f2 g2 => ?_⟩
      refine ⟨_, _, _, _, j0, l0 + (m0 + i0 + 1), rfl, r2.same (f1.trans f2), g2, zv, zr.mul (zt.sub zs), by omega, fun w3 H3 f3 g3 => z _ _ (s1.trans (f1.trans (f2.trans f3))) ?_⟩
      unfold nowf
      rw [List.getLast?_eq_getElem?, ← ha, hlast]
      exact g3
end Vk
namespace Vk
open PySem L2 Vm
variable {l : Addr} {P : Program} {w : World} {K : PySem.W.Frag} {mg : Str → Option Value} {base : Heap} {k : Nat} {f f1 f2 f3 f4 f5 f6 f7 f8 f9 : Addr} {fd fd1 fd2 fd3 fd4 fd5 fd6 fd7 fd8 fd9 : FuncData}
abbrev s__law_ratio : Stmt := top 63
abbrev N__law_ratio : List Str := ["_law_store_here", "_law_top", "_law_sort"]
theorem sc__law_ratio : FnScope N__law_ratio ["_law_store_here", "_law_top"] (defScope s__law_ratio) := ⟨rfl, rfl, rfl, by decide +kernel, rfl, by decide +kernel, by decide +kernel⟩
abbrev ps__law_ratio : List Str := ["_law_store_here", "_law_top"]
def spRatio (K : PySem.W.Frag) (l : Addr) : Sp := fun vs H Q _ => ∃ (s : Addr) (top : Int), vs = [.ref s, .int top] ∧ Sto l s H ∧ 1 ≤ top ∧ top < 2 ^ 40 ∧ ∀ (v : V) H', Qd K 40 anyQ H' v → Sto l s H' → Fr s H H' → Q v H'
theorem int_q {H : Hp} {t : Addr} (n : Int) (h : n.natAbs < 2 ^ 40) : Qd K 40 anyQ (upd H t (.tup [.int n, .int 1])) (.ref t) := Qd.new n 1 (n : Rat) rfl rfl ⟨h, by show 1 < 2 ^ 40; decide⟩ trivial
theorem ok_ratio (F : Fn K mg "_law_ratio" s__law_ratio ps__law_ratio f fd) (d_law_take : Def P w K mg base k "_law_take" ["_law_store_here", "_law_many"] (spTake K l) f1 fd1) (d_law_pick : Def P w K mg base k "_law_pick" ["_law_store_here", "_law_things"] (spPick K l) f2 fd2)
    (d_law_frac : Def P w K mg base k "_law_frac" ["_law_n", "_law_d"] (spFrac K) f3 fd3) : Def P w K mg base (k + 1) "_law_ratio" ps__law_ratio (spRatio K l) f fd := by
  refine ⟨F.F.ok sc__law_ratio (fun vs H Q E h => ?_) (fun cdv A outer s H vs Q E hr h => ?_), F.m, F.F.kp, F.b⟩
  · obtain ⟨_, _, rfl, _⟩ := h
    rfl
  obtain ⟨s, top, rfl, hS, t1, t2, z⟩ := h
  have p40 : (2 : Int) ^ 40 = 1099511627776 := by decide
  have n40 : (2 : Nat) ^ 40 = 1099511627776 := by decide
  have p64 : (2 : Int) ^ 64 = 18446744073709551616 := by decide
  refine ⟨_, (pss_cons (ps_set (i := 2) sc__law_ratio.nd rfl (Or.inl rfl) (pcall d_law_take hr (pa_cons (pv 0) (pa_cons pe_int pa_nil))))
      (pss_cons (ps_if (pt_cmpR op_eq (pv 2) pe_int (nomark _))
        (pss_one (ps_ret (pe_tup (pa_cons pe_int (pa_cons pe_int pa_nil)))))
        pss_nil)
      (pss_cons (ps_if (pt_cmpR op_eq (pv 2) pe_int (nomark _))
        (pss_one (ps_ret (pe_tup (pa_cons (pcall d_law_pick hr (pa_cons (pv 0) (pa_cons (pe_lst (pa_cons pe_int (pa_cons (pe_op op_sub pe_int pe_int) (pa_cons (pv 1) (pa_cons (pe_op op_sub pe_int (pv 1)) pa_nil))))) pa_nil))) (pa_cons pe_int pa_nil)))))
        pss_nil)
      (pss_cons (ps_if (pt_cmpR op_eq (pv 2) pe_int (nomark _))
        (pss_one (ps_ret (pcall d_law_frac hr (pa_cons (pcall d_law_pick hr (pa_cons (pv 0) (pa_cons (pe_lst (pa_cons pe_int (pa_cons (pe_op op_sub pe_int pe_int) (pa_cons (pv 1) (pa_cons (pe_op op_sub pe_int (pv 1)) pa_nil))))) pa_nil))) (pa_cons (pv 1) pa_nil)))))
        pss_nil)
      (pss_cons (ps_if (pt_cmpR op_eq (pv 2) pe_int (nomark _))
        (pss_one (ps_ret (pe_tup (pa_cons (pe_op op_sub (pcall d_law_take hr (pa_cons (pv 0) (pa_cons (pe_op op_add (pe_op op_mul pe_int (pv 1)) pe_int) pa_nil))) (pv 1)) (pa_cons pe_int pa_nil)))))
        pss_nil)
      (pss_one (ps_ret (pcall d_law_frac hr (pa_cons (pe_op op_sub (pcall d_law_take hr (pa_cons (pv 0) (pa_cons (pe_op op_add (pe_op op_mul pe_int (pv 1)) pe_int) pa_nil))) (pv 1)) (pa_cons (pe_op op_add pe_int (pcall d_law_take hr (pa_cons (pv 0) (pa_cons (pv 1) pa_nil)))) pa_nil)))))))))), ?_⟩
  refine ⟨_, rfl, s, 6, rfl, hS, by decide, fun r H1 r0 r1 S1 e1 => ?_⟩
  refine ⟨_, rfl, rfl, _, rfl, ifD (fun _ => ?_) (fun _ => ?_)⟩
  · exact ⟨sz2, fun t ht => z _ _ (Qd.new 0 1 0 rfl rfl (by decide) trivial) (S1.same (same_new ht _)) (e1.trans (Fr.of (same_new ht _)))⟩
  refine ⟨_, rfl, rfl, _, rfl, ifD (fun _ => ?_) (fun _ => ?_)⟩
  · refine ⟨_, rfl, _, _, rfl, rfl, _, rfl, _, rfl, _, _, rfl, rfl, sm4, fun p hp => ?_⟩
    refine ⟨s, p, _, rfl, S1.same (same_new hp _), S1.ne hp, SqL.of upd_same, (by show 0 < 4; decide), (by show 4 < 2 ^ 32; decide), fun v H' hv S' e' => ?_⟩
    obtain ⟨n, rfl, hn⟩ : ∃ n : Int, v = .int n ∧ n.natAbs < 2 ^ 40 := by
      simp only [List.mem_cons, List.mem_nil_iff, or_false] at hv
      rcases hv with rfl | rfl | rfl | rfl
      · exact ⟨_, rfl, by omega⟩
      · exact ⟨_, rfl, by omega⟩
      · exact ⟨_, rfl, by omega⟩
      · exact ⟨_, rfl, by omega⟩
    exact ⟨sz2, fun t ht => z _ _ (int_q n hn) (S'.same (same_new ht _)) (e1.trans ((Fr.of (same_new hp _)).trans (e'.trans (Fr.of (same_new ht _)))))⟩
  refine ⟨_, rfl, rfl, _, rfl, ifD (fun _ => ?_) (fun _ => ?_)⟩
  · refine ⟨_, rfl, _, _, rfl, rfl, _, rfl, _, rfl, _, _, rfl, rfl, sm4, fun p hp => ?_⟩
    refine ⟨s, p, _, rfl, S1.same (same_new hp _), S1.ne hp, SqL.of upd_same, (by show 0 < 4; decide), (by show 4 < 2 ^ 32; decide), fun v H' hv S' e' => ?_⟩
    obtain ⟨n, rfl, hn⟩ : ∃ n : Int, v = .int n ∧ n.natAbs < 2 ^ 40 := by
      simp only [List.mem_cons, List.mem_nil_iff, or_false] at hv
      rcases hv with rfl | rfl | rfl | rfl
      · exact ⟨_, rfl, by omega⟩
      · exact ⟨_, rfl, by omega⟩
      · exact ⟨_, rfl, by omega⟩
      · exact ⟨_, rfl, by omega⟩
    refine ⟨_, rfl, n, top, 40, rfl, by omega, hn, by omega, by decide, fun v H'' e hv => z _ _ ⟨_, hv, sz_mk (by omega) hn (by omega), trivial⟩ (S'.same e) (e1.trans ((Fr.of (same_new hp _)).trans (e'.trans (Fr.of e))))⟩
  have m2 : CMul 2 top := .inl ⟨by decide, by decide⟩
  refine ⟨_, rfl, rfl, _, rfl, ifD (fun _ => ?_) (fun _ => ?_)⟩
  · refine ⟨_, rfl, _, rfl, _, _, rfl, rfl, m2, _, _, rfl, rfl, s, _, rfl, S1, by omega, fun r2 H2 r3 r4 S2 e2 => ⟨_, rfl, _, _, rfl, rfl, ?_⟩⟩
    exact ⟨sz2, fun t ht => z _ _ (int_q _ (by omega)) (S2.same (same_new ht _)) (e1.trans (e2.trans (Fr.of (same_new ht _))))⟩
  refine ⟨_, rfl, _, rfl, _, _, rfl, rfl, m2, _, _, rfl, rfl, s, _, rfl, S1, by omega, fun r2 H2 r3 r4 S2 e2 => ⟨_, rfl, _, _, rfl, rfl, ?_⟩⟩
  refine ⟨_, rfl, _, rfl, s, top, rfl, S2, by omega, fun r5 H3 r6 r7 S3 e3 => ⟨_, _, rfl, rfl, ?_⟩⟩
  exact ⟨_, _, 40, rfl, by omega, by omega, by omega, by decide, fun v H' e hv => z _ _ ⟨_, hv, sz_mk (by omega) (by omega) (by omega), trivial⟩ (S3.same e) (e1.trans (e2.trans (e3.trans (Fr.of e))))⟩
end Vk
namespace Vk
open PySem L2 Vm
variable {l : Addr} {P : Program} {w : World} {K : PySem.W.Frag} {mg : Str → Option Value} {base : Heap} {k : Nat} {f f1 f2 f3 f4 f5 f6 f7 f8 f9 : Addr} {fd fd1 fd2 fd3 fd4 fd5 fd6 fd7 fd8 fd9 : FuncData}
/-- while a list of things is being made at D -/
def Bun {α : Type} (R : Hp → V → α → Prop) (l s D : Addr) (H0 : Hp) (us : List V) (c : List α) (G : Hp) : Prop := Sto l s G ∧ Fr s H0 G ∧ D ≠ s ∧ D ≠ l ∧ H0 D = none ∧ G D = some (.lst us) ∧ All2 (R G) us c
section
variable {α : Type} {R : Hp → V → α → Prop} {s D : Addr} {H0 G G' : Hp} {us : List V} {c : List α}
/-- what R says outlives what becomes of a list -/
def Lasts (R : Hp → V → α → Prop) : Prop := ∀ {s : Addr} {H H' : Hp} {x : V} {p : α}, Fr s H H' → (∃ ys, H s = some (.lst ys)) → R H x p → R H' x p
theorem Bun.fr (h : Bun R l s D H0 us c G) (L : Lasts R) (e : Fr s G G') (S : Sto l s G') : Bun R l s D H0 us c G' := by
  obtain ⟨h1, h2, h3, h4, h5, h6, h7⟩ := h
  exact ⟨S, h2.trans e, h3, h4, h5, e _ _ h6 h3, h7.imp fun _ _ r => L e h1.some r⟩
theorem Bun.same (h : Bun R l s D H0 us c G) (L : Lasts R) (e : Same G G') : Bun R l s D H0 us c G' := h.fr L (Fr.of e) (h.1.same e)
theorem Bun.app {x : V} {p : α} (h : Bun R l s D H0 us c G) (L : Lasts R) (r : R G x p) : Bun R l s D H0 (us ++ [x]) (c ++ [p]) (upd G D (.lst (us ++ [x]))) := by
  obtain ⟨h1, h2, h3, h4, h5, h6, h7⟩ := h
  have fr : Fr D G (upd G D (.lst (us ++ [x]))) := Fr.upd _
  refine ⟨h1.upd h3 h4, fun b o hb hn => ?_, h3, h4, h5, upd_same, (h7.imp fun _ _ r => L fr ⟨_, h6⟩ r).snoc (L fr ⟨_, h6⟩ r)⟩
  rw [upd_ne (ne_of_none hb h5)]
  exact h2 b o hb hn
theorem Bun.start (S : Sto l s G) (e : Fr s H0 G) (hD : G D = none) : Bun R l s D H0 [] [] (upd G D (.lst [])) := by
  have nD := S.ne hD
  have f := same_new hD (.lst [])
  exact ⟨S.same f, e.trans (Fr.of f), nD, S.nl hD, e.free hD nD, upd_same, All2.nil⟩
end
theorem Bun.at {α : Type} {R : Hp → V → α → Prop} {s D : Addr} {H0 G : Hp} {us : List V} {c : List α} (h : Bun R l s D H0 us c G) : G D = some (.lst us) := h.2.2.2.2.2.1
theorem Bun.len {α : Type} {R : Hp → V → α → Prop} {s D : Addr} {H0 G : Hp} {us : List V} {c : List α} (h : Bun R l s D H0 us c G) : us.length = c.length := h.2.2.2.2.2.2.1
theorem Bun.all {α : Type} {R : Hp → V → α → Prop} {s D : Addr} {H0 G : Hp} {us : List V} {c : List α} (h : Bun R l s D H0 us c G) : All2 (R G) us c := h.2.2.2.2.2.2
theorem lastsP : Lasts (Pq K) := fun e hs h => h.fr e hs
theorem lastsQ : Lasts (Rq K) := fun e hs h => h.fr e hs
theorem Cok.snoc {c : List Pc} {x : Pc} (h : Cok c) (hx : ∀ p ∈ c, p.s < x.s) (r : 0 < x.r) : Cok (c ++ [x]) := by
  refine ⟨fun p hp => ?_, fun i p q e1 e2 => ?_⟩
  · rcases List.mem_append.mp hp with hp | hp
    · exact h.1 p hp
    · rw [List.mem_singleton.mp hp]
      exact r
  · by_cases hi : i + 1 < c.length
    · rw [List.getElem?_append_left (by omega)] at e1
      rw [List.getElem?_append_left hi] at e2
      exact h.2 i p q e1 e2
    · have hl := (List.getElem?_eq_some_iff.mp e2).1
      rw [List.length_append, List.length_singleton] at hl
      rw [List.getElem?_append_left (by omega)] at e1
      rw [List.getElem?_append_right (by omega)] at e2
      have e0 : i + 1 - c.length = 0 := by omega
      rw [e0] at e2
      cases e2
      exact hx p (List.mem_of_getElem? e1)
theorem Cz.snoc {i j m : Nat} {c : List Pc} {x : Pc} (h : Cz i j m c) (z : Sz i x.s ∧ Sz j x.v ∧ Sz m x.r) : Cz i j m (c ++ [x]) := fun p hp => by
  rcases List.mem_append.mp hp with hp | hp
  · exact h p hp
  · rw [List.mem_singleton.mp hp]
    exact z
theorem lt_add_pos {a b : Rat} (h : 0 < b) : a < a + b := by grind
abbrev s__law_course : Stmt := top 70
abbrev N__law_course : List Str := ["_law_store_here", "_law_many", "_law_fall", "_law_when_here", "_law_told_here", "_law_pace_here", "_law_course_here", "_law_k", "_law_step", "_law_sort"]
theorem sc__law_course : FnScope N__law_course ["_law_store_here", "_law_many", "_law_fall"] (defScope s__law_course) := ⟨rfl, rfl, rfl, by decide +kernel, rfl, by decide +kernel, by decide +kernel⟩
abbrev ps__law_course : List Str := ["_law_store_here", "_law_many", "_law_fall"]
def spCourse (K : PySem.W.Frag) (l : Addr) : Sp := fun vs H Q _ => ∃ (s : Addr) (many : Nat) (fall : Bool), vs = [.ref s, .int many, .bl fall] ∧ Sto l s H ∧ many ≤ 40 ∧
  ∀ D us c H', Bun (Pq K) l s D H us c H' → c.length = many → Cok c → Cz 245 925 5 c → Q (.ref D) H'
theorem ok_course (T : Bn mg) (F : Fn K mg "_law_course" s__law_course ps__law_course f fd) (d_law_part : Def P w K mg base k "_law_part" ["_law_store_here"] (spDraw K l 5 anyQ) f1 fd1) (d_law_pace : Def P w K mg base k "_law_pace" ["_law_store_here"] (spDraw K l 5 posQ) f2 fd2)
    (d_law_above : Def P w K mg base k "_law_above" ["_law_store_here"] (spDraw K l 5 posQ) f3 fd3) (d_law_plus : Def P w K mg base k "_law_plus" ["_law_a", "_law_b"] (spOp2 K (· + ·)) f4 fd4) (d_law_times : Def P w K mg base k "_law_times" ["_law_a", "_law_b"] (spOp2 K (· * ·)) f5 fd5)
    (d_law_minus : Def P w K mg base k "_law_minus" ["_law_a", "_law_b"] (spOp2 K (· - ·)) f6 fd6) (d_law_take : Def P w K mg base k "_law_take" ["_law_store_here", "_law_many"] (spTake K l) f7 fd7) :
    Def P w K mg base (k + 1) "_law_course" ps__law_course (spCourse K l) f fd := by
  refine ⟨F.F.ok sc__law_course (fun vs H Q E h => ?_) (fun cdv A outer s H vs Q E hr h => ?_), F.m, F.F.kp, F.b⟩
  · obtain ⟨_, _, _, rfl, _⟩ := h
    rfl
  obtain ⟨s, many, fall, rfl, hS, hm, z⟩ := h
  refine ⟨_, (pss_cons (ps_set (i := 3) sc__law_course.nd rfl (Or.inl rfl) (pcall d_law_part hr (pa_cons (pv 0) pa_nil)))
      (pss_cons (ps_set (i := 4) sc__law_course.nd rfl (Or.inl rfl) (pcall d_law_part hr (pa_cons (pv 0) pa_nil)))
      (pss_cons (ps_set (i := 5) sc__law_course.nd rfl (Or.inl rfl) (pcall d_law_pace hr (pa_cons (pv 0) pa_nil)))
      (pss_cons (ps_set (i := 6) sc__law_course.nd rfl (Or.inl rfl) (pe_lst pa_nil))
      (pss_cons (ps_for PassesOwn.never rfl (pi_range1 (by rfl) T.range_ (pa_cons (pv 1) pa_nil)) (pg_name (i := 7) sc__law_course.nd rfl (Or.inl rfl))
        (pss_cons (ps_expr (pe_bm PySem.F.plainAttrs_list PySem.F.slot_list_append PySem.F.type_list_append mt_append (pv 6) (pa_cons (pe_tup (pa_cons (pv 3) (pa_cons (pv 4) (pa_cons (pv 5) pa_nil)))) pa_nil)))
        (pss_cons (ps_set (i := 8) sc__law_course.nd rfl (Or.inl rfl) (pcall d_law_above hr (pa_cons (pv 0) pa_nil)))
        (pss_cons (ps_set (i := 3) sc__law_course.nd rfl (Or.inl rfl) (pcall d_law_plus hr (pa_cons (pv 3) (pa_cons (pv 8) pa_nil))))
        (pss_cons (ps_set (i := 4) sc__law_course.nd rfl (Or.inl rfl) (pcall d_law_plus hr (pa_cons (pv 4) (pa_cons (pcall d_law_times hr (pa_cons (pv 5) (pa_cons (pv 8) pa_nil))) pa_nil))))
        (pss_cons (ps_set (i := 9) sc__law_course.nd rfl (Or.inl rfl) (pcall d_law_take hr (pa_cons (pv 0) (pa_cons pe_int pa_nil))))
        (pss_cons (ps_if (PW.pt (pw_or (pt_cmpR op_eq (pv 9) pe_int (nomark _)) (pw_or1 (pt_cmpR op_eq (pv 9) pe_int (nomark _)))))
          (pss_one (ps_set (i := 4) sc__law_course.nd rfl (Or.inl rfl) (pcall d_law_plus hr (pa_cons (pv 4) (pa_cons (pcall d_law_above hr (pa_cons (pv 0) pa_nil)) pa_nil)))))
          pss_nil)
        (pss_cons (ps_if (PW.pt (pw_and (pt_cmpR op_eq (pv 9) pe_int (nomark _)) (pw_and1 (pt_val (pv 2)))))
          (pss_one (ps_set (i := 4) sc__law_course.nd rfl (Or.inl rfl) (pcall d_law_minus hr (pa_cons (pv 4) (pa_cons (pcall d_law_above hr (pa_cons (pv 0) pa_nil)) pa_nil)))))
          pss_nil)
        (pss_one (ps_if (PW.pt (pw_and (pt_cmpR op_ne (pv 9) pe_int (nomark _)) (pw_and1 (pt_cmpR op_ne (pv 9) pe_int (nomark _)))))
          (pss_one (ps_set (i := 5) sc__law_course.nd rfl (Or.inl rfl) (pcall d_law_pace hr (pa_cons (pv 0) pa_nil))))
          pss_nil))))))))))
      (pss_one (ps_ret (pv 6)))))))), ?_⟩
  refine ⟨_, rfl, s, rfl, hS, fun wv G1 qw S1 e1 => ?_⟩
  refine ⟨_, rfl, s, rfl, S1, fun tv G2 qt S2 e2 => ?_⟩
  refine ⟨_, rfl, s, rfl, S2, fun pv G3 qp S3 e3 => ?_⟩
  refine ⟨Nat.zero_le _, fun D hD => ?_⟩
  have p62 : (2 : Int) ^ 62 = 4611686018427387904 := by decide
  have B0 : Bun (Pq K) l s D H [] [] (upd G3 D (.lst [])) := Bun.start S3 (e1.trans (e2.trans e3)) hD
  have s4 := same_new hD (.lst [])
  obtain ⟨qw0, rw0, zw0, _⟩ := ((qw.fr e2 S1).fr e3 S2).same s4
  obtain ⟨qt0, rt0, zt0, _⟩ := (qt.fr e3 S2).same s4
  obtain ⟨qp0, rp0, zp0, pp0⟩ := qp.same s4
  refine ⟨_, rfl, _, rfl, by omega, by omega, for_range (n := ((many : Nat) : Int).toNat) (fun i σ G => ∃ (us : List V) (c : List Pc) (wv tv pv : V) (k1 k2 k3 : Option V) (qw qt qp : Rat), σ = [some (.ref s), some (.int many), some (.bl fall), some wv, some tv, some pv, some (.ref D), k1, k2, k3] ∧
      Bun (Pq K) l s D H us c G ∧ Rq K G wv qw ∧ Rq K G tv qt ∧ Rq K G pv qp ∧ Sz (5 + 6 * i) qw ∧ Sz (5 + 23 * i) qt ∧ Sz 5 qp ∧ 0 < qp ∧ c.length = i ∧ (∀ p ∈ c, p.s < qw) ∧ Cok c ∧ Cz 245 925 5 c)
    ⟨[], [], _, _, _, _, _, _, qw0, qt0, qp0, rfl, B0, rw0, rt0, rp0, zw0, zt0, zp0, pp0, rfl, nofun, ⟨nofun, fun i p q h => by simp at h⟩, nofun⟩ ?_ ?_⟩
  · rintro i σ G hi ⟨us, c, wv, tv, pv, k1, k2, k3, qw, qto, qp, rfl, B, rw1, rt1, rp1, zw, zt, zp, pp, hc, hlt, ok, cz⟩
    have hi' : i < 40 := by omega
    have hul : us.length ≤ 1000 := by have := B.len; omega
    -- the piece
    refine ⟨_, rfl, .inl ⟨rfl, _, SqL.of B.at⟩, _, rfl, _, rfl, _, rfl, sm3, fun T hT => ?_⟩
    have t1 := same_new hT (.tup [wv, tv, pv])
    have B1 := B.same lastsP t1
    refine ⟨D, _, _, rfl, rfl, B1.at, le1000 hul, ?_⟩
    have B2 := B1.app lastsP (x := .ref T) (p := ⟨qw, qto, qp⟩) ⟨T, wv, tv, pv, rfl, SqT.of upd_same, rw1.same t1, rt1.same t1, rp1.same t1⟩
    have f2 : Fr D (upd G T (.tup [wv, tv, pv])) (upd (upd G T (.tup [wv, tv, pv])) D (.lst (us ++ [.ref T]))) := Fr.upd _
    have rw2 := (rw1.same t1).fr f2 ⟨_, B1.at⟩
    have rt2 := (rt1.same t1).fr f2 ⟨_, B1.at⟩
    have rp2 := (rp1.same t1).fr f2 ⟨_, B1.at⟩
    -- the step; when; told
    refine ⟨_, rfl, s, rfl, B2.1, fun sv G3 qs0 S3 e3 => ?_⟩
    have B3 := B2.fr lastsP e3 S3
    obtain ⟨qs, rs, zs, ps⟩ := qs0
    have ps : 0 < qs := ps
    have rw3 := rw2.fr e3 B2.1.some
    have rt3 := rt2.fr e3 B2.1.some
    have rp3 := rp2.fr e3 B2.1.some
    refine ⟨_, rfl, _, rfl, _, _, qw, qs, _, 5, rfl, rw3, rs, zw, zs, by omega, fun wv' G4 e4 rw4 => ?_⟩
    refine ⟨_, rfl, _, rfl, _, rfl, _, _, qp, qs, 5, 5, rfl, rp3.same e4, rs.same e4, zp, zs, by omega, fun xv G5 e5 rx => ?_⟩
    refine ⟨_, _, qto, qp * qs, _, 10, rfl, rt3.same (e4.trans e5), rx, zt, zp.mul zs, by omega, fun tv' G6 e6 rt6 => ?_⟩
    have B6 := B3.same lastsP (e4.trans (e5.trans e6))
    refine ⟨_, rfl, s, 6, rfl, B6.1, by decide, fun so G7 so0 so1 S7 e7 => ?_⟩
    have B7 := B6.fr lastsP e7 S7
    have rw7 := (rw4.same (e5.trans e6)).fr e7 B6.1.some
    have rt7 := rt6.fr e7 B6.1.some
    have rp7 := (rp3.same (e4.trans (e5.trans e6))).fr e7 B6.1.some
    have zw7 : Sz (5 + 6 * (i + 1)) (qw + qs) := (zw.add zs).mono (by omega)
    have zt7 : Sz (16 + 23 * i) (qto + qp * qs) := (zt.add (zp.mul zs)).mono (by omega)
    have lw : qw < qw + qs := lt_add_pos ps
    dsimp only [gName]
    refine cut (fun σ' G' => ∃ (tv : V) (qt : Rat), σ' = [some (.ref s), some (.int many), some (.bl fall), some wv', some tv, some pv, some (.ref D), some (.int (0 + (i : Int))), some sv, some (.int so)] ∧ Bun (Pq K) l s D H (us ++ [.ref T]) (c ++ [⟨qw, qto, qp⟩]) G' ∧ Rq K G' wv' (qw + qs) ∧ Rq K G' tv qt ∧ Rq K G' pv qp ∧ Sz (22 + 23 * i) qt) ?_ ?_
    · rintro σ' G8 ⟨tv8, qt8, rfl, B8, rw8, rt8, rp8, zt8⟩
      refine cut (fun σ' G' => ∃ (tv : V) (qt : Rat), σ' = [some (.ref s), some (.int many), some (.bl fall), some wv', some tv, some pv, some (.ref D), some (.int (0 + (i : Int))), some sv, some (.int so)] ∧ Bun (Pq K) l s D H (us ++ [.ref T]) (c ++ [⟨qw, qto, qp⟩]) G' ∧ Rq K G' wv' (qw + qs) ∧ Rq K G' tv qt ∧ Rq K G' pv qp ∧ Sz (28 + 23 * i) qt) ?_ ?_
      · rintro σ' G9 ⟨tv9, qt9, rfl, B9, rw9, rt9, rp9, zt9⟩
        -- the last if
        have okc : Cok (c ++ [⟨qw, qto, qp⟩]) := ok.snoc hlt pp
        have czc : Cz 245 925 5 (c ++ [⟨qw, qto, qp⟩]) := cz.snoc ⟨zw.mono (by omega), zt.mono (by omega), zp⟩
        have ltc : ∀ p ∈ c ++ [(⟨qw, qto, qp⟩ : Pc)], p.s < qw + qs := fun p hp => by
          rcases List.mem_append.mp hp with hp | hp
          · have h1 := hlt p hp; grind
          · rw [List.mem_singleton.mp hp]
            exact lw
        have lenc : (c ++ [(⟨qw, qto, qp⟩ : Pc)]).length = i + 1 := by rw [List.length_append, hc]; rfl
        have stay : ∃ (us' : List V) (c : List Pc) (wv tv pv' : V) (k1 k2 k3 : Option V) (qw qt qp : Rat), [some (.ref s), some (.int many), some (.bl fall), some wv', some tv9, some pv, some (.ref D), some (.int (0 + (i : Int))), some sv, some (.int so)] = [some (.ref s), some (.int many), some (.bl fall), some wv, some tv, some pv', some (.ref D), k1, k2, k3] ∧
            Bun (Pq K) l s D H us' c G9 ∧ Rq K G9 wv qw ∧ Rq K G9 tv qt ∧ Rq K G9 pv' qp ∧ Sz (5 + 6 * (i + 1)) qw ∧ Sz (5 + 23 * (i + 1)) qt ∧ Sz 5 qp ∧ 0 < qp ∧ c.length = i + 1 ∧ (∀ p ∈ c, p.s < qw) ∧ Cok c ∧ Cz 245 925 5 c :=
          ⟨_, _, _, _, _, _, _, _, _, _, _, rfl, B9, rw9, rt9, rp9, zw7, zt9.mono (by omega), zp, pp, lenc, ltc, okc, czc⟩
        refine ⟨_, rfl, rfl, _, rfl, ?_⟩
        by_cases g1 : so = 0
        · refine ifF (by rw [dT (congrArg V.int g1)]; rfl) (ifF rfl stay)
        refine ifT (by rw [dF fun e => g1 (V.int.inj e)]; rfl) ⟨_, rfl, rfl, _, rfl, ?_⟩
        by_cases g2 : so = 4
        · exact ifF (by rw [dT (congrArg V.int g2)]; rfl) stay
        refine ifT (by rw [dF fun e => g2 (V.int.inj e)]; rfl) ⟨_, rfl, s, rfl, B9.1, fun pv' G10 qn S10 e10 => ?_⟩
        obtain ⟨qn, rn, zn, pn⟩ := qn
        exact ⟨_, _, _, _, _, _, _, _, _, _, _, rfl, B9.fr lastsP e10 S10, rw9.fr e10 B9.1.some, rt9.fr e10 B9.1.some, rn, zw7, zt9.mono (by omega), zn, pn, lenc, ltc, okc, czc⟩
      · intro key
        refine ⟨_, rfl, rfl, _, rfl, ?_⟩
        have skip := key _ _ ⟨tv8, qt8, rfl, B8, rw8, rt8, rp8, zt8.mono (by omega)⟩
        by_cases g1 : so = 4
        · refine ifT (dT (congrArg V.int g1)) ⟨_, rfl, _, rfl, ?_⟩
          cases fall with
          | false => exact ifF rfl skip
          | true =>
            refine ifT rfl ⟨_, rfl, _, rfl, s, rfl, B8.1, fun av G9 qa S9 e9 => ?_⟩
            obtain ⟨qa, ra, za, _⟩ := qa
            have B9 := B8.fr lastsP e9 S9
            refine ⟨_, _, qt8, qa, _, 5, rfl, rt8.fr e9 B8.1.some, ra, zt8, za, by omega, fun tv9 G10 e10 rt10 => ?_⟩
            exact key _ _ ⟨tv9, _, rfl, B9.same lastsP e10, (rw8.fr e9 B8.1.some).same e10, rt10, (rp8.fr e9 B8.1.some).same e10, (zt8.sub za).mono (by omega)⟩
        · exact ifF (dF fun e => g1 (V.int.inj e)) (ifF rfl skip)
    · intro key
      have skip := key _ _ ⟨tv', _, rfl, B7, rw7, rt7, rp7, zt7.mono (by omega)⟩
      have doit : ∀ (Qx : Prop), True → Qx → Qx := fun _ _ h => h
      refine ⟨_, rfl, rfl, _, rfl, ?_⟩
      by_cases g1 : so = 2
      · refine ifT (dT (congrArg V.int g1)) (ifT rfl ⟨_, rfl, _, rfl, s, rfl, B7.1, fun av G8 qa S8 e8 => ?_⟩)
        obtain ⟨qa, ra, za, _⟩ := qa
        refine ⟨_, _, _, qa, _, 5, rfl, rt7.fr e8 B7.1.some, ra, zt7, za, by omega, fun tv8 G9 e9 rt9 => ?_⟩
        exact key _ _ ⟨tv8, _, rfl, (B7.fr lastsP e8 S8).same lastsP e9, (rw7.fr e8 B7.1.some).same e9, rt9, (rp7.fr e8 B7.1.some).same e9, (zt7.add za).mono (by omega)⟩
      refine ifF (dF fun e => g1 (V.int.inj e)) ⟨_, rfl, rfl, _, rfl, ?_⟩
      by_cases g2 : so = 3
      · refine ifT (dT (congrArg V.int g2)) ⟨_, rfl, _, rfl, s, rfl, B7.1, fun av G8 qa S8 e8 => ?_⟩
        obtain ⟨qa, ra, za, _⟩ := qa
        refine ⟨_, _, _, qa, _, 5, rfl, rt7.fr e8 B7.1.some, ra, zt7, za, by omega, fun tv8 G9 e9 rt9 => ?_⟩
        exact key _ _ ⟨tv8, _, rfl, (B7.fr lastsP e8 S8).same lastsP e9, (rw7.fr e8 B7.1.some).same e9, rt9, (rp7.fr e8 B7.1.some).same e9, (zt7.add za).mono (by omega)⟩
      · exact ifF (dF fun e => g2 (V.int.inj e)) skip
  · rintro σ G ⟨us, c, wv, tv, pv, k1, k2, k3, qw, qt, qp, rfl, B, rw1, rt1, rp1, zw, zt, zp, pp, hc, hlt, ok, cz⟩
    exact ⟨_, rfl, z D us c G B (by omega) ok cz⟩
end Vk
namespace Vk
open PySem L2 Vm
variable {l : Addr} {P : Program} {w : World} {K : PySem.W.Frag} {mg : Str → Option Value} {base : Heap} {k : Nat} {f f1 f2 f3 f4 f5 f6 f7 f8 f9 : Addr} {fd fd1 fd2 fd3 fd4 fd5 fd6 fd7 fd8 fd9 : FuncData}
theorem All2.append {α : Type} {R : V → α → Prop} {xs ys : List V} {c d : List α} (h : All2 R xs c) (g : All2 R ys d) : All2 R (xs ++ ys) (c ++ d) := by
  refine ⟨by rw [List.length_append, List.length_append, h.1, g.1], fun i x p a b => ?_⟩
  have hl := h.1
  by_cases hi : i < xs.length
  · rw [List.getElem?_append_left hi] at a
    rw [List.getElem?_append_left (by omega)] at b
    exact h.2 i x p a b
  · rw [List.getElem?_append_right (by omega)] at a
    rw [List.getElem?_append_right (by omega), ← hl] at b
    exact g.2 _ x p a b
theorem All2.take {α : Type} {R : V → α → Prop} {xs : List V} {c : List α} (h : All2 R xs c) (m : Nat) : All2 R (xs.take m) (c.take m) := by
  refine ⟨by rw [List.length_take, List.length_take, h.1], fun i x p a b => ?_⟩
  rw [List.getElem?_take] at a b
  split at a
  · rename_i hi
    rw [if_pos hi] at b
    exact h.2 i x p a b
  · cases a
theorem All2.drop {α : Type} {R : V → α → Prop} {xs : List V} {c : List α} (h : All2 R xs c) (m : Nat) : All2 R (xs.drop m) (c.drop m) := by
  refine ⟨by rw [List.length_drop, List.length_drop, h.1], fun i x p a b => ?_⟩
  rw [List.getElem?_drop] at a b
  exact h.2 _ x p a b
theorem All2.one {α : Type} {R : V → α → Prop} {x : V} {p : α} (r : R x p) : All2 R [x] [p] := by
  have h : All2 R ([] ++ [x]) ([] ++ [p]) := All2.nil.snoc r
  exact h
def Asc (os : List Rat) : Prop := os.Pairwise (· < ·)
theorem asc_at {os : List Rat} (h : Asc os) {i j : Nat} {a b : Rat} (ha : os[i]? = some a) (hb : os[j]? = some b) (hij : i < j) : a < b := by
  obtain ⟨h1, rfl⟩ := List.getElem?_eq_some_iff.mp ha
  obtain ⟨h2, rfl⟩ := List.getElem?_eq_some_iff.mp hb
  exact List.pairwise_iff_getElem.mp h i j h1 h2 hij
/-- the place of one among os -/
def Spot (os : List Rat) (one : Rat) (j m : Nat) : Prop := m ≤ j ∧ ∀ (t : Nat) o, t < j → os[t]? = some o → (o < one ↔ t < m)
theorem rlt_trans {a b c : Rat} (h : a < b) (g : b < c) : a < c := by grind
theorem spot_next {os : List Rat} {one o : Rat} {j m : Nat} (ha : Asc os) (h : Spot os one j m) (ho : os[j]? = some o) : Spot os one (j + 1) (if o < one then j + 1 else m) := by
  split
  · rename_i g
    refine ⟨Nat.le_refl _, fun t x ht hx => ⟨fun _ => ht, fun _ => ?_⟩⟩
    by_cases e : t = j
    · subst e
      rw [ho] at hx
      cases hx
      exact g
    · exact rlt_trans (asc_at ha hx ho (by omega)) g
  · rename_i g
    refine ⟨by have := h.1; omega, fun t x ht hx => ?_⟩
    by_cases e : t = j
    · subst e
      rw [ho] at hx
      cases hx
      exact ⟨fun z => absurd z g, fun z => absurd z (by have := h.1; omega)⟩
    · exact h.2 t x (by omega) hx
theorem asc_insert {os : List Rat} {one : Rat} {m : Nat} (ha : Asc os) (h : Spot os one os.length m) (hn : os[m]? ≠ some one) : Asc (os.take m ++ [one] ++ os.drop m) := by
  have hlt : ∀ o ∈ os.take m, o < one := fun o ho => by
    obtain ⟨t, ht, rfl⟩ := List.mem_iff_getElem.mp ho
    rw [List.length_take] at ht
    have e : os[t]? = some (os.take m)[t] := by
      rw [List.getElem_take]
      exact List.getElem?_eq_getElem (by omega)
    exact (h.2 t _ (by omega) e).mpr (by omega)
  have hgt : ∀ o ∈ os.drop m, one < o := fun o ho => by
    obtain ⟨t, ht, rfl⟩ := List.mem_iff_getElem.mp ho
    rw [List.length_drop] at ht
    have e : os[m + t]? = some (os.drop m)[t] := by
      rw [List.getElem_drop]
      exact List.getElem?_eq_getElem (by omega)
    have h1 : ¬ (os.drop m)[t] < one := fun z => absurd ((h.2 (m + t) _ (by omega) e).mp z) (by omega)
    by_cases t0 : t = 0
    · have h2 : (os.drop m)[t] ≠ one := fun z => hn (by rw [← z, ← e, t0, Nat.add_zero])
      grind
    · have hm : m < os.length := by omega
      have h3 := asc_at ha (List.getElem?_eq_getElem hm) e (by omega)
      have h4 : ¬ os[m] < one := fun z => absurd ((h.2 m _ hm (List.getElem?_eq_getElem hm)).mp z) (by omega)
      grind
  unfold Asc
  rw [List.append_assoc, List.pairwise_append]
  refine ⟨ha.sublist (List.take_sublist _ _), ?_, fun a h1 b h2 => ?_⟩
  · rw [List.singleton_append, List.pairwise_cons]
    exact ⟨hgt, ha.sublist (List.drop_sublist _ _)⟩
  · rw [List.singleton_append] at h2
    rcases List.mem_cons.mp h2 with rfl | h2
    · exact hlt a h1
    · exact rlt_trans (hlt a h1) (hgt b h2)
def spOrdered (K : PySem.W.Frag) : Sp := fun vs H Q _ => ∃ (a : Addr) (xs : List V) (qs : List Rat), vs = [.ref a] ∧ SqL K H a xs ∧ All2 (Rq K H) xs qs ∧ (∀ q ∈ qs, Sz 40 q) ∧ qs.length ≤ 900 ∧
  ∀ D us os H', Same H H' → H D = none → H' D = some (.lst us) → All2 (Rq K H') us os → Asc os → (∀ o ∈ os, o ∈ qs) → os.length ≤ qs.length → (qs ≠ [] → os ≠ []) → Q (.ref D) H'
end Vk
namespace Vk
open PySem PySem.Spec PyProof.Rows L2
section
variable {X : Cx}
/-- xs.count(y), data of any depth -/
def rCountD (K : PySem.W.Frag) : V → List V → Hp → VK → Prop := fun x xs H Q => ∃ (a : Addr) (y : V) (d : PyData) (ds : List PyData), x = V.ref a ∧ xs = [y] ∧ Dp K H (V.ref a) (.list ds) ∧ Dp K H y d ∧
  SeqAt.shaped (.list ds) = true ∧ SeqAt.shaped d = true ∧ Q (.int ((ds.countP fun z => PyData.eqv z d : Nat) : Int)) H
theorem mt_countD (hu : X.A.units + 65 < cLine) : MtR X "list.count" (rCountD X.K) := by
  intro pins s σ H x xs v us Q I rx rxs h
  obtain ⟨a, y, d, ds, rfl, rfl, hl, hy, sl, sd, q⟩ := h
  cases rx
  cases rxs with
  | cons ry rt =>
    rename_i uy ut
    cases rt
    obtain ⟨bs, r1⟩ := Dp.reads I d y uy hy ry
    have hxs : PyData.canLayAll0 ds = true := SeqAt.canLay_of_shaped sl
    have hroom : X.A.units + 1 + min (PyData.depthAll ds) d.depth < cLine := room_in_shaped sd hu
    cases hl with
    | lst hs ha =>
      obtain ⟨its, rv, ⟨⟨cls, dd, data, sls⟩, n, ho, hc, hdn, hdt⟩, hlen⟩ := I.list hs
      simp only at hc hdt
      subst hc hdt
      obtain ⟨as, h4⟩ := Dp.readsAll I ds _ its ha rv
      have hmap : its.map (SeqAt.readOf s.heap) = ds := SeqAt.readsAll_map ds its as hxs h4
      refine call_meets PySem.F.slot_list_count ⟨_, ho, rfl⟩ PySem.F.entry_list_count (PySem.F.args_list_count_2 _ _)
        (SeqAt.list_countAt a its.toArray n dd sls uy (fun u => PyData.eqv (SeqAt.readOf s.heap u) d)) ⟨ho, SeqAt.items_eqAt (vs := its.toArray) (show ReadsAll s.heap its.toArray.toList ds as from h4) r1 hxs (SeqAt.canLay_of_shaped sd) hroom, ?_⟩
      refine ⟨.int ((ds.countP fun z => PyData.eqv z d : Nat) : Int), H, I.tok _, ⟨s.toks, ?_⟩, q⟩
      have e : (its.toArray.toList.countP fun u => PyData.eqv (SeqAt.readOf s.heap u) d) = ds.countP fun z => PyData.eqv z d := by
        rw [← hmap, List.countP_map]
        rfl
      show Value.int ((its.toArray.toList.countP (fun u => PyData.eqv (SeqAt.readOf s.heap u) d) : Nat) : Int) s.toks = _
      rw [e]
end
end Vk
namespace Vk
open PySem L2 Vm
variable {l : Addr} {P : Program} {w : World} {K : PySem.W.Frag} {mg : Str → Option Value} {base : Heap} {k : Nat} {f f1 f2 f3 f4 f5 f6 f7 f8 f9 : Addr} {fd fd1 fd2 fd3 fd4 fd5 fd6 fd7 fd8 fd9 : FuncData}
theorem sm1 : 1 ≤ sizeLine := by decide
theorem Bun.made {α : Type} {R : Hp → V → α → Prop} {s D : Addr} {H0 G : Hp} {us : List V} {c : List α} (S : Sto l s G) (e : Fr s H0 G) (hD : G D = none) (h : All2 (R (upd G D (.lst us))) us c) : Bun R l s D H0 us c (upd G D (.lst us)) := by
  have nD := S.ne hD
  have f := same_new hD (.lst us)
  exact ⟨S.same f, e.trans (Fr.of f), nD, S.nl hD, e.free hD nD, upd_same, h⟩
/-- a tracked list with a course -/
def Ct (K : PySem.W.Frag) (H : Hp) (a : Addr) (xs : List V) (c : List Pc) : Prop := H a = some (.lst xs) ∧ All2 (Pq K H) xs c
theorem Ct.cq {H : Hp} {a : Addr} {xs : List V} {c : List Pc} (h : Ct K H a xs c) : Cq K H a c := ⟨xs, SqL.of h.1, h.2⟩
theorem Ct.same {H H' : Hp} {a : Addr} {xs : List V} {c : List Pc} (e : Same H H') (h : Ct K H a xs c) : Ct K H' a xs c := ⟨e _ _ h.1, h.2.imp fun _ _ h => h.same e⟩
theorem Ct.fr {s : Addr} {H H' : Hp} {a : Addr} {xs : List V} {c : List Pc} (e : Fr s H H') (hs : ∃ ys, H s = some (.lst ys)) (n : a ≠ s) (h : Ct K H a xs c) : Ct K H' a xs c := ⟨e _ _ h.1 n, h.2.imp fun _ _ h => h.fr e hs⟩
theorem all2_3 {α : Type} {R : V → α → Prop} {x y z : V} {a b c : α} (h1 : R x a) (h2 : R y b) (h3 : R z c) : All2 R [x, y, z] [a, b, c] := (((All2.nil.snoc h1).snoc h2).snoc h3 : All2 R ([] ++ [x] ++ [y] ++ [z]) ([] ++ [a] ++ [b] ++ [c]))
def spValues (K : PySem.W.Frag) (l : Addr) : Sp := fun vs H Q _ => ∃ (s a : Addr) (xs : List V) (c : List Pc), vs = [.ref s, .ref a] ∧ Sto l s H ∧ a ≠ s ∧ a ≠ l ∧ Ct K H a xs c ∧ Cz 245 925 5 c ∧ 1 ≤ c.length ∧ c.length ≤ 1000 ∧
  ∀ D us qs H', Bun (Rq K) l s D H us qs H' → (∀ q ∈ qs, Sz 2350 q) → 0 < qs.length → qs.length ≤ 100 → Q (.ref D) H'
end Vk
namespace Vk
open PySem L2 Vm
variable {l : Addr} {P : Program} {w : World} {K : PySem.W.Frag} {mg : Str → Option Value} {base : Heap} {k : Nat} {f f1 f2 f3 f4 f5 f6 f7 f8 f9 f10 f11 f12 f13 f14 : Addr} {fd fd1 fd2 fd3 fd4 fd5 fd6 fd7 fd8 fd9 fd10 fd11 fd12 fd13 fd14 : FuncData}
theorem hu65 {k : Nat} {A : Around} (hr : Room k A) : A.units + 65 < cLine := by have := hr.un; omega
/-- a promise with something left open -/
def exS {α : Type} (sp : α → Sp) : Sp := fun vs H Q E => ∃ x, sp x vs H Q E
theorem Def.ex {α : Type} [Inhabited α] {x : Str} {ps : List Str} {sp : α → Sp} (h : ∀ a, Def P w K mg base k x ps (sp a) f fd) : Def P w K mg base k x ps (exS sp) f fd :=
  ⟨⟨fun vs H Q E ⟨a, z⟩ => (h a).ok.len vs H Q E z, fun A outer s H args us vs Q E hr he hb hv ⟨a, z⟩ => (h a).ok.run A outer s H args us vs Q E hr he hb hv z⟩, (h default).m, (h default).kp, (h default).b⟩
theorem ixN_last {n : Nat} (h : 0 < n) {i : Int} (e : i = (n : Int) - 1) : ixN n i = some (n - 1) := by
  subst e
  unfold ixN
  rw [if_pos (by omega), if_pos (by omega)]
  congr 1
  omega
/-! ### data -/
def dpc (p : Pc) : PyData := .tuple [dq p.s, dq p.v, dq p.r]
theorem Pq.dp {H : Hp} {v : V} {p : Pc} (h : Pq K H v p) : Dp K H v (dpc p) := by
  obtain ⟨a, xs, xv, xr, rfl, h, h1, h2, h3⟩ := h
  exact .tup h (.cons h1.dp (.cons h2.dp (.cons h3.dp .nil)))
theorem dpall_of {α : Type} {R : V → α → Prop} {d : α → PyData} {H : Hp} (g : ∀ v p, R v p → Dp K H v (d p)) : ∀ {xs : List V} {c : List α}, All2 R xs c → DpAll K H xs (c.map d)
  | [], [], _ => .nil
  | [], _ :: _, h => absurd h.1 (by simp)
  | _ :: _, [], h => absurd h.1 (by simp)
  | x :: xs, p :: c, h => .cons (g _ _ (h.2 0 x p rfl rfl)) (dpall_of g ⟨by have := h.1; simp at this; exact this, fun i x p a b => h.2 (i + 1) x p a b⟩)
theorem tree_dpc (n : Nat) (p : Pc) : Tree (n + 2) (dpc p) := .tup (by show 3 ≤ 1000; decide) fun d h => by
  simp only [List.mem_cons, List.mem_nil_iff, or_false] at h
  rcases h with rfl | rfl | rfl <;> exact tree_dq _ _
theorem depth_dqs : ∀ T : List Rat, PyData.depthAll (T.map dq) ≤ 2
  | [] => by simp [PyData.depthAll]
  | t :: T => by
    have := depth_dqs T
    simp only [List.map_cons, PyData.depthAll]
    have : (dq t).depth ≤ 2 := by show PyData.depth (.tuple [.int t.num, .int (t.den : Int)]) ≤ 2; simp [PyData.depth, PyData.depthAll]
    omega
theorem lay_dqs : ∀ T : List Rat, PyData.canLayAll0 (T.map dq) = true
  | [] => rfl
  | t :: T => by
    have := lay_dqs T
    show (PyData.canLay0 (dq t) && PyData.canLayAll0 (T.map dq)) = true
    rw [this]
    rfl
theorem sh_dqs (T : List Rat) : SeqAt.shaped (.list (T.map dq)) = true := by
  have h1 := depth_dqs T
  have h2 := lay_dqs T
  show (PyData.canLay0 (.list (T.map dq)) && decide (PyData.depth (.list (T.map dq)) ≤ 64)) = true
  have h3 : PyData.canLay0 (.list (T.map dq)) = true := h2
  have h4 : PyData.depth (.list (T.map dq)) ≤ 64 := by simp only [PyData.depth]; omega
  rw [h3, decide_eq_true h4]
  rfl
/-! ### the course whose last piece is set -/
theorem all2_set {α : Type} {R : V → α → Prop} {xs : List V} {c : List α} {x : V} {p : α} (h : All2 R xs c) (n : Nat) (r : R x p) : All2 R (xs.set n x) (c.set n p) := by
  refine ⟨by rw [List.length_set, List.length_set, h.1], fun i y q a b => ?_⟩
  by_cases e : n = i
  · subst e
    rw [List.getElem?_set] at a b
    simp only [if_true] at a b
    split at a
    · split at b
      · cases a
        cases b
        exact r
      · cases b
    · cases a
  · rw [List.getElem?_set_ne e] at a b
    exact h.2 i y q a b
theorem cok_set {c : List Pc} (ok : Cok c) {n : Nat} {p p' : Pc} (hp : c[n]? = some p) (hs : p'.s = p.s) (hr : p'.r = p.r) : Cok (c.set n p') := by
  have key : ∀ (i : Nat) (x : Pc), (c.set n p')[i]? = some x → ∃ y, c[i]? = some y ∧ x.s = y.s ∧ x.r = y.r := fun i x h => by
    by_cases e : n = i
    · subst e
      rw [List.getElem?_set] at h
      simp only [if_true] at h
      split at h
      · cases h
        exact ⟨p, hp, hs, hr⟩
      · cases h
    · rw [List.getElem?_set_ne e] at h
      exact ⟨x, h, rfl, rfl⟩
  refine ⟨fun x hx => ?_, fun i x y hx hy => ?_⟩
  · obtain ⟨i, hi, rfl⟩ := List.mem_iff_getElem.mp hx
    obtain ⟨y, e1, _, e2⟩ := key i _ (List.getElem?_eq_getElem hi)
    rw [e2]
    exact ok.1 y (List.mem_of_getElem? e1)
  · obtain ⟨x1, a1, b1, _⟩ := key i x hx
    obtain ⟨y1, a2, b2, _⟩ := key (i + 1) y hy
    rw [b1, b2]
    exact ok.2 i x1 y1 a1 a2
theorem cz_set {c : List Pc} {i j j' m : Nat} (cz : Cz i j m c) (hj : j ≤ j') {n : Nat} {p' : Pc} (h : Sz i p'.s ∧ Sz j' p'.v ∧ Sz m p'.r) : Cz i j' m (c.set n p') := fun x hx => by
  rcases List.mem_or_eq_of_mem_set hx with hx | rfl
  · obtain ⟨z1, z2, z3⟩ := cz x hx
    exact ⟨z1, z2.mono hj, z3⟩
  · exact h
/-! ### what stands while the law goes on -/
structure St0 (K : PySem.W.Frag) (l s D1 D2 D3 : Addr) (us1 us2 : List V) (c1 c2 : List Pc) (G : Hp) : Prop where
  st : Sto l s G
  a1 : Ct K G D1 us1 c1
  a2 : Ct K G D2 us2 c2
  a3 : Ct K G D3 us1 c1
  n1 : D1 ≠ s
  n2 : D2 ≠ s
  n3 : D3 ≠ s
  m3 : D3 ≠ l
  n31 : D3 ≠ D1
  n32 : D3 ≠ D2
theorem St0.same {s D1 D2 D3 : Addr} {us1 us2 : List V} {c1 c2 : List Pc} {G G' : Hp} (h : St0 K l s D1 D2 D3 us1 us2 c1 c2 G) (e : Same G G') : St0 K l s D1 D2 D3 us1 us2 c1 c2 G' :=
  { h with st := h.st.same e, a1 := h.a1.same e, a2 := h.a2.same e, a3 := h.a3.same e }
theorem St0.fr {s D1 D2 D3 : Addr} {us1 us2 : List V} {c1 c2 : List Pc} {G G' : Hp} (h : St0 K l s D1 D2 D3 us1 us2 c1 c2 G) (e : Fr s G G') (S : Sto l s G') : St0 K l s D1 D2 D3 us1 us2 c1 c2 G' :=
  { h with st := S, a1 := h.a1.fr e h.st.some h.n1, a2 := h.a2.fr e h.st.some h.n2, a3 := h.a3.fr e h.st.some h.n3 }
theorem St0.app {s D1 D2 D3 D : Addr} {us1 us2 ys zs : List V} {c1 c2 : List Pc} {G : Hp} (h : St0 K l s D1 D2 D3 us1 us2 c1 c2 G) (hD : G D = some (.lst ys)) (ns : D ≠ s) (nl : D ≠ l) (k1 : D1 ≠ D) (k2 : D2 ≠ D) (k3 : D3 ≠ D) : St0 K l s D1 D2 D3 us1 us2 c1 c2 (upd G D (.lst zs)) :=
  { h with st := h.st.upd ns nl, a1 := h.a1.fr (Fr.upd _) ⟨_, hD⟩ k1, a2 := h.a2.fr (Fr.upd _) ⟨_, hD⟩ k2, a3 := h.a3.fr (Fr.upd _) ⟨_, hD⟩ k3 }
/-- a list of rationals -/
def Lq (K : PySem.W.Frag) (G : Hp) (D : Addr) (us : List V) (qs : List Rat) : Prop := G D = some (.lst us) ∧ All2 (Rq K G) us qs
theorem Lq.same {G G' : Hp} {D : Addr} {us : List V} {qs : List Rat} (h : Lq K G D us qs) (e : Same G G') : Lq K G' D us qs := ⟨e _ _ h.1, h.2.imp fun _ _ h => h.same e⟩
theorem Lq.fr {s : Addr} {G G' : Hp} {D : Addr} {us : List V} {qs : List Rat} (h : Lq K G D us qs) (e : Fr s G G') (hs : ∃ ys, G s = some (.lst ys)) (n : D ≠ s) : Lq K G' D us qs := ⟨e _ _ h.1 n, h.2.imp fun _ _ h => h.fr e hs⟩
theorem ne_at {G : Hp} {a b : Addr} {o : HO} (h : G a = some o) (n : G b = none) : a ≠ b := fun e => by rw [e, n] at h; cases h
end Vk
namespace Vk
open PySem L2 Vm
/-! ### lines, what stays of a course, jumps -/
def ky (p : Pc) : Rat × Rat := (p.r, p.v - p.r * p.s)
def jmp (k : Rat × Rat) (q : Pc) : Rat := q.v - (k.2 + k.1 * q.s)
def vl (t : Rat) (p : Pc) : Rat := p.v + p.r * (t - p.s)
theorem ky_eq {p q : Pc} : ky q = ky p ↔ q.r = p.r ∧ jmp (ky p) q = 0 := by
  unfold jmp ky
  constructor
  · intro h
    have h1 := congrArg Prod.fst h
    have h2 := congrArg Prod.snd h
    dsimp only at h1 h2 ⊢
    exact ⟨h1, by rw [h1] at h2; grind⟩
  · rintro ⟨h1, h2⟩
    dsimp only at h2
    rw [h1]
    congr 1
    grind
theorem jmp_at (p q : Pc) : q.v - (p.v + p.r * (q.s - p.s)) = jmp (ky p) q := by
  unfold jmp ky
  dsimp only
  grind
theorem vl_ky {p q : Pc} (h : ky q = ky p) (t : Rat) : vl t q = vl t p := by
  have h1 := congrArg Prod.fst h
  have h2 := congrArg Prod.snd h
  unfold ky at h1 h2
  dsimp only at h1 h2
  unfold vl
  grind
def tlG : Rat × Rat → List Pc → List Pc
  | _, [] => []
  | k, q :: c => if ky q = k then tlG k c else q :: tlG (ky q) c
def tl : List Pc → List Pc
  | [] => []
  | p :: c => p :: tlG (ky p) c
def jlG : Rat × Rat → List Pc → List (Rat × Rat)
  | _, [] => []
  | k, q :: c => if jmp k q = 0 then jlG (ky q) c else (q.s, jmp k q) :: jlG (ky q) c
def jl : List Pc → List (Rat × Rat)
  | [] => []
  | p :: c => jlG (ky p) c
theorem jmp0 {k : Rat × Rat} {q : Pc} (h : ky q = k) : jmp k q = 0 := by
  subst h
  unfold jmp ky
  dsimp only
  grind
theorem tlG_snoc (p q : Pc) : ∀ (c : List Pc) (k : Rat × Rat), tlG k (c ++ [p, q]) = tlG k (c ++ [p]) ++ if ky q = ky p then [] else [q]
  | [], k => by
    show tlG k [p, q] = tlG k [p] ++ _
    unfold tlG
    by_cases h : ky p = k
    · rw [if_pos h, if_pos h]
      unfold tlG
      rw [← h]
      by_cases g : ky q = ky p
      · rw [if_pos g, if_pos g]; rfl
      · rw [if_neg g, if_neg g]; rfl
    · rw [if_neg h, if_neg h]
      unfold tlG
      by_cases g : ky q = ky p
      · rw [if_pos g, if_pos g]; rfl
      · rw [if_neg g, if_neg g]; rfl
  | x :: c, k => by
    show tlG k (x :: (c ++ [p, q])) = tlG k (x :: (c ++ [p])) ++ _
    unfold tlG
    by_cases h : ky x = k
    · rw [if_pos h, if_pos h, tlG_snoc p q c k]
    · rw [if_neg h, if_neg h, tlG_snoc p q c (ky x)]
      rfl
theorem jlG_snoc (p q : Pc) : ∀ (c : List Pc) (k : Rat × Rat), jlG k (c ++ [p, q]) = jlG k (c ++ [p]) ++ if jmp (ky p) q = 0 then [] else [(q.s, jmp (ky p) q)]
  | [], k => by
    show jlG k [p, q] = jlG k [p] ++ _
    unfold jlG
    by_cases h : jmp k p = 0
    · rw [if_pos h, if_pos h]
      unfold jlG
      by_cases g : jmp (ky p) q = 0
      · rw [if_pos g, if_pos g]; rfl
      · rw [if_neg g, if_neg g]; rfl
    · rw [if_neg h, if_neg h]
      unfold jlG
      by_cases g : jmp (ky p) q = 0
      · rw [if_pos g, if_pos g]; rfl
      · rw [if_neg g, if_neg g]; rfl
  | x :: c, k => by
    show jlG k (x :: (c ++ [p, q])) = jlG k (x :: (c ++ [p])) ++ _
    unfold jlG
    by_cases h : jmp k x = 0
    · rw [if_pos h, if_pos h, jlG_snoc p q c (ky x)]
    · rw [if_neg h, if_neg h, jlG_snoc p q c (ky x)]
      rfl
theorem take_two {c : List Pc} {i : Nat} {p q : Pc} (e1 : c[i]? = some p) (e2 : c[i + 1]? = some q) : c.take (i + 1) = c.take i ++ [p] ∧ c.take (i + 2) = c.take i ++ [p, q] := by
  have h1 : c.take (i + 1) = c.take i ++ [p] := by rw [List.take_add_one, e1]; rfl
  refine ⟨h1, ?_⟩
  rw [List.take_add_one, h1, e2, List.append_assoc]
  rfl
theorem tl_next {c : List Pc} {i : Nat} {p q : Pc} (e1 : c[i]? = some p) (e2 : c[i + 1]? = some q) : tl (c.take (i + 2)) = tl (c.take (i + 1)) ++ if ky q = ky p then [] else [q] := by
  obtain ⟨h1, h2⟩ := take_two e1 e2
  rw [h1, h2]
  cases h : c.take i with
  | nil =>
    show p :: tlG (ky p) [q] = _
    unfold tlG
    by_cases g : ky q = ky p
    · rw [if_pos g, if_pos g]; rfl
    · rw [if_neg g, if_neg g]; rfl
  | cons x d =>
    show x :: tlG (ky x) (d ++ [p, q]) = x :: tlG (ky x) (d ++ [p]) ++ _
    rw [tlG_snoc]
    rfl
theorem jl_next {c : List Pc} {i : Nat} {p q : Pc} (e1 : c[i]? = some p) (e2 : c[i + 1]? = some q) : jl (c.take (i + 2)) = jl (c.take (i + 1)) ++ if jmp (ky p) q = 0 then [] else [(q.s, jmp (ky p) q)] := by
  obtain ⟨h1, h2⟩ := take_two e1 e2
  rw [h1, h2]
  cases h : c.take i with
  | nil =>
    show jlG (ky p) [q] = _
    unfold jlG
    by_cases g : jmp (ky p) q = 0
    · rw [if_pos g, if_pos g]; rfl
    · rw [if_neg g, if_neg g]; rfl
  | cons x d =>
    show jlG (ky x) (d ++ [p, q]) = jlG (ky x) (d ++ [p]) ++ _
    rw [jlG_snoc]
theorem tlG_tlG : ∀ (c : List Pc) (k : Rat × Rat), tlG k (tlG k c) = tlG k c
  | [], k => rfl
  | q :: c, k => by
    by_cases h : ky q = k
    · have e1 : tlG k (q :: c) = tlG k c := by rw [tlG, if_pos h]
      rw [e1, tlG_tlG c k]
    · have e1 : ∀ d, tlG k (q :: d) = q :: tlG (ky q) d := fun d => by rw [tlG, if_neg h]
      rw [e1, e1, tlG_tlG c (ky q)]
theorem tl_tl (c : List Pc) : tl (tl c) = tl c := by
  cases c with
  | nil => rfl
  | cons p c =>
    show p :: tlG (ky p) (tlG (ky p) c) = _
    rw [tlG_tlG]
    rfl
theorem jlG_tlG : ∀ (c : List Pc) (k : Rat × Rat), jlG k (tlG k c) = jlG k c
  | [], k => rfl
  | q :: c, k => by
    by_cases h : ky q = k
    · have e1 : tlG k (q :: c) = tlG k c := by rw [tlG, if_pos h]
      have e2 : jlG k (q :: c) = jlG (ky q) c := by rw [jlG, if_pos (jmp0 h)]
      rw [e1, e2, h, jlG_tlG c k]
    · have e1 : tlG k (q :: c) = q :: tlG (ky q) c := by rw [tlG, if_neg h]
      rw [e1, jlG, jlG, jlG_tlG c (ky q)]
theorem jl_tl (c : List Pc) : jl (tl c) = jl c := by
  cases c with
  | nil => rfl
  | cons p c => exact jlG_tlG c (ky p)
theorem tlG_mem : ∀ (c : List Pc) (k : Rat × Rat), (tlG k c).Sublist c
  | [], k => List.Sublist.slnil
  | q :: c, k => by
    rw [tlG]
    split
    · exact (tlG_mem c k).cons q
    · exact (tlG_mem c (ky q)).cons₂ q
theorem tl_sub (c : List Pc) : (tl c).Sublist c := by
  cases c with
  | nil => exact List.Sublist.slnil
  | cons p c => exact (tlG_mem c (ky p)).cons₂ p
theorem tl_pos {c : List Pc} (h : 0 < c.length) : 0 < (tl c).length := by
  cases c with
  | nil => exact absurd h (by simp)
  | cons p c => exact Nat.succ_pos _
/-! ### ascending -/
def AscP (c : List Pc) : Prop := c.Pairwise fun p q => p.s < q.s
theorem cok_of {c : List Pc} (a : AscP c) (r : ∀ p ∈ c, 0 < p.r) : Cok c := by
  refine ⟨r, fun i p q e1 e2 => ?_⟩
  have h1 := List.getElem?_eq_some_iff.mp e1
  have h2 := List.getElem?_eq_some_iff.mp e2
  have := (List.pairwise_iff_getElem.mp a) i (i + 1) h1.1 h2.1 (by omega)
  rw [h1.2, h2.2] at this
  exact this
theorem cz_tl {i j m : Nat} {c : List Pc} (z : Cz i j m c) : Cz i j m (tl c) := fun p hp => z p ((tl_sub c).subset hp)
/-! ### what is shown -/
def nG (t : Rat) : Option Rat → List Pc → Option Rat
  | d, [] => d
  | d, q :: c => nG t (if on t q = true then some (vl t q) else d) c
theorem nG_now (t : Rat) : ∀ (c : List Pc) (d : Option Rat), nG t d c = (((c.filter (on t)).getLast?).map (vl t)).or d
  | [], d => rfl
  | q :: c, d => by
    show nG t _ c = _
    rw [nG_now t c, List.filter_cons]
    by_cases h : on t q = true
    · rw [if_pos h, if_pos h, List.getLast?_cons]
      cases (c.filter (on t)).getLast? <;> rfl
    · rw [if_neg h, if_neg h]
theorem now_nG (c : List Pc) (t : Rat) : nowf c t = nG t none c := by
  rw [nG_now, Option.or_none]
  rfl
theorem on_le {t : Rat} {p q : Pc} (h : on t q = true) (l : p.s < q.s) : on t p = true := by
  unfold on at h ⊢
  have : ¬ t < q.s := by simpa using h
  have : ¬ t < p.s := by grind
  simpa using this
theorem nG_tlG (t : Rat) : ∀ (c : List Pc) (p : Pc) (d : Option Rat), AscP (p :: c) → (∀ q ∈ c, on t q = true → d = some (vl t p)) → nG t d (tlG (ky p) c) = nG t d c
  | [], p, d, _, _ => rfl
  | q :: c, p, d, a, h => by
    have a1 : AscP (q :: c) := (List.pairwise_cons.mp a).2
    have a2 : AscP (p :: c) := a.sublist ((List.sublist_cons_self q c).cons₂ p)
    by_cases g : ky q = ky p
    · rw [tlG, if_pos g]
      have e : (if on t q = true then some (vl t q) else d) = d := by
        split
        · rename_i o
          rw [h q (List.mem_cons_self ..) o, vl_ky g]
        · rfl
      show _ = nG t (if on t q = true then some (vl t q) else d) c
      rw [e]
      exact nG_tlG t c p d a2 fun x hx => h x (List.mem_cons_of_mem _ hx)
    · rw [tlG, if_neg g]
      show nG t (if on t q = true then some (vl t q) else d) (tlG (ky q) c) = nG t (if on t q = true then some (vl t q) else d) c
      refine nG_tlG t c q _ a1 fun x hx o => ?_
      rw [if_pos (on_le o ((List.pairwise_cons.mp a1).1 x hx))]
/-! ### pieces that continue -/
def goes (c : List Pc) (i : Nat) : Bool := match i with
  | 0 => false
  | j + 1 => match c[j]?, c[j + 1]? with
    | some p, some q => decide (ky q = ky p)
    | _, _ => false
theorem goes_succ (c : List Pc) (j : Nat) : goes c (j + 1) = match c[j]?, c[j + 1]? with
    | some p, some q => decide (ky q = ky p)
    | _, _ => false := rfl
theorem goes_at {c : List Pc} {j : Nat} {p q : Pc} (e1 : c[j]? = some p) (e2 : c[j + 1]? = some q) : goes c (j + 1) = decide (ky q = ky p) := by
  rw [goes_succ, e1, e2]
def gl (c : List Pc) (n : Nat) : List Nat := (List.range n).filter (goes c)
theorem gl_succ (c : List Pc) (n : Nat) : gl c (n + 1) = gl c n ++ if goes c n = true then [n] else [] := by
  unfold gl
  rw [List.range_succ, List.filter_append]
  congr 1
  by_cases h : goes c n = true <;> simp [h]
def Nc : Rat × Rat → List Pc → Prop
  | _, [] => True
  | k, q :: c => ky q ≠ k ∧ Nc (ky q) c
theorem nc_tlG : ∀ (c : List Pc) (k : Rat × Rat), Nc k (tlG k c)
  | [], k => trivial
  | q :: c, k => by
    rw [tlG]
    split
    · exact nc_tlG c k
    · rename_i h
      exact ⟨h, nc_tlG c (ky q)⟩
theorem nc_at : ∀ (c : List Pc) (p : Pc), Nc (ky p) c → ∀ i x y, (p :: c)[i]? = some x → (p :: c)[i + 1]? = some y → ky y ≠ ky x
  | [], p, _, i, x, y, _, e2 => by simp at e2
  | q :: c, p, h, 0, x, y, e1, e2 => by
    simp at e1 e2
    subst e1 e2
    exact h.1
  | q :: c, p, h, i + 1, x, y, e1, e2 => nc_at c q h.2 i x y (by simpa using e1) (by simpa using e2)
theorem goes_tl (c : List Pc) (i : Nat) : goes (tl c) i = false := by
  cases i with
  | zero => rfl
  | succ j =>
    rw [goes_succ]
    cases e1 : (tl c)[j]? with
    | none => rfl
    | some x =>
      cases e2 : (tl c)[j + 1]? with
      | none => rfl
      | some y =>
        cases c with
        | nil => simp [tl] at e1
        | cons p c => exact dF (nc_at _ p (nc_tlG c (ky p)) j x y e1 e2)
theorem gl_tl (c : List Pc) (n : Nat) : gl (tl c) n = [] := by
  unfold gl
  rw [List.filter_eq_nil_iff]
  intro i _
  rw [goes_tl]
  exact Bool.false_ne_true
/-! ### a piece more that continues -/
theorem tlG_ins {p x : Pc} (h : ky x = ky p) : ∀ (a b : List Pc) (k : Rat × Rat), tlG k (a ++ p :: x :: b) = tlG k (a ++ p :: b)
  | [], b, k => by
    show tlG k (p :: x :: b) = tlG k (p :: b)
    by_cases g : ky p = k
    · rw [tlG, if_pos g, tlG, if_pos (h.trans g), tlG, if_pos g]
    · rw [tlG, if_neg g, tlG, if_pos h, tlG, if_neg g]
  | y :: a, b, k => by
    show tlG k (y :: (a ++ p :: x :: b)) = tlG k (y :: (a ++ p :: b))
    by_cases g : ky y = k
    · rw [tlG, if_pos g, tlG, if_pos g, tlG_ins h a b k]
    · rw [tlG, if_neg g, tlG, if_neg g, tlG_ins h a b (ky y)]
theorem tl_ins {p x : Pc} (h : ky x = ky p) (a b : List Pc) : tl (a ++ p :: x :: b) = tl (a ++ p :: b) := by
  cases a with
  | nil =>
    show p :: tlG (ky p) (x :: b) = p :: tlG (ky p) b
    rw [tlG, if_pos h]
  | cons y a =>
    show y :: tlG (ky y) (a ++ p :: x :: b) = y :: tlG (ky y) (a ++ p :: b)
    rw [tlG_ins h]
theorem jlG_ins {p x : Pc} (h : ky x = ky p) : ∀ (a b : List Pc) (k : Rat × Rat), jlG k (a ++ p :: x :: b) = jlG k (a ++ p :: b)
  | [], b, k => by
    show jlG k (p :: x :: b) = jlG k (p :: b)
    rw [jlG, jlG, if_pos (jmp0 h), h, jlG]
  | y :: a, b, k => by
    show jlG k (y :: (a ++ p :: x :: b)) = jlG k (y :: (a ++ p :: b))
    rw [jlG, jlG, jlG_ins h a b (ky y)]
theorem jl_ins {p x : Pc} (h : ky x = ky p) (a b : List Pc) : jl (a ++ p :: x :: b) = jl (a ++ p :: b) := by
  cases a with
  | nil =>
    show jlG (ky p) (x :: b) = jlG (ky p) b
    rw [jlG, if_pos (jmp0 h), h]
  | cons y a =>
    show jlG (ky y) (a ++ p :: x :: b) = jlG (ky y) (a ++ p :: b)
    rw [jlG_ins h]
end Vk
namespace Vk
open PySem L2 Vm
variable {l az : Addr} {P : Program} {w : World} {K : PySem.W.Frag} {mg : Str → Option Value} {base : Heap} {k : Nat} {f f1 f2 f3 f4 f5 f6 f7 f8 f9 : Addr} {fd fd1 fd2 fd3 fd4 fd5 fd6 fd7 fd8 fd9 : FuncData}
/-! ### the program's side -/
structure Zr (K : PySem.W.Frag) (mg : Str → Option Value) (az : Addr) : Prop where
  m : mg "ZERO" = some (.ref az)
  q : ∀ H, Rq K H (.ref az) 0
abbrev s_multiply : Stmt := top 38
abbrev N_multiply : List Str := ["a", "b"]
theorem sc_multiply : FnScope N_multiply ["a", "b"] (defScope s_multiply) := ⟨rfl, rfl, rfl, by decide +kernel, rfl, by decide +kernel, by decide +kernel⟩
abbrev ps_multiply : List Str := ["a", "b"]
theorem ok_multiply (F : Fn K mg "multiply" s_multiply ps_multiply f fd) (drational : Def P w K mg base k "rational" ["n", "d"] (spFrac K) f1 fd1) : Def P w K mg base (k + 1) "multiply" ps_multiply (spOp2 K (· * ·)) f fd := by
  refine ⟨F.F.ok sc_multiply (fun vs H Q E h => ?_) (fun cdv A outer s H vs Q E hr h => ?_), F.m, F.F.kp, F.b⟩
  · obtain ⟨x, y, p, q, m, l, rfl, _⟩ := h
    rfl
  obtain ⟨x, y, p, q, m, l, rfl, ⟨a, rfl, ha⟩, ⟨b, rfl, hb⟩, zp, zq, hm, z⟩ := h
  have m0 := nn zp
  have l0 := nn zq
  refine ⟨_, (pss_one (ps_ret (pcall drational hr (pa_cons (pe_op op_mulW (pe_ix ix_tup (pv 0) pe_int (fun _ _ => rfl)) (pe_ix ix_tup (pv 1) pe_int (fun _ _ => rfl))) (pa_cons (pe_op op_mulW (pe_ix ix_tup (pv 0) pe_int (fun _ _ => rfl)) (pe_ix ix_tup (pv 1) pe_int (fun _ _ => rfl))) pa_nil))))), ?_⟩
  refine ⟨_, rfl, a, _, _, _, rfl, rfl, ha, at0 rfl, _, rfl, b, _, _, _, rfl, rfl, hb, at0 rfl, _, _, rfl, rfl, mulW zp.1 zq.1 m0 l0 (by omega), ?_⟩
  refine ⟨_, rfl, a, _, _, _, rfl, rfl, ha, at1 rfl, _, rfl, b, _, _, _, rfl, rfl, hb, at1 rfl, _, _, rfl, rfl, mulW (dA zp) (dA zq) m0 l0 (by omega), ?_⟩
  refine ⟨_, _, m + l, rfl, dd_pos p q, ab_mul zp.1 zq.1, ab_mul (dA zp) (dA zq), by omega, fun r H' e hr => z r H' e ?_⟩
  rw [mk_mul] at hr
  exact hr
abbrev s__shown_by : Stmt := top 43
abbrev N__shown_by : List Str := ["piece", "t", "start", "shown", "rate"]
theorem sc__shown_by : FnScope N__shown_by ["piece", "t"] (defScope s__shown_by) := ⟨rfl, rfl, rfl, by decide +kernel, rfl, by decide +kernel, by decide +kernel⟩
abbrev ps__shown_by : List Str := ["piece", "t"]
def spShown (K : PySem.W.Frag) : Sp := fun vs H Q _ => ∃ (x y : V) (p : Pc) (t : Rat) (i j l m : Nat), vs = [x, y] ∧ Pq K H x p ∧ Rq K H y t ∧ Sz i p.s ∧ Sz j p.v ∧ Sz l p.r ∧ Sz m t ∧ j + l + m + i + 3 ≤ 9000 ∧
  ∀ r H', Same H H' → Rq K H' r (p.v + p.r * (t - p.s)) → Q r H'
theorem ok_shown_by (F : Fn K mg "_shown_by" s__shown_by ps__shown_by f fd) (dadd : Def P w K mg base k "add" ["a", "b"] (spOp2 K (· + ·)) f1 fd1) (dmultiply : Def P w K mg base k "multiply" ["a", "b"] (spOp2 K (· * ·)) f2 fd2) (dsubtract : Def P w K mg base k "subtract" ["a", "b"] (spOp2 K (· - ·)) f3 fd3) :
    Def P w K mg base (k + 1) "_shown_by" ps__shown_by (spShown K) f fd := by
  refine ⟨F.F.ok sc__shown_by (fun vs H Q E h => ?_) (fun cdv A outer s H vs Q E hr h => ?_), F.m, F.F.kp, F.b⟩
  · obtain ⟨x, y, p, q, i, j, l, m, rfl, _⟩ := h
    rfl
  obtain ⟨x, y, p, t, i, j, l, m, rfl, ⟨a, xs, xv, xr, rfl, ha, hs, hv, hr'⟩, hy, zs, zv, zr, zt, hb, z⟩ := h
  refine ⟨_, (pss_cons (ps_asg (pv 0) (pg_tup rfl (pgs_cons (pg_name (i := 2) sc__shown_by.nd rfl (Or.inl rfl)) (pgs_cons (pg_name (i := 3) sc__shown_by.nd rfl (Or.inl rfl)) (pgs_cons (pg_name (i := 4) sc__shown_by.nd rfl (Or.inl rfl)) pgs_nil)))))
      (pss_one (ps_ret (pcall dadd hr (pa_cons (pv 3) (pa_cons (pcall dmultiply hr (pa_cons (pv 4) (pa_cons (pcall dsubtract hr (pa_cons (pv 1) (pa_cons (pv 2) pa_nil))) pa_nil))) pa_nil)))))), ?_⟩
  refine ⟨_, rfl, a, _, rfl, ha, rfl, _, _, rfl, _, _, rfl, _, _, rfl, rfl, ?_⟩
  refine ⟨_, rfl, _, rfl, _, rfl, _, rfl, _, _, t, p.s, m, i, rfl, hy, hs, zt, zs, by omega, fun r1 H1 e1 h1 => ?_⟩
  refine ⟨_, _, p.r, t - p.s, l, m + i + 1, rfl, hr'.same e1, h1, zr, zt.sub zs, by omega, fun r2 H2 e2 h2 => ?_⟩
  exact ⟨_, _, p.v, p.r * (t - p.s), j, l + (m + i + 1), rfl, hv.same (e1.trans e2), h2, zv, zr.mul (zt.sub zs), by omega, fun r3 H3 e3 h3 => z _ _ (e1.trans (e2.trans e3)) h3⟩
abbrev s__jump_at : Stmt := top 44
abbrev N__jump_at : List Str := ["course", "at", "piece"]
theorem sc__jump_at : FnScope N__jump_at ["course", "at"] (defScope s__jump_at) := ⟨rfl, rfl, rfl, by decide +kernel, rfl, by decide +kernel, by decide +kernel⟩
abbrev ps__jump_at : List Str := ["course", "at"]
def spJumpAt (K : PySem.W.Frag) : Sp := fun vs H Q _ => ∃ (a : Addr) (n : Nat) (c : List Pc) (p q : Pc) (i j l : Nat), vs = [.ref a, .int ((n + 1 : Nat) : Int)] ∧ Cq K H a c ∧ c[n]? = some p ∧ c[n + 1]? = some q ∧ Cz i j l c ∧ j + j + l + i + i + 5 ≤ 9000 ∧
  ∀ r H', Same H H' → Rq K H' r (jmp (ky p) q) → Q r H'
theorem ok_jump_at (F : Fn K mg "_jump_at" s__jump_at ps__jump_at f fd) (dsubtract : Def P w K mg base k "subtract" ["a", "b"] (spOp2 K (· - ·)) f1 fd1) (d_shown_by : Def P w K mg base k "_shown_by" ["piece", "t"] (spShown K) f2 fd2) :
    Def P w K mg base (k + 1) "_jump_at" ps__jump_at (spJumpAt K) f fd := by
  refine ⟨F.F.ok sc__jump_at (fun vs H Q E h => ?_) (fun cdv A outer s H vs Q E hr h => ?_), F.m, F.F.kp, F.b⟩
  · obtain ⟨_, _, _, _, _, _, _, _, rfl, _⟩ := h
    rfl
  obtain ⟨a, n, c, p, q, i, j, l, rfl, ⟨xs, hx, hc⟩, e1, e2, cz, hb, z⟩ := h
  refine ⟨_, (pss_cons (ps_set (i := 2) sc__jump_at.nd rfl (Or.inl rfl) (pe_ix ix_list (pv 0) (pv 1) (fun _ _ => rfl)))
      (pss_one (ps_ret (pcall dsubtract hr (pa_cons (pe_ix ix_tup (pv 2) pe_int (fun _ _ => rfl)) (pa_cons (pcall d_shown_by hr (pa_cons (pe_ix ix_list (pv 0) (pe_op op_sub (pv 1) pe_int) (fun _ _ => rfl)) (pa_cons (pe_ix ix_tup (pv 2) pe_int (fun _ _ => rfl)) pa_nil))) pa_nil)))))), ?_⟩
  obtain ⟨zs1, zv1, zr1⟩ := cz p (List.mem_of_getElem? e1)
  obtain ⟨zs2, zv2, zr2⟩ := cz q (List.mem_of_getElem? e2)
  obtain ⟨x1, hx1, pp⟩ := hc.at e1
  obtain ⟨x2, hx2, pq⟩ := hc.at e2
  obtain ⟨b, bs, bv, br, rfl, hb2, r1, r2, r3⟩ := pq
  refine ⟨_, rfl, _, rfl, a, _, _, _, rfl, rfl, hx, at_of (j := n + 1) rfl hx2, ?_⟩
  refine ⟨_, rfl, b, _, _, _, rfl, rfl, hb2, at1 rfl, _, rfl, _, rfl, _, _, rfl, rfl, a, _, _, _, rfl, rfl, hx, at_of (j := n) (by omega) hx1, _, rfl, b, _, _, _, rfl, rfl, hb2, at0 rfl, ?_⟩
  refine ⟨_, _, p, q.s, i, j, l, i, rfl, pp, r1, zs1, zv1, zr1, zs2, by omega, fun w1 H1 s1 g1 => ?_⟩
  refine ⟨_, _, q.v, _, j, j + (l + (i + i + 1)) + 1, rfl, r2.same s1, g1, zv2, zv1.add (zr1.mul (zs2.sub zs1)), by omega, fun w2 H2 s2 g2 => z _ _ (s1.trans s2) ?_⟩
  rw [← jmp_at]
  exact g2
/-- a start and a jump -/
def Jq (K : PySem.W.Frag) (H : Hp) (x : V) (p : Rat × Rat) : Prop := ∃ a xs xj, x = .ref a ∧ SqT K H a [xs, xj] ∧ Rq K H xs p.1 ∧ Rq K H xj p.2
theorem Jq.same {H H' : Hp} {x : V} {p : Rat × Rat} (e : Same H H') (h : Jq K H x p) : Jq K H' x p := by
  obtain ⟨a, xs, xj, rfl, h, h1, h2⟩ := h
  exact ⟨a, xs, xj, rfl, e.sqt h, h1.same e, h2.same e⟩
theorem Jq.fr {s : Addr} {H H' : Hp} {x : V} {p : Rat × Rat} (e : Fr s H H') (hs : ∃ ys, H s = some (.lst ys)) (h : Jq K H x p) : Jq K H' x p := by
  obtain ⟨a, xs, xj, rfl, h, h1, h2⟩ := h
  exact ⟨a, xs, xj, rfl, sqt_fr e hs h, h1.fr e hs, h2.fr e hs⟩
def djp (p : Rat × Rat) : PyData := .tuple [dq p.1, dq p.2]
theorem Jq.dp {H : Hp} {v : V} {p : Rat × Rat} (h : Jq K H v p) : Dp K H v (djp p) := by
  obtain ⟨a, xs, xj, rfl, h, h1, h2⟩ := h
  exact .tup h (.cons h1.dp (.cons h2.dp .nil))
theorem jl_len (c : List Pc) : (jl c).length ≤ c.length := by
  have g : ∀ (c : List Pc) k, (jlG k c).length ≤ c.length := fun c => by
    induction c with
    | nil => exact fun _ => Nat.le_refl _
    | cons q c ih =>
      intro k
      have := ih (ky q)
      rw [jlG]
      split
      · rw [List.length_cons]; omega
      · rw [List.length_cons, List.length_cons]; omega
  cases c with
  | nil => exact Nat.le_refl _
  | cons p c =>
    have := g c (ky p)
    show (jlG (ky p) c).length ≤ _
    rw [List.length_cons]
    omega
abbrev s_jumps : Stmt := top 45
abbrev N_jumps : List Str := ["course", "found", "at", "jump"]
theorem sc_jumps : FnScope N_jumps ["course"] (defScope s_jumps) := ⟨rfl, rfl, rfl, by decide +kernel, rfl, by decide +kernel, by decide +kernel⟩
abbrev ps_jumps : List Str := ["course"]
def spJumps (K : PySem.W.Frag) : Sp := fun vs H Q _ => ∃ (a : Addr) (c : List Pc) (i j l : Nat), vs = [.ref a] ∧ Cq K H a c ∧ Cz i j l c ∧ 1 ≤ c.length ∧ c.length ≤ 900 ∧ j + j + l + i + i + 5 ≤ 9000 ∧
  ∀ D us H', Same H H' → H D = none → H' D = some (.lst us) → All2 (Jq K H') us (jl c) → Q (.ref D) H'
def spTidy (K : PySem.W.Frag) : Sp := fun vs H Q _ => ∃ (a : Addr) (c : List Pc) (i j l : Nat), vs = [.ref a] ∧ Cq K H a c ∧ Cz i j l c ∧ 1 ≤ c.length ∧ c.length ≤ 900 ∧ j + j + l + i + i + 5 ≤ 9000 ∧
  ∀ D us H', Same H H' → H D = none → Ct K H' D us (tl c) → Q (.ref D) H'
end Vk
namespace Vk
open PySem L2 Vm Vs
variable {l az : Addr} {P : Program} {w : World} {K : PySem.W.Frag} {mg : Str → Option Value} {base : Heap} {k : Nat} {f f1 f2 f3 f4 f5 f6 f7 f8 f9 : Addr} {fd fd1 fd2 fd3 fd4 fd5 fd6 fd7 fd8 fd9 : FuncData}
/-! ### ends and spans -/
def OSz (m : Nat) (o : Option Rat) : Prop := ∀ q, o = some q → Sz m q
def SSz (m : Nat) (s : Spn) : Prop := OSz m s.1 ∧ OSz m s.2
theorem optV.same {H H' : Hp} {v : V} {o : Option Rat} (e : Same H H') (h : optV K H v o) : optV K H' v o := by
  cases o with
  | none => exact h
  | some q => exact Rq.same e h
theorem optV.fr {s : Addr} {H H' : Hp} {v : V} {o : Option Rat} (e : Fr s H H') (hs : ∃ ys, H s = some (.lst ys)) (h : optV K H v o) : optV K H' v o := by
  cases o with
  | none => exact h
  | some q => exact Rq.fr e hs h
def Spq (K : PySem.W.Frag) (H : Hp) (x : V) (s : Spn) : Prop := ∃ a u v, x = .ref a ∧ SqT K H a [u, v] ∧ optV K H u s.1 ∧ optV K H v s.2
theorem Spq.same {H H' : Hp} {x : V} {s : Spn} (e : Same H H') (h : Spq K H x s) : Spq K H' x s := by
  obtain ⟨a, u, v, rfl, h, h1, h2⟩ := h
  exact ⟨a, u, v, rfl, e.sqt h, h1.same e, h2.same e⟩
theorem Spq.fr {s : Addr} {H H' : Hp} {x : V} {p : Spn} (e : Fr s H H') (hs : ∃ ys, H s = some (.lst ys)) (h : Spq K H x p) : Spq K H' x p := by
  obtain ⟨a, u, v, rfl, h, h1, h2⟩ := h
  exact ⟨a, u, v, rfl, sqt_fr e hs h, h1.fr e hs, h2.fr e hs⟩
def oSp (K : PySem.W.Frag) (H : Hp) (x : V) : Option Spn → Prop
  | none => x = .non
  | some s => Spq K H x s
theorem oSp.same {H H' : Hp} {x : V} {o : Option Spn} (e : Same H H') (h : oSp K H x o) : oSp K H' x o := by
  cases o with
  | none => exact h
  | some q => exact Spq.same e h
theorem osz_max {m : Nat} {a b : Option Rat} (h : OSz m a) (g : OSz m b) : OSz m (maxO a b) := by
  cases a with
  | none => exact g
  | some p => cases b with
    | none => exact h
    | some q =>
      intro r e
      simp only [maxO] at e
      cases Option.some.inj e
      split
      · exact h _ rfl
      · exact g _ rfl
theorem osz_min {m : Nat} {a b : Option Rat} (h : OSz m a) (g : OSz m b) : OSz m (minO a b) := by
  cases a with
  | none => exact g
  | some p => cases b with
    | none => exact h
    | some q =>
      intro r e
      simp only [minO] at e
      cases Option.some.inj e
      split
      · exact h _ rfl
      · exact g _ rfl
theorem osz_mov {m j : Nat} {o : Option Rat} {d : Rat} (h : OSz m o) (g : Sz j d) : OSz (m + j + 1) (movO o d) := by
  cases o with
  | none => nofun
  | some q => intro r e; cases Option.some.inj e; exact (h _ rfl).add g
theorem osz_neg {m : Nat} {o : Option Rat} (h : OSz m o) : OSz m (negO o) := by
  cases o with
  | none => nofun
  | some q => intro r e; cases Option.some.inj e; exact (h _ rfl).neg
theorem osz_up {m j : Nat} {o : Option Rat} (h : OSz m o) (e : m ≤ j) : OSz j o := fun q g => (h q g).mono e
theorem ssz_meet {m : Nat} {a b s : Spn} (h : SSz m a) (g : SSz m b) (e : meetO a b = some s) : SSz m s := by
  unfold meetO at e
  split at e
  · cases e
  · cases e
    exact ⟨osz_max h.1 g.1, osz_min h.2 g.2⟩
theorem ssz_off {x y : Rat} {i j : Nat} {fo ba s : Spn} (hx : Sz j x) (hy : Sz j y) (h : SSz i fo) (g : SSz i ba) (e : offO x y fo ba = some s) : SSz (i + j + 1) s :=
  ssz_meet ⟨osz_mov (osz_neg h.2) hx, osz_mov (osz_neg h.1) hx⟩ ⟨osz_mov g.1 hy, osz_mov g.2 hy⟩ e
/-- the written half -/
structure Hf (K : PySem.W.Frag) (mg : Str → Option Value) (az : Addr) : Prop where
  m : mg "HALF" = some (.ref az)
  q : ∀ H, Rq K H (.ref az) (1 / 2)
/-! ### the lesser and the greater one -/
def spSel (K : PySem.W.Frag) (g : Rat → Rat → Rat) : Sp := fun vs H Q _ => ∃ (x y : V) (p q : Rat) (m l : Nat), vs = [x, y] ∧ Rq K H x p ∧ Rq K H y q ∧ Sz m p ∧ Sz l q ∧ m + l + 1 ≤ 9000 ∧ ∀ v, Rq K H v (g p q) → Q v H
theorem sg_le {p q : Rat} : sg p q ≤ 0 ↔ p ≤ q := by
  unfold sg
  split
  · rename_i h
    subst h
    simp [Rat.le_refl]
  · split
    · rename_i h1 h2
      exact ⟨fun _ => by grind, fun _ => by omega⟩
    · rename_i h1 h2
      exact ⟨fun h => by omega, fun h => absurd h (by grind)⟩
def spEnd2 (K : PySem.W.Frag) (g : Option Rat → Option Rat → Option Rat) : Sp := fun vs H Q _ => ∃ (x y : V) (p q : Option Rat) (m : Nat), vs = [x, y] ∧ optV K H x p ∧ optV K H y q ∧ OSz m p ∧ OSz m q ∧ m + m + 1 ≤ 9000 ∧ ∀ v, optV K H v (g p q) → Q v H
def spMeet (K : PySem.W.Frag) : Sp := fun vs H Q _ => ∃ (x y : V) (s t : Spn) (m : Nat), vs = [x, y] ∧ Spq K H x s ∧ Spq K H y t ∧ SSz m s ∧ SSz m t ∧ m + m + 1 ≤ 9000 ∧ ∀ v H', Same H H' → oSp K H' v (meetO s t) → Q v H'
theorem sg_gt {p q : Rat} : 0 < sg p q ↔ q < p := by
  have := @sg_le p q
  constructor
  · intro h; exact Rat.not_le.mp fun e => by have := this.mpr e; omega
  · intro h; exact Int.not_le.mp fun e => absurd (this.mp e) (Rat.not_le.mpr h)
end Vk
namespace Vk
open PySem L2 Vm Vs
variable {l az : Addr} {P : Program} {w : World} {K : PySem.W.Frag} {mg : Str → Option Value} {base : Heap} {k : Nat} {f f1 f2 f3 f4 f5 f6 f7 f8 f9 : Addr} {fd fd1 fd2 fd3 fd4 fd5 fd6 fd7 fd8 fd9 : FuncData}
def spMoved (K : PySem.W.Frag) : Sp := fun vs H Q _ => ∃ (x y : V) (o : Option Rat) (d : Rat) (m j : Nat), vs = [x, y] ∧ optV K H x o ∧ Rq K H y d ∧ OSz m o ∧ Sz j d ∧ m + j + 1 ≤ 9000 ∧ ∀ v H', Same H H' → optV K H' v (movO o d) → Q v H'
def spShift (K : PySem.W.Frag) : Sp := fun vs H Q _ => ∃ (x y : V) (s : Spn) (d : Rat) (m j : Nat), vs = [x, y] ∧ Spq K H x s ∧ Rq K H y d ∧ SSz m s ∧ Sz j d ∧ m + j + 1 ≤ 9000 ∧ ∀ v H', Same H H' → Spq K H' v (shO s d) → Q v H'
def spNegO (K : PySem.W.Frag) : Sp := fun vs H Q _ => ∃ (x : V) (o : Option Rat), vs = [x] ∧ optV K H x o ∧ ∀ v H', Same H H' → optV K H' v (negO o) → Q v H'
/-! ### stamps -/
structure St4 where
  a : Rat
  b : Rat
  c : Rat
  d : Rat
def T4 (K : PySem.W.Frag) (H : Hp) (x : V) (t : St4) : Prop := ∃ r xa xb xc xd, x = .ref r ∧ SqT K H r [xa, xb, xc, xd] ∧ Rq K H xa t.a ∧ Rq K H xb t.b ∧ Rq K H xc t.c ∧ Rq K H xd t.d
theorem T4.same {H H' : Hp} {x : V} {t : St4} (e : Same H H') (h : T4 K H x t) : T4 K H' x t := by
  obtain ⟨r, xa, xb, xc, xd, rfl, h, h1, h2, h3, h4⟩ := h
  exact ⟨r, xa, xb, xc, xd, rfl, e.sqt h, h1.same e, h2.same e, h3.same e, h4.same e⟩
theorem T4.fr {s : Addr} {H H' : Hp} {x : V} {t : St4} (e : Fr s H H') (hs : ∃ ys, H s = some (.lst ys)) (h : T4 K H x t) : T4 K H' x t := by
  obtain ⟨r, xa, xb, xc, xd, rfl, h, h1, h2, h3, h4⟩ := h
  exact ⟨r, xa, xb, xc, xd, rfl, sqt_fr e hs h, h1.fr e hs, h2.fr e hs, h3.fr e hs, h4.fr e hs⟩
def Z4 (m : Nat) (t : St4) : Prop := Sz m t.a ∧ Sz m t.b ∧ Sz m t.c ∧ Sz m t.d
def plainOf (t : St4) : Rat := ((t.b - t.a) + (t.c - t.d)) * (1 / 2)
def spT4 (K : PySem.W.Frag) (g : St4 → Rat) : Sp := fun vs H Q _ => ∃ (x : V) (t : St4), vs = [x] ∧ T4 K H x t ∧ Z4 40 t ∧ ∀ v H', Same H H' → Rq K H' v (g t) → Q v H'
def spOff (K : PySem.W.Frag) : Sp := fun vs H Q _ => ∃ (x y u : V) (t : St4) (fo ba : Spn), vs = [x, y, u] ∧ T4 K H x t ∧ Z4 40 t ∧ Spq K H y fo ∧ Spq K H u ba ∧ SSz 100 fo ∧ SSz 100 ba ∧ ∀ v H', Same H H' → oSp K H' v (offO (t.b - t.a) (t.c - t.d) fo ba) → Q v H'
end Vk
namespace Vk
open PySem L2 Vm Vs
variable {l az : Addr} {P : Program} {w : World} {K : PySem.W.Frag} {mg : Str → Option Value} {base : Heap} {k : Nat} {f f1 f2 f3 f4 f5 f6 f7 f8 f9 : Addr} {fd fd1 fd2 fd3 fd4 fd5 fd6 fd7 fd8 fd9 : FuncData}
/-- a drawn span -/
def Sd (K : PySem.W.Frag) (m : Nat) (H : Hp) (v : V) : Prop := ∃ s, Spq K H v s ∧ SSz m s
theorem Sd.same {m : Nat} {H H' : Hp} {v : V} (e : Same H H') (h : Sd K m H v) : Sd K m H' v := by
  obtain ⟨q, h, r⟩ := h
  exact ⟨q, h.same e, r⟩
theorem Sd.fr {m : Nat} {s : Addr} {H H' : Hp} {v : V} (e : Fr s H H') (hs : ∃ ys, H s = some (.lst ys)) (h : Sd K m H v) : Sd K m H' v := by
  obtain ⟨q, h, r⟩ := h
  exact ⟨q, h.fr e hs, r⟩
theorem Sd.up {m j : Nat} {H : Hp} {v : V} (h : Sd K m H v) (e : m ≤ j) : Sd K j H v := by
  obtain ⟨q, h, r⟩ := h
  exact ⟨q, h, osz_up r.1 e, osz_up r.2 e⟩
theorem sd_new {m : Nat} {H : Hp} {t : Addr} {u v : V} {a b : Option Rat} (ht : H t = none) (hu : optV K H u a) (hv : optV K H v b) (za : OSz m a) (zb : OSz m b) : Sd K m (upd H t (.tup [u, v])) (.ref t) :=
  ⟨(a, b), ⟨t, u, v, rfl, SqT.of upd_same, hu.same (same_new ht _), hv.same (same_new ht _)⟩, za, zb⟩
theorem osz_none {m : Nat} : OSz m none := nofun
theorem osz_some {m : Nat} {q : Rat} (h : Sz m q) : OSz m (some q) := fun r e => by cases Option.some.inj e; exact h
def spSpan (K : PySem.W.Frag) (l : Addr) : Sp := fun vs H Q _ => ∃ (s : Addr), vs = [.ref s, .int 48] ∧ Sto l s H ∧ ∀ (v : V) H', Sd K 100 H' v → Sto l s H' → Fr s H H' → Q v H'
def spIn (K : PySem.W.Frag) : Sp := fun vs H Q _ => ∃ (x y : V) (s : Spn) (t : Rat) (m j : Nat), vs = [x, y] ∧ Spq K H x s ∧ Rq K H y t ∧ SSz m s ∧ Sz j t ∧ m + j + 1 ≤ 900000 ∧ Q (.bl (inS s t)) H
abbrev s__law_in_span : Stmt := top 67
abbrev N__law_in_span : List Str := ["_law_span", "_law_t"]
theorem sc__law_in_span : FnScope N__law_in_span ["_law_span", "_law_t"] (defScope s__law_in_span) := ⟨rfl, rfl, rfl, by decide +kernel, rfl, by decide +kernel, by decide +kernel⟩
abbrev ps__law_in_span : List Str := ["_law_span", "_law_t"]
theorem ok_in_span (F : Fn K mg "_law_in_span" s__law_in_span ps__law_in_span f fd) (d_law_below : Def P w K mg base k "_law_below" ["_law_a", "_law_b"] (spTest2 K fun p q => .bl (decide (p < q))) f1 fd1) : Def P w K mg base (k + 1) "_law_in_span" ps__law_in_span (spIn K) f fd := by
  refine ⟨F.F.ok sc__law_in_span (fun vs H Q E h => ?_) (fun cdv A outer s H vs Q E hr h => ?_), F.m, F.F.kp, F.b⟩
  · obtain ⟨_, _, _, _, _, _, rfl, _⟩ := h
    rfl
  obtain ⟨x, y, s, t, m, j, rfl, ⟨a, u, v, rfl, ha, hu, hv⟩, hy, zs, zt, hm, z⟩ := h
  refine ⟨_, (pss_cons (ps_if (PW.pt (pw_and (pt_cmpR op_notN (pe_ix ix_tup (pv 0) pe_int (fun _ _ => rfl)) pe_non (nomark _)) (pw_and1 (pt_val (pcall d_law_below hr (pa_cons (pv 1) (pa_cons (pe_ix ix_tup (pv 0) pe_int (fun _ _ => rfl)) pa_nil)))))))
        (pss_one (ps_ret pe_bl))
        pss_nil)
      (pss_one (ps_ret (pe_or (pe_cmpR op_isN (pe_ix ix_tup (pv 0) pe_int (fun _ _ => rfl)) pe_non (nomark _)) (pe_one (pe_not (pcall d_law_below hr (pa_cons (pe_ix ix_tup (pv 0) pe_int (fun _ _ => rfl)) (pa_cons (pv 1) pa_nil))))))))), ?_⟩
  obtain ⟨lo, hi⟩ := s
  dsimp only at hu hv
  have hz : ∀ b, b = inS (lo, hi) t → Q (.bl b) H := fun b e => e ▸ z
  refine ⟨_, rfl, a, _, _, _, rfl, rfl, ha, at0 rfl, rfl, _, rfl, ?_⟩
  have tail : aboveO lo t = true → _ := fun (e : aboveO lo t = true) => (show ∀ b, b = belowO hi t → Q (.bl b) H from fun b e2 => hz b (by rw [e2]; unfold inS; rw [e]; rfl))
  cases lo with
  | none =>
    cases (show u = .non from hu)
    refine ifF rfl (ifF rfl ?_)
    have tail := tail rfl
    refine ⟨_, rfl, a, _, _, _, rfl, rfl, ha, at1 rfl, rfl, ?_⟩
    cases hi with
    | none =>
      cases (show v = .non from hv)
      exact ⟨_, rfl, ifT rfl (tail _ rfl)⟩
    | some q =>
      have hv : Rq K H v q := hv
      obtain ⟨b, rfl, _⟩ := id hv
      refine ⟨_, rfl, ifF rfl ?_⟩
      refine ⟨_, rfl, a, _, _, _, rfl, rfl, ha, at1 rfl, _, rfl, _, _, q, t, m, j, rfl, hv, hy, zs.2 _ rfl, zt, hm, _, rfl, tail _ rfl⟩
  | some p =>
    have hu : Rq K H u p := hu
    obtain ⟨c, rfl, _⟩ := id hu
    refine ifT rfl ?_
    refine ⟨_, rfl, _, rfl, a, _, _, _, rfl, rfl, ha, at0 rfl, _, _, t, p, j, m, rfl, hy, hu, zt, zs.1 _ rfl, by omega, _, rfl, ifD (fun g => ?_) (fun g => ?_)⟩
    · refine hz false ?_
      unfold inS aboveO
      simp [g]
    have tail := tail (by unfold aboveO; simp [g])
    refine ⟨_, rfl, a, _, _, _, rfl, rfl, ha, at1 rfl, rfl, ?_⟩
    cases hi with
    | none =>
      cases (show v = .non from hv)
      exact ⟨_, rfl, ifT rfl (tail _ rfl)⟩
    | some q =>
      have hv : Rq K H v q := hv
      obtain ⟨b, rfl, _⟩ := id hv
      refine ⟨_, rfl, ifF rfl ?_⟩
      refine ⟨_, rfl, a, _, _, _, rfl, rfl, ha, at1 rfl, _, rfl, _, _, q, t, m, j, rfl, hv, hy, zs.2 _ rfl, zt, hm, _, rfl, tail _ rfl⟩
end Vk
namespace Vk
open PySem L2 Vm Vs
variable {l az : Addr} {P : Program} {w : World} {K : PySem.W.Frag} {mg : Str → Option Value} {base : Heap} {k : Nat} {f f1 f2 f3 f4 f5 f6 f7 f8 f9 : Addr} {fd fd1 fd2 fd3 fd4 fd5 fd6 fd7 fd8 fd9 : FuncData}
abbrev s__law_is_span : Stmt := top 68
abbrev N__law_is_span : List Str := ["_law_value", "_law_one"]
theorem sc__law_is_span : FnScope N__law_is_span ["_law_value"] (defScope s__law_is_span) := ⟨rfl, rfl, rfl, by decide +kernel, rfl, by decide +kernel, by decide +kernel⟩
abbrev ps__law_is_span : List Str := ["_law_value"]
def spIsSpan (K : PySem.W.Frag) : Sp := fun vs H Q _ => ∃ (x : V) (s : Spn) (m : Nat), vs = [x] ∧ Spq K H x s ∧ SSz m s ∧ m ≤ 4000 ∧ crossed s.1 s.2 = false ∧ ∀ H', Same H H' → Q (.bl true) H'
theorem ok_is_span (T : Bn mg) (F : Fn K mg "_law_is_span" s__law_is_span ps__law_is_span f fd) (d_law_is_frac : Def P w K mg base k "_law_is_frac" ["_law_value"] (spIsFrac K) f1 fd1) (d_law_below : Def P w K mg base k "_law_below" ["_law_a", "_law_b"] (spTest2 K fun p q => .bl (decide (p < q))) f2 fd2) :
    Def P w K mg base (k + 1) "_law_is_span" ps__law_is_span (spIsSpan K) f fd := by
  refine ⟨F.F.ok sc__law_is_span (fun vs H Q E h => ?_) (fun cdv A outer s H vs Q E hr h => ?_), F.m, F.F.kp, F.b⟩
  · obtain ⟨_, _, _, rfl, _⟩ := h
    rfl
  obtain ⟨x, s, m, rfl, ⟨a, u, v, rfl, ha, hu, hv⟩, zs, hm, hc, z⟩ := h
  refine ⟨_, (pss_cons (ps_if (PW.pt (pw_or (pt_not (pt_val (pe_callB call_isi (by rfl) T.isinstance_ (by decide +kernel) (pa_cons (pv 0) (pa_cons (pe_bltn (v := .ty "tuple") (by rfl) T.tuple_ (by decide +kernel) rfl) pa_nil))))) (pw_or1 (pt_cmpR op_ne (pe_callB call_len_seq (by rfl) T.len_ PySem.boot_len (pa_cons (pv 0) pa_nil)) pe_int (nomark _)))))
        (pss_one (ps_ret pe_bl))
        pss_nil)
      (pss_cons (ps_for PassesOwn.never rfl (pi_tup (pv 0)) (pg_name (i := 1) sc__law_is_span.nd rfl (Or.inl rfl))
        (pss_one (ps_if (PW.pt (pw_and (pt_cmpR op_notN (pv 1) pe_non (nomark _)) (pw_and1 (pt_not (pt_val (pcall d_law_is_frac hr (pa_cons (pv 1) pa_nil)))))))
          (pss_one (ps_ret pe_bl))
          pss_nil)))
      (pss_one (ps_ret (pe_or (pe_cmpR op_isN (pe_ix ix_tup (pv 0) pe_int (fun _ _ => rfl)) pe_non (nomark _)) (pe_or (pe_cmpR op_isN (pe_ix ix_tup (pv 0) pe_int (fun _ _ => rfl)) pe_non (nomark _)) (pe_one (pe_not (pcall d_law_below hr (pa_cons (pe_ix ix_tup (pv 0) pe_int (fun _ _ => rfl)) (pa_cons (pe_ix ix_tup (pv 0) pe_int (fun _ _ => rfl)) pa_nil))))))))))), ?_⟩
  have ta := sqt_ty ha
  refine ⟨_, rfl, _, _, _, _, true, rfl, .ty _, ta, kit_ty (by decide +kernel), _, rfl, ifF rfl ⟨_, rfl, a, _, rfl, .inr ha, rfl, _, rfl, ifF rfl ?_⟩⟩
  refine ⟨_, rfl, a, rfl, ⟨_, ha⟩, for_tup (K := K) (a := a) (xs := [u, v]) (fun i σ G => ∃ k1, σ = [some (.ref a), k1] ∧ Same H G) ⟨none, rfl, Same.refl _⟩ (fun i σ G _ h => by obtain ⟨_, _, s1⟩ := h; exact s1.sqt ha) ?_ ?_⟩
  · rintro i x σ G hxi ⟨k1, rfl, s1⟩
    have ho : ∃ o, optV K H x o ∧ OSz m o := by
      match i, hxi with
      | 0, h => cases h; exact ⟨_, hu, zs.1⟩
      | 1, h => cases h; exact ⟨_, hv, zs.2⟩
    obtain ⟨o, hox, zo⟩ := ho
    cases o with
    | none =>
      cases (show x = .non from hox)
      exact ⟨_, rfl, rfl, _, rfl, ifF rfl (ifF rfl ⟨_, rfl, s1⟩)⟩
    | some q =>
      have hox : Rq K H x q := hox
      obtain ⟨c, rfl, _⟩ := id hox
      exact ⟨_, rfl, rfl, _, rfl, ifT rfl ⟨_, rfl, _, q, m, rfl, hox.same s1, zo _ rfl, by omega, fun G2 e2 => ⟨_, rfl, ifF rfl ⟨_, rfl, s1.trans e2⟩⟩⟩⟩
  · rintro σ G ⟨k1, rfl, s1⟩
    replace ha := s1.sqt ha
    replace hu := hu.same s1
    replace hv := hv.same s1
    refine ⟨_, rfl, a, _, _, _, rfl, rfl, ha, at0 rfl, rfl, ?_⟩
    obtain ⟨lo, hi⟩ := s
    dsimp only at hu hv hc
    cases lo with
    | none =>
      cases (show u = .non from hu)
      exact ⟨_, rfl, ifT rfl (z _ s1)⟩
    | some p =>
      have hu : Rq K G u p := hu
      obtain ⟨c, rfl, _⟩ := id hu
      refine ⟨_, rfl, ifF rfl ?_⟩
      refine ⟨_, rfl, a, _, _, _, rfl, rfl, ha, at1 rfl, rfl, ?_⟩
      cases hi with
      | none =>
        cases (show v = .non from hv)
        exact ⟨_, rfl, ifT rfl (z _ s1)⟩
      | some q =>
        have hv : Rq K G v q := hv
        obtain ⟨b, rfl, _⟩ := id hv
        refine ⟨_, rfl, ifF rfl ?_⟩
        have hc : ¬ q < p := of_decide_eq_false hc
        refine ⟨_, rfl, a, _, _, _, rfl, rfl, ha, at1 rfl, _, rfl, a, _, _, _, rfl, rfl, ha, at0 rfl, _, _, q, p, m, m, rfl, hv, hu, zs.2 _ rfl, zs.1 _ rfl, by omega, _, rfl, ?_⟩
        rw [dF hc]
        exact z _ s1
/-- drawn stamps -/
def Td (K : PySem.W.Frag) (H : Hp) (v : V) : Prop := ∃ t, T4 K H v t ∧ Z4 40 t
theorem Td.same {H H' : Hp} {v : V} (e : Same H H') (h : Td K H v) : Td K H' v := by
  obtain ⟨q, h, r⟩ := h
  exact ⟨q, h.same e, r⟩
theorem Td.fr {s : Addr} {H H' : Hp} {v : V} (e : Fr s H H') (hs : ∃ ys, H s = some (.lst ys)) (h : Td K H v) : Td K H' v := by
  obtain ⟨q, h, r⟩ := h
  exact ⟨q, h.fr e hs, r⟩
theorem td_of {H : Hp} {p : Addr} {us : List V} {qs : List Rat} (h : SqT K H p us) (A : All2 (Rq K H) us qs) (l : qs.length = 4) (z : ∀ q ∈ qs, Sz 40 q) : Td K H (.ref p) := by
  match qs, l with
  | [a, b, c, d], _ =>
    have hl := A.1
    match us, hl with
    | [x1, x2, x3, x4], _ =>
      exact ⟨⟨a, b, c, d⟩, ⟨p, x1, x2, x3, x4, rfl, h, A.2 0 _ _ rfl rfl, A.2 1 _ _ rfl rfl, A.2 2 _ _ rfl rfl, A.2 3 _ _ rfl rfl⟩, z a (by simp), z b (by simp), z c (by simp), z d (by simp)⟩
def spStamps (K : PySem.W.Frag) (l : Addr) : Sp := fun vs H Q _ => ∃ (s : Addr), vs = [.ref s] ∧ Sto l s H ∧ ∀ (v : V) H', Td K H' v → Sto l s H' → Fr s H H' → Q v H'
/-! ### spans round a delay -/
def spRound (K : PySem.W.Frag) (l : Addr) : Sp := fun vs H Q _ => ∃ (s : Addr) (x : V) (q : Rat), vs = [.ref s, x] ∧ Sto l s H ∧ Rq K H x q ∧ Sz 87 q ∧ ∀ (v : V) H', Sd K 100 H' v → Sto l s H' → Fr s H H' → Q v H'
def Od (K : PySem.W.Frag) (m : Nat) (H : Hp) (v : V) : Prop := ∃ o, optV K H v o ∧ OSz m o
theorem Od.same {m : Nat} {H H' : Hp} {v : V} (e : Same H H') (h : Od K m H v) : Od K m H' v := by
  obtain ⟨q, h, r⟩ := h
  exact ⟨q, h.same e, r⟩
theorem Od.fr {m : Nat} {s : Addr} {H H' : Hp} {v : V} (e : Fr s H H') (hs : ∃ ys, H s = some (.lst ys)) (h : Od K m H v) : Od K m H' v := by
  obtain ⟨q, h, r⟩ := h
  exact ⟨q, h.fr e hs, r⟩
theorem Od.non {m : Nat} {H : Hp} : Od K m H .non := ⟨none, rfl, osz_none⟩
theorem Od.q {m : Nat} {H : Hp} {v : V} {q : Rat} (h : Rq K H v q) (z : Sz m q) : Od K m H v := ⟨some q, h, osz_some z⟩
def spWideS (K : PySem.W.Frag) (l : Addr) : Sp := fun vs H Q _ => ∃ (s : Addr), vs = [.ref s] ∧ Sto l s H ∧ ∀ (v : V) H', Sd K 100 H' v → Sto l s H' → Fr s H H' → Q v H'
end Vk


namespace Vk
open PySem L2 Vm Vl
variable {l aZERO aONE CB CR fB fR : Addr} {P : Program} {w : World} {K : PySem.W.Frag} {mg : Str → Option Value} {base : Heap} {k : Nat} {f f1 f2 f3 f4 f5 f6 f7 f8 f9 : Addr} {fd fd1 fd2 fd3 fd4 fd5 fd6 fd7 fd8 fd9 : FuncData}
/-- a rational of the module -/
structure Cn (K : PySem.W.Frag) (mg : Str → Option Value) (x : Str) (p : Rat) (a : Addr) : Prop where
  m : mg x = some (.ref a)
  q : ∀ H, Rq K H (.ref a) p
theorem zz1 : Sz 1 (0 : Rat) := by decide +kernel
theorem zo1 : Sz 1 (1 : Rat) := by decide +kernel
def spNB (K : PySem.W.Frag) (CB : Addr) : Sp := fun vs H Q E => ∃ (x : V) (q : Rat) (m : Nat), vs = [x] ∧ Rq K H x q ∧ Sz m q ∧ m ≤ 8000 ∧ (0 ≤ q → Q .non H) ∧ (q < 0 → eV E CB H x)
def spSD (K : PySem.W.Frag) (CR : Addr) : Sp := fun vs H Q E => ∃ (x y : V) (s d : Rat) (m : Nat), vs = [x, y] ∧ Rq K H x s ∧ Rq K H y d ∧ Sz m s ∧ Sz m d ∧ m ≤ 4000 ∧
  (0 < s → s < 1 → 0 ≤ d → d < s → Q .non H) ∧ (s ≤ 0 ∨ 1 ≤ s → eV E CR H x) ∧ (0 < s → s < 1 → d < 0 ∨ s ≤ d → eV E CR H y)
theorem sg_le' {p q : Rat} : sg p q ≤ 0 ↔ p ≤ q := by
  have h := @sg_lt p q
  have g := @sg_ge p q
  constructor
  · intro e
    by_cases z : sg p q < 0
    · have := h.mp z; grind
    · have e0 : sg p q = 0 := by omega
      unfold sg at e0
      split at e0
      · rename_i hh; rw [hh]; exact Rat.le_refl
      · split at e0 <;> omega
  · intro e
    by_cases z : p < q
    · have := h.mpr z; omega
    · have e2 : p = q := by grind
      unfold sg
      rw [if_pos e2]
      omega
/-- the five arguments of a lap -/
structure L5 (K : PySem.W.Frag) (H : Hp) (xb xh xl xs xd : V) (x : A6) (m : Nat) : Prop where
  b : Rq K H xb x.b
  h : Rq K H xh x.h
  l : Rq K H xl x.l
  s : Rq K H xs x.s
  d : Rq K H xd x.d
  zb : Sz m x.b
  zh : Sz m x.h
  zl : Sz m x.l
  zs : Sz m x.s
  zd : Sz m x.d
theorem L5.same {H H' : Hp} {xb xh xl xs xd : V} {x : A6} {m : Nat} (h : L5 K H xb xh xl xs xd x m) (e : Same H H') : L5 K H' xb xh xl xs xd x m := { h with b := h.b.same e, h := h.h.same e, l := h.l.same e, s := h.s.same e, d := h.d.same e }
theorem L5.fr {s : Addr} {H H' : Hp} {xb xh xl xs xd : V} {x : A6} {m : Nat} (h : L5 K H xb xh xl xs xd x m) (e : Fr s H H') (hs : ∃ ys, H s = some (.lst ys)) : L5 K H' xb xh xl xs xd x m := { h with b := h.b.fr e hs, h := h.h.fr e hs, l := h.l.fr e hs, s := h.s.fr e hs, d := h.d.fr e hs }
/-- the first wrong argument: what it wishes of an error -/
def Fault (x : A6) (W : Bool → Nat → Prop) : Prop :=
  (x.b < 0 → W true 0) ∧ (0 ≤ x.b → x.h < 0 → W true 1) ∧ (0 ≤ x.b → 0 ≤ x.h → x.l ≤ 0 → W true 2) ∧ (0 ≤ x.b → 0 ≤ x.h → 0 < x.l → x.s ≤ 0 ∨ 1 ≤ x.s → W false 3) ∧
    (0 ≤ x.b → 0 ≤ x.h → 0 < x.l → 0 < x.s → x.s < 1 → x.d < 0 ∨ x.s ≤ x.d → W false 4)
def eF (E : XK) (CB CR : Addr) (H : Hp) (ys : List V) : Bool → Nat → Prop := fun b i => ∀ y, ys[i]? = some y → eV E (if b = true then CB else CR) H y
def spLap (K : PySem.W.Frag) (CB CR : Addr) : Sp := fun vs H Q E => ∃ (xb xh xl xs xd : V) (x : A6) (m : Nat), vs = [xb, xh, xl, xs, xd] ∧ L5 K H xb xh xl xs xd x m ∧ m ≤ 4000 ∧ (Good x → Q .non H) ∧ Fault x (eF E CB CR H [xb, xh, xl, xs, xd])
def spBehind (K : PySem.W.Frag) : Sp := fun vs H Q _ => ∃ (xb xh xl xs xd : V) (x : A6) (m : Nat), vs = [xb, xh, xl, xs, xd] ∧ L5 K H xb xh xl xs xd x m ∧ m ≤ 1500 ∧ ∀ v H', Same H H' → Rq K H' v (nextB x x.b) → Q v H'
def spAfter (K : PySem.W.Frag) (CB CR : Addr) : Sp := fun vs H Q E => ∃ (xb xh xl xs xd : V) (x : A6) (m : Nat), vs = [xb, xh, xl, xs, xd] ∧ L5 K H xb xh xl xs xd x m ∧ m ≤ 1500 ∧ (Good x → ∀ v H', Same H H' → Rq K H' v (nextB x x.b) → Q v H') ∧ Fault x (eF E CB CR H [xb, xh, xl, xs, xd])
end Vk
namespace Vk
open PySem L2 Vm Vl
variable {l : Addr} {P : Program} {w : World} {K : PySem.W.Frag} {mg : Str → Option Value} {base : Heap} {k : Nat} {f f1 f2 f3 f4 f5 f6 f7 f8 f9 : Addr} {fd fd1 fd2 fd3 fd4 fd5 fd6 fd7 fd8 fd9 : FuncData}
/-! ### written fractions compared -/
theorem mkm {n d : Int} (hd : 0 < d) : mkRat n d.toNat * (d : Rat) = (n : Rat) := by
  obtain ⟨m, rfl⟩ : ∃ m : Nat, d = (m : Int) := ⟨d.toNat, by omega⟩
  rw [Int.toNat_natCast, Rat.mkRat_eq_div]
  have h : ((m : Nat) : Rat) = (((m : Nat) : Int) : Rat) := rfl
  rw [h]
  refine Rat.div_mul_cancel fun e => ?_
  have : ((m : Int) : Rat) = ((0 : Int) : Rat) := e
  have := Rat.intCast_inj.mp this
  omega
theorem qle {n d m e : Int} (hd : 0 < d) (he : 0 < e) (h : n * e ≤ m * d) : mkRat n d.toNat ≤ mkRat m e.toNat := by
  have p := mkm (n := n) hd
  have q := mkm (n := m) he
  generalize mkRat n d.toNat = a at p
  generalize mkRat m e.toNat = b at q
  have hd' : (0 : Rat) < (d : Rat) := by exact_mod_cast hd
  have he' : (0 : Rat) < (e : Rat) := by exact_mod_cast he
  have h' : (n : Rat) * (e : Rat) ≤ (m : Rat) * (d : Rat) := by exact_mod_cast h
  by_cases z : a ≤ b
  · exact z
  · exfalso
    have z := Rat.not_le.mp z
    have de := Rat.mul_pos hd' he'
    have := Rat.mul_lt_mul_of_pos_right z de
    have e1 : a * ((d : Rat) * (e : Rat)) = (n : Rat) * (e : Rat) := by rw [← p]; grind
    have e2 : b * ((d : Rat) * (e : Rat)) = (m : Rat) * (d : Rat) := by rw [← q]; grind
    rw [e1, e2] at this
    exact absurd this (Rat.not_lt.mpr h')
theorem qlt {n d m e : Int} (hd : 0 < d) (he : 0 < e) (h : n * e < m * d) : mkRat n d.toNat < mkRat m e.toNat := by
  have p := mkm (n := n) hd
  have q := mkm (n := m) he
  generalize mkRat n d.toNat = a at p
  generalize mkRat m e.toNat = b at q
  have hd' : (0 : Rat) < (d : Rat) := by exact_mod_cast hd
  have he' : (0 : Rat) < (e : Rat) := by exact_mod_cast he
  have h' : (n : Rat) * (e : Rat) < (m : Rat) * (d : Rat) := by exact_mod_cast h
  by_cases z : a < b
  · exact z
  · exfalso
    have z := Rat.not_lt.mp z
    have de := Rat.mul_pos hd' he'
    have := Rat.mul_le_mul_of_nonneg_right z (show (0 : Rat) ≤ (d : Rat) * (e : Rat) by grind)
    have e1 : a * ((d : Rat) * (e : Rat)) = (n : Rat) * (e : Rat) := by rw [← p]; grind
    have e2 : b * ((d : Rat) * (e : Rat)) = (m : Rat) * (d : Rat) := by rw [← q]; grind
    rw [e1, e2] at this
    exact absurd this (Rat.not_le.mpr h')
def ge6 : Rat → Prop := fun q => mkRat 1 6 ≤ q
def nnQ : Rat → Prop := fun q => 0 ≤ q
def negQ : Rat → Prop := fun q => q < 0
def npQ : Rat → Prop := fun q => q ≤ 0
def outQ : Rat → Prop := fun q => q ≤ 0 ∨ 1 ≤ q
instance (q : Rat) : Decidable (ge6 q) := inferInstanceAs (Decidable (_ ≤ _))
instance (q : Rat) : Decidable (nnQ q) := inferInstanceAs (Decidable (_ ≤ _))
instance (q : Rat) : Decidable (negQ q) := inferInstanceAs (Decidable (_ < _))
instance (q : Rat) : Decidable (npQ q) := inferInstanceAs (Decidable (_ ≤ _))
instance (q : Rat) : Decidable (outQ q) := inferInstanceAs (Decidable (_ ∨ _))
theorem r01 : mkRat 0 1 = 0 := by decide +kernel
theorem Qd.imp {m j : Nat} {ok ok' : Rat → Prop} {H : Hp} {v : V} (h : Qd K m ok H v) (e : m ≤ j) (g : ∀ q, ok q → ok' q) : Qd K j ok' H v := by
  obtain ⟨q, r, z, o⟩ := h
  exact ⟨q, r, z.mono e, g q o⟩
theorem ok_above6 (F : Fn K mg "_law_above" s__law_above ps__law_above f fd) (d_law_take : Def P w K mg base k "_law_take" ["_law_store_here", "_law_many"] (spTake K l) f1 fd1) (d_law_frac : Def P w K mg base k "_law_frac" ["_law_n", "_law_d"] (spFrac K) f3 fd3) : Def P w K mg base (k + 1) "_law_above" ps__law_above (spDraw K l 5 ge6) f fd := by
  refine ⟨F.F.ok sc__law_above (fun vs H Q E h => ?_) (fun cdv A outer s H vs Q E hr h => ?_), F.m, F.F.kp, F.b⟩
  · obtain ⟨_, rfl, _⟩ := h
    rfl
  obtain ⟨s, rfl, hS, z⟩ := h
  refine ⟨_, (pss_cons (ps_if (pt_cmpR op_eq (pcall d_law_take hr (pa_cons (pv 0) (pa_cons pe_int pa_nil))) pe_int (nomark _))
        (pss_one (ps_ret (pe_tup (pa_cons pe_int (pa_cons pe_int pa_nil)))))
        pss_nil)
      (pss_one (ps_ret (pcall d_law_frac hr (pa_cons (pe_op op_add pe_int (pcall d_law_take hr (pa_cons (pv 0) (pa_cons pe_int pa_nil)))) (pa_cons (pe_op op_add pe_int (pcall d_law_take hr (pa_cons (pv 0) (pa_cons pe_int pa_nil)))) pa_nil)))))), ?_⟩
  refine ⟨_, rfl, s, 4, rfl, hS, by decide, fun r H1 r0 r1 S1 e1 => ?_⟩
  refine ⟨rfl, _, rfl, ifD (fun _ => ?_) (fun _ => ?_)⟩
  · exact ⟨sz2, fun t ht => z _ _ (Qd.new 1 1 1 rfl rfl (by decide) (by decide +kernel)) (S1.same (same_new ht _)) (e1.trans (Fr.of (same_new ht _)))⟩
  refine ⟨_, rfl, s, 24, rfl, S1, by decide, fun r2 H2 r3 r4 S2 e2 => ⟨_, _, rfl, rfl, ?_⟩⟩
  refine ⟨_, rfl, s, 6, rfl, S2, by decide, fun r5 H3 r6 r7 S3 e3 => ⟨_, _, rfl, rfl, ?_⟩⟩
  refine ⟨_, _, 5, rfl, by omega, lt2 25 (by omega) (by decide), lt2 7 (by omega) (by decide), by decide, fun v H' e hv => z _ _ ⟨_, hv, sz_mk (by omega) ?_ ?_, ?_⟩ (S3.same e) (e1.trans (e2.trans (e3.trans (Fr.of e))))⟩
  · exact lt2 25 (by omega) (by decide)
  · have : (2 : Nat) ^ 5 = 32 := by decide
    omega
  · exact qle (n := 1) (d := 6) (by decide) (by omega) (by omega)
abbrev s__law_spare : Stmt := top 65
abbrev N__law_spare : List Str := ["_law_store_here"]
theorem sc__law_spare : FnScope N__law_spare ["_law_store_here"] (defScope s__law_spare) := ⟨rfl, rfl, rfl, by decide +kernel, rfl, by decide +kernel, by decide +kernel⟩
abbrev ps__law_spare : List Str := ["_law_store_here"]
theorem ok_spareN (F : Fn K mg "_law_spare" s__law_spare ps__law_spare f fd) (d_law_take : Def P w K mg base k "_law_take" ["_law_store_here", "_law_many"] (spTake K l) f1 fd1) (d_law_frac : Def P w K mg base k "_law_frac" ["_law_n", "_law_d"] (spFrac K) f3 fd3) : Def P w K mg base (k + 1) "_law_spare" ps__law_spare (spDraw K l 5 nnQ) f fd := by
  refine ⟨F.F.ok sc__law_spare (fun vs H Q E h => ?_) (fun cdv A outer s H vs Q E hr h => ?_), F.m, F.F.kp, F.b⟩
  · obtain ⟨_, rfl, _⟩ := h
    rfl
  obtain ⟨s, rfl, hS, z⟩ := h
  refine ⟨_, (pss_cons (ps_if (pt_cmpR op_eq (pcall d_law_take hr (pa_cons (pv 0) (pa_cons pe_int pa_nil))) pe_int (nomark _))
        (pss_one (ps_ret (pe_tup (pa_cons pe_int (pa_cons pe_int pa_nil)))))
        pss_nil)
      (pss_one (ps_ret (pcall d_law_frac hr (pa_cons (pcall d_law_take hr (pa_cons (pv 0) (pa_cons pe_int pa_nil))) (pa_cons (pe_op op_add pe_int (pcall d_law_take hr (pa_cons (pv 0) (pa_cons pe_int pa_nil)))) pa_nil)))))), ?_⟩
  refine ⟨_, rfl, s, 4, rfl, hS, by decide, fun r H1 r0 r1 S1 e1 => ?_⟩
  refine ⟨rfl, _, rfl, ifD (fun _ => ?_) (fun _ => ?_)⟩
  · exact ⟨sz2, fun t ht => z _ _ (Qd.new 0 1 0 rfl rfl (by decide) (by decide +kernel)) (S1.same (same_new ht _)) (e1.trans (Fr.of (same_new ht _)))⟩
  refine ⟨_, rfl, s, 25, rfl, S1, by decide, fun r2 H2 r3 r4 S2 e2 => ?_⟩
  refine ⟨_, rfl, s, 6, rfl, S2, by decide, fun r5 H3 r6 r7 S3 e3 => ⟨_, _, rfl, rfl, ?_⟩⟩
  refine ⟨_, _, 5, rfl, by omega, lt2 25 (by omega) (by decide), lt2 7 (by omega) (by decide), by decide, fun v H' e hv => z _ _ ⟨_, hv, sz_mk (by omega) ?_ ?_, ?_⟩ (S3.same e) (e1.trans (e2.trans (e3.trans (Fr.of e))))⟩
  · exact lt2 25 (by omega) (by decide)
  · have : (2 : Nat) ^ 5 = 32 := by decide
    omega
  · have := qle (n := 0) (d := 1) (m := r2) (e := 1 + r5) (by decide) (by omega) (by omega)
    show (0 : Rat) ≤ _
    rw [← r01]
    exact this
/-! ### slews -/
def SlOk (s d : Rat) : Prop := mkRat 1 20 ≤ s ∧ s < 1 ∧ 0 ≤ d ∧ 8 * d ≤ 7 * s
def Sl (K : PySem.W.Frag) (m : Nat) (ok : Rat → Rat → Prop) (H : Hp) (v : V) : Prop := ∃ r xs xd s d, v = .ref r ∧ SqT K H r [xs, xd] ∧ Rq K H xs s ∧ Rq K H xd d ∧ Sz m s ∧ Sz m d ∧ ok s d
theorem Sl.same {m : Nat} {ok : Rat → Rat → Prop} {H H' : Hp} {v : V} (e : Same H H') (h : Sl K m ok H v) : Sl K m ok H' v := by
  obtain ⟨r, xs, xd, s, d, rfl, h, h1, h2, r'⟩ := h
  exact ⟨r, xs, xd, s, d, rfl, e.sqt h, h1.same e, h2.same e, r'⟩
theorem Sl.fr {m : Nat} {ok : Rat → Rat → Prop} {s : Addr} {H H' : Hp} {v : V} (e : Fr s H H') (hs : ∃ ys, H s = some (.lst ys)) (h : Sl K m ok H v) : Sl K m ok H' v := by
  obtain ⟨r, xs, xd, s, d, rfl, h, h1, h2, r'⟩ := h
  exact ⟨r, xs, xd, s, d, rfl, sqt_fr e hs h, h1.fr e hs, h2.fr e hs, r'⟩
theorem sl_new {m : Nat} {ok : Rat → Rat → Prop} {H : Hp} {t : Addr} {u v : V} {s d : Rat} (ht : H t = none) (hu : Rq K H u s) (hv : Rq K H v d) (zs : Sz m s) (zd : Sz m d) (o : ok s d) : Sl K m ok (upd H t (.tup [u, v])) (.ref t) :=
  ⟨t, u, v, s, d, rfl, SqT.of upd_same, hu.same (same_new ht _), hv.same (same_new ht _), zs, zd, o⟩
def spSl (K : PySem.W.Frag) (l : Addr) : Sp := fun vs H Q _ => ∃ (s : Addr), vs = [.ref s] ∧ Sto l s H ∧ ∀ (v : V) H', Sl K 24 SlOk H' v → Sto l s H' → Fr s H H' → Q v H'
end Vk
namespace Vk
open PySem L2 Vm Vl
variable {l : Addr} {P : Program} {w : World} {K : PySem.W.Frag} {mg : Str → Option Value} {base : Heap} {k : Nat} {f f1 f2 f3 f4 f5 f6 f7 f8 f9 : Addr} {fd fd1 fd2 fd3 fd4 fd5 fd6 fd7 fd8 fd9 : FuncData}
theorem z1000 : Sz 10 (mkRat 1 1000) := by decide +kernel
abbrev s__law_negative : Stmt := top 71
abbrev N__law_negative : List Str := ["_law_store_here"]
theorem sc__law_negative : FnScope N__law_negative ["_law_store_here"] (defScope s__law_negative) := ⟨rfl, rfl, rfl, by decide +kernel, rfl, by decide +kernel, by decide +kernel⟩
abbrev ps__law_negative : List Str := ["_law_store_here"]
theorem ok_negative (F : Fn K mg "_law_negative" s__law_negative ps__law_negative f fd) (d_law_pick : Def P w K mg base k "_law_pick" ["_law_store_here", "_law_things"] (spPick K l) f1 fd1) (d_law_minus : Def P w K mg base k "_law_minus" ["_law_a", "_law_b"] (spOp2 K (· - ·)) f2 fd2) (d_law_above : Def P w K mg base k "_law_above" ["_law_store_here"] (spDraw K l 5 ge6) f3 fd3) :
    Def P w K mg base (k + 1) "_law_negative" ps__law_negative (spDraw K l 20 negQ) f fd := by
  refine ⟨F.F.ok sc__law_negative (fun vs H Q E h => ?_) (fun cdv A outer s H vs Q E hr h => ?_), F.m, F.F.kp, F.b⟩
  · obtain ⟨_, rfl, _⟩ := h
    rfl
  obtain ⟨s, rfl, hS, z⟩ := h
  refine ⟨_, (pss_one (ps_ret (pcall d_law_pick hr (pa_cons (pv 0) (pa_cons (pe_lst (pa_cons (pe_tup (pa_cons (pe_un un_neg pe_int) (pa_cons pe_int pa_nil))) (pa_cons (pe_tup (pa_cons (pe_un un_neg pe_int) (pa_cons pe_int pa_nil))) (pa_cons (pcall d_law_minus hr (pa_cons (pe_tup (pa_cons pe_int (pa_cons pe_int pa_nil))) (pa_cons (pcall d_law_above hr (pa_cons (pv 0) pa_nil)) pa_nil))) pa_nil)))) pa_nil))))), ?_⟩
  refine ⟨_, rfl, _, rfl, sz2, fun t1 h1 => ?_⟩
  have c1 := same_new h1 (.tup [.int (-1), .int 1]); have q1 := Qd.new (K := K) (m := 20) (ok := negQ) (H := H) (t := t1) (-1) 1 (-1) (by decide) (by decide) (by decide) (by decide); generalize upd H t1 (.tup [.int (-1), .int 1]) = G1 at c1 q1 ⊢
  refine ⟨_, rfl, sz2, fun t2 h2 => ?_⟩
  have c2 := same_new h2 (.tup [.int (-1), .int 1000]); have q2 := Qd.new (K := K) (m := 20) (ok := negQ) (H := G1) (t := t2) (-1) 1000 (mkRat (-1) 1000) (by decide) (by decide) (by decide) (by decide); generalize upd G1 t2 (.tup [.int (-1), .int 1000]) = G2 at c2 q2 ⊢
  refine ⟨sz2, fun t3 h3 => ?_⟩
  have c3 := same_new h3 (.tup [.int 0, .int 1])
  have r0 : Rq K (upd G2 t3 (.tup [.int 0, .int 1])) (.ref t3) 0 := rq_new 0 1 0 (by decide +kernel) (by decide +kernel)
  generalize upd G2 t3 (.tup [.int 0, .int 1]) = G3 at c3 r0 ⊢
  have S3 := hS.same (c1.trans (c2.trans c3))
  refine ⟨_, rfl, s, rfl, S3, fun va G4 qa S4 e4 => ?_⟩
  obtain ⟨b, rb, zb, ob⟩ := qa
  have ob : mkRat 1 6 ≤ b := ob
  have b0 : 0 < b := by
    have : (0 : Rat) < mkRat 1 6 := by decide +kernel
    grind
  refine ⟨_, _, 0, b, 1, 5, rfl, r0.fr e4 S3.some, rb, zz1, zb, by decide, fun v5 G5 e5 h5 => ⟨sm3, fun p hp => ?_⟩⟩
  have sp := same_new hp (.lst [.ref t1, .ref t2, v5])
  have S5 := (S4.same e5).same sp
  have q1 := ((((q1.same c2).same c3).fr e4 S3).same e5).same sp
  have q2 := (((q2.same c3).fr e4 S3).same e5).same sp
  have q3 : Qd K 20 negQ (upd G5 p (.lst [.ref t1, .ref t2, v5])) v5 := ⟨0 - b, h5.same sp, (zz1.sub zb).mono (by decide), (by show 0 - b < 0; grind)⟩
  refine ⟨s, p, _, rfl, S5, (S4.same e5).ne hp, SqL.of upd_same, (by show 0 < 3; decide), (by show 3 < 2 ^ 32; decide), fun v H' hv S' e' => ?_⟩
  refine z _ _ (Qd.fr e' S5 ?_) S' ((Fr.of (c1.trans (c2.trans c3))).trans (e4.trans ((Fr.of (e5.trans sp)).trans e')))
  simp only [List.mem_cons, List.mem_nil_iff, or_false] at hv
  rcases hv with rfl | rfl | rfl <;> assumption
abbrev s__law_not_above : Stmt := top 72
abbrev N__law_not_above : List Str := ["_law_store_here"]
theorem sc__law_not_above : FnScope N__law_not_above ["_law_store_here"] (defScope s__law_not_above) := ⟨rfl, rfl, rfl, by decide +kernel, rfl, by decide +kernel, by decide +kernel⟩
abbrev ps__law_not_above : List Str := ["_law_store_here"]
theorem ok_not_above (F : Fn K mg "_law_not_above" s__law_not_above ps__law_not_above f fd) (d_law_pick : Def P w K mg base k "_law_pick" ["_law_store_here", "_law_things"] (spPick K l) f1 fd1) (d_law_negative : Def P w K mg base k "_law_negative" ["_law_store_here"] (spDraw K l 20 negQ) f2 fd2) :
    Def P w K mg base (k + 1) "_law_not_above" ps__law_not_above (spDraw K l 20 npQ) f fd := by
  refine ⟨F.F.ok sc__law_not_above (fun vs H Q E h => ?_) (fun cdv A outer s H vs Q E hr h => ?_), F.m, F.F.kp, F.b⟩
  · obtain ⟨_, rfl, _⟩ := h
    rfl
  obtain ⟨s, rfl, hS, z⟩ := h
  refine ⟨_, (pss_one (ps_ret (pcall d_law_pick hr (pa_cons (pv 0) (pa_cons (pe_lst (pa_cons (pe_tup (pa_cons pe_int (pa_cons pe_int pa_nil))) (pa_cons (pe_tup (pa_cons pe_int (pa_cons pe_int pa_nil))) (pa_cons (pcall d_law_negative hr (pa_cons (pv 0) pa_nil)) pa_nil)))) pa_nil))))), ?_⟩
  refine ⟨_, rfl, sz2, fun t1 h1 => ?_⟩
  have c1 := same_new h1 (.tup [.int 0, .int 1]); have q1 := Qd.new (K := K) (m := 20) (ok := npQ) (H := H) (t := t1) 0 1 (0) (by decide) (by decide) (by decide) (by decide); generalize upd H t1 (.tup [.int 0, .int 1]) = G1 at c1 q1 ⊢
  refine ⟨sz2, fun t2 h2 => ?_⟩
  have c2 := same_new h2 (.tup [.int 0, .int 1]); have q2 := Qd.new (K := K) (m := 20) (ok := npQ) (H := G1) (t := t2) 0 1 (0) (by decide) (by decide) (by decide) (by decide); generalize upd G1 t2 (.tup [.int 0, .int 1]) = G2 at c2 q2 ⊢
  have S2 := hS.same (c1.trans c2)
  refine ⟨_, rfl, s, rfl, S2, fun va G4 qa S4 e4 => ⟨sm3, fun p hp => ?_⟩⟩
  have sp := same_new hp (.lst [.ref t1, .ref t2, va])
  have S5 := S4.same sp
  have q1 := ((q1.same c2).fr e4 S2).same sp
  have q2 := (q2.fr e4 S2).same sp
  have q3 : Qd K 20 npQ (upd G4 p (.lst [.ref t1, .ref t2, va])) va := (qa.same sp).imp (Nat.le_refl _) fun q h => by have h : q < 0 := h; show q ≤ 0; grind
  refine ⟨s, p, _, rfl, S5, S4.ne hp, SqL.of upd_same, (by show 0 < 3; decide), (by show 3 < 2 ^ 32; decide), fun v H' hv S' e' => ?_⟩
  refine z _ _ (Qd.fr e' S5 ?_) S' ((Fr.of (c1.trans c2)).trans (e4.trans ((Fr.of sp).trans e')))
  simp only [List.mem_cons, List.mem_nil_iff, or_false] at hv
  rcases hv with rfl | rfl | rfl <;> assumption
def overQ (b : Rat) : Rat → Prop := fun q => q < 0 ∨ b ≤ q
def spBadD (K : PySem.W.Frag) (l : Addr) : Sp := fun vs H Q _ => ∃ (s : Addr) (x : V) (b : Rat), vs = [.ref s, x] ∧ Sto l s H ∧ Rq K H x b ∧ Sz 24 b ∧ b < 1 ∧ ∀ (v : V) H', Qd K 40 (overQ b) H' v → Sto l s H' → Fr s H H' → Q v H'
end Vk
namespace Vk
open PySem L2 Vm Vl
variable {l aZERO aONE CB CR fB fR : Addr} {P : Program} {w : World} {K : PySem.W.Frag} {mg : Str → Option Value} {base : Heap} {k : Nat} {f f1 f2 f3 f4 f5 f6 f7 f8 f9 : Addr} {fd fd1 fd2 fd3 fd4 fd5 fd6 fd7 fd8 fd9 : FuncData}
/-! ### rates -/
def ab (q : Rat) : Rat := if q < 0 then -q else q
theorem ab_num (q : Rat) : (ab q).num = if q.num < 0 then -q.num else q.num := by
  unfold ab
  have h : q < 0 ↔ q.num < 0 := by rw [← Rat.not_le, ← Rat.num_nonneg]; omega
  by_cases c : q < 0
  · rw [if_pos c, if_pos (h.mp c), Rat.neg_num]
  · rw [if_neg c, if_neg fun e => c (h.mpr e)]
theorem ab_den (q : Rat) : (ab q).den = q.den := by
  unfold ab
  split
  · exact Rat.neg_den q
  · rfl
theorem Sz.ab {m : Nat} {q : Rat} (h : Sz m q) : Sz m (ab q) := by
  unfold Vk.ab
  split
  · exact h.neg
  · exact h
theorem rq_ab {H : Hp} {t : Addr} {q : Rat} : Rq K (upd H t (.tup [.int (if q.num < 0 then -q.num else q.num), .int q.den])) (.ref t) (ab q) := by
  refine ⟨t, rfl, ?_⟩
  rw [ab_num, ab_den]
  exact SqT.of upd_same
def spRates (K : PySem.W.Frag) (CR : Addr) : Sp := fun vs H Q E => ∃ (x y : V) (s d : Rat) (m : Nat), vs = [x, y] ∧ Rq K H x s ∧ Rq K H y d ∧ Sz m s ∧ Sz m d ∧ m ≤ 2000 ∧
  (0 < s → s ≤ d → Q .non H) ∧ (s ≤ 0 → eV E CR H x) ∧ (0 < s → d < s → eV E CR H y)
abbrev s_require_rates : Stmt := top 47
abbrev N_require_rates : List Str := ["slow", "fast"]
theorem sc_require_rates : FnScope N_require_rates ["slow", "fast"] (defScope s_require_rates) := ⟨rfl, rfl, rfl, by decide +kernel, rfl, by decide +kernel, by decide +kernel⟩
abbrev ps_require_rates : List Str := ["slow", "fast"]
theorem ok_require_rates (ZZERO : Cn K mg "ZERO" 0 aZERO) (TBadRate : PySem.ValX.ValTxt K mg "BadRate" CR fR) (F : Fn K mg "require_rates" s_require_rates ps_require_rates f fd) (dcompare : Def P w K mg base k "compare" ["a", "b"] (spTest2 K fun p q => .int (sg p q)) f1 fd1) :
    DefY P w K mg base (k + 1) "require_rates" ps_require_rates (spRates K CR) f fd := by
  refine ⟨okY F.F sc_require_rates (fun vs H Q E h => ?_) (fun cdv A outer s H vs Q E hr h => ?_), F.m, F.F.kp, F.b⟩
  · obtain ⟨_, _, _, _, _, rfl, _⟩ := h
    rfl
  obtain ⟨x, y, s', d', m, rfl, hx, hy, zs, zd, hm, z, e1, e2⟩ := h
  refine ⟨_, (pss_cons (ps_if (pt_cmpR op_le (pcall dcompare hr (pa_cons (pv 0) (pa_cons (pe_glob (v := .ref aZERO) (u := .ref aZERO) (by rfl) ZZERO.m rfl) pa_nil))) pe_int (nomark _))
        (pss_one (ps_raiseValN rfl TBadRate hr (L2N.takes_of rfl rfl rfl rfl) (pa_cons (pv 0) pa_nil)))
        pss_nil)
      (pss_one (ps_if (pt_cmpR op_lt (pcall dcompare hr (pa_cons (pv 1) (pa_cons (pv 0) pa_nil))) pe_int (nomark _))
        (pss_one (ps_raiseValN rfl TBadRate hr (L2N.takes_of rfl rfl rfl rfl) (pa_cons (pv 1) pa_nil)))
        pss_nil))), ?_⟩
  refine ⟨_, rfl, _, _, s', 0, m, 1, rfl, hx, ZZERO.q _, zs, zz1, by omega, _, _, rfl, rfl, _, rfl, ifD (fun c => ?_) (fun c => ?_)⟩
  · exact ⟨_, rfl, x, rfl, fun d hd => e1 (sg_le'.mp c) d hd⟩
  have c1 : 0 < s' := by have := fun g => c (sg_le'.mpr g); exact Rat.not_le.mp this
  refine ⟨_, rfl, _, rfl, _, _, d', s', m, m, rfl, hy, hx, zd, zs, by omega, _, _, rfl, rfl, _, rfl, ifD (fun c => ?_) (fun c => ?_)⟩
  · exact ⟨_, rfl, y, rfl, fun d hd => e2 c1 (sg_lt.mp c) d hd⟩
  · exact z c1 (Rat.not_lt.mp fun g => c (sg_lt.mpr g))
/-- the drift between two rates -/
def dri (s d : Rat) : Rat := if ab (1 - 1 / s) ≤ ab (1 - 1 / d) then ab (1 - 1 / d) else ab (1 - 1 / s)
def spDrift (K : PySem.W.Frag) (CR : Addr) : Sp := fun vs H Q E => ∃ (x y : V) (s d : Rat) (m : Nat), vs = [x, y] ∧ Rq K H x s ∧ Rq K H y d ∧ Sz m s ∧ Sz m d ∧ m ≤ 2000 ∧
  (0 < s → s ≤ d → ∀ v H', Same H H' → Rq K H' v (dri s d) → Q v H') ∧ (s ≤ 0 → eV E CR H x) ∧ (0 < s → d < s → eV E CR H y)
/-- wrong rates, and which of them is told -/
def Br (K : PySem.W.Frag) (H : Hp) (v : V) : Prop := ∃ r x y t u s d, v = .ref r ∧ SqT K H r [x, y, .ref t] ∧ SqT K H t [.str "BadRate", u] ∧ Rq K H x s ∧ Rq K H y d ∧ Sz 40 s ∧ Sz 40 d ∧ ((s ≤ 0 ∧ u = x) ∨ (0 < s ∧ d < s ∧ u = y))
abbrev s__law_bad_rates : Stmt := top 73
abbrev N__law_bad_rates : List Str := ["_law_store_here", "_law_lo", "_law_top", "_law_wrong"]
theorem sc__law_bad_rates : FnScope N__law_bad_rates ["_law_store_here"] (defScope s__law_bad_rates) := ⟨rfl, rfl, rfl, by decide +kernel, rfl, by decide +kernel, by decide +kernel⟩
abbrev ps__law_bad_rates : List Str := ["_law_store_here"]
theorem ok_bad_rates (F : Fn K mg "_law_bad_rates" s__law_bad_rates ps__law_bad_rates f fd) (d_law_pace : Def P w K mg base k "_law_pace" ["_law_store_here"] (spDraw K l 5 posQ) f1 fd1) (d_law_minus : Def P w K mg base k "_law_minus" ["_law_a", "_law_b"] (spOp2 K (· - ·)) f2 fd2) (d_law_pick : Def P w K mg base k "_law_pick" ["_law_store_here", "_law_things"] (spPick K l) f3 fd3)
    (d_law_take : Def P w K mg base k "_law_take" ["_law_store_here", "_law_many"] (spTake K l) f4 fd4) (d_law_not_above : Def P w K mg base k "_law_not_above" ["_law_store_here"] (spDraw K l 20 npQ) f5 fd5) :
    Def P w K mg base (k + 1) "_law_bad_rates" ps__law_bad_rates (fun vs H Q _ => ∃ (s : Addr), vs = [.ref s] ∧ Sto l s H ∧ ∀ (v : V) H', Br K H' v → Sto l s H' → Fr s H H' → Q v H') f fd := by
  refine ⟨F.F.ok sc__law_bad_rates (fun vs H Q E h => ?_) (fun cdv A outer s H vs Q E hr h => ?_), F.m, F.F.kp, F.b⟩
  · obtain ⟨_, rfl, _⟩ := h
    rfl
  obtain ⟨s, rfl, hS, z⟩ := h
  refine ⟨_, (pss_cons (ps_set (i := 1) sc__law_bad_rates.nd rfl (Or.inl rfl) (pcall d_law_pace hr (pa_cons (pv 0) pa_nil)))
      (pss_cons (ps_set (i := 2) sc__law_bad_rates.nd rfl (Or.inl rfl) (pcall d_law_minus hr (pa_cons (pv 1) (pa_cons (pcall d_law_pick hr (pa_cons (pv 0) (pa_cons (pe_lst (pa_cons (pe_tup (pa_cons pe_int (pa_cons pe_int pa_nil))) (pa_cons (pe_tup (pa_cons pe_int (pa_cons pe_int pa_nil))) (pa_cons (pv 1) pa_nil)))) pa_nil))) pa_nil))))
      (pss_cons (ps_if (pt_cmpR op_eq (pcall d_law_take hr (pa_cons (pv 0) (pa_cons pe_int pa_nil))) pe_int (nomark _))
        (pss_cons (ps_set (i := 3) sc__law_bad_rates.nd rfl (Or.inl rfl) (pcall d_law_not_above hr (pa_cons (pv 0) pa_nil)))
        (pss_one (ps_ret (pe_tup (pa_cons (pv 3) (pa_cons (pcall d_law_pick hr (pa_cons (pv 0) (pa_cons (pe_lst (pa_cons (pv 2) (pa_cons (pv 1) (pa_cons (pe_tup (pa_cons pe_int (pa_cons pe_int pa_nil))) pa_nil)))) pa_nil))) (pa_cons (pe_tup (pa_cons pe_str (pa_cons (pv 3) pa_nil))) pa_nil)))))))
        pss_nil)
      (pss_one (ps_ret (pe_tup (pa_cons (pv 1) (pa_cons (pv 2) (pa_cons (pe_tup (pa_cons pe_str (pa_cons (pv 2) pa_nil))) pa_nil))))))))), ?_⟩
  refine ⟨_, rfl, s, rfl, hS, fun vl H1 ql S1 e1 => ?_⟩
  refine ⟨_, rfl, _, rfl, sz2, fun t1 h1 => ?_⟩
  have c1 := same_new h1 (.tup [.int 1, .int 1000]); have q1 := Qd.new (K := K) (m := 10) (ok := posQ) (H := H1) (t := t1) 1 1000 (mkRat 1 1000) (by decide) (by decide) (by decide) (by decide); generalize upd H1 t1 (.tup [.int 1, .int 1000]) = G1 at c1 q1 ⊢
  refine ⟨sz2, fun t2 h2 => ?_⟩
  have c2 := same_new h2 (.tup [.int 1, .int 1]); have q2 := Qd.new (K := K) (m := 10) (ok := posQ) (H := G1) (t := t2) 1 1 (1) (by decide) (by decide) (by decide) (by decide); generalize upd G1 t2 (.tup [.int 1, .int 1]) = G2 at c2 q2 ⊢
  refine ⟨_, rfl, sm3, fun p hp => ?_⟩
  have sp := same_new hp (.lst [.ref t1, .ref t2, vl])
  have S2 := (S1.same (c1.trans c2))
  have S3 := S2.same sp
  have ql2 := ((ql.same c1).same c2).same sp
  have q1 := ((q1.same c2).same sp)
  have q2 := (q2.same sp)
  have q3 : Qd K 10 posQ (upd G2 p (.lst [.ref t1, .ref t2, vl])) vl := ql2.imp (by decide) fun q h => h
  refine ⟨s, p, _, rfl, S3, S2.ne hp, SqL.of upd_same, (by show 0 < 3; decide), (by show 3 < 2 ^ 32; decide), fun vd H3 hv S3' e3 => ?_⟩
  have qd : Qd K 10 posQ H3 vd := by
    refine Qd.fr e3 S3 ?_
    simp only [List.mem_cons, List.mem_nil_iff, or_false] at hv
    rcases hv with rfl | rfl | rfl <;> assumption
  obtain ⟨lo, rlo, zlo, (plo : 0 < lo)⟩ := ql2.fr e3 S3
  obtain ⟨dd, rdd, zdd, (pdd : 0 < dd)⟩ := qd
  have e13 := e1.trans ((Fr.of (c1.trans (c2.trans sp))).trans e3)
  refine ⟨_, _, lo, dd, 5, 10, rfl, rlo, rdd, zlo, zdd, by decide, fun vt H4 e4 rt => ?_⟩
  have zt : Sz 16 (lo - dd) := zlo.sub zdd
  have lt : lo - dd < lo := by grind
  have rt : Rq K H4 vt (lo - dd) := rt
  generalize lo - dd = top at rt zt lt
  replace rlo := rlo.same e4
  have S4 := S3'.same e4
  have e14 := e13.trans (Fr.of e4)
  refine ⟨_, rfl, s, 2, rfl, S4, by decide, fun r H5 r0 r1 S5 e5 => ⟨rfl, _, rfl, ?_⟩⟩
  replace rlo := rlo.fr e5 S4.some
  replace rt := rt.fr e5 S4.some
  refine ifD (fun _ => ?_) (fun _ => ?_)
  · refine ⟨_, rfl, s, rfl, S5, fun vw H6 qw S6 e6 => ?_⟩
    replace rlo := rlo.fr e6 S5.some
    replace rt := rt.fr e6 S5.some
    refine ⟨_, rfl, _, rfl, _, rfl, _, rfl, sz2, fun t3 h3 => ?_⟩
    have c3 := same_new h3 (.tup [.int 0, .int 1]); have q3 := Qd.new (K := K) (m := 16) (ok := anyQ) (H := H6) (t := t3) 0 1 (0) (by decide) (by decide) (by decide) trivial; generalize upd H6 t3 (.tup [.int 0, .int 1]) = G3 at c3 q3 ⊢
    refine ⟨sm3, fun p2 hp2 => ?_⟩
    have sp2 := same_new hp2 (.lst [vt, vl, .ref t3])
    have S7 := S6.same c3
    have S8 := S7.same sp2
    have q4 : Qd K 16 anyQ (upd G3 p2 (.lst [vt, vl, .ref t3])) vt := ⟨_, (rt.same c3).same sp2, zt, trivial⟩
    have q5 : Qd K 16 anyQ (upd G3 p2 (.lst [vt, vl, .ref t3])) vl := ⟨_, (rlo.same c3).same sp2, zlo.mono (by decide), trivial⟩
    have q6 := q3.same sp2
    refine ⟨s, p2, _, rfl, S8, S7.ne hp2, SqL.of upd_same, (by show 0 < 3; decide), (by show 3 < 2 ^ 32; decide), fun vy H9 hv2 S9 e9 => ?_⟩
    have qy : Qd K 16 anyQ H9 vy := by
      refine Qd.fr e9 S8 ?_
      simp only [List.mem_cons, List.mem_nil_iff, or_false] at hv2
      rcases hv2 with rfl | rfl | rfl <;> assumption
    obtain ⟨wq, rw', zw, (ow : wq ≤ 0)⟩ := ((qw.same c3).same sp2).fr e9 S8
    obtain ⟨yq, ry, zy, _⟩ := qy
    refine ⟨_, rfl, sz2, fun ta ha => ?_⟩
    have ca := same_new ha (.tup [.str "BadRate", vw])
    have hta : SqT K (upd H9 ta (.tup [.str "BadRate", vw])) ta [.str "BadRate", vw] := SqT.of upd_same
    refine ⟨sm3, fun tb hb => ?_⟩
    have cb := same_new hb (.tup [vw, vy, .ref ta])
    refine z _ _ ⟨tb, vw, vy, ta, vw, wq, yq, rfl, SqT.of upd_same, cb.sqt hta, (rw'.same ca).same cb, (ry.same ca).same cb, zw.mono (by decide), zy.mono (by decide), .inl ⟨ow, rfl⟩⟩ ((S9.same ca).same cb) ?_
    exact e14.trans (e5.trans (e6.trans ((Fr.of (c3.trans sp2)).trans (e9.trans (Fr.of (ca.trans cb))))))
  · refine ⟨_, rfl, _, rfl, _, rfl, sz2, fun ta ha => ?_⟩
    have ca := same_new ha (.tup [.str "BadRate", vt])
    have hta : SqT K (upd H5 ta (.tup [.str "BadRate", vt])) ta [.str "BadRate", vt] := SqT.of upd_same
    refine ⟨sm3, fun tb hb => ?_⟩
    have cb := same_new hb (.tup [vl, vt, .ref ta])
    refine z _ _ ⟨tb, vl, vt, ta, vt, lo, top, rfl, SqT.of upd_same, cb.sqt hta, (rlo.same ca).same cb, (rt.same ca).same cb, zlo.mono (by decide), zt.mono (by decide), .inr ⟨plo, lt, rfl⟩⟩ ((S5.same ca).same cb) ?_
    exact e14.trans (e5.trans (Fr.of (ca.trans cb)))
end Vk
namespace Vk
open PySem L2 Vm Vl
variable {l CB CR CV CE CT fB fR : Addr} {P : Program} {w : World} {K : PySem.W.Frag} {mg : Str → Option Value} {base : Heap} {k : Nat} {f f1 f2 f3 f4 f5 f6 f7 f8 f9 : Addr} {fd fd1 fd2 fd3 fd4 fd5 fd6 fd7 fd8 fd9 : FuncData}
theorem pss_if {X : Cx} {b : List Stmt} {p : Prop} {t : TS} (h : p → PSs X b t) : PSs X b (fun D σ H => p ∧ t D σ H) := ⟨fun pins s σ H D I w => (h w.1).run pins s σ H D I w.2⟩
def cC (CB CR : Addr) (b : Bool) : Addr := if b = true then CB else CR
/-- the classes that the law names, and what isinstance says of them -/
structure CN (K : PySem.W.Frag) (mg : Str → Option Value) (CB CR CV CE CT : Addr) : Prop where
  e : ∀ b, ExcC K (cC CB CR b)
  gB : mg "BadBound" = some (.ref CB)
  gR : mg "BadRate" = some (.ref CR)
  gV : mg "VerdictError" = some (.ref CV)
  gE : mg "EmptySpan" = some (.ref CE)
  gT : mg "TurnsBack" = some (.ref CT)
  rb : PySem.W.exmOne K (.ref CR) (.ref CB) = some false
  kB : ∀ b, PySem.W.kitOne K (.ref (cC CB CR b)) (.ref CB) = some b
  kR : ∀ b, PySem.W.kitOne K (.ref (cC CB CR b)) (.ref CR) = some (!b)
  kE : ∀ b, PySem.W.kitOne K (.ref (cC CB CR b)) (.ref CE) = some false
  kT : ∀ b, PySem.W.kitOne K (.ref (cC CB CR b)) (.ref CT) = some false
  kV : ∀ b, PySem.W.kitOne K (.ref (cC CB CR b)) (.ref CV) = some true
theorem pe_callP2 {X : Cx} {k : Nat} {f : Addr} {fd : FuncData} {ps : List Str} {sp : Addr × Obj → Sp} {sp' : Sp} {p : Addr × Obj} {x : Str} {q pos : Pos} {e : Expr} {es : List Expr} {t : TA} (F : DefP X.prog X.w X.K X.mg X.base k x ps sp f fd) (room : L2H.RoomH k X.A) (hot : L2H.Hot1 X.A p) (hp : p ∈ X.pn)
    (imp : ∀ vs H Q E, sp' vs H Q E → sp p vs H Q E) (ha : PA X (e :: es) t) (hg : Gl X x := by rfl) (hdb : (x == ("__debug__" : Str)) = false := by decide)
    (he : starEach (e :: es) X.env = (false, eval e X.env) :: starEach es X.env := by rfl) (hpl : (backTo pos (starEach es X.env)).any (·.1) = false := by rfl) : PE X (.Call (.Name x q) (e :: es) [] pos) (tCall sp' [] E0 t) := by
  refine ⟨?_⟩
  intro pins s σ H Q I want
  refine wpAny_Call_Name_kw (ld_glob I hg F.m ?_ hdb)
  refine PySem.W.callWith_K (h₀ := X.base) I.ok.mod.kin F.kp (thn (ha.run pos pins s σ H _ I want) ?_) he hpl
  rintro us s1 ⟨vs, H1, I1, r, z⟩
  refine ⟨I1.kIn, ?_⟩
  have z : sp p vs H1 Q E0 := by rw [List.append_nil] at z; exact imp _ _ _ _ z
  have cnt : us.length = ps.length := by rw [← r.length]; exact F.ok.many _ _ _ _ _ z
  have bound := F.b s1 us I1.kIn (by rw [List.append_nil]; exact cnt)
  rw [List.append_nil] at bound
  have at1 := I1.pin p (List.mem_append_left _ hp)
  have pin : L2H.PinOk X.stack H1 s1 p := ⟨at1.1, at1.2.1, fun m => (List.mem_cons.mp (I1.stkSub p.1 m)).elim at1.2.2.1 at1.2.2.2.1, at1.2.2.2.2⟩
  refine wpAny_call (codeAny_mono (F.ok.go X.A X.stack s1 H1 ⟨us, []⟩ us vs Q E0 p room hot pin I1.env0 bound r z) ?_)
  intro res s2 out
  cases res with
  | error _ => exact out.elim
  | ok fl =>
    cases fl with
    | ret u => exact I1.after out
    | next => exact out.elim
    | brk => exact out.elim
    | cont => exact out.elim
end Vk


namespace Vk
open PySem L2 Vm Vl
variable {l aZERO aONE CB CR fB fR : Addr} {P : Program} {w : World} {K : PySem.W.Frag} {mg : Str → Option Value} {base : Heap} {k : Nat} {f f1 f2 f3 f4 f5 f6 f7 f8 f9 : Addr} {fd fd1 fd2 fd3 fd4 fd5 fd6 fd7 fd8 fd9 : FuncData}
theorem ok_jumps (T : Bn mg) (ZZERO : Cn K mg "ZERO" 0 aZERO) (F : Fn K mg "jumps" s_jumps ps_jumps f fd) (d_jump_at : Def P w K mg base k "_jump_at" ["course", "at"] (spJumpAt K) f1 fd1) : Def P w K mg base (k + 1) "jumps" ps_jumps (spJumps K) f fd := by
  refine ⟨F.F.ok sc_jumps (fun vs H Q E h => ?_) (fun cdv A outer s H vs Q E hr h => ?_), F.m, F.F.kp, F.b⟩
  · obtain ⟨_, _, _, _, _, rfl, _⟩ := h
    rfl
  obtain ⟨a, c, i0, j0, l0, rfl, hC, cz, hp, hl, hb, z⟩ := h
  obtain ⟨xs, hx, hc⟩ := id hC
  have hxl := hc.1
  refine ⟨_, (pss_cons (ps_set (i := 1) sc_jumps.nd rfl (Or.inl rfl) (pe_lst pa_nil))
      (pss_cons (ps_for PassesOwn.never rfl (pi_range2 (by rfl) T.range_ (pa_cons pe_int (pa_cons (pe_callB call_len_seq (by rfl) T.len_ PySem.boot_len (pa_cons (pv 0) pa_nil)) pa_nil))) (pg_name (i := 2) sc_jumps.nd rfl (Or.inl rfl))
        (pss_cons (ps_set (i := 3) sc_jumps.nd rfl (Or.inl rfl) (pcall d_jump_at hr (pa_cons (pv 0) (pa_cons (pv 2) pa_nil))))
        (pss_one (ps_if (pt_cmpR (op_neD hr.units) (pv 3) (pe_glob (v := .ref aZERO) (u := .ref aZERO) (by rfl) ZZERO.m rfl) (nomark _))
          (pss_one (ps_expr (pe_bm PySem.F.plainAttrs_list PySem.F.slot_list_append PySem.F.type_list_append mt_append (pv 1) (pa_cons (pe_tup (pa_cons (pe_ix ix_tup (pe_ix ix_list (pv 0) (pv 2) (fun _ _ => rfl)) pe_int (fun _ _ => rfl)) (pa_cons (pv 3) pa_nil))) pa_nil))))
          pss_nil))))
      (pss_one (ps_ret (pv 1))))), ?_⟩
  have p62 : (2 : Int) ^ 62 = 4611686018427387904 := by decide
  refine ⟨Nat.zero_le _, fun D hD => ?_⟩
  have s0 := same_new hD (.lst [])
  refine ⟨_, rfl, a, _, rfl, .inl (s0.seq hx), _, _, rfl, ⟨by omega, by omega, by omega, by omega⟩, for_range (lo := 1) (n := (((xs.length : Nat) : Int) - 1).toNat) (fun i σ G => ∃ (us : List V) (k2 k3 : Option V), σ = [some (.ref a), some (.ref D), k2, k3] ∧ Same H G ∧ G D = some (.lst us) ∧ All2 (Jq K G) us (jl (c.take (i + 1))))
    ⟨[], none, none, rfl, s0, upd_same, ?_⟩ ?_ ?_⟩
  · cases c with
    | nil => simp at hp
    | cons p c => exact All2.nil
  · rintro i σ G hi ⟨us, k2, k3, rfl, s1, hD1, hA⟩
    have hi1 : i + 1 < c.length := by omega
    have e1 : c[i]? = some c[i] := List.getElem?_eq_getElem (by omega)
    have e2 : c[i + 1]? = some c[i + 1] := List.getElem?_eq_getElem hi1
    obtain ⟨p, ep⟩ : ∃ p, p = c[i] := ⟨_, rfl⟩
    obtain ⟨q, eq⟩ : ∃ q, q = c[i + 1] := ⟨_, rfl⟩
    rw [← ep] at e1
    rw [← eq] at e2
    refine ⟨_, rfl, _, rfl, a, i, c, p, q, i0, j0, l0, by rw [show (1 + (i : Int)) = ((i + 1 : Nat) : Int) by omega]; rfl, hC.same s1, e1, e2, cz, hb, fun jv G1 f1 rj => ?_⟩
    have s2 := s1.trans f1
    have hD2 : G1 D = some (.lst us) := f1 _ _ hD1
    have hA2 := hA.imp fun _ _ h => h.same f1
    have en := jl_next e1 e2
    refine ⟨_, rfl, _, _, rj.dp, (ZZERO.q _).dp, sh_dq _, sh_dq _, _, rfl, ?_⟩
    rw [eqv_dq]
    by_cases g : jmp (ky p) q = 0
    · refine ifF (by rw [dT g]; rfl) ⟨us, _, _, rfl, s2, hD2, ?_⟩
      rw [en, if_pos g, List.append_nil]
      exact hA2
    · refine ifT (by rw [dF g]; rfl) ?_
      obtain ⟨x2, hx2, pq⟩ := hc.at e2
      obtain ⟨b, bs, bv, br, rfl, hb2, r1, r2, r3⟩ := pq.same s2
      have hul := hA.1
      have hjl := jl_len (c.take (i + 1))
      rw [List.length_take] at hjl
      refine ⟨_, rfl, .inl ⟨rfl, _, SqL.of hD2⟩, _, rfl, _, rfl, a, _, _, _, rfl, rfl, s2.seq hx, at_of (j := i + 1) (by omega) hx2, b, _, _, _, rfl, rfl, hb2, at0 rfl, _, rfl, sz2, fun T1 h1 => ?_⟩
      have t1 := same_new h1 (.tup [bs, jv])
      have nD : D ≠ T1 := ne_at hD2 h1
      have hD3 := t1 _ _ hD2
      refine ⟨D, _, _, rfl, rfl, hD3, le1000 (by omega), _, _, _, rfl, same_upd (s2.trans t1) hD _, upd_same, ?_⟩
      have fr : Fr D _ _ := Fr.upd (s := D) (H := upd G1 T1 (.tup [bs, jv])) (.lst (us ++ [.ref T1]))
      rw [en, if_neg g]
      have jn : Jq K (upd G1 T1 (.tup [bs, jv])) (.ref T1) (q.s, jmp (ky p) q) := ⟨T1, bs, jv, rfl, SqT.of upd_same, r1.same t1, rj.same t1⟩
      exact (hA2.imp fun _ _ h => (h.same t1).fr fr ⟨_, hD3⟩).snoc (jn.fr fr ⟨_, hD3⟩)
  · rintro σ G ⟨us, k2, k3, rfl, s1, hD1, hA⟩
    rw [List.take_of_length_le (by omega)] at hA
    exact ⟨_, rfl, z D us G s1 hD hD1 hA⟩
/-- a course within rate bounds, without a jump -/
def RW (c : List Pc) (s f : Rat) : Prop := (∀ (i : Nat) (p : Pc), c[i]? = some p → s ≤ p.r ∧ p.r ≤ f) ∧ ∀ (i : Nat) (p q : Pc), c[i]? = some p → c[i + 1]? = some q → jmp (ky p) q = 0
theorem jlG_nil : ∀ (c : List Pc) (k : Rat × Rat), jlG k c = [] ↔ (∀ q, c[0]? = some q → jmp k q = 0) ∧ ∀ (i : Nat) (p q : Pc), c[i]? = some p → c[i + 1]? = some q → jmp (ky p) q = 0
  | [], k => by simp [jlG]
  | q :: c, k => by
    have ih := jlG_nil c (ky q)
    unfold jlG
    by_cases g : jmp k q = 0
    · rw [if_pos g, ih]
      constructor
      · rintro ⟨h1, h2⟩
        refine ⟨fun q' e => ?_, fun i p q' e1 e2 => ?_⟩
        · cases Option.some.inj e; exact g
        · cases i with
          | zero => cases Option.some.inj e1; exact h1 _ e2
          | succ i => exact h2 i p q' e1 e2
      · rintro ⟨_, h2⟩
        exact ⟨fun q' e => h2 0 q q' rfl e, fun i p q' e1 e2 => h2 (i + 1) p q' e1 e2⟩
    · rw [if_neg g]
      constructor
      · intro h; cases h
      · rintro ⟨h1, _⟩; exact absurd (h1 q rfl) g
theorem jl_nil (c : List Pc) : jl c = [] ↔ ∀ (i : Nat) (p q : Pc), c[i]? = some p → c[i + 1]? = some q → jmp (ky p) q = 0 := by
  cases c with
  | nil => simp [jl]
  | cons p c =>
    show jlG (ky p) c = [] ↔ _
    rw [jlG_nil]
    constructor
    · rintro ⟨h1, h2⟩ i p' q e1 e2
      cases i with
      | zero => cases Option.some.inj e1; exact h1 _ e2
      | succ i => exact h2 i p' q e1 e2
    · intro h
      exact ⟨fun q e => h 0 p q rfl e, fun i p' q e1 e2 => h (i + 1) p' q e1 e2⟩
def spRW (K : PySem.W.Frag) : Sp := fun vs H Q _ => ∃ (a : Addr) (x y : V) (c : List Pc) (s f : Rat) (i j l m : Nat), vs = [.ref a, x, y] ∧ Cq K H a c ∧ Rq K H x s ∧ Rq K H y f ∧ Cz i j l c ∧ Sz m s ∧ Sz m f ∧ 1 ≤ c.length ∧ c.length ≤ 900 ∧ j + j + l + i + i + 5 ≤ 9000 ∧ l + m + 1 ≤ 9000 ∧ ∀ b H', Same H H' → (b = true ↔ RW c s f) → Q (.bl b) H'
abbrev s_runs_within : Stmt := top 46
abbrev N_runs_within : List Str := ["course", "slow", "fast", "start", "shown", "rate"]
theorem sc_runs_within : FnScope N_runs_within ["course", "slow", "fast"] (defScope s_runs_within) := ⟨rfl, rfl, rfl, by decide +kernel, rfl, by decide +kernel, by decide +kernel⟩
abbrev ps_runs_within : List Str := ["course", "slow", "fast"]
theorem ok_runs_within (F : Fn K mg "runs_within" s_runs_within ps_runs_within f fd) (djumps : Def P w K mg base k "jumps" ["course"] (spJumps K) f1 fd1) (dcompare : Def P w K mg base k "compare" ["a", "b"] (spTest2 K fun p q => .int (sg p q)) f2 fd2) :
    Def P w K mg base (k + 1) "runs_within" ps_runs_within (spRW K) f fd := by
  refine ⟨F.F.ok sc_runs_within (fun vs H Q E h => ?_) (fun cdv A outer s H vs Q E hr h => ?_), F.m, F.F.kp, F.b⟩
  · obtain ⟨_, _, _, _, _, _, _, _, _, _, rfl, _⟩ := h
    rfl
  obtain ⟨a, x, y, c, sq, fq, i0, j0, l0, m, rfl, hC, hx, hy, cz, zs, zf, l1, l2, h9, h10, z⟩ := h
  obtain ⟨xs, hxs, hc⟩ := id hC
  refine ⟨_, (pss_cons (ps_if (pt_truth (pcall djumps hr (pa_cons (pv 0) pa_nil)) (by intro _; rfl))
        (pss_one (ps_ret pe_bl))
        pss_nil)
      (pss_cons (ps_for PassesOwn.never rfl (pi_list (pv 0)) (pg_tup rfl (pgs_cons (pg_name (i := 3) sc_runs_within.nd rfl (Or.inl rfl)) (pgs_cons (pg_name (i := 4) sc_runs_within.nd rfl (Or.inl rfl)) (pgs_cons (pg_name (i := 5) sc_runs_within.nd rfl (Or.inl rfl)) pgs_nil))))
        (pss_one (ps_if (PW.pt (pw_or (pt_cmpR op_lt (pcall dcompare hr (pa_cons (pv 5) (pa_cons (pv 1) pa_nil))) pe_int (nomark _)) (pw_or1 (pt_cmpR op_gt (pcall dcompare hr (pa_cons (pv 5) (pa_cons (pv 2) pa_nil))) pe_int (nomark _)))))
          (pss_one (ps_ret pe_bl))
          pss_nil)))
      (pss_one (ps_ret pe_bl)))), ?_⟩
  refine ⟨_, rfl, a, c, i0, j0, l0, rfl, hC, cz, l1, l2, h9, fun D us H1 e1 _ hD hus => ?_⟩
  refine ⟨!us.isEmpty, .inl ⟨us, SqL.of hD, rfl⟩, ?_⟩
  have hn := jl_nil c
  cases us with
  | cons u us =>
    refine ifT rfl (z false H1 e1 ⟨nofun, fun h => ?_⟩)
    have : jl c = [] := hn.mpr h.2
    have := hus.1
    simp_all
  | nil =>
    refine ifF rfl ?_
    have nj : ∀ (i : Nat) (p q : Pc), c[i]? = some p → c[i + 1]? = some q → jmp (ky p) q = 0 := hn.mp (List.eq_nil_of_length_eq_zero hus.1.symm)
    refine ⟨_, rfl, a, rfl, ⟨_, e1.seq hxs⟩, for_list (K := K) (a := a) (xs := xs) (fun i σ G => ∃ k3 k4 k5, σ = [some (.ref a), some x, some y, k3, k4, k5] ∧ Same H1 G ∧ ∀ (j : Nat) (p : Pc), j < i → c[j]? = some p → sq ≤ p.r ∧ p.r ≤ fq)
      ⟨none, none, none, rfl, Same.refl _, fun j p h => absurd h (by omega)⟩ (fun i σ G _ h => by obtain ⟨_, _, _, _, s1, _⟩ := h; exact (e1.trans s1).seq hxs) ?_ ?_⟩
    · rintro i u σ G hu ⟨k3, k4, k5, rfl, s1, done⟩
      have hi : i < c.length := by have := (List.getElem?_eq_some_iff.mp hu).1; rw [hc.1] at this; exact this
      have ec : c[i]? = some c[i] := List.getElem?_eq_getElem hi
      have s01 := e1.trans s1
      obtain ⟨pa, ps, pv, pr, rfl, hpa, r1, r2, r3⟩ := (hc.2 i u _ hu ec).same s01
      obtain ⟨p, ep⟩ : ∃ p, p = c[i] := ⟨_, rfl⟩
      rw [← ep] at ec r1 r2 r3
      have zp := (cz p (List.mem_of_getElem? ec)).2.2
      refine ⟨pa, _, rfl, hpa, rfl, _, _, rfl, _, _, rfl, _, _, rfl, rfl, ?_⟩
      refine ⟨_, rfl, _, rfl, pr, x, p.r, sq, l0, m, rfl, r3, hx.same s01, zp, zs, by omega, _, _, rfl, rfl, _, rfl, ifD (fun g => ?_) (fun g => ?_)⟩
      · refine ifT rfl ?_
        exact z false G s01 ⟨nofun, fun h => absurd (h.1 i p ec).1 (Rat.not_le.mpr (sg_lt.mp g))⟩
      · refine ⟨_, rfl, _, rfl, pr, y, p.r, fq, l0, m, rfl, r3, hy.same s01, zp, zf, by omega, _, _, rfl, rfl, _, rfl, ifD (fun g2 => ?_) (fun g2 => ?_)⟩
        · refine z false G s01 ⟨nofun, fun h => ?_⟩
          have := (h.1 i p ec).2
          exact absurd (sg_le'.mpr this) (by omega)
        · refine ⟨_, _, _, rfl, s1, fun j q hj hq => ?_⟩
          by_cases e : j = i
          · subst e
            rw [ec] at hq
            cases hq
            exact ⟨Rat.not_lt.mp fun h => g (sg_lt.mpr h), sg_le'.mp (by omega)⟩
          · exact done j q (by omega) hq
    · rintro σ G ⟨k3, k4, k5, rfl, s1, done⟩
      refine z true G (e1.trans s1) ⟨fun _ => ⟨fun i p hp => done i p ?_ hp, nj⟩, fun _ => rfl⟩
      have := (List.getElem?_eq_some_iff.mp hp).1
      rw [hc.1]; exact this
/-- the span of a stretch -/
def elo (d s f : Rat) : Rat := if d < 0 then d / s else d / f
def ehi (d s f : Rat) : Rat := if d < 0 then d / f else d / s
def spEl (K : PySem.W.Frag) (CR : Addr) : Sp := fun vs H Q E => ∃ (x y u : V) (d s f : Rat) (m : Nat), vs = [x, y, u] ∧ Rq K H x d ∧ Rq K H y s ∧ Rq K H u f ∧ Sz 4000 d ∧ Sz m s ∧ Sz m f ∧ m ≤ 2000 ∧
  (0 < s → s ≤ f → ∀ t v w H', Same H H' → SqT K H' t [v, w] → Rq K H' v (elo d s f) → Rq K H' w (ehi d s f) → Q (.ref t) H') ∧ (s ≤ 0 → eV E CR H y) ∧ (0 < s → f < s → eV E CR H u)
abbrev s_elapsed : Stmt := top 48
abbrev N_elapsed : List Str := ["d", "slow", "fast"]
theorem sc_elapsed : FnScope N_elapsed ["d", "slow", "fast"] (defScope s_elapsed) := ⟨rfl, rfl, rfl, by decide +kernel, rfl, by decide +kernel, by decide +kernel⟩
abbrev ps_elapsed : List Str := ["d", "slow", "fast"]
theorem ok_elapsed (ZZERO : Cn K mg "ZERO" 0 aZERO) (F : Fn K mg "elapsed" s_elapsed ps_elapsed f fd) (drequire_rates : DefY P w K mg base k "require_rates" ["slow", "fast"] (spRates K CR) f1 fd1) (dcompare : Def P w K mg base k "compare" ["a", "b"] (spTest2 K fun p q => .int (sg p q)) f2 fd2) (ddivide : Def P w K mg base k "divide" ["a", "b"] (spDiv K) f3 fd3) :
    DefY P w K mg base (k + 1) "elapsed" ps_elapsed (spEl K CR) f fd := by
  refine ⟨okY F.F sc_elapsed (fun vs H Q E h => ?_) (fun cdv A outer s H vs Q E hr h => ?_), F.m, F.F.kp, F.b⟩
  · obtain ⟨_, _, _, _, _, _, _, rfl, _⟩ := h
    rfl
  obtain ⟨x, y, u, d, sq, fq, m, rfl, hx, hy, hu, zd, zs, zf, hm, z, e1, e2⟩ := h
  refine ⟨_, (pss_cons (ps_expr (pcallY drequire_rates hr (L2N.takes_of rfl rfl rfl rfl) (pa_cons (pv 1) (pa_cons (pv 2) pa_nil))))
      (pss_cons (ps_if (pt_cmpR op_lt (pcall dcompare hr (pa_cons (pv 0) (pa_cons (pe_glob (v := .ref aZERO) (u := .ref aZERO) (by rfl) ZZERO.m rfl) pa_nil))) pe_int (nomark _))
        (pss_one (ps_ret (pe_tup (pa_cons (pcall ddivide hr (pa_cons (pv 0) (pa_cons (pv 1) pa_nil))) (pa_cons (pcall ddivide hr (pa_cons (pv 0) (pa_cons (pv 2) pa_nil))) pa_nil)))))
        pss_nil)
      (pss_one (ps_ret (pe_tup (pa_cons (pcall ddivide hr (pa_cons (pv 0) (pa_cons (pv 2) pa_nil))) (pa_cons (pcall ddivide hr (pa_cons (pv 0) (pa_cons (pv 1) pa_nil))) pa_nil))))))), ?_⟩
  refine ⟨_, rfl, _, rfl, y, u, sq, fq, m, rfl, hy, hu, zs, zf, hm, fun c1 c2 => ?_, e1, e2⟩
  have z := z c1 c2
  have f0 : 0 < fq := by grind
  refine ⟨_, rfl, _, _, d, 0, 4000, 1, rfl, hx, ZZERO.q _, zd, zz1, by omega, _, _, rfl, rfl, _, rfl, ifD (fun c => ?_) (fun c => ?_)⟩
  · have c' := sg_lt.mp c
    have el : elo d sq fq = d / sq := by unfold elo; rw [if_pos c']
    have eh : ehi d sq fq = d / fq := by unfold ehi; rw [if_pos c']
    rw [el, eh] at z
    refine ⟨_, rfl, _, rfl, x, y, d, sq, 4000, m, rfl, hx, hy, zd, zs, by omega, c1, fun v H1 s1 h1 => ?_⟩
    refine ⟨_, rfl, _, rfl, x, u, d, fq, 4000, m, rfl, hx.same s1, hu.same s1, zd, zf, by omega, f0, fun w' H2 s2 h2 => ⟨sz2, fun t ht => ?_⟩⟩
    have st := same_new ht (.tup [v, w'])
    exact z t v w' _ (s1.trans (s2.trans st)) (SqT.of upd_same) ((h1.same s2).same st) (Rq.same st h2)
  · have c' : ¬ d < 0 := fun g => c (sg_lt.mpr g)
    have el : elo d sq fq = d / fq := by unfold elo; rw [if_neg c']
    have eh : ehi d sq fq = d / sq := by unfold ehi; rw [if_neg c']
    rw [el, eh] at z
    refine ⟨_, rfl, _, rfl, x, u, d, fq, 4000, m, rfl, hx, hu, zd, zf, by omega, f0, fun v H1 s1 h1 => ?_⟩
    refine ⟨_, rfl, _, rfl, x, y, d, sq, 4000, m, rfl, hx.same s1, hy.same s1, zd, zs, by omega, c1, fun w' H2 s2 h2 => ⟨sz2, fun t ht => ?_⟩⟩
    have st := same_new ht (.tup [v, w'])
    exact z t v w' _ (s1.trans (s2.trans st)) (SqT.of upd_same) ((h1.same s2).same st) (Rq.same st h2)
end Vk

namespace Vk
open PySem L2 Vm Vl

variable {cZeroDivisor cBadNumber cEmptySpan cBeforeStart cTurnsBack cBadRate cBadBound cBadName cDuplicateName cUnknownName cBadLink cUnknownLink cBadNote cUnknownMoment cNoWorld cOutsideSpan cTooManyLiars cRootFollows cCondemned cBadDate cBadLeap cBadLabel cNoSuchSecond cBadCells cRefusedEntry cDuplicateTag cUnknownTag cBadLine cNothingToUndo cNothingToRedo cVerdictError l aZERO CR fR : Addr} {P : Program} {w : World} {K : PySem.W.Frag} {mg : Str → Option Value} {base : Heap} {k : Nat} {f f1 f2 f3 f4 f5 f6 f7 f8 f9 : Addr} {fd fd1 fd2 fd3 fd4 fd5 fd6 fd7 fd8 fd9 : FuncData}
/-- what isinstance says of an error of the class BadRate -/
structure CA (K : PySem.W.Frag) (mg : Str → Option Value) (cZeroDivisor cBadNumber cEmptySpan cBeforeStart cTurnsBack cBadRate cBadBound cBadName cDuplicateName cUnknownName cBadLink cUnknownLink cBadNote cUnknownMoment cNoWorld cOutsideSpan cTooManyLiars cRootFollows cCondemned cBadDate cBadLeap cBadLabel cNoSuchSecond cBadCells cRefusedEntry cDuplicateTag cUnknownTag cBadLine cNothingToUndo cNothingToRedo cVerdictError : Addr) : Prop where
  e : ExcC K cBadRate
  gZeroDivisor : mg "ZeroDivisor" = some (.ref cZeroDivisor)
  kZeroDivisor : PySem.W.kitOne K (.ref cBadRate) (.ref cZeroDivisor) = some false
  gBadNumber : mg "BadNumber" = some (.ref cBadNumber)
  kBadNumber : PySem.W.kitOne K (.ref cBadRate) (.ref cBadNumber) = some false
  gEmptySpan : mg "EmptySpan" = some (.ref cEmptySpan)
  kEmptySpan : PySem.W.kitOne K (.ref cBadRate) (.ref cEmptySpan) = some false
  gBeforeStart : mg "BeforeStart" = some (.ref cBeforeStart)
  kBeforeStart : PySem.W.kitOne K (.ref cBadRate) (.ref cBeforeStart) = some false
  gTurnsBack : mg "TurnsBack" = some (.ref cTurnsBack)
  kTurnsBack : PySem.W.kitOne K (.ref cBadRate) (.ref cTurnsBack) = some false
  gBadRate : mg "BadRate" = some (.ref cBadRate)
  kBadRate : PySem.W.kitOne K (.ref cBadRate) (.ref cBadRate) = some true
  gBadBound : mg "BadBound" = some (.ref cBadBound)
  kBadBound : PySem.W.kitOne K (.ref cBadRate) (.ref cBadBound) = some false
  gBadName : mg "BadName" = some (.ref cBadName)
  kBadName : PySem.W.kitOne K (.ref cBadRate) (.ref cBadName) = some false
  gDuplicateName : mg "DuplicateName" = some (.ref cDuplicateName)
  kDuplicateName : PySem.W.kitOne K (.ref cBadRate) (.ref cDuplicateName) = some false
  gUnknownName : mg "UnknownName" = some (.ref cUnknownName)
  kUnknownName : PySem.W.kitOne K (.ref cBadRate) (.ref cUnknownName) = some false
  gBadLink : mg "BadLink" = some (.ref cBadLink)
  kBadLink : PySem.W.kitOne K (.ref cBadRate) (.ref cBadLink) = some false
  gUnknownLink : mg "UnknownLink" = some (.ref cUnknownLink)
  kUnknownLink : PySem.W.kitOne K (.ref cBadRate) (.ref cUnknownLink) = some false
  gBadNote : mg "BadNote" = some (.ref cBadNote)
  kBadNote : PySem.W.kitOne K (.ref cBadRate) (.ref cBadNote) = some false
  gUnknownMoment : mg "UnknownMoment" = some (.ref cUnknownMoment)
  kUnknownMoment : PySem.W.kitOne K (.ref cBadRate) (.ref cUnknownMoment) = some false
  gNoWorld : mg "NoWorld" = some (.ref cNoWorld)
  kNoWorld : PySem.W.kitOne K (.ref cBadRate) (.ref cNoWorld) = some false
  gOutsideSpan : mg "OutsideSpan" = some (.ref cOutsideSpan)
  kOutsideSpan : PySem.W.kitOne K (.ref cBadRate) (.ref cOutsideSpan) = some false
  gTooManyLiars : mg "TooManyLiars" = some (.ref cTooManyLiars)
  kTooManyLiars : PySem.W.kitOne K (.ref cBadRate) (.ref cTooManyLiars) = some false
  gRootFollows : mg "RootFollows" = some (.ref cRootFollows)
  kRootFollows : PySem.W.kitOne K (.ref cBadRate) (.ref cRootFollows) = some false
  gCondemned : mg "Condemned" = some (.ref cCondemned)
  kCondemned : PySem.W.kitOne K (.ref cBadRate) (.ref cCondemned) = some false
  gBadDate : mg "BadDate" = some (.ref cBadDate)
  kBadDate : PySem.W.kitOne K (.ref cBadRate) (.ref cBadDate) = some false
  gBadLeap : mg "BadLeap" = some (.ref cBadLeap)
  kBadLeap : PySem.W.kitOne K (.ref cBadRate) (.ref cBadLeap) = some false
  gBadLabel : mg "BadLabel" = some (.ref cBadLabel)
  kBadLabel : PySem.W.kitOne K (.ref cBadRate) (.ref cBadLabel) = some false
  gNoSuchSecond : mg "NoSuchSecond" = some (.ref cNoSuchSecond)
  kNoSuchSecond : PySem.W.kitOne K (.ref cBadRate) (.ref cNoSuchSecond) = some false
  gBadCells : mg "BadCells" = some (.ref cBadCells)
  kBadCells : PySem.W.kitOne K (.ref cBadRate) (.ref cBadCells) = some false
  gRefusedEntry : mg "RefusedEntry" = some (.ref cRefusedEntry)
  kRefusedEntry : PySem.W.kitOne K (.ref cBadRate) (.ref cRefusedEntry) = some false
  gDuplicateTag : mg "DuplicateTag" = some (.ref cDuplicateTag)
  kDuplicateTag : PySem.W.kitOne K (.ref cBadRate) (.ref cDuplicateTag) = some false
  gUnknownTag : mg "UnknownTag" = some (.ref cUnknownTag)
  kUnknownTag : PySem.W.kitOne K (.ref cBadRate) (.ref cUnknownTag) = some false
  gBadLine : mg "BadLine" = some (.ref cBadLine)
  kBadLine : PySem.W.kitOne K (.ref cBadRate) (.ref cBadLine) = some false
  gNothingToUndo : mg "NothingToUndo" = some (.ref cNothingToUndo)
  kNothingToUndo : PySem.W.kitOne K (.ref cBadRate) (.ref cNothingToUndo) = some false
  gNothingToRedo : mg "NothingToRedo" = some (.ref cNothingToRedo)
  kNothingToRedo : PySem.W.kitOne K (.ref cBadRate) (.ref cNothingToRedo) = some false
  gV : mg "VerdictError" = some (.ref cVerdictError)
  mV : mg "ValueError" = none
  kV : PySem.W.kitOne K (.ref cBadRate) (.type "ValueError") = some true
  xV : PySem.W.exmOne K (.ref cBadRate) (.ref cVerdictError) = some true
abbrev s__law_alone : Stmt := top 74
abbrev N__law_alone : List Str := ["_law_e", "_law_kinds"]
theorem sc__law_alone : FnScope N__law_alone ["_law_e"] (defScope s__law_alone) := ⟨rfl, rfl, rfl, by decide +kernel, rfl, by decide +kernel, by decide +kernel⟩
abbrev ps__law_alone : List Str := ["_law_e"]
def spAlone (CR : Addr) (p : Addr × Obj) : Sp := fun vs H Q _ => ∃ (d : Addr) (y : V), vs = [.ref p.1] ∧ Zc (.ref CR) (some d) p.2 ∧ (∃ fv, p.2.data = .fields fv) ∧ H d = some (.xd [(("value" : Str), y)]) ∧ ∀ H', Same H H' → Q (.bl true) H'
theorem ok_alone (T : Bn mg) (C : CA K mg cZeroDivisor cBadNumber cEmptySpan cBeforeStart cTurnsBack cBadRate cBadBound cBadName cDuplicateName cUnknownName cBadLink cUnknownLink cBadNote cUnknownMoment cNoWorld cOutsideSpan cTooManyLiars cRootFollows cCondemned cBadDate cBadLeap cBadLabel cNoSuchSecond cBadCells cRefusedEntry cDuplicateTag cUnknownTag cBadLine cNothingToUndo cNothingToRedo cVerdictError) (F : Fn K mg "_law_alone" s__law_alone ps__law_alone f fd) : DefP P w K mg base (k + 1) "_law_alone" ps__law_alone (spAlone cBadRate) f fd := by
  refine ⟨okP F.F sc__law_alone (fun p vs H Q E h => ?_) (fun cdv A outer s H vs Q E p hot hr h => ?_), F.m, F.F.kp, F.b⟩
  · obtain ⟨_, _, rfl, _⟩ := h
    rfl
  obtain ⟨d, y, rfl, hz, hf, hd, z⟩ := h
  obtain ⟨pa, po⟩ := p
  refine ⟨_, (pss_cons (ps_set (i := 1) sc__law_alone.nd rfl (Or.inl rfl) (pe_lst (pa_cons (pe_callB (call_isP C.e hz hf List.mem_cons_self) (by rfl) T.isinstance_ (by decide +kernel) (pa_cons (pv 0) (pa_cons (pe_glob (v := .ref cZeroDivisor) (u := .ref cZeroDivisor) (by rfl) C.gZeroDivisor rfl) pa_nil))) (pa_cons (pe_callB (call_isP C.e hz hf List.mem_cons_self) (by rfl) T.isinstance_ (by decide +kernel) (pa_cons (pv 0) (pa_cons (pe_glob (v := .ref cBadNumber) (u := .ref cBadNumber) (by rfl) C.gBadNumber rfl) pa_nil))) (pa_cons (pe_callB (call_isP C.e hz hf List.mem_cons_self) (by rfl) T.isinstance_ (by decide +kernel) (pa_cons (pv 0) (pa_cons (pe_glob (v := .ref cEmptySpan) (u := .ref cEmptySpan) (by rfl) C.gEmptySpan rfl) pa_nil))) (pa_cons (pe_callB (call_isP C.e hz hf List.mem_cons_self) (by rfl) T.isinstance_ (by decide +kernel) (pa_cons (pv 0) (pa_cons (pe_glob (v := .ref cBeforeStart) (u := .ref cBeforeStart) (by rfl) C.gBeforeStart rfl) pa_nil))) (pa_cons (pe_callB (call_isP C.e hz hf List.mem_cons_self) (by rfl) T.isinstance_ (by decide +kernel) (pa_cons (pv 0) (pa_cons (pe_glob (v := .ref cTurnsBack) (u := .ref cTurnsBack) (by rfl) C.gTurnsBack rfl) pa_nil))) (pa_cons (pe_callB (call_isP C.e hz hf List.mem_cons_self) (by rfl) T.isinstance_ (by decide +kernel) (pa_cons (pv 0) (pa_cons (pe_glob (v := .ref cBadRate) (u := .ref cBadRate) (by rfl) C.gBadRate rfl) pa_nil))) (pa_cons (pe_callB (call_isP C.e hz hf List.mem_cons_self) (by rfl) T.isinstance_ (by decide +kernel) (pa_cons (pv 0) (pa_cons (pe_glob (v := .ref cBadBound) (u := .ref cBadBound) (by rfl) C.gBadBound rfl) pa_nil))) (pa_cons (pe_callB (call_isP C.e hz hf List.mem_cons_self) (by rfl) T.isinstance_ (by decide +kernel) (pa_cons (pv 0) (pa_cons (pe_glob (v := .ref cBadName) (u := .ref cBadName) (by rfl) C.gBadName rfl) pa_nil))) (pa_cons (pe_callB (call_isP C.e hz hf List.mem_cons_self) (by rfl) T.isinstance_ (by decide +kernel) (pa_cons (pv 0) (pa_cons (pe_glob (v := .ref cDuplicateName) (u := .ref cDuplicateName) (by rfl) C.gDuplicateName rfl) pa_nil))) (pa_cons (pe_callB (call_isP C.e hz hf List.mem_cons_self) (by rfl) T.isinstance_ (by decide +kernel) (pa_cons (pv 0) (pa_cons (pe_glob (v := .ref cUnknownName) (u := .ref cUnknownName) (by rfl) C.gUnknownName rfl) pa_nil))) (pa_cons (pe_callB (call_isP C.e hz hf List.mem_cons_self) (by rfl) T.isinstance_ (by decide +kernel) (pa_cons (pv 0) (pa_cons (pe_glob (v := .ref cBadLink) (u := .ref cBadLink) (by rfl) C.gBadLink rfl) pa_nil))) (pa_cons (pe_callB (call_isP C.e hz hf List.mem_cons_self) (by rfl) T.isinstance_ (by decide +kernel) (pa_cons (pv 0) (pa_cons (pe_glob (v := .ref cUnknownLink) (u := .ref cUnknownLink) (by rfl) C.gUnknownLink rfl) pa_nil))) (pa_cons (pe_callB (call_isP C.e hz hf List.mem_cons_self) (by rfl) T.isinstance_ (by decide +kernel) (pa_cons (pv 0) (pa_cons (pe_glob (v := .ref cBadNote) (u := .ref cBadNote) (by rfl) C.gBadNote rfl) pa_nil))) (pa_cons (pe_callB (call_isP C.e hz hf List.mem_cons_self) (by rfl) T.isinstance_ (by decide +kernel) (pa_cons (pv 0) (pa_cons (pe_glob (v := .ref cUnknownMoment) (u := .ref cUnknownMoment) (by rfl) C.gUnknownMoment rfl) pa_nil))) (pa_cons (pe_callB (call_isP C.e hz hf List.mem_cons_self) (by rfl) T.isinstance_ (by decide +kernel) (pa_cons (pv 0) (pa_cons (pe_glob (v := .ref cNoWorld) (u := .ref cNoWorld) (by rfl) C.gNoWorld rfl) pa_nil))) (pa_cons (pe_callB (call_isP C.e hz hf List.mem_cons_self) (by rfl) T.isinstance_ (by decide +kernel) (pa_cons (pv 0) (pa_cons (pe_glob (v := .ref cOutsideSpan) (u := .ref cOutsideSpan) (by rfl) C.gOutsideSpan rfl) pa_nil))) (pa_cons (pe_callB (call_isP C.e hz hf List.mem_cons_self) (by rfl) T.isinstance_ (by decide +kernel) (pa_cons (pv 0) (pa_cons (pe_glob (v := .ref cTooManyLiars) (u := .ref cTooManyLiars) (by rfl) C.gTooManyLiars rfl) pa_nil))) (pa_cons (pe_callB (call_isP C.e hz hf List.mem_cons_self) (by rfl) T.isinstance_ (by decide +kernel) (pa_cons (pv 0) (pa_cons (pe_glob (v := .ref cRootFollows) (u := .ref cRootFollows) (by rfl) C.gRootFollows rfl) pa_nil))) (pa_cons (pe_callB (call_isP C.e hz hf List.mem_cons_self) (by rfl) T.isinstance_ (by decide +kernel) (pa_cons (pv 0) (pa_cons (pe_glob (v := .ref cCondemned) (u := .ref cCondemned) (by rfl) C.gCondemned rfl) pa_nil))) (pa_cons (pe_callB (call_isP C.e hz hf List.mem_cons_self) (by rfl) T.isinstance_ (by decide +kernel) (pa_cons (pv 0) (pa_cons (pe_glob (v := .ref cBadDate) (u := .ref cBadDate) (by rfl) C.gBadDate rfl) pa_nil))) (pa_cons (pe_callB (call_isP C.e hz hf List.mem_cons_self) (by rfl) T.isinstance_ (by decide +kernel) (pa_cons (pv 0) (pa_cons (pe_glob (v := .ref cBadLeap) (u := .ref cBadLeap) (by rfl) C.gBadLeap rfl) pa_nil))) (pa_cons (pe_callB (call_isP C.e hz hf List.mem_cons_self) (by rfl) T.isinstance_ (by decide +kernel) (pa_cons (pv 0) (pa_cons (pe_glob (v := .ref cBadLabel) (u := .ref cBadLabel) (by rfl) C.gBadLabel rfl) pa_nil))) (pa_cons (pe_callB (call_isP C.e hz hf List.mem_cons_self) (by rfl) T.isinstance_ (by decide +kernel) (pa_cons (pv 0) (pa_cons (pe_glob (v := .ref cNoSuchSecond) (u := .ref cNoSuchSecond) (by rfl) C.gNoSuchSecond rfl) pa_nil))) (pa_cons (pe_callB (call_isP C.e hz hf List.mem_cons_self) (by rfl) T.isinstance_ (by decide +kernel) (pa_cons (pv 0) (pa_cons (pe_glob (v := .ref cBadCells) (u := .ref cBadCells) (by rfl) C.gBadCells rfl) pa_nil))) (pa_cons (pe_callB (call_isP C.e hz hf List.mem_cons_self) (by rfl) T.isinstance_ (by decide +kernel) (pa_cons (pv 0) (pa_cons (pe_glob (v := .ref cRefusedEntry) (u := .ref cRefusedEntry) (by rfl) C.gRefusedEntry rfl) pa_nil))) (pa_cons (pe_callB (call_isP C.e hz hf List.mem_cons_self) (by rfl) T.isinstance_ (by decide +kernel) (pa_cons (pv 0) (pa_cons (pe_glob (v := .ref cDuplicateTag) (u := .ref cDuplicateTag) (by rfl) C.gDuplicateTag rfl) pa_nil))) (pa_cons (pe_callB (call_isP C.e hz hf List.mem_cons_self) (by rfl) T.isinstance_ (by decide +kernel) (pa_cons (pv 0) (pa_cons (pe_glob (v := .ref cUnknownTag) (u := .ref cUnknownTag) (by rfl) C.gUnknownTag rfl) pa_nil))) (pa_cons (pe_callB (call_isP C.e hz hf List.mem_cons_self) (by rfl) T.isinstance_ (by decide +kernel) (pa_cons (pv 0) (pa_cons (pe_glob (v := .ref cBadLine) (u := .ref cBadLine) (by rfl) C.gBadLine rfl) pa_nil))) (pa_cons (pe_callB (call_isP C.e hz hf List.mem_cons_self) (by rfl) T.isinstance_ (by decide +kernel) (pa_cons (pv 0) (pa_cons (pe_glob (v := .ref cNothingToUndo) (u := .ref cNothingToUndo) (by rfl) C.gNothingToUndo rfl) pa_nil))) (pa_cons (pe_callB (call_isP C.e hz hf List.mem_cons_self) (by rfl) T.isinstance_ (by decide +kernel) (pa_cons (pv 0) (pa_cons (pe_glob (v := .ref cNothingToRedo) (u := .ref cNothingToRedo) (by rfl) C.gNothingToRedo rfl) pa_nil))) pa_nil))))))))))))))))))))))))))))))))
      (pss_one (ps_ret (pe_and (pe_callB (call_isP C.e hz hf List.mem_cons_self) (by rfl) T.isinstance_ (by decide +kernel) (pa_cons (pv 0) (pa_cons (pe_bltn (v := .ty "ValueError") (u := .type "ValueError") (by rfl) C.mV (by rfl) rfl) pa_nil))) (pe_one (pe_cmpR op_eq (pe_bm PySem.F.plainAttrs_list PySem.F.slot_list_count PySem.F.type_list_count (mt_countD (Nat.lt_of_le_of_lt (Nat.add_le_add (Nat.le_add_right _ (16 * k)) (show 65 ≤ 200 by decide)) hr.un)) (pv 1) (pa_cons pe_bl pa_nil)) pe_int (nomark _))))))), ?_⟩
  refine ⟨_, rfl, .ref cZeroDivisor, .ref cZeroDivisor, false, rfl, .own _, .inr ⟨d, _, rfl, hd⟩, C.kZeroDivisor, ?_⟩
  refine ⟨_, rfl, .ref cBadNumber, .ref cBadNumber, false, rfl, .own _, .inr ⟨d, _, rfl, hd⟩, C.kBadNumber, ?_⟩
  refine ⟨_, rfl, .ref cEmptySpan, .ref cEmptySpan, false, rfl, .own _, .inr ⟨d, _, rfl, hd⟩, C.kEmptySpan, ?_⟩
  refine ⟨_, rfl, .ref cBeforeStart, .ref cBeforeStart, false, rfl, .own _, .inr ⟨d, _, rfl, hd⟩, C.kBeforeStart, ?_⟩
  refine ⟨_, rfl, .ref cTurnsBack, .ref cTurnsBack, false, rfl, .own _, .inr ⟨d, _, rfl, hd⟩, C.kTurnsBack, ?_⟩
  refine ⟨_, rfl, .ref cBadRate, .ref cBadRate, true, rfl, .own _, .inr ⟨d, _, rfl, hd⟩, C.kBadRate, ?_⟩
  refine ⟨_, rfl, .ref cBadBound, .ref cBadBound, false, rfl, .own _, .inr ⟨d, _, rfl, hd⟩, C.kBadBound, ?_⟩
  refine ⟨_, rfl, .ref cBadName, .ref cBadName, false, rfl, .own _, .inr ⟨d, _, rfl, hd⟩, C.kBadName, ?_⟩
  refine ⟨_, rfl, .ref cDuplicateName, .ref cDuplicateName, false, rfl, .own _, .inr ⟨d, _, rfl, hd⟩, C.kDuplicateName, ?_⟩
  refine ⟨_, rfl, .ref cUnknownName, .ref cUnknownName, false, rfl, .own _, .inr ⟨d, _, rfl, hd⟩, C.kUnknownName, ?_⟩
  refine ⟨_, rfl, .ref cBadLink, .ref cBadLink, false, rfl, .own _, .inr ⟨d, _, rfl, hd⟩, C.kBadLink, ?_⟩
  refine ⟨_, rfl, .ref cUnknownLink, .ref cUnknownLink, false, rfl, .own _, .inr ⟨d, _, rfl, hd⟩, C.kUnknownLink, ?_⟩
  refine ⟨_, rfl, .ref cBadNote, .ref cBadNote, false, rfl, .own _, .inr ⟨d, _, rfl, hd⟩, C.kBadNote, ?_⟩
  refine ⟨_, rfl, .ref cUnknownMoment, .ref cUnknownMoment, false, rfl, .own _, .inr ⟨d, _, rfl, hd⟩, C.kUnknownMoment, ?_⟩
  refine ⟨_, rfl, .ref cNoWorld, .ref cNoWorld, false, rfl, .own _, .inr ⟨d, _, rfl, hd⟩, C.kNoWorld, ?_⟩
  refine ⟨_, rfl, .ref cOutsideSpan, .ref cOutsideSpan, false, rfl, .own _, .inr ⟨d, _, rfl, hd⟩, C.kOutsideSpan, ?_⟩
  refine ⟨_, rfl, .ref cTooManyLiars, .ref cTooManyLiars, false, rfl, .own _, .inr ⟨d, _, rfl, hd⟩, C.kTooManyLiars, ?_⟩
  refine ⟨_, rfl, .ref cRootFollows, .ref cRootFollows, false, rfl, .own _, .inr ⟨d, _, rfl, hd⟩, C.kRootFollows, ?_⟩
  refine ⟨_, rfl, .ref cCondemned, .ref cCondemned, false, rfl, .own _, .inr ⟨d, _, rfl, hd⟩, C.kCondemned, ?_⟩
  refine ⟨_, rfl, .ref cBadDate, .ref cBadDate, false, rfl, .own _, .inr ⟨d, _, rfl, hd⟩, C.kBadDate, ?_⟩
  refine ⟨_, rfl, .ref cBadLeap, .ref cBadLeap, false, rfl, .own _, .inr ⟨d, _, rfl, hd⟩, C.kBadLeap, ?_⟩
  refine ⟨_, rfl, .ref cBadLabel, .ref cBadLabel, false, rfl, .own _, .inr ⟨d, _, rfl, hd⟩, C.kBadLabel, ?_⟩
  refine ⟨_, rfl, .ref cNoSuchSecond, .ref cNoSuchSecond, false, rfl, .own _, .inr ⟨d, _, rfl, hd⟩, C.kNoSuchSecond, ?_⟩
  refine ⟨_, rfl, .ref cBadCells, .ref cBadCells, false, rfl, .own _, .inr ⟨d, _, rfl, hd⟩, C.kBadCells, ?_⟩
  refine ⟨_, rfl, .ref cRefusedEntry, .ref cRefusedEntry, false, rfl, .own _, .inr ⟨d, _, rfl, hd⟩, C.kRefusedEntry, ?_⟩
  refine ⟨_, rfl, .ref cDuplicateTag, .ref cDuplicateTag, false, rfl, .own _, .inr ⟨d, _, rfl, hd⟩, C.kDuplicateTag, ?_⟩
  refine ⟨_, rfl, .ref cUnknownTag, .ref cUnknownTag, false, rfl, .own _, .inr ⟨d, _, rfl, hd⟩, C.kUnknownTag, ?_⟩
  refine ⟨_, rfl, .ref cBadLine, .ref cBadLine, false, rfl, .own _, .inr ⟨d, _, rfl, hd⟩, C.kBadLine, ?_⟩
  refine ⟨_, rfl, .ref cNothingToUndo, .ref cNothingToUndo, false, rfl, .own _, .inr ⟨d, _, rfl, hd⟩, C.kNothingToUndo, ?_⟩
  refine ⟨_, rfl, .ref cNothingToRedo, .ref cNothingToRedo, false, rfl, .own _, .inr ⟨d, _, rfl, hd⟩, C.kNothingToRedo, ?_⟩
  refine ⟨by show 30 ≤ sizeLine; decide, fun D hD => ?_⟩
  have c0 := same_new hD (.lst ([.bl false, .bl false, .bl false, .bl false, .bl false, .bl true, .bl false, .bl false, .bl false, .bl false, .bl false, .bl false, .bl false, .bl false, .bl false, .bl false, .bl false, .bl false, .bl false, .bl false, .bl false, .bl false, .bl false, .bl false, .bl false, .bl false, .bl false, .bl false, .bl false, .bl false] : List V))
  have hD2 : (upd H D (.lst ([.bl false, .bl false, .bl false, .bl false, .bl false, .bl true, .bl false, .bl false, .bl false, .bl false, .bl false, .bl false, .bl false, .bl false, .bl false, .bl false, .bl false, .bl false, .bl false, .bl false, .bl false, .bl false, .bl false, .bl false, .bl false, .bl false, .bl false, .bl false, .bl false, .bl false] : List V))) D = some (.lst [.bl false, .bl false, .bl false, .bl false, .bl false, .bl true, .bl false, .bl false, .bl false, .bl false, .bl false, .bl false, .bl false, .bl false, .bl false, .bl false, .bl false, .bl false, .bl false, .bl false, .bl false, .bl false, .bl false, .bl false, .bl false, .bl false, .bl false, .bl false, .bl false, .bl false]) := upd_same
  have hd2 := c0 _ _ hd
  generalize upd H D (.lst ([.bl false, .bl false, .bl false, .bl false, .bl false, .bl true, .bl false, .bl false, .bl false, .bl false, .bl false, .bl false, .bl false, .bl false, .bl false, .bl false, .bl false, .bl false, .bl false, .bl false, .bl false, .bl false, .bl false, .bl false, .bl false, .bl false, .bl false, .bl false, .bl false, .bl false] : List V)) = H1 at c0 hD2 hd2 ⊢
  refine ⟨_, rfl, .ty "ValueError", .type "ValueError", true, rfl, .ty _, .inr ⟨d, _, rfl, hd2⟩, C.kV, true, rfl, ifT rfl ?_⟩
  refine ⟨_, rfl, .inl ⟨rfl, _, SqL.of hD2⟩, D, .bl true, PyData.bool true, [PyData.bool false, PyData.bool false, PyData.bool false, PyData.bool false, PyData.bool false, PyData.bool true, PyData.bool false, PyData.bool false, PyData.bool false, PyData.bool false, PyData.bool false, PyData.bool false, PyData.bool false, PyData.bool false, PyData.bool false, PyData.bool false, PyData.bool false, PyData.bool false, PyData.bool false, PyData.bool false, PyData.bool false, PyData.bool false, PyData.bool false, PyData.bool false, PyData.bool false, PyData.bool false, PyData.bool false, PyData.bool false, PyData.bool false, PyData.bool false], rfl, rfl, .lst (SqL.of hD2) (.cons (.bl _) (.cons (.bl _) (.cons (.bl _) (.cons (.bl _) (.cons (.bl _) (.cons (.bl _) (.cons (.bl _) (.cons (.bl _) (.cons (.bl _) (.cons (.bl _) (.cons (.bl _) (.cons (.bl _) (.cons (.bl _) (.cons (.bl _) (.cons (.bl _) (.cons (.bl _) (.cons (.bl _) (.cons (.bl _) (.cons (.bl _) (.cons (.bl _) (.cons (.bl _) (.cons (.bl _) (.cons (.bl _) (.cons (.bl _) (.cons (.bl _) (.cons (.bl _) (.cons (.bl _) (.cons (.bl _) (.cons (.bl _) (.cons (.bl _) .nil)))))))))))))))))))))))))))))), .bl _, by decide +kernel, by decide +kernel, ?_⟩
  refine ⟨rfl, ?_⟩
  exact z H1 c0
end Vk

namespace Vk
open PySem L2 Vm Vl
variable {l aZERO aONE CB CR CV fB fR : Addr} {P : Program} {w : World} {K : PySem.W.Frag} {mg : Str → Option Value} {base : Heap} {k : Nat} {f f1 f2 f3 f4 f5 f6 f7 f8 f9 : Addr} {fd fd1 fd2 fd3 fd4 fd5 fd6 fd7 fd8 fd9 : FuncData}
def spAl (a : Addr) (d : Option Addr) : Sp := fun vs H Q _ => ∃ (dd : Addr) (y : V), d = some dd ∧ vs = [.ref a] ∧ H dd = some (.xd [(("value" : Str), y)]) ∧ ∀ H', Same H H' → Q (.bl true) H'
theorem spAl_imp {a : Addr} {oe : Obj} {d : Option Addr} (hz : Zc (.ref CR) d oe) (hf : ∃ fv, oe.data = .fields fv) : ∀ vs H Q E, spAl a d vs H Q E → spAlone CR (a, oe) vs H Q E := by
  rintro vs H Q E ⟨dd, y, rfl, rfl, h, q⟩
  exact ⟨dd, y, rfl, hz, hf, h, q⟩
def tSuT (K : PySem.W.Frag) (C : Addr) : Addr → Value → Option Addr → TS := fun a cls d D σ H => cls = .ref C ∧
  tSeq (tIfS (tAnd (tB (tCB (rIsG K C a d) (tCons (tVar 3) (tCons (tC (.ref C)) tNil)))) (tB (tCall (spAl a d) [] E0 (tCons (tVar 3) tNil)))) (tRet (tTup (tCons (tC (.str "BadRate")) (tCons (tByVal C a (.ref C) d (tVar 3)) tNil)))) tNext)
    (tRet (tTup (tCons (tC (.str "raised")) (tCons (tC .non) tNil)))) D σ H
abbrev s__law_told : Stmt := top 79
abbrev N__law_told : List Str := ["_law_d", "_law_lo", "_law_top", "_law_e"]
theorem sc__law_told : FnScope N__law_told ["_law_d", "_law_lo", "_law_top"] (defScope s__law_told) := ⟨rfl, rfl, rfl, by decide +kernel, rfl, by decide +kernel, by decide +kernel⟩
abbrev ps__law_told : List Str := ["_law_d", "_law_lo", "_law_top"]
def spTold (K : PySem.W.Frag) : Sp := fun vs H Q _ => ∃ (x y u : V) (d s f : Rat) (m : Nat), vs = [x, y, u] ∧ Rq K H x d ∧ Rq K H y s ∧ Rq K H u f ∧ Sz 4000 d ∧ Sz m s ∧ Sz m f ∧ m ≤ 2000 ∧
  (0 < s → s ≤ f → ∀ t e v w H', Same H H' → SqT K H' t [.str "is", .ref e] → SqT K H' e [v, w] → Rq K H' v (elo d s f) → Rq K H' w (ehi d s f) → Q (.ref t) H') ∧
  (s ≤ 0 → ∀ t H', Same H H' → SqT K H' t [.str "BadRate", y] → Q (.ref t) H') ∧ (0 < s → f < s → ∀ t H', Same H H' → SqT K H' t [.str "BadRate", u] → Q (.ref t) H')
theorem ok_told (T : Bn mg) (eR : ExcC K CR) (gV : mg "VerdictError" = some (.ref CV)) (kR : PySem.W.kitOne K (.ref CR) (.ref CR) = some true) (xV : PySem.W.exmOne K (.ref CR) (.ref CV) = some true) (TR : PySem.ValX.ValTxt K mg "BadRate" CR fR) (F : Fn K mg "_law_told" s__law_told ps__law_told f fd)
    (delapsed : DefY P w K mg base k "elapsed" ["d", "slow", "fast"] (spEl K CR) f1 fd1) (d_law_alone : DefP P w K mg base k "_law_alone" ["_law_e"] (spAlone CR) f2 fd2) :
    Def P w K mg base (k + 1) "_law_told" ps__law_told (spTold K) f fd := by
  refine ⟨F.F.ok sc__law_told (fun vs H Q E h => ?_) (fun cdv A outer s H vs Q E hr h => ?_), F.m, F.F.kp, F.b⟩
  · obtain ⟨_, _, _, _, _, _, _, rfl, _⟩ := h
    rfl
  obtain ⟨x, y, u, d, sq, fq, m, rfl, hx, hy, hu, zd, zs, zf, hm, z1, z2, z3⟩ := h
  refine ⟨_, (pss_one (L2N.ps_try_ases (W0 := fun _ _ _ _ => False) rfl rfl sc__law_told.nd takes0Y
          (fun W pn xe tk _ => pss_one (ps_ret (pe_tup (pa_cons pe_str (pa_cons (pcallY delapsed hr tk (pa_cons (pv 0) (pa_cons (pv 1) (pa_cons (pv 2) pa_nil)))) pa_nil)))))
          (L2N.AsOk.cons (i := 3) (ts := tSuT K CR) ⟨rfl, by decide, Or.inl gV⟩ rfl rfl (fun a oe cls dd pn hz hf => pss_if (p := cls = .ref CR) fun e => by
              subst e
              exact pss_cons (ps_if (PW.pt (pw_and (pt_val (pe_callB (call_isG eR hz.zc hf) (by rfl) T.isinstance_ (by decide +kernel) (pa_cons (pv 3) (pa_cons (pe_glob (v := .ref CR) (u := .ref CR) (by rfl) TR.gC rfl) pa_nil))))
                  (pw_and1 (pt_val (pe_callP2 d_law_alone ⟨hr.dp, hr.un⟩ ⟨rfl, hf.elim fun vs ev => ⟨vs, ev, hz.2.2 vs ev⟩⟩ List.mem_cons_self (spAl_imp hz.zc hf) (pa_cons (pv 3) pa_nil))))))
                (pss_one (ps_ret (pe_tup (pa_cons pe_str (pa_cons (pe_byVal TR hz.zc hf (pv 3)) pa_nil)))))
                pss_nil)
                (pss_one (ps_ret (pe_tup (pa_cons pe_str (pa_cons pe_non pa_nil))))))
          L2N.AsOk.nil))), ?_⟩
  have fault : ∀ u', (∀ t H', Same H H' → SqT K H' t [.str "BadRate", u'] → Q (.ref t) H') → ∀ dd, H dd = none → wAses K (fun _ _ _ _ => False) { nx := fun _ H' => Q .non H', rt := Q } [(.ref CV, 3, tSuT K CR)] (.ref CR) (some dd) [some x, some y, some u, none] (upd H dd (.xd [(("value" : Str), u')])) := by
    intro u' hq dd hdd
    have cd := same_new hdd (.xd [(("value" : Str), u')])
    have hdat : (upd H dd (.xd [(("value" : Str), u')])) dd = some (.xd [(("value" : Str), u')]) := upd_same
    generalize upd H dd (.xd [(("value" : Str), u')]) = H2 at cd hdat ⊢
    refine ⟨true, xV, fun _ e he => ⟨rfl, ?_⟩, nofun⟩
    refine ⟨_, rfl, .ref CR, .ref CR, true, rfl, .own _, .inr ⟨dd, _, rfl, hdat⟩, kR, _, rfl, ifT rfl ?_⟩
    refine ⟨_, rfl, dd, u', rfl, rfl, hdat, fun H3 s3 => ⟨_, rfl, ifT rfl ?_⟩⟩
    refine ⟨_, rfl, rfl, rfl, dd, u', rfl, s3 _ _ hdat, sz2, fun t ht => ?_⟩
    have st := same_new ht (.tup [.str "BadRate", u'])
    exact hq t _ (cd.trans (s3.trans st)) (SqT.of upd_same)
  refine ⟨_, rfl, _, rfl, _, rfl, x, y, u, d, sq, fq, m, rfl, hx, hy, hu, zd, zs, zf, hm, fun c1 c2 e v w' H' s1 h1 hv hw => ⟨sz2, fun t ht => ?_⟩, fun c => fault y (z2 c), fun c1 c2 => fault u (z3 c1 c2)⟩
  have st := same_new ht (.tup [.str "is", .ref e])
  exact z1 c1 c2 t e v w' _ (s1.trans st) (SqT.of upd_same) (st.sqt h1) (hv.same st) (hw.same st)
end Vk

namespace Vk
open PySem L2 Vm Vl
variable {l aZERO aONE CB CR CV fB fR : Addr} {P : Program} {w : World} {K : PySem.W.Frag} {mg : Str → Option Value} {base : Heap} {k : Nat} {f f1 f2 f3 f4 f5 f6 f7 f8 f9 : Addr} {fd fd1 fd2 fd3 fd4 fd5 fd6 fd7 fd8 fd9 : FuncData}
def unitQ : Rat → Prop := fun q => 0 ≤ q ∧ q ≤ 1
instance (q : Rat) : Decidable (unitQ q) := inferInstanceAs (Decidable (_ ∧ _))
/-- without a jump -/
def NJ (c : List Pc) : Prop := ∀ (i : Nat) (p q : Pc), c[i]? = some p → c[i + 1]? = some q → jmp (ky p) q = 0
theorem NJ.snoc {c : List Pc} {q : Pc} (h : NJ c) (g : ∀ p, c.getLast? = some p → jmp (ky p) q = 0) : NJ (c ++ [q]) := by
  intro i p r hp hr
  have hr1 := (List.getElem?_eq_some_iff.mp hr).1
  rw [List.length_append] at hr1
  simp only [List.length_cons, List.length_nil] at hr1
  rw [List.getElem?_append_left (by omega)] at hp
  by_cases e : i + 1 < c.length
  · rw [List.getElem?_append_left e] at hr
    exact h i p r hp hr
  · rw [List.getElem?_append_right (by omega), show i + 1 - c.length = 0 by omega] at hr
    cases Option.some.inj hr
    refine g p ?_
    rw [List.getLast?_eq_getElem?, show c.length - 1 = i by omega]
    exact hp
theorem jmp_line {p q : Pc} (h : q.v = p.v + p.r * (q.s - p.s)) : jmp (ky p) q = 0 := by
  unfold jmp ky
  dsimp only
  grind
def InR (lo top : Rat) (c : List Pc) : Prop := ∀ p ∈ c, lo ≤ p.r ∧ p.r ≤ top
theorem unit_rate {lo top sh : Rat} (h : unitQ sh) (g : lo ≤ top) : lo ≤ lo + sh * (top - lo) ∧ lo + sh * (top - lo) ≤ top := by
  obtain ⟨h0, h1⟩ := h
  have d : 0 ≤ top - lo := by grind
  have a := Rat.mul_nonneg h0 d
  have b := Rat.mul_nonneg (show 0 ≤ 1 - sh by grind) d
  constructor <;> grind
def spSteady (K : PySem.W.Frag) (l : Addr) : Sp := fun vs H Q _ => ∃ (s : Addr) (x y : V) (lo top : Rat) (many : Nat), vs = [.ref s, x, y, .int many] ∧ Sto l s H ∧ Rq K H x lo ∧ Rq K H y top ∧ Sz 11 lo ∧ Sz 11 top ∧ 0 < lo ∧ lo ≤ top ∧ many ≤ 40 ∧
  ∀ D us c H', Bun (Pq K) l s D H us c H' → c.length = many → Cok c → Cz (5 + 6 * many) (5 + 47 * many) 40 c → InR lo top c → NJ c → Q (.ref D) H'
abbrev s__law_steady : Stmt := top 76
abbrev N__law_steady : List Str := ["_law_store_here", "_law_lo", "_law_top", "_law_many", "_law_when_here", "_law_told_here", "_law_course_here", "_law_k", "_law_share", "_law_pace_here", "_law_step"]
theorem sc__law_steady : FnScope N__law_steady ["_law_store_here", "_law_lo", "_law_top", "_law_many"] (defScope s__law_steady) := ⟨rfl, rfl, rfl, by decide +kernel, rfl, by decide +kernel, by decide +kernel⟩
abbrev ps__law_steady : List Str := ["_law_store_here", "_law_lo", "_law_top", "_law_many"]
theorem ok_steady (T : Bn mg) (F : Fn K mg "_law_steady" s__law_steady ps__law_steady f fd) (d_law_part : Def P w K mg base k "_law_part" ["_law_store_here"] (spDraw K l 5 anyQ) f1 fd1) (d_law_pick : Def P w K mg base k "_law_pick" ["_law_store_here", "_law_things"] (spPick K l) f2 fd2)
    (d_law_above : Def P w K mg base k "_law_above" ["_law_store_here"] (spDraw K l 5 posQ) f3 fd3) (d_law_plus : Def P w K mg base k "_law_plus" ["_law_a", "_law_b"] (spOp2 K (· + ·)) f4 fd4) (d_law_times : Def P w K mg base k "_law_times" ["_law_a", "_law_b"] (spOp2 K (· * ·)) f5 fd5)
    (d_law_minus : Def P w K mg base k "_law_minus" ["_law_a", "_law_b"] (spOp2 K (· - ·)) f6 fd6) :
    Def P w K mg base (k + 1) "_law_steady" ps__law_steady (spSteady K l) f fd := by
  refine ⟨F.F.ok sc__law_steady (fun vs H Q E h => ?_) (fun cdv A outer s H vs Q E hr h => ?_), F.m, F.F.kp, F.b⟩
  · obtain ⟨_, _, _, _, _, _, rfl, _⟩ := h
    rfl
  obtain ⟨s, x, y, lo, top, many, rfl, hS, hx, hy, zl, zt0, pl, lt, hm, z⟩ := h
  refine ⟨_, (pss_cons (ps_set (i := 4) sc__law_steady.nd rfl (Or.inl rfl) (pcall d_law_part hr (pa_cons (pv 0) pa_nil)))
      (pss_cons (ps_set (i := 5) sc__law_steady.nd rfl (Or.inl rfl) (pcall d_law_part hr (pa_cons (pv 0) pa_nil)))
      (pss_cons (ps_set (i := 6) sc__law_steady.nd rfl (Or.inl rfl) (pe_lst pa_nil))
      (pss_cons (ps_for PassesOwn.never rfl (pi_range1 (by rfl) T.range_ (pa_cons (pv 3) pa_nil)) (pg_name (i := 7) sc__law_steady.nd rfl (Or.inl rfl))
        (pss_cons (ps_set (i := 8) sc__law_steady.nd rfl (Or.inl rfl) (pcall d_law_pick hr (pa_cons (pv 0) (pa_cons (pe_lst (pa_cons (pe_tup (pa_cons pe_int (pa_cons pe_int pa_nil))) (pa_cons (pe_tup (pa_cons pe_int (pa_cons pe_int pa_nil))) (pa_cons (pe_tup (pa_cons pe_int (pa_cons pe_int pa_nil))) (pa_cons (pe_tup (pa_cons pe_int (pa_cons pe_int pa_nil))) (pa_cons (pe_tup (pa_cons pe_int (pa_cons pe_int pa_nil))) pa_nil)))))) pa_nil))))
        (pss_cons (ps_set (i := 9) sc__law_steady.nd rfl (Or.inl rfl) (pcall d_law_plus hr (pa_cons (pv 1) (pa_cons (pcall d_law_times hr (pa_cons (pv 8) (pa_cons (pcall d_law_minus hr (pa_cons (pv 2) (pa_cons (pv 1) pa_nil))) pa_nil))) pa_nil))))
        (pss_cons (ps_expr (pe_bm PySem.F.plainAttrs_list PySem.F.slot_list_append PySem.F.type_list_append mt_append (pv 6) (pa_cons (pe_tup (pa_cons (pv 4) (pa_cons (pv 5) (pa_cons (pv 9) pa_nil)))) pa_nil)))
        (pss_cons (ps_set (i := 10) sc__law_steady.nd rfl (Or.inl rfl) (pcall d_law_above hr (pa_cons (pv 0) pa_nil)))
        (pss_cons (ps_set (i := 4) sc__law_steady.nd rfl (Or.inl rfl) (pcall d_law_plus hr (pa_cons (pv 4) (pa_cons (pv 10) pa_nil))))
        (pss_one (ps_set (i := 5) sc__law_steady.nd rfl (Or.inl rfl) (pcall d_law_plus hr (pa_cons (pv 5) (pa_cons (pcall d_law_times hr (pa_cons (pv 9) (pa_cons (pv 10) pa_nil))) pa_nil)))))))))))
      (pss_one (ps_ret (pv 6))))))), ?_⟩
  refine ⟨_, rfl, s, rfl, hS, fun wv G1 qw S1 e1 => ?_⟩
  refine ⟨_, rfl, s, rfl, S1, fun tv G2 qt S2 e2 => ?_⟩
  refine ⟨Nat.zero_le _, fun D hD => ?_⟩
  have B0 : Bun (Pq K) l s D H [] [] (upd G2 D (.lst [])) := Bun.start S2 (e1.trans e2) hD
  have s4 := same_new hD (.lst [])
  obtain ⟨qw0, rw0, zw0, _⟩ := (qw.fr e2 S1).same s4
  obtain ⟨qt0, rt0, zt0', _⟩ := qt.same s4
  have hx0 := ((hx.fr e1 hS.some).fr e2 S1.some).same s4
  have hy0 := ((hy.fr e1 hS.some).fr e2 S1.some).same s4
  have p62 : (2 : Int) ^ 62 = 4611686018427387904 := by decide
  refine ⟨_, rfl, many, rfl, by omega, by omega, for_range (n := ((many : Nat) : Int).toNat) (fun i σ G => ∃ (us : List V) (c : List Pc) (wv tv : V) (k1 k2 k3 k4 : Option V) (qw qt : Rat), σ = [some (.ref s), some x, some y, some (.int many), some wv, some tv, some (.ref D), k1, k2, k3, k4] ∧
      Bun (Pq K) l s D H us c G ∧ Rq K G wv qw ∧ Rq K G tv qt ∧ Rq K G x lo ∧ Rq K G y top ∧ Sz (5 + 6 * i) qw ∧ Sz (5 + 47 * i) qt ∧ c.length = i ∧ (∀ p ∈ c, p.s < qw) ∧ Cok c ∧ Cz (5 + 6 * many) (5 + 47 * many) 40 c ∧ InR lo top c ∧ NJ c ∧ ∀ p, c.getLast? = some p → qt = p.v + p.r * (qw - p.s))
    ⟨[], [], _, _, _, _, _, _, qw0, qt0, rfl, B0, rw0, rt0, hx0, hy0, zw0, zt0', rfl, nofun, ⟨nofun, fun i p q h => by simp at h⟩, nofun, nofun, fun i p q h => by simp at h, fun p h => by simp at h⟩ ?_ ?_⟩
  · rintro i σ G hi ⟨us, c, wv, tv, k1, k2, k3, k4, qw, qto, rfl, B, rw1, rt1, hx1, hy1, zw, zt, hc, hlt, ok, cz, ir, nj, ln⟩
    have hi' : i < 40 := by omega
    have hul : us.length ≤ 1000 := by have := B.len; omega
    -- the share
    refine ⟨_, rfl, sz2, fun t1 h1 => ?_⟩
    have c1 := same_new h1 (.tup [.int 0, .int 1]); have q1 := Qd.new (K := K) (m := 5) (ok := unitQ) (H := G) (t := t1) 0 1 (0) (by decide) (by decide) (by decide) (by decide); generalize upd G t1 (.tup [.int 0, .int 1]) = G1 at c1 q1 ⊢
    refine ⟨sz2, fun t2 h2 => ?_⟩
    have c2 := same_new h2 (.tup [.int 1, .int 1]); have q2 := Qd.new (K := K) (m := 5) (ok := unitQ) (H := G1) (t := t2) 1 1 (1) (by decide) (by decide) (by decide) (by decide); generalize upd G1 t2 (.tup [.int 1, .int 1]) = G2 at c2 q2 ⊢
    refine ⟨sz2, fun t3 h3 => ?_⟩
    have c3 := same_new h3 (.tup [.int 1, .int 2]); have q3 := Qd.new (K := K) (m := 5) (ok := unitQ) (H := G2) (t := t3) 1 2 (mkRat 1 2) (by decide) (by decide) (by decide) (by decide); generalize upd G2 t3 (.tup [.int 1, .int 2]) = G3 at c3 q3 ⊢
    refine ⟨sz2, fun t4 h4 => ?_⟩
    have c4 := same_new h4 (.tup [.int 1, .int 8]); have q4 := Qd.new (K := K) (m := 5) (ok := unitQ) (H := G3) (t := t4) 1 8 (mkRat 1 8) (by decide) (by decide) (by decide) (by decide); generalize upd G3 t4 (.tup [.int 1, .int 8]) = G4 at c4 q4 ⊢
    refine ⟨sz2, fun t5 h5 => ?_⟩
    have c5 := same_new h5 (.tup [.int 7, .int 8]); have q5 := Qd.new (K := K) (m := 5) (ok := unitQ) (H := G4) (t := t5) 7 8 (mkRat 7 8) (by decide) (by decide) (by decide) (by decide); generalize upd G4 t5 (.tup [.int 7, .int 8]) = G5 at c5 q5 ⊢
    refine ⟨sm5, fun p hp => ?_⟩
    have cp := same_new hp (.lst [.ref t1, .ref t2, .ref t3, .ref t4, .ref t5])
    have d5 := c5.trans cp; have d4 := c4.trans d5; have d3 := c3.trans d4; have d2 := c2.trans d3; have d1 := c1.trans d2
    have Sp := B.1.same d1
    have np := (B.1.same (c1.trans (c2.trans (c3.trans (c4.trans c5))))).ne hp
    have q1 := q1.same d2; have q2 := q2.same d3; have q3 := q3.same d4; have q4 := q4.same d5; have q5 := q5.same cp
    refine ⟨s, p, _, rfl, Sp, np, SqL.of upd_same, (by show 0 < 5; decide), (by show 5 < 2 ^ 32; decide), fun vs H6 hv S6 e6 => ?_⟩
    have qsh : Qd K 5 unitQ H6 vs := by
      refine Qd.fr e6 Sp ?_
      simp only [List.mem_cons, List.mem_nil_iff, or_false] at hv
      rcases hv with rfl | rfl | rfl | rfl | rfl <;> assumption
    obtain ⟨sh, rsh, zsh, osh⟩ := qsh
    have e16 : Fr s G H6 := (Fr.of d1).trans e6
    have hB := B.1.some
    have B6 := B.fr lastsP e16 S6
    have hx6 := hx1.fr e16 hB
    have hy6 := hy1.fr e16 hB
    have rw6 := rw1.fr e16 hB
    have rt6 := rt1.fr e16 hB
    clear q1 q2 q3 q4 q5 d1 d2 d3 d4 d5 c1 c2 c3 c4 c5 cp Sp np hv e6 B hx1 hy1 rw1 rt1 e16 hB
    -- the pace
    refine ⟨_, rfl, _, rfl, _, rfl, _, rfl, y, x, top, lo, 11, 11, rfl, hy6, hx6, zt0, zl, by decide, fun v1 H7 e7 h7 => ?_⟩
    refine ⟨_, _, sh, top - lo, 5, 23, rfl, rsh.same e7, h7, zsh, zt0.sub zl, by decide, fun v2 H8 e8 h8 => ?_⟩
    refine ⟨_, _, lo, sh * (top - lo), 11, 28, rfl, (hx6.same e7).same e8, h8, zl, zsh.mul (zt0.sub zl), by decide, fun pv H9 e9 h9 => ?_⟩
    have e79 := e7.trans (e8.trans e9)
    obtain ⟨u1, u2⟩ := unit_rate osh lt
    have zp : Sz 40 (lo + sh * (top - lo)) := zl.add (zsh.mul (zt0.sub zl))
    have h9 : Rq K H9 pv (lo + sh * (top - lo)) := h9
    generalize lo + sh * (top - lo) = qp at h9 u1 u2 zp
    have B9 := B6.same lastsP e79
    have hx9 := hx6.same e79; have hy9 := hy6.same e79; have rw9 := rw6.same e79; have rt9 := rt6.same e79
    clear B6 hx6 hy6 rw6 rt6 e79 e7 e8 e9 h7 h8 S6
    -- the piece
    refine ⟨_, rfl, .inl ⟨rfl, _, SqL.of B9.at⟩, _, rfl, _, rfl, _, rfl, sm3, fun T hT => ?_⟩
    have t1 := same_new hT (.tup [wv, tv, pv])
    have B1 := B9.same lastsP t1
    refine ⟨D, _, _, rfl, rfl, B1.at, le1000 hul, ?_⟩
    have B2 := B1.app lastsP (x := .ref T) (p := ⟨qw, qto, qp⟩) ⟨T, wv, tv, pv, rfl, SqT.of upd_same, rw9.same t1, rt9.same t1, h9.same t1⟩
    have f2 : Fr D (upd H9 T (.tup [wv, tv, pv])) (upd (upd H9 T (.tup [wv, tv, pv])) D (.lst (us ++ [.ref T]))) := Fr.upd _
    have rw2 := (rw9.same t1).fr f2 ⟨_, B1.at⟩
    have rt2 := (rt9.same t1).fr f2 ⟨_, B1.at⟩
    have rp2 := (h9.same t1).fr f2 ⟨_, B1.at⟩
    have hx2 := (hx9.same t1).fr f2 ⟨_, B1.at⟩
    have hy2 := (hy9.same t1).fr f2 ⟨_, B1.at⟩
    refine ⟨_, rfl, s, rfl, B2.1, fun sv G3 qs0 S3 e3 => ?_⟩
    have B3 := B2.fr lastsP e3 S3
    obtain ⟨qs, rs, zs, ps⟩ := qs0
    have ps : 0 < qs := ps
    have rw3 := rw2.fr e3 B2.1.some
    have rt3 := rt2.fr e3 B2.1.some
    have rp3 := rp2.fr e3 B2.1.some
    have hx3 := hx2.fr e3 B2.1.some
    have hy3 := hy2.fr e3 B2.1.some
    refine ⟨_, rfl, _, rfl, _, _, qw, qs, _, 5, rfl, rw3, rs, zw, zs, by omega, fun wv' G4 e4 rw4 => ?_⟩
    refine ⟨_, rfl, _, rfl, _, rfl, _, _, qp, qs, 40, 5, rfl, rp3.same e4, rs.same e4, zp, zs, by omega, fun xv G5 e5 rx => ?_⟩
    refine ⟨_, _, qto, qp * qs, _, 45, rfl, rt3.same (e4.trans e5), rx, zt, zp.mul zs, by omega, fun tv' G6 e6 rt6 => ?_⟩
    have B6 := B3.same lastsP (e4.trans (e5.trans e6))
    refine ⟨_, _, _, _, _, _, _, _, qw + qs, qto + qp * qs, rfl, B6, rw4.same (e5.trans e6), rt6, hx3.same (e4.trans (e5.trans e6)), hy3.same (e4.trans (e5.trans e6)), (zw.add zs).mono (by omega), (zt.add (zp.mul zs)).mono (by omega), by rw [List.length_append, hc]; rfl, fun p hp => ?_, ok.snoc hlt (by show 0 < qp; grind), cz.snoc ⟨zw.mono (by omega), zt.mono (by omega), zp⟩, fun p hp => ?_, nj.snoc fun p hp => jmp_line (ln p hp), fun p hp => ?_⟩
    · rcases List.mem_append.mp hp with hp | hp
      · have h1 := hlt p hp; grind
      · rw [List.mem_singleton.mp hp]
        exact lt_add_pos ps
    · rcases List.mem_append.mp hp with hp | hp
      · exact ir p hp
      · rw [List.mem_singleton.mp hp]
        exact ⟨u1, u2⟩
    · rw [List.getLast?_append] at hp
      cases Option.some.inj hp
      show qto + qp * qs = qto + qp * (qw + qs - qw)
      grind
  · rintro σ G ⟨us, c, wv, tv, k1, k2, k3, k4, qw, qt, rfl, B, _, _, _, _, _, _, hc, _, ok, cz, ir, nj, _⟩
    exact ⟨_, rfl, z D us c G B (by omega) ok cz ir nj⟩
end Vk

namespace Vk
open PySem L2 Vm Vl
variable {l aZERO aONE CB CR CV fB fR : Addr} {P : Program} {w : World} {K : PySem.W.Frag} {mg : Str → Option Value} {base : Heap} {k : Nat} {f f1 f2 f3 f4 f5 f6 f7 f8 f9 : Addr} {fd fd1 fd2 fd3 fd4 fd5 fd6 fd7 fd8 fd9 : FuncData}
theorem ixN_at {n i : Nat} (h : i < n) {z : Int} (e : z = (i : Int)) : ixN n z = some i := by
  subst e
  unfold ixN
  rw [if_pos (by omega), if_pos (by omega)]
  rfl
theorem jmp_if {p q : Pc} : jmp (ky p) q = 0 ↔ q.v - p.v = p.r * (q.s - p.s) := by
  unfold jmp ky
  dsimp only
  constructor <;> intro h <;> grind
abbrev s__law_keeps : Stmt := top 77
abbrev N__law_keeps : List Str := ["_law_course_here", "_law_lo", "_law_top", "_law_k", "_law_before", "_law_gone"]
theorem sc__law_keeps : FnScope N__law_keeps ["_law_course_here", "_law_lo", "_law_top"] (defScope s__law_keeps) := ⟨rfl, rfl, rfl, by decide +kernel, rfl, by decide +kernel, by decide +kernel⟩
abbrev ps__law_keeps : List Str := ["_law_course_here", "_law_lo", "_law_top"]
theorem ok_keeps (T : Bn mg) (F : Fn K mg "_law_keeps" s__law_keeps ps__law_keeps f fd) (d_law_below : Def P w K mg base k "_law_below" ["_law_a", "_law_b"] (spTest2 K fun p q => .bl (decide (p < q))) f1 fd1) (d_law_minus : Def P w K mg base k "_law_minus" ["_law_a", "_law_b"] (spOp2 K (· - ·)) f2 fd2) (d_law_times : Def P w K mg base k "_law_times" ["_law_a", "_law_b"] (spOp2 K (· * ·)) f3 fd3) :
    Def P w K mg base (k + 1) "_law_keeps" ps__law_keeps (spRW K) f fd := by
  refine ⟨F.F.ok sc__law_keeps (fun vs H Q E h => ?_) (fun cdv A outer s H vs Q E hr h => ?_), F.m, F.F.kp, F.b⟩
  · obtain ⟨_, _, _, _, _, _, _, _, _, _, rfl, _⟩ := h
    rfl
  obtain ⟨a, x, y, c, sq, fq, i0, j0, l0, m, rfl, hC, hx, hy, cz, zs, zf, l1, l2, h9, h10, z⟩ := h
  obtain ⟨xs, hxs, hc⟩ := id hC
  have hxl := hc.1
  refine ⟨_, (pss_cons (ps_for PassesOwn.never rfl (pi_range1 (by rfl) T.range_ (pa_cons (pe_callB call_len_seq (by rfl) T.len_ PySem.boot_len (pa_cons (pv 0) pa_nil)) pa_nil)) (pg_name (i := 3) sc__law_keeps.nd rfl (Or.inl rfl))
        (pss_cons (ps_if (PW.pt (pw_or (pt_val (pcall d_law_below hr (pa_cons (pe_ix ix_tup (pe_ix ix_list (pv 0) (pv 3) (fun _ _ => rfl)) pe_int (fun _ _ => rfl)) (pa_cons (pv 1) pa_nil)))) (pw_or1 (pt_val (pcall d_law_below hr (pa_cons (pv 2) (pa_cons (pe_ix ix_tup (pe_ix ix_list (pv 0) (pv 3) (fun _ _ => rfl)) pe_int (fun _ _ => rfl)) pa_nil)))))))
          (pss_one (ps_ret pe_bl))
          pss_nil)
        (pss_one (ps_if (pt_cmpR op_gt (pv 3) pe_int (nomark _))
          (pss_cons (ps_set (i := 4) sc__law_keeps.nd rfl (Or.inl rfl) (pe_ix ix_list (pv 0) (pe_op op_sub (pv 3) pe_int) (fun _ _ => rfl)))
          (pss_cons (ps_set (i := 5) sc__law_keeps.nd rfl (Or.inl rfl) (pcall d_law_minus hr (pa_cons (pe_ix ix_tup (pe_ix ix_list (pv 0) (pv 3) (fun _ _ => rfl)) pe_int (fun _ _ => rfl)) (pa_cons (pe_ix ix_tup (pv 4) pe_int (fun _ _ => rfl)) pa_nil))))
          (pss_one (ps_if (pt_cmpR (op_neD hr.units) (pcall d_law_minus hr (pa_cons (pe_ix ix_tup (pe_ix ix_list (pv 0) (pv 3) (fun _ _ => rfl)) pe_int (fun _ _ => rfl)) (pa_cons (pe_ix ix_tup (pv 4) pe_int (fun _ _ => rfl)) pa_nil))) (pcall d_law_times hr (pa_cons (pe_ix ix_tup (pv 4) pe_int (fun _ _ => rfl)) (pa_cons (pv 5) pa_nil))) (nomark _))
            (pss_one (ps_ret pe_bl))
            pss_nil))))
          pss_nil))))
      (pss_one (ps_ret pe_bl))), ?_⟩
  refine ⟨_, rfl, a, _, rfl, .inl hxs, _, rfl, by omega, by omega, for_range (n := ((xs.length : Nat) : Int).toNat) (fun i σ G => ∃ k3 k4 k5, σ = [some (.ref a), some x, some y, k3, k4, k5] ∧ Same H G ∧ (∀ (j : Nat) (p : Pc), j < i → c[j]? = some p → sq ≤ p.r ∧ p.r ≤ fq) ∧ ∀ (j : Nat) (p q : Pc), j + 1 < i → c[j]? = some p → c[j + 1]? = some q → jmp (ky p) q = 0)
    ⟨none, none, none, rfl, Same.refl _, fun j p h => absurd h (by omega), fun j p q h => absurd h (by omega)⟩ ?_ ?_⟩
  · rintro i σ G hi ⟨k3, k4, k5, rfl, s1, d1, d2⟩
    have hi' : i < c.length := by omega
    have ec : c[i]? = some c[i] := List.getElem?_eq_getElem hi'
    obtain ⟨q, eq⟩ : ∃ q, q = c[i] := ⟨_, rfl⟩
    rw [← eq] at ec
    obtain ⟨xq, hxq, pq⟩ := hc.at ec
    obtain ⟨qa, qs, qv, qr, rfl, hqa, r1, r2, r3⟩ := pq.same s1
    obtain ⟨zq1, zq2, zq3⟩ := cz q (List.mem_of_getElem? ec)
    refine ⟨_, rfl, _, rfl, a, _, _, _, rfl, rfl, s1.seq hxs, at_of (j := i) (by omega) hxq, qa, _, _, _, rfl, rfl, hqa, at2 rfl, _, rfl, ?_⟩
    refine ⟨qr, x, q.r, sq, l0, m, rfl, r3, hx.same s1, zq3, zs, by omega, _, rfl, ifD (fun g => ?_) (fun g => ?_)⟩
    · refine ifT rfl ?_
      exact z false G s1 ⟨nofun, fun h => absurd (h.1 i q ec).1 (Rat.not_le.mpr g)⟩
    refine ⟨_, rfl, _, rfl, _, rfl, a, _, _, _, rfl, rfl, s1.seq hxs, at_of (j := i) (by omega) hxq, qa, _, _, _, rfl, rfl, hqa, at2 rfl, ?_⟩
    refine ⟨y, qr, fq, q.r, m, l0, rfl, hy.same s1, r3, zf, zq3, by omega, _, rfl, ifD (fun g2 => ?_) (fun g2 => ?_)⟩
    · exact z false G s1 ⟨nofun, fun h => absurd (h.1 i q ec).2 (Rat.not_le.mpr g2)⟩
    have bnd : ∀ (j : Nat) (p : Pc), j < i + 1 → c[j]? = some p → sq ≤ p.r ∧ p.r ≤ fq := fun j p hj hp => by
      by_cases e : j = i
      · subst e
        rw [ec] at hp
        cases hp
        exact ⟨Rat.not_lt.mp g, Rat.not_lt.mp g2⟩
      · exact d1 j p (by omega) hp
    refine ⟨_, rfl, _, _, rfl, rfl, _, rfl, ifD (fun g3 => ?_) (fun g3 => ?_)⟩
    · obtain ⟨n, rfl⟩ : ∃ n, i = n + 1 := ⟨i - 1, by omega⟩
      have ep : c[n]? = some c[n] := List.getElem?_eq_getElem (by omega)
      obtain ⟨p, eqp⟩ : ∃ p, p = c[n] := ⟨_, rfl⟩
      rw [← eqp] at ep
      obtain ⟨xp, hxp, pp⟩ := hc.at ep
      obtain ⟨pa, ps, pv, pr, rfl, hpa, p1, p2, p3⟩ := pp.same s1
      obtain ⟨zp1, zp2, zp3⟩ := cz p (List.mem_of_getElem? ep)
      refine ⟨_, rfl, _, rfl, _, _, rfl, rfl, a, _, _, _, rfl, rfl, s1.seq hxs, at_of (j := n) (by omega) hxp, ?_⟩
      refine ⟨_, rfl, _, rfl, a, _, _, _, rfl, rfl, s1.seq hxs, at_of (j := n + 1) (by omega) hxq, qa, _, _, _, rfl, rfl, hqa, at0 rfl, _, rfl, pa, _, _, _, rfl, rfl, hpa, at0 rfl, ?_⟩
      refine ⟨qs, ps, q.s, p.s, i0, i0, rfl, r1, p1, zq1, zp1, by omega, fun v1 G1 f1 h1 => ?_⟩
      have s2 := s1.trans f1
      refine ⟨_, rfl, _, rfl, a, _, _, _, rfl, rfl, s2.seq hxs, at_of (j := n + 1) (by omega) hxq, qa, _, _, _, rfl, rfl, f1.sqt hqa, at1 rfl, _, rfl, pa, _, _, _, rfl, rfl, f1.sqt hpa, at1 rfl, ?_⟩
      refine ⟨qv, pv, q.v, p.v, j0, j0, rfl, r2.same f1, p2.same f1, zq2, zp2, by omega, fun v2 G2 f2 h2 => ?_⟩
      have f12 := f1.trans f2
      refine ⟨_, rfl, pa, _, _, _, rfl, rfl, f12.sqt hpa, at2 rfl, _, rfl, pr, v1, p.r, q.s - p.s, l0, i0 + i0 + 1, rfl, p3.same f12, Rq.same f2 h1, zp3, zq1.sub zp1, by omega, fun v3 G3 f3 h3 => ?_⟩
      have s3 := s2.trans (f2.trans f3)
      refine ⟨_, _, (Rq.same f3 h2).dp, h3.dp, sh_dq _, sh_dq _, _, rfl, ?_⟩
      rw [eqv_dq]
      by_cases g4 : q.v - p.v = p.r * (q.s - p.s)
      · refine ifF (by rw [dT g4]; rfl) ⟨_, _, _, rfl, s3, bnd, fun j p' q' hj hp hq => ?_⟩
        by_cases e : j = n
        · subst e
          rw [ep] at hp
          rw [ec] at hq
          cases hp
          cases hq
          exact jmp_if.mpr g4
        · exact d2 j p' q' (by omega) hp hq
      · refine ifT (by rw [dF g4]; rfl) ?_
        exact z false G3 s3 ⟨nofun, fun h => absurd (jmp_if.mp (h.2 n p q ep ec)) g4⟩
    · have i00 : i = 0 := by omega
      exact ⟨_, _, _, rfl, s1, bnd, fun j p q hj => absurd hj (by omega)⟩
  · rintro σ G ⟨k3, k4, k5, rfl, s1, d1, d2⟩
    refine z true G s1 ⟨fun _ => ⟨fun i p hp => d1 i p ?_ hp, fun i p q hp hq => d2 i p q ?_ hp hq⟩, fun _ => rfl⟩
    · have := (List.getElem?_eq_some_iff.mp hp).1; omega
    · have := (List.getElem?_eq_some_iff.mp hq).1; omega
end Vk

namespace Vk
open PySem L2 Vm Vl
variable {l aZERO aONE CB CR CV fB fR : Addr} {P : Program} {w : World} {K : PySem.W.Frag} {mg : Str → Option Value} {base : Heap} {k : Nat} {f f1 f2 f3 f4 f5 f6 f7 f8 f9 : Addr} {fd fd1 fd2 fd3 fd4 fd5 fd6 fd7 fd8 fd9 : FuncData}
theorem All2.set {α : Type} {R : V → α → Prop} {xs : List V} {c : List α} {x : V} {p : α} (h : All2 R xs c) (r : R x p) (j : Nat) : All2 R (xs.set j x) (c.set j p) := by
  refine ⟨by rw [List.length_set, List.length_set]; exact h.1, fun i y q hy hq => ?_⟩
  rw [List.getElem?_set] at hy hq
  by_cases e : j = i
  · rw [if_pos e] at hy hq
    split at hy
    · split at hq
      · cases Option.some.inj hy; cases Option.some.inj hq; exact r
      · cases hq
    · cases hy
  · rw [if_neg e] at hy hq
    exact h.2 i y q hy hq
theorem Bun.set {α : Type} {R : Hp → V → α → Prop} {s D : Addr} {H0 G : Hp} {us : List V} {c : List α} {x : V} {p : α} (h : Bun R l s D H0 us c G) (L : Lasts R) (r : R G x p) (j : Nat) : Bun R l s D H0 (us.set j x) (c.set j p) (upd G D (.lst (us.set j x))) := by
  obtain ⟨h1, h2, h3, h4, h5, h6, h7⟩ := h
  have fr : Fr D G (upd G D (.lst (us.set j x))) := Fr.upd _
  refine ⟨h1.upd h3 h4, fun b o hb hn => ?_, h3, h4, h5, upd_same, (h7.imp fun _ _ r => L fr ⟨_, h6⟩ r).set (L fr ⟨_, h6⟩ r) j⟩
  rw [upd_ne (ne_of_none hb h5)]
  exact h2 b o hb hn
def bitQ : Rat → Prop := fun _ => True
/-- sizes while values are raised from a place on -/
def Cw (i : Nat) (c : List Pc) : Prop := ∀ (j : Nat) (p : Pc), c[j]? = some p → Sz 245 p.s ∧ Sz 1912 p.v ∧ (i ≤ j → Sz 1900 p.v) ∧ Sz 40 p.r
theorem Cw.set {i : Nat} {c : List Pc} {p : Pc} (h : Cw i c) (h1 : Sz 245 p.s) (h2 : Sz 1912 p.v) (h3 : Sz 40 p.r) : Cw (i + 1) (c.set i p) := by
  intro j q hq
  rw [List.getElem?_set] at hq
  by_cases e : i = j
  · rw [if_pos e] at hq
    split at hq
    · cases Option.some.inj hq
      exact ⟨h1, h2, fun g => absurd g (by omega), h3⟩
    · cases hq
  · rw [if_neg e] at hq
    obtain ⟨a, b, c', d⟩ := h j q hq
    exact ⟨a, b, fun g => c' (by omega), d⟩
theorem Cw.next {i : Nat} {c : List Pc} (h : Cw i c) : Cw (i + 1) c := fun j q hq => by
  obtain ⟨a, b, c', d⟩ := h j q hq
  exact ⟨a, b, fun g => c' (by omega), d⟩
def spChanged (K : PySem.W.Frag) (l : Addr) : Sp := fun vs H Q _ => ∃ (s a : Addr) (c : List Pc), vs = [.ref s, .ref a] ∧ Sto l s H ∧ a ≠ s ∧ Cq K H a c ∧ Cz 245 1900 40 c ∧ 1 ≤ c.length ∧ c.length ≤ 40 ∧ ∀ D us c' H', Bun (Pq K) l s D H us c' H' → c'.length = c.length → Cz 245 1912 40 c' → Q (.ref D) H'
abbrev s__law_changed_course : Stmt := top 78
abbrev N__law_changed_course : List Str := ["_law_store_here", "_law_course_here", "_law_row", "_law_spot", "_law_by", "_law_sort", "_law_k"]
theorem sc__law_changed_course : FnScope N__law_changed_course ["_law_store_here", "_law_course_here"] (defScope s__law_changed_course) := ⟨rfl, rfl, rfl, by decide +kernel, rfl, by decide +kernel, by decide +kernel⟩
abbrev ps__law_changed_course : List Str := ["_law_store_here", "_law_course_here"]
theorem ok_changed (T : Bn mg) (F : Fn K mg "_law_changed_course" s__law_changed_course ps__law_changed_course f fd) (d_law_take : Def P w K mg base k "_law_take" ["_law_store_here", "_law_many"] (spTake K l) f1 fd1) (d_law_pick : Def P w K mg base k "_law_pick" ["_law_store_here", "_law_things"] (spPick K l) f2 fd2)
    (d_law_plus : Def P w K mg base k "_law_plus" ["_law_a", "_law_b"] (spOp2 K (· + ·)) f3 fd3) (d_law_pace : Def P w K mg base k "_law_pace" ["_law_store_here"] (spDraw K l 5 posQ) f4 fd4) :
    Def P w K mg base (k + 1) "_law_changed_course" ps__law_changed_course (spChanged K l) f fd := by
  refine ⟨F.F.ok sc__law_changed_course (fun vs H Q E h => ?_) (fun cdv A outer s H vs Q E hr h => ?_), F.m, F.F.kp, F.b⟩
  · obtain ⟨_, _, _, rfl, _⟩ := h
    rfl
  obtain ⟨s, a, c, rfl, hS, na, hC, cz, l1, l2, z⟩ := h
  obtain ⟨xs, hxs, hc⟩ := id hC
  have hxl := hc.1
  refine ⟨_, (pss_cons (ps_set (i := 2) sc__law_changed_course.nd rfl (Or.inl rfl) (pe_callTy call_list_of (by rfl) T.list_ (by decide +kernel) (pa_cons (pv 1) pa_nil)))
      (pss_cons (ps_set (i := 3) sc__law_changed_course.nd rfl (Or.inl rfl) (pcall d_law_take hr (pa_cons (pv 0) (pa_cons (pe_callB call_len_seq (by rfl) T.len_ PySem.boot_len (pa_cons (pv 2) pa_nil)) pa_nil))))
      (pss_cons (ps_set (i := 4) sc__law_changed_course.nd rfl (Or.inl rfl) (pcall d_law_pick hr (pa_cons (pv 0) (pa_cons (pe_lst (pa_cons (pe_tup (pa_cons pe_int (pa_cons pe_int pa_nil))) (pa_cons (pe_tup (pa_cons (pe_un un_neg pe_int) (pa_cons pe_int pa_nil))) (pa_cons (pe_tup (pa_cons pe_int (pa_cons pe_int pa_nil))) (pa_cons (pe_tup (pa_cons (pe_un un_neg pe_int) (pa_cons pe_int pa_nil))) pa_nil))))) pa_nil))))
      (pss_cons (ps_set (i := 5) sc__law_changed_course.nd rfl (Or.inl rfl) (pcall d_law_take hr (pa_cons (pv 0) (pa_cons pe_int pa_nil))))
      (pss_cons (ps_for PassesOwn.never rfl (pi_range2 (by rfl) T.range_ (pa_cons (pv 3) (pa_cons (pe_callB call_len_seq (by rfl) T.len_ PySem.boot_len (pa_cons (pv 2) pa_nil)) pa_nil))) (pg_name (i := 6) sc__law_changed_course.nd rfl (Or.inl rfl))
        (pss_one (ps_if (PW.pt (pw_or (pt_cmpR op_eq (pv 5) pe_int (nomark _)) (pw_or1 (PW.pt (pw_and (pt_cmpR op_eq (pv 5) pe_int (nomark _)) (pw_and1 (pt_cmpR op_eq (pv 6) (pv 3) (nomark _))))))))
          (pss_one (ps_asg (pe_tup (pa_cons (pe_ix ix_tup (pe_ix ix_list (pv 2) (pv 6) (fun _ _ => rfl)) pe_int (fun _ _ => rfl)) (pa_cons (pcall d_law_plus hr (pa_cons (pe_ix ix_tup (pe_ix ix_list (pv 2) (pv 6) (fun _ _ => rfl)) pe_int (fun _ _ => rfl)) (pa_cons (pv 4) pa_nil))) (pa_cons (pe_ix ix_tup (pe_ix ix_list (pv 2) (pv 6) (fun _ _ => rfl)) pe_int (fun _ _ => rfl)) pa_nil)))) (pg_sub (pv 2) (pv 6) set_list)))
          pss_nil)))
      (pss_cons (ps_if (pt_cmpR op_eq (pv 5) pe_int (nomark _))
        (pss_one (ps_asg (pe_tup (pa_cons (pe_ix ix_tup (pe_ix ix_list (pv 2) (pv 3) (fun _ _ => rfl)) pe_int (fun _ _ => rfl)) (pa_cons (pe_ix ix_tup (pe_ix ix_list (pv 2) (pv 3) (fun _ _ => rfl)) pe_int (fun _ _ => rfl)) (pa_cons (pcall d_law_pace hr (pa_cons (pv 0) pa_nil)) pa_nil)))) (pg_sub (pv 2) (pv 3) set_list)))
        pss_nil)
      (pss_one (ps_ret (pv 2))))))))), ?_⟩
  refine ⟨_, rfl, a, xs, rfl, .inl hxs, fun D hD => ?_⟩
  have c0 := same_new hD (.lst xs)
  have B0 : Bun (Pq K) l s D H xs c (upd H D (.lst xs)) := Bun.made hS (Fr.refl _ _) hD (hc.imp fun _ _ h => h.same c0)
  generalize upd H D (.lst xs) = H1 at c0 B0 ⊢
  refine ⟨_, rfl, _, rfl, D, _, rfl, .inl (SqL.of B0.at), s, _, rfl, B0.1, by omega, fun sp H2 sp0 sp1 S2 e2 => ?_⟩
  have B2 := B0.fr lastsP e2 S2
  have hsp : 0 ≤ sp ∧ sp < c.length := ⟨sp0, by omega⟩
  clear B0 e2 sp0 sp1
  -- by
  refine ⟨_, rfl, sz2, fun t1 h1 => ?_⟩
  have c1 := same_new h1 (.tup [.int 1, .int 1000]); have q1 := Qd.new (K := K) (m := 11) (ok := anyQ) (H := H2) (t := t1) 1 1000 (mkRat 1 1000) (by decide) (by decide) (by decide) trivial; generalize upd H2 t1 (.tup [.int 1, .int 1000]) = G1 at c1 q1 ⊢
  refine ⟨_, rfl, sz2, fun t2 h2 => ?_⟩
  have c2 := same_new h2 (.tup [.int (-1), .int 1000]); have q2 := Qd.new (K := K) (m := 11) (ok := anyQ) (H := G1) (t := t2) (-1) 1000 (mkRat (-1) 1000) (by decide) (by decide) (by decide) trivial; generalize upd G1 t2 (.tup [.int (-1), .int 1000]) = G2 at c2 q2 ⊢
  refine ⟨sz2, fun t3 h3 => ?_⟩
  have c3 := same_new h3 (.tup [.int 1, .int 1]); have q3 := Qd.new (K := K) (m := 11) (ok := anyQ) (H := G2) (t := t3) 1 1 (1) (by decide) (by decide) (by decide) trivial; generalize upd G2 t3 (.tup [.int 1, .int 1]) = G3 at c3 q3 ⊢
  refine ⟨_, rfl, sz2, fun t4 h4 => ?_⟩
  have c4 := same_new h4 (.tup [.int (-1), .int 2]); have q4 := Qd.new (K := K) (m := 11) (ok := anyQ) (H := G3) (t := t4) (-1) 2 (mkRat (-1) 2) (by decide) (by decide) (by decide) trivial; generalize upd G3 t4 (.tup [.int (-1), .int 2]) = G4 at c4 q4 ⊢
  refine ⟨sm4, fun p hp => ?_⟩
  have cp := same_new hp (.lst [.ref t1, .ref t2, .ref t3, .ref t4])
  have d4 := c4.trans cp; have d3 := c3.trans d4; have d2 := c2.trans d3; have d1 := c1.trans d2
  have Sp := S2.same d1
  have np := (S2.same (c1.trans (c2.trans (c3.trans c4)))).ne hp
  have q1 := q1.same d2; have q2 := q2.same d3; have q3 := q3.same d4; have q4 := q4.same cp
  refine ⟨s, p, _, rfl, Sp, np, SqL.of upd_same, (by show 0 < 4; decide), (by show 4 < 2 ^ 32; decide), fun vb H6 hv S6 e6 => ?_⟩
  have qb : Qd K 11 anyQ H6 vb := by
    refine Qd.fr e6 Sp ?_
    simp only [List.mem_cons, List.mem_nil_iff, or_false] at hv
    rcases hv with rfl | rfl | rfl | rfl <;> assumption
  have B6 := B2.fr lastsP ((Fr.of d1).trans e6) S6
  clear q1 q2 q3 q4 d1 d2 d3 d4 c1 c2 c3 c4 cp Sp np hv e6 B2 S2
  refine ⟨_, rfl, s, 3, rfl, S6, by decide, fun so H7 so0 so1 S7 e7 => ?_⟩
  have qb := qb.fr e7 S6
  have B7 := B6.fr lastsP e7 S7
  clear B6 e7 S6
  obtain ⟨bq, rb, zb, _⟩ := qb
  obtain ⟨n0, rfl⟩ : ∃ n : Nat, sp = (n : Int) := ⟨sp.toNat, by omega⟩
  have cw0 : Cw n0 c := fun j p hp => by
    obtain ⟨a, b, d⟩ := cz p (List.mem_of_getElem? hp)
    exact ⟨a, b.mono (by decide), fun _ => b, d⟩
  have hn0 : n0 < c.length := by omega
  refine ⟨_, rfl, _, rfl, D, _, rfl, .inl (SqL.of B7.at), _, _, rfl, ⟨by omega, by omega, by omega, by omega⟩, for_range (lo := (n0 : Int)) (n := (((xs.length : Nat) : Int) - (n0 : Int)).toNat) (fun i σ G => ∃ (us : List V) (c' : List Pc) (k6 : Option V), σ = [some (.ref s), some (.ref a), some (.ref D), some (.int n0), some vb, some (.int so), k6] ∧ Bun (Pq K) l s D H us c' G ∧ c'.length = c.length ∧ Cw (n0 + i) c' ∧ Rq K G vb bq)
    ⟨xs, c, none, rfl, B7, rfl, cw0, rb⟩ ?_ ?_⟩
  · rintro i σ G hi ⟨us, c', k6, rfl, B, hl, cw, rb⟩
    have hic : n0 + i < c'.length := by omega
    have ec : c'[n0 + i]? = some c'[n0 + i] := List.getElem?_eq_getElem hic
    obtain ⟨q, eq⟩ : ∃ q, q = c'[n0 + i] := ⟨_, rfl⟩
    rw [← eq] at ec
    obtain ⟨xq, hxq, pq⟩ := B.all.at ec
    obtain ⟨qa, qs, qv, qr, rfl, hqa, r1, r2, r3⟩ := pq
    obtain ⟨zq1, zq2, zq2', zq3⟩ := cw _ q ec
    have hul := B.len
    have stay : ∃ (us : List V) (c' : List Pc) (k6' : Option V), [some (V.ref s), some (.ref a), some (.ref D), some (.int (n0 : Int)), some vb, some (.int so), some (.int ((n0 : Int) + (i : Int)))] = [some (.ref s), some (.ref a), some (.ref D), some (.int n0), some vb, some (.int so), k6'] ∧ Bun (Pq K) l s D H us c' G ∧ c'.length = c.length ∧ Cw (n0 + (i + 1)) c' ∧ Rq K G vb bq := ⟨us, c', _, rfl, B, hl, cw.next, rb⟩
    refine ⟨_, rfl, rfl, _, rfl, ?_⟩
    by_cases g0 : so = 0
    · refine ifT (dT (congrArg V.int g0)) (ifT rfl ?_)
      refine ⟨_, rfl, _, rfl, D, _, _, _, rfl, rfl, SqL.of B.at, at_of (j := n0 + i) (by omega) hxq, qa, _, _, _, rfl, rfl, hqa, at0 rfl, ?_⟩
      refine ⟨_, rfl, _, rfl, D, _, _, _, rfl, rfl, SqL.of B.at, at_of (j := n0 + i) (by omega) hxq, qa, _, _, _, rfl, rfl, hqa, at1 rfl, _, rfl, ?_⟩
      refine ⟨qv, vb, q.v, bq, 1900, 11, rfl, r2, rb, zq2' (by omega), zb, by decide, fun v8 G8 f8 h8 => ?_⟩
      have B8 := B.same lastsP f8
      refine ⟨_, rfl, _, rfl, D, _, _, _, rfl, rfl, SqL.of B8.at, at_of (j := n0 + i) (by omega) hxq, qa, _, _, _, rfl, rfl, f8.sqt hqa, at2 rfl, sm3, fun T hT => ?_⟩
      have t9 := same_new hT (.tup [qs, v8, qr])
      have B9 := B8.same lastsP t9
      refine ⟨_, rfl, _, rfl, D, _, _, n0 + i, rfl, rfl, B9.at, ixN_at (by omega) (by omega), ?_⟩
      have pn : Pq K (upd G8 T (.tup [qs, v8, qr])) (.ref T) ⟨q.s, q.v + bq, q.r⟩ := ⟨T, qs, v8, qr, rfl, SqT.of upd_same, (r1.same f8).same t9, Rq.same t9 h8, (r3.same f8).same t9⟩
      exact ⟨us.set (n0 + i) (.ref T), c'.set (n0 + i) _, _, rfl, B9.set lastsP pn (n0 + i), by rw [List.length_set]; exact hl, cw.set zq1 ((zq2' (by omega)).add zb) zq3, ((rb.same f8).same t9).fr (Fr.upd (s := D) _) ⟨_, B9.at⟩⟩
    · refine ifF (dF fun e => g0 (V.int.inj e)) ⟨_, rfl, rfl, _, rfl, ?_⟩
      by_cases g1 : so = 1
      · refine ifT (dT (congrArg V.int g1)) ⟨_, rfl, _, rfl, rfl, _, rfl, ifD (fun g2 => ?_) (fun g2 => ?_)⟩
        · refine ⟨_, rfl, _, rfl, D, _, _, _, rfl, rfl, SqL.of B.at, at_of (j := n0 + i) (by omega) hxq, qa, _, _, _, rfl, rfl, hqa, at0 rfl, ?_⟩
          refine ⟨_, rfl, _, rfl, D, _, _, _, rfl, rfl, SqL.of B.at, at_of (j := n0 + i) (by omega) hxq, qa, _, _, _, rfl, rfl, hqa, at1 rfl, _, rfl, ?_⟩
          refine ⟨qv, vb, q.v, bq, 1900, 11, rfl, r2, rb, zq2' (by omega), zb, by decide, fun v8 G8 f8 h8 => ?_⟩
          have B8 := B.same lastsP f8
          refine ⟨_, rfl, _, rfl, D, _, _, _, rfl, rfl, SqL.of B8.at, at_of (j := n0 + i) (by omega) hxq, qa, _, _, _, rfl, rfl, f8.sqt hqa, at2 rfl, sm3, fun T hT => ?_⟩
          have t9 := same_new hT (.tup [qs, v8, qr])
          have B9 := B8.same lastsP t9
          refine ⟨_, rfl, _, rfl, D, _, _, n0 + i, rfl, rfl, B9.at, ixN_at (by omega) (by omega), ?_⟩
          have pn : Pq K (upd G8 T (.tup [qs, v8, qr])) (.ref T) ⟨q.s, q.v + bq, q.r⟩ := ⟨T, qs, v8, qr, rfl, SqT.of upd_same, (r1.same f8).same t9, Rq.same t9 h8, (r3.same f8).same t9⟩
          exact ⟨us.set (n0 + i) (.ref T), c'.set (n0 + i) _, _, rfl, B9.set lastsP pn (n0 + i), by rw [List.length_set]; exact hl, cw.set zq1 ((zq2' (by omega)).add zb) zq3, ((rb.same f8).same t9).fr (Fr.upd (s := D) _) ⟨_, B9.at⟩⟩
        · exact stay
      · exact ifF (dF fun e => g1 (V.int.inj e)) (ifF rfl stay)
  · rintro σ G ⟨us, c', k6, rfl, B, hl, cw, rb⟩
    have cz' : Cz 245 1912 40 c' := fun p hp => by
      obtain ⟨j, hj⟩ := List.mem_iff_getElem?.mp hp
      obtain ⟨a, b, _, d⟩ := cw j p hj
      exact ⟨a, b, d⟩
    refine ⟨_, rfl, rfl, _, rfl, ?_⟩
    by_cases g0 : so = 2
    · refine ifT (dT (congrArg V.int g0)) ?_
      have hic : n0 < c'.length := by omega
      have ec : c'[n0]? = some c'[n0] := List.getElem?_eq_getElem hic
      obtain ⟨q, eq⟩ : ∃ q, q = c'[n0] := ⟨_, rfl⟩
      rw [← eq] at ec
      obtain ⟨xq, hxq, pq⟩ := B.all.at ec
      obtain ⟨qa, qs, qv, qr, rfl, hqa, r1, r2, r3⟩ := pq
      obtain ⟨zq1, zq2, zq3⟩ := cz' q (List.mem_of_getElem? ec)
      have hul := B.len
      refine ⟨_, rfl, _, rfl, D, _, _, _, rfl, rfl, SqL.of B.at, at_of (j := n0) (by omega) hxq, qa, _, _, _, rfl, rfl, hqa, at0 rfl, ?_⟩
      refine ⟨_, rfl, _, rfl, D, _, _, _, rfl, rfl, SqL.of B.at, at_of (j := n0) (by omega) hxq, qa, _, _, _, rfl, rfl, hqa, at1 rfl, ?_⟩
      refine ⟨_, rfl, s, rfl, B.1, fun pv G8 qp S8 e8 => ⟨sm3, fun T hT => ?_⟩⟩
      obtain ⟨pq, rp, zp, _⟩ := qp
      have B8 := B.fr lastsP e8 S8
      have t9 := same_new hT (.tup [qs, qv, pv])
      have B9 := B8.same lastsP t9
      refine ⟨_, rfl, _, rfl, D, _, _, n0, rfl, rfl, B9.at, ixN_at (by omega) (by omega), ?_⟩
      have hs := B.1.some
      have pn : Pq K (upd G8 T (.tup [qs, qv, pv])) (.ref T) ⟨q.s, q.v, pq⟩ := ⟨T, qs, qv, pv, rfl, SqT.of upd_same, (r1.fr e8 hs).same t9, (r2.fr e8 hs).same t9, rp.same t9⟩
      have B10 := B9.set lastsP pn n0
      refine ⟨_, rfl, z D _ _ _ B10 (by rw [List.length_set]; exact hl) fun p hp => ?_⟩
      rcases List.mem_or_eq_of_mem_set hp with hp | rfl
      · exact cz' p hp
      · exact ⟨zq1, zq2, zp.mono (by decide)⟩
    · exact ifF (dF fun e => g0 (V.int.inj e)) ⟨_, rfl, z D us c' G B hl cz'⟩
end Vk

namespace Vk
open PySem L2 Vm Vl
/-! ### between two readings -/
theorem dec_c {d : Rat} (hd : 0 < d) (x : Rat) : x / d * d = x := Rat.div_mul_cancel (by grind)
theorem div_le {x y d : Rat} (hd : 0 < d) (h : x ≤ y * d) : x / d ≤ y := by
  have e := dec_c hd x
  by_cases z : x / d ≤ y
  · exact z
  · exfalso
    have := Rat.mul_lt_mul_of_pos_right (Rat.not_le.mp z) hd
    grind
theorem le_div {x y d : Rat} (hd : 0 < d) (h : y * d ≤ x) : y ≤ x / d := by
  have e := dec_c hd x
  by_cases z : y ≤ x / d
  · exact z
  · exfalso
    have := Rat.mul_lt_mul_of_pos_right (Rat.not_le.mp z) hd
    grind
theorem nG_some (t : Rat) : ∀ (c : List Pc) (n : Rat), (∀ p ∈ c, t < p.s) → nG t (some n) c = some n
  | [], n, _ => rfl
  | p :: c, n, h => by
    have h1 := h p List.mem_cons_self
    have o : on t p = false := by unfold on; simp [h1]
    show nG t (if on t p = true then some (vl t p) else some n) c = some n
    rw [o, if_neg (by decide)]
    exact nG_some t c n fun q hq => h q (List.mem_cons_of_mem _ hq)
theorem nG_lip {lo top t : Rat} : ∀ (c : List Pc) (p : Pc) (s : Rat), AscP (p :: c) → NJ (p :: c) → InR lo top (p :: c) → p.s ≤ s → s ≤ t →
    ∃ a b, nG s (some (vl s p)) c = some a ∧ nG t (some (vl t p)) c = some b ∧ lo * (t - s) ≤ b - a ∧ b - a ≤ top * (t - s)
  | [], p, s, _, _, ir, h1, h2 => by
    obtain ⟨g1, g2⟩ := ir p List.mem_cons_self
    refine ⟨_, _, rfl, rfl, ?_⟩
    have e : vl t p - vl s p = p.r * (t - s) := by unfold vl; grind
    rw [e]
    have d : 0 ≤ t - s := by grind
    exact ⟨Rat.mul_le_mul_of_nonneg_right g1 d, Rat.mul_le_mul_of_nonneg_right g2 d⟩
  | q :: c, p, s, a, nj, ir, h1, h2 => by
    have a1 : AscP (q :: c) := (List.pairwise_cons.mp a).2
    have nj1 : NJ (q :: c) := fun i x y hx hy => nj (i + 1) x y hx hy
    have ir1 : InR lo top (q :: c) := fun x hx => ir x (List.mem_cons_of_mem _ hx)
    have aq : ∀ x ∈ c, q.s < x.s := (List.pairwise_cons.mp a1).1
    have hv : q.v = vl q.s p := by
      have := jmp_if.mp (nj 0 p q rfl rfl)
      unfold vl
      grind
    show ∃ a b, nG s (if on s q = true then some (vl s q) else some (vl s p)) c = some a ∧ nG t (if on t q = true then some (vl t q) else some (vl t p)) c = some b ∧ _
    by_cases o1 : s < q.s
    · have e1 : on s q = false := by unfold on; simp [o1]
      rw [e1, if_neg (by decide), nG_some s c _ fun x hx => by have := aq x hx; grind]
      obtain ⟨g1, g2⟩ := ir p List.mem_cons_self
      by_cases o2 : t < q.s
      · have e2 : on t q = false := by unfold on; simp [o2]
        rw [e2, if_neg (by decide), nG_some t c _ fun x hx => by have := aq x hx; grind]
        refine ⟨_, _, rfl, rfl, ?_⟩
        have e : vl t p - vl s p = p.r * (t - s) := by unfold vl; grind
        rw [e]
        have d : 0 ≤ t - s := by grind
        exact ⟨Rat.mul_le_mul_of_nonneg_right g1 d, Rat.mul_le_mul_of_nonneg_right g2 d⟩
      · have e2 : on t q = true := by unfold on; simp [o2]
        rw [e2, if_pos rfl]
        obtain ⟨a', b, ea, eb, k1, k2⟩ := nG_lip c q q.s a1 nj1 ir1 Rat.le_refl (Rat.not_lt.mp o2)
        rw [nG_some q.s c _ aq] at ea
        have ea := Option.some.inj ea
        refine ⟨_, b, rfl, eb, ?_⟩
        have e3 : vl q.s q = vl q.s p := by rw [← hv]; unfold vl; grind
        have e4 : vl q.s p - vl s p = p.r * (q.s - s) := by unfold vl; grind
        have d : 0 ≤ q.s - s := by grind
        have m1 := Rat.mul_le_mul_of_nonneg_right g1 d
        have m2 := Rat.mul_le_mul_of_nonneg_right g2 d
        constructor <;> grind
    · have e1 : on s q = true := by unfold on; simp [o1]
      have e2 : on t q = true := by
        unfold on
        have : ¬ t < q.s := by grind
        simp [this]
      rw [e1, e2, if_pos rfl, if_pos rfl]
      exact nG_lip c q s a1 nj1 ir1 (Rat.not_lt.mp o1) h2
theorem asc_of {c : List Pc} (ok : Cok c) : AscP c := by
  have step : ∀ (n : Nat) (j i : Nat) (p q : Pc), j = i + n + 1 → c[i]? = some p → c[j]? = some q → p.s < q.s := by
    intro n
    induction n with
    | zero => intro j i p q e hp hq; subst e; exact ok.2 i p q hp hq
    | succ n ih =>
      intro j i p q e hp hq
      have hj := (List.getElem?_eq_some_iff.mp hq).1
      have hm : c[i + n + 1]? = some c[i + n + 1] := List.getElem?_eq_getElem (by omega)
      have g1 := ih (i + n + 1) i p _ rfl hp hm
      have g2 := ok.2 (i + n + 1) _ q hm (by rw [← hq, e]; rfl)
      grind
  refine List.pairwise_iff_getElem.mpr fun i j hi hj hij => ?_
  exact step (j - i - 1) j i _ _ (by omega) (List.getElem?_eq_getElem hi) (List.getElem?_eq_getElem hj)
/-- a stretch of true time and the stretch of readings -/
def BW (lo top d g : Rat) : Prop := (0 ≤ g ∧ lo * g ≤ d ∧ d ≤ top * g) ∨ (g ≤ 0 ∧ top * g ≤ d ∧ d ≤ lo * g)
theorem BW.neg {lo top d g : Rat} (h : BW lo top d g) : BW lo top (-d) (-g) := by
  rcases h with ⟨h1, h2, h3⟩ | ⟨h1, h2, h3⟩
  · exact .inr ⟨by grind, by grind, by grind⟩
  · exact .inl ⟨by grind, by grind, by grind⟩
theorem bw_now {lo top s t : Rat} {c : List Pc} {p : Pc} (ok : Cok c) (nj : NJ c) (ir : InR lo top c) (h0 : c[0]? = some p) (hs : p.s ≤ s) (ht : p.s ≤ t) : ∃ a b, nowf c s = some a ∧ nowf c t = some b ∧ BW lo top (b - a) (t - s) := by
  have asc := asc_of ok
  cases c with
  | nil => cases h0
  | cons p' c =>
    cases Option.some.inj h0
    have o1 : on s p = true := by
      unfold on
      have : ¬ s < p.s := by grind
      simp [this]
    have o2 : on t p = true := by
      unfold on
      have : ¬ t < p.s := by grind
      simp [this]
    have n1 : nowf (p :: c) s = nG s (some (vl s p)) c := by
      rw [now_nG]
      show nG s (if on s p = true then _ else _) c = _
      rw [o1, if_pos rfl]
    have n2 : nowf (p :: c) t = nG t (some (vl t p)) c := by
      rw [now_nG]
      show nG t (if on t p = true then _ else _) c = _
      rw [o2, if_pos rfl]
    rw [n1, n2]
    by_cases l : s ≤ t
    · obtain ⟨a, b, e1, e2, k1, k2⟩ := nG_lip (t := t) c p s asc nj ir hs l
      exact ⟨a, b, e1, e2, .inl ⟨by grind, k1, k2⟩⟩
    · have l' : t ≤ s := by grind
      obtain ⟨a, b, e1, e2, k1, k2⟩ := nG_lip (t := s) c p t asc nj ir ht l'
      refine ⟨b, a, e2, e1, .inr ⟨by grind, by grind, by grind⟩⟩
theorem bw_in {lo top d g : Rat} (l0 : 0 < lo) (lt : lo ≤ top) (h : BW lo top d g) : elo d lo top ≤ g ∧ g ≤ ehi d lo top := by
  have t0 : 0 < top := by grind
  unfold elo ehi
  rcases h with ⟨h1, h2, h3⟩ | ⟨h1, h2, h3⟩
  · have m := Rat.mul_nonneg (show 0 ≤ lo by grind) h1
    rw [if_neg (by grind), if_neg (by grind)]
    exact ⟨div_le t0 (by grind), le_div l0 (by grind)⟩
  · by_cases z : d < 0
    · rw [if_pos z, if_pos z]
      exact ⟨div_le l0 (by grind), le_div t0 (by grind)⟩
    · have m : lo * g ≤ 0 := by
        have := Rat.mul_nonneg (show 0 ≤ lo by grind) (show 0 ≤ -g by grind)
        grind
      have d0 : d = 0 := by grind
      have g0 : g = 0 := by
        by_cases e : g = 0
        · exact e
        · exfalso
          have := Rat.mul_pos l0 (show 0 < -g by grind)
          grind
      subst d0 g0
      rw [if_neg z, if_neg z]
      exact ⟨div_le t0 (by grind), le_div l0 (by grind)⟩
theorem elo_le {lo top d : Rat} (l0 : 0 < lo) (lt : lo ≤ top) : elo d lo top ≤ ehi d lo top := by
  have t0 : 0 < top := by grind
  have e1 := dec_c t0 d
  have e2 := dec_c l0 d
  unfold elo ehi
  by_cases z : d < 0
  · rw [if_pos z, if_pos z]
    have n : ¬ 0 ≤ d / top := fun h => by have := Rat.mul_nonneg h (show 0 ≤ top by grind); grind
    refine div_le l0 ?_
    have := Rat.mul_le_mul_of_nonneg_right lt (show 0 ≤ -(d / top) by grind)
    grind
  · rw [if_neg z, if_neg z]
    have n : 0 ≤ d / top := by
      by_cases h : 0 ≤ d / top
      · exact h
      · exfalso
        have := Rat.mul_lt_mul_of_pos_right (Rat.not_le.mp h) t0
        grind
    refine le_div l0 ?_
    have := Rat.mul_le_mul_of_nonneg_right lt n
    grind
end Vk

namespace Vk
open PySem L2 Vm Vl Vs
variable {l aZERO aONE CB CR CV fB fR : Addr} {P : Program} {w : World} {K : PySem.W.Frag} {mg : Str → Option Value} {base : Heap} {k : Nat} {f f1 f2 f3 f4 f5 f6 f7 f8 f9 : Addr} {fd fd1 fd2 fd3 fd4 fd5 fd6 fd7 fd8 fd9 : FuncData}
theorem sz_elo {d s f : Rat} {i j : Nat} (zd : Sz i d) (zs : Sz j s) (zf : Sz j f) (s0 : 0 < s) (f0 : 0 < f) : Sz (i + j) (elo d s f) ∧ Sz (i + j) (ehi d s f) := by
  unfold elo ehi
  split
  · exact ⟨zd.div zs s0, zd.div zf f0⟩
  · exact ⟨zd.div zf f0, zd.div zs s0⟩
theorem num_neg {d : Rat} : d.num < 0 ↔ d < 0 := by rw [← Rat.not_le, ← Rat.num_nonneg]; omega
/-- a told span -/
structure Te (K : PySem.W.Frag) (H : Hp) (t : Addr) (d s f : Rat) : Prop where
  ex : ∃ e v w, SqT K H t [.str "is", .ref e] ∧ SqT K H e [v, w] ∧ Rq K H v (elo d s f) ∧ Rq K H w (ehi d s f)
theorem Te.same {H H' : Hp} {t : Addr} {d s f : Rat} (h : Te K H t d s f) (e : Same H H') : Te K H' t d s f := by
  obtain ⟨a, v, w, h1, h2, h3, h4⟩ := h.ex
  exact ⟨⟨a, v, w, e.sqt h1, e.sqt h2, h3.same e, h4.same e⟩⟩
def spER (K : PySem.W.Frag) : Sp := fun vs H Q _ => ∃ (x y u : V) (t : Addr) (d s f : Rat), vs = [x, y, u, .ref t] ∧ Rq K H x d ∧ Rq K H y s ∧ Rq K H u f ∧ Te K H t d s f ∧ Sz 3500 d ∧ Sz 41 s ∧ Sz 41 f ∧ 0 < s ∧ s ≤ f ∧ ∀ H', Same H H' → Q (.bl true) H'
abbrev s__law_elapsed_right : Stmt := top 80
abbrev N__law_elapsed_right : List Str := ["_law_d", "_law_lo", "_law_top", "_law_told_here", "_law_paces"]
theorem sc__law_elapsed_right : FnScope N__law_elapsed_right ["_law_d", "_law_lo", "_law_top", "_law_told_here"] (defScope s__law_elapsed_right) := ⟨rfl, rfl, rfl, by decide +kernel, rfl, by decide +kernel, by decide +kernel⟩
abbrev ps__law_elapsed_right : List Str := ["_law_d", "_law_lo", "_law_top", "_law_told_here"]
theorem ok_elapsed_right (F : Fn K mg "_law_elapsed_right" s__law_elapsed_right ps__law_elapsed_right f fd) (d_law_is_span : Def P w K mg base k "_law_is_span" ["_law_value"] (spIsSpan K) f1 fd1) (d_law_times : Def P w K mg base k "_law_times" ["_law_a", "_law_b"] (spOp2 K (· * ·)) f2 fd2) :
    Def P w K mg base (k + 1) "_law_elapsed_right" ps__law_elapsed_right (spER K) f fd := by
  refine ⟨F.F.ok sc__law_elapsed_right (fun vs H Q E h => ?_) (fun cdv A outer s H vs Q E hr h => ?_), F.m, F.F.kp, F.b⟩
  · obtain ⟨_, _, _, _, _, _, _, rfl, _⟩ := h
    rfl
  obtain ⟨x, y, u, t, d, sq, fq, rfl, hx, hy, hu, ⟨⟨e, v, w', ht, he, hv, hw⟩⟩, zd, zs, zf, s0, sf, z⟩ := h
  have f0 : 0 < fq := by grind
  obtain ⟨z1, z2⟩ := sz_elo zd zs zf s0 f0
  have nc : crossed (some (elo d sq fq)) (some (ehi d sq fq)) = false := by
    have := elo_le (d := d) s0 sf
    unfold crossed
    exact decide_eq_false (by grind)
  refine ⟨_, (pss_cons (ps_if (PW.pt (pw_or (pt_cmpR (op_neD hr.units) (pe_ix ix_tup (pv 3) pe_int (fun _ _ => rfl)) pe_str (nomark _)) (pw_or (pt_not (pt_val (pcall d_law_is_span hr (pa_cons (pe_ix ix_tup (pv 3) pe_int (fun _ _ => rfl)) pa_nil)))) (pw_or (pt_cmpR op_isN (pe_ix ix_tup (pe_ix ix_tup (pv 3) pe_int (fun _ _ => rfl)) pe_int (fun _ _ => rfl)) pe_non (nomark _)) (pw_or1 (pt_cmpR op_isN (pe_ix ix_tup (pe_ix ix_tup (pv 3) pe_int (fun _ _ => rfl)) pe_int (fun _ _ => rfl)) pe_non (nomark _)))))))
        (pss_one (ps_ret pe_bl))
        pss_nil)
      (pss_cons (ps_set (i := 4) sc__law_elapsed_right.nd rfl (Or.inl rfl) (pe_ifExp (pt_cmpR op_ge (pe_ix ix_tup (pv 0) pe_int (fun _ _ => rfl)) pe_int (nomark _)) (pe_tup (pa_cons (pv 2) (pa_cons (pv 1) pa_nil))) (pe_tup (pa_cons (pv 1) (pa_cons (pv 2) pa_nil)))))
      (pss_one (ps_ret (pe_and (pe_cmpR (op_eqD hr.units) (pcall d_law_times hr (pa_cons (pe_ix ix_tup (pe_ix ix_tup (pv 3) pe_int (fun _ _ => rfl)) pe_int (fun _ _ => rfl)) (pa_cons (pe_ix ix_tup (pv 4) pe_int (fun _ _ => rfl)) pa_nil))) (pv 0) (nomark _)) (pe_one (pe_cmpR (op_eqD hr.units) (pcall d_law_times hr (pa_cons (pe_ix ix_tup (pe_ix ix_tup (pv 3) pe_int (fun _ _ => rfl)) pe_int (fun _ _ => rfl)) (pa_cons (pe_ix ix_tup (pv 4) pe_int (fun _ _ => rfl)) pa_nil))) (pv 0) (nomark _)))))))), ?_⟩
  refine ⟨_, rfl, t, _, _, _, rfl, rfl, ht, at0 rfl, .str "is", .str "is", .str _, .str _, by decide +kernel, by decide +kernel, _, rfl, ifF (by decide +kernel) ?_⟩
  refine ⟨_, rfl, t, _, _, _, rfl, rfl, ht, at1 rfl, ?_⟩
  refine ⟨.ref e, (some (elo d sq fq), some (ehi d sq fq)), 3541, rfl, ⟨e, v, w', rfl, he, hv, hw⟩, ⟨fun q h => by cases Option.some.inj h; exact z1, fun q h => by cases Option.some.inj h; exact z2⟩, by decide, nc, fun H1 e1 => ⟨_, rfl, ifF rfl ?_⟩⟩
  replace hx := hx.same e1; replace hy := hy.same e1; replace hu := hu.same e1; replace ht := e1.sqt ht; replace he := e1.sqt he; replace hv := hv.same e1; replace hw := hw.same e1
  obtain ⟨va, rfl, _⟩ := id hv
  obtain ⟨wa, rfl, _⟩ := id hw
  obtain ⟨xa, rfl, hxa⟩ := id hx
  refine ⟨_, rfl, t, _, _, _, rfl, rfl, ht, at1 rfl, e, _, _, _, rfl, rfl, he, at0 rfl, rfl, _, rfl, ifF rfl ?_⟩
  refine ⟨_, rfl, t, _, _, _, rfl, rfl, ht, at1 rfl, e, _, _, _, rfl, rfl, he, at1 rfl, rfl, _, rfl, ifF rfl ?_⟩
  refine ⟨_, rfl, xa, _, _, _, rfl, rfl, hxa, at0 rfl, _, _, rfl, rfl, _, rfl, ifD (fun c => ?_) (fun c => ?_)⟩
  · have c' : ¬ d < 0 := fun g => by have := num_neg.mpr g; omega
    have m1 : elo d sq fq * fq = d := by unfold elo; rw [if_neg c']; exact dec_c f0 d
    have m2 : ehi d sq fq * sq = d := by unfold ehi; rw [if_neg c']; exact dec_c s0 d
    refine ⟨_, rfl, _, rfl, sz2, fun p hp => ?_⟩
    have cp := same_new hp (.tup [u, y])
    have hpa : SqT K (upd H1 p (.tup [u, y])) p [u, y] := SqT.of upd_same
    replace hx := hx.same cp; replace hy := hy.same cp; replace hu := hu.same cp; replace ht := cp.sqt ht; replace he := cp.sqt he; replace hv := hv.same cp; replace hw := hw.same cp
    have e2 := e1.trans cp
    generalize upd H1 p (.tup [u, y]) = H2 at cp hpa hx hy hu ht he hv hw e2 ⊢
    refine ⟨_, rfl, t, _, _, _, rfl, rfl, ht, at1 rfl, e, _, _, _, rfl, rfl, he, at0 rfl, _, rfl, p, _, _, _, rfl, rfl, hpa, at0 rfl, ?_⟩
    refine ⟨_, _, elo d sq fq, fq, 3541, 41, rfl, hv, hu, z1, zf, by decide, fun v1 G1 f1 h1 => ⟨_, rfl, _, _, h1.dp, (hx.same f1).dp, sh_dq _, sh_dq _, _, rfl, ?_⟩⟩
    rw [eqv_dq]
    refine ifT (dT m1) ?_
    refine ⟨_, rfl, t, _, _, _, rfl, rfl, f1.sqt ht, at1 rfl, e, _, _, _, rfl, rfl, f1.sqt he, at1 rfl, _, rfl, p, _, _, _, rfl, rfl, f1.sqt hpa, at1 rfl, ?_⟩
    refine ⟨_, _, ehi d sq fq, sq, 3541, 41, rfl, hw.same f1, hy.same f1, z2, zs, by decide, fun v2 G2 f2 h2 => ⟨_, rfl, _, _, h2.dp, (hx.same (f1.trans f2)).dp, sh_dq _, sh_dq _, ?_⟩⟩
    rw [eqv_dq, dT m2]
    exact z _ (e2.trans (f1.trans f2))
  · have c' : d < 0 := num_neg.mp (by omega)
    have m1 : elo d sq fq * sq = d := by unfold elo; rw [if_pos c']; exact dec_c s0 d
    have m2 : ehi d sq fq * fq = d := by unfold ehi; rw [if_pos c']; exact dec_c f0 d
    refine ⟨_, rfl, _, rfl, sz2, fun p hp => ?_⟩
    have cp := same_new hp (.tup [y, u])
    have hpa : SqT K (upd H1 p (.tup [y, u])) p [y, u] := SqT.of upd_same
    replace hx := hx.same cp; replace hy := hy.same cp; replace hu := hu.same cp; replace ht := cp.sqt ht; replace he := cp.sqt he; replace hv := hv.same cp; replace hw := hw.same cp
    have e2 := e1.trans cp
    generalize upd H1 p (.tup [y, u]) = H2 at cp hpa hx hy hu ht he hv hw e2 ⊢
    refine ⟨_, rfl, t, _, _, _, rfl, rfl, ht, at1 rfl, e, _, _, _, rfl, rfl, he, at0 rfl, _, rfl, p, _, _, _, rfl, rfl, hpa, at0 rfl, ?_⟩
    refine ⟨_, _, elo d sq fq, sq, 3541, 41, rfl, hv, hy, z1, zs, by decide, fun v1 G1 f1 h1 => ⟨_, rfl, _, _, h1.dp, (hx.same f1).dp, sh_dq _, sh_dq _, _, rfl, ?_⟩⟩
    rw [eqv_dq]
    refine ifT (dT m1) ?_
    refine ⟨_, rfl, t, _, _, _, rfl, rfl, f1.sqt ht, at1 rfl, e, _, _, _, rfl, rfl, f1.sqt he, at1 rfl, _, rfl, p, _, _, _, rfl, rfl, f1.sqt hpa, at1 rfl, ?_⟩
    refine ⟨_, _, ehi d sq fq, fq, 3541, 41, rfl, hw.same f1, hu.same f1, z2, zf, by decide, fun v2 G2 f2 h2 => ⟨_, rfl, _, _, h2.dp, (hx.same (f1.trans f2)).dp, sh_dq _, sh_dq _, ?_⟩⟩
    rw [eqv_dq, dT m2]
    exact z _ (e2.trans (f1.trans f2))
theorem half_le {a b c : Rat} (h1 : a ≤ b) (h2 : a ≤ c) : a ≤ (b + c) * mkRat 1 2 := by
  have k : mkRat 1 2 * 2 = 1 := by decide +kernel
  have e : (b + c) * mkRat 1 2 * 2 = b + c := by rw [Rat.mul_assoc, k, Rat.mul_one]
  generalize (b + c) * mkRat 1 2 = x at *
  grind
def spWhen (K : PySem.W.Frag) (l : Addr) : Sp := fun vs H Q _ => ∃ (s a : Addr) (c : List Pc), vs = [.ref s, .ref a] ∧ Sto l s H ∧ a ≠ s ∧ Cq K H a c ∧ Cz 77 569 40 c ∧ Cok c ∧ 1 ≤ c.length ∧ c.length ≤ 12 ∧
  ∀ v q H', Rq K H' v q → Sz 160 q → (∀ p, c[0]? = some p → p.s ≤ q) → Sto l s H' → Fr s H H' → Q v H'
abbrev s__law_when : Stmt := top 82
abbrev N__law_when : List Str := ["_law_store_here", "_law_course_here", "_law_spot"]
theorem sc__law_when : FnScope N__law_when ["_law_store_here", "_law_course_here"] (defScope s__law_when) := ⟨rfl, rfl, rfl, by decide +kernel, rfl, by decide +kernel, by decide +kernel⟩
abbrev ps__law_when : List Str := ["_law_store_here", "_law_course_here"]
theorem ok_when (T : Bn mg) (F : Fn K mg "_law_when" s__law_when ps__law_when f fd) (d_law_take : Def P w K mg base k "_law_take" ["_law_store_here", "_law_many"] (spTake K l) f1 fd1) (d_law_times : Def P w K mg base k "_law_times" ["_law_a", "_law_b"] (spOp2 K (· * ·)) f2 fd2)
    (d_law_plus : Def P w K mg base k "_law_plus" ["_law_a", "_law_b"] (spOp2 K (· + ·)) f3 fd3) (d_law_above : Def P w K mg base k "_law_above" ["_law_store_here"] (spDraw K l 5 posQ) f4 fd4) :
    Def P w K mg base (k + 1) "_law_when" ps__law_when (spWhen K l) f fd := by
  refine ⟨F.F.ok sc__law_when (fun vs H Q E h => ?_) (fun cdv A outer s H vs Q E hr h => ?_), F.m, F.F.kp, F.b⟩
  · obtain ⟨_, _, _, rfl, _⟩ := h
    rfl
  obtain ⟨s, a, c, rfl, hS, na, hC, cz, ok, l1, l2, z⟩ := h
  have asc := asc_of ok
  have first : ∀ (i : Nat) (p q : Pc), c[0]? = some p → c[i]? = some q → p.s ≤ q.s := by
    intro i p q hp hq
    cases i with
    | zero => rw [hp] at hq; cases hq; exact Rat.le_refl
    | succ i =>
      have h0 := List.getElem?_eq_some_iff.mp hp
      have hi := List.getElem?_eq_some_iff.mp hq
      have := (List.pairwise_iff_getElem.mp asc) 0 (i + 1) h0.1 hi.1 (by omega)
      rw [h0.2, hi.2] at this
      grind
  obtain ⟨xs, hxs, hc⟩ := id hC
  have hxl := hc.1
  refine ⟨_, (pss_cons (ps_set (i := 2) sc__law_when.nd rfl (Or.inl rfl) (pcall d_law_take hr (pa_cons (pv 0) (pa_cons (pe_callB call_len_seq (by rfl) T.len_ PySem.boot_len (pa_cons (pv 1) pa_nil)) pa_nil))))
      (pss_cons (ps_if (PW.pt (pw_and (pt_cmpR op_lt (pe_op op_add (pv 2) pe_int) (pe_callB call_len_seq (by rfl) T.len_ PySem.boot_len (pa_cons (pv 1) pa_nil)) (nomark _)) (pw_and1 (pt_cmpR op_eq (pcall d_law_take hr (pa_cons (pv 0) (pa_cons pe_int pa_nil))) pe_int (nomark _)))))
        (pss_one (ps_ret (pcall d_law_times hr (pa_cons (pcall d_law_plus hr (pa_cons (pe_ix ix_tup (pe_ix ix_list (pv 1) (pv 2) (fun _ _ => rfl)) pe_int (fun _ _ => rfl)) (pa_cons (pe_ix ix_tup (pe_ix ix_list (pv 1) (pe_op op_add (pv 2) pe_int) (fun _ _ => rfl)) pe_int (fun _ _ => rfl)) pa_nil))) (pa_cons (pe_tup (pa_cons pe_int (pa_cons pe_int pa_nil))) pa_nil)))))
        pss_nil)
      (pss_cons (ps_if (pt_cmpR op_eq (pcall d_law_take hr (pa_cons (pv 0) (pa_cons pe_int pa_nil))) pe_int (nomark _))
        (pss_one (ps_ret (pcall d_law_plus hr (pa_cons (pe_ix ix_tup (pe_ix ix_list (pv 1) (pe_op op_sub (pe_callB call_len_seq (by rfl) T.len_ PySem.boot_len (pa_cons (pv 1) pa_nil)) pe_int) (fun _ _ => rfl)) pe_int (fun _ _ => rfl)) (pa_cons (pcall d_law_above hr (pa_cons (pv 0) pa_nil)) pa_nil)))))
        pss_nil)
      (pss_one (ps_ret (pe_ix ix_tup (pe_ix ix_list (pv 1) (pv 2) (fun _ _ => rfl)) pe_int (fun _ _ => rfl))))))), ?_⟩
  refine ⟨_, rfl, _, rfl, a, _, rfl, .inl hxs, s, _, rfl, hS, by omega, fun sp H1 sp0 sp1 S1 e1 => ?_⟩
  have hxs1 := seq_fr e1 na hxs
  obtain ⟨n, rfl⟩ : ∃ n : Nat, sp = (n : Int) := ⟨sp.toNat, by omega⟩
  have hn : n < c.length := by omega
  have item : ∀ (i : Nat) G, Fr s H G → i < c.length → ∃ xa xs' xv xr p, xs[i]? = some (.ref xa) ∧ SqT K G xa [xs', xv, xr] ∧ Rq K G xs' p.s ∧ c[i]? = some p ∧ Sz 77 p.s := fun i G e hi => by
    have ec : c[i]? = some c[i] := List.getElem?_eq_getElem hi
    obtain ⟨x, hx, pq⟩ := hc.at ec
    obtain ⟨xa, x1, x2, x3, rfl, h1, h2, _⟩ := pq.fr e hS.some
    exact ⟨xa, x1, x2, x3, _, hx, h1, h2, ec, (cz _ (List.mem_of_getElem? ec)).1⟩
  dsimp only [gName]
  refine cut (fun σ' G => σ' = [some (.ref s), some (.ref a), some (.int (n : Int))] ∧ Fr s H G ∧ Sto l s G) ?_ ?_
  · rintro σ G ⟨rfl, eG, SG⟩
    refine ⟨_, rfl, s, 3, rfl, SG, by decide, fun r H2 _ _ S2 e2 => ⟨rfl, _, rfl, ifD (fun _ => ?_) (fun _ => ?_)⟩⟩
    · have e02 := eG.trans e2
      have hx2 := seq_fr e02 na hxs
      obtain ⟨xa, x1, x2, x3, p, hx, h1, h2, hp, zp⟩ := item (c.length - 1) H2 e02 (by omega)
      refine ⟨_, rfl, _, rfl, a, _, rfl, .inl hx2, _, _, rfl, rfl, a, _, _, _, rfl, rfl, hx2, at_of (j := c.length - 1) (by omega) hx, xa, _, _, _, rfl, rfl, h1, at0 rfl, ?_⟩
      refine ⟨_, rfl, s, rfl, S2, fun va H3 qa S3 e3 => ?_⟩
      obtain ⟨aq, ra, za, (pa : 0 < aq)⟩ := qa
      refine ⟨_, _, p.s, aq, 77, 5, rfl, h2.fr e3 S2.some, ra, zp, za, by decide, fun v H4 e4 h4 => ?_⟩
      exact z v _ H4 h4 ((zp.add za).mono (by decide)) (fun p0 hp0 => by have := first _ _ _ hp0 hp; grind) (S3.same e4) (e02.trans (e3.trans (Fr.of e4)))
    · have e02 := eG.trans e2
      have hx2 := seq_fr e02 na hxs
      obtain ⟨xa, x1, x2, x3, p, hx, h1, h2, hp, zp⟩ := item n H2 e02 hn
      refine ⟨_, rfl, _, rfl, a, _, _, _, rfl, rfl, hx2, at_of (j := n) (by omega) hx, xa, _, _, _, rfl, rfl, h1, at0 rfl, ?_⟩
      exact z _ _ H2 h2 (zp.mono (by decide)) (fun p0 hp0 => first _ _ _ hp0 hp) S2 e02
  · intro key
    refine ⟨_, rfl, _, _, rfl, rfl, _, rfl, a, _, rfl, .inl hxs1, _, _, rfl, rfl, _, rfl, ifD (fun g => ?_) (fun g => ?_)⟩
    · refine ⟨_, rfl, s, 2, rfl, S1, by decide, fun r H2 _ _ S2 e2 => ⟨rfl, _, rfl, ifD (fun _ => ?_) (fun _ => key _ _ ⟨rfl, e1.trans e2, S2⟩)⟩⟩
      have e02 := e1.trans e2
      have hx2 := seq_fr e02 na hxs
      have hn1 : n + 1 < c.length := by omega
      obtain ⟨xa, x1, x2, x3, p, hx, h1, h2, hp, zp⟩ := item n H2 e02 hn
      obtain ⟨ya, y1, y2, y3, q, hy, g1, g2, hq, zq⟩ := item (n + 1) H2 e02 hn1
      refine ⟨_, rfl, _, rfl, a, _, _, _, rfl, rfl, hx2, at_of (j := n) (by omega) hx, xa, _, _, _, rfl, rfl, h1, at0 rfl, ?_⟩
      refine ⟨_, rfl, _, rfl, _, _, rfl, rfl, a, _, _, _, rfl, rfl, hx2, at_of (j := n + 1) (by omega) hy, ya, _, _, _, rfl, rfl, g1, at0 rfl, ?_⟩
      refine ⟨_, _, p.s, q.s, 77, 77, rfl, h2, g2, zp, zq, by decide, fun v H3 e3 h3 => ⟨sz2, fun t ht => ?_⟩⟩
      have ct := same_new ht (.tup [.int 1, .int 2])
      have rh : Rq K (upd H3 t (.tup [.int 1, .int 2])) (.ref t) (mkRat 1 2) := rq_new 1 2 _ (by decide +kernel) (by decide +kernel)
      have zh : Sz 2 (mkRat 1 2) := by decide +kernel
      refine ⟨_, _, p.s + q.s, mkRat 1 2, 155, 2, rfl, Rq.same ct h3, rh, zp.add zq, zh, by decide, fun v4 H4 e4 h4 => ?_⟩
      refine z v4 _ H4 h4 (((zp.add zq).mul zh).mono (by decide)) (fun p0 hp0 => ?_) (((S2.same e3).same ct).same e4) (e02.trans (Fr.of (e3.trans (ct.trans e4))))
      have k1 := first _ _ _ hp0 hp
      have k2 := first _ _ _ hp0 hq
      exact half_le k1 k2
    · exact ifF rfl (key _ _ ⟨rfl, e1, S1⟩)
def spBet (K : PySem.W.Frag) : Sp := fun vs H Q _ => ∃ (a : Addr) (x y u v : V) (c : List Pc) (lo top s t : Rat), vs = [.ref a, x, y, u, v] ∧ Cq K H a c ∧ Rq K H x lo ∧ Rq K H y top ∧ Rq K H u s ∧ Rq K H v t ∧ Cz 77 569 40 c ∧ Cok c ∧ NJ c ∧ InR lo top c ∧ Sz 41 lo ∧ Sz 41 top ∧ Sz 160 s ∧ Sz 160 t ∧ 0 < lo ∧ lo ≤ top ∧ c.length ≤ 12 ∧ (∃ p, c[0]? = some p ∧ p.s ≤ s ∧ p.s ≤ t) ∧ ∀ H', Same H H' → Q (.bl true) H'
theorem sz_now {c : List Pc} {t a : Rat} (cz : Cz 77 569 40 c) (zt : Sz 160 t) (h : nowf c t = some a) : Sz 848 a := by
  unfold nowf at h
  obtain ⟨p, hp, rfl⟩ := Option.map_eq_some_iff.mp h
  have hm := (List.mem_filter.mp (List.mem_of_getLast? hp)).1
  obtain ⟨z1, z2, z3⟩ := cz p hm
  exact (z2.add (z3.mul (zt.sub z1))).mono (by decide)
theorem rq_neg {H : Hp} {t : Addr} {q : Rat} : Rq K (upd H t (.tup [.int (0 - q.num), .int q.den])) (.ref t) (-q) := by
  refine ⟨t, rfl, ?_⟩
  rw [Rat.neg_num, Rat.neg_den, show -q.num = 0 - q.num by omega]
  exact SqT.of upd_same
abbrev s__law_between_right : Stmt := top 81
abbrev N__law_between_right : List Str := ["_law_course_here", "_law_lo", "_law_top", "_law_one", "_law_other", "_law_d", "_law_gone", "_law_turn", "_law_told_here"]
theorem sc__law_between_right : FnScope N__law_between_right ["_law_course_here", "_law_lo", "_law_top", "_law_one", "_law_other"] (defScope s__law_between_right) := ⟨rfl, rfl, rfl, by decide +kernel, rfl, by decide +kernel, by decide +kernel⟩
abbrev ps__law_between_right : List Str := ["_law_course_here", "_law_lo", "_law_top", "_law_one", "_law_other"]
theorem ok_between (T : Bn mg) (F : Fn K mg "_law_between_right" s__law_between_right ps__law_between_right f fd) (d_law_minus : Def P w K mg base k "_law_minus" ["_law_a", "_law_b"] (spOp2 K (· - ·)) f1 fd1) (d_law_now : Def P w K mg base k "_law_now" ["_law_course_here", "_law_t"] (spNow K) f2 fd2)
    (d_law_told : Def P w K mg base k "_law_told" ["_law_d", "_law_lo", "_law_top"] (spTold K) f3 fd3) (d_law_elapsed_right : Def P w K mg base k "_law_elapsed_right" ["_law_d", "_law_lo", "_law_top", "_law_told_here"] (spER K) f4 fd4) (d_law_in_span : Def P w K mg base k "_law_in_span" ["_law_span", "_law_t"] (spIn K) f5 fd5) :
    Def P w K mg base (k + 1) "_law_between_right" ps__law_between_right (spBet K) f fd := by
  refine ⟨F.F.ok sc__law_between_right (fun vs H Q E h => ?_) (fun cdv A outer s H vs Q E hr h => ?_), F.m, F.F.kp, F.b⟩
  · obtain ⟨_, _, _, _, _, _, _, _, _, _, rfl, _⟩ := h
    rfl
  obtain ⟨a, x, y, u, v, c, lo, top, s', t', rfl, hC, hx, hy, hu, hv, cz, ok, nj, ir, zl, zt, zs', zt', pl, lt, hl, ⟨p0, hp0, le1, le2⟩, z⟩ := h
  obtain ⟨na, nb, ea, eb, bw⟩ := bw_now ok nj ir hp0 le1 le2
  have za := sz_now cz zs' ea
  have zb := sz_now cz zt' eb
  refine ⟨_, (pss_cons (ps_set (i := 5) sc__law_between_right.nd rfl (Or.inl rfl) (pcall d_law_minus hr (pa_cons (pcall d_law_now hr (pa_cons (pv 0) (pa_cons (pv 4) pa_nil))) (pa_cons (pcall d_law_now hr (pa_cons (pv 0) (pa_cons (pv 3) pa_nil))) pa_nil))))
      (pss_cons (ps_set (i := 6) sc__law_between_right.nd rfl (Or.inl rfl) (pcall d_law_minus hr (pa_cons (pv 4) (pa_cons (pv 3) pa_nil))))
      (pss_cons (ps_for PassesOwn.never rfl (pi_range1 (by rfl) T.range_ (pa_cons pe_int pa_nil)) (pg_name (i := 7) sc__law_between_right.nd rfl (Or.inl rfl))
        (pss_cons (ps_set (i := 8) sc__law_between_right.nd rfl (Or.inl rfl) (pcall d_law_told hr (pa_cons (pv 5) (pa_cons (pv 1) (pa_cons (pv 2) pa_nil)))))
        (pss_cons (ps_if (PW.pt (pw_or (pt_not (pt_val (pcall d_law_elapsed_right hr (pa_cons (pv 5) (pa_cons (pv 1) (pa_cons (pv 2) (pa_cons (pv 8) pa_nil))))))) (pw_or1 (pt_not (pt_val (pcall d_law_in_span hr (pa_cons (pe_ix ix_tup (pv 8) pe_int (fun _ _ => rfl)) (pa_cons (pv 6) pa_nil))))))))
          (pss_one (ps_ret pe_bl))
          pss_nil)
        (pss_cons (ps_set (i := 5) sc__law_between_right.nd rfl (Or.inl rfl) (pe_tup (pa_cons (pe_op op_sub pe_int (pe_ix ix_tup (pv 5) pe_int (fun _ _ => rfl))) (pa_cons (pe_ix ix_tup (pv 5) pe_int (fun _ _ => rfl)) pa_nil))))
        (pss_one (ps_set (i := 6) sc__law_between_right.nd rfl (Or.inl rfl) (pe_tup (pa_cons (pe_op op_sub pe_int (pe_ix ix_tup (pv 6) pe_int (fun _ _ => rfl))) (pa_cons (pe_ix ix_tup (pv 6) pe_int (fun _ _ => rfl)) pa_nil)))))))))
      (pss_one (ps_ret pe_bl))))), ?_⟩
  refine ⟨_, rfl, _, rfl, a, v, c, t', 77, 569, 40, 160, rfl, hC, hv, cz, zt', by omega, by decide, fun vb H1 e1 h1 => ?_⟩
  rw [eb] at h1
  refine ⟨_, rfl, _, rfl, a, u, c, s', 77, 569, 40, 160, rfl, hC.same e1, hu.same e1, cz, zs', by omega, by decide, fun va H2 e2 h2 => ?_⟩
  rw [ea] at h2
  have h1 : Rq K H1 vb nb := h1
  have h2 : Rq K H2 va na := h2
  refine ⟨_, _, nb, na, 848, 848, rfl, h1.same e2, h2, zb, za, by decide, fun vd H3 e3 h3 => ?_⟩
  have e13 := e1.trans (e2.trans e3)
  refine ⟨_, rfl, _, rfl, v, u, t', s', 160, 160, rfl, hv.same e13, hu.same e13, zt', zs', by decide, fun vg H4 e4 h4 => ?_⟩
  have zd : Sz 1697 (nb - na) := zb.sub za
  have zg : Sz 321 (t' - s') := zt'.sub zs'
  have h3 : Rq K H4 vd (nb - na) := Rq.same e4 h3
  have h4 : Rq K H4 vg (t' - s') := h4
  have e14 := e13.trans e4
  replace hx := hx.same e14; replace hy := hy.same e14
  generalize nb - na = d0 at bw zd h3
  generalize t' - s' = g0 at bw zg h4
  refine ⟨2, rfl, by decide, by decide, for_range (n := 2) (fun i σ G => ∃ (vd vg : V) (d g : Rat) (k7 k8 : Option V), σ = [some (.ref a), some x, some y, some u, some v, some vd, some vg, k7, k8] ∧ Same H4 G ∧ Rq K G vd d ∧ Rq K G vg g ∧ BW lo top d g ∧ Sz 1697 d ∧ Sz 321 g)
    ⟨vd, vg, d0, g0, none, none, rfl, Same.refl _, h3, h4, bw, zd, zg⟩ ?_ ?_⟩
  · rintro i σ G hi ⟨vd, vg, d, g, k7, k8, rfl, fr, hd, hg, bw, zd, zg⟩
    obtain ⟨in1, in2⟩ := bw_in pl lt bw
    refine ⟨_, rfl, _, rfl, _, rfl, vd, x, y, d, lo, top, 41, rfl, hd, hx.same fr, hy.same fr, zd.mono (by decide), zl, zt, by decide, fun _ _ t e v' w' G1 f1 ht he hv' hw' => ?_, fun c => absurd pl (Rat.not_lt.mpr c), fun _ c => absurd lt (Rat.not_le.mpr c)⟩
    refine ⟨_, rfl, _, rfl, _, rfl, _, rfl, vd, x, y, t, d, lo, top, rfl, hd.same f1, (hx.same fr).same f1, (hy.same fr).same f1, ⟨⟨e, v', w', ht, he, hv', hw'⟩⟩, zd.mono (by decide), zl, zt, pl, lt, fun G2 f2 => ⟨_, rfl, ifF rfl ?_⟩⟩
    have f12 := f1.trans f2
    have f0 : 0 < top := by grind
    obtain ⟨z1, z2⟩ := sz_elo zd zl zt pl f0
    refine ⟨_, rfl, t, _, _, _, rfl, rfl, f2.sqt ht, at1 rfl, _, rfl, ?_⟩
    refine ⟨.ref e, vg, (some (elo d lo top), some (ehi d lo top)), g, 1738, 321, rfl, ⟨e, v', w', rfl, f2.sqt he, hv'.same f2, hw'.same f2⟩, hg.same f12, ⟨fun q h => by cases Option.some.inj h; exact z1, fun q h => by cases Option.some.inj h; exact z2⟩, zg, by decide, ?_⟩
    have ins : inS (some (elo d lo top), some (ehi d lo top)) g = true := by
      unfold inS aboveO belowO
      have k1 : ¬ g < elo d lo top := by grind
      have k2 : ¬ ehi d lo top < g := by grind
      simp [k1, k2]
    rw [ins]
    refine ⟨_, rfl, ifF rfl ?_⟩
    have hd2 := hd.same f12
    have hg2 := hg.same f12
    obtain ⟨da, rfl, hda⟩ := id hd2
    obtain ⟨ga, rfl, hga⟩ := id hg2
    refine ⟨_, rfl, da, _, _, _, rfl, rfl, hda, at0 rfl, _, _, rfl, rfl, _, rfl, da, _, _, _, rfl, rfl, hda, at1 rfl, sz2, fun t1 h1 => ?_⟩
    have k1 := same_new h1 (.tup [.int (0 - d.num), .int d.den])
    have r1 : Rq K (upd G2 t1 (.tup [.int (0 - d.num), .int d.den])) (.ref t1) (-d) := rq_neg
    generalize upd G2 t1 (.tup [.int (0 - d.num), .int d.den]) = G3 at k1 r1 ⊢
    refine ⟨_, rfl, ga, _, _, _, rfl, rfl, k1.sqt hga, at0 rfl, _, _, rfl, rfl, _, rfl, ga, _, _, _, rfl, rfl, k1.sqt hga, at1 rfl, sz2, fun t2 h2 => ?_⟩
    have k2 := same_new h2 (.tup [.int (0 - g.num), .int g.den])
    exact ⟨_, _, -d, -g, _, _, rfl, fr.trans (f12.trans (k1.trans k2)), r1.same k2, rq_neg, bw.neg, zd.neg, zg.neg⟩
  · rintro σ G ⟨vd, vg, d, g, k7, k8, rfl, fr, _⟩
    exact z _ (e14.trans fr)
end Vk

namespace Vk
open PySem L2 Vm Vl Vs
variable {l aZERO aONE CB CR CV fB fR : Addr} {P : Program} {w : World} {K : PySem.W.Frag} {mg : Str → Option Value} {base : Heap} {k : Nat} {f f1 f2 f3 f4 f5 f6 f7 f8 f9 : Addr} {fd fd1 fd2 fd3 fd4 fd5 fd6 fd7 fd8 fd9 : FuncData}
theorem op_isnotB {X : Cx} : OpR X (compareOp .IsNot) (fun x y H Q => ∃ a b, x = .bl a ∧ y = .bl b ∧ Q (.bl (!decide (a = b))) H) := by
  intro pins s σ H x y v u Q I rx ry h
  obtain ⟨a, b, rfl, rfl, q⟩ := h
  cases rx
  cases ry
  show wpAny _ _ ((isSame (.bool a) (.bool b)) >>= fun z => pure (Value.bool (!z))) _ _ s
  exact wpAny_bind (wpAny_isSame_plain rfl (wpAny_pure (fin_bl I q (by cases a <;> cases b <;> rfl))))
def spSameB : Sp := fun vs H Q _ => ∃ b : Bool, vs = [.bl b, .bl b] ∧ Q (.bl true) H
theorem ok_sameB (T : Bn mg) (F : Fn K mg "_law_same" s__law_same ps__law_same f fd) (d_law_is_int : Def P w K mg base k "_law_is_int" ["_law_value"] (spIsInt K) f1 fd1) : Def P w K mg base (k + 1) "_law_same" ps__law_same spSameB f fd := by
  have d_law_same : Def P w K mg base k "_law_same" ["_law_value", "_law_due"] (fun _ _ _ _ => False) f fd := ⟨⟨fun vs H Q E h => h.elim, fun A outer s H args us vs Q E _ _ _ _ h => h.elim⟩, F.m, F.F.kp, F.b⟩
  refine ⟨F.F.ok sc__law_same (fun vs H Q E h => ?_) (fun cdv A outer s H vs Q E hr h => ?_), F.m, F.F.kp, F.b⟩
  · obtain ⟨_, rfl, _⟩ := h
    rfl
  obtain ⟨b, rfl, z⟩ := h
  refine ⟨_, (pss_cons (ps_if (pt_cmpR op_isN (pv 1) pe_non (nomark _))
        (pss_one (ps_ret (pe_cmpR op_isN (pv 0) pe_non (nomark _))))
        pss_nil)
      (pss_cons (ps_if (pt_val (pe_callB call_isi (by rfl) T.isinstance_ (by decide +kernel) (pa_cons (pv 1) (pa_cons (pe_bltn (v := .ty "bool") (by rfl) T.bool_ (by decide +kernel) rfl) pa_nil))))
        (pss_one (ps_ret (pe_and (pe_callB call_isi (by rfl) T.isinstance_ (by decide +kernel) (pa_cons (pv 0) (pa_cons (pe_bltn (v := .ty "bool") (by rfl) T.bool_ (by decide +kernel) rfl) pa_nil))) (pe_one (pe_cmpR (op_eqD hr.units) (pv 0) (pv 1) (nomark _))))))
        pss_nil)
      (pss_cons (ps_if (pt_val (pe_callB call_isi (by rfl) T.isinstance_ (by decide +kernel) (pa_cons (pv 1) (pa_cons (pe_bltn (v := .ty "int") (by rfl) T.int_ (by decide +kernel) rfl) pa_nil))))
        (pss_one (ps_ret (pe_and (pcall d_law_is_int hr (pa_cons (pv 0) pa_nil)) (pe_one (pe_cmpR (op_eqD hr.units) (pv 0) (pv 1) (nomark _))))))
        pss_nil)
      (pss_cons (ps_if (pt_val (pe_callB call_isi (by rfl) T.isinstance_ (by decide +kernel) (pa_cons (pv 1) (pa_cons (pe_bltn (v := .ty "str") (by rfl) T.str_ (by decide +kernel) rfl) pa_nil))))
        (pss_one (ps_ret (pe_and (pe_callB call_isi (by rfl) T.isinstance_ (by decide +kernel) (pa_cons (pv 0) (pa_cons (pe_bltn (v := .ty "str") (by rfl) T.str_ (by decide +kernel) rfl) pa_nil))) (pe_one (pe_cmpR (op_eqD hr.units) (pv 0) (pv 1) (nomark _))))))
        pss_nil)
      (pss_cons (ps_if (pt_val (pe_callB call_isi (by rfl) T.isinstance_ (by decide +kernel) (pa_cons (pv 1) (pa_cons (pe_bltn (v := .ty "dict") (by rfl) T.dict_ (by decide +kernel) rfl) pa_nil))))
        pss_never
        pss_nil)
      (pss_cons (ps_if (PW.pt (pw_and (pt_val (pe_callB call_isi (by rfl) T.isinstance_ (by decide +kernel) (pa_cons (pv 1) (pa_cons (pe_bltn (v := .ty "list") (by rfl) T.list_ (by decide +kernel) rfl) pa_nil)))) (pw_and1 (pt_not (pt_val (pe_callB call_isi (by rfl) T.isinstance_ (by decide +kernel) (pa_cons (pv 0) (pa_cons (pe_bltn (v := .ty "list") (by rfl) T.list_ (by decide +kernel) rfl) pa_nil))))))))
        (pss_one (ps_ret pe_bl))
        pss_nil)
      (pss_cons (ps_if (PW.pt (pw_and (pt_val (pe_callB call_isi (by rfl) T.isinstance_ (by decide +kernel) (pa_cons (pv 1) (pa_cons (pe_bltn (v := .ty "tuple") (by rfl) T.tuple_ (by decide +kernel) rfl) pa_nil)))) (pw_and1 (pt_not (pt_val (pe_callB call_isi (by rfl) T.isinstance_ (by decide +kernel) (pa_cons (pv 0) (pa_cons (pe_bltn (v := .ty "tuple") (by rfl) T.tuple_ (by decide +kernel) rfl) pa_nil))))))))
        (pss_one (ps_ret pe_bl))
        pss_nil)
      (pss_cons (ps_if (pt_cmpR op_ne (pe_callB call_len_seq (by rfl) T.len_ PySem.boot_len (pa_cons (pv 0) pa_nil)) (pe_callB call_len_seq (by rfl) T.len_ PySem.boot_len (pa_cons (pv 1) pa_nil)) (nomark _))
        (pss_one (ps_ret pe_bl))
        pss_nil)
      (pss_cons (ps_for PassesOwn.never rfl (pi_range1 (by rfl) T.range_ (pa_cons (pe_callB call_len_seq (by rfl) T.len_ PySem.boot_len (pa_cons (pv 1) pa_nil)) pa_nil)) (pg_name (i := 4) sc__law_same.nd rfl (Or.inl rfl))
        (pss_one (ps_if (pt_not (pt_val (pcall d_law_same hr (pa_cons (pe_ix ix_seq (pv 0) (pv 4) (fun _ _ => rfl)) (pa_cons (pe_ix ix_seq (pv 1) (pv 4) (fun _ _ => rfl)) pa_nil)))))
          (pss_one (ps_ret pe_bl))
          pss_nil)))
      (pss_one (ps_ret pe_bl))))))))))), ?_⟩
  refine ⟨_, rfl, rfl, _, rfl, ifF (dF nofun) ⟨_, rfl, _, _, _, _, true, rfl, .ty _, (.base (.bl b)), kit_ty (by decide +kernel), _, rfl, ifT rfl ?_⟩⟩
  refine ⟨_, rfl, _, _, _, _, true, rfl, .ty _, (.base (.bl b)), kit_ty (by decide +kernel), _, rfl, ifT rfl ⟨_, rfl, _, rfl, _, _, .bl b, .bl b, rfl, rfl, ?_⟩⟩
  rw [show PyData.eqv (.bool b) (.bool b) = true from beq_self_eq_true b]
  exact z
theorem Def.or {x : Str} {ps : List Str} {sp1 sp2 : Sp} (h1 : Def P w K mg base k x ps sp1 f fd) (h2 : Def P w K mg base k x ps sp2 f fd) : Def P w K mg base k x ps (fun vs H Q E => sp1 vs H Q E ∨ sp2 vs H Q E) f fd :=
  ⟨⟨fun vs H Q E h => h.elim (h1.ok.len vs H Q E) (h2.ok.len vs H Q E), fun A outer s H args us vs Q E hr he hb hv h => h.elim (h1.ok.run A outer s H args us vs Q E hr he hb hv) (h2.ok.run A outer s H args us vs Q E hr he hb hv)⟩, h1.m, h1.kp, h1.b⟩
end Vk

namespace Vk
open PySem L2 Vm Vl Vs
variable {l aZERO aONE CB CR CV fB fR : Addr} {P : Program} {w : World} {K : PySem.W.Frag} {mg : Str → Option Value} {base : Heap} {k : Nat} {f f1 f2 f3 f4 f5 f6 f7 f8 f9 : Addr} {fd fd1 fd2 fd3 fd4 fd5 fd6 fd7 fd8 fd9 : FuncData}
/-- a pair of rationals -/
def Pr (K : PySem.W.Frag) (H : Hp) (v : V) : Prop := ∃ t u w p q, v = .ref t ∧ SqT K H t [u, w] ∧ Rq K H u p ∧ Rq K H w q ∧ Sz 60 p ∧ Sz 60 q
theorem Pr.same {H H' : Hp} {v : V} (h : Pr K H v) (e : Same H H') : Pr K H' v := by
  obtain ⟨t, u, w, p, q, rfl, h1, h2, h3, h4⟩ := h
  exact ⟨t, u, w, p, q, rfl, e.sqt h1, h2.same e, h3.same e, h4⟩
structure Wst (K : PySem.W.Frag) (a D : Addr) (x y b : V) (c : List Pc) (xs : List V) (lo top : Rat) (H : Hp) (L : List V) : Prop where
  al : All2 (Pq K H) xs c
  c : Cq K H a c
  d : H D = some (.lst xs)
  x : Rq K H x lo
  y : Rq K H y top
  b : Rq K H b (mkRat 1 1000)
  l : ∀ v ∈ L, Pr K H v
section
variable {a D : Addr} {x y b : V} {c : List Pc} {xs : List V} {lo top : Rat} {H H' : Hp} {L : List V}
theorem Wst.same (W : Wst K a D x y b c xs lo top H L) (e : Same H H') : Wst K a D x y b c xs lo top H' L := ⟨W.al.imp fun _ _ h => h.same e, W.c.same e, e _ _ W.d, W.x.same e, W.y.same e, W.b.same e, fun v hv => (W.l v hv).same e⟩
theorem Wst.tup {t : Addr} {u w : V} {p q : Rat} (W : Wst K a D x y b c xs lo top H L) (ht : H t = none) (hu : Rq K H u p) (hw : Rq K H w q) (zu : Sz 60 p) (zw : Sz 60 q) : Wst K a D x y b c xs lo top (upd H t (.tup [u, w])) (L ++ [.ref t]) := by
  have e := same_new ht (.tup [u, w])
  refine { W.same e with l := fun v hv => ?_ }
  rcases List.mem_append.mp hv with hv | hv
  · exact (W.l v hv).same e
  · rw [List.mem_singleton.mp hv]
    exact ⟨t, u, w, p, q, rfl, SqT.of upd_same, hu.same e, hw.same e, zu, zw⟩
end
def dPc (p : Pc) : PyData := .tuple [dq p.s, dq p.v, dq p.r]
theorem pq_dp {H : Hp} {v : V} {p : Pc} (h : Pq K H v p) : Dp K H v (dPc p) := by
  obtain ⟨a, xs, xv, xr, rfl, h, h1, h2, h3⟩ := h
  exact .tup h (.cons h1.dp (.cons h2.dp (.cons h3.dp .nil)))
theorem all_dp {H : Hp} : ∀ {xs : List V} {c : List Pc}, All2 (Pq K H) xs c → DpAll K H xs (c.map dPc)
  | [], [], _ => .nil
  | x :: xs, p :: c, h => .cons (pq_dp (h.2 0 x p rfl rfl)) (all_dp ⟨by have := h.1; simpa using this, fun i y q hy hq => h.2 (i + 1) y q hy hq⟩)
  | [], _ :: _, h => absurd h.1 (by simp)
  | _ :: _, [], h => absurd h.1 (by simp)
theorem tree_c {c : List Pc} (h : c.length ≤ 40) : Tree 3 (.list (c.map dPc)) := .lst (by rw [List.length_map]; omega) fun d hd => by
  obtain ⟨p, _, rfl⟩ := List.mem_map.mp hd
  refine .tup (by show 3 ≤ 1000; decide) fun d hd => ?_
  simp only [List.mem_cons, List.mem_nil_iff, or_false] at hd
  rcases hd with rfl | rfl | rfl <;> exact tree_dq 0 _
def spBnd (K : PySem.W.Frag) : Sp := fun vs H Q _ => ∃ (a : Addr) (x y : V) (c : List Pc) (lo top : Rat), vs = [.ref a, x, y] ∧ Cq K H a c ∧ Rq K H x lo ∧ Rq K H y top ∧ Cz 245 1912 40 c ∧ Sz 41 lo ∧ Sz 41 top ∧ 1 ≤ c.length ∧ c.length ≤ 40 ∧ ∀ H', Same H H' → Q (.bl true) H'
abbrev s__law_bounds_right : Stmt := top 83
abbrev N__law_bounds_right : List Str := ["_law_course_here", "_law_lo", "_law_top", "_law_kept", "_law_bit", "_law_pairs", "_law_pair"]
theorem sc__law_bounds_right : FnScope N__law_bounds_right ["_law_course_here", "_law_lo", "_law_top"] (defScope s__law_bounds_right) := ⟨rfl, rfl, rfl, by decide +kernel, rfl, by decide +kernel, by decide +kernel⟩
abbrev ps__law_bounds_right : List Str := ["_law_course_here", "_law_lo", "_law_top"]
set_option maxHeartbeats 1000000 in
theorem ok_bounds (T : Bn mg) (F : Fn K mg "_law_bounds_right" s__law_bounds_right ps__law_bounds_right f fd) (d_law_plus : Def P w K mg base k "_law_plus" ["_law_a", "_law_b"] (spOp2 K (· + ·)) f1 fd1) (d_law_minus : Def P w K mg base k "_law_minus" ["_law_a", "_law_b"] (spOp2 K (· - ·)) f2 fd2)
    (druns_within : Def P w K mg base k "runs_within" ["course", "slow", "fast"] (spRW K) f3 fd3) (d_law_keeps : Def P w K mg base k "_law_keeps" ["_law_course_here", "_law_lo", "_law_top"] (spRW K) f4 fd4) (d_law_same : Def P w K mg base k "_law_same" ["_law_value", "_law_due"] (fun vs H Q E => spSame K 3 vs H Q E ∨ spSameB vs H Q E) f5 fd5) :
    Def P w K mg base (k + 1) "_law_bounds_right" ps__law_bounds_right (spBnd K) f fd := by
  refine ⟨F.F.ok sc__law_bounds_right (fun vs H Q E h => ?_) (fun cdv A outer s H vs Q E hr h => ?_), F.m, F.F.kp, F.b⟩
  · obtain ⟨_, _, _, _, _, _, rfl, _⟩ := h
    rfl
  obtain ⟨a, x, y, c, lo, top, rfl, hC, hx, hy, cz, zl, zt, l1, l2, z⟩ := h
  obtain ⟨xs, hxs, hc⟩ := id hC
  have hxl := hc.1
  have zb : Sz 10 (mkRat 1 1000) := by decide +kernel
  refine ⟨_, (pss_cons (ps_set (i := 3) sc__law_bounds_right.nd rfl (Or.inl rfl) (pe_callTy call_list_of (by rfl) T.list_ (by decide +kernel) (pa_cons (pv 0) pa_nil)))
      (pss_cons (ps_set (i := 4) sc__law_bounds_right.nd rfl (Or.inl rfl) (pe_tup (pa_cons pe_int (pa_cons pe_int pa_nil))))
      (pss_cons (ps_set (i := 5) sc__law_bounds_right.nd rfl (Or.inl rfl) (pe_lst (pa_cons (pe_tup (pa_cons (pv 1) (pa_cons (pv 2) pa_nil))) (pa_cons (pe_tup (pa_cons (pv 2) (pa_cons (pv 1) pa_nil))) (pa_cons (pe_tup (pa_cons (pcall d_law_plus hr (pa_cons (pv 1) (pa_cons (pv 4) pa_nil))) (pa_cons (pv 2) pa_nil))) (pa_cons (pe_tup (pa_cons (pv 1) (pa_cons (pcall d_law_minus hr (pa_cons (pv 2) (pa_cons (pv 4) pa_nil))) pa_nil))) (pa_cons (pe_tup (pa_cons (pv 1) (pa_cons (pv 1) pa_nil))) (pa_cons (pe_tup (pa_cons (pv 2) (pa_cons (pv 2) pa_nil))) pa_nil))))))))
      (pss_cons (ps_set (i := 5) sc__law_bounds_right.nd rfl (Or.inl rfl) (pe_op op_cat (pv 5) (pe_lst (pa_cons (pe_tup (pa_cons (pcall d_law_minus hr (pa_cons (pv 1) (pa_cons (pv 4) pa_nil))) (pa_cons (pcall d_law_plus hr (pa_cons (pv 2) (pa_cons (pv 4) pa_nil))) pa_nil))) (pa_cons (pe_tup (pa_cons (pe_tup (pa_cons (pe_un un_neg pe_int) (pa_cons pe_int pa_nil))) (pa_cons (pe_tup (pa_cons pe_int (pa_cons pe_int pa_nil))) pa_nil))) pa_nil)))))
      (pss_cons (ps_set (i := 5) sc__law_bounds_right.nd rfl (Or.inl rfl) (pe_op op_cat (pv 5) (pe_lst (pa_cons (pe_tup (pa_cons (pe_tup (pa_cons pe_int (pa_cons pe_int pa_nil))) (pa_cons (pe_tup (pa_cons pe_int (pa_cons pe_int pa_nil))) pa_nil))) (pa_cons (pe_tup (pa_cons (pe_tup (pa_cons pe_int (pa_cons pe_int pa_nil))) (pa_cons (pe_tup (pa_cons (pe_un un_neg pe_int) (pa_cons pe_int pa_nil))) pa_nil))) pa_nil)))))
      (pss_cons (ps_for PassesOwn.never rfl (pi_list (pv 5)) (pg_name (i := 6) sc__law_bounds_right.nd rfl (Or.inl rfl))
        (pss_one (ps_if (pt_not (pt_val (pcall d_law_same hr (pa_cons (pcall druns_within hr (pa_cons (pv 0) (pa_cons (pe_ix ix_tup (pv 6) pe_int (fun _ _ => rfl)) (pa_cons (pe_ix ix_tup (pv 6) pe_int (fun _ _ => rfl)) pa_nil)))) (pa_cons (pcall d_law_keeps hr (pa_cons (pv 0) (pa_cons (pe_ix ix_tup (pv 6) pe_int (fun _ _ => rfl)) (pa_cons (pe_ix ix_tup (pv 6) pe_int (fun _ _ => rfl)) pa_nil)))) pa_nil)))))
          (pss_one (ps_ret pe_bl))
          pss_nil)))
      (pss_one (ps_ret (pcall d_law_same hr (pa_cons (pv 0) (pa_cons (pv 3) pa_nil))))))))))), ?_⟩
  refine ⟨_, rfl, a, xs, rfl, .inl hxs, fun D hD => ⟨sz2, fun tb htb => ?_⟩⟩
  have c0 := same_new hD (.lst xs)
  have cb := same_new htb (.tup [.int 1, .int 1000])
  have W : Wst K a D x y (.ref tb) c xs lo top (upd (upd H D (.lst xs)) tb (.tup [.int 1, .int 1000])) [] := ⟨hc.imp fun _ _ h => (h.same c0).same cb, (hC.same c0).same cb, cb _ _ upd_same, (hx.same c0).same cb, (hy.same c0).same cb, rq_new 1 1000 _ (by decide +kernel) (by decide +kernel), nofun⟩
  have e0 := c0.trans cb
  generalize upd (upd H D (.lst xs)) tb (.tup [.int 1, .int 1000]) = H0 at W e0 ⊢
  clear c0 cb htb hD hC hxs hx hy hc
  refine ⟨_, rfl, _, rfl, sz2, fun t1 h1 => ?_⟩
  replace W := W.tup h1 W.x W.y (zl.mono (by decide)) (zt.mono (by decide))
  replace e0 := e0.trans (same_new h1 (.tup [x, y]))
  generalize upd H0 t1 (.tup [x, y]) = H1 at W e0 ⊢
  refine ⟨_, rfl, _, rfl, sz2, fun t2 h2 => ?_⟩
  replace W := W.tup h2 W.y W.x (zt.mono (by decide)) (zl.mono (by decide))
  replace e0 := e0.trans (same_new h2 (.tup [y, x]))
  generalize upd H1 t2 (.tup [y, x]) = H2 at W e0 ⊢
  refine ⟨_, rfl, _, rfl, x, .ref tb, lo, mkRat 1 1000, 41, 10, rfl, W.x, W.b, zl, zb, by decide, fun v3 H3 e3 r3 => ⟨_, rfl, sz2, fun t3 h3 => ?_⟩⟩
  replace W := (W.same e3).tup h3 r3 (W.same e3).y ((zl.add zb).mono (by decide)) (zt.mono (by decide))
  replace e0 := (e0.trans e3).trans (same_new h3 (.tup [v3, y]))
  generalize upd H3 t3 (.tup [v3, y]) = H4 at W e0 ⊢
  refine ⟨_, rfl, _, rfl, _, rfl, y, .ref tb, top, mkRat 1 1000, 41, 10, rfl, W.y, W.b, zt, zb, by decide, fun v4 H5 e5 r4 => ⟨sz2, fun t4 h4 => ?_⟩⟩
  replace W := (W.same e5).tup h4 (W.same e5).x r4 (zl.mono (by decide)) ((zt.sub zb).mono (by decide))
  replace e0 := (e0.trans e5).trans (same_new h4 (.tup [x, v4]))
  generalize upd H5 t4 (.tup [x, v4]) = H6 at W e0 ⊢
  refine ⟨_, rfl, _, rfl, sz2, fun t5 h5 => ?_⟩
  replace W := W.tup h5 W.x W.x (zl.mono (by decide)) (zl.mono (by decide))
  replace e0 := e0.trans (same_new h5 (.tup [x, x]))
  generalize upd H6 t5 (.tup [x, x]) = H7 at W e0 ⊢
  refine ⟨_, rfl, _, rfl, sz2, fun t6 h6 => ?_⟩
  replace W := W.tup h6 W.y W.y (zt.mono (by decide)) (zt.mono (by decide))
  replace e0 := e0.trans (same_new h6 (.tup [y, y]))
  generalize upd H7 t6 (.tup [y, y]) = H8 at W e0 ⊢
  refine ⟨sm6, fun p1 hp1 => ?_⟩
  have c1 := same_new hp1 (.lst [.ref t1, .ref t2, .ref t3, .ref t4, .ref t5, .ref t6])
  have a1 : (upd H8 p1 (.lst [.ref t1, .ref t2, .ref t3, .ref t4, .ref t5, .ref t6])) p1 = some (.lst [.ref t1, .ref t2, .ref t3, .ref t4, .ref t5, .ref t6]) := upd_same
  replace W := W.same c1
  replace e0 := e0.trans c1
  generalize upd H8 p1 (.lst [.ref t1, .ref t2, .ref t3, .ref t4, .ref t5, .ref t6]) = H9 at W e0 a1 ⊢
  -- two more
  refine ⟨_, rfl, _, rfl, _, rfl, x, .ref tb, lo, mkRat 1 1000, 41, 10, rfl, W.x, W.b, zl, zb, by decide, fun v7 G1 g1 r7 => ?_⟩
  replace a1 := g1 _ _ a1
  replace W := W.same g1
  replace e0 := e0.trans g1
  refine ⟨_, rfl, _, rfl, y, .ref tb, top, mkRat 1 1000, 41, 10, rfl, W.y, W.b, zt, zb, by decide, fun v8 G2 g2 r8 => ⟨sz2, fun t7 h7 => ?_⟩⟩
  replace a1 := g2 _ _ a1
  replace W := W.same g2
  replace e0 := e0.trans g2
  have c7 := same_new h7 (.tup [v7, v8])
  replace a1 := c7 _ _ a1
  replace W := W.tup h7 (Rq.same g2 r7) r8 ((zl.sub zb).mono (by decide)) ((zt.add zb).mono (by decide))
  replace e0 := e0.trans c7
  generalize upd G2 t7 (.tup [v7, v8]) = G3 at W e0 a1 ⊢
  clear r7 r8 g1 g2 c7 h7
  refine ⟨_, rfl, sz2, fun ua hua => ?_⟩
  have cua := same_new hua (.tup [.int (-5), .int 1])
  have rua : Rq K (upd G3 ua (.tup [.int (-5), .int 1])) (.ref ua) (-5 : Rat) := rq_new (-5) 1 _ (by decide +kernel) (by decide +kernel)
  replace W := W.same cua
  replace e0 := e0.trans cua
  replace a1 := cua _ _ a1
  generalize upd G3 ua (.tup [.int (-5), .int 1]) = K1a at W e0 a1 rua ⊢
  refine ⟨sz2, fun ub hub => ?_⟩
  have cub := same_new hub (.tup [.int (1000), .int 1])
  have rub : Rq K (upd K1a ub (.tup [.int (1000), .int 1])) (.ref ub) (1000 : Rat) := rq_new (1000) 1 _ (by decide +kernel) (by decide +kernel)
  replace W := W.same cub
  replace e0 := e0.trans cub
  replace a1 := cub _ _ a1
  replace rua := rua.same cub
  generalize upd K1a ub (.tup [.int (1000), .int 1]) = K1b at W e0 a1 rua rub ⊢
  refine ⟨sz2, fun uc huc => ?_⟩
  have cuc := same_new huc (.tup [.ref ua, .ref ub])
  replace W := W.tup huc rua rub (by decide +kernel) (by decide +kernel)
  replace e0 := e0.trans cuc
  replace a1 := cuc _ _ a1
  generalize upd K1b uc (.tup [.ref ua, .ref ub]) = K1 at W e0 a1 ⊢
  clear rua rub cua cub cuc hua hub huc
  refine ⟨sz2, fun p2n hp2n => ?_⟩
  have cp2n := same_new hp2n (.lst [.ref t7, .ref uc])
  have bp2 : (upd K1 p2n (.lst [.ref t7, .ref uc])) p2n = some (.lst [.ref t7, .ref uc]) := upd_same
  replace W := W.same cp2n
  replace e0 := e0.trans cp2n
  replace a1 := cp2n _ _ a1
  generalize upd K1 p2n (.lst [.ref t7, .ref uc]) = K2a at W e0 a1 bp2 ⊢
  refine ⟨p1, p2n, _, _, rfl, rfl, a1, bp2, by show 8 ≤ sizeLine; decide, fun p2 hp2 => ?_⟩
  have cp2 := same_new hp2 (.lst ([.ref t1, .ref t2, .ref t3, .ref t4, .ref t5, .ref t6] ++ [.ref t7, .ref uc]))
  replace a1 : (upd K2a p2 (.lst ([.ref t1, .ref t2, .ref t3, .ref t4, .ref t5, .ref t6] ++ [.ref t7, .ref uc]))) p2 = some (.lst [.ref t1, .ref t2, .ref t3, .ref t4, .ref t5, .ref t6, .ref t7, .ref uc]) := upd_same
  replace W := W.same cp2
  replace e0 := e0.trans cp2
  generalize upd K2a p2 (.lst ([.ref t1, .ref t2, .ref t3, .ref t4, .ref t5, .ref t6] ++ [.ref t7, .ref uc])) = K2 at W e0 a1 ⊢
  refine ⟨_, rfl, ?_⟩
  refine ⟨sz2, fun w1a hw1a => ?_⟩
  have cw1a := same_new hw1a (.tup [.int (0), .int 1])
  have rw1a : Rq K (upd K2 w1a (.tup [.int (0), .int 1])) (.ref w1a) (0 : Rat) := rq_new (0) 1 _ (by decide +kernel) (by decide +kernel)
  replace W := W.same cw1a
  replace e0 := e0.trans cw1a
  replace a1 := cw1a _ _ a1
  generalize upd K2 w1a (.tup [.int (0), .int 1]) = K3a at W e0 a1 rw1a ⊢
  refine ⟨sz2, fun w1b hw1b => ?_⟩
  have cw1b := same_new hw1b (.tup [.int (0), .int 1])
  have rw1b : Rq K (upd K3a w1b (.tup [.int (0), .int 1])) (.ref w1b) (0 : Rat) := rq_new (0) 1 _ (by decide +kernel) (by decide +kernel)
  replace W := W.same cw1b
  replace e0 := e0.trans cw1b
  replace a1 := cw1b _ _ a1
  replace rw1a := rw1a.same cw1b
  generalize upd K3a w1b (.tup [.int (0), .int 1]) = K3b at W e0 a1 rw1a rw1b ⊢
  refine ⟨sz2, fun w1c hw1c => ?_⟩
  have cw1c := same_new hw1c (.tup [.ref w1a, .ref w1b])
  replace W := W.tup hw1c rw1a rw1b (by decide +kernel) (by decide +kernel)
  replace e0 := e0.trans cw1c
  replace a1 := cw1c _ _ a1
  generalize upd K3b w1c (.tup [.ref w1a, .ref w1b]) = K3 at W e0 a1 ⊢
  clear rw1a rw1b cw1a cw1b cw1c hw1a hw1b hw1c
  refine ⟨sz2, fun w2a hw2a => ?_⟩
  have cw2a := same_new hw2a (.tup [.int (2), .int 1])
  have rw2a : Rq K (upd K3 w2a (.tup [.int (2), .int 1])) (.ref w2a) (2 : Rat) := rq_new (2) 1 _ (by decide +kernel) (by decide +kernel)
  replace W := W.same cw2a
  replace e0 := e0.trans cw2a
  replace a1 := cw2a _ _ a1
  generalize upd K3 w2a (.tup [.int (2), .int 1]) = K4a at W e0 a1 rw2a ⊢
  refine ⟨_, rfl, sz2, fun w2b hw2b => ?_⟩
  have cw2b := same_new hw2b (.tup [.int (-2), .int 1])
  have rw2b : Rq K (upd K4a w2b (.tup [.int (-2), .int 1])) (.ref w2b) (-2 : Rat) := rq_new (-2) 1 _ (by decide +kernel) (by decide +kernel)
  replace W := W.same cw2b
  replace e0 := e0.trans cw2b
  replace a1 := cw2b _ _ a1
  replace rw2a := rw2a.same cw2b
  generalize upd K4a w2b (.tup [.int (-2), .int 1]) = K4b at W e0 a1 rw2a rw2b ⊢
  refine ⟨sz2, fun w2c hw2c => ?_⟩
  have cw2c := same_new hw2c (.tup [.ref w2a, .ref w2b])
  replace W := W.tup hw2c rw2a rw2b (by decide +kernel) (by decide +kernel)
  replace e0 := e0.trans cw2c
  replace a1 := cw2c _ _ a1
  generalize upd K4b w2c (.tup [.ref w2a, .ref w2b]) = K4 at W e0 a1 ⊢
  clear rw2a rw2b cw2a cw2b cw2c hw2a hw2b hw2c
  refine ⟨sz2, fun p3n hp3n => ?_⟩
  have cp3n := same_new hp3n (.lst [.ref w1c, .ref w2c])
  have bp3 : (upd K4 p3n (.lst [.ref w1c, .ref w2c])) p3n = some (.lst [.ref w1c, .ref w2c]) := upd_same
  replace W := W.same cp3n
  replace e0 := e0.trans cp3n
  replace a1 := cp3n _ _ a1
  generalize upd K4 p3n (.lst [.ref w1c, .ref w2c]) = K5a at W e0 a1 bp3 ⊢
  refine ⟨p2, p3n, _, _, rfl, rfl, a1, bp3, by show 10 ≤ sizeLine; decide, fun p3 hp3 => ?_⟩
  have cp3 := same_new hp3 (.lst ([.ref t1, .ref t2, .ref t3, .ref t4, .ref t5, .ref t6, .ref t7, .ref uc] ++ [.ref w1c, .ref w2c]))
  replace a1 : (upd K5a p3 (.lst ([.ref t1, .ref t2, .ref t3, .ref t4, .ref t5, .ref t6, .ref t7, .ref uc] ++ [.ref w1c, .ref w2c]))) p3 = some (.lst [.ref t1, .ref t2, .ref t3, .ref t4, .ref t5, .ref t6, .ref t7, .ref uc, .ref w1c, .ref w2c]) := upd_same
  replace W := W.same cp3
  replace e0 := e0.trans cp3
  generalize upd K5a p3 (.lst ([.ref t1, .ref t2, .ref t3, .ref t4, .ref t5, .ref t6, .ref t7, .ref uc] ++ [.ref w1c, .ref w2c])) = K5 at W e0 a1 ⊢
  have hitem : ∀ v ∈ ([.ref t1, .ref t2, .ref t3, .ref t4, .ref t5, .ref t6, .ref t7, .ref uc, .ref w1c, .ref w2c] : List V), Pr K K5 v := fun v hv => W.l v hv
  refine ⟨_, rfl, p3, rfl, ⟨_, SqL.of a1⟩, for_list (K := K) (a := p3) (xs := [.ref t1, .ref t2, .ref t3, .ref t4, .ref t5, .ref t6, .ref t7, .ref uc, .ref w1c, .ref w2c]) (fun i σ G => ∃ k6, σ = [some (.ref a), some x, some y, some (.ref D), some (.ref tb), some (.ref p3), k6] ∧ Same K5 G)
    ⟨none, rfl, Same.refl _⟩ (fun i σ G _ h => by obtain ⟨_, _, s1⟩ := h; exact SqL.of (s1 _ _ a1)) ?_ ?_⟩
  · rintro i v σ G hv ⟨k6, rfl, fr⟩
    obtain ⟨t, u, w', p, q, rfl, ht, hu, hw, zp, zq⟩ := (hitem v (List.mem_of_getElem? hv)).same fr
    have Wg := W.same fr
    refine ⟨_, rfl, _, rfl, t, _, _, _, rfl, rfl, ht, at0 rfl, _, rfl, t, _, _, _, rfl, rfl, ht, at1 rfl, ?_⟩
    refine ⟨a, u, w', c, p, q, 245, 1912, 40, 60, rfl, Wg.c, hu, hw, cz, zp, zq, l1, by omega, by decide, by decide, fun b1 G1 f1 h1 => ?_⟩
    refine ⟨_, rfl, _, rfl, t, _, _, _, rfl, rfl, f1.sqt ht, at0 rfl, _, rfl, t, _, _, _, rfl, rfl, f1.sqt ht, at1 rfl, ?_⟩
    refine ⟨a, u, w', c, p, q, 245, 1912, 40, 60, rfl, Wg.c.same f1, hu.same f1, hw.same f1, cz, zp, zq, l1, by omega, by decide, by decide, fun b2 G2 f2 h2 => ?_⟩
    have eb : b2 = b1 := by
      cases b1 <;> cases b2
      · rfl
      · exact absurd (h1.mpr (h2.mp rfl)) (by decide)
      · exact absurd (h2.mpr (h1.mp rfl)) (by decide)
      · rfl
    subst eb
    exact .inr ⟨_, rfl, ⟨_, rfl, ifF rfl ⟨_, rfl, fr.trans (f1.trans f2)⟩⟩⟩
  · rintro σ G ⟨k6, rfl, fr⟩
    have Wg := W.same fr
    obtain ⟨xs', hxs', hc'⟩ := id Wg.c
    refine ⟨_, rfl, _, rfl, .inl ⟨_, _, .list (c.map dPc), rfl, .lst hxs' (all_dp hc'), .lst (SqL.of Wg.d) (all_dp Wg.al), tree_c l2, z _ (e0.trans fr)⟩⟩
end Vk

namespace Vk
open PySem L2 Vm Vl Vs
variable {l aZERO aONE CB CR CV fB fR : Addr} {P : Program} {w : World} {K : PySem.W.Frag} {mg : Str → Option Value} {base : Heap} {k : Nat} {f f1 f2 f3 f4 f5 f6 f7 f8 f9 : Addr} {fd fd1 fd2 fd3 fd4 fd5 fd6 fd7 fd8 fd9 : FuncData}
def spLR (K : PySem.W.Frag) (l : Addr) : Sp := fun vs H Q _ => ∃ (s : Addr) (x y : V) (lo top : Rat), vs = [.ref s, x, y] ∧ Sto l s H ∧ Rq K H x lo ∧ Rq K H y top ∧ Sz 11 lo ∧ Sz 11 top ∧ 0 < lo ∧ lo ≤ top ∧ ∀ H', Sto l s H' → Fr s H H' → Q (.bl true) H'
/-- the last piece changed: no longer within the bounds -/
theorem spoil {c : List Pc} {lo top : Rat} {q r : Pc} {n : Nat} (hn : c.length = n + 1) (hq : c[n]? = some q) (nj : NJ c) (ir : InR lo top c) (ok : Cok c) (h : (r.s = q.s ∧ r.v = q.v + mkRat 1 1000 ∧ 1 ≤ n) ∨ top < r.r ∨ r.r < lo) : ¬ RW (c.take n ++ [r]) lo top := by
  rintro ⟨h1, h2⟩
  have hl : (c.take n).length = n := by rw [List.length_take]; omega
  have hr : (c.take n ++ [r])[n]? = some r := by
    rw [List.getElem?_append_right (by omega), hl, Nat.sub_self]
    rfl
  rcases h with ⟨hs, hv, n1⟩ | h | h
  · obtain ⟨m, rfl⟩ : ∃ m, n = m + 1 := ⟨n - 1, by omega⟩
    have hp : c[m]? = some c[m] := List.getElem?_eq_getElem (by omega)
    have hp2 : (c.take (m + 1) ++ [r])[m]? = some c[m] := by
      rw [List.getElem?_append_left (by omega), List.getElem?_take_of_lt (by omega)]
      exact hp
    have j1 := jmp_if.mp (nj m _ q hp hq)
    have j2 := jmp_if.mp (h2 m _ r hp2 hr)
    rw [hs, hv] at j2
    have : (0 : Rat) < mkRat 1 1000 := by decide +kernel
    grind
  · have := (h1 n r hr).2; grind
  · have := (h1 n r hr).1; grind
theorem cutV_take {xs : List V} {n : Nat} (h : n ≤ xs.length) : cutV xs none (some (n : Int)) = xs.take n := by
  unfold cutV
  rw [HT.sIx_none, HT.sIx_nat, Nat.min_eq_left h]
  simp
/-- an end of the long course: kept or spoilt -/
def Spt (K : PySem.W.Frag) (q : Pc) (n : Nat) (lo top : Rat) (H : Hp) (v : V) : Prop := ∃ r : Pc, Pq K H v r ∧ Sz 245 r.s ∧ Sz 1912 r.v ∧ Sz 40 r.r ∧ ((r.s = q.s ∧ r.v = q.v + mkRat 1 1000 ∧ 1 ≤ n) ∨ top < r.r ∨ r.r < lo)
theorem Spt.same {q : Pc} {n : Nat} {lo top : Rat} {H H' : Hp} {v : V} (h : Spt K q n lo top H v) (e : Same H H') : Spt K q n lo top H' v := by
  obtain ⟨r, h, g⟩ := h
  exact ⟨r, h.same e, g⟩
abbrev s__law_long_right : Stmt := top 84
abbrev N__law_long_right : List Str := ["_law_store_here", "_law_lo", "_law_top", "_law_course_here", "_law_last", "_law_bit", "_law_ends", "_law_piece"]
theorem sc__law_long_right : FnScope N__law_long_right ["_law_store_here", "_law_lo", "_law_top"] (defScope s__law_long_right) := ⟨rfl, rfl, rfl, by decide +kernel, rfl, by decide +kernel, by decide +kernel⟩
abbrev ps__law_long_right : List Str := ["_law_store_here", "_law_lo", "_law_top"]
set_option maxHeartbeats 1000000 in
theorem ok_long (T : Bn mg) (F : Fn K mg "_law_long_right" s__law_long_right ps__law_long_right f fd) (d_law_steady : Def P w K mg base k "_law_steady" ["_law_store_here", "_law_lo", "_law_top", "_law_many"] (spSteady K l) f1 fd1) (d_law_pick : Def P w K mg base k "_law_pick" ["_law_store_here", "_law_things"] (spPick K l) f2 fd2)
    (druns_within : Def P w K mg base k "runs_within" ["course", "slow", "fast"] (spRW K) f3 fd3) (d_law_plus : Def P w K mg base k "_law_plus" ["_law_a", "_law_b"] (spOp2 K (· + ·)) f4 fd4) (d_law_minus : Def P w K mg base k "_law_minus" ["_law_a", "_law_b"] (spOp2 K (· - ·)) f5 fd5) :
    Def P w K mg base (k + 1) "_law_long_right" ps__law_long_right (spLR K l) f fd := by
  refine ⟨F.F.ok sc__law_long_right (fun vs H Q E h => ?_) (fun cdv A outer s H vs Q E hr h => ?_), F.m, F.F.kp, F.b⟩
  · obtain ⟨_, _, _, _, _, rfl, _⟩ := h
    rfl
  obtain ⟨s, x, y, lo, top, rfl, hS, hx, hy, zl, zt, pl, lt, z⟩ := h
  refine ⟨_, (pss_cons (ps_set (i := 3) sc__law_long_right.nd rfl (Or.inl rfl) (pcall d_law_steady hr (pa_cons (pv 0) (pa_cons (pv 1) (pa_cons (pv 2) (pa_cons (pcall d_law_pick hr (pa_cons (pv 0) (pa_cons (pe_lst (pa_cons pe_int (pa_cons pe_int (pa_cons pe_int (pa_cons pe_int pa_nil))))) pa_nil))) pa_nil))))))
      (pss_cons (ps_set (i := 4) sc__law_long_right.nd rfl (Or.inl rfl) (pe_ix ix_list (pv 3) (pe_op op_sub (pe_callB call_len_seq (by rfl) T.len_ PySem.boot_len (pa_cons (pv 3) pa_nil)) pe_int) (fun _ _ => rfl)))
      (pss_cons (ps_set (i := 5) sc__law_long_right.nd rfl (Or.inl rfl) (pe_tup (pa_cons pe_int (pa_cons pe_int pa_nil))))
      (pss_cons (ps_if (pt_cmpR op_isnotB (pcall druns_within hr (pa_cons (pv 3) (pa_cons (pv 1) (pa_cons (pv 2) pa_nil)))) pe_bl (nomark _))
        (pss_one (ps_ret pe_bl))
        pss_nil)
      (pss_cons (ps_set (i := 6) sc__law_long_right.nd rfl (Or.inl rfl) (pe_lst (pa_cons (pe_tup (pa_cons (pe_ix ix_tup (pv 4) pe_int (fun _ _ => rfl)) (pa_cons (pcall d_law_plus hr (pa_cons (pe_ix ix_tup (pv 4) pe_int (fun _ _ => rfl)) (pa_cons (pv 5) pa_nil))) (pa_cons (pe_ix ix_tup (pv 4) pe_int (fun _ _ => rfl)) pa_nil)))) (pa_cons (pe_tup (pa_cons (pe_ix ix_tup (pv 4) pe_int (fun _ _ => rfl)) (pa_cons (pe_ix ix_tup (pv 4) pe_int (fun _ _ => rfl)) (pa_cons (pcall d_law_plus hr (pa_cons (pv 2) (pa_cons (pv 5) pa_nil))) pa_nil)))) pa_nil))))
      (pss_cons (ps_for PassesOwn.never rfl (pi_list (pe_op op_cat (pv 6) (pe_lst (pa_cons (pe_tup (pa_cons (pe_ix ix_tup (pv 4) pe_int (fun _ _ => rfl)) (pa_cons (pe_ix ix_tup (pv 4) pe_int (fun _ _ => rfl)) (pa_cons (pcall d_law_minus hr (pa_cons (pv 1) (pa_cons (pv 5) pa_nil))) pa_nil)))) pa_nil)))) (pg_name (i := 7) sc__law_long_right.nd rfl (Or.inl rfl))
        (pss_one (ps_if (pt_cmpR op_isnotB (pcall druns_within hr (pa_cons (pe_op op_cat (pe_slice sl_list (pv 3) po_none (po_some (pe_op op_sub (pe_callB call_len_seq (by rfl) T.len_ PySem.boot_len (pa_cons (pv 3) pa_nil)) pe_int))) (pe_lst (pa_cons (pv 7) pa_nil))) (pa_cons (pv 1) (pa_cons (pv 2) pa_nil)))) pe_bl (nomark _))
          (pss_one (ps_ret pe_bl))
          pss_nil)))
      (pss_one (ps_ret pe_bl)))))))), ?_⟩
  refine ⟨_, rfl, _, rfl, _, rfl, _, rfl, by show 4 ≤ sizeLine; decide, fun p hp => ?_⟩
  have cp := same_new hp (.lst [.int 40, .int 40, .int 33, .int 21])
  refine ⟨s, p, _, rfl, hS.same cp, hS.ne hp, SqL.of upd_same, (by show 0 < 4; decide), (by show 4 < 2 ^ 32; decide), fun vm H1 hv S1 e1 => ?_⟩
  obtain ⟨many, rfl, m1, m2⟩ : ∃ m : Nat, vm = .int m ∧ 21 ≤ m ∧ m ≤ 40 := by
    simp only [List.mem_cons, List.mem_nil_iff, or_false] at hv
    rcases hv with rfl | rfl | rfl | rfl
    · exact ⟨40, rfl, by decide, by decide⟩
    · exact ⟨40, rfl, by decide, by decide⟩
    · exact ⟨33, rfl, by decide, by decide⟩
    · exact ⟨21, rfl, by decide, by decide⟩
  have hs := (hS.same cp).some
  replace hx := (hx.same cp).fr e1 hs
  replace hy := (hy.same cp).fr e1 hs
  have e01 : Fr s H H1 := (Fr.of cp).trans e1
  refine ⟨s, x, y, lo, top, many, rfl, S1, hx, hy, zl, zt, pl, lt, m2, fun D us c H2 B hl ok cz ir nj => ?_⟩
  have e2 := B.2.1
  have S2 := B.1
  replace hx := hx.fr e2 S1.some
  replace hy := hy.fr e2 S1.some
  have e02 := e01.trans e2
  have hD := B.at
  have hA := B.all
  have hul := B.len
  clear B e1 e2 S1 cp hp hv hS e01
  obtain ⟨n, en⟩ : ∃ n, c.length = n + 1 := ⟨c.length - 1, by omega⟩
  have hq : c[n]? = some c[n] := List.getElem?_eq_getElem (by omega)
  obtain ⟨q, eq⟩ : ∃ q, q = c[n] := ⟨_, rfl⟩
  rw [← eq] at hq
  obtain ⟨xq, hxq, pq⟩ := hA.at hq
  obtain ⟨qa, qs, qv, qr, rfl, hqa, r1, r2, r3⟩ := pq
  obtain ⟨zq1, zq2, zq3⟩ := cz q (List.mem_of_getElem? hq)
  have czc : Cz 245 1912 40 c := fun p hp => by
    obtain ⟨a, b, d⟩ := cz p hp
    exact ⟨a.mono (by omega), b.mono (by omega), d⟩
  refine ⟨_, rfl, _, rfl, D, _, rfl, .inl (SqL.of hD), _, _, rfl, rfl, D, _, _, _, rfl, rfl, SqL.of hD, at_of (j := n) (by omega) hxq, ?_⟩
  have zb : Sz 10 (mkRat 1 1000) := by decide +kernel
  have b0 : (0 : Rat) < mkRat 1 1000 := by decide +kernel
  have l1 : 1 ≤ c.length := by omega
  have l2 : c.length ≤ 900 := by omega
  refine ⟨sz2, fun tb htb => ?_⟩
  have cb := same_new htb (.tup [.int 1, .int 1000])
  have rb : Rq K (upd H2 tb (.tup [.int 1, .int 1000])) (.ref tb) (mkRat 1 1000) := rq_new 1 1000 _ (by decide +kernel) (by decide +kernel)
  replace hx := hx.same cb; replace hy := hy.same cb; replace hD := cb _ _ hD; replace hA := hA.imp fun _ _ h => h.same cb
  replace hqa := cb.sqt hqa; replace r1 := r1.same cb; replace r2 := r2.same cb; replace r3 := r3.same cb
  replace S2 := S2.same cb; replace e02 := e02.trans (Fr.of cb)
  generalize upd H2 tb (.tup [.int 1, .int 1000]) = H3 at rb hx hy hD hA hqa r1 r2 r3 S2 e02 ⊢
  clear cb htb
  refine ⟨_, rfl, _, rfl, _, rfl, D, x, y, c, lo, top, 245, 1912, 40, 11, rfl, ⟨us, SqL.of hD, hA⟩, hx, hy, czc, zl, zt, l1, l2, by decide, by decide, fun b G e h => ?_⟩
  have bt : b = true := h.mpr ⟨fun i p hp => ir p (List.mem_of_getElem? hp), nj⟩
  subst bt
  refine ⟨_, _, rfl, rfl, _, rfl, ifF (by decide) ?_⟩
  replace rb := rb.same e; replace hx := hx.same e; replace hy := hy.same e; replace hD := e _ _ hD; replace hA := hA.imp fun _ _ h => h.same e
  replace hqa := e.sqt hqa; replace r1 := r1.same e; replace r2 := r2.same e; replace r3 := r3.same e
  replace S2 := S2.same e; replace e02 := e02.trans (Fr.of e)
  clear h e
  -- the ends
  refine ⟨_, rfl, qa, _, _, _, rfl, rfl, hqa, at0 rfl, _, rfl, qa, _, _, _, rfl, rfl, hqa, at1 rfl, _, rfl, qv, .ref tb, q.v, mkRat 1 1000, 1900, 10, rfl, r2, rb, zq2.mono (by omega), zb, by decide, fun vA G1 f1 rA => ?_⟩
  refine ⟨_, rfl, qa, _, _, _, rfl, rfl, f1.sqt hqa, at2 rfl, sm3, fun tA htA => ?_⟩
  have cA := same_new htA (.tup [qs, vA, qr])
  have g1 := f1.trans cA
  have pA : Spt K q n lo top (upd G1 tA (.tup [qs, vA, qr])) (.ref tA) := ⟨⟨q.s, q.v + mkRat 1 1000, q.r⟩, ⟨tA, qs, vA, qr, rfl, SqT.of upd_same, r1.same g1, Rq.same cA rA, r3.same g1⟩, zq1.mono (by omega), ((zq2.mono (by omega : _ ≤ 1900)).add zb).mono (by decide), zq3, .inl ⟨rfl, rfl, by omega⟩⟩
  generalize upd G1 tA (.tup [qs, vA, qr]) = G2 at g1 pA ⊢
  refine ⟨_, rfl, qa, _, _, _, rfl, rfl, g1.sqt hqa, at0 rfl, _, rfl, qa, _, _, _, rfl, rfl, g1.sqt hqa, at1 rfl, _, rfl, _, rfl, y, .ref tb, top, mkRat 1 1000, 11, 10, rfl, hy.same g1, rb.same g1, zt, zb, by decide, fun vB G3 f3 rB => ⟨sm3, fun tB htB => ?_⟩⟩
  have cB := same_new htB (.tup [qs, qv, vB])
  have g3 := f3.trans cB
  have g13 := g1.trans g3
  have pB : Spt K q n lo top (upd G3 tB (.tup [qs, qv, vB])) (.ref tB) := ⟨⟨q.s, q.v, top + mkRat 1 1000⟩, ⟨tB, qs, qv, vB, rfl, SqT.of upd_same, r1.same g13, r2.same g13, Rq.same cB rB⟩, zq1.mono (by omega), zq2.mono (by omega), (zt.add zb).mono (by decide), .inr (.inl (by show top < top + mkRat 1 1000; grind))⟩
  replace pA := pA.same g3
  generalize upd G3 tB (.tup [qs, qv, vB]) = G4 at g13 pA pB ⊢
  refine ⟨sz2, fun pe hpe => ?_⟩
  have ce := same_new hpe (.lst [.ref tA, .ref tB])
  have hE : (upd G4 pe (.lst [.ref tA, .ref tB])) pe = some (.lst [.ref tA, .ref tB]) := upd_same
  replace pA := pA.same ce; replace pB := pB.same ce
  replace g13 := g13.trans ce
  generalize upd G4 pe (.lst [.ref tA, .ref tB]) = G5 at g13 pA pB hE ⊢
  refine ⟨_, rfl, _, rfl, qa, _, _, _, rfl, rfl, g13.sqt hqa, at0 rfl, _, rfl, qa, _, _, _, rfl, rfl, g13.sqt hqa, at1 rfl, _, rfl, _, rfl, x, .ref tb, lo, mkRat 1 1000, 11, 10, rfl, hx.same g13, rb.same g13, zl, zb, by decide, fun vC G6 f6 rC => ⟨sm3, fun tC htC => ?_⟩⟩
  have cC := same_new htC (.tup [qs, qv, vC])
  have g6 := f6.trans cC
  have g16 := g13.trans g6
  have pC : Spt K q n lo top (upd G6 tC (.tup [qs, qv, vC])) (.ref tC) := ⟨⟨q.s, q.v, lo - mkRat 1 1000⟩, ⟨tC, qs, qv, vC, rfl, SqT.of upd_same, r1.same g16, r2.same g16, Rq.same cC rC⟩, zq1.mono (by omega), zq2.mono (by omega), (zl.sub zb).mono (by decide), .inr (.inr (by show lo - mkRat 1 1000 < lo; grind))⟩
  replace pA := pA.same g6; replace pB := pB.same g6; replace hE := g6 _ _ hE
  generalize upd G6 tC (.tup [qs, qv, vC]) = G7 at g16 pA pB pC hE ⊢
  refine ⟨sm1, fun pl hpl => ?_⟩
  have cl := same_new hpl (.lst [.ref tC])
  have hL : (upd G7 pl (.lst [.ref tC])) pl = some (.lst [.ref tC]) := upd_same
  replace pA := pA.same cl; replace pB := pB.same cl; replace pC := pC.same cl; replace hE := cl _ _ hE
  replace g16 := g16.trans cl
  generalize upd G7 pl (.lst [.ref tC]) = G8 at g16 pA pB pC hE hL ⊢
  refine ⟨pe, pl, _, _, rfl, rfl, hE, hL, sm3, fun pc hpc => ?_⟩
  have cc := same_new hpc (.lst ([.ref tA, .ref tB] ++ [.ref tC]))
  have hP : (upd G8 pc (.lst ([.ref tA, .ref tB] ++ [.ref tC]))) pc = some (.lst [.ref tA, .ref tB, .ref tC]) := upd_same
  replace pA := pA.same cc; replace pB := pB.same cc; replace pC := pC.same cc
  replace g16 := g16.trans cc
  generalize upd G8 pc (.lst ([.ref tA, .ref tB] ++ [.ref tC])) = G9 at g16 pA pB pC hP ⊢
  have items : ∀ v ∈ ([.ref tA, .ref tB, .ref tC] : List V), Spt K q n lo top G9 v := fun v hv => by
    simp only [List.mem_cons, List.mem_nil_iff, or_false] at hv
    rcases hv with rfl | rfl | rfl <;> assumption
  have hx9 := hx.same g16; have hy9 := hy.same g16; have hD9 := g16 _ _ hD; have hA9 := hA.imp fun _ _ h => h.same g16
  have S9 := S2.same g16; have e09 := e02.trans (Fr.of g16)
  refine ⟨pc, rfl, ⟨_, SqL.of hP⟩, for_list (K := K) (a := pc) (xs := [.ref tA, .ref tB, .ref tC]) (fun i σ G => ∃ k7, σ = [some (.ref s), some x, some y, some (.ref D), some (.ref qa), some (.ref tb), some (.ref pe), k7] ∧ Same G9 G)
    ⟨none, rfl, Same.refl _⟩ (fun i σ G _ h => by obtain ⟨_, _, s1⟩ := h; exact SqL.of (s1 _ _ hP)) ?_ ?_⟩
  · rintro i v σ G hv ⟨k7, rfl, fr⟩
    obtain ⟨r, pr, zr1, zr2, zr3, hr'⟩ := (items v (List.mem_of_getElem? hv)).same fr
    have hDg := fr _ _ hD9
    refine ⟨_, rfl, _, rfl, D, _, rfl, .inl (SqL.of hDg), _, _, rfl, rfl, _, rfl, D, _, rfl, SqL.of hDg, fun p1 hp1 => ?_⟩
    have en' : (((us.length : Nat) : Int) - 1) = (n : Int) := by omega
    rw [en', cutV_take (by omega)]
    have c1 := same_new hp1 (.lst (us.take n))
    have h1a : (upd G p1 (.lst (us.take n))) p1 = some (.lst (us.take n)) := upd_same
    generalize upd G p1 (.lst (us.take n)) = K1 at c1 h1a ⊢
    refine ⟨_, rfl, sm1, fun p2 hp2 => ?_⟩
    have c2 := same_new hp2 (.lst [v])
    have h2a : (upd K1 p2 (.lst [v])) p2 = some (.lst [v]) := upd_same
    have h1b := c2 _ _ h1a
    generalize upd K1 p2 (.lst [v]) = K2 at c2 h1b h2a ⊢
    have hz : (us.take n).length + [v].length ≤ sizeLine := by
      rw [List.length_take]
      have := le1000 (n := 41) (by decide)
      show min n us.length + 1 ≤ sizeLine
      omega
    refine ⟨p1, p2, _, _, rfl, rfl, h1b, h2a, hz, fun p3 hp3 => ?_⟩
    have c3 := same_new hp3 (.lst (us.take n ++ [v]))
    have h3a : (upd K2 p3 (.lst (us.take n ++ [v]))) p3 = some (.lst (us.take n ++ [v])) := upd_same
    have c13 := c1.trans (c2.trans c3)
    generalize upd K2 p3 (.lst (us.take n ++ [v])) = K3 at c13 h3a ⊢
    have hn : c.take n ++ [r] ≠ [] := by simp
    have hlen : (c.take n ++ [r]).length = n + 1 := by rw [List.length_append, List.length_take]; show min n c.length + 1 = n + 1; omega
    have hC3 : Cq K K3 p3 (c.take n ++ [r]) := ⟨_, SqL.of h3a, All2.append ((hA9.take n).imp fun _ _ h => (h.same fr).same c13) (All2.one (pr.same c13))⟩
    have cz3 : Cz 245 1912 40 (c.take n ++ [r]) := fun p hp => by
      rcases List.mem_append.mp hp with hp | hp
      · exact czc p (List.mem_of_mem_take hp)
      · rw [List.mem_singleton.mp hp]; exact ⟨zr1, zr2, zr3⟩
    refine ⟨_, rfl, _, rfl, p3, x, y, c.take n ++ [r], lo, top, 245, 1912, 40, 11, rfl, hC3, (hx9.same fr).same c13, (hy9.same fr).same c13, cz3, zl, zt, by omega, by omega, by decide, by decide, fun b G' e' h => ?_⟩
    have bf : b = false := by
      cases b
      · rfl
      · exact absurd (h.mp rfl) (spoil en hq nj ir ok hr')
    subst bf
    exact ⟨_, _, rfl, rfl, _, rfl, ifF (by decide) ⟨_, rfl, fr.trans (c13.trans e')⟩⟩
  · rintro σ G ⟨k7, rfl, fr⟩
    exact z G (S9.same fr) (e09.trans (Fr.of fr))
end Vk

namespace Vk
open PySem L2 Vm Vl Vs
variable {l aZERO aONE CB CR CV fB fR : Addr} {P : Program} {w : World} {K : PySem.W.Frag} {mg : Str → Option Value} {base : Heap} {k : Nat} {f f1 f2 f3 f4 f5 f6 f7 f8 f9 f10 f11 f12 : Addr} {fd fd1 fd2 fd3 fd4 fd5 fd6 fd7 fd8 fd9 fd10 fd11 fd12 : FuncData}
structure Kw (K : PySem.W.Frag) (l s D : Addr) (x y : V) (us : List V) (c : List Pc) (lo top : Rat) (H : Hp) : Prop where
  S : Sto l s H
  d : H D = some (.lst us)
  al : All2 (Pq K H) us c
  x : Rq K H x lo
  y : Rq K H y top
section
variable {s D : Addr} {x y : V} {us : List V} {c : List Pc} {lo top : Rat} {H H' : Hp}
theorem Kw.same (W : Kw K l s D x y us c lo top H) (e : Same H H') : Kw K l s D x y us c lo top H' := ⟨W.S.same e, e _ _ W.d, W.al.imp fun _ _ h => h.same e, W.x.same e, W.y.same e⟩
theorem Kw.fr (W : Kw K l s D x y us c lo top H) (e : Fr s H H') (S : Sto l s H') (n : D ≠ s) : Kw K l s D x y us c lo top H' := ⟨S, e _ _ W.d n, W.al.imp fun _ _ h => h.fr e W.S.some, W.x.fr e W.S.some, W.y.fr e W.S.some⟩
theorem Kw.cq (W : Kw K l s D x y us c lo top H) : Cq K H D c := ⟨us, SqL.of W.d, W.al⟩
end
def spBr (K : PySem.W.Frag) (l : Addr) : Sp := fun vs H Q _ => ∃ (s : Addr), vs = [.ref s] ∧ Sto l s H ∧ ∀ (v : V) H', Br K H' v → Sto l s H' → Fr s H H' → Q v H'
def spLaw (K : PySem.W.Frag) : Sp := fun vs H Q _ => ∃ (a : Addr) (ns : List Int), vs = [.ref a] ∧ SqL K H a (ns.map V.int) ∧ ns.length ≤ 63 ∧ ∀ H', Q (.bl true) H'
def dBad (q : Rat) : PyData := .tuple [.str "BadRate", dq q]
theorem tree_bad (q : Rat) : Tree 2 (dBad q) := .tup (by show 2 ≤ 1000; decide) fun d hd => by
  simp only [List.mem_cons, List.mem_nil_iff, or_false] at hd
  rcases hd with rfl | rfl
  · exact .str (by decide +kernel)
  · exact tree_dq 0 q
theorem dp_bad {H : Hp} {t : Addr} {y : V} {q : Rat} (ht : SqT K H t [.str "BadRate", y]) (hy : Rq K H y q) : Dp K H (.ref t) (dBad q) := .tup ht (.cons (.str _) (.cons hy.dp .nil))
abbrev s_law : Stmt := top 85
abbrev N_law : List Str := ["_law_script", "_law_store_here", "_law_lo", "_law_top", "_law_many", "_law_course_here", "_law_k", "_law_wrong", "_law_d", "_law_least", "_law_greatest"]
theorem sc_law : FnScope N_law ["_law_script"] (defScope s_law) := ⟨rfl, rfl, rfl, by decide +kernel, rfl, by decide +kernel, by decide +kernel⟩
abbrev ps_law : List Str := ["_law_script"]
set_option maxHeartbeats 1000000 in
theorem ok_law (T : Bn mg) (F : Fn K mg "law" s_law ps_law f fd) (d_law_store : Def P w K mg base k "_law_store" ["_law_script"] (spStore K) f1 fd1) (d_law_pace : ∀ l, Def P w K mg base k "_law_pace" ["_law_store_here"] (spDraw K l 5 posQ) f2 fd2) (d_law_plus : Def P w K mg base k "_law_plus" ["_law_a", "_law_b"] (spOp2 K (· + ·)) f3 fd3) (d_law_spare : ∀ l, Def P w K mg base k "_law_spare" ["_law_store_here"] (spDraw K l 5 nnQ) f4 fd4)
    (d_law_take : ∀ l, Def P w K mg base k "_law_take" ["_law_store_here", "_law_many"] (spTake K l) f5 fd5) (d_law_steady : ∀ l, Def P w K mg base k "_law_steady" ["_law_store_here", "_law_lo", "_law_top", "_law_many"] (spSteady K l) f6 fd6) (druns_within : Def P w K mg base k "runs_within" ["course", "slow", "fast"] (spRW K) f7 fd7)
    (d_law_bounds_right : Def P w K mg base k "_law_bounds_right" ["_law_course_here", "_law_lo", "_law_top"] (spBnd K) f8 fd8) (d_law_changed_course : ∀ l, Def P w K mg base k "_law_changed_course" ["_law_store_here", "_law_course_here"] (spChanged K l) f9 fd9) (d_law_course : ∀ l, Def P w K mg base k "_law_course" ["_law_store_here", "_law_many", "_law_fall"] (spCourse K l) f10 fd10)
    (d_law_long_right : ∀ l, Def P w K mg base k "_law_long_right" ["_law_store_here", "_law_lo", "_law_top"] (spLR K l) f11 fd11) (d_law_between_right : Def P w K mg base k "_law_between_right" ["_law_course_here", "_law_lo", "_law_top", "_law_one", "_law_other"] (spBet K) f12 fd12)
    {f13 f14 f15 f16 f17 f18 f19 f20 f21 : Addr} {fd13 fd14 fd15 fd16 fd17 fd18 fd19 fd20 fd21 : FuncData} (d_law_when : ∀ l, Def P w K mg base k "_law_when" ["_law_store_here", "_law_course_here"] (spWhen K l) f13 fd13) (d_law_bad_rates : ∀ l, Def P w K mg base k "_law_bad_rates" ["_law_store_here"] (spBr K l) f14 fd14) (d_law_pick : ∀ l, Def P w K mg base k "_law_pick" ["_law_store_here", "_law_things"] (spPick K l) f15 fd15)
    (d_law_part : ∀ l, Def P w K mg base k "_law_part" ["_law_store_here"] (spDraw K l 5 anyQ) f16 fd16) (d_law_ratio : ∀ l, Def P w K mg base k "_law_ratio" ["_law_store_here", "_law_top"] (spRatio K l) f17 fd17) (d_law_same : Def P w K mg base k "_law_same" ["_law_value", "_law_due"] (spSame K 2) f18 fd18) (d_law_told : Def P w K mg base k "_law_told" ["_law_d", "_law_lo", "_law_top"] (spTold K) f19 fd19)
    (d_law_elapsed_right : Def P w K mg base k "_law_elapsed_right" ["_law_d", "_law_lo", "_law_top", "_law_told_here"] (spER K) f20 fd20) (d_law_frac : Def P w K mg base k "_law_frac" ["_law_n", "_law_d"] (spFrac K) f21 fd21) : Def P w K mg base (k + 1) "law" ps_law (spLaw K) f fd := by
  have d_law_pace := Def.ex d_law_pace
  have d_law_spare := Def.ex d_law_spare
  have d_law_take := Def.ex d_law_take
  have d_law_steady := Def.ex d_law_steady
  have d_law_changed_course := Def.ex d_law_changed_course
  have d_law_course := Def.ex d_law_course
  have d_law_long_right := Def.ex d_law_long_right
  have d_law_when := Def.ex d_law_when
  have d_law_bad_rates := Def.ex d_law_bad_rates
  have d_law_pick := Def.ex d_law_pick
  have d_law_part := Def.ex d_law_part
  have d_law_ratio := Def.ex d_law_ratio
  refine ⟨F.F.ok sc_law (fun vs H Q E h => ?_) (fun cdv A outer s H vs Q E hr h => ?_), F.m, F.F.kp, F.b⟩
  · obtain ⟨_, _, rfl, _⟩ := h
    rfl
  obtain ⟨a, ns, rfl, hS, hl, z⟩ := h
  have pw : ∀ j : Int, 0 ≤ j → j ≤ 12 → 0 ≤ j ∧ j ≤ 1000000 ∧ (10 : Int).natAbs < 2 ^ 64 := fun j h1 h2 => ⟨h1, by omega, by decide⟩
  have p12 : (10 : Int) ^ (12 : Int).toNat = 1000000000000 := by decide
  have p6 : (10 : Int) ^ (6 : Int).toNat = 1000000 := by decide
  have p64 : (2 : Int) ^ 64 = 18446744073709551616 := by decide
  have p40 : (2 : Int) ^ 40 = 1099511627776 := by decide
  have p41 : (2 : Nat) ^ 41 = 2199023255552 := by decide
  refine ⟨_, (pss_cons (ps_set (i := 1) sc_law.nd rfl (Or.inl rfl) (pcall d_law_store hr (pa_cons (pv 0) pa_nil)))
      (pss_cons (ps_set (i := 2) sc_law.nd rfl (Or.inl rfl) (pcall d_law_pace hr (pa_cons (pv 1) pa_nil)))
      (pss_cons (ps_set (i := 3) sc_law.nd rfl (Or.inl rfl) (pcall d_law_plus hr (pa_cons (pv 2) (pa_cons (pcall d_law_spare hr (pa_cons (pv 1) pa_nil)) pa_nil))))
      (pss_cons (ps_set (i := 4) sc_law.nd rfl (Or.inl rfl) (pe_op op_add pe_int (pcall d_law_take hr (pa_cons (pv 1) (pa_cons pe_int pa_nil)))))
      (pss_cons (ps_if (pt_cmpR op_eq (pcall d_law_take hr (pa_cons (pv 1) (pa_cons pe_int pa_nil))) pe_int (nomark _))
        (pss_one (ps_set (i := 4) sc_law.nd rfl (Or.inl rfl) pe_int))
        pss_nil)
      (pss_cons (ps_set (i := 5) sc_law.nd rfl (Or.inl rfl) (pcall d_law_steady hr (pa_cons (pv 1) (pa_cons (pv 2) (pa_cons (pv 3) (pa_cons (pv 4) pa_nil))))))
      (pss_cons (ps_if (PW.pt (pw_or (pt_cmpR op_isnotB (pcall druns_within hr (pa_cons (pv 5) (pa_cons (pv 2) (pa_cons (pv 3) pa_nil)))) pe_bl (nomark _)) (pw_or1 (pt_not (pt_val (pcall d_law_bounds_right hr (pa_cons (pv 5) (pa_cons (pv 2) (pa_cons (pv 3) pa_nil)))))))))
        (pss_one (ps_ret pe_bl))
        pss_nil)
      (pss_cons (ps_if (pt_not (pt_val (pcall d_law_bounds_right hr (pa_cons (pcall d_law_changed_course hr (pa_cons (pv 1) (pa_cons (pv 5) pa_nil))) (pa_cons (pv 2) (pa_cons (pv 3) pa_nil))))))
        (pss_one (ps_ret pe_bl))
        pss_nil)
      (pss_cons (ps_if (pt_not (pt_val (pcall d_law_bounds_right hr (pa_cons (pcall d_law_course hr (pa_cons (pv 1) (pa_cons (pe_op op_add pe_int (pcall d_law_take hr (pa_cons (pv 1) (pa_cons pe_int pa_nil)))) (pa_cons pe_bl pa_nil)))) (pa_cons (pe_tup (pa_cons pe_int (pa_cons pe_int pa_nil))) (pa_cons (pe_tup (pa_cons pe_int (pa_cons pe_int pa_nil))) pa_nil))))))
        (pss_one (ps_ret pe_bl))
        pss_nil)
      (pss_cons (ps_if (pt_not (pt_val (pcall d_law_long_right hr (pa_cons (pv 1) (pa_cons (pv 2) (pa_cons (pv 3) pa_nil))))))
        (pss_one (ps_ret pe_bl))
        pss_nil)
      (pss_cons (ps_for PassesOwn.never rfl (pi_range1 (by rfl) T.range_ (pa_cons pe_int pa_nil)) (pg_name (i := 6) sc_law.nd rfl (Or.inl rfl))
        (pss_one (ps_if (pt_not (pt_val (pcall d_law_between_right hr (pa_cons (pv 5) (pa_cons (pv 2) (pa_cons (pv 3) (pa_cons (pcall d_law_when hr (pa_cons (pv 1) (pa_cons (pv 5) pa_nil))) (pa_cons (pcall d_law_when hr (pa_cons (pv 1) (pa_cons (pv 5) pa_nil))) pa_nil))))))))
          (pss_one (ps_ret pe_bl))
          pss_nil)))
      (pss_cons (ps_for PassesOwn.never rfl (pi_range1 (by rfl) T.range_ (pa_cons pe_int pa_nil)) (pg_name (i := 6) sc_law.nd rfl (Or.inl rfl))
        (pss_cons (ps_set (i := 7) sc_law.nd rfl (Or.inl rfl) (pcall d_law_bad_rates hr (pa_cons (pv 1) pa_nil)))
        (pss_cons (ps_set (i := 8) sc_law.nd rfl (Or.inl rfl) (pcall d_law_pick hr (pa_cons (pv 1) (pa_cons (pe_lst (pa_cons (pe_tup (pa_cons pe_int (pa_cons pe_int pa_nil))) (pa_cons (pcall d_law_part hr (pa_cons (pv 1) pa_nil)) (pa_cons (pcall d_law_ratio hr (pa_cons (pv 1) (pa_cons (pe_op op_sub (pe_op op_pow pe_int pe_int) pe_int) pa_nil))) pa_nil)))) pa_nil))))
        (pss_cons (ps_if (pt_not (pt_val (pcall d_law_same hr (pa_cons (pcall d_law_told hr (pa_cons (pv 8) (pa_cons (pe_ix ix_tup (pv 7) pe_int (fun _ _ => rfl)) (pa_cons (pe_ix ix_tup (pv 7) pe_int (fun _ _ => rfl)) pa_nil)))) (pa_cons (pe_ix ix_tup (pv 7) pe_int (fun _ _ => rfl)) pa_nil)))))
          (pss_one (ps_ret pe_bl))
          pss_nil)
        (pss_one (ps_if (pt_not (pt_val (pcall d_law_elapsed_right hr (pa_cons (pv 8) (pa_cons (pv 2) (pa_cons (pv 3) (pa_cons (pcall d_law_told hr (pa_cons (pv 8) (pa_cons (pv 2) (pa_cons (pv 3) pa_nil)))) pa_nil)))))))
          (pss_one (ps_ret pe_bl))
          pss_nil))))))
      (pss_cons (ps_set (i := 8) sc_law.nd rfl (Or.inl rfl) (pcall d_law_ratio hr (pa_cons (pv 1) (pa_cons (pe_op op_sub (pe_op op_pow pe_int pe_int) pe_int) pa_nil))))
      (pss_cons (ps_set (i := 9) sc_law.nd rfl (Or.inl rfl) (pcall d_law_frac hr (pa_cons (pe_op op_add pe_int (pcall d_law_take hr (pa_cons (pv 1) (pa_cons pe_int pa_nil)))) (pa_cons (pe_op op_add pe_int (pcall d_law_take hr (pa_cons (pv 1) (pa_cons (pe_op op_sub (pe_op op_pow pe_int pe_int) pe_int) pa_nil)))) pa_nil))))
      (pss_cons (ps_set (i := 10) sc_law.nd rfl (Or.inl rfl) (pcall d_law_frac hr (pa_cons (pe_op op_add (pe_op op_pow pe_int pe_int) (pcall d_law_take hr (pa_cons (pv 1) (pa_cons (pe_op op_sub (pe_op op_pow pe_int pe_int) (pe_op op_pow pe_int pe_int)) pa_nil)))) (pa_cons (pe_op op_add pe_int (pcall d_law_take hr (pa_cons (pv 1) (pa_cons pe_int pa_nil)))) pa_nil))))
      (pss_one (ps_ret (pcall d_law_elapsed_right hr (pa_cons (pv 8) (pa_cons (pv 9) (pa_cons (pv 10) (pa_cons (pcall d_law_told hr (pa_cons (pv 8) (pa_cons (pv 9) (pa_cons (pv 10) pa_nil)))) pa_nil)))))))))))))))))))))), ?_⟩
  refine ⟨_, rfl, a, ns, rfl, hS, hl, fun s l H1 e1 _ S1 => ?_⟩
  refine ⟨_, rfl, l, s, rfl, S1, fun x H2 qx S2 e2 => ?_⟩
  refine ⟨_, rfl, _, rfl, l, s, rfl, S2, fun vs H3 qs S3 e3 => ?_⟩
  obtain ⟨lo, rlo, zlo, (plo : 0 < lo)⟩ := qx.fr e3 S2
  obtain ⟨sq, rsq, zsq, (osq : 0 ≤ sq)⟩ := qs
  refine ⟨_, _, lo, sq, 5, 5, rfl, rlo, rsq, zlo, zsq, by decide, fun y H4 e4 rtop => ?_⟩
  have rtop : Rq K H4 y (lo + sq) := rtop
  have ztop : Sz 11 (lo + sq) := zlo.add zsq
  have lt : lo ≤ lo + sq := by grind
  generalize lo + sq = top at rtop ztop lt
  have S4 := S3.same e4
  replace rlo := rlo.same e4
  refine ⟨_, rfl, l, s, 5, rfl, S4, by decide, fun r5 H5 r50 r51 S5 e5 => ⟨_, _, rfl, rfl, ?_⟩⟩
  replace rlo := rlo.fr e5 S4.some
  replace rtop := rtop.fr e5 S4.some
  dsimp only [gName]
  refine cut (fun σ' G => ∃ m : Nat, σ' = [some (.ref a), some (.ref s), some x, some y, some (.int m), none, none, none, none, none, none] ∧ 1 ≤ m ∧ m ≤ 12 ∧ Sto l s G ∧ Rq K G x lo ∧ Rq K G y top) ?_ ?_
  · rintro σ H6 ⟨m, rfl, m1, m2, S6, rx, ry⟩
    refine ⟨_, rfl, _, rfl, _, rfl, _, rfl, l, s, x, y, lo, top, m, rfl, S6, rx, ry, zlo.mono (by decide), ztop, plo, lt, by omega, fun D us c H7 B hl ok cz ir nj => ?_⟩
    have nDs := B.2.2.1
    have W : Kw K l s D x y us c lo top H7 := ⟨B.1, B.at, B.all, rx.fr B.2.1 S6.some, ry.fr B.2.1 S6.some⟩
    have czw : Cz 77 569 40 c := fun p hp => by
      obtain ⟨a, b, d⟩ := cz p hp
      exact ⟨a.mono (by omega), b.mono (by omega), d⟩
    have cz1 : Cz 245 1900 40 c := fun p hp => by
      obtain ⟨a, b, d⟩ := czw p hp
      exact ⟨a.mono (by decide), b.mono (by decide), d⟩
    have cz2 : Cz 245 1912 40 c := fun p hp => by
      obtain ⟨a, b, d⟩ := czw p hp
      exact ⟨a.mono (by decide), b.mono (by decide), d⟩
    clear B cz rx ry S6 rlo rtop S5 S4 e5 e4 e3 e2 e1
    have l1 : 1 ≤ c.length := by omega
    refine ⟨_, rfl, _, rfl, _, rfl, D, x, y, c, lo, top, 245, 1912, 40, 11, rfl, W.cq, W.x, W.y, cz2, zlo.mono (by decide), ztop, l1, by omega, by decide, by decide, fun b G e h => ?_⟩
    have bt : b = true := h.mpr ⟨fun i p hp => ir p (List.mem_of_getElem? hp), nj⟩
    subst bt
    refine ⟨_, _, rfl, rfl, _, rfl, ifF (by decide) ?_⟩
    replace W := W.same e
    clear h e
    refine ⟨_, rfl, _, rfl, _, rfl, D, x, y, c, lo, top, rfl, W.cq, W.x, W.y, cz2, zlo.mono (by decide), ztop.mono (by decide), l1, by omega, fun G1 e1 => ⟨_, rfl, ifF rfl ?_⟩⟩
    replace W := W.same e1
    -- the changed course
    refine ⟨_, rfl, _, rfl, l, s, D, c, rfl, W.S, nDs, W.cq, cz1, l1, by omega, fun D2 us2 c2 G2 B2 hl2 cz2' => ?_⟩
    have W2 := W.fr B2.2.1 B2.1 nDs
    refine ⟨_, rfl, _, rfl, D2, x, y, c2, lo, top, rfl, ⟨us2, SqL.of B2.at, B2.all⟩, W2.x, W2.y, cz2', zlo.mono (by decide), ztop.mono (by decide), by omega, by omega, fun G3 e3 => ⟨_, rfl, ifF rfl ?_⟩⟩
    replace W := W2.same e3
    clear W2 B2
    -- any course
    refine ⟨_, rfl, _, rfl, l, s, 4, rfl, W.S, by decide, fun r7 G4 r70 r71 S4 e4 => ⟨_, _, rfl, rfl, ?_⟩⟩
    replace W := W.fr e4 S4 nDs
    obtain ⟨n7, hn7⟩ : ∃ n : Nat, (n : Int) = 1 + r7 := ⟨(1 + r7).toNat, by omega⟩
    refine ⟨l, s, n7, true, by rw [hn7]; rfl, W.S, by omega, fun D3 us3 c3 G5 B3 hl3 ok3 cz3 => ?_⟩
    have W3 := W.fr B3.2.1 B3.1 nDs
    have hC3 : Cq K G5 D3 c3 := ⟨us3, SqL.of B3.at, B3.all⟩
    clear B3
    refine ⟨sz2, fun t1 h1 => ?_⟩
    have k1 := same_new h1 (.tup [.int 1, .int 1])
    have q1 : Rq K (upd G5 t1 (.tup [.int 1, .int 1])) (.ref t1) 1 := rq_new 1 1 _ (by decide +kernel) (by decide +kernel)
    replace W := W3.same k1
    replace hC3 := hC3.same k1
    generalize upd G5 t1 (.tup [.int 1, .int 1]) = G6 at W hC3 q1 ⊢
    refine ⟨sz2, fun t2 h2 => ?_⟩
    have k2 := same_new h2 (.tup [.int 2, .int 1])
    have q2 : Rq K (upd G6 t2 (.tup [.int 2, .int 1])) (.ref t2) 2 := rq_new 2 1 _ (by decide +kernel) (by decide +kernel)
    replace W := W.same k2
    replace hC3 := hC3.same k2
    replace q1 := q1.same k2
    generalize upd G6 t2 (.tup [.int 2, .int 1]) = G7 at W hC3 q1 q2 ⊢
    refine ⟨D3, .ref t1, .ref t2, c3, 1, 2, rfl, hC3, q1, q2, fun p hp => ?_, by decide +kernel, by decide +kernel, by omega, by omega, fun G8 e8 => ⟨_, rfl, ifF rfl ?_⟩⟩
    · obtain ⟨a, b, d⟩ := cz3 p hp
      exact ⟨a, b.mono (by decide), d.mono (by decide)⟩
    replace W := W.same e8
    clear q1 q2 hC3 e8 k1 k2 h1 h2 W3 ok3 cz3
    -- the long course
    refine ⟨_, rfl, _, rfl, _, rfl, l, s, x, y, lo, top, rfl, W.S, W.x, W.y, zlo.mono (by decide), ztop, plo, lt, fun G9 S9 e9 => ⟨_, rfl, ifF rfl ?_⟩⟩
    replace W := W.fr e9 S9 nDs
    clear e9 S9
    obtain ⟨p0, hp0⟩ : ∃ p, c[0]? = some p := ⟨_, List.getElem?_eq_getElem (by omega)⟩
    refine ⟨4, rfl, by decide, by decide, for_range (n := 4) (fun i σ G => ∃ k6, σ = [some (.ref a), some (.ref s), some x, some y, some (.int m), some (.ref D), k6, none, none, none, none] ∧ Kw K l s D x y us c lo top G) ⟨none, rfl, W⟩ ?_ ?_⟩
    · rintro i σ G hi ⟨k6, rfl, W⟩
      refine ⟨_, rfl, _, rfl, _, rfl, _, rfl, _, rfl, l, s, D, c, rfl, W.S, nDs, W.cq, czw, ok, l1, by omega, fun v1 q1 K1 r1 z1 f1 S1 e1 => ?_⟩
      have W1 := W.fr e1 S1 nDs
      refine ⟨_, rfl, _, rfl, l, s, D, c, rfl, W1.S, nDs, W1.cq, czw, ok, l1, by omega, fun v2 q2 K2 r2 z2 f2 S2 e2 => ?_⟩
      have W2 := W1.fr e2 S2 nDs
      refine ⟨D, x, y, v1, v2, c, lo, top, q1, q2, rfl, W2.cq, W2.x, W2.y, r1.fr e2 S1.some, r2, czw, ok, nj, ir, zlo.mono (by decide), ztop.mono (by decide), z1, z2, plo, lt, by omega, ⟨p0, hp0, f1 p0 hp0, f2 p0 hp0⟩, fun K3 e3 => ⟨_, rfl, ifF rfl ⟨_, rfl, W2.same e3⟩⟩⟩
    rintro σ G ⟨k6, rfl, W⟩
    refine ⟨2, rfl, by decide, by decide, for_range (n := 2) (fun i σ G => ∃ k6 k7 k8, σ = [some (.ref a), some (.ref s), some x, some y, some (.int m), some (.ref D), k6, k7, k8, none, none] ∧ Kw K l s D x y us c lo top G) ⟨k6, none, none, rfl, W⟩ ?_ ?_⟩
    · rintro i σ G hi ⟨k6, k7, k8, rfl, W⟩
      refine ⟨_, rfl, l, s, rfl, W.S, fun vb G1 br S1 e1 => ?_⟩
      have W1 := W.fr e1 S1 nDs
      obtain ⟨tb, bx, by', bt, bu, bs, bd, rfl, h1, h2, h3, h4, z3, z4, wh⟩ := br
      refine ⟨_, rfl, sz2, fun t0 ht0 => ?_⟩
      have k0 := same_new ht0 (.tup [.int 0, .int 1])
      have q0 : Qd K 41 anyQ (upd G1 t0 (.tup [.int 0, .int 1])) (.ref t0) := Qd.new 0 1 0 (by decide +kernel) (by decide +kernel) (by decide +kernel) trivial
      replace W1 := W1.same k0
      replace h1 := k0.sqt h1; replace h2 := k0.sqt h2; replace h3 := h3.same k0; replace h4 := h4.same k0
      generalize upd G1 t0 (.tup [.int 0, .int 1]) = G2 at W1 h1 h2 h3 h4 q0 ⊢
      refine ⟨_, rfl, l, s, rfl, W1.S, fun vp G3 qp S3 e3 => ?_⟩
      have W3 := W1.fr e3 S3 nDs
      replace q0 := q0.fr e3 W1.S
      have hs1 := W1.S.some
      replace h1 := sqt_fr e3 hs1 h1; replace h2 := sqt_fr e3 hs1 h2; replace h3 := h3.fr e3 hs1; replace h4 := h4.fr e3 hs1
      refine ⟨_, rfl, _, _, rfl, rfl, pw 12 (by decide) (by decide), _, _, rfl, rfl, l, s, _, rfl, W3.S, by rw [p12]; decide, by rw [p12]; decide, fun vr G4 qr S4 e4 => ?_⟩
      have W4 := W3.fr e4 S4 nDs
      replace q0 := q0.fr e4 W3.S
      replace qp := qp.fr e4 W3.S
      have hs3 := W3.S.some
      replace h1 := sqt_fr e4 hs3 h1; replace h2 := sqt_fr e4 hs3 h2; replace h3 := h3.fr e4 hs3; replace h4 := h4.fr e4 hs3
      refine ⟨sm3, fun p hp => ?_⟩
      have cp := same_new hp (.lst [.ref t0, vp, vr])
      have W5 := W4.same cp
      have i0 := q0.same cp
      have i1 := (qp.same cp).imp (show 5 ≤ 41 by decide) fun _ h => h
      have i2 := (qr.same cp).imp (show 40 ≤ 41 by decide) fun _ h => h
      refine ⟨l, s, p, _, rfl, W5.S, W4.S.ne hp, SqL.of upd_same, (by show 0 < 3; decide), (by show 3 < 2 ^ 32; decide), fun vd G5 hv S5 e5 => ?_⟩
      have qd : Qd K 41 anyQ G5 vd := by
        refine Qd.fr e5 W5.S ?_
        simp only [List.mem_cons, List.mem_nil_iff, or_false] at hv
        rcases hv with rfl | rfl | rfl <;> assumption
      have W6 := W5.fr e5 S5 nDs
      have hs5 := W5.S.some
      replace h1 := sqt_fr e5 hs5 (cp.sqt h1); replace h2 := sqt_fr e5 hs5 (cp.sqt h2); replace h3 := (h3.same cp).fr e5 hs5; replace h4 := (h4.same cp).fr e5 hs5
      obtain ⟨dq', rd, zd, _⟩ := qd
      clear q0 qp qr i0 i1 i2 cp hp hv W5 W4 W3 W1 W e1 e3 e4 e5 S1 S3 S4 S5 hs1 hs3 hs5
      -- the refusal
      refine ⟨_, rfl, _, rfl, tb, _, _, _, rfl, rfl, h1, at0 rfl, _, rfl, tb, _, _, _, rfl, rfl, h1, at1 rfl, ?_⟩
      have nxt : ∀ (t : Addr) (G' : Hp), Same G5 G' → SqT K G' t [.str "BadRate", bu] → ∃ d, Dp K G' (.ref t) d ∧ Dp K G' (.ref bt) d ∧ Tree 2 d := fun t G' e ht => by
        obtain ⟨qy, hqy⟩ : ∃ q, Rq K G' bu q := by
          rcases wh with ⟨_, e'⟩ | ⟨_, _, e'⟩
          · rw [e']; exact ⟨_, h3.same e⟩
          · rw [e']; exact ⟨_, h4.same e⟩
        exact ⟨dBad qy, dp_bad ht hqy, dp_bad (e.sqt h2) hqy, tree_bad qy⟩
      refine ⟨vd, bx, by', dq', bs, bd, 41, rfl, rd, h3, h4, zd.mono (by decide), z3.mono (by decide), z4.mono (by decide), by decide, fun c1 c2 => ?_, fun c1 t G' e ht => ?_, fun c1 c2 t G' e ht => ?_⟩
      · exfalso
        rcases wh with ⟨g, _⟩ | ⟨_, g, _⟩ <;> grind
      · have eu : bu = bx := by
          rcases wh with ⟨g, e'⟩ | ⟨g, g', e'⟩
          · exact e'
          · exfalso; grind
        rw [← eu] at ht
        obtain ⟨dd, dp1, dp2, tr⟩ := nxt t G' e ht
        refine ⟨_, rfl, tb, _, _, _, rfl, rfl, e.sqt h1, at2 rfl, ⟨_, _, dd, rfl, dp1, dp2, tr, ⟨_, rfl, ifF rfl ?_⟩⟩⟩
        have W7 := W6.same e
        have rd7 := rd.same e
        refine ⟨_, rfl, _, rfl, _, rfl, _, rfl, _, rfl, _, rfl, vd, x, y, dq', lo, top, 41, rfl, rd7, W7.x, W7.y, zd.mono (by decide), zlo.mono (by decide), ztop.mono (by decide), by decide, fun _ _ t' e' v' w' G7 s7 k1 k2 k3 k4 => ?_, fun c => absurd plo (Rat.not_lt.mpr c), fun _ c => absurd lt (Rat.not_le.mpr c)⟩
        have W8 := W7.same s7
        exact ⟨vd, x, y, t', dq', lo, top, rfl, rd7.same s7, W8.x, W8.y, ⟨⟨e', v', w', k1, k2, k3, k4⟩⟩, zd.mono (by decide), zlo.mono (by decide), ztop.mono (by decide), plo, lt, fun G8 e8 => ⟨_, rfl, ifF rfl ⟨_, _, _, rfl, W8.same e8⟩⟩⟩
      · have eu : bu = by' := by
          rcases wh with ⟨g, e'⟩ | ⟨g, g', e'⟩
          · exfalso; grind
          · exact e'
        rw [← eu] at ht
        obtain ⟨dd, dp1, dp2, tr⟩ := nxt t G' e ht
        refine ⟨_, rfl, tb, _, _, _, rfl, rfl, e.sqt h1, at2 rfl, ⟨_, _, dd, rfl, dp1, dp2, tr, ⟨_, rfl, ifF rfl ?_⟩⟩⟩
        have W7 := W6.same e
        have rd7 := rd.same e
        refine ⟨_, rfl, _, rfl, _, rfl, _, rfl, _, rfl, _, rfl, vd, x, y, dq', lo, top, 41, rfl, rd7, W7.x, W7.y, zd.mono (by decide), zlo.mono (by decide), ztop.mono (by decide), by decide, fun _ _ t' e' v' w' G7 s7 k1 k2 k3 k4 => ?_, fun c => absurd plo (Rat.not_lt.mpr c), fun _ c => absurd lt (Rat.not_le.mpr c)⟩
        have W8 := W7.same s7
        exact ⟨vd, x, y, t', dq', lo, top, rfl, rd7.same s7, W8.x, W8.y, ⟨⟨e', v', w', k1, k2, k3, k4⟩⟩, zd.mono (by decide), zlo.mono (by decide), ztop.mono (by decide), plo, lt, fun G8 e8 => ⟨_, rfl, ifF rfl ⟨_, _, _, rfl, W8.same e8⟩⟩⟩
    rintro σ G ⟨k6, k7, k8, rfl, W⟩
    have S0 := W.S
    clear W
    refine ⟨_, rfl, _, _, rfl, rfl, pw 12 (by decide) (by decide), _, _, rfl, rfl, l, s, _, rfl, S0, by rw [p12]; decide, by rw [p12]; decide, fun vd G1 qd S1 e1 => ?_⟩
    refine ⟨_, rfl, l, s, 1000, rfl, S1, by decide, fun r1 G2 r10 r11 S2 e2 => ⟨_, _, rfl, rfl, ?_⟩⟩
    refine ⟨_, rfl, _, _, rfl, rfl, pw 12 (by decide) (by decide), _, _, rfl, rfl, l, s, _, rfl, S2, by rw [p12]; decide, fun r2 G3 r20 r21 S3 e3 => ⟨_, _, rfl, rfl, ?_⟩⟩
    rw [p12] at r21
    refine ⟨1 + r1, 1000 + r2, 41, rfl, by omega, by omega, by omega, by decide, fun vl G4 e4 rl => ?_⟩
    have S4 := S3.same e4
    have zl : Sz 41 (mkRat (1 + r1) (1000 + r2).toNat) := sz_mk (by omega) (by omega) (by omega)
    have pl : 0 < mkRat (1 + r1) (1000 + r2).toNat := mk_pos (by omega) (by omega)
    have l1' : mkRat (1 + r1) (1000 + r2).toNat ≤ 1 := by
      have := qle (n := 1 + r1) (d := 1000 + r2) (m := 1) (e := 1) (by omega) (by decide) (by omega)
      rw [show mkRat 1 (1 : Int).toNat = 1 by decide +kernel] at this
      exact this
    generalize mkRat (1 + r1) (1000 + r2).toNat = ql at rl zl pl l1'
    refine ⟨_, _, rfl, rfl, pw 6 (by decide) (by decide), _, rfl, _, _, rfl, rfl, pw 12 (by decide) (by decide), _, _, rfl, rfl, pw 6 (by decide) (by decide), _, _, rfl, rfl, l, s, _, rfl, S4, by rw [p12, p6]; decide, fun r3 G5 r30 r31 S5 e5 => ⟨_, _, rfl, rfl, ?_⟩⟩
    rw [p12, p6] at r31
    refine ⟨_, rfl, l, s, 1000, rfl, S5, by decide, fun r4 G6 r40 r41 S6 e6 => ⟨_, _, rfl, rfl, ?_⟩⟩
    refine ⟨(10 : Int) ^ (6 : Int).toNat + r3, 1 + r4, 41, rfl, by omega, by rw [p6]; omega, by omega, by decide, fun vg G7 e7 rg => ?_⟩
    rw [p6] at rg
    have zg : Sz 41 (mkRat (1000000 + r3) (1 + r4).toNat) := sz_mk (by omega) (by omega) (by omega)
    have g1' : 1 ≤ mkRat (1000000 + r3) (1 + r4).toNat := by
      have := qle (n := 1) (d := 1) (m := 1000000 + r3) (e := 1 + r4) (by decide) (by omega) (by omega)
      rw [show mkRat 1 (1 : Int).toNat = 1 by decide +kernel] at this
      exact this
    generalize mkRat (1000000 + r3) (1 + r4).toNat = qg at rg zg g1'
    have lg : ql ≤ qg := by grind
    obtain ⟨qd', rd, zd, _⟩ := (((((qd.fr e2 S1).fr e3 S2).same e4).fr e5 S4).fr e6 S5).same e7
    have rl7 := ((Rq.fr e5 S4.some rl).fr e6 S5.some).same e7
    refine ⟨_, rfl, _, rfl, _, rfl, _, rfl, _, rfl, _, rfl, vd, vl, vg, qd', ql, qg, 41, rfl, rd, rl7, rg, zd.mono (by decide), zl, zg, by decide, fun _ _ t' e' v' w' G8 s8 k1 k2 k3 k4 => ?_, fun c => absurd pl (Rat.not_lt.mpr c), fun _ c => absurd lg (Rat.not_le.mpr c)⟩
    exact ⟨vd, vl, vg, t', qd', ql, qg, rfl, rd.same s8, rl7.same s8, Rq.same s8 rg, ⟨⟨e', v', w', k1, k2, k3, k4⟩⟩, zd.mono (by decide), zl, zg, pl, lg, fun G9 e9 => z _⟩
  · intro key
    refine ⟨_, rfl, l, s, 8, rfl, S5, by decide, fun r6 H6 _ _ S6 e6 => ⟨rfl, _, rfl, ifD (fun _ => ?_) (fun _ => ?_)⟩⟩
    · exact key _ _ ⟨12, rfl, by decide, by decide, S6, rlo.fr e6 S5.some, rtop.fr e6 S5.some⟩
    · refine key _ _ ⟨(1 + r5).toNat, ?_, by omega, by omega, S6, rlo.fr e6 S5.some, rtop.fr e6 S5.some⟩
      rw [show (((1 + r5).toNat : Nat) : Int) = 1 + r5 by omega]
      rfl
end Vk
namespace Vk
open PySem L2 Vm Vl
variable {K : PySem.W.Frag} {mg : Str → Option Value}
abbrev CnZERO (K : PySem.W.Frag) (mg : Str → Option Value) (a : Addr) := Cn K mg "ZERO" 0 a
abbrev CnONE (K : PySem.W.Frag) (mg : Str → Option Value) (a : Addr) := Cn K mg "ONE" 1 a
theorem cnZERO {a : Addr} (m : mg "ZERO" = some (.ref a)) (h : ∀ H, SqT K H a [.int 0, .int 1]) : CnZERO K mg a := ⟨m, fun H => ⟨a, rfl, by rw [show (0 : Rat).num = 0 by decide +kernel, show ((0 : Rat).den : Int) = 1 by decide +kernel]; exact h H⟩⟩
theorem cnONE {a : Addr} (m : mg "ONE" = some (.ref a)) (h : ∀ H, SqT K H a [.int 1, .int 1]) : CnONE K mg a := ⟨m, fun H => ⟨a, rfl, by rw [show (1 : Rat).num = 1 by decide +kernel, show ((1 : Rat).den : Int) = 1 by decide +kernel]; exact h H⟩⟩
theorem kit_self {C : Addr} : PySem.W.kitOne K (.ref C) (.ref C) = some true := by
  unfold PySem.W.kitOne
  rw [if_pos (beq_self_eq_true _)]
theorem kit_ty2 {C : Addr} {T : String} (m : PySem.W.kitMeta T = true) (h : PySem.W.subIn K (.ref C) (.type T) = some true) : PySem.W.kitOne K (.ref C) (.type T) = some true := by
  have e : (Value.ref C == Value.type T) = false := beq_false_of_ne nofun
  unfold PySem.W.kitOne PySem.W.kitCls
  rw [e, if_neg Bool.false_ne_true]
  dsimp only
  rw [if_pos m]
  exact h
end Vk

namespace Vk
open PySem PySem.Calls PySem.HandSPX L2 Vm Vl Vs

theorem law_ok {P : Program} {w : World} {K : PySem.W.Frag} {mg : Str → Option Value} {base : Heap} {f_rational : Addr} {fd_rational : FuncData} {f_add : Addr} {fd_add : FuncData} {f_subtract : Addr} {fd_subtract : FuncData} {f_multiply : Addr} {fd_multiply : FuncData} {f_negate : Addr} {fd_negate : FuncData} {f_divide : Addr} {fd_divide : FuncData} {f_compare : Addr} {fd_compare : FuncData} {f__shown_by : Addr} {fd__shown_by : FuncData} {f__jump_at : Addr} {fd__jump_at : FuncData} {f_jumps : Addr} {fd_jumps : FuncData} {f_runs_within : Addr} {fd_runs_within : FuncData} {f_require_rates : Addr} {fd_require_rates : FuncData} {f_elapsed : Addr} {fd_elapsed : FuncData} {f__law_store : Addr} {fd__law_store : FuncData} {f__law_feed : Addr} {fd__law_feed : FuncData} {f__law_mixed : Addr} {fd__law_mixed : FuncData} {f__law_take : Addr} {fd__law_take : FuncData} {f__law_pick : Addr} {fd__law_pick : FuncData} {f__law_is_int : Addr} {fd__law_is_int : FuncData} {f__law_same : Addr} {fd__law_same : FuncData} {f__law_frac : Addr} {fd__law_frac : FuncData} {f__law_plus : Addr} {fd__law_plus : FuncData} {f__law_minus : Addr} {fd__law_minus : FuncData} {f__law_times : Addr} {fd__law_times : FuncData} {f__law_below : Addr} {fd__law_below : FuncData} {f__law_is_frac : Addr} {fd__law_is_frac : FuncData} {f__law_ratio : Addr} {fd__law_ratio : FuncData} {f__law_part : Addr} {fd__law_part : FuncData} {f__law_spare : Addr} {fd__law_spare : FuncData} {f__law_above : Addr} {fd__law_above : FuncData} {f__law_in_span : Addr} {fd__law_in_span : FuncData} {f__law_is_span : Addr} {fd__law_is_span : FuncData} {f__law_pace : Addr} {fd__law_pace : FuncData} {f__law_course : Addr} {fd__law_course : FuncData} {f__law_negative : Addr} {fd__law_negative : FuncData} {f__law_not_above : Addr} {fd__law_not_above : FuncData} {f__law_bad_rates : Addr} {fd__law_bad_rates : FuncData} {f__law_alone : Addr} {fd__law_alone : FuncData} {f__law_now : Addr} {fd__law_now : FuncData} {f__law_steady : Addr} {fd__law_steady : FuncData} {f__law_keeps : Addr} {fd__law_keeps : FuncData} {f__law_changed_course : Addr} {fd__law_changed_course : FuncData} {f__law_told : Addr} {fd__law_told : FuncData} {f__law_elapsed_right : Addr} {fd__law_elapsed_right : FuncData} {f__law_between_right : Addr} {fd__law_between_right : FuncData} {f__law_when : Addr} {fd__law_when : FuncData} {f__law_bounds_right : Addr} {fd__law_bounds_right : FuncData} {f__law_long_right : Addr} {fd__law_long_right : FuncData} {f_law : Addr} {fd_law : FuncData} (T : Bn mg) {aZERO : Addr} (ZZERO : CnZERO K mg aZERO)
    (h_rational : FunA K "rational" "rational" s_rational f_rational fd_rational) (m_rational : mg "rational" = some (.ref f_rational)) (b_rational : Binds K fd_rational ps_rational [])
    {C_BadRate fi_BadRate : Addr}
    {C_VerdictError : Addr}
    {C_ZeroDivisor : Addr}
    {C_BadNumber : Addr}
    {C_EmptySpan : Addr}
    {C_BeforeStart : Addr}
    {C_TurnsBack : Addr}
    {C_BadBound : Addr}
    {C_BadName : Addr}
    {C_DuplicateName : Addr}
    {C_UnknownName : Addr}
    {C_BadLink : Addr}
    {C_UnknownLink : Addr}
    {C_BadNote : Addr}
    {C_UnknownMoment : Addr}
    {C_NoWorld : Addr}
    {C_OutsideSpan : Addr}
    {C_TooManyLiars : Addr}
    {C_RootFollows : Addr}
    {C_Condemned : Addr}
    {C_BadDate : Addr}
    {C_BadLeap : Addr}
    {C_BadLabel : Addr}
    {C_NoSuchSecond : Addr}
    {C_BadCells : Addr}
    {C_RefusedEntry : Addr}
    {C_DuplicateTag : Addr}
    {C_UnknownTag : Addr}
    {C_BadLine : Addr}
    {C_NothingToUndo : Addr}
    {C_NothingToRedo : Addr}
    (TBadRate : PySem.ValX.ValTxt K mg "BadRate" C_BadRate fi_BadRate)
    (EBadRate : ExcC K C_BadRate)
    (GVerdictError : mg "VerdictError" = some (.ref C_VerdictError))
    (GZeroDivisor : mg "ZeroDivisor" = some (.ref C_ZeroDivisor))
    (GBadNumber : mg "BadNumber" = some (.ref C_BadNumber))
    (GEmptySpan : mg "EmptySpan" = some (.ref C_EmptySpan))
    (GBeforeStart : mg "BeforeStart" = some (.ref C_BeforeStart))
    (GTurnsBack : mg "TurnsBack" = some (.ref C_TurnsBack))
    (GBadBound : mg "BadBound" = some (.ref C_BadBound))
    (GBadName : mg "BadName" = some (.ref C_BadName))
    (GDuplicateName : mg "DuplicateName" = some (.ref C_DuplicateName))
    (GUnknownName : mg "UnknownName" = some (.ref C_UnknownName))
    (GBadLink : mg "BadLink" = some (.ref C_BadLink))
    (GUnknownLink : mg "UnknownLink" = some (.ref C_UnknownLink))
    (GBadNote : mg "BadNote" = some (.ref C_BadNote))
    (GUnknownMoment : mg "UnknownMoment" = some (.ref C_UnknownMoment))
    (GNoWorld : mg "NoWorld" = some (.ref C_NoWorld))
    (GOutsideSpan : mg "OutsideSpan" = some (.ref C_OutsideSpan))
    (GTooManyLiars : mg "TooManyLiars" = some (.ref C_TooManyLiars))
    (GRootFollows : mg "RootFollows" = some (.ref C_RootFollows))
    (GCondemned : mg "Condemned" = some (.ref C_Condemned))
    (GBadDate : mg "BadDate" = some (.ref C_BadDate))
    (GBadLeap : mg "BadLeap" = some (.ref C_BadLeap))
    (GBadLabel : mg "BadLabel" = some (.ref C_BadLabel))
    (GNoSuchSecond : mg "NoSuchSecond" = some (.ref C_NoSuchSecond))
    (GBadCells : mg "BadCells" = some (.ref C_BadCells))
    (GRefusedEntry : mg "RefusedEntry" = some (.ref C_RefusedEntry))
    (GDuplicateTag : mg "DuplicateTag" = some (.ref C_DuplicateTag))
    (GUnknownTag : mg "UnknownTag" = some (.ref C_UnknownTag))
    (GBadLine : mg "BadLine" = some (.ref C_BadLine))
    (GNothingToUndo : mg "NothingToUndo" = some (.ref C_NothingToUndo))
    (GNothingToRedo : mg "NothingToRedo" = some (.ref C_NothingToRedo))
    (Ie_BadRate_VerdictError : PySem.W.exmOne K (.ref C_BadRate) (.ref C_VerdictError) = some true)
    (Ik_BadRate_ZeroDivisor : PySem.W.kitOne K (.ref C_BadRate) (.ref C_ZeroDivisor) = some false)
    (Ik_BadRate_BadNumber : PySem.W.kitOne K (.ref C_BadRate) (.ref C_BadNumber) = some false)
    (Ik_BadRate_EmptySpan : PySem.W.kitOne K (.ref C_BadRate) (.ref C_EmptySpan) = some false)
    (Ik_BadRate_BeforeStart : PySem.W.kitOne K (.ref C_BadRate) (.ref C_BeforeStart) = some false)
    (Ik_BadRate_TurnsBack : PySem.W.kitOne K (.ref C_BadRate) (.ref C_TurnsBack) = some false)
    (Ik_BadRate_BadBound : PySem.W.kitOne K (.ref C_BadRate) (.ref C_BadBound) = some false)
    (Ik_BadRate_BadName : PySem.W.kitOne K (.ref C_BadRate) (.ref C_BadName) = some false)
    (Ik_BadRate_DuplicateName : PySem.W.kitOne K (.ref C_BadRate) (.ref C_DuplicateName) = some false)
    (Ik_BadRate_UnknownName : PySem.W.kitOne K (.ref C_BadRate) (.ref C_UnknownName) = some false)
    (Ik_BadRate_BadLink : PySem.W.kitOne K (.ref C_BadRate) (.ref C_BadLink) = some false)
    (Ik_BadRate_UnknownLink : PySem.W.kitOne K (.ref C_BadRate) (.ref C_UnknownLink) = some false)
    (Ik_BadRate_BadNote : PySem.W.kitOne K (.ref C_BadRate) (.ref C_BadNote) = some false)
    (Ik_BadRate_UnknownMoment : PySem.W.kitOne K (.ref C_BadRate) (.ref C_UnknownMoment) = some false)
    (Ik_BadRate_NoWorld : PySem.W.kitOne K (.ref C_BadRate) (.ref C_NoWorld) = some false)
    (Ik_BadRate_OutsideSpan : PySem.W.kitOne K (.ref C_BadRate) (.ref C_OutsideSpan) = some false)
    (Ik_BadRate_TooManyLiars : PySem.W.kitOne K (.ref C_BadRate) (.ref C_TooManyLiars) = some false)
    (Ik_BadRate_RootFollows : PySem.W.kitOne K (.ref C_BadRate) (.ref C_RootFollows) = some false)
    (Ik_BadRate_Condemned : PySem.W.kitOne K (.ref C_BadRate) (.ref C_Condemned) = some false)
    (Ik_BadRate_BadDate : PySem.W.kitOne K (.ref C_BadRate) (.ref C_BadDate) = some false)
    (Ik_BadRate_BadLeap : PySem.W.kitOne K (.ref C_BadRate) (.ref C_BadLeap) = some false)
    (Ik_BadRate_BadLabel : PySem.W.kitOne K (.ref C_BadRate) (.ref C_BadLabel) = some false)
    (Ik_BadRate_NoSuchSecond : PySem.W.kitOne K (.ref C_BadRate) (.ref C_NoSuchSecond) = some false)
    (Ik_BadRate_BadCells : PySem.W.kitOne K (.ref C_BadRate) (.ref C_BadCells) = some false)
    (Ik_BadRate_RefusedEntry : PySem.W.kitOne K (.ref C_BadRate) (.ref C_RefusedEntry) = some false)
    (Ik_BadRate_DuplicateTag : PySem.W.kitOne K (.ref C_BadRate) (.ref C_DuplicateTag) = some false)
    (Ik_BadRate_UnknownTag : PySem.W.kitOne K (.ref C_BadRate) (.ref C_UnknownTag) = some false)
    (Ik_BadRate_BadLine : PySem.W.kitOne K (.ref C_BadRate) (.ref C_BadLine) = some false)
    (Ik_BadRate_NothingToUndo : PySem.W.kitOne K (.ref C_BadRate) (.ref C_NothingToUndo) = some false)
    (Ik_BadRate_NothingToRedo : PySem.W.kitOne K (.ref C_BadRate) (.ref C_NothingToRedo) = some false)
    (h_add : Fn K mg "add" s_add ps_add f_add fd_add)
    (h_subtract : Fn K mg "subtract" s_subtract ps_subtract f_subtract fd_subtract)
    (h_multiply : Fn K mg "multiply" s_multiply ps_multiply f_multiply fd_multiply)
    (h_negate : Fn K mg "negate" s_negate ps_negate f_negate fd_negate)
    (h_divide : Fn K mg "divide" s_divide ps_divide f_divide fd_divide)
    (h_compare : Fn K mg "compare" s_compare ps_compare f_compare fd_compare)
    (h__shown_by : Fn K mg "_shown_by" s__shown_by ps__shown_by f__shown_by fd__shown_by)
    (h__jump_at : Fn K mg "_jump_at" s__jump_at ps__jump_at f__jump_at fd__jump_at)
    (h_jumps : Fn K mg "jumps" s_jumps ps_jumps f_jumps fd_jumps)
    (h_runs_within : Fn K mg "runs_within" s_runs_within ps_runs_within f_runs_within fd_runs_within)
    (h_require_rates : Fn K mg "require_rates" s_require_rates ps_require_rates f_require_rates fd_require_rates)
    (h_elapsed : Fn K mg "elapsed" s_elapsed ps_elapsed f_elapsed fd_elapsed)
    (h__law_store : Fn K mg "_law_store" s__law_store ps__law_store f__law_store fd__law_store)
    (h__law_feed : Fn K mg "_law_feed" s__law_feed ps__law_feed f__law_feed fd__law_feed)
    (h__law_mixed : Fn K mg "_law_mixed" s__law_mixed ps__law_mixed f__law_mixed fd__law_mixed)
    (h__law_take : Fn K mg "_law_take" s__law_take ps__law_take f__law_take fd__law_take)
    (h__law_pick : Fn K mg "_law_pick" s__law_pick ps__law_pick f__law_pick fd__law_pick)
    (h__law_is_int : Fn K mg "_law_is_int" s__law_is_int ps__law_is_int f__law_is_int fd__law_is_int)
    (h__law_same : Fn K mg "_law_same" s__law_same ps__law_same f__law_same fd__law_same)
    (h__law_frac : Fn K mg "_law_frac" s__law_frac ps__law_frac f__law_frac fd__law_frac)
    (h__law_plus : Fn K mg "_law_plus" s__law_plus ps__law_plus f__law_plus fd__law_plus)
    (h__law_minus : Fn K mg "_law_minus" s__law_minus ps__law_minus f__law_minus fd__law_minus)
    (h__law_times : Fn K mg "_law_times" s__law_times ps__law_times f__law_times fd__law_times)
    (h__law_below : Fn K mg "_law_below" s__law_below ps__law_below f__law_below fd__law_below)
    (h__law_is_frac : Fn K mg "_law_is_frac" s__law_is_frac ps__law_is_frac f__law_is_frac fd__law_is_frac)
    (h__law_ratio : Fn K mg "_law_ratio" s__law_ratio ps__law_ratio f__law_ratio fd__law_ratio)
    (h__law_part : Fn K mg "_law_part" s__law_part ps__law_part f__law_part fd__law_part)
    (h__law_spare : Fn K mg "_law_spare" s__law_spare ps__law_spare f__law_spare fd__law_spare)
    (h__law_above : Fn K mg "_law_above" s__law_above ps__law_above f__law_above fd__law_above)
    (h__law_in_span : Fn K mg "_law_in_span" s__law_in_span ps__law_in_span f__law_in_span fd__law_in_span)
    (h__law_is_span : Fn K mg "_law_is_span" s__law_is_span ps__law_is_span f__law_is_span fd__law_is_span)
    (h__law_pace : Fn K mg "_law_pace" s__law_pace ps__law_pace f__law_pace fd__law_pace)
    (h__law_course : Fn K mg "_law_course" s__law_course ps__law_course f__law_course fd__law_course)
    (h__law_negative : Fn K mg "_law_negative" s__law_negative ps__law_negative f__law_negative fd__law_negative)
    (h__law_not_above : Fn K mg "_law_not_above" s__law_not_above ps__law_not_above f__law_not_above fd__law_not_above)
    (h__law_bad_rates : Fn K mg "_law_bad_rates" s__law_bad_rates ps__law_bad_rates f__law_bad_rates fd__law_bad_rates)
    (h__law_alone : Fn K mg "_law_alone" s__law_alone ps__law_alone f__law_alone fd__law_alone)
    (h__law_now : Fn K mg "_law_now" s__law_now ps__law_now f__law_now fd__law_now)
    (h__law_steady : Fn K mg "_law_steady" s__law_steady ps__law_steady f__law_steady fd__law_steady)
    (h__law_keeps : Fn K mg "_law_keeps" s__law_keeps ps__law_keeps f__law_keeps fd__law_keeps)
    (h__law_changed_course : Fn K mg "_law_changed_course" s__law_changed_course ps__law_changed_course f__law_changed_course fd__law_changed_course)
    (h__law_told : Fn K mg "_law_told" s__law_told ps__law_told f__law_told fd__law_told)
    (h__law_elapsed_right : Fn K mg "_law_elapsed_right" s__law_elapsed_right ps__law_elapsed_right f__law_elapsed_right fd__law_elapsed_right)
    (h__law_between_right : Fn K mg "_law_between_right" s__law_between_right ps__law_between_right f__law_between_right fd__law_between_right)
    (h__law_when : Fn K mg "_law_when" s__law_when ps__law_when f__law_when fd__law_when)
    (h__law_bounds_right : Fn K mg "_law_bounds_right" s__law_bounds_right ps__law_bounds_right f__law_bounds_right fd__law_bounds_right)
    (h__law_long_right : Fn K mg "_law_long_right" s__law_long_right ps__law_long_right f__law_long_right fd__law_long_right)
    (h_law : Fn K mg "law" s_law ps_law f_law fd_law)
    (XV : mg "ValueError" = none) (XK : PySem.W.kitOne K (.ref C_BadRate) (.type "ValueError") = some true)
    : FnOk P w K mg base CX0 8 f_law fd_law ps_law (spLaw K) := by
  have CL : CA K mg C_ZeroDivisor C_BadNumber C_EmptySpan C_BeforeStart C_TurnsBack C_BadRate C_BadBound C_BadName C_DuplicateName C_UnknownName C_BadLink C_UnknownLink C_BadNote C_UnknownMoment C_NoWorld C_OutsideSpan C_TooManyLiars C_RootFollows C_Condemned C_BadDate C_BadLeap C_BadLabel C_NoSuchSecond C_BadCells C_RefusedEntry C_DuplicateTag C_UnknownTag C_BadLine C_NothingToUndo C_NothingToRedo C_VerdictError := ⟨EBadRate, GZeroDivisor, Ik_BadRate_ZeroDivisor, GBadNumber, Ik_BadRate_BadNumber, GEmptySpan, Ik_BadRate_EmptySpan, GBeforeStart, Ik_BadRate_BeforeStart, GTurnsBack, Ik_BadRate_TurnsBack, TBadRate.gC, kit_self, GBadBound, Ik_BadRate_BadBound, GBadName, Ik_BadRate_BadName, GDuplicateName, Ik_BadRate_DuplicateName, GUnknownName, Ik_BadRate_UnknownName, GBadLink, Ik_BadRate_BadLink, GUnknownLink, Ik_BadRate_UnknownLink, GBadNote, Ik_BadRate_BadNote, GUnknownMoment, Ik_BadRate_UnknownMoment, GNoWorld, Ik_BadRate_NoWorld, GOutsideSpan, Ik_BadRate_OutsideSpan, GTooManyLiars, Ik_BadRate_TooManyLiars, GRootFollows, Ik_BadRate_RootFollows, GCondemned, Ik_BadRate_Condemned, GBadDate, Ik_BadRate_BadDate, GBadLeap, Ik_BadRate_BadLeap, GBadLabel, Ik_BadRate_BadLabel, GNoSuchSecond, Ik_BadRate_NoSuchSecond, GBadCells, Ik_BadRate_BadCells, GRefusedEntry, Ik_BadRate_RefusedEntry, GDuplicateTag, Ik_BadRate_DuplicateTag, GUnknownTag, Ik_BadRate_UnknownTag, GBadLine, Ik_BadRate_BadLine, GNothingToUndo, Ik_BadRate_NothingToUndo, GNothingToRedo, Ik_BadRate_NothingToRedo, GVerdictError, XV, XK, Ie_BadRate_VerdictError⟩
  have rational := ok_rational (P := P) (w := w) (base := base) (k := 0) T h_rational m_rational b_rational
  have add := ok_add (P := P) (w := w) (base := base) (k := 0) T h_add
  have negate := ok_negate (P := P) (w := w) (base := base) (k := 0) h_negate
  have compare := ok_compare (P := P) (w := w) (base := base) (k := 0) h_compare
  have subtract := ok_subtract h_subtract add negate
  have multiply := ok_multiply h_multiply rational
  have divide := ok_divide h_divide rational
  have shown := ok_shown_by h__shown_by (add.up (by decide)) multiply subtract
  have jat := ok_jump_at h__jump_at (subtract.up (by decide)) shown
  have jumps := ok_jumps T ZZERO h_jumps jat
  have runs := ok_runs_within h_runs_within jumps (compare.up (by decide))
  have reqr := ok_require_rates ZZERO TBadRate h_require_rates compare
  have elapsed := ok_elapsed ZZERO h_elapsed reqr (compare.up (by decide)) divide
  have store := ok_store (P := P) (w := w) (base := base) (k := 0) T h__law_store
  have mixed := fun l => ok_mixed (l := l) (P := P) (w := w) (base := base) (k := 0) T h__law_mixed
  have feed := fun l => ok_feed (l := l) (P := P) (w := w) (base := base) (k := 0) T h__law_feed
  have take := fun l => ok_take T h__law_take (feed l) (mixed l)
  have pick := fun l => ok_pick T h__law_pick (take l)
  have is_int := ok_is_int (P := P) (w := w) (base := base) (k := 0) T h__law_is_int
  have same := ok_same T h__law_same is_int 2
  have same3 := ok_same T h__law_same is_int 3
  have sameB := ok_sameB T h__law_same is_int
  have frac := ok_frac (P := P) (w := w) (base := base) (k := 0) T h__law_frac
  have plus := ok_plus h__law_plus frac
  have minus := ok_minus h__law_minus frac
  have times := ok_times h__law_times frac
  have below := ok_below (P := P) (w := w) (base := base) (k := 0) h__law_below
  have is_frac := ok_is_frac T h__law_is_frac is_int frac
  have ratio := fun l => ok_ratio h__law_ratio ((take l).up (by decide)) (pick l) (frac.up (by decide))
  have part := fun l => ok_part h__law_part ((take l).up (by decide)) (pick l) (frac.up (by decide))
  have above := fun l => ok_above h__law_above (take l) (frac.up (by decide))
  have above6 := fun l => ok_above6 h__law_above (take l) (frac.up (by decide))
  have spare := fun l => ok_spareN h__law_spare (take l) (frac.up (by decide))
  have inspan := ok_in_span h__law_in_span below
  have isspan := ok_is_span T h__law_is_span is_frac (below.up (by decide))
  have pace := fun l => ok_pace h__law_pace ((take l).up (by decide)) (pick l) (frac.up (by decide))
  have course := fun l => ok_course T h__law_course (part l) (pace l) ((above l).up (by decide)) (plus.up (by decide)) (times.up (by decide)) (minus.up (by decide)) ((take l).up (by decide))
  have negative := fun l => ok_negative h__law_negative (pick l) (minus.up (by decide)) (above6 l)
  have not_above := fun l => ok_not_above h__law_not_above ((pick l).up (by decide)) (negative l)
  have bad_rates := fun l => ok_bad_rates h__law_bad_rates ((pace l).up (by decide : 4 ≤ 5)) (minus.up (by decide)) ((pick l).up (by decide)) ((take l).up (by decide)) (not_above l)
  have alone := ok_alone (P := P) (w := w) (base := base) (k := 2) T CL h__law_alone
  have now := ok_now T h__law_now (below.up (by decide)) plus times minus
  have steady := fun l => ok_steady T h__law_steady (part l) ((pick l).up (by decide)) ((above l).up (by decide)) (plus.up (by decide)) (times.up (by decide)) (minus.up (by decide))
  have keeps := ok_keeps T h__law_keeps (below.up (by decide : 1 ≤ 2)) minus times
  have changed := fun l => ok_changed T h__law_changed_course ((take l).up (by decide)) ((pick l).up (by decide)) (plus.up (by decide)) (pace l)
  have told := ok_told T EBadRate GVerdictError kit_self Ie_BadRate_VerdictError TBadRate h__law_told elapsed alone
  have eright := ok_elapsed_right h__law_elapsed_right isspan (times.up (by decide))
  have bet := ok_between T h__law_between_right (minus.up (by decide)) (now.up (by decide)) told eright (inspan.up (by decide))
  have when := fun l => ok_when T h__law_when ((take l).up (by decide)) (times.up (by decide)) (plus.up (by decide)) (above l)
  have bounds := ok_bounds T h__law_bounds_right (plus.up (by decide)) (minus.up (by decide)) runs (keeps.up (by decide)) (Def.or (same3.up (by decide)) (sameB.up (by decide)))
  have long := fun l => ok_long T h__law_long_right ((steady l).up (by decide)) ((pick l).up (by decide)) runs (plus.up (by decide)) (minus.up (by decide))
  exact (ok_law (k := 7) T h_law (store.up (by decide)) (fun l => (pace l).up (by decide)) (plus.up (by decide)) (fun l => (spare l).up (by decide)) (fun l => (take l).up (by decide)) (fun l => (steady l).up (by decide)) (runs.up (by decide)) bounds (fun l => (changed l).up (by decide)) (fun l => (course l).up (by decide)) long (bet.up (by decide)) (fun l => (when l).up (by decide)) (fun l => (bad_rates l).up (by decide)) (fun l => (pick l).up (by decide)) (fun l => (part l).up (by decide)) (fun l => (ratio l).up (by decide)) (same.up (by decide)) (told.up (by decide)) (eright.up (by decide)) (frac.up (by decide))).ok

section
open PySem PySem.W PySem.Calls PySem.HandSPX PyProof.Rows L2
set_option maxHeartbeats 0 in
theorem all_mkV {P : Program} {w : World} {K : PySem.W.Frag} {h : Heap} {mg : Str → Option Value} {fa : Addr} (X : K.In h) (G : h.Ns mainGlobals mg) (hfa : mg "law" = some (.ref fa)) (c : obsV faH fnH exK K = valV fnH) :
    ∃ fd : FuncData, (∀ (s : Shared) (v : Value), BindsTo s fd ⟨[v], []⟩ [("_law_script", v)]) ∧ ∀ base : Heap, K.In base → base.Ns mainGlobals mg → FnOk P w K mg base CX0 8 fa fd ["_law_script"] (spLaw K) := by
  have ex := saysV_ex c
  have g_rational : mg "rational" = some (.ref (He.ga K "rational")) := He.glo_ok X G (saysV_fact c 0 (f := .glo "rational") rfl)
  have g_add : mg "add" = some (.ref (He.ga K "add")) := He.glo_ok X G (saysV_fact c 1 (f := .glo "add") rfl)
  have g_subtract : mg "subtract" = some (.ref (He.ga K "subtract")) := He.glo_ok X G (saysV_fact c 2 (f := .glo "subtract") rfl)
  have g_multiply : mg "multiply" = some (.ref (He.ga K "multiply")) := He.glo_ok X G (saysV_fact c 3 (f := .glo "multiply") rfl)
  have g_negate : mg "negate" = some (.ref (He.ga K "negate")) := He.glo_ok X G (saysV_fact c 4 (f := .glo "negate") rfl)
  have g_divide : mg "divide" = some (.ref (He.ga K "divide")) := He.glo_ok X G (saysV_fact c 5 (f := .glo "divide") rfl)
  have g_compare : mg "compare" = some (.ref (He.ga K "compare")) := He.glo_ok X G (saysV_fact c 6 (f := .glo "compare") rfl)
  have g__shown_by : mg "_shown_by" = some (.ref (He.ga K "_shown_by")) := He.glo_ok X G (saysV_fact c 7 (f := .glo "_shown_by") rfl)
  have g__jump_at : mg "_jump_at" = some (.ref (He.ga K "_jump_at")) := He.glo_ok X G (saysV_fact c 8 (f := .glo "_jump_at") rfl)
  have g_jumps : mg "jumps" = some (.ref (He.ga K "jumps")) := He.glo_ok X G (saysV_fact c 9 (f := .glo "jumps") rfl)
  have g_runs_within : mg "runs_within" = some (.ref (He.ga K "runs_within")) := He.glo_ok X G (saysV_fact c 10 (f := .glo "runs_within") rfl)
  have g_require_rates : mg "require_rates" = some (.ref (He.ga K "require_rates")) := He.glo_ok X G (saysV_fact c 11 (f := .glo "require_rates") rfl)
  have g_elapsed : mg "elapsed" = some (.ref (He.ga K "elapsed")) := He.glo_ok X G (saysV_fact c 12 (f := .glo "elapsed") rfl)
  have g__law_store : mg "_law_store" = some (.ref (He.ga K "_law_store")) := He.glo_ok X G (saysV_fact c 13 (f := .glo "_law_store") rfl)
  have g__law_feed : mg "_law_feed" = some (.ref (He.ga K "_law_feed")) := He.glo_ok X G (saysV_fact c 14 (f := .glo "_law_feed") rfl)
  have g__law_mixed : mg "_law_mixed" = some (.ref (He.ga K "_law_mixed")) := He.glo_ok X G (saysV_fact c 15 (f := .glo "_law_mixed") rfl)
  have g__law_take : mg "_law_take" = some (.ref (He.ga K "_law_take")) := He.glo_ok X G (saysV_fact c 16 (f := .glo "_law_take") rfl)
  have g__law_pick : mg "_law_pick" = some (.ref (He.ga K "_law_pick")) := He.glo_ok X G (saysV_fact c 17 (f := .glo "_law_pick") rfl)
  have g__law_is_int : mg "_law_is_int" = some (.ref (He.ga K "_law_is_int")) := He.glo_ok X G (saysV_fact c 18 (f := .glo "_law_is_int") rfl)
  have g__law_same : mg "_law_same" = some (.ref (He.ga K "_law_same")) := He.glo_ok X G (saysV_fact c 19 (f := .glo "_law_same") rfl)
  have g__law_frac : mg "_law_frac" = some (.ref (He.ga K "_law_frac")) := He.glo_ok X G (saysV_fact c 20 (f := .glo "_law_frac") rfl)
  have g__law_plus : mg "_law_plus" = some (.ref (He.ga K "_law_plus")) := He.glo_ok X G (saysV_fact c 21 (f := .glo "_law_plus") rfl)
  have g__law_minus : mg "_law_minus" = some (.ref (He.ga K "_law_minus")) := He.glo_ok X G (saysV_fact c 22 (f := .glo "_law_minus") rfl)
  have g__law_times : mg "_law_times" = some (.ref (He.ga K "_law_times")) := He.glo_ok X G (saysV_fact c 23 (f := .glo "_law_times") rfl)
  have g__law_below : mg "_law_below" = some (.ref (He.ga K "_law_below")) := He.glo_ok X G (saysV_fact c 24 (f := .glo "_law_below") rfl)
  have g__law_is_frac : mg "_law_is_frac" = some (.ref (He.ga K "_law_is_frac")) := He.glo_ok X G (saysV_fact c 25 (f := .glo "_law_is_frac") rfl)
  have g__law_ratio : mg "_law_ratio" = some (.ref (He.ga K "_law_ratio")) := He.glo_ok X G (saysV_fact c 26 (f := .glo "_law_ratio") rfl)
  have g__law_part : mg "_law_part" = some (.ref (He.ga K "_law_part")) := He.glo_ok X G (saysV_fact c 27 (f := .glo "_law_part") rfl)
  have g__law_spare : mg "_law_spare" = some (.ref (He.ga K "_law_spare")) := He.glo_ok X G (saysV_fact c 28 (f := .glo "_law_spare") rfl)
  have g__law_above : mg "_law_above" = some (.ref (He.ga K "_law_above")) := He.glo_ok X G (saysV_fact c 29 (f := .glo "_law_above") rfl)
  have g__law_in_span : mg "_law_in_span" = some (.ref (He.ga K "_law_in_span")) := He.glo_ok X G (saysV_fact c 30 (f := .glo "_law_in_span") rfl)
  have g__law_is_span : mg "_law_is_span" = some (.ref (He.ga K "_law_is_span")) := He.glo_ok X G (saysV_fact c 31 (f := .glo "_law_is_span") rfl)
  have g__law_pace : mg "_law_pace" = some (.ref (He.ga K "_law_pace")) := He.glo_ok X G (saysV_fact c 32 (f := .glo "_law_pace") rfl)
  have g__law_course : mg "_law_course" = some (.ref (He.ga K "_law_course")) := He.glo_ok X G (saysV_fact c 33 (f := .glo "_law_course") rfl)
  have g__law_negative : mg "_law_negative" = some (.ref (He.ga K "_law_negative")) := He.glo_ok X G (saysV_fact c 34 (f := .glo "_law_negative") rfl)
  have g__law_not_above : mg "_law_not_above" = some (.ref (He.ga K "_law_not_above")) := He.glo_ok X G (saysV_fact c 35 (f := .glo "_law_not_above") rfl)
  have g__law_bad_rates : mg "_law_bad_rates" = some (.ref (He.ga K "_law_bad_rates")) := He.glo_ok X G (saysV_fact c 36 (f := .glo "_law_bad_rates") rfl)
  have g__law_alone : mg "_law_alone" = some (.ref (He.ga K "_law_alone")) := He.glo_ok X G (saysV_fact c 37 (f := .glo "_law_alone") rfl)
  have g__law_now : mg "_law_now" = some (.ref (He.ga K "_law_now")) := He.glo_ok X G (saysV_fact c 38 (f := .glo "_law_now") rfl)
  have g__law_steady : mg "_law_steady" = some (.ref (He.ga K "_law_steady")) := He.glo_ok X G (saysV_fact c 39 (f := .glo "_law_steady") rfl)
  have g__law_keeps : mg "_law_keeps" = some (.ref (He.ga K "_law_keeps")) := He.glo_ok X G (saysV_fact c 40 (f := .glo "_law_keeps") rfl)
  have g__law_changed_course : mg "_law_changed_course" = some (.ref (He.ga K "_law_changed_course")) := He.glo_ok X G (saysV_fact c 41 (f := .glo "_law_changed_course") rfl)
  have g__law_told : mg "_law_told" = some (.ref (He.ga K "_law_told")) := He.glo_ok X G (saysV_fact c 42 (f := .glo "_law_told") rfl)
  have g__law_elapsed_right : mg "_law_elapsed_right" = some (.ref (He.ga K "_law_elapsed_right")) := He.glo_ok X G (saysV_fact c 43 (f := .glo "_law_elapsed_right") rfl)
  have g__law_between_right : mg "_law_between_right" = some (.ref (He.ga K "_law_between_right")) := He.glo_ok X G (saysV_fact c 44 (f := .glo "_law_between_right") rfl)
  have g__law_when : mg "_law_when" = some (.ref (He.ga K "_law_when")) := He.glo_ok X G (saysV_fact c 45 (f := .glo "_law_when") rfl)
  have g__law_bounds_right : mg "_law_bounds_right" = some (.ref (He.ga K "_law_bounds_right")) := He.glo_ok X G (saysV_fact c 46 (f := .glo "_law_bounds_right") rfl)
  have g__law_long_right : mg "_law_long_right" = some (.ref (He.ga K "_law_long_right")) := He.glo_ok X G (saysV_fact c 47 (f := .glo "_law_long_right") rfl)
  have g_law : mg "law" = some (.ref (He.ga K "law")) := He.glo_ok X G (saysV_fact c 48 (f := .glo "law") rfl)
  have g_BadRate : mg "BadRate" = some (.ref (He.ga K "BadRate")) := He.glo_ok X G (saysV_fact c 49 (f := .glo "BadRate") rfl)
  have g_VerdictError : mg "VerdictError" = some (.ref (He.ga K "VerdictError")) := He.glo_ok X G (saysV_fact c 50 (f := .glo "VerdictError") rfl)
  have g_ZeroDivisor : mg "ZeroDivisor" = some (.ref (He.ga K "ZeroDivisor")) := He.glo_ok X G (saysV_fact c 51 (f := .glo "ZeroDivisor") rfl)
  have g_BadNumber : mg "BadNumber" = some (.ref (He.ga K "BadNumber")) := He.glo_ok X G (saysV_fact c 52 (f := .glo "BadNumber") rfl)
  have g_EmptySpan : mg "EmptySpan" = some (.ref (He.ga K "EmptySpan")) := He.glo_ok X G (saysV_fact c 53 (f := .glo "EmptySpan") rfl)
  have g_BeforeStart : mg "BeforeStart" = some (.ref (He.ga K "BeforeStart")) := He.glo_ok X G (saysV_fact c 54 (f := .glo "BeforeStart") rfl)
  have g_TurnsBack : mg "TurnsBack" = some (.ref (He.ga K "TurnsBack")) := He.glo_ok X G (saysV_fact c 55 (f := .glo "TurnsBack") rfl)
  have g_BadBound : mg "BadBound" = some (.ref (He.ga K "BadBound")) := He.glo_ok X G (saysV_fact c 56 (f := .glo "BadBound") rfl)
  have g_BadName : mg "BadName" = some (.ref (He.ga K "BadName")) := He.glo_ok X G (saysV_fact c 57 (f := .glo "BadName") rfl)
  have g_DuplicateName : mg "DuplicateName" = some (.ref (He.ga K "DuplicateName")) := He.glo_ok X G (saysV_fact c 58 (f := .glo "DuplicateName") rfl)
  have g_UnknownName : mg "UnknownName" = some (.ref (He.ga K "UnknownName")) := He.glo_ok X G (saysV_fact c 59 (f := .glo "UnknownName") rfl)
  have g_BadLink : mg "BadLink" = some (.ref (He.ga K "BadLink")) := He.glo_ok X G (saysV_fact c 60 (f := .glo "BadLink") rfl)
  have g_UnknownLink : mg "UnknownLink" = some (.ref (He.ga K "UnknownLink")) := He.glo_ok X G (saysV_fact c 61 (f := .glo "UnknownLink") rfl)
  have g_BadNote : mg "BadNote" = some (.ref (He.ga K "BadNote")) := He.glo_ok X G (saysV_fact c 62 (f := .glo "BadNote") rfl)
  have g_UnknownMoment : mg "UnknownMoment" = some (.ref (He.ga K "UnknownMoment")) := He.glo_ok X G (saysV_fact c 63 (f := .glo "UnknownMoment") rfl)
  have g_NoWorld : mg "NoWorld" = some (.ref (He.ga K "NoWorld")) := He.glo_ok X G (saysV_fact c 64 (f := .glo "NoWorld") rfl)
  have g_OutsideSpan : mg "OutsideSpan" = some (.ref (He.ga K "OutsideSpan")) := He.glo_ok X G (saysV_fact c 65 (f := .glo "OutsideSpan") rfl)
  have g_TooManyLiars : mg "TooManyLiars" = some (.ref (He.ga K "TooManyLiars")) := He.glo_ok X G (saysV_fact c 66 (f := .glo "TooManyLiars") rfl)
  have g_RootFollows : mg "RootFollows" = some (.ref (He.ga K "RootFollows")) := He.glo_ok X G (saysV_fact c 67 (f := .glo "RootFollows") rfl)
  have g_Condemned : mg "Condemned" = some (.ref (He.ga K "Condemned")) := He.glo_ok X G (saysV_fact c 68 (f := .glo "Condemned") rfl)
  have g_BadDate : mg "BadDate" = some (.ref (He.ga K "BadDate")) := He.glo_ok X G (saysV_fact c 69 (f := .glo "BadDate") rfl)
  have g_BadLeap : mg "BadLeap" = some (.ref (He.ga K "BadLeap")) := He.glo_ok X G (saysV_fact c 70 (f := .glo "BadLeap") rfl)
  have g_BadLabel : mg "BadLabel" = some (.ref (He.ga K "BadLabel")) := He.glo_ok X G (saysV_fact c 71 (f := .glo "BadLabel") rfl)
  have g_NoSuchSecond : mg "NoSuchSecond" = some (.ref (He.ga K "NoSuchSecond")) := He.glo_ok X G (saysV_fact c 72 (f := .glo "NoSuchSecond") rfl)
  have g_BadCells : mg "BadCells" = some (.ref (He.ga K "BadCells")) := He.glo_ok X G (saysV_fact c 73 (f := .glo "BadCells") rfl)
  have g_RefusedEntry : mg "RefusedEntry" = some (.ref (He.ga K "RefusedEntry")) := He.glo_ok X G (saysV_fact c 74 (f := .glo "RefusedEntry") rfl)
  have g_DuplicateTag : mg "DuplicateTag" = some (.ref (He.ga K "DuplicateTag")) := He.glo_ok X G (saysV_fact c 75 (f := .glo "DuplicateTag") rfl)
  have g_UnknownTag : mg "UnknownTag" = some (.ref (He.ga K "UnknownTag")) := He.glo_ok X G (saysV_fact c 76 (f := .glo "UnknownTag") rfl)
  have g_BadLine : mg "BadLine" = some (.ref (He.ga K "BadLine")) := He.glo_ok X G (saysV_fact c 77 (f := .glo "BadLine") rfl)
  have g_NothingToUndo : mg "NothingToUndo" = some (.ref (He.ga K "NothingToUndo")) := He.glo_ok X G (saysV_fact c 78 (f := .glo "NothingToUndo") rfl)
  have g_NothingToRedo : mg "NothingToRedo" = some (.ref (He.ga K "NothingToRedo")) := He.glo_ok X G (saysV_fact c 79 (f := .glo "NothingToRedo") rfl)
  have g_ZERO : mg "ZERO" = some (.ref (He.ga K "ZERO")) := He.glo_ok X G (saysV_fact c 80 (f := .glo "ZERO") rfl)
  have z_len : mg "len" = none := He.free_ok X G (saysV_fact c 81 (f := .free "len") rfl)
  have z_abs : mg "abs" = none := He.free_ok X G (saysV_fact c 82 (f := .free "abs") rfl)
  have z_max : mg "max" = none := He.free_ok X G (saysV_fact c 83 (f := .free "max") rfl)
  have z_int : mg "int" = none := He.free_ok X G (saysV_fact c 84 (f := .free "int") rfl)
  have z_isinstance : mg "isinstance" = none := He.free_ok X G (saysV_fact c 85 (f := .free "isinstance") rfl)
  have z_range : mg "range" = none := He.free_ok X G (saysV_fact c 86 (f := .free "range") rfl)
  have z_enumerate : mg "enumerate" = none := He.free_ok X G (saysV_fact c 87 (f := .free "enumerate") rfl)
  have z_list : mg "list" = none := He.free_ok X G (saysV_fact c 88 (f := .free "list") rfl)
  have z_tuple : mg "tuple" = none := He.free_ok X G (saysV_fact c 89 (f := .free "tuple") rfl)
  have z_str : mg "str" = none := He.free_ok X G (saysV_fact c 90 (f := .free "str") rfl)
  have z_bool : mg "bool" = none := He.free_ok X G (saysV_fact c 91 (f := .free "bool") rfl)
  have z_dict : mg "dict" = none := He.free_ok X G (saysV_fact c 92 (f := .free "dict") rfl)
  have z_ValueError : mg "ValueError" = none := He.free_ok X G (saysV_fact c 93 (f := .free "ValueError") rfl)
  obtain ⟨fd_rational, F_rational⟩ := saysV_def c 0 (d := dH_rational) rfl
  obtain ⟨fd_add, F_add⟩ := saysV_def c 1 (d := dH_add) rfl
  obtain ⟨fd_subtract, F_subtract⟩ := saysV_def c 2 (d := dH_subtract) rfl
  obtain ⟨fd_multiply, F_multiply⟩ := saysV_def c 3 (d := dH_multiply) rfl
  obtain ⟨fd_negate, F_negate⟩ := saysV_def c 4 (d := dH_negate) rfl
  obtain ⟨fd_divide, F_divide⟩ := saysV_def c 5 (d := dH_divide) rfl
  obtain ⟨fd_compare, F_compare⟩ := saysV_def c 6 (d := dH_compare) rfl
  obtain ⟨fd__shown_by, F__shown_by⟩ := saysV_def c 7 (d := dH__shown_by) rfl
  obtain ⟨fd__jump_at, F__jump_at⟩ := saysV_def c 8 (d := dH__jump_at) rfl
  obtain ⟨fd_jumps, F_jumps⟩ := saysV_def c 9 (d := dH_jumps) rfl
  obtain ⟨fd_runs_within, F_runs_within⟩ := saysV_def c 10 (d := dH_runs_within) rfl
  obtain ⟨fd_require_rates, F_require_rates⟩ := saysV_def c 11 (d := dH_require_rates) rfl
  obtain ⟨fd_elapsed, F_elapsed⟩ := saysV_def c 12 (d := dH_elapsed) rfl
  obtain ⟨fd__law_store, F__law_store⟩ := saysV_def c 13 (d := dH__law_store) rfl
  obtain ⟨fd__law_feed, F__law_feed⟩ := saysV_def c 14 (d := dH__law_feed) rfl
  obtain ⟨fd__law_mixed, F__law_mixed⟩ := saysV_def c 15 (d := dH__law_mixed) rfl
  obtain ⟨fd__law_take, F__law_take⟩ := saysV_def c 16 (d := dH__law_take) rfl
  obtain ⟨fd__law_pick, F__law_pick⟩ := saysV_def c 17 (d := dH__law_pick) rfl
  obtain ⟨fd__law_is_int, F__law_is_int⟩ := saysV_def c 18 (d := dH__law_is_int) rfl
  obtain ⟨fd__law_same, F__law_same⟩ := saysV_def c 19 (d := dH__law_same) rfl
  obtain ⟨fd__law_frac, F__law_frac⟩ := saysV_def c 20 (d := dH__law_frac) rfl
  obtain ⟨fd__law_plus, F__law_plus⟩ := saysV_def c 21 (d := dH__law_plus) rfl
  obtain ⟨fd__law_minus, F__law_minus⟩ := saysV_def c 22 (d := dH__law_minus) rfl
  obtain ⟨fd__law_times, F__law_times⟩ := saysV_def c 23 (d := dH__law_times) rfl
  obtain ⟨fd__law_below, F__law_below⟩ := saysV_def c 24 (d := dH__law_below) rfl
  obtain ⟨fd__law_is_frac, F__law_is_frac⟩ := saysV_def c 25 (d := dH__law_is_frac) rfl
  obtain ⟨fd__law_ratio, F__law_ratio⟩ := saysV_def c 26 (d := dH__law_ratio) rfl
  obtain ⟨fd__law_part, F__law_part⟩ := saysV_def c 27 (d := dH__law_part) rfl
  obtain ⟨fd__law_spare, F__law_spare⟩ := saysV_def c 28 (d := dH__law_spare) rfl
  obtain ⟨fd__law_above, F__law_above⟩ := saysV_def c 29 (d := dH__law_above) rfl
  obtain ⟨fd__law_in_span, F__law_in_span⟩ := saysV_def c 30 (d := dH__law_in_span) rfl
  obtain ⟨fd__law_is_span, F__law_is_span⟩ := saysV_def c 31 (d := dH__law_is_span) rfl
  obtain ⟨fd__law_pace, F__law_pace⟩ := saysV_def c 32 (d := dH__law_pace) rfl
  obtain ⟨fd__law_course, F__law_course⟩ := saysV_def c 33 (d := dH__law_course) rfl
  obtain ⟨fd__law_negative, F__law_negative⟩ := saysV_def c 34 (d := dH__law_negative) rfl
  obtain ⟨fd__law_not_above, F__law_not_above⟩ := saysV_def c 35 (d := dH__law_not_above) rfl
  obtain ⟨fd__law_bad_rates, F__law_bad_rates⟩ := saysV_def c 36 (d := dH__law_bad_rates) rfl
  obtain ⟨fd__law_alone, F__law_alone⟩ := saysV_def c 37 (d := dH__law_alone) rfl
  obtain ⟨fd__law_now, F__law_now⟩ := saysV_def c 38 (d := dH__law_now) rfl
  obtain ⟨fd__law_steady, F__law_steady⟩ := saysV_def c 39 (d := dH__law_steady) rfl
  obtain ⟨fd__law_keeps, F__law_keeps⟩ := saysV_def c 40 (d := dH__law_keeps) rfl
  obtain ⟨fd__law_changed_course, F__law_changed_course⟩ := saysV_def c 41 (d := dH__law_changed_course) rfl
  obtain ⟨fd__law_told, F__law_told⟩ := saysV_def c 42 (d := dH__law_told) rfl
  obtain ⟨fd__law_elapsed_right, F__law_elapsed_right⟩ := saysV_def c 43 (d := dH__law_elapsed_right) rfl
  obtain ⟨fd__law_between_right, F__law_between_right⟩ := saysV_def c 44 (d := dH__law_between_right) rfl
  obtain ⟨fd__law_when, F__law_when⟩ := saysV_def c 45 (d := dH__law_when) rfl
  obtain ⟨fd__law_bounds_right, F__law_bounds_right⟩ := saysV_def c 46 (d := dH__law_bounds_right) rfl
  obtain ⟨fd__law_long_right, F__law_long_right⟩ := saysV_def c 47 (d := dH__law_long_right) rfl
  obtain ⟨fd_law, F_law⟩ := saysV_def c 48 (d := dH_law) rfl
  obtain ⟨fi_BadRate, FI_BadRate⟩ := saysV_def c 49 (d := dI_BadRate) rfl
  have e := hfa.symm.trans g_law
  cases e
  have T : Bn mg := ⟨gcd_ok X G (exK_at ex 0 rfl), z_len, z_abs, z_max, z_int, z_isinstance, z_range, z_enumerate, z_list, z_tuple, z_str, z_bool, z_dict⟩
  have ZZERO : CnZERO K mg (He.ga K "ZERO") := cnZERO g_ZERO (He.tupB_ok (exK_at ex 1 rfl))
  obtain ⟨ds_rational, rds_rational, bR_rational⟩ := FunD.binds1 (ps := ["n", "d"]) F_rational 2 1 nofun rfl fun T kV doc pm an cdv ct us its hu hi => match us, its, hu, hi with | [_, _], [_], _, _ => ⟨_, rfl, rfl⟩
  cases rds_rational
  obtain ⟨p1_BadRate, p2_BadRate, eA_BadRate⟩ : ∃ p1 p2, defArgs sI_BadRate = PySem.ValX.iA p1 p2 := ⟨_, _, rfl⟩
  obtain ⟨q1_BadRate, q2_BadRate, q3_BadRate, q4_BadRate, eB_BadRate⟩ : ∃ q1 q2 q3 q4, defBody sI_BadRate = PySem.ValX.iB q1 q2 q3 q4 := ⟨_, _, _, _, rfl⟩
  have T_BadRate : PySem.ValX.ValTxt K mg "BadRate" (He.ga K "BadRate") (He.ma K (He.ga K "BadRate") "__init__") := errB_ok g_BadRate (exK_at ex 2 rfl) (init_ok FI_BadRate (exK_at ex 3 rfl) eA_BadRate eB_BadRate rfl)
  have b := FunD.bindsA (ps := ["_law_script"]) F_law fun _ _ _ _ _ _ us hl => match us, hl with | [_], _ => rfl
  refine ⟨fd_law, fun s v => b s [v] rfl, fun base _ _ => ?_⟩
  exact law_ok T ZZERO (funA_of_d (st := s_rational) F_rational) g_rational bR_rational
    T_BadRate
    (excB_ok (exK_at ex 4 rfl))
    g_VerdictError
    g_ZeroDivisor
    g_BadNumber
    g_EmptySpan
    g_BeforeStart
    g_TurnsBack
    g_BadBound
    g_BadName
    g_DuplicateName
    g_UnknownName
    g_BadLink
    g_UnknownLink
    g_BadNote
    g_UnknownMoment
    g_NoWorld
    g_OutsideSpan
    g_TooManyLiars
    g_RootFollows
    g_Condemned
    g_BadDate
    g_BadLeap
    g_BadLabel
    g_NoSuchSecond
    g_BadCells
    g_RefusedEntry
    g_DuplicateTag
    g_UnknownTag
    g_BadLine
    g_NothingToUndo
    g_NothingToRedo
    (of_decide_eq_true (exK_at ex 5 rfl))
    (of_decide_eq_true (exK_at ex 6 rfl))
    (of_decide_eq_true (exK_at ex 7 rfl))
    (of_decide_eq_true (exK_at ex 8 rfl))
    (of_decide_eq_true (exK_at ex 9 rfl))
    (of_decide_eq_true (exK_at ex 10 rfl))
    (of_decide_eq_true (exK_at ex 11 rfl))
    (of_decide_eq_true (exK_at ex 12 rfl))
    (of_decide_eq_true (exK_at ex 13 rfl))
    (of_decide_eq_true (exK_at ex 14 rfl))
    (of_decide_eq_true (exK_at ex 15 rfl))
    (of_decide_eq_true (exK_at ex 16 rfl))
    (of_decide_eq_true (exK_at ex 17 rfl))
    (of_decide_eq_true (exK_at ex 18 rfl))
    (of_decide_eq_true (exK_at ex 19 rfl))
    (of_decide_eq_true (exK_at ex 20 rfl))
    (of_decide_eq_true (exK_at ex 21 rfl))
    (of_decide_eq_true (exK_at ex 22 rfl))
    (of_decide_eq_true (exK_at ex 23 rfl))
    (of_decide_eq_true (exK_at ex 24 rfl))
    (of_decide_eq_true (exK_at ex 25 rfl))
    (of_decide_eq_true (exK_at ex 26 rfl))
    (of_decide_eq_true (exK_at ex 27 rfl))
    (of_decide_eq_true (exK_at ex 28 rfl))
    (of_decide_eq_true (exK_at ex 29 rfl))
    (of_decide_eq_true (exK_at ex 30 rfl))
    (of_decide_eq_true (exK_at ex 31 rfl))
    (of_decide_eq_true (exK_at ex 32 rfl))
    (of_decide_eq_true (exK_at ex 33 rfl))
    (of_decide_eq_true (exK_at ex 34 rfl))
    (fn_of_d (st := s_add) F_add g_add fun _ _ _ _ _ _ us hl => match us, hl with | [_, _], _ => rfl)
    (fn_of_d (st := s_subtract) F_subtract g_subtract fun _ _ _ _ _ _ us hl => match us, hl with | [_, _], _ => rfl)
    (fn_of_d (st := s_multiply) F_multiply g_multiply fun _ _ _ _ _ _ us hl => match us, hl with | [_, _], _ => rfl)
    (fn_of_d (st := s_negate) F_negate g_negate fun _ _ _ _ _ _ us hl => match us, hl with | [_], _ => rfl)
    (fn_of_d (st := s_divide) F_divide g_divide fun _ _ _ _ _ _ us hl => match us, hl with | [_, _], _ => rfl)
    (fn_of_d (st := s_compare) F_compare g_compare fun _ _ _ _ _ _ us hl => match us, hl with | [_, _], _ => rfl)
    (fn_of_d (st := s__shown_by) F__shown_by g__shown_by fun _ _ _ _ _ _ us hl => match us, hl with | [_, _], _ => rfl)
    (fn_of_d (st := s__jump_at) F__jump_at g__jump_at fun _ _ _ _ _ _ us hl => match us, hl with | [_, _], _ => rfl)
    (fn_of_d (st := s_jumps) F_jumps g_jumps fun _ _ _ _ _ _ us hl => match us, hl with | [_], _ => rfl)
    (fn_of_d (st := s_runs_within) F_runs_within g_runs_within fun _ _ _ _ _ _ us hl => match us, hl with | [_, _, _], _ => rfl)
    (fn_of_d (st := s_require_rates) F_require_rates g_require_rates fun _ _ _ _ _ _ us hl => match us, hl with | [_, _], _ => rfl)
    (fn_of_d (st := s_elapsed) F_elapsed g_elapsed fun _ _ _ _ _ _ us hl => match us, hl with | [_, _, _], _ => rfl)
    (fn_of_d (st := s__law_store) F__law_store g__law_store fun _ _ _ _ _ _ us hl => match us, hl with | [_], _ => rfl)
    (fn_of_d (st := s__law_feed) F__law_feed g__law_feed fun _ _ _ _ _ _ us hl => match us, hl with | [_], _ => rfl)
    (fn_of_d (st := s__law_mixed) F__law_mixed g__law_mixed fun _ _ _ _ _ _ us hl => match us, hl with | [_], _ => rfl)
    (fn_of_d (st := s__law_take) F__law_take g__law_take fun _ _ _ _ _ _ us hl => match us, hl with | [_, _], _ => rfl)
    (fn_of_d (st := s__law_pick) F__law_pick g__law_pick fun _ _ _ _ _ _ us hl => match us, hl with | [_, _], _ => rfl)
    (fn_of_d (st := s__law_is_int) F__law_is_int g__law_is_int fun _ _ _ _ _ _ us hl => match us, hl with | [_], _ => rfl)
    (fn_of_d (st := s__law_same) F__law_same g__law_same fun _ _ _ _ _ _ us hl => match us, hl with | [_, _], _ => rfl)
    (fn_of_d (st := s__law_frac) F__law_frac g__law_frac fun _ _ _ _ _ _ us hl => match us, hl with | [_, _], _ => rfl)
    (fn_of_d (st := s__law_plus) F__law_plus g__law_plus fun _ _ _ _ _ _ us hl => match us, hl with | [_, _], _ => rfl)
    (fn_of_d (st := s__law_minus) F__law_minus g__law_minus fun _ _ _ _ _ _ us hl => match us, hl with | [_, _], _ => rfl)
    (fn_of_d (st := s__law_times) F__law_times g__law_times fun _ _ _ _ _ _ us hl => match us, hl with | [_, _], _ => rfl)
    (fn_of_d (st := s__law_below) F__law_below g__law_below fun _ _ _ _ _ _ us hl => match us, hl with | [_, _], _ => rfl)
    (fn_of_d (st := s__law_is_frac) F__law_is_frac g__law_is_frac fun _ _ _ _ _ _ us hl => match us, hl with | [_], _ => rfl)
    (fn_of_d (st := s__law_ratio) F__law_ratio g__law_ratio fun _ _ _ _ _ _ us hl => match us, hl with | [_, _], _ => rfl)
    (fn_of_d (st := s__law_part) F__law_part g__law_part fun _ _ _ _ _ _ us hl => match us, hl with | [_], _ => rfl)
    (fn_of_d (st := s__law_spare) F__law_spare g__law_spare fun _ _ _ _ _ _ us hl => match us, hl with | [_], _ => rfl)
    (fn_of_d (st := s__law_above) F__law_above g__law_above fun _ _ _ _ _ _ us hl => match us, hl with | [_], _ => rfl)
    (fn_of_d (st := s__law_in_span) F__law_in_span g__law_in_span fun _ _ _ _ _ _ us hl => match us, hl with | [_, _], _ => rfl)
    (fn_of_d (st := s__law_is_span) F__law_is_span g__law_is_span fun _ _ _ _ _ _ us hl => match us, hl with | [_], _ => rfl)
    (fn_of_d (st := s__law_pace) F__law_pace g__law_pace fun _ _ _ _ _ _ us hl => match us, hl with | [_], _ => rfl)
    (fn_of_d (st := s__law_course) F__law_course g__law_course fun _ _ _ _ _ _ us hl => match us, hl with | [_, _, _], _ => rfl)
    (fn_of_d (st := s__law_negative) F__law_negative g__law_negative fun _ _ _ _ _ _ us hl => match us, hl with | [_], _ => rfl)
    (fn_of_d (st := s__law_not_above) F__law_not_above g__law_not_above fun _ _ _ _ _ _ us hl => match us, hl with | [_], _ => rfl)
    (fn_of_d (st := s__law_bad_rates) F__law_bad_rates g__law_bad_rates fun _ _ _ _ _ _ us hl => match us, hl with | [_], _ => rfl)
    (fn_of_d (st := s__law_alone) F__law_alone g__law_alone fun _ _ _ _ _ _ us hl => match us, hl with | [_], _ => rfl)
    (fn_of_d (st := s__law_now) F__law_now g__law_now fun _ _ _ _ _ _ us hl => match us, hl with | [_, _], _ => rfl)
    (fn_of_d (st := s__law_steady) F__law_steady g__law_steady fun _ _ _ _ _ _ us hl => match us, hl with | [_, _, _, _], _ => rfl)
    (fn_of_d (st := s__law_keeps) F__law_keeps g__law_keeps fun _ _ _ _ _ _ us hl => match us, hl with | [_, _, _], _ => rfl)
    (fn_of_d (st := s__law_changed_course) F__law_changed_course g__law_changed_course fun _ _ _ _ _ _ us hl => match us, hl with | [_, _], _ => rfl)
    (fn_of_d (st := s__law_told) F__law_told g__law_told fun _ _ _ _ _ _ us hl => match us, hl with | [_, _, _], _ => rfl)
    (fn_of_d (st := s__law_elapsed_right) F__law_elapsed_right g__law_elapsed_right fun _ _ _ _ _ _ us hl => match us, hl with | [_, _, _, _], _ => rfl)
    (fn_of_d (st := s__law_between_right) F__law_between_right g__law_between_right fun _ _ _ _ _ _ us hl => match us, hl with | [_, _, _, _, _], _ => rfl)
    (fn_of_d (st := s__law_when) F__law_when g__law_when fun _ _ _ _ _ _ us hl => match us, hl with | [_, _], _ => rfl)
    (fn_of_d (st := s__law_bounds_right) F__law_bounds_right g__law_bounds_right fun _ _ _ _ _ _ us hl => match us, hl with | [_, _, _], _ => rfl)
    (fn_of_d (st := s__law_long_right) F__law_long_right g__law_long_right fun _ _ _ _ _ _ us hl => match us, hl with | [_, _, _], _ => rfl)
    (fn_of_d (st := s_law) F_law g_law fun _ _ _ _ _ _ us hl => match us, hl with | [_], _ => rfl)
    z_ValueError
    (of_decide_eq_true (exK_at ex 35 rfl))
end
end Vk
open PySem PySem.W PySem.Calls PyProof.Rows
set_option maxRecDepth 100000 in
set_option maxHeartbeats 0 in
theorem PySem.Challenge.cw_clockverdict_k11_elapsed_holds : PySem.Challenge.rw_clockverdict_k11_elapsed.Holds := by
  w_on; o_law
  refine HandSHeadRun.head_imp (r := Vk.RH) (q := Vk.qH) (H := Vk.hkH) (ob := Vk.obH) (M := 20000) (loose := Vk.looseH) (d := HandSHeadRun.topDef (OpenLaw.row PySem.Challenge.rw_clockverdict_k11_elapsed).prog 85) (kwd := []) Vk.obV_eq Vk.runH
    (by kernel_rfl) (by kernel_rfl) (by kernel_rfl) (by rfl) (by first | assumption | decide +kernel) (by decide +kernel) ⟨rfl, rfl, rfl, rfl, rfl, by decide +kernel⟩ ?hw ?hc
  case hw => w_witness2
  case hc =>
    refine L2.walk_ofE (l := PySem.Challenge.rw_clockverdict_k11_elapsed) (n := 63) (k := 8) (x := "_law_script") (CX := L2.CX0) rfl (by decide) (by kernel_rfl) ⟨rfl, by decide, by decide⟩ ?F (fun _ _ _ _ z => z)
    intro w mg fa h Y G hmg0
    obtain ⟨K, KX, c⟩ := Y
    have hmg : mg ("law" : PySem.Str) = some (.ref fa) := by
      have e : (HandSHeadRun.topDef (OpenLaw.row PySem.Challenge.rw_clockverdict_k11_elapsed).prog 85).name = ("law" : PySem.Str) := by kernel_rfl
      rw [← e]
      exact hmg0
    obtain ⟨fd, hb, hF⟩ := Vk.all_mkV (P := (PySem.Challenge.rw_clockverdict_k11_elapsed).prog) (w := w) KX G hmg c
    exact ⟨K, fd, Vk.spLaw K, KX, hb, fun H a ns hl _ hS => ⟨a, ns, rfl, hS, hl, fun _ => rfl⟩, hF⟩

