import PyProof.Rows.All
import Wide.All
import OpenK.AllK
import Wide.FinOn
import HandS.ForMost
import HandS.Wide
import HandS.Gcd
import HandS.IsInst
import HandS.Deep
import HandS.Flow
import HandS.More
import HandS.SetFor
import HandS.Defaults
import PySem.Challenge.RW_clockverdict_k07_times_of_a_reading
set_option Elab.async false
set_option linter.all false
set_option maxRecDepth 100000
namespace Vm
/-! ### sizes of rationals -/
def Sz (k : Nat) (q : Rat) : Prop := q.num.natAbs < 2 ^ k ∧ q.den < 2 ^ k
theorem Sz.mono {a b : Nat} {q : Rat} (h : Sz a q) (l : a ≤ b) : Sz b q :=
  ⟨Nat.lt_of_lt_of_le h.1 (Nat.pow_le_pow_right (by decide) l), Nat.lt_of_lt_of_le h.2 (Nat.pow_le_pow_right (by decide) l)⟩
theorem mk_num (n : Int) {d : Nat} (hd : d ≠ 0) : (mkRat n d).num = n / ((Nat.gcd n.natAbs d : Nat) : Int) := by
  rw [Rat.num_mkRat, if_neg hd, Nat.gcd_comm]
theorem mk_den (n : Int) {d : Nat} (hd : d ≠ 0) : (mkRat n d).den = d / Nat.gcd n.natAbs d := by
  rw [Rat.den_mkRat, if_neg hd, Nat.gcd_comm]
theorem sz_mk {n : Int} {d k : Nat} (h : d ≠ 0) (hn : n.natAbs < 2 ^ k) (hd : d < 2 ^ k) : Sz k (mkRat n d) := by
  have e : ∀ (z : Int) (g : Nat), (z / (g : Int)).natAbs ≤ z.natAbs := fun z g => Int.natAbs_ediv_le_natAbs z g
  exact ⟨by rw [mk_num n h]; exact Nat.lt_of_le_of_lt (e _ _) hn, by rw [mk_den n h]; exact Nat.lt_of_le_of_lt (Nat.div_le_self _ _) hd⟩
theorem lt_mul {a b i j : Nat} (h : a < 2 ^ i) (l : b < 2 ^ j) : a * b < 2 ^ (i + j) := by
  rw [Nat.pow_add]
  exact Nat.mul_lt_mul'' h l
theorem Sz.add {a b : Nat} {p q : Rat} (h : Sz a p) (l : Sz b q) : Sz (a + b + 1) (p + q) := by
  rw [Rat.add_def']
  have h1 := lt_mul h.1 l.2
  have h2 := lt_mul l.1 h.2
  have h3 := lt_mul h.2 l.2
  rw [Nat.add_comm b a] at h2
  refine sz_mk (Nat.ne_of_gt (Nat.mul_pos p.den_pos q.den_pos)) ?_ ?_
  · rw [Nat.pow_succ]
    have q1 := Int.natAbs_add_le (p.num * q.den) (q.num * p.den)
    rw [Int.natAbs_mul, Int.natAbs_mul, Int.natAbs_natCast, Int.natAbs_natCast] at q1
    omega
  · rw [Nat.pow_succ]
    omega
theorem Sz.neg {a : Nat} {p : Rat} (h : Sz a p) : Sz a (-p) := ⟨by rw [Rat.neg_num, Int.natAbs_neg]; exact h.1, h.2⟩
theorem Sz.sub {a b : Nat} {p q : Rat} (h : Sz a p) (l : Sz b q) : Sz (a + b + 1) (p - q) := by
  rw [Rat.sub_eq_add_neg]
  exact h.add l.neg
theorem Sz.mul {a b : Nat} {p q : Rat} (h : Sz a p) (l : Sz b q) : Sz (a + b) (p * q) := by
  rw [Rat.mul_def']
  refine sz_mk (Nat.ne_of_gt (Nat.mul_pos p.den_pos q.den_pos)) ?_ (lt_mul h.2 l.2)
  rw [Int.natAbs_mul]
  exact lt_mul h.1 l.1
theorem num_pos {q : Rat} (h : 0 < q) : 0 < q.num := by
  have z := (Rat.lt_iff 0 q).mp h
  simp at z
  exact z
theorem pos_of_num {q : Rat} (h : 0 < q.num) : 0 < q := by
  rw [Rat.lt_iff]
  simp
  exact h
theorem Sz.inv {a : Nat} {q : Rat} (h : Sz a q) (hq : 0 < q) : Sz a q⁻¹ := by
  have hn := num_pos hq
  refine ⟨?_, ?_⟩
  · rw [Rat.num_inv, Int.sign_eq_one_of_pos hn, Int.one_mul, Int.natAbs_natCast]
    exact h.2
  · rw [Rat.den_inv, if_neg (by omega)]
    exact h.1
theorem Sz.div {a b : Nat} {p q : Rat} (h : Sz a p) (l : Sz b q) (hq : 0 < q) : Sz (a + b) (p / q) := by
  rw [Rat.div_def]
  exact h.mul (l.inv hq)
/-! ### normal forms -/
theorem nf {n : Int} {d : Nat} (hd : d ≠ 0) (hc : Nat.gcd n.natAbs d = 1) : (mkRat n d).num = n ∧ (mkRat n d).den = d := by
  rw [mk_num n hd, mk_den n hd, hc]
  simp
theorem div_mk (p q : Rat) (hq : 0 < q) : p / q = mkRat (p.num * q.den) (p.den * q.num.toNat) := by
  have hn := num_pos hq
  rw [Rat.div_def, Rat.mul_def', Rat.num_inv, Rat.den_inv, if_neg (by omega), Int.sign_eq_one_of_pos hn, Int.one_mul]
  congr 2
  omega
/-- the sum by the divisors of the denominators alone -/
theorem add_parts (a b : Rat) (g f : Nat) (n : Int) (r : Nat) (hg : g = Nat.gcd a.den b.den) (hf : f = b.den / g) (hn : n = a.num * f + b.num * ((a.den / g : Nat) : Int)) (hr : r = Nat.gcd n.natAbs g) :
    (a + b).num = n / (r : Int) ∧ (a + b).den = a.den / r * f := by
  have gp : 0 < g := by rw [hg]; exact Nat.gcd_pos_of_pos_left _ a.den_pos
  obtain ⟨u, hu⟩ : g ∣ a.den := by rw [hg]; exact Nat.gcd_dvd_left _ _
  obtain ⟨v, hv⟩ : g ∣ b.den := by rw [hg]; exact Nat.gcd_dvd_right _ _
  have eu : a.den / g = u := by rw [hu]; exact Nat.mul_div_cancel_left _ gp
  have ev : f = v := by rw [hf, hv]; exact Nat.mul_div_cancel_left _ gp
  subst ev
  rw [eu] at hn
  have up : 0 < u := Nat.pos_of_ne_zero fun z => by rw [z, Nat.mul_zero] at hu; exact absurd hu (Nat.ne_of_gt a.den_pos)
  have fp : 0 < f := Nat.pos_of_ne_zero fun z => by rw [z, Nat.mul_zero] at hv; exact absurd hv (Nat.ne_of_gt b.den_pos)
  have cuf : Nat.Coprime u f := by
    have z : g * Nat.gcd u f = g := by rw [← Nat.gcd_mul_left, ← hu, ← hv, ← hg]
    exact Nat.eq_of_mul_eq_mul_left gp (by rw [z, Nat.mul_one])
  have ca : Nat.Coprime a.num.natAbs u := (Nat.Coprime.coprime_dvd_right ⟨g, by rw [hu, Nat.mul_comm]⟩ a.reduced)
  have cb : Nat.Coprime b.num.natAbs f := (Nat.Coprime.coprime_dvd_right ⟨g, by rw [hv, Nat.mul_comm]⟩ b.reduced)
  have key : ∀ (x y z : Int) (m : Nat), x = y + z * m → Nat.gcd x.natAbs m = Nat.gcd y.natAbs m := by
    intro x y z m h
    have e : ∀ t : Int, Nat.gcd t.natAbs m = Int.gcd t m := fun t => by rw [Int.gcd]; simp
    rw [e, e, h, Int.gcd_add_mul_right_left]
  have cnu : Nat.Coprime n.natAbs u := by
    have z := key n (a.num * f) b.num u hn
    unfold Nat.Coprime
    rw [z, Int.natAbs_mul, Int.natAbs_natCast]
    exact Nat.Coprime.mul_left ca cuf.symm
  have cnf : Nat.Coprime n.natAbs f := by
    have z := key n (b.num * u) a.num f (by rw [hn, Int.add_comm])
    unfold Nat.Coprime
    rw [z, Int.natAbs_mul, Int.natAbs_natCast]
    exact Nat.Coprime.mul_left cb cuf
  have cn : Nat.Coprime n.natAbs (u * f) := Nat.Coprime.mul_right cnu cnf
  have er : Nat.gcd n.natAbs (g * (u * f)) = r := by
    rw [hr]
    exact Nat.Coprime.gcd_mul_right_cancel_right g cn.symm
  have es : a + b = mkRat n (g * (u * f)) := by
    rw [Rat.add_def', hu, hv, hn]
    have z := Rat.mkRat_mul_left (n := a.num * f + b.num * u) (d := g * (u * f)) (a := g) (by omega)
    rw [← z]
    congr 1
    · push_cast
      grind
    · grind
  have dn : g * (u * f) ≠ 0 := Nat.ne_of_gt (Nat.mul_pos gp (Nat.mul_pos up fp))
  have rg : r ∣ g := by rw [hr]; exact Nat.gcd_dvd_right _ _
  refine ⟨by rw [es, mk_num n dn, er], ?_⟩
  rw [es, mk_den n dn, er, hu]
  obtain ⟨w, hw⟩ := rg
  have rp : 0 < r := Nat.pos_of_ne_zero fun z => by rw [z, Nat.zero_mul] at hw; omega
  rw [hw, Nat.mul_assoc, Nat.mul_div_cancel_left _ rp, Nat.mul_assoc, Nat.mul_div_cancel_left _ rp, Nat.mul_assoc]
/-! ### what the cross products make -/
theorem tn (a b : Nat) : ((a : Int) * (b : Int)).toNat = a * b := by
  rw [← Int.natCast_mul]
  rfl
theorem mk_add (p q : Rat) : mkRat (p.num * (q.den : Int) + q.num * (p.den : Int)) ((p.den : Int) * (q.den : Int)).toNat = p + q := by rw [tn, Rat.add_def']
theorem mk_sub (p q : Rat) : mkRat (p.num * (q.den : Int) - q.num * (p.den : Int)) ((p.den : Int) * (q.den : Int)).toNat = p - q := by rw [tn, Rat.sub_def']
theorem mk_mul (p q : Rat) : mkRat (p.num * q.num) ((p.den : Int) * (q.den : Int)).toNat = p * q := by rw [tn, Rat.mul_def']
theorem dd_pos (p q : Rat) : 0 < (p.den : Int) * (q.den : Int) := Int.mul_pos (by have := p.den_pos; omega) (by have := q.den_pos; omega)
theorem ab_mul {i j : Int} {a b : Nat} (h : i.natAbs < 2 ^ a) (l : j.natAbs < 2 ^ b) : (i * j).natAbs < 2 ^ (a + b) := by
  rw [Int.natAbs_mul]
  exact lt_mul h l
theorem ab_add {i j : Int} {a : Nat} (h : i.natAbs < 2 ^ a) (l : j.natAbs < 2 ^ a) : (i + j).natAbs < 2 ^ (a + 1) := by
  rw [Nat.pow_succ]
  omega
theorem ab_sub {i j : Int} {a : Nat} (h : i.natAbs < 2 ^ a) (l : j.natAbs < 2 ^ a) : (i - j).natAbs < 2 ^ (a + 1) := by
  rw [Nat.pow_succ]
  omega
theorem ab_up {i : Int} {a b : Nat} (h : i.natAbs < 2 ^ a) (l : a ≤ b) : i.natAbs < 2 ^ b := Nat.lt_of_lt_of_le h (Nat.pow_le_pow_right (by decide) l)
theorem ab_le {i j : Int} {a : Nat} (h : i.natAbs < 2 ^ a) (l : j.natAbs ≤ i.natAbs) : j.natAbs < 2 ^ a := Nat.lt_of_le_of_lt l h
theorem nn {m : Nat} {p : Rat} (h : Sz m p) : 0 < m := by
  cases m with
  | zero => have := h.2; have := p.den_pos; simp at *; omega
  | succ m => exact Nat.succ_pos _
theorem dA {m : Nat} {p : Rat} (h : Sz m p) : ((p.den : Nat) : Int).natAbs < 2 ^ m := h.2
theorem lt_num {p q : Rat} : p < q ↔ p.num * (q.den : Int) < q.num * (p.den : Int) := Rat.lt_iff p q
theorem eq_num {p q : Rat} : p = q ↔ p.num * (q.den : Int) = q.num * (p.den : Int) := Rat.eq_iff_mul_eq_mul
end Vm

namespace Vk
open PySem L2
/-! ### defs as they stand, and with a promise -/
structure Fn (K : PySem.W.Frag) (mg : Str → Option Value) (x : Str) (st : Stmt) (ps : List Str) (f : Addr) (fd : FuncData) : Prop where
  F : Fun K x x st f fd
  m : mg x = some (.ref f)
  b : Binds K fd ps []
structure Def (P : Program) (w : World) (K : PySem.W.Frag) (mg : Str → Option Value) (base : Heap) (k : Nat) (x : Str) (ps : List Str) (sp : Sp) (f : Addr) (fd : FuncData) : Prop where
  ok : FnOk P w K mg base CX0 k f fd ps sp
  m : mg x = some (.ref f)
  kp : PySem.W.keepIn K (.ref f) = true
  b : Binds K fd ps []
theorem Def.up {P : Program} {w : World} {K : PySem.W.Frag} {mg : Str → Option Value} {base : Heap} {j k : Nat} {x : Str} {ps : List Str} {sp : Sp} {f : Addr} {fd : FuncData} (d : Def P w K mg base j x ps sp f fd) (h : j ≤ k) : Def P w K mg base k x ps sp f fd := ⟨d.ok.mono h, d.m, d.kp, d.b⟩
theorem pcall {X : Cx} {k : Nat} {f : Addr} {fd : FuncData} {ps : List Str} {sp : Sp} {x : Str} {p pos : Pos} {e : Expr} {es : List Expr} {t : TA} (D : Def X.prog X.w X.K X.mg X.base k x ps sp f fd) (hr : Room k X.A) (ha : PA X (e :: es) t)
    (hg : Gl X x := by rfl) (hdb : (x == ("__debug__" : Str)) = false := by decide) (he : starEach (e :: es) X.env = (false, eval e X.env) :: starEach es X.env := by rfl) (hpl : (backTo pos (starEach es X.env)).any (·.1) = false := by rfl) :
    PE X (.Call (.Name x p) (e :: es) [] pos) (tCall sp [] E0 t) := pe_call D.ok hr hg D.m D.kp D.b .nil pass0 ha hdb he hpl
/-- a def as it stands, whatever its defaults are -/
structure FunA (K : PySem.W.Frag) (x qual : Str) (st : Stmt) (f : Addr) (fd : FuncData) : Prop where
  ex : ∃ (oc : Value) (od : Option Addr) (dV kV doc pm : Value) (an : Option Addr) (cdv ct : Value) (osl : Array (Option Value)),
    fd = PySem.W.fnOf x qual (defArgs st) (defBody st) (defScope st) dV kV doc pm an cdv ct ∧ K.lookup f = some ⟨oc, od, .func fd, osl⟩ ∧ PySem.W.codeIn K cdv qual = true
  kp : PySem.W.keepIn K (.ref f) = true
theorem FunA.ok {P : Program} {w : World} {K : PySem.W.Frag} {mg : Str → Option Value} {base : Heap} {x qual : Str} {st : Stmt} {f : Addr} {fd : FuncData} {N ps : List Str} {k : Nat} {sp : Sp} (F : FunA K x qual st f fd) (S : FnScope N ps (defScope st)) (len : ∀ vs H Q E, sp vs H Q E → vs.length = ps.length)
    (hbody : ∀ (cdv : Value) (A : Around) (outer : List Env) (s : Shared) (H : Hp) (vs : List V) (Q : VK) (E : XK), Room k (A.deeper (PyProof.Rows.envOfC qual (defScope st) s.heap.objs.size f cdv)) → sp vs H Q E →
      ∃ t, PSs (cxOf CX0 P w K mg base N qual (defScope st) f cdv A outer s H E).nox (defBody st) t ∧ t { nx := fun _ H' => Q .non H', rt := Q } (start N vs) H) : FnOk P w K mg base CX0 (k + 1) f fd ps sp := by
  obtain ⟨oc, od, dV, kV, doc, pm, an, cdv, ct, osl, rfl, lk, hcd⟩ := F.ex
  refine fn_of lk hcd S len fun A outer s H vs Q E hr hsp => ?_
  obtain ⟨t, h, q⟩ := hbody cdv A outer s H vs Q E hr hsp
  exact ⟨t, h.nox, q⟩
/-- the built-in names as the top leaves them -/
structure Bn (mg : Str → Option Value) : Prop where
  gcd_ : mg "gcd" = some (.builtin "math.gcd")
  len_ : mg "len" = none
  abs_ : mg "abs" = none
  max_ : mg "max" = none
  int_ : mg "int" = none
  isinstance_ : mg "isinstance" = none
  range_ : mg "range" = none
  enumerate_ : mg "enumerate" = none
  list_ : mg "list" = none
  tuple_ : mg "tuple" = none
  str_ : mg "str" = none
  bool_ : mg "bool" = none
  dict_ : mg "dict" = none
/-! ### heaps -/
theorem _root_.L2.Same.sqt {K : PySem.W.Frag} {H H' : Hp} {a : Addr} {xs : List V} (e : Same H H') (h : SqT K H a xs) : SqT K H' a xs := by
  rcases h with (h | ⟨o, h⟩) | h
  · exact .inl (.inl (e _ _ h))
  · exact .inl (.inr ⟨o, e _ _ h⟩)
  · exact .inr h
theorem same_new {H : Hp} {p : Addr} (h : H p = none) (o : HO) : Same H (upd H p o) := fun b u q => by rw [upd_ne (ne_of_none q h)]; exact q
/-- a pair of ints that stands for q -/
def Rq (K : PySem.W.Frag) (H : Hp) (v : V) (q : Rat) : Prop := ∃ a, v = .ref a ∧ SqT K H a [.int q.num, .int (q.den : Int)]
theorem Rq.same {K : PySem.W.Frag} {H H' : Hp} {v : V} {q : Rat} (e : Same H H') (h : Rq K H v q) : Rq K H' v q := by
  obtain ⟨a, rfl, h⟩ := h
  exact ⟨a, rfl, e.sqt h⟩
theorem sz2 : 2 ≤ sizeLine := by decide
theorem at0 {xs : List V} {v : V} (h : xs[0]? = some v) : atI xs 0 = some v := atI_nat (j := 0) h
theorem at1 {xs : List V} {v : V} (h : xs[1]? = some v) : atI xs 1 = some v := atI_nat (j := 1) h
theorem at2 {xs : List V} {v : V} (h : xs[2]? = some v) : atI xs 2 = some v := atI_nat (j := 2) h
theorem ifT {c : Bool} {A B : Prop} (hc : c = true) (h : A) : if c = true then A else B := by
  rw [if_pos hc]
  exact h
theorem ifF {c : Bool} {A B : Prop} (hc : c = false) (h : B) : if c = true then A else B := by
  rw [hc, if_neg Bool.false_ne_true]
  exact h
theorem dF {p : Prop} [Decidable p] (h : ¬ p) : decide p = false := decide_eq_false h
theorem dT {p : Prop} [Decidable p] (h : p) : decide p = true := decide_eq_true h
theorem ifD {p : Prop} [Decidable p] {A B : Prop} (h1 : p → A) (h2 : ¬ p → B) : if decide p = true then A else B := by
  by_cases h : p
  · exact ifT (decide_eq_true h) (h1 h)
  · exact ifF (decide_eq_false h) (h2 h)
theorem fmod_nat (x m : Nat) : (x : Int).fmod (m : Int) = ((x % m : Nat) : Int) := by
  rw [Int.fmod_eq_emod_of_nonneg _ (by omega)]
  rfl
/-- what stands behind a statement, said once for all its ways -/
theorem cut {t u : TS} {D : Ends} {σ : L2.St} {H : Hp} (mid : L2.St → Hp → Prop) (key : ∀ σ' H', mid σ' H' → u D σ' H') (h : (∀ σ' H', mid σ' H' → u D σ' H') → tSeq t u D σ H) : tSeq t u D σ H := h key
/-! ### the store of draws -/
/-- at s stands a store: the script's list at l, five counters -/
def Sto (l s : Addr) (H : Hp) : Prop := ∃ (ns : List Int) (pos num seed hold cnt : Int), H s = some (.lst [.ref l, .int pos, .int num, .int seed, .int hold, .int cnt]) ∧ l ≠ s ∧ H l = some (.lst (ns.map V.int)) ∧ ns.length ≤ 63 ∧ 0 ≤ pos ∧ 0 ≤ num ∧ 0 ≤ seed ∧ seed < 1000000007
/-- all but what stands at s is as it was -/
def Fr (s : Addr) (H H' : Hp) : Prop := ∀ b o, H b = some o → b ≠ s → H' b = some o
theorem Fr.refl (s : Addr) (H : Hp) : Fr s H H := fun _ _ h _ => h
theorem Fr.trans {s : Addr} {H H1 H2 : Hp} (a : Fr s H H1) (b : Fr s H1 H2) : Fr s H H2 := fun c o h n => b c o (a c o h n) n
theorem Fr.of {s : Addr} {H H' : Hp} (e : Same H H') : Fr s H H' := fun b o h _ => e b o h
theorem Fr.upd {s : Addr} {H : Hp} (o : HO) : Fr s H (upd H s o) := fun b u h n => by rw [upd_ne n]; exact h
theorem Fr.free {s : Addr} {H H' : Hp} (e : Fr s H H') {p : Addr} (h : H' p = none) (n : p ≠ s) : H p = none := by
  cases q : H p with
  | none => rfl
  | some o =>
    rw [e p o q n] at h
    cases h
theorem Sto.some {l s : Addr} {H : Hp} (h : Sto l s H) : ∃ xs, H s = some (.lst xs) := by
  obtain ⟨_, _, _, _, _, _, h, _⟩ := h
  exact ⟨_, h⟩
theorem Sto.ne {l s : Addr} {H : Hp} (h : Sto l s H) {p : Addr} (n : H p = none) : p ≠ s := by
  obtain ⟨xs, h⟩ := h.some
  exact fun z => by rw [z, h] at n; cases n
theorem Sto.nl {l s : Addr} {H : Hp} (h : Sto l s H) {p : Addr} (n : H p = none) : p ≠ l := by
  obtain ⟨_, _, _, _, _, _, _, _, h, _⟩ := h
  exact fun z => by rw [z, h] at n; cases n
theorem Sto.same {l s : Addr} {H H' : Hp} (e : Same H H') (h : Sto l s H) : Sto l s H' := by
  obtain ⟨ns, pos, num, seed, hold, cnt, h1, h2, h3, r⟩ := h
  exact ⟨ns, pos, num, seed, hold, cnt, e _ _ h1, h2, e _ _ h3, r⟩
/-- what becomes of another list does not matter -/
theorem Sto.upd {l s D : Addr} {H : Hp} {o : HO} (h : Sto l s H) (n1 : D ≠ s) (n2 : D ≠ l) : Sto l s (upd H D o) := by
  obtain ⟨ns, pos, num, seed, hold, cnt, h1, h2, h3, r⟩ := h
  exact ⟨ns, pos, num, seed, hold, cnt, by rw [upd_ne (Ne.symm n1)]; exact h1, h2, by rw [upd_ne (Ne.symm n2)]; exact h3, r⟩
/-- a tuple outlives what becomes of a list -/
theorem sqt_fr {K : PySem.W.Frag} {s a : Addr} {H H' : Hp} {xs : List V} (e : Fr s H H') (hs : ∃ ys, H s = some (.lst ys)) (h : SqT K H a xs) : SqT K H' a xs := by
  obtain ⟨ys, hs⟩ := hs
  have n : ∀ {o : HO}, H a = some o → (∀ ys, o ≠ .lst ys) → a ≠ s := fun {o} h1 h2 z => by
    rw [z, hs] at h1
    exact h2 ys (Option.some.inj h1).symm
  rcases h with (h | ⟨o, h⟩) | h
  · exact .inl (.inl (e _ _ h (n h fun _ z => by cases z)))
  · exact .inl (.inr ⟨o, e _ _ h (n h fun _ z => by cases z)⟩)
  · exact .inr h
theorem Rq.fr {K : PySem.W.Frag} {s : Addr} {H H' : Hp} {v : V} {q : Rat} (e : Fr s H H') (hs : ∃ ys, H s = some (.lst ys)) (h : Rq K H v q) : Rq K H' v q := by
  obtain ⟨a, rfl, h⟩ := h
  exact ⟨a, rfl, sqt_fr e hs h⟩
theorem seq_fr {K : PySem.W.Frag} {s a : Addr} {H H' : Hp} {xs : List V} (e : Fr s H H') (n : a ≠ s) (h : SqL K H a xs) : SqL K H' a xs := by
  rcases h with (h | ⟨o, h⟩) | h
  · exact .inl (.inl (e _ _ h n))
  · exact .inl (.inr ⟨o, e _ _ h n⟩)
  · exact .inr h
theorem sm6 : 6 ≤ sizeLine := by decide
theorem sm4 : 4 ≤ sizeLine := by decide
theorem sm3 : 3 ≤ sizeLine := by decide
theorem sm5 : 5 ≤ sizeLine := by decide
end Vk

namespace Vk
open PySem L2 Vm
def top (i : Nat) : Stmt := PySem.Challenge.pw_clockverdict_k07_times_of_a_reading.main.body.getD i (.Pass ⟨0, 0, 0, 0⟩)
variable {P : Program} {w : World} {K : PySem.W.Frag} {mg : Str → Option Value} {base : Heap} {k : Nat} {f f1 f2 f3 f4 f5 f6 f7 f8 f9 : Addr} {fd fd1 fd2 fd3 fd4 fd5 fd6 fd7 fd8 fd9 : FuncData}
/-! ### the law's own rationals -/
def spFrac (K : PySem.W.Frag) : Sp := fun vs H Q _ => ∃ (n d : Int) (b : Nat), vs = [.int n, .int d] ∧ 0 < d ∧ n.natAbs < 2 ^ b ∧ d.natAbs < 2 ^ b ∧ b ≤ 9000 ∧
  ∀ r H', Same H H' → Rq K H' r (mkRat n d.toNat) → Q r H'
abbrev s__law_frac : Stmt := top 24
abbrev N__law_frac : List Str := ["_law_n", "_law_d", "_law_a", "_law_b"]
theorem sc__law_frac : FnScope N__law_frac ["_law_n", "_law_d"] (defScope s__law_frac) := ⟨rfl, rfl, rfl, by decide +kernel, rfl, by decide +kernel, by decide +kernel⟩
abbrev ps__law_frac : List Str := ["_law_n", "_law_d"]
theorem ok_frac (T : Bn mg) (F : Fn K mg "_law_frac" s__law_frac ps__law_frac f fd) : Def P w K mg base (k + 1) "_law_frac" ps__law_frac (spFrac K) f fd := by
  refine ⟨F.F.ok sc__law_frac (fun vs H Q E h => ?_) (fun cdv A outer s H vs Q E hr h => ?_), F.m, F.F.kp, F.b⟩
  · obtain ⟨n, d, b, rfl, _⟩ := h
    rfl
  obtain ⟨n, d, b, rfl, hd, hn, hdb, hb, q⟩ := h
  refine ⟨_, (pss_cons (ps_if (pt_cmpR op_eq (pv 1) pe_int (nomark _))
        (pss_one (ps_ret (pe_tup (pa_cons pe_int (pa_cons pe_int pa_nil)))))
        pss_nil)
      (pss_cons (ps_set (i := 2) sc__law_frac.nd rfl (Or.inl rfl) (pe_callB call_abs (by rfl) T.abs_ (by decide +kernel) (pa_cons (pv 0) pa_nil)))
      (pss_cons (ps_set (i := 3) sc__law_frac.nd rfl (Or.inl rfl) (pe_callB call_abs (by rfl) T.abs_ (by decide +kernel) (pa_cons (pv 1) pa_nil)))
      (pss_cons (ps_while PassesOwn.never (pt_cmpR op_gt (pv 3) pe_int (nomark _))
        (pss_one (ps_par (i := 2) (j := 3) (by rfl) sc__law_frac.nd rfl rfl (by decide) rfl rfl (pa_cons (pv 3) (pa_cons (pe_op op_modN (pe_callTy call_int1 (by rfl) T.int_ (by decide +kernel) (pa_cons (pv 2) pa_nil)) (pv 3)) pa_nil)) (by rfl))))
      (pss_cons (ps_if (pt_cmpR op_lt (pv 1) pe_int (nomark _))
        (pss_one (ps_set (i := 2) sc__law_frac.nd rfl (Or.inl rfl) (pe_op op_sub pe_int (pv 2))))
        pss_nil)
      (pss_one (ps_ret (pe_tup (pa_cons (pe_op op_fdivW (pv 0) (pv 2)) (pa_cons (pe_op op_fdivW (pv 1) (pv 2)) pa_nil)))))))))), ?_⟩
  have b0 : 0 < b := by
    cases b with
    | zero => simp at hdb; omega
    | succ b => exact Nat.succ_pos _
  -- if _law_d == 0
  refine ⟨_, rfl, rfl, _, rfl, ifF (dF fun c => by cases c; omega) ?_⟩
  have ea : ∀ z : Int, (if z < 0 then -z else z) = (z.natAbs : Int) := fun z => by split <;> omega
  refine ⟨_, rfl, _, rfl, _, rfl, _, rfl, (fun m σ H' => ∃ x y : Nat, m = y ∧ σ = [some (.int n), some (.int d), some (.int x), some (.int y)] ∧ H' = H ∧ Nat.gcd x y = Nat.gcd n.natAbs d.natAbs),
    ⟨_, n.natAbs, d.natAbs, rfl, by rw [ea, ea]; rfl, rfl, rfl⟩, ?_⟩
  rintro m σ H' ⟨x, y, em, rfl, rfl, hg⟩
  subst em
  -- while _law_b > 0
  refine ⟨_, rfl, _, _, rfl, rfl, _, rfl, ifD (fun c => ?_) (fun c => ?_)⟩
  · refine ⟨_, fun _ _ z => z, _, rfl, _, rfl, .inl ⟨_, rfl, _, rfl, _, _, rfl, rfl, by omega, _, _, rfl, ?_⟩⟩
    refine ⟨x % m, Nat.mod_lt _ (by omega), m, x % m, rfl, ?_, rfl, ?_⟩
    · show [some (V.int n), some (V.int d), some (V.int (m : Int)), some (V.int ((x : Int).fmod (m : Int)))] = _
      rw [fmod_nat]
    · rw [← hg, Nat.gcd_comm x m, Nat.gcd_rec m x, Nat.gcd_comm]
  have y0 : m = 0 := by omega
  subst y0
  rw [Nat.gcd_zero_right] at hg
  subst hg
  have dn : d.toNat ≠ 0 := by omega
  have gp : 0 < Nat.gcd n.natAbs d.natAbs := Nat.gcd_pos_of_pos_right _ (by omega)
  have gb : (((Nat.gcd n.natAbs d.natAbs : Nat) : Int)).natAbs < 2 ^ b := by
    rw [Int.natAbs_natCast]
    exact Nat.lt_of_le_of_lt (Nat.gcd_le_right _ (by omega)) hdb
  have w : CDivW n ((Nat.gcd n.natAbs d.natAbs : Nat) : Int) := wide_div (by omega) gb b0 (by omega)
  have w2 : CDivW d ((Nat.gcd n.natAbs d.natAbs : Nat) : Int) := wide_div (by omega) gb b0 (by omega)
  have ed : d.toNat = d.natAbs := by omega
  refine ⟨_, rfl, _, _, rfl, rfl, _, rfl, ifF (dF (by omega)) ?_⟩
  refine ⟨_, rfl, _, rfl, _, _, rfl, rfl, w, _, rfl, _, rfl, _, _, rfl, rfl, w2, sz2, fun p hp => ?_⟩
  refine q _ _ (same_new hp _) ⟨p, rfl, SqT.of ?_⟩
  rw [upd_same, mk_num n dn, mk_den n dn, ed]
  congr 4
  have e : d = (d.natAbs : Int) := by omega
  rw [show (((d.natAbs / Nat.gcd n.natAbs d.natAbs : Nat)) : Int) = (d.natAbs : Int) / ((Nat.gcd n.natAbs d.natAbs : Nat) : Int) from Int.natCast_ediv _ _]
  rw [← e]
/-- two rationals in, their f out -/
def spOp2 (K : PySem.W.Frag) (g : Rat → Rat → Rat) : Sp := fun vs H Q _ => ∃ (x y : V) (p q : Rat) (m l : Nat), vs = [x, y] ∧ Rq K H x p ∧ Rq K H y q ∧ Sz m p ∧ Sz l q ∧ m + l + 1 ≤ 9000 ∧
  ∀ r H', Same H H' → Rq K H' r (g p q) → Q r H'
/-- two rationals in, a test of them out -/
def spTest2 (K : PySem.W.Frag) (g : Rat → Rat → V) : Sp := fun vs H Q _ => ∃ (x y : V) (p q : Rat) (m l : Nat), vs = [x, y] ∧ Rq K H x p ∧ Rq K H y q ∧ Sz m p ∧ Sz l q ∧ m + l + 1 ≤ 900000 ∧ Q (g p q) H
theorem mulW {m l : Nat} {i j : Int} (hi : i.natAbs < 2 ^ m) (hj : j.natAbs < 2 ^ l) (h0 : 0 < m) (h1 : 0 < l) (h : m + l ≤ 900000) : CMulW i j := wide_mul hi hj h0 h1 (by omega)
abbrev s__law_plus : Stmt := top 25
abbrev N__law_plus : List Str := ["_law_a", "_law_b"]
theorem sc__law_plus : FnScope N__law_plus ["_law_a", "_law_b"] (defScope s__law_plus) := ⟨rfl, rfl, rfl, by decide +kernel, rfl, by decide +kernel, by decide +kernel⟩
abbrev ps__law_plus : List Str := ["_law_a", "_law_b"]
theorem ok_plus (F : Fn K mg "_law_plus" s__law_plus ps__law_plus f fd) (d_law_frac : Def P w K mg base k "_law_frac" ["_law_n", "_law_d"] (spFrac K) f1 fd1) : Def P w K mg base (k + 1) "_law_plus" ps__law_plus (spOp2 K (· + ·)) f fd := by
  refine ⟨F.F.ok sc__law_plus (fun vs H Q E h => ?_) (fun cdv A outer s H vs Q E hr h => ?_), F.m, F.F.kp, F.b⟩
  · obtain ⟨x, y, p, q, m, l, rfl, _⟩ := h
    rfl
  obtain ⟨x, y, p, q, m, l, rfl, ⟨a, rfl, ha⟩, ⟨b, rfl, hb⟩, zp, zq, hm, z⟩ := h
  have m0 := nn zp
  have l0 := nn zq
  refine ⟨_, (pss_one (ps_ret (pcall d_law_frac hr (pa_cons (pe_op op_add (pe_op op_mulW (pe_ix ix_tup (pv 0) pe_int (fun _ _ => rfl)) (pe_ix ix_tup (pv 1) pe_int (fun _ _ => rfl))) (pe_op op_mulW (pe_ix ix_tup (pv 1) pe_int (fun _ _ => rfl)) (pe_ix ix_tup (pv 0) pe_int (fun _ _ => rfl)))) (pa_cons (pe_op op_mulW (pe_ix ix_tup (pv 0) pe_int (fun _ _ => rfl)) (pe_ix ix_tup (pv 1) pe_int (fun _ _ => rfl))) pa_nil))))), ?_⟩
  refine ⟨_, rfl, a, _, _, _, rfl, rfl, ha, at0 rfl, _, rfl, b, _, _, _, rfl, rfl, hb, at1 rfl, _, _, rfl, rfl, mulW zp.1 (dA zq) m0 l0 (by omega), ?_⟩
  refine ⟨_, rfl, b, _, _, _, rfl, rfl, hb, at0 rfl, _, rfl, a, _, _, _, rfl, rfl, ha, at1 rfl, _, _, rfl, rfl, mulW zq.1 (dA zp) l0 m0 (by omega), _, _, rfl, rfl, ?_⟩
  refine ⟨_, rfl, a, _, _, _, rfl, rfl, ha, at1 rfl, _, rfl, b, _, _, _, rfl, rfl, hb, at1 rfl, _, _, rfl, rfl, mulW (dA zp) (dA zq) m0 l0 (by omega), ?_⟩
  refine ⟨_, _, m + l + 1, rfl, dd_pos p q, ab_add (ab_mul zp.1 (dA zq)) (ab_up (ab_mul zq.1 (dA zp)) (by omega)), ab_up (ab_mul (dA zp) (dA zq)) (by omega), by omega, fun r H' e hr => z r H' e ?_⟩
  rw [mk_add] at hr
  exact hr
abbrev s__law_minus : Stmt := top 26
abbrev N__law_minus : List Str := ["_law_a", "_law_b"]
theorem sc__law_minus : FnScope N__law_minus ["_law_a", "_law_b"] (defScope s__law_minus) := ⟨rfl, rfl, rfl, by decide +kernel, rfl, by decide +kernel, by decide +kernel⟩
abbrev ps__law_minus : List Str := ["_law_a", "_law_b"]
theorem ok_minus (F : Fn K mg "_law_minus" s__law_minus ps__law_minus f fd) (d_law_frac : Def P w K mg base k "_law_frac" ["_law_n", "_law_d"] (spFrac K) f1 fd1) : Def P w K mg base (k + 1) "_law_minus" ps__law_minus (spOp2 K (· - ·)) f fd := by
  refine ⟨F.F.ok sc__law_minus (fun vs H Q E h => ?_) (fun cdv A outer s H vs Q E hr h => ?_), F.m, F.F.kp, F.b⟩
  · obtain ⟨x, y, p, q, m, l, rfl, _⟩ := h
    rfl
  obtain ⟨x, y, p, q, m, l, rfl, ⟨a, rfl, ha⟩, ⟨b, rfl, hb⟩, zp, zq, hm, z⟩ := h
  have m0 := nn zp
  have l0 := nn zq
  refine ⟨_, (pss_one (ps_ret (pcall d_law_frac hr (pa_cons (pe_op op_sub (pe_op op_mulW (pe_ix ix_tup (pv 0) pe_int (fun _ _ => rfl)) (pe_ix ix_tup (pv 1) pe_int (fun _ _ => rfl))) (pe_op op_mulW (pe_ix ix_tup (pv 1) pe_int (fun _ _ => rfl)) (pe_ix ix_tup (pv 0) pe_int (fun _ _ => rfl)))) (pa_cons (pe_op op_mulW (pe_ix ix_tup (pv 0) pe_int (fun _ _ => rfl)) (pe_ix ix_tup (pv 1) pe_int (fun _ _ => rfl))) pa_nil))))), ?_⟩
  refine ⟨_, rfl, a, _, _, _, rfl, rfl, ha, at0 rfl, _, rfl, b, _, _, _, rfl, rfl, hb, at1 rfl, _, _, rfl, rfl, mulW zp.1 (dA zq) m0 l0 (by omega), ?_⟩
  refine ⟨_, rfl, b, _, _, _, rfl, rfl, hb, at0 rfl, _, rfl, a, _, _, _, rfl, rfl, ha, at1 rfl, _, _, rfl, rfl, mulW zq.1 (dA zp) l0 m0 (by omega), _, _, rfl, rfl, ?_⟩
  refine ⟨_, rfl, a, _, _, _, rfl, rfl, ha, at1 rfl, _, rfl, b, _, _, _, rfl, rfl, hb, at1 rfl, _, _, rfl, rfl, mulW (dA zp) (dA zq) m0 l0 (by omega), ?_⟩
  refine ⟨_, _, m + l + 1, rfl, dd_pos p q, ab_sub (ab_mul zp.1 (dA zq)) (ab_up (ab_mul zq.1 (dA zp)) (by omega)), ab_up (ab_mul (dA zp) (dA zq)) (by omega), by omega, fun r H' e hr => z r H' e ?_⟩
  rw [mk_sub] at hr
  exact hr
abbrev s__law_times : Stmt := top 27
abbrev N__law_times : List Str := ["_law_a", "_law_b"]
theorem sc__law_times : FnScope N__law_times ["_law_a", "_law_b"] (defScope s__law_times) := ⟨rfl, rfl, rfl, by decide +kernel, rfl, by decide +kernel, by decide +kernel⟩
abbrev ps__law_times : List Str := ["_law_a", "_law_b"]
theorem ok_times (F : Fn K mg "_law_times" s__law_times ps__law_times f fd) (d_law_frac : Def P w K mg base k "_law_frac" ["_law_n", "_law_d"] (spFrac K) f1 fd1) : Def P w K mg base (k + 1) "_law_times" ps__law_times (spOp2 K (· * ·)) f fd := by
  refine ⟨F.F.ok sc__law_times (fun vs H Q E h => ?_) (fun cdv A outer s H vs Q E hr h => ?_), F.m, F.F.kp, F.b⟩
  · obtain ⟨x, y, p, q, m, l, rfl, _⟩ := h
    rfl
  obtain ⟨x, y, p, q, m, l, rfl, ⟨a, rfl, ha⟩, ⟨b, rfl, hb⟩, zp, zq, hm, z⟩ := h
  have m0 := nn zp
  have l0 := nn zq
  refine ⟨_, (pss_one (ps_ret (pcall d_law_frac hr (pa_cons (pe_op op_mulW (pe_ix ix_tup (pv 0) pe_int (fun _ _ => rfl)) (pe_ix ix_tup (pv 1) pe_int (fun _ _ => rfl))) (pa_cons (pe_op op_mulW (pe_ix ix_tup (pv 0) pe_int (fun _ _ => rfl)) (pe_ix ix_tup (pv 1) pe_int (fun _ _ => rfl))) pa_nil))))), ?_⟩
  refine ⟨_, rfl, a, _, _, _, rfl, rfl, ha, at0 rfl, _, rfl, b, _, _, _, rfl, rfl, hb, at0 rfl, _, _, rfl, rfl, mulW zp.1 zq.1 m0 l0 (by omega), ?_⟩
  refine ⟨_, rfl, a, _, _, _, rfl, rfl, ha, at1 rfl, _, rfl, b, _, _, _, rfl, rfl, hb, at1 rfl, _, _, rfl, rfl, mulW (dA zp) (dA zq) m0 l0 (by omega), ?_⟩
  refine ⟨_, _, m + l + 1, rfl, dd_pos p q, ab_up (ab_mul zp.1 zq.1) (by omega), ab_up (ab_mul (dA zp) (dA zq)) (by omega), by omega, fun r H' e hr => z r H' e ?_⟩
  rw [mk_mul] at hr
  exact hr
abbrev s__law_below : Stmt := top 28
abbrev N__law_below : List Str := ["_law_a", "_law_b"]
theorem sc__law_below : FnScope N__law_below ["_law_a", "_law_b"] (defScope s__law_below) := ⟨rfl, rfl, rfl, by decide +kernel, rfl, by decide +kernel, by decide +kernel⟩
abbrev ps__law_below : List Str := ["_law_a", "_law_b"]
theorem ok_below (F : Fn K mg "_law_below" s__law_below ps__law_below f fd) : Def P w K mg base (k + 1) "_law_below" ps__law_below (spTest2 K fun p q => .bl (decide (p < q))) f fd := by
  refine ⟨F.F.ok sc__law_below (fun vs H Q E h => ?_) (fun cdv A outer s H vs Q E hr h => ?_), F.m, F.F.kp, F.b⟩
  · obtain ⟨x, y, p, q, m, l, rfl, _⟩ := h
    rfl
  obtain ⟨x, y, p, q, m, l, rfl, ⟨a, rfl, ha⟩, ⟨b, rfl, hb⟩, zp, zq, hm, z⟩ := h
  have m0 := nn zp
  have l0 := nn zq
  refine ⟨_, (pss_one (ps_ret (pe_cmpR op_lt (pe_op op_mulW (pe_ix ix_tup (pv 0) pe_int (fun _ _ => rfl)) (pe_ix ix_tup (pv 1) pe_int (fun _ _ => rfl))) (pe_op op_mulW (pe_ix ix_tup (pv 1) pe_int (fun _ _ => rfl)) (pe_ix ix_tup (pv 0) pe_int (fun _ _ => rfl))) (nomark _)))), ?_⟩
  refine ⟨_, rfl, a, _, _, _, rfl, rfl, ha, at0 rfl, _, rfl, b, _, _, _, rfl, rfl, hb, at1 rfl, _, _, rfl, rfl, mulW zp.1 (dA zq) m0 l0 (by omega), ?_⟩
  refine ⟨_, rfl, b, _, _, _, rfl, rfl, hb, at0 rfl, _, rfl, a, _, _, _, rfl, rfl, ha, at1 rfl, _, _, rfl, rfl, mulW zq.1 (dA zp) l0 m0 (by omega), _, _, rfl, rfl, ?_⟩
  show Q (.bl (decide (p.num * (q.den : Int) < q.num * (p.den : Int)))) H
  rw [decide_eq_decide.mpr (lt_num (p := p) (q := q)).symm]
  exact z
/-! ### the program's rationals -/
def sg (p q : Rat) : Int := if p = q then 0 else if p < q then -1 else 1
abbrev s_compare : Stmt := top 10
abbrev N_compare : List Str := ["a", "b", "left", "right"]
theorem sc_compare : FnScope N_compare ["a", "b"] (defScope s_compare) := ⟨rfl, rfl, rfl, by decide +kernel, rfl, by decide +kernel, by decide +kernel⟩
abbrev ps_compare : List Str := ["a", "b"]
theorem ok_compare (F : Fn K mg "compare" s_compare ps_compare f fd) : Def P w K mg base (k + 1) "compare" ps_compare (spTest2 K fun p q => .int (sg p q)) f fd := by
  refine ⟨F.F.ok sc_compare (fun vs H Q E h => ?_) (fun cdv A outer s H vs Q E hr h => ?_), F.m, F.F.kp, F.b⟩
  · obtain ⟨x, y, p, q, m, l, rfl, _⟩ := h
    rfl
  obtain ⟨x, y, p, q, m, l, rfl, ⟨a, rfl, ha⟩, ⟨b, rfl, hb⟩, zp, zq, hm, z⟩ := h
  have m0 := nn zp
  have l0 := nn zq
  refine ⟨_, (pss_cons (ps_set (i := 2) sc_compare.nd rfl (Or.inl rfl) (pe_op op_mulW (pe_ix ix_tup (pv 0) pe_int (fun _ _ => rfl)) (pe_ix ix_tup (pv 1) pe_int (fun _ _ => rfl))))
      (pss_cons (ps_set (i := 3) sc_compare.nd rfl (Or.inl rfl) (pe_op op_mulW (pe_ix ix_tup (pv 1) pe_int (fun _ _ => rfl)) (pe_ix ix_tup (pv 0) pe_int (fun _ _ => rfl))))
      (pss_cons (ps_if (pt_cmpR op_eq (pv 2) (pv 3) (nomark _))
        (pss_one (ps_ret pe_int))
        pss_nil)
      (pss_one (ps_ret (pe_ifExp (pt_cmpR op_lt (pv 2) (pv 3) (nomark _)) (pe_un un_neg pe_int) pe_int)))))), ?_⟩
  refine ⟨_, rfl, a, _, _, _, rfl, rfl, ha, at0 rfl, _, rfl, b, _, _, _, rfl, rfl, hb, at1 rfl, _, _, rfl, rfl, mulW zp.1 (dA zq) m0 l0 (by omega), ?_⟩
  refine ⟨_, rfl, b, _, _, _, rfl, rfl, hb, at0 rfl, _, rfl, a, _, _, _, rfl, rfl, ha, at1 rfl, _, _, rfl, rfl, mulW zq.1 (dA zp) l0 m0 (by omega), ?_⟩
  refine ⟨_, rfl, _, rfl, rfl, _, rfl, ifD (fun c => ?_) (fun c => ?_)⟩
  · have e : p = q := eq_num.mpr (V.int.inj c)
    have z' : Q (.int (sg p q)) H := z
    unfold sg at z'
    rw [if_pos e] at z'
    exact z'
  · have e : ¬ p = q := fun e => c (congrArg V.int (eq_num.mp e))
    have z' : Q (.int (sg p q)) H := z
    unfold sg at z'
    rw [if_neg e] at z'
    refine ⟨_, rfl, _, rfl, _, _, rfl, rfl, _, rfl, ifD (fun c => ?_) (fun c => ?_)⟩
    · rw [if_pos (lt_num.mpr c)] at z'
      exact ⟨_, rfl, z'⟩
    · rw [if_neg (fun e => c (lt_num.mp e))] at z'
      exact z'
abbrev s_negate : Stmt := top 8
abbrev N_negate : List Str := ["a"]
theorem sc_negate : FnScope N_negate ["a"] (defScope s_negate) := ⟨rfl, rfl, rfl, by decide +kernel, rfl, by decide +kernel, by decide +kernel⟩
abbrev ps_negate : List Str := ["a"]
def spOp1 (K : PySem.W.Frag) (g : Rat → Rat) : Sp := fun vs H Q _ => ∃ (x : V) (p : Rat), vs = [x] ∧ Rq K H x p ∧ ∀ r H', Same H H' → Rq K H' r (g p) → Q r H'
theorem ok_negate (F : Fn K mg "negate" s_negate ps_negate f fd) : Def P w K mg base (k + 1) "negate" ps_negate (spOp1 K fun p => -p) f fd := by
  refine ⟨F.F.ok sc_negate (fun vs H Q E h => ?_) (fun cdv A outer s H vs Q E hr h => ?_), F.m, F.F.kp, F.b⟩
  · obtain ⟨x, p, rfl, _⟩ := h
    rfl
  obtain ⟨x, p, rfl, ⟨a, rfl, ha⟩, z⟩ := h
  refine ⟨_, (pss_one (ps_ret (pe_tup (pa_cons (pe_un un_neg (pe_ix ix_tup (pv 0) pe_int (fun _ _ => rfl))) (pa_cons (pe_ix ix_tup (pv 0) pe_int (fun _ _ => rfl)) pa_nil))))), ?_⟩
  refine ⟨_, rfl, a, _, _, _, rfl, rfl, ha, at0 rfl, _, rfl, _, rfl, a, _, _, _, rfl, rfl, ha, at1 rfl, sz2, fun r hr' => ?_⟩
  exact z _ _ (same_new hr' _) ⟨r, rfl, SqT.of upd_same⟩
abbrev s_add : Stmt := top 6
abbrev N_add : List Str := ["a", "b", "common", "factor", "n", "rest"]
theorem sc_add : FnScope N_add ["a", "b"] (defScope s_add) := ⟨rfl, rfl, rfl, by decide +kernel, rfl, by decide +kernel, by decide +kernel⟩
abbrev ps_add : List Str := ["a", "b"]
theorem ok_add (T : Bn mg) (F : Fn K mg "add" s_add ps_add f fd) : Def P w K mg base (k + 1) "add" ps_add (spOp2 K (· + ·)) f fd := by
  refine ⟨F.F.ok sc_add (fun vs H Q E h => ?_) (fun cdv A outer s H vs Q E hr h => ?_), F.m, F.F.kp, F.b⟩
  · obtain ⟨x, y, p, q, m, l, rfl, _⟩ := h
    rfl
  obtain ⟨x, y, p, q, m, l, rfl, ⟨a, rfl, ha⟩, ⟨b, rfl, hb⟩, zp, zq, hm, z⟩ := h
  have m0 := nn zp
  have l0 := nn zq
  refine ⟨_, (pss_cons (ps_set (i := 2) sc_add.nd rfl (Or.inl rfl) (pe_callBfun cr_gcd (by rfl) T.gcd_ (pa_cons (pe_ix ix_tup (pv 0) pe_int (fun _ _ => rfl)) (pa_cons (pe_ix ix_tup (pv 1) pe_int (fun _ _ => rfl)) pa_nil))))
      (pss_cons (ps_set (i := 3) sc_add.nd rfl (Or.inl rfl) (pe_op op_fdivW (pe_ix ix_tup (pv 1) pe_int (fun _ _ => rfl)) (pv 2)))
      (pss_cons (ps_set (i := 4) sc_add.nd rfl (Or.inl rfl) (pe_op op_add (pe_op op_mulW (pe_ix ix_tup (pv 0) pe_int (fun _ _ => rfl)) (pv 3)) (pe_op op_mulW (pe_ix ix_tup (pv 1) pe_int (fun _ _ => rfl)) (pe_op op_fdivW (pe_ix ix_tup (pv 0) pe_int (fun _ _ => rfl)) (pv 2)))))
      (pss_cons (ps_set (i := 5) sc_add.nd rfl (Or.inl rfl) (pe_callBfun cr_gcd (by rfl) T.gcd_ (pa_cons (pv 4) (pa_cons (pv 2) pa_nil))))
      (pss_one (ps_ret (pe_tup (pa_cons (pe_op op_fdivW (pv 4) (pv 5)) (pa_cons (pe_op op_mulW (pe_op op_fdivW (pe_ix ix_tup (pv 0) pe_int (fun _ _ => rfl)) (pv 5)) (pv 3)) pa_nil))))))))), ?_⟩
  have gp : 0 < Nat.gcd p.den q.den := Nat.gcd_pos_of_pos_left _ p.den_pos
  have gb : (((Nat.gcd p.den q.den : Nat) : Int)).natAbs < 2 ^ m := Nat.lt_of_le_of_lt (Nat.gcd_le_left _ p.den_pos) zp.2
  have wg : ∀ x : Int, CDivW x ((Nat.gcd p.den q.den : Nat) : Int) := fun x => wide_div (by omega) gb m0 (by omega)
  have fb : (((q.den / Nat.gcd p.den q.den : Nat)) : Int).natAbs < 2 ^ l := Nat.lt_of_le_of_lt (Nat.div_le_self _ _) zq.2
  have hb' : (((p.den / Nat.gcd p.den q.den : Nat)) : Int).natAbs < 2 ^ m := Nat.lt_of_le_of_lt (Nat.div_le_self _ _) zp.2
  refine ⟨_, rfl, a, _, _, _, rfl, rfl, ha, at1 rfl, _, rfl, b, _, _, _, rfl, rfl, hb, at1 rfl, _, _, rfl, ?_⟩
  -- factor; n
  refine ⟨_, rfl, b, _, _, _, rfl, rfl, hb, at1 rfl, _, rfl, _, _, rfl, rfl, wg _, ?_⟩
  refine ⟨_, rfl, a, _, _, _, rfl, rfl, ha, at0 rfl, _, rfl, _, _, rfl, rfl, mulW zp.1 fb m0 l0 (by omega), ?_⟩
  refine ⟨_, rfl, b, _, _, _, rfl, rfl, hb, at0 rfl, _, rfl, a, _, _, _, rfl, rfl, ha, at1 rfl, _, rfl, _, _, rfl, rfl, wg _, _, _, rfl, rfl, mulW zq.1 hb' l0 m0 (by omega), _, _, rfl, rfl, ?_⟩
  -- rest
  refine ⟨_, rfl, _, rfl, _, _, rfl, ?_⟩
  obtain ⟨n, en⟩ : ∃ n : Int, n = p.num * ((q.den / Nat.gcd p.den q.den : Nat) : Int) + q.num * ((p.den / Nat.gcd p.den q.den : Nat) : Int) := ⟨_, rfl⟩
  obtain ⟨r, er⟩ : ∃ r : Nat, r = Nat.gcd n.natAbs (Nat.gcd p.den q.den) := ⟨_, rfl⟩
  have A := add_parts p q _ _ n r rfl rfl en er
  have rp : 0 < r := by rw [er]; exact Nat.gcd_pos_of_pos_right _ gp
  have rb : ((r : Nat) : Int).natAbs < 2 ^ m := by rw [er]; exact Nat.lt_of_le_of_lt (Nat.gcd_le_right _ gp) gb
  have wr : ∀ x : Int, CDivW x (r : Int) := fun x => wide_div (by omega) rb m0 (by omega)
  have db : (((p.den / r : Nat)) : Int).natAbs < 2 ^ m := Nat.lt_of_le_of_lt (Nat.div_le_self _ _) zp.2
  have en' : (fun i j : Int => i + j) ((fun i j : Int => i * j) p.num ((q.den : Int) / ((Nat.gcd p.den q.den : Nat) : Int))) ((fun i j : Int => i * j) q.num ((p.den : Int) / ((Nat.gcd p.den q.den : Nat) : Int))) = n := en.symm
  suffices hz : ∀ n' : Int, n' = n → ∀ r' : Int, r' = (r : Int) → tRet (tTup (tCons (tOp (rI CDivW fun i j => V.int (i / j)) (tVar 4) (tVar 5)) (tCons (tOp (rI CMulW fun i j => V.int (i * j)) (tOp (rI CDivW fun i j => V.int (i / j)) (tOp (rIxT K) (tVar 0) (tC (V.int 1))) (tVar 5)) (tVar 3)) tNil)))
      { nx := fun _ H' => Q V.non H', rt := Q } [some (.ref a), some (.ref b), some (.int ((Nat.gcd p.den q.den : Nat) : Int)), some (.int ((q.den / Nat.gcd p.den q.den : Nat) : Int)), some (.int n'), some (.int r')] H from hz _ en' _ (by rw [er, ← en']; rfl)
  rintro n' e1 r' e2
  subst e1 e2
  refine ⟨_, rfl, _, rfl, _, _, rfl, rfl, wr _, _, rfl, a, _, _, _, rfl, rfl, ha, at1 rfl, _, rfl, _, _, rfl, rfl, wr _, _, rfl, _, _, rfl, rfl, mulW db fb m0 l0 (by omega), sz2, fun t ht => ?_⟩
  refine z _ _ (same_new ht _) ⟨t, rfl, SqT.of ?_⟩
  rw [upd_same]
  show some (HO.tup [V.int (n' / (r : Int)), V.int (((p.den / r : Nat) : Int) * ((q.den / Nat.gcd p.den q.den : Nat) : Int))]) = some (HO.tup [V.int (p + q).num, V.int ((p + q).den : Int)])
  rw [A.1, A.2]
  rfl
abbrev s_subtract : Stmt := top 7
abbrev N_subtract : List Str := ["a", "b"]
theorem sc_subtract : FnScope N_subtract ["a", "b"] (defScope s_subtract) := ⟨rfl, rfl, rfl, by decide +kernel, rfl, by decide +kernel, by decide +kernel⟩
abbrev ps_subtract : List Str := ["a", "b"]
theorem ok_subtract (F : Fn K mg "subtract" s_subtract ps_subtract f fd) (dadd : Def P w K mg base k "add" ["a", "b"] (spOp2 K (· + ·)) f1 fd1) (dnegate : Def P w K mg base k "negate" ["a"] (spOp1 K fun p => -p) f2 fd2) :
    Def P w K mg base (k + 1) "subtract" ps_subtract (spOp2 K (· - ·)) f fd := by
  refine ⟨F.F.ok sc_subtract (fun vs H Q E h => ?_) (fun cdv A outer s H vs Q E hr h => ?_), F.m, F.F.kp, F.b⟩
  · obtain ⟨x, y, p, q, m, l, rfl, _⟩ := h
    rfl
  obtain ⟨x, y, p, q, m, l, rfl, ha, hb, zp, zq, hm, z⟩ := h
  refine ⟨_, (pss_one (ps_ret (pcall dadd hr (pa_cons (pv 0) (pa_cons (pcall dnegate hr (pa_cons (pv 1) pa_nil)) pa_nil))))), ?_⟩
  refine ⟨_, rfl, _, rfl, _, q, rfl, hb, fun r H' e hr' => ?_⟩
  refine ⟨_, _, p, -q, m, l, rfl, ha.same e, hr', zp, zq.neg, hm, fun r2 H2 e2 hr2 => z _ _ (e.trans e2) ?_⟩
  show Rq K H2 r2 (p - q)
  rw [Rat.sub_eq_add_neg]
  exact hr2
/-- rational(n, d) where d is above zero; its second argument is always written -/
abbrev s_rational : Stmt := top 5
abbrev N_rational : List Str := ["n", "d", "common"]
theorem sc_rational : FnScope N_rational ["n", "d"] (defScope s_rational) := ⟨rfl, rfl, rfl, by decide +kernel, rfl, by decide +kernel, by decide +kernel⟩
abbrev ps_rational : List Str := ["n", "d"]
theorem ok_rational (T : Bn mg) (F : FunA K "rational" "rational" s_rational f fd) (hm : mg "rational" = some (.ref f)) (hb : Binds K fd ps_rational []) : Def P w K mg base (k + 1) "rational" ps_rational (spFrac K) f fd := by
  refine ⟨F.ok sc_rational (fun vs H Q E h => ?_) (fun cdv A outer s H vs Q E hr h => ?_), hm, F.kp, hb⟩
  · obtain ⟨n, d, b, rfl, _⟩ := h
    rfl
  obtain ⟨n, d, b, rfl, hd, hn, hdb, hb, q⟩ := h
  refine ⟨_, (pss_cons (ps_if (pt_cmpR op_eq (pv 1) pe_int (nomark _))
        (pss_one ps_never)
        pss_nil)
      (pss_cons (ps_set (i := 2) sc_rational.nd rfl (Or.inl rfl) (pe_callBfun cr_gcd (by rfl) T.gcd_ (pa_cons (pv 0) (pa_cons (pv 1) pa_nil))))
      (pss_cons (ps_if (pt_cmpR op_lt (pv 1) pe_int (nomark _))
        (pss_one (ps_set (i := 2) sc_rational.nd rfl (Or.inl rfl) (pe_un un_neg (pv 2))))
        pss_nil)
      (pss_one (ps_ret (pe_tup (pa_cons (pe_op op_fdivW (pv 0) (pv 2)) (pa_cons (pe_op op_fdivW (pv 1) (pv 2)) pa_nil)))))))), ?_⟩
  have b0 : 0 < b := by
    cases b with
    | zero => simp at hdb; omega
    | succ b => exact Nat.succ_pos _
  have dn : d.toNat ≠ 0 := by omega
  have gp : 0 < Nat.gcd n.natAbs d.natAbs := Nat.gcd_pos_of_pos_right _ (by omega)
  have gb : (((Nat.gcd n.natAbs d.natAbs : Nat) : Int)).natAbs < 2 ^ b := by
    rw [Int.natAbs_natCast]
    exact Nat.lt_of_le_of_lt (Nat.gcd_le_right _ (by omega)) hdb
  have w : ∀ x : Int, CDivW x ((Nat.gcd n.natAbs d.natAbs : Nat) : Int) := fun x => wide_div (by omega) gb b0 (by omega)
  have ed : d.toNat = d.natAbs := by omega
  refine ⟨_, rfl, rfl, _, rfl, ifF (dF fun c => by cases c; omega) ?_⟩
  refine ⟨_, rfl, _, rfl, _, _, rfl, ?_⟩
  refine ⟨_, rfl, _, _, rfl, rfl, _, rfl, ifF (dF (by omega)) ?_⟩
  refine ⟨_, rfl, _, rfl, _, _, rfl, rfl, w _, _, rfl, _, rfl, _, _, rfl, rfl, w _, sz2, fun p hp => ?_⟩
  refine q _ _ (same_new hp _) ⟨p, rfl, SqT.of ?_⟩
  rw [upd_same, mk_num n dn, mk_den n dn, ed]
  congr 4
  have e : d = (d.natAbs : Int) := by omega
  rw [show (((d.natAbs / Nat.gcd n.natAbs d.natAbs : Nat)) : Int) = (d.natAbs : Int) / ((Nat.gcd n.natAbs d.natAbs : Nat) : Int) from Int.natCast_ediv _ _]
  rw [← e]
abbrev s_divide : Stmt := top 9
abbrev N_divide : List Str := ["a", "b"]
theorem sc_divide : FnScope N_divide ["a", "b"] (defScope s_divide) := ⟨rfl, rfl, rfl, by decide +kernel, rfl, by decide +kernel, by decide +kernel⟩
abbrev ps_divide : List Str := ["a", "b"]
def spDiv (K : PySem.W.Frag) : Sp := fun vs H Q _ => ∃ (x y : V) (p q : Rat) (m l : Nat), vs = [x, y] ∧ Rq K H x p ∧ Rq K H y q ∧ Sz m p ∧ Sz l q ∧ m + l + 1 ≤ 9000 ∧ 0 < q ∧ ∀ r H', Same H H' → Rq K H' r (p / q) → Q r H'
theorem ok_divide (F : Fn K mg "divide" s_divide ps_divide f fd) (drational : Def P w K mg base k "rational" ["n", "d"] (spFrac K) f1 fd1) : Def P w K mg base (k + 1) "divide" ps_divide (spDiv K) f fd := by
  refine ⟨F.F.ok sc_divide (fun vs H Q E h => ?_) (fun cdv A outer s H vs Q E hr h => ?_), F.m, F.F.kp, F.b⟩
  · obtain ⟨x, y, p, q, m, l, rfl, _⟩ := h
    rfl
  obtain ⟨x, y, p, q, m, l, rfl, ⟨a, rfl, ha⟩, ⟨b, rfl, hb⟩, zp, zq, hm, q0, z⟩ := h
  have m0 := nn zp
  have l0 := nn zq
  have hn := num_pos q0
  refine ⟨_, (pss_one (ps_ret (pcall drational hr (pa_cons (pe_op op_mulW (pe_ix ix_tup (pv 0) pe_int (fun _ _ => rfl)) (pe_ix ix_tup (pv 1) pe_int (fun _ _ => rfl))) (pa_cons (pe_op op_mulW (pe_ix ix_tup (pv 0) pe_int (fun _ _ => rfl)) (pe_ix ix_tup (pv 1) pe_int (fun _ _ => rfl))) pa_nil))))), ?_⟩
  refine ⟨_, rfl, a, _, _, _, rfl, rfl, ha, at0 rfl, _, rfl, b, _, _, _, rfl, rfl, hb, at1 rfl, _, _, rfl, rfl, mulW zp.1 (dA zq) m0 l0 (by omega), ?_⟩
  refine ⟨_, rfl, a, _, _, _, rfl, rfl, ha, at1 rfl, _, rfl, b, _, _, _, rfl, rfl, hb, at0 rfl, _, _, rfl, rfl, mulW (dA zp) zq.1 m0 l0 (by omega), ?_⟩
  refine ⟨_, _, m + l, rfl, Int.mul_pos (by have := p.den_pos; omega) hn, ab_mul zp.1 (dA zq), ab_mul (dA zp) zq.1, by omega, fun r H' e hr => z r H' e ?_⟩
  have e2 : ((p.den : Int) * q.num).toNat = p.den * q.num.toNat := by
    have e3 : q.num = (q.num.toNat : Int) := by omega
    rw [e3, tn]
    rfl
  rw [e2, ← div_mk p q q0] at hr
  exact hr
end Vk

namespace Vk
open PySem L2 Vm
variable {l : Addr} {P : Program} {w : World} {K : PySem.W.Frag} {mg : Str → Option Value} {base : Heap} {k : Nat} {f f1 f2 f3 f4 f5 f6 f7 f8 f9 : Addr} {fd fd1 fd2 fd3 fd4 fd5 fd6 fd7 fd8 fd9 : FuncData}
abbrev s__law_store : Stmt := top 16
abbrev N__law_store : List Str := ["_law_script"]
theorem sc__law_store : FnScope N__law_store ["_law_script"] (defScope s__law_store) := ⟨rfl, rfl, rfl, by decide +kernel, rfl, by decide +kernel, by decide +kernel⟩
abbrev ps__law_store : List Str := ["_law_script"]
def spStore (K : PySem.W.Frag) : Sp := fun vs H Q _ => ∃ (a : Addr) (ns : List Int), vs = [.ref a] ∧ SqL K H a (ns.map V.int) ∧ ns.length ≤ 63 ∧ ∀ (s l : Addr) H', Same H H' → H s = none → Sto l s H' → Q (.ref s) H'
theorem ok_store (T : Bn mg) (F : Fn K mg "_law_store" s__law_store ps__law_store f fd) : Def P w K mg base (k + 1) "_law_store" ps__law_store (spStore K) f fd := by
  refine ⟨F.F.ok sc__law_store (fun vs H Q E h => ?_) (fun cdv A outer s H vs Q E hr h => ?_), F.m, F.F.kp, F.b⟩
  · obtain ⟨a, ns, rfl, _⟩ := h
    rfl
  obtain ⟨a, ns, rfl, ha, hl, z⟩ := h
  refine ⟨_, (pss_one (ps_ret (pe_lst (pa_cons (pe_callTy call_list_of (by rfl) T.list_ (by decide +kernel) (pa_cons (pv 0) pa_nil)) (pa_cons pe_int (pa_cons pe_int (pa_cons pe_int (pa_cons pe_int (pa_cons pe_int pa_nil))))))))), ?_⟩
  refine ⟨_, rfl, a, _, rfl, .inl ha, fun l l0 => ?_⟩
  refine ⟨sm6, fun p p0 => ?_⟩
  have lp : l ≠ p := fun e => by rw [e, upd_same] at p0; cases p0
  have e1 : Same H (upd H l (.lst (ns.map V.int))) := same_new l0 _
  refine z _ l _ (e1.trans (same_new p0 _)) (e1.free p0) ⟨ns, 0, 0, 1, 0, 0, upd_same, lp, ?_, hl, by omega, by omega, by omega, by omega⟩
  rw [upd_ne lp, upd_same]
abbrev s__law_mixed : Stmt := top 18
abbrev N__law_mixed : List Str := ["_law_store_here"]
theorem sc__law_mixed : FnScope N__law_mixed ["_law_store_here"] (defScope s__law_mixed) := ⟨rfl, rfl, rfl, by decide +kernel, rfl, by decide +kernel, by decide +kernel⟩
abbrev ps__law_mixed : List Str := ["_law_store_here"]
def spMixed (K : PySem.W.Frag) (l : Addr) : Sp := fun vs H Q _ => ∃ (s : Addr), vs = [.ref s] ∧ Sto l s H ∧ ∀ (r : Int) H', 0 ≤ r → r < 1000000009 → Sto l s H' → Fr s H H' → Q (.int r) H'
theorem ok_mixed (T : Bn mg) (F : Fn K mg "_law_mixed" s__law_mixed ps__law_mixed f fd) : Def P w K mg base (k + 1) "_law_mixed" ps__law_mixed (spMixed K l) f fd := by
  refine ⟨F.F.ok sc__law_mixed (fun vs H Q E h => ?_) (fun cdv A outer s H vs Q E hr h => ?_), F.m, F.F.kp, F.b⟩
  · obtain ⟨a, rfl, _⟩ := h
    rfl
  obtain ⟨s, rfl, ⟨ns, pos, num, seed, hold, cnt, h1, h2, h3, h4, h5, h6, h7, h8⟩, z⟩ := h
  refine ⟨_, (pss_cons (ps_asg (pe_op op_add (pe_ix ix_list (pv 0) pe_int (fun _ _ => rfl)) pe_int) (pg_sub (pv 0) pe_int set_list))
      (pss_cons (ps_asg (pe_op op_mod (pe_callTy call_int1 (by rfl) T.int_ (by decide +kernel) (pa_cons (pe_op op_add (pe_op op_add (pe_op op_mul (pe_ix ix_list (pv 0) pe_int (fun _ _ => rfl)) pe_int) (pe_op op_mul (pe_ix ix_list (pv 0) pe_int (fun _ _ => rfl)) pe_int)) pe_int) pa_nil)) pe_int) (pg_sub (pv 0) pe_int set_list))
      (pss_one (ps_ret (pe_op op_mod (pe_callTy call_int1 (by rfl) T.int_ (by decide +kernel) (pa_cons (pe_op op_add (pe_op op_mul (pe_ix ix_list (pv 0) pe_int (fun _ _ => rfl)) pe_int) (pe_op op_fdiv (pe_ix ix_list (pv 0) pe_int (fun _ _ => rfl)) pe_int)) pa_nil)) pe_int))))), ?_⟩
  refine ⟨_, rfl, s, _, _, _, rfl, rfl, SqL.of h1, atI_nat (j := 5) rfl, _, _, rfl, rfl, _, rfl, s, _, _, _, rfl, rfl, h1, rfl, ?_⟩
  refine ⟨_, rfl, s, _, _, _, rfl, rfl, SqL.of upd_same, atI_nat (j := 3) rfl, _, _, rfl, rfl, .inr ⟨by decide, by decide⟩, ?_⟩
  refine ⟨_, rfl, s, _, _, _, rfl, rfl, SqL.of upd_same, atI_nat (j := 5) rfl, _, _, rfl, rfl, .inr ⟨by decide, by decide⟩, _, _, rfl, rfl, ?_⟩
  refine ⟨_, _, rfl, rfl, .inl ⟨_, rfl, _, _, rfl, rfl, (by show (0 : Int) < 1000000007; decide), _, rfl, s, _, _, _, rfl, rfl, upd_same, rfl, ?_⟩⟩
  refine ⟨_, rfl, s, _, _, _, rfl, rfl, SqL.of upd_same, atI_nat (j := 3) rfl, _, _, rfl, rfl, .inr ⟨by decide, by decide⟩, ?_⟩
  refine ⟨_, rfl, s, _, _, _, rfl, rfl, SqL.of upd_same, atI_nat (j := 3) rfl, _, _, rfl, rfl, ⟨by decide, by decide⟩, _, _, rfl, rfl, .inl ⟨_, rfl, _, _, rfl, rfl, (by show (0 : Int) < 1000000009; decide), ?_⟩⟩
  have e2 : ∀ o1 o2, Fr s H (upd (upd H s o1) s o2) := fun _ _ => (Fr.upd _).trans (Fr.upd _)
  exact z _ _ (Int.emod_nonneg _ (by decide)) (Int.emod_lt_of_pos _ (by decide)) ⟨ns, pos, num, _, hold, _, upd_same, h2, (e2 _ _) _ _ h3 h2, h4, h5, h6, Int.emod_nonneg _ (by decide), Int.emod_lt_of_pos _ (by decide)⟩ (e2 _ _)
abbrev s__law_feed : Stmt := top 17
abbrev N__law_feed : List Str := ["_law_store_here", "_law_cell"]
theorem sc__law_feed : FnScope N__law_feed ["_law_store_here"] (defScope s__law_feed) := ⟨rfl, rfl, rfl, by decide +kernel, rfl, by decide +kernel, by decide +kernel⟩
abbrev ps__law_feed : List Str := ["_law_store_here"]
def spFeed (K : PySem.W.Frag) (l : Addr) : Sp := fun vs H Q _ => ∃ (s : Addr) (ns : List Int) (pos num seed hold cnt : Int), vs = [.ref s] ∧ H s = some (.lst [.ref l, .int pos, .int num, .int seed, .int hold, .int cnt]) ∧ l ≠ s ∧ H l = some (.lst (ns.map V.int)) ∧ ns.length ≤ 63 ∧ 0 ≤ pos ∧ 0 ≤ num ∧ 0 ≤ seed ∧ seed < 1000000007 ∧ pos < (ns.length : Int) ∧
  ∀ H', Sto l s H' → Fr s H H' → Q .non H'
theorem ok_feed (T : Bn mg) (F : Fn K mg "_law_feed" s__law_feed ps__law_feed f fd) : Def P w K mg base (k + 1) "_law_feed" ps__law_feed (spFeed K l) f fd := by
  refine ⟨F.F.ok sc__law_feed (fun vs H Q E h => ?_) (fun cdv A outer s H vs Q E hr h => ?_), F.m, F.F.kp, F.b⟩
  · obtain ⟨_, _, _, _, _, _, _, rfl, _⟩ := h
    rfl
  obtain ⟨s, ns, pos, num, seed, hold, cnt, rfl, h1, h2, h3, h4, h5, h6, h7, h8, h9, z⟩ := h
  refine ⟨_, (pss_cons (ps_set (i := 1) sc__law_feed.nd rfl (Or.inl rfl) (pe_callTy call_int1 (by rfl) T.int_ (by decide +kernel) (pa_cons (pe_ix ix_list (pe_ix ix_list (pv 0) pe_int (fun _ _ => rfl)) (pe_ix ix_list (pv 0) pe_int (fun _ _ => rfl)) (fun _ _ => rfl)) pa_nil)))
      (pss_cons (ps_asg (pe_op op_add (pe_ix ix_list (pv 0) pe_int (fun _ _ => rfl)) pe_int) (pg_sub (pv 0) pe_int set_list))
      (pss_cons (ps_asg (pe_op op_mod (pe_callTy call_int1 (by rfl) T.int_ (by decide +kernel) (pa_cons (pe_op op_add (pe_op op_mul (pe_ix ix_list (pv 0) pe_int (fun _ _ => rfl)) pe_int) (pv 1)) pa_nil)) pe_int) (pg_sub (pv 0) pe_int set_list))
      (pss_one (ps_if (PW.pt (pw_or (pt_cmpR op_ge (pv 1) (pe_op op_pow pe_int pe_int) (nomark _)) (pw_or1 (pt_cmpR op_le (pv 1) (pe_op op_sub pe_int (pe_op op_pow pe_int pe_int)) (nomark _)))))
        (pss_one (ps_asg (pe_callB call_abs (by rfl) T.abs_ (by decide +kernel) (pa_cons (pv 1) pa_nil)) (pg_sub (pv 0) pe_int set_list)))
        (pss_one (ps_asg pe_int (pg_sub (pv 0) pe_int set_list)))))))), ?_⟩
  have hp : pos.toNat < ns.length := by omega
  have ea : atI (ns.map V.int) pos = some (.int ns[pos.toNat]) := at_of (j := pos.toNat) (by omega) (by rw [List.getElem?_map, List.getElem?_eq_getElem hp]; rfl)
  obtain ⟨c, hc⟩ : ∃ c, c = ns[pos.toNat] := ⟨_, rfl⟩
  rw [← hc] at ea
  refine ⟨_, rfl, s, _, _, _, rfl, rfl, SqL.of h1, at0 rfl, _, rfl, s, _, _, _, rfl, rfl, SqL.of h1, at1 rfl, l, _, _, _, rfl, rfl, SqL.of h3, ea, .inl ⟨_, rfl, ?_⟩⟩
  refine ⟨_, rfl, s, _, _, _, rfl, rfl, SqL.of h1, at1 rfl, _, _, rfl, rfl, _, rfl, s, _, _, _, rfl, rfl, h1, rfl, ?_⟩
  refine ⟨_, rfl, s, _, _, _, rfl, rfl, SqL.of upd_same, atI_nat (j := 3) rfl, _, _, rfl, rfl, .inr ⟨by decide, by decide⟩, _, rfl, _, _, rfl, rfl, .inl ⟨_, rfl, _, _, rfl, rfl, (by show (0 : Int) < 1000000007; decide), _, rfl, s, _, _, _, rfl, rfl, upd_same, rfl, ?_⟩⟩
  have e2 : ∀ o1 o2, Fr s H (upd (upd H s o1) s o2) := fun _ _ => (Fr.upd _).trans (Fr.upd _)
  have e3 : ∀ o1 o2 o3, Fr s H (upd (upd (upd H s o1) s o2) s o3) := fun _ _ _ => (e2 _ _).trans (Fr.upd _)
  have pw : (0 : Int) ≤ 18 ∧ (18 : Int) ≤ 1000000 ∧ (10 : Int).natAbs < 2 ^ 64 := ⟨by decide, by decide, by decide⟩
  have big : ∀ H', H' s = _ → Fr s H H' → Q .non H' := fun H' (e : H' s = some (.lst [.ref l, .int (pos + 1), .int (if c < 0 then -c else c), .int ((seed * 30011 + c) % 1000000007), .int hold, .int cnt])) e' =>
    z H' ⟨ns, pos + 1, _, _, hold, cnt, e, h2, e' _ _ h3 h2, h4, by omega, by split <;> omega, Int.emod_nonneg _ (by decide), Int.emod_lt_of_pos _ (by decide)⟩ e'
  refine ⟨_, rfl, _, _, rfl, rfl, pw, _, _, rfl, rfl, _, rfl, ifD (fun _ => ?_) (fun _ => ⟨_, rfl, _, _, rfl, rfl, pw, _, _, rfl, rfl, _, _, rfl, rfl, _, rfl, ifD (fun _ => ?_) (fun _ => ?_)⟩)⟩
  · exact ⟨_, rfl, _, rfl, _, rfl, s, _, _, _, rfl, rfl, upd_same, rfl, big _ upd_same (e3 _ _ _)⟩
  · exact ⟨_, rfl, _, rfl, _, rfl, s, _, _, _, rfl, rfl, upd_same, rfl, big _ upd_same (e3 _ _ _)⟩
  · exact ⟨_, rfl, s, _, _, _, rfl, rfl, upd_same, rfl, z _ ⟨ns, pos + 1, num, _, 3, cnt, upd_same, h2, (e3 _ _ _) _ _ h3 h2, h4, by omega, h6, Int.emod_nonneg _ (by decide), Int.emod_lt_of_pos _ (by decide)⟩ (e3 _ _ _)⟩
abbrev s__law_take : Stmt := top 19
abbrev N__law_take : List Str := ["_law_store_here", "_law_many", "_law_number"]
theorem sc__law_take : FnScope N__law_take ["_law_store_here", "_law_many"] (defScope s__law_take) := ⟨rfl, rfl, rfl, by decide +kernel, rfl, by decide +kernel, by decide +kernel⟩
abbrev ps__law_take : List Str := ["_law_store_here", "_law_many"]
def spTake (K : PySem.W.Frag) (l : Addr) : Sp := fun vs H Q _ => ∃ (s : Addr) (many : Int), vs = [.ref s, .int many] ∧ Sto l s H ∧ many < 2 ^ 64 ∧ ∀ (r : Int) H', 0 ≤ r → (r < many ∨ r = 0) → Sto l s H' → Fr s H H' → Q (.int r) H'
theorem ok_take (T : Bn mg) (F : Fn K mg "_law_take" s__law_take ps__law_take f fd) (d_law_feed : Def P w K mg base k "_law_feed" ["_law_store_here"] (spFeed K l) f1 fd1) (d_law_mixed : Def P w K mg base k "_law_mixed" ["_law_store_here"] (spMixed K l) f2 fd2) :
    Def P w K mg base (k + 1) "_law_take" ps__law_take (spTake K l) f fd := by
  refine ⟨F.F.ok sc__law_take (fun vs H Q E h => ?_) (fun cdv A outer s H vs Q E hr h => ?_), F.m, F.F.kp, F.b⟩
  · obtain ⟨_, _, rfl, _⟩ := h
    rfl
  obtain ⟨s, many, rfl, hS, hm, z⟩ := h
  refine ⟨_, (pss_cons (ps_set (i := 1) sc__law_take.nd rfl (Or.inl rfl) (pe_callB (call_max2 rfl) (by rfl) T.max_ (by decide +kernel) (pa_cons pe_int (pa_cons (pv 1) pa_nil))))
      (pss_cons (ps_if (PW.pt (pw_and (pt_cmpR op_eq (pe_ix ix_list (pv 0) pe_int (fun _ _ => rfl)) pe_int (nomark _)) (pw_and (pt_cmpR op_eq (pe_ix ix_list (pv 0) pe_int (fun _ _ => rfl)) pe_int (nomark _)) (pw_and1 (pt_cmpR op_lt (pe_ix ix_list (pv 0) pe_int (fun _ _ => rfl)) (pe_callB call_len_seq (by rfl) T.len_ PySem.boot_len (pa_cons (pe_ix ix_list (pv 0) pe_int (fun _ _ => rfl)) pa_nil)) (nomark _))))))
        (pss_one (ps_expr (pcall d_law_feed hr (pa_cons (pv 0) pa_nil))))
        pss_nil)
      (pss_cons (ps_if (pt_cmpR op_gt (pe_ix ix_list (pv 0) pe_int (fun _ _ => rfl)) pe_int (nomark _))
        (pss_cons (ps_set (i := 2) sc__law_take.nd rfl (Or.inl rfl) (pe_ix ix_list (pv 0) pe_int (fun _ _ => rfl)))
        (pss_cons (ps_asg (pe_op op_fdivW (pv 2) (pv 1)) (pg_sub (pv 0) pe_int set_list))
        (pss_one (ps_ret (pe_op op_mod (pe_callTy call_int1 (by rfl) T.int_ (by decide +kernel) (pa_cons (pv 2) pa_nil)) (pv 1))))))
        pss_nil)
      (pss_cons (ps_asg (pe_callB (call_max2 rfl) (by rfl) T.max_ (by decide +kernel) (pa_cons pe_int (pa_cons (pe_op op_sub (pe_ix ix_list (pv 0) pe_int (fun _ _ => rfl)) pe_int) pa_nil))) (pg_sub (pv 0) pe_int set_list))
      (pss_cons (ps_set (i := 2) sc__law_take.nd rfl (Or.inl rfl) (pcall d_law_mixed hr (pa_cons (pv 0) pa_nil)))
      (pss_cons (ps_if (pt_cmpR op_gt (pv 1) pe_int (nomark _))
        (pss_one (ps_set (i := 2) sc__law_take.nd rfl (Or.inl rfl) (pe_op op_add (pv 2) (pe_op op_mul (pcall d_law_mixed hr (pa_cons (pv 0) pa_nil)) pe_int))))
        pss_nil)
      (pss_one (ps_ret (pe_op op_mod (pe_callTy call_int1 (by rfl) T.int_ (by decide +kernel) (pa_cons (pv 2) pa_nil)) (pv 1)))))))))), ?_⟩
  refine ⟨_, rfl, _, _, rfl, ?_⟩
  obtain ⟨M, eM⟩ : ∃ M : Int, M = if many > 1 then many else 1 := ⟨_, rfl⟩
  have M1 : 1 ≤ M := by rw [eM]; split <;> omega
  have M2 : M.natAbs < 2 ^ 64 := by
    have : (2 : Nat) ^ 64 = 18446744073709551616 := by decide
    have : (2 : Int) ^ 64 = 18446744073709551616 := by decide
    rw [eM]; split <;> omega
  have hz : ∀ (r : Int) H', 0 ≤ r → r < M → Sto l s H' → Fr s H H' → Q (.int r) H' := fun r H' a b => z r H' a (by rw [eM] at b; split at b <;> omega)
  rw [← eM]
  dsimp only [gName]
  refine cut (fun σ' H' => σ' = [some (.ref s), some (.int M), none] ∧ Sto l s H' ∧ Fr s H H') ?_ ?_
  · rintro σ H1 ⟨rfl, hS1, e1⟩
    obtain ⟨ns, pos, num, seed, hold, cnt, h1, h2, h3, h4, h5, h6, h7, h8⟩ := id hS1
    refine ⟨_, rfl, s, _, _, _, rfl, rfl, SqL.of h1, at2 rfl, _, _, rfl, rfl, _, rfl, ifD (fun c => ?_) (fun c => ?_)⟩
    · refine ⟨_, rfl, s, _, _, _, rfl, rfl, SqL.of h1, at2 rfl, ?_⟩
      refine ⟨_, rfl, _, rfl, _, _, rfl, rfl, wide_div (by omega) M2 (by decide) (by decide), _, rfl, s, _, _, _, rfl, rfl, h1, rfl, ?_⟩
      refine ⟨_, rfl, .inl ⟨_, rfl, _, rfl, _, _, rfl, rfl, (by show 0 < M; omega), ?_⟩⟩
      have e2 : ∀ o, Fr s H1 (upd H1 s o) := fun _ => Fr.upd _
      exact hz _ _ (Int.emod_nonneg _ (by omega)) (Int.emod_lt_of_pos _ (by omega)) ⟨ns, pos, num / M, seed, hold, cnt, upd_same, h2, (e2 _) _ _ h3 h2, h4, h5, Int.ediv_nonneg (by omega) (by omega), h7, h8⟩ (e1.trans (e2 _))
    refine ⟨_, rfl, s, _, _, _, rfl, rfl, SqL.of h1, atI_nat (j := 4) rfl, _, _, rfl, rfl, _, _, rfl, _, rfl, s, _, _, _, rfl, rfl, h1, rfl, ?_⟩
    have e2 : ∀ o, Fr s H1 (upd H1 s o) := fun _ => Fr.upd _
    refine ⟨_, rfl, s, rfl, ⟨ns, pos, num, seed, _, cnt, upd_same, h2, (e2 _) _ _ h3 h2, h4, h5, h6, h7, h8⟩, fun r H2 r0 r1 S2 e3 => ?_⟩
    refine ⟨_, rfl, _, _, rfl, rfl, _, rfl, ifD (fun c => ?_) (fun c => ?_)⟩
    · refine ⟨_, rfl, _, rfl, s, rfl, S2, fun r' H3 _ _ S3 e4 => ⟨_, _, rfl, rfl, .inr ⟨by decide, by decide⟩, _, _, rfl, rfl, ?_⟩⟩
      refine ⟨_, rfl, .inl ⟨_, rfl, _, rfl, _, _, rfl, rfl, (by show 0 < M; omega), ?_⟩⟩
      exact hz _ _ (Int.emod_nonneg _ (by omega)) (Int.emod_lt_of_pos _ (by omega)) S3 (e1.trans ((e2 _).trans (e3.trans e4)))
    · refine ⟨_, rfl, .inl ⟨_, rfl, _, rfl, _, _, rfl, rfl, (by show 0 < M; omega), ?_⟩⟩
      exact hz _ _ (Int.emod_nonneg _ (by omega)) (Int.emod_lt_of_pos _ (by omega)) S2 (e1.trans ((e2 _).trans e3))
  · intro key
    obtain ⟨ns, pos, num, seed, hold, cnt, h1, h2, h3, h4, h5, h6, h7, h8⟩ := id hS
    refine ⟨_, rfl, s, _, _, _, rfl, rfl, SqL.of h1, at2 rfl, rfl, _, rfl, ifD (fun _ => ?_) (fun _ => ifF rfl (key _ _ ⟨rfl, hS, Fr.refl _ _⟩))⟩
    refine ⟨_, rfl, s, _, _, _, rfl, rfl, SqL.of h1, atI_nat (j := 4) rfl, rfl, _, rfl, ifD (fun _ => ?_) (fun _ => ifF rfl (key _ _ ⟨rfl, hS, Fr.refl _ _⟩))⟩
    refine ⟨_, rfl, s, _, _, _, rfl, rfl, SqL.of h1, at1 rfl, _, rfl, s, _, _, _, rfl, rfl, SqL.of h1, at0 rfl, l, _, rfl, .inl (SqL.of h3), _, _, rfl, rfl, _, rfl, ifD (fun c => ?_) (fun _ => key _ _ ⟨rfl, hS, Fr.refl _ _⟩)⟩
    rw [List.length_map] at c
    exact ⟨_, rfl, s, ns, pos, num, seed, hold, cnt, rfl, h1, h2, h3, h4, h5, h6, h7, h8, c, fun H' S' e' => key _ _ ⟨rfl, S', e'⟩⟩
abbrev s__law_pick : Stmt := top 20
abbrev N__law_pick : List Str := ["_law_store_here", "_law_things"]
theorem sc__law_pick : FnScope N__law_pick ["_law_store_here", "_law_things"] (defScope s__law_pick) := ⟨rfl, rfl, rfl, by decide +kernel, rfl, by decide +kernel, by decide +kernel⟩
abbrev ps__law_pick : List Str := ["_law_store_here", "_law_things"]
/-- a list that is not the store; one of its things is handed back -/
def spPick (K : PySem.W.Frag) (l : Addr) : Sp := fun vs H Q _ => ∃ (s a : Addr) (xs : List V), vs = [.ref s, .ref a] ∧ Sto l s H ∧ a ≠ s ∧ SqL K H a xs ∧ 0 < xs.length ∧ xs.length < 2 ^ 32 ∧ ∀ (v : V) H', v ∈ xs → Sto l s H' → Fr s H H' → Q v H'
theorem ok_pick (T : Bn mg) (F : Fn K mg "_law_pick" s__law_pick ps__law_pick f fd) (d_law_take : Def P w K mg base k "_law_take" ["_law_store_here", "_law_many"] (spTake K l) f1 fd1) : Def P w K mg base (k + 1) "_law_pick" ps__law_pick (spPick K l) f fd := by
  refine ⟨F.F.ok sc__law_pick (fun vs H Q E h => ?_) (fun cdv A outer s H vs Q E hr h => ?_), F.m, F.F.kp, F.b⟩
  · obtain ⟨_, _, _, rfl, _⟩ := h
    rfl
  obtain ⟨s, a, xs, rfl, hS, n, ha, h0, hl, z⟩ := h
  refine ⟨_, (pss_one (ps_ret (pe_ix ix_list (pv 1) (pcall d_law_take hr (pa_cons (pv 0) (pa_cons (pe_callB call_len_seq (by rfl) T.len_ PySem.boot_len (pa_cons (pv 1) pa_nil)) pa_nil))) (fun _ _ => rfl)))), ?_⟩
  have p32 : (2 : Nat) ^ 32 = 4294967296 := by decide
  have p64 : (2 : Int) ^ 64 = 18446744073709551616 := by decide
  refine ⟨_, rfl, _, rfl, _, rfl, a, _, rfl, .inl ha, s, _, rfl, hS, by omega, fun r H' r0 r1 S' e => ?_⟩
  have hr : r.toNat < xs.length := by omega
  refine ⟨a, _, _, xs[r.toNat], rfl, rfl, seq_fr e n ha, at_of (j := r.toNat) (by omega) (List.getElem?_eq_getElem hr), z _ _ (List.getElem_mem hr) S' e⟩
end Vk

namespace Vk
open PySem L2 Vm
variable {l : Addr} {P : Program} {w : World} {K : PySem.W.Frag} {mg : Str → Option Value} {base : Heap} {k : Nat} {f f1 f2 f3 f4 f5 f6 f7 f8 f9 : Addr} {fd fd1 fd2 fd3 fd4 fd5 fd6 fd7 fd8 fd9 : FuncData}
/-! ### data -/
def dq (q : Rat) : PyData := .tuple [.int q.num, .int (q.den : Int)]
theorem Rq.dp {H : Hp} {v : V} {q : Rat} (h : Rq K H v q) : Dp K H v (dq q) := by
  obtain ⟨a, rfl, h⟩ := h
  exact .tup h (.cons (.int _) (.cons (.int _) .nil))
theorem sh_dq (q : Rat) : SeqAt.shaped (dq q) = true := rfl
theorem eqv_dq (p q : Rat) : PyData.eqv (dq p) (dq q) = decide (p = q) := by
  show ((p.num == q.num) && (((p.den : Int) == (q.den : Int)) && true)) = decide (p = q)
  by_cases h : p = q
  · subst h
    simp
  · rw [decide_eq_false h]
    by_cases h1 : p.num = q.num
    · by_cases h2 : p.den = q.den
      · exact absurd (Rat.ext h1 h2) h
      · have : ((p.den : Int) == (q.den : Int)) = false := beq_false_of_ne (by omega)
        rw [this]
        simp
    · have : (p.num == q.num) = false := by simpa using h1
      rw [this]
      simp
inductive Tree : Nat → PyData → Prop
  | int {n} (i : Int) : Tree n (.int i)
  | non {n} : Tree n .none
  | tup {n} {ds : List PyData} : ds.length ≤ 1000 → (∀ d ∈ ds, Tree n d) → Tree (n + 1) (.tuple ds)
  | lst {n} {ds : List PyData} : ds.length ≤ 1000 → (∀ d ∈ ds, Tree n d) → Tree (n + 1) (.list ds)
theorem tree_dq (n : Nat) (q : Rat) : Tree (n + 1) (dq q) := .tup (by show 2 ≤ 1000; decide) fun d h => by
  rcases List.mem_cons.mp h with rfl | h
  · exact .int _
  · rcases List.mem_cons.mp h with rfl | h
    · exact .int _
    · cases h
theorem sql_ty {H : Hp} {a : Addr} {xs : List V} (h : SqL K H a xs) : TyX K H (.ref a) (.type "list") := by
  rcases h with (h | ⟨o, h⟩) | ⟨o, its, n, h, c, _⟩
  · exact .base (.lst h)
  · exact .base (.frz h)
  · exact .kList h c
theorem sqt_ty {H : Hp} {a : Addr} {xs : List V} (h : SqT K H a xs) : TyX K H (.ref a) (.type "tuple") := by
  rcases h with (h | ⟨o, h⟩) | ⟨o, its, n, h, c, _⟩
  · exact .base (.tup h)
  · exact .fTuple h
  · exact .kTuple h c
theorem dpall_len {H : Hp} : ∀ {vs : List V} {ds : List PyData}, DpAll K H vs ds → vs.length = ds.length
  | _, _, .nil => rfl
  | _, _, .cons _ t => by simp [dpall_len t]
theorem dpall_at {H : Hp} : ∀ {vs : List V} {ds : List PyData}, DpAll K H vs ds → ∀ {i : Nat} {d : PyData}, ds[i]? = some d → ∃ v, vs[i]? = some v ∧ Dp K H v d
  | _, _, .nil, i, d, h => by simp at h
  | _, _, .cons r t, 0, d, h => ⟨_, rfl, by rw [← Option.some.inj h]; exact r⟩
  | _, _, .cons r t, i + 1, d, h => dpall_at t h
abbrev s__law_is_int : Stmt := top 22
abbrev N__law_is_int : List Str := ["_law_value"]
theorem sc__law_is_int : FnScope N__law_is_int ["_law_value"] (defScope s__law_is_int) := ⟨rfl, rfl, rfl, by decide +kernel, rfl, by decide +kernel, by decide +kernel⟩
abbrev ps__law_is_int : List Str := ["_law_value"]
def spIsInt (K : PySem.W.Frag) : Sp := fun vs H Q _ => ∃ i : Int, vs = [.int i] ∧ Q (.bl true) H
theorem ok_is_int (T : Bn mg) (F : Fn K mg "_law_is_int" s__law_is_int ps__law_is_int f fd) : Def P w K mg base (k + 1) "_law_is_int" ps__law_is_int (spIsInt K) f fd := by
  refine ⟨F.F.ok sc__law_is_int (fun vs H Q E h => ?_) (fun cdv A outer s H vs Q E hr h => ?_), F.m, F.F.kp, F.b⟩
  · obtain ⟨i, rfl, _⟩ := h
    rfl
  obtain ⟨i, rfl, z⟩ := h
  refine ⟨_, (pss_one (ps_ret (pe_and (pe_callB call_isi (by rfl) T.isinstance_ (by decide +kernel) (pa_cons (pv 0) (pa_cons (pe_bltn (v := .ty "int") (by rfl) T.int_ (by decide +kernel) rfl) pa_nil))) (pe_one (pe_not (pe_callB call_isi (by rfl) T.isinstance_ (by decide +kernel) (pa_cons (pv 0) (pa_cons (pe_bltn (v := .ty "bool") (by rfl) T.bool_ (by decide +kernel) rfl) pa_nil)))))))), ?_⟩
  exact ⟨_, rfl, _, _, _, _, true, rfl, .ty _, (.base (.int i)), kit_ty (by decide +kernel), _, rfl, ifT rfl ⟨_, rfl, _, _, _, _, false, rfl, .ty _, (.base (.int i)), kit_ty (by decide +kernel), _, rfl, z⟩⟩
abbrev s__law_same : Stmt := top 23
abbrev N__law_same : List Str := ["_law_value", "_law_due", "_law_keys", "_law_name", "_law_k"]
theorem sc__law_same : FnScope N__law_same ["_law_value", "_law_due"] (defScope s__law_same) := ⟨rfl, rfl, rfl, by decide +kernel, rfl, by decide +kernel, by decide +kernel⟩
abbrev ps__law_same : List Str := ["_law_value", "_law_due"]
def spSame (K : PySem.W.Frag) (n : Nat) : Sp := fun vs H Q _ => ∃ (v u : V) (d : PyData), vs = [v, u] ∧ Dp K H v d ∧ Dp K H u d ∧ Tree n d ∧ Q (.bl true) H
theorem ok_same1 (T : Bn mg) (n : Nat) (F : Fn K mg "_law_same" s__law_same ps__law_same f fd) (d_law_is_int : Def P w K mg base (k + n) "_law_is_int" ["_law_value"] (spIsInt K) f1 fd1)
    (d_law_same : Def P w K mg base (k + n) "_law_same" ["_law_value", "_law_due"] (fun vs H Q E => ∃ m, m + 1 = n ∧ spSame K m vs H Q E) f fd) : Def P w K mg base (k + n + 1) "_law_same" ps__law_same (spSame K n) f fd := by
  refine ⟨F.F.ok sc__law_same (fun vs H Q E h => ?_) (fun cdv A outer s H vs Q E hr h => ?_), F.m, F.F.kp, F.b⟩
  · obtain ⟨v, u, d, rfl, _⟩ := h
    rfl
  obtain ⟨v, u, d, rfl, hv, hu, ht, z⟩ := h
  refine ⟨_, (pss_cons (ps_if (pt_cmpR op_isN (pv 1) pe_non (nomark _))
        (pss_one (ps_ret (pe_cmpR op_isN (pv 0) pe_non (nomark _))))
        pss_nil)
      (pss_cons (ps_if (pt_val (pe_callB call_isi (by rfl) T.isinstance_ (by decide +kernel) (pa_cons (pv 1) (pa_cons (pe_bltn (v := .ty "bool") (by rfl) T.bool_ (by decide +kernel) rfl) pa_nil))))
        (pss_one (ps_ret (pe_and (pe_callB call_isi (by rfl) T.isinstance_ (by decide +kernel) (pa_cons (pv 0) (pa_cons (pe_bltn (v := .ty "bool") (by rfl) T.bool_ (by decide +kernel) rfl) pa_nil))) (pe_one (pe_cmpR (op_eqD hr.units) (pv 0) (pv 1) (nomark _))))))
        pss_nil)
      (pss_cons (ps_if (pt_val (pe_callB call_isi (by rfl) T.isinstance_ (by decide +kernel) (pa_cons (pv 1) (pa_cons (pe_bltn (v := .ty "int") (by rfl) T.int_ (by decide +kernel) rfl) pa_nil))))
        (pss_one (ps_ret (pe_and (pcall d_law_is_int hr (pa_cons (pv 0) pa_nil)) (pe_one (pe_cmpR (op_eqD hr.units) (pv 0) (pv 1) (nomark _))))))
        pss_nil)
      (pss_cons (ps_if (pt_val (pe_callB call_isi (by rfl) T.isinstance_ (by decide +kernel) (pa_cons (pv 1) (pa_cons (pe_bltn (v := .ty "str") (by rfl) T.str_ (by decide +kernel) rfl) pa_nil))))
        (pss_one (ps_ret (pe_and (pe_callB call_isi (by rfl) T.isinstance_ (by decide +kernel) (pa_cons (pv 0) (pa_cons (pe_bltn (v := .ty "str") (by rfl) T.str_ (by decide +kernel) rfl) pa_nil))) (pe_one (pe_cmpR (op_eqD hr.units) (pv 0) (pv 1) (nomark _))))))
        pss_nil)
      (pss_cons (ps_if (pt_val (pe_callB call_isi (by rfl) T.isinstance_ (by decide +kernel) (pa_cons (pv 1) (pa_cons (pe_bltn (v := .ty "dict") (by rfl) T.dict_ (by decide +kernel) rfl) pa_nil))))
        pss_never
        pss_nil)
      (pss_cons (ps_if (PW.pt (pw_and (pt_val (pe_callB call_isi (by rfl) T.isinstance_ (by decide +kernel) (pa_cons (pv 1) (pa_cons (pe_bltn (v := .ty "list") (by rfl) T.list_ (by decide +kernel) rfl) pa_nil)))) (pw_and1 (pt_not (pt_val (pe_callB call_isi (by rfl) T.isinstance_ (by decide +kernel) (pa_cons (pv 0) (pa_cons (pe_bltn (v := .ty "list") (by rfl) T.list_ (by decide +kernel) rfl) pa_nil))))))))
        (pss_one (ps_ret pe_bl))
        pss_nil)
      (pss_cons (ps_if (PW.pt (pw_and (pt_val (pe_callB call_isi (by rfl) T.isinstance_ (by decide +kernel) (pa_cons (pv 1) (pa_cons (pe_bltn (v := .ty "tuple") (by rfl) T.tuple_ (by decide +kernel) rfl) pa_nil)))) (pw_and1 (pt_not (pt_val (pe_callB call_isi (by rfl) T.isinstance_ (by decide +kernel) (pa_cons (pv 0) (pa_cons (pe_bltn (v := .ty "tuple") (by rfl) T.tuple_ (by decide +kernel) rfl) pa_nil))))))))
        (pss_one (ps_ret pe_bl))
        pss_nil)
      (pss_cons (ps_if (pt_cmpR op_ne (pe_callB call_len_seq (by rfl) T.len_ PySem.boot_len (pa_cons (pv 0) pa_nil)) (pe_callB call_len_seq (by rfl) T.len_ PySem.boot_len (pa_cons (pv 1) pa_nil)) (nomark _))
        (pss_one (ps_ret pe_bl))
        pss_nil)
      (pss_cons (ps_for PassesOwn.never rfl (pi_range1 (by rfl) T.range_ (pa_cons (pe_callB call_len_seq (by rfl) T.len_ PySem.boot_len (pa_cons (pv 1) pa_nil)) pa_nil)) (pg_name (i := 4) sc__law_same.nd rfl (Or.inl rfl))
        (pss_one (ps_if (pt_not (pt_val (pcall d_law_same hr (pa_cons (pe_ix ix_seq (pv 0) (pv 4) (fun _ _ => rfl)) (pa_cons (pe_ix ix_seq (pv 1) (pv 4) (fun _ _ => rfl)) pa_nil)))))
          (pss_one (ps_ret pe_bl))
          pss_nil)))
      (pss_one (ps_ret pe_bl))))))))))), ?_⟩
  cases ht with
  | int i =>
    cases hv
    cases hu
    refine ⟨_, rfl, rfl, _, rfl, ifF (dF nofun) ⟨_, rfl, _, _, _, _, false, rfl, .ty _, (.base (.int i)), kit_ty (by decide +kernel), _, rfl, ifF rfl ⟨_, rfl, _, _, _, _, true, rfl, .ty _, (.base (.int i)), kit_ty (by decide +kernel), _, rfl, ifT rfl ?_⟩⟩⟩
    refine ⟨_, rfl, i, rfl, _, rfl, ifT rfl ⟨_, rfl, _, rfl, _, _, .int i, .int i, rfl, rfl, ?_⟩⟩
    rw [show PyData.eqv (.int i) (.int i) = true from beq_self_eq_true i]
    exact z
  | non =>
    cases hv
    cases hu
    exact ⟨_, rfl, rfl, _, rfl, ifT (dT rfl) ⟨_, rfl, rfl, z⟩⟩
  | tup hl hall =>
    rename_i m ds
    cases hv with
    | tup ha da =>
    rename_i a xs
    cases hu with
    | tup hb db =>
    rename_i b ys
    have lx := dpall_len da
    have ly := dpall_len db
    have ta := sqt_ty ha
    have tb := sqt_ty hb
    refine ⟨_, rfl, rfl, _, rfl, ifF (dF nofun) ⟨_, rfl, _, _, _, _, false, rfl, .ty _, tb, kit_ty (by decide +kernel), _, rfl, ifF rfl ⟨_, rfl, _, _, _, _, false, rfl, .ty _, tb, kit_ty (by decide +kernel), _, rfl, ifF rfl ⟨_, rfl, _, _, _, _, false, rfl, .ty _, tb, kit_ty (by decide +kernel), _, rfl, ifF rfl ⟨_, rfl, _, _, _, _, false, rfl, .ty _, tb, kit_ty (by decide +kernel), _, rfl, ifF rfl ?_⟩⟩⟩⟩⟩
    refine ⟨_, rfl, _, _, _, _, false, rfl, .ty _, tb, kit_ty (by decide +kernel), _, rfl, ifF rfl (ifF rfl ⟨_, rfl, _, _, _, _, true, rfl, .ty _, tb, kit_ty (by decide +kernel), _, rfl, ifT rfl ⟨_, rfl, _, _, _, _, true, rfl, .ty _, ta, kit_ty (by decide +kernel), _, rfl, ifF rfl ?_⟩⟩)⟩
    refine ⟨_, rfl, a, _, rfl, .inr ha, _, rfl, b, _, rfl, .inr hb, rfl, _, rfl, ifF ?_ ?_⟩
    · rw [lx, ly]
      simp
    have p62 : (2 : Int) ^ 62 = 4611686018427387904 := by decide
    refine ⟨_, rfl, b, _, rfl, .inr hb, _, rfl, by omega, by omega, for_range (n := ((ys.length : Nat) : Int).toNat) (fun i σ H' => ∃ kk, σ = [some (.ref a), some (.ref b), none, none, kk] ∧ H' = H) ⟨none, rfl, rfl⟩ ?_ ?_⟩
    · rintro i σ H' hi ⟨kk, rfl, rfl⟩
      have hi' : i < ds.length := by omega
      obtain ⟨v, hv, dv⟩ := dpall_at da (List.getElem?_eq_getElem hi')
      obtain ⟨u, hu, du⟩ := dpall_at db (List.getElem?_eq_getElem hi')
      refine ⟨_, rfl, _, rfl, .inr (.inl ⟨a, _, _, v, rfl, rfl, ha, at_of (j := i) (by omega) hv, _, rfl, _, rfl, .inr (.inl ⟨b, _, _, u, rfl, rfl, hb, at_of (j := i) (by omega) hu, m, rfl, v, u, _, rfl, dv, du, hall _ (List.getElem_mem hi'), ?_⟩)⟩)⟩
      exact ⟨_, rfl, ifF rfl ⟨_, rfl, rfl⟩⟩
    · rintro σ H' ⟨kk, rfl, rfl⟩
      exact z
  | lst hl hall =>
    rename_i m ds
    cases hv with
    | lst ha da =>
    rename_i a xs
    cases hu with
    | lst hb db =>
    rename_i b ys
    have lx := dpall_len da
    have ly := dpall_len db
    have ta := sql_ty ha
    have tb := sql_ty hb
    refine ⟨_, rfl, rfl, _, rfl, ifF (dF nofun) ⟨_, rfl, _, _, _, _, false, rfl, .ty _, tb, kit_ty (by decide +kernel), _, rfl, ifF rfl ⟨_, rfl, _, _, _, _, false, rfl, .ty _, tb, kit_ty (by decide +kernel), _, rfl, ifF rfl ⟨_, rfl, _, _, _, _, false, rfl, .ty _, tb, kit_ty (by decide +kernel), _, rfl, ifF rfl ⟨_, rfl, _, _, _, _, false, rfl, .ty _, tb, kit_ty (by decide +kernel), _, rfl, ifF rfl ?_⟩⟩⟩⟩⟩
    refine ⟨_, rfl, _, _, _, _, true, rfl, .ty _, tb, kit_ty (by decide +kernel), _, rfl, ifT rfl ⟨_, rfl, _, _, _, _, true, rfl, .ty _, ta, kit_ty (by decide +kernel), _, rfl, ifF rfl ⟨_, rfl, _, _, _, _, false, rfl, .ty _, tb, kit_ty (by decide +kernel), _, rfl, ifF rfl (ifF rfl ?_)⟩⟩⟩
    refine ⟨_, rfl, a, _, rfl, .inl ha, _, rfl, b, _, rfl, .inl hb, rfl, _, rfl, ifF ?_ ?_⟩
    · rw [lx, ly]
      simp
    have p62 : (2 : Int) ^ 62 = 4611686018427387904 := by decide
    refine ⟨_, rfl, b, _, rfl, .inl hb, _, rfl, by omega, by omega, for_range (n := ((ys.length : Nat) : Int).toNat) (fun i σ H' => ∃ kk, σ = [some (.ref a), some (.ref b), none, none, kk] ∧ H' = H) ⟨none, rfl, rfl⟩ ?_ ?_⟩
    · rintro i σ H' hi ⟨kk, rfl, rfl⟩
      have hi' : i < ds.length := by omega
      obtain ⟨v, hv, dv⟩ := dpall_at da (List.getElem?_eq_getElem hi')
      obtain ⟨u, hu, du⟩ := dpall_at db (List.getElem?_eq_getElem hi')
      refine ⟨_, rfl, _, rfl, .inl ⟨a, _, _, v, rfl, rfl, ha, at_of (j := i) (by omega) hv, _, rfl, _, rfl, .inl ⟨b, _, _, u, rfl, rfl, hb, at_of (j := i) (by omega) hu, m, rfl, v, u, _, rfl, dv, du, hall _ (List.getElem_mem hi'), ?_⟩⟩⟩
      exact ⟨_, rfl, ifF rfl ⟨_, rfl, rfl⟩⟩
    · rintro σ H' ⟨kk, rfl, rfl⟩
      exact z
abbrev s__law_size : Stmt := top 21
abbrev N__law_size : List Str := ["_law_store_here", "_law_least", "_law_top", "_law_sort"]
theorem sc__law_size : FnScope N__law_size ["_law_store_here", "_law_least", "_law_top"] (defScope s__law_size) := ⟨rfl, rfl, rfl, by decide +kernel, rfl, by decide +kernel, by decide +kernel⟩
abbrev ps__law_size : List Str := ["_law_store_here", "_law_least", "_law_top"]
def spSize (K : PySem.W.Frag) (l : Addr) : Sp := fun vs H Q _ => ∃ (s : Addr) (lo hi : Int), vs = [.ref s, .int lo, .int hi] ∧ Sto l s H ∧ lo ≤ hi ∧ hi - lo < 2 ^ 32 ∧ ∀ (r : Int) H', lo ≤ r → r ≤ hi → Sto l s H' → Fr s H H' → Q (.int r) H'
theorem ok_size (F : Fn K mg "_law_size" s__law_size ps__law_size f fd) (d_law_take : Def P w K mg base k "_law_take" ["_law_store_here", "_law_many"] (spTake K l) f1 fd1) : Def P w K mg base (k + 1) "_law_size" ps__law_size (spSize K l) f fd := by
  refine ⟨F.F.ok sc__law_size (fun vs H Q E h => ?_) (fun cdv A outer s H vs Q E hr h => ?_), F.m, F.F.kp, F.b⟩
  · obtain ⟨_, _, _, rfl, _⟩ := h
    rfl
  obtain ⟨s, lo, hi, rfl, hS, h1, h2, z⟩ := h
  refine ⟨_, (pss_cons (ps_set (i := 3) sc__law_size.nd rfl (Or.inl rfl) (pcall d_law_take hr (pa_cons (pv 0) (pa_cons pe_int pa_nil))))
      (pss_cons (ps_if (pt_cmpR op_eq (pv 3) pe_int (nomark _))
        (pss_one (ps_ret (pv 1)))
        pss_nil)
      (pss_cons (ps_if (pt_cmpR op_eq (pv 3) pe_int (nomark _))
        (pss_one (ps_ret (pv 2)))
        pss_nil)
      (pss_one (ps_ret (pe_op op_add (pv 1) (pcall d_law_take hr (pa_cons (pv 0) (pa_cons (pe_op op_add (pe_op op_sub (pv 2) (pv 1)) pe_int) pa_nil))))))))), ?_⟩
  have p32 : (2 : Int) ^ 32 = 4294967296 := by decide
  have p64 : (2 : Int) ^ 64 = 18446744073709551616 := by decide
  refine ⟨_, rfl, s, 6, rfl, hS, by decide, fun r H1 r0 r1 S1 e1 => ?_⟩
  refine ⟨_, rfl, rfl, _, rfl, ifD (fun _ => ⟨_, rfl, z _ _ (by omega) h1 S1 e1⟩) (fun _ => ?_)⟩
  refine ⟨_, rfl, rfl, _, rfl, ifD (fun _ => ⟨_, rfl, z _ _ h1 (by omega) S1 e1⟩) (fun _ => ?_)⟩
  refine ⟨_, rfl, _, rfl, _, rfl, _, rfl, _, _, rfl, rfl, _, _, rfl, rfl, s, _, rfl, S1, by omega, fun r' H2 r2 r3 S2 e2 => ⟨_, _, rfl, rfl, ?_⟩⟩
  exact z _ _ (by omega) (by omega) S2 (e1.trans e2)
theorem ok_same (T : Bn mg) (F : Fn K mg "_law_same" s__law_same ps__law_same f fd) (d_law_is_int : Def P w K mg base k "_law_is_int" ["_law_value"] (spIsInt K) f1 fd1) : ∀ n, Def P w K mg base (k + n + 1) "_law_same" ps__law_same (spSame K n) f fd
  | 0 => ok_same1 T 0 F (d_law_is_int.up (Nat.le_refl _)) ⟨⟨fun vs H Q E h => by obtain ⟨m, h, _⟩ := h; omega, fun A outer s H args us vs Q E _ _ _ _ h => by obtain ⟨m, h, _⟩ := h; omega⟩, F.m, F.F.kp, F.b⟩
  | n + 1 => by
    have ih := ok_same T F d_law_is_int n
    exact ok_same1 T (n + 1) F (d_law_is_int.up (by omega)) ⟨ih.ok.imp fun vs H Q E h => by
      obtain ⟨m, h, q⟩ := h
      have e : m = n := by omega
      subst e
      exact q, F.m, F.F.kp, F.b⟩
end Vk

namespace Vk
open PySem L2 Vm
variable {l : Addr} {P : Program} {w : World} {K : PySem.W.Frag} {mg : Str → Option Value} {base : Heap} {k : Nat} {f f1 f2 f3 f4 f5 f6 f7 f8 f9 : Addr} {fd fd1 fd2 fd3 fd4 fd5 fd6 fd7 fd8 fd9 : FuncData}
/-! ### drawn rationals -/
def Qd (K : PySem.W.Frag) (m : Nat) (ok : Rat → Prop) (H : Hp) (v : V) : Prop := ∃ q, Rq K H v q ∧ Sz m q ∧ ok q
theorem Qd.same {m : Nat} {ok : Rat → Prop} {H H' : Hp} {v : V} (e : Same H H') (h : Qd K m ok H v) : Qd K m ok H' v := by
  obtain ⟨q, h, r⟩ := h
  exact ⟨q, h.same e, r⟩
theorem Qd.fr {m : Nat} {ok : Rat → Prop} {s : Addr} {H H' : Hp} {v : V} (e : Fr s H H') (hs : Sto l s H) (h : Qd K m ok H v) : Qd K m ok H' v := by
  obtain ⟨q, h, r⟩ := h
  exact ⟨q, h.fr e hs.some, r⟩
theorem Qd.new {m : Nat} {ok : Rat → Prop} {H : Hp} {t : Addr} (n d : Int) (q : Rat) (en : q.num = n) (ed : (q.den : Int) = d) (z : Sz m q) (o : ok q) : Qd K m ok (upd H t (.tup [.int n, .int d])) (.ref t) :=
  ⟨q, ⟨t, rfl, SqT.of (by rw [upd_same, en, ed])⟩, z, o⟩
theorem rq_new {H : Hp} {t : Addr} (n d : Int) (q : Rat) (en : q.num = n) (ed : (q.den : Int) = d) : Rq K (upd H t (.tup [.int n, .int d])) (.ref t) q := ⟨t, rfl, SqT.of (by rw [upd_same, en, ed])⟩
instance (k : Nat) (q : Rat) : Decidable (Sz k q) := inferInstanceAs (Decidable (_ ∧ _))
/-- a written pair: from then on a drawn rational -/
theorem newq {m : Nat} {ok : Rat → Prop} {H : Hp} {Q : V → Hp → Prop} (n d : Int) (q : Rat) (en : q.num = n) (ed : (q.den : Int) = d) (z : Sz m q) (o : ok q) (h : ∀ v H', Same H H' → Qd K m ok H' v → Q v H') : ∀ t, H t = none → Q (.ref t) (upd H t (.tup [.int n, .int d])) :=
  fun t ht => h _ _ (same_new ht _) (Qd.new n d q en ed z o)
def anyQ : Rat → Prop := fun _ => True
def posQ : Rat → Prop := fun q => 0 < q
instance (q : Rat) : Decidable (posQ q) := inferInstanceAs (Decidable (0 < q))
/-- a rational is drawn -/
def spDraw (K : PySem.W.Frag) (l : Addr) (m : Nat) (ok : Rat → Prop) : Sp := fun vs H Q _ => ∃ (s : Addr), vs = [.ref s] ∧ Sto l s H ∧ ∀ (v : V) H', Qd K m ok H' v → Sto l s H' → Fr s H H' → Q v H'
theorem mk_pos {n d : Int} (hn : 0 < n) (hd : 0 < d) : 0 < mkRat n d.toNat := by
  refine pos_of_num ?_
  have dn : d.toNat ≠ 0 := by omega
  rw [mk_num n dn]
  have g := Nat.gcd_le_left d.toNat (show 0 < n.natAbs by omega)
  have gp : 0 < Nat.gcd n.natAbs d.toNat := Nat.gcd_pos_of_pos_left _ (by omega)
  exact Int.ediv_pos_of_pos_of_dvd hn (by omega) (by
    have := Nat.gcd_dvd_left n.natAbs d.toNat
    have e : n = (n.natAbs : Int) := by omega
    rw [e]
    exact Int.natCast_dvd_natCast.mpr (by rw [Int.natAbs_natCast]; exact this))
theorem lt2 {i : Int} {b : Nat} (c : Nat) (h : i.natAbs < c) (e : c ≤ 2 ^ b) : i.natAbs < 2 ^ b := Nat.lt_of_lt_of_le h e
abbrev s__law_part : Stmt := top 31
abbrev N__law_part : List Str := ["_law_store_here", "_law_sort"]
theorem sc__law_part : FnScope N__law_part ["_law_store_here"] (defScope s__law_part) := ⟨rfl, rfl, rfl, by decide +kernel, rfl, by decide +kernel, by decide +kernel⟩
abbrev ps__law_part : List Str := ["_law_store_here"]
theorem ok_part (F : Fn K mg "_law_part" s__law_part ps__law_part f fd) (d_law_take : Def P w K mg base k "_law_take" ["_law_store_here", "_law_many"] (spTake K l) f1 fd1) (d_law_pick : Def P w K mg base k "_law_pick" ["_law_store_here", "_law_things"] (spPick K l) f2 fd2)
    (d_law_frac : Def P w K mg base k "_law_frac" ["_law_n", "_law_d"] (spFrac K) f3 fd3) : Def P w K mg base (k + 1) "_law_part" ps__law_part (spDraw K l 5 anyQ) f fd := by
  refine ⟨F.F.ok sc__law_part (fun vs H Q E h => ?_) (fun cdv A outer s H vs Q E hr h => ?_), F.m, F.F.kp, F.b⟩
  · obtain ⟨_, rfl, _⟩ := h
    rfl
  obtain ⟨s, rfl, hS, z⟩ := h
  refine ⟨_, (pss_cons (ps_set (i := 1) sc__law_part.nd rfl (Or.inl rfl) (pcall d_law_take hr (pa_cons (pv 0) (pa_cons pe_int pa_nil))))
      (pss_cons (ps_if (pt_cmpR op_lt (pv 1) pe_int (nomark _))
        (pss_one (ps_ret (pcall d_law_pick hr (pa_cons (pv 0) (pa_cons (pe_lst (pa_cons (pe_tup (pa_cons pe_int (pa_cons pe_int pa_nil))) (pa_cons (pe_tup (pa_cons pe_int (pa_cons pe_int pa_nil))) (pa_cons (pe_tup (pa_cons pe_int (pa_cons pe_int pa_nil))) (pa_cons (pe_tup (pa_cons (pe_un un_neg pe_int) (pa_cons pe_int pa_nil))) (pa_cons (pe_tup (pa_cons pe_int (pa_cons pe_int pa_nil))) (pa_cons (pe_tup (pa_cons (pe_un un_neg pe_int) (pa_cons pe_int pa_nil))) pa_nil))))))) pa_nil)))))
        pss_nil)
      (pss_one (ps_ret (pcall d_law_frac hr (pa_cons (pe_op op_sub (pcall d_law_take hr (pa_cons (pv 0) (pa_cons pe_int pa_nil))) pe_int) (pa_cons (pe_op op_add pe_int (pcall d_law_take hr (pa_cons (pv 0) (pa_cons pe_int pa_nil)))) pa_nil))))))), ?_⟩
  refine ⟨_, rfl, s, 6, rfl, hS, by decide, fun r H1 r0 r1 S1 e1 => ?_⟩
  refine ⟨_, rfl, _, _, rfl, rfl, _, rfl, ifD (fun _ => ?_) (fun _ => ?_)⟩
  · refine ⟨_, rfl, sz2, fun t1 h1 => ?_⟩
    have c1 := same_new h1 (.tup [.int 0, .int 1]); have q1 := Qd.new (K := K) (m := 5) (ok := anyQ) (H := H1) (t := t1) 0 1 (0) (by decide) (by decide) (by decide) trivial; generalize upd H1 t1 (.tup [.int 0, .int 1]) = G1 at c1 q1 ⊢
    refine ⟨sz2, fun t2 h2 => ?_⟩
    have c2 := same_new h2 (.tup [.int 0, .int 1]); have q2 := Qd.new (K := K) (m := 5) (ok := anyQ) (H := G1) (t := t2) 0 1 (0) (by decide) (by decide) (by decide) trivial; generalize upd G1 t2 (.tup [.int 0, .int 1]) = G2 at c2 q2 ⊢
    refine ⟨sz2, fun t3 h3 => ?_⟩
    have c3 := same_new h3 (.tup [.int 1, .int 1]); have q3 := Qd.new (K := K) (m := 5) (ok := anyQ) (H := G2) (t := t3) 1 1 (1) (by decide) (by decide) (by decide) trivial; generalize upd G2 t3 (.tup [.int 1, .int 1]) = G3 at c3 q3 ⊢
    refine ⟨_, rfl, sz2, fun t4 h4 => ?_⟩
    have c4 := same_new h4 (.tup [.int (-1), .int 1]); have q4 := Qd.new (K := K) (m := 5) (ok := anyQ) (H := G3) (t := t4) (-1) 1 (-1) (by decide) (by decide) (by decide) trivial; generalize upd G3 t4 (.tup [.int (-1), .int 1]) = G4 at c4 q4 ⊢
    refine ⟨sz2, fun t5 h5 => ?_⟩
    have c5 := same_new h5 (.tup [.int 1, .int 2]); have q5 := Qd.new (K := K) (m := 5) (ok := anyQ) (H := G4) (t := t5) 1 2 (mkRat 1 2) (by decide) (by decide) (by decide) trivial; generalize upd G4 t5 (.tup [.int 1, .int 2]) = G5 at c5 q5 ⊢
    refine ⟨_, rfl, sz2, fun t6 h6 => ?_⟩
    have c6 := same_new h6 (.tup [.int (-1), .int 2]); have q6 := Qd.new (K := K) (m := 5) (ok := anyQ) (H := G5) (t := t6) (-1) 2 (mkRat (-1) 2) (by decide) (by decide) (by decide) trivial; generalize upd G5 t6 (.tup [.int (-1), .int 2]) = G6 at c6 q6 ⊢
    refine ⟨sm6, fun p h7 => ?_⟩
    have c7 := same_new h7 (.lst [.ref t1, .ref t2, .ref t3, .ref t4, .ref t5, .ref t6])
    have d6 := c6.trans c7; have d5 := c5.trans d6; have d4 := c4.trans d5; have d3 := c3.trans d4; have d2 := c2.trans d3; have d1 := c1.trans d2
    have S7 := S1.same d1
    have q1 := q1.same d2; have q2 := q2.same d3; have q3 := q3.same d4; have q4 := q4.same d5; have q5 := q5.same d6; have q6 := q6.same c7
    refine ⟨s, p, _, rfl, S7, (S1.same (c1.trans (c2.trans (c3.trans (c4.trans (c5.trans c6)))))).ne h7, SqL.of upd_same, (by show 0 < 6; decide), (by show 6 < 2 ^ 32; decide), fun v H' hv S' e' => z _ _ ?_ S' (e1.trans ((Fr.of d1).trans e'))⟩
    refine Qd.fr e' S7 ?_
    simp only [List.mem_cons, List.mem_nil_iff, or_false] at hv
    rcases hv with rfl | rfl | rfl | rfl | rfl | rfl <;> assumption
  · refine ⟨_, rfl, s, 49, rfl, S1, by decide, fun r2 H2 r3 r4 S2 e2 => ⟨_, _, rfl, rfl, ?_⟩⟩
    refine ⟨_, rfl, s, 6, rfl, S2, by decide, fun r5 H3 r6 r7 S3 e3 => ⟨_, _, rfl, rfl, ?_⟩⟩
    refine ⟨_, _, 5, rfl, by omega, lt2 25 (by omega) (by decide), lt2 7 (by omega) (by decide), by decide, fun v H' e hv => z _ _ ⟨_, hv, sz_mk (by omega) ?_ ?_, trivial⟩ (S3.same e) (e1.trans (e2.trans (e3.trans (Fr.of e))))⟩
    · exact lt2 25 (by omega) (by decide)
    · have : (2 : Nat) ^ 5 = 32 := by decide
      omega
abbrev s__law_above : Stmt := top 32
abbrev N__law_above : List Str := ["_law_store_here"]
theorem sc__law_above : FnScope N__law_above ["_law_store_here"] (defScope s__law_above) := ⟨rfl, rfl, rfl, by decide +kernel, rfl, by decide +kernel, by decide +kernel⟩
abbrev ps__law_above : List Str := ["_law_store_here"]
theorem ok_above (F : Fn K mg "_law_above" s__law_above ps__law_above f fd) (d_law_take : Def P w K mg base k "_law_take" ["_law_store_here", "_law_many"] (spTake K l) f1 fd1) (d_law_frac : Def P w K mg base k "_law_frac" ["_law_n", "_law_d"] (spFrac K) f3 fd3) : Def P w K mg base (k + 1) "_law_above" ps__law_above (spDraw K l 5 posQ) f fd := by
  refine ⟨F.F.ok sc__law_above (fun vs H Q E h => ?_) (fun cdv A outer s H vs Q E hr h => ?_), F.m, F.F.kp, F.b⟩
  · obtain ⟨_, rfl, _⟩ := h
    rfl
  obtain ⟨s, rfl, hS, z⟩ := h
  refine ⟨_, (pss_cons (ps_if (pt_cmpR op_eq (pcall d_law_take hr (pa_cons (pv 0) (pa_cons pe_int pa_nil))) pe_int (nomark _))
        (pss_one (ps_ret (pe_tup (pa_cons pe_int (pa_cons pe_int pa_nil)))))
        pss_nil)
      (pss_one (ps_ret (pcall d_law_frac hr (pa_cons (pe_op op_add pe_int (pcall d_law_take hr (pa_cons (pv 0) (pa_cons pe_int pa_nil)))) (pa_cons (pe_op op_add pe_int (pcall d_law_take hr (pa_cons (pv 0) (pa_cons pe_int pa_nil)))) pa_nil)))))), ?_⟩
  refine ⟨_, rfl, s, 4, rfl, hS, by decide, fun r H1 r0 r1 S1 e1 => ?_⟩
  refine ⟨rfl, _, rfl, ifD (fun _ => ?_) (fun _ => ?_)⟩
  · exact ⟨sz2, fun t ht => z _ _ (Qd.new 1 1 1 rfl rfl (by decide) (by decide)) (S1.same (same_new ht _)) (e1.trans (Fr.of (same_new ht _)))⟩
  refine ⟨_, rfl, s, 24, rfl, S1, by decide, fun r2 H2 r3 r4 S2 e2 => ⟨_, _, rfl, rfl, ?_⟩⟩
  refine ⟨_, rfl, s, 6, rfl, S2, by decide, fun r5 H3 r6 r7 S3 e3 => ⟨_, _, rfl, rfl, ?_⟩⟩
  refine ⟨_, _, 5, rfl, by omega, lt2 25 (by omega) (by decide), lt2 7 (by omega) (by decide), by decide, fun v H' e hv => z _ _ ⟨_, hv, sz_mk (by omega) ?_ ?_, mk_pos (by omega) (by omega)⟩ (S3.same e) (e1.trans (e2.trans (e3.trans (Fr.of e))))⟩
  · exact lt2 25 (by omega) (by decide)
  · have : (2 : Nat) ^ 5 = 32 := by decide
    omega
abbrev s__law_pace : Stmt := top 35
abbrev N__law_pace : List Str := ["_law_store_here"]
theorem sc__law_pace : FnScope N__law_pace ["_law_store_here"] (defScope s__law_pace) := ⟨rfl, rfl, rfl, by decide +kernel, rfl, by decide +kernel, by decide +kernel⟩
abbrev ps__law_pace : List Str := ["_law_store_here"]
theorem ok_pace (F : Fn K mg "_law_pace" s__law_pace ps__law_pace f fd) (d_law_take : Def P w K mg base k "_law_take" ["_law_store_here", "_law_many"] (spTake K l) f1 fd1) (d_law_pick : Def P w K mg base k "_law_pick" ["_law_store_here", "_law_things"] (spPick K l) f2 fd2) (d_law_frac : Def P w K mg base k "_law_frac" ["_law_n", "_law_d"] (spFrac K) f3 fd3) : Def P w K mg base (k + 1) "_law_pace" ps__law_pace (spDraw K l 5 posQ) f fd := by
  refine ⟨F.F.ok sc__law_pace (fun vs H Q E h => ?_) (fun cdv A outer s H vs Q E hr h => ?_), F.m, F.F.kp, F.b⟩
  · obtain ⟨_, rfl, _⟩ := h
    rfl
  obtain ⟨s, rfl, hS, z⟩ := h
  refine ⟨_, (pss_cons (ps_if (pt_cmpR op_eq (pcall d_law_take hr (pa_cons (pv 0) (pa_cons pe_int pa_nil))) pe_int (nomark _))
        (pss_one (ps_ret (pcall d_law_pick hr (pa_cons (pv 0) (pa_cons (pe_lst (pa_cons (pe_tup (pa_cons pe_int (pa_cons pe_int pa_nil))) (pa_cons (pe_tup (pa_cons pe_int (pa_cons pe_int pa_nil))) (pa_cons (pe_tup (pa_cons pe_int (pa_cons pe_int pa_nil))) (pa_cons (pe_tup (pa_cons pe_int (pa_cons pe_int pa_nil))) (pa_cons (pe_tup (pa_cons pe_int (pa_cons pe_int pa_nil))) (pa_cons (pe_tup (pa_cons pe_int (pa_cons pe_int pa_nil))) pa_nil))))))) pa_nil)))))
        pss_nil)
      (pss_one (ps_ret (pcall d_law_frac hr (pa_cons (pe_op op_add pe_int (pcall d_law_take hr (pa_cons (pv 0) (pa_cons pe_int pa_nil)))) (pa_cons (pe_op op_add pe_int (pcall d_law_take hr (pa_cons (pv 0) (pa_cons pe_int pa_nil)))) pa_nil)))))), ?_⟩
  refine ⟨_, rfl, s, 2, rfl, hS, by decide, fun r H1 r0 r1 S1 e1 => ?_⟩
  refine ⟨rfl, _, rfl, ifD (fun _ => ?_) (fun _ => ?_)⟩
  · refine ⟨_, rfl, sz2, fun t1 h1 => ?_⟩
    have c1 := same_new h1 (.tup [.int 1, .int 1]); have q1 := Qd.new (K := K) (m := 5) (ok := posQ) (H := H1) (t := t1) 1 1 (1) (by decide) (by decide) (by decide) (by decide); generalize upd H1 t1 (.tup [.int 1, .int 1]) = G1 at c1 q1 ⊢
    refine ⟨sz2, fun t2 h2 => ?_⟩
    have c2 := same_new h2 (.tup [.int 1, .int 1]); have q2 := Qd.new (K := K) (m := 5) (ok := posQ) (H := G1) (t := t2) 1 1 (1) (by decide) (by decide) (by decide) (by decide); generalize upd G1 t2 (.tup [.int 1, .int 1]) = G2 at c2 q2 ⊢
    refine ⟨sz2, fun t3 h3 => ?_⟩
    have c3 := same_new h3 (.tup [.int 1, .int 2]); have q3 := Qd.new (K := K) (m := 5) (ok := posQ) (H := G2) (t := t3) 1 2 (mkRat 1 2) (by decide) (by decide) (by decide) (by decide); generalize upd G2 t3 (.tup [.int 1, .int 2]) = G3 at c3 q3 ⊢
    refine ⟨sz2, fun t4 h4 => ?_⟩
    have c4 := same_new h4 (.tup [.int 2, .int 1]); have q4 := Qd.new (K := K) (m := 5) (ok := posQ) (H := G3) (t := t4) 2 1 (2) (by decide) (by decide) (by decide) (by decide); generalize upd G3 t4 (.tup [.int 2, .int 1]) = G4 at c4 q4 ⊢
    refine ⟨sz2, fun t5 h5 => ?_⟩
    have c5 := same_new h5 (.tup [.int 9, .int 10]); have q5 := Qd.new (K := K) (m := 5) (ok := posQ) (H := G4) (t := t5) 9 10 (mkRat 9 10) (by decide) (by decide) (by decide) (by decide); generalize upd G4 t5 (.tup [.int 9, .int 10]) = G5 at c5 q5 ⊢
    refine ⟨sz2, fun t6 h6 => ?_⟩
    have c6 := same_new h6 (.tup [.int 11, .int 10]); have q6 := Qd.new (K := K) (m := 5) (ok := posQ) (H := G5) (t := t6) 11 10 (mkRat 11 10) (by decide) (by decide) (by decide) (by decide); generalize upd G5 t6 (.tup [.int 11, .int 10]) = G6 at c6 q6 ⊢
    refine ⟨sm6, fun p hp => ?_⟩
    have cp := same_new hp (.lst [.ref t1, .ref t2, .ref t3, .ref t4, .ref t5, .ref t6])
    have d6 := c6.trans cp
    have d5 := c5.trans d6
    have d4 := c4.trans d5
    have d3 := c3.trans d4
    have d2 := c2.trans d3
    have d1 := c1.trans d2
    have Sp := S1.same d1
    have np := (S1.same (c1.trans (c2.trans (c3.trans (c4.trans (c5.trans c6)))))).ne hp
    have q1 := q1.same d2
    have q2 := q2.same d3
    have q3 := q3.same d4
    have q4 := q4.same d5
    have q5 := q5.same d6
    have q6 := q6.same cp
    refine ⟨s, p, _, rfl, Sp, np, SqL.of upd_same, (by show 0 < 6; decide), (by show 6 < 2 ^ 32; decide), fun v H' hv S' e' => ?_⟩
    have qv : Qd K 5 posQ H' v := by
      refine Qd.fr e' Sp ?_
      simp only [List.mem_cons, List.mem_nil_iff, or_false] at hv
      rcases hv with rfl | rfl | rfl | rfl | rfl | rfl <;> assumption
    exact z _ _ qv S' (e1.trans ((Fr.of d1).trans e'))
  refine ⟨_, rfl, s, 30, rfl, S1, by decide, fun r2 H2 r3 r4 S2 e2 => ⟨_, _, rfl, rfl, ?_⟩⟩
  refine ⟨_, rfl, s, 12, rfl, S2, by decide, fun r5 H3 r6 r7 S3 e3 => ⟨_, _, rfl, rfl, ?_⟩⟩
  refine ⟨_, _, 5, rfl, by omega, lt2 31 (by omega) (by decide), lt2 13 (by omega) (by decide), by decide, fun v H' e hv => z _ _ ⟨_, hv, sz_mk (by omega) ?_ ?_, mk_pos (by omega) (by omega)⟩ (S3.same e) (e1.trans (e2.trans (e3.trans (Fr.of e))))⟩
  · exact lt2 31 (by omega) (by decide)
  · have : (2 : Nat) ^ 5 = 32 := by decide
    omega
abbrev s__law_near : Stmt := top 33
abbrev N__law_near : List Str := ["_law_store_here", "_law_value", "_law_sort", "_law_bit"]
theorem sc__law_near : FnScope N__law_near ["_law_store_here", "_law_value"] (defScope s__law_near) := ⟨rfl, rfl, rfl, by decide +kernel, rfl, by decide +kernel, by decide +kernel⟩
abbrev ps__law_near : List Str := ["_law_store_here", "_law_value"]
/-- one rational in, one near it out -/
def spNear (K : PySem.W.Frag) (l : Addr) : Sp := fun vs H Q _ => ∃ (s : Addr) (x : V) (m : Nat), vs = [.ref s, x] ∧ Sto l s H ∧ m + 11 ≤ 9000 ∧ Qd K m anyQ H x ∧ ∀ (v : V) H', Qd K (m + 11) anyQ H' v → Sto l s H' → Fr s H H' → Q v H'
theorem ok_near (F : Fn K mg "_law_near" s__law_near ps__law_near f fd) (d_law_take : Def P w K mg base k "_law_take" ["_law_store_here", "_law_many"] (spTake K l) f1 fd1) (d_law_pick : Def P w K mg base k "_law_pick" ["_law_store_here", "_law_things"] (spPick K l) f2 fd2) (d_law_plus : Def P w K mg base k "_law_plus" ["_law_a", "_law_b"] (spOp2 K (· + ·)) f3 fd3) (d_law_minus : Def P w K mg base k "_law_minus" ["_law_a", "_law_b"] (spOp2 K (· - ·)) f4 fd4) :
    Def P w K mg base (k + 1) "_law_near" ps__law_near (spNear K l) f fd := by
  refine ⟨F.F.ok sc__law_near (fun vs H Q E h => ?_) (fun cdv A outer s H vs Q E hr h => ?_), F.m, F.F.kp, F.b⟩
  · obtain ⟨_, _, _, rfl, _⟩ := h
    rfl
  obtain ⟨s, x, m, rfl, hS, m1, hx, z⟩ := h
  refine ⟨_, (pss_cons (ps_set (i := 2) sc__law_near.nd rfl (Or.inl rfl) (pcall d_law_take hr (pa_cons (pv 0) (pa_cons pe_int pa_nil))))
      (pss_cons (ps_if (pt_cmpR op_lt (pv 2) pe_int (nomark _))
        (pss_one (ps_ret (pv 1)))
        pss_nil)
      (pss_cons (ps_set (i := 3) sc__law_near.nd rfl (Or.inl rfl) (pcall d_law_pick hr (pa_cons (pv 0) (pa_cons (pe_lst (pa_cons (pe_tup (pa_cons pe_int (pa_cons pe_int pa_nil))) (pa_cons (pe_tup (pa_cons pe_int (pa_cons pe_int pa_nil))) (pa_cons (pe_tup (pa_cons pe_int (pa_cons pe_int pa_nil))) (pa_cons (pe_tup (pa_cons pe_int (pa_cons pe_int pa_nil))) pa_nil))))) pa_nil))))
      (pss_cons (ps_if (pt_cmpR op_eq (pv 2) pe_int (nomark _))
        (pss_one (ps_ret (pcall d_law_plus hr (pa_cons (pv 1) (pa_cons (pv 3) pa_nil)))))
        pss_nil)
      (pss_one (ps_ret (pcall d_law_minus hr (pa_cons (pv 1) (pa_cons (pv 3) pa_nil))))))))), ?_⟩
  refine ⟨_, rfl, s, 4, rfl, hS, by decide, fun r H1 r0 r1 S1 e1 => ?_⟩
  have hx1 := hx.fr e1 hS
  refine ⟨_, rfl, _, _, rfl, rfl, _, rfl, ifD (fun _ => ⟨_, rfl, z _ _ (by obtain ⟨q, h1, h2, h3⟩ := hx1; exact ⟨q, h1, h2.mono (by omega), h3⟩) S1 e1⟩) (fun _ => ?_)⟩
  refine ⟨_, rfl, sz2, fun t1 h1 => ?_⟩
  have c1 := same_new h1 (.tup [.int 1, .int 1]); have q1 := Qd.new (K := K) (m := 10) (ok := anyQ) (H := H1) (t := t1) 1 1 (1) (by decide) (by decide) (by decide) trivial; generalize upd H1 t1 (.tup [.int 1, .int 1]) = G1 at c1 q1 ⊢
  refine ⟨sz2, fun t2 h2 => ?_⟩
  have c2 := same_new h2 (.tup [.int 1, .int 2]); have q2 := Qd.new (K := K) (m := 10) (ok := anyQ) (H := G1) (t := t2) 1 2 (mkRat 1 2) (by decide) (by decide) (by decide) trivial; generalize upd G1 t2 (.tup [.int 1, .int 2]) = G2 at c2 q2 ⊢
  refine ⟨sz2, fun t3 h3 => ?_⟩
  have c3 := same_new h3 (.tup [.int 1, .int 60]); have q3 := Qd.new (K := K) (m := 10) (ok := anyQ) (H := G2) (t := t3) 1 60 (mkRat 1 60) (by decide) (by decide) (by decide) trivial; generalize upd G2 t3 (.tup [.int 1, .int 60]) = G3 at c3 q3 ⊢
  refine ⟨sz2, fun t4 h4 => ?_⟩
  have c4 := same_new h4 (.tup [.int 1, .int 1000]); have q4 := Qd.new (K := K) (m := 10) (ok := anyQ) (H := G3) (t := t4) 1 1000 (mkRat 1 1000) (by decide) (by decide) (by decide) trivial; generalize upd G3 t4 (.tup [.int 1, .int 1000]) = G4 at c4 q4 ⊢
  refine ⟨sm4, fun p hp => ?_⟩
  have cp := same_new hp (.lst [.ref t1, .ref t2, .ref t3, .ref t4])
  have d4 := c4.trans cp
  have d3 := c3.trans d4
  have d2 := c2.trans d3
  have d1 := c1.trans d2
  have Sp := S1.same d1
  have np := (S1.same (c1.trans (c2.trans (c3.trans c4)))).ne hp
  have q1 := q1.same d2
  have q2 := q2.same d3
  have q3 := q3.same d4
  have q4 := q4.same cp
  refine ⟨s, p, _, rfl, Sp, np, SqL.of upd_same, (by show 0 < 4; decide), (by show 4 < 2 ^ 32; decide), fun v H' hv S' e' => ?_⟩
  have qv : Qd K 10 anyQ H' v := by
    refine Qd.fr e' Sp ?_
    simp only [List.mem_cons, List.mem_nil_iff, or_false] at hv
    rcases hv with rfl | rfl | rfl | rfl <;> assumption
  have e2 := (Fr.of (s := s) d1).trans e'
  obtain ⟨b, hb, zb, _⟩ := qv
  obtain ⟨a, ha, za, _⟩ := hx1.fr e2 S1
  refine ⟨_, rfl, rfl, _, rfl, ifD (fun _ => ?_) (fun _ => ?_)⟩
  · exact ⟨_, rfl, _, rfl, _, _, a, b, m, 10, rfl, ha, hb, za, zb, by omega, fun v H'' e hv => z _ _ ⟨_, hv, za.add zb, trivial⟩ (S'.same e) (e1.trans (e2.trans (Fr.of e)))⟩
  · exact ⟨_, rfl, _, rfl, _, _, a, b, m, 10, rfl, ha, hb, za, zb, by omega, fun v H'' e hv => z _ _ ⟨_, hv, za.sub zb, trivial⟩ (S'.same e) (e1.trans (e2.trans (Fr.of e)))⟩
end Vk

namespace Vk
open PySem L2 Vm
variable {P : Program} {w : World} {K : PySem.W.Frag} {mg : Str → Option Value} {base : Heap} {k : Nat} {f f1 f2 f3 f4 f5 f6 f7 f8 f9 : Addr} {fd fd1 fd2 fd3 fd4 fd5 fd6 fd7 fd8 fd9 : FuncData}
/-! ### courses -/
structure Pc where
  s : Rat
  v : Rat
  r : Rat
def Pq (K : PySem.W.Frag) (H : Hp) (x : V) (p : Pc) : Prop := ∃ a xs xv xr, x = .ref a ∧ SqT K H a [xs, xv, xr] ∧ Rq K H xs p.s ∧ Rq K H xv p.v ∧ Rq K H xr p.r
theorem Pq.same {H H' : Hp} {x : V} {p : Pc} (e : Same H H') (h : Pq K H x p) : Pq K H' x p := by
  obtain ⟨a, xs, xv, xr, rfl, h, h1, h2, h3⟩ := h
  exact ⟨a, xs, xv, xr, rfl, e.sqt h, h1.same e, h2.same e, h3.same e⟩
theorem Pq.fr {s : Addr} {H H' : Hp} {x : V} {p : Pc} (e : Fr s H H') (hs : ∃ ys, H s = some (.lst ys)) (h : Pq K H x p) : Pq K H' x p := by
  obtain ⟨a, xs, xv, xr, rfl, h, h1, h2, h3⟩ := h
  exact ⟨a, xs, xv, xr, rfl, sqt_fr e hs h, h1.fr e hs, h2.fr e hs, h3.fr e hs⟩
def All2 {α : Type} (R : V → α → Prop) (xs : List V) (c : List α) : Prop := xs.length = c.length ∧ ∀ (i : Nat) x p, xs[i]? = some x → c[i]? = some p → R x p
theorem All2.nil {α : Type} {R : V → α → Prop} : All2 R [] [] := ⟨rfl, fun i x p h => by simp at h⟩
theorem All2.imp {α : Type} {R R' : V → α → Prop} {xs : List V} {c : List α} (h : All2 R xs c) (g : ∀ x p, R x p → R' x p) : All2 R' xs c := ⟨h.1, fun i x p a b => g _ _ (h.2 i x p a b)⟩
theorem All2.snoc {α : Type} {R : V → α → Prop} {xs : List V} {c : List α} {x : V} {p : α} (h : All2 R xs c) (r : R x p) : All2 R (xs ++ [x]) (c ++ [p]) := by
  refine ⟨by simp [h.1], fun i y q a b => ?_⟩
  by_cases hi : i < xs.length
  · rw [List.getElem?_append_left hi] at a
    rw [List.getElem?_append_left (by rw [← h.1]; exact hi)] at b
    exact h.2 i y q a b
  · rw [List.getElem?_append_right (by omega)] at a
    rw [List.getElem?_append_right (by rw [← h.1]; omega)] at b
    have e : i - xs.length = 0 := by
      have := (List.getElem?_eq_some_iff.mp a).1
      simp at this
      omega
    rw [e] at a
    rw [← h.1, e] at b
    cases a
    cases b
    exact r
theorem All2.at {α : Type} {R : V → α → Prop} {xs : List V} {c : List α} (h : All2 R xs c) {i : Nat} {p : α} (e : c[i]? = some p) : ∃ x, xs[i]? = some x ∧ R x p := by
  have hi := (List.getElem?_eq_some_iff.mp e).1
  rw [← h.1] at hi
  exact ⟨xs[i], List.getElem?_eq_getElem hi, h.2 i _ _ (List.getElem?_eq_getElem hi) e⟩
/-- a list at a holds the course c -/
def Cq (K : PySem.W.Frag) (H : Hp) (a : Addr) (c : List Pc) : Prop := ∃ xs, SqL K H a xs ∧ All2 (Pq K H) xs c
theorem Cq.same {H H' : Hp} {a : Addr} {c : List Pc} (e : Same H H') (h : Cq K H a c) : Cq K H' a c := by
  obtain ⟨xs, h, g⟩ := h
  exact ⟨xs, e.seq h, g.imp fun _ _ h => h.same e⟩
theorem Cq.fr {s : Addr} {H H' : Hp} {a : Addr} {c : List Pc} (e : Fr s H H') (hs : ∃ ys, H s = some (.lst ys)) (n : a ≠ s) (h : Cq K H a c) : Cq K H' a c := by
  obtain ⟨xs, h, g⟩ := h
  exact ⟨xs, seq_fr e n h, g.imp fun _ _ h => h.fr e hs⟩
/-- sizes: starts, values, rates -/
def Cz (i j l : Nat) (c : List Pc) : Prop := ∀ p ∈ c, Sz i p.s ∧ Sz j p.v ∧ Sz l p.r
/-- a course's form -/
def Cok (c : List Pc) : Prop := (∀ p ∈ c, 0 < p.r) ∧ ∀ (i : Nat) p q, c[i]? = some p → c[i + 1]? = some q → p.s < q.s
def tm (p : Pc) (y : Rat) : Rat := p.s + (y - p.v) / p.r
def before (c : List Pc) (k : Nat) (t : Rat) : Bool := match c[k]? with
  | none => true
  | some q => decide (t < q.s)
def hit (c : List Pc) (y : Rat) (k : Nat) : Option Rat := match c[k]? with
  | none => none
  | some p => if p.s ≤ tm p y ∧ before c (k + 1) (tm p y) = true then some (tm p y) else none
def hits (c : List Pc) (y : Rat) (n : Nat) : List Rat := (List.range n).filterMap (hit c y)
theorem hits_succ (c : List Pc) (y : Rat) (n : Nat) : hits c y (n + 1) = hits c y n ++ (hit c y n).toList := by
  unfold hits
  rw [List.range_succ, List.filterMap_append]
  cases h : hit c y n <;> simp [h]
abbrev s__law_is_frac : Stmt := top 29
abbrev N__law_is_frac : List Str := ["_law_value"]
theorem sc__law_is_frac : FnScope N__law_is_frac ["_law_value"] (defScope s__law_is_frac) := ⟨rfl, rfl, rfl, by decide +kernel, rfl, by decide +kernel, by decide +kernel⟩
abbrev ps__law_is_frac : List Str := ["_law_value"]
def spIsFrac (K : PySem.W.Frag) : Sp := fun vs H Q _ => ∃ (x : V) (q : Rat) (m : Nat), vs = [x] ∧ Rq K H x q ∧ Sz m q ∧ m ≤ 9000 ∧ ∀ H', Same H H' → Q (.bl true) H'
theorem ok_is_frac (T : Bn mg) (F : Fn K mg "_law_is_frac" s__law_is_frac ps__law_is_frac f fd) (d_law_is_int : Def P w K mg base k "_law_is_int" ["_law_value"] (spIsInt K) f1 fd1) (d_law_frac : Def P w K mg base k "_law_frac" ["_law_n", "_law_d"] (spFrac K) f2 fd2) :
    Def P w K mg base (k + 1) "_law_is_frac" ps__law_is_frac (spIsFrac K) f fd := by
  refine ⟨F.F.ok sc__law_is_frac (fun vs H Q E h => ?_) (fun cdv A outer s H vs Q E hr h => ?_), F.m, F.F.kp, F.b⟩
  · obtain ⟨x, q, m, rfl, _⟩ := h
    rfl
  obtain ⟨x, q, m, rfl, hx, zq, hm, z⟩ := h
  obtain ⟨a, rfl, ha⟩ := id hx
  refine ⟨_, (pss_cons (ps_if (PW.pt (pw_or (pt_not (pt_val (pe_callB call_isi (by rfl) T.isinstance_ (by decide +kernel) (pa_cons (pv 0) (pa_cons (pe_bltn (v := .ty "tuple") (by rfl) T.tuple_ (by decide +kernel) rfl) pa_nil))))) (pw_or1 (pt_cmpR op_ne (pe_callB call_len_seq (by rfl) T.len_ PySem.boot_len (pa_cons (pv 0) pa_nil)) pe_int (nomark _)))))
        (pss_one (ps_ret pe_bl))
        pss_nil)
      (pss_cons (ps_if (PW.pt (pw_or (pt_not (pt_val (pcall d_law_is_int hr (pa_cons (pe_ix ix_tup (pv 0) pe_int (fun _ _ => rfl)) pa_nil)))) (pw_or (pt_not (pt_val (pcall d_law_is_int hr (pa_cons (pe_ix ix_tup (pv 0) pe_int (fun _ _ => rfl)) pa_nil)))) (pw_or1 (pt_cmpR op_lt (pe_ix ix_tup (pv 0) pe_int (fun _ _ => rfl)) pe_int (nomark _))))))
        (pss_one (ps_ret pe_bl))
        pss_nil)
      (pss_one (ps_ret (pe_cmpR (op_eqD hr.units) (pcall d_law_frac hr (pa_cons (pe_ix ix_tup (pv 0) pe_int (fun _ _ => rfl)) (pa_cons (pe_ix ix_tup (pv 0) pe_int (fun _ _ => rfl)) pa_nil))) (pv 0) (nomark _)))))), ?_⟩
  have ta := sqt_ty ha
  have dp := q.den_pos
  refine ⟨_, rfl, _, _, _, _, true, rfl, .ty _, ta, kit_ty (by decide +kernel), _, rfl, ifF rfl ⟨_, rfl, a, _, rfl, .inr ha, rfl, _, rfl, ifF rfl ?_⟩⟩
  refine ⟨_, rfl, a, _, _, _, rfl, rfl, ha, at0 rfl, _, rfl, _, rfl, ifF rfl ⟨_, rfl, a, _, _, _, rfl, rfl, ha, at1 rfl, _, rfl, _, rfl, ifF rfl ⟨_, rfl, a, _, _, _, rfl, rfl, ha, at1 rfl, _, _, rfl, rfl, _, rfl, ifF (dF (by omega)) ?_⟩⟩⟩
  refine ⟨_, rfl, a, _, _, _, rfl, rfl, ha, at0 rfl, _, rfl, a, _, _, _, rfl, rfl, ha, at1 rfl, _, _, m, rfl, by omega, zq.1, dA zq, hm, fun r H' e hr => ?_⟩
  have er : mkRat q.num ((q.den : Int)).toNat = q := Rat.mkRat_self q
  rw [er] at hr
  refine ⟨_, rfl, _, _, hr.dp, (hx.same e).dp, sh_dq _, sh_dq _, ?_⟩
  rw [eqv_dq, dT rfl]
  exact z _ e
abbrev s__time_of : Stmt := top 12
abbrev N__time_of : List Str := ["piece", "reading", "start", "shown", "rate"]
theorem sc__time_of : FnScope N__time_of ["piece", "reading"] (defScope s__time_of) := ⟨rfl, rfl, rfl, by decide +kernel, rfl, by decide +kernel, by decide +kernel⟩
abbrev ps__time_of : List Str := ["piece", "reading"]
def spTimeOf (K : PySem.W.Frag) : Sp := fun vs H Q _ => ∃ (x y : V) (p : Pc) (q : Rat) (i j l m : Nat), vs = [x, y] ∧ Pq K H x p ∧ Rq K H y q ∧ Sz i p.s ∧ Sz j p.v ∧ Sz l p.r ∧ Sz m q ∧ 0 < p.r ∧ m + j + l + i + 3 ≤ 9000 ∧
  ∀ r H', Same H H' → Rq K H' r (tm p q) → Q r H'
theorem ok_time_of (F : Fn K mg "_time_of" s__time_of ps__time_of f fd) (dadd : Def P w K mg base k "add" ["a", "b"] (spOp2 K (· + ·)) f1 fd1) (ddivide : Def P w K mg base k "divide" ["a", "b"] (spDiv K) f2 fd2) (dsubtract : Def P w K mg base k "subtract" ["a", "b"] (spOp2 K (· - ·)) f3 fd3) :
    Def P w K mg base (k + 1) "_time_of" ps__time_of (spTimeOf K) f fd := by
  refine ⟨F.F.ok sc__time_of (fun vs H Q E h => ?_) (fun cdv A outer s H vs Q E hr h => ?_), F.m, F.F.kp, F.b⟩
  · obtain ⟨x, y, p, q, i, j, l, m, rfl, _⟩ := h
    rfl
  obtain ⟨x, y, p, q, i, j, l, m, rfl, ⟨a, xs, xv, xr, rfl, ha, hs, hv, hr'⟩, hy, zs, zv, zr, zq, r0, hb, z⟩ := h
  refine ⟨_, (pss_cons (ps_asg (pv 0) (pg_tup rfl (pgs_cons (pg_name (i := 2) sc__time_of.nd rfl (Or.inl rfl)) (pgs_cons (pg_name (i := 3) sc__time_of.nd rfl (Or.inl rfl)) (pgs_cons (pg_name (i := 4) sc__time_of.nd rfl (Or.inl rfl)) pgs_nil)))))
      (pss_one (ps_ret (pcall dadd hr (pa_cons (pv 2) (pa_cons (pcall ddivide hr (pa_cons (pcall dsubtract hr (pa_cons (pv 1) (pa_cons (pv 3) pa_nil))) (pa_cons (pv 4) pa_nil))) pa_nil)))))), ?_⟩
  refine ⟨_, rfl, a, _, rfl, ha, rfl, _, _, rfl, _, _, rfl, _, _, rfl, rfl, ?_⟩
  have m0 := nn zq
  refine ⟨_, rfl, _, rfl, _, rfl, _, _, q, p.v, m, j, rfl, hy, hv, zq, zv, by omega, fun r1 H1 e1 h1 => ?_⟩
  refine ⟨_, rfl, _, _, q - p.v, p.r, m + j + 1, l, rfl, h1, hr'.same e1, zq.sub zv, zr, by omega, r0, fun r2 H2 e2 h2 => ?_⟩
  exact ⟨_, _, p.s, (q - p.v) / p.r, i, m + j + 1 + l, rfl, hs.same (e1.trans e2), h2, zs, (zq.sub zv).div zr r0, by omega, fun r3 H3 e3 h3 => z _ _ (e1.trans (e2.trans e3)) h3⟩
abbrev s__end_of : Stmt := top 13
abbrev N__end_of : List Str := ["course", "at"]
theorem sc__end_of : FnScope N__end_of ["course", "at"] (defScope s__end_of) := ⟨rfl, rfl, rfl, by decide +kernel, rfl, by decide +kernel, by decide +kernel⟩
abbrev ps__end_of : List Str := ["course", "at"]
def endV (K : PySem.W.Frag) (H : Hp) (c : List Pc) (n : Nat) (v : V) : Prop := match c[n]? with
  | none => v = .non
  | some p => Rq K H v p.s
def spEndOf (K : PySem.W.Frag) : Sp := fun vs H Q _ => ∃ (a : Addr) (n : Nat) (c : List Pc), vs = [.ref a, .int n] ∧ Cq K H a c ∧ ∀ v, endV K H c (n + 1) v → Q v H
theorem ok_end_of (T : Bn mg) (F : Fn K mg "_end_of" s__end_of ps__end_of f fd) : Def P w K mg base (k + 1) "_end_of" ps__end_of (spEndOf K) f fd := by
  refine ⟨F.F.ok sc__end_of (fun vs H Q E h => ?_) (fun cdv A outer s H vs Q E hr h => ?_), F.m, F.F.kp, F.b⟩
  · obtain ⟨a, n, c, rfl, _⟩ := h
    rfl
  obtain ⟨a, n, c, rfl, ⟨xs, ha, hc⟩, z⟩ := h
  refine ⟨_, (pss_one (ps_ret (pe_ifExp (pt_cmpR op_lt (pe_op op_add (pv 1) pe_int) (pe_callB call_len_seq (by rfl) T.len_ PySem.boot_len (pa_cons (pv 0) pa_nil)) (nomark _)) (pe_ix ix_tup (pe_ix ix_list (pv 0) (pe_op op_add (pv 1) pe_int) (fun _ _ => rfl)) pe_int (fun _ _ => rfl)) pe_non))), ?_⟩
  have hl := hc.1
  refine ⟨_, rfl, _, _, rfl, rfl, _, rfl, a, _, rfl, .inl ha, _, _, rfl, rfl, _, rfl, ifD (fun g => ?_) (fun g => ?_)⟩
  · have hn : n + 1 < c.length := by omega
    obtain ⟨x, hx, b, vs, vv, vr, rfl, hb, hs, _⟩ := hc.at (List.getElem?_eq_getElem hn)
    refine ⟨_, rfl, _, rfl, _, _, rfl, rfl, a, _, _, _, rfl, rfl, ha, at_of (j := n + 1) (by omega) hx, b, _, _, _, rfl, rfl, hb, at0 rfl, z _ ?_⟩
    unfold endV
    rw [List.getElem?_eq_getElem hn]
    exact hs
  · refine z _ ?_
    unfold endV
    rw [List.getElem?_eq_none (by omega)]
end Vk

namespace Vk
open PySem L2 Vm
variable {P : Program} {w : World} {K : PySem.W.Frag} {mg : Str → Option Value} {base : Heap} {k : Nat} {f f1 f2 f3 f4 f5 f6 f7 f8 f9 : Addr} {fd fd1 fd2 fd3 fd4 fd5 fd6 fd7 fd8 fd9 : FuncData}
theorem for_enum {K : PySem.W.Frag} {a : Addr} {xs : List V} {g : TG} {tb : TS} {D : Ends} {σ : L2.St} {H : Hp} (Pv : Nat → L2.St → Hp → Prop) (h0 : Pv 0 σ H) (hq : ∀ i σ H, Pv i σ H → SqL K H a xs)
    (hs : ∀ (i : Nat) (x : V) (T : Addr) (σ : L2.St) (H : Hp), xs[i]? = some x → Pv i σ H → H T = none → g (.ref T) σ (upd H T (.tup [.int (i : Nat), x])) fun σ2 H2 => tb { D with nx := Pv (i + 1), ct := Pv (i + 1), bk := D.nx } σ2 H2) (hd : ∀ σ H, Pv xs.length σ H → D.nx σ H) :
    ∃ W : Nat → Nat → L2.St → Hp → Prop, (∃ m, W 0 m σ H) ∧ ∀ i m σ H, W i m σ H →
      ((Ite K a).stop i H ∧ D.nx σ H) ∨ ((Ite K a).go i H ∧ ∃ N : L2.St → Hp → Prop, (∀ σ' H', N σ' H' → ∃ m', m' < m ∧ W (i + 1) m' σ' H') ∧ ∀ v H', (Ite K a).yld i H v H' → g v σ H' fun σ2 H2 => tb { D with nx := N, ct := N, bk := D.nx } σ2 H2) := by
  refine ⟨fun i m σ H => m = xs.length - i ∧ i ≤ xs.length ∧ Pv i σ H, ⟨xs.length, rfl, Nat.zero_le _, h0⟩, ?_⟩
  rintro i m σ H ⟨rfl, hi, p⟩
  have qx := hq i σ H p
  by_cases hlt : i < xs.length
  · have hx : xs[i]? = some xs[i] := List.getElem?_eq_getElem hlt
    refine .inr ⟨⟨xs, _, qx, hx⟩, Pv (i + 1), fun σ' H' p' => ⟨xs.length - (i + 1), by omega, rfl, hlt, p'⟩, fun v H' y => ?_⟩
    obtain ⟨T, x', rfl, hT, rfl, f1⟩ := y
    exact hs i x' T σ H (f1 xs qx) p hT
  · have e : i = xs.length := by omega
    subst e
    exact .inl ⟨⟨xs, qx, Nat.le_refl _⟩, hd σ H p⟩
theorem sg_ge {p q : Rat} : 0 ≤ sg p q ↔ q ≤ p := by
  unfold sg
  split
  · rename_i h
    subst h
    simp [Rat.le_refl]
  · split
    · rename_i h1 h2
      constructor
      · intro h; omega
      · intro h; exact absurd (Rat.not_lt.mpr h) (fun g => g h2)
    · rename_i h1 h2
      constructor
      · intro _; exact Rat.not_lt.mp h2
      · intro _; omega
theorem sg_lt {p q : Rat} : sg p q < 0 ↔ p < q := by
  unfold sg
  split
  · rename_i h
    subst h
    constructor
    · intro h; omega
    · intro h; exact absurd h Rat.lt_irrefl
  · split
    · rename_i h1 h2
      exact ⟨fun _ => h2, fun _ => by omega⟩
    · rename_i h1 h2
      exact ⟨fun h => by omega, fun h => absurd h h2⟩
theorem same_upd {H H' : Hp} {D : Addr} (e : Same H H') (h : H D = none) (o : HO) : Same H (upd H' D o) := fun b u q => by rw [upd_ne (ne_of_none q h)]; exact e b u q
theorem hits_len (c : List Pc) (y : Rat) (n : Nat) : (hits c y n).length ≤ n := by
  have := List.length_filterMap_le (hit c y) (List.range n)
  rw [List.length_range] at this
  exact this
theorem le1000 {n : Nat} (h : n ≤ 1000) : n < sizeLine := Nat.lt_of_le_of_lt h (by decide)
abbrev s_times_of : Stmt := top 14
abbrev N_times_of : List Str := ["course", "reading", "found", "at", "piece", "t", "end"]
theorem sc_times_of : FnScope N_times_of ["course", "reading"] (defScope s_times_of) := ⟨rfl, rfl, rfl, by decide +kernel, rfl, by decide +kernel, by decide +kernel⟩
abbrev ps_times_of : List Str := ["course", "reading"]
def spTimes (K : PySem.W.Frag) : Sp := fun vs H Q _ => ∃ (a : Addr) (y : V) (c : List Pc) (q : Rat) (i j l m : Nat), vs = [.ref a, y] ∧ Cq K H a c ∧ Rq K H y q ∧ Cz i j l c ∧ Sz m q ∧ (∀ p ∈ c, 0 < p.r) ∧ c.length ≤ 1000 ∧ m + j + l + i + i + 4 ≤ 9000 ∧
  ∀ D us H', Same H H' → H D = none → H' D = some (.lst us) → All2 (Rq K H') us (hits c q c.length) → Q (.ref D) H'
theorem ok_times_of (T : Bn mg) (F : Fn K mg "times_of" s_times_of ps_times_of f fd) (d_time_of : Def P w K mg base k "_time_of" ["piece", "reading"] (spTimeOf K) f1 fd1) (d_end_of : Def P w K mg base k "_end_of" ["course", "at"] (spEndOf K) f2 fd2)
    (dcompare : Def P w K mg base k "compare" ["a", "b"] (spTest2 K fun p q => .int (sg p q)) f3 fd3) : Def P w K mg base (k + 1) "times_of" ps_times_of (spTimes K) f fd := by
  refine ⟨F.F.ok sc_times_of (fun vs H Q E h => ?_) (fun cdv A outer s H vs Q E hr h => ?_), F.m, F.F.kp, F.b⟩
  · obtain ⟨_, _, _, _, _, _, _, _, rfl, _⟩ := h
    rfl
  obtain ⟨a, y, c, q, i0, j0, l0, m0, rfl, hC, hy, zc, zq, hp, hl, hb, z⟩ := h
  refine ⟨_, (pss_cons (ps_set (i := 2) sc_times_of.nd rfl (Or.inl rfl) (pe_lst pa_nil))
      (pss_cons (ps_for PassesOwn.never rfl (pi_enum (by rfl) T.enumerate_ (pa_cons (pv 0) pa_nil)) (pg_tup rfl (pgs_cons (pg_name (i := 3) sc_times_of.nd rfl (Or.inl rfl)) (pgs_cons (pg_name (i := 4) sc_times_of.nd rfl (Or.inl rfl)) pgs_nil)))
        (pss_cons (ps_set (i := 5) sc_times_of.nd rfl (Or.inl rfl) (pcall d_time_of hr (pa_cons (pv 4) (pa_cons (pv 1) pa_nil))))
        (pss_cons (ps_set (i := 6) sc_times_of.nd rfl (Or.inl rfl) (pcall d_end_of hr (pa_cons (pv 0) (pa_cons (pv 3) pa_nil))))
        (pss_one (ps_if (PW.pt (pw_and (pt_cmpR op_ge (pcall dcompare hr (pa_cons (pv 5) (pa_cons (pe_ix ix_tup (pv 4) pe_int (fun _ _ => rfl)) pa_nil))) pe_int (nomark _)) (pw_and1 (PW.pt (pw_or (pt_cmpR op_isN (pv 6) pe_non (nomark _)) (pw_or1 (pt_cmpR op_lt (pcall dcompare hr (pa_cons (pv 5) (pa_cons (pv 6) pa_nil))) pe_int (nomark _))))))))
          (pss_one (ps_expr (pe_bm PySem.F.plainAttrs_list PySem.F.slot_list_append PySem.F.type_list_append mt_append (pv 2) (pa_cons (pv 5) pa_nil))))
          pss_nil)))))
      (pss_one (ps_ret (pv 2))))), ?_⟩
  refine ⟨Nat.zero_le _, fun D hD => ?_⟩
  obtain ⟨xs, hx, hc⟩ := id hC
  refine ⟨_, rfl, a, xs, rfl, (same_new hD _).seq hx, for_enum (xs := xs) (fun i σ H' => ∃ (us : List V) (k1 k2 k3 k4 : Option V), σ = [some (.ref a), some y, some (.ref D), k1, k2, k3, k4] ∧ Same H H' ∧ H' D = some (.lst us) ∧ All2 (Rq K H') us (hits c q i))
    ⟨[], none, none, none, none, rfl, same_new hD _, upd_same, All2.nil⟩ (fun i σ H' h => by obtain ⟨_, _, _, _, _, _, s1, _⟩ := h; exact s1.seq hx) ?_ ?_⟩
  · rintro i x T σ H' hxi ⟨us, k1, k2, k3, k4, rfl, s1, hD1, hA⟩ hT
    have hi : i < c.length := by rw [← hc.1]; exact (List.getElem?_eq_some_iff.mp hxi).1
    have hci : c[i]? = some c[i] := List.getElem?_eq_getElem hi
    have hpx := hc.2 i x _ hxi hci
    obtain ⟨p, ep⟩ : ∃ p, p = c[i] := ⟨_, rfl⟩
    rw [← ep] at hci hpx
    have hmem : p ∈ c := by rw [ep]; exact List.getElem_mem hi
    obtain ⟨zs, zv, zr⟩ := zc p hmem
    have r0 := hp p hmem
    have g1 := same_new hT (.tup [.int (i : Nat), x])
    have s2 := s1.trans g1
    refine ⟨T, _, rfl, SqT.of upd_same, rfl, _, _, rfl, _, _, rfl, rfl, ?_⟩
    refine ⟨_, rfl, _, rfl, x, y, p, q, i0, j0, l0, m0, rfl, hpx.same s2, hy.same s2, zs, zv, zr, zq, r0, by omega, fun tv H2 e2 ht => ?_⟩
    have s3 := s2.trans e2
    refine ⟨_, rfl, _, rfl, a, i, c, rfl, hC.same s3, fun v hv => ?_⟩
    have zt : Sz (i0 + (m0 + j0 + 1 + l0) + 1) (tm p q) := zs.add ((zq.sub zv).div zr r0)
    have hD2 : H2 D = some (.lst us) := e2 _ _ (g1 _ _ hD1)
    have hul : us.length ≤ 1000 := by have := hA.1; have := hits_len c q i; omega
    have eh : hit c q i = if p.s ≤ tm p q ∧ before c (i + 1) (tm p q) = true then some (tm p q) else none := by
      unfold hit
      rw [hci]
    have hA2 : All2 (Rq K H2) us (hits c q i) := hA.imp fun _ _ h => h.same (g1.trans e2)
    -- the two ends of a turn
    have yes : p.s ≤ tm p q → before c (i + 1) (tm p q) = true → All2 (Rq K (upd H2 D (.lst (us ++ [tv])))) (us ++ [tv]) (hits c q (i + 1)) := fun h1 h2 => by
      have fr : Fr D H2 (upd H2 D (.lst (us ++ [tv]))) := Fr.upd _
      rw [hits_succ, eh, if_pos ⟨h1, h2⟩]
      exact (hA2.imp fun _ _ h => h.fr fr ⟨_, hD2⟩).snoc (ht.fr fr ⟨_, hD2⟩)
    have no : ¬ (p.s ≤ tm p q ∧ before c (i + 1) (tm p q) = true) → All2 (Rq K H2) us (hits c q (i + 1)) := fun h => by
      rw [hits_succ, eh, if_neg h]
      simpa using hA2
    obtain ⟨b, vs, vv, vr, rfl, hbt, hs, hv', hr'⟩ := hpx.same s3
    refine ⟨_, rfl, _, rfl, b, _, _, _, rfl, rfl, hbt, at0 rfl, _, _, tm p q, p.s, _, i0, rfl, ht, hs, zt, zs, by omega, _, _, rfl, rfl, _, rfl, ifD (fun c1 => ?_) (fun c1 => ?_)⟩
    · have c1' := sg_ge.mp c1
      have app : before c (i + 1) (tm p q) = true → _ := fun hbf => yes c1' hbf
      refine ⟨_, rfl, rfl, _, rfl, ?_⟩
      unfold endV at hv
      cases hn : c[i + 1]? with
      | none =>
        rw [hn] at hv
        subst hv
        refine ifT (dT rfl) (ifT rfl ?_)
        refine ⟨_, rfl, .inl ⟨rfl, _, SqL.of hD2⟩, _, rfl, D, _, _, rfl, rfl, hD2, le1000 hul, ?_⟩
        exact ⟨_, _, _, _, _, rfl, same_upd s3 hD _, upd_same, yes c1' (by unfold before; rw [hn])⟩
      | some p2 =>
        rw [hn] at hv
        obtain ⟨e, rfl, he⟩ := id hv
        have z2 := (zc p2 (List.mem_of_getElem? hn)).1
        refine ifF (dF nofun) ⟨_, rfl, _, rfl, _, _, tm p q, p2.s, _, i0, rfl, ht, hv, zt, z2, by omega, _, _, rfl, rfl, _, rfl, ifD (fun c2 => ?_) (fun c2 => ?_)⟩
        · refine ⟨_, rfl, .inl ⟨rfl, _, SqL.of hD2⟩, _, rfl, D, _, _, rfl, rfl, hD2, le1000 hul, ?_⟩
          exact ⟨_, _, _, _, _, rfl, same_upd s3 hD _, upd_same, yes c1' (by unfold before; rw [hn]; exact dT (sg_lt.mp c2))⟩
        · refine ⟨_, _, _, _, _, rfl, s3, hD2, no fun h => c2 (sg_lt.mpr ?_)⟩
          have h2 := h.2
          unfold before at h2
          rw [hn] at h2
          exact of_decide_eq_true h2
    · exact ifF rfl ⟨_, _, _, _, _, rfl, s3, hD2, no fun h => c1 (sg_ge.mpr h.1)⟩
  · rintro σ H' ⟨us, k1, k2, k3, k4, rfl, s1, hD1, hA⟩
    rw [hc.1] at hA
    exact ⟨_, rfl, z D us H' s1 hD hD1 hA⟩
end Vk

namespace Vk
open PySem L2 Vm
variable {P : Program} {w : World} {K : PySem.W.Frag} {mg : Str → Option Value} {base : Heap} {k : Nat} {f f1 f2 f3 f4 f5 f6 f7 f8 f9 : Addr} {fd fd1 fd2 fd3 fd4 fd5 fd6 fd7 fd8 fd9 : FuncData}
def optV (K : PySem.W.Frag) (H : Hp) (v : V) : Option Rat → Prop
  | none => v = .non
  | some q => Rq K H v q
def lim (c : List Pc) (n : Nat) : Option Rat := match c[n]? with
  | none => none
  | some p => match c[n + 1]? with
    | none => none
    | some q => some (p.v + p.r * (q.s - p.s))
abbrev s__law_limit : Stmt := top 39
abbrev N__law_limit : List Str := ["_law_course_here", "_law_k"]
theorem sc__law_limit : FnScope N__law_limit ["_law_course_here", "_law_k"] (defScope s__law_limit) := ⟨rfl, rfl, rfl, by decide +kernel, rfl, by decide +kernel, by decide +kernel⟩
abbrev ps__law_limit : List Str := ["_law_course_here", "_law_k"]
def spLimit (K : PySem.W.Frag) : Sp := fun vs H Q _ => ∃ (a : Addr) (n : Nat) (c : List Pc) (i j l : Nat), vs = [.ref a, .int n] ∧ Cq K H a c ∧ n < c.length ∧ Cz i j l c ∧ i + i + l + j + 3 ≤ 9000 ∧ ∀ v H', Same H H' → optV K H' v (lim c n) → Q v H'
theorem ok_limit (T : Bn mg) (F : Fn K mg "_law_limit" s__law_limit ps__law_limit f fd) (d_law_plus : Def P w K mg base k "_law_plus" ["_law_a", "_law_b"] (spOp2 K (· + ·)) f1 fd1) (d_law_times : Def P w K mg base k "_law_times" ["_law_a", "_law_b"] (spOp2 K (· * ·)) f2 fd2)
    (d_law_minus : Def P w K mg base k "_law_minus" ["_law_a", "_law_b"] (spOp2 K (· - ·)) f3 fd3) : Def P w K mg base (k + 1) "_law_limit" ps__law_limit (spLimit K) f fd := by
  refine ⟨F.F.ok sc__law_limit (fun vs H Q E h => ?_) (fun cdv A outer s H vs Q E hr h => ?_), F.m, F.F.kp, F.b⟩
  · obtain ⟨_, _, _, _, _, _, rfl, _⟩ := h
    rfl
  obtain ⟨a, n, c, i, j, l, rfl, ⟨xs, hx, hc⟩, hn, zc, hb, z⟩ := h
  refine ⟨_, (pss_cons (ps_if (pt_cmpR op_eq (pe_op op_add (pv 1) pe_int) (pe_callB call_len_seq (by rfl) T.len_ PySem.boot_len (pa_cons (pv 0) pa_nil)) (nomark _))
        (pss_one (ps_ret pe_non))
        pss_nil)
      (pss_one (ps_ret (pcall d_law_plus hr (pa_cons (pe_ix ix_tup (pe_ix ix_list (pv 0) (pv 1) (fun _ _ => rfl)) pe_int (fun _ _ => rfl)) (pa_cons (pcall d_law_times hr (pa_cons (pe_ix ix_tup (pe_ix ix_list (pv 0) (pv 1) (fun _ _ => rfl)) pe_int (fun _ _ => rfl)) (pa_cons (pcall d_law_minus hr (pa_cons (pe_ix ix_tup (pe_ix ix_list (pv 0) (pe_op op_add (pv 1) pe_int) (fun _ _ => rfl)) pe_int (fun _ _ => rfl)) (pa_cons (pe_ix ix_tup (pe_ix ix_list (pv 0) (pv 1) (fun _ _ => rfl)) pe_int (fun _ _ => rfl)) pa_nil))) pa_nil))) pa_nil)))))), ?_⟩
  have hl := hc.1
  have e1 : c[n]? = some c[n] := List.getElem?_eq_getElem hn
  refine ⟨_, rfl, _, _, rfl, rfl, _, rfl, a, _, rfl, .inl hx, rfl, _, rfl, ifD (fun g => ?_) (fun g => ?_)⟩
  · have g' := V.int.inj g
    refine z _ _ (Same.refl _) ?_
    unfold lim
    rw [e1, List.getElem?_eq_none (by omega)]
    rfl
  · have hn1 : n + 1 < c.length := by
      have : ¬ ((n : Int) + 1 = (xs.length : Int)) := fun e => g (congrArg V.int e)
      omega
    have e2 : c[n + 1]? = some c[n + 1] := List.getElem?_eq_getElem hn1
    obtain ⟨x, hx1, p1⟩ := hc.at e1
    obtain ⟨y, hy1, p2⟩ := hc.at e2
    obtain ⟨b, bs, bv, br, rfl, hb1, r1, r2, r3⟩ := p1
    obtain ⟨d, ds, dv, dr, rfl, hd1, r4, _, _⟩ := p2
    have z1 := zc _ (List.getElem_mem hn)
    have z2 := zc _ (List.getElem_mem hn1)
    refine ⟨_, rfl, _, rfl, a, _, _, _, rfl, rfl, hx, at_of (j := n) (by omega) hx1, b, _, _, _, rfl, rfl, hb1, at1 rfl, ?_⟩
    refine ⟨_, rfl, _, rfl, a, _, _, _, rfl, rfl, hx, at_of (j := n) (by omega) hx1, b, _, _, _, rfl, rfl, hb1, at2 rfl, ?_⟩
    refine ⟨_, rfl, _, rfl, _, _, rfl, rfl, a, _, _, _, rfl, rfl, hx, at_of (j := n + 1) (by omega) hy1, d, _, _, _, rfl, rfl, hd1, at0 rfl, ?_⟩
    refine ⟨_, rfl, _, rfl, a, _, _, _, rfl, rfl, hx, at_of (j := n) (by omega) hx1, b, _, _, _, rfl, rfl, hb1, at0 rfl, ?_⟩
    refine ⟨_, _, _, _, i, i, rfl, r4, r1, z2.1, z1.1, by omega, fun w1 H1 f1 g1 => ?_⟩
    refine ⟨_, _, _, _, l, i + i + 1, rfl, r3.same f1, g1, z1.2.2, z2.1.sub z1.1, by omega, fun w2 H2 f2 g2 => ?_⟩
    refine ⟨_, _, _, _, j, l + (i + i + 1), rfl, r2.same (f1.trans f2), g2, z1.2.1, z1.2.2.mul (z2.1.sub z1.1), by omega, fun w3 H3 f3 g3 => z _ _ (f1.trans (f2.trans f3)) ?_⟩
    unfold lim
    rw [e1, e2]
    exact g3
def on (t : Rat) (p : Pc) : Bool := !decide (t < p.s)
def nowf (c : List Pc) (t : Rat) : Option Rat := ((c.filter (on t)).getLast?).map fun p => p.v + p.r * (t - p.s)
theorem filter_more {α : Type} {c : List α} {i : Nat} {p : α} (g : α → Bool) (h : c[i]? = some p) : (c.take (i + 1)).filter g = (c.take i).filter g ++ (if g p = true then [p] else []) := by
  rw [List.take_add_one, h, List.filter_append]
  congr 1
  simp only [Option.toList]
  cases e : g p <;> simp [e]
abbrev s__law_now : Stmt := top 37
abbrev N__law_now : List Str := ["_law_course_here", "_law_t", "_law_row", "_law_piece"]
theorem sc__law_now : FnScope N__law_now ["_law_course_here", "_law_t"] (defScope s__law_now) := ⟨rfl, rfl, rfl, by decide +kernel, rfl, by decide +kernel, by decide +kernel⟩
abbrev ps__law_now : List Str := ["_law_course_here", "_law_t"]
def spNow (K : PySem.W.Frag) : Sp := fun vs H Q _ => ∃ (a : Addr) (y : V) (c : List Pc) (t : Rat) (i j l m : Nat), vs = [.ref a, y] ∧ Cq K H a c ∧ Rq K H y t ∧ Cz i j l c ∧ Sz m t ∧ c.length ≤ 1000 ∧ m + i + l + j + 3 ≤ 9000 ∧ ∀ v H', Same H H' → optV K H' v (nowf c t) → Q v H'
theorem ok_now (T : Bn mg) (F : Fn K mg "_law_now" s__law_now ps__law_now f fd) (d_law_below : Def P w K mg base k "_law_below" ["_law_a", "_law_b"] (spTest2 K fun p q => .bl (decide (p < q))) f4 fd4) (d_law_plus : Def P w K mg base k "_law_plus" ["_law_a", "_law_b"] (spOp2 K (· + ·)) f1 fd1) (d_law_times : Def P w K mg base k "_law_times" ["_law_a", "_law_b"] (spOp2 K (· * ·)) f2 fd2)
    (d_law_minus : Def P w K mg base k "_law_minus" ["_law_a", "_law_b"] (spOp2 K (· - ·)) f3 fd3) : Def P w K mg base (k + 1) "_law_now" ps__law_now (spNow K) f fd := by
  refine ⟨F.F.ok sc__law_now (fun vs H Q E h => ?_) (fun cdv A outer s H vs Q E hr h => ?_), F.m, F.F.kp, F.b⟩
  · obtain ⟨_, _, _, _, _, _, _, _, rfl, _⟩ := h
    rfl
  obtain ⟨a, y, c, t, i0, j0, l0, m0, rfl, hC, hy, zc, zt, hl, hb, z⟩ := h
  obtain ⟨xs, hx, hc⟩ := id hC
  refine ⟨_, (pss_cons (ps_setLc (i := 2) (own := [("_law_piece", 3)]) (g := gName 3) rfl sc__law_now.nd rfl rfl (sw_true rfl rfl rfl (by decide +kernel)) (pi_list (pv 0)) (blkOk_by (N := N__law_now) (sc := defScope s__law_now) (by decide +kernel)) (fun _ _ _ _ _ => pg_name (i := 3) sc__law_now.nd rfl (Or.inl rfl)) (fun _ _ _ _ _ => pts_one (pt_not (pt_val (pcall d_law_below hr (pa_cons (pv 1) (pa_cons (pe_ix (show IxR _ (rIxT K) from ix_tup) (pv 3) pe_int (fun _ _ => rfl)) pa_nil)))))) (fun _ _ _ _ _ => (pv 3)))
      (pss_cons (ps_if (pt_cmpR op_eq (pe_callB call_len_seq (by rfl) T.len_ PySem.boot_len (pa_cons (pv 2) pa_nil)) pe_int (nomark _))
        (pss_one (ps_ret pe_non))
        pss_nil)
      (pss_cons (ps_set (i := 3) sc__law_now.nd rfl (Or.inl rfl) (pe_ix ix_list (pv 2) (pe_op op_sub (pe_callB call_len_seq (by rfl) T.len_ PySem.boot_len (pa_cons (pv 2) pa_nil)) pe_int) (fun _ _ => rfl)))
      (pss_one (ps_ret (pcall d_law_plus hr (pa_cons (pe_ix ix_tup (pv 3) pe_int (fun _ _ => rfl)) (pa_cons (pcall d_law_times hr (pa_cons (pe_ix ix_tup (pv 3) pe_int (fun _ _ => rfl)) (pa_cons (pcall d_law_minus hr (pa_cons (pv 1) (pa_cons (pe_ix ix_tup (pv 3) pe_int (fun _ _ => rfl)) pa_nil))) pa_nil))) pa_nil)))))))), ?_⟩
  refine ⟨_, rfl, a, rfl, ⟨_, hx⟩, fun D hD => lc_list (xs := xs) (fun i H' => ∃ acc, H' D = some (.lst acc) ∧ Same H H' ∧ All2 (Pq K H') acc ((c.take i).filter (on t))) ⟨[], upd_same, same_new hD _, All2.nil⟩ (fun i H' _ h => by obtain ⟨_, _, s1, _⟩ := h; exact s1.seq hx) ?_ ?_⟩
  · rintro i x H' hxi ⟨acc, hD1, s1, hA⟩
    have hi : i < c.length := by rw [← hc.1]; exact (List.getElem?_eq_some_iff.mp hxi).1
    have hci : c[i]? = some c[i] := List.getElem?_eq_getElem hi
    have hpx := hc.2 i x _ hxi hci
    obtain ⟨p, ep⟩ : ∃ p, p = c[i] := ⟨_, rfl⟩
    rw [← ep] at hci hpx
    have hmem : p ∈ c := by rw [ep]; exact List.getElem_mem hi
    obtain ⟨zs, zv, zr⟩ := zc p hmem
    have hal : acc.length ≤ 1000 := by
      have h1 := hA.1
      have h2 := List.length_filter_le (on t) (c.take i)
      rw [List.length_take] at h2
      omega
    obtain ⟨b, bs, bv, br, rfl, hb1, r1, r2, r3⟩ := hpx.same s1
    refine ⟨rfl, _, rfl, _, rfl, b, _, _, _, rfl, rfl, hb1, at0 rfl, _, _, t, p.s, m0, i0, rfl, hy.same s1, r1, zt, zs, by omega, _, rfl, ?_⟩
    have em := filter_more (on t) hci
    by_cases g : t < p.s
    · have eo : on t p = false := by unfold on; rw [dT g]; rfl
      refine ifF (by rw [dT g]; rfl) ⟨acc, hD1, s1, ?_⟩
      rw [em, eo]
      simpa using hA
    · have eo : on t p = true := by unfold on; rw [dF g]; rfl
      refine ifT (by rw [dF g]; rfl) ⟨_, rfl, acc, hD1, le1000 hal, _, upd_same, same_upd s1 hD _, ?_⟩
      rw [em, eo]
      have fr : Fr D H' (upd H' D (.lst (acc ++ [.ref b]))) := Fr.upd _
      exact (hA.imp fun _ _ h => h.fr fr ⟨_, hD1⟩).snoc ((hpx.same s1).fr fr ⟨_, hD1⟩)
  · rintro H' ⟨acc, hD1, s1, hA⟩
    rw [List.take_of_length_le (by rw [hc.1]; exact Nat.le_refl _)] at hA
    have ha := hA.1
    refine ⟨_, rfl, D, _, rfl, .inl (SqL.of hD1), rfl, _, rfl, ifD (fun g => ?_) (fun g => ?_)⟩
    · have g' := V.int.inj g
      refine z _ _ s1 ?_
      have e : c.filter (on t) = [] := List.eq_nil_of_length_eq_zero (by omega)
      unfold nowf
      rw [e]
      rfl
    · have ga : acc.length ≠ 0 := fun e => g (by rw [e]; rfl)
      have hlast : (c.filter (on t))[acc.length - 1]? = some (c.filter (on t))[acc.length - 1] := List.getElem?_eq_getElem (by omega)
      obtain ⟨p, ep⟩ : ∃ p, p = (c.filter (on t))[acc.length - 1] := ⟨_, rfl⟩
      rw [← ep] at hlast
      obtain ⟨x, hx1, hp⟩ := hA.at hlast
      have hmem : p ∈ c := by rw [ep]; exact (List.mem_filter.mp (List.getElem_mem _)).1
      obtain ⟨zs, zv, zr⟩ := zc p hmem
      obtain ⟨b, bs, bv, br, rfl, hb1, r1, r2, r3⟩ := hp
      refine ⟨_, rfl, _, rfl, D, _, rfl, .inl (SqL.of hD1), _, _, rfl, rfl, D, _, _, _, rfl, rfl, SqL.of hD1, at_of (j := acc.length - 1) (by omega) hx1, ?_⟩
      refine ⟨_, rfl, b, _, _, _, rfl, rfl, hb1, at1 rfl, _, rfl, b, _, _, _, rfl, rfl, hb1, at2 rfl, _, rfl, _, rfl, b, _, _, _, rfl, rfl, hb1, at0 rfl, ?_⟩
      refine ⟨_, _, _, _, m0, i0, rfl, hy.same s1, r1, zt, zs, by omega, fun w1 H1 f1 g1 => ?_⟩
      refine ⟨_, _, _, _, l0, m0 + i0 + 1, rfl, r3.same f1, g1, zr, zt.sub zs, by omega, fun w2 H2 f2 g2 => ?_⟩
      refine ⟨_, _, _, _, j0, l0 + (m0 + i0 + 1), rfl, r2.same (f1.trans f2), g2, zv, zr.mul (zt.sub zs), by omega, fun w3 H3 f3 g3 => z _ _ (s1.trans (f1.trans (f2.trans f3))) ?_⟩
      unfold nowf
      rw [List.getLast?_eq_getElem?, ← ha, hlast]
      exact g3
end Vk

namespace Vk
open PySem L2 Vm
variable {l : Addr} {P : Program} {w : World} {K : PySem.W.Frag} {mg : Str → Option Value} {base : Heap} {k : Nat} {f f1 f2 f3 f4 f5 f6 f7 f8 f9 : Addr} {fd fd1 fd2 fd3 fd4 fd5 fd6 fd7 fd8 fd9 : FuncData}
abbrev s__law_ratio : Stmt := top 30
abbrev N__law_ratio : List Str := ["_law_store_here", "_law_top", "_law_sort"]
theorem sc__law_ratio : FnScope N__law_ratio ["_law_store_here", "_law_top"] (defScope s__law_ratio) := ⟨rfl, rfl, rfl, by decide +kernel, rfl, by decide +kernel, by decide +kernel⟩
abbrev ps__law_ratio : List Str := ["_law_store_here", "_law_top"]
def spRatio (K : PySem.W.Frag) (l : Addr) : Sp := fun vs H Q _ => ∃ (s : Addr) (top : Int), vs = [.ref s, .int top] ∧ Sto l s H ∧ 1 ≤ top ∧ top < 2 ^ 40 ∧ ∀ (v : V) H', Qd K 40 anyQ H' v → Sto l s H' → Fr s H H' → Q v H'
theorem int_q {H : Hp} {t : Addr} (n : Int) (h : n.natAbs < 2 ^ 40) : Qd K 40 anyQ (upd H t (.tup [.int n, .int 1])) (.ref t) := Qd.new n 1 (n : Rat) rfl rfl ⟨h, by show 1 < 2 ^ 40; decide⟩ trivial
theorem ok_ratio (F : Fn K mg "_law_ratio" s__law_ratio ps__law_ratio f fd) (d_law_take : Def P w K mg base k "_law_take" ["_law_store_here", "_law_many"] (spTake K l) f1 fd1) (d_law_pick : Def P w K mg base k "_law_pick" ["_law_store_here", "_law_things"] (spPick K l) f2 fd2)
    (d_law_frac : Def P w K mg base k "_law_frac" ["_law_n", "_law_d"] (spFrac K) f3 fd3) : Def P w K mg base (k + 1) "_law_ratio" ps__law_ratio (spRatio K l) f fd := by
  refine ⟨F.F.ok sc__law_ratio (fun vs H Q E h => ?_) (fun cdv A outer s H vs Q E hr h => ?_), F.m, F.F.kp, F.b⟩
  · obtain ⟨_, _, rfl, _⟩ := h
    rfl
  obtain ⟨s, top, rfl, hS, t1, t2, z⟩ := h
  have p40 : (2 : Int) ^ 40 = 1099511627776 := by decide
  have n40 : (2 : Nat) ^ 40 = 1099511627776 := by decide
  have p64 : (2 : Int) ^ 64 = 18446744073709551616 := by decide
  refine ⟨_, (pss_cons (ps_set (i := 2) sc__law_ratio.nd rfl (Or.inl rfl) (pcall d_law_take hr (pa_cons (pv 0) (pa_cons pe_int pa_nil))))
      (pss_cons (ps_if (pt_cmpR op_eq (pv 2) pe_int (nomark _))
        (pss_one (ps_ret (pe_tup (pa_cons pe_int (pa_cons pe_int pa_nil)))))
        pss_nil)
      (pss_cons (ps_if (pt_cmpR op_eq (pv 2) pe_int (nomark _))
        (pss_one (ps_ret (pe_tup (pa_cons (pcall d_law_pick hr (pa_cons (pv 0) (pa_cons (pe_lst (pa_cons pe_int (pa_cons (pe_op op_sub pe_int pe_int) (pa_cons (pv 1) (pa_cons (pe_op op_sub pe_int (pv 1)) pa_nil))))) pa_nil))) (pa_cons pe_int pa_nil)))))
        pss_nil)
      (pss_cons (ps_if (pt_cmpR op_eq (pv 2) pe_int (nomark _))
        (pss_one (ps_ret (pcall d_law_frac hr (pa_cons (pcall d_law_pick hr (pa_cons (pv 0) (pa_cons (pe_lst (pa_cons pe_int (pa_cons (pe_op op_sub pe_int pe_int) (pa_cons (pv 1) (pa_cons (pe_op op_sub pe_int (pv 1)) pa_nil))))) pa_nil))) (pa_cons (pv 1) pa_nil)))))
        pss_nil)
      (pss_cons (ps_if (pt_cmpR op_eq (pv 2) pe_int (nomark _))
        (pss_one (ps_ret (pe_tup (pa_cons (pe_op op_sub (pcall d_law_take hr (pa_cons (pv 0) (pa_cons (pe_op op_add (pe_op op_mul pe_int (pv 1)) pe_int) pa_nil))) (pv 1)) (pa_cons pe_int pa_nil)))))
        pss_nil)
      (pss_one (ps_ret (pcall d_law_frac hr (pa_cons (pe_op op_sub (pcall d_law_take hr (pa_cons (pv 0) (pa_cons (pe_op op_add (pe_op op_mul pe_int (pv 1)) pe_int) pa_nil))) (pv 1)) (pa_cons (pe_op op_add pe_int (pcall d_law_take hr (pa_cons (pv 0) (pa_cons (pv 1) pa_nil)))) pa_nil)))))))))), ?_⟩
  refine ⟨_, rfl, s, 6, rfl, hS, by decide, fun r H1 r0 r1 S1 e1 => ?_⟩
  refine ⟨_, rfl, rfl, _, rfl, ifD (fun _ => ?_) (fun _ => ?_)⟩
  · exact ⟨sz2, fun t ht => z _ _ (Qd.new 0 1 0 rfl rfl (by decide) trivial) (S1.same (same_new ht _)) (e1.trans (Fr.of (same_new ht _)))⟩
  refine ⟨_, rfl, rfl, _, rfl, ifD (fun _ => ?_) (fun _ => ?_)⟩
  · refine ⟨_, rfl, _, _, rfl, rfl, _, rfl, _, rfl, _, _, rfl, rfl, sm4, fun p hp => ?_⟩
    refine ⟨s, p, _, rfl, S1.same (same_new hp _), S1.ne hp, SqL.of upd_same, (by show 0 < 4; decide), (by show 4 < 2 ^ 32; decide), fun v H' hv S' e' => ?_⟩
    obtain ⟨n, rfl, hn⟩ : ∃ n : Int, v = .int n ∧ n.natAbs < 2 ^ 40 := by
      simp only [List.mem_cons, List.mem_nil_iff, or_false] at hv
      rcases hv with rfl | rfl | rfl | rfl
      · exact ⟨_, rfl, by omega⟩
      · exact ⟨_, rfl, by omega⟩
      · exact ⟨_, rfl, by omega⟩
      · exact ⟨_, rfl, by omega⟩
    exact ⟨sz2, fun t ht => z _ _ (int_q n hn) (S'.same (same_new ht _)) (e1.trans ((Fr.of (same_new hp _)).trans (e'.trans (Fr.of (same_new ht _)))))⟩
  refine ⟨_, rfl, rfl, _, rfl, ifD (fun _ => ?_) (fun _ => ?_)⟩
  · refine ⟨_, rfl, _, _, rfl, rfl, _, rfl, _, rfl, _, _, rfl, rfl, sm4, fun p hp => ?_⟩
    refine ⟨s, p, _, rfl, S1.same (same_new hp _), S1.ne hp, SqL.of upd_same, (by show 0 < 4; decide), (by show 4 < 2 ^ 32; decide), fun v H' hv S' e' => ?_⟩
    obtain ⟨n, rfl, hn⟩ : ∃ n : Int, v = .int n ∧ n.natAbs < 2 ^ 40 := by
      simp only [List.mem_cons, List.mem_nil_iff, or_false] at hv
      rcases hv with rfl | rfl | rfl | rfl
      · exact ⟨_, rfl, by omega⟩
      · exact ⟨_, rfl, by omega⟩
      · exact ⟨_, rfl, by omega⟩
      · exact ⟨_, rfl, by omega⟩
    refine ⟨_, rfl, n, top, 40, rfl, by omega, hn, by omega, by decide, fun v H'' e hv => z _ _ ⟨_, hv, sz_mk (by omega) hn (by omega), trivial⟩ (S'.same e) (e1.trans ((Fr.of (same_new hp _)).trans (e'.trans (Fr.of e))))⟩
  have m2 : CMul 2 top := .inl ⟨by decide, by decide⟩
  refine ⟨_, rfl, rfl, _, rfl, ifD (fun _ => ?_) (fun _ => ?_)⟩
  · refine ⟨_, rfl, _, rfl, _, _, rfl, rfl, m2, _, _, rfl, rfl, s, _, rfl, S1, by omega, fun r2 H2 r3 r4 S2 e2 => ⟨_, rfl, _, _, rfl, rfl, ?_⟩⟩
    exact ⟨sz2, fun t ht => z _ _ (int_q _ (by omega)) (S2.same (same_new ht _)) (e1.trans (e2.trans (Fr.of (same_new ht _))))⟩
  refine ⟨_, rfl, _, rfl, _, _, rfl, rfl, m2, _, _, rfl, rfl, s, _, rfl, S1, by omega, fun r2 H2 r3 r4 S2 e2 => ⟨_, rfl, _, _, rfl, rfl, ?_⟩⟩
  refine ⟨_, rfl, _, rfl, s, top, rfl, S2, by omega, fun r5 H3 r6 r7 S3 e3 => ⟨_, _, rfl, rfl, ?_⟩⟩
  exact ⟨_, _, 40, rfl, by omega, by omega, by omega, by decide, fun v H' e hv => z _ _ ⟨_, hv, sz_mk (by omega) (by omega) (by omega), trivial⟩ (S3.same e) (e1.trans (e2.trans (e3.trans (Fr.of e))))⟩
end Vk

namespace Vk
open PySem L2 Vm
variable {l : Addr} {P : Program} {w : World} {K : PySem.W.Frag} {mg : Str → Option Value} {base : Heap} {k : Nat} {f f1 f2 f3 f4 f5 f6 f7 f8 f9 : Addr} {fd fd1 fd2 fd3 fd4 fd5 fd6 fd7 fd8 fd9 : FuncData}
/-- while a list of things is being made at D -/
def Bun {α : Type} (R : Hp → V → α → Prop) (l s D : Addr) (H0 : Hp) (us : List V) (c : List α) (G : Hp) : Prop := Sto l s G ∧ Fr s H0 G ∧ D ≠ s ∧ D ≠ l ∧ H0 D = none ∧ G D = some (.lst us) ∧ All2 (R G) us c
section
variable {α : Type} {R : Hp → V → α → Prop} {s D : Addr} {H0 G G' : Hp} {us : List V} {c : List α}
/-- what R says outlives what becomes of a list -/
def Lasts (R : Hp → V → α → Prop) : Prop := ∀ {s : Addr} {H H' : Hp} {x : V} {p : α}, Fr s H H' → (∃ ys, H s = some (.lst ys)) → R H x p → R H' x p
theorem Bun.fr (h : Bun R l s D H0 us c G) (L : Lasts R) (e : Fr s G G') (S : Sto l s G') : Bun R l s D H0 us c G' := by
  obtain ⟨h1, h2, h3, h4, h5, h6, h7⟩ := h
  exact ⟨S, h2.trans e, h3, h4, h5, e _ _ h6 h3, h7.imp fun _ _ r => L e h1.some r⟩
theorem Bun.same (h : Bun R l s D H0 us c G) (L : Lasts R) (e : Same G G') : Bun R l s D H0 us c G' := h.fr L (Fr.of e) (h.1.same e)
theorem Bun.app {x : V} {p : α} (h : Bun R l s D H0 us c G) (L : Lasts R) (r : R G x p) : Bun R l s D H0 (us ++ [x]) (c ++ [p]) (upd G D (.lst (us ++ [x]))) := by
  obtain ⟨h1, h2, h3, h4, h5, h6, h7⟩ := h
  have fr : Fr D G (upd G D (.lst (us ++ [x]))) := Fr.upd _
  refine ⟨h1.upd h3 h4, fun b o hb hn => ?_, h3, h4, h5, upd_same, (h7.imp fun _ _ r => L fr ⟨_, h6⟩ r).snoc (L fr ⟨_, h6⟩ r)⟩
  rw [upd_ne (ne_of_none hb h5)]
  exact h2 b o hb hn
theorem Bun.start (S : Sto l s G) (e : Fr s H0 G) (hD : G D = none) : Bun R l s D H0 [] [] (upd G D (.lst [])) := by
  have nD := S.ne hD
  have f := same_new hD (.lst [])
  exact ⟨S.same f, e.trans (Fr.of f), nD, S.nl hD, e.free hD nD, upd_same, All2.nil⟩
end
theorem Bun.at {α : Type} {R : Hp → V → α → Prop} {s D : Addr} {H0 G : Hp} {us : List V} {c : List α} (h : Bun R l s D H0 us c G) : G D = some (.lst us) := h.2.2.2.2.2.1
theorem Bun.len {α : Type} {R : Hp → V → α → Prop} {s D : Addr} {H0 G : Hp} {us : List V} {c : List α} (h : Bun R l s D H0 us c G) : us.length = c.length := h.2.2.2.2.2.2.1
theorem Bun.all {α : Type} {R : Hp → V → α → Prop} {s D : Addr} {H0 G : Hp} {us : List V} {c : List α} (h : Bun R l s D H0 us c G) : All2 (R G) us c := h.2.2.2.2.2.2
theorem lastsP : Lasts (Pq K) := fun e hs h => h.fr e hs
theorem lastsQ : Lasts (Rq K) := fun e hs h => h.fr e hs
theorem Cok.snoc {c : List Pc} {x : Pc} (h : Cok c) (hx : ∀ p ∈ c, p.s < x.s) (r : 0 < x.r) : Cok (c ++ [x]) := by
  refine ⟨fun p hp => ?_, fun i p q e1 e2 => ?_⟩
  · rcases List.mem_append.mp hp with hp | hp
    · exact h.1 p hp
    · rw [List.mem_singleton.mp hp]
      exact r
  · by_cases hi : i + 1 < c.length
    · rw [List.getElem?_append_left (by omega)] at e1
      rw [List.getElem?_append_left hi] at e2
      exact h.2 i p q e1 e2
    · have hl := (List.getElem?_eq_some_iff.mp e2).1
      rw [List.length_append, List.length_singleton] at hl
      rw [List.getElem?_append_left (by omega)] at e1
      rw [List.getElem?_append_right (by omega)] at e2
      have e0 : i + 1 - c.length = 0 := by omega
      rw [e0] at e2
      cases e2
      exact hx p (List.mem_of_getElem? e1)
theorem Cz.snoc {i j m : Nat} {c : List Pc} {x : Pc} (h : Cz i j m c) (z : Sz i x.s ∧ Sz j x.v ∧ Sz m x.r) : Cz i j m (c ++ [x]) := fun p hp => by
  rcases List.mem_append.mp hp with hp | hp
  · exact h p hp
  · rw [List.mem_singleton.mp hp]
    exact z
theorem lt_add_pos {a b : Rat} (h : 0 < b) : a < a + b := by grind
abbrev s__law_course : Stmt := top 36
abbrev N__law_course : List Str := ["_law_store_here", "_law_many", "_law_fall", "_law_when", "_law_told", "_law_pace_here", "_law_course_here", "_law_k", "_law_step", "_law_sort"]
theorem sc__law_course : FnScope N__law_course ["_law_store_here", "_law_many", "_law_fall"] (defScope s__law_course) := ⟨rfl, rfl, rfl, by decide +kernel, rfl, by decide +kernel, by decide +kernel⟩
abbrev ps__law_course : List Str := ["_law_store_here", "_law_many", "_law_fall"]
def spCourse (K : PySem.W.Frag) (l : Addr) : Sp := fun vs H Q _ => ∃ (s : Addr) (many : Nat) (fall : Bool), vs = [.ref s, .int many, .bl fall] ∧ Sto l s H ∧ many ≤ 40 ∧
  ∀ D us c H', Bun (Pq K) l s D H us c H' → c.length = many → Cok c → Cz 245 925 5 c → Q (.ref D) H'
theorem ok_course (T : Bn mg) (F : Fn K mg "_law_course" s__law_course ps__law_course f fd) (d_law_part : Def P w K mg base k "_law_part" ["_law_store_here"] (spDraw K l 5 anyQ) f1 fd1) (d_law_pace : Def P w K mg base k "_law_pace" ["_law_store_here"] (spDraw K l 5 posQ) f2 fd2)
    (d_law_above : Def P w K mg base k "_law_above" ["_law_store_here"] (spDraw K l 5 posQ) f3 fd3) (d_law_plus : Def P w K mg base k "_law_plus" ["_law_a", "_law_b"] (spOp2 K (· + ·)) f4 fd4) (d_law_times : Def P w K mg base k "_law_times" ["_law_a", "_law_b"] (spOp2 K (· * ·)) f5 fd5)
    (d_law_minus : Def P w K mg base k "_law_minus" ["_law_a", "_law_b"] (spOp2 K (· - ·)) f6 fd6) (d_law_take : Def P w K mg base k "_law_take" ["_law_store_here", "_law_many"] (spTake K l) f7 fd7) :
    Def P w K mg base (k + 1) "_law_course" ps__law_course (spCourse K l) f fd := by
  refine ⟨F.F.ok sc__law_course (fun vs H Q E h => ?_) (fun cdv A outer s H vs Q E hr h => ?_), F.m, F.F.kp, F.b⟩
  · obtain ⟨_, _, _, rfl, _⟩ := h
    rfl
  obtain ⟨s, many, fall, rfl, hS, hm, z⟩ := h
  refine ⟨_, (pss_cons (ps_set (i := 3) sc__law_course.nd rfl (Or.inl rfl) (pcall d_law_part hr (pa_cons (pv 0) pa_nil)))
      (pss_cons (ps_set (i := 4) sc__law_course.nd rfl (Or.inl rfl) (pcall d_law_part hr (pa_cons (pv 0) pa_nil)))
      (pss_cons (ps_set (i := 5) sc__law_course.nd rfl (Or.inl rfl) (pcall d_law_pace hr (pa_cons (pv 0) pa_nil)))
      (pss_cons (ps_set (i := 6) sc__law_course.nd rfl (Or.inl rfl) (pe_lst pa_nil))
      (pss_cons (ps_for PassesOwn.never rfl (pi_range1 (by rfl) T.range_ (pa_cons (pv 1) pa_nil)) (pg_name (i := 7) sc__law_course.nd rfl (Or.inl rfl))
        (pss_cons (ps_expr (pe_bm PySem.F.plainAttrs_list PySem.F.slot_list_append PySem.F.type_list_append mt_append (pv 6) (pa_cons (pe_tup (pa_cons (pv 3) (pa_cons (pv 4) (pa_cons (pv 5) pa_nil)))) pa_nil)))
        (pss_cons (ps_set (i := 8) sc__law_course.nd rfl (Or.inl rfl) (pcall d_law_above hr (pa_cons (pv 0) pa_nil)))
        (pss_cons (ps_set (i := 3) sc__law_course.nd rfl (Or.inl rfl) (pcall d_law_plus hr (pa_cons (pv 3) (pa_cons (pv 8) pa_nil))))
        (pss_cons (ps_set (i := 4) sc__law_course.nd rfl (Or.inl rfl) (pcall d_law_plus hr (pa_cons (pv 4) (pa_cons (pcall d_law_times hr (pa_cons (pv 5) (pa_cons (pv 8) pa_nil))) pa_nil))))
        (pss_cons (ps_set (i := 9) sc__law_course.nd rfl (Or.inl rfl) (pcall d_law_take hr (pa_cons (pv 0) (pa_cons pe_int pa_nil))))
        (pss_cons (ps_if (PW.pt (pw_or (pt_cmpR op_eq (pv 9) pe_int (nomark _)) (pw_or1 (pt_cmpR op_eq (pv 9) pe_int (nomark _)))))
          (pss_one (ps_set (i := 4) sc__law_course.nd rfl (Or.inl rfl) (pcall d_law_plus hr (pa_cons (pv 4) (pa_cons (pcall d_law_above hr (pa_cons (pv 0) pa_nil)) pa_nil)))))
          pss_nil)
        (pss_cons (ps_if (PW.pt (pw_and (pt_cmpR op_eq (pv 9) pe_int (nomark _)) (pw_and1 (pt_val (pv 2)))))
          (pss_one (ps_set (i := 4) sc__law_course.nd rfl (Or.inl rfl) (pcall d_law_minus hr (pa_cons (pv 4) (pa_cons (pcall d_law_above hr (pa_cons (pv 0) pa_nil)) pa_nil)))))
          pss_nil)
        (pss_one (ps_if (PW.pt (pw_and (pt_cmpR op_ne (pv 9) pe_int (nomark _)) (pw_and1 (pt_cmpR op_ne (pv 9) pe_int (nomark _)))))
          (pss_one (ps_set (i := 5) sc__law_course.nd rfl (Or.inl rfl) (pcall d_law_pace hr (pa_cons (pv 0) pa_nil))))
          pss_nil))))))))))
      (pss_one (ps_ret (pv 6)))))))), ?_⟩
  refine ⟨_, rfl, s, rfl, hS, fun wv G1 qw S1 e1 => ?_⟩
  refine ⟨_, rfl, s, rfl, S1, fun tv G2 qt S2 e2 => ?_⟩
  refine ⟨_, rfl, s, rfl, S2, fun pv G3 qp S3 e3 => ?_⟩
  refine ⟨Nat.zero_le _, fun D hD => ?_⟩
  have p62 : (2 : Int) ^ 62 = 4611686018427387904 := by decide
  have B0 : Bun (Pq K) l s D H [] [] (upd G3 D (.lst [])) := Bun.start S3 (e1.trans (e2.trans e3)) hD
  have s4 := same_new hD (.lst [])
  obtain ⟨qw0, rw0, zw0, _⟩ := ((qw.fr e2 S1).fr e3 S2).same s4
  obtain ⟨qt0, rt0, zt0, _⟩ := (qt.fr e3 S2).same s4
  obtain ⟨qp0, rp0, zp0, pp0⟩ := qp.same s4
  refine ⟨_, rfl, _, rfl, by omega, by omega, for_range (n := ((many : Nat) : Int).toNat) (fun i σ G => ∃ (us : List V) (c : List Pc) (wv tv pv : V) (k1 k2 k3 : Option V) (qw qt qp : Rat), σ = [some (.ref s), some (.int many), some (.bl fall), some wv, some tv, some pv, some (.ref D), k1, k2, k3] ∧
      Bun (Pq K) l s D H us c G ∧ Rq K G wv qw ∧ Rq K G tv qt ∧ Rq K G pv qp ∧ Sz (5 + 6 * i) qw ∧ Sz (5 + 23 * i) qt ∧ Sz 5 qp ∧ 0 < qp ∧ c.length = i ∧ (∀ p ∈ c, p.s < qw) ∧ Cok c ∧ Cz 245 925 5 c)
    ⟨[], [], _, _, _, _, _, _, qw0, qt0, qp0, rfl, B0, rw0, rt0, rp0, zw0, zt0, zp0, pp0, rfl, nofun, ⟨nofun, fun i p q h => by simp at h⟩, nofun⟩ ?_ ?_⟩
  · rintro i σ G hi ⟨us, c, wv, tv, pv, k1, k2, k3, qw, qto, qp, rfl, B, rw1, rt1, rp1, zw, zt, zp, pp, hc, hlt, ok, cz⟩
    have hi' : i < 40 := by omega
    have hul : us.length ≤ 1000 := by have := B.len; omega
    -- the piece
    refine ⟨_, rfl, .inl ⟨rfl, _, SqL.of B.at⟩, _, rfl, _, rfl, _, rfl, sm3, fun T hT => ?_⟩
    have t1 := same_new hT (.tup [wv, tv, pv])
    have B1 := B.same lastsP t1
    refine ⟨D, _, _, rfl, rfl, B1.at, le1000 hul, ?_⟩
    have B2 := B1.app lastsP (x := .ref T) (p := ⟨qw, qto, qp⟩) ⟨T, wv, tv, pv, rfl, SqT.of upd_same, rw1.same t1, rt1.same t1, rp1.same t1⟩
    have f2 : Fr D (upd G T (.tup [wv, tv, pv])) (upd (upd G T (.tup [wv, tv, pv])) D (.lst (us ++ [.ref T]))) := Fr.upd _
    have rw2 := (rw1.same t1).fr f2 ⟨_, B1.at⟩
    have rt2 := (rt1.same t1).fr f2 ⟨_, B1.at⟩
    have rp2 := (rp1.same t1).fr f2 ⟨_, B1.at⟩
    -- the step; when; told
    refine ⟨_, rfl, s, rfl, B2.1, fun sv G3 qs0 S3 e3 => ?_⟩
    have B3 := B2.fr lastsP e3 S3
    obtain ⟨qs, rs, zs, ps⟩ := qs0
    have ps : 0 < qs := ps
    have rw3 := rw2.fr e3 B2.1.some
    have rt3 := rt2.fr e3 B2.1.some
    have rp3 := rp2.fr e3 B2.1.some
    refine ⟨_, rfl, _, rfl, _, _, qw, qs, _, 5, rfl, rw3, rs, zw, zs, by omega, fun wv' G4 e4 rw4 => ?_⟩
    refine ⟨_, rfl, _, rfl, _, rfl, _, _, qp, qs, 5, 5, rfl, rp3.same e4, rs.same e4, zp, zs, by omega, fun xv G5 e5 rx => ?_⟩
    refine ⟨_, _, qto, qp * qs, _, 10, rfl, rt3.same (e4.trans e5), rx, zt, zp.mul zs, by omega, fun tv' G6 e6 rt6 => ?_⟩
    have B6 := B3.same lastsP (e4.trans (e5.trans e6))
    refine ⟨_, rfl, s, 6, rfl, B6.1, by decide, fun so G7 so0 so1 S7 e7 => ?_⟩
    have B7 := B6.fr lastsP e7 S7
    have rw7 := (rw4.same (e5.trans e6)).fr e7 B6.1.some
    have rt7 := rt6.fr e7 B6.1.some
    have rp7 := (rp3.same (e4.trans (e5.trans e6))).fr e7 B6.1.some
    have zw7 : Sz (5 + 6 * (i + 1)) (qw + qs) := (zw.add zs).mono (by omega)
    have zt7 : Sz (16 + 23 * i) (qto + qp * qs) := (zt.add (zp.mul zs)).mono (by omega)
    have lw : qw < qw + qs := lt_add_pos ps
    dsimp only [gName]
    refine cut (fun σ' G' => ∃ (tv : V) (qt : Rat), σ' = [some (.ref s), some (.int many), some (.bl fall), some wv', some tv, some pv, some (.ref D), some (.int (0 + (i : Int))), some sv, some (.int so)] ∧ Bun (Pq K) l s D H (us ++ [.ref T]) (c ++ [⟨qw, qto, qp⟩]) G' ∧ Rq K G' wv' (qw + qs) ∧ Rq K G' tv qt ∧ Rq K G' pv qp ∧ Sz (22 + 23 * i) qt) ?_ ?_
    · rintro σ' G8 ⟨tv8, qt8, rfl, B8, rw8, rt8, rp8, zt8⟩
      refine cut (fun σ' G' => ∃ (tv : V) (qt : Rat), σ' = [some (.ref s), some (.int many), some (.bl fall), some wv', some tv, some pv, some (.ref D), some (.int (0 + (i : Int))), some sv, some (.int so)] ∧ Bun (Pq K) l s D H (us ++ [.ref T]) (c ++ [⟨qw, qto, qp⟩]) G' ∧ Rq K G' wv' (qw + qs) ∧ Rq K G' tv qt ∧ Rq K G' pv qp ∧ Sz (28 + 23 * i) qt) ?_ ?_
      · rintro σ' G9 ⟨tv9, qt9, rfl, B9, rw9, rt9, rp9, zt9⟩
        -- the last if
        have okc : Cok (c ++ [⟨qw, qto, qp⟩]) := ok.snoc hlt pp
        have czc : Cz 245 925 5 (c ++ [⟨qw, qto, qp⟩]) := cz.snoc ⟨zw.mono (by omega), zt.mono (by omega), zp⟩
        have ltc : ∀ p ∈ c ++ [(⟨qw, qto, qp⟩ : Pc)], p.s < qw + qs := fun p hp => by
          rcases List.mem_append.mp hp with hp | hp
          · have h1 := hlt p hp; grind
          · rw [List.mem_singleton.mp hp]
            exact lw
        have lenc : (c ++ [(⟨qw, qto, qp⟩ : Pc)]).length = i + 1 := by rw [List.length_append, hc]; rfl
        have stay : ∃ (us' : List V) (c : List Pc) (wv tv pv' : V) (k1 k2 k3 : Option V) (qw qt qp : Rat), [some (.ref s), some (.int many), some (.bl fall), some wv', some tv9, some pv, some (.ref D), some (.int (0 + (i : Int))), some sv, some (.int so)] = [some (.ref s), some (.int many), some (.bl fall), some wv, some tv, some pv', some (.ref D), k1, k2, k3] ∧
            Bun (Pq K) l s D H us' c G9 ∧ Rq K G9 wv qw ∧ Rq K G9 tv qt ∧ Rq K G9 pv' qp ∧ Sz (5 + 6 * (i + 1)) qw ∧ Sz (5 + 23 * (i + 1)) qt ∧ Sz 5 qp ∧ 0 < qp ∧ c.length = i + 1 ∧ (∀ p ∈ c, p.s < qw) ∧ Cok c ∧ Cz 245 925 5 c :=
          ⟨_, _, _, _, _, _, _, _, _, _, _, rfl, B9, rw9, rt9, rp9, zw7, zt9.mono (by omega), zp, pp, lenc, ltc, okc, czc⟩
        refine ⟨_, rfl, rfl, _, rfl, ?_⟩
        by_cases g1 : so = 0
        · refine ifF (by rw [dT (congrArg V.int g1)]; rfl) (ifF rfl stay)
        refine ifT (by rw [dF fun e => g1 (V.int.inj e)]; rfl) ⟨_, rfl, rfl, _, rfl, ?_⟩
        by_cases g2 : so = 4
        · exact ifF (by rw [dT (congrArg V.int g2)]; rfl) stay
        refine ifT (by rw [dF fun e => g2 (V.int.inj e)]; rfl) ⟨_, rfl, s, rfl, B9.1, fun pv' G10 qn S10 e10 => ?_⟩
        obtain ⟨qn, rn, zn, pn⟩ := qn
        exact ⟨_, _, _, _, _, _, _, _, _, _, _, rfl, B9.fr lastsP e10 S10, rw9.fr e10 B9.1.some, rt9.fr e10 B9.1.some, rn, zw7, zt9.mono (by omega), zn, pn, lenc, ltc, okc, czc⟩
      · intro key
        refine ⟨_, rfl, rfl, _, rfl, ?_⟩
        have skip := key _ _ ⟨tv8, qt8, rfl, B8, rw8, rt8, rp8, zt8.mono (by omega)⟩
        by_cases g1 : so = 4
        · refine ifT (dT (congrArg V.int g1)) ⟨_, rfl, _, rfl, ?_⟩
          cases fall with
          | false => exact ifF rfl skip
          | true =>
            refine ifT rfl ⟨_, rfl, _, rfl, s, rfl, B8.1, fun av G9 qa S9 e9 => ?_⟩
            obtain ⟨qa, ra, za, _⟩ := qa
            have B9 := B8.fr lastsP e9 S9
            refine ⟨_, _, qt8, qa, _, 5, rfl, rt8.fr e9 B8.1.some, ra, zt8, za, by omega, fun tv9 G10 e10 rt10 => ?_⟩
            exact key _ _ ⟨tv9, _, rfl, B9.same lastsP e10, (rw8.fr e9 B8.1.some).same e10, rt10, (rp8.fr e9 B8.1.some).same e10, (zt8.sub za).mono (by omega)⟩
        · exact ifF (dF fun e => g1 (V.int.inj e)) (ifF rfl skip)
    · intro key
      have skip := key _ _ ⟨tv', _, rfl, B7, rw7, rt7, rp7, zt7.mono (by omega)⟩
      have doit : ∀ (Qx : Prop), True → Qx → Qx := fun _ _ h => h
      refine ⟨_, rfl, rfl, _, rfl, ?_⟩
      by_cases g1 : so = 2
      · refine ifT (dT (congrArg V.int g1)) (ifT rfl ⟨_, rfl, _, rfl, s, rfl, B7.1, fun av G8 qa S8 e8 => ?_⟩)
        obtain ⟨qa, ra, za, _⟩ := qa
        refine ⟨_, _, _, qa, _, 5, rfl, rt7.fr e8 B7.1.some, ra, zt7, za, by omega, fun tv8 G9 e9 rt9 => ?_⟩
        exact key _ _ ⟨tv8, _, rfl, (B7.fr lastsP e8 S8).same lastsP e9, (rw7.fr e8 B7.1.some).same e9, rt9, (rp7.fr e8 B7.1.some).same e9, (zt7.add za).mono (by omega)⟩
      refine ifF (dF fun e => g1 (V.int.inj e)) ⟨_, rfl, rfl, _, rfl, ?_⟩
      by_cases g2 : so = 3
      · refine ifT (dT (congrArg V.int g2)) ⟨_, rfl, _, rfl, s, rfl, B7.1, fun av G8 qa S8 e8 => ?_⟩
        obtain ⟨qa, ra, za, _⟩ := qa
        refine ⟨_, _, _, qa, _, 5, rfl, rt7.fr e8 B7.1.some, ra, zt7, za, by omega, fun tv8 G9 e9 rt9 => ?_⟩
        exact key _ _ ⟨tv8, _, rfl, (B7.fr lastsP e8 S8).same lastsP e9, (rw7.fr e8 B7.1.some).same e9, rt9, (rp7.fr e8 B7.1.some).same e9, (zt7.add za).mono (by omega)⟩
      · exact ifF (dF fun e => g2 (V.int.inj e)) skip
  · rintro σ G ⟨us, c, wv, tv, pv, k1, k2, k3, qw, qt, qp, rfl, B, rw1, rt1, rp1, zw, zt, zp, pp, hc, hlt, ok, cz⟩
    exact ⟨_, rfl, z D us c G B (by omega) ok cz⟩
end Vk

namespace Vk
open PySem L2 Vm
variable {l : Addr} {P : Program} {w : World} {K : PySem.W.Frag} {mg : Str → Option Value} {base : Heap} {k : Nat} {f f1 f2 f3 f4 f5 f6 f7 f8 f9 : Addr} {fd fd1 fd2 fd3 fd4 fd5 fd6 fd7 fd8 fd9 : FuncData}
theorem All2.append {α : Type} {R : V → α → Prop} {xs ys : List V} {c d : List α} (h : All2 R xs c) (g : All2 R ys d) : All2 R (xs ++ ys) (c ++ d) := by
  refine ⟨by rw [List.length_append, List.length_append, h.1, g.1], fun i x p a b => ?_⟩
  have hl := h.1
  by_cases hi : i < xs.length
  · rw [List.getElem?_append_left hi] at a
    rw [List.getElem?_append_left (by omega)] at b
    exact h.2 i x p a b
  · rw [List.getElem?_append_right (by omega)] at a
    rw [List.getElem?_append_right (by omega), ← hl] at b
    exact g.2 _ x p a b
theorem All2.take {α : Type} {R : V → α → Prop} {xs : List V} {c : List α} (h : All2 R xs c) (m : Nat) : All2 R (xs.take m) (c.take m) := by
  refine ⟨by rw [List.length_take, List.length_take, h.1], fun i x p a b => ?_⟩
  rw [List.getElem?_take] at a b
  split at a
  · rename_i hi
    rw [if_pos hi] at b
    exact h.2 i x p a b
  · cases a
theorem All2.drop {α : Type} {R : V → α → Prop} {xs : List V} {c : List α} (h : All2 R xs c) (m : Nat) : All2 R (xs.drop m) (c.drop m) := by
  refine ⟨by rw [List.length_drop, List.length_drop, h.1], fun i x p a b => ?_⟩
  rw [List.getElem?_drop] at a b
  exact h.2 _ x p a b
theorem All2.one {α : Type} {R : V → α → Prop} {x : V} {p : α} (r : R x p) : All2 R [x] [p] := by
  have h : All2 R ([] ++ [x]) ([] ++ [p]) := All2.nil.snoc r
  exact h
def Asc (os : List Rat) : Prop := os.Pairwise (· < ·)
theorem asc_at {os : List Rat} (h : Asc os) {i j : Nat} {a b : Rat} (ha : os[i]? = some a) (hb : os[j]? = some b) (hij : i < j) : a < b := by
  obtain ⟨h1, rfl⟩ := List.getElem?_eq_some_iff.mp ha
  obtain ⟨h2, rfl⟩ := List.getElem?_eq_some_iff.mp hb
  exact List.pairwise_iff_getElem.mp h i j h1 h2 hij
/-- the place of one among os -/
def Spot (os : List Rat) (one : Rat) (j m : Nat) : Prop := m ≤ j ∧ ∀ (t : Nat) o, t < j → os[t]? = some o → (o < one ↔ t < m)
theorem rlt_trans {a b c : Rat} (h : a < b) (g : b < c) : a < c := by grind
theorem spot_next {os : List Rat} {one o : Rat} {j m : Nat} (ha : Asc os) (h : Spot os one j m) (ho : os[j]? = some o) : Spot os one (j + 1) (if o < one then j + 1 else m) := by
  split
  · rename_i g
    refine ⟨Nat.le_refl _, fun t x ht hx => ⟨fun _ => ht, fun _ => ?_⟩⟩
    by_cases e : t = j
    · subst e
      rw [ho] at hx
      cases hx
      exact g
    · exact rlt_trans (asc_at ha hx ho (by omega)) g
  · rename_i g
    refine ⟨by have := h.1; omega, fun t x ht hx => ?_⟩
    by_cases e : t = j
    · subst e
      rw [ho] at hx
      cases hx
      exact ⟨fun z => absurd z g, fun z => absurd z (by have := h.1; omega)⟩
    · exact h.2 t x (by omega) hx
theorem asc_insert {os : List Rat} {one : Rat} {m : Nat} (ha : Asc os) (h : Spot os one os.length m) (hn : os[m]? ≠ some one) : Asc (os.take m ++ [one] ++ os.drop m) := by
  have hlt : ∀ o ∈ os.take m, o < one := fun o ho => by
    obtain ⟨t, ht, rfl⟩ := List.mem_iff_getElem.mp ho
    rw [List.length_take] at ht
    have e : os[t]? = some (os.take m)[t] := by
      rw [List.getElem_take]
      exact List.getElem?_eq_getElem (by omega)
    exact (h.2 t _ (by omega) e).mpr (by omega)
  have hgt : ∀ o ∈ os.drop m, one < o := fun o ho => by
    obtain ⟨t, ht, rfl⟩ := List.mem_iff_getElem.mp ho
    rw [List.length_drop] at ht
    have e : os[m + t]? = some (os.drop m)[t] := by
      rw [List.getElem_drop]
      exact List.getElem?_eq_getElem (by omega)
    have h1 : ¬ (os.drop m)[t] < one := fun z => absurd ((h.2 (m + t) _ (by omega) e).mp z) (by omega)
    by_cases t0 : t = 0
    · have h2 : (os.drop m)[t] ≠ one := fun z => hn (by rw [← z, ← e, t0, Nat.add_zero])
      grind
    · have hm : m < os.length := by omega
      have h3 := asc_at ha (List.getElem?_eq_getElem hm) e (by omega)
      have h4 : ¬ os[m] < one := fun z => absurd ((h.2 m _ hm (List.getElem?_eq_getElem hm)).mp z) (by omega)
      grind
  unfold Asc
  rw [List.append_assoc, List.pairwise_append]
  refine ⟨ha.sublist (List.take_sublist _ _), ?_, fun a h1 b h2 => ?_⟩
  · rw [List.singleton_append, List.pairwise_cons]
    exact ⟨hgt, ha.sublist (List.drop_sublist _ _)⟩
  · rw [List.singleton_append] at h2
    rcases List.mem_cons.mp h2 with rfl | h2
    · exact hlt a h1
    · exact rlt_trans (hlt a h1) (hgt b h2)
abbrev s__law_ordered : Stmt := top 34
abbrev N__law_ordered : List Str := ["_law_fracs", "_law_row", "_law_one", "_law_spot", "_law_k"]
theorem sc__law_ordered : FnScope N__law_ordered ["_law_fracs"] (defScope s__law_ordered) := ⟨rfl, rfl, rfl, by decide +kernel, rfl, by decide +kernel, by decide +kernel⟩
abbrev ps__law_ordered : List Str := ["_law_fracs"]
def spOrdered (K : PySem.W.Frag) : Sp := fun vs H Q _ => ∃ (a : Addr) (xs : List V) (qs : List Rat), vs = [.ref a] ∧ SqL K H a xs ∧ All2 (Rq K H) xs qs ∧ (∀ q ∈ qs, Sz 40 q) ∧ qs.length ≤ 900 ∧
  ∀ D us os H', Same H H' → H D = none → H' D = some (.lst us) → All2 (Rq K H') us os → Asc os → (∀ o ∈ os, o ∈ qs) → os.length ≤ qs.length → (qs ≠ [] → os ≠ []) → Q (.ref D) H'
theorem ok_ordered (T : Bn mg) (F : Fn K mg "_law_ordered" s__law_ordered ps__law_ordered f fd) (d_law_below : Def P w K mg base k "_law_below" ["_law_a", "_law_b"] (spTest2 K fun p q => .bl (decide (p < q))) f1 fd1) :
    Def P w K mg base (k + 1) "_law_ordered" ps__law_ordered (spOrdered K) f fd := by
  refine ⟨F.F.ok sc__law_ordered (fun vs H Q E h => ?_) (fun cdv A outer s H vs Q E hr h => ?_), F.m, F.F.kp, F.b⟩
  · obtain ⟨_, _, _, rfl, _⟩ := h
    rfl
  obtain ⟨a, xs, qs, rfl, hx, hq, zq, hl, z⟩ := h
  refine ⟨_, (pss_cons (ps_set (i := 1) sc__law_ordered.nd rfl (Or.inl rfl) (pe_lst pa_nil))
      (pss_cons (ps_for PassesOwn.never rfl (pi_list (pv 0)) (pg_name (i := 2) sc__law_ordered.nd rfl (Or.inl rfl))
        (pss_cons (ps_set (i := 3) sc__law_ordered.nd rfl (Or.inl rfl) pe_int)
        (pss_cons (ps_for PassesOwn.never rfl (pi_range1 (by rfl) T.range_ (pa_cons (pe_callB call_len_seq (by rfl) T.len_ PySem.boot_len (pa_cons (pv 1) pa_nil)) pa_nil)) (pg_name (i := 4) sc__law_ordered.nd rfl (Or.inl rfl))
          (pss_one (ps_if (pt_val (pcall d_law_below hr (pa_cons (pe_ix ix_list (pv 1) (pv 4) (fun _ _ => rfl)) (pa_cons (pv 2) pa_nil))))
            (pss_one (ps_set (i := 3) sc__law_ordered.nd rfl (Or.inl rfl) (pe_op op_add (pv 4) pe_int)))
            pss_nil)))
        (pss_one (ps_if (PW.pt (pw_or (pt_cmpR op_eq (pv 3) (pe_callB call_len_seq (by rfl) T.len_ PySem.boot_len (pa_cons (pv 1) pa_nil)) (nomark _)) (pw_or1 (pt_cmpR (op_neD hr.units) (pe_ix ix_list (pv 1) (pv 3) (fun _ _ => rfl)) (pv 2) (nomark _)))))
          (pss_one (ps_expr (pe_bm PySem.F.plainAttrs_list PySem.F.slot_list_insert PySem.F.type_list_insert mt_insert (pv 1) (pa_cons (pv 3) (pa_cons (pv 2) pa_nil)))))
          pss_nil)))))
      (pss_one (ps_ret (pv 1))))), ?_⟩
  have p62 : (2 : Int) ^ 62 = 4611686018427387904 := by decide
  have p63 : (2 : Int) ^ 63 = 9223372036854775808 := by decide
  refine ⟨Nat.zero_le _, fun D hD => ?_⟩
  refine ⟨_, rfl, a, rfl, ⟨_, (same_new hD _).seq hx⟩, for_list (K := K) (a := a) (xs := xs) (fun i σ G => ∃ (us : List V) (os : List Rat) (k1 k2 k3 : Option V), σ = [some (.ref a), some (.ref D), k1, k2, k3] ∧ Same H G ∧ G D = some (.lst us) ∧ All2 (Rq K G) us os ∧ Asc os ∧ (∀ o ∈ os, o ∈ qs) ∧ os.length ≤ i ∧ (0 < i → os ≠ []))
    ⟨[], [], none, none, none, rfl, same_new hD _, upd_same, All2.nil, List.Pairwise.nil, nofun, Nat.le_refl _, fun h => absurd h (by omega)⟩ (fun i σ G _ h => by obtain ⟨_, _, _, _, _, _, s1, _⟩ := h; exact s1.seq hx) ?_ ?_⟩
  · rintro i x σ G hxi ⟨us, os, k1, k2, k3, rfl, s1, hD1, hA, asc, sub, ln, _⟩
    have hi : i < qs.length := by rw [← hq.1]; exact (List.getElem?_eq_some_iff.mp hxi).1
    have hqi : qs[i]? = some qs[i] := List.getElem?_eq_getElem hi
    have hmem : qs[i] ∈ qs := List.getElem_mem hi
    have rx := (hq.2 i x _ hxi hqi).same s1
    obtain ⟨one, eo⟩ : ∃ o, o = qs[i] := ⟨_, rfl⟩
    rw [← eo] at rx hmem
    have zo := zq one hmem
    have zos : ∀ o ∈ os, Sz 40 o := fun o ho => zq o (sub o ho)
    have hal := hA.1
    refine ⟨_, rfl, D, _, rfl, .inl (SqL.of hD1), _, rfl, by omega, by omega, for_range (n := ((us.length : Nat) : Int).toNat) (fun j σ G' => ∃ (m : Nat) (k3 : Option V), σ = [some (.ref a), some (.ref D), some x, some (.int m), k3] ∧ G' = G ∧ Spot os one j m)
      ⟨0, k3, rfl, rfl, Nat.le_refl _, fun t o h => absurd h (by omega)⟩ ?_ ?_⟩
    · rintro j σ G' hj ⟨m, k3, rfl, rfl, sp⟩
      have hj' : j < os.length := by omega
      have hoj : os[j]? = some os[j] := List.getElem?_eq_getElem hj'
      obtain ⟨y, hy, ry⟩ := hA.at hoj
      have sn := spot_next asc sp hoj
      refine ⟨_, rfl, _, rfl, D, _, _, y, rfl, rfl, SqL.of hD1, at_of (j := j) (by omega) hy, _, rfl, _, _, os[j], one, 40, 40, rfl, ry, rx, zos _ (List.getElem_mem hj'), zo, by decide, _, rfl, ifD (fun g => ?_) (fun g => ?_)⟩
      · rw [if_pos g] at sn
        refine ⟨_, rfl, _, _, rfl, rfl, j + 1, some (.int (0 + (j : Int))), ?_, rfl, sn⟩
        show [some (V.ref a), some (V.ref D), some x, some (V.int (0 + (j : Int) + 1)), some (V.int (0 + (j : Int)))] = _
        rw [show (0 + (j : Int) + 1) = ((j + 1 : Nat) : Int) by omega]
      · rw [if_neg g] at sn
        exact ⟨m, _, rfl, rfl, sn⟩
    · rintro σ G' ⟨m, k3, rfl, rfl, sp⟩
      have sp : Spot os one os.length m := by
        have e : ((us.length : Nat) : Int).toNat = os.length := by omega
        rw [e] at sp
        exact sp
      have hm := sp.1
      have put : os[m]? ≠ some one → ∃ (us' : List V) (os' : List Rat) (k1 k2 k3' : Option V), [some (.ref a), some (.ref D), some x, some (.int m), k3] = [some (.ref a), some (.ref D), k1, k2, k3'] ∧ Same H (upd G' D (.lst (us.take m ++ [x] ++ us.drop m))) ∧ (upd G' D (.lst (us.take m ++ [x] ++ us.drop m))) D = some (.lst us') ∧
          All2 (Rq K (upd G' D (.lst (us.take m ++ [x] ++ us.drop m)))) us' os' ∧ Asc os' ∧ (∀ o ∈ os', o ∈ qs) ∧ os'.length ≤ i + 1 ∧ (0 < i + 1 → os' ≠ []) := fun hn => by
        have fr : Fr D G' (upd G' D (.lst (us.take m ++ [x] ++ us.drop m))) := Fr.upd _
        have hA' := hA.imp fun _ _ h => Rq.fr fr ⟨_, hD1⟩ h
        refine ⟨_, os.take m ++ [one] ++ os.drop m, _, _, _, rfl, same_upd s1 hD _, upd_same, ((hA'.take m).append (All2.one (rx.fr fr ⟨_, hD1⟩))).append (hA'.drop m), asc_insert asc sp hn, fun o ho => ?_, ?_, fun _ e => ?_⟩
        · rcases List.mem_append.mp ho with ho | ho
          · rcases List.mem_append.mp ho with ho | ho
            · exact sub o (List.mem_of_mem_take ho)
            · rw [List.mem_singleton.mp ho]
              exact hmem
          · exact sub o (List.mem_of_mem_drop ho)
        · rw [List.length_append, List.length_append, List.length_take, List.length_drop, List.length_singleton]
          omega
        · have := congrArg List.length e
          rw [List.length_append, List.length_append, List.length_singleton, List.length_nil] at this
          omega
      refine ⟨_, rfl, _, rfl, D, _, rfl, .inl (SqL.of hD1), rfl, _, rfl, ifD (fun g => ifT rfl ?_) (fun g => ?_)⟩
      · have g' := V.int.inj g
        have hn : os[m]? ≠ some one := by rw [List.getElem?_eq_none (by omega)]; exact nofun
        exact ⟨_, rfl, .inl ⟨rfl, _, SqL.of hD1⟩, _, rfl, _, rfl, D, _, _, _, rfl, rfl, hD1, le1000 (by omega), by omega, by omega, put hn⟩
      · have g' : m ≠ us.length := fun e => g (by rw [e])
        have hmo : os[m]? = some os[m] := List.getElem?_eq_getElem (by omega)
        obtain ⟨y, hy, ry⟩ := hA.at hmo
        refine ⟨_, rfl, _, rfl, D, _, _, y, rfl, rfl, SqL.of hD1, at_of (j := m) rfl hy, _, rfl, _, _, ry.dp, rx.dp, sh_dq _, sh_dq _, _, rfl, ?_⟩
        rw [eqv_dq]
        by_cases e : os[m] = one
        · refine ifF (by rw [dT e]; rfl) ⟨us, os, _, _, _, rfl, s1, hD1, hA, asc, sub, by omega, fun _ z => ?_⟩
          have z2 := congrArg List.length z
          rw [List.length_nil] at z2
          omega
        · refine ifT (by rw [dF e]; rfl) ?_
          have hn : os[m]? ≠ some one := by rw [hmo]; exact fun z => e (Option.some.inj z)
          exact ⟨_, rfl, .inl ⟨rfl, _, SqL.of hD1⟩, _, rfl, _, rfl, D, _, _, _, rfl, rfl, hD1, le1000 (by omega), by omega, by omega, put hn⟩
  · rintro σ G ⟨us, os, k1, k2, k3, rfl, s1, hD1, hA, asc, sub, ln, ne⟩
    rw [hq.1] at ln
    refine ⟨_, rfl, z D us os G s1 hD hD1 hA asc sub ln fun e => ne ?_⟩
    rw [hq.1]
    exact List.length_pos_iff.mpr e
end Vk

namespace Vk
open PySem L2 Vm
variable {l : Addr} {P : Program} {w : World} {K : PySem.W.Frag} {mg : Str → Option Value} {base : Heap} {k : Nat} {f f1 f2 f3 f4 f5 f6 f7 f8 f9 : Addr} {fd fd1 fd2 fd3 fd4 fd5 fd6 fd7 fd8 fd9 : FuncData}
theorem tyes {σ : L2.St} {H : Hp} {A B : Hp → Prop} (h : A H) : tYes σ H (fun b H3 => if b = true then A H3 else B H3) := by
  show (if true = true then A H else B H)
  rw [if_pos rfl]
  exact h
abbrev s__law_wide_course : Stmt := top 38
abbrev N__law_wide_course : List Str := ["_law_store_here", "_law_starts", "_law_k", "_law_course_here", "_law_one", "_law_pace_here"]
theorem sc__law_wide_course : FnScope N__law_wide_course ["_law_store_here"] (defScope s__law_wide_course) := ⟨rfl, rfl, rfl, by decide +kernel, rfl, by decide +kernel, by decide +kernel⟩
abbrev ps__law_wide_course : List Str := ["_law_store_here"]
def spWide (K : PySem.W.Frag) (l : Addr) : Sp := fun vs H Q _ => ∃ (s : Addr), vs = [.ref s] ∧ Sto l s H ∧
  ∀ D us c H', Bun (Pq K) l s D H us c H' → 1 ≤ c.length → c.length ≤ 40 → Cok c → Cz 40 40 40 c → Q (.ref D) H'
theorem abs_nf {q : Rat} (h : q.num ≠ 0) : (mkRat (q.num.natAbs : Int) q.den).num = (q.num.natAbs : Int) ∧ (mkRat (q.num.natAbs : Int) q.den).den = q.den := nf q.den_nz (by rw [Int.natAbs_natCast]; exact q.reduced)
theorem ok_wide (T : Bn mg) (F : Fn K mg "_law_wide_course" s__law_wide_course ps__law_wide_course f fd) (d_law_ordered : Def P w K mg base k "_law_ordered" ["_law_fracs"] (spOrdered K) f1 fd1) (d_law_take : Def P w K mg base k "_law_take" ["_law_store_here", "_law_many"] (spTake K l) f2 fd2)
    (d_law_ratio : Def P w K mg base k "_law_ratio" ["_law_store_here", "_law_top"] (spRatio K l) f3 fd3) : Def P w K mg base (k + 1) "_law_wide_course" ps__law_wide_course (spWide K l) f fd := by
  refine ⟨F.F.ok sc__law_wide_course (fun vs H Q E h => ?_) (fun cdv A outer s H vs Q E hr h => ?_), F.m, F.F.kp, F.b⟩
  · obtain ⟨_, rfl, _⟩ := h
    rfl
  obtain ⟨s, rfl, hS, z⟩ := h
  refine ⟨_, (pss_cons (ps_set (i := 1) sc__law_wide_course.nd rfl (Or.inl rfl) (pcall d_law_ordered hr (pa_cons (pe_lc (own := [("_law_k", 2)]) (g := gName 2) (tt := tYes) rfl sc__law_wide_course.nd (pi_range1 (by rfl) T.range_ (pa_cons (pe_op op_add pe_int (pcall d_law_take hr (pa_cons (pv 0) (pa_cons pe_int pa_nil)))) pa_nil)) (blkOk_by (N := N__law_wide_course) (sc := defScope s__law_wide_course) (by decide +kernel)) (fun _ _ _ _ _ => pg_name (i := 2) sc__law_wide_course.nd rfl (Or.inl rfl)) (fun _ _ _ _ _ => pts_nil) (fun _ _ _ _ _ => (pcall d_law_ratio hr (pa_cons (pv 0) (pa_cons (pe_op op_sub (pe_op op_pow pe_int pe_int) pe_int) pa_nil))))) pa_nil)))
      (pss_cons (ps_set (i := 3) sc__law_wide_course.nd rfl (Or.inl rfl) (pe_lst pa_nil))
      (pss_cons (ps_for PassesOwn.never rfl (pi_list (pv 1)) (pg_name (i := 4) sc__law_wide_course.nd rfl (Or.inl rfl))
        (pss_cons (ps_set (i := 5) sc__law_wide_course.nd rfl (Or.inl rfl) (pcall d_law_ratio hr (pa_cons (pv 0) (pa_cons (pe_op op_sub (pe_op op_pow pe_int pe_int) pe_int) pa_nil))))
        (pss_cons (ps_set (i := 5) sc__law_wide_course.nd rfl (Or.inl rfl) (pe_ifExp (pt_cmpR op_ne (pe_ix ix_tup (pv 5) pe_int (fun _ _ => rfl)) pe_int (nomark _)) (pe_tup (pa_cons (pe_callB (call_max2 rfl) (by rfl) T.max_ (by decide +kernel) (pa_cons pe_int (pa_cons (pe_callB call_abs (by rfl) T.abs_ (by decide +kernel) (pa_cons (pe_ix ix_tup (pv 5) pe_int (fun _ _ => rfl)) pa_nil)) pa_nil))) (pa_cons (pe_ix ix_tup (pv 5) pe_int (fun _ _ => rfl)) pa_nil))) (pe_tup (pa_cons pe_int (pa_cons (pe_op op_sub (pe_op op_pow pe_int pe_int) pe_int) pa_nil)))))
        (pss_one (ps_expr (pe_bm PySem.F.plainAttrs_list PySem.F.slot_list_append PySem.F.type_list_append mt_append (pv 3) (pa_cons (pe_tup (pa_cons (pv 4) (pa_cons (pcall d_law_ratio hr (pa_cons (pv 0) (pa_cons (pe_op op_sub (pe_op op_pow pe_int pe_int) pe_int) pa_nil))) (pa_cons (pv 5) pa_nil)))) pa_nil)))))))
      (pss_one (ps_ret (pv 3)))))), ?_⟩
  have p62 : (2 : Int) ^ 62 = 4611686018427387904 := by decide
  have pw : (0 : Int) ≤ 12 ∧ (12 : Int) ≤ 1000000 ∧ (10 : Int).natAbs < 2 ^ 64 := ⟨by decide, by decide, by decide⟩
  have top : ∀ n : Int, n = 10 ^ ((12 : Int).toNat) - 1 → 1 ≤ n ∧ n < 2 ^ 40 := fun n e => by subst e; exact ⟨by decide, by decide⟩
  -- the starts
  refine ⟨_, rfl, s, 3, rfl, hS, by decide, fun r H1 r0 r1 S1 e1 => ⟨_, _, rfl, rfl, ?_⟩⟩
  obtain ⟨n, en⟩ : ∃ n : Nat, (n : Int) = 1 + r := ⟨(1 + r).toNat, by omega⟩
  refine ⟨_, rfl, by omega, by omega, fun D hD => lc_range (lo := 0) (n := (1 + r).toNat) (fun i G => ∃ (us : List V) (qs : List Rat), Bun (Rq K) l s D H us qs G ∧ qs.length = i ∧ ∀ q ∈ qs, Sz 40 q)
    ⟨[], [], Bun.start S1 e1 hD, rfl, nofun⟩ ?_ ?_⟩
  · rintro i G hi ⟨us, qs, B, hl, zq⟩
    have ha : us.length ≤ 1000 := by have := B.len; omega
    refine ⟨rfl, tyes ?_⟩
    refine ⟨_, rfl, _, _, rfl, rfl, pw, _, _, rfl, rfl, s, _, rfl, B.1, (top _ rfl).1, (top _ rfl).2, fun v G1 qv S' e' => ?_⟩
    obtain ⟨q, rq, zq1, _⟩ := qv
    have B1 := B.fr lastsQ e' S'
    refine ⟨us, B1.at, le1000 ha, _, _, B1.app lastsQ rq, by rw [List.length_append, hl]; rfl, fun x hx => ?_⟩
    rcases List.mem_append.mp hx with hx | hx
    · exact zq x hx
    · rw [List.mem_singleton.mp hx]
      exact zq1
  rintro G0 ⟨us, qs, B, hl, zq⟩
  refine ⟨D, us, qs, rfl, SqL.of B.at, B.all, zq, by omega, fun D2 us2 os G1 e2 hD2 hD2' hos asc sub len ne => ?_⟩
  have S1 := B.1.same e2
  have f1 : Fr s H G1 := B.2.1.trans (Fr.of e2)
  have n2s : D2 ≠ s := B.1.ne hD2
  have ln2 := hos.1
  refine ⟨Nat.zero_le _, fun D3 hD3 => ?_⟩
  have s3 := same_new hD3 (.lst [])
  have n23 : D2 ≠ D3 := fun e => by rw [e, hD3] at hD2'; cases hD2'
  refine ⟨_, rfl, D2, rfl, ⟨_, SqL.of (s3 _ _ hD2')⟩, for_list (K := K) (a := D2) (xs := us2) (fun i σ G => ∃ (us3 : List V) (c : List Pc) (k2 k4 k5 : Option V), σ = [some (.ref s), some (.ref D2), k2, some (.ref D3), k4, k5] ∧ Bun (Pq K) l s D3 H us3 c G ∧ G D2 = some (.lst us2) ∧ All2 (Rq K G) us2 os ∧ c.map (·.s) = os.take i ∧ Cok c ∧ Cz 40 40 40 c)
    ⟨[], [], _, _, _, rfl, Bun.start S1 f1 hD3, s3 _ _ hD2', hos.imp fun _ _ h => h.same s3, by rw [List.take_zero]; rfl, ⟨nofun, fun i p q h => by simp at h⟩, nofun⟩ (fun i σ G _ h => by obtain ⟨_, _, _, _, _, _, _, h, _⟩ := h; exact SqL.of h) ?_ ?_⟩
  · rintro i x σ G hxi ⟨us3, c, k2, k4, k5, rfl, B, h2, ho, hm, ok, cz⟩
    have hi : i < os.length := by rw [← ln2]; exact (List.getElem?_eq_some_iff.mp hxi).1
    have hoi : os[i]? = some os[i] := List.getElem?_eq_getElem hi
    have rx := ho.2 i x _ hxi hoi
    have hcl : c.length = i := by have := congrArg List.length hm; rw [List.length_map, List.length_take] at this; omega
    have hul := B.len
    refine ⟨_, rfl, _, _, rfl, rfl, pw, _, _, rfl, rfl, s, _, rfl, B.1, (top _ rfl).1, (top _ rfl).2, fun pv G2 qp S2 e2 => ?_⟩
    have B2 := B.fr lastsP e2 S2
    have h2' := e2 _ _ h2 n2s
    have ho2 := ho.imp fun _ _ h => Rq.fr e2 B.1.some h
    have rx2 := rx.fr e2 B.1.some
    obtain ⟨qp, rp, zp, _⟩ := qp
    dsimp only [gName]
    refine cut (fun σ' G' => ∃ (pv' : V), σ' = [some (.ref s), some (.ref D2), k2, some (.ref D3), some x, some pv'] ∧ Same G2 G' ∧ Qd K 40 posQ G' pv') ?_ ?_
    · rintro σ' G3 ⟨pv', rfl, e3, qp3⟩
      have B3 := B2.same lastsP e3
      refine ⟨_, rfl, .inl ⟨rfl, _, SqL.of B3.at⟩, _, rfl, _, rfl, _, _, rfl, rfl, pw, _, _, rfl, rfl, s, _, rfl, B3.1, (top _ rfl).1, (top _ rfl).2, fun vv G4 qv S4 e4 => ⟨_, rfl, sm3, fun T hT => ?_⟩⟩
      have B4 := B3.fr lastsP e4 S4
      have t5 := same_new hT (.tup [x, vv, pv'])
      have B5 := B4.same lastsP t5
      obtain ⟨q4, r4, z4, p4⟩ := qp3
      obtain ⟨q5, r5, z5, _⟩ := qv
      have rx4 := (rx2.same e3).fr e4 B3.1.some
      have B6 := B5.app lastsP (x := .ref T) (p := ⟨os[i], q5, q4⟩) ⟨T, x, vv, pv', rfl, SqT.of upd_same, rx4.same t5, r5.same t5, (r4.fr e4 B3.1.some).same t5⟩
      have fr6 : Fr D3 (upd G4 T (.tup [x, vv, pv'])) (upd (upd G4 T (.tup [x, vv, pv'])) D3 (.lst (us3 ++ [.ref T]))) := Fr.upd _
      have zo : Sz 40 os[i] := zq _ (sub _ (List.getElem_mem hi))
      refine ⟨D3, _, _, rfl, rfl, B5.at, le1000 (by omega), _, _, _, _, _, rfl, B6, ?_, ?_, ?_, ok.snoc (fun p hp => ?_) p4, cz.snoc ⟨zo, z5, z4⟩⟩
      · rw [upd_ne n23]
        exact t5 _ _ (e4 _ _ (e3 _ _ h2') n2s)
      · exact ho2.imp fun _ _ h => (((h.same e3).fr e4 B3.1.some).same t5).fr fr6 ⟨_, B5.at⟩
      · rw [List.map_append, hm, List.take_add_one, hoi]
        rfl
      · have hp' : p.s ∈ os.take i := by rw [← hm]; exact List.mem_map_of_mem hp
        obtain ⟨t, ht, et⟩ := List.mem_iff_getElem.mp hp'
        rw [List.length_take] at ht
        rw [List.getElem_take] at et
        exact asc_at asc (by rw [← et]; exact List.getElem?_eq_getElem (by omega)) hoi (by omega)
    · intro key
      obtain ⟨t, rfl, ht⟩ := id rp
      refine ⟨_, rfl, t, _, _, _, rfl, rfl, ht, at0 rfl, rfl, _, rfl, ?_⟩
      by_cases g : qp.num = 0
      · refine ifF (by rw [dT (congrArg V.int g)]; rfl) ⟨_, _, rfl, rfl, pw, _, _, rfl, rfl, sz2, fun T hT => ?_⟩
        exact key _ _ ⟨_, rfl, same_new hT _, Qd.new 1 _ (mkRat 1 (10 ^ 12 - 1)) (by decide +kernel) (by decide +kernel) (by decide +kernel) (by decide +kernel)⟩
      · refine ifT (by rw [dF fun e => g (V.int.inj e)]; rfl) ⟨_, rfl, t, _, _, _, rfl, rfl, ht, at0 rfl, _, rfl, _, _, rfl, _, rfl, t, _, _, _, rfl, rfl, ht, at1 rfl, sz2, fun T hT => ?_⟩
        have nfq := abs_nf g
        refine key _ _ ⟨_, rfl, same_new hT _, Qd.new _ _ (mkRat (qp.num.natAbs : Int) qp.den) ?_ ?_ ?_ ?_⟩
        · rw [nfq.1]
          (repeat' split) <;> omega
        · rw [nfq.2]
        · exact ⟨by rw [nfq.1, Int.natAbs_natCast]; exact zp.1, by rw [nfq.2]; exact zp.2⟩
        · exact pos_of_num (by rw [nfq.1]; omega)
  · rintro σ G ⟨us3, c, k2, k4, k5, rfl, B, h2, ho, hm, ok, cz⟩
    rw [ln2, List.take_length] at hm
    have hcl := congrArg List.length hm
    rw [List.length_map] at hcl
    have on := ne (fun e => by rw [e] at hl; simp at hl; omega)
    have := List.length_pos_iff.mpr on
    exact ⟨_, rfl, z D3 us3 c G B (by omega) (by omega) ok cz⟩
end Vk

namespace Vk
open PySem L2 Vm
/-! ### the mathematics of hits -/
theorem cok_lt {c : List Pc} (h : Cok c) : ∀ {j i : Nat} {p q : Pc}, i < j → c[i]? = some p → c[j]? = some q → p.s < q.s
  | 0, i, p, q, hij, _, _ => absurd hij (by omega)
  | j + 1, i, p, q, hij, hp, hq => by
    have hj : j < c.length := by have := (List.getElem?_eq_some_iff.mp hq).1; omega
    have e : c[j]? = some c[j] := List.getElem?_eq_getElem hj
    have h2 := h.2 j _ _ e hq
    by_cases hi : i = j
    · subst hi
      rw [e] at hp
      cases hp
      exact h2
    · exact rlt_trans (cok_lt h (by omega) hp e) h2
theorem hit_some {c : List Pc} {q t : Rat} {k : Nat} (h : hit c q k = some t) : ∃ p, c[k]? = some p ∧ t = tm p q ∧ p.s ≤ t ∧ before c (k + 1) t = true := by
  unfold hit at h
  cases e : c[k]? with
  | none => rw [e] at h; cases h
  | some p =>
    rw [e] at h
    dsimp only at h
    split at h
    · rename_i g
      cases h
      exact ⟨p, rfl, rfl, g.1, g.2⟩
    · cases h
/-- t lies in the k-th stretch -/
def inI (c : List Pc) (k : Nat) (t : Rat) : Bool := (match c[k]? with
  | none => false
  | some p => !decide (t < p.s)) && before c (k + 1) t
theorem before_lt {c : List Pc} {k : Nat} {t : Rat} {p : Pc} (h : before c k t = true) (e : c[k]? = some p) : t < p.s := by
  unfold before at h
  rw [e] at h
  exact of_decide_eq_true h
theorem hit_in {c : List Pc} {q t : Rat} {k : Nat} (h : hit c q k = some t) : inI c k t = true := by
  obtain ⟨p, e, _, h1, h2⟩ := hit_some h
  unfold inI
  rw [e, h2]
  have : ¬ t < p.s := by grind
  simp [this]
theorem hit_out {c : List Pc} (ok : Cok c) {q t : Rat} {k n : Nat} (h : hit c q n = some t) (hk : k ≠ n) : inI c k t = false := by
  obtain ⟨p, e, _, h1, h2⟩ := hit_some h
  unfold inI
  cases e2 : c[k]? with
  | none => rfl
  | some p2 =>
    dsimp only
    by_cases g : k < n
    · have hk1 : k + 1 < c.length := by have := (List.getElem?_eq_some_iff.mp e).1; omega
      have e3 : c[k + 1]? = some c[k + 1] := List.getElem?_eq_getElem hk1
      have : c[k + 1].s ≤ p.s := by
        by_cases g2 : k + 1 = n
        · subst g2
          rw [e3] at e
          cases e
          exact Rat.le_refl
        · have := cok_lt ok (show k + 1 < n by omega) e3 e
          grind
      have nb : before c (k + 1) t = false := by
        unfold before
        rw [e3]
        exact dF (by grind)
      rw [nb, Bool.and_false]
    · have h3 : before c (n + 1) t = true := h2
      have hn1 : n + 1 < c.length := by have := (List.getElem?_eq_some_iff.mp e2).1; omega
      have e3 : c[n + 1]? = some c[n + 1] := List.getElem?_eq_getElem hn1
      have h4 := before_lt h3 e3
      have : c[n + 1].s ≤ p2.s := by
        by_cases g2 : n + 1 = k
        · subst g2
          rw [e3] at e2
          cases e2
          exact Rat.le_refl
        · have := cok_lt ok (show n + 1 < k by omega) e3 e2
          grind
      have : t < p2.s := by grind
      simp [this]
theorem hits_in {c : List Pc} (ok : Cok c) (q : Rat) (k : Nat) : ∀ n, (hits c q n).filter (inI c k) = if k < n then (hit c q k).toList else []
  | 0 => by simp [hits]
  | n + 1 => by
    rw [hits_succ, List.filter_append, hits_in ok q k n]
    cases h : hit c q n with
    | none =>
      simp only [Option.toList, List.filter_nil, List.append_nil]
      by_cases e : k = n
      · subst e
        rw [if_neg (by omega), if_pos (by omega), h]
      · by_cases g : k < n
        · rw [if_pos g, if_pos (by omega)]
        · rw [if_neg g, if_neg (by omega)]
    | some t =>
      simp only [Option.toList]
      by_cases e : k = n
      · subst e
        rw [if_neg (by omega), if_pos (by omega), h, List.nil_append]
        simp [hit_in h]
      · have := hit_out ok h e
        simp only [List.filter_cons, this, Bool.false_eq_true, if_false, List.filter_nil, List.append_nil]
        by_cases g : k < n
        · rw [if_pos g, if_pos (by omega)]
        · rw [if_neg g, if_neg (by omega)]
theorem hits_mem {c : List Pc} {q t : Rat} {n : Nat} (h : t ∈ hits c q n) : ∃ k, k < n ∧ hit c q k = some t := by
  unfold hits at h
  obtain ⟨k, hk, e⟩ := List.mem_filterMap.mp h
  exact ⟨k, List.mem_range.mp hk, e⟩
theorem hits_asc {c : List Pc} (ok : Cok c) (q : Rat) : ∀ n, Asc (hits c q n)
  | 0 => by unfold hits; exact List.Pairwise.nil
  | n + 1 => by
    rw [hits_succ]
    unfold Asc
    rw [List.pairwise_append]
    refine ⟨hits_asc ok q n, ?_, fun a ha b hb => ?_⟩
    · cases hit c q n <;> simp [Option.toList]
    · cases h : hit c q n with
      | none => rw [h] at hb; cases hb
      | some t =>
        rw [h] at hb
        simp only [Option.toList, List.mem_singleton] at hb
        subst hb
        obtain ⟨k, hk, e⟩ := hits_mem ha
        obtain ⟨p, e1, _, g1, g2⟩ := hit_some e
        obtain ⟨p2, e2, _, g3, _⟩ := hit_some h
        have hn := (List.getElem?_eq_some_iff.mp e2).1
        have e3 : c[k + 1]? = some c[k + 1] := List.getElem?_eq_getElem (by omega)
        have g4 := before_lt g2 e3
        have : c[k + 1].s ≤ p2.s := by
          by_cases g5 : k + 1 = n
          · subst g5
            rw [e3] at e2
            cases e2
            exact Rat.le_refl
          · have := cok_lt ok (show k + 1 < n by omega) e3 e2
            grind
        grind
theorem tm_ge {p : Pc} {q : Rat} (r : 0 < p.r) : p.s ≤ tm p q ↔ p.v ≤ q := by
  have h : (q - p.v) / p.r * p.r = q - p.v := Rat.div_mul_cancel (by grind)
  unfold tm
  constructor
  · intro g
    have g1 : 0 ≤ (q - p.v) / p.r := by grind
    have g2 := Rat.mul_nonneg g1 (Rat.le_of_lt r)
    grind
  · intro g
    have g2 : ¬ (q - p.v) / p.r < 0 := fun z => by
      have := (Rat.mul_lt_mul_right r).mpr z
      grind
    grind
theorem tm_lt {p : Pc} {q s : Rat} (r : 0 < p.r) : tm p q < s ↔ q < p.v + p.r * (s - p.s) := by
  have h : (q - p.v) / p.r * p.r = q - p.v := Rat.div_mul_cancel (by grind)
  have e : tm p q < s ↔ (q - p.v) / p.r < s - p.s := by
    unfold tm
    constructor <;> intro g <;> grind
  rw [e, ← Rat.mul_lt_mul_right r, h]
  constructor <;> intro g <;> grind
theorem tm_back {p : Pc} {q : Rat} (r : 0 < p.r) : p.v + p.r * (tm p q - p.s) = q := by
  have h : (q - p.v) / p.r * p.r = q - p.v := Rat.div_mul_cancel (by grind)
  unfold tm
  grind
theorem filter_take {α : Type} (g : α → Bool) : ∀ {c : List α} {m : Nat}, (∀ i x, c[i]? = some x → (g x = true ↔ i < m)) → c.filter g = c.take m
  | [], m, _ => by simp
  | x :: r, 0, h => by
    have h0 := h 0 x rfl
    have : g x = false := by
      cases e : g x with
      | false => rfl
      | true => exact absurd (h0.mp e) (by omega)
    rw [List.filter_cons, this]
    simp only [Bool.false_eq_true, if_false]
    rw [filter_take g (m := 0) fun i y hy => by
      have := h (i + 1) y hy
      constructor
      · intro z; exact absurd (this.mp z) (by omega)
      · intro z; omega]
    simp
  | x :: r, m + 1, h => by
    have h0 := (h 0 x rfl).mpr (by omega)
    rw [List.filter_cons, if_pos h0, List.take_succ_cons, filter_take g (m := m) fun i y hy => by
      have := h (i + 1) y hy
      constructor
      · intro z; have := this.mp z; omega
      · intro z; exact this.mpr (by omega)]
theorem now_hit {c : List Pc} (ok : Cok c) {q t : Rat} {k : Nat} (h : hit c q k = some t) : nowf c t = some q := by
  obtain ⟨p, e, et, h1, h2⟩ := hit_some h
  have hk := (List.getElem?_eq_some_iff.mp e).1
  have ef : c.filter (on t) = c.take (k + 1) := filter_take _ fun i x hx => by
    unfold on
    constructor
    · intro z
      refine Nat.lt_of_not_le fun g => ?_
      have hk1 : k + 1 < c.length := by have := (List.getElem?_eq_some_iff.mp hx).1; omega
      have e3 : c[k + 1]? = some c[k + 1] := List.getElem?_eq_getElem hk1
      have h4 := before_lt h2 e3
      have : c[k + 1].s ≤ x.s := by
        by_cases g5 : k + 1 = i
        · subst g5
          rw [e3] at hx
          cases hx
          exact Rat.le_refl
        · have := cok_lt ok (show k + 1 < i by omega) e3 hx
          grind
      have : t < x.s := by grind
      simp [this] at z
    · intro z
      have : x.s ≤ p.s := by
        by_cases g5 : i = k
        · subst g5
          rw [e] at hx
          cases hx
          exact Rat.le_refl
        · have := cok_lt ok (show i < k by omega) hx e
          grind
      have : ¬ t < x.s := by grind
      simp [this]
  unfold nowf
  rw [ef, List.getLast?_eq_getElem?, List.length_take, List.getElem?_take]
  have e1 : min (k + 1) c.length - 1 = k := by omega
  rw [e1, if_pos (by omega), e]
  show some (p.v + p.r * (t - p.s)) = some q
  rw [et, tm_back (ok.1 p (List.mem_of_getElem? e))]
/-- whether the k-th piece shows the reading -/
theorem due_hit {c : List Pc} (ok : Cok c) {q : Rat} {k : Nat} {p : Pc} (e : c[k]? = some p) : (hit c q k).isSome = (!decide (q < p.v) && (match lim c k with
  | none => true
  | some b => decide (q < b))) := by
  have r := ok.1 p (List.mem_of_getElem? e)
  unfold hit lim
  rw [e]
  dsimp only
  have h1 := tm_ge (p := p) (q := q) r
  cases e2 : c[k + 1]? with
  | none =>
    have hb : before c (k + 1) (tm p q) = true := by unfold before; rw [e2]
    rw [hb]
    dsimp only
    by_cases g : q < p.v
    · have : ¬ p.s ≤ tm p q := fun z => by have := h1.mp z; grind
      simp [this, g]
    · have : p.s ≤ tm p q := h1.mpr (by grind)
      simp [this, g]
  | some p2 =>
    have h2 := tm_lt (p := p) (q := q) (s := p2.s) r
    have hb : before c (k + 1) (tm p q) = decide (tm p q < p2.s) := by unfold before; rw [e2]
    rw [hb]
    dsimp only
    by_cases g : q < p.v
    · have : ¬ p.s ≤ tm p q := fun z => by have := h1.mp z; grind
      simp [this, g]
    · have a1 : p.s ≤ tm p q := h1.mpr (by grind)
      by_cases g2 : tm p q < p2.s
      · have := h2.mp g2
        simp [a1, g, g2, this]
      · have : ¬ q < p.v + p.r * (p2.s - p.s) := fun z => g2 (h2.mpr z)
        simp [a1, g, g2, this]
theorem opt_len {α : Type} (o : Option α) : o.toList.length = if o.isSome = true then 1 else 0 := by cases o <;> rfl
theorem row_last {c : List Pc} (ok : Cok c) {q : Rat} {k : Nat} {p : Pc} (e : c[k]? = some p) (e2 : c[k + 1]? = none) :
    ((hits c q c.length).filter fun t => !decide (t < p.s)).length = if (!decide (q < p.v)) = true then 1 else 0 := by
  have hk := (List.getElem?_eq_some_iff.mp e).1
  have h1 := hits_in ok q k c.length
  rw [if_pos hk] at h1
  have h2 : (fun t => !decide (t < p.s)) = inI c k := by
    funext t
    unfold inI before
    rw [e, e2]
    simp
  have h3 := due_hit ok (q := q) e
  unfold lim at h3
  rw [e, e2] at h3
  dsimp only at h3
  rw [Bool.and_true] at h3
  rw [h2, h1, opt_len, h3]
theorem row_more {c : List Pc} (ok : Cok c) {q : Rat} {k : Nat} {p p2 : Pc} (e : c[k]? = some p) (e2 : c[k + 1]? = some p2) :
    (((hits c q c.length).filter fun t => !decide (t < p.s)).filter fun t => decide (t < p2.s)).length = if (!decide (q < p.v) && decide (q < p.v + p.r * (p2.s - p.s))) = true then 1 else 0 := by
  have hk := (List.getElem?_eq_some_iff.mp e).1
  have h1 := hits_in ok q k c.length
  rw [if_pos hk] at h1
  have h2 : (fun t => decide (t < p2.s) && !decide (t < p.s)) = inI c k := by
    funext t
    unfold inI before
    rw [e, e2]
    exact Bool.and_comm _ _
  have h3 := due_hit ok (q := q) e
  unfold lim at h3
  rw [e, e2] at h3
  dsimp only at h3
  rw [List.filter_filter, h2, h1, opt_len, h3]
end Vk

namespace Vk
open PySem L2 Vm
variable {l : Addr} {P : Program} {w : World} {K : PySem.W.Frag} {mg : Str → Option Value} {base : Heap} {k : Nat} {f f1 f2 f3 f4 f5 f6 f7 f8 f9 : Addr} {fd fd1 fd2 fd3 fd4 fd5 fd6 fd7 fd8 fd9 : FuncData}
theorem sz_hit {i j m n : Nat} {c : List Pc} (ok : Cok c) (cz : Cz i j m c) {q t : Rat} (zq : Sz n q) {k : Nat} (h : hit c q k = some t) : Sz (i + (n + j + 1 + m) + 1) t := by
  obtain ⟨p, e, rfl, _, _⟩ := hit_some h
  have hm := List.mem_of_getElem? e
  obtain ⟨z1, z2, z3⟩ := cz p hm
  exact z1.add ((zq.sub z2).div z3 (ok.1 p hm))
abbrev s__law_times_right : Stmt := top 40
abbrev N__law_times_right : List Str := ["_law_course_here", "_law_reading", "_law_told", "_law_k", "_law_due", "_law_row", "_law_t"]
theorem sc__law_times_right : FnScope N__law_times_right ["_law_course_here", "_law_reading", "_law_told"] (defScope s__law_times_right) := ⟨rfl, rfl, rfl, by decide +kernel, rfl, by decide +kernel, by decide +kernel⟩
abbrev ps__law_times_right : List Str := ["_law_course_here", "_law_reading", "_law_told"]
def spTR (K : PySem.W.Frag) : Sp := fun vs H Q _ => ∃ (a b : Addr) (y : V) (us : List V) (c : List Pc) (q : Rat) (i j l m : Nat), vs = [.ref a, y, .ref b] ∧ Cq K H a c ∧ Rq K H y q ∧ SqL K H b us ∧ All2 (Rq K H) us (hits c q c.length) ∧ Cok c ∧ Cz i j l c ∧ Sz m q ∧ c.length ≤ 1000 ∧ i + i + j + j + l + l + m + 20 ≤ 9000 ∧
  ∀ H', Same H H' → Q (.bl true) H'
theorem ok_times_right (T : Bn mg) (F : Fn K mg "_law_times_right" s__law_times_right ps__law_times_right f fd) (d_law_now : Def P w K mg base k "_law_now" ["_law_course_here", "_law_t"] (spNow K) f1 fd1) (d_law_is_frac : Def P w K mg base k "_law_is_frac" ["_law_value"] (spIsFrac K) f2 fd2)
    (d_law_below : Def P w K mg base k "_law_below" ["_law_a", "_law_b"] (spTest2 K fun p q => .bl (decide (p < q))) f3 fd3) (d_law_limit : Def P w K mg base k "_law_limit" ["_law_course_here", "_law_k"] (spLimit K) f4 fd4) :
    Def P w K mg base (k + 1) "_law_times_right" ps__law_times_right (spTR K) f fd := by
  refine ⟨F.F.ok sc__law_times_right (fun vs H Q E h => ?_) (fun cdv A outer s H vs Q E hr h => ?_), F.m, F.F.kp, F.b⟩
  · obtain ⟨_, _, _, _, _, _, _, _, _, _, rfl, _⟩ := h
    rfl
  obtain ⟨a, b, y, us, c, q, i0, j0, l0, m0, rfl, hC, hy, hb, hT, ok, zc, zq, hl, bd, z⟩ := h
  obtain ⟨xs, hx, hc⟩ := id hC
  have hxl := hc.1
  have hul := hT.1
  have hle := hits_len c q c.length
  have asc := hits_asc ok q c.length
  have p62 : (2 : Int) ^ 62 = 4611686018427387904 := by decide
  have tb := sql_ty hb
  refine ⟨_, (pss_cons (ps_if (pt_not (pt_val (pe_callB call_isi (by rfl) T.isinstance_ (by decide +kernel) (pa_cons (pv 2) (pa_cons (pe_bltn (v := .ty "list") (by rfl) T.list_ (by decide +kernel) rfl) pa_nil)))))
        (pss_one (ps_ret pe_bl))
        pss_nil)
      (pss_cons (ps_for PassesOwn.never rfl (pi_range1 (by rfl) T.range_ (pa_cons (pe_callB call_len_seq (by rfl) T.len_ PySem.boot_len (pa_cons (pv 2) pa_nil)) pa_nil)) (pg_name (i := 3) sc__law_times_right.nd rfl (Or.inr rfl))
        (pss_cons (ps_if (PW.pt (pw_or (pt_not (pt_val (pcall d_law_is_frac hr (pa_cons (pe_ix ix_list (pv 2) (pv 3) (fun _ _ => rfl)) pa_nil)))) (pw_or1 (pt_cmpR (op_neD hr.units) (pcall d_law_now hr (pa_cons (pv 0) (pa_cons (pe_ix ix_list (pv 2) (pv 3) (fun _ _ => rfl)) pa_nil))) (pv 1) (nomark _)))))
          (pss_one (ps_ret pe_bl))
          pss_nil)
        (pss_one (ps_if (PW.pt (pw_and (pt_cmpR op_gt (pv 3) pe_int (nomark _)) (pw_and1 (pt_not (pt_val (pcall d_law_below hr (pa_cons (pe_ix ix_list (pv 2) (pe_op op_sub (pv 3) pe_int) (fun _ _ => rfl)) (pa_cons (pe_ix ix_list (pv 2) (pv 3) (fun _ _ => rfl)) pa_nil))))))))
          (pss_one (ps_ret pe_bl))
          pss_nil))))
      (pss_cons (ps_for PassesOwn.never rfl (pi_range1 (by rfl) T.range_ (pa_cons (pe_callB call_len_seq (by rfl) T.len_ PySem.boot_len (pa_cons (pv 0) pa_nil)) pa_nil)) (pg_name (i := 3) sc__law_times_right.nd rfl (Or.inr rfl))
        (pss_cons (ps_set (i := 4) sc__law_times_right.nd rfl (Or.inl rfl) (pe_not (pcall d_law_below hr (pa_cons (pv 1) (pa_cons (pe_ix ix_tup (pe_ix ix_list (pv 0) (pv 3) (fun _ _ => rfl)) pe_int (fun _ _ => rfl)) pa_nil)))))
        (pss_cons (ps_setLc (i := 5) (own := [("_law_t", 6)]) (g := gName 6) rfl sc__law_times_right.nd rfl rfl (sw_true rfl rfl rfl (by decide +kernel)) (pi_list (pv 2)) (blkOk_by (N := N__law_times_right) (sc := defScope s__law_times_right) (by decide +kernel)) (fun _ _ _ _ _ => pg_name (i := 6) sc__law_times_right.nd rfl (Or.inl rfl)) (fun _ _ _ _ _ => pts_one (pt_not (pt_val (pcall d_law_below hr (pa_cons (pv 6) (pa_cons (pe_ix (show IxR _ (rIxT K) from ix_tup) (pe_ix (show IxR _ (rIxL K) from ix_list) (pv 0) (pv 3) (fun _ _ => rfl)) pe_int (fun _ _ => rfl)) pa_nil)))))) (fun _ _ _ _ _ => (pv 6)))
        (pss_cons (ps_if (pt_cmpR op_lt (pe_op op_add (pv 3) pe_int) (pe_callB call_len_seq (by rfl) T.len_ PySem.boot_len (pa_cons (pv 0) pa_nil)) (nomark _))
          (pss_cons (ps_set (i := 4) sc__law_times_right.nd rfl (Or.inl rfl) (pe_and (pv 4) (pe_one (pcall d_law_below hr (pa_cons (pv 1) (pa_cons (pcall d_law_limit hr (pa_cons (pv 0) (pa_cons (pv 3) pa_nil))) pa_nil))))))
          (pss_one (ps_setLc (i := 5) (own := [("_law_t", 6)]) (g := gName 6) rfl sc__law_times_right.nd rfl rfl (sw_true rfl rfl rfl (by decide +kernel)) (pi_list (pv 5)) (blkOk_by (N := N__law_times_right) (sc := defScope s__law_times_right) (by decide +kernel)) (fun _ _ _ _ _ => pg_name (i := 6) sc__law_times_right.nd rfl (Or.inl rfl)) (fun _ _ _ _ _ => pts_one (pt_val (pcall d_law_below hr (pa_cons (pv 6) (pa_cons (pe_ix (show IxR _ (rIxT K) from ix_tup) (pe_ix (show IxR _ (rIxL K) from ix_list) (pv 0) (pe_op op_add (pv 3) pe_int) (fun _ _ => rfl)) pe_int (fun _ _ => rfl)) pa_nil))))) (fun _ _ _ _ _ => (pv 6)))))
          pss_nil)
        (pss_one (ps_if (pt_cmpR op_ne (pe_callB call_len_seq (by rfl) T.len_ PySem.boot_len (pa_cons (pv 5) pa_nil)) (pe_callTy call_int1 (by rfl) T.int_ (by decide +kernel) (pa_cons (pv 4) pa_nil)) (nomark _))
          (pss_one (ps_ret pe_bl))
          pss_nil))))))
      (pss_one (ps_ret pe_bl))))), ?_⟩
  refine ⟨_, rfl, _, _, _, _, true, rfl, .ty _, tb, kit_ty (by decide +kernel), _, rfl, ifF rfl ?_⟩
  refine ⟨_, rfl, b, _, rfl, .inl hb, _, rfl, by omega, by omega, for_range (n := ((us.length : Nat) : Int).toNat) (fun i σ G => ∃ (k3 k4 k5 k6 : Option V), σ = [some (.ref a), some y, some (.ref b), k3, k4, k5, k6] ∧ Same H G) ⟨_, _, _, _, rfl, Same.refl _⟩ ?_ ?_⟩
  · rintro i σ G hi ⟨k3, k4, k5, k6, rfl, s1⟩
    have hi' : i < (hits c q c.length).length := by omega
    have hti : (hits c q c.length)[i]? = some (hits c q c.length)[i] := List.getElem?_eq_getElem hi'
    obtain ⟨tv, htv, rt⟩ := hT.at hti
    obtain ⟨kk, hkk, hh⟩ := hits_mem (List.getElem_mem hi')
    obtain ⟨t, et⟩ : ∃ t, t = (hits c q c.length)[i] := ⟨_, rfl⟩
    rw [← et] at hti rt hh
    have zt := sz_hit ok zc zq hh
    have nh := now_hit ok hh
    refine ⟨_, rfl, _, rfl, b, _, _, tv, rfl, rfl, s1.seq hb, at_of (j := i) (by omega) htv, tv, t, _, rfl, rt.same s1, zt, by omega, fun G1 e1 => ⟨_, rfl, ifF rfl ?_⟩⟩
    have s2 := s1.trans e1
    refine ⟨_, rfl, _, rfl, _, rfl, b, _, _, tv, rfl, rfl, s2.seq hb, at_of (j := i) (by omega) htv, a, tv, c, t, i0, j0, l0, _, rfl, hC.same s2, rt.same s2, zc, zt, hl, by omega, fun v G2 e2 hv => ?_⟩
    have s3 := s2.trans e2
    rw [nh] at hv
    have hv' : Rq K G2 v q := hv
    refine ⟨_, rfl, _, _, hv'.dp, (hy.same s3).dp, sh_dq _, sh_dq _, _, rfl, ifF (by rw [eqv_dq, dT rfl]; rfl) ?_⟩
    refine ⟨_, rfl, _, _, rfl, rfl, _, rfl, ifD (fun g => ?_) (fun g => ifF rfl ⟨_, _, _, _, rfl, s3⟩)⟩
    have hi0 : i - 1 < (hits c q c.length).length := by omega
    have ht0 : (hits c q c.length)[i - 1]? = some (hits c q c.length)[i - 1] := List.getElem?_eq_getElem hi0
    obtain ⟨tv0, htv0, rt0⟩ := hT.at ht0
    obtain ⟨k0, hk0, hh0⟩ := hits_mem (List.getElem_mem hi0)
    have zt0 := sz_hit ok zc zq hh0
    have lt := asc_at asc ht0 hti (by omega)
    refine ⟨_, rfl, _, rfl, _, _, rfl, rfl, b, _, _, tv0, rfl, rfl, s3.seq hb, at_of (j := i - 1) (by omega) htv0, _, rfl, _, rfl, b, _, _, tv, rfl, rfl, s3.seq hb, at_of (j := i) (by omega) htv, _, _, _, t, _, _, rfl, rt0.same s3, rt.same s3, zt0, zt, by omega, _, rfl, ifF (by rw [dT lt]; rfl) ⟨_, _, _, _, rfl, s3⟩⟩
  · rintro σ G ⟨k3, k4, k5, k6, rfl, s1⟩
    refine ⟨_, rfl, a, _, rfl, .inl (s1.seq hx), _, rfl, by omega, by omega, for_range (n := ((xs.length : Nat) : Int).toNat) (fun i σ G => ∃ (k3 k4 k5 k6 : Option V), σ = [some (.ref a), some y, some (.ref b), k3, k4, k5, k6] ∧ Same H G) ⟨_, _, _, _, rfl, s1⟩ ?_ ?_⟩
    · rintro i σ G hi ⟨k3, k4, k5, k6, rfl, s1⟩
      have hi' : i < c.length := by omega
      have hci : c[i]? = some c[i] := List.getElem?_eq_getElem hi'
      obtain ⟨x, hxi, hp⟩ := hc.at hci
      obtain ⟨p, ep⟩ : ∃ p, p = c[i] := ⟨_, rfl⟩
      rw [← ep] at hci hp
      have hmem : p ∈ c := by rw [ep]; exact List.getElem_mem hi'
      obtain ⟨zs, zv, zr⟩ := zc p hmem
      obtain ⟨pa, ps, pv, pr, rfl, hpa, r1, r2, r3⟩ := id hp
      -- due
      refine ⟨_, rfl, _, rfl, _, rfl, a, _, _, _, rfl, rfl, s1.seq hx, at_of (j := i) (by omega) hxi, pa, _, _, _, rfl, rfl, s1.sqt hpa, at1 rfl, _, _, q, p.v, m0, j0, rfl, hy.same s1, r2.same s1, zq, zv, by omega, _, rfl, ?_⟩
      -- row
      refine ⟨_, rfl, b, rfl, ⟨_, s1.seq hb⟩, fun D hD => lc_list (xs := us) (fun n G' => ∃ acc, G' D = some (.lst acc) ∧ Same G G' ∧ All2 (Rq K G') acc (((hits c q c.length).take n).filter fun t => !decide (t < p.s))) ⟨[], upd_same, same_new hD _, All2.nil⟩ (fun n G' _ h => by obtain ⟨_, _, s2, _⟩ := h; exact (s1.trans s2).seq hb) ?_ ?_⟩
      · rintro n tv G' htn ⟨acc, hD1, s2, hA⟩
        have hn : n < (hits c q c.length).length := by rw [← hul]; exact (List.getElem?_eq_some_iff.mp htn).1
        have htq : (hits c q c.length)[n]? = some (hits c q c.length)[n] := List.getElem?_eq_getElem hn
        have rt := hT.2 n tv _ htn htq
        obtain ⟨kk, hkk, hh⟩ := hits_mem (List.getElem_mem hn)
        obtain ⟨t, et⟩ : ∃ t, t = (hits c q c.length)[n] := ⟨_, rfl⟩
        rw [← et] at htq rt hh
        have zt := sz_hit ok zc zq hh
        have s3 := s1.trans s2
        have hal : acc.length ≤ 1000 := by
          have h1 := hA.1
          have h2 := List.length_filter_le (fun t => !decide (t < p.s)) ((hits c q c.length).take n)
          rw [List.length_take] at h2
          omega
        refine ⟨rfl, _, rfl, _, rfl, _, rfl, a, _, _, _, rfl, rfl, s3.seq hx, at_of (j := i) (by omega) hxi, pa, _, _, _, rfl, rfl, s3.sqt hpa, at0 rfl, _, _, t, p.s, _, i0, rfl, rt.same s3, r1.same s3, zt, zs, by omega, _, rfl, ?_⟩
        have em := filter_more (fun t => !decide (t < p.s)) htq
        by_cases g : t < p.s
        · refine ifF (by rw [dT g]; rfl) ⟨acc, hD1, s2, ?_⟩
          rw [em]
          simp only [g, decide_true, Bool.not_true, Bool.false_eq_true, if_false, List.append_nil]
          exact hA
        · refine ifT (by rw [dF g]; rfl) ⟨_, rfl, acc, hD1, le1000 hal, _, upd_same, same_upd s2 hD _, ?_⟩
          rw [em]
          simp only [g, decide_false, Bool.not_false, if_true]
          have fr : Fr D G' (upd G' D (.lst (acc ++ [tv]))) := Fr.upd _
          exact (hA.imp fun _ _ h => Rq.fr fr ⟨_, hD1⟩ h).snoc ((rt.same s3).fr fr ⟨_, hD1⟩)
      · rintro G' ⟨acc, hD1, s2, hA⟩
        rw [List.take_of_length_le (by omega)] at hA
        have s3 := s1.trans s2
        have hal := hA.1
        dsimp only [gName]
        refine cut (fun σ' G2 => ∃ (D' : Addr) (acc' : List V) (d : Bool) (k6 : Option V), σ' = [some (.ref a), some y, some (.ref b), some (.int (0 + (i : Int))), some (.bl d), some (.ref D'), k6] ∧ Same H G2 ∧ G2 D' = some (.lst acc') ∧ acc'.length = if d = true then 1 else 0) ?_ ?_
        · rintro σ' G2 ⟨D', acc', d, k6, rfl, s4, hD', hlen⟩
          refine ⟨_, rfl, D', _, rfl, .inl (SqL.of hD'), _, rfl, .inr ⟨_, rfl, rfl, _, rfl, ifF ?_ ⟨_, _, _, _, rfl, s4⟩⟩⟩
          rw [hlen]
          cases d <;> rfl
        · intro key
          refine ⟨_, rfl, _, _, rfl, rfl, _, rfl, a, _, rfl, .inl (s3.seq hx), _, _, rfl, rfl, _, rfl, ifD (fun g => ?_) (fun g => ?_)⟩
          · have hi2 : i + 1 < c.length := by omega
            have hci2 : c[i + 1]? = some c[i + 1] := List.getElem?_eq_getElem hi2
            obtain ⟨x2, hxi2, hp2⟩ := hc.at hci2
            obtain ⟨p2, ep2⟩ : ∃ p, p = c[i + 1] := ⟨_, rfl⟩
            rw [← ep2] at hci2 hp2
            have zs2 := (zc p2 (by rw [ep2]; exact List.getElem_mem hi2)).1
            obtain ⟨pb, ps2, pv2, pr2, rfl, hpb, r4, _, _⟩ := id hp2
            have rm := row_more ok (q := q) hci hci2
            have el : lim c i = some (p.v + p.r * (p2.s - p.s)) := by unfold lim; rw [hci, hci2]
            refine cut (fun σ' G3 => ∃ (d : Bool) (k6 : Option V), σ' = [some (.ref a), some y, some (.ref b), some (.int (0 + (i : Int))), some (.bl d), some (.ref D), k6] ∧ Same G' G3 ∧ d = (!decide (q < p.v) && decide (q < p.v + p.r * (p2.s - p.s)))) ?_ ?_
            · rintro σ' G3 ⟨d, k6, rfl, s5, ed⟩
              have s6 := s3.trans s5
              refine ⟨_, rfl, D, rfl, ⟨_, SqL.of (s5 _ _ hD1)⟩, fun D2 hD2 => lc_list (xs := acc) (fun n G4 => ∃ acc2, G4 D2 = some (.lst acc2) ∧ Same G3 G4 ∧ All2 (Rq K G4) acc2 ((((hits c q c.length).filter fun t => !decide (t < p.s)).take n).filter fun t => decide (t < p2.s))) ⟨[], upd_same, same_new hD2 _, All2.nil⟩ (fun n G4 _ h => by obtain ⟨_, _, s7, _⟩ := h; exact SqL.of (s7 _ _ (s5 _ _ hD1))) ?_ ?_⟩
              · rintro n tv G4 htn ⟨acc2, hD3, s7, hA2⟩
                have hn : n < ((hits c q c.length).filter fun t => !decide (t < p.s)).length := by rw [← hal]; exact (List.getElem?_eq_some_iff.mp htn).1
                have htq : ((hits c q c.length).filter fun t => !decide (t < p.s))[n]? = some ((hits c q c.length).filter fun t => !decide (t < p.s))[n] := List.getElem?_eq_getElem hn
                have rt := hA.2 n tv _ htn htq
                obtain ⟨kk, hkk, hh⟩ := hits_mem (List.mem_filter.mp (List.getElem_mem hn)).1
                obtain ⟨t, et⟩ : ∃ t, t = ((hits c q c.length).filter fun t => !decide (t < p.s))[n] := ⟨_, rfl⟩
                rw [← et] at htq rt hh
                have zt := sz_hit ok zc zq hh
                have s8 := s6.trans s7
                have rt4 := rt.same (s5.trans s7)
                have hal2 : acc2.length ≤ 1000 := by
                  have h1 := hA2.1
                  have h2 := List.length_filter_le (fun t => decide (t < p2.s)) (((hits c q c.length).filter fun t => !decide (t < p.s)).take n)
                  have h3 := List.length_filter_le (fun t => !decide (t < p.s)) (hits c q c.length)
                  rw [List.length_take] at h2
                  omega
                refine ⟨rfl, _, rfl, _, rfl, _, rfl, _, _, rfl, rfl, a, _, _, _, rfl, rfl, s8.seq hx, at_of (j := i + 1) (by omega) hxi2, pb, _, _, _, rfl, rfl, s8.sqt hpb, at0 rfl, _, _, t, p2.s, _, i0, rfl, rt4, r4.same s8, zt, zs2, by omega, _, rfl, ?_⟩
                have em := filter_more (fun t => decide (t < p2.s)) htq
                by_cases g : t < p2.s
                · refine ifT (dT g) ⟨_, rfl, acc2, hD3, le1000 hal2, _, upd_same, same_upd s7 hD2 _, ?_⟩
                  rw [em]
                  simp only [g, decide_true, if_true]
                  have fr : Fr D2 G4 (upd G4 D2 (.lst (acc2 ++ [tv]))) := Fr.upd _
                  exact (hA2.imp fun _ _ h => Rq.fr fr ⟨_, hD3⟩ h).snoc (rt4.fr fr ⟨_, hD3⟩)
                · refine ifF (dF g) ⟨acc2, hD3, s7, ?_⟩
                  rw [em]
                  simp only [g, decide_false, Bool.false_eq_true, if_false, List.append_nil]
                  exact hA2
              · rintro G4 ⟨acc2, hD3, s7, hA2⟩
                rw [List.take_of_length_le (by omega)] at hA2
                exact key _ _ ⟨D2, acc2, d, _, rfl, s6.trans s7, hD3, by rw [hA2.1, rm, ed]⟩
            · intro key2
              refine ⟨_, rfl, _, rfl, ?_⟩
              by_cases gq : q < p.v
              · refine ifF (by rw [dT gq]; rfl) (key2 _ _ ⟨false, _, rfl, Same.refl _, ?_⟩)
                rw [dT gq]
                rfl
              · refine ifT (by rw [dF gq]; rfl) ⟨_, rfl, _, rfl, _, rfl, a, i, c, i0, j0, l0, by rw [Int.zero_add]; rfl, hC.same s3, hi', zc, by omega, fun v G3 e3 hv => ?_⟩
                rw [el] at hv
                have zl : Sz (j0 + (l0 + (i0 + i0 + 1)) + 1) (p.v + p.r * (p2.s - p.s)) := zv.add (zr.mul (zs2.sub zs))
                refine ⟨_, _, q, _, m0, _, rfl, hy.same (s3.trans e3), hv, zq, zl, by omega, key2 _ _ ⟨_, _, rfl, e3, ?_⟩⟩
                rw [dF gq]
                rfl
          · have hci2 : c[i + 1]? = none := List.getElem?_eq_none (by omega)
            have rl := row_last ok (q := q) hci hci2
            exact key _ _ ⟨D, acc, _, _, rfl, s3, hD1, by rw [hA.1, rl]⟩
    · rintro σ G ⟨k3, k4, k5, k6, rfl, s1⟩
      exact z _ s1
end Vk

namespace Vk
open PySem L2 Vm
variable {l : Addr} {P : Program} {w : World} {K : PySem.W.Frag} {mg : Str → Option Value} {base : Heap} {k : Nat} {f f1 f2 f3 f4 f5 f6 f7 f8 f9 : Addr} {fd fd1 fd2 fd3 fd4 fd5 fd6 fd7 fd8 fd9 : FuncData}
theorem sm1 : 1 ≤ sizeLine := by decide
theorem Bun.made {α : Type} {R : Hp → V → α → Prop} {s D : Addr} {H0 G : Hp} {us : List V} {c : List α} (S : Sto l s G) (e : Fr s H0 G) (hD : G D = none) (h : All2 (R (upd G D (.lst us))) us c) : Bun R l s D H0 us c (upd G D (.lst us)) := by
  have nD := S.ne hD
  have f := same_new hD (.lst us)
  exact ⟨S.same f, e.trans (Fr.of f), nD, S.nl hD, e.free hD nD, upd_same, h⟩
/-- a tracked list with a course -/
def Ct (K : PySem.W.Frag) (H : Hp) (a : Addr) (xs : List V) (c : List Pc) : Prop := H a = some (.lst xs) ∧ All2 (Pq K H) xs c
theorem Ct.cq {H : Hp} {a : Addr} {xs : List V} {c : List Pc} (h : Ct K H a xs c) : Cq K H a c := ⟨xs, SqL.of h.1, h.2⟩
theorem Ct.same {H H' : Hp} {a : Addr} {xs : List V} {c : List Pc} (e : Same H H') (h : Ct K H a xs c) : Ct K H' a xs c := ⟨e _ _ h.1, h.2.imp fun _ _ h => h.same e⟩
theorem Ct.fr {s : Addr} {H H' : Hp} {a : Addr} {xs : List V} {c : List Pc} (e : Fr s H H') (hs : ∃ ys, H s = some (.lst ys)) (n : a ≠ s) (h : Ct K H a xs c) : Ct K H' a xs c := ⟨e _ _ h.1 n, h.2.imp fun _ _ h => h.fr e hs⟩
theorem all2_3 {α : Type} {R : V → α → Prop} {x y z : V} {a b c : α} (h1 : R x a) (h2 : R y b) (h3 : R z c) : All2 R [x, y, z] [a, b, c] := (((All2.nil.snoc h1).snoc h2).snoc h3 : All2 R ([] ++ [x] ++ [y] ++ [z]) ([] ++ [a] ++ [b] ++ [c]))
abbrev s__law_values_about : Stmt := top 41
abbrev N__law_values_about : List Str := ["_law_store_here", "_law_course_here", "_law_values", "_law_k", "_law_spot", "_law_limit_here"]
theorem sc__law_values_about : FnScope N__law_values_about ["_law_store_here", "_law_course_here"] (defScope s__law_values_about) := ⟨rfl, rfl, rfl, by decide +kernel, rfl, by decide +kernel, by decide +kernel⟩
abbrev ps__law_values_about : List Str := ["_law_store_here", "_law_course_here"]
def spValues (K : PySem.W.Frag) (l : Addr) : Sp := fun vs H Q _ => ∃ (s a : Addr) (xs : List V) (c : List Pc), vs = [.ref s, .ref a] ∧ Sto l s H ∧ a ≠ s ∧ a ≠ l ∧ Ct K H a xs c ∧ Cz 245 925 5 c ∧ 1 ≤ c.length ∧ c.length ≤ 1000 ∧
  ∀ D us qs H', Bun (Rq K) l s D H us qs H' → (∀ q ∈ qs, Sz 2350 q) → 0 < qs.length → qs.length ≤ 100 → Q (.ref D) H'
theorem ok_values (T : Bn mg) (F : Fn K mg "_law_values_about" s__law_values_about ps__law_values_about f fd) (d_law_part : Def P w K mg base k "_law_part" ["_law_store_here"] (spDraw K l 5 anyQ) f1 fd1) (d_law_above : Def P w K mg base k "_law_above" ["_law_store_here"] (spDraw K l 5 posQ) f2 fd2)
    (d_law_plus : Def P w K mg base k "_law_plus" ["_law_a", "_law_b"] (spOp2 K (· + ·)) f3 fd3) (d_law_times : Def P w K mg base k "_law_times" ["_law_a", "_law_b"] (spOp2 K (· * ·)) f4 fd4) (d_law_minus : Def P w K mg base k "_law_minus" ["_law_a", "_law_b"] (spOp2 K (· - ·)) f5 fd5)
    (d_law_take : Def P w K mg base k "_law_take" ["_law_store_here", "_law_many"] (spTake K l) f6 fd6) (d_law_limit : Def P w K mg base k "_law_limit" ["_law_course_here", "_law_k"] (spLimit K) f7 fd7) :
    Def P w K mg base (k + 1) "_law_values_about" ps__law_values_about (spValues K l) f fd := by
  refine ⟨F.F.ok sc__law_values_about (fun vs H Q E h => ?_) (fun cdv A outer s H vs Q E hr h => ?_), F.m, F.F.kp, F.b⟩
  · obtain ⟨_, _, _, _, rfl, _⟩ := h
    rfl
  obtain ⟨s, a, xs, c, rfl, hS, nas, nal, hC, zc, hl1, hl, z⟩ := h
  have hxl := hC.2.1
  have p64 : (2 : Int) ^ 64 = 18446744073709551616 := by decide
  refine ⟨_, (pss_cons (ps_set (i := 2) sc__law_values_about.nd rfl (Or.inl rfl) (pe_lst (pa_cons (pcall d_law_part hr (pa_cons (pv 0) pa_nil)) (pa_cons (pe_ix ix_tup (pe_ix ix_list (pv 1) pe_int (fun _ _ => rfl)) pe_int (fun _ _ => rfl)) (pa_cons (pcall d_law_minus hr (pa_cons (pe_ix ix_tup (pe_ix ix_list (pv 1) pe_int (fun _ _ => rfl)) pe_int (fun _ _ => rfl)) (pa_cons (pcall d_law_above hr (pa_cons (pv 0) pa_nil)) pa_nil))) pa_nil)))))
      (pss_cons (ps_for PassesOwn.never rfl (pi_range1 (by rfl) T.range_ (pa_cons pe_int pa_nil)) (pg_name (i := 3) sc__law_values_about.nd rfl (Or.inl rfl))
        (pss_cons (ps_set (i := 4) sc__law_values_about.nd rfl (Or.inl rfl) (pcall d_law_take hr (pa_cons (pv 0) (pa_cons (pe_callB call_len_seq (by rfl) T.len_ PySem.boot_len (pa_cons (pv 1) pa_nil)) pa_nil))))
        (pss_cons (ps_set (i := 5) sc__law_values_about.nd rfl (Or.inl rfl) (pcall d_law_limit hr (pa_cons (pv 1) (pa_cons (pv 4) pa_nil))))
        (pss_cons (ps_expr (pe_bm PySem.F.plainAttrs_list PySem.F.slot_list_append PySem.F.type_list_append mt_append (pv 2) (pa_cons (pe_ix ix_tup (pe_ix ix_list (pv 1) (pv 4) (fun _ _ => rfl)) pe_int (fun _ _ => rfl)) pa_nil)))
        (pss_one (ps_if (pt_cmpR op_notN (pv 5) pe_non (nomark _))
          (pss_cons (ps_expr (pe_bm PySem.F.plainAttrs_list PySem.F.slot_list_append PySem.F.type_list_append mt_append (pv 2) (pa_cons (pv 5) pa_nil)))
          (pss_one (ps_expr (pe_bm PySem.F.plainAttrs_list PySem.F.slot_list_append PySem.F.type_list_append mt_append (pv 2) (pa_cons (pcall d_law_times hr (pa_cons (pcall d_law_plus hr (pa_cons (pv 5) (pa_cons (pe_ix ix_tup (pe_ix ix_list (pv 1) (pv 4) (fun _ _ => rfl)) pe_int (fun _ _ => rfl)) pa_nil))) (pa_cons (pe_tup (pa_cons pe_int (pa_cons pe_int pa_nil))) pa_nil))) pa_nil)))))
          pss_nil))))))
      (pss_one (ps_ret (pe_op op_cat (pv 2) (pe_lst (pa_cons (pcall d_law_plus hr (pa_cons (pe_ix ix_tup (pe_ix ix_list (pv 1) (pe_op op_sub (pe_callB call_len_seq (by rfl) T.len_ PySem.boot_len (pa_cons (pv 1) pa_nil)) pe_int) (fun _ _ => rfl)) pe_int (fun _ _ => rfl)) (pa_cons (pcall d_law_above hr (pa_cons (pv 0) pa_nil)) pa_nil))) pa_nil))))))), ?_⟩
  -- the first piece
  have e0 : c[0]? = some c[0] := List.getElem?_eq_getElem (by omega)
  have z0 := zc _ (List.getElem_mem (show 0 < c.length by omega))
  refine ⟨_, rfl, s, rfl, hS, fun v1 G1 q1 S1 e1 => ?_⟩
  have C1 := hC.fr e1 hS.some nas
  obtain ⟨x0, hx0, pa, ps, pv, pr, rfl, hpa, r1, r2, r3⟩ := C1.2.at e0
  refine ⟨_, rfl, a, _, _, _, rfl, rfl, SqL.of C1.1, at0 hx0, pa, _, _, _, rfl, rfl, hpa, at1 rfl, ?_⟩
  refine ⟨_, rfl, a, _, _, _, rfl, rfl, SqL.of C1.1, at0 hx0, pa, _, _, _, rfl, rfl, hpa, at1 rfl, ?_⟩
  refine ⟨_, rfl, s, rfl, S1, fun v3 G2 q3 S2 e2 => ?_⟩
  have C2 := C1.fr e2 S1.some nas
  obtain ⟨b1, rb1, zb1, _⟩ := q1
  obtain ⟨b3, rb3, zb3, _⟩ := q3
  have r22 := r2.fr e2 S1.some
  refine ⟨_, _, _, _, 925, 5, rfl, r22, rb3, z0.2.1, zb3, by decide, fun v4 G3 e3 h4 => ?_⟩
  have C3 := C2.same e3
  refine ⟨sm3, fun D hD => ?_⟩
  have sD := same_new hD (.lst [v1, pv, v4])
  have naD : a ≠ D := fun e => by have h := C3.1; rw [e, hD] at h; cases h
  have B : Bun (Rq K) l s D H [v1, pv, v4] [b1, c[0].v, c[0].v - b3] (upd G3 D (.lst [v1, pv, v4])) :=
    Bun.made (S2.same e3) (e1.trans (e2.trans (Fr.of e3))) hD (all2_3 (((rb1.fr e2 S1.some).same e3).same sD) ((r22.same e3).same sD) (h4.same sD))
  refine ⟨4, rfl, by decide, by decide, for_range (n := 4) (fun i σ G => ∃ (us : List V) (qs : List Rat) (k3 k4 k5 : Option V), σ = [some (.ref s), some (.ref a), some (.ref D), k3, k4, k5] ∧ Bun (Rq K) l s D H us qs G ∧ Ct K G a xs c ∧ (∀ q ∈ qs, Sz 2350 q) ∧ 0 < qs.length ∧ qs.length ≤ 3 + 3 * i)
    ⟨_, _, _, _, _, rfl, B, C3.same sD, fun q hq => ?_, by show 0 < 3; decide, by show 3 ≤ 3 + 3 * 0; decide⟩ ?_ ?_⟩
  · simp only [List.mem_cons, List.mem_nil_iff, or_false] at hq
    rcases hq with rfl | rfl | rfl
    · exact zb1.mono (by decide)
    · exact z0.2.1.mono (by decide)
    · exact (z0.2.1.sub zb3).mono (by decide)
  · rintro i σ G hi ⟨us, qs, k3, k4, k5, rfl, B, C, zq, l0, ln⟩
    have hul := B.len
    refine ⟨_, rfl, _, rfl, a, _, rfl, .inl (SqL.of C.1), s, _, rfl, B.1, by omega, fun r G1 r0 r1 S1 e1 => ?_⟩
    have B1 := B.fr lastsQ e1 S1
    have C1 := C.fr e1 B.1.some nas
    obtain ⟨n, rfl⟩ : ∃ n : Nat, r = (n : Int) := ⟨r.toNat, by omega⟩
    have hn : n < c.length := by omega
    have en : c[n]? = some c[n] := List.getElem?_eq_getElem hn
    have zn := zc _ (List.getElem_mem hn)
    refine ⟨_, rfl, _, rfl, a, n, c, 245, 925, 5, rfl, C1.cq, hn, zc, by decide, fun v G2 e2 hv => ?_⟩
    have B2 := B1.same lastsQ e2
    have C2 := C1.same e2
    obtain ⟨x, hx, pa, ps, pv, pr, rfl, hpa, r1, r2, r3⟩ := C2.2.at en
    refine ⟨_, rfl, .inl ⟨rfl, _, SqL.of B2.at⟩, _, rfl, _, rfl, a, _, _, _, rfl, rfl, SqL.of C2.1, at_of (j := n) rfl hx, pa, _, _, _, rfl, rfl, hpa, at1 rfl, D, _, _, rfl, rfl, B2.at, le1000 (by omega), ?_⟩
    have B3 := B2.app lastsQ r2
    have fr3 : Fr D G2 (upd G2 D (.lst (us ++ [pv]))) := Fr.upd _
    have C3 := C2.fr fr3 ⟨_, B2.at⟩ naD
    have zq3 : ∀ q ∈ qs ++ [c[n].v], Sz 2350 q := fun q hq => by
      rcases List.mem_append.mp hq with hq | hq
      · exact zq q hq
      · rw [List.mem_singleton.mp hq]
        exact zn.2.1.mono (by decide)
    refine ⟨_, rfl, rfl, _, rfl, ?_⟩
    cases el : lim c n with
    | none =>
      rw [el] at hv
      have hv : v = .non := hv
      subst hv
      refine ifF rfl ⟨_, _, _, _, _, rfl, B3, C3, zq3, by simp, ?_⟩
      rw [List.length_append, List.length_singleton]
      omega
    | some b =>
      rw [el] at hv
      have hvq : Rq K G2 v b := hv
      obtain ⟨t, rfl, ht⟩ := id hvq
      have zl : Sz 1422 b := by
        unfold lim at el
        rw [en] at el
        cases e2' : c[n + 1]? with
        | none => rw [e2'] at el; cases el
        | some p2 =>
          rw [e2'] at el
          have eb := Option.some.inj el
          have z2 := zc p2 (List.mem_of_getElem? e2')
          rw [← eb]
          exact (zn.2.1.add (zn.2.2.mul (z2.1.sub zn.1))).mono (by decide)
      have hv3 := hvq.fr fr3 ⟨_, B2.at⟩
      refine ifT rfl ⟨_, rfl, .inl ⟨rfl, _, SqL.of B3.at⟩, _, rfl, D, _, _, rfl, rfl, B3.at, le1000 (by rw [List.length_append, List.length_singleton]; omega), ?_⟩
      have B4 := B3.app lastsQ hv3
      have fr4 := Fr.upd (s := D) (H := upd G2 D (.lst (us ++ [pv]))) (.lst (us ++ [pv] ++ [.ref t]))
      have C4 := C3.fr fr4 ⟨_, B3.at⟩ naD
      have hv4 := hv3.fr fr4 ⟨_, B3.at⟩
      have r24 := (r2.fr fr3 ⟨_, B2.at⟩).fr fr4 ⟨_, B3.at⟩
      obtain ⟨x4, hx4, p4⟩ := C4.2.at en
      have hpa4 := sqt_fr fr4 ⟨_, B3.at⟩ (sqt_fr fr3 ⟨_, B2.at⟩ hpa)
      refine ⟨_, rfl, .inl ⟨rfl, _, SqL.of B4.at⟩, _, rfl, _, rfl, _, rfl, a, _, _, _, rfl, rfl, SqL.of C4.1, at_of (j := n) rfl hx, pa, _, _, _, rfl, rfl, hpa4, at1 rfl, ?_⟩
      refine ⟨_, _, b, _, 1422, 925, rfl, hv4, r24, zl, zn.2.1, by decide, fun w1 G5 e5 h5 => ?_⟩
      have B5 := B4.same lastsQ e5
      refine ⟨sz2, fun t6 h6 => ?_⟩
      have s6 := same_new h6 (.tup [.int 1, .int 2])
      have B6 := B5.same lastsQ s6
      refine ⟨_, _, _, mkRat 1 2, _, 2, rfl, h5.same s6, rq_new 1 2 (mkRat 1 2) (by decide) (by decide), zl.add zn.2.1, by decide, by decide, fun w2 G7 e7 h7 => ?_⟩
      have B7 := B6.same lastsQ e7
      refine ⟨D, _, _, rfl, rfl, B7.at, le1000 (by simp; omega), _, _, _, _, _, rfl, B7.app lastsQ h7, ((C4.same e5).same s6 |>.same e7).fr (Fr.upd _) ⟨_, B7.at⟩ naD, fun q hq => ?_, by simp, by simp; omega⟩
      rcases List.mem_append.mp hq with hq | hq
      · rcases List.mem_append.mp hq with hq | hq
        · exact zq3 q hq
        · rw [List.mem_singleton.mp hq]
          exact zl.mono (by decide)
      · rw [List.mem_singleton.mp hq]
        exact ((zl.add zn.2.1).mul (show Sz 2 (mkRat 1 2) by decide)).mono (by decide)
  · rintro σ G ⟨us, qs, k3, k4, k5, rfl, B, C, zq, l0, ln⟩
    have hul := B.len
    have en : c[c.length - 1]? = some c[c.length - 1] := List.getElem?_eq_getElem (by omega)
    have zn := zc _ (List.getElem_mem (show c.length - 1 < c.length by omega))
    obtain ⟨x, hx, pa, ps, pv, pr, rfl, hpa, r1, r2, r3⟩ := C.2.at en
    refine ⟨_, rfl, _, rfl, _, rfl, a, _, rfl, .inl (SqL.of C.1), _, _, rfl, rfl, a, _, _, _, rfl, rfl, SqL.of C.1, at_of (j := c.length - 1) (by omega) hx, pa, _, _, _, rfl, rfl, hpa, at1 rfl, ?_⟩
    refine ⟨_, rfl, s, rfl, B.1, fun v1 G1 q1 S1 e1 => ?_⟩
    obtain ⟨b1, rb1, zb1, _⟩ := q1
    have B1 := B.fr lastsQ e1 S1
    refine ⟨_, _, _, _, 925, 5, rfl, r2.fr e1 B.1.some, rb1, zn.2.1, zb1, by decide, fun v2 G2 e2 h2 => ?_⟩
    have B2 := B1.same lastsQ e2
    refine ⟨sm1, fun t ht => ?_⟩
    have st := same_new ht (.lst [v2])
    have B3 := B2.same lastsQ st
    refine ⟨D, t, us, [v2], rfl, rfl, B3.at, upd_same, ?_, fun D2 h2' => ?_⟩
    · have : (101 : Nat) ≤ sizeLine := by decide
      rw [List.length_singleton]
      omega
    · have s4 := same_new h2' (.lst (us ++ [v2]))
      refine z D2 _ (qs ++ [_]) _ (Bun.made B3.1 B3.2.1 h2' (((B3.all.snoc (h2.same st))).imp fun _ _ h => h.same s4)) (fun q hq => ?_) (by simp) (by simp; omega)
      rcases List.mem_append.mp hq with hq | hq
      · exact zq q hq
      · rw [List.mem_singleton.mp hq]
        exact (zn.2.1.add zb1).mono (by decide)
end Vk

namespace Vk
open PySem PySem.Spec PyProof.Rows L2
section
variable {X : Cx}
/-- xs.count(y), data of any depth -/
def rCountD (K : PySem.W.Frag) : V → List V → Hp → VK → Prop := fun x xs H Q => ∃ (a : Addr) (y : V) (d : PyData) (ds : List PyData), x = V.ref a ∧ xs = [y] ∧ Dp K H (V.ref a) (.list ds) ∧ Dp K H y d ∧
  SeqAt.shaped (.list ds) = true ∧ SeqAt.shaped d = true ∧ Q (.int ((ds.countP fun z => PyData.eqv z d : Nat) : Int)) H
theorem mt_countD (hu : X.A.units + 65 < cLine) : MtR X "list.count" (rCountD X.K) := by
  intro pins s σ H x xs v us Q I rx rxs h
  obtain ⟨a, y, d, ds, rfl, rfl, hl, hy, sl, sd, q⟩ := h
  cases rx
  cases rxs with
  | cons ry rt =>
    rename_i uy ut
    cases rt
    obtain ⟨bs, r1⟩ := Dp.reads I d y uy hy ry
    have hxs : PyData.canLayAll0 ds = true := SeqAt.canLay_of_shaped sl
    have hroom : X.A.units + 1 + min (PyData.depthAll ds) d.depth < cLine := room_in_shaped sd hu
    cases hl with
    | lst hs ha =>
      obtain ⟨its, rv, ⟨⟨cls, dd, data, sls⟩, n, ho, hc, hdn, hdt⟩, hlen⟩ := I.list hs
      simp only at hc hdt
      subst hc hdt
      obtain ⟨as, h4⟩ := Dp.readsAll I ds _ its ha rv
      have hmap : its.map (SeqAt.readOf s.heap) = ds := SeqAt.readsAll_map ds its as hxs h4
      refine call_meets PySem.F.slot_list_count ⟨_, ho, rfl⟩ PySem.F.entry_list_count (PySem.F.args_list_count_2 _ _)
        (SeqAt.list_countAt a its.toArray n dd sls uy (fun u => PyData.eqv (SeqAt.readOf s.heap u) d)) ⟨ho, SeqAt.items_eqAt (vs := its.toArray) (show ReadsAll s.heap its.toArray.toList ds as from h4) r1 hxs (SeqAt.canLay_of_shaped sd) hroom, ?_⟩
      refine ⟨.int ((ds.countP fun z => PyData.eqv z d : Nat) : Int), H, I.tok _, ⟨s.toks, ?_⟩, q⟩
      have e : (its.toArray.toList.countP fun u => PyData.eqv (SeqAt.readOf s.heap u) d) = ds.countP fun z => PyData.eqv z d := by
        rw [← hmap, List.countP_map]
        rfl
      show Value.int ((its.toArray.toList.countP (fun u => PyData.eqv (SeqAt.readOf s.heap u) d) : Nat) : Int) s.toks = _
      rw [e]
end
end Vk

namespace Vk
open PySem L2 Vm
variable {l : Addr} {P : Program} {w : World} {K : PySem.W.Frag} {mg : Str → Option Value} {base : Heap} {k : Nat} {f f1 f2 f3 f4 f5 f6 f7 f8 f9 f10 f11 f12 f13 f14 : Addr} {fd fd1 fd2 fd3 fd4 fd5 fd6 fd7 fd8 fd9 fd10 fd11 fd12 fd13 fd14 : FuncData}
theorem hu65 {k : Nat} {A : Around} (hr : Room k A) : A.units + 65 < cLine := by have := hr.un; omega
/-- a promise with something left open -/
def exS {α : Type} (sp : α → Sp) : Sp := fun vs H Q E => ∃ x, sp x vs H Q E
theorem Def.ex {α : Type} [Inhabited α] {x : Str} {ps : List Str} {sp : α → Sp} (h : ∀ a, Def P w K mg base k x ps (sp a) f fd) : Def P w K mg base k x ps (exS sp) f fd :=
  ⟨⟨fun vs H Q E ⟨a, z⟩ => (h a).ok.len vs H Q E z, fun A outer s H args us vs Q E hr he hb hv ⟨a, z⟩ => (h a).ok.run A outer s H args us vs Q E hr he hb hv z⟩, (h default).m, (h default).kp, (h default).b⟩
theorem ixN_last {n : Nat} (h : 0 < n) {i : Int} (e : i = (n : Int) - 1) : ixN n i = some (n - 1) := by
  subst e
  unfold ixN
  rw [if_pos (by omega), if_pos (by omega)]
  congr 1
  omega
/-! ### data -/
def dpc (p : Pc) : PyData := .tuple [dq p.s, dq p.v, dq p.r]
theorem Pq.dp {H : Hp} {v : V} {p : Pc} (h : Pq K H v p) : Dp K H v (dpc p) := by
  obtain ⟨a, xs, xv, xr, rfl, h, h1, h2, h3⟩ := h
  exact .tup h (.cons h1.dp (.cons h2.dp (.cons h3.dp .nil)))
theorem dpall_of {α : Type} {R : V → α → Prop} {d : α → PyData} {H : Hp} (g : ∀ v p, R v p → Dp K H v (d p)) : ∀ {xs : List V} {c : List α}, All2 R xs c → DpAll K H xs (c.map d)
  | [], [], _ => .nil
  | [], _ :: _, h => absurd h.1 (by simp)
  | _ :: _, [], h => absurd h.1 (by simp)
  | x :: xs, p :: c, h => .cons (g _ _ (h.2 0 x p rfl rfl)) (dpall_of g ⟨by have := h.1; simp at this; exact this, fun i x p a b => h.2 (i + 1) x p a b⟩)
theorem tree_dpc (n : Nat) (p : Pc) : Tree (n + 2) (dpc p) := .tup (by show 3 ≤ 1000; decide) fun d h => by
  simp only [List.mem_cons, List.mem_nil_iff, or_false] at h
  rcases h with rfl | rfl | rfl <;> exact tree_dq _ _
theorem depth_dqs : ∀ T : List Rat, PyData.depthAll (T.map dq) ≤ 2
  | [] => by simp [PyData.depthAll]
  | t :: T => by
    have := depth_dqs T
    simp only [List.map_cons, PyData.depthAll]
    have : (dq t).depth ≤ 2 := by show PyData.depth (.tuple [.int t.num, .int (t.den : Int)]) ≤ 2; simp [PyData.depth, PyData.depthAll]
    omega
theorem lay_dqs : ∀ T : List Rat, PyData.canLayAll0 (T.map dq) = true
  | [] => rfl
  | t :: T => by
    have := lay_dqs T
    show (PyData.canLay0 (dq t) && PyData.canLayAll0 (T.map dq)) = true
    rw [this]
    rfl
theorem sh_dqs (T : List Rat) : SeqAt.shaped (.list (T.map dq)) = true := by
  have h1 := depth_dqs T
  have h2 := lay_dqs T
  show (PyData.canLay0 (.list (T.map dq)) && decide (PyData.depth (.list (T.map dq)) ≤ 64)) = true
  have h3 : PyData.canLay0 (.list (T.map dq)) = true := h2
  have h4 : PyData.depth (.list (T.map dq)) ≤ 64 := by simp only [PyData.depth]; omega
  rw [h3, decide_eq_true h4]
  rfl
/-! ### the course whose last piece is set -/
theorem hits_set {c : List Pc} (ok : Cok c) (hn : 0 < c.length) {q : Rat} {p : Pc} (hp : c[c.length - 1]? = some p) (hv : p.v = q) : (hits c q c.length).countP (fun t => decide (t = p.s)) = 1 := by
  have r := ok.1 p (List.mem_of_getElem? hp)
  have et : tm p q = p.s := by
    unfold tm
    rw [hv, show q - q = 0 from Rat.sub_self, Rat.div_def, Rat.zero_mul]
    grind
  have eh : hit c q (c.length - 1) = some p.s := by
    unfold hit before
    rw [hp, List.getElem?_eq_none (show c.length ≤ c.length - 1 + 1 by omega)]
    simp only [et, and_true]
    rw [if_pos Rat.le_refl]
  have e1 : c.length = c.length - 1 + 1 := by omega
  have e2 : hits c q c.length = hits c q (c.length - 1) ++ [p.s] := by
    conv => lhs; rw [e1]
    rw [hits_succ, eh]
    rfl
  have z : ∀ t ∈ hits c q (c.length - 1), t < p.s := fun t ht => by
    obtain ⟨j, hj, e⟩ := hits_mem ht
    obtain ⟨p1, g1, _, _, g2⟩ := hit_some e
    have hj1 : j + 1 < c.length := by omega
    have e3 : c[j + 1]? = some c[j + 1] := List.getElem?_eq_getElem hj1
    have g3 := before_lt g2 e3
    by_cases g : j + 1 = c.length - 1
    · rw [← g] at hp
      rw [e3] at hp
      have := Option.some.inj hp
      rw [this] at g3
      exact g3
    · have := cok_lt ok (show j + 1 < c.length - 1 by omega) e3 hp
      grind
  rw [e2, List.countP_append, List.countP_eq_zero.mpr fun t ht => by
    have := z t ht
    have : ¬ t = p.s := by grind
    simp [this]]
  simp
theorem all2_set {α : Type} {R : V → α → Prop} {xs : List V} {c : List α} {x : V} {p : α} (h : All2 R xs c) (n : Nat) (r : R x p) : All2 R (xs.set n x) (c.set n p) := by
  refine ⟨by rw [List.length_set, List.length_set, h.1], fun i y q a b => ?_⟩
  by_cases e : n = i
  · subst e
    rw [List.getElem?_set] at a b
    simp only [if_true] at a b
    split at a
    · split at b
      · cases a
        cases b
        exact r
      · cases b
    · cases a
  · rw [List.getElem?_set_ne e] at a b
    exact h.2 i y q a b
theorem cok_set {c : List Pc} (ok : Cok c) {n : Nat} {p p' : Pc} (hp : c[n]? = some p) (hs : p'.s = p.s) (hr : p'.r = p.r) : Cok (c.set n p') := by
  have key : ∀ (i : Nat) (x : Pc), (c.set n p')[i]? = some x → ∃ y, c[i]? = some y ∧ x.s = y.s ∧ x.r = y.r := fun i x h => by
    by_cases e : n = i
    · subst e
      rw [List.getElem?_set] at h
      simp only [if_true] at h
      split at h
      · cases h
        exact ⟨p, hp, hs, hr⟩
      · cases h
    · rw [List.getElem?_set_ne e] at h
      exact ⟨x, h, rfl, rfl⟩
  refine ⟨fun x hx => ?_, fun i x y hx hy => ?_⟩
  · obtain ⟨i, hi, rfl⟩ := List.mem_iff_getElem.mp hx
    obtain ⟨y, e1, _, e2⟩ := key i _ (List.getElem?_eq_getElem hi)
    rw [e2]
    exact ok.1 y (List.mem_of_getElem? e1)
  · obtain ⟨x1, a1, b1, _⟩ := key i x hx
    obtain ⟨y1, a2, b2, _⟩ := key (i + 1) y hy
    rw [b1, b2]
    exact ok.2 i x1 y1 a1 a2
theorem cz_set {c : List Pc} {i j j' m : Nat} (cz : Cz i j m c) (hj : j ≤ j') {n : Nat} {p' : Pc} (h : Sz i p'.s ∧ Sz j' p'.v ∧ Sz m p'.r) : Cz i j' m (c.set n p') := fun x hx => by
  rcases List.mem_or_eq_of_mem_set hx with hx | rfl
  · obtain ⟨z1, z2, z3⟩ := cz x hx
    exact ⟨z1, z2.mono hj, z3⟩
  · exact h
/-! ### what stands while the law goes on -/
structure St0 (K : PySem.W.Frag) (l s D1 D2 D3 : Addr) (us1 us2 : List V) (c1 c2 : List Pc) (G : Hp) : Prop where
  st : Sto l s G
  a1 : Ct K G D1 us1 c1
  a2 : Ct K G D2 us2 c2
  a3 : Ct K G D3 us1 c1
  n1 : D1 ≠ s
  n2 : D2 ≠ s
  n3 : D3 ≠ s
  m3 : D3 ≠ l
  n31 : D3 ≠ D1
  n32 : D3 ≠ D2
theorem St0.same {s D1 D2 D3 : Addr} {us1 us2 : List V} {c1 c2 : List Pc} {G G' : Hp} (h : St0 K l s D1 D2 D3 us1 us2 c1 c2 G) (e : Same G G') : St0 K l s D1 D2 D3 us1 us2 c1 c2 G' :=
  { h with st := h.st.same e, a1 := h.a1.same e, a2 := h.a2.same e, a3 := h.a3.same e }
theorem St0.fr {s D1 D2 D3 : Addr} {us1 us2 : List V} {c1 c2 : List Pc} {G G' : Hp} (h : St0 K l s D1 D2 D3 us1 us2 c1 c2 G) (e : Fr s G G') (S : Sto l s G') : St0 K l s D1 D2 D3 us1 us2 c1 c2 G' :=
  { h with st := S, a1 := h.a1.fr e h.st.some h.n1, a2 := h.a2.fr e h.st.some h.n2, a3 := h.a3.fr e h.st.some h.n3 }
theorem St0.app {s D1 D2 D3 D : Addr} {us1 us2 ys zs : List V} {c1 c2 : List Pc} {G : Hp} (h : St0 K l s D1 D2 D3 us1 us2 c1 c2 G) (hD : G D = some (.lst ys)) (ns : D ≠ s) (nl : D ≠ l) (k1 : D1 ≠ D) (k2 : D2 ≠ D) (k3 : D3 ≠ D) : St0 K l s D1 D2 D3 us1 us2 c1 c2 (upd G D (.lst zs)) :=
  { h with st := h.st.upd ns nl, a1 := h.a1.fr (Fr.upd _) ⟨_, hD⟩ k1, a2 := h.a2.fr (Fr.upd _) ⟨_, hD⟩ k2, a3 := h.a3.fr (Fr.upd _) ⟨_, hD⟩ k3 }
/-- a list of rationals -/
def Lq (K : PySem.W.Frag) (G : Hp) (D : Addr) (us : List V) (qs : List Rat) : Prop := G D = some (.lst us) ∧ All2 (Rq K G) us qs
theorem Lq.same {G G' : Hp} {D : Addr} {us : List V} {qs : List Rat} (h : Lq K G D us qs) (e : Same G G') : Lq K G' D us qs := ⟨e _ _ h.1, h.2.imp fun _ _ h => h.same e⟩
theorem Lq.fr {s : Addr} {G G' : Hp} {D : Addr} {us : List V} {qs : List Rat} (h : Lq K G D us qs) (e : Fr s G G') (hs : ∃ ys, G s = some (.lst ys)) (n : D ≠ s) : Lq K G' D us qs := ⟨e _ _ h.1 n, h.2.imp fun _ _ h => h.fr e hs⟩
theorem ne_at {G : Hp} {a b : Addr} {o : HO} (h : G a = some o) (n : G b = none) : a ≠ b := fun e => by rw [e, n] at h; cases h
end Vk

namespace Vk
open PySem L2 Vm
variable {l : Addr} {P : Program} {w : World} {K : PySem.W.Frag} {mg : Str → Option Value} {base : Heap} {k : Nat} {f f1 f2 f3 f4 f5 f6 f7 f8 f9 f10 f11 f12 f13 f14 : Addr} {fd fd1 fd2 fd3 fd4 fd5 fd6 fd7 fd8 fd9 fd10 fd11 fd12 fd13 fd14 : FuncData}
abbrev s_law : Stmt := top 42
abbrev N_law : List Str := ["_law_script", "_law_store_here", "_law_many", "_law_first", "_law_second", "_law_row", "_law_values", "_law_one", "_law_value", "_law_spots", "_law_answer", "_law_kept"]
theorem sc_law : FnScope N_law ["_law_script"] (defScope s_law) := ⟨rfl, rfl, rfl, by decide +kernel, rfl, by decide +kernel, by decide +kernel⟩
abbrev ps_law : List Str := ["_law_script"]
def spLaw (K : PySem.W.Frag) : Sp := fun vs H Q _ => ∃ (a : Addr) (ns : List Int), vs = [.ref a] ∧ SqL K H a (ns.map V.int) ∧ ns.length ≤ 63 ∧ ∀ H', Q (.bl true) H'
set_option maxHeartbeats 0 in
theorem ok_law (T : Bn mg) (F : Fn K mg "law" s_law ps_law f fd) (d_law_store : Def P w K mg base k "_law_store" ["_law_script"] (spStore K) f1 fd1) (d_law_take : Def P w K mg base k "_law_take" ["_law_store_here", "_law_many"] (exS (spTake K)) f2 fd2)
    (d_law_size : Def P w K mg base k "_law_size" ["_law_store_here", "_law_least", "_law_top"] (exS (spSize K)) f3 fd3) (d_law_course : Def P w K mg base k "_law_course" ["_law_store_here", "_law_many", "_law_fall"] (exS (spCourse K)) f4 fd4)
    (d_law_wide_course : Def P w K mg base k "_law_wide_course" ["_law_store_here"] (exS (spWide K)) f5 fd5) (d_law_values_about : Def P w K mg base k "_law_values_about" ["_law_store_here", "_law_course_here"] (exS (spValues K)) f6 fd6)
    (d_law_near : Def P w K mg base k "_law_near" ["_law_store_here", "_law_value"] (exS (spNear K)) f7 fd7) (d_law_times_right : Def P w K mg base k "_law_times_right" ["_law_course_here", "_law_reading", "_law_told"] (spTR K) f8 fd8)
    (dtimes_of : Def P w K mg base k "times_of" ["course", "reading"] (spTimes K) f9 fd9) (d_law_part : Def P w K mg base k "_law_part" ["_law_store_here"] (exS fun l => spDraw K l 5 anyQ) f10 fd10) (d_law_ratio : Def P w K mg base k "_law_ratio" ["_law_store_here", "_law_top"] (exS (spRatio K)) f11 fd11)
    (d_law_pick : Def P w K mg base k "_law_pick" ["_law_store_here", "_law_things"] (exS (spPick K)) f12 fd12) (d_law_same : Def P w K mg base k "_law_same" ["_law_value", "_law_due"] (spSame K 3) f13 fd13) : Def P w K mg base (k + 1) "law" ps_law (spLaw K) f fd := by
  refine ⟨F.F.ok sc_law (fun vs H Q E h => ?_) (fun cdv A outer s0 H vs Q E hr h => ?_), F.m, F.F.kp, F.b⟩
  · obtain ⟨_, _, rfl, _⟩ := h
    rfl
  obtain ⟨a, ns, rfl, hS, hlen, z⟩ := h
  refine ⟨_, (pss_cons (ps_set (i := 1) sc_law.nd rfl (Or.inr rfl) (pcall d_law_store hr (pa_cons (pv 0) pa_nil)))
      (pss_cons (ps_set (i := 2) sc_law.nd rfl (Or.inl rfl) (pe_op op_add pe_int (pcall d_law_take hr (pa_cons (pv 1) (pa_cons pe_int pa_nil)))))
      (pss_cons (ps_if (pt_cmpR op_eq (pcall d_law_take hr (pa_cons (pv 1) (pa_cons pe_int pa_nil))) pe_int (nomark _))
        (pss_one (ps_set (i := 2) sc_law.nd rfl (Or.inl rfl) (pcall d_law_size hr (pa_cons (pv 1) (pa_cons pe_int (pa_cons pe_int pa_nil))))))
        pss_nil)
      (pss_cons (ps_set (i := 3) sc_law.nd rfl (Or.inl rfl) (pcall d_law_course hr (pa_cons (pv 1) (pa_cons (pv 2) (pa_cons pe_bl pa_nil)))))
      (pss_cons (ps_set (i := 4) sc_law.nd rfl (Or.inl rfl) (pcall d_law_wide_course hr (pa_cons (pv 1) pa_nil)))
      (pss_cons (ps_set (i := 5) sc_law.nd rfl (Or.inl rfl) (pe_callTy call_list_of (by rfl) T.list_ (by decide +kernel) (pa_cons (pv 3) pa_nil)))
      (pss_cons (ps_set (i := 6) sc_law.nd rfl (Or.inl rfl) (pcall d_law_values_about hr (pa_cons (pv 1) (pa_cons (pv 3) pa_nil))))
      (pss_cons (ps_if (pt_cmpR op_lt (pv 2) pe_int (nomark _))
        (pss_one (ps_setLc (i := 6) (own := [("_law_one", 7)]) (g := gName 7) (tt := tYes) rfl sc_law.nd rfl rfl (sw_true rfl rfl rfl (by decide +kernel)) (pi_list (pv 6)) (blkOk_by (N := N_law) (sc := defScope s_law) (by decide +kernel)) (fun _ _ _ _ _ => pg_name (i := 7) sc_law.nd rfl (Or.inl rfl)) (fun _ _ _ _ _ => pts_nil) (fun _ _ _ _ _ => (pcall d_law_near hr (pa_cons (pv 1) (pa_cons (pv 7) pa_nil))))))
        pss_nil)
      (pss_cons (ps_for PassesOwn.never rfl (pi_list (pv 6)) (pg_name (i := 8) sc_law.nd rfl (Or.inl rfl))
        (pss_one (ps_if (pt_not (pt_val (pcall d_law_times_right hr (pa_cons (pv 3) (pa_cons (pv 8) (pa_cons (pcall dtimes_of hr (pa_cons (pv 5) (pa_cons (pv 8) pa_nil))) pa_nil))))))
          (pss_one (ps_ret pe_bl))
          pss_nil)))
      (pss_cons (ps_set (i := 9) sc_law.nd rfl (Or.inl rfl) (pe_lst (pa_cons (pe_ix ix_tup (pcall d_law_pick hr (pa_cons (pv 1) (pa_cons (pv 4) pa_nil))) pe_int (fun _ _ => rfl)) (pa_cons (pe_ix ix_tup (pe_ix ix_list (pv 4) pe_int (fun _ _ => rfl)) pe_int (fun _ _ => rfl)) (pa_cons (pcall d_law_ratio hr (pa_cons (pv 1) (pa_cons (pe_op op_sub (pe_op op_pow pe_int pe_int) pe_int) pa_nil))) (pa_cons (pcall d_law_part hr (pa_cons (pv 1) pa_nil)) (pa_cons (pe_ix ix_list (pv 6) pe_int (fun _ _ => rfl)) pa_nil)))))))
      (pss_cons (ps_for PassesOwn.never rfl (pi_list (pv 9)) (pg_name (i := 8) sc_law.nd rfl (Or.inl rfl))
        (pss_one (ps_if (pt_not (pt_val (pcall d_law_times_right hr (pa_cons (pv 4) (pa_cons (pv 8) (pa_cons (pcall dtimes_of hr (pa_cons (pv 4) (pa_cons (pv 8) pa_nil))) pa_nil))))))
          (pss_one (ps_ret pe_bl))
          pss_nil)))
      (pss_cons (ps_if (pt_not (pt_val (pcall d_law_same hr (pa_cons (pv 5) (pa_cons (pv 3) pa_nil)))))
        (pss_one (ps_ret pe_bl))
        pss_nil)
      (pss_cons (ps_set (i := 8) sc_law.nd rfl (Or.inl rfl) (pcall d_law_pick hr (pa_cons (pv 1) (pa_cons (pv 6) pa_nil))))
      (pss_cons (ps_set (i := 10) sc_law.nd rfl (Or.inl rfl) (pcall dtimes_of hr (pa_cons (pv 5) (pa_cons (pv 8) pa_nil))))
      (pss_cons (ps_set (i := 11) sc_law.nd rfl (Or.inl rfl) (pe_callTy call_tuple_of (by rfl) T.tuple_ (by decide +kernel) (pa_cons (pv 10) pa_nil)))
      (pss_cons (ps_expr (pe_bm PySem.F.plainAttrs_list PySem.F.slot_list_append PySem.F.type_list_append mt_append (pv 10) (pa_cons (pe_tup (pa_cons pe_int (pa_cons pe_int pa_nil))) pa_nil)))
      (pss_cons (ps_if (pt_not (pt_val (pcall d_law_same hr (pa_cons (pe_callTy call_tuple_of (by rfl) T.tuple_ (by decide +kernel) (pa_cons (pcall dtimes_of hr (pa_cons (pv 5) (pa_cons (pv 8) pa_nil))) pa_nil)) (pa_cons (pv 11) pa_nil)))))
        (pss_one (ps_ret pe_bl))
        pss_nil)
      (pss_cons (ps_asg (pe_tup (pa_cons (pe_ix ix_tup (pe_ix ix_list (pv 5) (pe_op op_sub (pe_callB call_len_seq (by rfl) T.len_ PySem.boot_len (pa_cons (pv 5) pa_nil)) pe_int) (fun _ _ => rfl)) pe_int (fun _ _ => rfl)) (pa_cons (pv 8) (pa_cons (pe_ix ix_tup (pe_ix ix_list (pv 5) (pe_op op_sub (pe_callB call_len_seq (by rfl) T.len_ PySem.boot_len (pa_cons (pv 5) pa_nil)) pe_int) (fun _ _ => rfl)) pe_int (fun _ _ => rfl)) pa_nil)))) (pg_sub (pv 5) (pe_op op_sub (pe_callB call_len_seq (by rfl) T.len_ PySem.boot_len (pa_cons (pv 5) pa_nil)) pe_int) set_list))
      (pss_one (ps_ret (pe_and (pcall d_law_times_right hr (pa_cons (pv 5) (pa_cons (pv 8) (pa_cons (pcall dtimes_of hr (pa_cons (pv 5) (pa_cons (pv 8) pa_nil))) pa_nil)))) (pe_one (pe_cmpR op_eq (pe_bm PySem.F.plainAttrs_list PySem.F.slot_list_count PySem.F.type_list_count (mt_countD (hu65 hr)) (pcall dtimes_of hr (pa_cons (pv 5) (pa_cons (pv 8) pa_nil))) (pa_cons (pe_ix ix_tup (pe_ix ix_list (pv 5) (pe_op op_sub (pe_callB call_len_seq (by rfl) T.len_ PySem.boot_len (pa_cons (pv 5) pa_nil)) pe_int) (fun _ _ => rfl)) pe_int (fun _ _ => rfl)) pa_nil)) pe_int (nomark _)))))))))))))))))))))))), ?_⟩
  have pw : (0 : Int) ≤ 12 ∧ (12 : Int) ≤ 1000000 ∧ (10 : Int).natAbs < 2 ^ 64 := ⟨by decide, by decide, by decide⟩
  have top : ∀ n : Int, n = 10 ^ ((12 : Int).toNat) - 1 → 1 ≤ n ∧ n < 2 ^ 40 := fun n e => by subst e; exact ⟨by decide, by decide⟩
  -- the store; how many pieces
  refine ⟨_, rfl, a, ns, rfl, hS, hlen, fun s l H1 e1 s0 S1 => ?_⟩
  refine ⟨_, rfl, l, s, 6, rfl, S1, by decide, fun r H2 r0 r1 S2 e2 => ⟨_, _, rfl, rfl, ?_⟩⟩
  obtain ⟨n, en⟩ : ∃ n : Nat, (n : Int) = 1 + r := ⟨(1 + r).toNat, by omega⟩
  dsimp only [gName]
  refine cut (fun σ' G => ∃ (m : Nat), σ' = [some (.ref a), some (.ref s), some (.int m), none, none, none, none, none, none, none, none, none] ∧ Sto l s G ∧ 1 ≤ m ∧ m ≤ 40) ?_ ?_
  · rintro σ' G0 ⟨m, rfl, S0, m1, m2⟩
    refine ⟨_, rfl, _, rfl, l, s, m, true, rfl, S0, m2, fun D1 us1 c1 G1 B1 hc1 ok1 cz1 => ?_⟩
    have C1 : Ct K G1 D1 us1 c1 := ⟨B1.at, B1.all⟩
    refine ⟨_, rfl, l, s, rfl, B1.1, fun D2 us2 c2 G2 B2 h21 h22 ok2 cz2 => ?_⟩
    have C2 : Ct K G2 D2 us2 c2 := ⟨B2.at, B2.all⟩
    have C12 := C1.fr B2.2.1 B1.1.some B1.2.2.1
    refine ⟨_, rfl, D1, _, rfl, .inl (SqL.of C12.1), fun D3 h3 => ?_⟩
    have s3 := same_new h3 (.lst us1)
    have St : St0 K l s D1 D2 D3 us1 us2 c1 c2 (upd G2 D3 (.lst us1)) :=
      ⟨B2.1.same s3, C12.same s3, C2.same s3, ⟨upd_same, (C12.same s3).2⟩, B1.2.2.1, B2.2.2.1, B2.1.ne h3, B2.1.nl h3, (ne_at C12.1 h3).symm, (ne_at C2.1 h3).symm⟩
    have l1 := C1.2.1
    refine ⟨_, rfl, _, rfl, l, s, D1, us1, c1, rfl, St.st, St.n1, B1.2.2.2.1, St.a1, cz1, by omega, by omega, fun D4 us4 qs4 G4 B4 zq4 l04 ln4 => ?_⟩
    have St4 := St.fr B4.2.1 B4.1
    have L4 : Lq K G4 D4 us4 qs4 := ⟨B4.at, B4.all⟩
    have n41 : D1 ≠ D4 := ne_at St.a1.1 B4.2.2.2.2.1
    have n42 : D2 ≠ D4 := ne_at St.a2.1 B4.2.2.2.2.1
    have n43 : D3 ≠ D4 := ne_at St.a3.1 B4.2.2.2.2.1
    dsimp only [gName]
    refine cut (fun σ' G => ∃ (D : Addr) (us : List V) (qs : List Rat) (k7 : Option V), σ' = [some (.ref a), some (.ref s), some (.int m), some (.ref D1), some (.ref D2), some (.ref D3), some (.ref D), k7, none, none, none, none] ∧ St0 K l s D1 D2 D3 us1 us2 c1 c2 G ∧ Lq K G D us qs ∧ D ≠ s ∧ D3 ≠ D ∧ (∀ q ∈ qs, Sz 2361 q) ∧ 0 < qs.length ∧ qs.length ≤ 100) ?_ ?_
    · rintro σ' G5 ⟨D, us, qs, k7, rfl, St5, L5, nDs, nD3, zq, l0, ln⟩
      have lq := L5.2.1
      -- the first course at all values
      refine ⟨_, rfl, D, rfl, ⟨_, SqL.of L5.1⟩, for_list (K := K) (a := D) (xs := us) (fun i σ G => ∃ (k8 : Option V), σ = [some (.ref a), some (.ref s), some (.int m), some (.ref D1), some (.ref D2), some (.ref D3), some (.ref D), k7, k8, none, none, none] ∧ Same G5 G) ⟨_, rfl, Same.refl _⟩ (fun i σ G _ h => by obtain ⟨_, _, h⟩ := h; exact SqL.of (h _ _ L5.1)) ?_ ?_⟩
      · rintro i x σ G hxi ⟨k8, rfl, sg⟩
        have hi : i < qs.length := by rw [← lq]; exact (List.getElem?_eq_some_iff.mp hxi).1
        have hq : qs[i]? = some qs[i] := List.getElem?_eq_getElem hi
        have rq := L5.2.2 i x _ hxi hq
        have zq1 := zq _ (List.getElem_mem hi)
        have StG := St5.same sg
        refine ⟨_, rfl, _, rfl, _, rfl, _, rfl, D3, x, c1, qs[i], 245, 925, 5, 2361, rfl, StG.a3.cq, rq.same sg, cz1, zq1, ok1.1, by omega, by decide, fun Dt ut G' e h0 hD hA => ?_⟩
        exact ⟨D1, Dt, x, ut, c1, qs[i], 245, 925, 5, 2361, rfl, (StG.same e).a1.cq, (rq.same sg).same e, SqL.of hD, hA, ok1, cz1, zq1, by omega, by decide, fun G'' e' => ⟨_, rfl, ifF rfl ⟨_, rfl, sg.trans (e.trans e')⟩⟩⟩
      · rintro σ G ⟨k8, rfl, sg⟩
        have St6 := St5.same sg
        have L6 := L5.same sg
        have l2 := St6.a2.2.1
        -- the spots
        refine ⟨_, rfl, _, rfl, l, s, D2, us2, rfl, St6.st, St6.n2, SqL.of St6.a2.1, by omega, by omega, fun v G7 hv S7 e7 => ?_⟩
        have St7 := St6.fr e7 S7
        have L7 := L6.fr e7 St6.st.some nDs
        obtain ⟨iv, hiv, eiv⟩ := List.mem_iff_getElem.mp hv
        have eiv' : us2[iv]? = some v := by rw [← eiv]; exact List.getElem?_eq_getElem hiv
        have civ : c2[iv]? = some c2[iv] := List.getElem?_eq_getElem (by omega)
        have zc := cz2 _ (List.mem_of_getElem? civ)
        obtain ⟨pa, ps, pv, pr, rfl, hpa, r1, r2, r3⟩ := St7.a2.2.2 iv v _ eiv' civ
        have c0 : c2[0]? = some c2[0] := List.getElem?_eq_getElem (by omega)
        have z0 := cz2 _ (List.mem_of_getElem? c0)
        obtain ⟨x0, hx0, pb, ps0, pv0, pr0, rfl, hpb, _, r20, _⟩ := St7.a2.2.at c0
        refine ⟨pa, _, _, _, rfl, rfl, hpa, at1 rfl, _, rfl, D2, _, _, _, rfl, rfl, SqL.of St7.a2.1, at0 hx0, pb, _, _, _, rfl, rfl, hpb, at1 rfl, ?_⟩
        refine ⟨_, rfl, _, _, rfl, rfl, pw, _, _, rfl, rfl, l, s, _, rfl, S7, (top _ rfl).1, (top _ rfl).2, fun w1 G8 qa S8 e8 => ?_⟩
        have St8 := St7.fr e8 S8
        have L8 := L7.fr e8 S7.some nDs
        refine ⟨_, rfl, l, s, rfl, S8, fun w2 G9 qb S9 e9 => ?_⟩
        have St9 := St8.fr e9 S9
        have L9 := L8.fr e9 S8.some nDs
        have hq0 : qs[0]? = some qs[0] := List.getElem?_eq_getElem (by omega)
        obtain ⟨y0, hy0, ry0⟩ := L9.2.at hq0
        refine ⟨_, rfl, D, _, _, _, rfl, rfl, SqL.of L9.1, at0 hy0, sm5, fun D5 h5 => ?_⟩
        have s5 := same_new h5 (.lst [pv, pv0, w1, w2, y0])
        have St10 := St9.same s5
        have L10 := L9.same s5
        obtain ⟨a1, ra1, za1, _⟩ := qa
        obtain ⟨a2, ra2, za2, _⟩ := qb
        have A5 : All2 (Rq K (upd G9 D5 (.lst [pv, pv0, w1, w2, y0]))) [pv, pv0, w1, w2, y0] [c2[iv].v, c2[0].v, a1, a2, qs[0]] := by
          have h1 := ((((r2.fr e8 S7.some).fr e9 S8.some)).same s5)
          have h2 := ((((r20.fr e8 S7.some).fr e9 S8.some)).same s5)
          have h3 := (ra1.fr e9 S8.some).same s5
          have h4 := ra2.same s5
          have h5 := ry0.same s5
          exact (((((All2.nil.snoc h1).snoc h2).snoc h3).snoc h4).snoc h5 : All2 _ ([] ++ [pv] ++ [pv0] ++ [w1] ++ [w2] ++ [y0]) ([] ++ [c2[iv].v] ++ [c2[0].v] ++ [a1] ++ [a2] ++ [qs[0]]))
        have Z5 : ∀ q ∈ [c2[iv].v, c2[0].v, a1, a2, qs[0]], Sz 2361 q := fun q hq => by
          simp only [List.mem_cons, List.mem_nil_iff, or_false] at hq
          rcases hq with rfl | rfl | rfl | rfl | rfl
          · exact zc.2.1.mono (by decide)
          · exact z0.2.1.mono (by decide)
          · exact za1.mono (by decide)
          · exact za2.mono (by decide)
          · exact zq _ (List.getElem_mem (show 0 < qs.length by omega))
        have L5' : Lq K (upd G9 D5 (.lst [pv, pv0, w1, w2, y0])) D5 [pv, pv0, w1, w2, y0] [c2[iv].v, c2[0].v, a1, a2, qs[0]] := ⟨upd_same, A5⟩
        have nD5 : D3 ≠ D5 := ne_at St9.a3.1 h5
        clear A5
        generalize upd G9 D5 (.lst [pv, pv0, w1, w2, y0]) = G10 at St10 L10 L5' ⊢
        generalize [pv, pv0, w1, w2, y0] = us5 at L5' ⊢
        generalize [c2[iv].v, c2[0].v, a1, a2, qs[0]] = qs5 at L5' Z5
        -- the second course at the spots
        have lq5 := L5'.2.1
        refine ⟨_, rfl, D5, rfl, ⟨_, SqL.of L5'.1⟩, for_list (K := K) (a := D5) (xs := us5) (fun i σ G => ∃ (k8 : Option V), σ = [some (.ref a), some (.ref s), some (.int m), some (.ref D1), some (.ref D2), some (.ref D3), some (.ref D), k7, k8, some (.ref D5), none, none] ∧ Same G10 G) ⟨_, rfl, Same.refl _⟩ (fun i σ G _ h => by obtain ⟨_, _, h⟩ := h; exact SqL.of (h _ _ L5'.1)) ?_ ?_⟩
        · rintro i x σ G hxi ⟨k8, rfl, sg⟩
          have hi : i < qs5.length := by rw [← lq5]; exact (List.getElem?_eq_some_iff.mp hxi).1
          have hq : qs5[i]? = some qs5[i] := List.getElem?_eq_getElem hi
          have rq := L5'.2.2 i x _ hxi hq
          have zq1 := Z5 _ (List.getElem_mem hi)
          have StG := St10.same sg
          refine ⟨_, rfl, _, rfl, _, rfl, _, rfl, D2, x, c2, qs5[i], 40, 40, 40, 2361, rfl, StG.a2.cq, rq.same sg, cz2, zq1, ok2.1, by omega, by decide, fun Dt ut G' e h0 hD hA => ?_⟩
          exact ⟨D2, Dt, x, ut, c2, qs5[i], 40, 40, 40, 2361, rfl, (StG.same e).a2.cq, (rq.same sg).same e, SqL.of hD, hA, ok2, cz2, zq1, by omega, by decide, fun G'' e' => ⟨_, rfl, ifF rfl ⟨_, rfl, sg.trans (e.trans e')⟩⟩⟩
        · rintro σ G11 ⟨k8, rfl, sg⟩
          have St11 := St10.same sg
          have L11 := L10.same sg
          have tc : Tree 3 (.list (c1.map dpc)) := .lst (by rw [List.length_map]; omega) fun d hd => by
            obtain ⟨p, _, rfl⟩ := List.mem_map.mp hd
            exact tree_dpc 0 p
          refine ⟨_, rfl, _, rfl, _, _, _, rfl, .lst (SqL.of St11.a3.1) (dpall_of (fun _ _ h => h.dp) St11.a3.2), .lst (SqL.of St11.a1.1) (dpall_of (fun _ _ h => h.dp) St11.a1.2), tc, _, rfl, ifF rfl ?_⟩
          -- one of the values
          refine ⟨_, rfl, _, rfl, l, s, D, us, rfl, St11.st, nDs, SqL.of L11.1, by omega, by omega, fun v G12 hv S12 e12 => ?_⟩
          have St12 := St11.fr e12 S12
          have L12 := L11.fr e12 St11.st.some nDs
          obtain ⟨iq, hiq, eiq⟩ := List.mem_iff_getElem.mp hv
          have eiq' : us[iq]? = some v := by rw [← eiq]; exact List.getElem?_eq_getElem hiq
          have ciq : qs[iq]? = some qs[iq] := List.getElem?_eq_getElem (by omega)
          have rv := L12.2.2 iq v _ eiq' ciq
          have zv := zq _ (List.mem_of_getElem? ciq)
          generalize qs[iq] = q at rv zv
          refine ⟨_, rfl, _, rfl, D3, v, c1, q, 245, 925, 5, 2361, rfl, St12.a3.cq, rv, cz1, zv, ok1.1, by omega, by decide, fun Da ua G13 e13 h13 hDa hA => ?_⟩
          have St13 := St12.same e13
          have nDa : Da ≠ s := St12.st.ne h13
          have nDal : Da ≠ l := St12.st.nl h13
          have k1a : D1 ≠ Da := ne_at St12.a1.1 h13
          have k2a : D2 ≠ Da := ne_at St12.a2.1 h13
          have k3a : D3 ≠ Da := ne_at St12.a3.1 h13
          have rv13 := rv.same e13
          -- kept; the answer is changed
          refine ⟨_, rfl, Da, _, rfl, .inl ⟨SqL.of hDa, fun Tk hTk => ?_⟩⟩
          have s14 := same_new hTk (.tup ua)
          have St14 := St13.same s14
          refine ⟨_, rfl, .inl ⟨rfl, _, SqL.of (s14 _ _ hDa)⟩, sz2, fun t15 h15 => ?_⟩
          have s15 := same_new h15 (.tup [.int 0, .int 1])
          have St15 := St14.same s15
          have hDa15 := s15 _ _ (s14 _ _ hDa)
          have hlen := hA.1
          have hle := hits_len c1 q c1.length
          refine ⟨Da, _, _, rfl, rfl, hDa15, le1000 (by omega), ?_⟩
          have St16 := St15.app (zs := ua ++ [.ref t15]) hDa15 nDa nDal k1a k2a k3a
          have fr16 : Fr Da _ _ := Fr.upd (s := Da) (H := upd (upd G13 Tk (.tup ua)) t15 (.tup [.int 0, .int 1])) (.lst (ua ++ [.ref t15]))
          have hTk16 : SqT K _ Tk ua := sqt_fr fr16 ⟨_, hDa15⟩ (s15.sqt (SqT.of upd_same))
          have A16 := hA.imp fun _ _ h => (((h.same s14).same s15).fr fr16 ⟨_, hDa15⟩)
          have rv16 := ((rv13.same s14).same s15).fr fr16 ⟨_, hDa15⟩
          generalize upd (upd (upd G13 Tk (.tup ua)) t15 (.tup [.int 0, .int 1])) Da (.lst (ua ++ [.ref t15])) = G16 at St16 hTk16 A16 rv16 ⊢
          -- asked again
          refine ⟨_, rfl, _, rfl, D3, v, c1, q, 245, 925, 5, 2361, rfl, St16.a3.cq, rv16, cz1, zv, ok1.1, by omega, by decide, fun Db ub G17 e17 h17 hDb hB => ?_⟩
          have St17 := St16.same e17
          refine ⟨Db, _, rfl, .inl ⟨SqL.of hDb, fun T18 h18 => ?_⟩⟩
          have s18 := same_new h18 (.tup ub)
          have St18 := St17.same s18
          have tt : Tree 3 (.tuple ((hits c1 q c1.length).map dq)) := .tup (by rw [List.length_map]; omega) fun d hd => by
            obtain ⟨p, _, rfl⟩ := List.mem_map.mp hd
            exact tree_dq 1 p
          refine ⟨_, rfl, _, _, _, rfl, .tup (SqT.of upd_same) (dpall_of (fun _ _ h => Rq.dp h) (hB.imp fun _ _ h => h.same s18)), .tup (s18.sqt (e17.sqt hTk16)) (dpall_of (fun _ _ h => Rq.dp h) (A16.imp fun _ _ h => (h.same e17).same s18)), tt, _, rfl, ifF rfl ?_⟩
          have rv18 := (rv16.same e17).same s18
          generalize upd G17 T18 (.tup ub) = G18 at St18 rv18 ⊢
          -- the last piece is set
          have el : c1[c1.length - 1]? = some c1[c1.length - 1] := List.getElem?_eq_getElem (by omega)
          have zl := cz1 _ (List.mem_of_getElem? el)
          obtain ⟨xl, hxl, pp⟩ := St18.a3.2.at el
          obtain ⟨p, ep⟩ : ∃ p, p = c1[c1.length - 1] := ⟨_, rfl⟩
          rw [← ep] at el zl pp
          obtain ⟨pl, ls, lv, lr, rfl, hpl, g1, g2, g3⟩ := id pp
          have lus : us1.length = c1.length := l1
          refine ⟨_, rfl, _, rfl, D3, _, rfl, .inl (SqL.of St18.a3.1), _, _, rfl, rfl, D3, _, _, _, rfl, rfl, SqL.of St18.a3.1, at_of (j := c1.length - 1) (by omega) hxl, pl, _, _, _, rfl, rfl, hpl, at0 rfl, _, rfl, ?_⟩
          refine ⟨_, rfl, _, rfl, D3, _, rfl, .inl (SqL.of St18.a3.1), _, _, rfl, rfl, D3, _, _, _, rfl, rfl, SqL.of St18.a3.1, at_of (j := c1.length - 1) (by omega) hxl, pl, _, _, _, rfl, rfl, hpl, at2 rfl, sm3, fun T19 h19 => ?_⟩
          have s19 := same_new h19 (.tup [ls, v, lr])
          have St19 := St18.same s19
          refine ⟨_, rfl, _, rfl, D3, _, rfl, .inl (SqL.of St19.a3.1), _, _, rfl, rfl, D3, _, _, c1.length - 1, rfl, rfl, St19.a3.1, (ixN_last (by omega) rfl).trans (by rw [lus]), ?_⟩
          have fr20 : Fr D3 _ _ := Fr.upd (s := D3) (H := upd G18 T19 (.tup [ls, v, lr])) (.lst (us1.set (c1.length - 1) (.ref T19)))
          have np : Pq K (upd G18 T19 (.tup [ls, v, lr])) (.ref T19) ⟨p.s, q, p.r⟩ := ⟨T19, ls, v, lr, rfl, SqT.of upd_same, g1.same s19, rv18.same s19, g3.same s19⟩
          have C20 : Cq K (upd (upd G18 T19 (.tup [ls, v, lr])) D3 (.lst (us1.set (c1.length - 1) (.ref T19)))) D3 (c1.set (c1.length - 1) ⟨p.s, q, p.r⟩) :=
            ⟨_, SqL.of upd_same, all2_set (St19.a3.2.imp fun _ _ h => h.fr fr20 ⟨_, St19.a3.1⟩) _ (np.fr fr20 ⟨_, St19.a3.1⟩)⟩
          have rv20 := (rv18.same s19).fr fr20 ⟨_, St19.a3.1⟩
          have ok3 := cok_set ok1 (p' := ⟨p.s, q, p.r⟩) el rfl rfl
          have cz3 := cz_set cz1 (j' := 2361) (by decide) (n := c1.length - 1) (p' := ⟨p.s, q, p.r⟩) ⟨zl.1, zv, zl.2.2⟩
          have l3 : (c1.set (c1.length - 1) ⟨p.s, q, p.r⟩).length = c1.length := List.length_set
          have el3 : (c1.set (c1.length - 1) ⟨p.s, q, p.r⟩)[c1.length - 1]? = some ⟨p.s, q, p.r⟩ := by rw [List.getElem?_set, if_pos rfl, if_pos (by omega)]
          have h3' : (upd (upd G18 T19 (.tup [ls, v, lr])) D3 (.lst (us1.set (c1.length - 1) (.ref T19)))) D3 = some (.lst (us1.set (c1.length - 1) (.ref T19))) := upd_same
          generalize upd (upd G18 T19 (.tup [ls, v, lr])) D3 (.lst (us1.set (c1.length - 1) (.ref T19))) = G20 at C20 rv20 h3' ⊢
          generalize c1.set (c1.length - 1) ⟨p.s, q, p.r⟩ = c3 at C20 ok3 cz3 l3 el3
          -- times_right and the count
          refine ⟨_, rfl, _, rfl, _, rfl, _, rfl, D3, v, c3, q, 245, 2361, 5, 2361, rfl, C20, rv20, cz3, zv, ok3.1, by omega, by decide, fun Dc uc G21 e21 h21' hDc hC => ?_⟩
          refine ⟨D3, Dc, v, uc, c3, q, 245, 2361, 5, 2361, rfl, C20.same e21, rv20.same e21, SqL.of hDc, hC, ok3, cz3, zv, by omega, by decide, fun G22 e22 => ⟨_, rfl, ifT rfl ?_⟩⟩
          have e2 := e21.trans e22
          refine ⟨_, rfl, _, rfl, D3, v, c3, q, 245, 2361, 5, 2361, rfl, C20.same e2, rv20.same e2, cz3, zv, ok3.1, by omega, by decide, fun Dd ud G23 e23 h23 hDd hE => ?_⟩
          have h323 := e23 _ _ (e2 _ _ h3')
          obtain ⟨xs3, hx3, hc3⟩ := C20.same (e2.trans e23)
          refine ⟨.inl ⟨rfl, _, SqL.of hDd⟩, ?_⟩
          have l33 := hc3.1
          obtain ⟨x3, hx33, p3⟩ := hc3.at el3
          obtain ⟨p3a, p3s, p3v, p3r, rfl, hp3, g31, _, _⟩ := p3
          refine ⟨_, rfl, _, rfl, D3, _, rfl, .inl hx3, _, _, rfl, rfl, D3, _, _, _, rfl, rfl, hx3, at_of (j := c1.length - 1) (by omega) hx33, p3a, _, _, _, rfl, rfl, hp3, at0 rfl, ?_⟩
          refine ⟨Dd, _, _, _, rfl, rfl, .lst (SqL.of hDd) (dpall_of (fun _ _ h => Rq.dp h) hE), g31.dp, sh_dqs _, sh_dq _, rfl, ?_⟩
          have hcount : (((hits c3 q c3.length).map dq).countP fun z => PyData.eqv z (dq p.s)) = 1 := by
            rw [List.countP_map]
            have e : ((fun z => PyData.eqv z (dq p.s)) ∘ dq) = fun t => decide (t = p.s) := by
              funext t
              exact eqv_dq t p.s
            rw [e]
            exact hits_set ok3 (by omega) (p := ⟨p.s, q, p.r⟩) (by rw [l3]; exact el3) rfl
          have fin : ∀ n : Nat, n = 1 → Q (.bl (decide (V.int (n : Int) = V.int 1))) G23 := fun n e => by
            subst e
            exact z _
          exact fin _ hcount
    · intro key
      refine ⟨_, rfl, _, _, rfl, rfl, _, rfl, ifD (fun g => ?_) (fun g => key _ _ ⟨D4, us4, qs4, none, rfl, St4, L4, B4.2.2.1, n43, fun q hq => (zq4 q hq).mono (by decide), l04, ln4⟩)⟩
      have lq4 := L4.2.1
      refine ⟨_, rfl, D4, rfl, ⟨_, SqL.of L4.1⟩, fun D hD => lc_list (xs := us4) (fun i G => ∃ (us : List V) (qs : List Rat), Bun (Rq K) l s D G4 us qs G ∧ (∀ q ∈ qs, Sz 2361 q) ∧ qs.length = i ∧ St0 K l s D1 D2 D3 us1 us2 c1 c2 G ∧ Lq K G D4 us4 qs4)
        ⟨[], [], Bun.start B4.1 (Fr.refl _ _) hD, nofun, rfl, St4.same (same_new hD _), L4.same (same_new hD _)⟩ (fun i G _ h => by obtain ⟨_, _, _, _, _, _, h⟩ := h; exact SqL.of h.1) ?_ ?_⟩
      · rintro i x G hxi ⟨us, qs, B, zq, hl, StG, LG⟩
        have hi : i < qs4.length := by rw [← lq4]; exact (List.getElem?_eq_some_iff.mp hxi).1
        have hq : qs4[i]? = some qs4[i] := List.getElem?_eq_getElem hi
        have rq := LG.2.2 i x _ hxi hq
        have zq1 := zq4 _ (List.getElem_mem hi)
        have hul := B.len
        refine ⟨rfl, tyes ?_⟩
        refine ⟨_, rfl, _, rfl, l, s, x, 2350, rfl, B.1, by decide, ⟨_, rq, zq1, trivial⟩, fun v G' qv S' e' => ?_⟩
        obtain ⟨qn, rn, zn, _⟩ := qv
        have B' := B.fr lastsQ e' S'
        have hDn := B'.2.2.2.2.1
        refine ⟨us, B'.at, le1000 (by omega), us ++ [v], qs ++ [qn], B'.app lastsQ rn, fun q hq => ?_, by rw [List.length_append, hl]; rfl, (StG.fr e' S').app B'.at B'.2.2.1 B'.2.2.2.1 (ne_at St4.a1.1 hDn) (ne_at St4.a2.1 hDn) (ne_at St4.a3.1 hDn), (LG.fr e' B.1.some B4.2.2.1).fr (Fr.upd _) ⟨_, B'.at⟩ (ne_at L4.1 hDn)⟩
        rcases List.mem_append.mp hq with hq | hq
        · exact zq q hq
        · rw [List.mem_singleton.mp hq]
          exact zn.mono (by decide)
      · rintro G ⟨us, qs, B, zq, hl, StG, LG⟩
        rw [lq4] at hl
        exact key _ _ ⟨D, us, qs, _, rfl, StG, ⟨B.at, B.all⟩, B.2.2.1, ne_at St4.a3.1 hD, zq, by omega, by omega⟩
  · intro key
    refine ⟨_, rfl, l, s, 8, rfl, S2, by decide, fun r2 H3 _ _ S3 e3 => ⟨rfl, _, rfl, ifD (fun _ => ?_) (fun _ => ?_)⟩⟩
    · refine ⟨_, rfl, l, s, 12, 40, rfl, S3, by decide, by decide, fun r3 H4 lo hi S4 e4 => ?_⟩
      obtain ⟨n3, rfl⟩ : ∃ n : Nat, r3 = (n : Int) := ⟨r3.toNat, by omega⟩
      exact key _ _ ⟨n3, rfl, S4, by omega, by omega⟩
    · refine key _ _ ⟨n, ?_, S3, by omega, by omega⟩
      rw [en]
      rfl
end Vk

namespace Vk
open PySem L2 Vm

theorem law_ok {P : Program} {w : World} {K : PySem.W.Frag} {mg : Str → Option Value} {base : Heap} {f_rational : Addr} {fd_rational : FuncData} {f_add : Addr} {fd_add : FuncData} {f_subtract : Addr} {fd_subtract : FuncData} {f_negate : Addr} {fd_negate : FuncData} {f_divide : Addr} {fd_divide : FuncData} {f_compare : Addr} {fd_compare : FuncData} {f__time_of : Addr} {fd__time_of : FuncData} {f__end_of : Addr} {fd__end_of : FuncData} {f_times_of : Addr} {fd_times_of : FuncData} {f__law_store : Addr} {fd__law_store : FuncData} {f__law_feed : Addr} {fd__law_feed : FuncData} {f__law_mixed : Addr} {fd__law_mixed : FuncData} {f__law_take : Addr} {fd__law_take : FuncData} {f__law_pick : Addr} {fd__law_pick : FuncData} {f__law_size : Addr} {fd__law_size : FuncData} {f__law_is_int : Addr} {fd__law_is_int : FuncData} {f__law_same : Addr} {fd__law_same : FuncData} {f__law_frac : Addr} {fd__law_frac : FuncData} {f__law_plus : Addr} {fd__law_plus : FuncData} {f__law_minus : Addr} {fd__law_minus : FuncData} {f__law_times : Addr} {fd__law_times : FuncData} {f__law_below : Addr} {fd__law_below : FuncData} {f__law_is_frac : Addr} {fd__law_is_frac : FuncData} {f__law_ratio : Addr} {fd__law_ratio : FuncData} {f__law_part : Addr} {fd__law_part : FuncData} {f__law_above : Addr} {fd__law_above : FuncData} {f__law_near : Addr} {fd__law_near : FuncData} {f__law_ordered : Addr} {fd__law_ordered : FuncData} {f__law_pace : Addr} {fd__law_pace : FuncData} {f__law_course : Addr} {fd__law_course : FuncData} {f__law_now : Addr} {fd__law_now : FuncData} {f__law_wide_course : Addr} {fd__law_wide_course : FuncData} {f__law_limit : Addr} {fd__law_limit : FuncData} {f__law_times_right : Addr} {fd__law_times_right : FuncData} {f__law_values_about : Addr} {fd__law_values_about : FuncData} {f_law : Addr} {fd_law : FuncData} (T : Bn mg)
    (h_rational : FunA K "rational" "rational" s_rational f_rational fd_rational) (m_rational : mg "rational" = some (.ref f_rational)) (b_rational : Binds K fd_rational ps_rational [])
    (h_add : Fn K mg "add" s_add ps_add f_add fd_add)
    (h_subtract : Fn K mg "subtract" s_subtract ps_subtract f_subtract fd_subtract)
    (h_negate : Fn K mg "negate" s_negate ps_negate f_negate fd_negate)
    (h_divide : Fn K mg "divide" s_divide ps_divide f_divide fd_divide)
    (h_compare : Fn K mg "compare" s_compare ps_compare f_compare fd_compare)
    (h__time_of : Fn K mg "_time_of" s__time_of ps__time_of f__time_of fd__time_of)
    (h__end_of : Fn K mg "_end_of" s__end_of ps__end_of f__end_of fd__end_of)
    (h_times_of : Fn K mg "times_of" s_times_of ps_times_of f_times_of fd_times_of)
    (h__law_store : Fn K mg "_law_store" s__law_store ps__law_store f__law_store fd__law_store)
    (h__law_feed : Fn K mg "_law_feed" s__law_feed ps__law_feed f__law_feed fd__law_feed)
    (h__law_mixed : Fn K mg "_law_mixed" s__law_mixed ps__law_mixed f__law_mixed fd__law_mixed)
    (h__law_take : Fn K mg "_law_take" s__law_take ps__law_take f__law_take fd__law_take)
    (h__law_pick : Fn K mg "_law_pick" s__law_pick ps__law_pick f__law_pick fd__law_pick)
    (h__law_size : Fn K mg "_law_size" s__law_size ps__law_size f__law_size fd__law_size)
    (h__law_is_int : Fn K mg "_law_is_int" s__law_is_int ps__law_is_int f__law_is_int fd__law_is_int)
    (h__law_same : Fn K mg "_law_same" s__law_same ps__law_same f__law_same fd__law_same)
    (h__law_frac : Fn K mg "_law_frac" s__law_frac ps__law_frac f__law_frac fd__law_frac)
    (h__law_plus : Fn K mg "_law_plus" s__law_plus ps__law_plus f__law_plus fd__law_plus)
    (h__law_minus : Fn K mg "_law_minus" s__law_minus ps__law_minus f__law_minus fd__law_minus)
    (h__law_times : Fn K mg "_law_times" s__law_times ps__law_times f__law_times fd__law_times)
    (h__law_below : Fn K mg "_law_below" s__law_below ps__law_below f__law_below fd__law_below)
    (h__law_is_frac : Fn K mg "_law_is_frac" s__law_is_frac ps__law_is_frac f__law_is_frac fd__law_is_frac)
    (h__law_ratio : Fn K mg "_law_ratio" s__law_ratio ps__law_ratio f__law_ratio fd__law_ratio)
    (h__law_part : Fn K mg "_law_part" s__law_part ps__law_part f__law_part fd__law_part)
    (h__law_above : Fn K mg "_law_above" s__law_above ps__law_above f__law_above fd__law_above)
    (h__law_near : Fn K mg "_law_near" s__law_near ps__law_near f__law_near fd__law_near)
    (h__law_ordered : Fn K mg "_law_ordered" s__law_ordered ps__law_ordered f__law_ordered fd__law_ordered)
    (h__law_pace : Fn K mg "_law_pace" s__law_pace ps__law_pace f__law_pace fd__law_pace)
    (h__law_course : Fn K mg "_law_course" s__law_course ps__law_course f__law_course fd__law_course)
    (h__law_now : Fn K mg "_law_now" s__law_now ps__law_now f__law_now fd__law_now)
    (h__law_wide_course : Fn K mg "_law_wide_course" s__law_wide_course ps__law_wide_course f__law_wide_course fd__law_wide_course)
    (h__law_limit : Fn K mg "_law_limit" s__law_limit ps__law_limit f__law_limit fd__law_limit)
    (h__law_times_right : Fn K mg "_law_times_right" s__law_times_right ps__law_times_right f__law_times_right fd__law_times_right)
    (h__law_values_about : Fn K mg "_law_values_about" s__law_values_about ps__law_values_about f__law_values_about fd__law_values_about)
    (h_law : Fn K mg "law" s_law ps_law f_law fd_law)
    : FnOk P w K mg base CX0 6 f_law fd_law ps_law (spLaw K) := by
  have rational := ok_rational (P := P) (w := w) (base := base) (k := 0) T h_rational m_rational b_rational
  have add := ok_add (P := P) (w := w) (base := base) (k := 0) T h_add
  have negate := ok_negate (P := P) (w := w) (base := base) (k := 0) h_negate
  have compare := ok_compare (P := P) (w := w) (base := base) (k := 0) h_compare
  have subtract := ok_subtract h_subtract add negate
  have divide := ok_divide h_divide rational
  have time_of := ok_time_of h__time_of (add.up (by decide : 1 ≤ 2)) divide subtract
  have end_of := ok_end_of (P := P) (w := w) (base := base) (k := 0) T h__end_of
  have times_of := ok_times_of T h_times_of time_of (end_of.up (by decide)) (compare.up (by decide))
  have store := ok_store (P := P) (w := w) (base := base) (k := 0) T h__law_store
  have mixed := fun l => ok_mixed (l := l) (P := P) (w := w) (base := base) (k := 0) T h__law_mixed
  have feed := fun l => ok_feed (l := l) (P := P) (w := w) (base := base) (k := 0) T h__law_feed
  have take := fun l => ok_take T h__law_take (feed l) (mixed l)
  have pick := fun l => ok_pick T h__law_pick (take l)
  have size := fun l => ok_size h__law_size (take l)
  have is_int := ok_is_int (P := P) (w := w) (base := base) (k := 0) T h__law_is_int
  have same := ok_same T h__law_same is_int 3
  have frac := ok_frac (P := P) (w := w) (base := base) (k := 0) T h__law_frac
  have plus := ok_plus h__law_plus frac
  have minus := ok_minus h__law_minus frac
  have times := ok_times h__law_times frac
  have below := ok_below (P := P) (w := w) (base := base) (k := 0) h__law_below
  have is_frac := ok_is_frac T h__law_is_frac is_int frac
  have ratio := fun l => ok_ratio h__law_ratio ((take l).up (by decide)) (pick l) (frac.up (by decide))
  have part := fun l => ok_part h__law_part ((take l).up (by decide)) (pick l) (frac.up (by decide))
  have above := fun l => ok_above h__law_above ((take l).up (by decide : 2 ≤ 3)) (frac.up (by decide))
  have near := fun l => ok_near h__law_near ((take l).up (by decide)) (pick l) (plus.up (by decide)) (minus.up (by decide))
  have ordered := ok_ordered T h__law_ordered below
  have pace := fun l => ok_pace h__law_pace ((take l).up (by decide)) (pick l) (frac.up (by decide))
  have course := fun l => ok_course T h__law_course (part l) (pace l) (above l) (plus.up (by decide)) (times.up (by decide)) (minus.up (by decide)) ((take l).up (by decide))
  have now := ok_now T h__law_now (below.up (by decide)) plus times minus
  have wide := fun l => ok_wide T h__law_wide_course (ordered.up (by decide)) ((take l).up (by decide)) (ratio l)
  have limit := ok_limit T h__law_limit plus times minus
  have right := ok_times_right T h__law_times_right now (is_frac.up (by decide)) (below.up (by decide)) limit
  have values := fun l => ok_values T h__law_values_about (part l) (above l) (plus.up (by decide)) (times.up (by decide)) (minus.up (by decide)) ((take l).up (by decide)) (limit.up (by decide))
  exact (ok_law (k := 5) T h_law (store.up (by decide)) (Def.ex fun l => (take l).up (by decide)) (Def.ex fun l => (size l).up (by decide)) (Def.ex fun l => (course l).up (by decide)) (Def.ex fun l => (wide l).up (by decide)) (Def.ex fun l => (values l).up (by decide))
    (Def.ex fun l => (near l).up (by decide)) (right.up (by decide)) (times_of.up (by decide)) (Def.ex fun l => (part l).up (by decide)) (Def.ex fun l => (ratio l).up (by decide)) (Def.ex fun l => (pick l).up (by decide)) (same.up (by decide))).ok
set_option maxHeartbeats 0 in
theorem all_mk {l : PySem.W.OpenLaw} {w : World} {K : PySem.W.Frag} {h : Heap} {mg : Str → Option Value} {fa : Addr} (X : K.In h) (G : h.Ns mainGlobals mg) (hfa : mg "law" = some (.ref fa))
    {f_rational : Addr} {od_rational an_rational : Option Addr} {sl_rational : Array (Option Value)} {oc_rational kV_rational dc_rational pm_rational cd_rational ct_rational : Value}
    {f_add : Addr} {od_add an_add : Option Addr} {sl_add : Array (Option Value)} {oc_add kV_add dc_add pm_add cd_add ct_add : Value}
    {f_subtract : Addr} {od_subtract an_subtract : Option Addr} {sl_subtract : Array (Option Value)} {oc_subtract kV_subtract dc_subtract pm_subtract cd_subtract ct_subtract : Value}
    {f_negate : Addr} {od_negate an_negate : Option Addr} {sl_negate : Array (Option Value)} {oc_negate kV_negate dc_negate pm_negate cd_negate ct_negate : Value}
    {f_divide : Addr} {od_divide an_divide : Option Addr} {sl_divide : Array (Option Value)} {oc_divide kV_divide dc_divide pm_divide cd_divide ct_divide : Value}
    {f_compare : Addr} {od_compare an_compare : Option Addr} {sl_compare : Array (Option Value)} {oc_compare kV_compare dc_compare pm_compare cd_compare ct_compare : Value}
    {f__time_of : Addr} {od__time_of an__time_of : Option Addr} {sl__time_of : Array (Option Value)} {oc__time_of kV__time_of dc__time_of pm__time_of cd__time_of ct__time_of : Value}
    {f__end_of : Addr} {od__end_of an__end_of : Option Addr} {sl__end_of : Array (Option Value)} {oc__end_of kV__end_of dc__end_of pm__end_of cd__end_of ct__end_of : Value}
    {f_times_of : Addr} {od_times_of an_times_of : Option Addr} {sl_times_of : Array (Option Value)} {oc_times_of kV_times_of dc_times_of pm_times_of cd_times_of ct_times_of : Value}
    {f__law_store : Addr} {od__law_store an__law_store : Option Addr} {sl__law_store : Array (Option Value)} {oc__law_store kV__law_store dc__law_store pm__law_store cd__law_store ct__law_store : Value}
    {f__law_feed : Addr} {od__law_feed an__law_feed : Option Addr} {sl__law_feed : Array (Option Value)} {oc__law_feed kV__law_feed dc__law_feed pm__law_feed cd__law_feed ct__law_feed : Value}
    {f__law_mixed : Addr} {od__law_mixed an__law_mixed : Option Addr} {sl__law_mixed : Array (Option Value)} {oc__law_mixed kV__law_mixed dc__law_mixed pm__law_mixed cd__law_mixed ct__law_mixed : Value}
    {f__law_take : Addr} {od__law_take an__law_take : Option Addr} {sl__law_take : Array (Option Value)} {oc__law_take kV__law_take dc__law_take pm__law_take cd__law_take ct__law_take : Value}
    {f__law_pick : Addr} {od__law_pick an__law_pick : Option Addr} {sl__law_pick : Array (Option Value)} {oc__law_pick kV__law_pick dc__law_pick pm__law_pick cd__law_pick ct__law_pick : Value}
    {f__law_size : Addr} {od__law_size an__law_size : Option Addr} {sl__law_size : Array (Option Value)} {oc__law_size kV__law_size dc__law_size pm__law_size cd__law_size ct__law_size : Value}
    {f__law_is_int : Addr} {od__law_is_int an__law_is_int : Option Addr} {sl__law_is_int : Array (Option Value)} {oc__law_is_int kV__law_is_int dc__law_is_int pm__law_is_int cd__law_is_int ct__law_is_int : Value}
    {f__law_same : Addr} {od__law_same an__law_same : Option Addr} {sl__law_same : Array (Option Value)} {oc__law_same kV__law_same dc__law_same pm__law_same cd__law_same ct__law_same : Value}
    {f__law_frac : Addr} {od__law_frac an__law_frac : Option Addr} {sl__law_frac : Array (Option Value)} {oc__law_frac kV__law_frac dc__law_frac pm__law_frac cd__law_frac ct__law_frac : Value}
    {f__law_plus : Addr} {od__law_plus an__law_plus : Option Addr} {sl__law_plus : Array (Option Value)} {oc__law_plus kV__law_plus dc__law_plus pm__law_plus cd__law_plus ct__law_plus : Value}
    {f__law_minus : Addr} {od__law_minus an__law_minus : Option Addr} {sl__law_minus : Array (Option Value)} {oc__law_minus kV__law_minus dc__law_minus pm__law_minus cd__law_minus ct__law_minus : Value}
    {f__law_times : Addr} {od__law_times an__law_times : Option Addr} {sl__law_times : Array (Option Value)} {oc__law_times kV__law_times dc__law_times pm__law_times cd__law_times ct__law_times : Value}
    {f__law_below : Addr} {od__law_below an__law_below : Option Addr} {sl__law_below : Array (Option Value)} {oc__law_below kV__law_below dc__law_below pm__law_below cd__law_below ct__law_below : Value}
    {f__law_is_frac : Addr} {od__law_is_frac an__law_is_frac : Option Addr} {sl__law_is_frac : Array (Option Value)} {oc__law_is_frac kV__law_is_frac dc__law_is_frac pm__law_is_frac cd__law_is_frac ct__law_is_frac : Value}
    {f__law_ratio : Addr} {od__law_ratio an__law_ratio : Option Addr} {sl__law_ratio : Array (Option Value)} {oc__law_ratio kV__law_ratio dc__law_ratio pm__law_ratio cd__law_ratio ct__law_ratio : Value}
    {f__law_part : Addr} {od__law_part an__law_part : Option Addr} {sl__law_part : Array (Option Value)} {oc__law_part kV__law_part dc__law_part pm__law_part cd__law_part ct__law_part : Value}
    {f__law_above : Addr} {od__law_above an__law_above : Option Addr} {sl__law_above : Array (Option Value)} {oc__law_above kV__law_above dc__law_above pm__law_above cd__law_above ct__law_above : Value}
    {f__law_near : Addr} {od__law_near an__law_near : Option Addr} {sl__law_near : Array (Option Value)} {oc__law_near kV__law_near dc__law_near pm__law_near cd__law_near ct__law_near : Value}
    {f__law_ordered : Addr} {od__law_ordered an__law_ordered : Option Addr} {sl__law_ordered : Array (Option Value)} {oc__law_ordered kV__law_ordered dc__law_ordered pm__law_ordered cd__law_ordered ct__law_ordered : Value}
    {f__law_pace : Addr} {od__law_pace an__law_pace : Option Addr} {sl__law_pace : Array (Option Value)} {oc__law_pace kV__law_pace dc__law_pace pm__law_pace cd__law_pace ct__law_pace : Value}
    {f__law_course : Addr} {od__law_course an__law_course : Option Addr} {sl__law_course : Array (Option Value)} {oc__law_course kV__law_course dc__law_course pm__law_course cd__law_course ct__law_course : Value}
    {f__law_now : Addr} {od__law_now an__law_now : Option Addr} {sl__law_now : Array (Option Value)} {oc__law_now kV__law_now dc__law_now pm__law_now cd__law_now ct__law_now : Value}
    {f__law_wide_course : Addr} {od__law_wide_course an__law_wide_course : Option Addr} {sl__law_wide_course : Array (Option Value)} {oc__law_wide_course kV__law_wide_course dc__law_wide_course pm__law_wide_course cd__law_wide_course ct__law_wide_course : Value}
    {f__law_limit : Addr} {od__law_limit an__law_limit : Option Addr} {sl__law_limit : Array (Option Value)} {oc__law_limit kV__law_limit dc__law_limit pm__law_limit cd__law_limit ct__law_limit : Value}
    {f__law_times_right : Addr} {od__law_times_right an__law_times_right : Option Addr} {sl__law_times_right : Array (Option Value)} {oc__law_times_right kV__law_times_right dc__law_times_right pm__law_times_right cd__law_times_right ct__law_times_right : Value}
    {f__law_values_about : Addr} {od__law_values_about an__law_values_about : Option Addr} {sl__law_values_about : Array (Option Value)} {oc__law_values_about kV__law_values_about dc__law_values_about pm__law_values_about cd__law_values_about ct__law_values_about : Value}
    {f_law : Addr} {od_law an_law : Option Addr} {sl_law : Array (Option Value)} {oc_law kV_law dc_law pm_law cd_law ct_law : Value}
    {dV : Addr} {dcls : Value} {ddd : Option Addr} {dtk : Tok} {dn : Nat} {dsl : Array (Option Value)} (ldf : K.lookup dV = some ⟨dcls, ddd, .seq #[.int 1 dtk] dn, dsl⟩)
    (a_rational : PySem.W.nsIn K mainGlobals "rational" = some (some (.ref f_rational))) (l_rational : K.lookup f_rational = some ⟨oc_rational, od_rational, .func (PySem.W.fnOf "rational" "rational" (defArgs s_rational) (defBody s_rational) (defScope s_rational) (.ref dV) kV_rational dc_rational pm_rational an_rational cd_rational ct_rational), sl_rational⟩) (c_rational : PySem.W.codeIn K cd_rational "rational" = true) (k_rational : PySem.W.keepIn K (.ref f_rational) = true)
    (a_add : PySem.W.nsIn K mainGlobals "add" = some (some (.ref f_add))) (l_add : K.lookup f_add = some ⟨oc_add, od_add, .func (PySem.W.fnOf "add" "add" (defArgs s_add) (defBody s_add) (defScope s_add) .none kV_add dc_add pm_add an_add cd_add ct_add), sl_add⟩) (c_add : PySem.W.codeIn K cd_add "add" = true) (k_add : PySem.W.keepIn K (.ref f_add) = true)
    (a_subtract : PySem.W.nsIn K mainGlobals "subtract" = some (some (.ref f_subtract))) (l_subtract : K.lookup f_subtract = some ⟨oc_subtract, od_subtract, .func (PySem.W.fnOf "subtract" "subtract" (defArgs s_subtract) (defBody s_subtract) (defScope s_subtract) .none kV_subtract dc_subtract pm_subtract an_subtract cd_subtract ct_subtract), sl_subtract⟩) (c_subtract : PySem.W.codeIn K cd_subtract "subtract" = true) (k_subtract : PySem.W.keepIn K (.ref f_subtract) = true)
    (a_negate : PySem.W.nsIn K mainGlobals "negate" = some (some (.ref f_negate))) (l_negate : K.lookup f_negate = some ⟨oc_negate, od_negate, .func (PySem.W.fnOf "negate" "negate" (defArgs s_negate) (defBody s_negate) (defScope s_negate) .none kV_negate dc_negate pm_negate an_negate cd_negate ct_negate), sl_negate⟩) (c_negate : PySem.W.codeIn K cd_negate "negate" = true) (k_negate : PySem.W.keepIn K (.ref f_negate) = true)
    (a_divide : PySem.W.nsIn K mainGlobals "divide" = some (some (.ref f_divide))) (l_divide : K.lookup f_divide = some ⟨oc_divide, od_divide, .func (PySem.W.fnOf "divide" "divide" (defArgs s_divide) (defBody s_divide) (defScope s_divide) .none kV_divide dc_divide pm_divide an_divide cd_divide ct_divide), sl_divide⟩) (c_divide : PySem.W.codeIn K cd_divide "divide" = true) (k_divide : PySem.W.keepIn K (.ref f_divide) = true)
    (a_compare : PySem.W.nsIn K mainGlobals "compare" = some (some (.ref f_compare))) (l_compare : K.lookup f_compare = some ⟨oc_compare, od_compare, .func (PySem.W.fnOf "compare" "compare" (defArgs s_compare) (defBody s_compare) (defScope s_compare) .none kV_compare dc_compare pm_compare an_compare cd_compare ct_compare), sl_compare⟩) (c_compare : PySem.W.codeIn K cd_compare "compare" = true) (k_compare : PySem.W.keepIn K (.ref f_compare) = true)
    (a__time_of : PySem.W.nsIn K mainGlobals "_time_of" = some (some (.ref f__time_of))) (l__time_of : K.lookup f__time_of = some ⟨oc__time_of, od__time_of, .func (PySem.W.fnOf "_time_of" "_time_of" (defArgs s__time_of) (defBody s__time_of) (defScope s__time_of) .none kV__time_of dc__time_of pm__time_of an__time_of cd__time_of ct__time_of), sl__time_of⟩) (c__time_of : PySem.W.codeIn K cd__time_of "_time_of" = true) (k__time_of : PySem.W.keepIn K (.ref f__time_of) = true)
    (a__end_of : PySem.W.nsIn K mainGlobals "_end_of" = some (some (.ref f__end_of))) (l__end_of : K.lookup f__end_of = some ⟨oc__end_of, od__end_of, .func (PySem.W.fnOf "_end_of" "_end_of" (defArgs s__end_of) (defBody s__end_of) (defScope s__end_of) .none kV__end_of dc__end_of pm__end_of an__end_of cd__end_of ct__end_of), sl__end_of⟩) (c__end_of : PySem.W.codeIn K cd__end_of "_end_of" = true) (k__end_of : PySem.W.keepIn K (.ref f__end_of) = true)
    (a_times_of : PySem.W.nsIn K mainGlobals "times_of" = some (some (.ref f_times_of))) (l_times_of : K.lookup f_times_of = some ⟨oc_times_of, od_times_of, .func (PySem.W.fnOf "times_of" "times_of" (defArgs s_times_of) (defBody s_times_of) (defScope s_times_of) .none kV_times_of dc_times_of pm_times_of an_times_of cd_times_of ct_times_of), sl_times_of⟩) (c_times_of : PySem.W.codeIn K cd_times_of "times_of" = true) (k_times_of : PySem.W.keepIn K (.ref f_times_of) = true)
    (a__law_store : PySem.W.nsIn K mainGlobals "_law_store" = some (some (.ref f__law_store))) (l__law_store : K.lookup f__law_store = some ⟨oc__law_store, od__law_store, .func (PySem.W.fnOf "_law_store" "_law_store" (defArgs s__law_store) (defBody s__law_store) (defScope s__law_store) .none kV__law_store dc__law_store pm__law_store an__law_store cd__law_store ct__law_store), sl__law_store⟩) (c__law_store : PySem.W.codeIn K cd__law_store "_law_store" = true) (k__law_store : PySem.W.keepIn K (.ref f__law_store) = true)
    (a__law_feed : PySem.W.nsIn K mainGlobals "_law_feed" = some (some (.ref f__law_feed))) (l__law_feed : K.lookup f__law_feed = some ⟨oc__law_feed, od__law_feed, .func (PySem.W.fnOf "_law_feed" "_law_feed" (defArgs s__law_feed) (defBody s__law_feed) (defScope s__law_feed) .none kV__law_feed dc__law_feed pm__law_feed an__law_feed cd__law_feed ct__law_feed), sl__law_feed⟩) (c__law_feed : PySem.W.codeIn K cd__law_feed "_law_feed" = true) (k__law_feed : PySem.W.keepIn K (.ref f__law_feed) = true)
    (a__law_mixed : PySem.W.nsIn K mainGlobals "_law_mixed" = some (some (.ref f__law_mixed))) (l__law_mixed : K.lookup f__law_mixed = some ⟨oc__law_mixed, od__law_mixed, .func (PySem.W.fnOf "_law_mixed" "_law_mixed" (defArgs s__law_mixed) (defBody s__law_mixed) (defScope s__law_mixed) .none kV__law_mixed dc__law_mixed pm__law_mixed an__law_mixed cd__law_mixed ct__law_mixed), sl__law_mixed⟩) (c__law_mixed : PySem.W.codeIn K cd__law_mixed "_law_mixed" = true) (k__law_mixed : PySem.W.keepIn K (.ref f__law_mixed) = true)
    (a__law_take : PySem.W.nsIn K mainGlobals "_law_take" = some (some (.ref f__law_take))) (l__law_take : K.lookup f__law_take = some ⟨oc__law_take, od__law_take, .func (PySem.W.fnOf "_law_take" "_law_take" (defArgs s__law_take) (defBody s__law_take) (defScope s__law_take) .none kV__law_take dc__law_take pm__law_take an__law_take cd__law_take ct__law_take), sl__law_take⟩) (c__law_take : PySem.W.codeIn K cd__law_take "_law_take" = true) (k__law_take : PySem.W.keepIn K (.ref f__law_take) = true)
    (a__law_pick : PySem.W.nsIn K mainGlobals "_law_pick" = some (some (.ref f__law_pick))) (l__law_pick : K.lookup f__law_pick = some ⟨oc__law_pick, od__law_pick, .func (PySem.W.fnOf "_law_pick" "_law_pick" (defArgs s__law_pick) (defBody s__law_pick) (defScope s__law_pick) .none kV__law_pick dc__law_pick pm__law_pick an__law_pick cd__law_pick ct__law_pick), sl__law_pick⟩) (c__law_pick : PySem.W.codeIn K cd__law_pick "_law_pick" = true) (k__law_pick : PySem.W.keepIn K (.ref f__law_pick) = true)
    (a__law_size : PySem.W.nsIn K mainGlobals "_law_size" = some (some (.ref f__law_size))) (l__law_size : K.lookup f__law_size = some ⟨oc__law_size, od__law_size, .func (PySem.W.fnOf "_law_size" "_law_size" (defArgs s__law_size) (defBody s__law_size) (defScope s__law_size) .none kV__law_size dc__law_size pm__law_size an__law_size cd__law_size ct__law_size), sl__law_size⟩) (c__law_size : PySem.W.codeIn K cd__law_size "_law_size" = true) (k__law_size : PySem.W.keepIn K (.ref f__law_size) = true)
    (a__law_is_int : PySem.W.nsIn K mainGlobals "_law_is_int" = some (some (.ref f__law_is_int))) (l__law_is_int : K.lookup f__law_is_int = some ⟨oc__law_is_int, od__law_is_int, .func (PySem.W.fnOf "_law_is_int" "_law_is_int" (defArgs s__law_is_int) (defBody s__law_is_int) (defScope s__law_is_int) .none kV__law_is_int dc__law_is_int pm__law_is_int an__law_is_int cd__law_is_int ct__law_is_int), sl__law_is_int⟩) (c__law_is_int : PySem.W.codeIn K cd__law_is_int "_law_is_int" = true) (k__law_is_int : PySem.W.keepIn K (.ref f__law_is_int) = true)
    (a__law_same : PySem.W.nsIn K mainGlobals "_law_same" = some (some (.ref f__law_same))) (l__law_same : K.lookup f__law_same = some ⟨oc__law_same, od__law_same, .func (PySem.W.fnOf "_law_same" "_law_same" (defArgs s__law_same) (defBody s__law_same) (defScope s__law_same) .none kV__law_same dc__law_same pm__law_same an__law_same cd__law_same ct__law_same), sl__law_same⟩) (c__law_same : PySem.W.codeIn K cd__law_same "_law_same" = true) (k__law_same : PySem.W.keepIn K (.ref f__law_same) = true)
    (a__law_frac : PySem.W.nsIn K mainGlobals "_law_frac" = some (some (.ref f__law_frac))) (l__law_frac : K.lookup f__law_frac = some ⟨oc__law_frac, od__law_frac, .func (PySem.W.fnOf "_law_frac" "_law_frac" (defArgs s__law_frac) (defBody s__law_frac) (defScope s__law_frac) .none kV__law_frac dc__law_frac pm__law_frac an__law_frac cd__law_frac ct__law_frac), sl__law_frac⟩) (c__law_frac : PySem.W.codeIn K cd__law_frac "_law_frac" = true) (k__law_frac : PySem.W.keepIn K (.ref f__law_frac) = true)
    (a__law_plus : PySem.W.nsIn K mainGlobals "_law_plus" = some (some (.ref f__law_plus))) (l__law_plus : K.lookup f__law_plus = some ⟨oc__law_plus, od__law_plus, .func (PySem.W.fnOf "_law_plus" "_law_plus" (defArgs s__law_plus) (defBody s__law_plus) (defScope s__law_plus) .none kV__law_plus dc__law_plus pm__law_plus an__law_plus cd__law_plus ct__law_plus), sl__law_plus⟩) (c__law_plus : PySem.W.codeIn K cd__law_plus "_law_plus" = true) (k__law_plus : PySem.W.keepIn K (.ref f__law_plus) = true)
    (a__law_minus : PySem.W.nsIn K mainGlobals "_law_minus" = some (some (.ref f__law_minus))) (l__law_minus : K.lookup f__law_minus = some ⟨oc__law_minus, od__law_minus, .func (PySem.W.fnOf "_law_minus" "_law_minus" (defArgs s__law_minus) (defBody s__law_minus) (defScope s__law_minus) .none kV__law_minus dc__law_minus pm__law_minus an__law_minus cd__law_minus ct__law_minus), sl__law_minus⟩) (c__law_minus : PySem.W.codeIn K cd__law_minus "_law_minus" = true) (k__law_minus : PySem.W.keepIn K (.ref f__law_minus) = true)
    (a__law_times : PySem.W.nsIn K mainGlobals "_law_times" = some (some (.ref f__law_times))) (l__law_times : K.lookup f__law_times = some ⟨oc__law_times, od__law_times, .func (PySem.W.fnOf "_law_times" "_law_times" (defArgs s__law_times) (defBody s__law_times) (defScope s__law_times) .none kV__law_times dc__law_times pm__law_times an__law_times cd__law_times ct__law_times), sl__law_times⟩) (c__law_times : PySem.W.codeIn K cd__law_times "_law_times" = true) (k__law_times : PySem.W.keepIn K (.ref f__law_times) = true)
    (a__law_below : PySem.W.nsIn K mainGlobals "_law_below" = some (some (.ref f__law_below))) (l__law_below : K.lookup f__law_below = some ⟨oc__law_below, od__law_below, .func (PySem.W.fnOf "_law_below" "_law_below" (defArgs s__law_below) (defBody s__law_below) (defScope s__law_below) .none kV__law_below dc__law_below pm__law_below an__law_below cd__law_below ct__law_below), sl__law_below⟩) (c__law_below : PySem.W.codeIn K cd__law_below "_law_below" = true) (k__law_below : PySem.W.keepIn K (.ref f__law_below) = true)
    (a__law_is_frac : PySem.W.nsIn K mainGlobals "_law_is_frac" = some (some (.ref f__law_is_frac))) (l__law_is_frac : K.lookup f__law_is_frac = some ⟨oc__law_is_frac, od__law_is_frac, .func (PySem.W.fnOf "_law_is_frac" "_law_is_frac" (defArgs s__law_is_frac) (defBody s__law_is_frac) (defScope s__law_is_frac) .none kV__law_is_frac dc__law_is_frac pm__law_is_frac an__law_is_frac cd__law_is_frac ct__law_is_frac), sl__law_is_frac⟩) (c__law_is_frac : PySem.W.codeIn K cd__law_is_frac "_law_is_frac" = true) (k__law_is_frac : PySem.W.keepIn K (.ref f__law_is_frac) = true)
    (a__law_ratio : PySem.W.nsIn K mainGlobals "_law_ratio" = some (some (.ref f__law_ratio))) (l__law_ratio : K.lookup f__law_ratio = some ⟨oc__law_ratio, od__law_ratio, .func (PySem.W.fnOf "_law_ratio" "_law_ratio" (defArgs s__law_ratio) (defBody s__law_ratio) (defScope s__law_ratio) .none kV__law_ratio dc__law_ratio pm__law_ratio an__law_ratio cd__law_ratio ct__law_ratio), sl__law_ratio⟩) (c__law_ratio : PySem.W.codeIn K cd__law_ratio "_law_ratio" = true) (k__law_ratio : PySem.W.keepIn K (.ref f__law_ratio) = true)
    (a__law_part : PySem.W.nsIn K mainGlobals "_law_part" = some (some (.ref f__law_part))) (l__law_part : K.lookup f__law_part = some ⟨oc__law_part, od__law_part, .func (PySem.W.fnOf "_law_part" "_law_part" (defArgs s__law_part) (defBody s__law_part) (defScope s__law_part) .none kV__law_part dc__law_part pm__law_part an__law_part cd__law_part ct__law_part), sl__law_part⟩) (c__law_part : PySem.W.codeIn K cd__law_part "_law_part" = true) (k__law_part : PySem.W.keepIn K (.ref f__law_part) = true)
    (a__law_above : PySem.W.nsIn K mainGlobals "_law_above" = some (some (.ref f__law_above))) (l__law_above : K.lookup f__law_above = some ⟨oc__law_above, od__law_above, .func (PySem.W.fnOf "_law_above" "_law_above" (defArgs s__law_above) (defBody s__law_above) (defScope s__law_above) .none kV__law_above dc__law_above pm__law_above an__law_above cd__law_above ct__law_above), sl__law_above⟩) (c__law_above : PySem.W.codeIn K cd__law_above "_law_above" = true) (k__law_above : PySem.W.keepIn K (.ref f__law_above) = true)
    (a__law_near : PySem.W.nsIn K mainGlobals "_law_near" = some (some (.ref f__law_near))) (l__law_near : K.lookup f__law_near = some ⟨oc__law_near, od__law_near, .func (PySem.W.fnOf "_law_near" "_law_near" (defArgs s__law_near) (defBody s__law_near) (defScope s__law_near) .none kV__law_near dc__law_near pm__law_near an__law_near cd__law_near ct__law_near), sl__law_near⟩) (c__law_near : PySem.W.codeIn K cd__law_near "_law_near" = true) (k__law_near : PySem.W.keepIn K (.ref f__law_near) = true)
    (a__law_ordered : PySem.W.nsIn K mainGlobals "_law_ordered" = some (some (.ref f__law_ordered))) (l__law_ordered : K.lookup f__law_ordered = some ⟨oc__law_ordered, od__law_ordered, .func (PySem.W.fnOf "_law_ordered" "_law_ordered" (defArgs s__law_ordered) (defBody s__law_ordered) (defScope s__law_ordered) .none kV__law_ordered dc__law_ordered pm__law_ordered an__law_ordered cd__law_ordered ct__law_ordered), sl__law_ordered⟩) (c__law_ordered : PySem.W.codeIn K cd__law_ordered "_law_ordered" = true) (k__law_ordered : PySem.W.keepIn K (.ref f__law_ordered) = true)
    (a__law_pace : PySem.W.nsIn K mainGlobals "_law_pace" = some (some (.ref f__law_pace))) (l__law_pace : K.lookup f__law_pace = some ⟨oc__law_pace, od__law_pace, .func (PySem.W.fnOf "_law_pace" "_law_pace" (defArgs s__law_pace) (defBody s__law_pace) (defScope s__law_pace) .none kV__law_pace dc__law_pace pm__law_pace an__law_pace cd__law_pace ct__law_pace), sl__law_pace⟩) (c__law_pace : PySem.W.codeIn K cd__law_pace "_law_pace" = true) (k__law_pace : PySem.W.keepIn K (.ref f__law_pace) = true)
    (a__law_course : PySem.W.nsIn K mainGlobals "_law_course" = some (some (.ref f__law_course))) (l__law_course : K.lookup f__law_course = some ⟨oc__law_course, od__law_course, .func (PySem.W.fnOf "_law_course" "_law_course" (defArgs s__law_course) (defBody s__law_course) (defScope s__law_course) .none kV__law_course dc__law_course pm__law_course an__law_course cd__law_course ct__law_course), sl__law_course⟩) (c__law_course : PySem.W.codeIn K cd__law_course "_law_course" = true) (k__law_course : PySem.W.keepIn K (.ref f__law_course) = true)
    (a__law_now : PySem.W.nsIn K mainGlobals "_law_now" = some (some (.ref f__law_now))) (l__law_now : K.lookup f__law_now = some ⟨oc__law_now, od__law_now, .func (PySem.W.fnOf "_law_now" "_law_now" (defArgs s__law_now) (defBody s__law_now) (defScope s__law_now) .none kV__law_now dc__law_now pm__law_now an__law_now cd__law_now ct__law_now), sl__law_now⟩) (c__law_now : PySem.W.codeIn K cd__law_now "_law_now" = true) (k__law_now : PySem.W.keepIn K (.ref f__law_now) = true)
    (a__law_wide_course : PySem.W.nsIn K mainGlobals "_law_wide_course" = some (some (.ref f__law_wide_course))) (l__law_wide_course : K.lookup f__law_wide_course = some ⟨oc__law_wide_course, od__law_wide_course, .func (PySem.W.fnOf "_law_wide_course" "_law_wide_course" (defArgs s__law_wide_course) (defBody s__law_wide_course) (defScope s__law_wide_course) .none kV__law_wide_course dc__law_wide_course pm__law_wide_course an__law_wide_course cd__law_wide_course ct__law_wide_course), sl__law_wide_course⟩) (c__law_wide_course : PySem.W.codeIn K cd__law_wide_course "_law_wide_course" = true) (k__law_wide_course : PySem.W.keepIn K (.ref f__law_wide_course) = true)
    (a__law_limit : PySem.W.nsIn K mainGlobals "_law_limit" = some (some (.ref f__law_limit))) (l__law_limit : K.lookup f__law_limit = some ⟨oc__law_limit, od__law_limit, .func (PySem.W.fnOf "_law_limit" "_law_limit" (defArgs s__law_limit) (defBody s__law_limit) (defScope s__law_limit) .none kV__law_limit dc__law_limit pm__law_limit an__law_limit cd__law_limit ct__law_limit), sl__law_limit⟩) (c__law_limit : PySem.W.codeIn K cd__law_limit "_law_limit" = true) (k__law_limit : PySem.W.keepIn K (.ref f__law_limit) = true)
    (a__law_times_right : PySem.W.nsIn K mainGlobals "_law_times_right" = some (some (.ref f__law_times_right))) (l__law_times_right : K.lookup f__law_times_right = some ⟨oc__law_times_right, od__law_times_right, .func (PySem.W.fnOf "_law_times_right" "_law_times_right" (defArgs s__law_times_right) (defBody s__law_times_right) (defScope s__law_times_right) .none kV__law_times_right dc__law_times_right pm__law_times_right an__law_times_right cd__law_times_right ct__law_times_right), sl__law_times_right⟩) (c__law_times_right : PySem.W.codeIn K cd__law_times_right "_law_times_right" = true) (k__law_times_right : PySem.W.keepIn K (.ref f__law_times_right) = true)
    (a__law_values_about : PySem.W.nsIn K mainGlobals "_law_values_about" = some (some (.ref f__law_values_about))) (l__law_values_about : K.lookup f__law_values_about = some ⟨oc__law_values_about, od__law_values_about, .func (PySem.W.fnOf "_law_values_about" "_law_values_about" (defArgs s__law_values_about) (defBody s__law_values_about) (defScope s__law_values_about) .none kV__law_values_about dc__law_values_about pm__law_values_about an__law_values_about cd__law_values_about ct__law_values_about), sl__law_values_about⟩) (c__law_values_about : PySem.W.codeIn K cd__law_values_about "_law_values_about" = true) (k__law_values_about : PySem.W.keepIn K (.ref f__law_values_about) = true)
    (a_law : PySem.W.nsIn K mainGlobals "law" = some (some (.ref f_law))) (l_law : K.lookup f_law = some ⟨oc_law, od_law, .func (PySem.W.fnOf "law" "law" (defArgs s_law) (defBody s_law) (defScope s_law) .none kV_law dc_law pm_law an_law cd_law ct_law), sl_law⟩) (c_law : PySem.W.codeIn K cd_law "law" = true) (k_law : PySem.W.keepIn K (.ref f_law) = true)
    (zgcd : PySem.W.nsIn K mainGlobals "gcd" = some (some (.builtin "math.gcd")))
    (zlen : PySem.W.nsIn K mainGlobals "len" = some none)
    (zabs : PySem.W.nsIn K mainGlobals "abs" = some none)
    (zmax : PySem.W.nsIn K mainGlobals "max" = some none)
    (zint : PySem.W.nsIn K mainGlobals "int" = some none)
    (zisinstance : PySem.W.nsIn K mainGlobals "isinstance" = some none)
    (zrange : PySem.W.nsIn K mainGlobals "range" = some none)
    (zenumerate : PySem.W.nsIn K mainGlobals "enumerate" = some none)
    (zlist : PySem.W.nsIn K mainGlobals "list" = some none)
    (ztuple : PySem.W.nsIn K mainGlobals "tuple" = some none)
    (zstr : PySem.W.nsIn K mainGlobals "str" = some none)
    (zbool : PySem.W.nsIn K mainGlobals "bool" = some none)
    (zdict : PySem.W.nsIn K mainGlobals "dict" = some none)
    : ∃ fd : FuncData, (∀ (s : Shared) (v : Value), BindsTo s fd ⟨[v], []⟩ [("_law_script", v)]) ∧ ∀ base : Heap, K.In base → base.Ns mainGlobals mg → FnOk l.prog w K mg base CX0 6 fa fd ["_law_script"] (spLaw K) := by
  have e := hfa.symm.trans (PySem.W.mg_of X G a_law)
  cases e
  have T : Bn mg := ⟨PySem.W.mg_of X G zgcd, PySem.W.mg_none_of X G zlen, PySem.W.mg_none_of X G zabs, PySem.W.mg_none_of X G zmax, PySem.W.mg_none_of X G zint, PySem.W.mg_none_of X G zisinstance, PySem.W.mg_none_of X G zrange, PySem.W.mg_none_of X G zenumerate, PySem.W.mg_none_of X G zlist, PySem.W.mg_none_of X G ztuple, PySem.W.mg_none_of X G zstr, PySem.W.mg_none_of X G zbool, PySem.W.mg_none_of X G zdict⟩
  have hR : FunD K "rational" "rational" (defArgs s_rational) (defBody s_rational) (defScope s_rational) [.int 1] [] f_rational _ := ⟨⟨_, _, _, _, _, _, _, _, _, _, rfl, l_rational, c_rational, .inr ⟨nofun, dV, _, [.int 1 dtk], dn, rfl, ldf, rfl, .cons ⟨dtk, rfl⟩ .nil⟩, .inl rfl⟩, k_rational⟩
  obtain ⟨ds, rds, bR⟩ := hR.binds1 (ps := ["n", "d"]) 2 1 nofun rfl fun T kV doc pm an cdv ct us its hu hi => match us, its, hu, hi with | [_, _], [_], _, _ => ⟨_, rfl, rfl⟩
  cases rds
  have F_add := fun_mk (st := s_add) l_add c_add k_add
  have B_add := F_add.binds (ps := ["a", "b"]) fun _ _ _ _ _ _ us hl => match us, hl with | [_, _], _ => rfl
  have F_subtract := fun_mk (st := s_subtract) l_subtract c_subtract k_subtract
  have B_subtract := F_subtract.binds (ps := ["a", "b"]) fun _ _ _ _ _ _ us hl => match us, hl with | [_, _], _ => rfl
  have F_negate := fun_mk (st := s_negate) l_negate c_negate k_negate
  have B_negate := F_negate.binds (ps := ["a"]) fun _ _ _ _ _ _ us hl => match us, hl with | [_], _ => rfl
  have F_divide := fun_mk (st := s_divide) l_divide c_divide k_divide
  have B_divide := F_divide.binds (ps := ["a", "b"]) fun _ _ _ _ _ _ us hl => match us, hl with | [_, _], _ => rfl
  have F_compare := fun_mk (st := s_compare) l_compare c_compare k_compare
  have B_compare := F_compare.binds (ps := ["a", "b"]) fun _ _ _ _ _ _ us hl => match us, hl with | [_, _], _ => rfl
  have F__time_of := fun_mk (st := s__time_of) l__time_of c__time_of k__time_of
  have B__time_of := F__time_of.binds (ps := ["piece", "reading"]) fun _ _ _ _ _ _ us hl => match us, hl with | [_, _], _ => rfl
  have F__end_of := fun_mk (st := s__end_of) l__end_of c__end_of k__end_of
  have B__end_of := F__end_of.binds (ps := ["course", "at"]) fun _ _ _ _ _ _ us hl => match us, hl with | [_, _], _ => rfl
  have F_times_of := fun_mk (st := s_times_of) l_times_of c_times_of k_times_of
  have B_times_of := F_times_of.binds (ps := ["course", "reading"]) fun _ _ _ _ _ _ us hl => match us, hl with | [_, _], _ => rfl
  have F__law_store := fun_mk (st := s__law_store) l__law_store c__law_store k__law_store
  have B__law_store := F__law_store.binds (ps := ["_law_script"]) fun _ _ _ _ _ _ us hl => match us, hl with | [_], _ => rfl
  have F__law_feed := fun_mk (st := s__law_feed) l__law_feed c__law_feed k__law_feed
  have B__law_feed := F__law_feed.binds (ps := ["_law_store_here"]) fun _ _ _ _ _ _ us hl => match us, hl with | [_], _ => rfl
  have F__law_mixed := fun_mk (st := s__law_mixed) l__law_mixed c__law_mixed k__law_mixed
  have B__law_mixed := F__law_mixed.binds (ps := ["_law_store_here"]) fun _ _ _ _ _ _ us hl => match us, hl with | [_], _ => rfl
  have F__law_take := fun_mk (st := s__law_take) l__law_take c__law_take k__law_take
  have B__law_take := F__law_take.binds (ps := ["_law_store_here", "_law_many"]) fun _ _ _ _ _ _ us hl => match us, hl with | [_, _], _ => rfl
  have F__law_pick := fun_mk (st := s__law_pick) l__law_pick c__law_pick k__law_pick
  have B__law_pick := F__law_pick.binds (ps := ["_law_store_here", "_law_things"]) fun _ _ _ _ _ _ us hl => match us, hl with | [_, _], _ => rfl
  have F__law_size := fun_mk (st := s__law_size) l__law_size c__law_size k__law_size
  have B__law_size := F__law_size.binds (ps := ["_law_store_here", "_law_least", "_law_top"]) fun _ _ _ _ _ _ us hl => match us, hl with | [_, _, _], _ => rfl
  have F__law_is_int := fun_mk (st := s__law_is_int) l__law_is_int c__law_is_int k__law_is_int
  have B__law_is_int := F__law_is_int.binds (ps := ["_law_value"]) fun _ _ _ _ _ _ us hl => match us, hl with | [_], _ => rfl
  have F__law_same := fun_mk (st := s__law_same) l__law_same c__law_same k__law_same
  have B__law_same := F__law_same.binds (ps := ["_law_value", "_law_due"]) fun _ _ _ _ _ _ us hl => match us, hl with | [_, _], _ => rfl
  have F__law_frac := fun_mk (st := s__law_frac) l__law_frac c__law_frac k__law_frac
  have B__law_frac := F__law_frac.binds (ps := ["_law_n", "_law_d"]) fun _ _ _ _ _ _ us hl => match us, hl with | [_, _], _ => rfl
  have F__law_plus := fun_mk (st := s__law_plus) l__law_plus c__law_plus k__law_plus
  have B__law_plus := F__law_plus.binds (ps := ["_law_a", "_law_b"]) fun _ _ _ _ _ _ us hl => match us, hl with | [_, _], _ => rfl
  have F__law_minus := fun_mk (st := s__law_minus) l__law_minus c__law_minus k__law_minus
  have B__law_minus := F__law_minus.binds (ps := ["_law_a", "_law_b"]) fun _ _ _ _ _ _ us hl => match us, hl with | [_, _], _ => rfl
  have F__law_times := fun_mk (st := s__law_times) l__law_times c__law_times k__law_times
  have B__law_times := F__law_times.binds (ps := ["_law_a", "_law_b"]) fun _ _ _ _ _ _ us hl => match us, hl with | [_, _], _ => rfl
  have F__law_below := fun_mk (st := s__law_below) l__law_below c__law_below k__law_below
  have B__law_below := F__law_below.binds (ps := ["_law_a", "_law_b"]) fun _ _ _ _ _ _ us hl => match us, hl with | [_, _], _ => rfl
  have F__law_is_frac := fun_mk (st := s__law_is_frac) l__law_is_frac c__law_is_frac k__law_is_frac
  have B__law_is_frac := F__law_is_frac.binds (ps := ["_law_value"]) fun _ _ _ _ _ _ us hl => match us, hl with | [_], _ => rfl
  have F__law_ratio := fun_mk (st := s__law_ratio) l__law_ratio c__law_ratio k__law_ratio
  have B__law_ratio := F__law_ratio.binds (ps := ["_law_store_here", "_law_top"]) fun _ _ _ _ _ _ us hl => match us, hl with | [_, _], _ => rfl
  have F__law_part := fun_mk (st := s__law_part) l__law_part c__law_part k__law_part
  have B__law_part := F__law_part.binds (ps := ["_law_store_here"]) fun _ _ _ _ _ _ us hl => match us, hl with | [_], _ => rfl
  have F__law_above := fun_mk (st := s__law_above) l__law_above c__law_above k__law_above
  have B__law_above := F__law_above.binds (ps := ["_law_store_here"]) fun _ _ _ _ _ _ us hl => match us, hl with | [_], _ => rfl
  have F__law_near := fun_mk (st := s__law_near) l__law_near c__law_near k__law_near
  have B__law_near := F__law_near.binds (ps := ["_law_store_here", "_law_value"]) fun _ _ _ _ _ _ us hl => match us, hl with | [_, _], _ => rfl
  have F__law_ordered := fun_mk (st := s__law_ordered) l__law_ordered c__law_ordered k__law_ordered
  have B__law_ordered := F__law_ordered.binds (ps := ["_law_fracs"]) fun _ _ _ _ _ _ us hl => match us, hl with | [_], _ => rfl
  have F__law_pace := fun_mk (st := s__law_pace) l__law_pace c__law_pace k__law_pace
  have B__law_pace := F__law_pace.binds (ps := ["_law_store_here"]) fun _ _ _ _ _ _ us hl => match us, hl with | [_], _ => rfl
  have F__law_course := fun_mk (st := s__law_course) l__law_course c__law_course k__law_course
  have B__law_course := F__law_course.binds (ps := ["_law_store_here", "_law_many", "_law_fall"]) fun _ _ _ _ _ _ us hl => match us, hl with | [_, _, _], _ => rfl
  have F__law_now := fun_mk (st := s__law_now) l__law_now c__law_now k__law_now
  have B__law_now := F__law_now.binds (ps := ["_law_course_here", "_law_t"]) fun _ _ _ _ _ _ us hl => match us, hl with | [_, _], _ => rfl
  have F__law_wide_course := fun_mk (st := s__law_wide_course) l__law_wide_course c__law_wide_course k__law_wide_course
  have B__law_wide_course := F__law_wide_course.binds (ps := ["_law_store_here"]) fun _ _ _ _ _ _ us hl => match us, hl with | [_], _ => rfl
  have F__law_limit := fun_mk (st := s__law_limit) l__law_limit c__law_limit k__law_limit
  have B__law_limit := F__law_limit.binds (ps := ["_law_course_here", "_law_k"]) fun _ _ _ _ _ _ us hl => match us, hl with | [_, _], _ => rfl
  have F__law_times_right := fun_mk (st := s__law_times_right) l__law_times_right c__law_times_right k__law_times_right
  have B__law_times_right := F__law_times_right.binds (ps := ["_law_course_here", "_law_reading", "_law_told"]) fun _ _ _ _ _ _ us hl => match us, hl with | [_, _, _], _ => rfl
  have F__law_values_about := fun_mk (st := s__law_values_about) l__law_values_about c__law_values_about k__law_values_about
  have B__law_values_about := F__law_values_about.binds (ps := ["_law_store_here", "_law_course_here"]) fun _ _ _ _ _ _ us hl => match us, hl with | [_, _], _ => rfl
  have F_law := fun_mk (st := s_law) l_law c_law k_law
  have B_law := F_law.binds (ps := ["_law_script"]) fun _ _ _ _ _ _ us hl => match us, hl with | [_], _ => rfl
  refine ⟨PySem.W.fnOf "law" "law" (defArgs s_law) (defBody s_law) (defScope s_law) .none kV_law dc_law pm_law an_law cd_law ct_law, fun s v => .of_eq rfl, fun base _ _ => ?_⟩
  exact law_ok T ⟨⟨_, _, _, _, _, _, _, _, _, _, rfl, l_rational, c_rational⟩, k_rational⟩ (PySem.W.mg_of X G a_rational) bR
    ⟨F_add, PySem.W.mg_of X G a_add, B_add⟩
    ⟨F_subtract, PySem.W.mg_of X G a_subtract, B_subtract⟩
    ⟨F_negate, PySem.W.mg_of X G a_negate, B_negate⟩
    ⟨F_divide, PySem.W.mg_of X G a_divide, B_divide⟩
    ⟨F_compare, PySem.W.mg_of X G a_compare, B_compare⟩
    ⟨F__time_of, PySem.W.mg_of X G a__time_of, B__time_of⟩
    ⟨F__end_of, PySem.W.mg_of X G a__end_of, B__end_of⟩
    ⟨F_times_of, PySem.W.mg_of X G a_times_of, B_times_of⟩
    ⟨F__law_store, PySem.W.mg_of X G a__law_store, B__law_store⟩
    ⟨F__law_feed, PySem.W.mg_of X G a__law_feed, B__law_feed⟩
    ⟨F__law_mixed, PySem.W.mg_of X G a__law_mixed, B__law_mixed⟩
    ⟨F__law_take, PySem.W.mg_of X G a__law_take, B__law_take⟩
    ⟨F__law_pick, PySem.W.mg_of X G a__law_pick, B__law_pick⟩
    ⟨F__law_size, PySem.W.mg_of X G a__law_size, B__law_size⟩
    ⟨F__law_is_int, PySem.W.mg_of X G a__law_is_int, B__law_is_int⟩
    ⟨F__law_same, PySem.W.mg_of X G a__law_same, B__law_same⟩
    ⟨F__law_frac, PySem.W.mg_of X G a__law_frac, B__law_frac⟩
    ⟨F__law_plus, PySem.W.mg_of X G a__law_plus, B__law_plus⟩
    ⟨F__law_minus, PySem.W.mg_of X G a__law_minus, B__law_minus⟩
    ⟨F__law_times, PySem.W.mg_of X G a__law_times, B__law_times⟩
    ⟨F__law_below, PySem.W.mg_of X G a__law_below, B__law_below⟩
    ⟨F__law_is_frac, PySem.W.mg_of X G a__law_is_frac, B__law_is_frac⟩
    ⟨F__law_ratio, PySem.W.mg_of X G a__law_ratio, B__law_ratio⟩
    ⟨F__law_part, PySem.W.mg_of X G a__law_part, B__law_part⟩
    ⟨F__law_above, PySem.W.mg_of X G a__law_above, B__law_above⟩
    ⟨F__law_near, PySem.W.mg_of X G a__law_near, B__law_near⟩
    ⟨F__law_ordered, PySem.W.mg_of X G a__law_ordered, B__law_ordered⟩
    ⟨F__law_pace, PySem.W.mg_of X G a__law_pace, B__law_pace⟩
    ⟨F__law_course, PySem.W.mg_of X G a__law_course, B__law_course⟩
    ⟨F__law_now, PySem.W.mg_of X G a__law_now, B__law_now⟩
    ⟨F__law_wide_course, PySem.W.mg_of X G a__law_wide_course, B__law_wide_course⟩
    ⟨F__law_limit, PySem.W.mg_of X G a__law_limit, B__law_limit⟩
    ⟨F__law_times_right, PySem.W.mg_of X G a__law_times_right, B__law_times_right⟩
    ⟨F__law_values_about, PySem.W.mg_of X G a__law_values_about, B__law_values_about⟩
    ⟨F_law, PySem.W.mg_of X G a_law, B_law⟩
theorem walk {l : PySem.W.OpenLaw} {q : Program} {loose : List Str} {XP : (Str → Option Value) → Heap → Prop} {YP : World → Heap → Prop} {d : DefRec} {K : Params → PySem.W.Frag} (hn : l.most = some 63) (hdf : d.params.defaults = [])
    (hY : ∀ (w : World) (h : Heap), YP w h → (K w.params).In h)
    (F : ∀ (w : World) (mg : Str → Option Value) (fa : Addr) (h : Heap), (K w.params).In h → h.Ns mainGlobals mg → mg d.name = some (.ref fa) →
      ∃ fd : FuncData, (∀ (s : Shared) (u : Value), BindsTo s fd ⟨[u], []⟩ [("_law_script", u)]) ∧ ∀ base : Heap, (K w.params).In base → base.Ns mainGlobals mg → FnOk l.prog w (K w.params) mg base CX0 6 fa fd ["_law_script"] (spLaw (K w.params))) :
    PySem.W.WalkO q loose XP YP l.row.toRowW d [] (fun f vs => PySem.call f vs) :=
  L2.walk_of (n := 63) (k := 6) (x := "_law_script") (CX := fun _ => CX0) (sp := fun w => spLaw (K w.params)) hn (by decide) hdf ⟨rfl, by decide, by decide⟩ hY F (fun _ _ a ns hl _ hS => ⟨a, ns, rfl, hS, hl, fun _ => rfl⟩) fun _ _ _ _ _ z => z
end Vk
open PySem PySem.W PyProof.Rows
set_option maxRecDepth 100000 in
set_option maxHeartbeats 0 in
theorem PySem.Challenge.cw_clockverdict_k07_times_of_a_reading_holds : PySem.Challenge.rw_clockverdict_k07_times_of_a_reading.Holds := by
  w_on; o_law; k_head; (case hw => w_witness2)
  k_fill
  refine Vk.walk (l := PySem.Challenge.rw_clockverdict_k07_times_of_a_reading) rfl rfl (fun w h Y => PySem.W.kIn_of Y) ?F
  case F =>
    intro w mg fa h KX G hmg
    refine' Vk.all_mk KX G hmg ?ldf ?a_rational ?l_rational ?c_rational ?k_rational ?a_add ?l_add ?c_add ?k_add ?a_subtract ?l_subtract ?c_subtract ?k_subtract ?a_negate ?l_negate ?c_negate ?k_negate ?a_divide ?l_divide ?c_divide ?k_divide ?a_compare ?l_compare ?c_compare ?k_compare ?a__time_of ?l__time_of ?c__time_of ?k__time_of ?a__end_of ?l__end_of ?c__end_of ?k__end_of ?a_times_of ?l_times_of ?c_times_of ?k_times_of ?a__law_store ?l__law_store ?c__law_store ?k__law_store ?a__law_feed ?l__law_feed ?c__law_feed ?k__law_feed ?a__law_mixed ?l__law_mixed ?c__law_mixed ?k__law_mixed ?a__law_take ?l__law_take ?c__law_take ?k__law_take ?a__law_pick ?l__law_pick ?c__law_pick ?k__law_pick ?a__law_size ?l__law_size ?c__law_size ?k__law_size ?a__law_is_int ?l__law_is_int ?c__law_is_int ?k__law_is_int ?a__law_same ?l__law_same ?c__law_same ?k__law_same ?a__law_frac ?l__law_frac ?c__law_frac ?k__law_frac ?a__law_plus ?l__law_plus ?c__law_plus ?k__law_plus ?a__law_minus ?l__law_minus ?c__law_minus ?k__law_minus ?a__law_times ?l__law_times ?c__law_times ?k__law_times ?a__law_below ?l__law_below ?c__law_below ?k__law_below ?a__law_is_frac ?l__law_is_frac ?c__law_is_frac ?k__law_is_frac ?a__law_ratio ?l__law_ratio ?c__law_ratio ?k__law_ratio ?a__law_part ?l__law_part ?c__law_part ?k__law_part ?a__law_above ?l__law_above ?c__law_above ?k__law_above ?a__law_near ?l__law_near ?c__law_near ?k__law_near ?a__law_ordered ?l__law_ordered ?c__law_ordered ?k__law_ordered ?a__law_pace ?l__law_pace ?c__law_pace ?k__law_pace ?a__law_course ?l__law_course ?c__law_course ?k__law_course ?a__law_now ?l__law_now ?c__law_now ?k__law_now ?a__law_wide_course ?l__law_wide_course ?c__law_wide_course ?k__law_wide_course ?a__law_limit ?l__law_limit ?c__law_limit ?k__law_limit ?a__law_times_right ?l__law_times_right ?c__law_times_right ?k__law_times_right ?a__law_values_about ?l__law_values_about ?c__law_values_about ?k__law_values_about ?a_law ?l_law ?c_law ?k_law ?zgcd ?zlen ?zabs ?zmax ?zint ?zisinstance ?zrange ?zenumerate ?zlist ?ztuple ?zstr ?zbool ?zdict
    (case a_rational => k_is); (case l_rational => k_is); (case c_rational => k_is); (case k_rational => k_is)
    (case a_add => k_is); (case l_add => k_is); (case c_add => k_is); (case k_add => k_is)
    (case a_subtract => k_is); (case l_subtract => k_is); (case c_subtract => k_is); (case k_subtract => k_is)
    (case a_negate => k_is); (case l_negate => k_is); (case c_negate => k_is); (case k_negate => k_is)
    (case a_divide => k_is); (case l_divide => k_is); (case c_divide => k_is); (case k_divide => k_is)
    (case a_compare => k_is); (case l_compare => k_is); (case c_compare => k_is); (case k_compare => k_is)
    (case a__time_of => k_is); (case l__time_of => k_is); (case c__time_of => k_is); (case k__time_of => k_is)
    (case a__end_of => k_is); (case l__end_of => k_is); (case c__end_of => k_is); (case k__end_of => k_is)
    (case a_times_of => k_is); (case l_times_of => k_is); (case c_times_of => k_is); (case k_times_of => k_is)
    (case a__law_store => k_is); (case l__law_store => k_is); (case c__law_store => k_is); (case k__law_store => k_is)
    (case a__law_feed => k_is); (case l__law_feed => k_is); (case c__law_feed => k_is); (case k__law_feed => k_is)
    (case a__law_mixed => k_is); (case l__law_mixed => k_is); (case c__law_mixed => k_is); (case k__law_mixed => k_is)
    (case a__law_take => k_is); (case l__law_take => k_is); (case c__law_take => k_is); (case k__law_take => k_is)
    (case a__law_pick => k_is); (case l__law_pick => k_is); (case c__law_pick => k_is); (case k__law_pick => k_is)
    (case a__law_size => k_is); (case l__law_size => k_is); (case c__law_size => k_is); (case k__law_size => k_is)
    (case a__law_is_int => k_is); (case l__law_is_int => k_is); (case c__law_is_int => k_is); (case k__law_is_int => k_is)
    (case a__law_same => k_is); (case l__law_same => k_is); (case c__law_same => k_is); (case k__law_same => k_is)
    (case a__law_frac => k_is); (case l__law_frac => k_is); (case c__law_frac => k_is); (case k__law_frac => k_is)
    (case a__law_plus => k_is); (case l__law_plus => k_is); (case c__law_plus => k_is); (case k__law_plus => k_is)
    (case a__law_minus => k_is); (case l__law_minus => k_is); (case c__law_minus => k_is); (case k__law_minus => k_is)
    (case a__law_times => k_is); (case l__law_times => k_is); (case c__law_times => k_is); (case k__law_times => k_is)
    (case a__law_below => k_is); (case l__law_below => k_is); (case c__law_below => k_is); (case k__law_below => k_is)
    (case a__law_is_frac => k_is); (case l__law_is_frac => k_is); (case c__law_is_frac => k_is); (case k__law_is_frac => k_is)
    (case a__law_ratio => k_is); (case l__law_ratio => k_is); (case c__law_ratio => k_is); (case k__law_ratio => k_is)
    (case a__law_part => k_is); (case l__law_part => k_is); (case c__law_part => k_is); (case k__law_part => k_is)
    (case a__law_above => k_is); (case l__law_above => k_is); (case c__law_above => k_is); (case k__law_above => k_is)
    (case a__law_near => k_is); (case l__law_near => k_is); (case c__law_near => k_is); (case k__law_near => k_is)
    (case a__law_ordered => k_is); (case l__law_ordered => k_is); (case c__law_ordered => k_is); (case k__law_ordered => k_is)
    (case a__law_pace => k_is); (case l__law_pace => k_is); (case c__law_pace => k_is); (case k__law_pace => k_is)
    (case a__law_course => k_is); (case l__law_course => k_is); (case c__law_course => k_is); (case k__law_course => k_is)
    (case a__law_now => k_is); (case l__law_now => k_is); (case c__law_now => k_is); (case k__law_now => k_is)
    (case a__law_wide_course => k_is); (case l__law_wide_course => k_is); (case c__law_wide_course => k_is); (case k__law_wide_course => k_is)
    (case a__law_limit => k_is); (case l__law_limit => k_is); (case c__law_limit => k_is); (case k__law_limit => k_is)
    (case a__law_times_right => k_is); (case l__law_times_right => k_is); (case c__law_times_right => k_is); (case k__law_times_right => k_is)
    (case a__law_values_about => k_is); (case l__law_values_about => k_is); (case c__law_values_about => k_is); (case k__law_values_about => k_is)
    (case a_law => k_is); (case l_law => k_is); (case c_law => k_is); (case k_law => k_is)
    (case ldf => k_is); (case zgcd => k_is)
    (case zlen => k_is)
    (case zabs => k_is)
    (case zmax => k_is)
    (case zint => k_is)
    (case zisinstance => k_is)
    (case zrange => k_is)
    (case zenumerate => k_is)
    (case zlist => k_is)
    (case ztuple => k_is)
    (case zstr => k_is)
    (case zbool => k_is)
    (case zdict => k_is)

