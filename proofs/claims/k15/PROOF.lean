import PyProof.Rows.All
import Wide.All
import OpenK.AllK
import Wide.FinOn
import HandS.ForMost
import HandS.Wide
import HandS.Gcd
import HandS.IsInst
import HandS.Deep
import HandS.Flow
import HandS.More
import HandS.SetFor
import HandS.Defaults
import PySem.Challenge.RW_clockverdict_k15_offset_span
set_option Elab.async false
set_option linter.all false
set_option maxRecDepth 100000
namespace Vm
/-! ### sizes of rationals -/
def Sz (k : Nat) (q : Rat) : Prop := q.num.natAbs < 2 ^ k ∧ q.den < 2 ^ k
theorem Sz.mono {a b : Nat} {q : Rat} (h : Sz a q) (l : a ≤ b) : Sz b q :=
  ⟨Nat.lt_of_lt_of_le h.1 (Nat.pow_le_pow_right (by decide) l), Nat.lt_of_lt_of_le h.2 (Nat.pow_le_pow_right (by decide) l)⟩
theorem mk_num (n : Int) {d : Nat} (hd : d ≠ 0) : (mkRat n d).num = n / ((Nat.gcd n.natAbs d : Nat) : Int) := by
  rw [Rat.num_mkRat, if_neg hd, Nat.gcd_comm]
theorem mk_den (n : Int) {d : Nat} (hd : d ≠ 0) : (mkRat n d).den = d / Nat.gcd n.natAbs d := by
  rw [Rat.den_mkRat, if_neg hd, Nat.gcd_comm]
theorem sz_mk {n : Int} {d k : Nat} (h : d ≠ 0) (hn : n.natAbs < 2 ^ k) (hd : d < 2 ^ k) : Sz k (mkRat n d) := by
  have e : ∀ (z : Int) (g : Nat), (z / (g : Int)).natAbs ≤ z.natAbs := fun z g => Int.natAbs_ediv_le_natAbs z g
  exact ⟨by rw [mk_num n h]; exact Nat.lt_of_le_of_lt (e _ _) hn, by rw [mk_den n h]; exact Nat.lt_of_le_of_lt (Nat.div_le_self _ _) hd⟩
theorem lt_mul {a b i j : Nat} (h : a < 2 ^ i) (l : b < 2 ^ j) : a * b < 2 ^ (i + j) := by
  rw [Nat.pow_add]
  exact Nat.mul_lt_mul'' h l
theorem Sz.add {a b : Nat} {p q : Rat} (h : Sz a p) (l : Sz b q) : Sz (a + b + 1) (p + q) := by
  rw [Rat.add_def']
  have h1 := lt_mul h.1 l.2
  have h2 := lt_mul l.1 h.2
  have h3 := lt_mul h.2 l.2
  rw [Nat.add_comm b a] at h2
  refine sz_mk (Nat.ne_of_gt (Nat.mul_pos p.den_pos q.den_pos)) ?_ ?_
  · rw [Nat.pow_succ]
    have q1 := Int.natAbs_add_le (p.num * q.den) (q.num * p.den)
    rw [Int.natAbs_mul, Int.natAbs_mul, Int.natAbs_natCast, Int.natAbs_natCast] at q1
    omega
  · rw [Nat.pow_succ]
    omega
theorem Sz.neg {a : Nat} {p : Rat} (h : Sz a p) : Sz a (-p) := ⟨by rw [Rat.neg_num, Int.natAbs_neg]; exact h.1, h.2⟩
theorem Sz.sub {a b : Nat} {p q : Rat} (h : Sz a p) (l : Sz b q) : Sz (a + b + 1) (p - q) := by
  rw [Rat.sub_eq_add_neg]
  exact h.add l.neg
theorem Sz.mul {a b : Nat} {p q : Rat} (h : Sz a p) (l : Sz b q) : Sz (a + b) (p * q) := by
  rw [Rat.mul_def']
  refine sz_mk (Nat.ne_of_gt (Nat.mul_pos p.den_pos q.den_pos)) ?_ (lt_mul h.2 l.2)
  rw [Int.natAbs_mul]
  exact lt_mul h.1 l.1
theorem num_pos {q : Rat} (h : 0 < q) : 0 < q.num := by
  have z := (Rat.lt_iff 0 q).mp h
  simp at z
  exact z
theorem pos_of_num {q : Rat} (h : 0 < q.num) : 0 < q := by
  rw [Rat.lt_iff]
  simp
  exact h
theorem Sz.inv {a : Nat} {q : Rat} (h : Sz a q) (hq : 0 < q) : Sz a q⁻¹ := by
  have hn := num_pos hq
  refine ⟨?_, ?_⟩
  · rw [Rat.num_inv, Int.sign_eq_one_of_pos hn, Int.one_mul, Int.natAbs_natCast]
    exact h.2
  · rw [Rat.den_inv, if_neg (by omega)]
    exact h.1
theorem Sz.div {a b : Nat} {p q : Rat} (h : Sz a p) (l : Sz b q) (hq : 0 < q) : Sz (a + b) (p / q) := by
  rw [Rat.div_def]
  exact h.mul (l.inv hq)
/-! ### normal forms -/
theorem nf {n : Int} {d : Nat} (hd : d ≠ 0) (hc : Nat.gcd n.natAbs d = 1) : (mkRat n d).num = n ∧ (mkRat n d).den = d := by
  rw [mk_num n hd, mk_den n hd, hc]
  simp
theorem div_mk (p q : Rat) (hq : 0 < q) : p / q = mkRat (p.num * q.den) (p.den * q.num.toNat) := by
  have hn := num_pos hq
  rw [Rat.div_def, Rat.mul_def', Rat.num_inv, Rat.den_inv, if_neg (by omega), Int.sign_eq_one_of_pos hn, Int.one_mul]
  congr 2
  omega
/-- the sum by the divisors of the denominators alone -/
theorem add_parts (a b : Rat) (g f : Nat) (n : Int) (r : Nat) (hg : g = Nat.gcd a.den b.den) (hf : f = b.den / g) (hn : n = a.num * f + b.num * ((a.den / g : Nat) : Int)) (hr : r = Nat.gcd n.natAbs g) :
    (a + b).num = n / (r : Int) ∧ (a + b).den = a.den / r * f := by
  have gp : 0 < g := by rw [hg]; exact Nat.gcd_pos_of_pos_left _ a.den_pos
  obtain ⟨u, hu⟩ : g ∣ a.den := by rw [hg]; exact Nat.gcd_dvd_left _ _
  obtain ⟨v, hv⟩ : g ∣ b.den := by rw [hg]; exact Nat.gcd_dvd_right _ _
  have eu : a.den / g = u := by rw [hu]; exact Nat.mul_div_cancel_left _ gp
  have ev : f = v := by rw [hf, hv]; exact Nat.mul_div_cancel_left _ gp
  subst ev
  rw [eu] at hn
  have up : 0 < u := Nat.pos_of_ne_zero fun z => by rw [z, Nat.mul_zero] at hu; exact absurd hu (Nat.ne_of_gt a.den_pos)
  have fp : 0 < f := Nat.pos_of_ne_zero fun z => by rw [z, Nat.mul_zero] at hv; exact absurd hv (Nat.ne_of_gt b.den_pos)
  have cuf : Nat.Coprime u f := by
    have z : g * Nat.gcd u f = g := by rw [← Nat.gcd_mul_left, ← hu, ← hv, ← hg]
    exact Nat.eq_of_mul_eq_mul_left gp (by rw [z, Nat.mul_one])
  have ca : Nat.Coprime a.num.natAbs u := (Nat.Coprime.coprime_dvd_right ⟨g, by rw [hu, Nat.mul_comm]⟩ a.reduced)
  have cb : Nat.Coprime b.num.natAbs f := (Nat.Coprime.coprime_dvd_right ⟨g, by rw [hv, Nat.mul_comm]⟩ b.reduced)
  have key : ∀ (x y z : Int) (m : Nat), x = y + z * m → Nat.gcd x.natAbs m = Nat.gcd y.natAbs m := by
    intro x y z m h
    have e : ∀ t : Int, Nat.gcd t.natAbs m = Int.gcd t m := fun t => by rw [Int.gcd]; simp
    rw [e, e, h, Int.gcd_add_mul_right_left]
  have cnu : Nat.Coprime n.natAbs u := by
    have z := key n (a.num * f) b.num u hn
    unfold Nat.Coprime
    rw [z, Int.natAbs_mul, Int.natAbs_natCast]
    exact Nat.Coprime.mul_left ca cuf.symm
  have cnf : Nat.Coprime n.natAbs f := by
    have z := key n (b.num * u) a.num f (by rw [hn, Int.add_comm])
    unfold Nat.Coprime
    rw [z, Int.natAbs_mul, Int.natAbs_natCast]
    exact Nat.Coprime.mul_left cb cuf
  have cn : Nat.Coprime n.natAbs (u * f) := Nat.Coprime.mul_right cnu cnf
  have er : Nat.gcd n.natAbs (g * (u * f)) = r := by
    rw [hr]
    exact Nat.Coprime.gcd_mul_right_cancel_right g cn.symm
  have es : a + b = mkRat n (g * (u * f)) := by
    rw [Rat.add_def', hu, hv, hn]
    have z := Rat.mkRat_mul_left (n := a.num * f + b.num * u) (d := g * (u * f)) (a := g) (by omega)
    rw [← z]
    congr 1
    · push_cast
      grind
    · grind
  have dn : g * (u * f) ≠ 0 := Nat.ne_of_gt (Nat.mul_pos gp (Nat.mul_pos up fp))
  have rg : r ∣ g := by rw [hr]; exact Nat.gcd_dvd_right _ _
  refine ⟨by rw [es, mk_num n dn, er], ?_⟩
  rw [es, mk_den n dn, er, hu]
  obtain ⟨w, hw⟩ := rg
  have rp : 0 < r := Nat.pos_of_ne_zero fun z => by rw [z, Nat.zero_mul] at hw; omega
  rw [hw, Nat.mul_assoc, Nat.mul_div_cancel_left _ rp, Nat.mul_assoc, Nat.mul_div_cancel_left _ rp, Nat.mul_assoc]
/-! ### what the cross products make -/
theorem tn (a b : Nat) : ((a : Int) * (b : Int)).toNat = a * b := by
  rw [← Int.natCast_mul]
  rfl
theorem mk_add (p q : Rat) : mkRat (p.num * (q.den : Int) + q.num * (p.den : Int)) ((p.den : Int) * (q.den : Int)).toNat = p + q := by rw [tn, Rat.add_def']
theorem mk_sub (p q : Rat) : mkRat (p.num * (q.den : Int) - q.num * (p.den : Int)) ((p.den : Int) * (q.den : Int)).toNat = p - q := by rw [tn, Rat.sub_def']
theorem mk_mul (p q : Rat) : mkRat (p.num * q.num) ((p.den : Int) * (q.den : Int)).toNat = p * q := by rw [tn, Rat.mul_def']
theorem dd_pos (p q : Rat) : 0 < (p.den : Int) * (q.den : Int) := Int.mul_pos (by have := p.den_pos; omega) (by have := q.den_pos; omega)
theorem ab_mul {i j : Int} {a b : Nat} (h : i.natAbs < 2 ^ a) (l : j.natAbs < 2 ^ b) : (i * j).natAbs < 2 ^ (a + b) := by
  rw [Int.natAbs_mul]
  exact lt_mul h l
theorem ab_add {i j : Int} {a : Nat} (h : i.natAbs < 2 ^ a) (l : j.natAbs < 2 ^ a) : (i + j).natAbs < 2 ^ (a + 1) := by
  rw [Nat.pow_succ]
  omega
theorem ab_sub {i j : Int} {a : Nat} (h : i.natAbs < 2 ^ a) (l : j.natAbs < 2 ^ a) : (i - j).natAbs < 2 ^ (a + 1) := by
  rw [Nat.pow_succ]
  omega
theorem ab_up {i : Int} {a b : Nat} (h : i.natAbs < 2 ^ a) (l : a ≤ b) : i.natAbs < 2 ^ b := Nat.lt_of_lt_of_le h (Nat.pow_le_pow_right (by decide) l)
theorem ab_le {i j : Int} {a : Nat} (h : i.natAbs < 2 ^ a) (l : j.natAbs ≤ i.natAbs) : j.natAbs < 2 ^ a := Nat.lt_of_le_of_lt l h
theorem nn {m : Nat} {p : Rat} (h : Sz m p) : 0 < m := by
  cases m with
  | zero => have := h.2; have := p.den_pos; simp at *; omega
  | succ m => exact Nat.succ_pos _
theorem dA {m : Nat} {p : Rat} (h : Sz m p) : ((p.den : Nat) : Int).natAbs < 2 ^ m := h.2
theorem lt_num {p q : Rat} : p < q ↔ p.num * (q.den : Int) < q.num * (p.den : Int) := Rat.lt_iff p q
theorem eq_num {p q : Rat} : p = q ↔ p.num * (q.den : Int) = q.num * (p.den : Int) := Rat.eq_iff_mul_eq_mul
end Vm
namespace Vk
open PySem L2
/-! ### defs as they stand, and with a promise -/
structure Fn (K : PySem.W.Frag) (mg : Str → Option Value) (x : Str) (st : Stmt) (ps : List Str) (f : Addr) (fd : FuncData) : Prop where
  F : Fun K x x st f fd
  m : mg x = some (.ref f)
  b : Binds K fd ps []
structure Def (P : Program) (w : World) (K : PySem.W.Frag) (mg : Str → Option Value) (base : Heap) (k : Nat) (x : Str) (ps : List Str) (sp : Sp) (f : Addr) (fd : FuncData) : Prop where
  ok : FnOk P w K mg base CX0 k f fd ps sp
  m : mg x = some (.ref f)
  kp : PySem.W.keepIn K (.ref f) = true
  b : Binds K fd ps []
theorem Def.up {P : Program} {w : World} {K : PySem.W.Frag} {mg : Str → Option Value} {base : Heap} {j k : Nat} {x : Str} {ps : List Str} {sp : Sp} {f : Addr} {fd : FuncData} (d : Def P w K mg base j x ps sp f fd) (h : j ≤ k) : Def P w K mg base k x ps sp f fd := ⟨d.ok.mono h, d.m, d.kp, d.b⟩
theorem pcall {X : Cx} {k : Nat} {f : Addr} {fd : FuncData} {ps : List Str} {sp : Sp} {x : Str} {p pos : Pos} {e : Expr} {es : List Expr} {t : TA} (D : Def X.prog X.w X.K X.mg X.base k x ps sp f fd) (hr : Room k X.A) (ha : PA X (e :: es) t)
    (hg : Gl X x := by rfl) (hdb : (x == ("__debug__" : Str)) = false := by decide) (he : starEach (e :: es) X.env = (false, eval e X.env) :: starEach es X.env := by rfl) (hpl : (backTo pos (starEach es X.env)).any (·.1) = false := by rfl) :
    PE X (.Call (.Name x p) (e :: es) [] pos) (tCall sp [] E0 t) := pe_call D.ok hr hg D.m D.kp D.b .nil pass0 ha hdb he hpl
/-- a def as it stands, whatever its defaults are -/
structure FunA (K : PySem.W.Frag) (x qual : Str) (st : Stmt) (f : Addr) (fd : FuncData) : Prop where
  ex : ∃ (oc : Value) (od : Option Addr) (dV kV doc pm : Value) (an : Option Addr) (cdv ct : Value) (osl : Array (Option Value)),
    fd = PySem.W.fnOf x qual (defArgs st) (defBody st) (defScope st) dV kV doc pm an cdv ct ∧ K.lookup f = some ⟨oc, od, .func fd, osl⟩ ∧ PySem.W.codeIn K cdv qual = true
  kp : PySem.W.keepIn K (.ref f) = true
theorem FunA.ok {P : Program} {w : World} {K : PySem.W.Frag} {mg : Str → Option Value} {base : Heap} {x qual : Str} {st : Stmt} {f : Addr} {fd : FuncData} {N ps : List Str} {k : Nat} {sp : Sp} (F : FunA K x qual st f fd) (S : FnScope N ps (defScope st)) (len : ∀ vs H Q E, sp vs H Q E → vs.length = ps.length)
    (hbody : ∀ (cdv : Value) (A : Around) (outer : List Env) (s : Shared) (H : Hp) (vs : List V) (Q : VK) (E : XK), Room k (A.deeper (PyProof.Rows.envOfC qual (defScope st) s.heap.objs.size f cdv)) → sp vs H Q E →
      ∃ t, PSs (cxOf CX0 P w K mg base N qual (defScope st) f cdv A outer s H E).nox (defBody st) t ∧ t { nx := fun _ H' => Q .non H', rt := Q } (start N vs) H) : FnOk P w K mg base CX0 (k + 1) f fd ps sp := by
  obtain ⟨oc, od, dV, kV, doc, pm, an, cdv, ct, osl, rfl, lk, hcd⟩ := F.ex
  refine fn_of lk hcd S len fun A outer s H vs Q E hr hsp => ?_
  obtain ⟨t, h, q⟩ := hbody cdv A outer s H vs Q E hr hsp
  exact ⟨t, h.nox, q⟩
/-- the built-in names as the top leaves them -/
structure Bn (mg : Str → Option Value) : Prop where
  gcd_ : mg "gcd" = some (.builtin "math.gcd")
  len_ : mg "len" = none
  abs_ : mg "abs" = none
  max_ : mg "max" = none
  int_ : mg "int" = none
  isinstance_ : mg "isinstance" = none
  range_ : mg "range" = none
  enumerate_ : mg "enumerate" = none
  list_ : mg "list" = none
  tuple_ : mg "tuple" = none
  str_ : mg "str" = none
  bool_ : mg "bool" = none
  dict_ : mg "dict" = none
/-! ### heaps -/
theorem _root_.L2.Same.sqt {K : PySem.W.Frag} {H H' : Hp} {a : Addr} {xs : List V} (e : Same H H') (h : SqT K H a xs) : SqT K H' a xs := by
  rcases h with (h | ⟨o, h⟩) | h
  · exact .inl (.inl (e _ _ h))
  · exact .inl (.inr ⟨o, e _ _ h⟩)
  · exact .inr h
theorem same_new {H : Hp} {p : Addr} (h : H p = none) (o : HO) : Same H (upd H p o) := fun b u q => by rw [upd_ne (ne_of_none q h)]; exact q
/-- a pair of ints that stands for q -/
def Rq (K : PySem.W.Frag) (H : Hp) (v : V) (q : Rat) : Prop := ∃ a, v = .ref a ∧ SqT K H a [.int q.num, .int (q.den : Int)]
theorem Rq.same {K : PySem.W.Frag} {H H' : Hp} {v : V} {q : Rat} (e : Same H H') (h : Rq K H v q) : Rq K H' v q := by
  obtain ⟨a, rfl, h⟩ := h
  exact ⟨a, rfl, e.sqt h⟩
theorem sz2 : 2 ≤ sizeLine := by decide
theorem at0 {xs : List V} {v : V} (h : xs[0]? = some v) : atI xs 0 = some v := atI_nat (j := 0) h
theorem at1 {xs : List V} {v : V} (h : xs[1]? = some v) : atI xs 1 = some v := atI_nat (j := 1) h
theorem at2 {xs : List V} {v : V} (h : xs[2]? = some v) : atI xs 2 = some v := atI_nat (j := 2) h
theorem ifT {c : Bool} {A B : Prop} (hc : c = true) (h : A) : if c = true then A else B := by
  rw [if_pos hc]
  exact h
theorem ifF {c : Bool} {A B : Prop} (hc : c = false) (h : B) : if c = true then A else B := by
  rw [hc, if_neg Bool.false_ne_true]
  exact h
theorem dF {p : Prop} [Decidable p] (h : ¬ p) : decide p = false := decide_eq_false h
theorem dT {p : Prop} [Decidable p] (h : p) : decide p = true := decide_eq_true h
theorem ifD {p : Prop} [Decidable p] {A B : Prop} (h1 : p → A) (h2 : ¬ p → B) : if decide p = true then A else B := by
  by_cases h : p
  · exact ifT (decide_eq_true h) (h1 h)
  · exact ifF (decide_eq_false h) (h2 h)
theorem fmod_nat (x m : Nat) : (x : Int).fmod (m : Int) = ((x % m : Nat) : Int) := by
  rw [Int.fmod_eq_emod_of_nonneg _ (by omega)]
  rfl
/-- what stands behind a statement, said once for all its ways -/
theorem cut {t u : TS} {D : Ends} {σ : L2.St} {H : Hp} (mid : L2.St → Hp → Prop) (key : ∀ σ' H', mid σ' H' → u D σ' H') (h : (∀ σ' H', mid σ' H' → u D σ' H') → tSeq t u D σ H) : tSeq t u D σ H := h key
/-! ### the store of draws -/
/-- at s stands a store: the script's list at l, five counters -/
def Sto (l s : Addr) (H : Hp) : Prop := ∃ (ns : List Int) (pos num seed hold cnt : Int), H s = some (.lst [.ref l, .int pos, .int num, .int seed, .int hold, .int cnt]) ∧ l ≠ s ∧ H l = some (.lst (ns.map V.int)) ∧ ns.length ≤ 63 ∧ 0 ≤ pos ∧ 0 ≤ num ∧ 0 ≤ seed ∧ seed < 1000000007
/-- all but what stands at s is as it was -/
def Fr (s : Addr) (H H' : Hp) : Prop := ∀ b o, H b = some o → b ≠ s → H' b = some o
theorem Fr.refl (s : Addr) (H : Hp) : Fr s H H := fun _ _ h _ => h
theorem Fr.trans {s : Addr} {H H1 H2 : Hp} (a : Fr s H H1) (b : Fr s H1 H2) : Fr s H H2 := fun c o h n => b c o (a c o h n) n
theorem Fr.of {s : Addr} {H H' : Hp} (e : Same H H') : Fr s H H' := fun b o h _ => e b o h
theorem Fr.upd {s : Addr} {H : Hp} (o : HO) : Fr s H (upd H s o) := fun b u h n => by rw [upd_ne n]; exact h
theorem Fr.free {s : Addr} {H H' : Hp} (e : Fr s H H') {p : Addr} (h : H' p = none) (n : p ≠ s) : H p = none := by
  cases q : H p with
  | none => rfl
  | some o =>
    rw [e p o q n] at h
    cases h
theorem Sto.some {l s : Addr} {H : Hp} (h : Sto l s H) : ∃ xs, H s = some (.lst xs) := by
  obtain ⟨_, _, _, _, _, _, h, _⟩ := h
  exact ⟨_, h⟩
theorem Sto.ne {l s : Addr} {H : Hp} (h : Sto l s H) {p : Addr} (n : H p = none) : p ≠ s := by
  obtain ⟨xs, h⟩ := h.some
  exact fun z => by rw [z, h] at n; cases n
theorem Sto.nl {l s : Addr} {H : Hp} (h : Sto l s H) {p : Addr} (n : H p = none) : p ≠ l := by
  obtain ⟨_, _, _, _, _, _, _, _, h, _⟩ := h
  exact fun z => by rw [z, h] at n; cases n
theorem Sto.same {l s : Addr} {H H' : Hp} (e : Same H H') (h : Sto l s H) : Sto l s H' := by
  obtain ⟨ns, pos, num, seed, hold, cnt, h1, h2, h3, r⟩ := h
  exact ⟨ns, pos, num, seed, hold, cnt, e _ _ h1, h2, e _ _ h3, r⟩
/-- what becomes of another list does not matter -/
theorem Sto.upd {l s D : Addr} {H : Hp} {o : HO} (h : Sto l s H) (n1 : D ≠ s) (n2 : D ≠ l) : Sto l s (upd H D o) := by
  obtain ⟨ns, pos, num, seed, hold, cnt, h1, h2, h3, r⟩ := h
  exact ⟨ns, pos, num, seed, hold, cnt, by rw [upd_ne (Ne.symm n1)]; exact h1, h2, by rw [upd_ne (Ne.symm n2)]; exact h3, r⟩
/-- a tuple outlives what becomes of a list -/
theorem sqt_fr {K : PySem.W.Frag} {s a : Addr} {H H' : Hp} {xs : List V} (e : Fr s H H') (hs : ∃ ys, H s = some (.lst ys)) (h : SqT K H a xs) : SqT K H' a xs := by
  obtain ⟨ys, hs⟩ := hs
  have n : ∀ {o : HO}, H a = some o → (∀ ys, o ≠ .lst ys) → a ≠ s := fun {o} h1 h2 z => by
    rw [z, hs] at h1
    exact h2 ys (Option.some.inj h1).symm
  rcases h with (h | ⟨o, h⟩) | h
  · exact .inl (.inl (e _ _ h (n h fun _ z => by cases z)))
  · exact .inl (.inr ⟨o, e _ _ h (n h fun _ z => by cases z)⟩)
  · exact .inr h
theorem Rq.fr {K : PySem.W.Frag} {s : Addr} {H H' : Hp} {v : V} {q : Rat} (e : Fr s H H') (hs : ∃ ys, H s = some (.lst ys)) (h : Rq K H v q) : Rq K H' v q := by
  obtain ⟨a, rfl, h⟩ := h
  exact ⟨a, rfl, sqt_fr e hs h⟩
theorem seq_fr {K : PySem.W.Frag} {s a : Addr} {H H' : Hp} {xs : List V} (e : Fr s H H') (n : a ≠ s) (h : SqL K H a xs) : SqL K H' a xs := by
  rcases h with (h | ⟨o, h⟩) | h
  · exact .inl (.inl (e _ _ h n))
  · exact .inl (.inr ⟨o, e _ _ h n⟩)
  · exact .inr h
theorem sm6 : 6 ≤ sizeLine := by decide
theorem sm4 : 4 ≤ sizeLine := by decide
theorem sm3 : 3 ≤ sizeLine := by decide
theorem sm5 : 5 ≤ sizeLine := by decide
end Vk
namespace Vk
open PySem L2 Vm
def top (i : Nat) : Stmt := PySem.Challenge.pw_clockverdict_k15_offset_span.main.body.getD i (.Pass ⟨0, 0, 0, 0⟩)
variable {P : Program} {w : World} {K : PySem.W.Frag} {mg : Str → Option Value} {base : Heap} {k : Nat} {f f1 f2 f3 f4 f5 f6 f7 f8 f9 : Addr} {fd fd1 fd2 fd3 fd4 fd5 fd6 fd7 fd8 fd9 : FuncData}
/-! ### the law's own rationals -/
def spFrac (K : PySem.W.Frag) : Sp := fun vs H Q _ => ∃ (n d : Int) (b : Nat), vs = [.int n, .int d] ∧ 0 < d ∧ n.natAbs < 2 ^ b ∧ d.natAbs < 2 ^ b ∧ b ≤ 9000 ∧
  ∀ r H', Same H H' → Rq K H' r (mkRat n d.toNat) → Q r H'
abbrev s__law_frac : Stmt := top 33
abbrev N__law_frac : List Str := ["_law_n", "_law_d", "_law_a", "_law_b"]
theorem sc__law_frac : FnScope N__law_frac ["_law_n", "_law_d"] (defScope s__law_frac) := ⟨rfl, rfl, rfl, by decide +kernel, rfl, by decide +kernel, by decide +kernel⟩
abbrev ps__law_frac : List Str := ["_law_n", "_law_d"]
theorem ok_frac (T : Bn mg) (F : Fn K mg "_law_frac" s__law_frac ps__law_frac f fd) : Def P w K mg base (k + 1) "_law_frac" ps__law_frac (spFrac K) f fd := by
  refine ⟨F.F.ok sc__law_frac (fun vs H Q E h => ?_) (fun cdv A outer s H vs Q E hr h => ?_), F.m, F.F.kp, F.b⟩
  · obtain ⟨n, d, b, rfl, _⟩ := h
    rfl
  obtain ⟨n, d, b, rfl, hd, hn, hdb, hb, q⟩ := h
  refine ⟨_, (pss_cons (ps_if (pt_cmpR op_eq (pv 1) pe_int (nomark _))
        (pss_one (ps_ret (pe_tup (pa_cons pe_int (pa_cons pe_int pa_nil)))))
        pss_nil)
      (pss_cons (ps_set (i := 2) sc__law_frac.nd rfl (Or.inl rfl) (pe_callB call_abs (by rfl) T.abs_ (by decide +kernel) (pa_cons (pv 0) pa_nil)))
      (pss_cons (ps_set (i := 3) sc__law_frac.nd rfl (Or.inl rfl) (pe_callB call_abs (by rfl) T.abs_ (by decide +kernel) (pa_cons (pv 1) pa_nil)))
      (pss_cons (ps_while PassesOwn.never (pt_cmpR op_gt (pv 3) pe_int (nomark _))
        (pss_one (ps_par (i := 2) (j := 3) (by rfl) sc__law_frac.nd rfl rfl (by decide) rfl rfl (pa_cons (pv 3) (pa_cons (pe_op op_modN (pe_callTy call_int1 (by rfl) T.int_ (by decide +kernel) (pa_cons (pv 2) pa_nil)) (pv 3)) pa_nil)) (by rfl))))
      (pss_cons (ps_if (pt_cmpR op_lt (pv 1) pe_int (nomark _))
        (pss_one (ps_set (i := 2) sc__law_frac.nd rfl (Or.inl rfl) (pe_op op_sub pe_int (pv 2))))
        pss_nil)
      (pss_one (ps_ret (pe_tup (pa_cons (pe_op op_fdivW (pv 0) (pv 2)) (pa_cons (pe_op op_fdivW (pv 1) (pv 2)) pa_nil)))))))))), ?_⟩
  have b0 : 0 < b := by
    cases b with
    | zero => simp at hdb; omega
    | succ b => exact Nat.succ_pos _
  -- if _law_d == 0
  refine ⟨_, rfl, rfl, _, rfl, ifF (dF fun c => by cases c; omega) ?_⟩
  have ea : ∀ z : Int, (if z < 0 then -z else z) = (z.natAbs : Int) := fun z => by split <;> omega
  refine ⟨_, rfl, _, rfl, _, rfl, _, rfl, (fun m σ H' => ∃ x y : Nat, m = y ∧ σ = [some (.int n), some (.int d), some (.int x), some (.int y)] ∧ H' = H ∧ Nat.gcd x y = Nat.gcd n.natAbs d.natAbs),
    ⟨_, n.natAbs, d.natAbs, rfl, by rw [ea, ea]; rfl, rfl, rfl⟩, ?_⟩
  rintro m σ H' ⟨x, y, em, rfl, rfl, hg⟩
  subst em
  -- while _law_b > 0
  refine ⟨_, rfl, _, _, rfl, rfl, _, rfl, ifD (fun c => ?_) (fun c => ?_)⟩
  · refine ⟨_, fun _ _ z => z, _, rfl, _, rfl, .inl ⟨_, rfl, _, rfl, _, _, rfl, rfl, by omega, _, _, rfl, ?_⟩⟩
    refine ⟨x % m, Nat.mod_lt _ (by omega), m, x % m, rfl, ?_, rfl, ?_⟩
    · show [some (V.int n), some (V.int d), some (V.int (m : Int)), some (V.int ((x : Int).fmod (m : Int)))] = _
      rw [fmod_nat]
    · rw [← hg, Nat.gcd_comm x m, Nat.gcd_rec m x, Nat.gcd_comm]
  have y0 : m = 0 := by omega
  subst y0
  rw [Nat.gcd_zero_right] at hg
  subst hg
  have dn : d.toNat ≠ 0 := by omega
  have gp : 0 < Nat.gcd n.natAbs d.natAbs := Nat.gcd_pos_of_pos_right _ (by omega)
  have gb : (((Nat.gcd n.natAbs d.natAbs : Nat) : Int)).natAbs < 2 ^ b := by
    rw [Int.natAbs_natCast]
    exact Nat.lt_of_le_of_lt (Nat.gcd_le_right _ (by omega)) hdb
  have w : CDivW n ((Nat.gcd n.natAbs d.natAbs : Nat) : Int) := wide_div (by omega) gb b0 (by omega)
  have w2 : CDivW d ((Nat.gcd n.natAbs d.natAbs : Nat) : Int) := wide_div (by omega) gb b0 (by omega)
  have ed : d.toNat = d.natAbs := by omega
  refine ⟨_, rfl, _, _, rfl, rfl, _, rfl, ifF (dF (by omega)) ?_⟩
  refine ⟨_, rfl, _, rfl, _, _, rfl, rfl, w, _, rfl, _, rfl, _, _, rfl, rfl, w2, sz2, fun p hp => ?_⟩
  refine q _ _ (same_new hp _) ⟨p, rfl, SqT.of ?_⟩
  rw [upd_same, mk_num n dn, mk_den n dn, ed]
  congr 4
  have e : d = (d.natAbs : Int) := by omega
  rw [show (((d.natAbs / Nat.gcd n.natAbs d.natAbs : Nat)) : Int) = (d.natAbs : Int) / ((Nat.gcd n.natAbs d.natAbs : Nat) : Int) from Int.natCast_ediv _ _]
  rw [← e]
/-- two rationals in, their f out -/
def spOp2 (K : PySem.W.Frag) (g : Rat → Rat → Rat) : Sp := fun vs H Q _ => ∃ (x y : V) (p q : Rat) (m l : Nat), vs = [x, y] ∧ Rq K H x p ∧ Rq K H y q ∧ Sz m p ∧ Sz l q ∧ m + l + 1 ≤ 9000 ∧
  ∀ r H', Same H H' → Rq K H' r (g p q) → Q r H'
/-- two rationals in, a test of them out -/
def spTest2 (K : PySem.W.Frag) (g : Rat → Rat → V) : Sp := fun vs H Q _ => ∃ (x y : V) (p q : Rat) (m l : Nat), vs = [x, y] ∧ Rq K H x p ∧ Rq K H y q ∧ Sz m p ∧ Sz l q ∧ m + l + 1 ≤ 900000 ∧ Q (g p q) H
theorem mulW {m l : Nat} {i j : Int} (hi : i.natAbs < 2 ^ m) (hj : j.natAbs < 2 ^ l) (h0 : 0 < m) (h1 : 0 < l) (h : m + l ≤ 900000) : CMulW i j := wide_mul hi hj h0 h1 (by omega)
abbrev s__law_plus : Stmt := top 34
abbrev N__law_plus : List Str := ["_law_a", "_law_b"]
theorem sc__law_plus : FnScope N__law_plus ["_law_a", "_law_b"] (defScope s__law_plus) := ⟨rfl, rfl, rfl, by decide +kernel, rfl, by decide +kernel, by decide +kernel⟩
abbrev ps__law_plus : List Str := ["_law_a", "_law_b"]
theorem ok_plus (F : Fn K mg "_law_plus" s__law_plus ps__law_plus f fd) (d_law_frac : Def P w K mg base k "_law_frac" ["_law_n", "_law_d"] (spFrac K) f1 fd1) : Def P w K mg base (k + 1) "_law_plus" ps__law_plus (spOp2 K (· + ·)) f fd := by
  refine ⟨F.F.ok sc__law_plus (fun vs H Q E h => ?_) (fun cdv A outer s H vs Q E hr h => ?_), F.m, F.F.kp, F.b⟩
  · obtain ⟨x, y, p, q, m, l, rfl, _⟩ := h
    rfl
  obtain ⟨x, y, p, q, m, l, rfl, ⟨a, rfl, ha⟩, ⟨b, rfl, hb⟩, zp, zq, hm, z⟩ := h
  have m0 := nn zp
  have l0 := nn zq
  refine ⟨_, (pss_one (ps_ret (pcall d_law_frac hr (pa_cons (pe_op op_add (pe_op op_mulW (pe_ix ix_tup (pv 0) pe_int (fun _ _ => rfl)) (pe_ix ix_tup (pv 1) pe_int (fun _ _ => rfl))) (pe_op op_mulW (pe_ix ix_tup (pv 1) pe_int (fun _ _ => rfl)) (pe_ix ix_tup (pv 0) pe_int (fun _ _ => rfl)))) (pa_cons (pe_op op_mulW (pe_ix ix_tup (pv 0) pe_int (fun _ _ => rfl)) (pe_ix ix_tup (pv 1) pe_int (fun _ _ => rfl))) pa_nil))))), ?_⟩
  refine ⟨_, rfl, a, _, _, _, rfl, rfl, ha, at0 rfl, _, rfl, b, _, _, _, rfl, rfl, hb, at1 rfl, _, _, rfl, rfl, mulW zp.1 (dA zq) m0 l0 (by omega), ?_⟩
  refine ⟨_, rfl, b, _, _, _, rfl, rfl, hb, at0 rfl, _, rfl, a, _, _, _, rfl, rfl, ha, at1 rfl, _, _, rfl, rfl, mulW zq.1 (dA zp) l0 m0 (by omega), _, _, rfl, rfl, ?_⟩
  refine ⟨_, rfl, a, _, _, _, rfl, rfl, ha, at1 rfl, _, rfl, b, _, _, _, rfl, rfl, hb, at1 rfl, _, _, rfl, rfl, mulW (dA zp) (dA zq) m0 l0 (by omega), ?_⟩
  refine ⟨_, _, m + l + 1, rfl, dd_pos p q, ab_add (ab_mul zp.1 (dA zq)) (ab_up (ab_mul zq.1 (dA zp)) (by omega)), ab_up (ab_mul (dA zp) (dA zq)) (by omega), by omega, fun r H' e hr => z r H' e ?_⟩
  rw [mk_add] at hr
  exact hr
abbrev s__law_minus : Stmt := top 35
abbrev N__law_minus : List Str := ["_law_a", "_law_b"]
theorem sc__law_minus : FnScope N__law_minus ["_law_a", "_law_b"] (defScope s__law_minus) := ⟨rfl, rfl, rfl, by decide +kernel, rfl, by decide +kernel, by decide +kernel⟩
abbrev ps__law_minus : List Str := ["_law_a", "_law_b"]
theorem ok_minus (F : Fn K mg "_law_minus" s__law_minus ps__law_minus f fd) (d_law_frac : Def P w K mg base k "_law_frac" ["_law_n", "_law_d"] (spFrac K) f1 fd1) : Def P w K mg base (k + 1) "_law_minus" ps__law_minus (spOp2 K (· - ·)) f fd := by
  refine ⟨F.F.ok sc__law_minus (fun vs H Q E h => ?_) (fun cdv A outer s H vs Q E hr h => ?_), F.m, F.F.kp, F.b⟩
  · obtain ⟨x, y, p, q, m, l, rfl, _⟩ := h
    rfl
  obtain ⟨x, y, p, q, m, l, rfl, ⟨a, rfl, ha⟩, ⟨b, rfl, hb⟩, zp, zq, hm, z⟩ := h
  have m0 := nn zp
  have l0 := nn zq
  refine ⟨_, (pss_one (ps_ret (pcall d_law_frac hr (pa_cons (pe_op op_sub (pe_op op_mulW (pe_ix ix_tup (pv 0) pe_int (fun _ _ => rfl)) (pe_ix ix_tup (pv 1) pe_int (fun _ _ => rfl))) (pe_op op_mulW (pe_ix ix_tup (pv 1) pe_int (fun _ _ => rfl)) (pe_ix ix_tup (pv 0) pe_int (fun _ _ => rfl)))) (pa_cons (pe_op op_mulW (pe_ix ix_tup (pv 0) pe_int (fun _ _ => rfl)) (pe_ix ix_tup (pv 1) pe_int (fun _ _ => rfl))) pa_nil))))), ?_⟩
  refine ⟨_, rfl, a, _, _, _, rfl, rfl, ha, at0 rfl, _, rfl, b, _, _, _, rfl, rfl, hb, at1 rfl, _, _, rfl, rfl, mulW zp.1 (dA zq) m0 l0 (by omega), ?_⟩
  refine ⟨_, rfl, b, _, _, _, rfl, rfl, hb, at0 rfl, _, rfl, a, _, _, _, rfl, rfl, ha, at1 rfl, _, _, rfl, rfl, mulW zq.1 (dA zp) l0 m0 (by omega), _, _, rfl, rfl, ?_⟩
  refine ⟨_, rfl, a, _, _, _, rfl, rfl, ha, at1 rfl, _, rfl, b, _, _, _, rfl, rfl, hb, at1 rfl, _, _, rfl, rfl, mulW (dA zp) (dA zq) m0 l0 (by omega), ?_⟩
  refine ⟨_, _, m + l + 1, rfl, dd_pos p q, ab_sub (ab_mul zp.1 (dA zq)) (ab_up (ab_mul zq.1 (dA zp)) (by omega)), ab_up (ab_mul (dA zp) (dA zq)) (by omega), by omega, fun r H' e hr => z r H' e ?_⟩
  rw [mk_sub] at hr
  exact hr
abbrev s__law_times : Stmt := top 36
abbrev N__law_times : List Str := ["_law_a", "_law_b"]
theorem sc__law_times : FnScope N__law_times ["_law_a", "_law_b"] (defScope s__law_times) := ⟨rfl, rfl, rfl, by decide +kernel, rfl, by decide +kernel, by decide +kernel⟩
abbrev ps__law_times : List Str := ["_law_a", "_law_b"]
theorem ok_times (F : Fn K mg "_law_times" s__law_times ps__law_times f fd) (d_law_frac : Def P w K mg base k "_law_frac" ["_law_n", "_law_d"] (spFrac K) f1 fd1) : Def P w K mg base (k + 1) "_law_times" ps__law_times (spOp2 K (· * ·)) f fd := by
  refine ⟨F.F.ok sc__law_times (fun vs H Q E h => ?_) (fun cdv A outer s H vs Q E hr h => ?_), F.m, F.F.kp, F.b⟩
  · obtain ⟨x, y, p, q, m, l, rfl, _⟩ := h
    rfl
  obtain ⟨x, y, p, q, m, l, rfl, ⟨a, rfl, ha⟩, ⟨b, rfl, hb⟩, zp, zq, hm, z⟩ := h
  have m0 := nn zp
  have l0 := nn zq
  refine ⟨_, (pss_one (ps_ret (pcall d_law_frac hr (pa_cons (pe_op op_mulW (pe_ix ix_tup (pv 0) pe_int (fun _ _ => rfl)) (pe_ix ix_tup (pv 1) pe_int (fun _ _ => rfl))) (pa_cons (pe_op op_mulW (pe_ix ix_tup (pv 0) pe_int (fun _ _ => rfl)) (pe_ix ix_tup (pv 1) pe_int (fun _ _ => rfl))) pa_nil))))), ?_⟩
  refine ⟨_, rfl, a, _, _, _, rfl, rfl, ha, at0 rfl, _, rfl, b, _, _, _, rfl, rfl, hb, at0 rfl, _, _, rfl, rfl, mulW zp.1 zq.1 m0 l0 (by omega), ?_⟩
  refine ⟨_, rfl, a, _, _, _, rfl, rfl, ha, at1 rfl, _, rfl, b, _, _, _, rfl, rfl, hb, at1 rfl, _, _, rfl, rfl, mulW (dA zp) (dA zq) m0 l0 (by omega), ?_⟩
  refine ⟨_, _, m + l + 1, rfl, dd_pos p q, ab_up (ab_mul zp.1 zq.1) (by omega), ab_up (ab_mul (dA zp) (dA zq)) (by omega), by omega, fun r H' e hr => z r H' e ?_⟩
  rw [mk_mul] at hr
  exact hr
abbrev s__law_below : Stmt := top 37
abbrev N__law_below : List Str := ["_law_a", "_law_b"]
theorem sc__law_below : FnScope N__law_below ["_law_a", "_law_b"] (defScope s__law_below) := ⟨rfl, rfl, rfl, by decide +kernel, rfl, by decide +kernel, by decide +kernel⟩
abbrev ps__law_below : List Str := ["_law_a", "_law_b"]
theorem ok_below (F : Fn K mg "_law_below" s__law_below ps__law_below f fd) : Def P w K mg base (k + 1) "_law_below" ps__law_below (spTest2 K fun p q => .bl (decide (p < q))) f fd := by
  refine ⟨F.F.ok sc__law_below (fun vs H Q E h => ?_) (fun cdv A outer s H vs Q E hr h => ?_), F.m, F.F.kp, F.b⟩
  · obtain ⟨x, y, p, q, m, l, rfl, _⟩ := h
    rfl
  obtain ⟨x, y, p, q, m, l, rfl, ⟨a, rfl, ha⟩, ⟨b, rfl, hb⟩, zp, zq, hm, z⟩ := h
  have m0 := nn zp
  have l0 := nn zq
  refine ⟨_, (pss_one (ps_ret (pe_cmpR op_lt (pe_op op_mulW (pe_ix ix_tup (pv 0) pe_int (fun _ _ => rfl)) (pe_ix ix_tup (pv 1) pe_int (fun _ _ => rfl))) (pe_op op_mulW (pe_ix ix_tup (pv 1) pe_int (fun _ _ => rfl)) (pe_ix ix_tup (pv 0) pe_int (fun _ _ => rfl))) (nomark _)))), ?_⟩
  refine ⟨_, rfl, a, _, _, _, rfl, rfl, ha, at0 rfl, _, rfl, b, _, _, _, rfl, rfl, hb, at1 rfl, _, _, rfl, rfl, mulW zp.1 (dA zq) m0 l0 (by omega), ?_⟩
  refine ⟨_, rfl, b, _, _, _, rfl, rfl, hb, at0 rfl, _, rfl, a, _, _, _, rfl, rfl, ha, at1 rfl, _, _, rfl, rfl, mulW zq.1 (dA zp) l0 m0 (by omega), _, _, rfl, rfl, ?_⟩
  show Q (.bl (decide (p.num * (q.den : Int) < q.num * (p.den : Int)))) H
  rw [decide_eq_decide.mpr (lt_num (p := p) (q := q)).symm]
  exact z
/-! ### the program's rationals -/
def sg (p q : Rat) : Int := if p = q then 0 else if p < q then -1 else 1
abbrev s_compare : Stmt := top 11
abbrev N_compare : List Str := ["a", "b", "left", "right"]
theorem sc_compare : FnScope N_compare ["a", "b"] (defScope s_compare) := ⟨rfl, rfl, rfl, by decide +kernel, rfl, by decide +kernel, by decide +kernel⟩
abbrev ps_compare : List Str := ["a", "b"]
theorem ok_compare (F : Fn K mg "compare" s_compare ps_compare f fd) : Def P w K mg base (k + 1) "compare" ps_compare (spTest2 K fun p q => .int (sg p q)) f fd := by
  refine ⟨F.F.ok sc_compare (fun vs H Q E h => ?_) (fun cdv A outer s H vs Q E hr h => ?_), F.m, F.F.kp, F.b⟩
  · obtain ⟨x, y, p, q, m, l, rfl, _⟩ := h
    rfl
  obtain ⟨x, y, p, q, m, l, rfl, ⟨a, rfl, ha⟩, ⟨b, rfl, hb⟩, zp, zq, hm, z⟩ := h
  have m0 := nn zp
  have l0 := nn zq
  refine ⟨_, (pss_cons (ps_set (i := 2) sc_compare.nd rfl (Or.inl rfl) (pe_op op_mulW (pe_ix ix_tup (pv 0) pe_int (fun _ _ => rfl)) (pe_ix ix_tup (pv 1) pe_int (fun _ _ => rfl))))
      (pss_cons (ps_set (i := 3) sc_compare.nd rfl (Or.inl rfl) (pe_op op_mulW (pe_ix ix_tup (pv 1) pe_int (fun _ _ => rfl)) (pe_ix ix_tup (pv 0) pe_int (fun _ _ => rfl))))
      (pss_cons (ps_if (pt_cmpR op_eq (pv 2) (pv 3) (nomark _))
        (pss_one (ps_ret pe_int))
        pss_nil)
      (pss_one (ps_ret (pe_ifExp (pt_cmpR op_lt (pv 2) (pv 3) (nomark _)) (pe_un un_neg pe_int) pe_int)))))), ?_⟩
  refine ⟨_, rfl, a, _, _, _, rfl, rfl, ha, at0 rfl, _, rfl, b, _, _, _, rfl, rfl, hb, at1 rfl, _, _, rfl, rfl, mulW zp.1 (dA zq) m0 l0 (by omega), ?_⟩
  refine ⟨_, rfl, b, _, _, _, rfl, rfl, hb, at0 rfl, _, rfl, a, _, _, _, rfl, rfl, ha, at1 rfl, _, _, rfl, rfl, mulW zq.1 (dA zp) l0 m0 (by omega), ?_⟩
  refine ⟨_, rfl, _, rfl, rfl, _, rfl, ifD (fun c => ?_) (fun c => ?_)⟩
  · have e : p = q := eq_num.mpr (V.int.inj c)
    have z' : Q (.int (sg p q)) H := z
    unfold sg at z'
    rw [if_pos e] at z'
    exact z'
  · have e : ¬ p = q := fun e => c (congrArg V.int (eq_num.mp e))
    have z' : Q (.int (sg p q)) H := z
    unfold sg at z'
    rw [if_neg e] at z'
    refine ⟨_, rfl, _, rfl, _, _, rfl, rfl, _, rfl, ifD (fun c => ?_) (fun c => ?_)⟩
    · rw [if_pos (lt_num.mpr c)] at z'
      exact ⟨_, rfl, z'⟩
    · rw [if_neg (fun e => c (lt_num.mp e))] at z'
      exact z'
abbrev s_negate : Stmt := top 10
abbrev N_negate : List Str := ["a"]
theorem sc_negate : FnScope N_negate ["a"] (defScope s_negate) := ⟨rfl, rfl, rfl, by decide +kernel, rfl, by decide +kernel, by decide +kernel⟩
abbrev ps_negate : List Str := ["a"]
def spOp1 (K : PySem.W.Frag) (g : Rat → Rat) : Sp := fun vs H Q _ => ∃ (x : V) (p : Rat), vs = [x] ∧ Rq K H x p ∧ ∀ r H', Same H H' → Rq K H' r (g p) → Q r H'
theorem ok_negate (F : Fn K mg "negate" s_negate ps_negate f fd) : Def P w K mg base (k + 1) "negate" ps_negate (spOp1 K fun p => -p) f fd := by
  refine ⟨F.F.ok sc_negate (fun vs H Q E h => ?_) (fun cdv A outer s H vs Q E hr h => ?_), F.m, F.F.kp, F.b⟩
  · obtain ⟨x, p, rfl, _⟩ := h
    rfl
  obtain ⟨x, p, rfl, ⟨a, rfl, ha⟩, z⟩ := h
  refine ⟨_, (pss_one (ps_ret (pe_tup (pa_cons (pe_un un_neg (pe_ix ix_tup (pv 0) pe_int (fun _ _ => rfl))) (pa_cons (pe_ix ix_tup (pv 0) pe_int (fun _ _ => rfl)) pa_nil))))), ?_⟩
  refine ⟨_, rfl, a, _, _, _, rfl, rfl, ha, at0 rfl, _, rfl, _, rfl, a, _, _, _, rfl, rfl, ha, at1 rfl, sz2, fun r hr' => ?_⟩
  exact z _ _ (same_new hr' _) ⟨r, rfl, SqT.of upd_same⟩
abbrev s_add : Stmt := top 7
abbrev N_add : List Str := ["a", "b", "common", "factor", "n", "rest"]
theorem sc_add : FnScope N_add ["a", "b"] (defScope s_add) := ⟨rfl, rfl, rfl, by decide +kernel, rfl, by decide +kernel, by decide +kernel⟩
abbrev ps_add : List Str := ["a", "b"]
theorem ok_add (T : Bn mg) (F : Fn K mg "add" s_add ps_add f fd) : Def P w K mg base (k + 1) "add" ps_add (spOp2 K (· + ·)) f fd := by
  refine ⟨F.F.ok sc_add (fun vs H Q E h => ?_) (fun cdv A outer s H vs Q E hr h => ?_), F.m, F.F.kp, F.b⟩
  · obtain ⟨x, y, p, q, m, l, rfl, _⟩ := h
    rfl
  obtain ⟨x, y, p, q, m, l, rfl, ⟨a, rfl, ha⟩, ⟨b, rfl, hb⟩, zp, zq, hm, z⟩ := h
  have m0 := nn zp
  have l0 := nn zq
  refine ⟨_, (pss_cons (ps_set (i := 2) sc_add.nd rfl (Or.inl rfl) (pe_callBfun cr_gcd (by rfl) T.gcd_ (pa_cons (pe_ix ix_tup (pv 0) pe_int (fun _ _ => rfl)) (pa_cons (pe_ix ix_tup (pv 1) pe_int (fun _ _ => rfl)) pa_nil))))
      (pss_cons (ps_set (i := 3) sc_add.nd rfl (Or.inl rfl) (pe_op op_fdivW (pe_ix ix_tup (pv 1) pe_int (fun _ _ => rfl)) (pv 2)))
      (pss_cons (ps_set (i := 4) sc_add.nd rfl (Or.inl rfl) (pe_op op_add (pe_op op_mulW (pe_ix ix_tup (pv 0) pe_int (fun _ _ => rfl)) (pv 3)) (pe_op op_mulW (pe_ix ix_tup (pv 1) pe_int (fun _ _ => rfl)) (pe_op op_fdivW (pe_ix ix_tup (pv 0) pe_int (fun _ _ => rfl)) (pv 2)))))
      (pss_cons (ps_set (i := 5) sc_add.nd rfl (Or.inl rfl) (pe_callBfun cr_gcd (by rfl) T.gcd_ (pa_cons (pv 4) (pa_cons (pv 2) pa_nil))))
      (pss_one (ps_ret (pe_tup (pa_cons (pe_op op_fdivW (pv 4) (pv 5)) (pa_cons (pe_op op_mulW (pe_op op_fdivW (pe_ix ix_tup (pv 0) pe_int (fun _ _ => rfl)) (pv 5)) (pv 3)) pa_nil))))))))), ?_⟩
  have gp : 0 < Nat.gcd p.den q.den := Nat.gcd_pos_of_pos_left _ p.den_pos
  have gb : (((Nat.gcd p.den q.den : Nat) : Int)).natAbs < 2 ^ m := Nat.lt_of_le_of_lt (Nat.gcd_le_left _ p.den_pos) zp.2
  have wg : ∀ x : Int, CDivW x ((Nat.gcd p.den q.den : Nat) : Int) := fun x => wide_div (by omega) gb m0 (by omega)
  have fb : (((q.den / Nat.gcd p.den q.den : Nat)) : Int).natAbs < 2 ^ l := Nat.lt_of_le_of_lt (Nat.div_le_self _ _) zq.2
  have hb' : (((p.den / Nat.gcd p.den q.den : Nat)) : Int).natAbs < 2 ^ m := Nat.lt_of_le_of_lt (Nat.div_le_self _ _) zp.2
  refine ⟨_, rfl, a, _, _, _, rfl, rfl, ha, at1 rfl, _, rfl, b, _, _, _, rfl, rfl, hb, at1 rfl, _, _, rfl, ?_⟩
  -- factor; n
  refine ⟨_, rfl, b, _, _, _, rfl, rfl, hb, at1 rfl, _, rfl, _, _, rfl, rfl, wg _, ?_⟩
  refine ⟨_, rfl, a, _, _, _, rfl, rfl, ha, at0 rfl, _, rfl, _, _, rfl, rfl, mulW zp.1 fb m0 l0 (by omega), ?_⟩
  refine ⟨_, rfl, b, _, _, _, rfl, rfl, hb, at0 rfl, _, rfl, a, _, _, _, rfl, rfl, ha, at1 rfl, _, rfl, _, _, rfl, rfl, wg _, _, _, rfl, rfl, mulW zq.1 hb' l0 m0 (by omega), _, _, rfl, rfl, ?_⟩
  -- rest
  refine ⟨_, rfl, _, rfl, _, _, rfl, ?_⟩
  obtain ⟨n, en⟩ : ∃ n : Int, n = p.num * ((q.den / Nat.gcd p.den q.den : Nat) : Int) + q.num * ((p.den / Nat.gcd p.den q.den : Nat) : Int) := ⟨_, rfl⟩
  obtain ⟨r, er⟩ : ∃ r : Nat, r = Nat.gcd n.natAbs (Nat.gcd p.den q.den) := ⟨_, rfl⟩
  have A := add_parts p q _ _ n r rfl rfl en er
  have rp : 0 < r := by rw [er]; exact Nat.gcd_pos_of_pos_right _ gp
  have rb : ((r : Nat) : Int).natAbs < 2 ^ m := by rw [er]; exact Nat.lt_of_le_of_lt (Nat.gcd_le_right _ gp) gb
  have wr : ∀ x : Int, CDivW x (r : Int) := fun x => wide_div (by omega) rb m0 (by omega)
  have db : (((p.den / r : Nat)) : Int).natAbs < 2 ^ m := Nat.lt_of_le_of_lt (Nat.div_le_self _ _) zp.2
  have en' : (fun i j : Int => i + j) ((fun i j : Int => i * j) p.num ((q.den : Int) / ((Nat.gcd p.den q.den : Nat) : Int))) ((fun i j : Int => i * j) q.num ((p.den : Int) / ((Nat.gcd p.den q.den : Nat) : Int))) = n := en.symm
  suffices hz : ∀ n' : Int, n' = n → ∀ r' : Int, r' = (r : Int) → tRet (tTup (tCons (tOp (rI CDivW fun i j => V.int (i / j)) (tVar 4) (tVar 5)) (tCons (tOp (rI CMulW fun i j => V.int (i * j)) (tOp (rI CDivW fun i j => V.int (i / j)) (tOp (rIxT K) (tVar 0) (tC (V.int 1))) (tVar 5)) (tVar 3)) tNil)))
      { nx := fun _ H' => Q V.non H', rt := Q } [some (.ref a), some (.ref b), some (.int ((Nat.gcd p.den q.den : Nat) : Int)), some (.int ((q.den / Nat.gcd p.den q.den : Nat) : Int)), some (.int n'), some (.int r')] H from hz _ en' _ (by rw [er, ← en']; rfl)
  rintro n' e1 r' e2
  subst e1 e2
  refine ⟨_, rfl, _, rfl, _, _, rfl, rfl, wr _, _, rfl, a, _, _, _, rfl, rfl, ha, at1 rfl, _, rfl, _, _, rfl, rfl, wr _, _, rfl, _, _, rfl, rfl, mulW db fb m0 l0 (by omega), sz2, fun t ht => ?_⟩
  refine z _ _ (same_new ht _) ⟨t, rfl, SqT.of ?_⟩
  rw [upd_same]
  show some (HO.tup [V.int (n' / (r : Int)), V.int (((p.den / r : Nat) : Int) * ((q.den / Nat.gcd p.den q.den : Nat) : Int))]) = some (HO.tup [V.int (p + q).num, V.int ((p + q).den : Int)])
  rw [A.1, A.2]
  rfl
abbrev s_subtract : Stmt := top 8
abbrev N_subtract : List Str := ["a", "b"]
theorem sc_subtract : FnScope N_subtract ["a", "b"] (defScope s_subtract) := ⟨rfl, rfl, rfl, by decide +kernel, rfl, by decide +kernel, by decide +kernel⟩
abbrev ps_subtract : List Str := ["a", "b"]
theorem ok_subtract (F : Fn K mg "subtract" s_subtract ps_subtract f fd) (dadd : Def P w K mg base k "add" ["a", "b"] (spOp2 K (· + ·)) f1 fd1) (dnegate : Def P w K mg base k "negate" ["a"] (spOp1 K fun p => -p) f2 fd2) :
    Def P w K mg base (k + 1) "subtract" ps_subtract (spOp2 K (· - ·)) f fd := by
  refine ⟨F.F.ok sc_subtract (fun vs H Q E h => ?_) (fun cdv A outer s H vs Q E hr h => ?_), F.m, F.F.kp, F.b⟩
  · obtain ⟨x, y, p, q, m, l, rfl, _⟩ := h
    rfl
  obtain ⟨x, y, p, q, m, l, rfl, ha, hb, zp, zq, hm, z⟩ := h
  refine ⟨_, (pss_one (ps_ret (pcall dadd hr (pa_cons (pv 0) (pa_cons (pcall dnegate hr (pa_cons (pv 1) pa_nil)) pa_nil))))), ?_⟩
  refine ⟨_, rfl, _, rfl, _, q, rfl, hb, fun r H' e hr' => ?_⟩
  refine ⟨_, _, p, -q, m, l, rfl, ha.same e, hr', zp, zq.neg, hm, fun r2 H2 e2 hr2 => z _ _ (e.trans e2) ?_⟩
  show Rq K H2 r2 (p - q)
  rw [Rat.sub_eq_add_neg]
  exact hr2
/-- rational(n, d) where d is above zero; its second argument is always written -/
abbrev s_rational : Stmt := top 6
abbrev N_rational : List Str := ["n", "d", "common"]
theorem sc_rational : FnScope N_rational ["n", "d"] (defScope s_rational) := ⟨rfl, rfl, rfl, by decide +kernel, rfl, by decide +kernel, by decide +kernel⟩
abbrev ps_rational : List Str := ["n", "d"]
theorem ok_rational (T : Bn mg) (F : FunA K "rational" "rational" s_rational f fd) (hm : mg "rational" = some (.ref f)) (hb : Binds K fd ps_rational []) : Def P w K mg base (k + 1) "rational" ps_rational (spFrac K) f fd := by
  refine ⟨F.ok sc_rational (fun vs H Q E h => ?_) (fun cdv A outer s H vs Q E hr h => ?_), hm, F.kp, hb⟩
  · obtain ⟨n, d, b, rfl, _⟩ := h
    rfl
  obtain ⟨n, d, b, rfl, hd, hn, hdb, hb, q⟩ := h
  refine ⟨_, (pss_cons (ps_if (pt_cmpR op_eq (pv 1) pe_int (nomark _))
        (pss_one ps_never)
        pss_nil)
      (pss_cons (ps_set (i := 2) sc_rational.nd rfl (Or.inl rfl) (pe_callBfun cr_gcd (by rfl) T.gcd_ (pa_cons (pv 0) (pa_cons (pv 1) pa_nil))))
      (pss_cons (ps_if (pt_cmpR op_lt (pv 1) pe_int (nomark _))
        (pss_one (ps_set (i := 2) sc_rational.nd rfl (Or.inl rfl) (pe_un un_neg (pv 2))))
        pss_nil)
      (pss_one (ps_ret (pe_tup (pa_cons (pe_op op_fdivW (pv 0) (pv 2)) (pa_cons (pe_op op_fdivW (pv 1) (pv 2)) pa_nil)))))))), ?_⟩
  have b0 : 0 < b := by
    cases b with
    | zero => simp at hdb; omega
    | succ b => exact Nat.succ_pos _
  have dn : d.toNat ≠ 0 := by omega
  have gp : 0 < Nat.gcd n.natAbs d.natAbs := Nat.gcd_pos_of_pos_right _ (by omega)
  have gb : (((Nat.gcd n.natAbs d.natAbs : Nat) : Int)).natAbs < 2 ^ b := by
    rw [Int.natAbs_natCast]
    exact Nat.lt_of_le_of_lt (Nat.gcd_le_right _ (by omega)) hdb
  have w : ∀ x : Int, CDivW x ((Nat.gcd n.natAbs d.natAbs : Nat) : Int) := fun x => wide_div (by omega) gb b0 (by omega)
  have ed : d.toNat = d.natAbs := by omega
  refine ⟨_, rfl, rfl, _, rfl, ifF (dF fun c => by cases c; omega) ?_⟩
  refine ⟨_, rfl, _, rfl, _, _, rfl, ?_⟩
  refine ⟨_, rfl, _, _, rfl, rfl, _, rfl, ifF (dF (by omega)) ?_⟩
  refine ⟨_, rfl, _, rfl, _, _, rfl, rfl, w _, _, rfl, _, rfl, _, _, rfl, rfl, w _, sz2, fun p hp => ?_⟩
  refine q _ _ (same_new hp _) ⟨p, rfl, SqT.of ?_⟩
  rw [upd_same, mk_num n dn, mk_den n dn, ed]
  congr 4
  have e : d = (d.natAbs : Int) := by omega
  rw [show (((d.natAbs / Nat.gcd n.natAbs d.natAbs : Nat)) : Int) = (d.natAbs : Int) / ((Nat.gcd n.natAbs d.natAbs : Nat) : Int) from Int.natCast_ediv _ _]
  rw [← e]
def spDiv (K : PySem.W.Frag) : Sp := fun vs H Q _ => ∃ (x y : V) (p q : Rat) (m l : Nat), vs = [x, y] ∧ Rq K H x p ∧ Rq K H y q ∧ Sz m p ∧ Sz l q ∧ m + l + 1 ≤ 9000 ∧ 0 < q ∧ ∀ r H', Same H H' → Rq K H' r (p / q) → Q r H'
end Vk
namespace Vk
open PySem L2 Vm
variable {l : Addr} {P : Program} {w : World} {K : PySem.W.Frag} {mg : Str → Option Value} {base : Heap} {k : Nat} {f f1 f2 f3 f4 f5 f6 f7 f8 f9 : Addr} {fd fd1 fd2 fd3 fd4 fd5 fd6 fd7 fd8 fd9 : FuncData}
abbrev s__law_store : Stmt := top 26
abbrev N__law_store : List Str := ["_law_script"]
theorem sc__law_store : FnScope N__law_store ["_law_script"] (defScope s__law_store) := ⟨rfl, rfl, rfl, by decide +kernel, rfl, by decide +kernel, by decide +kernel⟩
abbrev ps__law_store : List Str := ["_law_script"]
def spStore (K : PySem.W.Frag) : Sp := fun vs H Q _ => ∃ (a : Addr) (ns : List Int), vs = [.ref a] ∧ SqL K H a (ns.map V.int) ∧ ns.length ≤ 63 ∧ ∀ (s l : Addr) H', Same H H' → H s = none → Sto l s H' → Q (.ref s) H'
theorem ok_store (T : Bn mg) (F : Fn K mg "_law_store" s__law_store ps__law_store f fd) : Def P w K mg base (k + 1) "_law_store" ps__law_store (spStore K) f fd := by
  refine ⟨F.F.ok sc__law_store (fun vs H Q E h => ?_) (fun cdv A outer s H vs Q E hr h => ?_), F.m, F.F.kp, F.b⟩
  · obtain ⟨a, ns, rfl, _⟩ := h
    rfl
  obtain ⟨a, ns, rfl, ha, hl, z⟩ := h
  refine ⟨_, (pss_one (ps_ret (pe_lst (pa_cons (pe_callTy call_list_of (by rfl) T.list_ (by decide +kernel) (pa_cons (pv 0) pa_nil)) (pa_cons pe_int (pa_cons pe_int (pa_cons pe_int (pa_cons pe_int (pa_cons pe_int pa_nil))))))))), ?_⟩
  refine ⟨_, rfl, a, _, rfl, .inl ha, fun l l0 => ?_⟩
  refine ⟨sm6, fun p p0 => ?_⟩
  have lp : l ≠ p := fun e => by rw [e, upd_same] at p0; cases p0
  have e1 : Same H (upd H l (.lst (ns.map V.int))) := same_new l0 _
  refine z _ l _ (e1.trans (same_new p0 _)) (e1.free p0) ⟨ns, 0, 0, 1, 0, 0, upd_same, lp, ?_, hl, by omega, by omega, by omega, by omega⟩
  rw [upd_ne lp, upd_same]
abbrev s__law_mixed : Stmt := top 28
abbrev N__law_mixed : List Str := ["_law_store_here"]
theorem sc__law_mixed : FnScope N__law_mixed ["_law_store_here"] (defScope s__law_mixed) := ⟨rfl, rfl, rfl, by decide +kernel, rfl, by decide +kernel, by decide +kernel⟩
abbrev ps__law_mixed : List Str := ["_law_store_here"]
def spMixed (K : PySem.W.Frag) (l : Addr) : Sp := fun vs H Q _ => ∃ (s : Addr), vs = [.ref s] ∧ Sto l s H ∧ ∀ (r : Int) H', 0 ≤ r → r < 1000000009 → Sto l s H' → Fr s H H' → Q (.int r) H'
theorem ok_mixed (T : Bn mg) (F : Fn K mg "_law_mixed" s__law_mixed ps__law_mixed f fd) : Def P w K mg base (k + 1) "_law_mixed" ps__law_mixed (spMixed K l) f fd := by
  refine ⟨F.F.ok sc__law_mixed (fun vs H Q E h => ?_) (fun cdv A outer s H vs Q E hr h => ?_), F.m, F.F.kp, F.b⟩
  · obtain ⟨a, rfl, _⟩ := h
    rfl
  obtain ⟨s, rfl, ⟨ns, pos, num, seed, hold, cnt, h1, h2, h3, h4, h5, h6, h7, h8⟩, z⟩ := h
  refine ⟨_, (pss_cons (ps_asg (pe_op op_add (pe_ix ix_list (pv 0) pe_int (fun _ _ => rfl)) pe_int) (pg_sub (pv 0) pe_int set_list))
      (pss_cons (ps_asg (pe_op op_mod (pe_callTy call_int1 (by rfl) T.int_ (by decide +kernel) (pa_cons (pe_op op_add (pe_op op_add (pe_op op_mul (pe_ix ix_list (pv 0) pe_int (fun _ _ => rfl)) pe_int) (pe_op op_mul (pe_ix ix_list (pv 0) pe_int (fun _ _ => rfl)) pe_int)) pe_int) pa_nil)) pe_int) (pg_sub (pv 0) pe_int set_list))
      (pss_one (ps_ret (pe_op op_mod (pe_callTy call_int1 (by rfl) T.int_ (by decide +kernel) (pa_cons (pe_op op_add (pe_op op_mul (pe_ix ix_list (pv 0) pe_int (fun _ _ => rfl)) pe_int) (pe_op op_fdiv (pe_ix ix_list (pv 0) pe_int (fun _ _ => rfl)) pe_int)) pa_nil)) pe_int))))), ?_⟩
  refine ⟨_, rfl, s, _, _, _, rfl, rfl, SqL.of h1, atI_nat (j := 5) rfl, _, _, rfl, rfl, _, rfl, s, _, _, _, rfl, rfl, h1, rfl, ?_⟩
  refine ⟨_, rfl, s, _, _, _, rfl, rfl, SqL.of upd_same, atI_nat (j := 3) rfl, _, _, rfl, rfl, .inr ⟨by decide, by decide⟩, ?_⟩
  refine ⟨_, rfl, s, _, _, _, rfl, rfl, SqL.of upd_same, atI_nat (j := 5) rfl, _, _, rfl, rfl, .inr ⟨by decide, by decide⟩, _, _, rfl, rfl, ?_⟩
  refine ⟨_, _, rfl, rfl, .inl ⟨_, rfl, _, _, rfl, rfl, (by show (0 : Int) < 1000000007; decide), _, rfl, s, _, _, _, rfl, rfl, upd_same, rfl, ?_⟩⟩
  refine ⟨_, rfl, s, _, _, _, rfl, rfl, SqL.of upd_same, atI_nat (j := 3) rfl, _, _, rfl, rfl, .inr ⟨by decide, by decide⟩, ?_⟩
  refine ⟨_, rfl, s, _, _, _, rfl, rfl, SqL.of upd_same, atI_nat (j := 3) rfl, _, _, rfl, rfl, ⟨by decide, by decide⟩, _, _, rfl, rfl, .inl ⟨_, rfl, _, _, rfl, rfl, (by show (0 : Int) < 1000000009; decide), ?_⟩⟩
  have e2 : ∀ o1 o2, Fr s H (upd (upd H s o1) s o2) := fun _ _ => (Fr.upd _).trans (Fr.upd _)
  exact z _ _ (Int.emod_nonneg _ (by decide)) (Int.emod_lt_of_pos _ (by decide)) ⟨ns, pos, num, _, hold, _, upd_same, h2, (e2 _ _) _ _ h3 h2, h4, h5, h6, Int.emod_nonneg _ (by decide), Int.emod_lt_of_pos _ (by decide)⟩ (e2 _ _)
abbrev s__law_feed : Stmt := top 27
abbrev N__law_feed : List Str := ["_law_store_here", "_law_cell"]
theorem sc__law_feed : FnScope N__law_feed ["_law_store_here"] (defScope s__law_feed) := ⟨rfl, rfl, rfl, by decide +kernel, rfl, by decide +kernel, by decide +kernel⟩
abbrev ps__law_feed : List Str := ["_law_store_here"]
def spFeed (K : PySem.W.Frag) (l : Addr) : Sp := fun vs H Q _ => ∃ (s : Addr) (ns : List Int) (pos num seed hold cnt : Int), vs = [.ref s] ∧ H s = some (.lst [.ref l, .int pos, .int num, .int seed, .int hold, .int cnt]) ∧ l ≠ s ∧ H l = some (.lst (ns.map V.int)) ∧ ns.length ≤ 63 ∧ 0 ≤ pos ∧ 0 ≤ num ∧ 0 ≤ seed ∧ seed < 1000000007 ∧ pos < (ns.length : Int) ∧
  ∀ H', Sto l s H' → Fr s H H' → Q .non H'
theorem ok_feed (T : Bn mg) (F : Fn K mg "_law_feed" s__law_feed ps__law_feed f fd) : Def P w K mg base (k + 1) "_law_feed" ps__law_feed (spFeed K l) f fd := by
  refine ⟨F.F.ok sc__law_feed (fun vs H Q E h => ?_) (fun cdv A outer s H vs Q E hr h => ?_), F.m, F.F.kp, F.b⟩
  · obtain ⟨_, _, _, _, _, _, _, rfl, _⟩ := h
    rfl
  obtain ⟨s, ns, pos, num, seed, hold, cnt, rfl, h1, h2, h3, h4, h5, h6, h7, h8, h9, z⟩ := h
  refine ⟨_, (pss_cons (ps_set (i := 1) sc__law_feed.nd rfl (Or.inl rfl) (pe_callTy call_int1 (by rfl) T.int_ (by decide +kernel) (pa_cons (pe_ix ix_list (pe_ix ix_list (pv 0) pe_int (fun _ _ => rfl)) (pe_ix ix_list (pv 0) pe_int (fun _ _ => rfl)) (fun _ _ => rfl)) pa_nil)))
      (pss_cons (ps_asg (pe_op op_add (pe_ix ix_list (pv 0) pe_int (fun _ _ => rfl)) pe_int) (pg_sub (pv 0) pe_int set_list))
      (pss_cons (ps_asg (pe_op op_mod (pe_callTy call_int1 (by rfl) T.int_ (by decide +kernel) (pa_cons (pe_op op_add (pe_op op_mul (pe_ix ix_list (pv 0) pe_int (fun _ _ => rfl)) pe_int) (pv 1)) pa_nil)) pe_int) (pg_sub (pv 0) pe_int set_list))
      (pss_one (ps_if (PW.pt (pw_or (pt_cmpR op_ge (pv 1) (pe_op op_pow pe_int pe_int) (nomark _)) (pw_or1 (pt_cmpR op_le (pv 1) (pe_op op_sub pe_int (pe_op op_pow pe_int pe_int)) (nomark _)))))
        (pss_one (ps_asg (pe_callB call_abs (by rfl) T.abs_ (by decide +kernel) (pa_cons (pv 1) pa_nil)) (pg_sub (pv 0) pe_int set_list)))
        (pss_one (ps_asg pe_int (pg_sub (pv 0) pe_int set_list)))))))), ?_⟩
  have hp : pos.toNat < ns.length := by omega
  have ea : atI (ns.map V.int) pos = some (.int ns[pos.toNat]) := at_of (j := pos.toNat) (by omega) (by rw [List.getElem?_map, List.getElem?_eq_getElem hp]; rfl)
  obtain ⟨c, hc⟩ : ∃ c, c = ns[pos.toNat] := ⟨_, rfl⟩
  rw [← hc] at ea
  refine ⟨_, rfl, s, _, _, _, rfl, rfl, SqL.of h1, at0 rfl, _, rfl, s, _, _, _, rfl, rfl, SqL.of h1, at1 rfl, l, _, _, _, rfl, rfl, SqL.of h3, ea, .inl ⟨_, rfl, ?_⟩⟩
  refine ⟨_, rfl, s, _, _, _, rfl, rfl, SqL.of h1, at1 rfl, _, _, rfl, rfl, _, rfl, s, _, _, _, rfl, rfl, h1, rfl, ?_⟩
  refine ⟨_, rfl, s, _, _, _, rfl, rfl, SqL.of upd_same, atI_nat (j := 3) rfl, _, _, rfl, rfl, .inr ⟨by decide, by decide⟩, _, rfl, _, _, rfl, rfl, .inl ⟨_, rfl, _, _, rfl, rfl, (by show (0 : Int) < 1000000007; decide), _, rfl, s, _, _, _, rfl, rfl, upd_same, rfl, ?_⟩⟩
  have e2 : ∀ o1 o2, Fr s H (upd (upd H s o1) s o2) := fun _ _ => (Fr.upd _).trans (Fr.upd _)
  have e3 : ∀ o1 o2 o3, Fr s H (upd (upd (upd H s o1) s o2) s o3) := fun _ _ _ => (e2 _ _).trans (Fr.upd _)
  have pw : (0 : Int) ≤ 18 ∧ (18 : Int) ≤ 1000000 ∧ (10 : Int).natAbs < 2 ^ 64 := ⟨by decide, by decide, by decide⟩
  have big : ∀ H', H' s = _ → Fr s H H' → Q .non H' := fun H' (e : H' s = some (.lst [.ref l, .int (pos + 1), .int (if c < 0 then -c else c), .int ((seed * 30011 + c) % 1000000007), .int hold, .int cnt])) e' =>
    z H' ⟨ns, pos + 1, _, _, hold, cnt, e, h2, e' _ _ h3 h2, h4, by omega, by split <;> omega, Int.emod_nonneg _ (by decide), Int.emod_lt_of_pos _ (by decide)⟩ e'
  refine ⟨_, rfl, _, _, rfl, rfl, pw, _, _, rfl, rfl, _, rfl, ifD (fun _ => ?_) (fun _ => ⟨_, rfl, _, _, rfl, rfl, pw, _, _, rfl, rfl, _, _, rfl, rfl, _, rfl, ifD (fun _ => ?_) (fun _ => ?_)⟩)⟩
  · exact ⟨_, rfl, _, rfl, _, rfl, s, _, _, _, rfl, rfl, upd_same, rfl, big _ upd_same (e3 _ _ _)⟩
  · exact ⟨_, rfl, _, rfl, _, rfl, s, _, _, _, rfl, rfl, upd_same, rfl, big _ upd_same (e3 _ _ _)⟩
  · exact ⟨_, rfl, s, _, _, _, rfl, rfl, upd_same, rfl, z _ ⟨ns, pos + 1, num, _, 3, cnt, upd_same, h2, (e3 _ _ _) _ _ h3 h2, h4, by omega, h6, Int.emod_nonneg _ (by decide), Int.emod_lt_of_pos _ (by decide)⟩ (e3 _ _ _)⟩
abbrev s__law_take : Stmt := top 29
abbrev N__law_take : List Str := ["_law_store_here", "_law_many", "_law_number"]
theorem sc__law_take : FnScope N__law_take ["_law_store_here", "_law_many"] (defScope s__law_take) := ⟨rfl, rfl, rfl, by decide +kernel, rfl, by decide +kernel, by decide +kernel⟩
abbrev ps__law_take : List Str := ["_law_store_here", "_law_many"]
def spTake (K : PySem.W.Frag) (l : Addr) : Sp := fun vs H Q _ => ∃ (s : Addr) (many : Int), vs = [.ref s, .int many] ∧ Sto l s H ∧ many < 2 ^ 64 ∧ ∀ (r : Int) H', 0 ≤ r → (r < many ∨ r = 0) → Sto l s H' → Fr s H H' → Q (.int r) H'
theorem ok_take (T : Bn mg) (F : Fn K mg "_law_take" s__law_take ps__law_take f fd) (d_law_feed : Def P w K mg base k "_law_feed" ["_law_store_here"] (spFeed K l) f1 fd1) (d_law_mixed : Def P w K mg base k "_law_mixed" ["_law_store_here"] (spMixed K l) f2 fd2) :
    Def P w K mg base (k + 1) "_law_take" ps__law_take (spTake K l) f fd := by
  refine ⟨F.F.ok sc__law_take (fun vs H Q E h => ?_) (fun cdv A outer s H vs Q E hr h => ?_), F.m, F.F.kp, F.b⟩
  · obtain ⟨_, _, rfl, _⟩ := h
    rfl
  obtain ⟨s, many, rfl, hS, hm, z⟩ := h
  refine ⟨_, (pss_cons (ps_set (i := 1) sc__law_take.nd rfl (Or.inl rfl) (pe_callB (call_max2 rfl) (by rfl) T.max_ (by decide +kernel) (pa_cons pe_int (pa_cons (pv 1) pa_nil))))
      (pss_cons (ps_if (PW.pt (pw_and (pt_cmpR op_eq (pe_ix ix_list (pv 0) pe_int (fun _ _ => rfl)) pe_int (nomark _)) (pw_and (pt_cmpR op_eq (pe_ix ix_list (pv 0) pe_int (fun _ _ => rfl)) pe_int (nomark _)) (pw_and1 (pt_cmpR op_lt (pe_ix ix_list (pv 0) pe_int (fun _ _ => rfl)) (pe_callB call_len_seq (by rfl) T.len_ PySem.boot_len (pa_cons (pe_ix ix_list (pv 0) pe_int (fun _ _ => rfl)) pa_nil)) (nomark _))))))
        (pss_one (ps_expr (pcall d_law_feed hr (pa_cons (pv 0) pa_nil))))
        pss_nil)
      (pss_cons (ps_if (pt_cmpR op_gt (pe_ix ix_list (pv 0) pe_int (fun _ _ => rfl)) pe_int (nomark _))
        (pss_cons (ps_set (i := 2) sc__law_take.nd rfl (Or.inl rfl) (pe_ix ix_list (pv 0) pe_int (fun _ _ => rfl)))
        (pss_cons (ps_asg (pe_op op_fdivW (pv 2) (pv 1)) (pg_sub (pv 0) pe_int set_list))
        (pss_one (ps_ret (pe_op op_mod (pe_callTy call_int1 (by rfl) T.int_ (by decide +kernel) (pa_cons (pv 2) pa_nil)) (pv 1))))))
        pss_nil)
      (pss_cons (ps_asg (pe_callB (call_max2 rfl) (by rfl) T.max_ (by decide +kernel) (pa_cons pe_int (pa_cons (pe_op op_sub (pe_ix ix_list (pv 0) pe_int (fun _ _ => rfl)) pe_int) pa_nil))) (pg_sub (pv 0) pe_int set_list))
      (pss_cons (ps_set (i := 2) sc__law_take.nd rfl (Or.inl rfl) (pcall d_law_mixed hr (pa_cons (pv 0) pa_nil)))
      (pss_cons (ps_if (pt_cmpR op_gt (pv 1) pe_int (nomark _))
        (pss_one (ps_set (i := 2) sc__law_take.nd rfl (Or.inl rfl) (pe_op op_add (pv 2) (pe_op op_mul (pcall d_law_mixed hr (pa_cons (pv 0) pa_nil)) pe_int))))
        pss_nil)
      (pss_one (ps_ret (pe_op op_mod (pe_callTy call_int1 (by rfl) T.int_ (by decide +kernel) (pa_cons (pv 2) pa_nil)) (pv 1)))))))))), ?_⟩
  refine ⟨_, rfl, _, _, rfl, ?_⟩
  obtain ⟨M, eM⟩ : ∃ M : Int, M = if many > 1 then many else 1 := ⟨_, rfl⟩
  have M1 : 1 ≤ M := by rw [eM]; split <;> omega
  have M2 : M.natAbs < 2 ^ 64 := by
    have : (2 : Nat) ^ 64 = 18446744073709551616 := by decide
    have : (2 : Int) ^ 64 = 18446744073709551616 := by decide
    rw [eM]; split <;> omega
  have hz : ∀ (r : Int) H', 0 ≤ r → r < M → Sto l s H' → Fr s H H' → Q (.int r) H' := fun r H' a b => z r H' a (by rw [eM] at b; split at b <;> omega)
  rw [← eM]
  dsimp only [gName]
  refine cut (fun σ' H' => σ' = [some (.ref s), some (.int M), none] ∧ Sto l s H' ∧ Fr s H H') ?_ ?_
  · rintro σ H1 ⟨rfl, hS1, e1⟩
    obtain ⟨ns, pos, num, seed, hold, cnt, h1, h2, h3, h4, h5, h6, h7, h8⟩ := id hS1
    refine ⟨_, rfl, s, _, _, _, rfl, rfl, SqL.of h1, at2 rfl, _, _, rfl, rfl, _, rfl, ifD (fun c => ?_) (fun c => ?_)⟩
    · refine ⟨_, rfl, s, _, _, _, rfl, rfl, SqL.of h1, at2 rfl, ?_⟩
      refine ⟨_, rfl, _, rfl, _, _, rfl, rfl, wide_div (by omega) M2 (by decide) (by decide), _, rfl, s, _, _, _, rfl, rfl, h1, rfl, ?_⟩
      refine ⟨_, rfl, .inl ⟨_, rfl, _, rfl, _, _, rfl, rfl, (by show 0 < M; omega), ?_⟩⟩
      have e2 : ∀ o, Fr s H1 (upd H1 s o) := fun _ => Fr.upd _
      exact hz _ _ (Int.emod_nonneg _ (by omega)) (Int.emod_lt_of_pos _ (by omega)) ⟨ns, pos, num / M, seed, hold, cnt, upd_same, h2, (e2 _) _ _ h3 h2, h4, h5, Int.ediv_nonneg (by omega) (by omega), h7, h8⟩ (e1.trans (e2 _))
    refine ⟨_, rfl, s, _, _, _, rfl, rfl, SqL.of h1, atI_nat (j := 4) rfl, _, _, rfl, rfl, _, _, rfl, _, rfl, s, _, _, _, rfl, rfl, h1, rfl, ?_⟩
    have e2 : ∀ o, Fr s H1 (upd H1 s o) := fun _ => Fr.upd _
    refine ⟨_, rfl, s, rfl, ⟨ns, pos, num, seed, _, cnt, upd_same, h2, (e2 _) _ _ h3 h2, h4, h5, h6, h7, h8⟩, fun r H2 r0 r1 S2 e3 => ?_⟩
    refine ⟨_, rfl, _, _, rfl, rfl, _, rfl, ifD (fun c => ?_) (fun c => ?_)⟩
    · refine ⟨_, rfl, _, rfl, s, rfl, S2, fun r' H3 _ _ S3 e4 => ⟨_, _, rfl, rfl, .inr ⟨by decide, by decide⟩, _, _, rfl, rfl, ?_⟩⟩
      refine ⟨_, rfl, .inl ⟨_, rfl, _, rfl, _, _, rfl, rfl, (by show 0 < M; omega), ?_⟩⟩
      exact hz _ _ (Int.emod_nonneg _ (by omega)) (Int.emod_lt_of_pos _ (by omega)) S3 (e1.trans ((e2 _).trans (e3.trans e4)))
    · refine ⟨_, rfl, .inl ⟨_, rfl, _, rfl, _, _, rfl, rfl, (by show 0 < M; omega), ?_⟩⟩
      exact hz _ _ (Int.emod_nonneg _ (by omega)) (Int.emod_lt_of_pos _ (by omega)) S2 (e1.trans ((e2 _).trans e3))
  · intro key
    obtain ⟨ns, pos, num, seed, hold, cnt, h1, h2, h3, h4, h5, h6, h7, h8⟩ := id hS
    refine ⟨_, rfl, s, _, _, _, rfl, rfl, SqL.of h1, at2 rfl, rfl, _, rfl, ifD (fun _ => ?_) (fun _ => ifF rfl (key _ _ ⟨rfl, hS, Fr.refl _ _⟩))⟩
    refine ⟨_, rfl, s, _, _, _, rfl, rfl, SqL.of h1, atI_nat (j := 4) rfl, rfl, _, rfl, ifD (fun _ => ?_) (fun _ => ifF rfl (key _ _ ⟨rfl, hS, Fr.refl _ _⟩))⟩
    refine ⟨_, rfl, s, _, _, _, rfl, rfl, SqL.of h1, at1 rfl, _, rfl, s, _, _, _, rfl, rfl, SqL.of h1, at0 rfl, l, _, rfl, .inl (SqL.of h3), _, _, rfl, rfl, _, rfl, ifD (fun c => ?_) (fun _ => key _ _ ⟨rfl, hS, Fr.refl _ _⟩)⟩
    rw [List.length_map] at c
    exact ⟨_, rfl, s, ns, pos, num, seed, hold, cnt, rfl, h1, h2, h3, h4, h5, h6, h7, h8, c, fun H' S' e' => key _ _ ⟨rfl, S', e'⟩⟩
abbrev s__law_pick : Stmt := top 30
abbrev N__law_pick : List Str := ["_law_store_here", "_law_things"]
theorem sc__law_pick : FnScope N__law_pick ["_law_store_here", "_law_things"] (defScope s__law_pick) := ⟨rfl, rfl, rfl, by decide +kernel, rfl, by decide +kernel, by decide +kernel⟩
abbrev ps__law_pick : List Str := ["_law_store_here", "_law_things"]
/-- a list that is not the store; one of its things is handed back -/
def spPick (K : PySem.W.Frag) (l : Addr) : Sp := fun vs H Q _ => ∃ (s a : Addr) (xs : List V), vs = [.ref s, .ref a] ∧ Sto l s H ∧ a ≠ s ∧ SqL K H a xs ∧ 0 < xs.length ∧ xs.length < 2 ^ 32 ∧ ∀ (v : V) H', v ∈ xs → Sto l s H' → Fr s H H' → Q v H'
theorem ok_pick (T : Bn mg) (F : Fn K mg "_law_pick" s__law_pick ps__law_pick f fd) (d_law_take : Def P w K mg base k "_law_take" ["_law_store_here", "_law_many"] (spTake K l) f1 fd1) : Def P w K mg base (k + 1) "_law_pick" ps__law_pick (spPick K l) f fd := by
  refine ⟨F.F.ok sc__law_pick (fun vs H Q E h => ?_) (fun cdv A outer s H vs Q E hr h => ?_), F.m, F.F.kp, F.b⟩
  · obtain ⟨_, _, _, rfl, _⟩ := h
    rfl
  obtain ⟨s, a, xs, rfl, hS, n, ha, h0, hl, z⟩ := h
  refine ⟨_, (pss_one (ps_ret (pe_ix ix_list (pv 1) (pcall d_law_take hr (pa_cons (pv 0) (pa_cons (pe_callB call_len_seq (by rfl) T.len_ PySem.boot_len (pa_cons (pv 1) pa_nil)) pa_nil))) (fun _ _ => rfl)))), ?_⟩
  have p32 : (2 : Nat) ^ 32 = 4294967296 := by decide
  have p64 : (2 : Int) ^ 64 = 18446744073709551616 := by decide
  refine ⟨_, rfl, _, rfl, _, rfl, a, _, rfl, .inl ha, s, _, rfl, hS, by omega, fun r H' r0 r1 S' e => ?_⟩
  have hr : r.toNat < xs.length := by omega
  refine ⟨a, _, _, xs[r.toNat], rfl, rfl, seq_fr e n ha, at_of (j := r.toNat) (by omega) (List.getElem?_eq_getElem hr), z _ _ (List.getElem_mem hr) S' e⟩
end Vk
namespace Vk
open PySem L2 Vm
variable {l : Addr} {P : Program} {w : World} {K : PySem.W.Frag} {mg : Str → Option Value} {base : Heap} {k : Nat} {f f1 f2 f3 f4 f5 f6 f7 f8 f9 : Addr} {fd fd1 fd2 fd3 fd4 fd5 fd6 fd7 fd8 fd9 : FuncData}
/-! ### data -/
def dq (q : Rat) : PyData := .tuple [.int q.num, .int (q.den : Int)]
theorem Rq.dp {H : Hp} {v : V} {q : Rat} (h : Rq K H v q) : Dp K H v (dq q) := by
  obtain ⟨a, rfl, h⟩ := h
  exact .tup h (.cons (.int _) (.cons (.int _) .nil))
theorem sh_dq (q : Rat) : SeqAt.shaped (dq q) = true := rfl
theorem eqv_dq (p q : Rat) : PyData.eqv (dq p) (dq q) = decide (p = q) := by
  show ((p.num == q.num) && (((p.den : Int) == (q.den : Int)) && true)) = decide (p = q)
  by_cases h : p = q
  · subst h
    simp
  · rw [decide_eq_false h]
    by_cases h1 : p.num = q.num
    · by_cases h2 : p.den = q.den
      · exact absurd (Rat.ext h1 h2) h
      · have : ((p.den : Int) == (q.den : Int)) = false := beq_false_of_ne (by omega)
        rw [this]
        simp
    · have : (p.num == q.num) = false := by simpa using h1
      rw [this]
      simp
inductive Tree : Nat → PyData → Prop
  | int {n} (i : Int) : Tree n (.int i)
  | non {n} : Tree n .none
  | tup {n} {ds : List PyData} : ds.length ≤ 1000 → (∀ d ∈ ds, Tree n d) → Tree (n + 1) (.tuple ds)
  | lst {n} {ds : List PyData} : ds.length ≤ 1000 → (∀ d ∈ ds, Tree n d) → Tree (n + 1) (.list ds)
theorem tree_dq (n : Nat) (q : Rat) : Tree (n + 1) (dq q) := .tup (by show 2 ≤ 1000; decide) fun d h => by
  rcases List.mem_cons.mp h with rfl | h
  · exact .int _
  · rcases List.mem_cons.mp h with rfl | h
    · exact .int _
    · cases h
theorem sql_ty {H : Hp} {a : Addr} {xs : List V} (h : SqL K H a xs) : TyX K H (.ref a) (.type "list") := by
  rcases h with (h | ⟨o, h⟩) | ⟨o, its, n, h, c, _⟩
  · exact .base (.lst h)
  · exact .base (.frz h)
  · exact .kList h c
theorem sqt_ty {H : Hp} {a : Addr} {xs : List V} (h : SqT K H a xs) : TyX K H (.ref a) (.type "tuple") := by
  rcases h with (h | ⟨o, h⟩) | ⟨o, its, n, h, c, _⟩
  · exact .base (.tup h)
  · exact .fTuple h
  · exact .kTuple h c
theorem dpall_len {H : Hp} : ∀ {vs : List V} {ds : List PyData}, DpAll K H vs ds → vs.length = ds.length
  | _, _, .nil => rfl
  | _, _, .cons _ t => by simp [dpall_len t]
theorem dpall_at {H : Hp} : ∀ {vs : List V} {ds : List PyData}, DpAll K H vs ds → ∀ {i : Nat} {d : PyData}, ds[i]? = some d → ∃ v, vs[i]? = some v ∧ Dp K H v d
  | _, _, .nil, i, d, h => by simp at h
  | _, _, .cons r t, 0, d, h => ⟨_, rfl, by rw [← Option.some.inj h]; exact r⟩
  | _, _, .cons r t, i + 1, d, h => dpall_at t h
abbrev s__law_is_int : Stmt := top 31
abbrev N__law_is_int : List Str := ["_law_value"]
theorem sc__law_is_int : FnScope N__law_is_int ["_law_value"] (defScope s__law_is_int) := ⟨rfl, rfl, rfl, by decide +kernel, rfl, by decide +kernel, by decide +kernel⟩
abbrev ps__law_is_int : List Str := ["_law_value"]
def spIsInt (K : PySem.W.Frag) : Sp := fun vs H Q _ => ∃ i : Int, vs = [.int i] ∧ Q (.bl true) H
theorem ok_is_int (T : Bn mg) (F : Fn K mg "_law_is_int" s__law_is_int ps__law_is_int f fd) : Def P w K mg base (k + 1) "_law_is_int" ps__law_is_int (spIsInt K) f fd := by
  refine ⟨F.F.ok sc__law_is_int (fun vs H Q E h => ?_) (fun cdv A outer s H vs Q E hr h => ?_), F.m, F.F.kp, F.b⟩
  · obtain ⟨i, rfl, _⟩ := h
    rfl
  obtain ⟨i, rfl, z⟩ := h
  refine ⟨_, (pss_one (ps_ret (pe_and (pe_callB call_isi (by rfl) T.isinstance_ (by decide +kernel) (pa_cons (pv 0) (pa_cons (pe_bltn (v := .ty "int") (by rfl) T.int_ (by decide +kernel) rfl) pa_nil))) (pe_one (pe_not (pe_callB call_isi (by rfl) T.isinstance_ (by decide +kernel) (pa_cons (pv 0) (pa_cons (pe_bltn (v := .ty "bool") (by rfl) T.bool_ (by decide +kernel) rfl) pa_nil)))))))), ?_⟩
  exact ⟨_, rfl, _, _, _, _, true, rfl, .ty _, (.base (.int i)), kit_ty (by decide +kernel), _, rfl, ifT rfl ⟨_, rfl, _, _, _, _, false, rfl, .ty _, (.base (.int i)), kit_ty (by decide +kernel), _, rfl, z⟩⟩
abbrev s__law_same : Stmt := top 32
abbrev N__law_same : List Str := ["_law_value", "_law_due", "_law_keys", "_law_name", "_law_k"]
theorem sc__law_same : FnScope N__law_same ["_law_value", "_law_due"] (defScope s__law_same) := ⟨rfl, rfl, rfl, by decide +kernel, rfl, by decide +kernel, by decide +kernel⟩
abbrev ps__law_same : List Str := ["_law_value", "_law_due"]
def spSame (K : PySem.W.Frag) (n : Nat) : Sp := fun vs H Q _ => ∃ (v u : V) (d : PyData), vs = [v, u] ∧ Dp K H v d ∧ Dp K H u d ∧ Tree n d ∧ Q (.bl true) H
theorem ok_same1 (T : Bn mg) (n : Nat) (F : Fn K mg "_law_same" s__law_same ps__law_same f fd) (d_law_is_int : Def P w K mg base (k + n) "_law_is_int" ["_law_value"] (spIsInt K) f1 fd1)
    (d_law_same : Def P w K mg base (k + n) "_law_same" ["_law_value", "_law_due"] (fun vs H Q E => ∃ m, m + 1 = n ∧ spSame K m vs H Q E) f fd) : Def P w K mg base (k + n + 1) "_law_same" ps__law_same (spSame K n) f fd := by
  refine ⟨F.F.ok sc__law_same (fun vs H Q E h => ?_) (fun cdv A outer s H vs Q E hr h => ?_), F.m, F.F.kp, F.b⟩
  · obtain ⟨v, u, d, rfl, _⟩ := h
    rfl
  obtain ⟨v, u, d, rfl, hv, hu, ht, z⟩ := h
  refine ⟨_, (pss_cons (ps_if (pt_cmpR op_isN (pv 1) pe_non (nomark _))
        (pss_one (ps_ret (pe_cmpR op_isN (pv 0) pe_non (nomark _))))
        pss_nil)
      (pss_cons (ps_if (pt_val (pe_callB call_isi (by rfl) T.isinstance_ (by decide +kernel) (pa_cons (pv 1) (pa_cons (pe_bltn (v := .ty "bool") (by rfl) T.bool_ (by decide +kernel) rfl) pa_nil))))
        (pss_one (ps_ret (pe_and (pe_callB call_isi (by rfl) T.isinstance_ (by decide +kernel) (pa_cons (pv 0) (pa_cons (pe_bltn (v := .ty "bool") (by rfl) T.bool_ (by decide +kernel) rfl) pa_nil))) (pe_one (pe_cmpR (op_eqD hr.units) (pv 0) (pv 1) (nomark _))))))
        pss_nil)
      (pss_cons (ps_if (pt_val (pe_callB call_isi (by rfl) T.isinstance_ (by decide +kernel) (pa_cons (pv 1) (pa_cons (pe_bltn (v := .ty "int") (by rfl) T.int_ (by decide +kernel) rfl) pa_nil))))
        (pss_one (ps_ret (pe_and (pcall d_law_is_int hr (pa_cons (pv 0) pa_nil)) (pe_one (pe_cmpR (op_eqD hr.units) (pv 0) (pv 1) (nomark _))))))
        pss_nil)
      (pss_cons (ps_if (pt_val (pe_callB call_isi (by rfl) T.isinstance_ (by decide +kernel) (pa_cons (pv 1) (pa_cons (pe_bltn (v := .ty "str") (by rfl) T.str_ (by decide +kernel) rfl) pa_nil))))
        (pss_one (ps_ret (pe_and (pe_callB call_isi (by rfl) T.isinstance_ (by decide +kernel) (pa_cons (pv 0) (pa_cons (pe_bltn (v := .ty "str") (by rfl) T.str_ (by decide +kernel) rfl) pa_nil))) (pe_one (pe_cmpR (op_eqD hr.units) (pv 0) (pv 1) (nomark _))))))
        pss_nil)
      (pss_cons (ps_if (pt_val (pe_callB call_isi (by rfl) T.isinstance_ (by decide +kernel) (pa_cons (pv 1) (pa_cons (pe_bltn (v := .ty "dict") (by rfl) T.dict_ (by decide +kernel) rfl) pa_nil))))
        pss_never
        pss_nil)
      (pss_cons (ps_if (PW.pt (pw_and (pt_val (pe_callB call_isi (by rfl) T.isinstance_ (by decide +kernel) (pa_cons (pv 1) (pa_cons (pe_bltn (v := .ty "list") (by rfl) T.list_ (by decide +kernel) rfl) pa_nil)))) (pw_and1 (pt_not (pt_val (pe_callB call_isi (by rfl) T.isinstance_ (by decide +kernel) (pa_cons (pv 0) (pa_cons (pe_bltn (v := .ty "list") (by rfl) T.list_ (by decide +kernel) rfl) pa_nil))))))))
        (pss_one (ps_ret pe_bl))
        pss_nil)
      (pss_cons (ps_if (PW.pt (pw_and (pt_val (pe_callB call_isi (by rfl) T.isinstance_ (by decide +kernel) (pa_cons (pv 1) (pa_cons (pe_bltn (v := .ty "tuple") (by rfl) T.tuple_ (by decide +kernel) rfl) pa_nil)))) (pw_and1 (pt_not (pt_val (pe_callB call_isi (by rfl) T.isinstance_ (by decide +kernel) (pa_cons (pv 0) (pa_cons (pe_bltn (v := .ty "tuple") (by rfl) T.tuple_ (by decide +kernel) rfl) pa_nil))))))))
        (pss_one (ps_ret pe_bl))
        pss_nil)
      (pss_cons (ps_if (pt_cmpR op_ne (pe_callB call_len_seq (by rfl) T.len_ PySem.boot_len (pa_cons (pv 0) pa_nil)) (pe_callB call_len_seq (by rfl) T.len_ PySem.boot_len (pa_cons (pv 1) pa_nil)) (nomark _))
        (pss_one (ps_ret pe_bl))
        pss_nil)
      (pss_cons (ps_for PassesOwn.never rfl (pi_range1 (by rfl) T.range_ (pa_cons (pe_callB call_len_seq (by rfl) T.len_ PySem.boot_len (pa_cons (pv 1) pa_nil)) pa_nil)) (pg_name (i := 4) sc__law_same.nd rfl (Or.inl rfl))
        (pss_one (ps_if (pt_not (pt_val (pcall d_law_same hr (pa_cons (pe_ix ix_seq (pv 0) (pv 4) (fun _ _ => rfl)) (pa_cons (pe_ix ix_seq (pv 1) (pv 4) (fun _ _ => rfl)) pa_nil)))))
          (pss_one (ps_ret pe_bl))
          pss_nil)))
      (pss_one (ps_ret pe_bl))))))))))), ?_⟩
  cases ht with
  | int i =>
    cases hv
    cases hu
    refine ⟨_, rfl, rfl, _, rfl, ifF (dF nofun) ⟨_, rfl, _, _, _, _, false, rfl, .ty _, (.base (.int i)), kit_ty (by decide +kernel), _, rfl, ifF rfl ⟨_, rfl, _, _, _, _, true, rfl, .ty _, (.base (.int i)), kit_ty (by decide +kernel), _, rfl, ifT rfl ?_⟩⟩⟩
    refine ⟨_, rfl, i, rfl, _, rfl, ifT rfl ⟨_, rfl, _, rfl, _, _, .int i, .int i, rfl, rfl, ?_⟩⟩
    rw [show PyData.eqv (.int i) (.int i) = true from beq_self_eq_true i]
    exact z
  | non =>
    cases hv
    cases hu
    exact ⟨_, rfl, rfl, _, rfl, ifT (dT rfl) ⟨_, rfl, rfl, z⟩⟩
  | tup hl hall =>
    rename_i m ds
    cases hv with
    | tup ha da =>
    rename_i a xs
    cases hu with
    | tup hb db =>
    rename_i b ys
    have lx := dpall_len da
    have ly := dpall_len db
    have ta := sqt_ty ha
    have tb := sqt_ty hb
    refine ⟨_, rfl, rfl, _, rfl, ifF (dF nofun) ⟨_, rfl, _, _, _, _, false, rfl, .ty _, tb, kit_ty (by decide +kernel), _, rfl, ifF rfl ⟨_, rfl, _, _, _, _, false, rfl, .ty _, tb, kit_ty (by decide +kernel), _, rfl, ifF rfl ⟨_, rfl, _, _, _, _, false, rfl, .ty _, tb, kit_ty (by decide +kernel), _, rfl, ifF rfl ⟨_, rfl, _, _, _, _, false, rfl, .ty _, tb, kit_ty (by decide +kernel), _, rfl, ifF rfl ?_⟩⟩⟩⟩⟩
    refine ⟨_, rfl, _, _, _, _, false, rfl, .ty _, tb, kit_ty (by decide +kernel), _, rfl, ifF rfl (ifF rfl ⟨_, rfl, _, _, _, _, true, rfl, .ty _, tb, kit_ty (by decide +kernel), _, rfl, ifT rfl ⟨_, rfl, _, _, _, _, true, rfl, .ty _, ta, kit_ty (by decide +kernel), _, rfl, ifF rfl ?_⟩⟩)⟩
    refine ⟨_, rfl, a, _, rfl, .inr ha, _, rfl, b, _, rfl, .inr hb, rfl, _, rfl, ifF ?_ ?_⟩
    · rw [lx, ly]
      simp
    have p62 : (2 : Int) ^ 62 = 4611686018427387904 := by decide
    refine ⟨_, rfl, b, _, rfl, .inr hb, _, rfl, by omega, by omega, for_range (n := ((ys.length : Nat) : Int).toNat) (fun i σ H' => ∃ kk, σ = [some (.ref a), some (.ref b), none, none, kk] ∧ H' = H) ⟨none, rfl, rfl⟩ ?_ ?_⟩
    · rintro i σ H' hi ⟨kk, rfl, rfl⟩
      have hi' : i < ds.length := by omega
      obtain ⟨v, hv, dv⟩ := dpall_at da (List.getElem?_eq_getElem hi')
      obtain ⟨u, hu, du⟩ := dpall_at db (List.getElem?_eq_getElem hi')
      refine ⟨_, rfl, _, rfl, .inr (.inl ⟨a, _, _, v, rfl, rfl, ha, at_of (j := i) (by omega) hv, _, rfl, _, rfl, .inr (.inl ⟨b, _, _, u, rfl, rfl, hb, at_of (j := i) (by omega) hu, m, rfl, v, u, _, rfl, dv, du, hall _ (List.getElem_mem hi'), ?_⟩)⟩)⟩
      exact ⟨_, rfl, ifF rfl ⟨_, rfl, rfl⟩⟩
    · rintro σ H' ⟨kk, rfl, rfl⟩
      exact z
  | lst hl hall =>
    rename_i m ds
    cases hv with
    | lst ha da =>
    rename_i a xs
    cases hu with
    | lst hb db =>
    rename_i b ys
    have lx := dpall_len da
    have ly := dpall_len db
    have ta := sql_ty ha
    have tb := sql_ty hb
    refine ⟨_, rfl, rfl, _, rfl, ifF (dF nofun) ⟨_, rfl, _, _, _, _, false, rfl, .ty _, tb, kit_ty (by decide +kernel), _, rfl, ifF rfl ⟨_, rfl, _, _, _, _, false, rfl, .ty _, tb, kit_ty (by decide +kernel), _, rfl, ifF rfl ⟨_, rfl, _, _, _, _, false, rfl, .ty _, tb, kit_ty (by decide +kernel), _, rfl, ifF rfl ⟨_, rfl, _, _, _, _, false, rfl, .ty _, tb, kit_ty (by decide +kernel), _, rfl, ifF rfl ?_⟩⟩⟩⟩⟩
    refine ⟨_, rfl, _, _, _, _, true, rfl, .ty _, tb, kit_ty (by decide +kernel), _, rfl, ifT rfl ⟨_, rfl, _, _, _, _, true, rfl, .ty _, ta, kit_ty (by decide +kernel), _, rfl, ifF rfl ⟨_, rfl, _, _, _, _, false, rfl, .ty _, tb, kit_ty (by decide +kernel), _, rfl, ifF rfl (ifF rfl ?_)⟩⟩⟩
    refine ⟨_, rfl, a, _, rfl, .inl ha, _, rfl, b, _, rfl, .inl hb, rfl, _, rfl, ifF ?_ ?_⟩
    · rw [lx, ly]
      simp
    have p62 : (2 : Int) ^ 62 = 4611686018427387904 := by decide
    refine ⟨_, rfl, b, _, rfl, .inl hb, _, rfl, by omega, by omega, for_range (n := ((ys.length : Nat) : Int).toNat) (fun i σ H' => ∃ kk, σ = [some (.ref a), some (.ref b), none, none, kk] ∧ H' = H) ⟨none, rfl, rfl⟩ ?_ ?_⟩
    · rintro i σ H' hi ⟨kk, rfl, rfl⟩
      have hi' : i < ds.length := by omega
      obtain ⟨v, hv, dv⟩ := dpall_at da (List.getElem?_eq_getElem hi')
      obtain ⟨u, hu, du⟩ := dpall_at db (List.getElem?_eq_getElem hi')
      refine ⟨_, rfl, _, rfl, .inl ⟨a, _, _, v, rfl, rfl, ha, at_of (j := i) (by omega) hv, _, rfl, _, rfl, .inl ⟨b, _, _, u, rfl, rfl, hb, at_of (j := i) (by omega) hu, m, rfl, v, u, _, rfl, dv, du, hall _ (List.getElem_mem hi'), ?_⟩⟩⟩
      exact ⟨_, rfl, ifF rfl ⟨_, rfl, rfl⟩⟩
    · rintro σ H' ⟨kk, rfl, rfl⟩
      exact z
def spSize (K : PySem.W.Frag) (l : Addr) : Sp := fun vs H Q _ => ∃ (s : Addr) (lo hi : Int), vs = [.ref s, .int lo, .int hi] ∧ Sto l s H ∧ lo ≤ hi ∧ hi - lo < 2 ^ 32 ∧ ∀ (r : Int) H', lo ≤ r → r ≤ hi → Sto l s H' → Fr s H H' → Q (.int r) H'
theorem ok_same (T : Bn mg) (F : Fn K mg "_law_same" s__law_same ps__law_same f fd) (d_law_is_int : Def P w K mg base k "_law_is_int" ["_law_value"] (spIsInt K) f1 fd1) : ∀ n, Def P w K mg base (k + n + 1) "_law_same" ps__law_same (spSame K n) f fd
  | 0 => ok_same1 T 0 F (d_law_is_int.up (Nat.le_refl _)) ⟨⟨fun vs H Q E h => by obtain ⟨m, h, _⟩ := h; omega, fun A outer s H args us vs Q E _ _ _ _ h => by obtain ⟨m, h, _⟩ := h; omega⟩, F.m, F.F.kp, F.b⟩
  | n + 1 => by
    have ih := ok_same T F d_law_is_int n
    exact ok_same1 T (n + 1) F (d_law_is_int.up (by omega)) ⟨ih.ok.imp fun vs H Q E h => by
      obtain ⟨m, h, q⟩ := h
      have e : m = n := by omega
      subst e
      exact q, F.m, F.F.kp, F.b⟩
end Vk
namespace Vk
open PySem L2 Vm
variable {l : Addr} {P : Program} {w : World} {K : PySem.W.Frag} {mg : Str → Option Value} {base : Heap} {k : Nat} {f f1 f2 f3 f4 f5 f6 f7 f8 f9 : Addr} {fd fd1 fd2 fd3 fd4 fd5 fd6 fd7 fd8 fd9 : FuncData}
/-! ### drawn rationals -/
def Qd (K : PySem.W.Frag) (m : Nat) (ok : Rat → Prop) (H : Hp) (v : V) : Prop := ∃ q, Rq K H v q ∧ Sz m q ∧ ok q
theorem Qd.same {m : Nat} {ok : Rat → Prop} {H H' : Hp} {v : V} (e : Same H H') (h : Qd K m ok H v) : Qd K m ok H' v := by
  obtain ⟨q, h, r⟩ := h
  exact ⟨q, h.same e, r⟩
theorem Qd.fr {m : Nat} {ok : Rat → Prop} {s : Addr} {H H' : Hp} {v : V} (e : Fr s H H') (hs : Sto l s H) (h : Qd K m ok H v) : Qd K m ok H' v := by
  obtain ⟨q, h, r⟩ := h
  exact ⟨q, h.fr e hs.some, r⟩
theorem Qd.new {m : Nat} {ok : Rat → Prop} {H : Hp} {t : Addr} (n d : Int) (q : Rat) (en : q.num = n) (ed : (q.den : Int) = d) (z : Sz m q) (o : ok q) : Qd K m ok (upd H t (.tup [.int n, .int d])) (.ref t) :=
  ⟨q, ⟨t, rfl, SqT.of (by rw [upd_same, en, ed])⟩, z, o⟩
theorem rq_new {H : Hp} {t : Addr} (n d : Int) (q : Rat) (en : q.num = n) (ed : (q.den : Int) = d) : Rq K (upd H t (.tup [.int n, .int d])) (.ref t) q := ⟨t, rfl, SqT.of (by rw [upd_same, en, ed])⟩
instance (k : Nat) (q : Rat) : Decidable (Sz k q) := inferInstanceAs (Decidable (_ ∧ _))
/-- a written pair: from then on a drawn rational -/
theorem newq {m : Nat} {ok : Rat → Prop} {H : Hp} {Q : V → Hp → Prop} (n d : Int) (q : Rat) (en : q.num = n) (ed : (q.den : Int) = d) (z : Sz m q) (o : ok q) (h : ∀ v H', Same H H' → Qd K m ok H' v → Q v H') : ∀ t, H t = none → Q (.ref t) (upd H t (.tup [.int n, .int d])) :=
  fun t ht => h _ _ (same_new ht _) (Qd.new n d q en ed z o)
def anyQ : Rat → Prop := fun _ => True
def posQ : Rat → Prop := fun q => 0 < q
instance (q : Rat) : Decidable (posQ q) := inferInstanceAs (Decidable (0 < q))
/-- a rational is drawn -/
def spDraw (K : PySem.W.Frag) (l : Addr) (m : Nat) (ok : Rat → Prop) : Sp := fun vs H Q _ => ∃ (s : Addr), vs = [.ref s] ∧ Sto l s H ∧ ∀ (v : V) H', Qd K m ok H' v → Sto l s H' → Fr s H H' → Q v H'
theorem mk_pos {n d : Int} (hn : 0 < n) (hd : 0 < d) : 0 < mkRat n d.toNat := by
  refine pos_of_num ?_
  have dn : d.toNat ≠ 0 := by omega
  rw [mk_num n dn]
  have g := Nat.gcd_le_left d.toNat (show 0 < n.natAbs by omega)
  have gp : 0 < Nat.gcd n.natAbs d.toNat := Nat.gcd_pos_of_pos_left _ (by omega)
  exact Int.ediv_pos_of_pos_of_dvd hn (by omega) (by
    have := Nat.gcd_dvd_left n.natAbs d.toNat
    have e : n = (n.natAbs : Int) := by omega
    rw [e]
    exact Int.natCast_dvd_natCast.mpr (by rw [Int.natAbs_natCast]; exact this))
theorem lt2 {i : Int} {b : Nat} (c : Nat) (h : i.natAbs < c) (e : c ≤ 2 ^ b) : i.natAbs < 2 ^ b := Nat.lt_of_lt_of_le h e
abbrev s__law_part : Stmt := top 40
abbrev N__law_part : List Str := ["_law_store_here", "_law_sort"]
theorem sc__law_part : FnScope N__law_part ["_law_store_here"] (defScope s__law_part) := ⟨rfl, rfl, rfl, by decide +kernel, rfl, by decide +kernel, by decide +kernel⟩
abbrev ps__law_part : List Str := ["_law_store_here"]
theorem ok_part (F : Fn K mg "_law_part" s__law_part ps__law_part f fd) (d_law_take : Def P w K mg base k "_law_take" ["_law_store_here", "_law_many"] (spTake K l) f1 fd1) (d_law_pick : Def P w K mg base k "_law_pick" ["_law_store_here", "_law_things"] (spPick K l) f2 fd2)
    (d_law_frac : Def P w K mg base k "_law_frac" ["_law_n", "_law_d"] (spFrac K) f3 fd3) : Def P w K mg base (k + 1) "_law_part" ps__law_part (spDraw K l 5 anyQ) f fd := by
  refine ⟨F.F.ok sc__law_part (fun vs H Q E h => ?_) (fun cdv A outer s H vs Q E hr h => ?_), F.m, F.F.kp, F.b⟩
  · obtain ⟨_, rfl, _⟩ := h
    rfl
  obtain ⟨s, rfl, hS, z⟩ := h
  refine ⟨_, (pss_cons (ps_set (i := 1) sc__law_part.nd rfl (Or.inl rfl) (pcall d_law_take hr (pa_cons (pv 0) (pa_cons pe_int pa_nil))))
      (pss_cons (ps_if (pt_cmpR op_lt (pv 1) pe_int (nomark _))
        (pss_one (ps_ret (pcall d_law_pick hr (pa_cons (pv 0) (pa_cons (pe_lst (pa_cons (pe_tup (pa_cons pe_int (pa_cons pe_int pa_nil))) (pa_cons (pe_tup (pa_cons pe_int (pa_cons pe_int pa_nil))) (pa_cons (pe_tup (pa_cons pe_int (pa_cons pe_int pa_nil))) (pa_cons (pe_tup (pa_cons (pe_un un_neg pe_int) (pa_cons pe_int pa_nil))) (pa_cons (pe_tup (pa_cons pe_int (pa_cons pe_int pa_nil))) (pa_cons (pe_tup (pa_cons (pe_un un_neg pe_int) (pa_cons pe_int pa_nil))) pa_nil))))))) pa_nil)))))
        pss_nil)
      (pss_one (ps_ret (pcall d_law_frac hr (pa_cons (pe_op op_sub (pcall d_law_take hr (pa_cons (pv 0) (pa_cons pe_int pa_nil))) pe_int) (pa_cons (pe_op op_add pe_int (pcall d_law_take hr (pa_cons (pv 0) (pa_cons pe_int pa_nil)))) pa_nil))))))), ?_⟩
  refine ⟨_, rfl, s, 6, rfl, hS, by decide, fun r H1 r0 r1 S1 e1 => ?_⟩
  refine ⟨_, rfl, _, _, rfl, rfl, _, rfl, ifD (fun _ => ?_) (fun _ => ?_)⟩
  · refine ⟨_, rfl, sz2, fun t1 h1 => ?_⟩
    have c1 := same_new h1 (.tup [.int 0, .int 1]); have q1 := Qd.new (K := K) (m := 5) (ok := anyQ) (H := H1) (t := t1) 0 1 (0) (by decide) (by decide) (by decide) trivial; generalize upd H1 t1 (.tup [.int 0, .int 1]) = G1 at c1 q1 ⊢
    refine ⟨sz2, fun t2 h2 => ?_⟩
    have c2 := same_new h2 (.tup [.int 0, .int 1]); have q2 := Qd.new (K := K) (m := 5) (ok := anyQ) (H := G1) (t := t2) 0 1 (0) (by decide) (by decide) (by decide) trivial; generalize upd G1 t2 (.tup [.int 0, .int 1]) = G2 at c2 q2 ⊢
    refine ⟨sz2, fun t3 h3 => ?_⟩
    have c3 := same_new h3 (.tup [.int 1, .int 1]); have q3 := Qd.new (K := K) (m := 5) (ok := anyQ) (H := G2) (t := t3) 1 1 (1) (by decide) (by decide) (by decide) trivial; generalize upd G2 t3 (.tup [.int 1, .int 1]) = G3 at c3 q3 ⊢
    refine ⟨_, rfl, sz2, fun t4 h4 => ?_⟩
    have c4 := same_new h4 (.tup [.int (-1), .int 1]); have q4 := Qd.new (K := K) (m := 5) (ok := anyQ) (H := G3) (t := t4) (-1) 1 (-1) (by decide) (by decide) (by decide) trivial; generalize upd G3 t4 (.tup [.int (-1), .int 1]) = G4 at c4 q4 ⊢
    refine ⟨sz2, fun t5 h5 => ?_⟩
    have c5 := same_new h5 (.tup [.int 1, .int 2]); have q5 := Qd.new (K := K) (m := 5) (ok := anyQ) (H := G4) (t := t5) 1 2 (mkRat 1 2) (by decide) (by decide) (by decide) trivial; generalize upd G4 t5 (.tup [.int 1, .int 2]) = G5 at c5 q5 ⊢
    refine ⟨_, rfl, sz2, fun t6 h6 => ?_⟩
    have c6 := same_new h6 (.tup [.int (-1), .int 2]); have q6 := Qd.new (K := K) (m := 5) (ok := anyQ) (H := G5) (t := t6) (-1) 2 (mkRat (-1) 2) (by decide) (by decide) (by decide) trivial; generalize upd G5 t6 (.tup [.int (-1), .int 2]) = G6 at c6 q6 ⊢
    refine ⟨sm6, fun p h7 => ?_⟩
    have c7 := same_new h7 (.lst [.ref t1, .ref t2, .ref t3, .ref t4, .ref t5, .ref t6])
    have d6 := c6.trans c7; have d5 := c5.trans d6; have d4 := c4.trans d5; have d3 := c3.trans d4; have d2 := c2.trans d3; have d1 := c1.trans d2
    have S7 := S1.same d1
    have q1 := q1.same d2; have q2 := q2.same d3; have q3 := q3.same d4; have q4 := q4.same d5; have q5 := q5.same d6; have q6 := q6.same c7
    refine ⟨s, p, _, rfl, S7, (S1.same (c1.trans (c2.trans (c3.trans (c4.trans (c5.trans c6)))))).ne h7, SqL.of upd_same, (by show 0 < 6; decide), (by show 6 < 2 ^ 32; decide), fun v H' hv S' e' => z _ _ ?_ S' (e1.trans ((Fr.of d1).trans e'))⟩
    refine Qd.fr e' S7 ?_
    simp only [List.mem_cons, List.mem_nil_iff, or_false] at hv
    rcases hv with rfl | rfl | rfl | rfl | rfl | rfl <;> assumption
  · refine ⟨_, rfl, s, 49, rfl, S1, by decide, fun r2 H2 r3 r4 S2 e2 => ⟨_, _, rfl, rfl, ?_⟩⟩
    refine ⟨_, rfl, s, 6, rfl, S2, by decide, fun r5 H3 r6 r7 S3 e3 => ⟨_, _, rfl, rfl, ?_⟩⟩
    refine ⟨_, _, 5, rfl, by omega, lt2 25 (by omega) (by decide), lt2 7 (by omega) (by decide), by decide, fun v H' e hv => z _ _ ⟨_, hv, sz_mk (by omega) ?_ ?_, trivial⟩ (S3.same e) (e1.trans (e2.trans (e3.trans (Fr.of e))))⟩
    · exact lt2 25 (by omega) (by decide)
    · have : (2 : Nat) ^ 5 = 32 := by decide
      omega
/-- one rational in, one near it out -/
def spNear (K : PySem.W.Frag) (l : Addr) : Sp := fun vs H Q _ => ∃ (s : Addr) (x : V) (m : Nat), vs = [.ref s, x] ∧ Sto l s H ∧ m + 11 ≤ 9000 ∧ Qd K m anyQ H x ∧ ∀ (v : V) H', Qd K (m + 11) anyQ H' v → Sto l s H' → Fr s H H' → Q v H'
end Vk
namespace Vk
open PySem L2 Vm
variable {P : Program} {w : World} {K : PySem.W.Frag} {mg : Str → Option Value} {base : Heap} {k : Nat} {f f1 f2 f3 f4 f5 f6 f7 f8 f9 : Addr} {fd fd1 fd2 fd3 fd4 fd5 fd6 fd7 fd8 fd9 : FuncData}
/-! ### courses -/
structure Pc where
  s : Rat
  v : Rat
  r : Rat
def Pq (K : PySem.W.Frag) (H : Hp) (x : V) (p : Pc) : Prop := ∃ a xs xv xr, x = .ref a ∧ SqT K H a [xs, xv, xr] ∧ Rq K H xs p.s ∧ Rq K H xv p.v ∧ Rq K H xr p.r
theorem Pq.same {H H' : Hp} {x : V} {p : Pc} (e : Same H H') (h : Pq K H x p) : Pq K H' x p := by
  obtain ⟨a, xs, xv, xr, rfl, h, h1, h2, h3⟩ := h
  exact ⟨a, xs, xv, xr, rfl, e.sqt h, h1.same e, h2.same e, h3.same e⟩
theorem Pq.fr {s : Addr} {H H' : Hp} {x : V} {p : Pc} (e : Fr s H H') (hs : ∃ ys, H s = some (.lst ys)) (h : Pq K H x p) : Pq K H' x p := by
  obtain ⟨a, xs, xv, xr, rfl, h, h1, h2, h3⟩ := h
  exact ⟨a, xs, xv, xr, rfl, sqt_fr e hs h, h1.fr e hs, h2.fr e hs, h3.fr e hs⟩
def All2 {α : Type} (R : V → α → Prop) (xs : List V) (c : List α) : Prop := xs.length = c.length ∧ ∀ (i : Nat) x p, xs[i]? = some x → c[i]? = some p → R x p
theorem All2.nil {α : Type} {R : V → α → Prop} : All2 R [] [] := ⟨rfl, fun i x p h => by simp at h⟩
theorem All2.imp {α : Type} {R R' : V → α → Prop} {xs : List V} {c : List α} (h : All2 R xs c) (g : ∀ x p, R x p → R' x p) : All2 R' xs c := ⟨h.1, fun i x p a b => g _ _ (h.2 i x p a b)⟩
theorem All2.snoc {α : Type} {R : V → α → Prop} {xs : List V} {c : List α} {x : V} {p : α} (h : All2 R xs c) (r : R x p) : All2 R (xs ++ [x]) (c ++ [p]) := by
  refine ⟨by simp [h.1], fun i y q a b => ?_⟩
  by_cases hi : i < xs.length
  · rw [List.getElem?_append_left hi] at a
    rw [List.getElem?_append_left (by rw [← h.1]; exact hi)] at b
    exact h.2 i y q a b
  · rw [List.getElem?_append_right (by omega)] at a
    rw [List.getElem?_append_right (by rw [← h.1]; omega)] at b
    have e : i - xs.length = 0 := by
      have := (List.getElem?_eq_some_iff.mp a).1
      simp at this
      omega
    rw [e] at a
    rw [← h.1, e] at b
    cases a
    cases b
    exact r
theorem All2.at {α : Type} {R : V → α → Prop} {xs : List V} {c : List α} (h : All2 R xs c) {i : Nat} {p : α} (e : c[i]? = some p) : ∃ x, xs[i]? = some x ∧ R x p := by
  have hi := (List.getElem?_eq_some_iff.mp e).1
  rw [← h.1] at hi
  exact ⟨xs[i], List.getElem?_eq_getElem hi, h.2 i _ _ (List.getElem?_eq_getElem hi) e⟩
/-- a list at a holds the course c -/
def Cq (K : PySem.W.Frag) (H : Hp) (a : Addr) (c : List Pc) : Prop := ∃ xs, SqL K H a xs ∧ All2 (Pq K H) xs c
theorem Cq.same {H H' : Hp} {a : Addr} {c : List Pc} (e : Same H H') (h : Cq K H a c) : Cq K H' a c := by
  obtain ⟨xs, h, g⟩ := h
  exact ⟨xs, e.seq h, g.imp fun _ _ h => h.same e⟩
theorem Cq.fr {s : Addr} {H H' : Hp} {a : Addr} {c : List Pc} (e : Fr s H H') (hs : ∃ ys, H s = some (.lst ys)) (n : a ≠ s) (h : Cq K H a c) : Cq K H' a c := by
  obtain ⟨xs, h, g⟩ := h
  exact ⟨xs, seq_fr e n h, g.imp fun _ _ h => h.fr e hs⟩
/-- sizes: starts, values, rates -/
def Cz (i j l : Nat) (c : List Pc) : Prop := ∀ p ∈ c, Sz i p.s ∧ Sz j p.v ∧ Sz l p.r
/-- a course's form -/
def Cok (c : List Pc) : Prop := (∀ p ∈ c, 0 < p.r) ∧ ∀ (i : Nat) p q, c[i]? = some p → c[i + 1]? = some q → p.s < q.s
def tm (p : Pc) (y : Rat) : Rat := p.s + (y - p.v) / p.r
def before (c : List Pc) (k : Nat) (t : Rat) : Bool := match c[k]? with
  | none => true
  | some q => decide (t < q.s)
def hit (c : List Pc) (y : Rat) (k : Nat) : Option Rat := match c[k]? with
  | none => none
  | some p => if p.s ≤ tm p y ∧ before c (k + 1) (tm p y) = true then some (tm p y) else none
def hits (c : List Pc) (y : Rat) (n : Nat) : List Rat := (List.range n).filterMap (hit c y)
theorem hits_succ (c : List Pc) (y : Rat) (n : Nat) : hits c y (n + 1) = hits c y n ++ (hit c y n).toList := by
  unfold hits
  rw [List.range_succ, List.filterMap_append]
  cases h : hit c y n <;> simp [h]
abbrev s__law_is_frac : Stmt := top 38
abbrev N__law_is_frac : List Str := ["_law_value"]
theorem sc__law_is_frac : FnScope N__law_is_frac ["_law_value"] (defScope s__law_is_frac) := ⟨rfl, rfl, rfl, by decide +kernel, rfl, by decide +kernel, by decide +kernel⟩
abbrev ps__law_is_frac : List Str := ["_law_value"]
def spIsFrac (K : PySem.W.Frag) : Sp := fun vs H Q _ => ∃ (x : V) (q : Rat) (m : Nat), vs = [x] ∧ Rq K H x q ∧ Sz m q ∧ m ≤ 9000 ∧ ∀ H', Same H H' → Q (.bl true) H'
theorem ok_is_frac (T : Bn mg) (F : Fn K mg "_law_is_frac" s__law_is_frac ps__law_is_frac f fd) (d_law_is_int : Def P w K mg base k "_law_is_int" ["_law_value"] (spIsInt K) f1 fd1) (d_law_frac : Def P w K mg base k "_law_frac" ["_law_n", "_law_d"] (spFrac K) f2 fd2) :
    Def P w K mg base (k + 1) "_law_is_frac" ps__law_is_frac (spIsFrac K) f fd := by
  refine ⟨F.F.ok sc__law_is_frac (fun vs H Q E h => ?_) (fun cdv A outer s H vs Q E hr h => ?_), F.m, F.F.kp, F.b⟩
  · obtain ⟨x, q, m, rfl, _⟩ := h
    rfl
  obtain ⟨x, q, m, rfl, hx, zq, hm, z⟩ := h
  obtain ⟨a, rfl, ha⟩ := id hx
  refine ⟨_, (pss_cons (ps_if (PW.pt (pw_or (pt_not (pt_val (pe_callB call_isi (by rfl) T.isinstance_ (by decide +kernel) (pa_cons (pv 0) (pa_cons (pe_bltn (v := .ty "tuple") (by rfl) T.tuple_ (by decide +kernel) rfl) pa_nil))))) (pw_or1 (pt_cmpR op_ne (pe_callB call_len_seq (by rfl) T.len_ PySem.boot_len (pa_cons (pv 0) pa_nil)) pe_int (nomark _)))))
        (pss_one (ps_ret pe_bl))
        pss_nil)
      (pss_cons (ps_if (PW.pt (pw_or (pt_not (pt_val (pcall d_law_is_int hr (pa_cons (pe_ix ix_tup (pv 0) pe_int (fun _ _ => rfl)) pa_nil)))) (pw_or (pt_not (pt_val (pcall d_law_is_int hr (pa_cons (pe_ix ix_tup (pv 0) pe_int (fun _ _ => rfl)) pa_nil)))) (pw_or1 (pt_cmpR op_lt (pe_ix ix_tup (pv 0) pe_int (fun _ _ => rfl)) pe_int (nomark _))))))
        (pss_one (ps_ret pe_bl))
        pss_nil)
      (pss_one (ps_ret (pe_cmpR (op_eqD hr.units) (pcall d_law_frac hr (pa_cons (pe_ix ix_tup (pv 0) pe_int (fun _ _ => rfl)) (pa_cons (pe_ix ix_tup (pv 0) pe_int (fun _ _ => rfl)) pa_nil))) (pv 0) (nomark _)))))), ?_⟩
  have ta := sqt_ty ha
  have dp := q.den_pos
  refine ⟨_, rfl, _, _, _, _, true, rfl, .ty _, ta, kit_ty (by decide +kernel), _, rfl, ifF rfl ⟨_, rfl, a, _, rfl, .inr ha, rfl, _, rfl, ifF rfl ?_⟩⟩
  refine ⟨_, rfl, a, _, _, _, rfl, rfl, ha, at0 rfl, _, rfl, _, rfl, ifF rfl ⟨_, rfl, a, _, _, _, rfl, rfl, ha, at1 rfl, _, rfl, _, rfl, ifF rfl ⟨_, rfl, a, _, _, _, rfl, rfl, ha, at1 rfl, _, _, rfl, rfl, _, rfl, ifF (dF (by omega)) ?_⟩⟩⟩
  refine ⟨_, rfl, a, _, _, _, rfl, rfl, ha, at0 rfl, _, rfl, a, _, _, _, rfl, rfl, ha, at1 rfl, _, _, m, rfl, by omega, zq.1, dA zq, hm, fun r H' e hr => ?_⟩
  have er : mkRat q.num ((q.den : Int)).toNat = q := Rat.mkRat_self q
  rw [er] at hr
  refine ⟨_, rfl, _, _, hr.dp, (hx.same e).dp, sh_dq _, sh_dq _, ?_⟩
  rw [eqv_dq, dT rfl]
  exact z _ e
def spTimeOf (K : PySem.W.Frag) : Sp := fun vs H Q _ => ∃ (x y : V) (p : Pc) (q : Rat) (i j l m : Nat), vs = [x, y] ∧ Pq K H x p ∧ Rq K H y q ∧ Sz i p.s ∧ Sz j p.v ∧ Sz l p.r ∧ Sz m q ∧ 0 < p.r ∧ m + j + l + i + 3 ≤ 9000 ∧
  ∀ r H', Same H H' → Rq K H' r (tm p q) → Q r H'
def endV (K : PySem.W.Frag) (H : Hp) (c : List Pc) (n : Nat) (v : V) : Prop := match c[n]? with
  | none => v = .non
  | some p => Rq K H v p.s
def spEndOf (K : PySem.W.Frag) : Sp := fun vs H Q _ => ∃ (a : Addr) (n : Nat) (c : List Pc), vs = [.ref a, .int n] ∧ Cq K H a c ∧ ∀ v, endV K H c (n + 1) v → Q v H
end Vk
namespace Vk
open PySem L2 Vm
variable {P : Program} {w : World} {K : PySem.W.Frag} {mg : Str → Option Value} {base : Heap} {k : Nat} {f f1 f2 f3 f4 f5 f6 f7 f8 f9 : Addr} {fd fd1 fd2 fd3 fd4 fd5 fd6 fd7 fd8 fd9 : FuncData}
theorem for_enum {K : PySem.W.Frag} {a : Addr} {xs : List V} {g : TG} {tb : TS} {D : Ends} {σ : L2.St} {H : Hp} (Pv : Nat → L2.St → Hp → Prop) (h0 : Pv 0 σ H) (hq : ∀ i σ H, Pv i σ H → SqL K H a xs)
    (hs : ∀ (i : Nat) (x : V) (T : Addr) (σ : L2.St) (H : Hp), xs[i]? = some x → Pv i σ H → H T = none → g (.ref T) σ (upd H T (.tup [.int (i : Nat), x])) fun σ2 H2 => tb { D with nx := Pv (i + 1), ct := Pv (i + 1), bk := D.nx } σ2 H2) (hd : ∀ σ H, Pv xs.length σ H → D.nx σ H) :
    ∃ W : Nat → Nat → L2.St → Hp → Prop, (∃ m, W 0 m σ H) ∧ ∀ i m σ H, W i m σ H →
      ((Ite K a).stop i H ∧ D.nx σ H) ∨ ((Ite K a).go i H ∧ ∃ N : L2.St → Hp → Prop, (∀ σ' H', N σ' H' → ∃ m', m' < m ∧ W (i + 1) m' σ' H') ∧ ∀ v H', (Ite K a).yld i H v H' → g v σ H' fun σ2 H2 => tb { D with nx := N, ct := N, bk := D.nx } σ2 H2) := by
  refine ⟨fun i m σ H => m = xs.length - i ∧ i ≤ xs.length ∧ Pv i σ H, ⟨xs.length, rfl, Nat.zero_le _, h0⟩, ?_⟩
  rintro i m σ H ⟨rfl, hi, p⟩
  have qx := hq i σ H p
  by_cases hlt : i < xs.length
  · have hx : xs[i]? = some xs[i] := List.getElem?_eq_getElem hlt
    refine .inr ⟨⟨xs, _, qx, hx⟩, Pv (i + 1), fun σ' H' p' => ⟨xs.length - (i + 1), by omega, rfl, hlt, p'⟩, fun v H' y => ?_⟩
    obtain ⟨T, x', rfl, hT, rfl, f1⟩ := y
    exact hs i x' T σ H (f1 xs qx) p hT
  · have e : i = xs.length := by omega
    subst e
    exact .inl ⟨⟨xs, qx, Nat.le_refl _⟩, hd σ H p⟩
theorem sg_ge {p q : Rat} : 0 ≤ sg p q ↔ q ≤ p := by
  unfold sg
  split
  · rename_i h
    subst h
    simp [Rat.le_refl]
  · split
    · rename_i h1 h2
      constructor
      · intro h; omega
      · intro h; exact absurd (Rat.not_lt.mpr h) (fun g => g h2)
    · rename_i h1 h2
      constructor
      · intro _; exact Rat.not_lt.mp h2
      · intro _; omega
theorem sg_lt {p q : Rat} : sg p q < 0 ↔ p < q := by
  unfold sg
  split
  · rename_i h
    subst h
    constructor
    · intro h; omega
    · intro h; exact absurd h Rat.lt_irrefl
  · split
    · rename_i h1 h2
      exact ⟨fun _ => h2, fun _ => by omega⟩
    · rename_i h1 h2
      exact ⟨fun h => by omega, fun h => absurd h h2⟩
theorem same_upd {H H' : Hp} {D : Addr} (e : Same H H') (h : H D = none) (o : HO) : Same H (upd H' D o) := fun b u q => by rw [upd_ne (ne_of_none q h)]; exact e b u q
theorem hits_len (c : List Pc) (y : Rat) (n : Nat) : (hits c y n).length ≤ n := by
  have := List.length_filterMap_le (hit c y) (List.range n)
  rw [List.length_range] at this
  exact this
theorem le1000 {n : Nat} (h : n ≤ 1000) : n < sizeLine := Nat.lt_of_le_of_lt h (by decide)
def spTimes (K : PySem.W.Frag) : Sp := fun vs H Q _ => ∃ (a : Addr) (y : V) (c : List Pc) (q : Rat) (i j l m : Nat), vs = [.ref a, y] ∧ Cq K H a c ∧ Rq K H y q ∧ Cz i j l c ∧ Sz m q ∧ (∀ p ∈ c, 0 < p.r) ∧ c.length ≤ 1000 ∧ m + j + l + i + i + 4 ≤ 9000 ∧
  ∀ D us H', Same H H' → H D = none → H' D = some (.lst us) → All2 (Rq K H') us (hits c q c.length) → Q (.ref D) H'
end Vk
namespace Vk
open PySem L2 Vm
variable {P : Program} {w : World} {K : PySem.W.Frag} {mg : Str → Option Value} {base : Heap} {k : Nat} {f f1 f2 f3 f4 f5 f6 f7 f8 f9 : Addr} {fd fd1 fd2 fd3 fd4 fd5 fd6 fd7 fd8 fd9 : FuncData}
def optV (K : PySem.W.Frag) (H : Hp) (v : V) : Option Rat → Prop
  | none => v = .non
  | some q => Rq K H v q
def lim (c : List Pc) (n : Nat) : Option Rat := match c[n]? with
  | none => none
  | some p => match c[n + 1]? with
    | none => none
    | some q => some (p.v + p.r * (q.s - p.s))
def spLimit (K : PySem.W.Frag) : Sp := fun vs H Q _ => ∃ (a : Addr) (n : Nat) (c : List Pc) (i j l : Nat), vs = [.ref a, .int n] ∧ Cq K H a c ∧ n < c.length ∧ Cz i j l c ∧ i + i + l + j + 3 ≤ 9000 ∧ ∀ v H', Same H H' → optV K H' v (lim c n) → Q v H'
def on (t : Rat) (p : Pc) : Bool := !decide (t < p.s)
def nowf (c : List Pc) (t : Rat) : Option Rat := ((c.filter (on t)).getLast?).map fun p => p.v + p.r * (t - p.s)
theorem filter_more {α : Type} {c : List α} {i : Nat} {p : α} (g : α → Bool) (h : c[i]? = some p) : (c.take (i + 1)).filter g = (c.take i).filter g ++ (if g p = true then [p] else []) := by
  rw [List.take_add_one, h, List.filter_append]
  congr 1
  simp only [Option.toList]
  cases e : g p <;> simp [e]
def spNow (K : PySem.W.Frag) : Sp := fun vs H Q _ => ∃ (a : Addr) (y : V) (c : List Pc) (t : Rat) (i j l m : Nat), vs = [.ref a, y] ∧ Cq K H a c ∧ Rq K H y t ∧ Cz i j l c ∧ Sz m t ∧ c.length ≤ 1000 ∧ m + i + l + j + 3 ≤ 9000 ∧ ∀ v H', Same H H' → optV K H' v (nowf c t) → Q v H'
end Vk
namespace Vk
open PySem L2 Vm
variable {l : Addr} {P : Program} {w : World} {K : PySem.W.Frag} {mg : Str → Option Value} {base : Heap} {k : Nat} {f f1 f2 f3 f4 f5 f6 f7 f8 f9 : Addr} {fd fd1 fd2 fd3 fd4 fd5 fd6 fd7 fd8 fd9 : FuncData}
abbrev s__law_ratio : Stmt := top 39
abbrev N__law_ratio : List Str := ["_law_store_here", "_law_top", "_law_sort"]
theorem sc__law_ratio : FnScope N__law_ratio ["_law_store_here", "_law_top"] (defScope s__law_ratio) := ⟨rfl, rfl, rfl, by decide +kernel, rfl, by decide +kernel, by decide +kernel⟩
abbrev ps__law_ratio : List Str := ["_law_store_here", "_law_top"]
def spRatio (K : PySem.W.Frag) (l : Addr) : Sp := fun vs H Q _ => ∃ (s : Addr) (top : Int), vs = [.ref s, .int top] ∧ Sto l s H ∧ 1 ≤ top ∧ top < 2 ^ 40 ∧ ∀ (v : V) H', Qd K 40 anyQ H' v → Sto l s H' → Fr s H H' → Q v H'
theorem int_q {H : Hp} {t : Addr} (n : Int) (h : n.natAbs < 2 ^ 40) : Qd K 40 anyQ (upd H t (.tup [.int n, .int 1])) (.ref t) := Qd.new n 1 (n : Rat) rfl rfl ⟨h, by show 1 < 2 ^ 40; decide⟩ trivial
theorem ok_ratio (F : Fn K mg "_law_ratio" s__law_ratio ps__law_ratio f fd) (d_law_take : Def P w K mg base k "_law_take" ["_law_store_here", "_law_many"] (spTake K l) f1 fd1) (d_law_pick : Def P w K mg base k "_law_pick" ["_law_store_here", "_law_things"] (spPick K l) f2 fd2)
    (d_law_frac : Def P w K mg base k "_law_frac" ["_law_n", "_law_d"] (spFrac K) f3 fd3) : Def P w K mg base (k + 1) "_law_ratio" ps__law_ratio (spRatio K l) f fd := by
  refine ⟨F.F.ok sc__law_ratio (fun vs H Q E h => ?_) (fun cdv A outer s H vs Q E hr h => ?_), F.m, F.F.kp, F.b⟩
  · obtain ⟨_, _, rfl, _⟩ := h
    rfl
  obtain ⟨s, top, rfl, hS, t1, t2, z⟩ := h
  have p40 : (2 : Int) ^ 40 = 1099511627776 := by decide
  have n40 : (2 : Nat) ^ 40 = 1099511627776 := by decide
  have p64 : (2 : Int) ^ 64 = 18446744073709551616 := by decide
  refine ⟨_, (pss_cons (ps_set (i := 2) sc__law_ratio.nd rfl (Or.inl rfl) (pcall d_law_take hr (pa_cons (pv 0) (pa_cons pe_int pa_nil))))
      (pss_cons (ps_if (pt_cmpR op_eq (pv 2) pe_int (nomark _))
        (pss_one (ps_ret (pe_tup (pa_cons pe_int (pa_cons pe_int pa_nil)))))
        pss_nil)
      (pss_cons (ps_if (pt_cmpR op_eq (pv 2) pe_int (nomark _))
        (pss_one (ps_ret (pe_tup (pa_cons (pcall d_law_pick hr (pa_cons (pv 0) (pa_cons (pe_lst (pa_cons pe_int (pa_cons (pe_op op_sub pe_int pe_int) (pa_cons (pv 1) (pa_cons (pe_op op_sub pe_int (pv 1)) pa_nil))))) pa_nil))) (pa_cons pe_int pa_nil)))))
        pss_nil)
      (pss_cons (ps_if (pt_cmpR op_eq (pv 2) pe_int (nomark _))
        (pss_one (ps_ret (pcall d_law_frac hr (pa_cons (pcall d_law_pick hr (pa_cons (pv 0) (pa_cons (pe_lst (pa_cons pe_int (pa_cons (pe_op op_sub pe_int pe_int) (pa_cons (pv 1) (pa_cons (pe_op op_sub pe_int (pv 1)) pa_nil))))) pa_nil))) (pa_cons (pv 1) pa_nil)))))
        pss_nil)
      (pss_cons (ps_if (pt_cmpR op_eq (pv 2) pe_int (nomark _))
        (pss_one (ps_ret (pe_tup (pa_cons (pe_op op_sub (pcall d_law_take hr (pa_cons (pv 0) (pa_cons (pe_op op_add (pe_op op_mul pe_int (pv 1)) pe_int) pa_nil))) (pv 1)) (pa_cons pe_int pa_nil)))))
        pss_nil)
      (pss_one (ps_ret (pcall d_law_frac hr (pa_cons (pe_op op_sub (pcall d_law_take hr (pa_cons (pv 0) (pa_cons (pe_op op_add (pe_op op_mul pe_int (pv 1)) pe_int) pa_nil))) (pv 1)) (pa_cons (pe_op op_add pe_int (pcall d_law_take hr (pa_cons (pv 0) (pa_cons (pv 1) pa_nil)))) pa_nil)))))))))), ?_⟩
  refine ⟨_, rfl, s, 6, rfl, hS, by decide, fun r H1 r0 r1 S1 e1 => ?_⟩
  refine ⟨_, rfl, rfl, _, rfl, ifD (fun _ => ?_) (fun _ => ?_)⟩
  · exact ⟨sz2, fun t ht => z _ _ (Qd.new 0 1 0 rfl rfl (by decide) trivial) (S1.same (same_new ht _)) (e1.trans (Fr.of (same_new ht _)))⟩
  refine ⟨_, rfl, rfl, _, rfl, ifD (fun _ => ?_) (fun _ => ?_)⟩
  · refine ⟨_, rfl, _, _, rfl, rfl, _, rfl, _, rfl, _, _, rfl, rfl, sm4, fun p hp => ?_⟩
    refine ⟨s, p, _, rfl, S1.same (same_new hp _), S1.ne hp, SqL.of upd_same, (by show 0 < 4; decide), (by show 4 < 2 ^ 32; decide), fun v H' hv S' e' => ?_⟩
    obtain ⟨n, rfl, hn⟩ : ∃ n : Int, v = .int n ∧ n.natAbs < 2 ^ 40 := by
      simp only [List.mem_cons, List.mem_nil_iff, or_false] at hv
      rcases hv with rfl | rfl | rfl | rfl
      · exact ⟨_, rfl, by omega⟩
      · exact ⟨_, rfl, by omega⟩
      · exact ⟨_, rfl, by omega⟩
      · exact ⟨_, rfl, by omega⟩
    exact ⟨sz2, fun t ht => z _ _ (int_q n hn) (S'.same (same_new ht _)) (e1.trans ((Fr.of (same_new hp _)).trans (e'.trans (Fr.of (same_new ht _)))))⟩
  refine ⟨_, rfl, rfl, _, rfl, ifD (fun _ => ?_) (fun _ => ?_)⟩
  · refine ⟨_, rfl, _, _, rfl, rfl, _, rfl, _, rfl, _, _, rfl, rfl, sm4, fun p hp => ?_⟩
    refine ⟨s, p, _, rfl, S1.same (same_new hp _), S1.ne hp, SqL.of upd_same, (by show 0 < 4; decide), (by show 4 < 2 ^ 32; decide), fun v H' hv S' e' => ?_⟩
    obtain ⟨n, rfl, hn⟩ : ∃ n : Int, v = .int n ∧ n.natAbs < 2 ^ 40 := by
      simp only [List.mem_cons, List.mem_nil_iff, or_false] at hv
      rcases hv with rfl | rfl | rfl | rfl
      · exact ⟨_, rfl, by omega⟩
      · exact ⟨_, rfl, by omega⟩
      · exact ⟨_, rfl, by omega⟩
      · exact ⟨_, rfl, by omega⟩
    refine ⟨_, rfl, n, top, 40, rfl, by omega, hn, by omega, by decide, fun v H'' e hv => z _ _ ⟨_, hv, sz_mk (by omega) hn (by omega), trivial⟩ (S'.same e) (e1.trans ((Fr.of (same_new hp _)).trans (e'.trans (Fr.of e))))⟩
  have m2 : CMul 2 top := .inl ⟨by decide, by decide⟩
  refine ⟨_, rfl, rfl, _, rfl, ifD (fun _ => ?_) (fun _ => ?_)⟩
  · refine ⟨_, rfl, _, rfl, _, _, rfl, rfl, m2, _, _, rfl, rfl, s, _, rfl, S1, by omega, fun r2 H2 r3 r4 S2 e2 => ⟨_, rfl, _, _, rfl, rfl, ?_⟩⟩
    exact ⟨sz2, fun t ht => z _ _ (int_q _ (by omega)) (S2.same (same_new ht _)) (e1.trans (e2.trans (Fr.of (same_new ht _))))⟩
  refine ⟨_, rfl, _, rfl, _, _, rfl, rfl, m2, _, _, rfl, rfl, s, _, rfl, S1, by omega, fun r2 H2 r3 r4 S2 e2 => ⟨_, rfl, _, _, rfl, rfl, ?_⟩⟩
  refine ⟨_, rfl, _, rfl, s, top, rfl, S2, by omega, fun r5 H3 r6 r7 S3 e3 => ⟨_, _, rfl, rfl, ?_⟩⟩
  exact ⟨_, _, 40, rfl, by omega, by omega, by omega, by decide, fun v H' e hv => z _ _ ⟨_, hv, sz_mk (by omega) (by omega) (by omega), trivial⟩ (S3.same e) (e1.trans (e2.trans (e3.trans (Fr.of e))))⟩
end Vk
namespace Vk
open PySem L2 Vm
variable {l : Addr} {P : Program} {w : World} {K : PySem.W.Frag} {mg : Str → Option Value} {base : Heap} {k : Nat} {f f1 f2 f3 f4 f5 f6 f7 f8 f9 : Addr} {fd fd1 fd2 fd3 fd4 fd5 fd6 fd7 fd8 fd9 : FuncData}
/-- while a list of things is being made at D -/
def Bun {α : Type} (R : Hp → V → α → Prop) (l s D : Addr) (H0 : Hp) (us : List V) (c : List α) (G : Hp) : Prop := Sto l s G ∧ Fr s H0 G ∧ D ≠ s ∧ D ≠ l ∧ H0 D = none ∧ G D = some (.lst us) ∧ All2 (R G) us c
section
variable {α : Type} {R : Hp → V → α → Prop} {s D : Addr} {H0 G G' : Hp} {us : List V} {c : List α}
/-- what R says outlives what becomes of a list -/
def Lasts (R : Hp → V → α → Prop) : Prop := ∀ {s : Addr} {H H' : Hp} {x : V} {p : α}, Fr s H H' → (∃ ys, H s = some (.lst ys)) → R H x p → R H' x p
theorem Bun.fr (h : Bun R l s D H0 us c G) (L : Lasts R) (e : Fr s G G') (S : Sto l s G') : Bun R l s D H0 us c G' := by
  obtain ⟨h1, h2, h3, h4, h5, h6, h7⟩ := h
  exact ⟨S, h2.trans e, h3, h4, h5, e _ _ h6 h3, h7.imp fun _ _ r => L e h1.some r⟩
theorem Bun.same (h : Bun R l s D H0 us c G) (L : Lasts R) (e : Same G G') : Bun R l s D H0 us c G' := h.fr L (Fr.of e) (h.1.same e)
theorem Bun.app {x : V} {p : α} (h : Bun R l s D H0 us c G) (L : Lasts R) (r : R G x p) : Bun R l s D H0 (us ++ [x]) (c ++ [p]) (upd G D (.lst (us ++ [x]))) := by
  obtain ⟨h1, h2, h3, h4, h5, h6, h7⟩ := h
  have fr : Fr D G (upd G D (.lst (us ++ [x]))) := Fr.upd _
  refine ⟨h1.upd h3 h4, fun b o hb hn => ?_, h3, h4, h5, upd_same, (h7.imp fun _ _ r => L fr ⟨_, h6⟩ r).snoc (L fr ⟨_, h6⟩ r)⟩
  rw [upd_ne (ne_of_none hb h5)]
  exact h2 b o hb hn
theorem Bun.start (S : Sto l s G) (e : Fr s H0 G) (hD : G D = none) : Bun R l s D H0 [] [] (upd G D (.lst [])) := by
  have nD := S.ne hD
  have f := same_new hD (.lst [])
  exact ⟨S.same f, e.trans (Fr.of f), nD, S.nl hD, e.free hD nD, upd_same, All2.nil⟩
end
theorem Bun.at {α : Type} {R : Hp → V → α → Prop} {s D : Addr} {H0 G : Hp} {us : List V} {c : List α} (h : Bun R l s D H0 us c G) : G D = some (.lst us) := h.2.2.2.2.2.1
theorem Bun.len {α : Type} {R : Hp → V → α → Prop} {s D : Addr} {H0 G : Hp} {us : List V} {c : List α} (h : Bun R l s D H0 us c G) : us.length = c.length := h.2.2.2.2.2.2.1
theorem Bun.all {α : Type} {R : Hp → V → α → Prop} {s D : Addr} {H0 G : Hp} {us : List V} {c : List α} (h : Bun R l s D H0 us c G) : All2 (R G) us c := h.2.2.2.2.2.2
theorem lastsP : Lasts (Pq K) := fun e hs h => h.fr e hs
theorem lastsQ : Lasts (Rq K) := fun e hs h => h.fr e hs
theorem Cok.snoc {c : List Pc} {x : Pc} (h : Cok c) (hx : ∀ p ∈ c, p.s < x.s) (r : 0 < x.r) : Cok (c ++ [x]) := by
  refine ⟨fun p hp => ?_, fun i p q e1 e2 => ?_⟩
  · rcases List.mem_append.mp hp with hp | hp
    · exact h.1 p hp
    · rw [List.mem_singleton.mp hp]
      exact r
  · by_cases hi : i + 1 < c.length
    · rw [List.getElem?_append_left (by omega)] at e1
      rw [List.getElem?_append_left hi] at e2
      exact h.2 i p q e1 e2
    · have hl := (List.getElem?_eq_some_iff.mp e2).1
      rw [List.length_append, List.length_singleton] at hl
      rw [List.getElem?_append_left (by omega)] at e1
      rw [List.getElem?_append_right (by omega)] at e2
      have e0 : i + 1 - c.length = 0 := by omega
      rw [e0] at e2
      cases e2
      exact hx p (List.mem_of_getElem? e1)
theorem Cz.snoc {i j m : Nat} {c : List Pc} {x : Pc} (h : Cz i j m c) (z : Sz i x.s ∧ Sz j x.v ∧ Sz m x.r) : Cz i j m (c ++ [x]) := fun p hp => by
  rcases List.mem_append.mp hp with hp | hp
  · exact h p hp
  · rw [List.mem_singleton.mp hp]
    exact z
theorem lt_add_pos {a b : Rat} (h : 0 < b) : a < a + b := by grind
def spCourse (K : PySem.W.Frag) (l : Addr) : Sp := fun vs H Q _ => ∃ (s : Addr) (many : Nat) (fall : Bool), vs = [.ref s, .int many, .bl fall] ∧ Sto l s H ∧ many ≤ 40 ∧
  ∀ D us c H', Bun (Pq K) l s D H us c H' → c.length = many → Cok c → Cz 245 925 5 c → Q (.ref D) H'
end Vk
namespace Vk
open PySem L2 Vm
variable {l : Addr} {P : Program} {w : World} {K : PySem.W.Frag} {mg : Str → Option Value} {base : Heap} {k : Nat} {f f1 f2 f3 f4 f5 f6 f7 f8 f9 : Addr} {fd fd1 fd2 fd3 fd4 fd5 fd6 fd7 fd8 fd9 : FuncData}
theorem All2.append {α : Type} {R : V → α → Prop} {xs ys : List V} {c d : List α} (h : All2 R xs c) (g : All2 R ys d) : All2 R (xs ++ ys) (c ++ d) := by
  refine ⟨by rw [List.length_append, List.length_append, h.1, g.1], fun i x p a b => ?_⟩
  have hl := h.1
  by_cases hi : i < xs.length
  · rw [List.getElem?_append_left hi] at a
    rw [List.getElem?_append_left (by omega)] at b
    exact h.2 i x p a b
  · rw [List.getElem?_append_right (by omega)] at a
    rw [List.getElem?_append_right (by omega), ← hl] at b
    exact g.2 _ x p a b
theorem All2.take {α : Type} {R : V → α → Prop} {xs : List V} {c : List α} (h : All2 R xs c) (m : Nat) : All2 R (xs.take m) (c.take m) := by
  refine ⟨by rw [List.length_take, List.length_take, h.1], fun i x p a b => ?_⟩
  rw [List.getElem?_take] at a b
  split at a
  · rename_i hi
    rw [if_pos hi] at b
    exact h.2 i x p a b
  · cases a
theorem All2.drop {α : Type} {R : V → α → Prop} {xs : List V} {c : List α} (h : All2 R xs c) (m : Nat) : All2 R (xs.drop m) (c.drop m) := by
  refine ⟨by rw [List.length_drop, List.length_drop, h.1], fun i x p a b => ?_⟩
  rw [List.getElem?_drop] at a b
  exact h.2 _ x p a b
theorem All2.one {α : Type} {R : V → α → Prop} {x : V} {p : α} (r : R x p) : All2 R [x] [p] := by
  have h : All2 R ([] ++ [x]) ([] ++ [p]) := All2.nil.snoc r
  exact h
def Asc (os : List Rat) : Prop := os.Pairwise (· < ·)
theorem asc_at {os : List Rat} (h : Asc os) {i j : Nat} {a b : Rat} (ha : os[i]? = some a) (hb : os[j]? = some b) (hij : i < j) : a < b := by
  obtain ⟨h1, rfl⟩ := List.getElem?_eq_some_iff.mp ha
  obtain ⟨h2, rfl⟩ := List.getElem?_eq_some_iff.mp hb
  exact List.pairwise_iff_getElem.mp h i j h1 h2 hij
/-- the place of one among os -/
def Spot (os : List Rat) (one : Rat) (j m : Nat) : Prop := m ≤ j ∧ ∀ (t : Nat) o, t < j → os[t]? = some o → (o < one ↔ t < m)
theorem rlt_trans {a b c : Rat} (h : a < b) (g : b < c) : a < c := by grind
theorem spot_next {os : List Rat} {one o : Rat} {j m : Nat} (ha : Asc os) (h : Spot os one j m) (ho : os[j]? = some o) : Spot os one (j + 1) (if o < one then j + 1 else m) := by
  split
  · rename_i g
    refine ⟨Nat.le_refl _, fun t x ht hx => ⟨fun _ => ht, fun _ => ?_⟩⟩
    by_cases e : t = j
    · subst e
      rw [ho] at hx
      cases hx
      exact g
    · exact rlt_trans (asc_at ha hx ho (by omega)) g
  · rename_i g
    refine ⟨by have := h.1; omega, fun t x ht hx => ?_⟩
    by_cases e : t = j
    · subst e
      rw [ho] at hx
      cases hx
      exact ⟨fun z => absurd z g, fun z => absurd z (by have := h.1; omega)⟩
    · exact h.2 t x (by omega) hx
theorem asc_insert {os : List Rat} {one : Rat} {m : Nat} (ha : Asc os) (h : Spot os one os.length m) (hn : os[m]? ≠ some one) : Asc (os.take m ++ [one] ++ os.drop m) := by
  have hlt : ∀ o ∈ os.take m, o < one := fun o ho => by
    obtain ⟨t, ht, rfl⟩ := List.mem_iff_getElem.mp ho
    rw [List.length_take] at ht
    have e : os[t]? = some (os.take m)[t] := by
      rw [List.getElem_take]
      exact List.getElem?_eq_getElem (by omega)
    exact (h.2 t _ (by omega) e).mpr (by omega)
  have hgt : ∀ o ∈ os.drop m, one < o := fun o ho => by
    obtain ⟨t, ht, rfl⟩ := List.mem_iff_getElem.mp ho
    rw [List.length_drop] at ht
    have e : os[m + t]? = some (os.drop m)[t] := by
      rw [List.getElem_drop]
      exact List.getElem?_eq_getElem (by omega)
    have h1 : ¬ (os.drop m)[t] < one := fun z => absurd ((h.2 (m + t) _ (by omega) e).mp z) (by omega)
    by_cases t0 : t = 0
    · have h2 : (os.drop m)[t] ≠ one := fun z => hn (by rw [← z, ← e, t0, Nat.add_zero])
      grind
    · have hm : m < os.length := by omega
      have h3 := asc_at ha (List.getElem?_eq_getElem hm) e (by omega)
      have h4 : ¬ os[m] < one := fun z => absurd ((h.2 m _ hm (List.getElem?_eq_getElem hm)).mp z) (by omega)
      grind
  unfold Asc
  rw [List.append_assoc, List.pairwise_append]
  refine ⟨ha.sublist (List.take_sublist _ _), ?_, fun a h1 b h2 => ?_⟩
  · rw [List.singleton_append, List.pairwise_cons]
    exact ⟨hgt, ha.sublist (List.drop_sublist _ _)⟩
  · rw [List.singleton_append] at h2
    rcases List.mem_cons.mp h2 with rfl | h2
    · exact hlt a h1
    · exact rlt_trans (hlt a h1) (hgt b h2)
abbrev s__law_ordered : Stmt := top 44
abbrev N__law_ordered : List Str := ["_law_fracs", "_law_row", "_law_one", "_law_spot", "_law_k"]
theorem sc__law_ordered : FnScope N__law_ordered ["_law_fracs"] (defScope s__law_ordered) := ⟨rfl, rfl, rfl, by decide +kernel, rfl, by decide +kernel, by decide +kernel⟩
abbrev ps__law_ordered : List Str := ["_law_fracs"]
def spOrdered (K : PySem.W.Frag) : Sp := fun vs H Q _ => ∃ (a : Addr) (xs : List V) (qs : List Rat), vs = [.ref a] ∧ SqL K H a xs ∧ All2 (Rq K H) xs qs ∧ (∀ q ∈ qs, Sz 40 q) ∧ qs.length ≤ 900 ∧
  ∀ D us os H', Same H H' → H D = none → H' D = some (.lst us) → All2 (Rq K H') us os → Asc os → (∀ o ∈ os, o ∈ qs) → os.length ≤ qs.length → (qs ≠ [] → os ≠ []) → Q (.ref D) H'
theorem ok_ordered (T : Bn mg) (F : Fn K mg "_law_ordered" s__law_ordered ps__law_ordered f fd) (d_law_below : Def P w K mg base k "_law_below" ["_law_a", "_law_b"] (spTest2 K fun p q => .bl (decide (p < q))) f1 fd1) :
    Def P w K mg base (k + 1) "_law_ordered" ps__law_ordered (spOrdered K) f fd := by
  refine ⟨F.F.ok sc__law_ordered (fun vs H Q E h => ?_) (fun cdv A outer s H vs Q E hr h => ?_), F.m, F.F.kp, F.b⟩
  · obtain ⟨_, _, _, rfl, _⟩ := h
    rfl
  obtain ⟨a, xs, qs, rfl, hx, hq, zq, hl, z⟩ := h
  refine ⟨_, (pss_cons (ps_set (i := 1) sc__law_ordered.nd rfl (Or.inl rfl) (pe_lst pa_nil))
      (pss_cons (ps_for PassesOwn.never rfl (pi_list (pv 0)) (pg_name (i := 2) sc__law_ordered.nd rfl (Or.inl rfl))
        (pss_cons (ps_set (i := 3) sc__law_ordered.nd rfl (Or.inl rfl) pe_int)
        (pss_cons (ps_for PassesOwn.never rfl (pi_range1 (by rfl) T.range_ (pa_cons (pe_callB call_len_seq (by rfl) T.len_ PySem.boot_len (pa_cons (pv 1) pa_nil)) pa_nil)) (pg_name (i := 4) sc__law_ordered.nd rfl (Or.inl rfl))
          (pss_one (ps_if (pt_val (pcall d_law_below hr (pa_cons (pe_ix ix_list (pv 1) (pv 4) (fun _ _ => rfl)) (pa_cons (pv 2) pa_nil))))
            (pss_one (ps_set (i := 3) sc__law_ordered.nd rfl (Or.inl rfl) (pe_op op_add (pv 4) pe_int)))
            pss_nil)))
        (pss_one (ps_if (PW.pt (pw_or (pt_cmpR op_eq (pv 3) (pe_callB call_len_seq (by rfl) T.len_ PySem.boot_len (pa_cons (pv 1) pa_nil)) (nomark _)) (pw_or1 (pt_cmpR (op_neD hr.units) (pe_ix ix_list (pv 1) (pv 3) (fun _ _ => rfl)) (pv 2) (nomark _)))))
          (pss_one (ps_expr (pe_bm PySem.F.plainAttrs_list PySem.F.slot_list_insert PySem.F.type_list_insert mt_insert (pv 1) (pa_cons (pv 3) (pa_cons (pv 2) pa_nil)))))
          pss_nil)))))
      (pss_one (ps_ret (pv 1))))), ?_⟩
  have p62 : (2 : Int) ^ 62 = 4611686018427387904 := by decide
  have p63 : (2 : Int) ^ 63 = 9223372036854775808 := by decide
  refine ⟨Nat.zero_le _, fun D hD => ?_⟩
  refine ⟨_, rfl, a, rfl, ⟨_, (same_new hD _).seq hx⟩, for_list (K := K) (a := a) (xs := xs) (fun i σ G => ∃ (us : List V) (os : List Rat) (k1 k2 k3 : Option V), σ = [some (.ref a), some (.ref D), k1, k2, k3] ∧ Same H G ∧ G D = some (.lst us) ∧ All2 (Rq K G) us os ∧ Asc os ∧ (∀ o ∈ os, o ∈ qs) ∧ os.length ≤ i ∧ (0 < i → os ≠ []))
    ⟨[], [], none, none, none, rfl, same_new hD _, upd_same, All2.nil, List.Pairwise.nil, nofun, Nat.le_refl _, fun h => absurd h (by omega)⟩ (fun i σ G _ h => by obtain ⟨_, _, _, _, _, _, s1, _⟩ := h; exact s1.seq hx) ?_ ?_⟩
  · rintro i x σ G hxi ⟨us, os, k1, k2, k3, rfl, s1, hD1, hA, asc, sub, ln, _⟩
    have hi : i < qs.length := by rw [← hq.1]; exact (List.getElem?_eq_some_iff.mp hxi).1
    have hqi : qs[i]? = some qs[i] := List.getElem?_eq_getElem hi
    have hmem : qs[i] ∈ qs := List.getElem_mem hi
    have rx := (hq.2 i x _ hxi hqi).same s1
    obtain ⟨one, eo⟩ : ∃ o, o = qs[i] := ⟨_, rfl⟩
    rw [← eo] at rx hmem
    have zo := zq one hmem
    have zos : ∀ o ∈ os, Sz 40 o := fun o ho => zq o (sub o ho)
    have hal := hA.1
    refine ⟨_, rfl, D, _, rfl, .inl (SqL.of hD1), _, rfl, by omega, by omega, for_range (n := ((us.length : Nat) : Int).toNat) (fun j σ G' => ∃ (m : Nat) (k3 : Option V), σ = [some (.ref a), some (.ref D), some x, some (.int m), k3] ∧ G' = G ∧ Spot os one j m)
      ⟨0, k3, rfl, rfl, Nat.le_refl _, fun t o h => absurd h (by omega)⟩ ?_ ?_⟩
    · rintro j σ G' hj ⟨m, k3, rfl, rfl, sp⟩
      have hj' : j < os.length := by omega
      have hoj : os[j]? = some os[j] := List.getElem?_eq_getElem hj'
      obtain ⟨y, hy, ry⟩ := hA.at hoj
      have sn := spot_next asc sp hoj
      refine ⟨_, rfl, _, rfl, D, _, _, y, rfl, rfl, SqL.of hD1, at_of (j := j) (by omega) hy, _, rfl, _, _, os[j], one, 40, 40, rfl, ry, rx, zos _ (List.getElem_mem hj'), zo, by decide, _, rfl, ifD (fun g => ?_) (fun g => ?_)⟩
      · rw [if_pos g] at sn
        refine ⟨_, rfl, _, _, rfl, rfl, j + 1, some (.int (0 + (j : Int))), ?_, rfl, sn⟩
        show [some (V.ref a), some (V.ref D), some x, some (V.int (0 + (j : Int) + 1)), some (V.int (0 + (j : Int)))] = _
        rw [show (0 + (j : Int) + 1) = ((j + 1 : Nat) : Int) by omega]
      · rw [if_neg g] at sn
        exact ⟨m, _, rfl, rfl, sn⟩
    · rintro σ G' ⟨m, k3, rfl, rfl, sp⟩
      have sp : Spot os one os.length m := by
        have e : ((us.length : Nat) : Int).toNat = os.length := by omega
        rw [e] at sp
        exact sp
      have hm := sp.1
      have put : os[m]? ≠ some one → ∃ (us' : List V) (os' : List Rat) (k1 k2 k3' : Option V), [some (.ref a), some (.ref D), some x, some (.int m), k3] = [some (.ref a), some (.ref D), k1, k2, k3'] ∧ Same H (upd G' D (.lst (us.take m ++ [x] ++ us.drop m))) ∧ (upd G' D (.lst (us.take m ++ [x] ++ us.drop m))) D = some (.lst us') ∧
          All2 (Rq K (upd G' D (.lst (us.take m ++ [x] ++ us.drop m)))) us' os' ∧ Asc os' ∧ (∀ o ∈ os', o ∈ qs) ∧ os'.length ≤ i + 1 ∧ (0 < i + 1 → os' ≠ []) := fun hn => by
        have fr : Fr D G' (upd G' D (.lst (us.take m ++ [x] ++ us.drop m))) := Fr.upd _
        have hA' := hA.imp fun _ _ h => Rq.fr fr ⟨_, hD1⟩ h
        refine ⟨_, os.take m ++ [one] ++ os.drop m, _, _, _, rfl, same_upd s1 hD _, upd_same, ((hA'.take m).append (All2.one (rx.fr fr ⟨_, hD1⟩))).append (hA'.drop m), asc_insert asc sp hn, fun o ho => ?_, ?_, fun _ e => ?_⟩
        · rcases List.mem_append.mp ho with ho | ho
          · rcases List.mem_append.mp ho with ho | ho
            · exact sub o (List.mem_of_mem_take ho)
            · rw [List.mem_singleton.mp ho]
              exact hmem
          · exact sub o (List.mem_of_mem_drop ho)
        · rw [List.length_append, List.length_append, List.length_take, List.length_drop, List.length_singleton]
          omega
        · have := congrArg List.length e
          rw [List.length_append, List.length_append, List.length_singleton, List.length_nil] at this
          omega
      refine ⟨_, rfl, _, rfl, D, _, rfl, .inl (SqL.of hD1), rfl, _, rfl, ifD (fun g => ifT rfl ?_) (fun g => ?_)⟩
      · have g' := V.int.inj g
        have hn : os[m]? ≠ some one := by rw [List.getElem?_eq_none (by omega)]; exact nofun
        exact ⟨_, rfl, .inl ⟨rfl, _, SqL.of hD1⟩, _, rfl, _, rfl, D, _, _, _, rfl, rfl, hD1, le1000 (by omega), by omega, by omega, put hn⟩
      · have g' : m ≠ us.length := fun e => g (by rw [e])
        have hmo : os[m]? = some os[m] := List.getElem?_eq_getElem (by omega)
        obtain ⟨y, hy, ry⟩ := hA.at hmo
        refine ⟨_, rfl, _, rfl, D, _, _, y, rfl, rfl, SqL.of hD1, at_of (j := m) rfl hy, _, rfl, _, _, ry.dp, rx.dp, sh_dq _, sh_dq _, _, rfl, ?_⟩
        rw [eqv_dq]
        by_cases e : os[m] = one
        · refine ifF (by rw [dT e]; rfl) ⟨us, os, _, _, _, rfl, s1, hD1, hA, asc, sub, by omega, fun _ z => ?_⟩
          have z2 := congrArg List.length z
          rw [List.length_nil] at z2
          omega
        · refine ifT (by rw [dF e]; rfl) ?_
          have hn : os[m]? ≠ some one := by rw [hmo]; exact fun z => e (Option.some.inj z)
          exact ⟨_, rfl, .inl ⟨rfl, _, SqL.of hD1⟩, _, rfl, _, rfl, D, _, _, _, rfl, rfl, hD1, le1000 (by omega), by omega, by omega, put hn⟩
  · rintro σ G ⟨us, os, k1, k2, k3, rfl, s1, hD1, hA, asc, sub, ln, ne⟩
    rw [hq.1] at ln
    refine ⟨_, rfl, z D us os G s1 hD hD1 hA asc sub ln fun e => ne ?_⟩
    rw [hq.1]
    exact List.length_pos_iff.mpr e
end Vk
namespace Vk
open PySem L2 Vm
variable {l : Addr} {P : Program} {w : World} {K : PySem.W.Frag} {mg : Str → Option Value} {base : Heap} {k : Nat} {f f1 f2 f3 f4 f5 f6 f7 f8 f9 : Addr} {fd fd1 fd2 fd3 fd4 fd5 fd6 fd7 fd8 fd9 : FuncData}
theorem tyes {σ : L2.St} {H : Hp} {A B : Hp → Prop} (h : A H) : tYes σ H (fun b H3 => if b = true then A H3 else B H3) := by
  show (if true = true then A H else B H)
  rw [if_pos rfl]
  exact h
def spWide (K : PySem.W.Frag) (l : Addr) : Sp := fun vs H Q _ => ∃ (s : Addr), vs = [.ref s] ∧ Sto l s H ∧
  ∀ D us c H', Bun (Pq K) l s D H us c H' → 1 ≤ c.length → c.length ≤ 40 → Cok c → Cz 40 40 40 c → Q (.ref D) H'
theorem abs_nf {q : Rat} (h : q.num ≠ 0) : (mkRat (q.num.natAbs : Int) q.den).num = (q.num.natAbs : Int) ∧ (mkRat (q.num.natAbs : Int) q.den).den = q.den := nf q.den_nz (by rw [Int.natAbs_natCast]; exact q.reduced)
end Vk
namespace Vk
open PySem PySem.Spec PyProof.Rows L2
section
variable {X : Cx}
/-- xs.count(y), data of any depth -/
def rCountD (K : PySem.W.Frag) : V → List V → Hp → VK → Prop := fun x xs H Q => ∃ (a : Addr) (y : V) (d : PyData) (ds : List PyData), x = V.ref a ∧ xs = [y] ∧ Dp K H (V.ref a) (.list ds) ∧ Dp K H y d ∧
  SeqAt.shaped (.list ds) = true ∧ SeqAt.shaped d = true ∧ Q (.int ((ds.countP fun z => PyData.eqv z d : Nat) : Int)) H
theorem mt_countD (hu : X.A.units + 65 < cLine) : MtR X "list.count" (rCountD X.K) := by
  intro pins s σ H x xs v us Q I rx rxs h
  obtain ⟨a, y, d, ds, rfl, rfl, hl, hy, sl, sd, q⟩ := h
  cases rx
  cases rxs with
  | cons ry rt =>
    rename_i uy ut
    cases rt
    obtain ⟨bs, r1⟩ := Dp.reads I d y uy hy ry
    have hxs : PyData.canLayAll0 ds = true := SeqAt.canLay_of_shaped sl
    have hroom : X.A.units + 1 + min (PyData.depthAll ds) d.depth < cLine := room_in_shaped sd hu
    cases hl with
    | lst hs ha =>
      obtain ⟨its, rv, ⟨⟨cls, dd, data, sls⟩, n, ho, hc, hdn, hdt⟩, hlen⟩ := I.list hs
      simp only at hc hdt
      subst hc hdt
      obtain ⟨as, h4⟩ := Dp.readsAll I ds _ its ha rv
      have hmap : its.map (SeqAt.readOf s.heap) = ds := SeqAt.readsAll_map ds its as hxs h4
      refine call_meets PySem.F.slot_list_count ⟨_, ho, rfl⟩ PySem.F.entry_list_count (PySem.F.args_list_count_2 _ _)
        (SeqAt.list_countAt a its.toArray n dd sls uy (fun u => PyData.eqv (SeqAt.readOf s.heap u) d)) ⟨ho, SeqAt.items_eqAt (vs := its.toArray) (show ReadsAll s.heap its.toArray.toList ds as from h4) r1 hxs (SeqAt.canLay_of_shaped sd) hroom, ?_⟩
      refine ⟨.int ((ds.countP fun z => PyData.eqv z d : Nat) : Int), H, I.tok _, ⟨s.toks, ?_⟩, q⟩
      have e : (its.toArray.toList.countP fun u => PyData.eqv (SeqAt.readOf s.heap u) d) = ds.countP fun z => PyData.eqv z d := by
        rw [← hmap, List.countP_map]
        rfl
      show Value.int ((its.toArray.toList.countP (fun u => PyData.eqv (SeqAt.readOf s.heap u) d) : Nat) : Int) s.toks = _
      rw [e]
end
end Vk
namespace Vk
open PySem L2 Vm
variable {l : Addr} {P : Program} {w : World} {K : PySem.W.Frag} {mg : Str → Option Value} {base : Heap} {k : Nat} {f f1 f2 f3 f4 f5 f6 f7 f8 f9 : Addr} {fd fd1 fd2 fd3 fd4 fd5 fd6 fd7 fd8 fd9 : FuncData}
theorem sm1 : 1 ≤ sizeLine := by decide
theorem Bun.made {α : Type} {R : Hp → V → α → Prop} {s D : Addr} {H0 G : Hp} {us : List V} {c : List α} (S : Sto l s G) (e : Fr s H0 G) (hD : G D = none) (h : All2 (R (upd G D (.lst us))) us c) : Bun R l s D H0 us c (upd G D (.lst us)) := by
  have nD := S.ne hD
  have f := same_new hD (.lst us)
  exact ⟨S.same f, e.trans (Fr.of f), nD, S.nl hD, e.free hD nD, upd_same, h⟩
/-- a tracked list with a course -/
def Ct (K : PySem.W.Frag) (H : Hp) (a : Addr) (xs : List V) (c : List Pc) : Prop := H a = some (.lst xs) ∧ All2 (Pq K H) xs c
theorem Ct.cq {H : Hp} {a : Addr} {xs : List V} {c : List Pc} (h : Ct K H a xs c) : Cq K H a c := ⟨xs, SqL.of h.1, h.2⟩
theorem Ct.same {H H' : Hp} {a : Addr} {xs : List V} {c : List Pc} (e : Same H H') (h : Ct K H a xs c) : Ct K H' a xs c := ⟨e _ _ h.1, h.2.imp fun _ _ h => h.same e⟩
theorem Ct.fr {s : Addr} {H H' : Hp} {a : Addr} {xs : List V} {c : List Pc} (e : Fr s H H') (hs : ∃ ys, H s = some (.lst ys)) (n : a ≠ s) (h : Ct K H a xs c) : Ct K H' a xs c := ⟨e _ _ h.1 n, h.2.imp fun _ _ h => h.fr e hs⟩
theorem all2_3 {α : Type} {R : V → α → Prop} {x y z : V} {a b c : α} (h1 : R x a) (h2 : R y b) (h3 : R z c) : All2 R [x, y, z] [a, b, c] := (((All2.nil.snoc h1).snoc h2).snoc h3 : All2 R ([] ++ [x] ++ [y] ++ [z]) ([] ++ [a] ++ [b] ++ [c]))
def spValues (K : PySem.W.Frag) (l : Addr) : Sp := fun vs H Q _ => ∃ (s a : Addr) (xs : List V) (c : List Pc), vs = [.ref s, .ref a] ∧ Sto l s H ∧ a ≠ s ∧ a ≠ l ∧ Ct K H a xs c ∧ Cz 245 925 5 c ∧ 1 ≤ c.length ∧ c.length ≤ 1000 ∧
  ∀ D us qs H', Bun (Rq K) l s D H us qs H' → (∀ q ∈ qs, Sz 2350 q) → 0 < qs.length → qs.length ≤ 100 → Q (.ref D) H'
end Vk
namespace Vk
open PySem L2 Vm
variable {l : Addr} {P : Program} {w : World} {K : PySem.W.Frag} {mg : Str → Option Value} {base : Heap} {k : Nat} {f f1 f2 f3 f4 f5 f6 f7 f8 f9 f10 f11 f12 f13 f14 : Addr} {fd fd1 fd2 fd3 fd4 fd5 fd6 fd7 fd8 fd9 fd10 fd11 fd12 fd13 fd14 : FuncData}
theorem hu65 {k : Nat} {A : Around} (hr : Room k A) : A.units + 65 < cLine := by have := hr.un; omega
/-- a promise with something left open -/
def exS {α : Type} (sp : α → Sp) : Sp := fun vs H Q E => ∃ x, sp x vs H Q E
theorem Def.ex {α : Type} [Inhabited α] {x : Str} {ps : List Str} {sp : α → Sp} (h : ∀ a, Def P w K mg base k x ps (sp a) f fd) : Def P w K mg base k x ps (exS sp) f fd :=
  ⟨⟨fun vs H Q E ⟨a, z⟩ => (h a).ok.len vs H Q E z, fun A outer s H args us vs Q E hr he hb hv ⟨a, z⟩ => (h a).ok.run A outer s H args us vs Q E hr he hb hv z⟩, (h default).m, (h default).kp, (h default).b⟩
theorem ixN_last {n : Nat} (h : 0 < n) {i : Int} (e : i = (n : Int) - 1) : ixN n i = some (n - 1) := by
  subst e
  unfold ixN
  rw [if_pos (by omega), if_pos (by omega)]
  congr 1
  omega
/-! ### data -/
def dpc (p : Pc) : PyData := .tuple [dq p.s, dq p.v, dq p.r]
theorem Pq.dp {H : Hp} {v : V} {p : Pc} (h : Pq K H v p) : Dp K H v (dpc p) := by
  obtain ⟨a, xs, xv, xr, rfl, h, h1, h2, h3⟩ := h
  exact .tup h (.cons h1.dp (.cons h2.dp (.cons h3.dp .nil)))
theorem dpall_of {α : Type} {R : V → α → Prop} {d : α → PyData} {H : Hp} (g : ∀ v p, R v p → Dp K H v (d p)) : ∀ {xs : List V} {c : List α}, All2 R xs c → DpAll K H xs (c.map d)
  | [], [], _ => .nil
  | [], _ :: _, h => absurd h.1 (by simp)
  | _ :: _, [], h => absurd h.1 (by simp)
  | x :: xs, p :: c, h => .cons (g _ _ (h.2 0 x p rfl rfl)) (dpall_of g ⟨by have := h.1; simp at this; exact this, fun i x p a b => h.2 (i + 1) x p a b⟩)
theorem tree_dpc (n : Nat) (p : Pc) : Tree (n + 2) (dpc p) := .tup (by show 3 ≤ 1000; decide) fun d h => by
  simp only [List.mem_cons, List.mem_nil_iff, or_false] at h
  rcases h with rfl | rfl | rfl <;> exact tree_dq _ _
theorem depth_dqs : ∀ T : List Rat, PyData.depthAll (T.map dq) ≤ 2
  | [] => by simp [PyData.depthAll]
  | t :: T => by
    have := depth_dqs T
    simp only [List.map_cons, PyData.depthAll]
    have : (dq t).depth ≤ 2 := by show PyData.depth (.tuple [.int t.num, .int (t.den : Int)]) ≤ 2; simp [PyData.depth, PyData.depthAll]
    omega
theorem lay_dqs : ∀ T : List Rat, PyData.canLayAll0 (T.map dq) = true
  | [] => rfl
  | t :: T => by
    have := lay_dqs T
    show (PyData.canLay0 (dq t) && PyData.canLayAll0 (T.map dq)) = true
    rw [this]
    rfl
theorem sh_dqs (T : List Rat) : SeqAt.shaped (.list (T.map dq)) = true := by
  have h1 := depth_dqs T
  have h2 := lay_dqs T
  show (PyData.canLay0 (.list (T.map dq)) && decide (PyData.depth (.list (T.map dq)) ≤ 64)) = true
  have h3 : PyData.canLay0 (.list (T.map dq)) = true := h2
  have h4 : PyData.depth (.list (T.map dq)) ≤ 64 := by simp only [PyData.depth]; omega
  rw [h3, decide_eq_true h4]
  rfl
/-! ### the course whose last piece is set -/
theorem all2_set {α : Type} {R : V → α → Prop} {xs : List V} {c : List α} {x : V} {p : α} (h : All2 R xs c) (n : Nat) (r : R x p) : All2 R (xs.set n x) (c.set n p) := by
  refine ⟨by rw [List.length_set, List.length_set, h.1], fun i y q a b => ?_⟩
  by_cases e : n = i
  · subst e
    rw [List.getElem?_set] at a b
    simp only [if_true] at a b
    split at a
    · split at b
      · cases a
        cases b
        exact r
      · cases b
    · cases a
  · rw [List.getElem?_set_ne e] at a b
    exact h.2 i y q a b
theorem cok_set {c : List Pc} (ok : Cok c) {n : Nat} {p p' : Pc} (hp : c[n]? = some p) (hs : p'.s = p.s) (hr : p'.r = p.r) : Cok (c.set n p') := by
  have key : ∀ (i : Nat) (x : Pc), (c.set n p')[i]? = some x → ∃ y, c[i]? = some y ∧ x.s = y.s ∧ x.r = y.r := fun i x h => by
    by_cases e : n = i
    · subst e
      rw [List.getElem?_set] at h
      simp only [if_true] at h
      split at h
      · cases h
        exact ⟨p, hp, hs, hr⟩
      · cases h
    · rw [List.getElem?_set_ne e] at h
      exact ⟨x, h, rfl, rfl⟩
  refine ⟨fun x hx => ?_, fun i x y hx hy => ?_⟩
  · obtain ⟨i, hi, rfl⟩ := List.mem_iff_getElem.mp hx
    obtain ⟨y, e1, _, e2⟩ := key i _ (List.getElem?_eq_getElem hi)
    rw [e2]
    exact ok.1 y (List.mem_of_getElem? e1)
  · obtain ⟨x1, a1, b1, _⟩ := key i x hx
    obtain ⟨y1, a2, b2, _⟩ := key (i + 1) y hy
    rw [b1, b2]
    exact ok.2 i x1 y1 a1 a2
theorem cz_set {c : List Pc} {i j j' m : Nat} (cz : Cz i j m c) (hj : j ≤ j') {n : Nat} {p' : Pc} (h : Sz i p'.s ∧ Sz j' p'.v ∧ Sz m p'.r) : Cz i j' m (c.set n p') := fun x hx => by
  rcases List.mem_or_eq_of_mem_set hx with hx | rfl
  · obtain ⟨z1, z2, z3⟩ := cz x hx
    exact ⟨z1, z2.mono hj, z3⟩
  · exact h
/-! ### what stands while the law goes on -/
structure St0 (K : PySem.W.Frag) (l s D1 D2 D3 : Addr) (us1 us2 : List V) (c1 c2 : List Pc) (G : Hp) : Prop where
  st : Sto l s G
  a1 : Ct K G D1 us1 c1
  a2 : Ct K G D2 us2 c2
  a3 : Ct K G D3 us1 c1
  n1 : D1 ≠ s
  n2 : D2 ≠ s
  n3 : D3 ≠ s
  m3 : D3 ≠ l
  n31 : D3 ≠ D1
  n32 : D3 ≠ D2
theorem St0.same {s D1 D2 D3 : Addr} {us1 us2 : List V} {c1 c2 : List Pc} {G G' : Hp} (h : St0 K l s D1 D2 D3 us1 us2 c1 c2 G) (e : Same G G') : St0 K l s D1 D2 D3 us1 us2 c1 c2 G' :=
  { h with st := h.st.same e, a1 := h.a1.same e, a2 := h.a2.same e, a3 := h.a3.same e }
theorem St0.fr {s D1 D2 D3 : Addr} {us1 us2 : List V} {c1 c2 : List Pc} {G G' : Hp} (h : St0 K l s D1 D2 D3 us1 us2 c1 c2 G) (e : Fr s G G') (S : Sto l s G') : St0 K l s D1 D2 D3 us1 us2 c1 c2 G' :=
  { h with st := S, a1 := h.a1.fr e h.st.some h.n1, a2 := h.a2.fr e h.st.some h.n2, a3 := h.a3.fr e h.st.some h.n3 }
theorem St0.app {s D1 D2 D3 D : Addr} {us1 us2 ys zs : List V} {c1 c2 : List Pc} {G : Hp} (h : St0 K l s D1 D2 D3 us1 us2 c1 c2 G) (hD : G D = some (.lst ys)) (ns : D ≠ s) (nl : D ≠ l) (k1 : D1 ≠ D) (k2 : D2 ≠ D) (k3 : D3 ≠ D) : St0 K l s D1 D2 D3 us1 us2 c1 c2 (upd G D (.lst zs)) :=
  { h with st := h.st.upd ns nl, a1 := h.a1.fr (Fr.upd _) ⟨_, hD⟩ k1, a2 := h.a2.fr (Fr.upd _) ⟨_, hD⟩ k2, a3 := h.a3.fr (Fr.upd _) ⟨_, hD⟩ k3 }
/-- a list of rationals -/
def Lq (K : PySem.W.Frag) (G : Hp) (D : Addr) (us : List V) (qs : List Rat) : Prop := G D = some (.lst us) ∧ All2 (Rq K G) us qs
theorem Lq.same {G G' : Hp} {D : Addr} {us : List V} {qs : List Rat} (h : Lq K G D us qs) (e : Same G G') : Lq K G' D us qs := ⟨e _ _ h.1, h.2.imp fun _ _ h => h.same e⟩
theorem Lq.fr {s : Addr} {G G' : Hp} {D : Addr} {us : List V} {qs : List Rat} (h : Lq K G D us qs) (e : Fr s G G') (hs : ∃ ys, G s = some (.lst ys)) (n : D ≠ s) : Lq K G' D us qs := ⟨e _ _ h.1 n, h.2.imp fun _ _ h => h.fr e hs⟩
theorem ne_at {G : Hp} {a b : Addr} {o : HO} (h : G a = some o) (n : G b = none) : a ≠ b := fun e => by rw [e, n] at h; cases h
end Vk
namespace Vk
open PySem L2 Vm
variable {l az : Addr} {P : Program} {w : World} {K : PySem.W.Frag} {mg : Str → Option Value} {base : Heap} {k : Nat} {f f1 f2 f3 f4 f5 f6 f7 f8 f9 : Addr} {fd fd1 fd2 fd3 fd4 fd5 fd6 fd7 fd8 fd9 : FuncData}
/-! ### the program's side -/
structure Zr (K : PySem.W.Frag) (mg : Str → Option Value) (az : Addr) : Prop where
  m : mg "ZERO" = some (.ref az)
  q : ∀ H, Rq K H (.ref az) 0
abbrev s_multiply : Stmt := top 9
abbrev N_multiply : List Str := ["a", "b"]
theorem sc_multiply : FnScope N_multiply ["a", "b"] (defScope s_multiply) := ⟨rfl, rfl, rfl, by decide +kernel, rfl, by decide +kernel, by decide +kernel⟩
abbrev ps_multiply : List Str := ["a", "b"]
theorem ok_multiply (F : Fn K mg "multiply" s_multiply ps_multiply f fd) (drational : Def P w K mg base k "rational" ["n", "d"] (spFrac K) f1 fd1) : Def P w K mg base (k + 1) "multiply" ps_multiply (spOp2 K (· * ·)) f fd := by
  refine ⟨F.F.ok sc_multiply (fun vs H Q E h => ?_) (fun cdv A outer s H vs Q E hr h => ?_), F.m, F.F.kp, F.b⟩
  · obtain ⟨x, y, p, q, m, l, rfl, _⟩ := h
    rfl
  obtain ⟨x, y, p, q, m, l, rfl, ⟨a, rfl, ha⟩, ⟨b, rfl, hb⟩, zp, zq, hm, z⟩ := h
  have m0 := nn zp
  have l0 := nn zq
  refine ⟨_, (pss_one (ps_ret (pcall drational hr (pa_cons (pe_op op_mulW (pe_ix ix_tup (pv 0) pe_int (fun _ _ => rfl)) (pe_ix ix_tup (pv 1) pe_int (fun _ _ => rfl))) (pa_cons (pe_op op_mulW (pe_ix ix_tup (pv 0) pe_int (fun _ _ => rfl)) (pe_ix ix_tup (pv 1) pe_int (fun _ _ => rfl))) pa_nil))))), ?_⟩
  refine ⟨_, rfl, a, _, _, _, rfl, rfl, ha, at0 rfl, _, rfl, b, _, _, _, rfl, rfl, hb, at0 rfl, _, _, rfl, rfl, mulW zp.1 zq.1 m0 l0 (by omega), ?_⟩
  refine ⟨_, rfl, a, _, _, _, rfl, rfl, ha, at1 rfl, _, rfl, b, _, _, _, rfl, rfl, hb, at1 rfl, _, _, rfl, rfl, mulW (dA zp) (dA zq) m0 l0 (by omega), ?_⟩
  refine ⟨_, _, m + l, rfl, dd_pos p q, ab_mul zp.1 zq.1, ab_mul (dA zp) (dA zq), by omega, fun r H' e hr => z r H' e ?_⟩
  rw [mk_mul] at hr
  exact hr
def spShown (K : PySem.W.Frag) : Sp := fun vs H Q _ => ∃ (x y : V) (p : Pc) (t : Rat) (i j l m : Nat), vs = [x, y] ∧ Pq K H x p ∧ Rq K H y t ∧ Sz i p.s ∧ Sz j p.v ∧ Sz l p.r ∧ Sz m t ∧ j + l + m + i + 3 ≤ 9000 ∧
  ∀ r H', Same H H' → Rq K H' r (p.v + p.r * (t - p.s)) → Q r H'
/-- a start and a jump -/
def Jq (K : PySem.W.Frag) (H : Hp) (x : V) (p : Rat × Rat) : Prop := ∃ a xs xj, x = .ref a ∧ SqT K H a [xs, xj] ∧ Rq K H xs p.1 ∧ Rq K H xj p.2
theorem Jq.same {H H' : Hp} {x : V} {p : Rat × Rat} (e : Same H H') (h : Jq K H x p) : Jq K H' x p := by
  obtain ⟨a, xs, xj, rfl, h, h1, h2⟩ := h
  exact ⟨a, xs, xj, rfl, e.sqt h, h1.same e, h2.same e⟩
theorem Jq.fr {s : Addr} {H H' : Hp} {x : V} {p : Rat × Rat} (e : Fr s H H') (hs : ∃ ys, H s = some (.lst ys)) (h : Jq K H x p) : Jq K H' x p := by
  obtain ⟨a, xs, xj, rfl, h, h1, h2⟩ := h
  exact ⟨a, xs, xj, rfl, sqt_fr e hs h, h1.fr e hs, h2.fr e hs⟩
def djp (p : Rat × Rat) : PyData := .tuple [dq p.1, dq p.2]
theorem Jq.dp {H : Hp} {v : V} {p : Rat × Rat} (h : Jq K H v p) : Dp K H v (djp p) := by
  obtain ⟨a, xs, xj, rfl, h, h1, h2⟩ := h
  exact .tup h (.cons h1.dp (.cons h2.dp .nil))
end Vk
namespace Vk
open PySem L2 Vm
variable {l az : Addr} {P : Program} {w : World} {K : PySem.W.Frag} {mg : Str → Option Value} {base : Heap} {k : Nat} {f f1 f2 f3 f4 f5 f6 f7 f8 f9 : Addr} {fd fd1 fd2 fd3 fd4 fd5 fd6 fd7 fd8 fd9 : FuncData}
def spOrd8 (K : PySem.W.Frag) : Sp := fun vs H Q _ => ∃ (a : Addr) (xs : List V) (qs : List Rat) (m : Nat), vs = [.ref a] ∧ SqL K H a xs ∧ All2 (Rq K H) xs qs ∧ (∀ q ∈ qs, Sz m q) ∧ m ≤ 4000 ∧ qs.length ≤ 900 ∧
  ∀ D us os H', Same H H' → H D = none → H' D = some (.lst us) → All2 (Rq K H') us os → Asc os → (∀ o ∈ os, o ∈ qs) → os.length ≤ qs.length → (∀ q ∈ qs, q ∈ os) → Q (.ref D) H'
theorem ok_ord8 (T : Bn mg) (F : Fn K mg "_law_ordered" s__law_ordered ps__law_ordered f fd) (d_law_below : Def P w K mg base k "_law_below" ["_law_a", "_law_b"] (spTest2 K fun p q => .bl (decide (p < q))) f1 fd1) :
    Def P w K mg base (k + 1) "_law_ordered" ps__law_ordered (spOrd8 K) f fd := by
  refine ⟨F.F.ok sc__law_ordered (fun vs H Q E h => ?_) (fun cdv A outer s H vs Q E hr h => ?_), F.m, F.F.kp, F.b⟩
  · obtain ⟨_, _, _, _, rfl, _⟩ := h
    rfl
  obtain ⟨a, xs, qs, sz0, rfl, hx, hq, zq, hsz, hl, z⟩ := h
  refine ⟨_, (pss_cons (ps_set (i := 1) sc__law_ordered.nd rfl (Or.inl rfl) (pe_lst pa_nil))
      (pss_cons (ps_for PassesOwn.never rfl (pi_list (pv 0)) (pg_name (i := 2) sc__law_ordered.nd rfl (Or.inl rfl))
        (pss_cons (ps_set (i := 3) sc__law_ordered.nd rfl (Or.inl rfl) pe_int)
        (pss_cons (ps_for PassesOwn.never rfl (pi_range1 (by rfl) T.range_ (pa_cons (pe_callB call_len_seq (by rfl) T.len_ PySem.boot_len (pa_cons (pv 1) pa_nil)) pa_nil)) (pg_name (i := 4) sc__law_ordered.nd rfl (Or.inl rfl))
          (pss_one (ps_if (pt_val (pcall d_law_below hr (pa_cons (pe_ix ix_list (pv 1) (pv 4) (fun _ _ => rfl)) (pa_cons (pv 2) pa_nil))))
            (pss_one (ps_set (i := 3) sc__law_ordered.nd rfl (Or.inl rfl) (pe_op op_add (pv 4) pe_int)))
            pss_nil)))
        (pss_one (ps_if (PW.pt (pw_or (pt_cmpR op_eq (pv 3) (pe_callB call_len_seq (by rfl) T.len_ PySem.boot_len (pa_cons (pv 1) pa_nil)) (nomark _)) (pw_or1 (pt_cmpR (op_neD hr.units) (pe_ix ix_list (pv 1) (pv 3) (fun _ _ => rfl)) (pv 2) (nomark _)))))
          (pss_one (ps_expr (pe_bm PySem.F.plainAttrs_list PySem.F.slot_list_insert PySem.F.type_list_insert mt_insert (pv 1) (pa_cons (pv 3) (pa_cons (pv 2) pa_nil)))))
          pss_nil)))))
      (pss_one (ps_ret (pv 1))))), ?_⟩
  have p62 : (2 : Int) ^ 62 = 4611686018427387904 := by decide
  have p63 : (2 : Int) ^ 63 = 9223372036854775808 := by decide
  refine ⟨Nat.zero_le _, fun D hD => ?_⟩
  refine ⟨_, rfl, a, rfl, ⟨_, (same_new hD _).seq hx⟩, for_list (K := K) (a := a) (xs := xs) (fun i σ G => ∃ (us : List V) (os : List Rat) (k1 k2 k3 : Option V), σ = [some (.ref a), some (.ref D), k1, k2, k3] ∧ Same H G ∧ G D = some (.lst us) ∧ All2 (Rq K G) us os ∧ Asc os ∧ (∀ o ∈ os, o ∈ qs) ∧ os.length ≤ i ∧ (∀ q ∈ qs.take i, q ∈ os))
    ⟨[], [], none, none, none, rfl, same_new hD _, upd_same, All2.nil, List.Pairwise.nil, nofun, Nat.le_refl _, fun q h => by rw [List.take_zero] at h; cases h⟩ (fun i σ G _ h => by obtain ⟨_, _, _, _, _, _, s1, _⟩ := h; exact s1.seq hx) ?_ ?_⟩
  · rintro i x σ G hxi ⟨us, os, k1, k2, k3, rfl, s1, hD1, hA, asc, sub, ln, all⟩
    have hi : i < qs.length := by rw [← hq.1]; exact (List.getElem?_eq_some_iff.mp hxi).1
    have hqi : qs[i]? = some qs[i] := List.getElem?_eq_getElem hi
    have hmem : qs[i] ∈ qs := List.getElem_mem hi
    have rx := (hq.2 i x _ hxi hqi).same s1
    obtain ⟨one, eo⟩ : ∃ o, o = qs[i] := ⟨_, rfl⟩
    rw [← eo] at rx hmem
    have zo := zq one hmem
    have zos : ∀ o ∈ os, Sz sz0 o := fun o ho => zq o (sub o ho)
    have hal := hA.1
    refine ⟨_, rfl, D, _, rfl, .inl (SqL.of hD1), _, rfl, by omega, by omega, for_range (n := ((us.length : Nat) : Int).toNat) (fun j σ G' => ∃ (m : Nat) (k3 : Option V), σ = [some (.ref a), some (.ref D), some x, some (.int m), k3] ∧ G' = G ∧ Spot os one j m)
      ⟨0, k3, rfl, rfl, Nat.le_refl _, fun t o h => absurd h (by omega)⟩ ?_ ?_⟩
    · rintro j σ G' hj ⟨m, k3, rfl, rfl, sp⟩
      have hj' : j < os.length := by omega
      have hoj : os[j]? = some os[j] := List.getElem?_eq_getElem hj'
      obtain ⟨y, hy, ry⟩ := hA.at hoj
      have sn := spot_next asc sp hoj
      refine ⟨_, rfl, _, rfl, D, _, _, y, rfl, rfl, SqL.of hD1, at_of (j := j) (by omega) hy, _, rfl, _, _, os[j], one, sz0, sz0, rfl, ry, rx, zos _ (List.getElem_mem hj'), zo, by omega, _, rfl, ifD (fun g => ?_) (fun g => ?_)⟩
      · rw [if_pos g] at sn
        refine ⟨_, rfl, _, _, rfl, rfl, j + 1, some (.int (0 + (j : Int))), ?_, rfl, sn⟩
        show [some (V.ref a), some (V.ref D), some x, some (V.int (0 + (j : Int) + 1)), some (V.int (0 + (j : Int)))] = _
        rw [show (0 + (j : Int) + 1) = ((j + 1 : Nat) : Int) by omega]
      · rw [if_neg g] at sn
        exact ⟨m, _, rfl, rfl, sn⟩
    · rintro σ G' ⟨m, k3, rfl, rfl, sp⟩
      have sp : Spot os one os.length m := by
        have e : ((us.length : Nat) : Int).toNat = os.length := by omega
        rw [e] at sp
        exact sp
      have hm := sp.1
      have put : os[m]? ≠ some one → ∃ (us' : List V) (os' : List Rat) (k1 k2 k3' : Option V), [some (.ref a), some (.ref D), some x, some (.int m), k3] = [some (.ref a), some (.ref D), k1, k2, k3'] ∧ Same H (upd G' D (.lst (us.take m ++ [x] ++ us.drop m))) ∧ (upd G' D (.lst (us.take m ++ [x] ++ us.drop m))) D = some (.lst us') ∧
          All2 (Rq K (upd G' D (.lst (us.take m ++ [x] ++ us.drop m)))) us' os' ∧ Asc os' ∧ (∀ o ∈ os', o ∈ qs) ∧ os'.length ≤ i + 1 ∧ (∀ q ∈ qs.take (i + 1), q ∈ os') := fun hn => by
        have fr : Fr D G' (upd G' D (.lst (us.take m ++ [x] ++ us.drop m))) := Fr.upd _
        have hA' := hA.imp fun _ _ h => Rq.fr fr ⟨_, hD1⟩ h
        refine ⟨_, os.take m ++ [one] ++ os.drop m, _, _, _, rfl, same_upd s1 hD _, upd_same, ((hA'.take m).append (All2.one (rx.fr fr ⟨_, hD1⟩))).append (hA'.drop m), asc_insert asc sp hn, fun o ho => ?_, ?_, fun q hq => ?_⟩
        · rcases List.mem_append.mp ho with ho | ho
          · rcases List.mem_append.mp ho with ho | ho
            · exact sub o (List.mem_of_mem_take ho)
            · rw [List.mem_singleton.mp ho]
              exact hmem
          · exact sub o (List.mem_of_mem_drop ho)
        · rw [List.length_append, List.length_append, List.length_take, List.length_drop, List.length_singleton]
          omega
        · rw [List.take_add_one, hqi] at hq
          rcases List.mem_append.mp hq with hq | hq
          · have hq := all q hq
            rw [← List.take_append_drop m os] at hq
            rcases List.mem_append.mp hq with hq | hq
            · exact List.mem_append_left _ (List.mem_append_left _ hq)
            · exact List.mem_append_right _ hq
          · have hq : q = one := by rw [eo]; exact List.mem_singleton.mp hq
            rw [hq]
            exact List.mem_append_left _ (List.mem_append_right _ (List.mem_singleton.mpr rfl))
      refine ⟨_, rfl, _, rfl, D, _, rfl, .inl (SqL.of hD1), rfl, _, rfl, ifD (fun g => ifT rfl ?_) (fun g => ?_)⟩
      · have g' := V.int.inj g
        have hn : os[m]? ≠ some one := by rw [List.getElem?_eq_none (by omega)]; exact nofun
        exact ⟨_, rfl, .inl ⟨rfl, _, SqL.of hD1⟩, _, rfl, _, rfl, D, _, _, _, rfl, rfl, hD1, le1000 (by omega), by omega, by omega, put hn⟩
      · have g' : m ≠ us.length := fun e => g (by rw [e])
        have hmo : os[m]? = some os[m] := List.getElem?_eq_getElem (by omega)
        obtain ⟨y, hy, ry⟩ := hA.at hmo
        refine ⟨_, rfl, _, rfl, D, _, _, y, rfl, rfl, SqL.of hD1, at_of (j := m) rfl hy, _, rfl, _, _, ry.dp, rx.dp, sh_dq _, sh_dq _, _, rfl, ?_⟩
        rw [eqv_dq]
        by_cases e : os[m] = one
        · refine ifF (by rw [dT e]; rfl) ⟨us, os, _, _, _, rfl, s1, hD1, hA, asc, sub, by omega, fun q hq => ?_⟩
          rw [List.take_add_one, hqi] at hq
          rcases List.mem_append.mp hq with hq | hq
          · exact all q hq
          · have hq : q = one := by rw [eo]; exact List.mem_singleton.mp hq
            rw [hq, ← e]
            exact List.getElem_mem _
        · refine ifT (by rw [dF e]; rfl) ?_
          have hn : os[m]? ≠ some one := by rw [hmo]; exact fun z => e (Option.some.inj z)
          exact ⟨_, rfl, .inl ⟨rfl, _, SqL.of hD1⟩, _, rfl, _, rfl, D, _, _, _, rfl, rfl, hD1, le1000 (by omega), by omega, by omega, put hn⟩
  · rintro σ G ⟨us, os, k1, k2, k3, rfl, s1, hD1, hA, asc, sub, ln, ne⟩
    rw [hq.1] at ln
    rw [hq.1, List.take_length] at ne
    exact ⟨_, rfl, z D us os G s1 hD hD1 hA asc sub ln ne⟩


/-- a start and None -/
def Sn (K : PySem.W.Frag) (H : Hp) (x : V) (q : Rat) : Prop := ∃ a xs, x = .ref a ∧ SqT K H a [xs, .non] ∧ Rq K H xs q
theorem Sn.same {H H' : Hp} {x : V} {q : Rat} (e : Same H H') (h : Sn K H x q) : Sn K H' x q := by
  obtain ⟨a, xs, rfl, h, h1⟩ := h
  exact ⟨a, xs, rfl, e.sqt h, h1.same e⟩
theorem Sn.fr {s : Addr} {H H' : Hp} {x : V} {q : Rat} (e : Fr s H H') (hs : ∃ ys, H s = some (.lst ys)) (h : Sn K H x q) : Sn K H' x q := by
  obtain ⟨a, xs, rfl, h, h1⟩ := h
  exact ⟨a, xs, rfl, sqt_fr e hs h, h1.fr e hs⟩
def spProbes (K : PySem.W.Frag) : Sp := fun vs H Q _ => ∃ (a : Addr) (xs : List V) (qs : List Rat) (m : Nat), vs = [.ref a] ∧ SqL K H a xs ∧ All2 (Sn K H) xs qs ∧ (∀ q ∈ qs, Sz m q) ∧ m ≤ 500 ∧ 1 ≤ qs.length ∧ qs.length ≤ 100 ∧
  ∀ D us ts H', Same H H' → H D = none → H' D = some (.lst us) → All2 (Rq K H') us ts → (∀ t ∈ ts, Sz (m + m + 4) t) → (∃ t ∈ ts, ∀ q ∈ qs, q < t) → ts.length ≤ 400 → Q (.ref D) H'
end Vk


namespace Vs
/-! ### spans of offsets -/
abbrev Spn := Option Rat × Option Rat
def maxO : Option Rat → Option Rat → Option Rat
  | none, b => b
  | some p, none => some p
  | some p, some q => some (if q ≤ p then p else q)
def minO : Option Rat → Option Rat → Option Rat
  | none, b => b
  | some p, none => some p
  | some p, some q => some (if p ≤ q then p else q)
def crossed : Option Rat → Option Rat → Bool
  | some l, some h => decide (h < l)
  | _, _ => false
def meetO (a b : Spn) : Option Spn := if crossed (maxO a.1 b.1) (minO a.2 b.2) = true then none else some (maxO a.1 b.1, minO a.2 b.2)
def aboveO (o : Option Rat) (t : Rat) : Bool := match o with | none => true | some l => !decide (t < l)
def belowO (o : Option Rat) (t : Rat) : Bool := match o with | none => true | some h => !decide (h < t)
def inS (s : Spn) (t : Rat) : Bool := aboveO s.1 t && belowO s.2 t
def movO (o : Option Rat) (d : Rat) : Option Rat := match o with | none => none | some q => some (q + d)
def negO (o : Option Rat) : Option Rat := match o with | none => none | some q => some (-q)
def shO (s : Spn) (d : Rat) : Spn := (movO s.1 d, movO s.2 d)
def offO (x y : Rat) (fo ba : Spn) : Option Spn := meetO (shO (negO fo.2, negO fo.1) x) (shO ba y)
theorem above_max (a b : Option Rat) (t : Rat) : aboveO (maxO a b) t = (aboveO a t && aboveO b t) := by
  cases a with
  | none => simp [maxO, aboveO]
  | some p => cases b with
    | none => simp [maxO, aboveO]
    | some q =>
      simp only [maxO, aboveO]
      split <;> by_cases h1 : t < p <;> by_cases h2 : t < q <;> simp [h1, h2] <;> grind
theorem below_min (a b : Option Rat) (t : Rat) : belowO (minO a b) t = (belowO a t && belowO b t) := by
  cases a with
  | none => simp [minO, belowO]
  | some p => cases b with
    | none => simp [minO, belowO]
    | some q =>
      simp only [minO, belowO]
      split <;> by_cases h1 : p < t <;> by_cases h2 : q < t <;> simp [h1, h2] <;> grind
theorem crossed_in {l h : Option Rat} (c : crossed l h = true) (t : Rat) : (aboveO l t && belowO h t) = false := by
  cases l with
  | none => simp [crossed] at c
  | some p => cases h with
    | none => simp [crossed] at c
    | some q =>
      simp only [crossed, decide_eq_true_eq] at c
      simp only [aboveO, belowO]
      by_cases h1 : t < p <;> by_cases h2 : q < t <;> simp [h1, h2] <;> grind
theorem meet_in (a b : Spn) (t : Rat) : (inS a t && inS b t) = (match meetO a b with | none => false | some s => inS s t) := by
  have e : (inS a t && inS b t) = (aboveO (maxO a.1 b.1) t && belowO (minO a.2 b.2) t) := by
    rw [above_max, below_min]
    unfold inS
    cases aboveO a.1 t <;> cases aboveO b.1 t <;> cases belowO a.2 t <;> cases belowO b.2 t <;> rfl
  rw [e]
  unfold meetO
  by_cases c : crossed (maxO a.1 b.1) (minO a.2 b.2) = true
  · rw [if_pos c]
    exact crossed_in c t
  · rw [if_neg c]
    rfl
theorem above_mov (o : Option Rat) (x f : Rat) : aboveO (movO (negO o) x) f = belowO o (x - f) := by
  cases o with
  | none => rfl
  | some q =>
    simp only [negO, movO, aboveO, belowO]
    congr 1
    exact decide_eq_decide.mpr (by grind)
theorem below_mov (o : Option Rat) (x f : Rat) : belowO (movO (negO o) x) f = aboveO o (x - f) := by
  cases o with
  | none => rfl
  | some q =>
    simp only [negO, movO, aboveO, belowO]
    congr 1
    exact decide_eq_decide.mpr (by grind)
theorem above_mov2 (o : Option Rat) {y z : Rat} (f : Rat) (h : y = -z) : aboveO (movO o y) f = aboveO o (z + f) := by
  cases o with
  | none => rfl
  | some q =>
    simp only [movO, aboveO]
    congr 1
    exact decide_eq_decide.mpr (by grind)
theorem below_mov2 (o : Option Rat) {y z : Rat} (f : Rat) (h : y = -z) : belowO (movO o y) f = belowO o (z + f) := by
  cases o with
  | none => rfl
  | some q =>
    simp only [movO, belowO]
    congr 1
    exact decide_eq_decide.mpr (by grind)
theorem off_in (x y z : Rat) (fo ba : Spn) (f : Rat) (h : y = -z) : (inS fo (x - f) && inS ba (z + f)) = (match offO x y fo ba with | none => false | some s => inS s f) := by
  unfold offO
  rw [← meet_in]
  unfold inS shO
  simp only [above_mov, below_mov, above_mov2 _ f h, below_mov2 _ f h]
  cases aboveO fo.1 (x - f) <;> cases belowO fo.2 (x - f) <;> cases aboveO ba.1 (z + f) <;> cases belowO ba.2 (z + f) <;> rfl
theorem off_ok {x y : Rat} {fo ba s : Spn} (h : offO x y fo ba = some s) : crossed s.1 s.2 = false := by
  unfold offO meetO at h
  split at h
  · cases h
  · rename_i c
    cases h
    simpa using c
/-- both ends known: no end is farther from the plain offset than half the width -/
theorem off_half {x y lo hi : Rat} {s : Spn} (h : offO x y (some lo, some hi) (some lo, some hi) = some s) :
    ∃ l u, s = (some l, some u) ∧ ∀ f, f = l ∨ f = u → ¬ (hi - lo < 2 * ((x + y) / 2 - f)) ∧ ¬ (hi - lo < 2 * (f - (x + y) / 2)) := by
  have c := off_ok h
  unfold offO meetO at h
  split at h
  · cases h
  · simp only [shO, negO, movO, maxO, minO] at h
    obtain rfl := (Option.some.inj h).symm
    refine ⟨_, _, rfl, fun f hf => ?_⟩
    simp only [crossed, decide_eq_false_iff_not] at c
    have e2 : (x + y) / 2 + (x + y) / 2 = x + y := by grind
    generalize (x + y) / 2 = p at e2
    have e3 : ∀ q : Rat, 2 * q = q + q := fun q => by grind
    rw [e3, e3]
    split at hf <;> split at hf <;> rename_i h1 h2 <;> simp only [h1, h2, if_true, if_false] at c <;> rcases hf with rfl | rfl <;> constructor <;> grind
/-! ### sizes and items -/
def itemsO : Spn → List Rat := fun s => s.1.toList ++ s.2.toList
end Vs

namespace Vk
open PySem L2 Vm Vs
variable {l az : Addr} {P : Program} {w : World} {K : PySem.W.Frag} {mg : Str → Option Value} {base : Heap} {k : Nat} {f f1 f2 f3 f4 f5 f6 f7 f8 f9 : Addr} {fd fd1 fd2 fd3 fd4 fd5 fd6 fd7 fd8 fd9 : FuncData}
/-! ### ends and spans -/
def OSz (m : Nat) (o : Option Rat) : Prop := ∀ q, o = some q → Sz m q
def SSz (m : Nat) (s : Spn) : Prop := OSz m s.1 ∧ OSz m s.2
theorem optV.same {H H' : Hp} {v : V} {o : Option Rat} (e : Same H H') (h : optV K H v o) : optV K H' v o := by
  cases o with
  | none => exact h
  | some q => exact Rq.same e h
theorem optV.fr {s : Addr} {H H' : Hp} {v : V} {o : Option Rat} (e : Fr s H H') (hs : ∃ ys, H s = some (.lst ys)) (h : optV K H v o) : optV K H' v o := by
  cases o with
  | none => exact h
  | some q => exact Rq.fr e hs h
def Spq (K : PySem.W.Frag) (H : Hp) (x : V) (s : Spn) : Prop := ∃ a u v, x = .ref a ∧ SqT K H a [u, v] ∧ optV K H u s.1 ∧ optV K H v s.2
theorem Spq.same {H H' : Hp} {x : V} {s : Spn} (e : Same H H') (h : Spq K H x s) : Spq K H' x s := by
  obtain ⟨a, u, v, rfl, h, h1, h2⟩ := h
  exact ⟨a, u, v, rfl, e.sqt h, h1.same e, h2.same e⟩
theorem Spq.fr {s : Addr} {H H' : Hp} {x : V} {p : Spn} (e : Fr s H H') (hs : ∃ ys, H s = some (.lst ys)) (h : Spq K H x p) : Spq K H' x p := by
  obtain ⟨a, u, v, rfl, h, h1, h2⟩ := h
  exact ⟨a, u, v, rfl, sqt_fr e hs h, h1.fr e hs, h2.fr e hs⟩
def oSp (K : PySem.W.Frag) (H : Hp) (x : V) : Option Spn → Prop
  | none => x = .non
  | some s => Spq K H x s
theorem oSp.same {H H' : Hp} {x : V} {o : Option Spn} (e : Same H H') (h : oSp K H x o) : oSp K H' x o := by
  cases o with
  | none => exact h
  | some q => exact Spq.same e h
theorem osz_max {m : Nat} {a b : Option Rat} (h : OSz m a) (g : OSz m b) : OSz m (maxO a b) := by
  cases a with
  | none => exact g
  | some p => cases b with
    | none => exact h
    | some q =>
      intro r e
      simp only [maxO] at e
      cases Option.some.inj e
      split
      · exact h _ rfl
      · exact g _ rfl
theorem osz_min {m : Nat} {a b : Option Rat} (h : OSz m a) (g : OSz m b) : OSz m (minO a b) := by
  cases a with
  | none => exact g
  | some p => cases b with
    | none => exact h
    | some q =>
      intro r e
      simp only [minO] at e
      cases Option.some.inj e
      split
      · exact h _ rfl
      · exact g _ rfl
theorem osz_mov {m j : Nat} {o : Option Rat} {d : Rat} (h : OSz m o) (g : Sz j d) : OSz (m + j + 1) (movO o d) := by
  cases o with
  | none => nofun
  | some q => intro r e; cases Option.some.inj e; exact (h _ rfl).add g
theorem osz_neg {m : Nat} {o : Option Rat} (h : OSz m o) : OSz m (negO o) := by
  cases o with
  | none => nofun
  | some q => intro r e; cases Option.some.inj e; exact (h _ rfl).neg
theorem osz_up {m j : Nat} {o : Option Rat} (h : OSz m o) (e : m ≤ j) : OSz j o := fun q g => (h q g).mono e
theorem ssz_meet {m : Nat} {a b s : Spn} (h : SSz m a) (g : SSz m b) (e : meetO a b = some s) : SSz m s := by
  unfold meetO at e
  split at e
  · cases e
  · cases e
    exact ⟨osz_max h.1 g.1, osz_min h.2 g.2⟩
theorem ssz_off {x y : Rat} {i j : Nat} {fo ba s : Spn} (hx : Sz j x) (hy : Sz j y) (h : SSz i fo) (g : SSz i ba) (e : offO x y fo ba = some s) : SSz (i + j + 1) s :=
  ssz_meet ⟨osz_mov (osz_neg h.2) hx, osz_mov (osz_neg h.1) hx⟩ ⟨osz_mov g.1 hy, osz_mov g.2 hy⟩ e
/-- the written half -/
structure Hf (K : PySem.W.Frag) (mg : Str → Option Value) (az : Addr) : Prop where
  m : mg "HALF" = some (.ref az)
  q : ∀ H, Rq K H (.ref az) (1 / 2)
/-! ### the lesser and the greater one -/
def spSel (K : PySem.W.Frag) (g : Rat → Rat → Rat) : Sp := fun vs H Q _ => ∃ (x y : V) (p q : Rat) (m l : Nat), vs = [x, y] ∧ Rq K H x p ∧ Rq K H y q ∧ Sz m p ∧ Sz l q ∧ m + l + 1 ≤ 9000 ∧ ∀ v, Rq K H v (g p q) → Q v H
theorem sg_le {p q : Rat} : sg p q ≤ 0 ↔ p ≤ q := by
  unfold sg
  split
  · rename_i h
    subst h
    simp [Rat.le_refl]
  · split
    · rename_i h1 h2
      exact ⟨fun _ => by grind, fun _ => by omega⟩
    · rename_i h1 h2
      exact ⟨fun h => by omega, fun h => absurd h (by grind)⟩
abbrev s_smaller : Stmt := top 12
abbrev N_smaller : List Str := ["a", "b"]
theorem sc_smaller : FnScope N_smaller ["a", "b"] (defScope s_smaller) := ⟨rfl, rfl, rfl, by decide +kernel, rfl, by decide +kernel, by decide +kernel⟩
abbrev ps_smaller : List Str := ["a", "b"]
theorem ok_smaller (F : Fn K mg "smaller" s_smaller ps_smaller f fd) (dcompare : Def P w K mg base k "compare" ["a", "b"] (spTest2 K fun p q => .int (sg p q)) f1 fd1) : Def P w K mg base (k + 1) "smaller" ps_smaller (spSel K fun p q => if p ≤ q then p else q) f fd := by
  refine ⟨F.F.ok sc_smaller (fun vs H Q E h => ?_) (fun cdv A outer s H vs Q E hr h => ?_), F.m, F.F.kp, F.b⟩
  · obtain ⟨x, y, p, q, m, l, rfl, _⟩ := h
    rfl
  obtain ⟨x, y, p, q, m, l, rfl, ha, hb, zp, zq, hm, z⟩ := h
  refine ⟨_, (pss_one (ps_ret (pe_ifExp (pt_cmpR op_le (pcall dcompare hr (pa_cons (pv 0) (pa_cons (pv 1) pa_nil))) pe_int (nomark _)) (pv 0) (pv 1)))), ?_⟩
  refine ⟨_, rfl, _, rfl, x, y, p, q, m, l, rfl, ha, hb, zp, zq, by omega, _, _, rfl, rfl, _, rfl, ifD (fun c => ⟨_, rfl, z _ ?_⟩) (fun c => ⟨_, rfl, z _ ?_⟩)⟩
  · dsimp only; rw [if_pos (sg_le.mp c)]; exact ha
  · dsimp only; rw [if_neg (fun e => c (sg_le.mpr e))]; exact hb
abbrev s_larger : Stmt := top 13
abbrev N_larger : List Str := ["a", "b"]
theorem sc_larger : FnScope N_larger ["a", "b"] (defScope s_larger) := ⟨rfl, rfl, rfl, by decide +kernel, rfl, by decide +kernel, by decide +kernel⟩
abbrev ps_larger : List Str := ["a", "b"]
theorem ok_larger (F : Fn K mg "larger" s_larger ps_larger f fd) (dcompare : Def P w K mg base k "compare" ["a", "b"] (spTest2 K fun p q => .int (sg p q)) f1 fd1) : Def P w K mg base (k + 1) "larger" ps_larger (spSel K fun p q => if q ≤ p then p else q) f fd := by
  refine ⟨F.F.ok sc_larger (fun vs H Q E h => ?_) (fun cdv A outer s H vs Q E hr h => ?_), F.m, F.F.kp, F.b⟩
  · obtain ⟨x, y, p, q, m, l, rfl, _⟩ := h
    rfl
  obtain ⟨x, y, p, q, m, l, rfl, ha, hb, zp, zq, hm, z⟩ := h
  refine ⟨_, (pss_one (ps_ret (pe_ifExp (pt_cmpR op_ge (pcall dcompare hr (pa_cons (pv 0) (pa_cons (pv 1) pa_nil))) pe_int (nomark _)) (pv 0) (pv 1)))), ?_⟩
  refine ⟨_, rfl, _, rfl, x, y, p, q, m, l, rfl, ha, hb, zp, zq, by omega, _, _, rfl, rfl, _, rfl, ifD (fun c => ⟨_, rfl, z _ ?_⟩) (fun c => ⟨_, rfl, z _ ?_⟩)⟩
  · dsimp only; rw [if_pos (sg_ge.mp c)]; exact ha
  · dsimp only; rw [if_neg (fun e => c (sg_ge.mpr e))]; exact hb
def spEnd2 (K : PySem.W.Frag) (g : Option Rat → Option Rat → Option Rat) : Sp := fun vs H Q _ => ∃ (x y : V) (p q : Option Rat) (m : Nat), vs = [x, y] ∧ optV K H x p ∧ optV K H y q ∧ OSz m p ∧ OSz m q ∧ m + m + 1 ≤ 9000 ∧ ∀ v, optV K H v (g p q) → Q v H
abbrev s__higher_low : Stmt := top 15
abbrev N__higher_low : List Str := ["a", "b"]
theorem sc__higher_low : FnScope N__higher_low ["a", "b"] (defScope s__higher_low) := ⟨rfl, rfl, rfl, by decide +kernel, rfl, by decide +kernel, by decide +kernel⟩
abbrev ps__higher_low : List Str := ["a", "b"]
theorem ok_higher_low (F : Fn K mg "_higher_low" s__higher_low ps__higher_low f fd) (dlarger : Def P w K mg base k "larger" ["a", "b"] (spSel K fun p q => if q ≤ p then p else q) f1 fd1) : Def P w K mg base (k + 1) "_higher_low" ps__higher_low (spEnd2 K maxO) f fd := by
  refine ⟨F.F.ok sc__higher_low (fun vs H Q E h => ?_) (fun cdv A outer s H vs Q E hr h => ?_), F.m, F.F.kp, F.b⟩
  · obtain ⟨x, y, p, q, m, rfl, _⟩ := h
    rfl
  obtain ⟨x, y, p, q, m, rfl, ha, hb, zp, zq, hm, z⟩ := h
  refine ⟨_, (pss_cons (ps_if (pt_cmpR op_isN (pv 0) pe_non (nomark _))
        (pss_one (ps_ret (pv 1)))
        pss_nil)
      (pss_one (ps_ret (pe_ifExp (pt_cmpR op_isN (pv 1) pe_non (nomark _)) (pv 0) (pcall dlarger hr (pa_cons (pv 0) (pa_cons (pv 1) pa_nil))))))), ?_⟩
  cases p with
  | none =>
    cases (show x = .non from ha)
    exact ⟨_, rfl, rfl, _, rfl, ifT (dT rfl) ⟨_, rfl, z _ hb⟩⟩
  | some p =>
    have ha : Rq K H x p := ha
    obtain ⟨a, rfl, ha'⟩ := id ha
    refine ⟨_, rfl, rfl, _, rfl, ifF (dF nofun) ?_⟩
    cases q with
    | none =>
      cases (show y = .non from hb)
      exact ⟨_, rfl, rfl, _, rfl, ifT (dT rfl) ⟨_, rfl, z _ ha⟩⟩
    | some q =>
      have hb : Rq K H y q := hb
      obtain ⟨b, rfl, hb'⟩ := id hb
      exact ⟨_, rfl, rfl, _, rfl, ifF (dF nofun) ⟨_, rfl, _, rfl, _, _, p, q, m, m, rfl, ha, hb, zp _ rfl, zq _ rfl, hm, fun v hv => z _ hv⟩⟩
abbrev s__lower_high : Stmt := top 16
abbrev N__lower_high : List Str := ["a", "b"]
theorem sc__lower_high : FnScope N__lower_high ["a", "b"] (defScope s__lower_high) := ⟨rfl, rfl, rfl, by decide +kernel, rfl, by decide +kernel, by decide +kernel⟩
abbrev ps__lower_high : List Str := ["a", "b"]
theorem ok_lower_high (F : Fn K mg "_lower_high" s__lower_high ps__lower_high f fd) (dsmaller : Def P w K mg base k "smaller" ["a", "b"] (spSel K fun p q => if p ≤ q then p else q) f1 fd1) : Def P w K mg base (k + 1) "_lower_high" ps__lower_high (spEnd2 K minO) f fd := by
  refine ⟨F.F.ok sc__lower_high (fun vs H Q E h => ?_) (fun cdv A outer s H vs Q E hr h => ?_), F.m, F.F.kp, F.b⟩
  · obtain ⟨x, y, p, q, m, rfl, _⟩ := h
    rfl
  obtain ⟨x, y, p, q, m, rfl, ha, hb, zp, zq, hm, z⟩ := h
  refine ⟨_, (pss_cons (ps_if (pt_cmpR op_isN (pv 0) pe_non (nomark _))
        (pss_one (ps_ret (pv 1)))
        pss_nil)
      (pss_one (ps_ret (pe_ifExp (pt_cmpR op_isN (pv 1) pe_non (nomark _)) (pv 0) (pcall dsmaller hr (pa_cons (pv 0) (pa_cons (pv 1) pa_nil))))))), ?_⟩
  cases p with
  | none =>
    cases (show x = .non from ha)
    exact ⟨_, rfl, rfl, _, rfl, ifT (dT rfl) ⟨_, rfl, z _ hb⟩⟩
  | some p =>
    have ha : Rq K H x p := ha
    obtain ⟨a, rfl, ha'⟩ := id ha
    refine ⟨_, rfl, rfl, _, rfl, ifF (dF nofun) ?_⟩
    cases q with
    | none =>
      cases (show y = .non from hb)
      exact ⟨_, rfl, rfl, _, rfl, ifT (dT rfl) ⟨_, rfl, z _ ha⟩⟩
    | some q =>
      have hb : Rq K H y q := hb
      obtain ⟨b, rfl, hb'⟩ := id hb
      exact ⟨_, rfl, rfl, _, rfl, ifF (dF nofun) ⟨_, rfl, _, rfl, _, _, p, q, m, m, rfl, ha, hb, zp _ rfl, zq _ rfl, hm, fun v hv => z _ hv⟩⟩
abbrev s_meet : Stmt := top 17
abbrev N_meet : List Str := ["a", "b", "low", "high"]
theorem sc_meet : FnScope N_meet ["a", "b"] (defScope s_meet) := ⟨rfl, rfl, rfl, by decide +kernel, rfl, by decide +kernel, by decide +kernel⟩
abbrev ps_meet : List Str := ["a", "b"]
def spMeet (K : PySem.W.Frag) : Sp := fun vs H Q _ => ∃ (x y : V) (s t : Spn) (m : Nat), vs = [x, y] ∧ Spq K H x s ∧ Spq K H y t ∧ SSz m s ∧ SSz m t ∧ m + m + 1 ≤ 9000 ∧ ∀ v H', Same H H' → oSp K H' v (meetO s t) → Q v H'
theorem sg_gt {p q : Rat} : 0 < sg p q ↔ q < p := by
  have := @sg_le p q
  constructor
  · intro h; exact Rat.not_le.mp fun e => by have := this.mpr e; omega
  · intro h; exact Int.not_le.mp fun e => absurd (this.mp e) (Rat.not_le.mpr h)
theorem ok_meet (F : Fn K mg "meet" s_meet ps_meet f fd) (d_higher_low : Def P w K mg base k "_higher_low" ["a", "b"] (spEnd2 K maxO) f1 fd1) (d_lower_high : Def P w K mg base k "_lower_high" ["a", "b"] (spEnd2 K minO) f2 fd2) (dcompare : Def P w K mg base k "compare" ["a", "b"] (spTest2 K fun p q => .int (sg p q)) f3 fd3) :
    Def P w K mg base (k + 1) "meet" ps_meet (spMeet K) f fd := by
  refine ⟨F.F.ok sc_meet (fun vs H Q E h => ?_) (fun cdv A outer s H vs Q E hr h => ?_), F.m, F.F.kp, F.b⟩
  · obtain ⟨x, y, p, q, m, rfl, _⟩ := h
    rfl
  obtain ⟨x, y, s, t, m, rfl, ⟨a, u1, v1, rfl, ha, hu1, hv1⟩, ⟨b, u2, v2, rfl, hb, hu2, hv2⟩, zs, zt, hm, z⟩ := h
  refine ⟨_, (pss_cons (ps_set (i := 2) sc_meet.nd rfl (Or.inl rfl) (pcall d_higher_low hr (pa_cons (pe_ix ix_tup (pv 0) pe_int (fun _ _ => rfl)) (pa_cons (pe_ix ix_tup (pv 1) pe_int (fun _ _ => rfl)) pa_nil))))
      (pss_cons (ps_set (i := 3) sc_meet.nd rfl (Or.inl rfl) (pcall d_lower_high hr (pa_cons (pe_ix ix_tup (pv 0) pe_int (fun _ _ => rfl)) (pa_cons (pe_ix ix_tup (pv 1) pe_int (fun _ _ => rfl)) pa_nil))))
      (pss_cons (ps_if (PW.pt (pw_and (pt_cmpR op_notN (pv 2) pe_non (nomark _)) (pw_and (pt_cmpR op_notN (pv 3) pe_non (nomark _)) (pw_and1 (pt_cmpR op_gt (pcall dcompare hr (pa_cons (pv 2) (pa_cons (pv 3) pa_nil))) pe_int (nomark _))))))
        (pss_one (ps_ret pe_non))
        pss_nil)
      (pss_one (ps_ret (pe_tup (pa_cons (pv 2) (pa_cons (pv 3) pa_nil)))))))), ?_⟩
  refine ⟨_, rfl, a, _, _, _, rfl, rfl, ha, at0 rfl, _, rfl, b, _, _, _, rfl, rfl, hb, at0 rfl, _, _, s.1, t.1, m, rfl, hu1, hu2, zs.1, zt.1, hm, fun lo hlo => ?_⟩
  refine ⟨_, rfl, a, _, _, _, rfl, rfl, ha, at1 rfl, _, rfl, b, _, _, _, rfl, rfl, hb, at1 rfl, _, _, s.2, t.2, m, rfl, hv1, hv2, zs.2, zt.2, hm, fun hi hhi => ?_⟩
  have zl := osz_max zs.1 zt.1
  have zh := osz_min zs.2 zt.2
  have em : meetO s t = if crossed (maxO s.1 t.1) (minO s.2 t.2) = true then none else some (maxO s.1 t.1, minO s.2 t.2) := rfl
  have fin : crossed (maxO s.1 t.1) (minO s.2 t.2) = false → ∀ T, H T = none → Q (.ref T) (upd H T (.tup [lo, hi])) := fun c T hT => by
    have sT := same_new hT (.tup [lo, hi])
    refine z _ _ sT ?_
    rw [em, c]
    exact ⟨T, _, _, rfl, SqT.of upd_same, hlo.same sT, hhi.same sT⟩
  generalize maxO s.1 t.1 = oL at hlo zl em fin
  generalize minO s.2 t.2 = oH at hhi zh em fin
  cases oL with
  | none =>
    cases (show lo = .non from hlo)
    exact ⟨_, rfl, rfl, _, rfl, ifF rfl (ifF rfl ⟨_, rfl, _, rfl, sz2, fin rfl⟩)⟩
  | some p =>
    have hlo' : Rq K H lo p := hlo
    obtain ⟨c, rfl, _⟩ := id hlo'
    refine ⟨_, rfl, rfl, _, rfl, ifT rfl ?_⟩
    cases oH with
    | none =>
      cases (show hi = .non from hhi)
      exact ⟨_, rfl, rfl, _, rfl, ifF rfl (ifF rfl ⟨_, rfl, _, rfl, sz2, fin rfl⟩)⟩
    | some q =>
      have hhi' : Rq K H hi q := hhi
      obtain ⟨d, rfl, _⟩ := id hhi'
      refine ⟨_, rfl, rfl, _, rfl, ifT rfl ?_⟩
      refine ⟨_, rfl, _, rfl, _, _, p, q, m, m, rfl, hlo', hhi', zl _ rfl, zh _ rfl, by omega, _, _, rfl, rfl, _, rfl, ?_⟩
      by_cases c : q < p
      · refine ifT (dT (sg_gt.mpr c)) ?_
        refine z _ _ (Same.refl _) ?_
        rw [em, show crossed (some p) (some q) = true from dT c]
        rfl
      · exact ifF (dF fun e => c (sg_gt.mp e)) (⟨_, rfl, _, rfl, sz2, fin (dF c)⟩)
end Vk

namespace Vk
open PySem L2 Vm Vs
variable {l az : Addr} {P : Program} {w : World} {K : PySem.W.Frag} {mg : Str → Option Value} {base : Heap} {k : Nat} {f f1 f2 f3 f4 f5 f6 f7 f8 f9 : Addr} {fd fd1 fd2 fd3 fd4 fd5 fd6 fd7 fd8 fd9 : FuncData}
def spMoved (K : PySem.W.Frag) : Sp := fun vs H Q _ => ∃ (x y : V) (o : Option Rat) (d : Rat) (m j : Nat), vs = [x, y] ∧ optV K H x o ∧ Rq K H y d ∧ OSz m o ∧ Sz j d ∧ m + j + 1 ≤ 9000 ∧ ∀ v H', Same H H' → optV K H' v (movO o d) → Q v H'
abbrev s__moved : Stmt := top 18
abbrev N__moved : List Str := ["end", "by"]
theorem sc__moved : FnScope N__moved ["end", "by"] (defScope s__moved) := ⟨rfl, rfl, rfl, by decide +kernel, rfl, by decide +kernel, by decide +kernel⟩
abbrev ps__moved : List Str := ["end", "by"]
theorem ok_moved (F : Fn K mg "_moved" s__moved ps__moved f fd) (dadd : Def P w K mg base k "add" ["a", "b"] (spOp2 K (· + ·)) f1 fd1) : Def P w K mg base (k + 1) "_moved" ps__moved (spMoved K) f fd := by
  refine ⟨F.F.ok sc__moved (fun vs H Q E h => ?_) (fun cdv A outer s H vs Q E hr h => ?_), F.m, F.F.kp, F.b⟩
  · obtain ⟨_, _, _, _, _, _, rfl, _⟩ := h
    rfl
  obtain ⟨x, y, o, d, m, j, rfl, ha, hb, zo, zd, hm, z⟩ := h
  refine ⟨_, (pss_one (ps_ret (pe_ifExp (pt_cmpR op_isN (pv 0) pe_non (nomark _)) pe_non (pcall dadd hr (pa_cons (pv 0) (pa_cons (pv 1) pa_nil)))))), ?_⟩
  cases o with
  | none =>
    cases (show x = .non from ha)
    exact ⟨_, rfl, rfl, _, rfl, ifT (dT rfl) (z _ _ (Same.refl _) rfl)⟩
  | some q =>
    have ha : Rq K H x q := ha
    obtain ⟨a, rfl, ha'⟩ := id ha
    exact ⟨_, rfl, rfl, _, rfl, ifF (dF nofun) ⟨_, rfl, _, rfl, _, _, q, d, m, j, rfl, ha, hb, zo _ rfl, zd, hm, fun v H' e hv => z _ _ e hv⟩⟩
def spShift (K : PySem.W.Frag) : Sp := fun vs H Q _ => ∃ (x y : V) (s : Spn) (d : Rat) (m j : Nat), vs = [x, y] ∧ Spq K H x s ∧ Rq K H y d ∧ SSz m s ∧ Sz j d ∧ m + j + 1 ≤ 9000 ∧ ∀ v H', Same H H' → Spq K H' v (shO s d) → Q v H'
abbrev s_shift : Stmt := top 19
abbrev N_shift : List Str := ["span", "by"]
theorem sc_shift : FnScope N_shift ["span", "by"] (defScope s_shift) := ⟨rfl, rfl, rfl, by decide +kernel, rfl, by decide +kernel, by decide +kernel⟩
abbrev ps_shift : List Str := ["span", "by"]
theorem ok_shift (F : Fn K mg "shift" s_shift ps_shift f fd) (d_moved : Def P w K mg base k "_moved" ["end", "by"] (spMoved K) f1 fd1) : Def P w K mg base (k + 1) "shift" ps_shift (spShift K) f fd := by
  refine ⟨F.F.ok sc_shift (fun vs H Q E h => ?_) (fun cdv A outer s H vs Q E hr h => ?_), F.m, F.F.kp, F.b⟩
  · obtain ⟨_, _, _, _, _, _, rfl, _⟩ := h
    rfl
  obtain ⟨x, y, s, d, m, j, rfl, ⟨a, u, v, rfl, ha, hu, hv⟩, hd, zs, zd, hm, z⟩ := h
  refine ⟨_, (pss_one (ps_ret (pe_tup (pa_cons (pcall d_moved hr (pa_cons (pe_ix ix_tup (pv 0) pe_int (fun _ _ => rfl)) (pa_cons (pv 1) pa_nil))) (pa_cons (pcall d_moved hr (pa_cons (pe_ix ix_tup (pv 0) pe_int (fun _ _ => rfl)) (pa_cons (pv 1) pa_nil))) pa_nil))))), ?_⟩
  refine ⟨_, rfl, a, _, _, _, rfl, rfl, ha, at0 rfl, _, rfl, _, _, s.1, d, m, j, rfl, hu, hd, zs.1, zd, hm, fun lo H1 e1 hlo => ?_⟩
  refine ⟨_, rfl, a, _, _, _, rfl, rfl, e1.sqt ha, at1 rfl, _, rfl, _, _, s.2, d, m, j, rfl, hv.same e1, hd.same e1, zs.2, zd, hm, fun hi H2 e2 hhi => ⟨sz2, fun T hT => ?_⟩⟩
  have sT := same_new hT (.tup [lo, hi])
  exact z _ _ ((e1.trans e2).trans sT) ⟨T, _, _, rfl, SqT.of upd_same, (hlo.same e2).same sT, hhi.same sT⟩
def spNegO (K : PySem.W.Frag) : Sp := fun vs H Q _ => ∃ (x : V) (o : Option Rat), vs = [x] ∧ optV K H x o ∧ ∀ v H', Same H H' → optV K H' v (negO o) → Q v H'
abbrev s__negated : Stmt := top 23
abbrev N__negated : List Str := ["end"]
theorem sc__negated : FnScope N__negated ["end"] (defScope s__negated) := ⟨rfl, rfl, rfl, by decide +kernel, rfl, by decide +kernel, by decide +kernel⟩
abbrev ps__negated : List Str := ["end"]
theorem ok_negated (F : Fn K mg "_negated" s__negated ps__negated f fd) (dnegate : Def P w K mg base k "negate" ["a"] (spOp1 K fun p => -p) f1 fd1) : Def P w K mg base (k + 1) "_negated" ps__negated (spNegO K) f fd := by
  refine ⟨F.F.ok sc__negated (fun vs H Q E h => ?_) (fun cdv A outer s H vs Q E hr h => ?_), F.m, F.F.kp, F.b⟩
  · obtain ⟨_, _, rfl, _⟩ := h
    rfl
  obtain ⟨x, o, rfl, ha, z⟩ := h
  refine ⟨_, (pss_one (ps_ret (pe_ifExp (pt_cmpR op_isN (pv 0) pe_non (nomark _)) pe_non (pcall dnegate hr (pa_cons (pv 0) pa_nil))))), ?_⟩
  cases o with
  | none =>
    cases (show x = .non from ha)
    exact ⟨_, rfl, rfl, _, rfl, ifT (dT rfl) (z _ _ (Same.refl _) rfl)⟩
  | some q =>
    have ha : Rq K H x q := ha
    obtain ⟨a, rfl, ha'⟩ := id ha
    exact ⟨_, rfl, rfl, _, rfl, ifF (dF nofun) ⟨_, rfl, _, q, rfl, ha, fun v H' e hv => z _ _ e hv⟩⟩
/-! ### stamps -/
structure St4 where
  a : Rat
  b : Rat
  c : Rat
  d : Rat
def T4 (K : PySem.W.Frag) (H : Hp) (x : V) (t : St4) : Prop := ∃ r xa xb xc xd, x = .ref r ∧ SqT K H r [xa, xb, xc, xd] ∧ Rq K H xa t.a ∧ Rq K H xb t.b ∧ Rq K H xc t.c ∧ Rq K H xd t.d
theorem T4.same {H H' : Hp} {x : V} {t : St4} (e : Same H H') (h : T4 K H x t) : T4 K H' x t := by
  obtain ⟨r, xa, xb, xc, xd, rfl, h, h1, h2, h3, h4⟩ := h
  exact ⟨r, xa, xb, xc, xd, rfl, e.sqt h, h1.same e, h2.same e, h3.same e, h4.same e⟩
theorem T4.fr {s : Addr} {H H' : Hp} {x : V} {t : St4} (e : Fr s H H') (hs : ∃ ys, H s = some (.lst ys)) (h : T4 K H x t) : T4 K H' x t := by
  obtain ⟨r, xa, xb, xc, xd, rfl, h, h1, h2, h3, h4⟩ := h
  exact ⟨r, xa, xb, xc, xd, rfl, sqt_fr e hs h, h1.fr e hs, h2.fr e hs, h3.fr e hs, h4.fr e hs⟩
def Z4 (m : Nat) (t : St4) : Prop := Sz m t.a ∧ Sz m t.b ∧ Sz m t.c ∧ Sz m t.d
def plainOf (t : St4) : Rat := ((t.b - t.a) + (t.c - t.d)) * (1 / 2)
def spT4 (K : PySem.W.Frag) (g : St4 → Rat) : Sp := fun vs H Q _ => ∃ (x : V) (t : St4), vs = [x] ∧ T4 K H x t ∧ Z4 40 t ∧ ∀ v H', Same H H' → Rq K H' v (g t) → Q v H'
abbrev s_round_trip : Stmt := top 21
abbrev N_round_trip : List Str := ["stamps", "a", "b", "c", "d"]
theorem sc_round_trip : FnScope N_round_trip ["stamps"] (defScope s_round_trip) := ⟨rfl, rfl, rfl, by decide +kernel, rfl, by decide +kernel, by decide +kernel⟩
abbrev ps_round_trip : List Str := ["stamps"]
theorem ok_round_trip (F : Fn K mg "round_trip" s_round_trip ps_round_trip f fd) (dsubtract : Def P w K mg base k "subtract" ["a", "b"] (spOp2 K (· - ·)) f1 fd1) : Def P w K mg base (k + 1) "round_trip" ps_round_trip (spT4 K fun t => (t.d - t.a) - (t.c - t.b)) f fd := by
  refine ⟨F.F.ok sc_round_trip (fun vs H Q E h => ?_) (fun cdv A outer s H vs Q E hr h => ?_), F.m, F.F.kp, F.b⟩
  · obtain ⟨_, _, rfl, _⟩ := h
    rfl
  obtain ⟨x, t, rfl, ⟨r, xa, xb, xc, xd, rfl, ht, ha, hb, hc, hd⟩, ⟨za, zb, zc, zd⟩, z⟩ := h
  refine ⟨_, (pss_cons (ps_asg (pv 0) (pg_tup rfl (pgs_cons (pg_name (i := 1) sc_round_trip.nd rfl (Or.inl rfl)) (pgs_cons (pg_name (i := 2) sc_round_trip.nd rfl (Or.inl rfl)) (pgs_cons (pg_name (i := 3) sc_round_trip.nd rfl (Or.inl rfl)) (pgs_cons (pg_name (i := 4) sc_round_trip.nd rfl (Or.inl rfl)) pgs_nil))))))
      (pss_one (ps_ret (pcall dsubtract hr (pa_cons (pcall dsubtract hr (pa_cons (pv 4) (pa_cons (pv 1) pa_nil))) (pa_cons (pcall dsubtract hr (pa_cons (pv 3) (pa_cons (pv 2) pa_nil))) pa_nil)))))), ?_⟩
  refine ⟨_, rfl, r, _, rfl, ht, rfl, _, _, rfl, _, _, rfl, _, _, rfl, _, _, rfl, rfl, ?_⟩
  refine ⟨_, rfl, _, rfl, _, _, t.d, t.a, 40, 40, rfl, hd, ha, zd, za, by decide, fun r1 H1 e1 h1 => ?_⟩
  refine ⟨_, rfl, _, rfl, _, _, t.c, t.b, 40, 40, rfl, hc.same e1, hb.same e1, zc, zb, by decide, fun r2 H2 e2 h2 => ?_⟩
  exact ⟨_, _, t.d - t.a, t.c - t.b, 81, 81, rfl, h1.same e2, h2, zd.sub za, zc.sub zb, by decide, fun r3 H3 e3 h3 => z _ _ (e1.trans (e2.trans e3)) h3⟩
abbrev s_plain_offset : Stmt := top 22
abbrev N_plain_offset : List Str := ["stamps", "a", "b", "c", "d"]
theorem sc_plain_offset : FnScope N_plain_offset ["stamps"] (defScope s_plain_offset) := ⟨rfl, rfl, rfl, by decide +kernel, rfl, by decide +kernel, by decide +kernel⟩
abbrev ps_plain_offset : List Str := ["stamps"]
theorem ok_plain_offset (Z : Hf K mg az) (F : Fn K mg "plain_offset" s_plain_offset ps_plain_offset f fd) (dsubtract : Def P w K mg base k "subtract" ["a", "b"] (spOp2 K (· - ·)) f1 fd1) (dadd : Def P w K mg base k "add" ["a", "b"] (spOp2 K (· + ·)) f2 fd2) (dmultiply : Def P w K mg base k "multiply" ["a", "b"] (spOp2 K (· * ·)) f3 fd3) :
    Def P w K mg base (k + 1) "plain_offset" ps_plain_offset (spT4 K plainOf) f fd := by
  refine ⟨F.F.ok sc_plain_offset (fun vs H Q E h => ?_) (fun cdv A outer s H vs Q E hr h => ?_), F.m, F.F.kp, F.b⟩
  · obtain ⟨_, _, rfl, _⟩ := h
    rfl
  obtain ⟨x, t, rfl, ⟨r, xa, xb, xc, xd, rfl, ht, ha, hb, hc, hd⟩, ⟨za, zb, zc, zd⟩, z⟩ := h
  refine ⟨_, (pss_cons (ps_asg (pv 0) (pg_tup rfl (pgs_cons (pg_name (i := 1) sc_plain_offset.nd rfl (Or.inl rfl)) (pgs_cons (pg_name (i := 2) sc_plain_offset.nd rfl (Or.inl rfl)) (pgs_cons (pg_name (i := 3) sc_plain_offset.nd rfl (Or.inl rfl)) (pgs_cons (pg_name (i := 4) sc_plain_offset.nd rfl (Or.inl rfl)) pgs_nil))))))
      (pss_one (ps_ret (pcall dmultiply hr (pa_cons (pcall dadd hr (pa_cons (pcall dsubtract hr (pa_cons (pv 2) (pa_cons (pv 1) pa_nil))) (pa_cons (pcall dsubtract hr (pa_cons (pv 3) (pa_cons (pv 4) pa_nil))) pa_nil))) (pa_cons (pe_glob (v := .ref az) (u := .ref az) (by rfl) Z.m rfl) pa_nil)))))), ?_⟩
  refine ⟨_, rfl, r, _, rfl, ht, rfl, _, _, rfl, _, _, rfl, _, _, rfl, _, _, rfl, rfl, ?_⟩
  refine ⟨_, rfl, _, rfl, _, _, t.b, t.a, 40, 40, rfl, hb, ha, zb, za, by decide, fun r1 H1 e1 h1 => ?_⟩
  refine ⟨_, rfl, _, rfl, _, _, t.c, t.d, 40, 40, rfl, hc.same e1, hd.same e1, zc, zd, by decide, fun r2 H2 e2 h2 => ?_⟩
  refine ⟨_, _, t.b - t.a, t.c - t.d, 81, 81, rfl, h1.same e2, h2, zb.sub za, zc.sub zd, by decide, fun r3 H3 e3 h3 => ?_⟩
  exact ⟨_, _, _, 1 / 2, 163, 2, rfl, h3, Z.q _, (zb.sub za).add (zc.sub zd), by decide +kernel, by decide, fun r4 H4 e4 h4 => z _ _ (e1.trans (e2.trans (e3.trans e4))) h4⟩
def spOff (K : PySem.W.Frag) : Sp := fun vs H Q _ => ∃ (x y u : V) (t : St4) (fo ba : Spn), vs = [x, y, u] ∧ T4 K H x t ∧ Z4 40 t ∧ Spq K H y fo ∧ Spq K H u ba ∧ SSz 100 fo ∧ SSz 100 ba ∧ ∀ v H', Same H H' → oSp K H' v (offO (t.b - t.a) (t.c - t.d) fo ba) → Q v H'
abbrev s_offset_span : Stmt := top 24
abbrev N_offset_span : List Str := ["stamps", "forth", "back", "a", "b", "c", "d", "from_request", "from_reply"]
theorem sc_offset_span : FnScope N_offset_span ["stamps", "forth", "back"] (defScope s_offset_span) := ⟨rfl, rfl, rfl, by decide +kernel, rfl, by decide +kernel, by decide +kernel⟩
abbrev ps_offset_span : List Str := ["stamps", "forth", "back"]
theorem ok_offset_span (F : Fn K mg "offset_span" s_offset_span ps_offset_span f fd) (dsubtract : Def P w K mg base k "subtract" ["a", "b"] (spOp2 K (· - ·)) f1 fd1) (d_negated : Def P w K mg base k "_negated" ["end"] (spNegO K) f2 fd2) (dshift : Def P w K mg base k "shift" ["span", "by"] (spShift K) f3 fd3) (dmeet : Def P w K mg base k "meet" ["a", "b"] (spMeet K) f4 fd4) :
    Def P w K mg base (k + 1) "offset_span" ps_offset_span (spOff K) f fd := by
  refine ⟨F.F.ok sc_offset_span (fun vs H Q E h => ?_) (fun cdv A outer s H vs Q E hr h => ?_), F.m, F.F.kp, F.b⟩
  · obtain ⟨_, _, _, _, _, _, rfl, _⟩ := h
    rfl
  obtain ⟨x, y, u, t, fo, ba, rfl, ⟨r, xa, xb, xc, xd, rfl, ht, ha, hb, hc, hd⟩, ⟨za, zb, zc, zd⟩, ⟨a, u1, v1, rfl, hy, hu1, hv1⟩, hba, zf, zba, z⟩ := h
  refine ⟨_, (pss_cons (ps_asg (pv 0) (pg_tup rfl (pgs_cons (pg_name (i := 3) sc_offset_span.nd rfl (Or.inl rfl)) (pgs_cons (pg_name (i := 4) sc_offset_span.nd rfl (Or.inl rfl)) (pgs_cons (pg_name (i := 5) sc_offset_span.nd rfl (Or.inl rfl)) (pgs_cons (pg_name (i := 6) sc_offset_span.nd rfl (Or.inl rfl)) pgs_nil))))))
      (pss_cons (ps_set (i := 7) sc_offset_span.nd rfl (Or.inl rfl) (pcall dshift hr (pa_cons (pe_tup (pa_cons (pcall d_negated hr (pa_cons (pe_ix ix_tup (pv 1) pe_int (fun _ _ => rfl)) pa_nil)) (pa_cons (pcall d_negated hr (pa_cons (pe_ix ix_tup (pv 1) pe_int (fun _ _ => rfl)) pa_nil)) pa_nil))) (pa_cons (pcall dsubtract hr (pa_cons (pv 4) (pa_cons (pv 3) pa_nil))) pa_nil))))
      (pss_cons (ps_set (i := 8) sc_offset_span.nd rfl (Or.inl rfl) (pcall dshift hr (pa_cons (pv 2) (pa_cons (pcall dsubtract hr (pa_cons (pv 5) (pa_cons (pv 6) pa_nil))) pa_nil))))
      (pss_one (ps_ret (pcall dmeet hr (pa_cons (pv 7) (pa_cons (pv 8) pa_nil)))))))), ?_⟩
  refine ⟨_, rfl, r, _, rfl, ht, rfl, _, _, rfl, _, _, rfl, _, _, rfl, _, _, rfl, rfl, ?_⟩
  refine ⟨_, rfl, a, _, _, _, rfl, rfl, hy, at1 rfl, _, fo.2, rfl, hv1, fun w1 H1 e1 h1 => ?_⟩
  refine ⟨_, rfl, a, _, _, _, rfl, rfl, e1.sqt hy, at0 rfl, _, fo.1, rfl, hu1.same e1, fun w2 H2 e2 h2 => ⟨sz2, fun T hT => ?_⟩⟩
  have sT := same_new hT (.tup [w1, w2])
  have e3 := (e1.trans e2).trans sT
  have hT' : Spq K (upd H2 T (.tup [w1, w2])) (.ref T) (negO fo.2, negO fo.1) := ⟨T, _, _, rfl, SqT.of upd_same, (h1.same e2).same sT, h2.same sT⟩
  generalize upd H2 T (.tup [w1, w2]) = H3 at e3 hT' ⊢
  refine ⟨_, rfl, _, rfl, _, _, t.b, t.a, 40, 40, rfl, hb.same e3, ha.same e3, zb, za, by decide, fun r1 H4 e4 h4 => ?_⟩
  refine ⟨_, _, _, t.b - t.a, 100, 81, rfl, hT'.same e4, h4, ⟨osz_neg zf.2, osz_neg zf.1⟩, zb.sub za, by decide, fun r2 H5 e5 h5 => ?_⟩
  have e345 := e3.trans (e4.trans e5)
  refine ⟨_, rfl, _, rfl, _, rfl, _, _, t.c, t.d, 40, 40, rfl, hc.same e345, hd.same e345, zc, zd, by decide, fun r3 H6 e6 h6 => ?_⟩
  refine ⟨_, _, ba, t.c - t.d, 100, 81, rfl, hba.same (e345.trans e6), h6, zba, zc.sub zd, by decide, fun r4 H7 e7 h7 => ?_⟩
  refine ⟨_, rfl, _, rfl, _, _, _, _, 182, rfl, h5.same (e6.trans e7), h7, ⟨osz_mov (osz_neg zf.2) (zb.sub za), osz_mov (osz_neg zf.1) (zb.sub za)⟩, ⟨osz_mov zba.1 (zc.sub zd), osz_mov zba.2 (zc.sub zd)⟩, by decide, fun v H8 e8 h8 => z _ _ (e345.trans (e6.trans (e7.trans e8))) h8⟩
end Vk

namespace Vk
open PySem L2 Vm Vs
variable {l az : Addr} {P : Program} {w : World} {K : PySem.W.Frag} {mg : Str → Option Value} {base : Heap} {k : Nat} {f f1 f2 f3 f4 f5 f6 f7 f8 f9 : Addr} {fd fd1 fd2 fd3 fd4 fd5 fd6 fd7 fd8 fd9 : FuncData}
abbrev s__law_spare : Stmt := top 41
abbrev N__law_spare : List Str := ["_law_store_here"]
theorem sc__law_spare : FnScope N__law_spare ["_law_store_here"] (defScope s__law_spare) := ⟨rfl, rfl, rfl, by decide +kernel, rfl, by decide +kernel, by decide +kernel⟩
abbrev ps__law_spare : List Str := ["_law_store_here"]
theorem ok_spare (F : Fn K mg "_law_spare" s__law_spare ps__law_spare f fd) (d_law_take : Def P w K mg base k "_law_take" ["_law_store_here", "_law_many"] (spTake K l) f1 fd1) (d_law_frac : Def P w K mg base k "_law_frac" ["_law_n", "_law_d"] (spFrac K) f3 fd3) : Def P w K mg base (k + 1) "_law_spare" ps__law_spare (spDraw K l 5 anyQ) f fd := by
  refine ⟨F.F.ok sc__law_spare (fun vs H Q E h => ?_) (fun cdv A outer s H vs Q E hr h => ?_), F.m, F.F.kp, F.b⟩
  · obtain ⟨_, rfl, _⟩ := h
    rfl
  obtain ⟨s, rfl, hS, z⟩ := h
  refine ⟨_, (pss_cons (ps_if (pt_cmpR op_eq (pcall d_law_take hr (pa_cons (pv 0) (pa_cons pe_int pa_nil))) pe_int (nomark _))
        (pss_one (ps_ret (pe_tup (pa_cons pe_int (pa_cons pe_int pa_nil)))))
        pss_nil)
      (pss_one (ps_ret (pcall d_law_frac hr (pa_cons (pcall d_law_take hr (pa_cons (pv 0) (pa_cons pe_int pa_nil))) (pa_cons (pe_op op_add pe_int (pcall d_law_take hr (pa_cons (pv 0) (pa_cons pe_int pa_nil)))) pa_nil)))))), ?_⟩
  refine ⟨_, rfl, s, 4, rfl, hS, by decide, fun r H1 r0 r1 S1 e1 => ?_⟩
  refine ⟨rfl, _, rfl, ifD (fun _ => ?_) (fun _ => ?_)⟩
  · exact ⟨sz2, fun t ht => z _ _ (Qd.new 0 1 0 rfl rfl (by decide) trivial) (S1.same (same_new ht _)) (e1.trans (Fr.of (same_new ht _)))⟩
  refine ⟨_, rfl, s, 25, rfl, S1, by decide, fun r2 H2 r3 r4 S2 e2 => ?_⟩
  refine ⟨_, rfl, s, 6, rfl, S2, by decide, fun r5 H3 r6 r7 S3 e3 => ⟨_, _, rfl, rfl, ?_⟩⟩
  refine ⟨_, _, 5, rfl, by omega, lt2 25 (by omega) (by decide), lt2 7 (by omega) (by decide), by decide, fun v H' e hv => z _ _ ⟨_, hv, sz_mk (by omega) ?_ ?_, trivial⟩ (S3.same e) (e1.trans (e2.trans (e3.trans (Fr.of e))))⟩
  · exact lt2 25 (by omega) (by decide)
  · have : (2 : Nat) ^ 5 = 32 := by decide
    omega
/-- a drawn span -/
def Sd (K : PySem.W.Frag) (m : Nat) (H : Hp) (v : V) : Prop := ∃ s, Spq K H v s ∧ SSz m s
theorem Sd.same {m : Nat} {H H' : Hp} {v : V} (e : Same H H') (h : Sd K m H v) : Sd K m H' v := by
  obtain ⟨q, h, r⟩ := h
  exact ⟨q, h.same e, r⟩
theorem Sd.fr {m : Nat} {s : Addr} {H H' : Hp} {v : V} (e : Fr s H H') (hs : ∃ ys, H s = some (.lst ys)) (h : Sd K m H v) : Sd K m H' v := by
  obtain ⟨q, h, r⟩ := h
  exact ⟨q, h.fr e hs, r⟩
theorem Sd.up {m j : Nat} {H : Hp} {v : V} (h : Sd K m H v) (e : m ≤ j) : Sd K j H v := by
  obtain ⟨q, h, r⟩ := h
  exact ⟨q, h, osz_up r.1 e, osz_up r.2 e⟩
theorem sd_new {m : Nat} {H : Hp} {t : Addr} {u v : V} {a b : Option Rat} (ht : H t = none) (hu : optV K H u a) (hv : optV K H v b) (za : OSz m a) (zb : OSz m b) : Sd K m (upd H t (.tup [u, v])) (.ref t) :=
  ⟨(a, b), ⟨t, u, v, rfl, SqT.of upd_same, hu.same (same_new ht _), hv.same (same_new ht _)⟩, za, zb⟩
theorem osz_none {m : Nat} : OSz m none := nofun
theorem osz_some {m : Nat} {q : Rat} (h : Sz m q) : OSz m (some q) := fun r e => by cases Option.some.inj e; exact h
def spSpan (K : PySem.W.Frag) (l : Addr) : Sp := fun vs H Q _ => ∃ (s : Addr), vs = [.ref s, .int 48] ∧ Sto l s H ∧ ∀ (v : V) H', Sd K 100 H' v → Sto l s H' → Fr s H H' → Q v H'
abbrev s__law_span : Stmt := top 42
abbrev N__law_span : List Str := ["_law_store_here", "_law_reach", "_law_sort", "_law_down", "_law_more"]
theorem sc__law_span : FnScope N__law_span ["_law_store_here", "_law_reach"] (defScope s__law_span) := ⟨rfl, rfl, rfl, by decide +kernel, rfl, by decide +kernel, by decide +kernel⟩
abbrev ps__law_span : List Str := ["_law_store_here", "_law_reach"]
theorem ok_span (F : Fn K mg "_law_span" s__law_span ps__law_span f fd) (d_law_take : Def P w K mg base k "_law_take" ["_law_store_here", "_law_many"] (spTake K l) f1 fd1) (d_law_frac : Def P w K mg base k "_law_frac" ["_law_n", "_law_d"] (spFrac K) f3 fd3) : Def P w K mg base (k + 1) "_law_span" ps__law_span (spSpan K l) f fd := by
  refine ⟨F.F.ok sc__law_span (fun vs H Q E h => ?_) (fun cdv A outer s H vs Q E hr h => ?_), F.m, F.F.kp, F.b⟩
  · obtain ⟨_, rfl, _⟩ := h
    rfl
  obtain ⟨s, rfl, hS, z⟩ := h
  refine ⟨_, (pss_cons (ps_set (i := 2) sc__law_span.nd rfl (Or.inl rfl) (pcall d_law_take hr (pa_cons (pv 0) (pa_cons pe_int pa_nil))))
      (pss_cons (ps_set (i := 3) sc__law_span.nd rfl (Or.inl rfl) (pe_op op_sub (pcall d_law_take hr (pa_cons (pv 0) (pa_cons (pe_op op_add (pe_op op_mul pe_int (pv 1)) pe_int) pa_nil))) (pv 1)))
      (pss_cons (ps_set (i := 4) sc__law_span.nd rfl (Or.inl rfl) (pe_ifExp (pt_cmpR op_lt (pv 2) pe_int (nomark _)) pe_int (pcall d_law_take hr (pa_cons (pv 0) (pa_cons (pe_op op_add (pv 1) pe_int) pa_nil)))))
      (pss_cons (ps_if (pt_cmpR op_eq (pv 2) pe_int (nomark _))
        (pss_one (ps_ret (pe_tup (pa_cons pe_non (pa_cons pe_non pa_nil)))))
        pss_nil)
      (pss_cons (ps_if (pt_cmpR op_eq (pv 2) pe_int (nomark _))
        (pss_one (ps_ret (pe_tup (pa_cons pe_non (pa_cons (pcall d_law_frac hr (pa_cons (pv 3) (pa_cons pe_int pa_nil))) pa_nil)))))
        pss_nil)
      (pss_cons (ps_if (pt_cmpR op_eq (pv 2) pe_int (nomark _))
        (pss_one (ps_ret (pe_tup (pa_cons (pcall d_law_frac hr (pa_cons (pv 3) (pa_cons pe_int pa_nil))) (pa_cons pe_non pa_nil)))))
        pss_nil)
      (pss_one (ps_ret (pe_tup (pa_cons (pcall d_law_frac hr (pa_cons (pv 3) (pa_cons pe_int pa_nil))) (pa_cons (pcall d_law_frac hr (pa_cons (pe_op op_add (pv 3) (pv 4)) (pa_cons pe_int pa_nil))) pa_nil))))))))))), ?_⟩
  refine ⟨_, rfl, s, 9, rfl, hS, by decide, fun r H1 r0 r1 S1 e1 => ?_⟩
  refine ⟨_, rfl, _, rfl, _, _, rfl, rfl, .inl ⟨by decide, by decide⟩, _, _, rfl, rfl, s, _, rfl, S1, by decide, fun r2 H2 r3 r4 S2 e2 => ⟨_, rfl, _, _, rfl, rfl, ?_⟩⟩
  have hd : (r2 - 48).natAbs ≤ 48 := by omega
  dsimp only [gName]
  refine cut (fun σ' H' => ∃ n : Int, σ' = [some (.ref s), some (.int 48), some (.int r), some (.int (r2 - 48)), some (.int n)] ∧ 0 ≤ n ∧ n ≤ 48 ∧ Sto l s H' ∧ Fr s H H') ?_ ?_
  · rintro σ H3 ⟨n, rfl, n0, n1, S3, e3⟩
    generalize r2 - 48 = d at hd ⊢
    have zz : ∀ i : Int, i.natAbs ≤ 96 → Sz 100 (mkRat i (2 : Int).toNat) := fun i hi => (sz_mk (k := 8) (by decide) (lt2 97 (by omega) (by decide)) (by decide)).mono (by decide)
    have hb : ∀ i : Int, i.natAbs ≤ 96 → i.natAbs < 2 ^ 8 := fun i hi => lt2 97 (by omega) (by decide)
    refine ⟨_, rfl, rfl, _, rfl, ifD (fun _ => ?_) (fun _ => ?_)⟩
    · exact ⟨sz2, fun t ht => z _ _ (sd_new (m := 100) (a := none) (b := none) ht rfl rfl osz_none osz_none) (S3.same (same_new ht _)) (e3.trans (Fr.of (same_new ht _)))⟩
    refine ⟨_, rfl, rfl, _, rfl, ifD (fun _ => ?_) (fun _ => ?_)⟩
    · refine ⟨_, rfl, d, 2, 8, rfl, by decide, hb d (by omega), by decide, by decide, fun v H4 e4 hv => ⟨sz2, fun t ht => ?_⟩⟩
      exact z _ _ (sd_new (m := 100) (a := none) (b := some _) ht rfl hv osz_none (osz_some (zz d (by omega)))) ((S3.same e4).same (same_new ht _)) (e3.trans ((Fr.of e4).trans (Fr.of (same_new ht _))))
    refine ⟨_, rfl, rfl, _, rfl, ifD (fun _ => ?_) (fun _ => ?_)⟩
    · refine ⟨_, rfl, d, 2, 8, rfl, by decide, hb d (by omega), by decide, by decide, fun v H4 e4 hv => ⟨sz2, fun t ht => ?_⟩⟩
      exact z _ _ (sd_new (m := 100) (a := some _) (b := none) ht hv rfl (osz_some (zz d (by omega))) osz_none) ((S3.same e4).same (same_new ht _)) (e3.trans ((Fr.of e4).trans (Fr.of (same_new ht _))))
    refine ⟨_, rfl, d, 2, 8, rfl, by decide, hb d (by omega), by decide, by decide, fun v H4 e4 hv => ?_⟩
    refine ⟨_, rfl, _, rfl, _, _, rfl, rfl, d + n, 2, 8, rfl, by decide, hb _ (by omega), by decide, by decide, fun v2 H5 e5 hv2 => ⟨sz2, fun t ht => ?_⟩⟩
    exact z _ _ (sd_new (m := 100) (a := some _) (b := some _) ht (Rq.same e5 hv) hv2 (osz_some (zz d (by omega))) (osz_some (zz _ (by omega)))) (((S3.same e4).same e5).same (same_new ht _)) (e3.trans ((Fr.of (e4.trans e5)).trans (Fr.of (same_new ht _))))
  · intro key
    refine ⟨_, rfl, _, _, rfl, rfl, _, rfl, ifD (fun _ => ?_) (fun _ => ?_)⟩
    · exact key _ _ ⟨0, rfl, by decide, by decide, S2, e1.trans e2⟩
    · exact ⟨_, rfl, _, rfl, _, _, rfl, rfl, s, _, rfl, S2, by decide, fun r5 H3 r6 r7 S3 e3 => key _ _ ⟨r5, rfl, r6, by omega, S3, e1.trans (e2.trans e3)⟩⟩
def spIn (K : PySem.W.Frag) : Sp := fun vs H Q _ => ∃ (x y : V) (s : Spn) (t : Rat) (m j : Nat), vs = [x, y] ∧ Spq K H x s ∧ Rq K H y t ∧ SSz m s ∧ Sz j t ∧ m + j + 1 ≤ 900000 ∧ Q (.bl (inS s t)) H
abbrev s__law_in_span : Stmt := top 43
abbrev N__law_in_span : List Str := ["_law_span_here", "_law_t"]
theorem sc__law_in_span : FnScope N__law_in_span ["_law_span_here", "_law_t"] (defScope s__law_in_span) := ⟨rfl, rfl, rfl, by decide +kernel, rfl, by decide +kernel, by decide +kernel⟩
abbrev ps__law_in_span : List Str := ["_law_span_here", "_law_t"]
theorem ok_in_span (F : Fn K mg "_law_in_span" s__law_in_span ps__law_in_span f fd) (d_law_below : Def P w K mg base k "_law_below" ["_law_a", "_law_b"] (spTest2 K fun p q => .bl (decide (p < q))) f1 fd1) : Def P w K mg base (k + 1) "_law_in_span" ps__law_in_span (spIn K) f fd := by
  refine ⟨F.F.ok sc__law_in_span (fun vs H Q E h => ?_) (fun cdv A outer s H vs Q E hr h => ?_), F.m, F.F.kp, F.b⟩
  · obtain ⟨_, _, _, _, _, _, rfl, _⟩ := h
    rfl
  obtain ⟨x, y, s, t, m, j, rfl, ⟨a, u, v, rfl, ha, hu, hv⟩, hy, zs, zt, hm, z⟩ := h
  refine ⟨_, (pss_cons (ps_if (PW.pt (pw_and (pt_cmpR op_notN (pe_ix ix_tup (pv 0) pe_int (fun _ _ => rfl)) pe_non (nomark _)) (pw_and1 (pt_val (pcall d_law_below hr (pa_cons (pv 1) (pa_cons (pe_ix ix_tup (pv 0) pe_int (fun _ _ => rfl)) pa_nil)))))))
        (pss_one (ps_ret pe_bl))
        pss_nil)
      (pss_one (ps_ret (pe_or (pe_cmpR op_isN (pe_ix ix_tup (pv 0) pe_int (fun _ _ => rfl)) pe_non (nomark _)) (pe_one (pe_not (pcall d_law_below hr (pa_cons (pe_ix ix_tup (pv 0) pe_int (fun _ _ => rfl)) (pa_cons (pv 1) pa_nil))))))))), ?_⟩
  obtain ⟨lo, hi⟩ := s
  dsimp only at hu hv
  have hz : ∀ b, b = inS (lo, hi) t → Q (.bl b) H := fun b e => e ▸ z
  refine ⟨_, rfl, a, _, _, _, rfl, rfl, ha, at0 rfl, rfl, _, rfl, ?_⟩
  have tail : aboveO lo t = true → _ := fun (e : aboveO lo t = true) => (show ∀ b, b = belowO hi t → Q (.bl b) H from fun b e2 => hz b (by rw [e2]; unfold inS; rw [e]; rfl))
  cases lo with
  | none =>
    cases (show u = .non from hu)
    refine ifF rfl (ifF rfl ?_)
    have tail := tail rfl
    refine ⟨_, rfl, a, _, _, _, rfl, rfl, ha, at1 rfl, rfl, ?_⟩
    cases hi with
    | none =>
      cases (show v = .non from hv)
      exact ⟨_, rfl, ifT rfl (tail _ rfl)⟩
    | some q =>
      have hv : Rq K H v q := hv
      obtain ⟨b, rfl, _⟩ := id hv
      refine ⟨_, rfl, ifF rfl ?_⟩
      refine ⟨_, rfl, a, _, _, _, rfl, rfl, ha, at1 rfl, _, rfl, _, _, q, t, m, j, rfl, hv, hy, zs.2 _ rfl, zt, hm, _, rfl, tail _ rfl⟩
  | some p =>
    have hu : Rq K H u p := hu
    obtain ⟨c, rfl, _⟩ := id hu
    refine ifT rfl ?_
    refine ⟨_, rfl, _, rfl, a, _, _, _, rfl, rfl, ha, at0 rfl, _, _, t, p, j, m, rfl, hy, hu, zt, zs.1 _ rfl, by omega, _, rfl, ifD (fun g => ?_) (fun g => ?_)⟩
    · refine hz false ?_
      unfold inS aboveO
      simp [g]
    have tail := tail (by unfold aboveO; simp [g])
    refine ⟨_, rfl, a, _, _, _, rfl, rfl, ha, at1 rfl, rfl, ?_⟩
    cases hi with
    | none =>
      cases (show v = .non from hv)
      exact ⟨_, rfl, ifT rfl (tail _ rfl)⟩
    | some q =>
      have hv : Rq K H v q := hv
      obtain ⟨b, rfl, _⟩ := id hv
      refine ⟨_, rfl, ifF rfl ?_⟩
      refine ⟨_, rfl, a, _, _, _, rfl, rfl, ha, at1 rfl, _, rfl, _, _, q, t, m, j, rfl, hv, hy, zs.2 _ rfl, zt, hm, _, rfl, tail _ rfl⟩
end Vk

namespace Vk
open PySem L2 Vm Vs
variable {l az : Addr} {P : Program} {w : World} {K : PySem.W.Frag} {mg : Str → Option Value} {base : Heap} {k : Nat} {f f1 f2 f3 f4 f5 f6 f7 f8 f9 : Addr} {fd fd1 fd2 fd3 fd4 fd5 fd6 fd7 fd8 fd9 : FuncData}
abbrev s__law_probes : Stmt := top 45
abbrev N__law_probes : List Str := ["_law_spans", "_law_ends", "_law_span_here", "_law_one", "_law_row", "_law_k"]
theorem sc__law_probes : FnScope N__law_probes ["_law_spans"] (defScope s__law_probes) := ⟨rfl, rfl, rfl, by decide +kernel, rfl, by decide +kernel, by decide +kernel⟩
abbrev ps__law_probes : List Str := ["_law_spans"]
def spPrS (K : PySem.W.Frag) : Sp := fun vs H Q _ => ∃ (a : Addr) (xs : List V) (ss : List Spn) (m : Nat), vs = [.ref a] ∧ SqL K H a xs ∧ All2 (Spq K H) xs ss ∧ (∀ s ∈ ss, SSz m s) ∧ m ≤ 500 ∧ ss.length ≤ 100 ∧
  ∀ D us ts H', Same H H' → H D = none → H' D = some (.lst us) → All2 (Rq K H') us ts → (∀ t ∈ ts, Sz (m + m + 4) t) → Q (.ref D) H'
theorem ok_probesS (T : Bn mg) (F : Fn K mg "_law_probes" s__law_probes ps__law_probes f fd) (d_law_ordered : Def P w K mg base k "_law_ordered" ["_law_fracs"] (spOrd8 K) f1 fd1) (d_law_minus : Def P w K mg base k "_law_minus" ["_law_a", "_law_b"] (spOp2 K (· - ·)) f2 fd2)
    (d_law_times : Def P w K mg base k "_law_times" ["_law_a", "_law_b"] (spOp2 K (· * ·)) f3 fd3) (d_law_plus : Def P w K mg base k "_law_plus" ["_law_a", "_law_b"] (spOp2 K (· + ·)) f4 fd4) : Def P w K mg base (k + 1) "_law_probes" ps__law_probes (spPrS K) f fd := by
  refine ⟨F.F.ok sc__law_probes (fun vs H Q E h => ?_) (fun cdv A outer s H vs Q E hr h => ?_), F.m, F.F.kp, F.b⟩
  · obtain ⟨_, _, _, _, rfl, _⟩ := h
    rfl
  obtain ⟨a, xs, ss, m, rfl, hx, hq, zq, hm, hl, z⟩ := h
  refine ⟨_, (pss_cons (ps_set (i := 1) sc__law_probes.nd rfl (Or.inl rfl) (pe_lst pa_nil))
      (pss_cons (ps_for PassesOwn.never rfl (pi_list (pv 0)) (pg_name (i := 2) sc__law_probes.nd rfl (Or.inl rfl))
        (pss_one (ps_set (i := 1) sc__law_probes.nd rfl (Or.inl rfl) (pe_op op_cat (pv 1) (pe_lc (own := [("_law_one", 3)]) (g := gName 3) rfl sc__law_probes.nd (pi_tup (pv 2)) (blkOk_by (N := N__law_probes) (sc := defScope s__law_probes) (by decide +kernel)) (fun _ _ _ _ _ => pg_name (i := 3) sc__law_probes.nd rfl (Or.inl rfl)) (fun _ _ _ _ _ => pts_one (pt_cmpR op_notN (pv 3) pe_non (nomark _))) (fun _ _ _ _ _ => (pv 3)))))))
      (pss_cons (ps_set (i := 1) sc__law_probes.nd rfl (Or.inl rfl) (pcall d_law_ordered hr (pa_cons (pv 1) pa_nil)))
      (pss_cons (ps_if (pt_cmpR op_eq (pe_callB call_len_seq (by rfl) T.len_ PySem.boot_len (pa_cons (pv 1) pa_nil)) pe_int (nomark _))
        (pss_one (ps_ret (pe_lst (pa_cons (pe_tup (pa_cons pe_int (pa_cons pe_int pa_nil))) pa_nil))))
        pss_nil)
      (pss_cons (ps_set (i := 4) sc__law_probes.nd rfl (Or.inl rfl) (pe_lst (pa_cons (pcall d_law_minus hr (pa_cons (pe_ix ix_list (pv 1) pe_int (fun _ _ => rfl)) (pa_cons (pe_tup (pa_cons pe_int (pa_cons pe_int pa_nil))) pa_nil))) pa_nil)))
      (pss_cons (ps_for PassesOwn.never rfl (pi_range1 (by rfl) T.range_ (pa_cons (pe_callB call_len_seq (by rfl) T.len_ PySem.boot_len (pa_cons (pv 1) pa_nil)) pa_nil)) (pg_name (i := 5) sc__law_probes.nd rfl (Or.inl rfl))
        (pss_cons (ps_expr (pe_bm PySem.F.plainAttrs_list PySem.F.slot_list_append PySem.F.type_list_append mt_append (pv 4) (pa_cons (pe_ix ix_list (pv 1) (pv 5) (fun _ _ => rfl)) pa_nil)))
        (pss_one (ps_if (pt_cmpR op_lt (pe_op op_add (pv 5) pe_int) (pe_callB call_len_seq (by rfl) T.len_ PySem.boot_len (pa_cons (pv 1) pa_nil)) (nomark _))
          (pss_one (ps_expr (pe_bm PySem.F.plainAttrs_list PySem.F.slot_list_append PySem.F.type_list_append mt_append (pv 4) (pa_cons (pcall d_law_times hr (pa_cons (pcall d_law_plus hr (pa_cons (pe_ix ix_list (pv 1) (pv 5) (fun _ _ => rfl)) (pa_cons (pe_ix ix_list (pv 1) (pe_op op_add (pv 5) pe_int) (fun _ _ => rfl)) pa_nil))) (pa_cons (pe_tup (pa_cons pe_int (pa_cons pe_int pa_nil))) pa_nil))) pa_nil))))
          pss_nil))))
      (pss_one (ps_ret (pe_op op_cat (pv 4) (pe_lst (pa_cons (pcall d_law_plus hr (pa_cons (pe_ix ix_list (pv 1) (pe_op op_sub (pe_callB call_len_seq (by rfl) T.len_ PySem.boot_len (pa_cons (pv 1) pa_nil)) pe_int) (fun _ _ => rfl)) (pa_cons (pe_tup (pa_cons pe_int (pa_cons pe_int pa_nil))) pa_nil))) pa_nil))))))))))), ?_⟩
  have p62 : (2 : Int) ^ 62 = 4611686018427387904 := by decide
  have o1 : Sz 1 (1 : Rat) := by decide +kernel
  have zh : Sz 2 (mkRat 1 2) := by decide +kernel
  refine ⟨Nat.zero_le _, fun D0 hD0 => ?_⟩
  have s0 := same_new hD0 (.lst [])
  refine ⟨_, rfl, a, rfl, ⟨_, s0.seq hx⟩, for_list (K := K) (a := a) (xs := xs) (fun i σ G => ∃ (De : Addr) (es : List V) (qs : List Rat) (k2 k4 k5 : Option V), σ = [some (.ref a), some (.ref De), k2, none, k4, k5] ∧ Same H G ∧ G De = some (.lst es) ∧ All2 (Rq K G) es qs ∧ (∀ q ∈ qs, Sz m q) ∧ qs.length ≤ 2 * i)
    ⟨D0, [], [], none, none, none, rfl, s0, upd_same, All2.nil, nofun, Nat.le_refl _⟩ (fun i σ G _ h => by obtain ⟨_, _, _, _, _, _, _, s1, _⟩ := h; exact s1.seq hx) ?_ ?_⟩
  · rintro i x σ G hxi ⟨De, es, qs, k2, k4, k5, rfl, s1, hDe, hA, zs, hn⟩
    have hi : i < ss.length := by rw [← hq.1]; exact (List.getElem?_eq_some_iff.mp hxi).1
    have eqi : ss[i]? = some ss[i] := List.getElem?_eq_getElem hi
    obtain ⟨b, u, v, rfl, hb, hu, hv⟩ := (hq.2 i x _ hxi eqi).same s1
    have zi := zq _ (List.getElem_mem hi)
    have hal := hA.1
    refine ⟨_, rfl, _, rfl, b, rfl, ⟨_, hb⟩, fun D hD => lc_tup (xs := [u, v]) (fun n G' => ∃ (acc : List V) (ps : List Rat), G' D = some (.lst acc) ∧ Same G G' ∧ All2 (Rq K G') acc ps ∧ (∀ q ∈ ps, Sz m q) ∧ ps.length ≤ n) ⟨[], [], upd_same, same_new hD _, All2.nil, nofun, Nat.le_refl _⟩ (fun n G' _ h => by obtain ⟨_, _, _, h, _⟩ := h; exact h.sqt hb) ?_ ?_⟩
    · rintro n x G' hxn ⟨acc, ps, hD1, s2, hP, zp, hpn⟩
      have ho : n < 2 ∧ ∃ o, optV K G x o ∧ OSz m o := by
        match n, hxn with
        | 0, h => cases h; exact ⟨by omega, _, hu, zi.1⟩
        | 1, h => cases h; exact ⟨by omega, _, hv, zi.2⟩
      obtain ⟨n2, o, hox, zo⟩ := ho
      have hpl := hP.1
      cases o with
      | none =>
        cases (show x = .non from hox)
        exact ⟨rfl, _, rfl, rfl, _, rfl, ifF rfl ⟨acc, ps, hD1, s2, hP, zp, by omega⟩⟩
      | some q =>
        have hox : Rq K G x q := hox
        obtain ⟨c, rfl, _⟩ := id hox
        refine ⟨rfl, _, rfl, rfl, _, rfl, ifT rfl ⟨_, rfl, acc, hD1, le1000 (by omega), acc ++ [.ref c], ps ++ [q], upd_same, same_upd s2 hD _, ?_, fun r hr => ?_, by simp; omega⟩⟩
        · have fr : Fr D G' (upd G' D (.lst (acc ++ [.ref c]))) := Fr.upd _
          exact (hP.imp fun _ _ h => Rq.fr fr ⟨_, hD1⟩ h).snoc ((hox.same s2).fr fr ⟨_, hD1⟩)
        · rcases List.mem_append.mp hr with hr | hr
          · exact zp r hr
          · rw [List.mem_singleton.mp hr]
            exact zo _ rfl
    · rintro G' ⟨acc, ps, hD1, s2, hP, zp, hpn⟩
      have hpl := hP.1
      have hpn : ps.length ≤ 2 := hpn
      refine ⟨De, D, es, acc, rfl, rfl, s2 _ _ hDe, hD1, Nat.le_of_lt (le1000 (by omega)), fun p hp => ?_⟩
      have s3 := same_new hp (.lst (es ++ acc))
      refine ⟨p, _, qs ++ ps, _, _, _, rfl, s1.trans (s2.trans s3), upd_same, ((hA.imp fun _ _ h => (h.same s2).same s3).append (hP.imp fun _ _ h => h.same s3)), fun r hr => ?_, by simp; omega⟩
      rcases List.mem_append.mp hr with hr | hr
      · exact zs r hr
      · exact zp r hr
  · rintro σ G ⟨De, es, qs, k2, k4, k5, rfl, s1, hDe, hA, zs, hn⟩
    rw [hq.1] at hn
    refine ⟨_, rfl, De, es, qs, m, rfl, SqL.of hDe, hA, zs, by omega, by omega, fun Do uo os G1 e1 hDo hDo' hO asc sub len all => ?_⟩
    have s2 := s1.trans e1
    have lo := hO.1
    have zo : ∀ o ∈ os, Sz m o := fun o ho => zs o (sub o ho)
    refine ⟨_, rfl, Do, _, rfl, .inl (SqL.of hDo'), rfl, _, rfl, ifD (fun e => ?_) (fun e => ?_)⟩
    · refine ⟨sz2, fun t ht => ⟨sm1, fun p hp => ?_⟩⟩
      have st := same_new ht (.tup [.int 0, .int 1])
      have sp := same_new hp (.lst [.ref t])
      have s3 := (s2.trans st).trans sp
      refine z p _ [0] _ s3 ?_ upd_same (All2.one (Rq.same sp (rq_new 0 1 0 (by decide +kernel) (by decide +kernel)))) (fun t ht => ?_)
      · cases q : H p with
        | none => rfl
        | some o => have := (s2.trans st) _ _ q; rw [hp] at this; cases this
      · rw [List.mem_singleton.mp ht]
        exact (show Sz 1 (0 : Rat) by decide +kernel).mono (by omega)
    have op : 0 < os.length := by
      cases os with
      | nil => rw [List.length_nil] at lo; exact absurd (by rw [lo]; rfl) e
      | cons _ _ => exact Nat.succ_pos _
    have eo0 : os[0]? = some os[0] := List.getElem?_eq_getElem op
    obtain ⟨y0, hy0, ry0⟩ := hO.at eo0
    refine ⟨_, rfl, Do, _, _, _, rfl, rfl, SqL.of hDo', at0 hy0, sz2, fun t1 ht1 => ?_⟩
    have st1 := same_new ht1 (.tup [.int 1, .int 1])
    have r1 : Rq K (upd G1 t1 (.tup [.int 1, .int 1])) (.ref t1) 1 := rq_new 1 1 _ (by decide +kernel) (by decide +kernel)
    refine ⟨_, _, os[0], 1, m, 1, rfl, ry0.same st1, r1, zo _ (List.getElem_mem op), o1, by omega, fun w1 G2 e2 g2 => ⟨sm1, fun Dr hDr => ?_⟩⟩
    have sr := same_new hDr (.lst [w1])
    have s3 := (st1.trans e2).trans sr
    have s4 := s2.trans s3
    have nro : Do ≠ Dr := ne_at ((st1.trans e2) _ _ hDo') hDr
    have hDrn : H Dr = none := by
      cases q : H Dr with
      | none => rfl
      | some o => have := (s2.trans (st1.trans e2)) _ _ q; rw [hDr] at this; cases this
    refine ⟨_, rfl, Do, _, rfl, .inl (SqL.of (s3 _ _ hDo')), _, rfl, by omega, by omega, for_range (n := ((uo.length : Nat) : Int).toNat) (fun i σ G => ∃ (us : List V) (ts : List Rat) (k2 k5 : Option V), σ = [some (.ref a), some (.ref Do), k2, none, some (.ref Dr), k5] ∧ Same H G ∧ G Do = some (.lst uo) ∧ All2 (Rq K G) uo os ∧ G Dr = some (.lst us) ∧ All2 (Rq K G) us ts ∧ (∀ t ∈ ts, Sz (m + m + 4) t) ∧ ts.length ≤ 1 + i + i)
      ⟨[w1], [os[0] - 1], _, _, rfl, s4, s3 _ _ hDo', hO.imp fun _ _ h => h.same s3, upd_same, All2.one (g2.same sr), fun t ht => by rw [List.mem_singleton.mp ht]; exact ((zo _ (List.getElem_mem op)).sub o1).mono (by omega), by show 1 ≤ _; omega⟩ ?_ ?_⟩
    · rintro i σ G hi ⟨us, ts, k2, k5, rfl, s5, hDo5, hO5, hDr5, hT5, zt, lt⟩
      have hi' : i < os.length := by omega
      have eoi : os[i]? = some os[i] := List.getElem?_eq_getElem hi'
      obtain ⟨yi, hyi, ryi⟩ := hO5.at eoi
      have hul := hT5.1
      refine ⟨_, rfl, .inl ⟨rfl, _, SqL.of hDr5⟩, _, rfl, _, rfl, Do, _, _, _, rfl, rfl, SqL.of hDo5, at_of (j := i) (by omega) hyi, Dr, _, _, rfl, rfl, hDr5, le1000 (by omega), ?_⟩
      have fr : Fr Dr G (upd G Dr (.lst (us ++ [yi]))) := Fr.upd _
      have s6 : Same H (upd G Dr (.lst (us ++ [yi]))) := same_upd s5 hDrn _
      have hDo6 : (upd G Dr (.lst (us ++ [yi]))) Do = some (.lst uo) := by rw [upd_ne nro]; exact hDo5
      have hO6 := hO5.imp fun _ _ h => Rq.fr fr ⟨_, hDr5⟩ h
      have hT6 := (hT5.imp fun _ _ h => Rq.fr fr ⟨_, hDr5⟩ h).snoc (ryi.fr fr ⟨_, hDr5⟩)
      have hDr6 : (upd G Dr (.lst (us ++ [yi]))) Dr = some (.lst (us ++ [yi])) := upd_same
      have zt6 : ∀ t ∈ ts ++ [os[i]], Sz (m + m + 4) t := fun t ht => by
        rcases List.mem_append.mp ht with ht | ht
        · exact zt t ht
        · rw [List.mem_singleton.mp ht]
          exact (zo _ (List.getElem_mem hi')).mono (by omega)
      have lt6 : (ts ++ [os[i]]).length ≤ 1 + i + i + 1 := by rw [List.length_append, List.length_singleton]; omega
      generalize upd G Dr (.lst (us ++ [yi])) = G6 at s6 hDo6 hO6 hT6 hDr6 ⊢
      generalize us ++ [yi] = us6 at hT6 hDr6
      generalize ts ++ [os[i]] = ts6 at hT6 zt6 lt6
      have hul6 := hT6.1
      refine ⟨_, rfl, _, _, rfl, rfl, _, rfl, Do, _, rfl, .inl (SqL.of hDo6), _, _, rfl, rfl, _, rfl, ifD (fun g => ?_) (fun g => ⟨us6, ts6, _, _, rfl, s6, hDo6, hO6, hDr6, hT6, zt6, by omega⟩)⟩
      have hi2 : i + 1 < os.length := by omega
      have eo2 : os[i + 1]? = some os[i + 1] := List.getElem?_eq_getElem hi2
      obtain ⟨y1, hy1, r11⟩ := hO6.at eoi
      obtain ⟨y2, hy2, r12⟩ := hO6.at eo2
      have zi := zo _ (List.getElem_mem hi')
      have zi2 := zo _ (List.getElem_mem hi2)
      refine ⟨_, rfl, .inl ⟨rfl, _, SqL.of hDr6⟩, _, rfl, _, rfl, Do, _, _, _, rfl, rfl, SqL.of hDo6, at_of (j := i) (by omega) hy1, _, rfl, _, rfl, _, _, rfl, rfl, Do, _, _, _, rfl, rfl, SqL.of hDo6, at_of (j := i + 1) (by omega) hy2, ?_⟩
      refine ⟨_, _, os[i], os[i + 1], m, m, rfl, r11, r12, zi, zi2, by omega, fun w2 G7 e7 g7 => ⟨sz2, fun t2 ht2 => ?_⟩⟩
      have st2 := same_new ht2 (.tup [.int 1, .int 2])
      have rh : Rq K (upd G7 t2 (.tup [.int 1, .int 2])) (.ref t2) (mkRat 1 2) := rq_new 1 2 _ (by decide +kernel) (by decide +kernel)
      refine ⟨_, _, os[i] + os[i + 1], mkRat 1 2, m + m + 1, 2, rfl, g7.same st2, rh, zi.add zi2, zh, by omega, fun w3 G8 e8 g8 => ?_⟩
      have s8 := (e7.trans st2).trans e8
      refine ⟨Dr, _, _, rfl, rfl, s8 _ _ hDr6, le1000 (by omega), ?_⟩
      have fr8 : Fr Dr G8 (upd G8 Dr (.lst (us6 ++ [w3]))) := Fr.upd _
      have hDr8 := s8 _ _ hDr6
      refine ⟨us6 ++ [w3], ts6 ++ [(os[i] + os[i + 1]) * mkRat 1 2], _, _, rfl, same_upd (s6.trans s8) hDrn _, by rw [upd_ne nro]; exact s8 _ _ hDo6, hO6.imp fun _ _ h => (h.same s8).fr fr8 ⟨_, hDr8⟩, upd_same, (hT6.imp fun _ _ h => (h.same s8).fr fr8 ⟨_, hDr8⟩).snoc (Rq.fr fr8 ⟨_, hDr8⟩ g8), fun t ht => ?_, by rw [List.length_append, List.length_singleton]; omega⟩
      rcases List.mem_append.mp ht with ht | ht
      · exact zt6 t ht
      · rw [List.mem_singleton.mp ht]
        exact ((zi.add zi2).mul zh).mono (by omega)
    · rintro σ G ⟨us, ts, k2, k5, rfl, s5, hDo5, hO5, hDr5, hT5, zt, lt⟩
      have eol : os[os.length - 1]? = some os[os.length - 1] := List.getElem?_eq_getElem (by omega)
      obtain ⟨yl, hyl, ryl⟩ := hO5.at eol
      have zl := zo _ (List.mem_of_getElem? eol)
      have hul := hT5.1
      refine ⟨_, rfl, _, rfl, _, rfl, Do, _, rfl, .inl (SqL.of hDo5), _, _, rfl, rfl, Do, _, _, _, rfl, rfl, SqL.of hDo5, at_of (j := os.length - 1) (by omega) hyl, sz2, fun t3 ht3 => ?_⟩
      have st3 := same_new ht3 (.tup [.int 1, .int 1])
      have r3 : Rq K (upd G t3 (.tup [.int 1, .int 1])) (.ref t3) 1 := rq_new 1 1 _ (by decide +kernel) (by decide +kernel)
      refine ⟨_, _, os[os.length - 1], 1, m, 1, rfl, ryl.same st3, r3, zl, o1, by omega, fun w4 G9 e9 g9 => ⟨sm1, fun D4 hD4 => ?_⟩⟩
      have s9 := (st3.trans e9).trans (same_new hD4 (.lst [w4]))
      refine ⟨Dr, D4, us, [w4], rfl, rfl, s9 _ _ hDr5, upd_same, Nat.le_of_lt (le1000 (by show us.length + 1 ≤ 1000; omega)), fun p hp => ?_⟩
      have sp := same_new hp (.lst (us ++ [w4]))
      have g9 : Rq K G9 w4 (os[os.length - 1] + 1) := g9
      refine z p (us ++ [w4]) (ts ++ [os[os.length - 1] + 1]) _ (s5.trans (s9.trans sp)) ?_ upd_same ((hT5.imp fun _ _ h => (h.same s9).same sp).snoc ((g9.same (same_new hD4 _)).same sp)) (fun t ht => ?_)
      · cases q : H p with
        | none => rfl
        | some o => have := (s5.trans s9) _ _ q; rw [hp] at this; cases this
      · rcases List.mem_append.mp ht with ht | ht
        · exact zt t ht
        · rw [List.mem_singleton.mp ht]
          exact (zl.add o1).mono (by omega)
end Vk

namespace Vk
open PySem L2 Vm Vs
variable {l az : Addr} {P : Program} {w : World} {K : PySem.W.Frag} {mg : Str → Option Value} {base : Heap} {k : Nat} {f f1 f2 f3 f4 f5 f6 f7 f8 f9 : Addr} {fd fd1 fd2 fd3 fd4 fd5 fd6 fd7 fd8 fd9 : FuncData}
abbrev s__law_is_span : Stmt := top 46
abbrev N__law_is_span : List Str := ["_law_value", "_law_one"]
theorem sc__law_is_span : FnScope N__law_is_span ["_law_value"] (defScope s__law_is_span) := ⟨rfl, rfl, rfl, by decide +kernel, rfl, by decide +kernel, by decide +kernel⟩
abbrev ps__law_is_span : List Str := ["_law_value"]
def spIsSpan (K : PySem.W.Frag) : Sp := fun vs H Q _ => ∃ (x : V) (s : Spn) (m : Nat), vs = [x] ∧ Spq K H x s ∧ SSz m s ∧ m ≤ 4000 ∧ crossed s.1 s.2 = false ∧ ∀ H', Same H H' → Q (.bl true) H'
theorem ok_is_span (T : Bn mg) (F : Fn K mg "_law_is_span" s__law_is_span ps__law_is_span f fd) (d_law_is_frac : Def P w K mg base k "_law_is_frac" ["_law_value"] (spIsFrac K) f1 fd1) (d_law_below : Def P w K mg base k "_law_below" ["_law_a", "_law_b"] (spTest2 K fun p q => .bl (decide (p < q))) f2 fd2) :
    Def P w K mg base (k + 1) "_law_is_span" ps__law_is_span (spIsSpan K) f fd := by
  refine ⟨F.F.ok sc__law_is_span (fun vs H Q E h => ?_) (fun cdv A outer s H vs Q E hr h => ?_), F.m, F.F.kp, F.b⟩
  · obtain ⟨_, _, _, rfl, _⟩ := h
    rfl
  obtain ⟨x, s, m, rfl, ⟨a, u, v, rfl, ha, hu, hv⟩, zs, hm, hc, z⟩ := h
  refine ⟨_, (pss_cons (ps_if (PW.pt (pw_or (pt_not (pt_val (pe_callB call_isi (by rfl) T.isinstance_ (by decide +kernel) (pa_cons (pv 0) (pa_cons (pe_bltn (v := .ty "tuple") (by rfl) T.tuple_ (by decide +kernel) rfl) pa_nil))))) (pw_or1 (pt_cmpR op_ne (pe_callB call_len_seq (by rfl) T.len_ PySem.boot_len (pa_cons (pv 0) pa_nil)) pe_int (nomark _)))))
        (pss_one (ps_ret pe_bl))
        pss_nil)
      (pss_cons (ps_for PassesOwn.never rfl (pi_tup (pv 0)) (pg_name (i := 1) sc__law_is_span.nd rfl (Or.inl rfl))
        (pss_one (ps_if (PW.pt (pw_and (pt_cmpR op_notN (pv 1) pe_non (nomark _)) (pw_and1 (pt_not (pt_val (pcall d_law_is_frac hr (pa_cons (pv 1) pa_nil)))))))
          (pss_one (ps_ret pe_bl))
          pss_nil)))
      (pss_one (ps_ret (pe_or (pe_cmpR op_isN (pe_ix ix_tup (pv 0) pe_int (fun _ _ => rfl)) pe_non (nomark _)) (pe_or (pe_cmpR op_isN (pe_ix ix_tup (pv 0) pe_int (fun _ _ => rfl)) pe_non (nomark _)) (pe_one (pe_not (pcall d_law_below hr (pa_cons (pe_ix ix_tup (pv 0) pe_int (fun _ _ => rfl)) (pa_cons (pe_ix ix_tup (pv 0) pe_int (fun _ _ => rfl)) pa_nil))))))))))), ?_⟩
  have ta := sqt_ty ha
  refine ⟨_, rfl, _, _, _, _, true, rfl, .ty _, ta, kit_ty (by decide +kernel), _, rfl, ifF rfl ⟨_, rfl, a, _, rfl, .inr ha, rfl, _, rfl, ifF rfl ?_⟩⟩
  refine ⟨_, rfl, a, rfl, ⟨_, ha⟩, for_tup (K := K) (a := a) (xs := [u, v]) (fun i σ G => ∃ k1, σ = [some (.ref a), k1] ∧ Same H G) ⟨none, rfl, Same.refl _⟩ (fun i σ G _ h => by obtain ⟨_, _, s1⟩ := h; exact s1.sqt ha) ?_ ?_⟩
  · rintro i x σ G hxi ⟨k1, rfl, s1⟩
    have ho : ∃ o, optV K H x o ∧ OSz m o := by
      match i, hxi with
      | 0, h => cases h; exact ⟨_, hu, zs.1⟩
      | 1, h => cases h; exact ⟨_, hv, zs.2⟩
    obtain ⟨o, hox, zo⟩ := ho
    cases o with
    | none =>
      cases (show x = .non from hox)
      exact ⟨_, rfl, rfl, _, rfl, ifF rfl (ifF rfl ⟨_, rfl, s1⟩)⟩
    | some q =>
      have hox : Rq K H x q := hox
      obtain ⟨c, rfl, _⟩ := id hox
      exact ⟨_, rfl, rfl, _, rfl, ifT rfl ⟨_, rfl, _, q, m, rfl, hox.same s1, zo _ rfl, by omega, fun G2 e2 => ⟨_, rfl, ifF rfl ⟨_, rfl, s1.trans e2⟩⟩⟩⟩
  · rintro σ G ⟨k1, rfl, s1⟩
    replace ha := s1.sqt ha
    replace hu := hu.same s1
    replace hv := hv.same s1
    refine ⟨_, rfl, a, _, _, _, rfl, rfl, ha, at0 rfl, rfl, ?_⟩
    obtain ⟨lo, hi⟩ := s
    dsimp only at hu hv hc
    cases lo with
    | none =>
      cases (show u = .non from hu)
      exact ⟨_, rfl, ifT rfl (z _ s1)⟩
    | some p =>
      have hu : Rq K G u p := hu
      obtain ⟨c, rfl, _⟩ := id hu
      refine ⟨_, rfl, ifF rfl ?_⟩
      refine ⟨_, rfl, a, _, _, _, rfl, rfl, ha, at1 rfl, rfl, ?_⟩
      cases hi with
      | none =>
        cases (show v = .non from hv)
        exact ⟨_, rfl, ifT rfl (z _ s1)⟩
      | some q =>
        have hv : Rq K G v q := hv
        obtain ⟨b, rfl, _⟩ := id hv
        refine ⟨_, rfl, ifF rfl ?_⟩
        have hc : ¬ q < p := of_decide_eq_false hc
        refine ⟨_, rfl, a, _, _, _, rfl, rfl, ha, at1 rfl, _, rfl, a, _, _, _, rfl, rfl, ha, at0 rfl, _, _, q, p, m, m, rfl, hv, hu, zs.2 _ rfl, zs.1 _ rfl, by omega, _, rfl, ?_⟩
        rw [dF hc]
        exact z _ s1
/-- drawn stamps -/
def Td (K : PySem.W.Frag) (H : Hp) (v : V) : Prop := ∃ t, T4 K H v t ∧ Z4 40 t
theorem Td.same {H H' : Hp} {v : V} (e : Same H H') (h : Td K H v) : Td K H' v := by
  obtain ⟨q, h, r⟩ := h
  exact ⟨q, h.same e, r⟩
theorem Td.fr {s : Addr} {H H' : Hp} {v : V} (e : Fr s H H') (hs : ∃ ys, H s = some (.lst ys)) (h : Td K H v) : Td K H' v := by
  obtain ⟨q, h, r⟩ := h
  exact ⟨q, h.fr e hs, r⟩
theorem td_of {H : Hp} {p : Addr} {us : List V} {qs : List Rat} (h : SqT K H p us) (A : All2 (Rq K H) us qs) (l : qs.length = 4) (z : ∀ q ∈ qs, Sz 40 q) : Td K H (.ref p) := by
  match qs, l with
  | [a, b, c, d], _ =>
    have hl := A.1
    match us, hl with
    | [x1, x2, x3, x4], _ =>
      exact ⟨⟨a, b, c, d⟩, ⟨p, x1, x2, x3, x4, rfl, h, A.2 0 _ _ rfl rfl, A.2 1 _ _ rfl rfl, A.2 2 _ _ rfl rfl, A.2 3 _ _ rfl rfl⟩, z a (by simp), z b (by simp), z c (by simp), z d (by simp)⟩
def spStamps (K : PySem.W.Frag) (l : Addr) : Sp := fun vs H Q _ => ∃ (s : Addr), vs = [.ref s] ∧ Sto l s H ∧ ∀ (v : V) H', Td K H' v → Sto l s H' → Fr s H H' → Q v H'
abbrev s__law_stamps : Stmt := top 47
abbrev N__law_stamps : List Str := ["_law_store_here", "_law_k"]
theorem sc__law_stamps : FnScope N__law_stamps ["_law_store_here"] (defScope s__law_stamps) := ⟨rfl, rfl, rfl, by decide +kernel, rfl, by decide +kernel, by decide +kernel⟩
abbrev ps__law_stamps : List Str := ["_law_store_here"]
theorem ok_stamps (T : Bn mg) (F : Fn K mg "_law_stamps" s__law_stamps ps__law_stamps f fd) (d_law_part : Def P w K mg base k "_law_part" ["_law_store_here"] (spDraw K l 5 anyQ) f1 fd1) : Def P w K mg base (k + 1) "_law_stamps" ps__law_stamps (spStamps K l) f fd := by
  refine ⟨F.F.ok sc__law_stamps (fun vs H Q E h => ?_) (fun cdv A outer s H vs Q E hr h => ?_), F.m, F.F.kp, F.b⟩
  · obtain ⟨_, rfl, _⟩ := h
    rfl
  obtain ⟨s, rfl, hS, z⟩ := h
  refine ⟨_, (pss_one (ps_ret (pe_callTy call_tuple_of (by rfl) T.tuple_ (by decide +kernel) (pa_cons (pe_lc (own := [("_law_k", 1)]) (g := gName 1) (tt := tYes) rfl sc__law_stamps.nd (pi_range1 (by rfl) T.range_ (pa_cons pe_int pa_nil)) (blkOk_by (N := N__law_stamps) (sc := defScope s__law_stamps) (by decide +kernel)) (fun _ _ _ _ _ => pg_name (i := 1) sc__law_stamps.nd rfl (Or.inl rfl)) (fun _ _ _ _ _ => pts_nil) (fun _ _ _ _ _ => (pcall d_law_part hr (pa_cons (pv 0) pa_nil)))) pa_nil)))), ?_⟩
  refine ⟨_, rfl, by decide, by decide, fun D hD => lc_range (lo := 0) (n := 4) (fun i G => ∃ (us : List V) (qs : List Rat), Bun (Rq K) l s D H us qs G ∧ qs.length = i ∧ ∀ q ∈ qs, Sz 40 q)
    ⟨[], [], Bun.start hS (Fr.refl _ _) hD, rfl, nofun⟩ ?_ ?_⟩
  · rintro i G hi ⟨us, qs, B, hl, zq⟩
    have ha : us.length ≤ 1000 := by have := B.len; omega
    refine ⟨rfl, tyes ?_⟩
    refine ⟨_, rfl, s, rfl, B.1, fun v G1 qv S' e' => ?_⟩
    obtain ⟨q, rq, zq1, _⟩ := qv
    have B1 := B.fr lastsQ e' S'
    refine ⟨us, B1.at, le1000 ha, _, _, B1.app lastsQ rq, by rw [List.length_append, hl]; rfl, fun x hx => ?_⟩
    rcases List.mem_append.mp hx with hx | hx
    · exact zq x hx
    · rw [List.mem_singleton.mp hx]
      exact zq1.mono (by decide)
  rintro G0 ⟨us, qs, B, hl, zq⟩
  refine ⟨D, us, rfl, .inl ⟨SqL.of B.at, fun p hp => ?_⟩⟩
  have sp := same_new hp (.tup us)
  exact z _ _ (td_of (SqT.of upd_same) (B.all.imp fun _ _ h => h.same sp) hl zq) (B.1.same sp) (B.2.1.trans (Fr.of sp))
/-! ### spans round a delay -/
def spRound (K : PySem.W.Frag) (l : Addr) : Sp := fun vs H Q _ => ∃ (s : Addr) (x : V) (q : Rat), vs = [.ref s, x] ∧ Sto l s H ∧ Rq K H x q ∧ Sz 87 q ∧ ∀ (v : V) H', Sd K 100 H' v → Sto l s H' → Fr s H H' → Q v H'
def Od (K : PySem.W.Frag) (m : Nat) (H : Hp) (v : V) : Prop := ∃ o, optV K H v o ∧ OSz m o
theorem Od.same {m : Nat} {H H' : Hp} {v : V} (e : Same H H') (h : Od K m H v) : Od K m H' v := by
  obtain ⟨q, h, r⟩ := h
  exact ⟨q, h.same e, r⟩
theorem Od.fr {m : Nat} {s : Addr} {H H' : Hp} {v : V} (e : Fr s H H') (hs : ∃ ys, H s = some (.lst ys)) (h : Od K m H v) : Od K m H' v := by
  obtain ⟨q, h, r⟩ := h
  exact ⟨q, h.fr e hs, r⟩
theorem Od.non {m : Nat} {H : Hp} : Od K m H .non := ⟨none, rfl, osz_none⟩
theorem Od.q {m : Nat} {H : Hp} {v : V} {q : Rat} (h : Rq K H v q) (z : Sz m q) : Od K m H v := ⟨some q, h, osz_some z⟩
abbrev s__law_round : Stmt := top 48
abbrev N__law_round : List Str := ["_law_store_here", "_law_x", "_law_span_here", "_law_by", "_law_one"]
theorem sc__law_round : FnScope N__law_round ["_law_store_here", "_law_x"] (defScope s__law_round) := ⟨rfl, rfl, rfl, by decide +kernel, rfl, by decide +kernel, by decide +kernel⟩
abbrev ps__law_round : List Str := ["_law_store_here", "_law_x"]
theorem ok_round (T : Bn mg) (F : Fn K mg "_law_round" s__law_round ps__law_round f fd) (d_law_pick : Def P w K mg base k "_law_pick" ["_law_store_here", "_law_things"] (spPick K l) f1 fd1) (d_law_minus : Def P w K mg base k "_law_minus" ["_law_a", "_law_b"] (spOp2 K (· - ·)) f2 fd2) (d_law_spare : Def P w K mg base k "_law_spare" ["_law_store_here"] (spDraw K l 5 anyQ) f3 fd3)
    (d_law_plus : Def P w K mg base k "_law_plus" ["_law_a", "_law_b"] (spOp2 K (· + ·)) f4 fd4) (d_law_part : Def P w K mg base k "_law_part" ["_law_store_here"] (spDraw K l 5 anyQ) f5 fd5) : Def P w K mg base (k + 1) "_law_round" ps__law_round (spRound K l) f fd := by
  refine ⟨F.F.ok sc__law_round (fun vs H Q E h => ?_) (fun cdv A outer s H vs Q E hr h => ?_), F.m, F.F.kp, F.b⟩
  · obtain ⟨_, _, _, rfl, _⟩ := h
    rfl
  obtain ⟨s, x, q, rfl, hS, hx, zq, z⟩ := h
  refine ⟨_, (pss_cons (ps_set (i := 2) sc__law_round.nd rfl (Or.inl rfl) (pe_lst (pa_cons (pcall d_law_pick hr (pa_cons (pv 0) (pa_cons (pe_lst (pa_cons pe_non (pa_cons (pv 1) (pa_cons (pcall d_law_minus hr (pa_cons (pv 1) (pa_cons (pcall d_law_spare hr (pa_cons (pv 0) pa_nil)) pa_nil))) pa_nil)))) pa_nil))) pa_nil)))
      (pss_cons (ps_expr (pe_bm PySem.F.plainAttrs_list PySem.F.slot_list_append PySem.F.type_list_append mt_append (pv 2) (pa_cons (pcall d_law_pick hr (pa_cons (pv 0) (pa_cons (pe_lst (pa_cons pe_non (pa_cons (pv 1) (pa_cons (pcall d_law_plus hr (pa_cons (pv 1) (pa_cons (pcall d_law_spare hr (pa_cons (pv 0) pa_nil)) pa_nil))) pa_nil)))) pa_nil))) pa_nil)))
      (pss_cons (ps_set (i := 3) sc__law_round.nd rfl (Or.inr rfl) (pcall d_law_pick hr (pa_cons (pv 0) (pa_cons (pe_lst (pa_cons (pe_tup (pa_cons pe_int (pa_cons pe_int pa_nil))) (pa_cons (pe_tup (pa_cons pe_int (pa_cons pe_int pa_nil))) (pa_cons (pe_tup (pa_cons pe_int (pa_cons pe_int pa_nil))) (pa_cons (pe_tup (pa_cons pe_int (pa_cons pe_int pa_nil))) (pa_cons (pe_tup (pa_cons (pe_un un_neg pe_int) (pa_cons pe_int pa_nil))) (pa_cons (pcall d_law_part hr (pa_cons (pv 0) pa_nil)) pa_nil))))))) pa_nil))))
      (pss_one (ps_ret (pe_callTy call_tuple_of (by rfl) T.tuple_ (by decide +kernel) (pa_cons (pe_lc (own := [("_law_one", 4)]) (g := gName 4) (tt := tYes) rfl sc__law_round.nd (pi_list (pv 2)) (blkOk_by (N := N__law_round) (sc := defScope s__law_round) (by decide +kernel)) (fun _ _ _ _ _ => pg_name (i := 4) sc__law_round.nd rfl (Or.inl rfl)) (fun _ _ _ _ _ => pts_nil) (fun _ _ _ _ _ => (pe_ifExp (pt_cmpR op_isN (pv 4) pe_non (nomark _)) pe_non (pcall d_law_plus hr (pa_cons (pv 4) (pa_cons (pv 3) pa_nil)))))) pa_nil))))))), ?_⟩
  -- the first end
  refine ⟨_, rfl, _, rfl, _, rfl, _, rfl, s, rfl, hS, fun v1 H1 q1 S1 e1 => ?_⟩
  obtain ⟨b1, r1, z1, _⟩ := q1
  have hx1 := hx.fr e1 hS.some
  refine ⟨_, _, q, b1, 87, 5, rfl, hx1, r1, zq, z1, by decide, fun w1 H2 e2 g1 => ⟨sm3, fun p1 hp1 => ?_⟩⟩
  have g1 : Rq K H2 w1 (q - b1) := g1
  have sp1 := same_new hp1 (.lst [.non, x, w1])
  have S2 := (S1.same e2).same sp1
  refine ⟨s, p1, _, rfl, S2, (S1.same e2).ne hp1, SqL.of upd_same, (by show 0 < 3; decide), (by show 3 < 2 ^ 32; decide), fun u1 H3 hu1 S3 e3 => ?_⟩
  have o1 : Od K 93 H3 u1 := by
    refine Od.fr e3 S2.some ?_
    simp only [List.mem_cons, List.mem_nil_iff, or_false] at hu1
    rcases hu1 with rfl | rfl | rfl
    · exact Od.non
    · exact Od.q ((hx1.same e2).same sp1) (zq.mono (by decide))
    · exact Od.q (g1.same sp1) (zq.sub z1)
  have hx3 := ((hx1.same e2).same sp1).fr e3 S2.some
  have f3 := e1.trans ((Fr.of (e2.trans sp1)).trans e3)
  refine ⟨sm1, fun D hD => ?_⟩
  have sD := same_new hD (.lst [u1])
  have S4 := S3.same sD
  have nDs := S3.ne hD
  have nDl := S3.nl hD
  have f4 := f3.trans (Fr.of sD)
  have o1 := o1.same sD
  have hx4 := hx3.same sD
  have hD4 : (upd H3 D (.lst [u1])) D = some (.lst [u1]) := upd_same
  generalize upd H3 D (.lst [u1]) = H4 at S4 f4 o1 hx4 hD4 ⊢
  -- the second end
  refine ⟨_, rfl, .inl ⟨rfl, _, SqL.of hD4⟩, _, rfl, _, rfl, _, rfl, _, rfl, s, rfl, S4, fun v2 H5 q2 S5 e5 => ?_⟩
  obtain ⟨b2, r2, z2, _⟩ := q2
  have hx5 := hx4.fr e5 S4.some
  refine ⟨_, _, q, b2, 87, 5, rfl, hx5, r2, zq, z2, by decide, fun w2 H6 e6 g2 => ⟨sm3, fun p2 hp2 => ?_⟩⟩
  have g2 : Rq K H6 w2 (q + b2) := g2
  have sp2 := same_new hp2 (.lst [.non, x, w2])
  have S6 := (S5.same e6).same sp2
  refine ⟨s, p2, _, rfl, S6, (S5.same e6).ne hp2, SqL.of upd_same, (by show 0 < 3; decide), (by show 3 < 2 ^ 32; decide), fun u2 H7 hu2 S7 e7 => ?_⟩
  have o2 : Od K 93 H7 u2 := by
    refine Od.fr e7 S6.some ?_
    simp only [List.mem_cons, List.mem_nil_iff, or_false] at hu2
    rcases hu2 with rfl | rfl | rfl
    · exact Od.non
    · exact Od.q ((hx5.same e6).same sp2) (zq.mono (by decide))
    · exact Od.q (g2.same sp2) (zq.add z2)
  have f47 := e5.trans ((Fr.of (e6.trans sp2)).trans e7)
  have hD7 := f47 _ _ hD4 nDs
  have o17 := o1.fr f47 S4.some
  refine ⟨D, _, _, rfl, rfl, hD7, le1000 (by show 1 ≤ 1000; decide), ?_⟩
  have S8 := S7.upd (o := .lst ([u1] ++ [u2])) nDs nDl
  have fD := Fr.upd (s := D) (H := H7) (.lst ([u1] ++ [u2]))
  have o18 := o17.fr fD ⟨_, hD7⟩
  have o28 := o2.fr fD ⟨_, hD7⟩
  have hDn : H D = none := f3.free hD nDs
  have f8 : Fr s H (upd H7 D (.lst ([u1] ++ [u2]))) := fun b o hb hn => by
    rw [upd_ne (ne_of_none hb hDn)]
    exact (f4.trans f47) b o hb hn
  have hD8 : (upd H7 D (.lst ([u1] ++ [u2]))) D = some (.lst [u1, u2]) := upd_same
  generalize upd H7 D (.lst ([u1] ++ [u2])) = H8 at S8 fD o18 o28 f8 hD8 ⊢
  -- by
  refine ⟨_, rfl, sz2, fun t1 h1 => ?_⟩
  have c1 := same_new h1 (.tup [.int 0, .int 1]); have q1 := Qd.new (K := K) (m := 6) (ok := anyQ) (H := H8) (t := t1) 0 1 (0) (by decide) (by decide) (by decide) trivial; generalize upd H8 t1 (.tup [.int 0, .int 1]) = G1 at c1 q1 ⊢
  refine ⟨sz2, fun t2 h2 => ?_⟩
  have c2 := same_new h2 (.tup [.int 0, .int 1]); have q2 := Qd.new (K := K) (m := 6) (ok := anyQ) (H := G1) (t := t2) 0 1 (0) (by decide) (by decide) (by decide) trivial; generalize upd G1 t2 (.tup [.int 0, .int 1]) = G2 at c2 q2 ⊢
  refine ⟨sz2, fun t3 h3 => ?_⟩
  have c3 := same_new h3 (.tup [.int 0, .int 1]); have q3 := Qd.new (K := K) (m := 6) (ok := anyQ) (H := G2) (t := t3) 0 1 (0) (by decide) (by decide) (by decide) trivial; generalize upd G2 t3 (.tup [.int 0, .int 1]) = G3 at c3 q3 ⊢
  refine ⟨sz2, fun t4 h4 => ?_⟩
  have c4 := same_new h4 (.tup [.int 1, .int 60]); have q4 := Qd.new (K := K) (m := 6) (ok := anyQ) (H := G3) (t := t4) 1 60 (mkRat 1 60) (by decide) (by decide) (by decide) trivial; generalize upd G3 t4 (.tup [.int 1, .int 60]) = G4 at c4 q4 ⊢
  refine ⟨_, rfl, sz2, fun t5 h5 => ?_⟩
  have c5 := same_new h5 (.tup [.int (-1), .int 60]); have q5 := Qd.new (K := K) (m := 6) (ok := anyQ) (H := G4) (t := t5) (-1) 60 (mkRat (-1) 60) (by decide) (by decide) (by decide) trivial; generalize upd G4 t5 (.tup [.int (-1), .int 60]) = G5 at c5 q5 ⊢
  have c15 := c1.trans (c2.trans (c3.trans (c4.trans c5)))
  have Sg := S8.same c15
  refine ⟨_, rfl, s, rfl, Sg, fun v6 G6 q6 S9 e9 => ?_⟩
  refine ⟨sm6, fun p h7 => ?_⟩
  have c7 := same_new h7 (.lst [.ref t1, .ref t2, .ref t3, .ref t4, .ref t5, v6])
  have q1' := ((q1.same (c2.trans (c3.trans (c4.trans c5)))).fr e9 Sg).same c7
  have q2' := ((q2.same (c3.trans (c4.trans c5))).fr e9 Sg).same c7
  have q3' := ((q3.same (c4.trans c5)).fr e9 Sg).same c7
  have q4' := ((q4.same c5).fr e9 Sg).same c7
  have q5' := (q5.fr e9 Sg).same c7
  obtain ⟨b6, r6, z6, _⟩ := q6
  have q6' : Qd K 6 anyQ (upd G6 p (.lst [.ref t1, .ref t2, .ref t3, .ref t4, .ref t5, v6])) v6 := ⟨b6, r6.same c7, z6.mono (by decide), trivial⟩
  have f89 := (Fr.of c15).trans (e9.trans (Fr.of c7))
  refine ⟨s, p, _, rfl, S9.same c7, S9.ne h7, SqL.of upd_same, (by show 0 < 6; decide), (by show 6 < 2 ^ 32; decide), fun v H' hv S' e' => ?_⟩
  have qv : Qd K 6 anyQ H' v := by
    refine Qd.fr e' (S9.same c7) ?_
    simp only [List.mem_cons, List.mem_nil_iff, or_false] at hv
    rcases hv with rfl | rfl | rfl | rfl | rfl | rfl <;> assumption
  obtain ⟨by', rby, zby, _⟩ := qv
  have f8' := f89.trans e'
  have hD' := f8' _ _ hD8 nDs
  have o1' := o18.fr f8' S8.some
  have o2' := o28.fr f8' S8.some
  refine ⟨_, rfl, D, rfl, ⟨_, SqL.of hD'⟩, fun D2 hD2 => lc_list (xs := [u1, u2]) (fun i G => ∃ (acc : List V), G D2 = some (.lst acc) ∧ Same H' G ∧ acc.length = i ∧ ∀ j y, acc[j]? = some y → Od K 100 G y) ⟨[], upd_same, same_new hD2 _, rfl, (show ∀ (j : Nat) (y : V), ([] : List V)[j]? = some y → Od K 100 _ y from fun j y h => by simp at h)⟩ (fun i G _ h => by obtain ⟨_, _, s1, _⟩ := h; exact SqL.of (s1 _ _ hD')) ?_ ?_⟩
  · rintro i y G hyi ⟨acc, hD3, s1, hl, hall⟩
    have hi : i < 2 := (List.getElem?_eq_some_iff.mp hyi).1
    have oy : Od K 93 G y := by
      match i, hyi with
      | 0, h => cases h; exact o1'.same s1
      | 1, h => cases h; exact o2'.same s1
    obtain ⟨o, ho, zo⟩ := oy
    have app : ∀ (yv : V) (G2 : Hp), Same G G2 → Od K 100 G2 yv → ∃ acc', G2 D2 = some (.lst acc') ∧ acc'.length < sizeLine ∧ ∃ acc, (upd G2 D2 (.lst (acc' ++ [yv]))) D2 = some (.lst acc) ∧ Same H' (upd G2 D2 (.lst (acc' ++ [yv]))) ∧ acc.length = i + 1 ∧ ∀ j y, acc[j]? = some y → Od K 100 (upd G2 D2 (.lst (acc' ++ [yv]))) y := fun yv G2 e ov => by
      have fr := Fr.upd (s := D2) (H := G2) (.lst (acc ++ [yv]))
      refine ⟨acc, e _ _ hD3, le1000 (by omega), acc ++ [yv], upd_same, same_upd (s1.trans e) hD2 _, by rw [List.length_append, hl]; rfl, fun j y' hj => ?_⟩
      by_cases g : j < acc.length
      · rw [List.getElem?_append_left g] at hj
        exact ((hall j y' hj).same e).fr fr ⟨_, e _ _ hD3⟩
      · rw [List.getElem?_append_right (by omega)] at hj
        have e0 : j - acc.length = 0 := by
          have := (List.getElem?_eq_some_iff.mp hj).1
          simp at this
          omega
        rw [e0] at hj
        cases hj
        exact ov.fr fr ⟨_, e _ _ hD3⟩
    cases o with
    | none =>
      cases (show y = .non from ho)
      exact ⟨rfl, tyes ⟨_, rfl, rfl, _, rfl, ifT rfl (app _ _ (Same.refl _) Od.non)⟩⟩
    | some q0 =>
      have ho : Rq K G y q0 := ho
      obtain ⟨c, rfl, _⟩ := id ho
      refine ⟨rfl, tyes ⟨_, rfl, rfl, _, rfl, ifF rfl ?_⟩⟩
      exact ⟨_, rfl, _, rfl, _, _, q0, by', 93, 6, rfl, ho, rby.same s1, zo _ rfl, zby, by decide, fun w3 G2 e2 g3 => app _ _ e2 (Od.q g3 ((zo _ rfl).add zby))⟩
  · rintro G ⟨acc, hD3, s1, hl, hall⟩
    match acc, hl with
    | [a1, a2], _ =>
      obtain ⟨oa, ha1, za1⟩ := hall 0 a1 rfl
      obtain ⟨ob, ha2, za2⟩ := hall 1 a2 rfl
      refine ⟨D2, _, rfl, .inl ⟨SqL.of hD3, fun t ht => ?_⟩⟩
      exact z _ _ (sd_new (m := 100) ht ha1 ha2 za1 za2) ((S'.same s1).same (same_new ht _)) (f8.trans (f8'.trans (Fr.of (s1.trans (same_new ht _)))))
def spWideS (K : PySem.W.Frag) (l : Addr) : Sp := fun vs H Q _ => ∃ (s : Addr), vs = [.ref s] ∧ Sto l s H ∧ ∀ (v : V) H', Sd K 100 H' v → Sto l s H' → Fr s H H' → Q v H'
abbrev s__law_wide_span : Stmt := top 49
abbrev N__law_wide_span : List Str := ["_law_store_here", "_law_lo", "_law_hi"]
theorem sc__law_wide_span : FnScope N__law_wide_span ["_law_store_here"] (defScope s__law_wide_span) := ⟨rfl, rfl, rfl, by decide +kernel, rfl, by decide +kernel, by decide +kernel⟩
abbrev ps__law_wide_span : List Str := ["_law_store_here"]
theorem ok_wide_span (F : Fn K mg "_law_wide_span" s__law_wide_span ps__law_wide_span f fd) (d_law_ratio : Def P w K mg base k "_law_ratio" ["_law_store_here", "_law_top"] (spRatio K l) f1 fd1) (d_law_below : Def P w K mg base k "_law_below" ["_law_a", "_law_b"] (spTest2 K fun p q => .bl (decide (p < q))) f2 fd2) (d_law_pick : Def P w K mg base k "_law_pick" ["_law_store_here", "_law_things"] (spPick K l) f3 fd3) :
    Def P w K mg base (k + 1) "_law_wide_span" ps__law_wide_span (spWideS K l) f fd := by
  refine ⟨F.F.ok sc__law_wide_span (fun vs H Q E h => ?_) (fun cdv A outer s H vs Q E hr h => ?_), F.m, F.F.kp, F.b⟩
  · obtain ⟨_, rfl, _⟩ := h
    rfl
  obtain ⟨s, rfl, hS, z⟩ := h
  refine ⟨_, (pss_cons (ps_set (i := 1) sc__law_wide_span.nd rfl (Or.inl rfl) (pcall d_law_ratio hr (pa_cons (pv 0) (pa_cons (pe_op op_sub (pe_op op_pow pe_int pe_int) pe_int) pa_nil))))
      (pss_cons (ps_set (i := 2) sc__law_wide_span.nd rfl (Or.inl rfl) (pcall d_law_ratio hr (pa_cons (pv 0) (pa_cons (pe_op op_sub (pe_op op_pow pe_int pe_int) pe_int) pa_nil))))
      (pss_cons (ps_if (pt_val (pcall d_law_below hr (pa_cons (pv 2) (pa_cons (pv 1) pa_nil))))
        (pss_one (ps_par (i := 1) (j := 2) (by rfl) sc__law_wide_span.nd rfl rfl (by decide) rfl rfl (pa_cons (pv 2) (pa_cons (pv 1) pa_nil)) (by rfl)))
        pss_nil)
      (pss_one (ps_ret (pcall d_law_pick hr (pa_cons (pv 0) (pa_cons (pe_lst (pa_cons (pe_tup (pa_cons (pv 1) (pa_cons (pv 2) pa_nil))) (pa_cons (pe_tup (pa_cons (pv 1) (pa_cons pe_non pa_nil))) (pa_cons (pe_tup (pa_cons pe_non (pa_cons (pv 2) pa_nil))) (pa_cons (pe_tup (pa_cons pe_non (pa_cons pe_non pa_nil))) pa_nil))))) pa_nil)))))))), ?_⟩
  have pw : (0 : Int) ≤ 12 ∧ (12 : Int) ≤ 1000000 ∧ (10 : Int).natAbs < 2 ^ 64 := ⟨by decide, by decide, by decide⟩
  have top : ∀ n : Int, n = 10 ^ ((12 : Int).toNat) - 1 → 1 ≤ n ∧ n < 2 ^ 40 := fun n e => by subst e; exact ⟨by decide, by decide⟩
  refine ⟨_, rfl, _, _, rfl, rfl, pw, _, _, rfl, rfl, s, _, rfl, hS, (top _ rfl).1, (top _ rfl).2, fun v1 H1 q1 S1 e1 => ?_⟩
  refine ⟨_, rfl, _, _, rfl, rfl, pw, _, _, rfl, rfl, s, _, rfl, S1, (top _ rfl).1, (top _ rfl).2, fun v2 H2 q2 S2 e2 => ?_⟩
  have q1 := q1.fr e2 S1
  obtain ⟨b1, r1, z1, _⟩ := q1
  obtain ⟨b2, r2, z2, _⟩ := q2
  dsimp only [gName]
  refine cut (fun σ' H' => ∃ x y, σ' = [some (.ref s), some x, some y] ∧ H' = H2 ∧ Qd K 40 anyQ H2 x ∧ Qd K 40 anyQ H2 y) ?_ ?_
  · rintro σ H3 ⟨x, y, rfl, rfl, ⟨bx, rx, zx, _⟩, ⟨b_y, ry, zy, _⟩⟩
    have zx := zx.mono (show 40 ≤ 100 by decide)
    have zy := zy.mono (show 40 ≤ 100 by decide)
    refine ⟨_, rfl, _, rfl, _, rfl, sz2, fun t1 h1 => ?_⟩
    have s1 := same_new h1 (.tup [x, y])
    have d1 := sd_new (m := 100) (a := some bx) (b := some b_y) h1 rx ry (osz_some zx) (osz_some zy)
    have rx := rx.same s1; have ry := ry.same s1
    generalize upd H3 t1 (.tup [x, y]) = G1 at s1 d1 rx ry ⊢
    refine ⟨_, rfl, sz2, fun t2 h2 => ?_⟩
    have s2 := same_new h2 (.tup [x, .non])
    have d2 := sd_new (m := 100) (a := some bx) (b := none) h2 rx rfl (osz_some zx) osz_none
    have d1 := d1.same s2; have ry := ry.same s2
    generalize upd G1 t2 (.tup [x, .non]) = G2 at s2 d1 d2 ry ⊢
    refine ⟨_, rfl, sz2, fun t3 h3 => ?_⟩
    have s3 := same_new h3 (.tup [.non, y])
    have d3 := sd_new (m := 100) (a := none) (b := some b_y) h3 rfl ry osz_none (osz_some zy)
    have d1 := d1.same s3; have d2 := d2.same s3
    generalize upd G2 t3 (.tup [.non, y]) = G3 at s3 d1 d2 d3 ⊢
    refine ⟨sz2, fun t4 h4 => ?_⟩
    have s4 := same_new h4 (.tup [.non, .non])
    have d4 := sd_new (m := 100) (a := none) (b := none) (u := .non) (v := .non) (K := K) h4 rfl rfl osz_none osz_none
    have d1 := d1.same s4; have d2 := d2.same s4; have d3 := d3.same s4
    generalize upd G3 t4 (.tup [.non, .non]) = G4 at s4 d1 d2 d3 d4 ⊢
    refine ⟨sm4, fun p hp => ?_⟩
    have sp := same_new hp (.lst [.ref t1, .ref t2, .ref t3, .ref t4])
    have d1 := d1.same sp; have d2 := d2.same sp; have d3 := d3.same sp; have d4 := d4.same sp
    have s14 := s1.trans (s2.trans (s3.trans s4))
    have S4 := S2.same s14
    refine ⟨s, p, _, rfl, S4.same sp, S4.ne hp, SqL.of upd_same, (by show 0 < 4; decide), (by show 4 < 2 ^ 32; decide), fun v H' hv S' e' => ?_⟩
    refine z v H' (Sd.fr e' (S4.same sp).some ?_) S' (e1.trans (e2.trans ((Fr.of (s14.trans sp)).trans e')))
    simp only [List.mem_cons, List.mem_nil_iff, or_false] at hv
    rcases hv with rfl | rfl | rfl | rfl <;> assumption
  · intro key
    refine ⟨_, rfl, _, rfl, _, _, b2, b1, 40, 40, rfl, r2, r1, z2, z1, by decide, _, rfl, ifD (fun _ => ?_) (fun _ => ?_)⟩
    · exact ⟨_, rfl, _, rfl, _, _, rfl, key _ _ ⟨_, _, rfl, rfl, ⟨_, r2, z2, trivial⟩, ⟨_, r1, z1, trivial⟩⟩⟩
    · exact key _ _ ⟨_, _, rfl, rfl, ⟨_, r1, z1, trivial⟩, ⟨_, r2, z2, trivial⟩⟩
end Vk

namespace Vk
open PySem L2 Vm Vs
variable {l az : Addr} {P : Program} {w : World} {K : PySem.W.Frag} {mg : Str → Option Value} {base : Heap} {k : Nat} {f f1 f2 f3 f4 f5 f6 f7 f8 f9 : Addr} {fd fd1 fd2 fd3 fd4 fd5 fd6 fd7 fd8 fd9 : FuncData}
/-! ### stamps and two spans, drawn -/
def D3 (K : PySem.W.Frag) (H : Hp) (x : V) : Prop := ∃ r xr x1 x2, x = .ref r ∧ SqT K H r [xr, x1, x2] ∧ Td K H xr ∧ Sd K 100 H x1 ∧ Sd K 100 H x2
theorem D3.same {H H' : Hp} {x : V} (e : Same H H') (h : D3 K H x) : D3 K H' x := by
  obtain ⟨r, xr, x1, x2, rfl, h, h1, h2, h3⟩ := h
  exact ⟨r, xr, x1, x2, rfl, e.sqt h, h1.same e, h2.same e, h3.same e⟩
theorem D3.fr {s : Addr} {H H' : Hp} {x : V} (e : Fr s H H') (hs : ∃ ys, H s = some (.lst ys)) (h : D3 K H x) : D3 K H' x := by
  obtain ⟨r, xr, x1, x2, rfl, h, h1, h2, h3⟩ := h
  exact ⟨r, xr, x1, x2, rfl, sqt_fr e hs h, h1.fr e hs, h2.fr e hs, h3.fr e hs⟩
theorem d3_new {H : Hp} {t : Addr} {a b c : V} (ht : H t = none) (h1 : Td K H a) (h2 : Sd K 100 H b) (h3 : Sd K 100 H c) : D3 K (upd H t (.tup [a, b, c])) (.ref t) :=
  ⟨t, a, b, c, rfl, SqT.of upd_same, h1.same (same_new ht _), h2.same (same_new ht _), h3.same (same_new ht _)⟩
def spD3 (K : PySem.W.Frag) (l : Addr) : Sp := fun vs H Q _ => ∃ (s : Addr), vs = [.ref s] ∧ Sto l s H ∧ ∀ (v : V) H', D3 K H' v → Sto l s H' → Fr s H H' → Q v H'
abbrev s__law_drawn : Stmt := top 50
abbrev N__law_drawn : List Str := ["_law_store_here", "_law_sort", "_law_readings", "_law_k", "_law_f", "_law_there", "_law_home"]
theorem sc__law_drawn : FnScope N__law_drawn ["_law_store_here"] (defScope s__law_drawn) := ⟨rfl, rfl, rfl, by decide +kernel, rfl, by decide +kernel, by decide +kernel⟩
abbrev ps__law_drawn : List Str := ["_law_store_here"]
theorem ok_drawn (T : Bn mg) (F : Fn K mg "_law_drawn" s__law_drawn ps__law_drawn f fd) (d_law_take : Def P w K mg base k "_law_take" ["_law_store_here", "_law_many"] (spTake K l) f1 fd1) (d_law_ratio : Def P w K mg base k "_law_ratio" ["_law_store_here", "_law_top"] (spRatio K l) f2 fd2) (d_law_wide_span : Def P w K mg base k "_law_wide_span" ["_law_store_here"] (spWideS K l) f3 fd3)
    (d_law_span : Def P w K mg base k "_law_span" ["_law_store_here", "_law_reach"] (spSpan K l) f4 fd4) (d_law_stamps : Def P w K mg base k "_law_stamps" ["_law_store_here"] (spStamps K l) f5 fd5) (d_law_part : Def P w K mg base k "_law_part" ["_law_store_here"] (spDraw K l 5 anyQ) f6 fd6)
    (d_law_minus : Def P w K mg base k "_law_minus" ["_law_a", "_law_b"] (spOp2 K (· - ·)) f7 fd7) (d_law_plus : Def P w K mg base k "_law_plus" ["_law_a", "_law_b"] (spOp2 K (· + ·)) f8 fd8) (d_law_round : Def P w K mg base k "_law_round" ["_law_store_here", "_law_x"] (spRound K l) f9 fd9) :
    Def P w K mg base (k + 1) "_law_drawn" ps__law_drawn (spD3 K l) f fd := by
  refine ⟨F.F.ok sc__law_drawn (fun vs H Q E h => ?_) (fun cdv A outer s H vs Q E hr h => ?_), F.m, F.F.kp, F.b⟩
  · obtain ⟨_, rfl, _⟩ := h
    rfl
  obtain ⟨s, rfl, hS, z⟩ := h
  refine ⟨_, (pss_cons (ps_set (i := 1) sc__law_drawn.nd rfl (Or.inl rfl) (pcall d_law_take hr (pa_cons (pv 0) (pa_cons pe_int pa_nil))))
      (pss_cons (ps_if (pt_cmpR op_eq (pv 1) pe_int (nomark _))
        (pss_cons (ps_set (i := 2) sc__law_drawn.nd rfl (Or.inl rfl) (pe_callTy call_tuple_of (by rfl) T.tuple_ (by decide +kernel) (pa_cons (pe_lc (own := [("_law_k", 3)]) (g := gName 3) (tt := tYes) rfl sc__law_drawn.nd (pi_range1 (by rfl) T.range_ (pa_cons pe_int pa_nil)) (blkOk_by (N := N__law_drawn) (sc := defScope s__law_drawn) (by decide +kernel)) (fun _ _ _ _ _ => pg_name (i := 3) sc__law_drawn.nd rfl (Or.inl rfl)) (fun _ _ _ _ _ => pts_nil) (fun _ _ _ _ _ => (pcall d_law_ratio hr (pa_cons (pv 0) (pa_cons (pe_op op_sub (pe_op op_pow pe_int pe_int) pe_int) pa_nil))))) pa_nil)))
        (pss_one (ps_ret (pe_tup (pa_cons (pv 2) (pa_cons (pcall d_law_wide_span hr (pa_cons (pv 0) pa_nil)) (pa_cons (pcall d_law_wide_span hr (pa_cons (pv 0) pa_nil)) pa_nil)))))))
        pss_nil)
      (pss_cons (ps_if (pt_cmpR op_eq (pv 1) pe_int (nomark _))
        (pss_one (ps_ret (pe_tup (pa_cons (pcall d_law_stamps hr (pa_cons (pv 0) pa_nil)) (pa_cons (pcall d_law_span hr (pa_cons (pv 0) (pa_cons pe_int pa_nil))) (pa_cons (pcall d_law_span hr (pa_cons (pv 0) (pa_cons pe_int pa_nil))) pa_nil))))))
        pss_nil)
      (pss_cons (ps_set (i := 2) sc__law_drawn.nd rfl (Or.inl rfl) (pcall d_law_stamps hr (pa_cons (pv 0) pa_nil)))
      (pss_cons (ps_if (pt_cmpR op_eq (pv 1) pe_int (nomark _))
        (pss_one (ps_set (i := 2) sc__law_drawn.nd rfl (Or.inl rfl) (pe_callTy call_tuple_of (by rfl) T.tuple_ (by decide +kernel) (pa_cons (pe_lc (own := [("_law_k", 3)]) (g := gName 3) (tt := tYes) rfl sc__law_drawn.nd (pi_range1 (by rfl) T.range_ (pa_cons pe_int pa_nil)) (blkOk_by (N := N__law_drawn) (sc := defScope s__law_drawn) (by decide +kernel)) (fun _ _ _ _ _ => pg_name (i := 3) sc__law_drawn.nd rfl (Or.inl rfl)) (fun _ _ _ _ _ => pts_nil) (fun _ _ _ _ _ => (pe_tup (pa_cons (pe_op op_sub (pcall d_law_take hr (pa_cons (pv 0) (pa_cons (pe_op op_add (pe_op op_mul pe_int (pe_op op_pow pe_int pe_int)) pe_int) pa_nil))) (pe_op op_pow pe_int pe_int)) (pa_cons pe_int pa_nil))))) pa_nil))))
        pss_nil)
      (pss_cons (ps_set (i := 4) sc__law_drawn.nd rfl (Or.inl rfl) (pcall d_law_part hr (pa_cons (pv 0) pa_nil)))
      (pss_cons (ps_set (i := 5) sc__law_drawn.nd rfl (Or.inl rfl) (pcall d_law_minus hr (pa_cons (pcall d_law_minus hr (pa_cons (pe_ix ix_tup (pv 2) pe_int (fun _ _ => rfl)) (pa_cons (pe_ix ix_tup (pv 2) pe_int (fun _ _ => rfl)) pa_nil))) (pa_cons (pv 4) pa_nil))))
      (pss_cons (ps_set (i := 6) sc__law_drawn.nd rfl (Or.inl rfl) (pcall d_law_plus hr (pa_cons (pcall d_law_minus hr (pa_cons (pe_ix ix_tup (pv 2) pe_int (fun _ _ => rfl)) (pa_cons (pe_ix ix_tup (pv 2) pe_int (fun _ _ => rfl)) pa_nil))) (pa_cons (pv 4) pa_nil))))
      (pss_one (ps_ret (pe_tup (pa_cons (pv 2) (pa_cons (pcall d_law_round hr (pa_cons (pv 0) (pa_cons (pv 5) pa_nil))) (pa_cons (pcall d_law_round hr (pa_cons (pv 0) (pa_cons (pv 6) pa_nil))) pa_nil)))))))))))))), ?_⟩
  have pw : (0 : Int) ≤ 12 ∧ (12 : Int) ≤ 1000000 ∧ (10 : Int).natAbs < 2 ^ 64 := ⟨by decide, by decide, by decide⟩
  have pw9 : (0 : Int) ≤ 9 ∧ (9 : Int) ≤ 1000000 ∧ (10 : Int).natAbs < 2 ^ 64 := ⟨by decide, by decide, by decide⟩
  have top : ∀ n : Int, n = 10 ^ ((12 : Int).toNat) - 1 → 1 ≤ n ∧ n < 2 ^ 40 := fun n e => by subst e; exact ⟨by decide, by decide⟩
  refine ⟨_, rfl, s, 5, rfl, hS, by decide, fun r H1 r0 r1 S1 e1 => ?_⟩
  refine ⟨_, rfl, rfl, _, rfl, ifD (fun _ => ?_) (fun _ => ?_)⟩
  · refine ⟨_, rfl, by decide, by decide, fun D hD => lc_range (lo := 0) (n := 4) (fun i G => ∃ (us : List V) (qs : List Rat), Bun (Rq K) l s D H us qs G ∧ qs.length = i ∧ ∀ q ∈ qs, Sz 40 q)
      ⟨[], [], Bun.start S1 e1 hD, rfl, nofun⟩ ?_ ?_⟩
    · rintro i G hi ⟨us, qs, B, hl, zq⟩
      have ha : us.length ≤ 1000 := by have := B.len; omega
      refine ⟨rfl, tyes ?_⟩
      refine ⟨_, rfl, _, _, rfl, rfl, pw, _, _, rfl, rfl, s, _, rfl, B.1, (top _ rfl).1, (top _ rfl).2, fun v G1 qv S' e' => ?_⟩
      obtain ⟨q, rq, zq1, _⟩ := qv
      have B1 := B.fr lastsQ e' S'
      refine ⟨us, B1.at, le1000 ha, _, _, B1.app lastsQ rq, by rw [List.length_append, hl]; rfl, fun x hx => ?_⟩
      rcases List.mem_append.mp hx with hx | hx
      · exact zq x hx
      · rw [List.mem_singleton.mp hx]
        exact zq1
    rintro G0 ⟨us, qs, B, hl, zq⟩
    refine ⟨D, us, rfl, .inl ⟨SqL.of B.at, fun p hp => ?_⟩⟩
    have sp := same_new hp (.tup us)
    have td := td_of (K := K) (SqT.of (upd_same (H := G0) (a := p) (o := .tup us))) (B.all.imp fun _ _ h => h.same sp) hl zq
    have S2 := B.1.same sp
    have e2 := B.2.1.trans (Fr.of sp)
    generalize upd G0 p (.tup us) = G2 at td S2 e2 ⊢
    refine ⟨_, rfl, _, rfl, s, rfl, S2, fun v1 G3 q1 S3 e3 => ⟨_, rfl, s, rfl, S3, fun v2 G4 q2 S4 e4 => ⟨sm3, fun t ht => ?_⟩⟩⟩
    exact z _ _ (d3_new ht ((td.fr e3 S2.some).fr e4 S3.some) (q1.fr e4 S3.some) q2) (S4.same (same_new ht _)) (e2.trans (e3.trans (e4.trans (Fr.of (same_new ht _)))))
  refine ⟨_, rfl, rfl, _, rfl, ifD (fun _ => ?_) (fun _ => ?_)⟩
  · refine ⟨_, rfl, s, rfl, S1, fun v0 G2 td S2 e2 => ⟨_, rfl, s, rfl, S2, fun v1 G3 q1 S3 e3 => ⟨_, rfl, s, rfl, S3, fun v2 G4 q2 S4 e4 => ⟨sm3, fun t ht => ?_⟩⟩⟩⟩
    exact z _ _ (d3_new ht ((td.fr e3 S2.some).fr e4 S3.some) (q1.fr e4 S3.some) q2) (S4.same (same_new ht _)) (e1.trans (e2.trans (e3.trans (e4.trans (Fr.of (same_new ht _))))))
  refine ⟨_, rfl, s, rfl, S1, fun v0 H2 td S2 e2 => ?_⟩
  dsimp only [gName]
  refine cut (fun σ' H' => ∃ v kk, σ' = [some (.ref s), some (.int r), some v, kk, none, none, none] ∧ Td K H' v ∧ Sto l s H' ∧ Fr s H H') ?_ ?_
  · rintro σ H3 ⟨v, kk, rfl, ⟨t, ⟨a, xa, xb, xc, xd, rfl, ht, ha, hb, hc, hd⟩, zt⟩, S3, e3⟩
    obtain ⟨za, zb, zc, zd⟩ := id zt
    refine ⟨_, rfl, s, rfl, S3, fun fv H4 qf S4 e4 => ?_⟩
    obtain ⟨q, rf, zf, _⟩ := qf
    have ss := S3.some
    replace ht := sqt_fr e4 ss ht
    replace ha := ha.fr e4 ss; replace hb := hb.fr e4 ss; replace hc := hc.fr e4 ss; replace hd := hd.fr e4 ss
    refine ⟨_, rfl, a, _, _, _, rfl, rfl, ht, at1 rfl, _, rfl, a, _, _, _, rfl, rfl, ht, at0 rfl, ?_⟩
    refine ⟨_, _, t.b, t.a, 40, 40, rfl, hb, ha, zb, za, by decide, fun w1 H5 e5 h5 => ?_⟩
    refine ⟨_, rfl, _, _, t.b - t.a, q, 81, 5, rfl, h5, rf.same e5, zb.sub za, zf, by decide, fun w2 H6 e6 h6 => ?_⟩
    have e46 := e5.trans e6
    refine ⟨_, rfl, a, _, _, _, rfl, rfl, e46.sqt ht, atI_nat (j := 3) rfl, _, rfl, a, _, _, _, rfl, rfl, e46.sqt ht, at2 rfl, ?_⟩
    refine ⟨_, _, t.d, t.c, 40, 40, rfl, hd.same e46, hc.same e46, zd, zc, by decide, fun w3 H7 e7 h7 => ?_⟩
    refine ⟨_, rfl, _, _, t.d - t.c, q, 81, 5, rfl, h7, rf.same (e46.trans e7), zd.sub zc, zf, by decide, fun w4 H8 e8 h8 => ?_⟩
    have e48 := e46.trans (e7.trans e8)
    have td8 : Td K H8 (.ref a) := ⟨t, ⟨a, xa, xb, xc, xd, rfl, e48.sqt ht, ha.same e48, hb.same e48, hc.same e48, hd.same e48⟩, zt⟩
    have S8 := S4.same e48
    have h6' : Rq K H8 w2 ((t.b - t.a) - q) := Rq.same (e7.trans e8) h6
    refine ⟨_, rfl, _, rfl, _, rfl, s, _, _, rfl, S8, h6', (zb.sub za).sub zf, fun v1 G3 q1 S9 e9 => ?_⟩
    have h8' : Rq K G3 w4 ((t.d - t.c) + q) := Rq.fr e9 S8.some h8
    refine ⟨_, rfl, _, rfl, s, _, _, rfl, S9, h8', (zd.sub zc).add zf, fun v2 G4 q2 S10 e10 => ⟨sm3, fun t2 ht2 => ?_⟩⟩
    exact z _ _ (d3_new ht2 ((td8.fr e9 S8.some).fr e10 S9.some) (q1.fr e10 S9.some) q2) (S10.same (same_new ht2 _)) (e3.trans (e4.trans ((Fr.of e48).trans (e9.trans (e10.trans (Fr.of (same_new ht2 _)))))))
  · intro key
    refine ⟨_, rfl, rfl, _, rfl, ifD (fun _ => ?_) (fun _ => key _ _ ⟨_, _, rfl, td, S2, e1.trans e2⟩)⟩
    have e12 := e1.trans e2
    refine ⟨_, rfl, by decide, by decide, fun D hD => lc_range (lo := 0) (n := 4) (fun i G => ∃ (us : List V) (qs : List Rat), Bun (Rq K) l s D H us qs G ∧ qs.length = i ∧ ∀ q ∈ qs, Sz 40 q)
      ⟨[], [], Bun.start S2 e12 hD, rfl, nofun⟩ ?_ ?_⟩
    · rintro i G hi ⟨us, qs, B, hl, zq⟩
      have ha : us.length ≤ 1000 := by have := B.len; omega
      have m9 : CMul 2 ((10 : Int) ^ ((9 : Int).toNat)) := .inl ⟨by decide, by decide⟩
      refine ⟨rfl, tyes ?_⟩
      refine ⟨_, rfl, _, _, rfl, rfl, pw9, _, _, rfl, rfl, m9, _, _, rfl, rfl, s, _, rfl, B.1, by decide, fun r2 G1 r3 r4 S' e' => ?_⟩
      refine ⟨_, _, rfl, rfl, pw9, _, _, rfl, rfl, sz2, fun t ht => ?_⟩
      have st := same_new ht (.tup [.int (r2 - 10 ^ ((9 : Int).toNat)), .int 1])
      have B1 := (B.fr lastsQ e' S').same lastsQ st
      have p9 : (10 : Int) ^ ((9 : Int).toNat) = 1000000000 := by decide
      have zr : (r2 - (10 : Int) ^ ((9 : Int).toNat)).natAbs < 2 ^ 40 := by
        have r4 : r2 < 2 * 10 ^ ((9 : Int).toNat) + 1 ∨ r2 = 0 := r4
        have : (2 : Nat) ^ 40 = 1099511627776 := by decide
        omega
      have rq : Rq K (upd G1 t (.tup [.int (r2 - 10 ^ ((9 : Int).toNat)), .int 1])) (.ref t) ((r2 - (10 : Int) ^ ((9 : Int).toNat) : Int) : Rat) := rq_new _ 1 _ rfl rfl
      refine ⟨us, B1.at, le1000 ha, _, _, B1.app lastsQ rq, by rw [List.length_append, hl]; rfl, fun x hx => ?_⟩
      rcases List.mem_append.mp hx with hx | hx
      · exact zq x hx
      · rw [List.mem_singleton.mp hx]
        exact ⟨zr, by show 1 < 2 ^ 40; decide⟩
    rintro G0 ⟨us, qs, B, hl, zq⟩
    refine ⟨D, us, rfl, .inl ⟨SqL.of B.at, fun p hp => ?_⟩⟩
    have sp := same_new hp (.tup us)
    exact key _ _ ⟨_, _, rfl, td_of (K := K) (SqT.of upd_same) (B.all.imp fun _ _ h => h.same sp) hl zq, B.1.same sp, B.2.1.trans (Fr.of sp)⟩
end Vk

namespace Vk
open PySem L2 Vm Vs
variable {l az : Addr} {P : Program} {w : World} {K : PySem.W.Frag} {mg : Str → Option Value} {base : Heap} {k : Nat} {f f1 f2 f3 f4 f5 f6 f7 f8 f9 : Addr} {fd fd1 fd2 fd3 fd4 fd5 fd6 fd7 fd8 fd9 : FuncData}
/-- a list of ends at D -/
structure Ends' (K : PySem.W.Frag) (m : Nat) (D : Addr) (acc : List V) (G : Hp) : Prop where
  at' : G D = some (.lst acc)
  od : ∀ (j : Nat) (y : V), acc[j]? = some y → Od K m G y
theorem Ends'.same {m : Nat} {D : Addr} {acc : List V} {G G' : Hp} (h : Ends' K m D acc G) (e : Same G G') : Ends' K m D acc G' := ⟨e _ _ h.at', fun j y g => (h.od j y g).same e⟩
theorem Ends'.app {m : Nat} {D : Addr} {acc : List V} {G : Hp} {yv : V} (h : Ends' K m D acc G) (ov : Od K m G yv) : Ends' K m D (acc ++ [yv]) (upd G D (.lst (acc ++ [yv]))) := by
  have fr := Fr.upd (s := D) (H := G) (.lst (acc ++ [yv]))
  refine ⟨upd_same, fun j y' hj => ?_⟩
  by_cases g : j < acc.length
  · rw [List.getElem?_append_left g] at hj
    exact (h.od j y' hj).fr fr ⟨_, h.at'⟩
  · rw [List.getElem?_append_right (by omega)] at hj
    have e0 : j - acc.length = 0 := by
      have := (List.getElem?_eq_some_iff.mp hj).1
      simp at this
      omega
    rw [e0] at hj
    cases hj
    exact ov.fr fr ⟨_, h.at'⟩
theorem Ends'.nil {m : Nat} {D : Addr} {G : Hp} : Ends' K m D [] (upd G D (.lst [])) := ⟨upd_same, fun j y h => by simp at h⟩
theorem ends_item {H : Hp} {u v y : V} {s : Spn} {m i : Nat} (hu : optV K H u s.1) (hv : optV K H v s.2) (zs : SSz m s) (h : [u, v][i]? = some y) : i < 2 ∧ Od K m H y := by
  match i, h with
  | 0, h => cases h; exact ⟨by omega, _, hu, zs.1⟩
  | 1, h => cases h; exact ⟨by omega, _, hv, zs.2⟩
def spOffOk (K : PySem.W.Frag) : Sp := fun vs H Q _ => ∃ (x y u v : V) (t : St4) (fo ba : Spn), vs = [x, y, u, v] ∧ T4 K H x t ∧ Z4 40 t ∧ Spq K H y fo ∧ Spq K H u ba ∧ SSz 100 fo ∧ SSz 100 ba ∧ oSp K H v (offO (t.b - t.a) (t.c - t.d) fo ba) ∧ ∀ H', Same H H' → Q (.bl true) H'
theorem all2_cons {α : Type} {R : V → α → Prop} {x : V} {p : α} {xs : List V} {c : List α} (r : R x p) (h : All2 R xs c) : All2 R (x :: xs) (p :: c) := by
  refine ⟨by simp [h.1], fun i y q a b => ?_⟩
  cases i with
  | zero => cases a; cases b; exact r
  | succ i => exact h.2 i y q a b
abbrev s__law_offsets_ok : Stmt := top 51
abbrev N__law_offsets_ok : List Str := ["_law_readings", "_law_forth", "_law_back", "_law_told", "_law_there", "_law_home", "_law_first", "_law_one", "_law_second", "_law_spans", "_law_f", "_law_permitted"]
theorem sc__law_offsets_ok : FnScope N__law_offsets_ok ["_law_readings", "_law_forth", "_law_back", "_law_told"] (defScope s__law_offsets_ok) := ⟨rfl, rfl, rfl, by decide +kernel, rfl, by decide +kernel, by decide +kernel⟩
abbrev ps__law_offsets_ok : List Str := ["_law_readings", "_law_forth", "_law_back", "_law_told"]
theorem ok_offsets_ok (F : Fn K mg "_law_offsets_ok" s__law_offsets_ok ps__law_offsets_ok f fd) (d_law_minus : Def P w K mg base k "_law_minus" ["_law_a", "_law_b"] (spOp2 K (· - ·)) f1 fd1) (d_law_is_span : Def P w K mg base k "_law_is_span" ["_law_value"] (spIsSpan K) f2 fd2) (d_law_probes : Def P w K mg base k "_law_probes" ["_law_spans"] (spPrS K) f3 fd3)
    (d_law_in_span : Def P w K mg base k "_law_in_span" ["_law_span_here", "_law_t"] (spIn K) f4 fd4) (d_law_plus : Def P w K mg base k "_law_plus" ["_law_a", "_law_b"] (spOp2 K (· + ·)) f5 fd5) :
    Def P w K mg base (k + 1) "_law_offsets_ok" ps__law_offsets_ok (spOffOk K) f fd := by
  refine ⟨F.F.ok sc__law_offsets_ok (fun vs H Q E h => ?_) (fun cdv A outer s H vs Q E hr h => ?_), F.m, F.F.kp, F.b⟩
  · obtain ⟨_, _, _, _, _, _, _, rfl, _⟩ := h
    rfl
  obtain ⟨x, y, u, tv, t, fo, ba, rfl, ⟨r, xa, xb, xc, xd, rfl, ht, ha, hb, hc, hd⟩, ⟨za, zb, zc, zd⟩, hfo, hba, zf, zba, htold, z⟩ := h
  refine ⟨_, (pss_cons (ps_set (i := 4) sc__law_offsets_ok.nd rfl (Or.inr rfl) (pcall d_law_minus hr (pa_cons (pe_ix ix_tup (pv 0) pe_int (fun _ _ => rfl)) (pa_cons (pe_ix ix_tup (pv 0) pe_int (fun _ _ => rfl)) pa_nil))))
      (pss_cons (ps_set (i := 5) sc__law_offsets_ok.nd rfl (Or.inr rfl) (pcall d_law_minus hr (pa_cons (pe_ix ix_tup (pv 0) pe_int (fun _ _ => rfl)) (pa_cons (pe_ix ix_tup (pv 0) pe_int (fun _ _ => rfl)) pa_nil))))
      (pss_cons (ps_setLc (i := 6) (own := [("_law_one", 7)]) (g := gName 7) (tt := tYes) rfl sc__law_offsets_ok.nd rfl rfl (sw_true rfl rfl rfl (by decide +kernel)) (pi_tup (pv 1)) (blkOk_by (N := N__law_offsets_ok) (sc := defScope s__law_offsets_ok) (by decide +kernel)) (fun _ _ _ _ _ => pg_name (i := 7) sc__law_offsets_ok.nd rfl (Or.inl rfl)) (fun _ _ _ _ _ => pts_nil) (fun _ _ _ _ _ => (pe_ifExp (pt_cmpR op_isN (pv 7) pe_non (nomark _)) pe_non (pcall d_law_minus hr (pa_cons (pv 4) (pa_cons (pv 7) pa_nil))))))
      (pss_cons (ps_setLc (i := 8) (own := [("_law_one", 7)]) (g := gName 7) (tt := tYes) rfl sc__law_offsets_ok.nd rfl rfl (sw_true rfl rfl rfl (by decide +kernel)) (pi_tup (pv 2)) (blkOk_by (N := N__law_offsets_ok) (sc := defScope s__law_offsets_ok) (by decide +kernel)) (fun _ _ _ _ _ => pg_name (i := 7) sc__law_offsets_ok.nd rfl (Or.inl rfl)) (fun _ _ _ _ _ => pts_nil) (fun _ _ _ _ _ => (pe_ifExp (pt_cmpR op_isN (pv 7) pe_non (nomark _)) pe_non (pcall d_law_minus hr (pa_cons (pv 7) (pa_cons (pv 5) pa_nil))))))
      (pss_cons (ps_set (i := 9) sc__law_offsets_ok.nd rfl (Or.inl rfl) (pe_lst (pa_cons (pe_tup (pa_cons (pe_ix ix_list (pv 6) pe_int (fun _ _ => rfl)) (pa_cons (pe_ix ix_list (pv 6) pe_int (fun _ _ => rfl)) pa_nil))) (pa_cons (pe_tup (pa_cons (pe_ix ix_list (pv 8) pe_int (fun _ _ => rfl)) (pa_cons (pe_ix ix_list (pv 8) pe_int (fun _ _ => rfl)) pa_nil))) pa_nil))))
      (pss_cons (ps_if (pt_cmpR op_notN (pv 3) pe_non (nomark _))
        (pss_cons (ps_if (pt_not (pt_val (pcall d_law_is_span hr (pa_cons (pv 3) pa_nil))))
          (pss_one (ps_ret pe_bl))
          pss_nil)
        (pss_one (ps_expr (pe_bm PySem.F.plainAttrs_list PySem.F.slot_list_append PySem.F.type_list_append mt_append (pv 9) (pa_cons (pv 3) pa_nil)))))
        pss_nil)
      (pss_cons (ps_for PassesOwn.never rfl (pi_list (pcall d_law_probes hr (pa_cons (pv 9) pa_nil))) (pg_name (i := 10) sc__law_offsets_ok.nd rfl (Or.inl rfl))
        (pss_cons (ps_set (i := 11) sc__law_offsets_ok.nd rfl (Or.inl rfl) (pe_and (pcall d_law_in_span hr (pa_cons (pv 1) (pa_cons (pcall d_law_minus hr (pa_cons (pv 4) (pa_cons (pv 10) pa_nil))) pa_nil))) (pe_one (pcall d_law_in_span hr (pa_cons (pv 2) (pa_cons (pcall d_law_plus hr (pa_cons (pv 5) (pa_cons (pv 10) pa_nil))) pa_nil))))))
        (pss_one (ps_if (pt_cmpR op_ne (pv 11) (pe_and (pe_cmpR op_notN (pv 3) pe_non (nomark _)) (pe_one (pcall d_law_in_span hr (pa_cons (pv 3) (pa_cons (pv 10) pa_nil))))) (nomark _))
          (pss_one (ps_ret pe_bl))
          pss_nil))))
      (pss_one (ps_ret pe_bl))))))))), ?_⟩
  refine ⟨_, rfl, r, _, _, _, rfl, rfl, ht, at1 rfl, _, rfl, r, _, _, _, rfl, rfl, ht, at0 rfl, ?_⟩
  refine ⟨_, _, t.b, t.a, 40, 40, rfl, hb, ha, zb, za, by decide, fun w1 H1 e1 h1 => ?_⟩
  refine ⟨_, rfl, r, _, _, _, rfl, rfl, e1.sqt ht, atI_nat (j := 3) rfl, _, rfl, r, _, _, _, rfl, rfl, e1.sqt ht, at2 rfl, ?_⟩
  refine ⟨_, _, t.d, t.c, 40, 40, rfl, hd.same e1, hc.same e1, zd, zc, by decide, fun w2 H2 e2 h2 => ?_⟩
  have e12 := e1.trans e2
  have h1 : Rq K H2 w1 (t.b - t.a) := h1.same e2
  have h2 : Rq K H2 w2 (t.d - t.c) := h2
  have zt : Sz 81 (t.b - t.a) := zb.sub za
  have zh : Sz 81 (t.d - t.c) := zd.sub zc
  have key := fun q => off_in (t.b - t.a) (t.c - t.d) (t.d - t.c) fo ba q (by grind)
  have told_ok : ∀ s', offO (t.b - t.a) (t.c - t.d) fo ba = some s' → SSz 182 s' ∧ crossed s'.1 s'.2 = false := fun s' e => ⟨ssz_off zt (zc.sub zd) zf zba e, off_ok e⟩
  generalize offO (t.b - t.a) (t.c - t.d) fo ba = told at htold key told_ok
  generalize t.b - t.a = there at h1 zt key
  generalize t.d - t.c = home at h2 zh key
  replace hfo := hfo.same e12; replace hba := hba.same e12; replace htold := htold.same e12
  have z2 : ∀ H', Same H2 H' → Q (.bl true) H' := fun H' e => z H' (e12.trans e)
  clear ht ha hb hc hd za zb zc zd z
  obtain ⟨fa, fu, fv, rfl, hfa, hfu, hfv⟩ := id hfo
  obtain ⟨ga, gu, gv, rfl, hga, hgu, hgv⟩ := id hba
  -- the first list of ends
  refine ⟨_, rfl, fa, rfl, ⟨_, hfa⟩, fun D1 hD1 => lc_tup (xs := [fu, fv]) (fun i G => ∃ acc, Ends' K 182 D1 acc G ∧ Same H2 G ∧ acc.length = i) ⟨[], Ends'.nil, same_new hD1 _, rfl⟩ (fun i G _ h => by obtain ⟨_, _, s1, _⟩ := h; exact s1.sqt hfa) ?_ ?_⟩
  · rintro i y' G hyi ⟨acc, A1, s1, hl⟩
    obtain ⟨i2, o, ho, zo⟩ := ends_item (hfu.same s1) (hfv.same s1) zf hyi
    cases o with
    | none =>
      cases (show y' = .non from ho)
      exact ⟨rfl, tyes ⟨_, rfl, rfl, _, rfl, ifT rfl ⟨acc, A1.at', le1000 (by omega), _, A1.app Od.non, same_upd s1 hD1 _, by rw [List.length_append, hl]; rfl⟩⟩⟩
    | some q0 =>
      have ho : Rq K G y' q0 := ho
      obtain ⟨c, rfl, _⟩ := id ho
      refine ⟨rfl, tyes ⟨_, rfl, rfl, _, rfl, ifF rfl ?_⟩⟩
      refine ⟨_, rfl, _, rfl, _, _, there, q0, 81, 100, rfl, h1.same s1, ho, zt, zo _ rfl, by decide, fun w3 G2 e2 g3 => ?_⟩
      exact ⟨acc, e2 _ _ A1.at', le1000 (by omega), _, (A1.same e2).app (Od.q g3 (zt.sub (zo _ rfl))), same_upd (s1.trans e2) hD1 _, by rw [List.length_append, hl]; rfl⟩
  rintro G1 ⟨acc1, A1, s1, hl1⟩
  -- the second one
  refine ⟨_, rfl, ga, rfl, ⟨_, s1.sqt hga⟩, fun D2 hD2 => lc_tup (xs := [gu, gv]) (fun i G => ∃ acc, Ends' K 182 D2 acc G ∧ Same G1 G ∧ acc.length = i) ⟨[], Ends'.nil, same_new hD2 _, rfl⟩ (fun i G _ h => by obtain ⟨_, _, s2, _⟩ := h; exact (s1.trans s2).sqt hga) ?_ ?_⟩
  · rintro i y' G hyi ⟨acc, A2, s2, hl⟩
    have s12 := s1.trans s2
    obtain ⟨i2, o, ho, zo⟩ := ends_item (hgu.same s12) (hgv.same s12) zba hyi
    cases o with
    | none =>
      cases (show y' = .non from ho)
      exact ⟨rfl, tyes ⟨_, rfl, rfl, _, rfl, ifT rfl ⟨acc, A2.at', le1000 (by omega), _, A2.app Od.non, same_upd s2 hD2 _, by rw [List.length_append, hl]; rfl⟩⟩⟩
    | some q0 =>
      have ho : Rq K G y' q0 := ho
      obtain ⟨c, rfl, _⟩ := id ho
      refine ⟨rfl, tyes ⟨_, rfl, rfl, _, rfl, ifF rfl ?_⟩⟩
      refine ⟨_, rfl, _, rfl, _, _, q0, home, 100, 81, rfl, ho, h2.same s12, zo _ rfl, zh, by decide, fun w3 G2 e2 g3 => ?_⟩
      exact ⟨acc, e2 _ _ A2.at', le1000 (by omega), _, (A2.same e2).app (Od.q g3 ((zo _ rfl).sub zh)), same_upd (s2.trans e2) hD2 _, by rw [List.length_append, hl]; rfl⟩
  rintro G2 ⟨acc2, A2, s2, hl2⟩
  have A1 := A1.same s2
  have s12 := s1.trans s2
  match acc1, hl1, acc2, hl2 with
  | [p1, p2], _, [p3, p4], _ =>
  obtain ⟨o1, v1, k1⟩ := A1.od 0 p1 rfl
  obtain ⟨o2, v2, k2⟩ := A1.od 1 p2 rfl
  obtain ⟨o3, v3, k3⟩ := A2.od 0 p3 rfl
  obtain ⟨o4, v4, k4⟩ := A2.od 1 p4 rfl
  -- the spans
  refine ⟨_, rfl, D1, _, _, _, rfl, rfl, SqL.of A1.at', at1 rfl, _, rfl, D1, _, _, _, rfl, rfl, SqL.of A1.at', at0 rfl, sz2, fun t1 ht1 => ?_⟩
  have st1 := same_new ht1 (.tup [p2, p1])
  refine ⟨_, rfl, D2, _, _, _, rfl, rfl, SqL.of (st1 _ _ A2.at'), at0 rfl, _, rfl, D2, _, _, _, rfl, rfl, SqL.of (st1 _ _ A2.at'), at1 rfl, sz2, fun t2 ht2 => ?_⟩
  have st2 := same_new ht2 (.tup [p3, p4])
  refine ⟨sz2, fun D hD => ?_⟩
  have st3 := same_new hD (.lst [.ref t1, .ref t2])
  have b1 : Spq K (upd G2 t1 (.tup [p2, p1])) (.ref t1) (o2, o1) := ⟨t1, _, _, rfl, SqT.of upd_same, v2.same st1, v1.same st1⟩
  have b2 : Spq K (upd (upd G2 t1 (.tup [p2, p1])) t2 (.tup [p3, p4])) (.ref t2) (o3, o4) := ⟨t2, _, _, rfl, SqT.of upd_same, (v3.same st1).same st2, (v4.same st1).same st2⟩
  have bb := all2_cons ((b1.same st2).same st3) (All2.one (b2.same st3))
  have s3 := s12.trans (st1.trans (st2.trans st3))
  have hDn : H2 D = none := by
    cases q : H2 D with
    | none => rfl
    | some o => have := (s12.trans (st1.trans st2)) _ _ q; rw [hD] at this; cases this
  have hDat : (upd (upd (upd G2 t1 (.tup [p2, p1])) t2 (.tup [p3, p4])) D (.lst [.ref t1, .ref t2])) D = some (.lst [.ref t1, .ref t2]) := upd_same
  generalize upd (upd (upd G2 t1 (.tup [p2, p1])) t2 (.tup [p3, p4])) D (.lst [.ref t1, .ref t2]) = G3 at bb s3 hDat ⊢
  dsimp only [gName]
  refine cut (fun σ' G => ∃ (k7 : Option V) (us : List V) (ss : List Spn), σ' = [some (.ref r), some (.ref fa), some (.ref ga), some tv, some w1, some w2, some (.ref D1), k7, some (.ref D2), some (.ref D), none, none] ∧ Same H2 G ∧ G D = some (.lst us) ∧ All2 (Spq K G) us ss ∧ (∀ s' ∈ ss, SSz 182 s') ∧ ss.length ≤ 3) ?_ ?_
  · rintro σ G4 ⟨k7, us, ss, rfl, s4, hD4, h4, zss, hl4⟩
    refine ⟨_, rfl, D, us, ss, 182, rfl, SqL.of hD4, h4, zss, by decide, by omega, fun Dp up ts G5 e5 hDp hDp' hts zts => ?_⟩
    have s5 := s4.trans e5
    refine ⟨Dp, rfl, ⟨_, SqL.of hDp'⟩, for_list (K := K) (a := Dp) (xs := up) (fun i σ G => ∃ (k7 k10 k11 : Option V), σ = [some (.ref r), some (.ref fa), some (.ref ga), some tv, some w1, some w2, some (.ref D1), k7, some (.ref D2), some (.ref D), k10, k11] ∧ Same G5 G) ⟨k7, none, none, rfl, Same.refl _⟩ (fun i σ G _ h => by obtain ⟨_, _, _, _, s6⟩ := h; exact SqL.of (s6 _ _ hDp')) ?_ ?_⟩
    · rintro i fv' σ G hfi ⟨k7', k10, k11, rfl, s6⟩
      have hi : i < ts.length := by rw [← hts.1]; exact (List.getElem?_eq_some_iff.mp hfi).1
      have hq := (hts.2 i fv' _ hfi (List.getElem?_eq_getElem hi)).same s6
      have zq := zts _ (List.getElem_mem hi)
      generalize ts[i] = q at hq zq
      have key := key q
      have s7 := s5.trans s6
      refine cut (fun σ' G' => σ' = [some (.ref r), some (.ref fa), some (.ref ga), some tv, some w1, some w2, some (.ref D1), k7', some (.ref D2), some (.ref D), some fv', some (.bl (inS fo (there - q) && inS ba (home + q)))] ∧ Same G G') ?_ ?_
      · rintro σ G' ⟨rfl, s8⟩
        have s9 := s7.trans s8
        have done : Same G5 G' := s6.trans s8
        refine ⟨_, rfl, ?_⟩
        rw [key]
        cases told with
        | none =>
          cases (show tv = .non from htold)
          refine ⟨_, rfl, rfl, _, rfl, ifF rfl ⟨rfl, _, rfl, ifF rfl ⟨_, _, _, rfl, done⟩⟩⟩
        | some sp =>
          have hs : Spq K H2 tv sp := htold
          obtain ⟨zsp, _⟩ := told_ok sp rfl
          have hs' := hs.same s9
          obtain ⟨ta, _, _, rfl, _⟩ := id hs
          refine ⟨_, rfl, rfl, _, rfl, ifT rfl ⟨_, rfl, _, rfl, _, _, sp, q, 182, 368, rfl, hs', hq.same s8, zsp, zq, by decide, rfl, _, rfl, ifF ?_ ⟨_, _, _, rfl, done⟩⟩⟩
          simp
      · intro key2
        refine ⟨_, rfl, _, rfl, _, rfl, _, _, there, q, 81, 368, rfl, h1.same s7, hq, zt, zq, by decide, fun w3 G6 e6 h6 => ?_⟩
        refine ⟨_, _, fo, there - q, 100, 450, rfl, hfo.same (s7.trans e6), h6, zf, zt.sub zq, by decide, _, rfl, ?_⟩
        cases eA : inS fo (there - q) with
        | false =>
          rw [eA] at key2
          exact ifF rfl (key2 _ _ ⟨rfl, e6⟩)
        | true =>
          rw [eA] at key2
          refine ifT rfl ?_
          refine ⟨_, rfl, _, rfl, _, rfl, _, _, home, q, 81, 368, rfl, h2.same (s7.trans e6), hq.same e6, zh, zq, by decide, fun w4 G7 e7 h7 => ?_⟩
          exact ⟨_, _, ba, home + q, 100, 450, rfl, hba.same (s7.trans (e6.trans e7)), h7, zba, zh.add zq, by decide, key2 _ _ ⟨rfl, e6.trans e7⟩⟩
    · rintro σ G ⟨k7', k10, k11, rfl, s6⟩
      exact z2 _ (s5.trans s6)
  · intro key2
    have zz : ∀ s' ∈ [((o2, o1) : Spn), (o3, o4)], SSz 182 s' := fun s' hs => by
      simp only [List.mem_cons, List.mem_nil_iff, or_false] at hs
      rcases hs with rfl | rfl
      · exact ⟨k2, k1⟩
      · exact ⟨k3, k4⟩
    cases told with
    | none =>
      cases (show tv = .non from htold)
      exact ⟨_, rfl, rfl, _, rfl, ifF rfl (key2 _ _ ⟨_, _, _, rfl, s3, hDat, bb, zz, by show 2 ≤ 3; decide⟩)⟩
    | some sp =>
      have hs : Spq K H2 tv sp := htold
      obtain ⟨zsp, hcr⟩ := told_ok sp rfl
      obtain ⟨ta, _, _, rfl, _⟩ := id hs
      refine ⟨_, rfl, rfl, _, rfl, ifT rfl ?_⟩
      refine ⟨_, rfl, _, sp, 182, rfl, hs.same s3, zsp, by decide, hcr, fun G4 e4 => ⟨_, rfl, ifF rfl ?_⟩⟩
      have hD4 := e4 _ _ hDat
      refine ⟨_, rfl, .inl ⟨rfl, _, SqL.of hD4⟩, _, rfl, D, _, _, rfl, rfl, hD4, le1000 (by show 2 ≤ 1000; decide), ?_⟩
      have fr := Fr.upd (s := D) (H := G4) (.lst ([.ref t1, .ref t2] ++ [.ref ta]))
      refine key2 _ _ ⟨_, _, _, rfl, same_upd (s3.trans e4) hDn _, upd_same, ((bb.imp fun _ _ h => Spq.same e4 h).imp fun _ _ h => Spq.fr fr ⟨_, hD4⟩ h).snoc ((hs.same (s3.trans e4)).fr fr ⟨_, hD4⟩), fun s' hs' => ?_, by show 3 ≤ 3; decide⟩
      rcases List.mem_append.mp hs' with hs' | hs'
      · exact zz s' hs'
      · rw [List.mem_singleton.mp hs']
        exact zsp
end Vk

namespace Vk
open PySem L2 Vm Vs
variable {l az : Addr} {P : Program} {w : World} {K : PySem.W.Frag} {mg : Str → Option Value} {base : Heap} {k : Nat} {f f1 f2 f3 f4 f5 f6 f7 f8 f9 f10 f11 : Addr} {fd fd1 fd2 fd3 fd4 fd5 fd6 fd7 fd8 fd9 fd10 fd11 : FuncData}
def spPlainOk (K : PySem.W.Frag) : Sp := fun vs H Q _ => ∃ (x y : V) (t : St4), vs = [x, y] ∧ T4 K H x t ∧ Z4 40 t ∧ Rq K H y (plainOf t) ∧ ∀ H', Same H H' → Q (.bl true) H'
theorem sz_plain {t : St4} (z : Z4 40 t) : Sz 165 (plainOf t) := by
  obtain ⟨za, zb, zc, zd⟩ := z
  exact ((zb.sub za).add (zc.sub zd)).mul (show Sz 2 (1 / 2) by decide +kernel)
abbrev s__law_plain_ok : Stmt := top 52
abbrev N__law_plain_ok : List Str := ["_law_readings", "_law_told", "_law_there"]
theorem sc__law_plain_ok : FnScope N__law_plain_ok ["_law_readings", "_law_told"] (defScope s__law_plain_ok) := ⟨rfl, rfl, rfl, by decide +kernel, rfl, by decide +kernel, by decide +kernel⟩
abbrev ps__law_plain_ok : List Str := ["_law_readings", "_law_told"]
theorem ok_plain_ok (F : Fn K mg "_law_plain_ok" s__law_plain_ok ps__law_plain_ok f fd) (d_law_is_frac : Def P w K mg base k "_law_is_frac" ["_law_value"] (spIsFrac K) f1 fd1) (d_law_minus : Def P w K mg base k "_law_minus" ["_law_a", "_law_b"] (spOp2 K (· - ·)) f2 fd2) (d_law_plus : Def P w K mg base k "_law_plus" ["_law_a", "_law_b"] (spOp2 K (· + ·)) f3 fd3) :
    Def P w K mg base (k + 1) "_law_plain_ok" ps__law_plain_ok (spPlainOk K) f fd := by
  refine ⟨F.F.ok sc__law_plain_ok (fun vs H Q E h => ?_) (fun cdv A outer s H vs Q E hr h => ?_), F.m, F.F.kp, F.b⟩
  · obtain ⟨_, _, _, rfl, _⟩ := h
    rfl
  obtain ⟨x, y, t, rfl, ⟨r, xa, xb, xc, xd, rfl, ht, ha, hb, hc, hd⟩, zt, hy, z⟩ := h
  have zp := sz_plain zt
  obtain ⟨za, zb, zc, zd⟩ := zt
  refine ⟨_, (pss_cons (ps_if (pt_not (pt_val (pcall d_law_is_frac hr (pa_cons (pv 1) pa_nil))))
        (pss_one (ps_ret pe_bl))
        pss_nil)
      (pss_cons (ps_set (i := 2) sc__law_plain_ok.nd rfl (Or.inl rfl) (pcall d_law_minus hr (pa_cons (pcall d_law_minus hr (pa_cons (pe_ix ix_tup (pv 0) pe_int (fun _ _ => rfl)) (pa_cons (pe_ix ix_tup (pv 0) pe_int (fun _ _ => rfl)) pa_nil))) (pa_cons (pv 1) pa_nil))))
      (pss_one (ps_ret (pe_cmpR (op_eqD hr.units) (pv 2) (pcall d_law_plus hr (pa_cons (pcall d_law_minus hr (pa_cons (pe_ix ix_tup (pv 0) pe_int (fun _ _ => rfl)) (pa_cons (pe_ix ix_tup (pv 0) pe_int (fun _ _ => rfl)) pa_nil))) (pa_cons (pv 1) pa_nil))) (nomark _)))))), ?_⟩
  refine ⟨_, rfl, y, plainOf t, 165, rfl, hy, zp, by decide, fun H1 e1 => ⟨_, rfl, ifF rfl ?_⟩⟩
  refine ⟨_, rfl, r, _, _, _, rfl, rfl, e1.sqt ht, at1 rfl, _, rfl, r, _, _, _, rfl, rfl, e1.sqt ht, at0 rfl, ?_⟩
  refine ⟨_, _, t.b, t.a, 40, 40, rfl, hb.same e1, ha.same e1, zb, za, by decide, fun w1 H2 e2 h2 => ?_⟩
  have e12 := e1.trans e2
  refine ⟨_, rfl, _, _, t.b - t.a, plainOf t, 81, 165, rfl, h2, hy.same e12, zb.sub za, zp, by decide, fun w2 H3 e3 h3 => ?_⟩
  have e13 := e12.trans e3
  refine ⟨_, rfl, _, rfl, r, _, _, _, rfl, rfl, e13.sqt ht, atI_nat (j := 3) rfl, _, rfl, r, _, _, _, rfl, rfl, e13.sqt ht, at2 rfl, ?_⟩
  refine ⟨_, _, t.d, t.c, 40, 40, rfl, hd.same e13, hc.same e13, zd, zc, by decide, fun w3 H4 e4 h4 => ?_⟩
  have e14 := e13.trans e4
  refine ⟨_, rfl, _, _, t.d - t.c, plainOf t, 81, 165, rfl, h4, hy.same e14, zd.sub zc, zp, by decide, fun w4 H5 e5 h5 => ?_⟩
  have h3' : Rq K H5 w2 ((t.b - t.a) - plainOf t) := Rq.same (e4.trans e5) h3
  have h5' : Rq K H5 w4 ((t.d - t.c) + plainOf t) := h5
  refine ⟨_, _, h3'.dp, h5'.dp, sh_dq _, sh_dq _, ?_⟩
  rw [eqv_dq, dT (by unfold plainOf; grind)]
  exact z _ (e14.trans e5)
def spHalfOk (K : PySem.W.Frag) : Sp := fun vs H Q _ => ∃ (x y u : V) (t : St4) (sp : Spn), vs = [x, y, u] ∧ Z4 40 t ∧ Spq K H x sp ∧ SSz 100 sp ∧ oSp K H y (offO (t.b - t.a) (t.c - t.d) sp sp) ∧ Rq K H u (plainOf t) ∧ ∀ H', Same H H' → Q (.bl true) H'
abbrev s__law_half_ok : Stmt := top 53
abbrev N__law_half_ok : List Str := ["_law_span_here", "_law_told", "_law_plain", "_law_width", "_law_f"]
theorem sc__law_half_ok : FnScope N__law_half_ok ["_law_span_here", "_law_told", "_law_plain"] (defScope s__law_half_ok) := ⟨rfl, rfl, rfl, by decide +kernel, rfl, by decide +kernel, by decide +kernel⟩
abbrev ps__law_half_ok : List Str := ["_law_span_here", "_law_told", "_law_plain"]
theorem ok_half_ok (F : Fn K mg "_law_half_ok" s__law_half_ok ps__law_half_ok f fd) (d_law_minus : Def P w K mg base k "_law_minus" ["_law_a", "_law_b"] (spOp2 K (· - ·)) f1 fd1) (d_law_below : Def P w K mg base k "_law_below" ["_law_a", "_law_b"] (spTest2 K fun p q => .bl (decide (p < q))) f2 fd2) (d_law_times : Def P w K mg base k "_law_times" ["_law_a", "_law_b"] (spOp2 K (· * ·)) f3 fd3) :
    Def P w K mg base (k + 1) "_law_half_ok" ps__law_half_ok (spHalfOk K) f fd := by
  refine ⟨F.F.ok sc__law_half_ok (fun vs H Q E h => ?_) (fun cdv A outer s H vs Q E hr h => ?_), F.m, F.F.kp, F.b⟩
  · obtain ⟨_, _, _, _, _, rfl, _⟩ := h
    rfl
  obtain ⟨x, y, u, t, sp, rfl, zt, ⟨a, su, sv, rfl, hsp, hu, hv⟩, zs, hy, hp, z⟩ := h
  have zp := sz_plain zt
  obtain ⟨za, zb, zc, zd⟩ := zt
  have zo : ∀ s', offO (t.b - t.a) (t.c - t.d) sp sp = some s' → SSz 182 s' := fun s' e => ssz_off (zb.sub za) (zc.sub zd) zs zs e
  have two : (2 : Rat).num = 2 ∧ ((2 : Rat).den : Int) = 1 ∧ Sz 2 (2 : Rat) := by decide +kernel
  refine ⟨_, (pss_cons (ps_if (PW.pt (pw_or (pt_cmpR op_isN (pv 1) pe_non (nomark _)) (pw_or (pt_cmpR op_isN (pe_ix ix_tup (pv 0) pe_int (fun _ _ => rfl)) pe_non (nomark _)) (pw_or1 (pt_cmpR op_isN (pe_ix ix_tup (pv 0) pe_int (fun _ _ => rfl)) pe_non (nomark _))))))
        (pss_one (ps_ret pe_bl))
        pss_nil)
      (pss_cons (ps_set (i := 3) sc__law_half_ok.nd rfl (Or.inl rfl) (pcall d_law_minus hr (pa_cons (pe_ix ix_tup (pv 0) pe_int (fun _ _ => rfl)) (pa_cons (pe_ix ix_tup (pv 0) pe_int (fun _ _ => rfl)) pa_nil))))
      (pss_cons (ps_for PassesOwn.never rfl (pi_tup (pv 1)) (pg_name (i := 4) sc__law_half_ok.nd rfl (Or.inl rfl))
        (pss_cons (ps_if (pt_val (pcall d_law_below hr (pa_cons (pv 3) (pa_cons (pcall d_law_times hr (pa_cons (pe_tup (pa_cons pe_int (pa_cons pe_int pa_nil))) (pa_cons (pcall d_law_minus hr (pa_cons (pv 2) (pa_cons (pv 4) pa_nil))) pa_nil))) pa_nil))))
          (pss_one (ps_ret pe_bl))
          pss_nil)
        (pss_one (ps_if (pt_val (pcall d_law_below hr (pa_cons (pv 3) (pa_cons (pcall d_law_times hr (pa_cons (pe_tup (pa_cons pe_int (pa_cons pe_int pa_nil))) (pa_cons (pcall d_law_minus hr (pa_cons (pv 4) (pa_cons (pv 2) pa_nil))) pa_nil))) pa_nil))))
          (pss_one (ps_ret pe_bl))
          pss_nil))))
      (pss_one (ps_ret pe_bl))))), ?_⟩
  have ep : plainOf t = ((t.b - t.a) + (t.c - t.d)) / 2 := by unfold plainOf; grind
  obtain ⟨lo, hi⟩ := sp
  dsimp only at hu hv
  cases eo : offO (t.b - t.a) (t.c - t.d) (lo, hi) (lo, hi) with
  | none =>
    rw [eo] at hy
    cases (show y = .non from hy)
    exact ⟨_, rfl, rfl, _, rfl, ifT rfl (ifT rfl (z _ (Same.refl _)))⟩
  | some s' =>
    rw [eo] at hy
    obtain ⟨b, yl, yh, rfl, hb, hl, hh⟩ := hy
    have zs' := zo s' eo
    refine ⟨_, rfl, rfl, _, rfl, ifF rfl ⟨_, rfl, a, _, _, _, rfl, rfl, hsp, at0 rfl, rfl, _, rfl, ?_⟩⟩
    cases lo with
    | none =>
      cases (show su = .non from hu)
      exact ifT rfl (ifT rfl (z _ (Same.refl _)))
    | some p =>
      have hu : Rq K H su p := hu
      obtain ⟨c, rfl, _⟩ := id hu
      refine ifF rfl ⟨_, rfl, a, _, _, _, rfl, rfl, hsp, at1 rfl, rfl, _, rfl, ?_⟩
      cases hi with
      | none =>
        cases (show sv = .non from hv)
        exact ifT rfl (z _ (Same.refl _))
      | some q =>
        have hv : Rq K H sv q := hv
        obtain ⟨d, rfl, _⟩ := id hv
        refine ifF rfl ?_
        obtain ⟨l0, u0, rfl, far⟩ := off_half eo
        have zl := zs.1 _ rfl
        have zh := zs.2 _ rfl
        refine ⟨_, rfl, a, _, _, _, rfl, rfl, hsp, at1 rfl, _, rfl, a, _, _, _, rfl, rfl, hsp, at0 rfl, ?_⟩
        refine ⟨_, _, q, p, 100, 100, rfl, hv, hu, zh, zl, by decide, fun w1 H1 e1 h1 => ?_⟩
        refine ⟨_, rfl, b, rfl, ⟨_, e1.sqt hb⟩, for_tup (K := K) (a := b) (xs := [yl, yh]) (fun i σ G => ∃ k4, σ = [some (.ref a), some (.ref b), some u, some w1, k4] ∧ Same H1 G) ⟨none, rfl, Same.refl _⟩ (fun i σ G _ h => by obtain ⟨_, _, s1⟩ := h; exact (e1.trans s1).sqt hb) ?_ ?_⟩
        · rintro i fv σ G hfi ⟨k4, rfl, s1⟩
          have ho : ∃ r0, Rq K G fv r0 ∧ Sz 182 r0 ∧ (r0 = l0 ∨ r0 = u0) := by
            match i, hfi with
            | 0, h => cases h; exact ⟨l0, Rq.same (e1.trans s1) hl, zs'.1 _ rfl, .inl rfl⟩
            | 1, h => cases h; exact ⟨u0, Rq.same (e1.trans s1) hh, zs'.2 _ rfl, .inr rfl⟩
          obtain ⟨r0, hr0, zr0, er0⟩ := ho
          obtain ⟨n1, n2⟩ := far r0 er0
          rw [← ep] at n1 n2
          have h1 : Rq K G w1 (q - p) := Rq.same s1 h1
          have hp := hp.same (e1.trans s1)
          have zw : Sz 201 (q - p) := zh.sub zl
          refine ⟨_, rfl, sz2, fun t1 ht1 => ?_⟩
          have st1 := same_new ht1 (.tup [.int 2, .int 1])
          have r2 : Rq K (upd G t1 (.tup [.int 2, .int 1])) (.ref t1) 2 := rq_new 2 1 2 two.1 two.2.1
          refine ⟨_, rfl, _, rfl, _, _, plainOf t, r0, 165, 182, rfl, hp.same st1, hr0.same st1, zp, zr0, by decide, fun w2 G2 e2 h2 => ?_⟩
          refine ⟨_, _, 2, plainOf t - r0, 2, 348, rfl, r2.same e2, h2, two.2.2, zp.sub zr0, by decide, fun w3 G3 e3 h3 => ?_⟩
          have s3 := st1.trans (e2.trans e3)
          refine ⟨_, _, q - p, 2 * (plainOf t - r0), 201, 350, rfl, h1.same s3, h3, zw, two.2.2.mul (zp.sub zr0), by decide, _, rfl, ifF (dF n1) ?_⟩
          refine ⟨_, rfl, sz2, fun t2 ht2 => ?_⟩
          have st2 := same_new ht2 (.tup [.int 2, .int 1])
          have r2' : Rq K (upd G3 t2 (.tup [.int 2, .int 1])) (.ref t2) 2 := rq_new 2 1 2 two.1 two.2.1
          have s4 := s3.trans st2
          refine ⟨_, rfl, _, rfl, _, _, r0, plainOf t, 182, 165, rfl, hr0.same s4, hp.same s4, zr0, zp, by decide, fun w4 G4 e4 h4 => ?_⟩
          refine ⟨_, _, 2, r0 - plainOf t, 2, 348, rfl, r2'.same e4, h4, two.2.2, zr0.sub zp, by decide, fun w5 G5 e5 h5 => ?_⟩
          have s5 := s4.trans (e4.trans e5)
          exact ⟨_, _, q - p, 2 * (r0 - plainOf t), 201, 350, rfl, h1.same s5, h5, zw, two.2.2.mul (zr0.sub zp), by decide, _, rfl, ifF (dF n2) ⟨_, rfl, s1.trans s5⟩⟩
        · rintro σ G ⟨k4, rfl, s1⟩
          exact z _ (e1.trans s1)
/-! ### the law -/
theorem hf_mk (m : mg "HALF" = some (.ref az)) (h : ∀ H, SqT K H az [.int 1, .int 2]) : Hf K mg az :=
  ⟨m, fun H => ⟨az, rfl, by rw [show (1 / 2 : Rat).num = 1 by decide +kernel, show ((1 / 2 : Rat).den : Int) = 2 by decide +kernel]; exact h H⟩⟩
def spLaw (K : PySem.W.Frag) : Sp := fun vs H Q _ => ∃ (a : Addr) (ns : List Int), vs = [.ref a] ∧ SqL K H a (ns.map V.int) ∧ ns.length ≤ 63 ∧ ∀ H', Q (.bl true) H'
abbrev s_law : Stmt := top 54
abbrev N_law : List Str := ["_law_script", "_law_store_here", "_law_row", "_law_one", "_law_readings", "_law_plain", "_law_span_here", "_law_told", "_law_trip"]
theorem sc_law : FnScope N_law ["_law_script"] (defScope s_law) := ⟨rfl, rfl, rfl, by decide +kernel, rfl, by decide +kernel, by decide +kernel⟩
abbrev ps_law : List Str := ["_law_script"]
theorem ok_law (F : Fn K mg "law" s_law ps_law f fd) (d_law_store : Def P w K mg base k "_law_store" ["_law_script"] (spStore K) f1 fd1) (d_law_drawn : ∀ l, Def P w K mg base k "_law_drawn" ["_law_store_here"] (spD3 K l) f2 fd2) (d_law_offsets_ok : Def P w K mg base k "_law_offsets_ok" ["_law_readings", "_law_forth", "_law_back", "_law_told"] (spOffOk K) f3 fd3)
    (doffset_span : Def P w K mg base k "offset_span" ["stamps", "forth", "back"] (spOff K) f4 fd4) (dplain_offset : Def P w K mg base k "plain_offset" ["stamps"] (spT4 K plainOf) f5 fd5) (d_law_plain_ok : Def P w K mg base k "_law_plain_ok" ["_law_readings", "_law_told"] (spPlainOk K) f6 fd6) (d_law_half_ok : Def P w K mg base k "_law_half_ok" ["_law_span_here", "_law_told", "_law_plain"] (spHalfOk K) f7 fd7)
    (d_law_minus : Def P w K mg base k "_law_minus" ["_law_a", "_law_b"] (spOp2 K (· - ·)) f8 fd8) (d_law_plus : Def P w K mg base k "_law_plus" ["_law_a", "_law_b"] (spOp2 K (· + ·)) f9 fd9) (d_law_same : Def P w K mg base k "_law_same" ["_law_value", "_law_due"] (spSame K 1) f10 fd10) (dround_trip : Def P w K mg base k "round_trip" ["stamps"] (spT4 K fun t => (t.d - t.a) - (t.c - t.b)) f11 fd11) :
    Def P w K mg base (k + 1) "law" ps_law (spLaw K) f fd := by
  have d_law_drawn := Def.ex d_law_drawn
  refine ⟨F.F.ok sc_law (fun vs H Q E h => ?_) (fun cdv A outer s H vs Q E hr h => ?_), F.m, F.F.kp, F.b⟩
  · obtain ⟨_, _, rfl, _⟩ := h
    rfl
  obtain ⟨a, ns, rfl, hS, hl, z⟩ := h
  refine ⟨_, (pss_cons (ps_set (i := 1) sc_law.nd rfl (Or.inl rfl) (pcall d_law_store hr (pa_cons (pv 0) pa_nil)))
      (pss_cons (ps_set (i := 2) sc_law.nd rfl (Or.inl rfl) (pe_lst (pa_cons (pcall d_law_drawn hr (pa_cons (pv 1) pa_nil)) (pa_cons (pcall d_law_drawn hr (pa_cons (pv 1) pa_nil)) pa_nil))))
      (pss_cons (ps_for PassesOwn.never rfl (pi_list (pe_op op_cat (pv 2) (pe_slice sl_list (pv 2) po_none (po_some pe_int)))) (pg_name (i := 3) sc_law.nd rfl (Or.inl rfl))
        (pss_cons (ps_set (i := 4) sc_law.nd rfl (Or.inl rfl) (pe_ix ix_tup (pv 3) pe_int (fun _ _ => rfl)))
        (pss_cons (ps_if (pt_not (pt_val (pcall d_law_offsets_ok hr (pa_cons (pv 4) (pa_cons (pe_ix ix_tup (pv 3) pe_int (fun _ _ => rfl)) (pa_cons (pe_ix ix_tup (pv 3) pe_int (fun _ _ => rfl)) (pa_cons (pcall doffset_span hr (pa_cons (pv 4) (pa_cons (pe_ix ix_tup (pv 3) pe_int (fun _ _ => rfl)) (pa_cons (pe_ix ix_tup (pv 3) pe_int (fun _ _ => rfl)) pa_nil)))) pa_nil)))))))
          (pss_one (ps_ret pe_bl))
          pss_nil)
        (pss_cons (ps_if (pt_not (pt_val (pcall d_law_offsets_ok hr (pa_cons (pv 4) (pa_cons (pe_ix ix_tup (pv 3) pe_int (fun _ _ => rfl)) (pa_cons (pe_ix ix_tup (pv 3) pe_int (fun _ _ => rfl)) (pa_cons (pcall doffset_span hr (pa_cons (pv 4) (pa_cons (pe_ix ix_tup (pv 3) pe_int (fun _ _ => rfl)) (pa_cons (pe_ix ix_tup (pv 3) pe_int (fun _ _ => rfl)) pa_nil)))) pa_nil)))))))
          (pss_one (ps_ret pe_bl))
          pss_nil)
        (pss_cons (ps_set (i := 5) sc_law.nd rfl (Or.inl rfl) (pcall dplain_offset hr (pa_cons (pv 4) pa_nil)))
        (pss_cons (ps_if (pt_not (pt_val (pcall d_law_plain_ok hr (pa_cons (pv 4) (pa_cons (pv 5) pa_nil)))))
          (pss_one (ps_ret pe_bl))
          pss_nil)
        (pss_cons (ps_for PassesOwn.never rfl (pi_tup (pe_slice sl_tup (pv 3) (po_some pe_int) po_none)) (pg_name (i := 6) sc_law.nd rfl (Or.inl rfl))
          (pss_cons (ps_set (i := 7) sc_law.nd rfl (Or.inl rfl) (pcall doffset_span hr (pa_cons (pv 4) (pa_cons (pv 6) (pa_cons (pv 6) pa_nil)))))
          (pss_one (ps_if (PW.pt (pw_or (pt_not (pt_val (pcall d_law_offsets_ok hr (pa_cons (pv 4) (pa_cons (pv 6) (pa_cons (pv 6) (pa_cons (pv 7) pa_nil))))))) (pw_or1 (pt_not (pt_val (pcall d_law_half_ok hr (pa_cons (pv 6) (pa_cons (pv 7) (pa_cons (pv 5) pa_nil)))))))))
            (pss_one (ps_ret pe_bl))
            pss_nil))))
        (pss_cons (ps_set (i := 8) sc_law.nd rfl (Or.inl rfl) (pcall d_law_minus hr (pa_cons (pcall d_law_plus hr (pa_cons (pe_ix ix_tup (pv 4) pe_int (fun _ _ => rfl)) (pa_cons (pe_ix ix_tup (pv 4) pe_int (fun _ _ => rfl)) pa_nil))) (pa_cons (pcall d_law_plus hr (pa_cons (pe_ix ix_tup (pv 4) pe_int (fun _ _ => rfl)) (pa_cons (pe_ix ix_tup (pv 4) pe_int (fun _ _ => rfl)) pa_nil))) pa_nil))))
        (pss_one (ps_if (pt_not (pt_val (pcall d_law_same hr (pa_cons (pcall dround_trip hr (pa_cons (pv 4) pa_nil)) (pa_cons (pv 8) pa_nil)))))
          (pss_one (ps_ret pe_bl))
          pss_nil))))))))))
      (pss_one (ps_ret pe_bl))))), ?_⟩
  refine ⟨_, rfl, a, ns, rfl, hS, hl, fun s l H1 e1 _ S1 => ?_⟩
  refine ⟨_, rfl, l, s, rfl, S1, fun x1 H2 d1 S2 e2 => ⟨_, rfl, l, s, rfl, S2, fun x2 H3 d2 S3 e3 => ⟨sz2, fun D hD => ?_⟩⟩⟩
  have sD := same_new hD (.lst [x1, x2])
  have d1' := (d1.fr e3 S2.some).same sD
  have d2' := d2.same sD
  have hDat : (upd H3 D (.lst [x1, x2])) D = some (.lst [x1, x2]) := upd_same
  generalize upd H3 D (.lst [x1, x2]) = H4 at d1' d2' hDat ⊢
  clear sD e3 e2 e1 S1 S2 S3 d1 d2 hS
  refine ⟨_, rfl, _, rfl, _, rfl, D, _, rfl, SqL.of hDat, fun p1 hp1 => ?_⟩
  have s1 := same_new hp1 (.lst (cutV [x1, x2] none (some 1)))
  refine ⟨D, p1, [x1, x2], [x1], rfl, rfl, s1 _ _ hDat, upd_same, sm3, fun p2 hp2 => ?_⟩
  have s2 := same_new hp2 (.lst ([x1, x2] ++ [x1]))
  have hp2at : (upd (upd H4 p1 (.lst (cutV [x1, x2] none (some 1)))) p2 (.lst ([x1, x2] ++ [x1]))) p2 = some (.lst [x1, x2, x1]) := upd_same
  have d1' := (d1'.same s1).same s2
  have d2' := (d2'.same s1).same s2
  have hD6 := s2 _ _ (s1 _ _ hDat)
  generalize upd (upd H4 p1 (.lst (cutV [x1, x2] none (some 1)))) p2 (.lst ([x1, x2] ++ [x1])) = H6 at d1' d2' hp2at hD6 ⊢
  refine ⟨p2, rfl, ⟨_, SqL.of hp2at⟩, for_list (K := K) (a := p2) (xs := [x1, x2, x1]) (fun i σ G => ∃ k3 k4 k5 k6 k7 k8, σ = [some (.ref a), some (.ref s), some (.ref D), k3, k4, k5, k6, k7, k8] ∧ Same H6 G) ⟨none, none, none, none, none, none, rfl, Same.refl _⟩ (fun i σ G _ h => by obtain ⟨_, _, _, _, _, _, _, s1⟩ := h; exact SqL.of (s1 _ _ hp2at)) ?_ ?_⟩
  · rintro i x σ G hxi ⟨k3, k4, k5, k6, k7, k8, rfl, sg⟩
    have dx : D3 K H6 x := by
      match i, hxi with
      | 0, h => cases h; exact d1'
      | 1, h => cases h; exact d2'
      | 2, h => cases h; exact d1'
    obtain ⟨r, xr, y1, y2, rfl, hr', ⟨t, ht, zt⟩, ⟨fo, hfo, zf⟩, ⟨ba, hba, zb⟩⟩ := dx.same sg
    refine ⟨_, rfl, r, _, _, _, rfl, rfl, hr', at0 rfl, ?_⟩
    -- forth, back
    refine ⟨_, rfl, _, rfl, r, _, _, _, rfl, rfl, hr', at1 rfl, _, rfl, r, _, _, _, rfl, rfl, hr', at2 rfl, ?_⟩
    refine ⟨_, rfl, _, rfl, r, _, _, _, rfl, rfl, hr', at1 rfl, _, rfl, r, _, _, _, rfl, rfl, hr', at2 rfl, ?_⟩
    refine ⟨_, _, _, t, fo, ba, rfl, ht, zt, hfo, hba, zf, zb, fun v1 G1 g1 o1 => ?_⟩
    refine ⟨_, _, _, _, t, fo, ba, rfl, ht.same g1, zt, hfo.same g1, hba.same g1, zf, zb, o1, fun G2 g2 => ⟨_, rfl, ifF rfl ?_⟩⟩
    have g12 := g1.trans g2
    -- back, forth
    refine ⟨_, rfl, _, rfl, r, _, _, _, rfl, rfl, g12.sqt hr', at2 rfl, _, rfl, r, _, _, _, rfl, rfl, g12.sqt hr', at1 rfl, ?_⟩
    refine ⟨_, rfl, _, rfl, r, _, _, _, rfl, rfl, g12.sqt hr', at2 rfl, _, rfl, r, _, _, _, rfl, rfl, g12.sqt hr', at1 rfl, ?_⟩
    refine ⟨_, _, _, t, ba, fo, rfl, ht.same g12, zt, hba.same g12, hfo.same g12, zb, zf, fun v3 G3 g3 o3 => ?_⟩
    have g13 := g12.trans g3
    refine ⟨_, _, _, _, t, ba, fo, rfl, ht.same g13, zt, hba.same g13, hfo.same g13, zb, zf, o3, fun G4 g4 => ⟨_, rfl, ifF rfl ?_⟩⟩
    have g14 := g13.trans g4
    -- plain
    refine ⟨_, rfl, _, t, rfl, ht.same g14, zt, fun v5 G5 g5 hp5 => ?_⟩
    have g15 := g14.trans g5
    refine ⟨_, rfl, _, rfl, _, _, t, rfl, ht.same g15, zt, hp5, fun G6 g6 => ⟨_, rfl, ifF rfl ?_⟩⟩
    have g16 := g15.trans g6
    have hp6 := hp5.same g6
    have cut2 : cutV [xr, y1, y2] (some 1) none = [y1, y2] := rfl
    refine ⟨_, rfl, _, rfl, r, _, rfl, g16.sqt hr', (show ¬ (HT.sIx 3 0 (some 1) = 0 ∧ HT.sIx 3 3 none = 3) by decide), fun p3 hp3 => ?_⟩
    rw [cut2]
    have s3 := same_new hp3 (.tup [y1, y2])
    have hp3at : SqT K (upd G6 p3 (.tup [y1, y2])) p3 [y1, y2] := SqT.of upd_same
    have g17 := g16.trans s3
    have hp7 := hp6.same s3
    generalize upd G6 p3 (.tup [y1, y2]) = G7 at s3 hp3at g17 hp7 ⊢
    refine ⟨p3, rfl, ⟨_, hp3at⟩, for_tup (K := K) (a := p3) (xs := [y1, y2]) (fun i σ G => ∃ k6 k7, σ = [some (.ref a), some (.ref s), some (.ref D), some (.ref r), some xr, some v5, k6, k7, k8] ∧ Same G7 G) ⟨k6, k7, rfl, Same.refl _⟩ (fun i σ G _ h => by obtain ⟨_, _, _, s1⟩ := h; exact s1.sqt hp3at) ?_ ?_⟩
    · rintro j y σ G8 hyj ⟨k6', k7', rfl, sj⟩
      have g18 := g17.trans sj
      have hy : ∃ sp, Spq K G8 y sp ∧ SSz 100 sp := by
        match j, hyj with
        | 0, h => cases h; exact ⟨fo, hfo.same g18, zf⟩
        | 1, h => cases h; exact ⟨ba, hba.same g18, zb⟩
      obtain ⟨sp, hsp, zsp⟩ := hy
      refine ⟨_, rfl, _, rfl, _, rfl, _, _, _, t, sp, sp, rfl, ht.same g18, zt, hsp, hsp, zsp, zsp, fun v9 G9 g9 o9 => ?_⟩
      refine ⟨_, rfl, _, rfl, _, rfl, _, rfl, _, _, _, _, t, sp, sp, rfl, ht.same (g18.trans g9), zt, hsp.same g9, hsp.same g9, zsp, zsp, o9, fun G10 g10 => ⟨_, rfl, ifF rfl ?_⟩⟩
      exact ⟨_, rfl, _, rfl, _, rfl, _, _, _, t, sp, rfl, zt, hsp.same (g9.trans g10), zsp, o9.same g10, hp7.same (sj.trans (g9.trans g10)), fun G11 g11 => ⟨_, rfl, ifF rfl ⟨_, _, rfl, sj.trans (g9.trans (g10.trans g11))⟩⟩⟩
    · rintro σ G8 ⟨k6', k7', rfl, sj⟩
      have g18 := g17.trans sj
      obtain ⟨r2, xa, xb, xc, xd, rfl, ht2, ha, hb, hc, hd⟩ := ht.same g18
      obtain ⟨za, zbb, zc, zd⟩ := id zt
      have ht8 : T4 K G8 (.ref r2) t := ⟨r2, xa, xb, xc, xd, rfl, ht2, ha, hb, hc, hd⟩
      refine ⟨_, rfl, r2, _, _, _, rfl, rfl, ht2, at1 rfl, _, rfl, r2, _, _, _, rfl, rfl, ht2, atI_nat (j := 3) rfl, ?_⟩
      refine ⟨_, _, t.b, t.d, 40, 40, rfl, hb, hd, zbb, zd, by decide, fun w1 G9 g9 h9 => ?_⟩
      refine ⟨_, rfl, r2, _, _, _, rfl, rfl, g9.sqt ht2, at0 rfl, _, rfl, r2, _, _, _, rfl, rfl, g9.sqt ht2, at2 rfl, ?_⟩
      refine ⟨_, _, t.a, t.c, 40, 40, rfl, ha.same g9, hc.same g9, za, zc, by decide, fun w2 G10 g10 h10 => ?_⟩
      refine ⟨_, _, t.b + t.d, t.a + t.c, 81, 81, rfl, h9.same g10, h10, zbb.add zd, za.add zc, by decide, fun w3 G11 g11 h11 => ?_⟩
      have ga := g9.trans (g10.trans g11)
      refine ⟨_, rfl, _, t, rfl, ht8.same ga, zt, fun w4 G12 g12 h12 => ?_⟩
      have em : (t.d - t.a) - (t.c - t.b) = (t.b + t.d) - (t.a + t.c) := by grind
      have h11' : Rq K G12 w3 ((t.b + t.d) - (t.a + t.c)) := Rq.same g12 h11
      have h12' : Rq K G12 w4 ((t.b + t.d) - (t.a + t.c)) := by rw [← em]; exact h12
      exact ⟨_, rfl, _, _, _, rfl, h12'.dp, h11'.dp, tree_dq 0 _, ⟨_, rfl, ifF rfl ⟨_, _, _, _, _, _, rfl, sg.trans (g18.trans (ga.trans g12))⟩⟩⟩
  · rintro σ G ⟨k3, k4, k5, k6, k7, k8, rfl, sg⟩
    exact z _
end Vk

namespace Vk
open PySem L2 Vm Vs

theorem law_ok {P : Program} {w : World} {K : PySem.W.Frag} {mg : Str → Option Value} {base : Heap} {f_rational : Addr} {fd_rational : FuncData} {f_add : Addr} {fd_add : FuncData} {f_subtract : Addr} {fd_subtract : FuncData} {f_multiply : Addr} {fd_multiply : FuncData} {f_negate : Addr} {fd_negate : FuncData} {f_compare : Addr} {fd_compare : FuncData} {f_smaller : Addr} {fd_smaller : FuncData} {f_larger : Addr} {fd_larger : FuncData} {f__higher_low : Addr} {fd__higher_low : FuncData} {f__lower_high : Addr} {fd__lower_high : FuncData} {f_meet : Addr} {fd_meet : FuncData} {f__moved : Addr} {fd__moved : FuncData} {f_shift : Addr} {fd_shift : FuncData} {f_round_trip : Addr} {fd_round_trip : FuncData} {f_plain_offset : Addr} {fd_plain_offset : FuncData} {f__negated : Addr} {fd__negated : FuncData} {f_offset_span : Addr} {fd_offset_span : FuncData} {f__law_store : Addr} {fd__law_store : FuncData} {f__law_feed : Addr} {fd__law_feed : FuncData} {f__law_mixed : Addr} {fd__law_mixed : FuncData} {f__law_take : Addr} {fd__law_take : FuncData} {f__law_pick : Addr} {fd__law_pick : FuncData} {f__law_is_int : Addr} {fd__law_is_int : FuncData} {f__law_same : Addr} {fd__law_same : FuncData} {f__law_frac : Addr} {fd__law_frac : FuncData} {f__law_plus : Addr} {fd__law_plus : FuncData} {f__law_minus : Addr} {fd__law_minus : FuncData} {f__law_times : Addr} {fd__law_times : FuncData} {f__law_below : Addr} {fd__law_below : FuncData} {f__law_is_frac : Addr} {fd__law_is_frac : FuncData} {f__law_ratio : Addr} {fd__law_ratio : FuncData} {f__law_part : Addr} {fd__law_part : FuncData} {f__law_spare : Addr} {fd__law_spare : FuncData} {f__law_span : Addr} {fd__law_span : FuncData} {f__law_in_span : Addr} {fd__law_in_span : FuncData} {f__law_ordered : Addr} {fd__law_ordered : FuncData} {f__law_probes : Addr} {fd__law_probes : FuncData} {f__law_is_span : Addr} {fd__law_is_span : FuncData} {f__law_stamps : Addr} {fd__law_stamps : FuncData} {f__law_round : Addr} {fd__law_round : FuncData} {f__law_wide_span : Addr} {fd__law_wide_span : FuncData} {f__law_drawn : Addr} {fd__law_drawn : FuncData} {f__law_offsets_ok : Addr} {fd__law_offsets_ok : FuncData} {f__law_plain_ok : Addr} {fd__law_plain_ok : FuncData} {f__law_half_ok : Addr} {fd__law_half_ok : FuncData} {f_law : Addr} {fd_law : FuncData} (T : Bn mg) {aHALF : Addr} (ZHALF : Hf K mg aHALF)
    (h_rational : FunA K "rational" "rational" s_rational f_rational fd_rational) (m_rational : mg "rational" = some (.ref f_rational)) (b_rational : Binds K fd_rational ps_rational [])
    (h_add : Fn K mg "add" s_add ps_add f_add fd_add)
    (h_subtract : Fn K mg "subtract" s_subtract ps_subtract f_subtract fd_subtract)
    (h_multiply : Fn K mg "multiply" s_multiply ps_multiply f_multiply fd_multiply)
    (h_negate : Fn K mg "negate" s_negate ps_negate f_negate fd_negate)
    (h_compare : Fn K mg "compare" s_compare ps_compare f_compare fd_compare)
    (h_smaller : Fn K mg "smaller" s_smaller ps_smaller f_smaller fd_smaller)
    (h_larger : Fn K mg "larger" s_larger ps_larger f_larger fd_larger)
    (h__higher_low : Fn K mg "_higher_low" s__higher_low ps__higher_low f__higher_low fd__higher_low)
    (h__lower_high : Fn K mg "_lower_high" s__lower_high ps__lower_high f__lower_high fd__lower_high)
    (h_meet : Fn K mg "meet" s_meet ps_meet f_meet fd_meet)
    (h__moved : Fn K mg "_moved" s__moved ps__moved f__moved fd__moved)
    (h_shift : Fn K mg "shift" s_shift ps_shift f_shift fd_shift)
    (h_round_trip : Fn K mg "round_trip" s_round_trip ps_round_trip f_round_trip fd_round_trip)
    (h_plain_offset : Fn K mg "plain_offset" s_plain_offset ps_plain_offset f_plain_offset fd_plain_offset)
    (h__negated : Fn K mg "_negated" s__negated ps__negated f__negated fd__negated)
    (h_offset_span : Fn K mg "offset_span" s_offset_span ps_offset_span f_offset_span fd_offset_span)
    (h__law_store : Fn K mg "_law_store" s__law_store ps__law_store f__law_store fd__law_store)
    (h__law_feed : Fn K mg "_law_feed" s__law_feed ps__law_feed f__law_feed fd__law_feed)
    (h__law_mixed : Fn K mg "_law_mixed" s__law_mixed ps__law_mixed f__law_mixed fd__law_mixed)
    (h__law_take : Fn K mg "_law_take" s__law_take ps__law_take f__law_take fd__law_take)
    (h__law_pick : Fn K mg "_law_pick" s__law_pick ps__law_pick f__law_pick fd__law_pick)
    (h__law_is_int : Fn K mg "_law_is_int" s__law_is_int ps__law_is_int f__law_is_int fd__law_is_int)
    (h__law_same : Fn K mg "_law_same" s__law_same ps__law_same f__law_same fd__law_same)
    (h__law_frac : Fn K mg "_law_frac" s__law_frac ps__law_frac f__law_frac fd__law_frac)
    (h__law_plus : Fn K mg "_law_plus" s__law_plus ps__law_plus f__law_plus fd__law_plus)
    (h__law_minus : Fn K mg "_law_minus" s__law_minus ps__law_minus f__law_minus fd__law_minus)
    (h__law_times : Fn K mg "_law_times" s__law_times ps__law_times f__law_times fd__law_times)
    (h__law_below : Fn K mg "_law_below" s__law_below ps__law_below f__law_below fd__law_below)
    (h__law_is_frac : Fn K mg "_law_is_frac" s__law_is_frac ps__law_is_frac f__law_is_frac fd__law_is_frac)
    (h__law_ratio : Fn K mg "_law_ratio" s__law_ratio ps__law_ratio f__law_ratio fd__law_ratio)
    (h__law_part : Fn K mg "_law_part" s__law_part ps__law_part f__law_part fd__law_part)
    (h__law_spare : Fn K mg "_law_spare" s__law_spare ps__law_spare f__law_spare fd__law_spare)
    (h__law_span : Fn K mg "_law_span" s__law_span ps__law_span f__law_span fd__law_span)
    (h__law_in_span : Fn K mg "_law_in_span" s__law_in_span ps__law_in_span f__law_in_span fd__law_in_span)
    (h__law_ordered : Fn K mg "_law_ordered" s__law_ordered ps__law_ordered f__law_ordered fd__law_ordered)
    (h__law_probes : Fn K mg "_law_probes" s__law_probes ps__law_probes f__law_probes fd__law_probes)
    (h__law_is_span : Fn K mg "_law_is_span" s__law_is_span ps__law_is_span f__law_is_span fd__law_is_span)
    (h__law_stamps : Fn K mg "_law_stamps" s__law_stamps ps__law_stamps f__law_stamps fd__law_stamps)
    (h__law_round : Fn K mg "_law_round" s__law_round ps__law_round f__law_round fd__law_round)
    (h__law_wide_span : Fn K mg "_law_wide_span" s__law_wide_span ps__law_wide_span f__law_wide_span fd__law_wide_span)
    (h__law_drawn : Fn K mg "_law_drawn" s__law_drawn ps__law_drawn f__law_drawn fd__law_drawn)
    (h__law_offsets_ok : Fn K mg "_law_offsets_ok" s__law_offsets_ok ps__law_offsets_ok f__law_offsets_ok fd__law_offsets_ok)
    (h__law_plain_ok : Fn K mg "_law_plain_ok" s__law_plain_ok ps__law_plain_ok f__law_plain_ok fd__law_plain_ok)
    (h__law_half_ok : Fn K mg "_law_half_ok" s__law_half_ok ps__law_half_ok f__law_half_ok fd__law_half_ok)
    (h_law : Fn K mg "law" s_law ps_law f_law fd_law)
    : FnOk P w K mg base CX0 7 f_law fd_law ps_law (spLaw K) := by
  have rational := ok_rational (P := P) (w := w) (base := base) (k := 0) T h_rational m_rational b_rational
  have add := ok_add (P := P) (w := w) (base := base) (k := 0) T h_add
  have negate := ok_negate (P := P) (w := w) (base := base) (k := 0) h_negate
  have compare := ok_compare (P := P) (w := w) (base := base) (k := 0) h_compare
  have subtract := ok_subtract h_subtract add negate
  have multiply := ok_multiply h_multiply rational
  have smaller := ok_smaller h_smaller compare
  have larger := ok_larger h_larger compare
  have higher_low := ok_higher_low h__higher_low larger
  have lower_high := ok_lower_high h__lower_high smaller
  have meet := ok_meet h_meet higher_low lower_high (compare.up (by decide))
  have moved := ok_moved h__moved add
  have shift := ok_shift h_shift moved
  have round_trip := ok_round_trip h_round_trip subtract
  have plain_offset := ok_plain_offset ZHALF h_plain_offset subtract (add.up (by decide)) multiply
  have negated := ok_negated h__negated negate
  have offset_span := ok_offset_span h_offset_span (subtract.up (by decide)) (negated.up (by decide)) (shift.up (by decide)) meet
  have store := ok_store (P := P) (w := w) (base := base) (k := 0) T h__law_store
  have mixed := fun l => ok_mixed (l := l) (P := P) (w := w) (base := base) (k := 0) T h__law_mixed
  have feed := fun l => ok_feed (l := l) (P := P) (w := w) (base := base) (k := 0) T h__law_feed
  have take := fun l => ok_take T h__law_take (feed l) (mixed l)
  have pick := fun l => ok_pick T h__law_pick (take l)
  have is_int := ok_is_int (P := P) (w := w) (base := base) (k := 0) T h__law_is_int
  have same := ok_same T h__law_same is_int 1
  have frac := ok_frac (P := P) (w := w) (base := base) (k := 0) T h__law_frac
  have plus := ok_plus h__law_plus frac
  have minus := ok_minus h__law_minus frac
  have times := ok_times h__law_times frac
  have below := ok_below (P := P) (w := w) (base := base) (k := 0) h__law_below
  have is_frac := ok_is_frac T h__law_is_frac is_int frac
  have ratio := fun l => ok_ratio h__law_ratio ((take l).up (by decide)) (pick l) (frac.up (by decide))
  have part := fun l => ok_part h__law_part ((take l).up (by decide)) (pick l) (frac.up (by decide))
  have spare := fun l => ok_spare h__law_spare (take l) (frac.up (by decide))
  have span := fun l => ok_span h__law_span (take l) (frac.up (by decide))
  have in_span := ok_in_span h__law_in_span below
  have ord8 := ok_ord8 T h__law_ordered below
  have probes := ok_probesS T h__law_probes ord8 minus times plus
  have is_span := ok_is_span T h__law_is_span is_frac (below.up (by decide))
  have stamps := fun l => ok_stamps T h__law_stamps (part l)
  have round := fun l => ok_round T h__law_round ((pick l).up (by decide : 3 ≤ 4)) (minus.up (by decide)) ((spare l).up (by decide)) (plus.up (by decide)) (part l)
  have wide := fun l => ok_wide_span h__law_wide_span (ratio l) (below.up (by decide)) ((pick l).up (by decide))
  have drawn := fun l => ok_drawn T h__law_drawn ((take l).up (by decide : 2 ≤ 5)) ((ratio l).up (by decide)) (wide l) ((span l).up (by decide)) (stamps l) ((part l).up (by decide)) (minus.up (by decide)) (plus.up (by decide)) (round l)
  have offsets := ok_offsets_ok h__law_offsets_ok (minus.up (by decide : 2 ≤ 3)) is_span probes (in_span.up (by decide)) (plus.up (by decide))
  have plain_ok := ok_plain_ok h__law_plain_ok is_frac minus plus
  have half_ok := ok_half_ok h__law_half_ok minus (below.up (by decide)) times
  exact (ok_law (k := 6) h_law (store.up (by decide)) drawn (offsets.up (by decide)) (offset_span.up (by decide)) (plain_offset.up (by decide)) (plain_ok.up (by decide)) (half_ok.up (by decide)) (minus.up (by decide)) (plus.up (by decide)) (same.up (by decide)) (round_trip.up (by decide))).ok
set_option maxHeartbeats 0 in
theorem all_mk {l : PySem.W.OpenLaw} {w : World} {K : PySem.W.Frag} {h : Heap} {mg : Str → Option Value} {fa : Addr} (X : K.In h) (G : h.Ns mainGlobals mg) (hfa : mg "law" = some (.ref fa))
    {f_rational : Addr} {od_rational an_rational : Option Addr} {sl_rational : Array (Option Value)} {oc_rational kV_rational dc_rational pm_rational cd_rational ct_rational : Value}
    {f_add : Addr} {od_add an_add : Option Addr} {sl_add : Array (Option Value)} {oc_add kV_add dc_add pm_add cd_add ct_add : Value}
    {f_subtract : Addr} {od_subtract an_subtract : Option Addr} {sl_subtract : Array (Option Value)} {oc_subtract kV_subtract dc_subtract pm_subtract cd_subtract ct_subtract : Value}
    {f_multiply : Addr} {od_multiply an_multiply : Option Addr} {sl_multiply : Array (Option Value)} {oc_multiply kV_multiply dc_multiply pm_multiply cd_multiply ct_multiply : Value}
    {f_negate : Addr} {od_negate an_negate : Option Addr} {sl_negate : Array (Option Value)} {oc_negate kV_negate dc_negate pm_negate cd_negate ct_negate : Value}
    {f_compare : Addr} {od_compare an_compare : Option Addr} {sl_compare : Array (Option Value)} {oc_compare kV_compare dc_compare pm_compare cd_compare ct_compare : Value}
    {f_smaller : Addr} {od_smaller an_smaller : Option Addr} {sl_smaller : Array (Option Value)} {oc_smaller kV_smaller dc_smaller pm_smaller cd_smaller ct_smaller : Value}
    {f_larger : Addr} {od_larger an_larger : Option Addr} {sl_larger : Array (Option Value)} {oc_larger kV_larger dc_larger pm_larger cd_larger ct_larger : Value}
    {f__higher_low : Addr} {od__higher_low an__higher_low : Option Addr} {sl__higher_low : Array (Option Value)} {oc__higher_low kV__higher_low dc__higher_low pm__higher_low cd__higher_low ct__higher_low : Value}
    {f__lower_high : Addr} {od__lower_high an__lower_high : Option Addr} {sl__lower_high : Array (Option Value)} {oc__lower_high kV__lower_high dc__lower_high pm__lower_high cd__lower_high ct__lower_high : Value}
    {f_meet : Addr} {od_meet an_meet : Option Addr} {sl_meet : Array (Option Value)} {oc_meet kV_meet dc_meet pm_meet cd_meet ct_meet : Value}
    {f__moved : Addr} {od__moved an__moved : Option Addr} {sl__moved : Array (Option Value)} {oc__moved kV__moved dc__moved pm__moved cd__moved ct__moved : Value}
    {f_shift : Addr} {od_shift an_shift : Option Addr} {sl_shift : Array (Option Value)} {oc_shift kV_shift dc_shift pm_shift cd_shift ct_shift : Value}
    {f_round_trip : Addr} {od_round_trip an_round_trip : Option Addr} {sl_round_trip : Array (Option Value)} {oc_round_trip kV_round_trip dc_round_trip pm_round_trip cd_round_trip ct_round_trip : Value}
    {f_plain_offset : Addr} {od_plain_offset an_plain_offset : Option Addr} {sl_plain_offset : Array (Option Value)} {oc_plain_offset kV_plain_offset dc_plain_offset pm_plain_offset cd_plain_offset ct_plain_offset : Value}
    {f__negated : Addr} {od__negated an__negated : Option Addr} {sl__negated : Array (Option Value)} {oc__negated kV__negated dc__negated pm__negated cd__negated ct__negated : Value}
    {f_offset_span : Addr} {od_offset_span an_offset_span : Option Addr} {sl_offset_span : Array (Option Value)} {oc_offset_span kV_offset_span dc_offset_span pm_offset_span cd_offset_span ct_offset_span : Value}
    {f__law_store : Addr} {od__law_store an__law_store : Option Addr} {sl__law_store : Array (Option Value)} {oc__law_store kV__law_store dc__law_store pm__law_store cd__law_store ct__law_store : Value}
    {f__law_feed : Addr} {od__law_feed an__law_feed : Option Addr} {sl__law_feed : Array (Option Value)} {oc__law_feed kV__law_feed dc__law_feed pm__law_feed cd__law_feed ct__law_feed : Value}
    {f__law_mixed : Addr} {od__law_mixed an__law_mixed : Option Addr} {sl__law_mixed : Array (Option Value)} {oc__law_mixed kV__law_mixed dc__law_mixed pm__law_mixed cd__law_mixed ct__law_mixed : Value}
    {f__law_take : Addr} {od__law_take an__law_take : Option Addr} {sl__law_take : Array (Option Value)} {oc__law_take kV__law_take dc__law_take pm__law_take cd__law_take ct__law_take : Value}
    {f__law_pick : Addr} {od__law_pick an__law_pick : Option Addr} {sl__law_pick : Array (Option Value)} {oc__law_pick kV__law_pick dc__law_pick pm__law_pick cd__law_pick ct__law_pick : Value}
    {f__law_is_int : Addr} {od__law_is_int an__law_is_int : Option Addr} {sl__law_is_int : Array (Option Value)} {oc__law_is_int kV__law_is_int dc__law_is_int pm__law_is_int cd__law_is_int ct__law_is_int : Value}
    {f__law_same : Addr} {od__law_same an__law_same : Option Addr} {sl__law_same : Array (Option Value)} {oc__law_same kV__law_same dc__law_same pm__law_same cd__law_same ct__law_same : Value}
    {f__law_frac : Addr} {od__law_frac an__law_frac : Option Addr} {sl__law_frac : Array (Option Value)} {oc__law_frac kV__law_frac dc__law_frac pm__law_frac cd__law_frac ct__law_frac : Value}
    {f__law_plus : Addr} {od__law_plus an__law_plus : Option Addr} {sl__law_plus : Array (Option Value)} {oc__law_plus kV__law_plus dc__law_plus pm__law_plus cd__law_plus ct__law_plus : Value}
    {f__law_minus : Addr} {od__law_minus an__law_minus : Option Addr} {sl__law_minus : Array (Option Value)} {oc__law_minus kV__law_minus dc__law_minus pm__law_minus cd__law_minus ct__law_minus : Value}
    {f__law_times : Addr} {od__law_times an__law_times : Option Addr} {sl__law_times : Array (Option Value)} {oc__law_times kV__law_times dc__law_times pm__law_times cd__law_times ct__law_times : Value}
    {f__law_below : Addr} {od__law_below an__law_below : Option Addr} {sl__law_below : Array (Option Value)} {oc__law_below kV__law_below dc__law_below pm__law_below cd__law_below ct__law_below : Value}
    {f__law_is_frac : Addr} {od__law_is_frac an__law_is_frac : Option Addr} {sl__law_is_frac : Array (Option Value)} {oc__law_is_frac kV__law_is_frac dc__law_is_frac pm__law_is_frac cd__law_is_frac ct__law_is_frac : Value}
    {f__law_ratio : Addr} {od__law_ratio an__law_ratio : Option Addr} {sl__law_ratio : Array (Option Value)} {oc__law_ratio kV__law_ratio dc__law_ratio pm__law_ratio cd__law_ratio ct__law_ratio : Value}
    {f__law_part : Addr} {od__law_part an__law_part : Option Addr} {sl__law_part : Array (Option Value)} {oc__law_part kV__law_part dc__law_part pm__law_part cd__law_part ct__law_part : Value}
    {f__law_spare : Addr} {od__law_spare an__law_spare : Option Addr} {sl__law_spare : Array (Option Value)} {oc__law_spare kV__law_spare dc__law_spare pm__law_spare cd__law_spare ct__law_spare : Value}
    {f__law_span : Addr} {od__law_span an__law_span : Option Addr} {sl__law_span : Array (Option Value)} {oc__law_span kV__law_span dc__law_span pm__law_span cd__law_span ct__law_span : Value}
    {f__law_in_span : Addr} {od__law_in_span an__law_in_span : Option Addr} {sl__law_in_span : Array (Option Value)} {oc__law_in_span kV__law_in_span dc__law_in_span pm__law_in_span cd__law_in_span ct__law_in_span : Value}
    {f__law_ordered : Addr} {od__law_ordered an__law_ordered : Option Addr} {sl__law_ordered : Array (Option Value)} {oc__law_ordered kV__law_ordered dc__law_ordered pm__law_ordered cd__law_ordered ct__law_ordered : Value}
    {f__law_probes : Addr} {od__law_probes an__law_probes : Option Addr} {sl__law_probes : Array (Option Value)} {oc__law_probes kV__law_probes dc__law_probes pm__law_probes cd__law_probes ct__law_probes : Value}
    {f__law_is_span : Addr} {od__law_is_span an__law_is_span : Option Addr} {sl__law_is_span : Array (Option Value)} {oc__law_is_span kV__law_is_span dc__law_is_span pm__law_is_span cd__law_is_span ct__law_is_span : Value}
    {f__law_stamps : Addr} {od__law_stamps an__law_stamps : Option Addr} {sl__law_stamps : Array (Option Value)} {oc__law_stamps kV__law_stamps dc__law_stamps pm__law_stamps cd__law_stamps ct__law_stamps : Value}
    {f__law_round : Addr} {od__law_round an__law_round : Option Addr} {sl__law_round : Array (Option Value)} {oc__law_round kV__law_round dc__law_round pm__law_round cd__law_round ct__law_round : Value}
    {f__law_wide_span : Addr} {od__law_wide_span an__law_wide_span : Option Addr} {sl__law_wide_span : Array (Option Value)} {oc__law_wide_span kV__law_wide_span dc__law_wide_span pm__law_wide_span cd__law_wide_span ct__law_wide_span : Value}
    {f__law_drawn : Addr} {od__law_drawn an__law_drawn : Option Addr} {sl__law_drawn : Array (Option Value)} {oc__law_drawn kV__law_drawn dc__law_drawn pm__law_drawn cd__law_drawn ct__law_drawn : Value}
    {f__law_offsets_ok : Addr} {od__law_offsets_ok an__law_offsets_ok : Option Addr} {sl__law_offsets_ok : Array (Option Value)} {oc__law_offsets_ok kV__law_offsets_ok dc__law_offsets_ok pm__law_offsets_ok cd__law_offsets_ok ct__law_offsets_ok : Value}
    {f__law_plain_ok : Addr} {od__law_plain_ok an__law_plain_ok : Option Addr} {sl__law_plain_ok : Array (Option Value)} {oc__law_plain_ok kV__law_plain_ok dc__law_plain_ok pm__law_plain_ok cd__law_plain_ok ct__law_plain_ok : Value}
    {f__law_half_ok : Addr} {od__law_half_ok an__law_half_ok : Option Addr} {sl__law_half_ok : Array (Option Value)} {oc__law_half_ok kV__law_half_ok dc__law_half_ok pm__law_half_ok cd__law_half_ok ct__law_half_ok : Value}
    {f_law : Addr} {od_law an_law : Option Addr} {sl_law : Array (Option Value)} {oc_law kV_law dc_law pm_law cd_law ct_law : Value}
    {dV_rational : Addr} {dcls_rational : Value} {ddd_rational : Option Addr} {dtk_rational : Tok} {dn_rational : Nat} {dsl_rational : Array (Option Value)} (ldf_rational : K.lookup dV_rational = some ⟨dcls_rational, ddd_rational, .seq #[.int 1 dtk_rational] dn_rational, dsl_rational⟩)
    {aHALF : Addr} {addHALF : Option Addr} {tHALF0 tHALF1 : Tok} {znHALF : Nat} {zslHALF : Array (Option Value)} (a0HALF : PySem.W.nsIn K mainGlobals "HALF" = some (some (.ref aHALF))) (l0HALF : K.lookup aHALF = some ⟨.type "tuple", addHALF, .seq #[.int 1 tHALF0, .int 2 tHALF1] znHALF, zslHALF⟩)
    (a_rational : PySem.W.nsIn K mainGlobals "rational" = some (some (.ref f_rational))) (l_rational : K.lookup f_rational = some ⟨oc_rational, od_rational, .func (PySem.W.fnOf "rational" "rational" (defArgs s_rational) (defBody s_rational) (defScope s_rational) (.ref dV_rational) kV_rational dc_rational pm_rational an_rational cd_rational ct_rational), sl_rational⟩) (c_rational : PySem.W.codeIn K cd_rational "rational" = true) (k_rational : PySem.W.keepIn K (.ref f_rational) = true)
    (a_add : PySem.W.nsIn K mainGlobals "add" = some (some (.ref f_add))) (l_add : K.lookup f_add = some ⟨oc_add, od_add, .func (PySem.W.fnOf "add" "add" (defArgs s_add) (defBody s_add) (defScope s_add) .none kV_add dc_add pm_add an_add cd_add ct_add), sl_add⟩) (c_add : PySem.W.codeIn K cd_add "add" = true) (k_add : PySem.W.keepIn K (.ref f_add) = true)
    (a_subtract : PySem.W.nsIn K mainGlobals "subtract" = some (some (.ref f_subtract))) (l_subtract : K.lookup f_subtract = some ⟨oc_subtract, od_subtract, .func (PySem.W.fnOf "subtract" "subtract" (defArgs s_subtract) (defBody s_subtract) (defScope s_subtract) .none kV_subtract dc_subtract pm_subtract an_subtract cd_subtract ct_subtract), sl_subtract⟩) (c_subtract : PySem.W.codeIn K cd_subtract "subtract" = true) (k_subtract : PySem.W.keepIn K (.ref f_subtract) = true)
    (a_multiply : PySem.W.nsIn K mainGlobals "multiply" = some (some (.ref f_multiply))) (l_multiply : K.lookup f_multiply = some ⟨oc_multiply, od_multiply, .func (PySem.W.fnOf "multiply" "multiply" (defArgs s_multiply) (defBody s_multiply) (defScope s_multiply) .none kV_multiply dc_multiply pm_multiply an_multiply cd_multiply ct_multiply), sl_multiply⟩) (c_multiply : PySem.W.codeIn K cd_multiply "multiply" = true) (k_multiply : PySem.W.keepIn K (.ref f_multiply) = true)
    (a_negate : PySem.W.nsIn K mainGlobals "negate" = some (some (.ref f_negate))) (l_negate : K.lookup f_negate = some ⟨oc_negate, od_negate, .func (PySem.W.fnOf "negate" "negate" (defArgs s_negate) (defBody s_negate) (defScope s_negate) .none kV_negate dc_negate pm_negate an_negate cd_negate ct_negate), sl_negate⟩) (c_negate : PySem.W.codeIn K cd_negate "negate" = true) (k_negate : PySem.W.keepIn K (.ref f_negate) = true)
    (a_compare : PySem.W.nsIn K mainGlobals "compare" = some (some (.ref f_compare))) (l_compare : K.lookup f_compare = some ⟨oc_compare, od_compare, .func (PySem.W.fnOf "compare" "compare" (defArgs s_compare) (defBody s_compare) (defScope s_compare) .none kV_compare dc_compare pm_compare an_compare cd_compare ct_compare), sl_compare⟩) (c_compare : PySem.W.codeIn K cd_compare "compare" = true) (k_compare : PySem.W.keepIn K (.ref f_compare) = true)
    (a_smaller : PySem.W.nsIn K mainGlobals "smaller" = some (some (.ref f_smaller))) (l_smaller : K.lookup f_smaller = some ⟨oc_smaller, od_smaller, .func (PySem.W.fnOf "smaller" "smaller" (defArgs s_smaller) (defBody s_smaller) (defScope s_smaller) .none kV_smaller dc_smaller pm_smaller an_smaller cd_smaller ct_smaller), sl_smaller⟩) (c_smaller : PySem.W.codeIn K cd_smaller "smaller" = true) (k_smaller : PySem.W.keepIn K (.ref f_smaller) = true)
    (a_larger : PySem.W.nsIn K mainGlobals "larger" = some (some (.ref f_larger))) (l_larger : K.lookup f_larger = some ⟨oc_larger, od_larger, .func (PySem.W.fnOf "larger" "larger" (defArgs s_larger) (defBody s_larger) (defScope s_larger) .none kV_larger dc_larger pm_larger an_larger cd_larger ct_larger), sl_larger⟩) (c_larger : PySem.W.codeIn K cd_larger "larger" = true) (k_larger : PySem.W.keepIn K (.ref f_larger) = true)
    (a__higher_low : PySem.W.nsIn K mainGlobals "_higher_low" = some (some (.ref f__higher_low))) (l__higher_low : K.lookup f__higher_low = some ⟨oc__higher_low, od__higher_low, .func (PySem.W.fnOf "_higher_low" "_higher_low" (defArgs s__higher_low) (defBody s__higher_low) (defScope s__higher_low) .none kV__higher_low dc__higher_low pm__higher_low an__higher_low cd__higher_low ct__higher_low), sl__higher_low⟩) (c__higher_low : PySem.W.codeIn K cd__higher_low "_higher_low" = true) (k__higher_low : PySem.W.keepIn K (.ref f__higher_low) = true)
    (a__lower_high : PySem.W.nsIn K mainGlobals "_lower_high" = some (some (.ref f__lower_high))) (l__lower_high : K.lookup f__lower_high = some ⟨oc__lower_high, od__lower_high, .func (PySem.W.fnOf "_lower_high" "_lower_high" (defArgs s__lower_high) (defBody s__lower_high) (defScope s__lower_high) .none kV__lower_high dc__lower_high pm__lower_high an__lower_high cd__lower_high ct__lower_high), sl__lower_high⟩) (c__lower_high : PySem.W.codeIn K cd__lower_high "_lower_high" = true) (k__lower_high : PySem.W.keepIn K (.ref f__lower_high) = true)
    (a_meet : PySem.W.nsIn K mainGlobals "meet" = some (some (.ref f_meet))) (l_meet : K.lookup f_meet = some ⟨oc_meet, od_meet, .func (PySem.W.fnOf "meet" "meet" (defArgs s_meet) (defBody s_meet) (defScope s_meet) .none kV_meet dc_meet pm_meet an_meet cd_meet ct_meet), sl_meet⟩) (c_meet : PySem.W.codeIn K cd_meet "meet" = true) (k_meet : PySem.W.keepIn K (.ref f_meet) = true)
    (a__moved : PySem.W.nsIn K mainGlobals "_moved" = some (some (.ref f__moved))) (l__moved : K.lookup f__moved = some ⟨oc__moved, od__moved, .func (PySem.W.fnOf "_moved" "_moved" (defArgs s__moved) (defBody s__moved) (defScope s__moved) .none kV__moved dc__moved pm__moved an__moved cd__moved ct__moved), sl__moved⟩) (c__moved : PySem.W.codeIn K cd__moved "_moved" = true) (k__moved : PySem.W.keepIn K (.ref f__moved) = true)
    (a_shift : PySem.W.nsIn K mainGlobals "shift" = some (some (.ref f_shift))) (l_shift : K.lookup f_shift = some ⟨oc_shift, od_shift, .func (PySem.W.fnOf "shift" "shift" (defArgs s_shift) (defBody s_shift) (defScope s_shift) .none kV_shift dc_shift pm_shift an_shift cd_shift ct_shift), sl_shift⟩) (c_shift : PySem.W.codeIn K cd_shift "shift" = true) (k_shift : PySem.W.keepIn K (.ref f_shift) = true)
    (a_round_trip : PySem.W.nsIn K mainGlobals "round_trip" = some (some (.ref f_round_trip))) (l_round_trip : K.lookup f_round_trip = some ⟨oc_round_trip, od_round_trip, .func (PySem.W.fnOf "round_trip" "round_trip" (defArgs s_round_trip) (defBody s_round_trip) (defScope s_round_trip) .none kV_round_trip dc_round_trip pm_round_trip an_round_trip cd_round_trip ct_round_trip), sl_round_trip⟩) (c_round_trip : PySem.W.codeIn K cd_round_trip "round_trip" = true) (k_round_trip : PySem.W.keepIn K (.ref f_round_trip) = true)
    (a_plain_offset : PySem.W.nsIn K mainGlobals "plain_offset" = some (some (.ref f_plain_offset))) (l_plain_offset : K.lookup f_plain_offset = some ⟨oc_plain_offset, od_plain_offset, .func (PySem.W.fnOf "plain_offset" "plain_offset" (defArgs s_plain_offset) (defBody s_plain_offset) (defScope s_plain_offset) .none kV_plain_offset dc_plain_offset pm_plain_offset an_plain_offset cd_plain_offset ct_plain_offset), sl_plain_offset⟩) (c_plain_offset : PySem.W.codeIn K cd_plain_offset "plain_offset" = true) (k_plain_offset : PySem.W.keepIn K (.ref f_plain_offset) = true)
    (a__negated : PySem.W.nsIn K mainGlobals "_negated" = some (some (.ref f__negated))) (l__negated : K.lookup f__negated = some ⟨oc__negated, od__negated, .func (PySem.W.fnOf "_negated" "_negated" (defArgs s__negated) (defBody s__negated) (defScope s__negated) .none kV__negated dc__negated pm__negated an__negated cd__negated ct__negated), sl__negated⟩) (c__negated : PySem.W.codeIn K cd__negated "_negated" = true) (k__negated : PySem.W.keepIn K (.ref f__negated) = true)
    (a_offset_span : PySem.W.nsIn K mainGlobals "offset_span" = some (some (.ref f_offset_span))) (l_offset_span : K.lookup f_offset_span = some ⟨oc_offset_span, od_offset_span, .func (PySem.W.fnOf "offset_span" "offset_span" (defArgs s_offset_span) (defBody s_offset_span) (defScope s_offset_span) .none kV_offset_span dc_offset_span pm_offset_span an_offset_span cd_offset_span ct_offset_span), sl_offset_span⟩) (c_offset_span : PySem.W.codeIn K cd_offset_span "offset_span" = true) (k_offset_span : PySem.W.keepIn K (.ref f_offset_span) = true)
    (a__law_store : PySem.W.nsIn K mainGlobals "_law_store" = some (some (.ref f__law_store))) (l__law_store : K.lookup f__law_store = some ⟨oc__law_store, od__law_store, .func (PySem.W.fnOf "_law_store" "_law_store" (defArgs s__law_store) (defBody s__law_store) (defScope s__law_store) .none kV__law_store dc__law_store pm__law_store an__law_store cd__law_store ct__law_store), sl__law_store⟩) (c__law_store : PySem.W.codeIn K cd__law_store "_law_store" = true) (k__law_store : PySem.W.keepIn K (.ref f__law_store) = true)
    (a__law_feed : PySem.W.nsIn K mainGlobals "_law_feed" = some (some (.ref f__law_feed))) (l__law_feed : K.lookup f__law_feed = some ⟨oc__law_feed, od__law_feed, .func (PySem.W.fnOf "_law_feed" "_law_feed" (defArgs s__law_feed) (defBody s__law_feed) (defScope s__law_feed) .none kV__law_feed dc__law_feed pm__law_feed an__law_feed cd__law_feed ct__law_feed), sl__law_feed⟩) (c__law_feed : PySem.W.codeIn K cd__law_feed "_law_feed" = true) (k__law_feed : PySem.W.keepIn K (.ref f__law_feed) = true)
    (a__law_mixed : PySem.W.nsIn K mainGlobals "_law_mixed" = some (some (.ref f__law_mixed))) (l__law_mixed : K.lookup f__law_mixed = some ⟨oc__law_mixed, od__law_mixed, .func (PySem.W.fnOf "_law_mixed" "_law_mixed" (defArgs s__law_mixed) (defBody s__law_mixed) (defScope s__law_mixed) .none kV__law_mixed dc__law_mixed pm__law_mixed an__law_mixed cd__law_mixed ct__law_mixed), sl__law_mixed⟩) (c__law_mixed : PySem.W.codeIn K cd__law_mixed "_law_mixed" = true) (k__law_mixed : PySem.W.keepIn K (.ref f__law_mixed) = true)
    (a__law_take : PySem.W.nsIn K mainGlobals "_law_take" = some (some (.ref f__law_take))) (l__law_take : K.lookup f__law_take = some ⟨oc__law_take, od__law_take, .func (PySem.W.fnOf "_law_take" "_law_take" (defArgs s__law_take) (defBody s__law_take) (defScope s__law_take) .none kV__law_take dc__law_take pm__law_take an__law_take cd__law_take ct__law_take), sl__law_take⟩) (c__law_take : PySem.W.codeIn K cd__law_take "_law_take" = true) (k__law_take : PySem.W.keepIn K (.ref f__law_take) = true)
    (a__law_pick : PySem.W.nsIn K mainGlobals "_law_pick" = some (some (.ref f__law_pick))) (l__law_pick : K.lookup f__law_pick = some ⟨oc__law_pick, od__law_pick, .func (PySem.W.fnOf "_law_pick" "_law_pick" (defArgs s__law_pick) (defBody s__law_pick) (defScope s__law_pick) .none kV__law_pick dc__law_pick pm__law_pick an__law_pick cd__law_pick ct__law_pick), sl__law_pick⟩) (c__law_pick : PySem.W.codeIn K cd__law_pick "_law_pick" = true) (k__law_pick : PySem.W.keepIn K (.ref f__law_pick) = true)
    (a__law_is_int : PySem.W.nsIn K mainGlobals "_law_is_int" = some (some (.ref f__law_is_int))) (l__law_is_int : K.lookup f__law_is_int = some ⟨oc__law_is_int, od__law_is_int, .func (PySem.W.fnOf "_law_is_int" "_law_is_int" (defArgs s__law_is_int) (defBody s__law_is_int) (defScope s__law_is_int) .none kV__law_is_int dc__law_is_int pm__law_is_int an__law_is_int cd__law_is_int ct__law_is_int), sl__law_is_int⟩) (c__law_is_int : PySem.W.codeIn K cd__law_is_int "_law_is_int" = true) (k__law_is_int : PySem.W.keepIn K (.ref f__law_is_int) = true)
    (a__law_same : PySem.W.nsIn K mainGlobals "_law_same" = some (some (.ref f__law_same))) (l__law_same : K.lookup f__law_same = some ⟨oc__law_same, od__law_same, .func (PySem.W.fnOf "_law_same" "_law_same" (defArgs s__law_same) (defBody s__law_same) (defScope s__law_same) .none kV__law_same dc__law_same pm__law_same an__law_same cd__law_same ct__law_same), sl__law_same⟩) (c__law_same : PySem.W.codeIn K cd__law_same "_law_same" = true) (k__law_same : PySem.W.keepIn K (.ref f__law_same) = true)
    (a__law_frac : PySem.W.nsIn K mainGlobals "_law_frac" = some (some (.ref f__law_frac))) (l__law_frac : K.lookup f__law_frac = some ⟨oc__law_frac, od__law_frac, .func (PySem.W.fnOf "_law_frac" "_law_frac" (defArgs s__law_frac) (defBody s__law_frac) (defScope s__law_frac) .none kV__law_frac dc__law_frac pm__law_frac an__law_frac cd__law_frac ct__law_frac), sl__law_frac⟩) (c__law_frac : PySem.W.codeIn K cd__law_frac "_law_frac" = true) (k__law_frac : PySem.W.keepIn K (.ref f__law_frac) = true)
    (a__law_plus : PySem.W.nsIn K mainGlobals "_law_plus" = some (some (.ref f__law_plus))) (l__law_plus : K.lookup f__law_plus = some ⟨oc__law_plus, od__law_plus, .func (PySem.W.fnOf "_law_plus" "_law_plus" (defArgs s__law_plus) (defBody s__law_plus) (defScope s__law_plus) .none kV__law_plus dc__law_plus pm__law_plus an__law_plus cd__law_plus ct__law_plus), sl__law_plus⟩) (c__law_plus : PySem.W.codeIn K cd__law_plus "_law_plus" = true) (k__law_plus : PySem.W.keepIn K (.ref f__law_plus) = true)
    (a__law_minus : PySem.W.nsIn K mainGlobals "_law_minus" = some (some (.ref f__law_minus))) (l__law_minus : K.lookup f__law_minus = some ⟨oc__law_minus, od__law_minus, .func (PySem.W.fnOf "_law_minus" "_law_minus" (defArgs s__law_minus) (defBody s__law_minus) (defScope s__law_minus) .none kV__law_minus dc__law_minus pm__law_minus an__law_minus cd__law_minus ct__law_minus), sl__law_minus⟩) (c__law_minus : PySem.W.codeIn K cd__law_minus "_law_minus" = true) (k__law_minus : PySem.W.keepIn K (.ref f__law_minus) = true)
    (a__law_times : PySem.W.nsIn K mainGlobals "_law_times" = some (some (.ref f__law_times))) (l__law_times : K.lookup f__law_times = some ⟨oc__law_times, od__law_times, .func (PySem.W.fnOf "_law_times" "_law_times" (defArgs s__law_times) (defBody s__law_times) (defScope s__law_times) .none kV__law_times dc__law_times pm__law_times an__law_times cd__law_times ct__law_times), sl__law_times⟩) (c__law_times : PySem.W.codeIn K cd__law_times "_law_times" = true) (k__law_times : PySem.W.keepIn K (.ref f__law_times) = true)
    (a__law_below : PySem.W.nsIn K mainGlobals "_law_below" = some (some (.ref f__law_below))) (l__law_below : K.lookup f__law_below = some ⟨oc__law_below, od__law_below, .func (PySem.W.fnOf "_law_below" "_law_below" (defArgs s__law_below) (defBody s__law_below) (defScope s__law_below) .none kV__law_below dc__law_below pm__law_below an__law_below cd__law_below ct__law_below), sl__law_below⟩) (c__law_below : PySem.W.codeIn K cd__law_below "_law_below" = true) (k__law_below : PySem.W.keepIn K (.ref f__law_below) = true)
    (a__law_is_frac : PySem.W.nsIn K mainGlobals "_law_is_frac" = some (some (.ref f__law_is_frac))) (l__law_is_frac : K.lookup f__law_is_frac = some ⟨oc__law_is_frac, od__law_is_frac, .func (PySem.W.fnOf "_law_is_frac" "_law_is_frac" (defArgs s__law_is_frac) (defBody s__law_is_frac) (defScope s__law_is_frac) .none kV__law_is_frac dc__law_is_frac pm__law_is_frac an__law_is_frac cd__law_is_frac ct__law_is_frac), sl__law_is_frac⟩) (c__law_is_frac : PySem.W.codeIn K cd__law_is_frac "_law_is_frac" = true) (k__law_is_frac : PySem.W.keepIn K (.ref f__law_is_frac) = true)
    (a__law_ratio : PySem.W.nsIn K mainGlobals "_law_ratio" = some (some (.ref f__law_ratio))) (l__law_ratio : K.lookup f__law_ratio = some ⟨oc__law_ratio, od__law_ratio, .func (PySem.W.fnOf "_law_ratio" "_law_ratio" (defArgs s__law_ratio) (defBody s__law_ratio) (defScope s__law_ratio) .none kV__law_ratio dc__law_ratio pm__law_ratio an__law_ratio cd__law_ratio ct__law_ratio), sl__law_ratio⟩) (c__law_ratio : PySem.W.codeIn K cd__law_ratio "_law_ratio" = true) (k__law_ratio : PySem.W.keepIn K (.ref f__law_ratio) = true)
    (a__law_part : PySem.W.nsIn K mainGlobals "_law_part" = some (some (.ref f__law_part))) (l__law_part : K.lookup f__law_part = some ⟨oc__law_part, od__law_part, .func (PySem.W.fnOf "_law_part" "_law_part" (defArgs s__law_part) (defBody s__law_part) (defScope s__law_part) .none kV__law_part dc__law_part pm__law_part an__law_part cd__law_part ct__law_part), sl__law_part⟩) (c__law_part : PySem.W.codeIn K cd__law_part "_law_part" = true) (k__law_part : PySem.W.keepIn K (.ref f__law_part) = true)
    (a__law_spare : PySem.W.nsIn K mainGlobals "_law_spare" = some (some (.ref f__law_spare))) (l__law_spare : K.lookup f__law_spare = some ⟨oc__law_spare, od__law_spare, .func (PySem.W.fnOf "_law_spare" "_law_spare" (defArgs s__law_spare) (defBody s__law_spare) (defScope s__law_spare) .none kV__law_spare dc__law_spare pm__law_spare an__law_spare cd__law_spare ct__law_spare), sl__law_spare⟩) (c__law_spare : PySem.W.codeIn K cd__law_spare "_law_spare" = true) (k__law_spare : PySem.W.keepIn K (.ref f__law_spare) = true)
    (a__law_span : PySem.W.nsIn K mainGlobals "_law_span" = some (some (.ref f__law_span))) (l__law_span : K.lookup f__law_span = some ⟨oc__law_span, od__law_span, .func (PySem.W.fnOf "_law_span" "_law_span" (defArgs s__law_span) (defBody s__law_span) (defScope s__law_span) .none kV__law_span dc__law_span pm__law_span an__law_span cd__law_span ct__law_span), sl__law_span⟩) (c__law_span : PySem.W.codeIn K cd__law_span "_law_span" = true) (k__law_span : PySem.W.keepIn K (.ref f__law_span) = true)
    (a__law_in_span : PySem.W.nsIn K mainGlobals "_law_in_span" = some (some (.ref f__law_in_span))) (l__law_in_span : K.lookup f__law_in_span = some ⟨oc__law_in_span, od__law_in_span, .func (PySem.W.fnOf "_law_in_span" "_law_in_span" (defArgs s__law_in_span) (defBody s__law_in_span) (defScope s__law_in_span) .none kV__law_in_span dc__law_in_span pm__law_in_span an__law_in_span cd__law_in_span ct__law_in_span), sl__law_in_span⟩) (c__law_in_span : PySem.W.codeIn K cd__law_in_span "_law_in_span" = true) (k__law_in_span : PySem.W.keepIn K (.ref f__law_in_span) = true)
    (a__law_ordered : PySem.W.nsIn K mainGlobals "_law_ordered" = some (some (.ref f__law_ordered))) (l__law_ordered : K.lookup f__law_ordered = some ⟨oc__law_ordered, od__law_ordered, .func (PySem.W.fnOf "_law_ordered" "_law_ordered" (defArgs s__law_ordered) (defBody s__law_ordered) (defScope s__law_ordered) .none kV__law_ordered dc__law_ordered pm__law_ordered an__law_ordered cd__law_ordered ct__law_ordered), sl__law_ordered⟩) (c__law_ordered : PySem.W.codeIn K cd__law_ordered "_law_ordered" = true) (k__law_ordered : PySem.W.keepIn K (.ref f__law_ordered) = true)
    (a__law_probes : PySem.W.nsIn K mainGlobals "_law_probes" = some (some (.ref f__law_probes))) (l__law_probes : K.lookup f__law_probes = some ⟨oc__law_probes, od__law_probes, .func (PySem.W.fnOf "_law_probes" "_law_probes" (defArgs s__law_probes) (defBody s__law_probes) (defScope s__law_probes) .none kV__law_probes dc__law_probes pm__law_probes an__law_probes cd__law_probes ct__law_probes), sl__law_probes⟩) (c__law_probes : PySem.W.codeIn K cd__law_probes "_law_probes" = true) (k__law_probes : PySem.W.keepIn K (.ref f__law_probes) = true)
    (a__law_is_span : PySem.W.nsIn K mainGlobals "_law_is_span" = some (some (.ref f__law_is_span))) (l__law_is_span : K.lookup f__law_is_span = some ⟨oc__law_is_span, od__law_is_span, .func (PySem.W.fnOf "_law_is_span" "_law_is_span" (defArgs s__law_is_span) (defBody s__law_is_span) (defScope s__law_is_span) .none kV__law_is_span dc__law_is_span pm__law_is_span an__law_is_span cd__law_is_span ct__law_is_span), sl__law_is_span⟩) (c__law_is_span : PySem.W.codeIn K cd__law_is_span "_law_is_span" = true) (k__law_is_span : PySem.W.keepIn K (.ref f__law_is_span) = true)
    (a__law_stamps : PySem.W.nsIn K mainGlobals "_law_stamps" = some (some (.ref f__law_stamps))) (l__law_stamps : K.lookup f__law_stamps = some ⟨oc__law_stamps, od__law_stamps, .func (PySem.W.fnOf "_law_stamps" "_law_stamps" (defArgs s__law_stamps) (defBody s__law_stamps) (defScope s__law_stamps) .none kV__law_stamps dc__law_stamps pm__law_stamps an__law_stamps cd__law_stamps ct__law_stamps), sl__law_stamps⟩) (c__law_stamps : PySem.W.codeIn K cd__law_stamps "_law_stamps" = true) (k__law_stamps : PySem.W.keepIn K (.ref f__law_stamps) = true)
    (a__law_round : PySem.W.nsIn K mainGlobals "_law_round" = some (some (.ref f__law_round))) (l__law_round : K.lookup f__law_round = some ⟨oc__law_round, od__law_round, .func (PySem.W.fnOf "_law_round" "_law_round" (defArgs s__law_round) (defBody s__law_round) (defScope s__law_round) .none kV__law_round dc__law_round pm__law_round an__law_round cd__law_round ct__law_round), sl__law_round⟩) (c__law_round : PySem.W.codeIn K cd__law_round "_law_round" = true) (k__law_round : PySem.W.keepIn K (.ref f__law_round) = true)
    (a__law_wide_span : PySem.W.nsIn K mainGlobals "_law_wide_span" = some (some (.ref f__law_wide_span))) (l__law_wide_span : K.lookup f__law_wide_span = some ⟨oc__law_wide_span, od__law_wide_span, .func (PySem.W.fnOf "_law_wide_span" "_law_wide_span" (defArgs s__law_wide_span) (defBody s__law_wide_span) (defScope s__law_wide_span) .none kV__law_wide_span dc__law_wide_span pm__law_wide_span an__law_wide_span cd__law_wide_span ct__law_wide_span), sl__law_wide_span⟩) (c__law_wide_span : PySem.W.codeIn K cd__law_wide_span "_law_wide_span" = true) (k__law_wide_span : PySem.W.keepIn K (.ref f__law_wide_span) = true)
    (a__law_drawn : PySem.W.nsIn K mainGlobals "_law_drawn" = some (some (.ref f__law_drawn))) (l__law_drawn : K.lookup f__law_drawn = some ⟨oc__law_drawn, od__law_drawn, .func (PySem.W.fnOf "_law_drawn" "_law_drawn" (defArgs s__law_drawn) (defBody s__law_drawn) (defScope s__law_drawn) .none kV__law_drawn dc__law_drawn pm__law_drawn an__law_drawn cd__law_drawn ct__law_drawn), sl__law_drawn⟩) (c__law_drawn : PySem.W.codeIn K cd__law_drawn "_law_drawn" = true) (k__law_drawn : PySem.W.keepIn K (.ref f__law_drawn) = true)
    (a__law_offsets_ok : PySem.W.nsIn K mainGlobals "_law_offsets_ok" = some (some (.ref f__law_offsets_ok))) (l__law_offsets_ok : K.lookup f__law_offsets_ok = some ⟨oc__law_offsets_ok, od__law_offsets_ok, .func (PySem.W.fnOf "_law_offsets_ok" "_law_offsets_ok" (defArgs s__law_offsets_ok) (defBody s__law_offsets_ok) (defScope s__law_offsets_ok) .none kV__law_offsets_ok dc__law_offsets_ok pm__law_offsets_ok an__law_offsets_ok cd__law_offsets_ok ct__law_offsets_ok), sl__law_offsets_ok⟩) (c__law_offsets_ok : PySem.W.codeIn K cd__law_offsets_ok "_law_offsets_ok" = true) (k__law_offsets_ok : PySem.W.keepIn K (.ref f__law_offsets_ok) = true)
    (a__law_plain_ok : PySem.W.nsIn K mainGlobals "_law_plain_ok" = some (some (.ref f__law_plain_ok))) (l__law_plain_ok : K.lookup f__law_plain_ok = some ⟨oc__law_plain_ok, od__law_plain_ok, .func (PySem.W.fnOf "_law_plain_ok" "_law_plain_ok" (defArgs s__law_plain_ok) (defBody s__law_plain_ok) (defScope s__law_plain_ok) .none kV__law_plain_ok dc__law_plain_ok pm__law_plain_ok an__law_plain_ok cd__law_plain_ok ct__law_plain_ok), sl__law_plain_ok⟩) (c__law_plain_ok : PySem.W.codeIn K cd__law_plain_ok "_law_plain_ok" = true) (k__law_plain_ok : PySem.W.keepIn K (.ref f__law_plain_ok) = true)
    (a__law_half_ok : PySem.W.nsIn K mainGlobals "_law_half_ok" = some (some (.ref f__law_half_ok))) (l__law_half_ok : K.lookup f__law_half_ok = some ⟨oc__law_half_ok, od__law_half_ok, .func (PySem.W.fnOf "_law_half_ok" "_law_half_ok" (defArgs s__law_half_ok) (defBody s__law_half_ok) (defScope s__law_half_ok) .none kV__law_half_ok dc__law_half_ok pm__law_half_ok an__law_half_ok cd__law_half_ok ct__law_half_ok), sl__law_half_ok⟩) (c__law_half_ok : PySem.W.codeIn K cd__law_half_ok "_law_half_ok" = true) (k__law_half_ok : PySem.W.keepIn K (.ref f__law_half_ok) = true)
    (a_law : PySem.W.nsIn K mainGlobals "law" = some (some (.ref f_law))) (l_law : K.lookup f_law = some ⟨oc_law, od_law, .func (PySem.W.fnOf "law" "law" (defArgs s_law) (defBody s_law) (defScope s_law) .none kV_law dc_law pm_law an_law cd_law ct_law), sl_law⟩) (c_law : PySem.W.codeIn K cd_law "law" = true) (k_law : PySem.W.keepIn K (.ref f_law) = true)
    (zgcd : PySem.W.nsIn K mainGlobals "gcd" = some (some (.builtin "math.gcd")))
    (zlen : PySem.W.nsIn K mainGlobals "len" = some none)
    (zabs : PySem.W.nsIn K mainGlobals "abs" = some none)
    (zmax : PySem.W.nsIn K mainGlobals "max" = some none)
    (zint : PySem.W.nsIn K mainGlobals "int" = some none)
    (zisinstance : PySem.W.nsIn K mainGlobals "isinstance" = some none)
    (zrange : PySem.W.nsIn K mainGlobals "range" = some none)
    (zenumerate : PySem.W.nsIn K mainGlobals "enumerate" = some none)
    (zlist : PySem.W.nsIn K mainGlobals "list" = some none)
    (ztuple : PySem.W.nsIn K mainGlobals "tuple" = some none)
    (zstr : PySem.W.nsIn K mainGlobals "str" = some none)
    (zbool : PySem.W.nsIn K mainGlobals "bool" = some none)
    (zdict : PySem.W.nsIn K mainGlobals "dict" = some none)
    : ∃ fd : FuncData, (∀ (s : Shared) (v : Value), BindsTo s fd ⟨[v], []⟩ [("_law_script", v)]) ∧ ∀ base : Heap, K.In base → base.Ns mainGlobals mg → FnOk l.prog w K mg base CX0 7 fa fd ["_law_script"] (spLaw K) := by
  have e := hfa.symm.trans (PySem.W.mg_of X G a_law)
  cases e
  have T : Bn mg := ⟨PySem.W.mg_of X G zgcd, PySem.W.mg_none_of X G zlen, PySem.W.mg_none_of X G zabs, PySem.W.mg_none_of X G zmax, PySem.W.mg_none_of X G zint, PySem.W.mg_none_of X G zisinstance, PySem.W.mg_none_of X G zrange, PySem.W.mg_none_of X G zenumerate, PySem.W.mg_none_of X G zlist, PySem.W.mg_none_of X G ztuple, PySem.W.mg_none_of X G zstr, PySem.W.mg_none_of X G zbool, PySem.W.mg_none_of X G zdict⟩
  have hR_rational : FunD K "rational" "rational" (defArgs s_rational) (defBody s_rational) (defScope s_rational) [.int 1] [] f_rational _ := ⟨⟨_, _, _, _, _, _, _, _, _, _, rfl, l_rational, c_rational, .inr ⟨nofun, dV_rational, _, [.int 1 dtk_rational], dn_rational, rfl, ldf_rational, rfl, .cons ⟨dtk_rational, rfl⟩ .nil⟩, .inl rfl⟩, k_rational⟩
  obtain ⟨ds_rational, rds_rational, bR_rational⟩ := hR_rational.binds1 (ps := ["n", "d"]) 2 1 nofun rfl fun T kV doc pm an cdv ct us its hu hi => match us, its, hu, hi with | [_, _], [_], _, _ => ⟨_, rfl, rfl⟩
  cases rds_rational
  have F_add := fun_mk (st := s_add) l_add c_add k_add
  have B_add := F_add.binds (ps := ["a", "b"]) fun _ _ _ _ _ _ us hl => match us, hl with | [_, _], _ => rfl
  have F_subtract := fun_mk (st := s_subtract) l_subtract c_subtract k_subtract
  have B_subtract := F_subtract.binds (ps := ["a", "b"]) fun _ _ _ _ _ _ us hl => match us, hl with | [_, _], _ => rfl
  have F_multiply := fun_mk (st := s_multiply) l_multiply c_multiply k_multiply
  have B_multiply := F_multiply.binds (ps := ["a", "b"]) fun _ _ _ _ _ _ us hl => match us, hl with | [_, _], _ => rfl
  have F_negate := fun_mk (st := s_negate) l_negate c_negate k_negate
  have B_negate := F_negate.binds (ps := ["a"]) fun _ _ _ _ _ _ us hl => match us, hl with | [_], _ => rfl
  have F_compare := fun_mk (st := s_compare) l_compare c_compare k_compare
  have B_compare := F_compare.binds (ps := ["a", "b"]) fun _ _ _ _ _ _ us hl => match us, hl with | [_, _], _ => rfl
  have F_smaller := fun_mk (st := s_smaller) l_smaller c_smaller k_smaller
  have B_smaller := F_smaller.binds (ps := ["a", "b"]) fun _ _ _ _ _ _ us hl => match us, hl with | [_, _], _ => rfl
  have F_larger := fun_mk (st := s_larger) l_larger c_larger k_larger
  have B_larger := F_larger.binds (ps := ["a", "b"]) fun _ _ _ _ _ _ us hl => match us, hl with | [_, _], _ => rfl
  have F__higher_low := fun_mk (st := s__higher_low) l__higher_low c__higher_low k__higher_low
  have B__higher_low := F__higher_low.binds (ps := ["a", "b"]) fun _ _ _ _ _ _ us hl => match us, hl with | [_, _], _ => rfl
  have F__lower_high := fun_mk (st := s__lower_high) l__lower_high c__lower_high k__lower_high
  have B__lower_high := F__lower_high.binds (ps := ["a", "b"]) fun _ _ _ _ _ _ us hl => match us, hl with | [_, _], _ => rfl
  have F_meet := fun_mk (st := s_meet) l_meet c_meet k_meet
  have B_meet := F_meet.binds (ps := ["a", "b"]) fun _ _ _ _ _ _ us hl => match us, hl with | [_, _], _ => rfl
  have F__moved := fun_mk (st := s__moved) l__moved c__moved k__moved
  have B__moved := F__moved.binds (ps := ["end", "by"]) fun _ _ _ _ _ _ us hl => match us, hl with | [_, _], _ => rfl
  have F_shift := fun_mk (st := s_shift) l_shift c_shift k_shift
  have B_shift := F_shift.binds (ps := ["span", "by"]) fun _ _ _ _ _ _ us hl => match us, hl with | [_, _], _ => rfl
  have F_round_trip := fun_mk (st := s_round_trip) l_round_trip c_round_trip k_round_trip
  have B_round_trip := F_round_trip.binds (ps := ["stamps"]) fun _ _ _ _ _ _ us hl => match us, hl with | [_], _ => rfl
  have F_plain_offset := fun_mk (st := s_plain_offset) l_plain_offset c_plain_offset k_plain_offset
  have B_plain_offset := F_plain_offset.binds (ps := ["stamps"]) fun _ _ _ _ _ _ us hl => match us, hl with | [_], _ => rfl
  have F__negated := fun_mk (st := s__negated) l__negated c__negated k__negated
  have B__negated := F__negated.binds (ps := ["end"]) fun _ _ _ _ _ _ us hl => match us, hl with | [_], _ => rfl
  have F_offset_span := fun_mk (st := s_offset_span) l_offset_span c_offset_span k_offset_span
  have B_offset_span := F_offset_span.binds (ps := ["stamps", "forth", "back"]) fun _ _ _ _ _ _ us hl => match us, hl with | [_, _, _], _ => rfl
  have F__law_store := fun_mk (st := s__law_store) l__law_store c__law_store k__law_store
  have B__law_store := F__law_store.binds (ps := ["_law_script"]) fun _ _ _ _ _ _ us hl => match us, hl with | [_], _ => rfl
  have F__law_feed := fun_mk (st := s__law_feed) l__law_feed c__law_feed k__law_feed
  have B__law_feed := F__law_feed.binds (ps := ["_law_store_here"]) fun _ _ _ _ _ _ us hl => match us, hl with | [_], _ => rfl
  have F__law_mixed := fun_mk (st := s__law_mixed) l__law_mixed c__law_mixed k__law_mixed
  have B__law_mixed := F__law_mixed.binds (ps := ["_law_store_here"]) fun _ _ _ _ _ _ us hl => match us, hl with | [_], _ => rfl
  have F__law_take := fun_mk (st := s__law_take) l__law_take c__law_take k__law_take
  have B__law_take := F__law_take.binds (ps := ["_law_store_here", "_law_many"]) fun _ _ _ _ _ _ us hl => match us, hl with | [_, _], _ => rfl
  have F__law_pick := fun_mk (st := s__law_pick) l__law_pick c__law_pick k__law_pick
  have B__law_pick := F__law_pick.binds (ps := ["_law_store_here", "_law_things"]) fun _ _ _ _ _ _ us hl => match us, hl with | [_, _], _ => rfl
  have F__law_is_int := fun_mk (st := s__law_is_int) l__law_is_int c__law_is_int k__law_is_int
  have B__law_is_int := F__law_is_int.binds (ps := ["_law_value"]) fun _ _ _ _ _ _ us hl => match us, hl with | [_], _ => rfl
  have F__law_same := fun_mk (st := s__law_same) l__law_same c__law_same k__law_same
  have B__law_same := F__law_same.binds (ps := ["_law_value", "_law_due"]) fun _ _ _ _ _ _ us hl => match us, hl with | [_, _], _ => rfl
  have F__law_frac := fun_mk (st := s__law_frac) l__law_frac c__law_frac k__law_frac
  have B__law_frac := F__law_frac.binds (ps := ["_law_n", "_law_d"]) fun _ _ _ _ _ _ us hl => match us, hl with | [_, _], _ => rfl
  have F__law_plus := fun_mk (st := s__law_plus) l__law_plus c__law_plus k__law_plus
  have B__law_plus := F__law_plus.binds (ps := ["_law_a", "_law_b"]) fun _ _ _ _ _ _ us hl => match us, hl with | [_, _], _ => rfl
  have F__law_minus := fun_mk (st := s__law_minus) l__law_minus c__law_minus k__law_minus
  have B__law_minus := F__law_minus.binds (ps := ["_law_a", "_law_b"]) fun _ _ _ _ _ _ us hl => match us, hl with | [_, _], _ => rfl
  have F__law_times := fun_mk (st := s__law_times) l__law_times c__law_times k__law_times
  have B__law_times := F__law_times.binds (ps := ["_law_a", "_law_b"]) fun _ _ _ _ _ _ us hl => match us, hl with | [_, _], _ => rfl
  have F__law_below := fun_mk (st := s__law_below) l__law_below c__law_below k__law_below
  have B__law_below := F__law_below.binds (ps := ["_law_a", "_law_b"]) fun _ _ _ _ _ _ us hl => match us, hl with | [_, _], _ => rfl
  have F__law_is_frac := fun_mk (st := s__law_is_frac) l__law_is_frac c__law_is_frac k__law_is_frac
  have B__law_is_frac := F__law_is_frac.binds (ps := ["_law_value"]) fun _ _ _ _ _ _ us hl => match us, hl with | [_], _ => rfl
  have F__law_ratio := fun_mk (st := s__law_ratio) l__law_ratio c__law_ratio k__law_ratio
  have B__law_ratio := F__law_ratio.binds (ps := ["_law_store_here", "_law_top"]) fun _ _ _ _ _ _ us hl => match us, hl with | [_, _], _ => rfl
  have F__law_part := fun_mk (st := s__law_part) l__law_part c__law_part k__law_part
  have B__law_part := F__law_part.binds (ps := ["_law_store_here"]) fun _ _ _ _ _ _ us hl => match us, hl with | [_], _ => rfl
  have F__law_spare := fun_mk (st := s__law_spare) l__law_spare c__law_spare k__law_spare
  have B__law_spare := F__law_spare.binds (ps := ["_law_store_here"]) fun _ _ _ _ _ _ us hl => match us, hl with | [_], _ => rfl
  have F__law_span := fun_mk (st := s__law_span) l__law_span c__law_span k__law_span
  have B__law_span := F__law_span.binds (ps := ["_law_store_here", "_law_reach"]) fun _ _ _ _ _ _ us hl => match us, hl with | [_, _], _ => rfl
  have F__law_in_span := fun_mk (st := s__law_in_span) l__law_in_span c__law_in_span k__law_in_span
  have B__law_in_span := F__law_in_span.binds (ps := ["_law_span_here", "_law_t"]) fun _ _ _ _ _ _ us hl => match us, hl with | [_, _], _ => rfl
  have F__law_ordered := fun_mk (st := s__law_ordered) l__law_ordered c__law_ordered k__law_ordered
  have B__law_ordered := F__law_ordered.binds (ps := ["_law_fracs"]) fun _ _ _ _ _ _ us hl => match us, hl with | [_], _ => rfl
  have F__law_probes := fun_mk (st := s__law_probes) l__law_probes c__law_probes k__law_probes
  have B__law_probes := F__law_probes.binds (ps := ["_law_spans"]) fun _ _ _ _ _ _ us hl => match us, hl with | [_], _ => rfl
  have F__law_is_span := fun_mk (st := s__law_is_span) l__law_is_span c__law_is_span k__law_is_span
  have B__law_is_span := F__law_is_span.binds (ps := ["_law_value"]) fun _ _ _ _ _ _ us hl => match us, hl with | [_], _ => rfl
  have F__law_stamps := fun_mk (st := s__law_stamps) l__law_stamps c__law_stamps k__law_stamps
  have B__law_stamps := F__law_stamps.binds (ps := ["_law_store_here"]) fun _ _ _ _ _ _ us hl => match us, hl with | [_], _ => rfl
  have F__law_round := fun_mk (st := s__law_round) l__law_round c__law_round k__law_round
  have B__law_round := F__law_round.binds (ps := ["_law_store_here", "_law_x"]) fun _ _ _ _ _ _ us hl => match us, hl with | [_, _], _ => rfl
  have F__law_wide_span := fun_mk (st := s__law_wide_span) l__law_wide_span c__law_wide_span k__law_wide_span
  have B__law_wide_span := F__law_wide_span.binds (ps := ["_law_store_here"]) fun _ _ _ _ _ _ us hl => match us, hl with | [_], _ => rfl
  have F__law_drawn := fun_mk (st := s__law_drawn) l__law_drawn c__law_drawn k__law_drawn
  have B__law_drawn := F__law_drawn.binds (ps := ["_law_store_here"]) fun _ _ _ _ _ _ us hl => match us, hl with | [_], _ => rfl
  have F__law_offsets_ok := fun_mk (st := s__law_offsets_ok) l__law_offsets_ok c__law_offsets_ok k__law_offsets_ok
  have B__law_offsets_ok := F__law_offsets_ok.binds (ps := ["_law_readings", "_law_forth", "_law_back", "_law_told"]) fun _ _ _ _ _ _ us hl => match us, hl with | [_, _, _, _], _ => rfl
  have F__law_plain_ok := fun_mk (st := s__law_plain_ok) l__law_plain_ok c__law_plain_ok k__law_plain_ok
  have B__law_plain_ok := F__law_plain_ok.binds (ps := ["_law_readings", "_law_told"]) fun _ _ _ _ _ _ us hl => match us, hl with | [_, _], _ => rfl
  have F__law_half_ok := fun_mk (st := s__law_half_ok) l__law_half_ok c__law_half_ok k__law_half_ok
  have B__law_half_ok := F__law_half_ok.binds (ps := ["_law_span_here", "_law_told", "_law_plain"]) fun _ _ _ _ _ _ us hl => match us, hl with | [_, _, _], _ => rfl
  have F_law := fun_mk (st := s_law) l_law c_law k_law
  have B_law := F_law.binds (ps := ["_law_script"]) fun _ _ _ _ _ _ us hl => match us, hl with | [_], _ => rfl
  refine ⟨PySem.W.fnOf "law" "law" (defArgs s_law) (defBody s_law) (defScope s_law) .none kV_law dc_law pm_law an_law cd_law ct_law, fun s v => .of_eq rfl, fun base _ _ => ?_⟩
  have ZHALF : Hf K mg aHALF := hf_mk (PySem.W.mg_of X G a0HALF) fun H => .inr ⟨_, _, _, l0HALF, rfl, rfl, (by show 2 ≤ sizeLine; decide), (.cons ⟨tHALF0, rfl⟩ (.cons ⟨tHALF1, rfl⟩ .nil))⟩
  exact law_ok T ZHALF ⟨⟨_, _, _, _, _, _, _, _, _, _, rfl, l_rational, c_rational⟩, k_rational⟩ (PySem.W.mg_of X G a_rational) bR_rational
    ⟨F_add, PySem.W.mg_of X G a_add, B_add⟩
    ⟨F_subtract, PySem.W.mg_of X G a_subtract, B_subtract⟩
    ⟨F_multiply, PySem.W.mg_of X G a_multiply, B_multiply⟩
    ⟨F_negate, PySem.W.mg_of X G a_negate, B_negate⟩
    ⟨F_compare, PySem.W.mg_of X G a_compare, B_compare⟩
    ⟨F_smaller, PySem.W.mg_of X G a_smaller, B_smaller⟩
    ⟨F_larger, PySem.W.mg_of X G a_larger, B_larger⟩
    ⟨F__higher_low, PySem.W.mg_of X G a__higher_low, B__higher_low⟩
    ⟨F__lower_high, PySem.W.mg_of X G a__lower_high, B__lower_high⟩
    ⟨F_meet, PySem.W.mg_of X G a_meet, B_meet⟩
    ⟨F__moved, PySem.W.mg_of X G a__moved, B__moved⟩
    ⟨F_shift, PySem.W.mg_of X G a_shift, B_shift⟩
    ⟨F_round_trip, PySem.W.mg_of X G a_round_trip, B_round_trip⟩
    ⟨F_plain_offset, PySem.W.mg_of X G a_plain_offset, B_plain_offset⟩
    ⟨F__negated, PySem.W.mg_of X G a__negated, B__negated⟩
    ⟨F_offset_span, PySem.W.mg_of X G a_offset_span, B_offset_span⟩
    ⟨F__law_store, PySem.W.mg_of X G a__law_store, B__law_store⟩
    ⟨F__law_feed, PySem.W.mg_of X G a__law_feed, B__law_feed⟩
    ⟨F__law_mixed, PySem.W.mg_of X G a__law_mixed, B__law_mixed⟩
    ⟨F__law_take, PySem.W.mg_of X G a__law_take, B__law_take⟩
    ⟨F__law_pick, PySem.W.mg_of X G a__law_pick, B__law_pick⟩
    ⟨F__law_is_int, PySem.W.mg_of X G a__law_is_int, B__law_is_int⟩
    ⟨F__law_same, PySem.W.mg_of X G a__law_same, B__law_same⟩
    ⟨F__law_frac, PySem.W.mg_of X G a__law_frac, B__law_frac⟩
    ⟨F__law_plus, PySem.W.mg_of X G a__law_plus, B__law_plus⟩
    ⟨F__law_minus, PySem.W.mg_of X G a__law_minus, B__law_minus⟩
    ⟨F__law_times, PySem.W.mg_of X G a__law_times, B__law_times⟩
    ⟨F__law_below, PySem.W.mg_of X G a__law_below, B__law_below⟩
    ⟨F__law_is_frac, PySem.W.mg_of X G a__law_is_frac, B__law_is_frac⟩
    ⟨F__law_ratio, PySem.W.mg_of X G a__law_ratio, B__law_ratio⟩
    ⟨F__law_part, PySem.W.mg_of X G a__law_part, B__law_part⟩
    ⟨F__law_spare, PySem.W.mg_of X G a__law_spare, B__law_spare⟩
    ⟨F__law_span, PySem.W.mg_of X G a__law_span, B__law_span⟩
    ⟨F__law_in_span, PySem.W.mg_of X G a__law_in_span, B__law_in_span⟩
    ⟨F__law_ordered, PySem.W.mg_of X G a__law_ordered, B__law_ordered⟩
    ⟨F__law_probes, PySem.W.mg_of X G a__law_probes, B__law_probes⟩
    ⟨F__law_is_span, PySem.W.mg_of X G a__law_is_span, B__law_is_span⟩
    ⟨F__law_stamps, PySem.W.mg_of X G a__law_stamps, B__law_stamps⟩
    ⟨F__law_round, PySem.W.mg_of X G a__law_round, B__law_round⟩
    ⟨F__law_wide_span, PySem.W.mg_of X G a__law_wide_span, B__law_wide_span⟩
    ⟨F__law_drawn, PySem.W.mg_of X G a__law_drawn, B__law_drawn⟩
    ⟨F__law_offsets_ok, PySem.W.mg_of X G a__law_offsets_ok, B__law_offsets_ok⟩
    ⟨F__law_plain_ok, PySem.W.mg_of X G a__law_plain_ok, B__law_plain_ok⟩
    ⟨F__law_half_ok, PySem.W.mg_of X G a__law_half_ok, B__law_half_ok⟩
    ⟨F_law, PySem.W.mg_of X G a_law, B_law⟩
theorem walk {l : PySem.W.OpenLaw} {q : Program} {loose : List Str} {XP : (Str → Option Value) → Heap → Prop} {YP : World → Heap → Prop} {d : DefRec} {K : Params → PySem.W.Frag} (hn : l.most = some 63) (hdf : d.params.defaults = [])
    (hY : ∀ (w : World) (h : Heap), YP w h → (K w.params).In h)
    (F : ∀ (w : World) (mg : Str → Option Value) (fa : Addr) (h : Heap), (K w.params).In h → h.Ns mainGlobals mg → mg d.name = some (.ref fa) →
      ∃ fd : FuncData, (∀ (s : Shared) (u : Value), BindsTo s fd ⟨[u], []⟩ [("_law_script", u)]) ∧ ∀ base : Heap, (K w.params).In base → base.Ns mainGlobals mg → FnOk l.prog w (K w.params) mg base CX0 7 fa fd ["_law_script"] (spLaw (K w.params))) :
    PySem.W.WalkO q loose XP YP l.row.toRowW d [] (fun f vs => PySem.call f vs) :=
  L2.walk_of (n := 63) (k := 7) (x := "_law_script") (CX := fun _ => CX0) (sp := fun w => spLaw (K w.params)) hn (by decide) hdf ⟨rfl, by decide, by decide⟩ hY F (fun _ _ a ns hl _ hS => ⟨a, ns, rfl, hS, hl, fun _ => rfl⟩) fun _ _ _ _ _ z => z
end Vk
open PySem PySem.W PyProof.Rows
set_option maxRecDepth 100000 in
set_option maxHeartbeats 0 in
theorem PySem.Challenge.cw_clockverdict_k15_offset_span_holds : PySem.Challenge.rw_clockverdict_k15_offset_span.Holds := by
  w_on; o_law; k_head; (case hw => w_witness2)
  k_fill
  refine Vk.walk (l := PySem.Challenge.rw_clockverdict_k15_offset_span) rfl rfl (fun w h Y => PySem.W.kIn_of Y) ?F
  case F =>
    intro w mg fa h KX G hmg
    refine' Vk.all_mk KX G hmg ?ldf_rational ?a0HALF ?l0HALF ?a_rational ?l_rational ?c_rational ?k_rational ?a_add ?l_add ?c_add ?k_add ?a_subtract ?l_subtract ?c_subtract ?k_subtract ?a_multiply ?l_multiply ?c_multiply ?k_multiply ?a_negate ?l_negate ?c_negate ?k_negate ?a_compare ?l_compare ?c_compare ?k_compare ?a_smaller ?l_smaller ?c_smaller ?k_smaller ?a_larger ?l_larger ?c_larger ?k_larger ?a__higher_low ?l__higher_low ?c__higher_low ?k__higher_low ?a__lower_high ?l__lower_high ?c__lower_high ?k__lower_high ?a_meet ?l_meet ?c_meet ?k_meet ?a__moved ?l__moved ?c__moved ?k__moved ?a_shift ?l_shift ?c_shift ?k_shift ?a_round_trip ?l_round_trip ?c_round_trip ?k_round_trip ?a_plain_offset ?l_plain_offset ?c_plain_offset ?k_plain_offset ?a__negated ?l__negated ?c__negated ?k__negated ?a_offset_span ?l_offset_span ?c_offset_span ?k_offset_span ?a__law_store ?l__law_store ?c__law_store ?k__law_store ?a__law_feed ?l__law_feed ?c__law_feed ?k__law_feed ?a__law_mixed ?l__law_mixed ?c__law_mixed ?k__law_mixed ?a__law_take ?l__law_take ?c__law_take ?k__law_take ?a__law_pick ?l__law_pick ?c__law_pick ?k__law_pick ?a__law_is_int ?l__law_is_int ?c__law_is_int ?k__law_is_int ?a__law_same ?l__law_same ?c__law_same ?k__law_same ?a__law_frac ?l__law_frac ?c__law_frac ?k__law_frac ?a__law_plus ?l__law_plus ?c__law_plus ?k__law_plus ?a__law_minus ?l__law_minus ?c__law_minus ?k__law_minus ?a__law_times ?l__law_times ?c__law_times ?k__law_times ?a__law_below ?l__law_below ?c__law_below ?k__law_below ?a__law_is_frac ?l__law_is_frac ?c__law_is_frac ?k__law_is_frac ?a__law_ratio ?l__law_ratio ?c__law_ratio ?k__law_ratio ?a__law_part ?l__law_part ?c__law_part ?k__law_part ?a__law_spare ?l__law_spare ?c__law_spare ?k__law_spare ?a__law_span ?l__law_span ?c__law_span ?k__law_span ?a__law_in_span ?l__law_in_span ?c__law_in_span ?k__law_in_span ?a__law_ordered ?l__law_ordered ?c__law_ordered ?k__law_ordered ?a__law_probes ?l__law_probes ?c__law_probes ?k__law_probes ?a__law_is_span ?l__law_is_span ?c__law_is_span ?k__law_is_span ?a__law_stamps ?l__law_stamps ?c__law_stamps ?k__law_stamps ?a__law_round ?l__law_round ?c__law_round ?k__law_round ?a__law_wide_span ?l__law_wide_span ?c__law_wide_span ?k__law_wide_span ?a__law_drawn ?l__law_drawn ?c__law_drawn ?k__law_drawn ?a__law_offsets_ok ?l__law_offsets_ok ?c__law_offsets_ok ?k__law_offsets_ok ?a__law_plain_ok ?l__law_plain_ok ?c__law_plain_ok ?k__law_plain_ok ?a__law_half_ok ?l__law_half_ok ?c__law_half_ok ?k__law_half_ok ?a_law ?l_law ?c_law ?k_law ?zgcd ?zlen ?zabs ?zmax ?zint ?zisinstance ?zrange ?zenumerate ?zlist ?ztuple ?zstr ?zbool ?zdict
    (case a_rational => k_is); (case l_rational => k_is); (case c_rational => k_is); (case k_rational => k_is)
    (case a_add => k_is); (case l_add => k_is); (case c_add => k_is); (case k_add => k_is)
    (case a_subtract => k_is); (case l_subtract => k_is); (case c_subtract => k_is); (case k_subtract => k_is)
    (case a_multiply => k_is); (case l_multiply => k_is); (case c_multiply => k_is); (case k_multiply => k_is)
    (case a_negate => k_is); (case l_negate => k_is); (case c_negate => k_is); (case k_negate => k_is)
    (case a_compare => k_is); (case l_compare => k_is); (case c_compare => k_is); (case k_compare => k_is)
    (case a_smaller => k_is); (case l_smaller => k_is); (case c_smaller => k_is); (case k_smaller => k_is)
    (case a_larger => k_is); (case l_larger => k_is); (case c_larger => k_is); (case k_larger => k_is)
    (case a__higher_low => k_is); (case l__higher_low => k_is); (case c__higher_low => k_is); (case k__higher_low => k_is)
    (case a__lower_high => k_is); (case l__lower_high => k_is); (case c__lower_high => k_is); (case k__lower_high => k_is)
    (case a_meet => k_is); (case l_meet => k_is); (case c_meet => k_is); (case k_meet => k_is)
    (case a__moved => k_is); (case l__moved => k_is); (case c__moved => k_is); (case k__moved => k_is)
    (case a_shift => k_is); (case l_shift => k_is); (case c_shift => k_is); (case k_shift => k_is)
    (case a_round_trip => k_is); (case l_round_trip => k_is); (case c_round_trip => k_is); (case k_round_trip => k_is)
    (case a_plain_offset => k_is); (case l_plain_offset => k_is); (case c_plain_offset => k_is); (case k_plain_offset => k_is)
    (case a__negated => k_is); (case l__negated => k_is); (case c__negated => k_is); (case k__negated => k_is)
    (case a_offset_span => k_is); (case l_offset_span => k_is); (case c_offset_span => k_is); (case k_offset_span => k_is)
    (case a__law_store => k_is); (case l__law_store => k_is); (case c__law_store => k_is); (case k__law_store => k_is)
    (case a__law_feed => k_is); (case l__law_feed => k_is); (case c__law_feed => k_is); (case k__law_feed => k_is)
    (case a__law_mixed => k_is); (case l__law_mixed => k_is); (case c__law_mixed => k_is); (case k__law_mixed => k_is)
    (case a__law_take => k_is); (case l__law_take => k_is); (case c__law_take => k_is); (case k__law_take => k_is)
    (case a__law_pick => k_is); (case l__law_pick => k_is); (case c__law_pick => k_is); (case k__law_pick => k_is)
    (case a__law_is_int => k_is); (case l__law_is_int => k_is); (case c__law_is_int => k_is); (case k__law_is_int => k_is)
    (case a__law_same => k_is); (case l__law_same => k_is); (case c__law_same => k_is); (case k__law_same => k_is)
    (case a__law_frac => k_is); (case l__law_frac => k_is); (case c__law_frac => k_is); (case k__law_frac => k_is)
    (case a__law_plus => k_is); (case l__law_plus => k_is); (case c__law_plus => k_is); (case k__law_plus => k_is)
    (case a__law_minus => k_is); (case l__law_minus => k_is); (case c__law_minus => k_is); (case k__law_minus => k_is)
    (case a__law_times => k_is); (case l__law_times => k_is); (case c__law_times => k_is); (case k__law_times => k_is)
    (case a__law_below => k_is); (case l__law_below => k_is); (case c__law_below => k_is); (case k__law_below => k_is)
    (case a__law_is_frac => k_is); (case l__law_is_frac => k_is); (case c__law_is_frac => k_is); (case k__law_is_frac => k_is)
    (case a__law_ratio => k_is); (case l__law_ratio => k_is); (case c__law_ratio => k_is); (case k__law_ratio => k_is)
    (case a__law_part => k_is); (case l__law_part => k_is); (case c__law_part => k_is); (case k__law_part => k_is)
    (case a__law_spare => k_is); (case l__law_spare => k_is); (case c__law_spare => k_is); (case k__law_spare => k_is)
    (case a__law_span => k_is); (case l__law_span => k_is); (case c__law_span => k_is); (case k__law_span => k_is)
    (case a__law_in_span => k_is); (case l__law_in_span => k_is); (case c__law_in_span => k_is); (case k__law_in_span => k_is)
    (case a__law_ordered => k_is); (case l__law_ordered => k_is); (case c__law_ordered => k_is); (case k__law_ordered => k_is)
    (case a__law_probes => k_is); (case l__law_probes => k_is); (case c__law_probes => k_is); (case k__law_probes => k_is)
    (case a__law_is_span => k_is); (case l__law_is_span => k_is); (case c__law_is_span => k_is); (case k__law_is_span => k_is)
    (case a__law_stamps => k_is); (case l__law_stamps => k_is); (case c__law_stamps => k_is); (case k__law_stamps => k_is)
    (case a__law_round => k_is); (case l__law_round => k_is); (case c__law_round => k_is); (case k__law_round => k_is)
    (case a__law_wide_span => k_is); (case l__law_wide_span => k_is); (case c__law_wide_span => k_is); (case k__law_wide_span => k_is)
    (case a__law_drawn => k_is); (case l__law_drawn => k_is); (case c__law_drawn => k_is); (case k__law_drawn => k_is)
    (case a__law_offsets_ok => k_is); (case l__law_offsets_ok => k_is); (case c__law_offsets_ok => k_is); (case k__law_offsets_ok => k_is)
    (case a__law_plain_ok => k_is); (case l__law_plain_ok => k_is); (case c__law_plain_ok => k_is); (case k__law_plain_ok => k_is)
    (case a__law_half_ok => k_is); (case l__law_half_ok => k_is); (case c__law_half_ok => k_is); (case k__law_half_ok => k_is)
    (case a_law => k_is); (case l_law => k_is); (case c_law => k_is); (case k_law => k_is)
    (case ldf_rational => k_is)
    (case a0HALF => k_is); (case l0HALF => k_is)
    (case zgcd => k_is)
    (case zlen => k_is)
    (case zabs => k_is)
    (case zmax => k_is)
    (case zint => k_is)
    (case zisinstance => k_is)
    (case zrange => k_is)
    (case zenumerate => k_is)
    (case zlist => k_is)
    (case ztuple => k_is)
    (case zstr => k_is)
    (case zbool => k_is)
    (case zdict => k_is)

