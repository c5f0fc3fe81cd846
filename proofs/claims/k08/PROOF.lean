import PyProof.Rows.All
import Wide.All
import OpenK.AllK
import Wide.FinOn
import HandS.ForMost
import HandS.Wide
import HandS.Gcd
import HandS.IsInst
import HandS.Deep
import HandS.Flow
import HandS.More
import HandS.SetFor
import HandS.Defaults
import PySem.Challenge.RW_clockverdict_k08_tidy_and_jumps
set_option Elab.async false
set_option linter.all false
set_option maxRecDepth 100000
namespace Vm
/-! ### sizes of rationals -/
def Sz (k : Nat) (q : Rat) : Prop := q.num.natAbs < 2 ^ k ∧ q.den < 2 ^ k
theorem Sz.mono {a b : Nat} {q : Rat} (h : Sz a q) (l : a ≤ b) : Sz b q :=
  ⟨Nat.lt_of_lt_of_le h.1 (Nat.pow_le_pow_right (by decide) l), Nat.lt_of_lt_of_le h.2 (Nat.pow_le_pow_right (by decide) l)⟩
theorem mk_num (n : Int) {d : Nat} (hd : d ≠ 0) : (mkRat n d).num = n / ((Nat.gcd n.natAbs d : Nat) : Int) := by
  rw [Rat.num_mkRat, if_neg hd, Nat.gcd_comm]
theorem mk_den (n : Int) {d : Nat} (hd : d ≠ 0) : (mkRat n d).den = d / Nat.gcd n.natAbs d := by
  rw [Rat.den_mkRat, if_neg hd, Nat.gcd_comm]
theorem sz_mk {n : Int} {d k : Nat} (h : d ≠ 0) (hn : n.natAbs < 2 ^ k) (hd : d < 2 ^ k) : Sz k (mkRat n d) := by
  have e : ∀ (z : Int) (g : Nat), (z / (g : Int)).natAbs ≤ z.natAbs := fun z g => Int.natAbs_ediv_le_natAbs z g
  exact ⟨by rw [mk_num n h]; exact Nat.lt_of_le_of_lt (e _ _) hn, by rw [mk_den n h]; exact Nat.lt_of_le_of_lt (Nat.div_le_self _ _) hd⟩
theorem lt_mul {a b i j : Nat} (h : a < 2 ^ i) (l : b < 2 ^ j) : a * b < 2 ^ (i + j) := by
  rw [Nat.pow_add]
  exact Nat.mul_lt_mul'' h l
theorem Sz.add {a b : Nat} {p q : Rat} (h : Sz a p) (l : Sz b q) : Sz (a + b + 1) (p + q) := by
  rw [Rat.add_def']
  have h1 := lt_mul h.1 l.2
  have h2 := lt_mul l.1 h.2
  have h3 := lt_mul h.2 l.2
  rw [Nat.add_comm b a] at h2
  refine sz_mk (Nat.ne_of_gt (Nat.mul_pos p.den_pos q.den_pos)) ?_ ?_
  · rw [Nat.pow_succ]
    have q1 := Int.natAbs_add_le (p.num * q.den) (q.num * p.den)
    rw [Int.natAbs_mul, Int.natAbs_mul, Int.natAbs_natCast, Int.natAbs_natCast] at q1
    omega
  · rw [Nat.pow_succ]
    omega
theorem Sz.neg {a : Nat} {p : Rat} (h : Sz a p) : Sz a (-p) := ⟨by rw [Rat.neg_num, Int.natAbs_neg]; exact h.1, h.2⟩
theorem Sz.sub {a b : Nat} {p q : Rat} (h : Sz a p) (l : Sz b q) : Sz (a + b + 1) (p - q) := by
  rw [Rat.sub_eq_add_neg]
  exact h.add l.neg
theorem Sz.mul {a b : Nat} {p q : Rat} (h : Sz a p) (l : Sz b q) : Sz (a + b) (p * q) := by
  rw [Rat.mul_def']
  refine sz_mk (Nat.ne_of_gt (Nat.mul_pos p.den_pos q.den_pos)) ?_ (lt_mul h.2 l.2)
  rw [Int.natAbs_mul]
  exact lt_mul h.1 l.1
theorem num_pos {q : Rat} (h : 0 < q) : 0 < q.num := by
  have z := (Rat.lt_iff 0 q).mp h
  simp at z
  exact z
theorem pos_of_num {q : Rat} (h : 0 < q.num) : 0 < q := by
  rw [Rat.lt_iff]
  simp
  exact h
theorem Sz.inv {a : Nat} {q : Rat} (h : Sz a q) (hq : 0 < q) : Sz a q⁻¹ := by
  have hn := num_pos hq
  refine ⟨?_, ?_⟩
  · rw [Rat.num_inv, Int.sign_eq_one_of_pos hn, Int.one_mul, Int.natAbs_natCast]
    exact h.2
  · rw [Rat.den_inv, if_neg (by omega)]
    exact h.1
theorem Sz.div {a b : Nat} {p q : Rat} (h : Sz a p) (l : Sz b q) (hq : 0 < q) : Sz (a + b) (p / q) := by
  rw [Rat.div_def]
  exact h.mul (l.inv hq)
/-! ### normal forms -/
theorem nf {n : Int} {d : Nat} (hd : d ≠ 0) (hc : Nat.gcd n.natAbs d = 1) : (mkRat n d).num = n ∧ (mkRat n d).den = d := by
  rw [mk_num n hd, mk_den n hd, hc]
  simp
theorem div_mk (p q : Rat) (hq : 0 < q) : p / q = mkRat (p.num * q.den) (p.den * q.num.toNat) := by
  have hn := num_pos hq
  rw [Rat.div_def, Rat.mul_def', Rat.num_inv, Rat.den_inv, if_neg (by omega), Int.sign_eq_one_of_pos hn, Int.one_mul]
  congr 2
  omega
/-- the sum by the divisors of the denominators alone -/
theorem add_parts (a b : Rat) (g f : Nat) (n : Int) (r : Nat) (hg : g = Nat.gcd a.den b.den) (hf : f = b.den / g) (hn : n = a.num * f + b.num * ((a.den / g : Nat) : Int)) (hr : r = Nat.gcd n.natAbs g) :
    (a + b).num = n / (r : Int) ∧ (a + b).den = a.den / r * f := by
  have gp : 0 < g := by rw [hg]; exact Nat.gcd_pos_of_pos_left _ a.den_pos
  obtain ⟨u, hu⟩ : g ∣ a.den := by rw [hg]; exact Nat.gcd_dvd_left _ _
  obtain ⟨v, hv⟩ : g ∣ b.den := by rw [hg]; exact Nat.gcd_dvd_right _ _
  have eu : a.den / g = u := by rw [hu]; exact Nat.mul_div_cancel_left _ gp
  have ev : f = v := by rw [hf, hv]; exact Nat.mul_div_cancel_left _ gp
  subst ev
  rw [eu] at hn
  have up : 0 < u := Nat.pos_of_ne_zero fun z => by rw [z, Nat.mul_zero] at hu; exact absurd hu (Nat.ne_of_gt a.den_pos)
  have fp : 0 < f := Nat.pos_of_ne_zero fun z => by rw [z, Nat.mul_zero] at hv; exact absurd hv (Nat.ne_of_gt b.den_pos)
  have cuf : Nat.Coprime u f := by
    have z : g * Nat.gcd u f = g := by rw [← Nat.gcd_mul_left, ← hu, ← hv, ← hg]
    exact Nat.eq_of_mul_eq_mul_left gp (by rw [z, Nat.mul_one])
  have ca : Nat.Coprime a.num.natAbs u := (Nat.Coprime.coprime_dvd_right ⟨g, by rw [hu, Nat.mul_comm]⟩ a.reduced)
  have cb : Nat.Coprime b.num.natAbs f := (Nat.Coprime.coprime_dvd_right ⟨g, by rw [hv, Nat.mul_comm]⟩ b.reduced)
  have key : ∀ (x y z : Int) (m : Nat), x = y + z * m → Nat.gcd x.natAbs m = Nat.gcd y.natAbs m := by
    intro x y z m h
    have e : ∀ t : Int, Nat.gcd t.natAbs m = Int.gcd t m := fun t => by rw [Int.gcd]; simp
    rw [e, e, h, Int.gcd_add_mul_right_left]
  have cnu : Nat.Coprime n.natAbs u := by
    have z := key n (a.num * f) b.num u hn
    unfold Nat.Coprime
    rw [z, Int.natAbs_mul, Int.natAbs_natCast]
    exact Nat.Coprime.mul_left ca cuf.symm
  have cnf : Nat.Coprime n.natAbs f := by
    have z := key n (b.num * u) a.num f (by rw [hn, Int.add_comm])
    unfold Nat.Coprime
    rw [z, Int.natAbs_mul, Int.natAbs_natCast]
    exact Nat.Coprime.mul_left cb cuf
  have cn : Nat.Coprime n.natAbs (u * f) := Nat.Coprime.mul_right cnu cnf
  have er : Nat.gcd n.natAbs (g * (u * f)) = r := by
    rw [hr]
    exact Nat.Coprime.gcd_mul_right_cancel_right g cn.symm
  have es : a + b = mkRat n (g * (u * f)) := by
    rw [Rat.add_def', hu, hv, hn]
    have z := Rat.mkRat_mul_left (n := a.num * f + b.num * u) (d := g * (u * f)) (a := g) (by omega)
    rw [← z]
    congr 1
    · push_cast
      grind
    · grind
  have dn : g * (u * f) ≠ 0 := Nat.ne_of_gt (Nat.mul_pos gp (Nat.mul_pos up fp))
  have rg : r ∣ g := by rw [hr]; exact Nat.gcd_dvd_right _ _
  refine ⟨by rw [es, mk_num n dn, er], ?_⟩
  rw [es, mk_den n dn, er, hu]
  obtain ⟨w, hw⟩ := rg
  have rp : 0 < r := Nat.pos_of_ne_zero fun z => by rw [z, Nat.zero_mul] at hw; omega
  rw [hw, Nat.mul_assoc, Nat.mul_div_cancel_left _ rp, Nat.mul_assoc, Nat.mul_div_cancel_left _ rp, Nat.mul_assoc]
/-! ### what the cross products make -/
theorem tn (a b : Nat) : ((a : Int) * (b : Int)).toNat = a * b := by
  rw [← Int.natCast_mul]
  rfl
theorem mk_add (p q : Rat) : mkRat (p.num * (q.den : Int) + q.num * (p.den : Int)) ((p.den : Int) * (q.den : Int)).toNat = p + q := by rw [tn, Rat.add_def']
theorem mk_sub (p q : Rat) : mkRat (p.num * (q.den : Int) - q.num * (p.den : Int)) ((p.den : Int) * (q.den : Int)).toNat = p - q := by rw [tn, Rat.sub_def']
theorem mk_mul (p q : Rat) : mkRat (p.num * q.num) ((p.den : Int) * (q.den : Int)).toNat = p * q := by rw [tn, Rat.mul_def']
theorem dd_pos (p q : Rat) : 0 < (p.den : Int) * (q.den : Int) := Int.mul_pos (by have := p.den_pos; omega) (by have := q.den_pos; omega)
theorem ab_mul {i j : Int} {a b : Nat} (h : i.natAbs < 2 ^ a) (l : j.natAbs < 2 ^ b) : (i * j).natAbs < 2 ^ (a + b) := by
  rw [Int.natAbs_mul]
  exact lt_mul h l
theorem ab_add {i j : Int} {a : Nat} (h : i.natAbs < 2 ^ a) (l : j.natAbs < 2 ^ a) : (i + j).natAbs < 2 ^ (a + 1) := by
  rw [Nat.pow_succ]
  omega
theorem ab_sub {i j : Int} {a : Nat} (h : i.natAbs < 2 ^ a) (l : j.natAbs < 2 ^ a) : (i - j).natAbs < 2 ^ (a + 1) := by
  rw [Nat.pow_succ]
  omega
theorem ab_up {i : Int} {a b : Nat} (h : i.natAbs < 2 ^ a) (l : a ≤ b) : i.natAbs < 2 ^ b := Nat.lt_of_lt_of_le h (Nat.pow_le_pow_right (by decide) l)
theorem ab_le {i j : Int} {a : Nat} (h : i.natAbs < 2 ^ a) (l : j.natAbs ≤ i.natAbs) : j.natAbs < 2 ^ a := Nat.lt_of_le_of_lt l h
theorem nn {m : Nat} {p : Rat} (h : Sz m p) : 0 < m := by
  cases m with
  | zero => have := h.2; have := p.den_pos; simp at *; omega
  | succ m => exact Nat.succ_pos _
theorem dA {m : Nat} {p : Rat} (h : Sz m p) : ((p.den : Nat) : Int).natAbs < 2 ^ m := h.2
theorem lt_num {p q : Rat} : p < q ↔ p.num * (q.den : Int) < q.num * (p.den : Int) := Rat.lt_iff p q
theorem eq_num {p q : Rat} : p = q ↔ p.num * (q.den : Int) = q.num * (p.den : Int) := Rat.eq_iff_mul_eq_mul
end Vm
namespace Vk
open PySem L2
/-! ### defs as they stand, and with a promise -/
structure Fn (K : PySem.W.Frag) (mg : Str → Option Value) (x : Str) (st : Stmt) (ps : List Str) (f : Addr) (fd : FuncData) : Prop where
  F : Fun K x x st f fd
  m : mg x = some (.ref f)
  b : Binds K fd ps []
structure Def (P : Program) (w : World) (K : PySem.W.Frag) (mg : Str → Option Value) (base : Heap) (k : Nat) (x : Str) (ps : List Str) (sp : Sp) (f : Addr) (fd : FuncData) : Prop where
  ok : FnOk P w K mg base CX0 k f fd ps sp
  m : mg x = some (.ref f)
  kp : PySem.W.keepIn K (.ref f) = true
  b : Binds K fd ps []
theorem Def.up {P : Program} {w : World} {K : PySem.W.Frag} {mg : Str → Option Value} {base : Heap} {j k : Nat} {x : Str} {ps : List Str} {sp : Sp} {f : Addr} {fd : FuncData} (d : Def P w K mg base j x ps sp f fd) (h : j ≤ k) : Def P w K mg base k x ps sp f fd := ⟨d.ok.mono h, d.m, d.kp, d.b⟩
theorem pcall {X : Cx} {k : Nat} {f : Addr} {fd : FuncData} {ps : List Str} {sp : Sp} {x : Str} {p pos : Pos} {e : Expr} {es : List Expr} {t : TA} (D : Def X.prog X.w X.K X.mg X.base k x ps sp f fd) (hr : Room k X.A) (ha : PA X (e :: es) t)
    (hg : Gl X x := by rfl) (hdb : (x == ("__debug__" : Str)) = false := by decide) (he : starEach (e :: es) X.env = (false, eval e X.env) :: starEach es X.env := by rfl) (hpl : (backTo pos (starEach es X.env)).any (·.1) = false := by rfl) :
    PE X (.Call (.Name x p) (e :: es) [] pos) (tCall sp [] E0 t) := pe_call D.ok hr hg D.m D.kp D.b .nil pass0 ha hdb he hpl
/-- a def as it stands, whatever its defaults are -/
structure FunA (K : PySem.W.Frag) (x qual : Str) (st : Stmt) (f : Addr) (fd : FuncData) : Prop where
  ex : ∃ (oc : Value) (od : Option Addr) (dV kV doc pm : Value) (an : Option Addr) (cdv ct : Value) (osl : Array (Option Value)),
    fd = PySem.W.fnOf x qual (defArgs st) (defBody st) (defScope st) dV kV doc pm an cdv ct ∧ K.lookup f = some ⟨oc, od, .func fd, osl⟩ ∧ PySem.W.codeIn K cdv qual = true
  kp : PySem.W.keepIn K (.ref f) = true
theorem FunA.ok {P : Program} {w : World} {K : PySem.W.Frag} {mg : Str → Option Value} {base : Heap} {x qual : Str} {st : Stmt} {f : Addr} {fd : FuncData} {N ps : List Str} {k : Nat} {sp : Sp} (F : FunA K x qual st f fd) (S : FnScope N ps (defScope st)) (len : ∀ vs H Q E, sp vs H Q E → vs.length = ps.length)
    (hbody : ∀ (cdv : Value) (A : Around) (outer : List Env) (s : Shared) (H : Hp) (vs : List V) (Q : VK) (E : XK), Room k (A.deeper (PyProof.Rows.envOfC qual (defScope st) s.heap.objs.size f cdv)) → sp vs H Q E →
      ∃ t, PSs (cxOf CX0 P w K mg base N qual (defScope st) f cdv A outer s H E).nox (defBody st) t ∧ t { nx := fun _ H' => Q .non H', rt := Q } (start N vs) H) : FnOk P w K mg base CX0 (k + 1) f fd ps sp := by
  obtain ⟨oc, od, dV, kV, doc, pm, an, cdv, ct, osl, rfl, lk, hcd⟩ := F.ex
  refine fn_of lk hcd S len fun A outer s H vs Q E hr hsp => ?_
  obtain ⟨t, h, q⟩ := hbody cdv A outer s H vs Q E hr hsp
  exact ⟨t, h.nox, q⟩
/-- the built-in names as the top leaves them -/
structure Bn (mg : Str → Option Value) : Prop where
  gcd_ : mg "gcd" = some (.builtin "math.gcd")
  len_ : mg "len" = none
  abs_ : mg "abs" = none
  max_ : mg "max" = none
  int_ : mg "int" = none
  isinstance_ : mg "isinstance" = none
  range_ : mg "range" = none
  enumerate_ : mg "enumerate" = none
  list_ : mg "list" = none
  tuple_ : mg "tuple" = none
  str_ : mg "str" = none
  bool_ : mg "bool" = none
  dict_ : mg "dict" = none
/-! ### heaps -/
theorem _root_.L2.Same.sqt {K : PySem.W.Frag} {H H' : Hp} {a : Addr} {xs : List V} (e : Same H H') (h : SqT K H a xs) : SqT K H' a xs := by
  rcases h with (h | ⟨o, h⟩) | h
  · exact .inl (.inl (e _ _ h))
  · exact .inl (.inr ⟨o, e _ _ h⟩)
  · exact .inr h
theorem same_new {H : Hp} {p : Addr} (h : H p = none) (o : HO) : Same H (upd H p o) := fun b u q => by rw [upd_ne (ne_of_none q h)]; exact q
/-- a pair of ints that stands for q -/
def Rq (K : PySem.W.Frag) (H : Hp) (v : V) (q : Rat) : Prop := ∃ a, v = .ref a ∧ SqT K H a [.int q.num, .int (q.den : Int)]
theorem Rq.same {K : PySem.W.Frag} {H H' : Hp} {v : V} {q : Rat} (e : Same H H') (h : Rq K H v q) : Rq K H' v q := by
  obtain ⟨a, rfl, h⟩ := h
  exact ⟨a, rfl, e.sqt h⟩
theorem sz2 : 2 ≤ sizeLine := by decide
theorem at0 {xs : List V} {v : V} (h : xs[0]? = some v) : atI xs 0 = some v := atI_nat (j := 0) h
theorem at1 {xs : List V} {v : V} (h : xs[1]? = some v) : atI xs 1 = some v := atI_nat (j := 1) h
theorem at2 {xs : List V} {v : V} (h : xs[2]? = some v) : atI xs 2 = some v := atI_nat (j := 2) h
theorem ifT {c : Bool} {A B : Prop} (hc : c = true) (h : A) : if c = true then A else B := by
  rw [if_pos hc]
  exact h
theorem ifF {c : Bool} {A B : Prop} (hc : c = false) (h : B) : if c = true then A else B := by
  rw [hc, if_neg Bool.false_ne_true]
  exact h
theorem dF {p : Prop} [Decidable p] (h : ¬ p) : decide p = false := decide_eq_false h
theorem dT {p : Prop} [Decidable p] (h : p) : decide p = true := decide_eq_true h
theorem ifD {p : Prop} [Decidable p] {A B : Prop} (h1 : p → A) (h2 : ¬ p → B) : if decide p = true then A else B := by
  by_cases h : p
  · exact ifT (decide_eq_true h) (h1 h)
  · exact ifF (decide_eq_false h) (h2 h)
theorem fmod_nat (x m : Nat) : (x : Int).fmod (m : Int) = ((x % m : Nat) : Int) := by
  rw [Int.fmod_eq_emod_of_nonneg _ (by omega)]
  rfl
/-- what stands behind a statement, said once for all its ways -/
theorem cut {t u : TS} {D : Ends} {σ : L2.St} {H : Hp} (mid : L2.St → Hp → Prop) (key : ∀ σ' H', mid σ' H' → u D σ' H') (h : (∀ σ' H', mid σ' H' → u D σ' H') → tSeq t u D σ H) : tSeq t u D σ H := h key
/-! ### the store of draws -/
/-- at s stands a store: the script's list at l, five counters -/
def Sto (l s : Addr) (H : Hp) : Prop := ∃ (ns : List Int) (pos num seed hold cnt : Int), H s = some (.lst [.ref l, .int pos, .int num, .int seed, .int hold, .int cnt]) ∧ l ≠ s ∧ H l = some (.lst (ns.map V.int)) ∧ ns.length ≤ 63 ∧ 0 ≤ pos ∧ 0 ≤ num ∧ 0 ≤ seed ∧ seed < 1000000007
/-- all but what stands at s is as it was -/
def Fr (s : Addr) (H H' : Hp) : Prop := ∀ b o, H b = some o → b ≠ s → H' b = some o
theorem Fr.refl (s : Addr) (H : Hp) : Fr s H H := fun _ _ h _ => h
theorem Fr.trans {s : Addr} {H H1 H2 : Hp} (a : Fr s H H1) (b : Fr s H1 H2) : Fr s H H2 := fun c o h n => b c o (a c o h n) n
theorem Fr.of {s : Addr} {H H' : Hp} (e : Same H H') : Fr s H H' := fun b o h _ => e b o h
theorem Fr.upd {s : Addr} {H : Hp} (o : HO) : Fr s H (upd H s o) := fun b u h n => by rw [upd_ne n]; exact h
theorem Fr.free {s : Addr} {H H' : Hp} (e : Fr s H H') {p : Addr} (h : H' p = none) (n : p ≠ s) : H p = none := by
  cases q : H p with
  | none => rfl
  | some o =>
    rw [e p o q n] at h
    cases h
theorem Sto.some {l s : Addr} {H : Hp} (h : Sto l s H) : ∃ xs, H s = some (.lst xs) := by
  obtain ⟨_, _, _, _, _, _, h, _⟩ := h
  exact ⟨_, h⟩
theorem Sto.ne {l s : Addr} {H : Hp} (h : Sto l s H) {p : Addr} (n : H p = none) : p ≠ s := by
  obtain ⟨xs, h⟩ := h.some
  exact fun z => by rw [z, h] at n; cases n
theorem Sto.nl {l s : Addr} {H : Hp} (h : Sto l s H) {p : Addr} (n : H p = none) : p ≠ l := by
  obtain ⟨_, _, _, _, _, _, _, _, h, _⟩ := h
  exact fun z => by rw [z, h] at n; cases n
theorem Sto.same {l s : Addr} {H H' : Hp} (e : Same H H') (h : Sto l s H) : Sto l s H' := by
  obtain ⟨ns, pos, num, seed, hold, cnt, h1, h2, h3, r⟩ := h
  exact ⟨ns, pos, num, seed, hold, cnt, e _ _ h1, h2, e _ _ h3, r⟩
/-- what becomes of another list does not matter -/
theorem Sto.upd {l s D : Addr} {H : Hp} {o : HO} (h : Sto l s H) (n1 : D ≠ s) (n2 : D ≠ l) : Sto l s (upd H D o) := by
  obtain ⟨ns, pos, num, seed, hold, cnt, h1, h2, h3, r⟩ := h
  exact ⟨ns, pos, num, seed, hold, cnt, by rw [upd_ne (Ne.symm n1)]; exact h1, h2, by rw [upd_ne (Ne.symm n2)]; exact h3, r⟩
/-- a tuple outlives what becomes of a list -/
theorem sqt_fr {K : PySem.W.Frag} {s a : Addr} {H H' : Hp} {xs : List V} (e : Fr s H H') (hs : ∃ ys, H s = some (.lst ys)) (h : SqT K H a xs) : SqT K H' a xs := by
  obtain ⟨ys, hs⟩ := hs
  have n : ∀ {o : HO}, H a = some o → (∀ ys, o ≠ .lst ys) → a ≠ s := fun {o} h1 h2 z => by
    rw [z, hs] at h1
    exact h2 ys (Option.some.inj h1).symm
  rcases h with (h | ⟨o, h⟩) | h
  · exact .inl (.inl (e _ _ h (n h fun _ z => by cases z)))
  · exact .inl (.inr ⟨o, e _ _ h (n h fun _ z => by cases z)⟩)
  · exact .inr h
theorem Rq.fr {K : PySem.W.Frag} {s : Addr} {H H' : Hp} {v : V} {q : Rat} (e : Fr s H H') (hs : ∃ ys, H s = some (.lst ys)) (h : Rq K H v q) : Rq K H' v q := by
  obtain ⟨a, rfl, h⟩ := h
  exact ⟨a, rfl, sqt_fr e hs h⟩
theorem seq_fr {K : PySem.W.Frag} {s a : Addr} {H H' : Hp} {xs : List V} (e : Fr s H H') (n : a ≠ s) (h : SqL K H a xs) : SqL K H' a xs := by
  rcases h with (h | ⟨o, h⟩) | h
  · exact .inl (.inl (e _ _ h n))
  · exact .inl (.inr ⟨o, e _ _ h n⟩)
  · exact .inr h
theorem sm6 : 6 ≤ sizeLine := by decide
theorem sm4 : 4 ≤ sizeLine := by decide
theorem sm3 : 3 ≤ sizeLine := by decide
theorem sm5 : 5 ≤ sizeLine := by decide
end Vk
namespace Vk
open PySem L2 Vm
def top (i : Nat) : Stmt := PySem.Challenge.pw_clockverdict_k08_tidy_and_jumps.main.body.getD i (.Pass ⟨0, 0, 0, 0⟩)
variable {P : Program} {w : World} {K : PySem.W.Frag} {mg : Str → Option Value} {base : Heap} {k : Nat} {f f1 f2 f3 f4 f5 f6 f7 f8 f9 : Addr} {fd fd1 fd2 fd3 fd4 fd5 fd6 fd7 fd8 fd9 : FuncData}
/-! ### the law's own rationals -/
def spFrac (K : PySem.W.Frag) : Sp := fun vs H Q _ => ∃ (n d : Int) (b : Nat), vs = [.int n, .int d] ∧ 0 < d ∧ n.natAbs < 2 ^ b ∧ d.natAbs < 2 ^ b ∧ b ≤ 9000 ∧
  ∀ r H', Same H H' → Rq K H' r (mkRat n d.toNat) → Q r H'
abbrev s__law_frac : Stmt := top 26
abbrev N__law_frac : List Str := ["_law_n", "_law_d", "_law_a", "_law_b"]
theorem sc__law_frac : FnScope N__law_frac ["_law_n", "_law_d"] (defScope s__law_frac) := ⟨rfl, rfl, rfl, by decide +kernel, rfl, by decide +kernel, by decide +kernel⟩
abbrev ps__law_frac : List Str := ["_law_n", "_law_d"]
theorem ok_frac (T : Bn mg) (F : Fn K mg "_law_frac" s__law_frac ps__law_frac f fd) : Def P w K mg base (k + 1) "_law_frac" ps__law_frac (spFrac K) f fd := by
  refine ⟨F.F.ok sc__law_frac (fun vs H Q E h => ?_) (fun cdv A outer s H vs Q E hr h => ?_), F.m, F.F.kp, F.b⟩
  · obtain ⟨n, d, b, rfl, _⟩ := h
    rfl
  obtain ⟨n, d, b, rfl, hd, hn, hdb, hb, q⟩ := h
  refine ⟨_, (pss_cons (ps_if (pt_cmpR op_eq (pv 1) pe_int (nomark _))
        (pss_one (ps_ret (pe_tup (pa_cons pe_int (pa_cons pe_int pa_nil)))))
        pss_nil)
      (pss_cons (ps_set (i := 2) sc__law_frac.nd rfl (Or.inl rfl) (pe_callB call_abs (by rfl) T.abs_ (by decide +kernel) (pa_cons (pv 0) pa_nil)))
      (pss_cons (ps_set (i := 3) sc__law_frac.nd rfl (Or.inl rfl) (pe_callB call_abs (by rfl) T.abs_ (by decide +kernel) (pa_cons (pv 1) pa_nil)))
      (pss_cons (ps_while PassesOwn.never (pt_cmpR op_gt (pv 3) pe_int (nomark _))
        (pss_one (ps_par (i := 2) (j := 3) (by rfl) sc__law_frac.nd rfl rfl (by decide) rfl rfl (pa_cons (pv 3) (pa_cons (pe_op op_modN (pe_callTy call_int1 (by rfl) T.int_ (by decide +kernel) (pa_cons (pv 2) pa_nil)) (pv 3)) pa_nil)) (by rfl))))
      (pss_cons (ps_if (pt_cmpR op_lt (pv 1) pe_int (nomark _))
        (pss_one (ps_set (i := 2) sc__law_frac.nd rfl (Or.inl rfl) (pe_op op_sub pe_int (pv 2))))
        pss_nil)
      (pss_one (ps_ret (pe_tup (pa_cons (pe_op op_fdivW (pv 0) (pv 2)) (pa_cons (pe_op op_fdivW (pv 1) (pv 2)) pa_nil)))))))))), ?_⟩
  have b0 : 0 < b := by
    cases b with
    | zero => simp at hdb; omega
    | succ b => exact Nat.succ_pos _
  -- if _law_d == 0
  refine ⟨_, rfl, rfl, _, rfl, ifF (dF fun c => by cases c; omega) ?_⟩
  have ea : ∀ z : Int, (if z < 0 then -z else z) = (z.natAbs : Int) := fun z => by split <;> omega
  refine ⟨_, rfl, _, rfl, _, rfl, _, rfl, (fun m σ H' => ∃ x y : Nat, m = y ∧ σ = [some (.int n), some (.int d), some (.int x), some (.int y)] ∧ H' = H ∧ Nat.gcd x y = Nat.gcd n.natAbs d.natAbs),
    ⟨_, n.natAbs, d.natAbs, rfl, by rw [ea, ea]; rfl, rfl, rfl⟩, ?_⟩
  rintro m σ H' ⟨x, y, em, rfl, rfl, hg⟩
  subst em
  -- while _law_b > 0
  refine ⟨_, rfl, _, _, rfl, rfl, _, rfl, ifD (fun c => ?_) (fun c => ?_)⟩
  · refine ⟨_, fun _ _ z => z, _, rfl, _, rfl, .inl ⟨_, rfl, _, rfl, _, _, rfl, rfl, by omega, _, _, rfl, ?_⟩⟩
    refine ⟨x % m, Nat.mod_lt _ (by omega), m, x % m, rfl, ?_, rfl, ?_⟩
    · show [some (V.int n), some (V.int d), some (V.int (m : Int)), some (V.int ((x : Int).fmod (m : Int)))] = _
      rw [fmod_nat]
    · rw [← hg, Nat.gcd_comm x m, Nat.gcd_rec m x, Nat.gcd_comm]
  have y0 : m = 0 := by omega
  subst y0
  rw [Nat.gcd_zero_right] at hg
  subst hg
  have dn : d.toNat ≠ 0 := by omega
  have gp : 0 < Nat.gcd n.natAbs d.natAbs := Nat.gcd_pos_of_pos_right _ (by omega)
  have gb : (((Nat.gcd n.natAbs d.natAbs : Nat) : Int)).natAbs < 2 ^ b := by
    rw [Int.natAbs_natCast]
    exact Nat.lt_of_le_of_lt (Nat.gcd_le_right _ (by omega)) hdb
  have w : CDivW n ((Nat.gcd n.natAbs d.natAbs : Nat) : Int) := wide_div (by omega) gb b0 (by omega)
  have w2 : CDivW d ((Nat.gcd n.natAbs d.natAbs : Nat) : Int) := wide_div (by omega) gb b0 (by omega)
  have ed : d.toNat = d.natAbs := by omega
  refine ⟨_, rfl, _, _, rfl, rfl, _, rfl, ifF (dF (by omega)) ?_⟩
  refine ⟨_, rfl, _, rfl, _, _, rfl, rfl, w, _, rfl, _, rfl, _, _, rfl, rfl, w2, sz2, fun p hp => ?_⟩
  refine q _ _ (same_new hp _) ⟨p, rfl, SqT.of ?_⟩
  rw [upd_same, mk_num n dn, mk_den n dn, ed]
  congr 4
  have e : d = (d.natAbs : Int) := by omega
  rw [show (((d.natAbs / Nat.gcd n.natAbs d.natAbs : Nat)) : Int) = (d.natAbs : Int) / ((Nat.gcd n.natAbs d.natAbs : Nat) : Int) from Int.natCast_ediv _ _]
  rw [← e]
/-- two rationals in, their f out -/
def spOp2 (K : PySem.W.Frag) (g : Rat → Rat → Rat) : Sp := fun vs H Q _ => ∃ (x y : V) (p q : Rat) (m l : Nat), vs = [x, y] ∧ Rq K H x p ∧ Rq K H y q ∧ Sz m p ∧ Sz l q ∧ m + l + 1 ≤ 9000 ∧
  ∀ r H', Same H H' → Rq K H' r (g p q) → Q r H'
/-- two rationals in, a test of them out -/
def spTest2 (K : PySem.W.Frag) (g : Rat → Rat → V) : Sp := fun vs H Q _ => ∃ (x y : V) (p q : Rat) (m l : Nat), vs = [x, y] ∧ Rq K H x p ∧ Rq K H y q ∧ Sz m p ∧ Sz l q ∧ m + l + 1 ≤ 900000 ∧ Q (g p q) H
theorem mulW {m l : Nat} {i j : Int} (hi : i.natAbs < 2 ^ m) (hj : j.natAbs < 2 ^ l) (h0 : 0 < m) (h1 : 0 < l) (h : m + l ≤ 900000) : CMulW i j := wide_mul hi hj h0 h1 (by omega)
abbrev s__law_plus : Stmt := top 27
abbrev N__law_plus : List Str := ["_law_a", "_law_b"]
theorem sc__law_plus : FnScope N__law_plus ["_law_a", "_law_b"] (defScope s__law_plus) := ⟨rfl, rfl, rfl, by decide +kernel, rfl, by decide +kernel, by decide +kernel⟩
abbrev ps__law_plus : List Str := ["_law_a", "_law_b"]
theorem ok_plus (F : Fn K mg "_law_plus" s__law_plus ps__law_plus f fd) (d_law_frac : Def P w K mg base k "_law_frac" ["_law_n", "_law_d"] (spFrac K) f1 fd1) : Def P w K mg base (k + 1) "_law_plus" ps__law_plus (spOp2 K (· + ·)) f fd := by
  refine ⟨F.F.ok sc__law_plus (fun vs H Q E h => ?_) (fun cdv A outer s H vs Q E hr h => ?_), F.m, F.F.kp, F.b⟩
  · obtain ⟨x, y, p, q, m, l, rfl, _⟩ := h
    rfl
  obtain ⟨x, y, p, q, m, l, rfl, ⟨a, rfl, ha⟩, ⟨b, rfl, hb⟩, zp, zq, hm, z⟩ := h
  have m0 := nn zp
  have l0 := nn zq
  refine ⟨_, (pss_one (ps_ret (pcall d_law_frac hr (pa_cons (pe_op op_add (pe_op op_mulW (pe_ix ix_tup (pv 0) pe_int (fun _ _ => rfl)) (pe_ix ix_tup (pv 1) pe_int (fun _ _ => rfl))) (pe_op op_mulW (pe_ix ix_tup (pv 1) pe_int (fun _ _ => rfl)) (pe_ix ix_tup (pv 0) pe_int (fun _ _ => rfl)))) (pa_cons (pe_op op_mulW (pe_ix ix_tup (pv 0) pe_int (fun _ _ => rfl)) (pe_ix ix_tup (pv 1) pe_int (fun _ _ => rfl))) pa_nil))))), ?_⟩
  refine ⟨_, rfl, a, _, _, _, rfl, rfl, ha, at0 rfl, _, rfl, b, _, _, _, rfl, rfl, hb, at1 rfl, _, _, rfl, rfl, mulW zp.1 (dA zq) m0 l0 (by omega), ?_⟩
  refine ⟨_, rfl, b, _, _, _, rfl, rfl, hb, at0 rfl, _, rfl, a, _, _, _, rfl, rfl, ha, at1 rfl, _, _, rfl, rfl, mulW zq.1 (dA zp) l0 m0 (by omega), _, _, rfl, rfl, ?_⟩
  refine ⟨_, rfl, a, _, _, _, rfl, rfl, ha, at1 rfl, _, rfl, b, _, _, _, rfl, rfl, hb, at1 rfl, _, _, rfl, rfl, mulW (dA zp) (dA zq) m0 l0 (by omega), ?_⟩
  refine ⟨_, _, m + l + 1, rfl, dd_pos p q, ab_add (ab_mul zp.1 (dA zq)) (ab_up (ab_mul zq.1 (dA zp)) (by omega)), ab_up (ab_mul (dA zp) (dA zq)) (by omega), by omega, fun r H' e hr => z r H' e ?_⟩
  rw [mk_add] at hr
  exact hr
abbrev s__law_minus : Stmt := top 28
abbrev N__law_minus : List Str := ["_law_a", "_law_b"]
theorem sc__law_minus : FnScope N__law_minus ["_law_a", "_law_b"] (defScope s__law_minus) := ⟨rfl, rfl, rfl, by decide +kernel, rfl, by decide +kernel, by decide +kernel⟩
abbrev ps__law_minus : List Str := ["_law_a", "_law_b"]
theorem ok_minus (F : Fn K mg "_law_minus" s__law_minus ps__law_minus f fd) (d_law_frac : Def P w K mg base k "_law_frac" ["_law_n", "_law_d"] (spFrac K) f1 fd1) : Def P w K mg base (k + 1) "_law_minus" ps__law_minus (spOp2 K (· - ·)) f fd := by
  refine ⟨F.F.ok sc__law_minus (fun vs H Q E h => ?_) (fun cdv A outer s H vs Q E hr h => ?_), F.m, F.F.kp, F.b⟩
  · obtain ⟨x, y, p, q, m, l, rfl, _⟩ := h
    rfl
  obtain ⟨x, y, p, q, m, l, rfl, ⟨a, rfl, ha⟩, ⟨b, rfl, hb⟩, zp, zq, hm, z⟩ := h
  have m0 := nn zp
  have l0 := nn zq
  refine ⟨_, (pss_one (ps_ret (pcall d_law_frac hr (pa_cons (pe_op op_sub (pe_op op_mulW (pe_ix ix_tup (pv 0) pe_int (fun _ _ => rfl)) (pe_ix ix_tup (pv 1) pe_int (fun _ _ => rfl))) (pe_op op_mulW (pe_ix ix_tup (pv 1) pe_int (fun _ _ => rfl)) (pe_ix ix_tup (pv 0) pe_int (fun _ _ => rfl)))) (pa_cons (pe_op op_mulW (pe_ix ix_tup (pv 0) pe_int (fun _ _ => rfl)) (pe_ix ix_tup (pv 1) pe_int (fun _ _ => rfl))) pa_nil))))), ?_⟩
  refine ⟨_, rfl, a, _, _, _, rfl, rfl, ha, at0 rfl, _, rfl, b, _, _, _, rfl, rfl, hb, at1 rfl, _, _, rfl, rfl, mulW zp.1 (dA zq) m0 l0 (by omega), ?_⟩
  refine ⟨_, rfl, b, _, _, _, rfl, rfl, hb, at0 rfl, _, rfl, a, _, _, _, rfl, rfl, ha, at1 rfl, _, _, rfl, rfl, mulW zq.1 (dA zp) l0 m0 (by omega), _, _, rfl, rfl, ?_⟩
  refine ⟨_, rfl, a, _, _, _, rfl, rfl, ha, at1 rfl, _, rfl, b, _, _, _, rfl, rfl, hb, at1 rfl, _, _, rfl, rfl, mulW (dA zp) (dA zq) m0 l0 (by omega), ?_⟩
  refine ⟨_, _, m + l + 1, rfl, dd_pos p q, ab_sub (ab_mul zp.1 (dA zq)) (ab_up (ab_mul zq.1 (dA zp)) (by omega)), ab_up (ab_mul (dA zp) (dA zq)) (by omega), by omega, fun r H' e hr => z r H' e ?_⟩
  rw [mk_sub] at hr
  exact hr
abbrev s__law_times : Stmt := top 29
abbrev N__law_times : List Str := ["_law_a", "_law_b"]
theorem sc__law_times : FnScope N__law_times ["_law_a", "_law_b"] (defScope s__law_times) := ⟨rfl, rfl, rfl, by decide +kernel, rfl, by decide +kernel, by decide +kernel⟩
abbrev ps__law_times : List Str := ["_law_a", "_law_b"]
theorem ok_times (F : Fn K mg "_law_times" s__law_times ps__law_times f fd) (d_law_frac : Def P w K mg base k "_law_frac" ["_law_n", "_law_d"] (spFrac K) f1 fd1) : Def P w K mg base (k + 1) "_law_times" ps__law_times (spOp2 K (· * ·)) f fd := by
  refine ⟨F.F.ok sc__law_times (fun vs H Q E h => ?_) (fun cdv A outer s H vs Q E hr h => ?_), F.m, F.F.kp, F.b⟩
  · obtain ⟨x, y, p, q, m, l, rfl, _⟩ := h
    rfl
  obtain ⟨x, y, p, q, m, l, rfl, ⟨a, rfl, ha⟩, ⟨b, rfl, hb⟩, zp, zq, hm, z⟩ := h
  have m0 := nn zp
  have l0 := nn zq
  refine ⟨_, (pss_one (ps_ret (pcall d_law_frac hr (pa_cons (pe_op op_mulW (pe_ix ix_tup (pv 0) pe_int (fun _ _ => rfl)) (pe_ix ix_tup (pv 1) pe_int (fun _ _ => rfl))) (pa_cons (pe_op op_mulW (pe_ix ix_tup (pv 0) pe_int (fun _ _ => rfl)) (pe_ix ix_tup (pv 1) pe_int (fun _ _ => rfl))) pa_nil))))), ?_⟩
  refine ⟨_, rfl, a, _, _, _, rfl, rfl, ha, at0 rfl, _, rfl, b, _, _, _, rfl, rfl, hb, at0 rfl, _, _, rfl, rfl, mulW zp.1 zq.1 m0 l0 (by omega), ?_⟩
  refine ⟨_, rfl, a, _, _, _, rfl, rfl, ha, at1 rfl, _, rfl, b, _, _, _, rfl, rfl, hb, at1 rfl, _, _, rfl, rfl, mulW (dA zp) (dA zq) m0 l0 (by omega), ?_⟩
  refine ⟨_, _, m + l + 1, rfl, dd_pos p q, ab_up (ab_mul zp.1 zq.1) (by omega), ab_up (ab_mul (dA zp) (dA zq)) (by omega), by omega, fun r H' e hr => z r H' e ?_⟩
  rw [mk_mul] at hr
  exact hr
abbrev s__law_below : Stmt := top 30
abbrev N__law_below : List Str := ["_law_a", "_law_b"]
theorem sc__law_below : FnScope N__law_below ["_law_a", "_law_b"] (defScope s__law_below) := ⟨rfl, rfl, rfl, by decide +kernel, rfl, by decide +kernel, by decide +kernel⟩
abbrev ps__law_below : List Str := ["_law_a", "_law_b"]
theorem ok_below (F : Fn K mg "_law_below" s__law_below ps__law_below f fd) : Def P w K mg base (k + 1) "_law_below" ps__law_below (spTest2 K fun p q => .bl (decide (p < q))) f fd := by
  refine ⟨F.F.ok sc__law_below (fun vs H Q E h => ?_) (fun cdv A outer s H vs Q E hr h => ?_), F.m, F.F.kp, F.b⟩
  · obtain ⟨x, y, p, q, m, l, rfl, _⟩ := h
    rfl
  obtain ⟨x, y, p, q, m, l, rfl, ⟨a, rfl, ha⟩, ⟨b, rfl, hb⟩, zp, zq, hm, z⟩ := h
  have m0 := nn zp
  have l0 := nn zq
  refine ⟨_, (pss_one (ps_ret (pe_cmpR op_lt (pe_op op_mulW (pe_ix ix_tup (pv 0) pe_int (fun _ _ => rfl)) (pe_ix ix_tup (pv 1) pe_int (fun _ _ => rfl))) (pe_op op_mulW (pe_ix ix_tup (pv 1) pe_int (fun _ _ => rfl)) (pe_ix ix_tup (pv 0) pe_int (fun _ _ => rfl))) (nomark _)))), ?_⟩
  refine ⟨_, rfl, a, _, _, _, rfl, rfl, ha, at0 rfl, _, rfl, b, _, _, _, rfl, rfl, hb, at1 rfl, _, _, rfl, rfl, mulW zp.1 (dA zq) m0 l0 (by omega), ?_⟩
  refine ⟨_, rfl, b, _, _, _, rfl, rfl, hb, at0 rfl, _, rfl, a, _, _, _, rfl, rfl, ha, at1 rfl, _, _, rfl, rfl, mulW zq.1 (dA zp) l0 m0 (by omega), _, _, rfl, rfl, ?_⟩
  show Q (.bl (decide (p.num * (q.den : Int) < q.num * (p.den : Int)))) H
  rw [decide_eq_decide.mpr (lt_num (p := p) (q := q)).symm]
  exact z
/-! ### the program's rationals -/
def sg (p q : Rat) : Int := if p = q then 0 else if p < q then -1 else 1
abbrev s_negate : Stmt := top 10
abbrev N_negate : List Str := ["a"]
theorem sc_negate : FnScope N_negate ["a"] (defScope s_negate) := ⟨rfl, rfl, rfl, by decide +kernel, rfl, by decide +kernel, by decide +kernel⟩
abbrev ps_negate : List Str := ["a"]
def spOp1 (K : PySem.W.Frag) (g : Rat → Rat) : Sp := fun vs H Q _ => ∃ (x : V) (p : Rat), vs = [x] ∧ Rq K H x p ∧ ∀ r H', Same H H' → Rq K H' r (g p) → Q r H'
theorem ok_negate (F : Fn K mg "negate" s_negate ps_negate f fd) : Def P w K mg base (k + 1) "negate" ps_negate (spOp1 K fun p => -p) f fd := by
  refine ⟨F.F.ok sc_negate (fun vs H Q E h => ?_) (fun cdv A outer s H vs Q E hr h => ?_), F.m, F.F.kp, F.b⟩
  · obtain ⟨x, p, rfl, _⟩ := h
    rfl
  obtain ⟨x, p, rfl, ⟨a, rfl, ha⟩, z⟩ := h
  refine ⟨_, (pss_one (ps_ret (pe_tup (pa_cons (pe_un un_neg (pe_ix ix_tup (pv 0) pe_int (fun _ _ => rfl))) (pa_cons (pe_ix ix_tup (pv 0) pe_int (fun _ _ => rfl)) pa_nil))))), ?_⟩
  refine ⟨_, rfl, a, _, _, _, rfl, rfl, ha, at0 rfl, _, rfl, _, rfl, a, _, _, _, rfl, rfl, ha, at1 rfl, sz2, fun r hr' => ?_⟩
  exact z _ _ (same_new hr' _) ⟨r, rfl, SqT.of upd_same⟩
abbrev s_add : Stmt := top 7
abbrev N_add : List Str := ["a", "b", "common", "factor", "n", "rest"]
theorem sc_add : FnScope N_add ["a", "b"] (defScope s_add) := ⟨rfl, rfl, rfl, by decide +kernel, rfl, by decide +kernel, by decide +kernel⟩
abbrev ps_add : List Str := ["a", "b"]
theorem ok_add (T : Bn mg) (F : Fn K mg "add" s_add ps_add f fd) : Def P w K mg base (k + 1) "add" ps_add (spOp2 K (· + ·)) f fd := by
  refine ⟨F.F.ok sc_add (fun vs H Q E h => ?_) (fun cdv A outer s H vs Q E hr h => ?_), F.m, F.F.kp, F.b⟩
  · obtain ⟨x, y, p, q, m, l, rfl, _⟩ := h
    rfl
  obtain ⟨x, y, p, q, m, l, rfl, ⟨a, rfl, ha⟩, ⟨b, rfl, hb⟩, zp, zq, hm, z⟩ := h
  have m0 := nn zp
  have l0 := nn zq
  refine ⟨_, (pss_cons (ps_set (i := 2) sc_add.nd rfl (Or.inl rfl) (pe_callBfun cr_gcd (by rfl) T.gcd_ (pa_cons (pe_ix ix_tup (pv 0) pe_int (fun _ _ => rfl)) (pa_cons (pe_ix ix_tup (pv 1) pe_int (fun _ _ => rfl)) pa_nil))))
      (pss_cons (ps_set (i := 3) sc_add.nd rfl (Or.inl rfl) (pe_op op_fdivW (pe_ix ix_tup (pv 1) pe_int (fun _ _ => rfl)) (pv 2)))
      (pss_cons (ps_set (i := 4) sc_add.nd rfl (Or.inl rfl) (pe_op op_add (pe_op op_mulW (pe_ix ix_tup (pv 0) pe_int (fun _ _ => rfl)) (pv 3)) (pe_op op_mulW (pe_ix ix_tup (pv 1) pe_int (fun _ _ => rfl)) (pe_op op_fdivW (pe_ix ix_tup (pv 0) pe_int (fun _ _ => rfl)) (pv 2)))))
      (pss_cons (ps_set (i := 5) sc_add.nd rfl (Or.inl rfl) (pe_callBfun cr_gcd (by rfl) T.gcd_ (pa_cons (pv 4) (pa_cons (pv 2) pa_nil))))
      (pss_one (ps_ret (pe_tup (pa_cons (pe_op op_fdivW (pv 4) (pv 5)) (pa_cons (pe_op op_mulW (pe_op op_fdivW (pe_ix ix_tup (pv 0) pe_int (fun _ _ => rfl)) (pv 5)) (pv 3)) pa_nil))))))))), ?_⟩
  have gp : 0 < Nat.gcd p.den q.den := Nat.gcd_pos_of_pos_left _ p.den_pos
  have gb : (((Nat.gcd p.den q.den : Nat) : Int)).natAbs < 2 ^ m := Nat.lt_of_le_of_lt (Nat.gcd_le_left _ p.den_pos) zp.2
  have wg : ∀ x : Int, CDivW x ((Nat.gcd p.den q.den : Nat) : Int) := fun x => wide_div (by omega) gb m0 (by omega)
  have fb : (((q.den / Nat.gcd p.den q.den : Nat)) : Int).natAbs < 2 ^ l := Nat.lt_of_le_of_lt (Nat.div_le_self _ _) zq.2
  have hb' : (((p.den / Nat.gcd p.den q.den : Nat)) : Int).natAbs < 2 ^ m := Nat.lt_of_le_of_lt (Nat.div_le_self _ _) zp.2
  refine ⟨_, rfl, a, _, _, _, rfl, rfl, ha, at1 rfl, _, rfl, b, _, _, _, rfl, rfl, hb, at1 rfl, _, _, rfl, ?_⟩
  -- factor; n
  refine ⟨_, rfl, b, _, _, _, rfl, rfl, hb, at1 rfl, _, rfl, _, _, rfl, rfl, wg _, ?_⟩
  refine ⟨_, rfl, a, _, _, _, rfl, rfl, ha, at0 rfl, _, rfl, _, _, rfl, rfl, mulW zp.1 fb m0 l0 (by omega), ?_⟩
  refine ⟨_, rfl, b, _, _, _, rfl, rfl, hb, at0 rfl, _, rfl, a, _, _, _, rfl, rfl, ha, at1 rfl, _, rfl, _, _, rfl, rfl, wg _, _, _, rfl, rfl, mulW zq.1 hb' l0 m0 (by omega), _, _, rfl, rfl, ?_⟩
  -- rest
  refine ⟨_, rfl, _, rfl, _, _, rfl, ?_⟩
  obtain ⟨n, en⟩ : ∃ n : Int, n = p.num * ((q.den / Nat.gcd p.den q.den : Nat) : Int) + q.num * ((p.den / Nat.gcd p.den q.den : Nat) : Int) := ⟨_, rfl⟩
  obtain ⟨r, er⟩ : ∃ r : Nat, r = Nat.gcd n.natAbs (Nat.gcd p.den q.den) := ⟨_, rfl⟩
  have A := add_parts p q _ _ n r rfl rfl en er
  have rp : 0 < r := by rw [er]; exact Nat.gcd_pos_of_pos_right _ gp
  have rb : ((r : Nat) : Int).natAbs < 2 ^ m := by rw [er]; exact Nat.lt_of_le_of_lt (Nat.gcd_le_right _ gp) gb
  have wr : ∀ x : Int, CDivW x (r : Int) := fun x => wide_div (by omega) rb m0 (by omega)
  have db : (((p.den / r : Nat)) : Int).natAbs < 2 ^ m := Nat.lt_of_le_of_lt (Nat.div_le_self _ _) zp.2
  have en' : (fun i j : Int => i + j) ((fun i j : Int => i * j) p.num ((q.den : Int) / ((Nat.gcd p.den q.den : Nat) : Int))) ((fun i j : Int => i * j) q.num ((p.den : Int) / ((Nat.gcd p.den q.den : Nat) : Int))) = n := en.symm
  suffices hz : ∀ n' : Int, n' = n → ∀ r' : Int, r' = (r : Int) → tRet (tTup (tCons (tOp (rI CDivW fun i j => V.int (i / j)) (tVar 4) (tVar 5)) (tCons (tOp (rI CMulW fun i j => V.int (i * j)) (tOp (rI CDivW fun i j => V.int (i / j)) (tOp (rIxT K) (tVar 0) (tC (V.int 1))) (tVar 5)) (tVar 3)) tNil)))
      { nx := fun _ H' => Q V.non H', rt := Q } [some (.ref a), some (.ref b), some (.int ((Nat.gcd p.den q.den : Nat) : Int)), some (.int ((q.den / Nat.gcd p.den q.den : Nat) : Int)), some (.int n'), some (.int r')] H from hz _ en' _ (by rw [er, ← en']; rfl)
  rintro n' e1 r' e2
  subst e1 e2
  refine ⟨_, rfl, _, rfl, _, _, rfl, rfl, wr _, _, rfl, a, _, _, _, rfl, rfl, ha, at1 rfl, _, rfl, _, _, rfl, rfl, wr _, _, rfl, _, _, rfl, rfl, mulW db fb m0 l0 (by omega), sz2, fun t ht => ?_⟩
  refine z _ _ (same_new ht _) ⟨t, rfl, SqT.of ?_⟩
  rw [upd_same]
  show some (HO.tup [V.int (n' / (r : Int)), V.int (((p.den / r : Nat) : Int) * ((q.den / Nat.gcd p.den q.den : Nat) : Int))]) = some (HO.tup [V.int (p + q).num, V.int ((p + q).den : Int)])
  rw [A.1, A.2]
  rfl
abbrev s_subtract : Stmt := top 8
abbrev N_subtract : List Str := ["a", "b"]
theorem sc_subtract : FnScope N_subtract ["a", "b"] (defScope s_subtract) := ⟨rfl, rfl, rfl, by decide +kernel, rfl, by decide +kernel, by decide +kernel⟩
abbrev ps_subtract : List Str := ["a", "b"]
theorem ok_subtract (F : Fn K mg "subtract" s_subtract ps_subtract f fd) (dadd : Def P w K mg base k "add" ["a", "b"] (spOp2 K (· + ·)) f1 fd1) (dnegate : Def P w K mg base k "negate" ["a"] (spOp1 K fun p => -p) f2 fd2) :
    Def P w K mg base (k + 1) "subtract" ps_subtract (spOp2 K (· - ·)) f fd := by
  refine ⟨F.F.ok sc_subtract (fun vs H Q E h => ?_) (fun cdv A outer s H vs Q E hr h => ?_), F.m, F.F.kp, F.b⟩
  · obtain ⟨x, y, p, q, m, l, rfl, _⟩ := h
    rfl
  obtain ⟨x, y, p, q, m, l, rfl, ha, hb, zp, zq, hm, z⟩ := h
  refine ⟨_, (pss_one (ps_ret (pcall dadd hr (pa_cons (pv 0) (pa_cons (pcall dnegate hr (pa_cons (pv 1) pa_nil)) pa_nil))))), ?_⟩
  refine ⟨_, rfl, _, rfl, _, q, rfl, hb, fun r H' e hr' => ?_⟩
  refine ⟨_, _, p, -q, m, l, rfl, ha.same e, hr', zp, zq.neg, hm, fun r2 H2 e2 hr2 => z _ _ (e.trans e2) ?_⟩
  show Rq K H2 r2 (p - q)
  rw [Rat.sub_eq_add_neg]
  exact hr2
/-- rational(n, d) where d is above zero; its second argument is always written -/
abbrev s_rational : Stmt := top 6
abbrev N_rational : List Str := ["n", "d", "common"]
theorem sc_rational : FnScope N_rational ["n", "d"] (defScope s_rational) := ⟨rfl, rfl, rfl, by decide +kernel, rfl, by decide +kernel, by decide +kernel⟩
abbrev ps_rational : List Str := ["n", "d"]
theorem ok_rational (T : Bn mg) (F : FunA K "rational" "rational" s_rational f fd) (hm : mg "rational" = some (.ref f)) (hb : Binds K fd ps_rational []) : Def P w K mg base (k + 1) "rational" ps_rational (spFrac K) f fd := by
  refine ⟨F.ok sc_rational (fun vs H Q E h => ?_) (fun cdv A outer s H vs Q E hr h => ?_), hm, F.kp, hb⟩
  · obtain ⟨n, d, b, rfl, _⟩ := h
    rfl
  obtain ⟨n, d, b, rfl, hd, hn, hdb, hb, q⟩ := h
  refine ⟨_, (pss_cons (ps_if (pt_cmpR op_eq (pv 1) pe_int (nomark _))
        (pss_one ps_never)
        pss_nil)
      (pss_cons (ps_set (i := 2) sc_rational.nd rfl (Or.inl rfl) (pe_callBfun cr_gcd (by rfl) T.gcd_ (pa_cons (pv 0) (pa_cons (pv 1) pa_nil))))
      (pss_cons (ps_if (pt_cmpR op_lt (pv 1) pe_int (nomark _))
        (pss_one (ps_set (i := 2) sc_rational.nd rfl (Or.inl rfl) (pe_un un_neg (pv 2))))
        pss_nil)
      (pss_one (ps_ret (pe_tup (pa_cons (pe_op op_fdivW (pv 0) (pv 2)) (pa_cons (pe_op op_fdivW (pv 1) (pv 2)) pa_nil)))))))), ?_⟩
  have b0 : 0 < b := by
    cases b with
    | zero => simp at hdb; omega
    | succ b => exact Nat.succ_pos _
  have dn : d.toNat ≠ 0 := by omega
  have gp : 0 < Nat.gcd n.natAbs d.natAbs := Nat.gcd_pos_of_pos_right _ (by omega)
  have gb : (((Nat.gcd n.natAbs d.natAbs : Nat) : Int)).natAbs < 2 ^ b := by
    rw [Int.natAbs_natCast]
    exact Nat.lt_of_le_of_lt (Nat.gcd_le_right _ (by omega)) hdb
  have w : ∀ x : Int, CDivW x ((Nat.gcd n.natAbs d.natAbs : Nat) : Int) := fun x => wide_div (by omega) gb b0 (by omega)
  have ed : d.toNat = d.natAbs := by omega
  refine ⟨_, rfl, rfl, _, rfl, ifF (dF fun c => by cases c; omega) ?_⟩
  refine ⟨_, rfl, _, rfl, _, _, rfl, ?_⟩
  refine ⟨_, rfl, _, _, rfl, rfl, _, rfl, ifF (dF (by omega)) ?_⟩
  refine ⟨_, rfl, _, rfl, _, _, rfl, rfl, w _, _, rfl, _, rfl, _, _, rfl, rfl, w _, sz2, fun p hp => ?_⟩
  refine q _ _ (same_new hp _) ⟨p, rfl, SqT.of ?_⟩
  rw [upd_same, mk_num n dn, mk_den n dn, ed]
  congr 4
  have e : d = (d.natAbs : Int) := by omega
  rw [show (((d.natAbs / Nat.gcd n.natAbs d.natAbs : Nat)) : Int) = (d.natAbs : Int) / ((Nat.gcd n.natAbs d.natAbs : Nat) : Int) from Int.natCast_ediv _ _]
  rw [← e]
def spDiv (K : PySem.W.Frag) : Sp := fun vs H Q _ => ∃ (x y : V) (p q : Rat) (m l : Nat), vs = [x, y] ∧ Rq K H x p ∧ Rq K H y q ∧ Sz m p ∧ Sz l q ∧ m + l + 1 ≤ 9000 ∧ 0 < q ∧ ∀ r H', Same H H' → Rq K H' r (p / q) → Q r H'
end Vk
namespace Vk
open PySem L2 Vm
variable {l : Addr} {P : Program} {w : World} {K : PySem.W.Frag} {mg : Str → Option Value} {base : Heap} {k : Nat} {f f1 f2 f3 f4 f5 f6 f7 f8 f9 : Addr} {fd fd1 fd2 fd3 fd4 fd5 fd6 fd7 fd8 fd9 : FuncData}
abbrev s__law_store : Stmt := top 17
abbrev N__law_store : List Str := ["_law_script"]
theorem sc__law_store : FnScope N__law_store ["_law_script"] (defScope s__law_store) := ⟨rfl, rfl, rfl, by decide +kernel, rfl, by decide +kernel, by decide +kernel⟩
abbrev ps__law_store : List Str := ["_law_script"]
def spStore (K : PySem.W.Frag) : Sp := fun vs H Q _ => ∃ (a : Addr) (ns : List Int), vs = [.ref a] ∧ SqL K H a (ns.map V.int) ∧ ns.length ≤ 63 ∧ ∀ (s l : Addr) H', Same H H' → H s = none → Sto l s H' → Q (.ref s) H'
theorem ok_store (T : Bn mg) (F : Fn K mg "_law_store" s__law_store ps__law_store f fd) : Def P w K mg base (k + 1) "_law_store" ps__law_store (spStore K) f fd := by
  refine ⟨F.F.ok sc__law_store (fun vs H Q E h => ?_) (fun cdv A outer s H vs Q E hr h => ?_), F.m, F.F.kp, F.b⟩
  · obtain ⟨a, ns, rfl, _⟩ := h
    rfl
  obtain ⟨a, ns, rfl, ha, hl, z⟩ := h
  refine ⟨_, (pss_one (ps_ret (pe_lst (pa_cons (pe_callTy call_list_of (by rfl) T.list_ (by decide +kernel) (pa_cons (pv 0) pa_nil)) (pa_cons pe_int (pa_cons pe_int (pa_cons pe_int (pa_cons pe_int (pa_cons pe_int pa_nil))))))))), ?_⟩
  refine ⟨_, rfl, a, _, rfl, .inl ha, fun l l0 => ?_⟩
  refine ⟨sm6, fun p p0 => ?_⟩
  have lp : l ≠ p := fun e => by rw [e, upd_same] at p0; cases p0
  have e1 : Same H (upd H l (.lst (ns.map V.int))) := same_new l0 _
  refine z _ l _ (e1.trans (same_new p0 _)) (e1.free p0) ⟨ns, 0, 0, 1, 0, 0, upd_same, lp, ?_, hl, by omega, by omega, by omega, by omega⟩
  rw [upd_ne lp, upd_same]
abbrev s__law_mixed : Stmt := top 19
abbrev N__law_mixed : List Str := ["_law_store_here"]
theorem sc__law_mixed : FnScope N__law_mixed ["_law_store_here"] (defScope s__law_mixed) := ⟨rfl, rfl, rfl, by decide +kernel, rfl, by decide +kernel, by decide +kernel⟩
abbrev ps__law_mixed : List Str := ["_law_store_here"]
def spMixed (K : PySem.W.Frag) (l : Addr) : Sp := fun vs H Q _ => ∃ (s : Addr), vs = [.ref s] ∧ Sto l s H ∧ ∀ (r : Int) H', 0 ≤ r → r < 1000000009 → Sto l s H' → Fr s H H' → Q (.int r) H'
theorem ok_mixed (T : Bn mg) (F : Fn K mg "_law_mixed" s__law_mixed ps__law_mixed f fd) : Def P w K mg base (k + 1) "_law_mixed" ps__law_mixed (spMixed K l) f fd := by
  refine ⟨F.F.ok sc__law_mixed (fun vs H Q E h => ?_) (fun cdv A outer s H vs Q E hr h => ?_), F.m, F.F.kp, F.b⟩
  · obtain ⟨a, rfl, _⟩ := h
    rfl
  obtain ⟨s, rfl, ⟨ns, pos, num, seed, hold, cnt, h1, h2, h3, h4, h5, h6, h7, h8⟩, z⟩ := h
  refine ⟨_, (pss_cons (ps_asg (pe_op op_add (pe_ix ix_list (pv 0) pe_int (fun _ _ => rfl)) pe_int) (pg_sub (pv 0) pe_int set_list))
      (pss_cons (ps_asg (pe_op op_mod (pe_callTy call_int1 (by rfl) T.int_ (by decide +kernel) (pa_cons (pe_op op_add (pe_op op_add (pe_op op_mul (pe_ix ix_list (pv 0) pe_int (fun _ _ => rfl)) pe_int) (pe_op op_mul (pe_ix ix_list (pv 0) pe_int (fun _ _ => rfl)) pe_int)) pe_int) pa_nil)) pe_int) (pg_sub (pv 0) pe_int set_list))
      (pss_one (ps_ret (pe_op op_mod (pe_callTy call_int1 (by rfl) T.int_ (by decide +kernel) (pa_cons (pe_op op_add (pe_op op_mul (pe_ix ix_list (pv 0) pe_int (fun _ _ => rfl)) pe_int) (pe_op op_fdiv (pe_ix ix_list (pv 0) pe_int (fun _ _ => rfl)) pe_int)) pa_nil)) pe_int))))), ?_⟩
  refine ⟨_, rfl, s, _, _, _, rfl, rfl, SqL.of h1, atI_nat (j := 5) rfl, _, _, rfl, rfl, _, rfl, s, _, _, _, rfl, rfl, h1, rfl, ?_⟩
  refine ⟨_, rfl, s, _, _, _, rfl, rfl, SqL.of upd_same, atI_nat (j := 3) rfl, _, _, rfl, rfl, .inr ⟨by decide, by decide⟩, ?_⟩
  refine ⟨_, rfl, s, _, _, _, rfl, rfl, SqL.of upd_same, atI_nat (j := 5) rfl, _, _, rfl, rfl, .inr ⟨by decide, by decide⟩, _, _, rfl, rfl, ?_⟩
  refine ⟨_, _, rfl, rfl, .inl ⟨_, rfl, _, _, rfl, rfl, (by show (0 : Int) < 1000000007; decide), _, rfl, s, _, _, _, rfl, rfl, upd_same, rfl, ?_⟩⟩
  refine ⟨_, rfl, s, _, _, _, rfl, rfl, SqL.of upd_same, atI_nat (j := 3) rfl, _, _, rfl, rfl, .inr ⟨by decide, by decide⟩, ?_⟩
  refine ⟨_, rfl, s, _, _, _, rfl, rfl, SqL.of upd_same, atI_nat (j := 3) rfl, _, _, rfl, rfl, ⟨by decide, by decide⟩, _, _, rfl, rfl, .inl ⟨_, rfl, _, _, rfl, rfl, (by show (0 : Int) < 1000000009; decide), ?_⟩⟩
  have e2 : ∀ o1 o2, Fr s H (upd (upd H s o1) s o2) := fun _ _ => (Fr.upd _).trans (Fr.upd _)
  exact z _ _ (Int.emod_nonneg _ (by decide)) (Int.emod_lt_of_pos _ (by decide)) ⟨ns, pos, num, _, hold, _, upd_same, h2, (e2 _ _) _ _ h3 h2, h4, h5, h6, Int.emod_nonneg _ (by decide), Int.emod_lt_of_pos _ (by decide)⟩ (e2 _ _)
abbrev s__law_feed : Stmt := top 18
abbrev N__law_feed : List Str := ["_law_store_here", "_law_cell"]
theorem sc__law_feed : FnScope N__law_feed ["_law_store_here"] (defScope s__law_feed) := ⟨rfl, rfl, rfl, by decide +kernel, rfl, by decide +kernel, by decide +kernel⟩
abbrev ps__law_feed : List Str := ["_law_store_here"]
def spFeed (K : PySem.W.Frag) (l : Addr) : Sp := fun vs H Q _ => ∃ (s : Addr) (ns : List Int) (pos num seed hold cnt : Int), vs = [.ref s] ∧ H s = some (.lst [.ref l, .int pos, .int num, .int seed, .int hold, .int cnt]) ∧ l ≠ s ∧ H l = some (.lst (ns.map V.int)) ∧ ns.length ≤ 63 ∧ 0 ≤ pos ∧ 0 ≤ num ∧ 0 ≤ seed ∧ seed < 1000000007 ∧ pos < (ns.length : Int) ∧
  ∀ H', Sto l s H' → Fr s H H' → Q .non H'
theorem ok_feed (T : Bn mg) (F : Fn K mg "_law_feed" s__law_feed ps__law_feed f fd) : Def P w K mg base (k + 1) "_law_feed" ps__law_feed (spFeed K l) f fd := by
  refine ⟨F.F.ok sc__law_feed (fun vs H Q E h => ?_) (fun cdv A outer s H vs Q E hr h => ?_), F.m, F.F.kp, F.b⟩
  · obtain ⟨_, _, _, _, _, _, _, rfl, _⟩ := h
    rfl
  obtain ⟨s, ns, pos, num, seed, hold, cnt, rfl, h1, h2, h3, h4, h5, h6, h7, h8, h9, z⟩ := h
  refine ⟨_, (pss_cons (ps_set (i := 1) sc__law_feed.nd rfl (Or.inl rfl) (pe_callTy call_int1 (by rfl) T.int_ (by decide +kernel) (pa_cons (pe_ix ix_list (pe_ix ix_list (pv 0) pe_int (fun _ _ => rfl)) (pe_ix ix_list (pv 0) pe_int (fun _ _ => rfl)) (fun _ _ => rfl)) pa_nil)))
      (pss_cons (ps_asg (pe_op op_add (pe_ix ix_list (pv 0) pe_int (fun _ _ => rfl)) pe_int) (pg_sub (pv 0) pe_int set_list))
      (pss_cons (ps_asg (pe_op op_mod (pe_callTy call_int1 (by rfl) T.int_ (by decide +kernel) (pa_cons (pe_op op_add (pe_op op_mul (pe_ix ix_list (pv 0) pe_int (fun _ _ => rfl)) pe_int) (pv 1)) pa_nil)) pe_int) (pg_sub (pv 0) pe_int set_list))
      (pss_one (ps_if (PW.pt (pw_or (pt_cmpR op_ge (pv 1) (pe_op op_pow pe_int pe_int) (nomark _)) (pw_or1 (pt_cmpR op_le (pv 1) (pe_op op_sub pe_int (pe_op op_pow pe_int pe_int)) (nomark _)))))
        (pss_one (ps_asg (pe_callB call_abs (by rfl) T.abs_ (by decide +kernel) (pa_cons (pv 1) pa_nil)) (pg_sub (pv 0) pe_int set_list)))
        (pss_one (ps_asg pe_int (pg_sub (pv 0) pe_int set_list)))))))), ?_⟩
  have hp : pos.toNat < ns.length := by omega
  have ea : atI (ns.map V.int) pos = some (.int ns[pos.toNat]) := at_of (j := pos.toNat) (by omega) (by rw [List.getElem?_map, List.getElem?_eq_getElem hp]; rfl)
  obtain ⟨c, hc⟩ : ∃ c, c = ns[pos.toNat] := ⟨_, rfl⟩
  rw [← hc] at ea
  refine ⟨_, rfl, s, _, _, _, rfl, rfl, SqL.of h1, at0 rfl, _, rfl, s, _, _, _, rfl, rfl, SqL.of h1, at1 rfl, l, _, _, _, rfl, rfl, SqL.of h3, ea, .inl ⟨_, rfl, ?_⟩⟩
  refine ⟨_, rfl, s, _, _, _, rfl, rfl, SqL.of h1, at1 rfl, _, _, rfl, rfl, _, rfl, s, _, _, _, rfl, rfl, h1, rfl, ?_⟩
  refine ⟨_, rfl, s, _, _, _, rfl, rfl, SqL.of upd_same, atI_nat (j := 3) rfl, _, _, rfl, rfl, .inr ⟨by decide, by decide⟩, _, rfl, _, _, rfl, rfl, .inl ⟨_, rfl, _, _, rfl, rfl, (by show (0 : Int) < 1000000007; decide), _, rfl, s, _, _, _, rfl, rfl, upd_same, rfl, ?_⟩⟩
  have e2 : ∀ o1 o2, Fr s H (upd (upd H s o1) s o2) := fun _ _ => (Fr.upd _).trans (Fr.upd _)
  have e3 : ∀ o1 o2 o3, Fr s H (upd (upd (upd H s o1) s o2) s o3) := fun _ _ _ => (e2 _ _).trans (Fr.upd _)
  have pw : (0 : Int) ≤ 18 ∧ (18 : Int) ≤ 1000000 ∧ (10 : Int).natAbs < 2 ^ 64 := ⟨by decide, by decide, by decide⟩
  have big : ∀ H', H' s = _ → Fr s H H' → Q .non H' := fun H' (e : H' s = some (.lst [.ref l, .int (pos + 1), .int (if c < 0 then -c else c), .int ((seed * 30011 + c) % 1000000007), .int hold, .int cnt])) e' =>
    z H' ⟨ns, pos + 1, _, _, hold, cnt, e, h2, e' _ _ h3 h2, h4, by omega, by split <;> omega, Int.emod_nonneg _ (by decide), Int.emod_lt_of_pos _ (by decide)⟩ e'
  refine ⟨_, rfl, _, _, rfl, rfl, pw, _, _, rfl, rfl, _, rfl, ifD (fun _ => ?_) (fun _ => ⟨_, rfl, _, _, rfl, rfl, pw, _, _, rfl, rfl, _, _, rfl, rfl, _, rfl, ifD (fun _ => ?_) (fun _ => ?_)⟩)⟩
  · exact ⟨_, rfl, _, rfl, _, rfl, s, _, _, _, rfl, rfl, upd_same, rfl, big _ upd_same (e3 _ _ _)⟩
  · exact ⟨_, rfl, _, rfl, _, rfl, s, _, _, _, rfl, rfl, upd_same, rfl, big _ upd_same (e3 _ _ _)⟩
  · exact ⟨_, rfl, s, _, _, _, rfl, rfl, upd_same, rfl, z _ ⟨ns, pos + 1, num, _, 3, cnt, upd_same, h2, (e3 _ _ _) _ _ h3 h2, h4, by omega, h6, Int.emod_nonneg _ (by decide), Int.emod_lt_of_pos _ (by decide)⟩ (e3 _ _ _)⟩
abbrev s__law_take : Stmt := top 20
abbrev N__law_take : List Str := ["_law_store_here", "_law_many", "_law_number"]
theorem sc__law_take : FnScope N__law_take ["_law_store_here", "_law_many"] (defScope s__law_take) := ⟨rfl, rfl, rfl, by decide +kernel, rfl, by decide +kernel, by decide +kernel⟩
abbrev ps__law_take : List Str := ["_law_store_here", "_law_many"]
def spTake (K : PySem.W.Frag) (l : Addr) : Sp := fun vs H Q _ => ∃ (s : Addr) (many : Int), vs = [.ref s, .int many] ∧ Sto l s H ∧ many < 2 ^ 64 ∧ ∀ (r : Int) H', 0 ≤ r → (r < many ∨ r = 0) → Sto l s H' → Fr s H H' → Q (.int r) H'
theorem ok_take (T : Bn mg) (F : Fn K mg "_law_take" s__law_take ps__law_take f fd) (d_law_feed : Def P w K mg base k "_law_feed" ["_law_store_here"] (spFeed K l) f1 fd1) (d_law_mixed : Def P w K mg base k "_law_mixed" ["_law_store_here"] (spMixed K l) f2 fd2) :
    Def P w K mg base (k + 1) "_law_take" ps__law_take (spTake K l) f fd := by
  refine ⟨F.F.ok sc__law_take (fun vs H Q E h => ?_) (fun cdv A outer s H vs Q E hr h => ?_), F.m, F.F.kp, F.b⟩
  · obtain ⟨_, _, rfl, _⟩ := h
    rfl
  obtain ⟨s, many, rfl, hS, hm, z⟩ := h
  refine ⟨_, (pss_cons (ps_set (i := 1) sc__law_take.nd rfl (Or.inl rfl) (pe_callB (call_max2 rfl) (by rfl) T.max_ (by decide +kernel) (pa_cons pe_int (pa_cons (pv 1) pa_nil))))
      (pss_cons (ps_if (PW.pt (pw_and (pt_cmpR op_eq (pe_ix ix_list (pv 0) pe_int (fun _ _ => rfl)) pe_int (nomark _)) (pw_and (pt_cmpR op_eq (pe_ix ix_list (pv 0) pe_int (fun _ _ => rfl)) pe_int (nomark _)) (pw_and1 (pt_cmpR op_lt (pe_ix ix_list (pv 0) pe_int (fun _ _ => rfl)) (pe_callB call_len_seq (by rfl) T.len_ PySem.boot_len (pa_cons (pe_ix ix_list (pv 0) pe_int (fun _ _ => rfl)) pa_nil)) (nomark _))))))
        (pss_one (ps_expr (pcall d_law_feed hr (pa_cons (pv 0) pa_nil))))
        pss_nil)
      (pss_cons (ps_if (pt_cmpR op_gt (pe_ix ix_list (pv 0) pe_int (fun _ _ => rfl)) pe_int (nomark _))
        (pss_cons (ps_set (i := 2) sc__law_take.nd rfl (Or.inl rfl) (pe_ix ix_list (pv 0) pe_int (fun _ _ => rfl)))
        (pss_cons (ps_asg (pe_op op_fdivW (pv 2) (pv 1)) (pg_sub (pv 0) pe_int set_list))
        (pss_one (ps_ret (pe_op op_mod (pe_callTy call_int1 (by rfl) T.int_ (by decide +kernel) (pa_cons (pv 2) pa_nil)) (pv 1))))))
        pss_nil)
      (pss_cons (ps_asg (pe_callB (call_max2 rfl) (by rfl) T.max_ (by decide +kernel) (pa_cons pe_int (pa_cons (pe_op op_sub (pe_ix ix_list (pv 0) pe_int (fun _ _ => rfl)) pe_int) pa_nil))) (pg_sub (pv 0) pe_int set_list))
      (pss_cons (ps_set (i := 2) sc__law_take.nd rfl (Or.inl rfl) (pcall d_law_mixed hr (pa_cons (pv 0) pa_nil)))
      (pss_cons (ps_if (pt_cmpR op_gt (pv 1) pe_int (nomark _))
        (pss_one (ps_set (i := 2) sc__law_take.nd rfl (Or.inl rfl) (pe_op op_add (pv 2) (pe_op op_mul (pcall d_law_mixed hr (pa_cons (pv 0) pa_nil)) pe_int))))
        pss_nil)
      (pss_one (ps_ret (pe_op op_mod (pe_callTy call_int1 (by rfl) T.int_ (by decide +kernel) (pa_cons (pv 2) pa_nil)) (pv 1)))))))))), ?_⟩
  refine ⟨_, rfl, _, _, rfl, ?_⟩
  obtain ⟨M, eM⟩ : ∃ M : Int, M = if many > 1 then many else 1 := ⟨_, rfl⟩
  have M1 : 1 ≤ M := by rw [eM]; split <;> omega
  have M2 : M.natAbs < 2 ^ 64 := by
    have : (2 : Nat) ^ 64 = 18446744073709551616 := by decide
    have : (2 : Int) ^ 64 = 18446744073709551616 := by decide
    rw [eM]; split <;> omega
  have hz : ∀ (r : Int) H', 0 ≤ r → r < M → Sto l s H' → Fr s H H' → Q (.int r) H' := fun r H' a b => z r H' a (by rw [eM] at b; split at b <;> omega)
  rw [← eM]
  dsimp only [gName]
  refine cut (fun σ' H' => σ' = [some (.ref s), some (.int M), none] ∧ Sto l s H' ∧ Fr s H H') ?_ ?_
  · rintro σ H1 ⟨rfl, hS1, e1⟩
    obtain ⟨ns, pos, num, seed, hold, cnt, h1, h2, h3, h4, h5, h6, h7, h8⟩ := id hS1
    refine ⟨_, rfl, s, _, _, _, rfl, rfl, SqL.of h1, at2 rfl, _, _, rfl, rfl, _, rfl, ifD (fun c => ?_) (fun c => ?_)⟩
    · refine ⟨_, rfl, s, _, _, _, rfl, rfl, SqL.of h1, at2 rfl, ?_⟩
      refine ⟨_, rfl, _, rfl, _, _, rfl, rfl, wide_div (by omega) M2 (by decide) (by decide), _, rfl, s, _, _, _, rfl, rfl, h1, rfl, ?_⟩
      refine ⟨_, rfl, .inl ⟨_, rfl, _, rfl, _, _, rfl, rfl, (by show 0 < M; omega), ?_⟩⟩
      have e2 : ∀ o, Fr s H1 (upd H1 s o) := fun _ => Fr.upd _
      exact hz _ _ (Int.emod_nonneg _ (by omega)) (Int.emod_lt_of_pos _ (by omega)) ⟨ns, pos, num / M, seed, hold, cnt, upd_same, h2, (e2 _) _ _ h3 h2, h4, h5, Int.ediv_nonneg (by omega) (by omega), h7, h8⟩ (e1.trans (e2 _))
    refine ⟨_, rfl, s, _, _, _, rfl, rfl, SqL.of h1, atI_nat (j := 4) rfl, _, _, rfl, rfl, _, _, rfl, _, rfl, s, _, _, _, rfl, rfl, h1, rfl, ?_⟩
    have e2 : ∀ o, Fr s H1 (upd H1 s o) := fun _ => Fr.upd _
    refine ⟨_, rfl, s, rfl, ⟨ns, pos, num, seed, _, cnt, upd_same, h2, (e2 _) _ _ h3 h2, h4, h5, h6, h7, h8⟩, fun r H2 r0 r1 S2 e3 => ?_⟩
    refine ⟨_, rfl, _, _, rfl, rfl, _, rfl, ifD (fun c => ?_) (fun c => ?_)⟩
    · refine ⟨_, rfl, _, rfl, s, rfl, S2, fun r' H3 _ _ S3 e4 => ⟨_, _, rfl, rfl, .inr ⟨by decide, by decide⟩, _, _, rfl, rfl, ?_⟩⟩
      refine ⟨_, rfl, .inl ⟨_, rfl, _, rfl, _, _, rfl, rfl, (by show 0 < M; omega), ?_⟩⟩
      exact hz _ _ (Int.emod_nonneg _ (by omega)) (Int.emod_lt_of_pos _ (by omega)) S3 (e1.trans ((e2 _).trans (e3.trans e4)))
    · refine ⟨_, rfl, .inl ⟨_, rfl, _, rfl, _, _, rfl, rfl, (by show 0 < M; omega), ?_⟩⟩
      exact hz _ _ (Int.emod_nonneg _ (by omega)) (Int.emod_lt_of_pos _ (by omega)) S2 (e1.trans ((e2 _).trans e3))
  · intro key
    obtain ⟨ns, pos, num, seed, hold, cnt, h1, h2, h3, h4, h5, h6, h7, h8⟩ := id hS
    refine ⟨_, rfl, s, _, _, _, rfl, rfl, SqL.of h1, at2 rfl, rfl, _, rfl, ifD (fun _ => ?_) (fun _ => ifF rfl (key _ _ ⟨rfl, hS, Fr.refl _ _⟩))⟩
    refine ⟨_, rfl, s, _, _, _, rfl, rfl, SqL.of h1, atI_nat (j := 4) rfl, rfl, _, rfl, ifD (fun _ => ?_) (fun _ => ifF rfl (key _ _ ⟨rfl, hS, Fr.refl _ _⟩))⟩
    refine ⟨_, rfl, s, _, _, _, rfl, rfl, SqL.of h1, at1 rfl, _, rfl, s, _, _, _, rfl, rfl, SqL.of h1, at0 rfl, l, _, rfl, .inl (SqL.of h3), _, _, rfl, rfl, _, rfl, ifD (fun c => ?_) (fun _ => key _ _ ⟨rfl, hS, Fr.refl _ _⟩)⟩
    rw [List.length_map] at c
    exact ⟨_, rfl, s, ns, pos, num, seed, hold, cnt, rfl, h1, h2, h3, h4, h5, h6, h7, h8, c, fun H' S' e' => key _ _ ⟨rfl, S', e'⟩⟩
abbrev s__law_pick : Stmt := top 21
abbrev N__law_pick : List Str := ["_law_store_here", "_law_things"]
theorem sc__law_pick : FnScope N__law_pick ["_law_store_here", "_law_things"] (defScope s__law_pick) := ⟨rfl, rfl, rfl, by decide +kernel, rfl, by decide +kernel, by decide +kernel⟩
abbrev ps__law_pick : List Str := ["_law_store_here", "_law_things"]
/-- a list that is not the store; one of its things is handed back -/
def spPick (K : PySem.W.Frag) (l : Addr) : Sp := fun vs H Q _ => ∃ (s a : Addr) (xs : List V), vs = [.ref s, .ref a] ∧ Sto l s H ∧ a ≠ s ∧ SqL K H a xs ∧ 0 < xs.length ∧ xs.length < 2 ^ 32 ∧ ∀ (v : V) H', v ∈ xs → Sto l s H' → Fr s H H' → Q v H'
theorem ok_pick (T : Bn mg) (F : Fn K mg "_law_pick" s__law_pick ps__law_pick f fd) (d_law_take : Def P w K mg base k "_law_take" ["_law_store_here", "_law_many"] (spTake K l) f1 fd1) : Def P w K mg base (k + 1) "_law_pick" ps__law_pick (spPick K l) f fd := by
  refine ⟨F.F.ok sc__law_pick (fun vs H Q E h => ?_) (fun cdv A outer s H vs Q E hr h => ?_), F.m, F.F.kp, F.b⟩
  · obtain ⟨_, _, _, rfl, _⟩ := h
    rfl
  obtain ⟨s, a, xs, rfl, hS, n, ha, h0, hl, z⟩ := h
  refine ⟨_, (pss_one (ps_ret (pe_ix ix_list (pv 1) (pcall d_law_take hr (pa_cons (pv 0) (pa_cons (pe_callB call_len_seq (by rfl) T.len_ PySem.boot_len (pa_cons (pv 1) pa_nil)) pa_nil))) (fun _ _ => rfl)))), ?_⟩
  have p32 : (2 : Nat) ^ 32 = 4294967296 := by decide
  have p64 : (2 : Int) ^ 64 = 18446744073709551616 := by decide
  refine ⟨_, rfl, _, rfl, _, rfl, a, _, rfl, .inl ha, s, _, rfl, hS, by omega, fun r H' r0 r1 S' e => ?_⟩
  have hr : r.toNat < xs.length := by omega
  refine ⟨a, _, _, xs[r.toNat], rfl, rfl, seq_fr e n ha, at_of (j := r.toNat) (by omega) (List.getElem?_eq_getElem hr), z _ _ (List.getElem_mem hr) S' e⟩
end Vk
namespace Vk
open PySem L2 Vm
variable {l : Addr} {P : Program} {w : World} {K : PySem.W.Frag} {mg : Str → Option Value} {base : Heap} {k : Nat} {f f1 f2 f3 f4 f5 f6 f7 f8 f9 : Addr} {fd fd1 fd2 fd3 fd4 fd5 fd6 fd7 fd8 fd9 : FuncData}
/-! ### data -/
def dq (q : Rat) : PyData := .tuple [.int q.num, .int (q.den : Int)]
theorem Rq.dp {H : Hp} {v : V} {q : Rat} (h : Rq K H v q) : Dp K H v (dq q) := by
  obtain ⟨a, rfl, h⟩ := h
  exact .tup h (.cons (.int _) (.cons (.int _) .nil))
theorem sh_dq (q : Rat) : SeqAt.shaped (dq q) = true := rfl
theorem eqv_dq (p q : Rat) : PyData.eqv (dq p) (dq q) = decide (p = q) := by
  show ((p.num == q.num) && (((p.den : Int) == (q.den : Int)) && true)) = decide (p = q)
  by_cases h : p = q
  · subst h
    simp
  · rw [decide_eq_false h]
    by_cases h1 : p.num = q.num
    · by_cases h2 : p.den = q.den
      · exact absurd (Rat.ext h1 h2) h
      · have : ((p.den : Int) == (q.den : Int)) = false := beq_false_of_ne (by omega)
        rw [this]
        simp
    · have : (p.num == q.num) = false := by simpa using h1
      rw [this]
      simp
inductive Tree : Nat → PyData → Prop
  | int {n} (i : Int) : Tree n (.int i)
  | non {n} : Tree n .none
  | tup {n} {ds : List PyData} : ds.length ≤ 1000 → (∀ d ∈ ds, Tree n d) → Tree (n + 1) (.tuple ds)
  | lst {n} {ds : List PyData} : ds.length ≤ 1000 → (∀ d ∈ ds, Tree n d) → Tree (n + 1) (.list ds)
theorem tree_dq (n : Nat) (q : Rat) : Tree (n + 1) (dq q) := .tup (by show 2 ≤ 1000; decide) fun d h => by
  rcases List.mem_cons.mp h with rfl | h
  · exact .int _
  · rcases List.mem_cons.mp h with rfl | h
    · exact .int _
    · cases h
theorem sql_ty {H : Hp} {a : Addr} {xs : List V} (h : SqL K H a xs) : TyX K H (.ref a) (.type "list") := by
  rcases h with (h | ⟨o, h⟩) | ⟨o, its, n, h, c, _⟩
  · exact .base (.lst h)
  · exact .base (.frz h)
  · exact .kList h c
theorem sqt_ty {H : Hp} {a : Addr} {xs : List V} (h : SqT K H a xs) : TyX K H (.ref a) (.type "tuple") := by
  rcases h with (h | ⟨o, h⟩) | ⟨o, its, n, h, c, _⟩
  · exact .base (.tup h)
  · exact .fTuple h
  · exact .kTuple h c
theorem dpall_len {H : Hp} : ∀ {vs : List V} {ds : List PyData}, DpAll K H vs ds → vs.length = ds.length
  | _, _, .nil => rfl
  | _, _, .cons _ t => by simp [dpall_len t]
theorem dpall_at {H : Hp} : ∀ {vs : List V} {ds : List PyData}, DpAll K H vs ds → ∀ {i : Nat} {d : PyData}, ds[i]? = some d → ∃ v, vs[i]? = some v ∧ Dp K H v d
  | _, _, .nil, i, d, h => by simp at h
  | _, _, .cons r t, 0, d, h => ⟨_, rfl, by rw [← Option.some.inj h]; exact r⟩
  | _, _, .cons r t, i + 1, d, h => dpall_at t h
abbrev s__law_is_int : Stmt := top 23
abbrev N__law_is_int : List Str := ["_law_value"]
theorem sc__law_is_int : FnScope N__law_is_int ["_law_value"] (defScope s__law_is_int) := ⟨rfl, rfl, rfl, by decide +kernel, rfl, by decide +kernel, by decide +kernel⟩
abbrev ps__law_is_int : List Str := ["_law_value"]
def spIsInt (K : PySem.W.Frag) : Sp := fun vs H Q _ => ∃ i : Int, vs = [.int i] ∧ Q (.bl true) H
theorem ok_is_int (T : Bn mg) (F : Fn K mg "_law_is_int" s__law_is_int ps__law_is_int f fd) : Def P w K mg base (k + 1) "_law_is_int" ps__law_is_int (spIsInt K) f fd := by
  refine ⟨F.F.ok sc__law_is_int (fun vs H Q E h => ?_) (fun cdv A outer s H vs Q E hr h => ?_), F.m, F.F.kp, F.b⟩
  · obtain ⟨i, rfl, _⟩ := h
    rfl
  obtain ⟨i, rfl, z⟩ := h
  refine ⟨_, (pss_one (ps_ret (pe_and (pe_callB call_isi (by rfl) T.isinstance_ (by decide +kernel) (pa_cons (pv 0) (pa_cons (pe_bltn (v := .ty "int") (by rfl) T.int_ (by decide +kernel) rfl) pa_nil))) (pe_one (pe_not (pe_callB call_isi (by rfl) T.isinstance_ (by decide +kernel) (pa_cons (pv 0) (pa_cons (pe_bltn (v := .ty "bool") (by rfl) T.bool_ (by decide +kernel) rfl) pa_nil)))))))), ?_⟩
  exact ⟨_, rfl, _, _, _, _, true, rfl, .ty _, (.base (.int i)), kit_ty (by decide +kernel), _, rfl, ifT rfl ⟨_, rfl, _, _, _, _, false, rfl, .ty _, (.base (.int i)), kit_ty (by decide +kernel), _, rfl, z⟩⟩
abbrev s__law_same : Stmt := top 24
abbrev N__law_same : List Str := ["_law_value", "_law_due", "_law_keys", "_law_name", "_law_k"]
theorem sc__law_same : FnScope N__law_same ["_law_value", "_law_due"] (defScope s__law_same) := ⟨rfl, rfl, rfl, by decide +kernel, rfl, by decide +kernel, by decide +kernel⟩
abbrev ps__law_same : List Str := ["_law_value", "_law_due"]
def spSame (K : PySem.W.Frag) (n : Nat) : Sp := fun vs H Q _ => ∃ (v u : V) (d : PyData), vs = [v, u] ∧ Dp K H v d ∧ Dp K H u d ∧ Tree n d ∧ Q (.bl true) H
theorem ok_same1 (T : Bn mg) (n : Nat) (F : Fn K mg "_law_same" s__law_same ps__law_same f fd) (d_law_is_int : Def P w K mg base (k + n) "_law_is_int" ["_law_value"] (spIsInt K) f1 fd1)
    (d_law_same : Def P w K mg base (k + n) "_law_same" ["_law_value", "_law_due"] (fun vs H Q E => ∃ m, m + 1 = n ∧ spSame K m vs H Q E) f fd) : Def P w K mg base (k + n + 1) "_law_same" ps__law_same (spSame K n) f fd := by
  refine ⟨F.F.ok sc__law_same (fun vs H Q E h => ?_) (fun cdv A outer s H vs Q E hr h => ?_), F.m, F.F.kp, F.b⟩
  · obtain ⟨v, u, d, rfl, _⟩ := h
    rfl
  obtain ⟨v, u, d, rfl, hv, hu, ht, z⟩ := h
  refine ⟨_, (pss_cons (ps_if (pt_cmpR op_isN (pv 1) pe_non (nomark _))
        (pss_one (ps_ret (pe_cmpR op_isN (pv 0) pe_non (nomark _))))
        pss_nil)
      (pss_cons (ps_if (pt_val (pe_callB call_isi (by rfl) T.isinstance_ (by decide +kernel) (pa_cons (pv 1) (pa_cons (pe_bltn (v := .ty "bool") (by rfl) T.bool_ (by decide +kernel) rfl) pa_nil))))
        (pss_one (ps_ret (pe_and (pe_callB call_isi (by rfl) T.isinstance_ (by decide +kernel) (pa_cons (pv 0) (pa_cons (pe_bltn (v := .ty "bool") (by rfl) T.bool_ (by decide +kernel) rfl) pa_nil))) (pe_one (pe_cmpR (op_eqD hr.units) (pv 0) (pv 1) (nomark _))))))
        pss_nil)
      (pss_cons (ps_if (pt_val (pe_callB call_isi (by rfl) T.isinstance_ (by decide +kernel) (pa_cons (pv 1) (pa_cons (pe_bltn (v := .ty "int") (by rfl) T.int_ (by decide +kernel) rfl) pa_nil))))
        (pss_one (ps_ret (pe_and (pcall d_law_is_int hr (pa_cons (pv 0) pa_nil)) (pe_one (pe_cmpR (op_eqD hr.units) (pv 0) (pv 1) (nomark _))))))
        pss_nil)
      (pss_cons (ps_if (pt_val (pe_callB call_isi (by rfl) T.isinstance_ (by decide +kernel) (pa_cons (pv 1) (pa_cons (pe_bltn (v := .ty "str") (by rfl) T.str_ (by decide +kernel) rfl) pa_nil))))
        (pss_one (ps_ret (pe_and (pe_callB call_isi (by rfl) T.isinstance_ (by decide +kernel) (pa_cons (pv 0) (pa_cons (pe_bltn (v := .ty "str") (by rfl) T.str_ (by decide +kernel) rfl) pa_nil))) (pe_one (pe_cmpR (op_eqD hr.units) (pv 0) (pv 1) (nomark _))))))
        pss_nil)
      (pss_cons (ps_if (pt_val (pe_callB call_isi (by rfl) T.isinstance_ (by decide +kernel) (pa_cons (pv 1) (pa_cons (pe_bltn (v := .ty "dict") (by rfl) T.dict_ (by decide +kernel) rfl) pa_nil))))
        pss_never
        pss_nil)
      (pss_cons (ps_if (PW.pt (pw_and (pt_val (pe_callB call_isi (by rfl) T.isinstance_ (by decide +kernel) (pa_cons (pv 1) (pa_cons (pe_bltn (v := .ty "list") (by rfl) T.list_ (by decide +kernel) rfl) pa_nil)))) (pw_and1 (pt_not (pt_val (pe_callB call_isi (by rfl) T.isinstance_ (by decide +kernel) (pa_cons (pv 0) (pa_cons (pe_bltn (v := .ty "list") (by rfl) T.list_ (by decide +kernel) rfl) pa_nil))))))))
        (pss_one (ps_ret pe_bl))
        pss_nil)
      (pss_cons (ps_if (PW.pt (pw_and (pt_val (pe_callB call_isi (by rfl) T.isinstance_ (by decide +kernel) (pa_cons (pv 1) (pa_cons (pe_bltn (v := .ty "tuple") (by rfl) T.tuple_ (by decide +kernel) rfl) pa_nil)))) (pw_and1 (pt_not (pt_val (pe_callB call_isi (by rfl) T.isinstance_ (by decide +kernel) (pa_cons (pv 0) (pa_cons (pe_bltn (v := .ty "tuple") (by rfl) T.tuple_ (by decide +kernel) rfl) pa_nil))))))))
        (pss_one (ps_ret pe_bl))
        pss_nil)
      (pss_cons (ps_if (pt_cmpR op_ne (pe_callB call_len_seq (by rfl) T.len_ PySem.boot_len (pa_cons (pv 0) pa_nil)) (pe_callB call_len_seq (by rfl) T.len_ PySem.boot_len (pa_cons (pv 1) pa_nil)) (nomark _))
        (pss_one (ps_ret pe_bl))
        pss_nil)
      (pss_cons (ps_for PassesOwn.never rfl (pi_range1 (by rfl) T.range_ (pa_cons (pe_callB call_len_seq (by rfl) T.len_ PySem.boot_len (pa_cons (pv 1) pa_nil)) pa_nil)) (pg_name (i := 4) sc__law_same.nd rfl (Or.inl rfl))
        (pss_one (ps_if (pt_not (pt_val (pcall d_law_same hr (pa_cons (pe_ix ix_seq (pv 0) (pv 4) (fun _ _ => rfl)) (pa_cons (pe_ix ix_seq (pv 1) (pv 4) (fun _ _ => rfl)) pa_nil)))))
          (pss_one (ps_ret pe_bl))
          pss_nil)))
      (pss_one (ps_ret pe_bl))))))))))), ?_⟩
  cases ht with
  | int i =>
    cases hv
    cases hu
    refine ⟨_, rfl, rfl, _, rfl, ifF (dF nofun) ⟨_, rfl, _, _, _, _, false, rfl, .ty _, (.base (.int i)), kit_ty (by decide +kernel), _, rfl, ifF rfl ⟨_, rfl, _, _, _, _, true, rfl, .ty _, (.base (.int i)), kit_ty (by decide +kernel), _, rfl, ifT rfl ?_⟩⟩⟩
    refine ⟨_, rfl, i, rfl, _, rfl, ifT rfl ⟨_, rfl, _, rfl, _, _, .int i, .int i, rfl, rfl, ?_⟩⟩
    rw [show PyData.eqv (.int i) (.int i) = true from beq_self_eq_true i]
    exact z
  | non =>
    cases hv
    cases hu
    exact ⟨_, rfl, rfl, _, rfl, ifT (dT rfl) ⟨_, rfl, rfl, z⟩⟩
  | tup hl hall =>
    rename_i m ds
    cases hv with
    | tup ha da =>
    rename_i a xs
    cases hu with
    | tup hb db =>
    rename_i b ys
    have lx := dpall_len da
    have ly := dpall_len db
    have ta := sqt_ty ha
    have tb := sqt_ty hb
    refine ⟨_, rfl, rfl, _, rfl, ifF (dF nofun) ⟨_, rfl, _, _, _, _, false, rfl, .ty _, tb, kit_ty (by decide +kernel), _, rfl, ifF rfl ⟨_, rfl, _, _, _, _, false, rfl, .ty _, tb, kit_ty (by decide +kernel), _, rfl, ifF rfl ⟨_, rfl, _, _, _, _, false, rfl, .ty _, tb, kit_ty (by decide +kernel), _, rfl, ifF rfl ⟨_, rfl, _, _, _, _, false, rfl, .ty _, tb, kit_ty (by decide +kernel), _, rfl, ifF rfl ?_⟩⟩⟩⟩⟩
    refine ⟨_, rfl, _, _, _, _, false, rfl, .ty _, tb, kit_ty (by decide +kernel), _, rfl, ifF rfl (ifF rfl ⟨_, rfl, _, _, _, _, true, rfl, .ty _, tb, kit_ty (by decide +kernel), _, rfl, ifT rfl ⟨_, rfl, _, _, _, _, true, rfl, .ty _, ta, kit_ty (by decide +kernel), _, rfl, ifF rfl ?_⟩⟩)⟩
    refine ⟨_, rfl, a, _, rfl, .inr ha, _, rfl, b, _, rfl, .inr hb, rfl, _, rfl, ifF ?_ ?_⟩
    · rw [lx, ly]
      simp
    have p62 : (2 : Int) ^ 62 = 4611686018427387904 := by decide
    refine ⟨_, rfl, b, _, rfl, .inr hb, _, rfl, by omega, by omega, for_range (n := ((ys.length : Nat) : Int).toNat) (fun i σ H' => ∃ kk, σ = [some (.ref a), some (.ref b), none, none, kk] ∧ H' = H) ⟨none, rfl, rfl⟩ ?_ ?_⟩
    · rintro i σ H' hi ⟨kk, rfl, rfl⟩
      have hi' : i < ds.length := by omega
      obtain ⟨v, hv, dv⟩ := dpall_at da (List.getElem?_eq_getElem hi')
      obtain ⟨u, hu, du⟩ := dpall_at db (List.getElem?_eq_getElem hi')
      refine ⟨_, rfl, _, rfl, .inr (.inl ⟨a, _, _, v, rfl, rfl, ha, at_of (j := i) (by omega) hv, _, rfl, _, rfl, .inr (.inl ⟨b, _, _, u, rfl, rfl, hb, at_of (j := i) (by omega) hu, m, rfl, v, u, _, rfl, dv, du, hall _ (List.getElem_mem hi'), ?_⟩)⟩)⟩
      exact ⟨_, rfl, ifF rfl ⟨_, rfl, rfl⟩⟩
    · rintro σ H' ⟨kk, rfl, rfl⟩
      exact z
  | lst hl hall =>
    rename_i m ds
    cases hv with
    | lst ha da =>
    rename_i a xs
    cases hu with
    | lst hb db =>
    rename_i b ys
    have lx := dpall_len da
    have ly := dpall_len db
    have ta := sql_ty ha
    have tb := sql_ty hb
    refine ⟨_, rfl, rfl, _, rfl, ifF (dF nofun) ⟨_, rfl, _, _, _, _, false, rfl, .ty _, tb, kit_ty (by decide +kernel), _, rfl, ifF rfl ⟨_, rfl, _, _, _, _, false, rfl, .ty _, tb, kit_ty (by decide +kernel), _, rfl, ifF rfl ⟨_, rfl, _, _, _, _, false, rfl, .ty _, tb, kit_ty (by decide +kernel), _, rfl, ifF rfl ⟨_, rfl, _, _, _, _, false, rfl, .ty _, tb, kit_ty (by decide +kernel), _, rfl, ifF rfl ?_⟩⟩⟩⟩⟩
    refine ⟨_, rfl, _, _, _, _, true, rfl, .ty _, tb, kit_ty (by decide +kernel), _, rfl, ifT rfl ⟨_, rfl, _, _, _, _, true, rfl, .ty _, ta, kit_ty (by decide +kernel), _, rfl, ifF rfl ⟨_, rfl, _, _, _, _, false, rfl, .ty _, tb, kit_ty (by decide +kernel), _, rfl, ifF rfl (ifF rfl ?_)⟩⟩⟩
    refine ⟨_, rfl, a, _, rfl, .inl ha, _, rfl, b, _, rfl, .inl hb, rfl, _, rfl, ifF ?_ ?_⟩
    · rw [lx, ly]
      simp
    have p62 : (2 : Int) ^ 62 = 4611686018427387904 := by decide
    refine ⟨_, rfl, b, _, rfl, .inl hb, _, rfl, by omega, by omega, for_range (n := ((ys.length : Nat) : Int).toNat) (fun i σ H' => ∃ kk, σ = [some (.ref a), some (.ref b), none, none, kk] ∧ H' = H) ⟨none, rfl, rfl⟩ ?_ ?_⟩
    · rintro i σ H' hi ⟨kk, rfl, rfl⟩
      have hi' : i < ds.length := by omega
      obtain ⟨v, hv, dv⟩ := dpall_at da (List.getElem?_eq_getElem hi')
      obtain ⟨u, hu, du⟩ := dpall_at db (List.getElem?_eq_getElem hi')
      refine ⟨_, rfl, _, rfl, .inl ⟨a, _, _, v, rfl, rfl, ha, at_of (j := i) (by omega) hv, _, rfl, _, rfl, .inl ⟨b, _, _, u, rfl, rfl, hb, at_of (j := i) (by omega) hu, m, rfl, v, u, _, rfl, dv, du, hall _ (List.getElem_mem hi'), ?_⟩⟩⟩
      exact ⟨_, rfl, ifF rfl ⟨_, rfl, rfl⟩⟩
    · rintro σ H' ⟨kk, rfl, rfl⟩
      exact z
abbrev s__law_size : Stmt := top 22
abbrev N__law_size : List Str := ["_law_store_here", "_law_least", "_law_top", "_law_sort"]
theorem sc__law_size : FnScope N__law_size ["_law_store_here", "_law_least", "_law_top"] (defScope s__law_size) := ⟨rfl, rfl, rfl, by decide +kernel, rfl, by decide +kernel, by decide +kernel⟩
abbrev ps__law_size : List Str := ["_law_store_here", "_law_least", "_law_top"]
def spSize (K : PySem.W.Frag) (l : Addr) : Sp := fun vs H Q _ => ∃ (s : Addr) (lo hi : Int), vs = [.ref s, .int lo, .int hi] ∧ Sto l s H ∧ lo ≤ hi ∧ hi - lo < 2 ^ 32 ∧ ∀ (r : Int) H', lo ≤ r → r ≤ hi → Sto l s H' → Fr s H H' → Q (.int r) H'
theorem ok_size (F : Fn K mg "_law_size" s__law_size ps__law_size f fd) (d_law_take : Def P w K mg base k "_law_take" ["_law_store_here", "_law_many"] (spTake K l) f1 fd1) : Def P w K mg base (k + 1) "_law_size" ps__law_size (spSize K l) f fd := by
  refine ⟨F.F.ok sc__law_size (fun vs H Q E h => ?_) (fun cdv A outer s H vs Q E hr h => ?_), F.m, F.F.kp, F.b⟩
  · obtain ⟨_, _, _, rfl, _⟩ := h
    rfl
  obtain ⟨s, lo, hi, rfl, hS, h1, h2, z⟩ := h
  refine ⟨_, (pss_cons (ps_set (i := 3) sc__law_size.nd rfl (Or.inl rfl) (pcall d_law_take hr (pa_cons (pv 0) (pa_cons pe_int pa_nil))))
      (pss_cons (ps_if (pt_cmpR op_eq (pv 3) pe_int (nomark _))
        (pss_one (ps_ret (pv 1)))
        pss_nil)
      (pss_cons (ps_if (pt_cmpR op_eq (pv 3) pe_int (nomark _))
        (pss_one (ps_ret (pv 2)))
        pss_nil)
      (pss_one (ps_ret (pe_op op_add (pv 1) (pcall d_law_take hr (pa_cons (pv 0) (pa_cons (pe_op op_add (pe_op op_sub (pv 2) (pv 1)) pe_int) pa_nil))))))))), ?_⟩
  have p32 : (2 : Int) ^ 32 = 4294967296 := by decide
  have p64 : (2 : Int) ^ 64 = 18446744073709551616 := by decide
  refine ⟨_, rfl, s, 6, rfl, hS, by decide, fun r H1 r0 r1 S1 e1 => ?_⟩
  refine ⟨_, rfl, rfl, _, rfl, ifD (fun _ => ⟨_, rfl, z _ _ (by omega) h1 S1 e1⟩) (fun _ => ?_)⟩
  refine ⟨_, rfl, rfl, _, rfl, ifD (fun _ => ⟨_, rfl, z _ _ h1 (by omega) S1 e1⟩) (fun _ => ?_)⟩
  refine ⟨_, rfl, _, rfl, _, rfl, _, rfl, _, _, rfl, rfl, _, _, rfl, rfl, s, _, rfl, S1, by omega, fun r' H2 r2 r3 S2 e2 => ⟨_, _, rfl, rfl, ?_⟩⟩
  exact z _ _ (by omega) (by omega) S2 (e1.trans e2)
theorem ok_same (T : Bn mg) (F : Fn K mg "_law_same" s__law_same ps__law_same f fd) (d_law_is_int : Def P w K mg base k "_law_is_int" ["_law_value"] (spIsInt K) f1 fd1) : ∀ n, Def P w K mg base (k + n + 1) "_law_same" ps__law_same (spSame K n) f fd
  | 0 => ok_same1 T 0 F (d_law_is_int.up (Nat.le_refl _)) ⟨⟨fun vs H Q E h => by obtain ⟨m, h, _⟩ := h; omega, fun A outer s H args us vs Q E _ _ _ _ h => by obtain ⟨m, h, _⟩ := h; omega⟩, F.m, F.F.kp, F.b⟩
  | n + 1 => by
    have ih := ok_same T F d_law_is_int n
    exact ok_same1 T (n + 1) F (d_law_is_int.up (by omega)) ⟨ih.ok.imp fun vs H Q E h => by
      obtain ⟨m, h, q⟩ := h
      have e : m = n := by omega
      subst e
      exact q, F.m, F.F.kp, F.b⟩
end Vk
namespace Vk
open PySem L2 Vm
variable {l : Addr} {P : Program} {w : World} {K : PySem.W.Frag} {mg : Str → Option Value} {base : Heap} {k : Nat} {f f1 f2 f3 f4 f5 f6 f7 f8 f9 : Addr} {fd fd1 fd2 fd3 fd4 fd5 fd6 fd7 fd8 fd9 : FuncData}
/-! ### drawn rationals -/
def Qd (K : PySem.W.Frag) (m : Nat) (ok : Rat → Prop) (H : Hp) (v : V) : Prop := ∃ q, Rq K H v q ∧ Sz m q ∧ ok q
theorem Qd.same {m : Nat} {ok : Rat → Prop} {H H' : Hp} {v : V} (e : Same H H') (h : Qd K m ok H v) : Qd K m ok H' v := by
  obtain ⟨q, h, r⟩ := h
  exact ⟨q, h.same e, r⟩
theorem Qd.fr {m : Nat} {ok : Rat → Prop} {s : Addr} {H H' : Hp} {v : V} (e : Fr s H H') (hs : Sto l s H) (h : Qd K m ok H v) : Qd K m ok H' v := by
  obtain ⟨q, h, r⟩ := h
  exact ⟨q, h.fr e hs.some, r⟩
theorem Qd.new {m : Nat} {ok : Rat → Prop} {H : Hp} {t : Addr} (n d : Int) (q : Rat) (en : q.num = n) (ed : (q.den : Int) = d) (z : Sz m q) (o : ok q) : Qd K m ok (upd H t (.tup [.int n, .int d])) (.ref t) :=
  ⟨q, ⟨t, rfl, SqT.of (by rw [upd_same, en, ed])⟩, z, o⟩
theorem rq_new {H : Hp} {t : Addr} (n d : Int) (q : Rat) (en : q.num = n) (ed : (q.den : Int) = d) : Rq K (upd H t (.tup [.int n, .int d])) (.ref t) q := ⟨t, rfl, SqT.of (by rw [upd_same, en, ed])⟩
instance (k : Nat) (q : Rat) : Decidable (Sz k q) := inferInstanceAs (Decidable (_ ∧ _))
/-- a written pair: from then on a drawn rational -/
theorem newq {m : Nat} {ok : Rat → Prop} {H : Hp} {Q : V → Hp → Prop} (n d : Int) (q : Rat) (en : q.num = n) (ed : (q.den : Int) = d) (z : Sz m q) (o : ok q) (h : ∀ v H', Same H H' → Qd K m ok H' v → Q v H') : ∀ t, H t = none → Q (.ref t) (upd H t (.tup [.int n, .int d])) :=
  fun t ht => h _ _ (same_new ht _) (Qd.new n d q en ed z o)
def anyQ : Rat → Prop := fun _ => True
def posQ : Rat → Prop := fun q => 0 < q
instance (q : Rat) : Decidable (posQ q) := inferInstanceAs (Decidable (0 < q))
/-- a rational is drawn -/
def spDraw (K : PySem.W.Frag) (l : Addr) (m : Nat) (ok : Rat → Prop) : Sp := fun vs H Q _ => ∃ (s : Addr), vs = [.ref s] ∧ Sto l s H ∧ ∀ (v : V) H', Qd K m ok H' v → Sto l s H' → Fr s H H' → Q v H'
theorem mk_pos {n d : Int} (hn : 0 < n) (hd : 0 < d) : 0 < mkRat n d.toNat := by
  refine pos_of_num ?_
  have dn : d.toNat ≠ 0 := by omega
  rw [mk_num n dn]
  have g := Nat.gcd_le_left d.toNat (show 0 < n.natAbs by omega)
  have gp : 0 < Nat.gcd n.natAbs d.toNat := Nat.gcd_pos_of_pos_left _ (by omega)
  exact Int.ediv_pos_of_pos_of_dvd hn (by omega) (by
    have := Nat.gcd_dvd_left n.natAbs d.toNat
    have e : n = (n.natAbs : Int) := by omega
    rw [e]
    exact Int.natCast_dvd_natCast.mpr (by rw [Int.natAbs_natCast]; exact this))
theorem lt2 {i : Int} {b : Nat} (c : Nat) (h : i.natAbs < c) (e : c ≤ 2 ^ b) : i.natAbs < 2 ^ b := Nat.lt_of_lt_of_le h e
abbrev s__law_part : Stmt := top 33
abbrev N__law_part : List Str := ["_law_store_here", "_law_sort"]
theorem sc__law_part : FnScope N__law_part ["_law_store_here"] (defScope s__law_part) := ⟨rfl, rfl, rfl, by decide +kernel, rfl, by decide +kernel, by decide +kernel⟩
abbrev ps__law_part : List Str := ["_law_store_here"]
theorem ok_part (F : Fn K mg "_law_part" s__law_part ps__law_part f fd) (d_law_take : Def P w K mg base k "_law_take" ["_law_store_here", "_law_many"] (spTake K l) f1 fd1) (d_law_pick : Def P w K mg base k "_law_pick" ["_law_store_here", "_law_things"] (spPick K l) f2 fd2)
    (d_law_frac : Def P w K mg base k "_law_frac" ["_law_n", "_law_d"] (spFrac K) f3 fd3) : Def P w K mg base (k + 1) "_law_part" ps__law_part (spDraw K l 5 anyQ) f fd := by
  refine ⟨F.F.ok sc__law_part (fun vs H Q E h => ?_) (fun cdv A outer s H vs Q E hr h => ?_), F.m, F.F.kp, F.b⟩
  · obtain ⟨_, rfl, _⟩ := h
    rfl
  obtain ⟨s, rfl, hS, z⟩ := h
  refine ⟨_, (pss_cons (ps_set (i := 1) sc__law_part.nd rfl (Or.inl rfl) (pcall d_law_take hr (pa_cons (pv 0) (pa_cons pe_int pa_nil))))
      (pss_cons (ps_if (pt_cmpR op_lt (pv 1) pe_int (nomark _))
        (pss_one (ps_ret (pcall d_law_pick hr (pa_cons (pv 0) (pa_cons (pe_lst (pa_cons (pe_tup (pa_cons pe_int (pa_cons pe_int pa_nil))) (pa_cons (pe_tup (pa_cons pe_int (pa_cons pe_int pa_nil))) (pa_cons (pe_tup (pa_cons pe_int (pa_cons pe_int pa_nil))) (pa_cons (pe_tup (pa_cons (pe_un un_neg pe_int) (pa_cons pe_int pa_nil))) (pa_cons (pe_tup (pa_cons pe_int (pa_cons pe_int pa_nil))) (pa_cons (pe_tup (pa_cons (pe_un un_neg pe_int) (pa_cons pe_int pa_nil))) pa_nil))))))) pa_nil)))))
        pss_nil)
      (pss_one (ps_ret (pcall d_law_frac hr (pa_cons (pe_op op_sub (pcall d_law_take hr (pa_cons (pv 0) (pa_cons pe_int pa_nil))) pe_int) (pa_cons (pe_op op_add pe_int (pcall d_law_take hr (pa_cons (pv 0) (pa_cons pe_int pa_nil)))) pa_nil))))))), ?_⟩
  refine ⟨_, rfl, s, 6, rfl, hS, by decide, fun r H1 r0 r1 S1 e1 => ?_⟩
  refine ⟨_, rfl, _, _, rfl, rfl, _, rfl, ifD (fun _ => ?_) (fun _ => ?_)⟩
  · refine ⟨_, rfl, sz2, fun t1 h1 => ?_⟩
    have c1 := same_new h1 (.tup [.int 0, .int 1]); have q1 := Qd.new (K := K) (m := 5) (ok := anyQ) (H := H1) (t := t1) 0 1 (0) (by decide) (by decide) (by decide) trivial; generalize upd H1 t1 (.tup [.int 0, .int 1]) = G1 at c1 q1 ⊢
    refine ⟨sz2, fun t2 h2 => ?_⟩
    have c2 := same_new h2 (.tup [.int 0, .int 1]); have q2 := Qd.new (K := K) (m := 5) (ok := anyQ) (H := G1) (t := t2) 0 1 (0) (by decide) (by decide) (by decide) trivial; generalize upd G1 t2 (.tup [.int 0, .int 1]) = G2 at c2 q2 ⊢
    refine ⟨sz2, fun t3 h3 => ?_⟩
    have c3 := same_new h3 (.tup [.int 1, .int 1]); have q3 := Qd.new (K := K) (m := 5) (ok := anyQ) (H := G2) (t := t3) 1 1 (1) (by decide) (by decide) (by decide) trivial; generalize upd G2 t3 (.tup [.int 1, .int 1]) = G3 at c3 q3 ⊢
    refine ⟨_, rfl, sz2, fun t4 h4 => ?_⟩
    have c4 := same_new h4 (.tup [.int (-1), .int 1]); have q4 := Qd.new (K := K) (m := 5) (ok := anyQ) (H := G3) (t := t4) (-1) 1 (-1) (by decide) (by decide) (by decide) trivial; generalize upd G3 t4 (.tup [.int (-1), .int 1]) = G4 at c4 q4 ⊢
    refine ⟨sz2, fun t5 h5 => ?_⟩
    have c5 := same_new h5 (.tup [.int 1, .int 2]); have q5 := Qd.new (K := K) (m := 5) (ok := anyQ) (H := G4) (t := t5) 1 2 (mkRat 1 2) (by decide) (by decide) (by decide) trivial; generalize upd G4 t5 (.tup [.int 1, .int 2]) = G5 at c5 q5 ⊢
    refine ⟨_, rfl, sz2, fun t6 h6 => ?_⟩
    have c6 := same_new h6 (.tup [.int (-1), .int 2]); have q6 := Qd.new (K := K) (m := 5) (ok := anyQ) (H := G5) (t := t6) (-1) 2 (mkRat (-1) 2) (by decide) (by decide) (by decide) trivial; generalize upd G5 t6 (.tup [.int (-1), .int 2]) = G6 at c6 q6 ⊢
    refine ⟨sm6, fun p h7 => ?_⟩
    have c7 := same_new h7 (.lst [.ref t1, .ref t2, .ref t3, .ref t4, .ref t5, .ref t6])
    have d6 := c6.trans c7; have d5 := c5.trans d6; have d4 := c4.trans d5; have d3 := c3.trans d4; have d2 := c2.trans d3; have d1 := c1.trans d2
    have S7 := S1.same d1
    have q1 := q1.same d2; have q2 := q2.same d3; have q3 := q3.same d4; have q4 := q4.same d5; have q5 := q5.same d6; have q6 := q6.same c7
    refine ⟨s, p, _, rfl, S7, (S1.same (c1.trans (c2.trans (c3.trans (c4.trans (c5.trans c6)))))).ne h7, SqL.of upd_same, (by show 0 < 6; decide), (by show 6 < 2 ^ 32; decide), fun v H' hv S' e' => z _ _ ?_ S' (e1.trans ((Fr.of d1).trans e'))⟩
    refine Qd.fr e' S7 ?_
    simp only [List.mem_cons, List.mem_nil_iff, or_false] at hv
    rcases hv with rfl | rfl | rfl | rfl | rfl | rfl <;> assumption
  · refine ⟨_, rfl, s, 49, rfl, S1, by decide, fun r2 H2 r3 r4 S2 e2 => ⟨_, _, rfl, rfl, ?_⟩⟩
    refine ⟨_, rfl, s, 6, rfl, S2, by decide, fun r5 H3 r6 r7 S3 e3 => ⟨_, _, rfl, rfl, ?_⟩⟩
    refine ⟨_, _, 5, rfl, by omega, lt2 25 (by omega) (by decide), lt2 7 (by omega) (by decide), by decide, fun v H' e hv => z _ _ ⟨_, hv, sz_mk (by omega) ?_ ?_, trivial⟩ (S3.same e) (e1.trans (e2.trans (e3.trans (Fr.of e))))⟩
    · exact lt2 25 (by omega) (by decide)
    · have : (2 : Nat) ^ 5 = 32 := by decide
      omega
abbrev s__law_above : Stmt := top 34
abbrev N__law_above : List Str := ["_law_store_here"]
theorem sc__law_above : FnScope N__law_above ["_law_store_here"] (defScope s__law_above) := ⟨rfl, rfl, rfl, by decide +kernel, rfl, by decide +kernel, by decide +kernel⟩
abbrev ps__law_above : List Str := ["_law_store_here"]
theorem ok_above (F : Fn K mg "_law_above" s__law_above ps__law_above f fd) (d_law_take : Def P w K mg base k "_law_take" ["_law_store_here", "_law_many"] (spTake K l) f1 fd1) (d_law_frac : Def P w K mg base k "_law_frac" ["_law_n", "_law_d"] (spFrac K) f3 fd3) : Def P w K mg base (k + 1) "_law_above" ps__law_above (spDraw K l 5 posQ) f fd := by
  refine ⟨F.F.ok sc__law_above (fun vs H Q E h => ?_) (fun cdv A outer s H vs Q E hr h => ?_), F.m, F.F.kp, F.b⟩
  · obtain ⟨_, rfl, _⟩ := h
    rfl
  obtain ⟨s, rfl, hS, z⟩ := h
  refine ⟨_, (pss_cons (ps_if (pt_cmpR op_eq (pcall d_law_take hr (pa_cons (pv 0) (pa_cons pe_int pa_nil))) pe_int (nomark _))
        (pss_one (ps_ret (pe_tup (pa_cons pe_int (pa_cons pe_int pa_nil)))))
        pss_nil)
      (pss_one (ps_ret (pcall d_law_frac hr (pa_cons (pe_op op_add pe_int (pcall d_law_take hr (pa_cons (pv 0) (pa_cons pe_int pa_nil)))) (pa_cons (pe_op op_add pe_int (pcall d_law_take hr (pa_cons (pv 0) (pa_cons pe_int pa_nil)))) pa_nil)))))), ?_⟩
  refine ⟨_, rfl, s, 4, rfl, hS, by decide, fun r H1 r0 r1 S1 e1 => ?_⟩
  refine ⟨rfl, _, rfl, ifD (fun _ => ?_) (fun _ => ?_)⟩
  · exact ⟨sz2, fun t ht => z _ _ (Qd.new 1 1 1 rfl rfl (by decide) (by decide)) (S1.same (same_new ht _)) (e1.trans (Fr.of (same_new ht _)))⟩
  refine ⟨_, rfl, s, 24, rfl, S1, by decide, fun r2 H2 r3 r4 S2 e2 => ⟨_, _, rfl, rfl, ?_⟩⟩
  refine ⟨_, rfl, s, 6, rfl, S2, by decide, fun r5 H3 r6 r7 S3 e3 => ⟨_, _, rfl, rfl, ?_⟩⟩
  refine ⟨_, _, 5, rfl, by omega, lt2 25 (by omega) (by decide), lt2 7 (by omega) (by decide), by decide, fun v H' e hv => z _ _ ⟨_, hv, sz_mk (by omega) ?_ ?_, mk_pos (by omega) (by omega)⟩ (S3.same e) (e1.trans (e2.trans (e3.trans (Fr.of e))))⟩
  · exact lt2 25 (by omega) (by decide)
  · have : (2 : Nat) ^ 5 = 32 := by decide
    omega
abbrev s__law_pace : Stmt := top 37
abbrev N__law_pace : List Str := ["_law_store_here"]
theorem sc__law_pace : FnScope N__law_pace ["_law_store_here"] (defScope s__law_pace) := ⟨rfl, rfl, rfl, by decide +kernel, rfl, by decide +kernel, by decide +kernel⟩
abbrev ps__law_pace : List Str := ["_law_store_here"]
theorem ok_pace (F : Fn K mg "_law_pace" s__law_pace ps__law_pace f fd) (d_law_take : Def P w K mg base k "_law_take" ["_law_store_here", "_law_many"] (spTake K l) f1 fd1) (d_law_pick : Def P w K mg base k "_law_pick" ["_law_store_here", "_law_things"] (spPick K l) f2 fd2) (d_law_frac : Def P w K mg base k "_law_frac" ["_law_n", "_law_d"] (spFrac K) f3 fd3) : Def P w K mg base (k + 1) "_law_pace" ps__law_pace (spDraw K l 5 posQ) f fd := by
  refine ⟨F.F.ok sc__law_pace (fun vs H Q E h => ?_) (fun cdv A outer s H vs Q E hr h => ?_), F.m, F.F.kp, F.b⟩
  · obtain ⟨_, rfl, _⟩ := h
    rfl
  obtain ⟨s, rfl, hS, z⟩ := h
  refine ⟨_, (pss_cons (ps_if (pt_cmpR op_eq (pcall d_law_take hr (pa_cons (pv 0) (pa_cons pe_int pa_nil))) pe_int (nomark _))
        (pss_one (ps_ret (pcall d_law_pick hr (pa_cons (pv 0) (pa_cons (pe_lst (pa_cons (pe_tup (pa_cons pe_int (pa_cons pe_int pa_nil))) (pa_cons (pe_tup (pa_cons pe_int (pa_cons pe_int pa_nil))) (pa_cons (pe_tup (pa_cons pe_int (pa_cons pe_int pa_nil))) (pa_cons (pe_tup (pa_cons pe_int (pa_cons pe_int pa_nil))) (pa_cons (pe_tup (pa_cons pe_int (pa_cons pe_int pa_nil))) (pa_cons (pe_tup (pa_cons pe_int (pa_cons pe_int pa_nil))) pa_nil))))))) pa_nil)))))
        pss_nil)
      (pss_one (ps_ret (pcall d_law_frac hr (pa_cons (pe_op op_add pe_int (pcall d_law_take hr (pa_cons (pv 0) (pa_cons pe_int pa_nil)))) (pa_cons (pe_op op_add pe_int (pcall d_law_take hr (pa_cons (pv 0) (pa_cons pe_int pa_nil)))) pa_nil)))))), ?_⟩
  refine ⟨_, rfl, s, 2, rfl, hS, by decide, fun r H1 r0 r1 S1 e1 => ?_⟩
  refine ⟨rfl, _, rfl, ifD (fun _ => ?_) (fun _ => ?_)⟩
  · refine ⟨_, rfl, sz2, fun t1 h1 => ?_⟩
    have c1 := same_new h1 (.tup [.int 1, .int 1]); have q1 := Qd.new (K := K) (m := 5) (ok := posQ) (H := H1) (t := t1) 1 1 (1) (by decide) (by decide) (by decide) (by decide); generalize upd H1 t1 (.tup [.int 1, .int 1]) = G1 at c1 q1 ⊢
    refine ⟨sz2, fun t2 h2 => ?_⟩
    have c2 := same_new h2 (.tup [.int 1, .int 1]); have q2 := Qd.new (K := K) (m := 5) (ok := posQ) (H := G1) (t := t2) 1 1 (1) (by decide) (by decide) (by decide) (by decide); generalize upd G1 t2 (.tup [.int 1, .int 1]) = G2 at c2 q2 ⊢
    refine ⟨sz2, fun t3 h3 => ?_⟩
    have c3 := same_new h3 (.tup [.int 1, .int 2]); have q3 := Qd.new (K := K) (m := 5) (ok := posQ) (H := G2) (t := t3) 1 2 (mkRat 1 2) (by decide) (by decide) (by decide) (by decide); generalize upd G2 t3 (.tup [.int 1, .int 2]) = G3 at c3 q3 ⊢
    refine ⟨sz2, fun t4 h4 => ?_⟩
    have c4 := same_new h4 (.tup [.int 2, .int 1]); have q4 := Qd.new (K := K) (m := 5) (ok := posQ) (H := G3) (t := t4) 2 1 (2) (by decide) (by decide) (by decide) (by decide); generalize upd G3 t4 (.tup [.int 2, .int 1]) = G4 at c4 q4 ⊢
    refine ⟨sz2, fun t5 h5 => ?_⟩
    have c5 := same_new h5 (.tup [.int 9, .int 10]); have q5 := Qd.new (K := K) (m := 5) (ok := posQ) (H := G4) (t := t5) 9 10 (mkRat 9 10) (by decide) (by decide) (by decide) (by decide); generalize upd G4 t5 (.tup [.int 9, .int 10]) = G5 at c5 q5 ⊢
    refine ⟨sz2, fun t6 h6 => ?_⟩
    have c6 := same_new h6 (.tup [.int 11, .int 10]); have q6 := Qd.new (K := K) (m := 5) (ok := posQ) (H := G5) (t := t6) 11 10 (mkRat 11 10) (by decide) (by decide) (by decide) (by decide); generalize upd G5 t6 (.tup [.int 11, .int 10]) = G6 at c6 q6 ⊢
    refine ⟨sm6, fun p hp => ?_⟩
    have cp := same_new hp (.lst [.ref t1, .ref t2, .ref t3, .ref t4, .ref t5, .ref t6])
    have d6 := c6.trans cp
    have d5 := c5.trans d6
    have d4 := c4.trans d5
    have d3 := c3.trans d4
    have d2 := c2.trans d3
    have d1 := c1.trans d2
    have Sp := S1.same d1
    have np := (S1.same (c1.trans (c2.trans (c3.trans (c4.trans (c5.trans c6)))))).ne hp
    have q1 := q1.same d2
    have q2 := q2.same d3
    have q3 := q3.same d4
    have q4 := q4.same d5
    have q5 := q5.same d6
    have q6 := q6.same cp
    refine ⟨s, p, _, rfl, Sp, np, SqL.of upd_same, (by show 0 < 6; decide), (by show 6 < 2 ^ 32; decide), fun v H' hv S' e' => ?_⟩
    have qv : Qd K 5 posQ H' v := by
      refine Qd.fr e' Sp ?_
      simp only [List.mem_cons, List.mem_nil_iff, or_false] at hv
      rcases hv with rfl | rfl | rfl | rfl | rfl | rfl <;> assumption
    exact z _ _ qv S' (e1.trans ((Fr.of d1).trans e'))
  refine ⟨_, rfl, s, 30, rfl, S1, by decide, fun r2 H2 r3 r4 S2 e2 => ⟨_, _, rfl, rfl, ?_⟩⟩
  refine ⟨_, rfl, s, 12, rfl, S2, by decide, fun r5 H3 r6 r7 S3 e3 => ⟨_, _, rfl, rfl, ?_⟩⟩
  refine ⟨_, _, 5, rfl, by omega, lt2 31 (by omega) (by decide), lt2 13 (by omega) (by decide), by decide, fun v H' e hv => z _ _ ⟨_, hv, sz_mk (by omega) ?_ ?_, mk_pos (by omega) (by omega)⟩ (S3.same e) (e1.trans (e2.trans (e3.trans (Fr.of e))))⟩
  · exact lt2 31 (by omega) (by decide)
  · have : (2 : Nat) ^ 5 = 32 := by decide
    omega
/-- one rational in, one near it out -/
def spNear (K : PySem.W.Frag) (l : Addr) : Sp := fun vs H Q _ => ∃ (s : Addr) (x : V) (m : Nat), vs = [.ref s, x] ∧ Sto l s H ∧ m + 11 ≤ 9000 ∧ Qd K m anyQ H x ∧ ∀ (v : V) H', Qd K (m + 11) anyQ H' v → Sto l s H' → Fr s H H' → Q v H'
end Vk
namespace Vk
open PySem L2 Vm
variable {P : Program} {w : World} {K : PySem.W.Frag} {mg : Str → Option Value} {base : Heap} {k : Nat} {f f1 f2 f3 f4 f5 f6 f7 f8 f9 : Addr} {fd fd1 fd2 fd3 fd4 fd5 fd6 fd7 fd8 fd9 : FuncData}
/-! ### courses -/
structure Pc where
  s : Rat
  v : Rat
  r : Rat
def Pq (K : PySem.W.Frag) (H : Hp) (x : V) (p : Pc) : Prop := ∃ a xs xv xr, x = .ref a ∧ SqT K H a [xs, xv, xr] ∧ Rq K H xs p.s ∧ Rq K H xv p.v ∧ Rq K H xr p.r
theorem Pq.same {H H' : Hp} {x : V} {p : Pc} (e : Same H H') (h : Pq K H x p) : Pq K H' x p := by
  obtain ⟨a, xs, xv, xr, rfl, h, h1, h2, h3⟩ := h
  exact ⟨a, xs, xv, xr, rfl, e.sqt h, h1.same e, h2.same e, h3.same e⟩
theorem Pq.fr {s : Addr} {H H' : Hp} {x : V} {p : Pc} (e : Fr s H H') (hs : ∃ ys, H s = some (.lst ys)) (h : Pq K H x p) : Pq K H' x p := by
  obtain ⟨a, xs, xv, xr, rfl, h, h1, h2, h3⟩ := h
  exact ⟨a, xs, xv, xr, rfl, sqt_fr e hs h, h1.fr e hs, h2.fr e hs, h3.fr e hs⟩
def All2 {α : Type} (R : V → α → Prop) (xs : List V) (c : List α) : Prop := xs.length = c.length ∧ ∀ (i : Nat) x p, xs[i]? = some x → c[i]? = some p → R x p
theorem All2.nil {α : Type} {R : V → α → Prop} : All2 R [] [] := ⟨rfl, fun i x p h => by simp at h⟩
theorem All2.imp {α : Type} {R R' : V → α → Prop} {xs : List V} {c : List α} (h : All2 R xs c) (g : ∀ x p, R x p → R' x p) : All2 R' xs c := ⟨h.1, fun i x p a b => g _ _ (h.2 i x p a b)⟩
theorem All2.snoc {α : Type} {R : V → α → Prop} {xs : List V} {c : List α} {x : V} {p : α} (h : All2 R xs c) (r : R x p) : All2 R (xs ++ [x]) (c ++ [p]) := by
  refine ⟨by simp [h.1], fun i y q a b => ?_⟩
  by_cases hi : i < xs.length
  · rw [List.getElem?_append_left hi] at a
    rw [List.getElem?_append_left (by rw [← h.1]; exact hi)] at b
    exact h.2 i y q a b
  · rw [List.getElem?_append_right (by omega)] at a
    rw [List.getElem?_append_right (by rw [← h.1]; omega)] at b
    have e : i - xs.length = 0 := by
      have := (List.getElem?_eq_some_iff.mp a).1
      simp at this
      omega
    rw [e] at a
    rw [← h.1, e] at b
    cases a
    cases b
    exact r
theorem All2.at {α : Type} {R : V → α → Prop} {xs : List V} {c : List α} (h : All2 R xs c) {i : Nat} {p : α} (e : c[i]? = some p) : ∃ x, xs[i]? = some x ∧ R x p := by
  have hi := (List.getElem?_eq_some_iff.mp e).1
  rw [← h.1] at hi
  exact ⟨xs[i], List.getElem?_eq_getElem hi, h.2 i _ _ (List.getElem?_eq_getElem hi) e⟩
/-- a list at a holds the course c -/
def Cq (K : PySem.W.Frag) (H : Hp) (a : Addr) (c : List Pc) : Prop := ∃ xs, SqL K H a xs ∧ All2 (Pq K H) xs c
theorem Cq.same {H H' : Hp} {a : Addr} {c : List Pc} (e : Same H H') (h : Cq K H a c) : Cq K H' a c := by
  obtain ⟨xs, h, g⟩ := h
  exact ⟨xs, e.seq h, g.imp fun _ _ h => h.same e⟩
theorem Cq.fr {s : Addr} {H H' : Hp} {a : Addr} {c : List Pc} (e : Fr s H H') (hs : ∃ ys, H s = some (.lst ys)) (n : a ≠ s) (h : Cq K H a c) : Cq K H' a c := by
  obtain ⟨xs, h, g⟩ := h
  exact ⟨xs, seq_fr e n h, g.imp fun _ _ h => h.fr e hs⟩
/-- sizes: starts, values, rates -/
def Cz (i j l : Nat) (c : List Pc) : Prop := ∀ p ∈ c, Sz i p.s ∧ Sz j p.v ∧ Sz l p.r
/-- a course's form -/
def Cok (c : List Pc) : Prop := (∀ p ∈ c, 0 < p.r) ∧ ∀ (i : Nat) p q, c[i]? = some p → c[i + 1]? = some q → p.s < q.s
def tm (p : Pc) (y : Rat) : Rat := p.s + (y - p.v) / p.r
def before (c : List Pc) (k : Nat) (t : Rat) : Bool := match c[k]? with
  | none => true
  | some q => decide (t < q.s)
def hit (c : List Pc) (y : Rat) (k : Nat) : Option Rat := match c[k]? with
  | none => none
  | some p => if p.s ≤ tm p y ∧ before c (k + 1) (tm p y) = true then some (tm p y) else none
def hits (c : List Pc) (y : Rat) (n : Nat) : List Rat := (List.range n).filterMap (hit c y)
theorem hits_succ (c : List Pc) (y : Rat) (n : Nat) : hits c y (n + 1) = hits c y n ++ (hit c y n).toList := by
  unfold hits
  rw [List.range_succ, List.filterMap_append]
  cases h : hit c y n <;> simp [h]
abbrev s__law_is_frac : Stmt := top 31
abbrev N__law_is_frac : List Str := ["_law_value"]
theorem sc__law_is_frac : FnScope N__law_is_frac ["_law_value"] (defScope s__law_is_frac) := ⟨rfl, rfl, rfl, by decide +kernel, rfl, by decide +kernel, by decide +kernel⟩
abbrev ps__law_is_frac : List Str := ["_law_value"]
def spIsFrac (K : PySem.W.Frag) : Sp := fun vs H Q _ => ∃ (x : V) (q : Rat) (m : Nat), vs = [x] ∧ Rq K H x q ∧ Sz m q ∧ m ≤ 9000 ∧ ∀ H', Same H H' → Q (.bl true) H'
theorem ok_is_frac (T : Bn mg) (F : Fn K mg "_law_is_frac" s__law_is_frac ps__law_is_frac f fd) (d_law_is_int : Def P w K mg base k "_law_is_int" ["_law_value"] (spIsInt K) f1 fd1) (d_law_frac : Def P w K mg base k "_law_frac" ["_law_n", "_law_d"] (spFrac K) f2 fd2) :
    Def P w K mg base (k + 1) "_law_is_frac" ps__law_is_frac (spIsFrac K) f fd := by
  refine ⟨F.F.ok sc__law_is_frac (fun vs H Q E h => ?_) (fun cdv A outer s H vs Q E hr h => ?_), F.m, F.F.kp, F.b⟩
  · obtain ⟨x, q, m, rfl, _⟩ := h
    rfl
  obtain ⟨x, q, m, rfl, hx, zq, hm, z⟩ := h
  obtain ⟨a, rfl, ha⟩ := id hx
  refine ⟨_, (pss_cons (ps_if (PW.pt (pw_or (pt_not (pt_val (pe_callB call_isi (by rfl) T.isinstance_ (by decide +kernel) (pa_cons (pv 0) (pa_cons (pe_bltn (v := .ty "tuple") (by rfl) T.tuple_ (by decide +kernel) rfl) pa_nil))))) (pw_or1 (pt_cmpR op_ne (pe_callB call_len_seq (by rfl) T.len_ PySem.boot_len (pa_cons (pv 0) pa_nil)) pe_int (nomark _)))))
        (pss_one (ps_ret pe_bl))
        pss_nil)
      (pss_cons (ps_if (PW.pt (pw_or (pt_not (pt_val (pcall d_law_is_int hr (pa_cons (pe_ix ix_tup (pv 0) pe_int (fun _ _ => rfl)) pa_nil)))) (pw_or (pt_not (pt_val (pcall d_law_is_int hr (pa_cons (pe_ix ix_tup (pv 0) pe_int (fun _ _ => rfl)) pa_nil)))) (pw_or1 (pt_cmpR op_lt (pe_ix ix_tup (pv 0) pe_int (fun _ _ => rfl)) pe_int (nomark _))))))
        (pss_one (ps_ret pe_bl))
        pss_nil)
      (pss_one (ps_ret (pe_cmpR (op_eqD hr.units) (pcall d_law_frac hr (pa_cons (pe_ix ix_tup (pv 0) pe_int (fun _ _ => rfl)) (pa_cons (pe_ix ix_tup (pv 0) pe_int (fun _ _ => rfl)) pa_nil))) (pv 0) (nomark _)))))), ?_⟩
  have ta := sqt_ty ha
  have dp := q.den_pos
  refine ⟨_, rfl, _, _, _, _, true, rfl, .ty _, ta, kit_ty (by decide +kernel), _, rfl, ifF rfl ⟨_, rfl, a, _, rfl, .inr ha, rfl, _, rfl, ifF rfl ?_⟩⟩
  refine ⟨_, rfl, a, _, _, _, rfl, rfl, ha, at0 rfl, _, rfl, _, rfl, ifF rfl ⟨_, rfl, a, _, _, _, rfl, rfl, ha, at1 rfl, _, rfl, _, rfl, ifF rfl ⟨_, rfl, a, _, _, _, rfl, rfl, ha, at1 rfl, _, _, rfl, rfl, _, rfl, ifF (dF (by omega)) ?_⟩⟩⟩
  refine ⟨_, rfl, a, _, _, _, rfl, rfl, ha, at0 rfl, _, rfl, a, _, _, _, rfl, rfl, ha, at1 rfl, _, _, m, rfl, by omega, zq.1, dA zq, hm, fun r H' e hr => ?_⟩
  have er : mkRat q.num ((q.den : Int)).toNat = q := Rat.mkRat_self q
  rw [er] at hr
  refine ⟨_, rfl, _, _, hr.dp, (hx.same e).dp, sh_dq _, sh_dq _, ?_⟩
  rw [eqv_dq, dT rfl]
  exact z _ e
def spTimeOf (K : PySem.W.Frag) : Sp := fun vs H Q _ => ∃ (x y : V) (p : Pc) (q : Rat) (i j l m : Nat), vs = [x, y] ∧ Pq K H x p ∧ Rq K H y q ∧ Sz i p.s ∧ Sz j p.v ∧ Sz l p.r ∧ Sz m q ∧ 0 < p.r ∧ m + j + l + i + 3 ≤ 9000 ∧
  ∀ r H', Same H H' → Rq K H' r (tm p q) → Q r H'
def endV (K : PySem.W.Frag) (H : Hp) (c : List Pc) (n : Nat) (v : V) : Prop := match c[n]? with
  | none => v = .non
  | some p => Rq K H v p.s
def spEndOf (K : PySem.W.Frag) : Sp := fun vs H Q _ => ∃ (a : Addr) (n : Nat) (c : List Pc), vs = [.ref a, .int n] ∧ Cq K H a c ∧ ∀ v, endV K H c (n + 1) v → Q v H
end Vk
namespace Vk
open PySem L2 Vm
variable {P : Program} {w : World} {K : PySem.W.Frag} {mg : Str → Option Value} {base : Heap} {k : Nat} {f f1 f2 f3 f4 f5 f6 f7 f8 f9 : Addr} {fd fd1 fd2 fd3 fd4 fd5 fd6 fd7 fd8 fd9 : FuncData}
theorem for_enum {K : PySem.W.Frag} {a : Addr} {xs : List V} {g : TG} {tb : TS} {D : Ends} {σ : L2.St} {H : Hp} (Pv : Nat → L2.St → Hp → Prop) (h0 : Pv 0 σ H) (hq : ∀ i σ H, Pv i σ H → SqL K H a xs)
    (hs : ∀ (i : Nat) (x : V) (T : Addr) (σ : L2.St) (H : Hp), xs[i]? = some x → Pv i σ H → H T = none → g (.ref T) σ (upd H T (.tup [.int (i : Nat), x])) fun σ2 H2 => tb { D with nx := Pv (i + 1), ct := Pv (i + 1), bk := D.nx } σ2 H2) (hd : ∀ σ H, Pv xs.length σ H → D.nx σ H) :
    ∃ W : Nat → Nat → L2.St → Hp → Prop, (∃ m, W 0 m σ H) ∧ ∀ i m σ H, W i m σ H →
      ((Ite K a).stop i H ∧ D.nx σ H) ∨ ((Ite K a).go i H ∧ ∃ N : L2.St → Hp → Prop, (∀ σ' H', N σ' H' → ∃ m', m' < m ∧ W (i + 1) m' σ' H') ∧ ∀ v H', (Ite K a).yld i H v H' → g v σ H' fun σ2 H2 => tb { D with nx := N, ct := N, bk := D.nx } σ2 H2) := by
  refine ⟨fun i m σ H => m = xs.length - i ∧ i ≤ xs.length ∧ Pv i σ H, ⟨xs.length, rfl, Nat.zero_le _, h0⟩, ?_⟩
  rintro i m σ H ⟨rfl, hi, p⟩
  have qx := hq i σ H p
  by_cases hlt : i < xs.length
  · have hx : xs[i]? = some xs[i] := List.getElem?_eq_getElem hlt
    refine .inr ⟨⟨xs, _, qx, hx⟩, Pv (i + 1), fun σ' H' p' => ⟨xs.length - (i + 1), by omega, rfl, hlt, p'⟩, fun v H' y => ?_⟩
    obtain ⟨T, x', rfl, hT, rfl, f1⟩ := y
    exact hs i x' T σ H (f1 xs qx) p hT
  · have e : i = xs.length := by omega
    subst e
    exact .inl ⟨⟨xs, qx, Nat.le_refl _⟩, hd σ H p⟩
theorem sg_ge {p q : Rat} : 0 ≤ sg p q ↔ q ≤ p := by
  unfold sg
  split
  · rename_i h
    subst h
    simp [Rat.le_refl]
  · split
    · rename_i h1 h2
      constructor
      · intro h; omega
      · intro h; exact absurd (Rat.not_lt.mpr h) (fun g => g h2)
    · rename_i h1 h2
      constructor
      · intro _; exact Rat.not_lt.mp h2
      · intro _; omega
theorem sg_lt {p q : Rat} : sg p q < 0 ↔ p < q := by
  unfold sg
  split
  · rename_i h
    subst h
    constructor
    · intro h; omega
    · intro h; exact absurd h Rat.lt_irrefl
  · split
    · rename_i h1 h2
      exact ⟨fun _ => h2, fun _ => by omega⟩
    · rename_i h1 h2
      exact ⟨fun h => by omega, fun h => absurd h h2⟩
theorem same_upd {H H' : Hp} {D : Addr} (e : Same H H') (h : H D = none) (o : HO) : Same H (upd H' D o) := fun b u q => by rw [upd_ne (ne_of_none q h)]; exact e b u q
theorem hits_len (c : List Pc) (y : Rat) (n : Nat) : (hits c y n).length ≤ n := by
  have := List.length_filterMap_le (hit c y) (List.range n)
  rw [List.length_range] at this
  exact this
theorem le1000 {n : Nat} (h : n ≤ 1000) : n < sizeLine := Nat.lt_of_le_of_lt h (by decide)
def spTimes (K : PySem.W.Frag) : Sp := fun vs H Q _ => ∃ (a : Addr) (y : V) (c : List Pc) (q : Rat) (i j l m : Nat), vs = [.ref a, y] ∧ Cq K H a c ∧ Rq K H y q ∧ Cz i j l c ∧ Sz m q ∧ (∀ p ∈ c, 0 < p.r) ∧ c.length ≤ 1000 ∧ m + j + l + i + i + 4 ≤ 9000 ∧
  ∀ D us H', Same H H' → H D = none → H' D = some (.lst us) → All2 (Rq K H') us (hits c q c.length) → Q (.ref D) H'
end Vk
namespace Vk
open PySem L2 Vm
variable {P : Program} {w : World} {K : PySem.W.Frag} {mg : Str → Option Value} {base : Heap} {k : Nat} {f f1 f2 f3 f4 f5 f6 f7 f8 f9 : Addr} {fd fd1 fd2 fd3 fd4 fd5 fd6 fd7 fd8 fd9 : FuncData}
def optV (K : PySem.W.Frag) (H : Hp) (v : V) : Option Rat → Prop
  | none => v = .non
  | some q => Rq K H v q
def lim (c : List Pc) (n : Nat) : Option Rat := match c[n]? with
  | none => none
  | some p => match c[n + 1]? with
    | none => none
    | some q => some (p.v + p.r * (q.s - p.s))
def spLimit (K : PySem.W.Frag) : Sp := fun vs H Q _ => ∃ (a : Addr) (n : Nat) (c : List Pc) (i j l : Nat), vs = [.ref a, .int n] ∧ Cq K H a c ∧ n < c.length ∧ Cz i j l c ∧ i + i + l + j + 3 ≤ 9000 ∧ ∀ v H', Same H H' → optV K H' v (lim c n) → Q v H'
def on (t : Rat) (p : Pc) : Bool := !decide (t < p.s)
def nowf (c : List Pc) (t : Rat) : Option Rat := ((c.filter (on t)).getLast?).map fun p => p.v + p.r * (t - p.s)
theorem filter_more {α : Type} {c : List α} {i : Nat} {p : α} (g : α → Bool) (h : c[i]? = some p) : (c.take (i + 1)).filter g = (c.take i).filter g ++ (if g p = true then [p] else []) := by
  rw [List.take_add_one, h, List.filter_append]
  congr 1
  simp only [Option.toList]
  cases e : g p <;> simp [e]
abbrev s__law_now : Stmt := top 40
abbrev N__law_now : List Str := ["_law_course_here", "_law_t", "_law_row", "_law_piece"]
theorem sc__law_now : FnScope N__law_now ["_law_course_here", "_law_t"] (defScope s__law_now) := ⟨rfl, rfl, rfl, by decide +kernel, rfl, by decide +kernel, by decide +kernel⟩
abbrev ps__law_now : List Str := ["_law_course_here", "_law_t"]
def spNow (K : PySem.W.Frag) : Sp := fun vs H Q _ => ∃ (a : Addr) (y : V) (c : List Pc) (t : Rat) (i j l m : Nat), vs = [.ref a, y] ∧ Cq K H a c ∧ Rq K H y t ∧ Cz i j l c ∧ Sz m t ∧ c.length ≤ 1000 ∧ m + i + l + j + 3 ≤ 9000 ∧ ∀ v H', Same H H' → optV K H' v (nowf c t) → Q v H'
theorem ok_now (T : Bn mg) (F : Fn K mg "_law_now" s__law_now ps__law_now f fd) (d_law_below : Def P w K mg base k "_law_below" ["_law_a", "_law_b"] (spTest2 K fun p q => .bl (decide (p < q))) f4 fd4) (d_law_plus : Def P w K mg base k "_law_plus" ["_law_a", "_law_b"] (spOp2 K (· + ·)) f1 fd1) (d_law_times : Def P w K mg base k "_law_times" ["_law_a", "_law_b"] (spOp2 K (· * ·)) f2 fd2)
    (d_law_minus : Def P w K mg base k "_law_minus" ["_law_a", "_law_b"] (spOp2 K (· - ·)) f3 fd3) : Def P w K mg base (k + 1) "_law_now" ps__law_now (spNow K) f fd := by
  refine ⟨F.F.ok sc__law_now (fun vs H Q E h => ?_) (fun cdv A outer s H vs Q E hr h => ?_), F.m, F.F.kp, F.b⟩
  · obtain ⟨_, _, _, _, _, _, _, _, rfl, _⟩ := h
    rfl
  obtain ⟨a, y, c, t, i0, j0, l0, m0, rfl, hC, hy, zc, zt, hl, hb, z⟩ := h
  obtain ⟨xs, hx, hc⟩ := id hC
  refine ⟨_, (pss_cons (ps_setLc (i := 2) (own := [("_law_piece", 3)]) (g := gName 3) rfl sc__law_now.nd rfl rfl (sw_true rfl rfl rfl (by decide +kernel)) (pi_list (pv 0)) (blkOk_by (N := N__law_now) (sc := defScope s__law_now) (by decide +kernel)) (fun _ _ _ _ _ => pg_name (i := 3) sc__law_now.nd rfl (Or.inl rfl)) (fun _ _ _ _ _ => pts_one (pt_not (pt_val (pcall d_law_below hr (pa_cons (pv 1) (pa_cons (pe_ix (show IxR _ (rIxT K) from ix_tup) (pv 3) pe_int (fun _ _ => rfl)) pa_nil)))))) (fun _ _ _ _ _ => (pv 3)))
      (pss_cons (ps_if (pt_cmpR op_eq (pe_callB call_len_seq (by rfl) T.len_ PySem.boot_len (pa_cons (pv 2) pa_nil)) pe_int (nomark _))
        (pss_one (ps_ret pe_non))
        pss_nil)
      (pss_cons (ps_set (i := 3) sc__law_now.nd rfl (Or.inl rfl) (pe_ix ix_list (pv 2) (pe_op op_sub (pe_callB call_len_seq (by rfl) T.len_ PySem.boot_len (pa_cons (pv 2) pa_nil)) pe_int) (fun _ _ => rfl)))
      (pss_one (ps_ret (pcall d_law_plus hr (pa_cons (pe_ix ix_tup (pv 3) pe_int (fun _ _ => rfl)) (pa_cons (pcall d_law_times hr (pa_cons (pe_ix ix_tup (pv 3) pe_int (fun _ _ => rfl)) (pa_cons (pcall d_law_minus hr (pa_cons (pv 1) (pa_cons (pe_ix ix_tup (pv 3) pe_int (fun _ _ => rfl)) pa_nil))) pa_nil))) pa_nil)))))))), ?_⟩
  refine ⟨_, rfl, a, rfl, ⟨_, hx⟩, fun D hD => lc_list (xs := xs) (fun i H' => ∃ acc, H' D = some (.lst acc) ∧ Same H H' ∧ All2 (Pq K H') acc ((c.take i).filter (on t))) ⟨[], upd_same, same_new hD _, All2.nil⟩ (fun i H' _ h => by obtain ⟨_, _, s1, _⟩ := h; exact s1.seq hx) ?_ ?_⟩
  · rintro i x H' hxi ⟨acc, hD1, s1, hA⟩
    have hi : i < c.length := by rw [← hc.1]; exact (List.getElem?_eq_some_iff.mp hxi).1
    have hci : c[i]? = some c[i] := List.getElem?_eq_getElem hi
    have hpx := hc.2 i x _ hxi hci
    obtain ⟨p, ep⟩ : ∃ p, p = c[i] := ⟨_, rfl⟩
    rw [← ep] at hci hpx
    have hmem : p ∈ c := by rw [ep]; exact List.getElem_mem hi
    obtain ⟨zs, zv, zr⟩ := zc p hmem
    have hal : acc.length ≤ 1000 := by
      have h1 := hA.1
      have h2 := List.length_filter_le (on t) (c.take i)
      rw [List.length_take] at h2
      omega
    obtain ⟨b, bs, bv, br, rfl, hb1, r1, r2, r3⟩ := hpx.same s1
    refine ⟨rfl, _, rfl, _, rfl, b, _, _, _, rfl, rfl, hb1, at0 rfl, _, _, t, p.s, m0, i0, rfl, hy.same s1, r1, zt, zs, by omega, _, rfl, ?_⟩
    have em := filter_more (on t) hci
    by_cases g : t < p.s
    · have eo : on t p = false := by unfold on; rw [dT g]; rfl
      refine ifF (by rw [dT g]; rfl) ⟨acc, hD1, s1, ?_⟩
      rw [em, eo]
      simpa using hA
    · have eo : on t p = true := by unfold on; rw [dF g]; rfl
      refine ifT (by rw [dF g]; rfl) ⟨_, rfl, acc, hD1, le1000 hal, _, upd_same, same_upd s1 hD _, ?_⟩
      rw [em, eo]
      have fr : Fr D H' (upd H' D (.lst (acc ++ [.ref b]))) := Fr.upd _
      exact (hA.imp fun _ _ h => h.fr fr ⟨_, hD1⟩).snoc ((hpx.same s1).fr fr ⟨_, hD1⟩)
  · rintro H' ⟨acc, hD1, s1, hA⟩
    rw [List.take_of_length_le (by rw [hc.1]; exact Nat.le_refl _)] at hA
    have ha := hA.1
    refine ⟨_, rfl, D, _, rfl, .inl (SqL.of hD1), rfl, _, rfl, ifD (fun g => ?_) (fun g => ?_)⟩
    · have g' := V.int.inj g
      refine z _ _ s1 ?_
      have e : c.filter (on t) = [] := List.eq_nil_of_length_eq_zero (by omega)
      unfold nowf
      rw [e]
      rfl
    · have ga : acc.length ≠ 0 := fun e => g (by rw [e]; rfl)
      have hlast : (c.filter (on t))[acc.length - 1]? = some (c.filter (on t))[acc.length - 1] := List.getElem?_eq_getElem (by omega)
      obtain ⟨p, ep⟩ : ∃ p, p = (c.filter (on t))[acc.length - 1] := ⟨_, rfl⟩
      rw [← ep] at hlast
      obtain ⟨x, hx1, hp⟩ := hA.at hlast
      have hmem : p ∈ c := by rw [ep]; exact (List.mem_filter.mp (List.getElem_mem _)).1
      obtain ⟨zs, zv, zr⟩ := zc p hmem
      obtain ⟨b, bs, bv, br, rfl, hb1, r1, r2, r3⟩ := hp
      refine ⟨_, rfl, _, rfl, D, _, rfl, .inl (SqL.of hD1), _, _, rfl, rfl, D, _, _, _, rfl, rfl, SqL.of hD1, at_of (j := acc.length - 1) (by omega) hx1, ?_⟩
      refine ⟨_, rfl, b, _, _, _, rfl, rfl, hb1, at1 rfl, _, rfl, b, _, _, _, rfl, rfl, hb1, at2 rfl, _, rfl, _, rfl, b, _, _, _, rfl, rfl, hb1, at0 rfl, ?_⟩
      refine ⟨_, _, _, _, m0, i0, rfl, hy.same s1, r1, zt, zs, by omega, fun w1 H1 f1 g1 => ?_⟩
      refine ⟨_, _, _, _, l0, m0 + i0 + 1, rfl, r3.same f1, g1, zr, zt.sub zs, by omega, fun w2 H2 f2 g2 => ?_⟩
      refine ⟨_, _, _, _, j0, l0 + (m0 + i0 + 1), rfl, r2.same (f1.trans f2), g2, zv, zr.mul (zt.sub zs), by omega, fun w3 H3 f3 g3 => z _ _ (s1.trans (f1.trans (f2.trans f3))) ?_⟩
      unfold nowf
      rw [List.getLast?_eq_getElem?, ← ha, hlast]
      exact g3
end Vk
namespace Vk
open PySem L2 Vm
variable {l : Addr} {P : Program} {w : World} {K : PySem.W.Frag} {mg : Str → Option Value} {base : Heap} {k : Nat} {f f1 f2 f3 f4 f5 f6 f7 f8 f9 : Addr} {fd fd1 fd2 fd3 fd4 fd5 fd6 fd7 fd8 fd9 : FuncData}
abbrev s__law_ratio : Stmt := top 32
abbrev N__law_ratio : List Str := ["_law_store_here", "_law_top", "_law_sort"]
theorem sc__law_ratio : FnScope N__law_ratio ["_law_store_here", "_law_top"] (defScope s__law_ratio) := ⟨rfl, rfl, rfl, by decide +kernel, rfl, by decide +kernel, by decide +kernel⟩
abbrev ps__law_ratio : List Str := ["_law_store_here", "_law_top"]
def spRatio (K : PySem.W.Frag) (l : Addr) : Sp := fun vs H Q _ => ∃ (s : Addr) (top : Int), vs = [.ref s, .int top] ∧ Sto l s H ∧ 1 ≤ top ∧ top < 2 ^ 40 ∧ ∀ (v : V) H', Qd K 40 anyQ H' v → Sto l s H' → Fr s H H' → Q v H'
theorem int_q {H : Hp} {t : Addr} (n : Int) (h : n.natAbs < 2 ^ 40) : Qd K 40 anyQ (upd H t (.tup [.int n, .int 1])) (.ref t) := Qd.new n 1 (n : Rat) rfl rfl ⟨h, by show 1 < 2 ^ 40; decide⟩ trivial
theorem ok_ratio (F : Fn K mg "_law_ratio" s__law_ratio ps__law_ratio f fd) (d_law_take : Def P w K mg base k "_law_take" ["_law_store_here", "_law_many"] (spTake K l) f1 fd1) (d_law_pick : Def P w K mg base k "_law_pick" ["_law_store_here", "_law_things"] (spPick K l) f2 fd2)
    (d_law_frac : Def P w K mg base k "_law_frac" ["_law_n", "_law_d"] (spFrac K) f3 fd3) : Def P w K mg base (k + 1) "_law_ratio" ps__law_ratio (spRatio K l) f fd := by
  refine ⟨F.F.ok sc__law_ratio (fun vs H Q E h => ?_) (fun cdv A outer s H vs Q E hr h => ?_), F.m, F.F.kp, F.b⟩
  · obtain ⟨_, _, rfl, _⟩ := h
    rfl
  obtain ⟨s, top, rfl, hS, t1, t2, z⟩ := h
  have p40 : (2 : Int) ^ 40 = 1099511627776 := by decide
  have n40 : (2 : Nat) ^ 40 = 1099511627776 := by decide
  have p64 : (2 : Int) ^ 64 = 18446744073709551616 := by decide
  refine ⟨_, (pss_cons (ps_set (i := 2) sc__law_ratio.nd rfl (Or.inl rfl) (pcall d_law_take hr (pa_cons (pv 0) (pa_cons pe_int pa_nil))))
      (pss_cons (ps_if (pt_cmpR op_eq (pv 2) pe_int (nomark _))
        (pss_one (ps_ret (pe_tup (pa_cons pe_int (pa_cons pe_int pa_nil)))))
        pss_nil)
      (pss_cons (ps_if (pt_cmpR op_eq (pv 2) pe_int (nomark _))
        (pss_one (ps_ret (pe_tup (pa_cons (pcall d_law_pick hr (pa_cons (pv 0) (pa_cons (pe_lst (pa_cons pe_int (pa_cons (pe_op op_sub pe_int pe_int) (pa_cons (pv 1) (pa_cons (pe_op op_sub pe_int (pv 1)) pa_nil))))) pa_nil))) (pa_cons pe_int pa_nil)))))
        pss_nil)
      (pss_cons (ps_if (pt_cmpR op_eq (pv 2) pe_int (nomark _))
        (pss_one (ps_ret (pcall d_law_frac hr (pa_cons (pcall d_law_pick hr (pa_cons (pv 0) (pa_cons (pe_lst (pa_cons pe_int (pa_cons (pe_op op_sub pe_int pe_int) (pa_cons (pv 1) (pa_cons (pe_op op_sub pe_int (pv 1)) pa_nil))))) pa_nil))) (pa_cons (pv 1) pa_nil)))))
        pss_nil)
      (pss_cons (ps_if (pt_cmpR op_eq (pv 2) pe_int (nomark _))
        (pss_one (ps_ret (pe_tup (pa_cons (pe_op op_sub (pcall d_law_take hr (pa_cons (pv 0) (pa_cons (pe_op op_add (pe_op op_mul pe_int (pv 1)) pe_int) pa_nil))) (pv 1)) (pa_cons pe_int pa_nil)))))
        pss_nil)
      (pss_one (ps_ret (pcall d_law_frac hr (pa_cons (pe_op op_sub (pcall d_law_take hr (pa_cons (pv 0) (pa_cons (pe_op op_add (pe_op op_mul pe_int (pv 1)) pe_int) pa_nil))) (pv 1)) (pa_cons (pe_op op_add pe_int (pcall d_law_take hr (pa_cons (pv 0) (pa_cons (pv 1) pa_nil)))) pa_nil)))))))))), ?_⟩
  refine ⟨_, rfl, s, 6, rfl, hS, by decide, fun r H1 r0 r1 S1 e1 => ?_⟩
  refine ⟨_, rfl, rfl, _, rfl, ifD (fun _ => ?_) (fun _ => ?_)⟩
  · exact ⟨sz2, fun t ht => z _ _ (Qd.new 0 1 0 rfl rfl (by decide) trivial) (S1.same (same_new ht _)) (e1.trans (Fr.of (same_new ht _)))⟩
  refine ⟨_, rfl, rfl, _, rfl, ifD (fun _ => ?_) (fun _ => ?_)⟩
  · refine ⟨_, rfl, _, _, rfl, rfl, _, rfl, _, rfl, _, _, rfl, rfl, sm4, fun p hp => ?_⟩
    refine ⟨s, p, _, rfl, S1.same (same_new hp _), S1.ne hp, SqL.of upd_same, (by show 0 < 4; decide), (by show 4 < 2 ^ 32; decide), fun v H' hv S' e' => ?_⟩
    obtain ⟨n, rfl, hn⟩ : ∃ n : Int, v = .int n ∧ n.natAbs < 2 ^ 40 := by
      simp only [List.mem_cons, List.mem_nil_iff, or_false] at hv
      rcases hv with rfl | rfl | rfl | rfl
      · exact ⟨_, rfl, by omega⟩
      · exact ⟨_, rfl, by omega⟩
      · exact ⟨_, rfl, by omega⟩
      · exact ⟨_, rfl, by omega⟩
    exact ⟨sz2, fun t ht => z _ _ (int_q n hn) (S'.same (same_new ht _)) (e1.trans ((Fr.of (same_new hp _)).trans (e'.trans (Fr.of (same_new ht _)))))⟩
  refine ⟨_, rfl, rfl, _, rfl, ifD (fun _ => ?_) (fun _ => ?_)⟩
  · refine ⟨_, rfl, _, _, rfl, rfl, _, rfl, _, rfl, _, _, rfl, rfl, sm4, fun p hp => ?_⟩
    refine ⟨s, p, _, rfl, S1.same (same_new hp _), S1.ne hp, SqL.of upd_same, (by show 0 < 4; decide), (by show 4 < 2 ^ 32; decide), fun v H' hv S' e' => ?_⟩
    obtain ⟨n, rfl, hn⟩ : ∃ n : Int, v = .int n ∧ n.natAbs < 2 ^ 40 := by
      simp only [List.mem_cons, List.mem_nil_iff, or_false] at hv
      rcases hv with rfl | rfl | rfl | rfl
      · exact ⟨_, rfl, by omega⟩
      · exact ⟨_, rfl, by omega⟩
      · exact ⟨_, rfl, by omega⟩
      · exact ⟨_, rfl, by omega⟩
    refine ⟨_, rfl, n, top, 40, rfl, by omega, hn, by omega, by decide, fun v H'' e hv => z _ _ ⟨_, hv, sz_mk (by omega) hn (by omega), trivial⟩ (S'.same e) (e1.trans ((Fr.of (same_new hp _)).trans (e'.trans (Fr.of e))))⟩
  have m2 : CMul 2 top := .inl ⟨by decide, by decide⟩
  refine ⟨_, rfl, rfl, _, rfl, ifD (fun _ => ?_) (fun _ => ?_)⟩
  · refine ⟨_, rfl, _, rfl, _, _, rfl, rfl, m2, _, _, rfl, rfl, s, _, rfl, S1, by omega, fun r2 H2 r3 r4 S2 e2 => ⟨_, rfl, _, _, rfl, rfl, ?_⟩⟩
    exact ⟨sz2, fun t ht => z _ _ (int_q _ (by omega)) (S2.same (same_new ht _)) (e1.trans (e2.trans (Fr.of (same_new ht _))))⟩
  refine ⟨_, rfl, _, rfl, _, _, rfl, rfl, m2, _, _, rfl, rfl, s, _, rfl, S1, by omega, fun r2 H2 r3 r4 S2 e2 => ⟨_, rfl, _, _, rfl, rfl, ?_⟩⟩
  refine ⟨_, rfl, _, rfl, s, top, rfl, S2, by omega, fun r5 H3 r6 r7 S3 e3 => ⟨_, _, rfl, rfl, ?_⟩⟩
  exact ⟨_, _, 40, rfl, by omega, by omega, by omega, by decide, fun v H' e hv => z _ _ ⟨_, hv, sz_mk (by omega) (by omega) (by omega), trivial⟩ (S3.same e) (e1.trans (e2.trans (e3.trans (Fr.of e))))⟩
end Vk
namespace Vk
open PySem L2 Vm
variable {l : Addr} {P : Program} {w : World} {K : PySem.W.Frag} {mg : Str → Option Value} {base : Heap} {k : Nat} {f f1 f2 f3 f4 f5 f6 f7 f8 f9 : Addr} {fd fd1 fd2 fd3 fd4 fd5 fd6 fd7 fd8 fd9 : FuncData}
/-- while a list of things is being made at D -/
def Bun {α : Type} (R : Hp → V → α → Prop) (l s D : Addr) (H0 : Hp) (us : List V) (c : List α) (G : Hp) : Prop := Sto l s G ∧ Fr s H0 G ∧ D ≠ s ∧ D ≠ l ∧ H0 D = none ∧ G D = some (.lst us) ∧ All2 (R G) us c
section
variable {α : Type} {R : Hp → V → α → Prop} {s D : Addr} {H0 G G' : Hp} {us : List V} {c : List α}
/-- what R says outlives what becomes of a list -/
def Lasts (R : Hp → V → α → Prop) : Prop := ∀ {s : Addr} {H H' : Hp} {x : V} {p : α}, Fr s H H' → (∃ ys, H s = some (.lst ys)) → R H x p → R H' x p
theorem Bun.fr (h : Bun R l s D H0 us c G) (L : Lasts R) (e : Fr s G G') (S : Sto l s G') : Bun R l s D H0 us c G' := by
  obtain ⟨h1, h2, h3, h4, h5, h6, h7⟩ := h
  exact ⟨S, h2.trans e, h3, h4, h5, e _ _ h6 h3, h7.imp fun _ _ r => L e h1.some r⟩
theorem Bun.same (h : Bun R l s D H0 us c G) (L : Lasts R) (e : Same G G') : Bun R l s D H0 us c G' := h.fr L (Fr.of e) (h.1.same e)
theorem Bun.app {x : V} {p : α} (h : Bun R l s D H0 us c G) (L : Lasts R) (r : R G x p) : Bun R l s D H0 (us ++ [x]) (c ++ [p]) (upd G D (.lst (us ++ [x]))) := by
  obtain ⟨h1, h2, h3, h4, h5, h6, h7⟩ := h
  have fr : Fr D G (upd G D (.lst (us ++ [x]))) := Fr.upd _
  refine ⟨h1.upd h3 h4, fun b o hb hn => ?_, h3, h4, h5, upd_same, (h7.imp fun _ _ r => L fr ⟨_, h6⟩ r).snoc (L fr ⟨_, h6⟩ r)⟩
  rw [upd_ne (ne_of_none hb h5)]
  exact h2 b o hb hn
theorem Bun.start (S : Sto l s G) (e : Fr s H0 G) (hD : G D = none) : Bun R l s D H0 [] [] (upd G D (.lst [])) := by
  have nD := S.ne hD
  have f := same_new hD (.lst [])
  exact ⟨S.same f, e.trans (Fr.of f), nD, S.nl hD, e.free hD nD, upd_same, All2.nil⟩
end
theorem Bun.at {α : Type} {R : Hp → V → α → Prop} {s D : Addr} {H0 G : Hp} {us : List V} {c : List α} (h : Bun R l s D H0 us c G) : G D = some (.lst us) := h.2.2.2.2.2.1
theorem Bun.len {α : Type} {R : Hp → V → α → Prop} {s D : Addr} {H0 G : Hp} {us : List V} {c : List α} (h : Bun R l s D H0 us c G) : us.length = c.length := h.2.2.2.2.2.2.1
theorem Bun.all {α : Type} {R : Hp → V → α → Prop} {s D : Addr} {H0 G : Hp} {us : List V} {c : List α} (h : Bun R l s D H0 us c G) : All2 (R G) us c := h.2.2.2.2.2.2
theorem lastsP : Lasts (Pq K) := fun e hs h => h.fr e hs
theorem lastsQ : Lasts (Rq K) := fun e hs h => h.fr e hs
theorem Cok.snoc {c : List Pc} {x : Pc} (h : Cok c) (hx : ∀ p ∈ c, p.s < x.s) (r : 0 < x.r) : Cok (c ++ [x]) := by
  refine ⟨fun p hp => ?_, fun i p q e1 e2 => ?_⟩
  · rcases List.mem_append.mp hp with hp | hp
    · exact h.1 p hp
    · rw [List.mem_singleton.mp hp]
      exact r
  · by_cases hi : i + 1 < c.length
    · rw [List.getElem?_append_left (by omega)] at e1
      rw [List.getElem?_append_left hi] at e2
      exact h.2 i p q e1 e2
    · have hl := (List.getElem?_eq_some_iff.mp e2).1
      rw [List.length_append, List.length_singleton] at hl
      rw [List.getElem?_append_left (by omega)] at e1
      rw [List.getElem?_append_right (by omega)] at e2
      have e0 : i + 1 - c.length = 0 := by omega
      rw [e0] at e2
      cases e2
      exact hx p (List.mem_of_getElem? e1)
theorem Cz.snoc {i j m : Nat} {c : List Pc} {x : Pc} (h : Cz i j m c) (z : Sz i x.s ∧ Sz j x.v ∧ Sz m x.r) : Cz i j m (c ++ [x]) := fun p hp => by
  rcases List.mem_append.mp hp with hp | hp
  · exact h p hp
  · rw [List.mem_singleton.mp hp]
    exact z
theorem lt_add_pos {a b : Rat} (h : 0 < b) : a < a + b := by grind
abbrev s__law_course : Stmt := top 38
abbrev N__law_course : List Str := ["_law_store_here", "_law_many", "_law_fall", "_law_when", "_law_told", "_law_pace_here", "_law_course_here", "_law_k", "_law_step", "_law_sort"]
theorem sc__law_course : FnScope N__law_course ["_law_store_here", "_law_many", "_law_fall"] (defScope s__law_course) := ⟨rfl, rfl, rfl, by decide +kernel, rfl, by decide +kernel, by decide +kernel⟩
abbrev ps__law_course : List Str := ["_law_store_here", "_law_many", "_law_fall"]
def spCourse (K : PySem.W.Frag) (l : Addr) : Sp := fun vs H Q _ => ∃ (s : Addr) (many : Nat) (fall : Bool), vs = [.ref s, .int many, .bl fall] ∧ Sto l s H ∧ many ≤ 40 ∧
  ∀ D us c H', Bun (Pq K) l s D H us c H' → c.length = many → Cok c → Cz 245 925 5 c → Q (.ref D) H'
theorem ok_course (T : Bn mg) (F : Fn K mg "_law_course" s__law_course ps__law_course f fd) (d_law_part : Def P w K mg base k "_law_part" ["_law_store_here"] (spDraw K l 5 anyQ) f1 fd1) (d_law_pace : Def P w K mg base k "_law_pace" ["_law_store_here"] (spDraw K l 5 posQ) f2 fd2)
    (d_law_above : Def P w K mg base k "_law_above" ["_law_store_here"] (spDraw K l 5 posQ) f3 fd3) (d_law_plus : Def P w K mg base k "_law_plus" ["_law_a", "_law_b"] (spOp2 K (· + ·)) f4 fd4) (d_law_times : Def P w K mg base k "_law_times" ["_law_a", "_law_b"] (spOp2 K (· * ·)) f5 fd5)
    (d_law_minus : Def P w K mg base k "_law_minus" ["_law_a", "_law_b"] (spOp2 K (· - ·)) f6 fd6) (d_law_take : Def P w K mg base k "_law_take" ["_law_store_here", "_law_many"] (spTake K l) f7 fd7) :
    Def P w K mg base (k + 1) "_law_course" ps__law_course (spCourse K l) f fd := by
  refine ⟨F.F.ok sc__law_course (fun vs H Q E h => ?_) (fun cdv A outer s H vs Q E hr h => ?_), F.m, F.F.kp, F.b⟩
  · obtain ⟨_, _, _, rfl, _⟩ := h
    rfl
  obtain ⟨s, many, fall, rfl, hS, hm, z⟩ := h
  refine ⟨_, (pss_cons (ps_set (i := 3) sc__law_course.nd rfl (Or.inl rfl) (pcall d_law_part hr (pa_cons (pv 0) pa_nil)))
      (pss_cons (ps_set (i := 4) sc__law_course.nd rfl (Or.inl rfl) (pcall d_law_part hr (pa_cons (pv 0) pa_nil)))
      (pss_cons (ps_set (i := 5) sc__law_course.nd rfl (Or.inl rfl) (pcall d_law_pace hr (pa_cons (pv 0) pa_nil)))
      (pss_cons (ps_set (i := 6) sc__law_course.nd rfl (Or.inl rfl) (pe_lst pa_nil))
      (pss_cons (ps_for PassesOwn.never rfl (pi_range1 (by rfl) T.range_ (pa_cons (pv 1) pa_nil)) (pg_name (i := 7) sc__law_course.nd rfl (Or.inl rfl))
        (pss_cons (ps_expr (pe_bm PySem.F.plainAttrs_list PySem.F.slot_list_append PySem.F.type_list_append mt_append (pv 6) (pa_cons (pe_tup (pa_cons (pv 3) (pa_cons (pv 4) (pa_cons (pv 5) pa_nil)))) pa_nil)))
        (pss_cons (ps_set (i := 8) sc__law_course.nd rfl (Or.inl rfl) (pcall d_law_above hr (pa_cons (pv 0) pa_nil)))
        (pss_cons (ps_set (i := 3) sc__law_course.nd rfl (Or.inl rfl) (pcall d_law_plus hr (pa_cons (pv 3) (pa_cons (pv 8) pa_nil))))
        (pss_cons (ps_set (i := 4) sc__law_course.nd rfl (Or.inl rfl) (pcall d_law_plus hr (pa_cons (pv 4) (pa_cons (pcall d_law_times hr (pa_cons (pv 5) (pa_cons (pv 8) pa_nil))) pa_nil))))
        (pss_cons (ps_set (i := 9) sc__law_course.nd rfl (Or.inl rfl) (pcall d_law_take hr (pa_cons (pv 0) (pa_cons pe_int pa_nil))))
        (pss_cons (ps_if (PW.pt (pw_or (pt_cmpR op_eq (pv 9) pe_int (nomark _)) (pw_or1 (pt_cmpR op_eq (pv 9) pe_int (nomark _)))))
          (pss_one (ps_set (i := 4) sc__law_course.nd rfl (Or.inl rfl) (pcall d_law_plus hr (pa_cons (pv 4) (pa_cons (pcall d_law_above hr (pa_cons (pv 0) pa_nil)) pa_nil)))))
          pss_nil)
        (pss_cons (ps_if (PW.pt (pw_and (pt_cmpR op_eq (pv 9) pe_int (nomark _)) (pw_and1 (pt_val (pv 2)))))
          (pss_one (ps_set (i := 4) sc__law_course.nd rfl (Or.inl rfl) (pcall d_law_minus hr (pa_cons (pv 4) (pa_cons (pcall d_law_above hr (pa_cons (pv 0) pa_nil)) pa_nil)))))
          pss_nil)
        (pss_one (ps_if (PW.pt (pw_and (pt_cmpR op_ne (pv 9) pe_int (nomark _)) (pw_and1 (pt_cmpR op_ne (pv 9) pe_int (nomark _)))))
          (pss_one (ps_set (i := 5) sc__law_course.nd rfl (Or.inl rfl) (pcall d_law_pace hr (pa_cons (pv 0) pa_nil))))
          pss_nil))))))))))
      (pss_one (ps_ret (pv 6)))))))), ?_⟩
  refine ⟨_, rfl, s, rfl, hS, fun wv G1 qw S1 e1 => ?_⟩
  refine ⟨_, rfl, s, rfl, S1, fun tv G2 qt S2 e2 => ?_⟩
  refine ⟨_, rfl, s, rfl, S2, fun pv G3 qp S3 e3 => ?_⟩
  refine ⟨Nat.zero_le _, fun D hD => ?_⟩
  have p62 : (2 : Int) ^ 62 = 4611686018427387904 := by decide
  have B0 : Bun (Pq K) l s D H [] [] (upd G3 D (.lst [])) := Bun.start S3 (e1.trans (e2.trans e3)) hD
  have s4 := same_new hD (.lst [])
  obtain ⟨qw0, rw0, zw0, _⟩ := ((qw.fr e2 S1).fr e3 S2).same s4
  obtain ⟨qt0, rt0, zt0, _⟩ := (qt.fr e3 S2).same s4
  obtain ⟨qp0, rp0, zp0, pp0⟩ := qp.same s4
  refine ⟨_, rfl, _, rfl, by omega, by omega, for_range (n := ((many : Nat) : Int).toNat) (fun i σ G => ∃ (us : List V) (c : List Pc) (wv tv pv : V) (k1 k2 k3 : Option V) (qw qt qp : Rat), σ = [some (.ref s), some (.int many), some (.bl fall), some wv, some tv, some pv, some (.ref D), k1, k2, k3] ∧
      Bun (Pq K) l s D H us c G ∧ Rq K G wv qw ∧ Rq K G tv qt ∧ Rq K G pv qp ∧ Sz (5 + 6 * i) qw ∧ Sz (5 + 23 * i) qt ∧ Sz 5 qp ∧ 0 < qp ∧ c.length = i ∧ (∀ p ∈ c, p.s < qw) ∧ Cok c ∧ Cz 245 925 5 c)
    ⟨[], [], _, _, _, _, _, _, qw0, qt0, qp0, rfl, B0, rw0, rt0, rp0, zw0, zt0, zp0, pp0, rfl, nofun, ⟨nofun, fun i p q h => by simp at h⟩, nofun⟩ ?_ ?_⟩
  · rintro i σ G hi ⟨us, c, wv, tv, pv, k1, k2, k3, qw, qto, qp, rfl, B, rw1, rt1, rp1, zw, zt, zp, pp, hc, hlt, ok, cz⟩
    have hi' : i < 40 := by omega
    have hul : us.length ≤ 1000 := by have := B.len; omega
    -- the piece
    refine ⟨_, rfl, .inl ⟨rfl, _, SqL.of B.at⟩, _, rfl, _, rfl, _, rfl, sm3, fun T hT => ?_⟩
    have t1 := same_new hT (.tup [wv, tv, pv])
    have B1 := B.same lastsP t1
    refine ⟨D, _, _, rfl, rfl, B1.at, le1000 hul, ?_⟩
    have B2 := B1.app lastsP (x := .ref T) (p := ⟨qw, qto, qp⟩) ⟨T, wv, tv, pv, rfl, SqT.of upd_same, rw1.same t1, rt1.same t1, rp1.same t1⟩
    have f2 : Fr D (upd G T (.tup [wv, tv, pv])) (upd (upd G T (.tup [wv, tv, pv])) D (.lst (us ++ [.ref T]))) := Fr.upd _
    have rw2 := (rw1.same t1).fr f2 ⟨_, B1.at⟩
    have rt2 := (rt1.same t1).fr f2 ⟨_, B1.at⟩
    have rp2 := (rp1.same t1).fr f2 ⟨_, B1.at⟩
    -- the step; when; told
    refine ⟨_, rfl, s, rfl, B2.1, fun sv G3 qs0 S3 e3 => ?_⟩
    have B3 := B2.fr lastsP e3 S3
    obtain ⟨qs, rs, zs, ps⟩ := qs0
    have ps : 0 < qs := ps
    have rw3 := rw2.fr e3 B2.1.some
    have rt3 := rt2.fr e3 B2.1.some
    have rp3 := rp2.fr e3 B2.1.some
    refine ⟨_, rfl, _, rfl, _, _, qw, qs, _, 5, rfl, rw3, rs, zw, zs, by omega, fun wv' G4 e4 rw4 => ?_⟩
    refine ⟨_, rfl, _, rfl, _, rfl, _, _, qp, qs, 5, 5, rfl, rp3.same e4, rs.same e4, zp, zs, by omega, fun xv G5 e5 rx => ?_⟩
    refine ⟨_, _, qto, qp * qs, _, 10, rfl, rt3.same (e4.trans e5), rx, zt, zp.mul zs, by omega, fun tv' G6 e6 rt6 => ?_⟩
    have B6 := B3.same lastsP (e4.trans (e5.trans e6))
    refine ⟨_, rfl, s, 6, rfl, B6.1, by decide, fun so G7 so0 so1 S7 e7 => ?_⟩
    have B7 := B6.fr lastsP e7 S7
    have rw7 := (rw4.same (e5.trans e6)).fr e7 B6.1.some
    have rt7 := rt6.fr e7 B6.1.some
    have rp7 := (rp3.same (e4.trans (e5.trans e6))).fr e7 B6.1.some
    have zw7 : Sz (5 + 6 * (i + 1)) (qw + qs) := (zw.add zs).mono (by omega)
    have zt7 : Sz (16 + 23 * i) (qto + qp * qs) := (zt.add (zp.mul zs)).mono (by omega)
    have lw : qw < qw + qs := lt_add_pos ps
    dsimp only [gName]
    refine cut (fun σ' G' => ∃ (tv : V) (qt : Rat), σ' = [some (.ref s), some (.int many), some (.bl fall), some wv', some tv, some pv, some (.ref D), some (.int (0 + (i : Int))), some sv, some (.int so)] ∧ Bun (Pq K) l s D H (us ++ [.ref T]) (c ++ [⟨qw, qto, qp⟩]) G' ∧ Rq K G' wv' (qw + qs) ∧ Rq K G' tv qt ∧ Rq K G' pv qp ∧ Sz (22 + 23 * i) qt) ?_ ?_
    · rintro σ' G8 ⟨tv8, qt8, rfl, B8, rw8, rt8, rp8, zt8⟩
      refine cut (fun σ' G' => ∃ (tv : V) (qt : Rat), σ' = [some (.ref s), some (.int many), some (.bl fall), some wv', some tv, some pv, some (.ref D), some (.int (0 + (i : Int))), some sv, some (.int so)] ∧ Bun (Pq K) l s D H (us ++ [.ref T]) (c ++ [⟨qw, qto, qp⟩]) G' ∧ Rq K G' wv' (qw + qs) ∧ Rq K G' tv qt ∧ Rq K G' pv qp ∧ Sz (28 + 23 * i) qt) ?_ ?_
      · rintro σ' G9 ⟨tv9, qt9, rfl, B9, rw9, rt9, rp9, zt9⟩
        -- the last if
        have okc : Cok (c ++ [⟨qw, qto, qp⟩]) := ok.snoc hlt pp
        have czc : Cz 245 925 5 (c ++ [⟨qw, qto, qp⟩]) := cz.snoc ⟨zw.mono (by omega), zt.mono (by omega), zp⟩
        have ltc : ∀ p ∈ c ++ [(⟨qw, qto, qp⟩ : Pc)], p.s < qw + qs := fun p hp => by
          rcases List.mem_append.mp hp with hp | hp
          · have h1 := hlt p hp; grind
          · rw [List.mem_singleton.mp hp]
            exact lw
        have lenc : (c ++ [(⟨qw, qto, qp⟩ : Pc)]).length = i + 1 := by rw [List.length_append, hc]; rfl
        have stay : ∃ (us' : List V) (c : List Pc) (wv tv pv' : V) (k1 k2 k3 : Option V) (qw qt qp : Rat), [some (.ref s), some (.int many), some (.bl fall), some wv', some tv9, some pv, some (.ref D), some (.int (0 + (i : Int))), some sv, some (.int so)] = [some (.ref s), some (.int many), some (.bl fall), some wv, some tv, some pv', some (.ref D), k1, k2, k3] ∧
            Bun (Pq K) l s D H us' c G9 ∧ Rq K G9 wv qw ∧ Rq K G9 tv qt ∧ Rq K G9 pv' qp ∧ Sz (5 + 6 * (i + 1)) qw ∧ Sz (5 + 23 * (i + 1)) qt ∧ Sz 5 qp ∧ 0 < qp ∧ c.length = i + 1 ∧ (∀ p ∈ c, p.s < qw) ∧ Cok c ∧ Cz 245 925 5 c :=
          ⟨_, _, _, _, _, _, _, _, _, _, _, rfl, B9, rw9, rt9, rp9, zw7, zt9.mono (by omega), zp, pp, lenc, ltc, okc, czc⟩
        refine ⟨_, rfl, rfl, _, rfl, ?_⟩
        by_cases g1 : so = 0
        · refine ifF (by rw [dT (congrArg V.int g1)]; rfl) (ifF rfl stay)
        refine ifT (by rw [dF fun e => g1 (V.int.inj e)]; rfl) ⟨_, rfl, rfl, _, rfl, ?_⟩
        by_cases g2 : so = 4
        · exact ifF (by rw [dT (congrArg V.int g2)]; rfl) stay
        refine ifT (by rw [dF fun e => g2 (V.int.inj e)]; rfl) ⟨_, rfl, s, rfl, B9.1, fun pv' G10 qn S10 e10 => ?_⟩
        obtain ⟨qn, rn, zn, pn⟩ := qn
        exact ⟨_, _, _, _, _, _, _, _, _, _, _, rfl, B9.fr lastsP e10 S10, rw9.fr e10 B9.1.some, rt9.fr e10 B9.1.some, rn, zw7, zt9.mono (by omega), zn, pn, lenc, ltc, okc, czc⟩
      · intro key
        refine ⟨_, rfl, rfl, _, rfl, ?_⟩
        have skip := key _ _ ⟨tv8, qt8, rfl, B8, rw8, rt8, rp8, zt8.mono (by omega)⟩
        by_cases g1 : so = 4
        · refine ifT (dT (congrArg V.int g1)) ⟨_, rfl, _, rfl, ?_⟩
          cases fall with
          | false => exact ifF rfl skip
          | true =>
            refine ifT rfl ⟨_, rfl, _, rfl, s, rfl, B8.1, fun av G9 qa S9 e9 => ?_⟩
            obtain ⟨qa, ra, za, _⟩ := qa
            have B9 := B8.fr lastsP e9 S9
            refine ⟨_, _, qt8, qa, _, 5, rfl, rt8.fr e9 B8.1.some, ra, zt8, za, by omega, fun tv9 G10 e10 rt10 => ?_⟩
            exact key _ _ ⟨tv9, _, rfl, B9.same lastsP e10, (rw8.fr e9 B8.1.some).same e10, rt10, (rp8.fr e9 B8.1.some).same e10, (zt8.sub za).mono (by omega)⟩
        · exact ifF (dF fun e => g1 (V.int.inj e)) (ifF rfl skip)
    · intro key
      have skip := key _ _ ⟨tv', _, rfl, B7, rw7, rt7, rp7, zt7.mono (by omega)⟩
      have doit : ∀ (Qx : Prop), True → Qx → Qx := fun _ _ h => h
      refine ⟨_, rfl, rfl, _, rfl, ?_⟩
      by_cases g1 : so = 2
      · refine ifT (dT (congrArg V.int g1)) (ifT rfl ⟨_, rfl, _, rfl, s, rfl, B7.1, fun av G8 qa S8 e8 => ?_⟩)
        obtain ⟨qa, ra, za, _⟩ := qa
        refine ⟨_, _, _, qa, _, 5, rfl, rt7.fr e8 B7.1.some, ra, zt7, za, by omega, fun tv8 G9 e9 rt9 => ?_⟩
        exact key _ _ ⟨tv8, _, rfl, (B7.fr lastsP e8 S8).same lastsP e9, (rw7.fr e8 B7.1.some).same e9, rt9, (rp7.fr e8 B7.1.some).same e9, (zt7.add za).mono (by omega)⟩
      refine ifF (dF fun e => g1 (V.int.inj e)) ⟨_, rfl, rfl, _, rfl, ?_⟩
      by_cases g2 : so = 3
      · refine ifT (dT (congrArg V.int g2)) ⟨_, rfl, _, rfl, s, rfl, B7.1, fun av G8 qa S8 e8 => ?_⟩
        obtain ⟨qa, ra, za, _⟩ := qa
        refine ⟨_, _, _, qa, _, 5, rfl, rt7.fr e8 B7.1.some, ra, zt7, za, by omega, fun tv8 G9 e9 rt9 => ?_⟩
        exact key _ _ ⟨tv8, _, rfl, (B7.fr lastsP e8 S8).same lastsP e9, (rw7.fr e8 B7.1.some).same e9, rt9, (rp7.fr e8 B7.1.some).same e9, (zt7.add za).mono (by omega)⟩
      · exact ifF (dF fun e => g2 (V.int.inj e)) skip
  · rintro σ G ⟨us, c, wv, tv, pv, k1, k2, k3, qw, qt, qp, rfl, B, rw1, rt1, rp1, zw, zt, zp, pp, hc, hlt, ok, cz⟩
    exact ⟨_, rfl, z D us c G B (by omega) ok cz⟩
end Vk
namespace Vk
open PySem L2 Vm
variable {l : Addr} {P : Program} {w : World} {K : PySem.W.Frag} {mg : Str → Option Value} {base : Heap} {k : Nat} {f f1 f2 f3 f4 f5 f6 f7 f8 f9 : Addr} {fd fd1 fd2 fd3 fd4 fd5 fd6 fd7 fd8 fd9 : FuncData}
theorem All2.append {α : Type} {R : V → α → Prop} {xs ys : List V} {c d : List α} (h : All2 R xs c) (g : All2 R ys d) : All2 R (xs ++ ys) (c ++ d) := by
  refine ⟨by rw [List.length_append, List.length_append, h.1, g.1], fun i x p a b => ?_⟩
  have hl := h.1
  by_cases hi : i < xs.length
  · rw [List.getElem?_append_left hi] at a
    rw [List.getElem?_append_left (by omega)] at b
    exact h.2 i x p a b
  · rw [List.getElem?_append_right (by omega)] at a
    rw [List.getElem?_append_right (by omega), ← hl] at b
    exact g.2 _ x p a b
theorem All2.take {α : Type} {R : V → α → Prop} {xs : List V} {c : List α} (h : All2 R xs c) (m : Nat) : All2 R (xs.take m) (c.take m) := by
  refine ⟨by rw [List.length_take, List.length_take, h.1], fun i x p a b => ?_⟩
  rw [List.getElem?_take] at a b
  split at a
  · rename_i hi
    rw [if_pos hi] at b
    exact h.2 i x p a b
  · cases a
theorem All2.drop {α : Type} {R : V → α → Prop} {xs : List V} {c : List α} (h : All2 R xs c) (m : Nat) : All2 R (xs.drop m) (c.drop m) := by
  refine ⟨by rw [List.length_drop, List.length_drop, h.1], fun i x p a b => ?_⟩
  rw [List.getElem?_drop] at a b
  exact h.2 _ x p a b
theorem All2.one {α : Type} {R : V → α → Prop} {x : V} {p : α} (r : R x p) : All2 R [x] [p] := by
  have h : All2 R ([] ++ [x]) ([] ++ [p]) := All2.nil.snoc r
  exact h
def Asc (os : List Rat) : Prop := os.Pairwise (· < ·)
theorem asc_at {os : List Rat} (h : Asc os) {i j : Nat} {a b : Rat} (ha : os[i]? = some a) (hb : os[j]? = some b) (hij : i < j) : a < b := by
  obtain ⟨h1, rfl⟩ := List.getElem?_eq_some_iff.mp ha
  obtain ⟨h2, rfl⟩ := List.getElem?_eq_some_iff.mp hb
  exact List.pairwise_iff_getElem.mp h i j h1 h2 hij
/-- the place of one among os -/
def Spot (os : List Rat) (one : Rat) (j m : Nat) : Prop := m ≤ j ∧ ∀ (t : Nat) o, t < j → os[t]? = some o → (o < one ↔ t < m)
theorem rlt_trans {a b c : Rat} (h : a < b) (g : b < c) : a < c := by grind
theorem spot_next {os : List Rat} {one o : Rat} {j m : Nat} (ha : Asc os) (h : Spot os one j m) (ho : os[j]? = some o) : Spot os one (j + 1) (if o < one then j + 1 else m) := by
  split
  · rename_i g
    refine ⟨Nat.le_refl _, fun t x ht hx => ⟨fun _ => ht, fun _ => ?_⟩⟩
    by_cases e : t = j
    · subst e
      rw [ho] at hx
      cases hx
      exact g
    · exact rlt_trans (asc_at ha hx ho (by omega)) g
  · rename_i g
    refine ⟨by have := h.1; omega, fun t x ht hx => ?_⟩
    by_cases e : t = j
    · subst e
      rw [ho] at hx
      cases hx
      exact ⟨fun z => absurd z g, fun z => absurd z (by have := h.1; omega)⟩
    · exact h.2 t x (by omega) hx
theorem asc_insert {os : List Rat} {one : Rat} {m : Nat} (ha : Asc os) (h : Spot os one os.length m) (hn : os[m]? ≠ some one) : Asc (os.take m ++ [one] ++ os.drop m) := by
  have hlt : ∀ o ∈ os.take m, o < one := fun o ho => by
    obtain ⟨t, ht, rfl⟩ := List.mem_iff_getElem.mp ho
    rw [List.length_take] at ht
    have e : os[t]? = some (os.take m)[t] := by
      rw [List.getElem_take]
      exact List.getElem?_eq_getElem (by omega)
    exact (h.2 t _ (by omega) e).mpr (by omega)
  have hgt : ∀ o ∈ os.drop m, one < o := fun o ho => by
    obtain ⟨t, ht, rfl⟩ := List.mem_iff_getElem.mp ho
    rw [List.length_drop] at ht
    have e : os[m + t]? = some (os.drop m)[t] := by
      rw [List.getElem_drop]
      exact List.getElem?_eq_getElem (by omega)
    have h1 : ¬ (os.drop m)[t] < one := fun z => absurd ((h.2 (m + t) _ (by omega) e).mp z) (by omega)
    by_cases t0 : t = 0
    · have h2 : (os.drop m)[t] ≠ one := fun z => hn (by rw [← z, ← e, t0, Nat.add_zero])
      grind
    · have hm : m < os.length := by omega
      have h3 := asc_at ha (List.getElem?_eq_getElem hm) e (by omega)
      have h4 : ¬ os[m] < one := fun z => absurd ((h.2 m _ hm (List.getElem?_eq_getElem hm)).mp z) (by omega)
      grind
  unfold Asc
  rw [List.append_assoc, List.pairwise_append]
  refine ⟨ha.sublist (List.take_sublist _ _), ?_, fun a h1 b h2 => ?_⟩
  · rw [List.singleton_append, List.pairwise_cons]
    exact ⟨hgt, ha.sublist (List.drop_sublist _ _)⟩
  · rw [List.singleton_append] at h2
    rcases List.mem_cons.mp h2 with rfl | h2
    · exact hlt a h1
    · exact rlt_trans (hlt a h1) (hgt b h2)
abbrev s__law_ordered : Stmt := top 35
abbrev N__law_ordered : List Str := ["_law_fracs", "_law_row", "_law_one", "_law_spot", "_law_k"]
theorem sc__law_ordered : FnScope N__law_ordered ["_law_fracs"] (defScope s__law_ordered) := ⟨rfl, rfl, rfl, by decide +kernel, rfl, by decide +kernel, by decide +kernel⟩
abbrev ps__law_ordered : List Str := ["_law_fracs"]
def spOrdered (K : PySem.W.Frag) : Sp := fun vs H Q _ => ∃ (a : Addr) (xs : List V) (qs : List Rat), vs = [.ref a] ∧ SqL K H a xs ∧ All2 (Rq K H) xs qs ∧ (∀ q ∈ qs, Sz 40 q) ∧ qs.length ≤ 900 ∧
  ∀ D us os H', Same H H' → H D = none → H' D = some (.lst us) → All2 (Rq K H') us os → Asc os → (∀ o ∈ os, o ∈ qs) → os.length ≤ qs.length → (qs ≠ [] → os ≠ []) → Q (.ref D) H'
theorem ok_ordered (T : Bn mg) (F : Fn K mg "_law_ordered" s__law_ordered ps__law_ordered f fd) (d_law_below : Def P w K mg base k "_law_below" ["_law_a", "_law_b"] (spTest2 K fun p q => .bl (decide (p < q))) f1 fd1) :
    Def P w K mg base (k + 1) "_law_ordered" ps__law_ordered (spOrdered K) f fd := by
  refine ⟨F.F.ok sc__law_ordered (fun vs H Q E h => ?_) (fun cdv A outer s H vs Q E hr h => ?_), F.m, F.F.kp, F.b⟩
  · obtain ⟨_, _, _, rfl, _⟩ := h
    rfl
  obtain ⟨a, xs, qs, rfl, hx, hq, zq, hl, z⟩ := h
  refine ⟨_, (pss_cons (ps_set (i := 1) sc__law_ordered.nd rfl (Or.inl rfl) (pe_lst pa_nil))
      (pss_cons (ps_for PassesOwn.never rfl (pi_list (pv 0)) (pg_name (i := 2) sc__law_ordered.nd rfl (Or.inl rfl))
        (pss_cons (ps_set (i := 3) sc__law_ordered.nd rfl (Or.inl rfl) pe_int)
        (pss_cons (ps_for PassesOwn.never rfl (pi_range1 (by rfl) T.range_ (pa_cons (pe_callB call_len_seq (by rfl) T.len_ PySem.boot_len (pa_cons (pv 1) pa_nil)) pa_nil)) (pg_name (i := 4) sc__law_ordered.nd rfl (Or.inl rfl))
          (pss_one (ps_if (pt_val (pcall d_law_below hr (pa_cons (pe_ix ix_list (pv 1) (pv 4) (fun _ _ => rfl)) (pa_cons (pv 2) pa_nil))))
            (pss_one (ps_set (i := 3) sc__law_ordered.nd rfl (Or.inl rfl) (pe_op op_add (pv 4) pe_int)))
            pss_nil)))
        (pss_one (ps_if (PW.pt (pw_or (pt_cmpR op_eq (pv 3) (pe_callB call_len_seq (by rfl) T.len_ PySem.boot_len (pa_cons (pv 1) pa_nil)) (nomark _)) (pw_or1 (pt_cmpR (op_neD hr.units) (pe_ix ix_list (pv 1) (pv 3) (fun _ _ => rfl)) (pv 2) (nomark _)))))
          (pss_one (ps_expr (pe_bm PySem.F.plainAttrs_list PySem.F.slot_list_insert PySem.F.type_list_insert mt_insert (pv 1) (pa_cons (pv 3) (pa_cons (pv 2) pa_nil)))))
          pss_nil)))))
      (pss_one (ps_ret (pv 1))))), ?_⟩
  have p62 : (2 : Int) ^ 62 = 4611686018427387904 := by decide
  have p63 : (2 : Int) ^ 63 = 9223372036854775808 := by decide
  refine ⟨Nat.zero_le _, fun D hD => ?_⟩
  refine ⟨_, rfl, a, rfl, ⟨_, (same_new hD _).seq hx⟩, for_list (K := K) (a := a) (xs := xs) (fun i σ G => ∃ (us : List V) (os : List Rat) (k1 k2 k3 : Option V), σ = [some (.ref a), some (.ref D), k1, k2, k3] ∧ Same H G ∧ G D = some (.lst us) ∧ All2 (Rq K G) us os ∧ Asc os ∧ (∀ o ∈ os, o ∈ qs) ∧ os.length ≤ i ∧ (0 < i → os ≠ []))
    ⟨[], [], none, none, none, rfl, same_new hD _, upd_same, All2.nil, List.Pairwise.nil, nofun, Nat.le_refl _, fun h => absurd h (by omega)⟩ (fun i σ G _ h => by obtain ⟨_, _, _, _, _, _, s1, _⟩ := h; exact s1.seq hx) ?_ ?_⟩
  · rintro i x σ G hxi ⟨us, os, k1, k2, k3, rfl, s1, hD1, hA, asc, sub, ln, _⟩
    have hi : i < qs.length := by rw [← hq.1]; exact (List.getElem?_eq_some_iff.mp hxi).1
    have hqi : qs[i]? = some qs[i] := List.getElem?_eq_getElem hi
    have hmem : qs[i] ∈ qs := List.getElem_mem hi
    have rx := (hq.2 i x _ hxi hqi).same s1
    obtain ⟨one, eo⟩ : ∃ o, o = qs[i] := ⟨_, rfl⟩
    rw [← eo] at rx hmem
    have zo := zq one hmem
    have zos : ∀ o ∈ os, Sz 40 o := fun o ho => zq o (sub o ho)
    have hal := hA.1
    refine ⟨_, rfl, D, _, rfl, .inl (SqL.of hD1), _, rfl, by omega, by omega, for_range (n := ((us.length : Nat) : Int).toNat) (fun j σ G' => ∃ (m : Nat) (k3 : Option V), σ = [some (.ref a), some (.ref D), some x, some (.int m), k3] ∧ G' = G ∧ Spot os one j m)
      ⟨0, k3, rfl, rfl, Nat.le_refl _, fun t o h => absurd h (by omega)⟩ ?_ ?_⟩
    · rintro j σ G' hj ⟨m, k3, rfl, rfl, sp⟩
      have hj' : j < os.length := by omega
      have hoj : os[j]? = some os[j] := List.getElem?_eq_getElem hj'
      obtain ⟨y, hy, ry⟩ := hA.at hoj
      have sn := spot_next asc sp hoj
      refine ⟨_, rfl, _, rfl, D, _, _, y, rfl, rfl, SqL.of hD1, at_of (j := j) (by omega) hy, _, rfl, _, _, os[j], one, 40, 40, rfl, ry, rx, zos _ (List.getElem_mem hj'), zo, by decide, _, rfl, ifD (fun g => ?_) (fun g => ?_)⟩
      · rw [if_pos g] at sn
        refine ⟨_, rfl, _, _, rfl, rfl, j + 1, some (.int (0 + (j : Int))), ?_, rfl, sn⟩
        show [some (V.ref a), some (V.ref D), some x, some (V.int (0 + (j : Int) + 1)), some (V.int (0 + (j : Int)))] = _
        rw [show (0 + (j : Int) + 1) = ((j + 1 : Nat) : Int) by omega]
      · rw [if_neg g] at sn
        exact ⟨m, _, rfl, rfl, sn⟩
    · rintro σ G' ⟨m, k3, rfl, rfl, sp⟩
      have sp : Spot os one os.length m := by
        have e : ((us.length : Nat) : Int).toNat = os.length := by omega
        rw [e] at sp
        exact sp
      have hm := sp.1
      have put : os[m]? ≠ some one → ∃ (us' : List V) (os' : List Rat) (k1 k2 k3' : Option V), [some (.ref a), some (.ref D), some x, some (.int m), k3] = [some (.ref a), some (.ref D), k1, k2, k3'] ∧ Same H (upd G' D (.lst (us.take m ++ [x] ++ us.drop m))) ∧ (upd G' D (.lst (us.take m ++ [x] ++ us.drop m))) D = some (.lst us') ∧
          All2 (Rq K (upd G' D (.lst (us.take m ++ [x] ++ us.drop m)))) us' os' ∧ Asc os' ∧ (∀ o ∈ os', o ∈ qs) ∧ os'.length ≤ i + 1 ∧ (0 < i + 1 → os' ≠ []) := fun hn => by
        have fr : Fr D G' (upd G' D (.lst (us.take m ++ [x] ++ us.drop m))) := Fr.upd _
        have hA' := hA.imp fun _ _ h => Rq.fr fr ⟨_, hD1⟩ h
        refine ⟨_, os.take m ++ [one] ++ os.drop m, _, _, _, rfl, same_upd s1 hD _, upd_same, ((hA'.take m).append (All2.one (rx.fr fr ⟨_, hD1⟩))).append (hA'.drop m), asc_insert asc sp hn, fun o ho => ?_, ?_, fun _ e => ?_⟩
        · rcases List.mem_append.mp ho with ho | ho
          · rcases List.mem_append.mp ho with ho | ho
            · exact sub o (List.mem_of_mem_take ho)
            · rw [List.mem_singleton.mp ho]
              exact hmem
          · exact sub o (List.mem_of_mem_drop ho)
        · rw [List.length_append, List.length_append, List.length_take, List.length_drop, List.length_singleton]
          omega
        · have := congrArg List.length e
          rw [List.length_append, List.length_append, List.length_singleton, List.length_nil] at this
          omega
      refine ⟨_, rfl, _, rfl, D, _, rfl, .inl (SqL.of hD1), rfl, _, rfl, ifD (fun g => ifT rfl ?_) (fun g => ?_)⟩
      · have g' := V.int.inj g
        have hn : os[m]? ≠ some one := by rw [List.getElem?_eq_none (by omega)]; exact nofun
        exact ⟨_, rfl, .inl ⟨rfl, _, SqL.of hD1⟩, _, rfl, _, rfl, D, _, _, _, rfl, rfl, hD1, le1000 (by omega), by omega, by omega, put hn⟩
      · have g' : m ≠ us.length := fun e => g (by rw [e])
        have hmo : os[m]? = some os[m] := List.getElem?_eq_getElem (by omega)
        obtain ⟨y, hy, ry⟩ := hA.at hmo
        refine ⟨_, rfl, _, rfl, D, _, _, y, rfl, rfl, SqL.of hD1, at_of (j := m) rfl hy, _, rfl, _, _, ry.dp, rx.dp, sh_dq _, sh_dq _, _, rfl, ?_⟩
        rw [eqv_dq]
        by_cases e : os[m] = one
        · refine ifF (by rw [dT e]; rfl) ⟨us, os, _, _, _, rfl, s1, hD1, hA, asc, sub, by omega, fun _ z => ?_⟩
          have z2 := congrArg List.length z
          rw [List.length_nil] at z2
          omega
        · refine ifT (by rw [dF e]; rfl) ?_
          have hn : os[m]? ≠ some one := by rw [hmo]; exact fun z => e (Option.some.inj z)
          exact ⟨_, rfl, .inl ⟨rfl, _, SqL.of hD1⟩, _, rfl, _, rfl, D, _, _, _, rfl, rfl, hD1, le1000 (by omega), by omega, by omega, put hn⟩
  · rintro σ G ⟨us, os, k1, k2, k3, rfl, s1, hD1, hA, asc, sub, ln, ne⟩
    rw [hq.1] at ln
    refine ⟨_, rfl, z D us os G s1 hD hD1 hA asc sub ln fun e => ne ?_⟩
    rw [hq.1]
    exact List.length_pos_iff.mpr e
end Vk
namespace Vk
open PySem L2 Vm
variable {l : Addr} {P : Program} {w : World} {K : PySem.W.Frag} {mg : Str → Option Value} {base : Heap} {k : Nat} {f f1 f2 f3 f4 f5 f6 f7 f8 f9 : Addr} {fd fd1 fd2 fd3 fd4 fd5 fd6 fd7 fd8 fd9 : FuncData}
theorem tyes {σ : L2.St} {H : Hp} {A B : Hp → Prop} (h : A H) : tYes σ H (fun b H3 => if b = true then A H3 else B H3) := by
  show (if true = true then A H else B H)
  rw [if_pos rfl]
  exact h
abbrev s__law_wide_course : Stmt := top 39
abbrev N__law_wide_course : List Str := ["_law_store_here", "_law_starts", "_law_k", "_law_course_here", "_law_one", "_law_pace_here"]
theorem sc__law_wide_course : FnScope N__law_wide_course ["_law_store_here"] (defScope s__law_wide_course) := ⟨rfl, rfl, rfl, by decide +kernel, rfl, by decide +kernel, by decide +kernel⟩
abbrev ps__law_wide_course : List Str := ["_law_store_here"]
def spWide (K : PySem.W.Frag) (l : Addr) : Sp := fun vs H Q _ => ∃ (s : Addr), vs = [.ref s] ∧ Sto l s H ∧
  ∀ D us c H', Bun (Pq K) l s D H us c H' → 1 ≤ c.length → c.length ≤ 40 → Cok c → Cz 40 40 40 c → Q (.ref D) H'
theorem abs_nf {q : Rat} (h : q.num ≠ 0) : (mkRat (q.num.natAbs : Int) q.den).num = (q.num.natAbs : Int) ∧ (mkRat (q.num.natAbs : Int) q.den).den = q.den := nf q.den_nz (by rw [Int.natAbs_natCast]; exact q.reduced)
theorem ok_wide (T : Bn mg) (F : Fn K mg "_law_wide_course" s__law_wide_course ps__law_wide_course f fd) (d_law_ordered : Def P w K mg base k "_law_ordered" ["_law_fracs"] (spOrdered K) f1 fd1) (d_law_take : Def P w K mg base k "_law_take" ["_law_store_here", "_law_many"] (spTake K l) f2 fd2)
    (d_law_ratio : Def P w K mg base k "_law_ratio" ["_law_store_here", "_law_top"] (spRatio K l) f3 fd3) : Def P w K mg base (k + 1) "_law_wide_course" ps__law_wide_course (spWide K l) f fd := by
  refine ⟨F.F.ok sc__law_wide_course (fun vs H Q E h => ?_) (fun cdv A outer s H vs Q E hr h => ?_), F.m, F.F.kp, F.b⟩
  · obtain ⟨_, rfl, _⟩ := h
    rfl
  obtain ⟨s, rfl, hS, z⟩ := h
  refine ⟨_, (pss_cons (ps_set (i := 1) sc__law_wide_course.nd rfl (Or.inl rfl) (pcall d_law_ordered hr (pa_cons (pe_lc (own := [("_law_k", 2)]) (g := gName 2) (tt := tYes) rfl sc__law_wide_course.nd (pi_range1 (by rfl) T.range_ (pa_cons (pe_op op_add pe_int (pcall d_law_take hr (pa_cons (pv 0) (pa_cons pe_int pa_nil)))) pa_nil)) (blkOk_by (N := N__law_wide_course) (sc := defScope s__law_wide_course) (by decide +kernel)) (fun _ _ _ _ _ => pg_name (i := 2) sc__law_wide_course.nd rfl (Or.inl rfl)) (fun _ _ _ _ _ => pts_nil) (fun _ _ _ _ _ => (pcall d_law_ratio hr (pa_cons (pv 0) (pa_cons (pe_op op_sub (pe_op op_pow pe_int pe_int) pe_int) pa_nil))))) pa_nil)))
      (pss_cons (ps_set (i := 3) sc__law_wide_course.nd rfl (Or.inl rfl) (pe_lst pa_nil))
      (pss_cons (ps_for PassesOwn.never rfl (pi_list (pv 1)) (pg_name (i := 4) sc__law_wide_course.nd rfl (Or.inl rfl))
        (pss_cons (ps_set (i := 5) sc__law_wide_course.nd rfl (Or.inl rfl) (pcall d_law_ratio hr (pa_cons (pv 0) (pa_cons (pe_op op_sub (pe_op op_pow pe_int pe_int) pe_int) pa_nil))))
        (pss_cons (ps_set (i := 5) sc__law_wide_course.nd rfl (Or.inl rfl) (pe_ifExp (pt_cmpR op_ne (pe_ix ix_tup (pv 5) pe_int (fun _ _ => rfl)) pe_int (nomark _)) (pe_tup (pa_cons (pe_callB (call_max2 rfl) (by rfl) T.max_ (by decide +kernel) (pa_cons pe_int (pa_cons (pe_callB call_abs (by rfl) T.abs_ (by decide +kernel) (pa_cons (pe_ix ix_tup (pv 5) pe_int (fun _ _ => rfl)) pa_nil)) pa_nil))) (pa_cons (pe_ix ix_tup (pv 5) pe_int (fun _ _ => rfl)) pa_nil))) (pe_tup (pa_cons pe_int (pa_cons (pe_op op_sub (pe_op op_pow pe_int pe_int) pe_int) pa_nil)))))
        (pss_one (ps_expr (pe_bm PySem.F.plainAttrs_list PySem.F.slot_list_append PySem.F.type_list_append mt_append (pv 3) (pa_cons (pe_tup (pa_cons (pv 4) (pa_cons (pcall d_law_ratio hr (pa_cons (pv 0) (pa_cons (pe_op op_sub (pe_op op_pow pe_int pe_int) pe_int) pa_nil))) (pa_cons (pv 5) pa_nil)))) pa_nil)))))))
      (pss_one (ps_ret (pv 3)))))), ?_⟩
  have p62 : (2 : Int) ^ 62 = 4611686018427387904 := by decide
  have pw : (0 : Int) ≤ 12 ∧ (12 : Int) ≤ 1000000 ∧ (10 : Int).natAbs < 2 ^ 64 := ⟨by decide, by decide, by decide⟩
  have top : ∀ n : Int, n = 10 ^ ((12 : Int).toNat) - 1 → 1 ≤ n ∧ n < 2 ^ 40 := fun n e => by subst e; exact ⟨by decide, by decide⟩
  -- the starts
  refine ⟨_, rfl, s, 3, rfl, hS, by decide, fun r H1 r0 r1 S1 e1 => ⟨_, _, rfl, rfl, ?_⟩⟩
  obtain ⟨n, en⟩ : ∃ n : Nat, (n : Int) = 1 + r := ⟨(1 + r).toNat, by omega⟩
  refine ⟨_, rfl, by omega, by omega, fun D hD => lc_range (lo := 0) (n := (1 + r).toNat) (fun i G => ∃ (us : List V) (qs : List Rat), Bun (Rq K) l s D H us qs G ∧ qs.length = i ∧ ∀ q ∈ qs, Sz 40 q)
    ⟨[], [], Bun.start S1 e1 hD, rfl, nofun⟩ ?_ ?_⟩
  · rintro i G hi ⟨us, qs, B, hl, zq⟩
    have ha : us.length ≤ 1000 := by have := B.len; omega
    refine ⟨rfl, tyes ?_⟩
    refine ⟨_, rfl, _, _, rfl, rfl, pw, _, _, rfl, rfl, s, _, rfl, B.1, (top _ rfl).1, (top _ rfl).2, fun v G1 qv S' e' => ?_⟩
    obtain ⟨q, rq, zq1, _⟩ := qv
    have B1 := B.fr lastsQ e' S'
    refine ⟨us, B1.at, le1000 ha, _, _, B1.app lastsQ rq, by rw [List.length_append, hl]; rfl, fun x hx => ?_⟩
    rcases List.mem_append.mp hx with hx | hx
    · exact zq x hx
    · rw [List.mem_singleton.mp hx]
      exact zq1
  rintro G0 ⟨us, qs, B, hl, zq⟩
  refine ⟨D, us, qs, rfl, SqL.of B.at, B.all, zq, by omega, fun D2 us2 os G1 e2 hD2 hD2' hos asc sub len ne => ?_⟩
  have S1 := B.1.same e2
  have f1 : Fr s H G1 := B.2.1.trans (Fr.of e2)
  have n2s : D2 ≠ s := B.1.ne hD2
  have ln2 := hos.1
  refine ⟨Nat.zero_le _, fun D3 hD3 => ?_⟩
  have s3 := same_new hD3 (.lst [])
  have n23 : D2 ≠ D3 := fun e => by rw [e, hD3] at hD2'; cases hD2'
  refine ⟨_, rfl, D2, rfl, ⟨_, SqL.of (s3 _ _ hD2')⟩, for_list (K := K) (a := D2) (xs := us2) (fun i σ G => ∃ (us3 : List V) (c : List Pc) (k2 k4 k5 : Option V), σ = [some (.ref s), some (.ref D2), k2, some (.ref D3), k4, k5] ∧ Bun (Pq K) l s D3 H us3 c G ∧ G D2 = some (.lst us2) ∧ All2 (Rq K G) us2 os ∧ c.map (·.s) = os.take i ∧ Cok c ∧ Cz 40 40 40 c)
    ⟨[], [], _, _, _, rfl, Bun.start S1 f1 hD3, s3 _ _ hD2', hos.imp fun _ _ h => h.same s3, by rw [List.take_zero]; rfl, ⟨nofun, fun i p q h => by simp at h⟩, nofun⟩ (fun i σ G _ h => by obtain ⟨_, _, _, _, _, _, _, h, _⟩ := h; exact SqL.of h) ?_ ?_⟩
  · rintro i x σ G hxi ⟨us3, c, k2, k4, k5, rfl, B, h2, ho, hm, ok, cz⟩
    have hi : i < os.length := by rw [← ln2]; exact (List.getElem?_eq_some_iff.mp hxi).1
    have hoi : os[i]? = some os[i] := List.getElem?_eq_getElem hi
    have rx := ho.2 i x _ hxi hoi
    have hcl : c.length = i := by have := congrArg List.length hm; rw [List.length_map, List.length_take] at this; omega
    have hul := B.len
    refine ⟨_, rfl, _, _, rfl, rfl, pw, _, _, rfl, rfl, s, _, rfl, B.1, (top _ rfl).1, (top _ rfl).2, fun pv G2 qp S2 e2 => ?_⟩
    have B2 := B.fr lastsP e2 S2
    have h2' := e2 _ _ h2 n2s
    have ho2 := ho.imp fun _ _ h => Rq.fr e2 B.1.some h
    have rx2 := rx.fr e2 B.1.some
    obtain ⟨qp, rp, zp, _⟩ := qp
    dsimp only [gName]
    refine cut (fun σ' G' => ∃ (pv' : V), σ' = [some (.ref s), some (.ref D2), k2, some (.ref D3), some x, some pv'] ∧ Same G2 G' ∧ Qd K 40 posQ G' pv') ?_ ?_
    · rintro σ' G3 ⟨pv', rfl, e3, qp3⟩
      have B3 := B2.same lastsP e3
      refine ⟨_, rfl, .inl ⟨rfl, _, SqL.of B3.at⟩, _, rfl, _, rfl, _, _, rfl, rfl, pw, _, _, rfl, rfl, s, _, rfl, B3.1, (top _ rfl).1, (top _ rfl).2, fun vv G4 qv S4 e4 => ⟨_, rfl, sm3, fun T hT => ?_⟩⟩
      have B4 := B3.fr lastsP e4 S4
      have t5 := same_new hT (.tup [x, vv, pv'])
      have B5 := B4.same lastsP t5
      obtain ⟨q4, r4, z4, p4⟩ := qp3
      obtain ⟨q5, r5, z5, _⟩ := qv
      have rx4 := (rx2.same e3).fr e4 B3.1.some
      have B6 := B5.app lastsP (x := .ref T) (p := ⟨os[i], q5, q4⟩) ⟨T, x, vv, pv', rfl, SqT.of upd_same, rx4.same t5, r5.same t5, (r4.fr e4 B3.1.some).same t5⟩
      have fr6 : Fr D3 (upd G4 T (.tup [x, vv, pv'])) (upd (upd G4 T (.tup [x, vv, pv'])) D3 (.lst (us3 ++ [.ref T]))) := Fr.upd _
      have zo : Sz 40 os[i] := zq _ (sub _ (List.getElem_mem hi))
      refine ⟨D3, _, _, rfl, rfl, B5.at, le1000 (by omega), _, _, _, _, _, rfl, B6, ?_, ?_, ?_, ok.snoc (fun p hp => ?_) p4, cz.snoc ⟨zo, z5, z4⟩⟩
      · rw [upd_ne n23]
        exact t5 _ _ (e4 _ _ (e3 _ _ h2') n2s)
      · exact ho2.imp fun _ _ h => (((h.same e3).fr e4 B3.1.some).same t5).fr fr6 ⟨_, B5.at⟩
      · rw [List.map_append, hm, List.take_add_one, hoi]
        rfl
      · have hp' : p.s ∈ os.take i := by rw [← hm]; exact List.mem_map_of_mem hp
        obtain ⟨t, ht, et⟩ := List.mem_iff_getElem.mp hp'
        rw [List.length_take] at ht
        rw [List.getElem_take] at et
        exact asc_at asc (by rw [← et]; exact List.getElem?_eq_getElem (by omega)) hoi (by omega)
    · intro key
      obtain ⟨t, rfl, ht⟩ := id rp
      refine ⟨_, rfl, t, _, _, _, rfl, rfl, ht, at0 rfl, rfl, _, rfl, ?_⟩
      by_cases g : qp.num = 0
      · refine ifF (by rw [dT (congrArg V.int g)]; rfl) ⟨_, _, rfl, rfl, pw, _, _, rfl, rfl, sz2, fun T hT => ?_⟩
        exact key _ _ ⟨_, rfl, same_new hT _, Qd.new 1 _ (mkRat 1 (10 ^ 12 - 1)) (by decide +kernel) (by decide +kernel) (by decide +kernel) (by decide +kernel)⟩
      · refine ifT (by rw [dF fun e => g (V.int.inj e)]; rfl) ⟨_, rfl, t, _, _, _, rfl, rfl, ht, at0 rfl, _, rfl, _, _, rfl, _, rfl, t, _, _, _, rfl, rfl, ht, at1 rfl, sz2, fun T hT => ?_⟩
        have nfq := abs_nf g
        refine key _ _ ⟨_, rfl, same_new hT _, Qd.new _ _ (mkRat (qp.num.natAbs : Int) qp.den) ?_ ?_ ?_ ?_⟩
        · rw [nfq.1]
          (repeat' split) <;> omega
        · rw [nfq.2]
        · exact ⟨by rw [nfq.1, Int.natAbs_natCast]; exact zp.1, by rw [nfq.2]; exact zp.2⟩
        · exact pos_of_num (by rw [nfq.1]; omega)
  · rintro σ G ⟨us3, c, k2, k4, k5, rfl, B, h2, ho, hm, ok, cz⟩
    rw [ln2, List.take_length] at hm
    have hcl := congrArg List.length hm
    rw [List.length_map] at hcl
    have on := ne (fun e => by rw [e] at hl; simp at hl; omega)
    have := List.length_pos_iff.mpr on
    exact ⟨_, rfl, z D3 us3 c G B (by omega) (by omega) ok cz⟩
end Vk
namespace Vk
open PySem L2 Vm
/-! ### the mathematics of hits -/
theorem cok_lt {c : List Pc} (h : Cok c) : ∀ {j i : Nat} {p q : Pc}, i < j → c[i]? = some p → c[j]? = some q → p.s < q.s
  | 0, i, p, q, hij, _, _ => absurd hij (by omega)
  | j + 1, i, p, q, hij, hp, hq => by
    have hj : j < c.length := by have := (List.getElem?_eq_some_iff.mp hq).1; omega
    have e : c[j]? = some c[j] := List.getElem?_eq_getElem hj
    have h2 := h.2 j _ _ e hq
    by_cases hi : i = j
    · subst hi
      rw [e] at hp
      cases hp
      exact h2
    · exact rlt_trans (cok_lt h (by omega) hp e) h2
theorem hit_some {c : List Pc} {q t : Rat} {k : Nat} (h : hit c q k = some t) : ∃ p, c[k]? = some p ∧ t = tm p q ∧ p.s ≤ t ∧ before c (k + 1) t = true := by
  unfold hit at h
  cases e : c[k]? with
  | none => rw [e] at h; cases h
  | some p =>
    rw [e] at h
    dsimp only at h
    split at h
    · rename_i g
      cases h
      exact ⟨p, rfl, rfl, g.1, g.2⟩
    · cases h
/-- t lies in the k-th stretch -/
def inI (c : List Pc) (k : Nat) (t : Rat) : Bool := (match c[k]? with
  | none => false
  | some p => !decide (t < p.s)) && before c (k + 1) t
theorem before_lt {c : List Pc} {k : Nat} {t : Rat} {p : Pc} (h : before c k t = true) (e : c[k]? = some p) : t < p.s := by
  unfold before at h
  rw [e] at h
  exact of_decide_eq_true h
theorem hit_in {c : List Pc} {q t : Rat} {k : Nat} (h : hit c q k = some t) : inI c k t = true := by
  obtain ⟨p, e, _, h1, h2⟩ := hit_some h
  unfold inI
  rw [e, h2]
  have : ¬ t < p.s := by grind
  simp [this]
theorem hit_out {c : List Pc} (ok : Cok c) {q t : Rat} {k n : Nat} (h : hit c q n = some t) (hk : k ≠ n) : inI c k t = false := by
  obtain ⟨p, e, _, h1, h2⟩ := hit_some h
  unfold inI
  cases e2 : c[k]? with
  | none => rfl
  | some p2 =>
    dsimp only
    by_cases g : k < n
    · have hk1 : k + 1 < c.length := by have := (List.getElem?_eq_some_iff.mp e).1; omega
      have e3 : c[k + 1]? = some c[k + 1] := List.getElem?_eq_getElem hk1
      have : c[k + 1].s ≤ p.s := by
        by_cases g2 : k + 1 = n
        · subst g2
          rw [e3] at e
          cases e
          exact Rat.le_refl
        · have := cok_lt ok (show k + 1 < n by omega) e3 e
          grind
      have nb : before c (k + 1) t = false := by
        unfold before
        rw [e3]
        exact dF (by grind)
      rw [nb, Bool.and_false]
    · have h3 : before c (n + 1) t = true := h2
      have hn1 : n + 1 < c.length := by have := (List.getElem?_eq_some_iff.mp e2).1; omega
      have e3 : c[n + 1]? = some c[n + 1] := List.getElem?_eq_getElem hn1
      have h4 := before_lt h3 e3
      have : c[n + 1].s ≤ p2.s := by
        by_cases g2 : n + 1 = k
        · subst g2
          rw [e3] at e2
          cases e2
          exact Rat.le_refl
        · have := cok_lt ok (show n + 1 < k by omega) e3 e2
          grind
      have : t < p2.s := by grind
      simp [this]
theorem hits_in {c : List Pc} (ok : Cok c) (q : Rat) (k : Nat) : ∀ n, (hits c q n).filter (inI c k) = if k < n then (hit c q k).toList else []
  | 0 => by simp [hits]
  | n + 1 => by
    rw [hits_succ, List.filter_append, hits_in ok q k n]
    cases h : hit c q n with
    | none =>
      simp only [Option.toList, List.filter_nil, List.append_nil]
      by_cases e : k = n
      · subst e
        rw [if_neg (by omega), if_pos (by omega), h]
      · by_cases g : k < n
        · rw [if_pos g, if_pos (by omega)]
        · rw [if_neg g, if_neg (by omega)]
    | some t =>
      simp only [Option.toList]
      by_cases e : k = n
      · subst e
        rw [if_neg (by omega), if_pos (by omega), h, List.nil_append]
        simp [hit_in h]
      · have := hit_out ok h e
        simp only [List.filter_cons, this, Bool.false_eq_true, if_false, List.filter_nil, List.append_nil]
        by_cases g : k < n
        · rw [if_pos g, if_pos (by omega)]
        · rw [if_neg g, if_neg (by omega)]
theorem hits_mem {c : List Pc} {q t : Rat} {n : Nat} (h : t ∈ hits c q n) : ∃ k, k < n ∧ hit c q k = some t := by
  unfold hits at h
  obtain ⟨k, hk, e⟩ := List.mem_filterMap.mp h
  exact ⟨k, List.mem_range.mp hk, e⟩
theorem hits_asc {c : List Pc} (ok : Cok c) (q : Rat) : ∀ n, Asc (hits c q n)
  | 0 => by unfold hits; exact List.Pairwise.nil
  | n + 1 => by
    rw [hits_succ]
    unfold Asc
    rw [List.pairwise_append]
    refine ⟨hits_asc ok q n, ?_, fun a ha b hb => ?_⟩
    · cases hit c q n <;> simp [Option.toList]
    · cases h : hit c q n with
      | none => rw [h] at hb; cases hb
      | some t =>
        rw [h] at hb
        simp only [Option.toList, List.mem_singleton] at hb
        subst hb
        obtain ⟨k, hk, e⟩ := hits_mem ha
        obtain ⟨p, e1, _, g1, g2⟩ := hit_some e
        obtain ⟨p2, e2, _, g3, _⟩ := hit_some h
        have hn := (List.getElem?_eq_some_iff.mp e2).1
        have e3 : c[k + 1]? = some c[k + 1] := List.getElem?_eq_getElem (by omega)
        have g4 := before_lt g2 e3
        have : c[k + 1].s ≤ p2.s := by
          by_cases g5 : k + 1 = n
          · subst g5
            rw [e3] at e2
            cases e2
            exact Rat.le_refl
          · have := cok_lt ok (show k + 1 < n by omega) e3 e2
            grind
        grind
theorem tm_ge {p : Pc} {q : Rat} (r : 0 < p.r) : p.s ≤ tm p q ↔ p.v ≤ q := by
  have h : (q - p.v) / p.r * p.r = q - p.v := Rat.div_mul_cancel (by grind)
  unfold tm
  constructor
  · intro g
    have g1 : 0 ≤ (q - p.v) / p.r := by grind
    have g2 := Rat.mul_nonneg g1 (Rat.le_of_lt r)
    grind
  · intro g
    have g2 : ¬ (q - p.v) / p.r < 0 := fun z => by
      have := (Rat.mul_lt_mul_right r).mpr z
      grind
    grind
theorem tm_lt {p : Pc} {q s : Rat} (r : 0 < p.r) : tm p q < s ↔ q < p.v + p.r * (s - p.s) := by
  have h : (q - p.v) / p.r * p.r = q - p.v := Rat.div_mul_cancel (by grind)
  have e : tm p q < s ↔ (q - p.v) / p.r < s - p.s := by
    unfold tm
    constructor <;> intro g <;> grind
  rw [e, ← Rat.mul_lt_mul_right r, h]
  constructor <;> intro g <;> grind
theorem tm_back {p : Pc} {q : Rat} (r : 0 < p.r) : p.v + p.r * (tm p q - p.s) = q := by
  have h : (q - p.v) / p.r * p.r = q - p.v := Rat.div_mul_cancel (by grind)
  unfold tm
  grind
theorem filter_take {α : Type} (g : α → Bool) : ∀ {c : List α} {m : Nat}, (∀ i x, c[i]? = some x → (g x = true ↔ i < m)) → c.filter g = c.take m
  | [], m, _ => by simp
  | x :: r, 0, h => by
    have h0 := h 0 x rfl
    have : g x = false := by
      cases e : g x with
      | false => rfl
      | true => exact absurd (h0.mp e) (by omega)
    rw [List.filter_cons, this]
    simp only [Bool.false_eq_true, if_false]
    rw [filter_take g (m := 0) fun i y hy => by
      have := h (i + 1) y hy
      constructor
      · intro z; exact absurd (this.mp z) (by omega)
      · intro z; omega]
    simp
  | x :: r, m + 1, h => by
    have h0 := (h 0 x rfl).mpr (by omega)
    rw [List.filter_cons, if_pos h0, List.take_succ_cons, filter_take g (m := m) fun i y hy => by
      have := h (i + 1) y hy
      constructor
      · intro z; have := this.mp z; omega
      · intro z; exact this.mpr (by omega)]
theorem now_hit {c : List Pc} (ok : Cok c) {q t : Rat} {k : Nat} (h : hit c q k = some t) : nowf c t = some q := by
  obtain ⟨p, e, et, h1, h2⟩ := hit_some h
  have hk := (List.getElem?_eq_some_iff.mp e).1
  have ef : c.filter (on t) = c.take (k + 1) := filter_take _ fun i x hx => by
    unfold on
    constructor
    · intro z
      refine Nat.lt_of_not_le fun g => ?_
      have hk1 : k + 1 < c.length := by have := (List.getElem?_eq_some_iff.mp hx).1; omega
      have e3 : c[k + 1]? = some c[k + 1] := List.getElem?_eq_getElem hk1
      have h4 := before_lt h2 e3
      have : c[k + 1].s ≤ x.s := by
        by_cases g5 : k + 1 = i
        · subst g5
          rw [e3] at hx
          cases hx
          exact Rat.le_refl
        · have := cok_lt ok (show k + 1 < i by omega) e3 hx
          grind
      have : t < x.s := by grind
      simp [this] at z
    · intro z
      have : x.s ≤ p.s := by
        by_cases g5 : i = k
        · subst g5
          rw [e] at hx
          cases hx
          exact Rat.le_refl
        · have := cok_lt ok (show i < k by omega) hx e
          grind
      have : ¬ t < x.s := by grind
      simp [this]
  unfold nowf
  rw [ef, List.getLast?_eq_getElem?, List.length_take, List.getElem?_take]
  have e1 : min (k + 1) c.length - 1 = k := by omega
  rw [e1, if_pos (by omega), e]
  show some (p.v + p.r * (t - p.s)) = some q
  rw [et, tm_back (ok.1 p (List.mem_of_getElem? e))]
/-- whether the k-th piece shows the reading -/
theorem due_hit {c : List Pc} (ok : Cok c) {q : Rat} {k : Nat} {p : Pc} (e : c[k]? = some p) : (hit c q k).isSome = (!decide (q < p.v) && (match lim c k with
  | none => true
  | some b => decide (q < b))) := by
  have r := ok.1 p (List.mem_of_getElem? e)
  unfold hit lim
  rw [e]
  dsimp only
  have h1 := tm_ge (p := p) (q := q) r
  cases e2 : c[k + 1]? with
  | none =>
    have hb : before c (k + 1) (tm p q) = true := by unfold before; rw [e2]
    rw [hb]
    dsimp only
    by_cases g : q < p.v
    · have : ¬ p.s ≤ tm p q := fun z => by have := h1.mp z; grind
      simp [this, g]
    · have : p.s ≤ tm p q := h1.mpr (by grind)
      simp [this, g]
  | some p2 =>
    have h2 := tm_lt (p := p) (q := q) (s := p2.s) r
    have hb : before c (k + 1) (tm p q) = decide (tm p q < p2.s) := by unfold before; rw [e2]
    rw [hb]
    dsimp only
    by_cases g : q < p.v
    · have : ¬ p.s ≤ tm p q := fun z => by have := h1.mp z; grind
      simp [this, g]
    · have a1 : p.s ≤ tm p q := h1.mpr (by grind)
      by_cases g2 : tm p q < p2.s
      · have := h2.mp g2
        simp [a1, g, g2, this]
      · have : ¬ q < p.v + p.r * (p2.s - p.s) := fun z => g2 (h2.mpr z)
        simp [a1, g, g2, this]
theorem opt_len {α : Type} (o : Option α) : o.toList.length = if o.isSome = true then 1 else 0 := by cases o <;> rfl
theorem row_last {c : List Pc} (ok : Cok c) {q : Rat} {k : Nat} {p : Pc} (e : c[k]? = some p) (e2 : c[k + 1]? = none) :
    ((hits c q c.length).filter fun t => !decide (t < p.s)).length = if (!decide (q < p.v)) = true then 1 else 0 := by
  have hk := (List.getElem?_eq_some_iff.mp e).1
  have h1 := hits_in ok q k c.length
  rw [if_pos hk] at h1
  have h2 : (fun t => !decide (t < p.s)) = inI c k := by
    funext t
    unfold inI before
    rw [e, e2]
    simp
  have h3 := due_hit ok (q := q) e
  unfold lim at h3
  rw [e, e2] at h3
  dsimp only at h3
  rw [Bool.and_true] at h3
  rw [h2, h1, opt_len, h3]
theorem row_more {c : List Pc} (ok : Cok c) {q : Rat} {k : Nat} {p p2 : Pc} (e : c[k]? = some p) (e2 : c[k + 1]? = some p2) :
    (((hits c q c.length).filter fun t => !decide (t < p.s)).filter fun t => decide (t < p2.s)).length = if (!decide (q < p.v) && decide (q < p.v + p.r * (p2.s - p.s))) = true then 1 else 0 := by
  have hk := (List.getElem?_eq_some_iff.mp e).1
  have h1 := hits_in ok q k c.length
  rw [if_pos hk] at h1
  have h2 : (fun t => decide (t < p2.s) && !decide (t < p.s)) = inI c k := by
    funext t
    unfold inI before
    rw [e, e2]
    exact Bool.and_comm _ _
  have h3 := due_hit ok (q := q) e
  unfold lim at h3
  rw [e, e2] at h3
  dsimp only at h3
  rw [List.filter_filter, h2, h1, opt_len, h3]
end Vk
namespace Vk
open PySem PySem.Spec PyProof.Rows L2
section
variable {X : Cx}
/-- xs.count(y), data of any depth -/
def rCountD (K : PySem.W.Frag) : V → List V → Hp → VK → Prop := fun x xs H Q => ∃ (a : Addr) (y : V) (d : PyData) (ds : List PyData), x = V.ref a ∧ xs = [y] ∧ Dp K H (V.ref a) (.list ds) ∧ Dp K H y d ∧
  SeqAt.shaped (.list ds) = true ∧ SeqAt.shaped d = true ∧ Q (.int ((ds.countP fun z => PyData.eqv z d : Nat) : Int)) H
theorem mt_countD (hu : X.A.units + 65 < cLine) : MtR X "list.count" (rCountD X.K) := by
  intro pins s σ H x xs v us Q I rx rxs h
  obtain ⟨a, y, d, ds, rfl, rfl, hl, hy, sl, sd, q⟩ := h
  cases rx
  cases rxs with
  | cons ry rt =>
    rename_i uy ut
    cases rt
    obtain ⟨bs, r1⟩ := Dp.reads I d y uy hy ry
    have hxs : PyData.canLayAll0 ds = true := SeqAt.canLay_of_shaped sl
    have hroom : X.A.units + 1 + min (PyData.depthAll ds) d.depth < cLine := room_in_shaped sd hu
    cases hl with
    | lst hs ha =>
      obtain ⟨its, rv, ⟨⟨cls, dd, data, sls⟩, n, ho, hc, hdn, hdt⟩, hlen⟩ := I.list hs
      simp only at hc hdt
      subst hc hdt
      obtain ⟨as, h4⟩ := Dp.readsAll I ds _ its ha rv
      have hmap : its.map (SeqAt.readOf s.heap) = ds := SeqAt.readsAll_map ds its as hxs h4
      refine call_meets PySem.F.slot_list_count ⟨_, ho, rfl⟩ PySem.F.entry_list_count (PySem.F.args_list_count_2 _ _)
        (SeqAt.list_countAt a its.toArray n dd sls uy (fun u => PyData.eqv (SeqAt.readOf s.heap u) d)) ⟨ho, SeqAt.items_eqAt (vs := its.toArray) (show ReadsAll s.heap its.toArray.toList ds as from h4) r1 hxs (SeqAt.canLay_of_shaped sd) hroom, ?_⟩
      refine ⟨.int ((ds.countP fun z => PyData.eqv z d : Nat) : Int), H, I.tok _, ⟨s.toks, ?_⟩, q⟩
      have e : (its.toArray.toList.countP fun u => PyData.eqv (SeqAt.readOf s.heap u) d) = ds.countP fun z => PyData.eqv z d := by
        rw [← hmap, List.countP_map]
        rfl
      show Value.int ((its.toArray.toList.countP (fun u => PyData.eqv (SeqAt.readOf s.heap u) d) : Nat) : Int) s.toks = _
      rw [e]
end
end Vk
namespace Vk
open PySem L2 Vm
variable {l : Addr} {P : Program} {w : World} {K : PySem.W.Frag} {mg : Str → Option Value} {base : Heap} {k : Nat} {f f1 f2 f3 f4 f5 f6 f7 f8 f9 : Addr} {fd fd1 fd2 fd3 fd4 fd5 fd6 fd7 fd8 fd9 : FuncData}
theorem sm1 : 1 ≤ sizeLine := by decide
theorem Bun.made {α : Type} {R : Hp → V → α → Prop} {s D : Addr} {H0 G : Hp} {us : List V} {c : List α} (S : Sto l s G) (e : Fr s H0 G) (hD : G D = none) (h : All2 (R (upd G D (.lst us))) us c) : Bun R l s D H0 us c (upd G D (.lst us)) := by
  have nD := S.ne hD
  have f := same_new hD (.lst us)
  exact ⟨S.same f, e.trans (Fr.of f), nD, S.nl hD, e.free hD nD, upd_same, h⟩
/-- a tracked list with a course -/
def Ct (K : PySem.W.Frag) (H : Hp) (a : Addr) (xs : List V) (c : List Pc) : Prop := H a = some (.lst xs) ∧ All2 (Pq K H) xs c
theorem Ct.cq {H : Hp} {a : Addr} {xs : List V} {c : List Pc} (h : Ct K H a xs c) : Cq K H a c := ⟨xs, SqL.of h.1, h.2⟩
theorem Ct.same {H H' : Hp} {a : Addr} {xs : List V} {c : List Pc} (e : Same H H') (h : Ct K H a xs c) : Ct K H' a xs c := ⟨e _ _ h.1, h.2.imp fun _ _ h => h.same e⟩
theorem Ct.fr {s : Addr} {H H' : Hp} {a : Addr} {xs : List V} {c : List Pc} (e : Fr s H H') (hs : ∃ ys, H s = some (.lst ys)) (n : a ≠ s) (h : Ct K H a xs c) : Ct K H' a xs c := ⟨e _ _ h.1 n, h.2.imp fun _ _ h => h.fr e hs⟩
theorem all2_3 {α : Type} {R : V → α → Prop} {x y z : V} {a b c : α} (h1 : R x a) (h2 : R y b) (h3 : R z c) : All2 R [x, y, z] [a, b, c] := (((All2.nil.snoc h1).snoc h2).snoc h3 : All2 R ([] ++ [x] ++ [y] ++ [z]) ([] ++ [a] ++ [b] ++ [c]))
def spValues (K : PySem.W.Frag) (l : Addr) : Sp := fun vs H Q _ => ∃ (s a : Addr) (xs : List V) (c : List Pc), vs = [.ref s, .ref a] ∧ Sto l s H ∧ a ≠ s ∧ a ≠ l ∧ Ct K H a xs c ∧ Cz 245 925 5 c ∧ 1 ≤ c.length ∧ c.length ≤ 1000 ∧
  ∀ D us qs H', Bun (Rq K) l s D H us qs H' → (∀ q ∈ qs, Sz 2350 q) → 0 < qs.length → qs.length ≤ 100 → Q (.ref D) H'
end Vk
namespace Vk
open PySem L2 Vm
variable {l : Addr} {P : Program} {w : World} {K : PySem.W.Frag} {mg : Str → Option Value} {base : Heap} {k : Nat} {f f1 f2 f3 f4 f5 f6 f7 f8 f9 f10 f11 f12 f13 f14 : Addr} {fd fd1 fd2 fd3 fd4 fd5 fd6 fd7 fd8 fd9 fd10 fd11 fd12 fd13 fd14 : FuncData}
theorem hu65 {k : Nat} {A : Around} (hr : Room k A) : A.units + 65 < cLine := by have := hr.un; omega
/-- a promise with something left open -/
def exS {α : Type} (sp : α → Sp) : Sp := fun vs H Q E => ∃ x, sp x vs H Q E
theorem Def.ex {α : Type} [Inhabited α] {x : Str} {ps : List Str} {sp : α → Sp} (h : ∀ a, Def P w K mg base k x ps (sp a) f fd) : Def P w K mg base k x ps (exS sp) f fd :=
  ⟨⟨fun vs H Q E ⟨a, z⟩ => (h a).ok.len vs H Q E z, fun A outer s H args us vs Q E hr he hb hv ⟨a, z⟩ => (h a).ok.run A outer s H args us vs Q E hr he hb hv z⟩, (h default).m, (h default).kp, (h default).b⟩
theorem ixN_last {n : Nat} (h : 0 < n) {i : Int} (e : i = (n : Int) - 1) : ixN n i = some (n - 1) := by
  subst e
  unfold ixN
  rw [if_pos (by omega), if_pos (by omega)]
  congr 1
  omega
/-! ### data -/
def dpc (p : Pc) : PyData := .tuple [dq p.s, dq p.v, dq p.r]
theorem Pq.dp {H : Hp} {v : V} {p : Pc} (h : Pq K H v p) : Dp K H v (dpc p) := by
  obtain ⟨a, xs, xv, xr, rfl, h, h1, h2, h3⟩ := h
  exact .tup h (.cons h1.dp (.cons h2.dp (.cons h3.dp .nil)))
theorem dpall_of {α : Type} {R : V → α → Prop} {d : α → PyData} {H : Hp} (g : ∀ v p, R v p → Dp K H v (d p)) : ∀ {xs : List V} {c : List α}, All2 R xs c → DpAll K H xs (c.map d)
  | [], [], _ => .nil
  | [], _ :: _, h => absurd h.1 (by simp)
  | _ :: _, [], h => absurd h.1 (by simp)
  | x :: xs, p :: c, h => .cons (g _ _ (h.2 0 x p rfl rfl)) (dpall_of g ⟨by have := h.1; simp at this; exact this, fun i x p a b => h.2 (i + 1) x p a b⟩)
theorem tree_dpc (n : Nat) (p : Pc) : Tree (n + 2) (dpc p) := .tup (by show 3 ≤ 1000; decide) fun d h => by
  simp only [List.mem_cons, List.mem_nil_iff, or_false] at h
  rcases h with rfl | rfl | rfl <;> exact tree_dq _ _
theorem depth_dqs : ∀ T : List Rat, PyData.depthAll (T.map dq) ≤ 2
  | [] => by simp [PyData.depthAll]
  | t :: T => by
    have := depth_dqs T
    simp only [List.map_cons, PyData.depthAll]
    have : (dq t).depth ≤ 2 := by show PyData.depth (.tuple [.int t.num, .int (t.den : Int)]) ≤ 2; simp [PyData.depth, PyData.depthAll]
    omega
theorem lay_dqs : ∀ T : List Rat, PyData.canLayAll0 (T.map dq) = true
  | [] => rfl
  | t :: T => by
    have := lay_dqs T
    show (PyData.canLay0 (dq t) && PyData.canLayAll0 (T.map dq)) = true
    rw [this]
    rfl
theorem sh_dqs (T : List Rat) : SeqAt.shaped (.list (T.map dq)) = true := by
  have h1 := depth_dqs T
  have h2 := lay_dqs T
  show (PyData.canLay0 (.list (T.map dq)) && decide (PyData.depth (.list (T.map dq)) ≤ 64)) = true
  have h3 : PyData.canLay0 (.list (T.map dq)) = true := h2
  have h4 : PyData.depth (.list (T.map dq)) ≤ 64 := by simp only [PyData.depth]; omega
  rw [h3, decide_eq_true h4]
  rfl
/-! ### the course whose last piece is set -/
theorem hits_set {c : List Pc} (ok : Cok c) (hn : 0 < c.length) {q : Rat} {p : Pc} (hp : c[c.length - 1]? = some p) (hv : p.v = q) : (hits c q c.length).countP (fun t => decide (t = p.s)) = 1 := by
  have r := ok.1 p (List.mem_of_getElem? hp)
  have et : tm p q = p.s := by
    unfold tm
    rw [hv, show q - q = 0 from Rat.sub_self, Rat.div_def, Rat.zero_mul]
    grind
  have eh : hit c q (c.length - 1) = some p.s := by
    unfold hit before
    rw [hp, List.getElem?_eq_none (show c.length ≤ c.length - 1 + 1 by omega)]
    simp only [et, and_true]
    rw [if_pos Rat.le_refl]
  have e1 : c.length = c.length - 1 + 1 := by omega
  have e2 : hits c q c.length = hits c q (c.length - 1) ++ [p.s] := by
    conv => lhs; rw [e1]
    rw [hits_succ, eh]
    rfl
  have z : ∀ t ∈ hits c q (c.length - 1), t < p.s := fun t ht => by
    obtain ⟨j, hj, e⟩ := hits_mem ht
    obtain ⟨p1, g1, _, _, g2⟩ := hit_some e
    have hj1 : j + 1 < c.length := by omega
    have e3 : c[j + 1]? = some c[j + 1] := List.getElem?_eq_getElem hj1
    have g3 := before_lt g2 e3
    by_cases g : j + 1 = c.length - 1
    · rw [← g] at hp
      rw [e3] at hp
      have := Option.some.inj hp
      rw [this] at g3
      exact g3
    · have := cok_lt ok (show j + 1 < c.length - 1 by omega) e3 hp
      grind
  rw [e2, List.countP_append, List.countP_eq_zero.mpr fun t ht => by
    have := z t ht
    have : ¬ t = p.s := by grind
    simp [this]]
  simp
theorem all2_set {α : Type} {R : V → α → Prop} {xs : List V} {c : List α} {x : V} {p : α} (h : All2 R xs c) (n : Nat) (r : R x p) : All2 R (xs.set n x) (c.set n p) := by
  refine ⟨by rw [List.length_set, List.length_set, h.1], fun i y q a b => ?_⟩
  by_cases e : n = i
  · subst e
    rw [List.getElem?_set] at a b
    simp only [if_true] at a b
    split at a
    · split at b
      · cases a
        cases b
        exact r
      · cases b
    · cases a
  · rw [List.getElem?_set_ne e] at a b
    exact h.2 i y q a b
theorem cok_set {c : List Pc} (ok : Cok c) {n : Nat} {p p' : Pc} (hp : c[n]? = some p) (hs : p'.s = p.s) (hr : p'.r = p.r) : Cok (c.set n p') := by
  have key : ∀ (i : Nat) (x : Pc), (c.set n p')[i]? = some x → ∃ y, c[i]? = some y ∧ x.s = y.s ∧ x.r = y.r := fun i x h => by
    by_cases e : n = i
    · subst e
      rw [List.getElem?_set] at h
      simp only [if_true] at h
      split at h
      · cases h
        exact ⟨p, hp, hs, hr⟩
      · cases h
    · rw [List.getElem?_set_ne e] at h
      exact ⟨x, h, rfl, rfl⟩
  refine ⟨fun x hx => ?_, fun i x y hx hy => ?_⟩
  · obtain ⟨i, hi, rfl⟩ := List.mem_iff_getElem.mp hx
    obtain ⟨y, e1, _, e2⟩ := key i _ (List.getElem?_eq_getElem hi)
    rw [e2]
    exact ok.1 y (List.mem_of_getElem? e1)
  · obtain ⟨x1, a1, b1, _⟩ := key i x hx
    obtain ⟨y1, a2, b2, _⟩ := key (i + 1) y hy
    rw [b1, b2]
    exact ok.2 i x1 y1 a1 a2
theorem cz_set {c : List Pc} {i j j' m : Nat} (cz : Cz i j m c) (hj : j ≤ j') {n : Nat} {p' : Pc} (h : Sz i p'.s ∧ Sz j' p'.v ∧ Sz m p'.r) : Cz i j' m (c.set n p') := fun x hx => by
  rcases List.mem_or_eq_of_mem_set hx with hx | rfl
  · obtain ⟨z1, z2, z3⟩ := cz x hx
    exact ⟨z1, z2.mono hj, z3⟩
  · exact h
/-! ### what stands while the law goes on -/
structure St0 (K : PySem.W.Frag) (l s D1 D2 D3 : Addr) (us1 us2 : List V) (c1 c2 : List Pc) (G : Hp) : Prop where
  st : Sto l s G
  a1 : Ct K G D1 us1 c1
  a2 : Ct K G D2 us2 c2
  a3 : Ct K G D3 us1 c1
  n1 : D1 ≠ s
  n2 : D2 ≠ s
  n3 : D3 ≠ s
  m3 : D3 ≠ l
  n31 : D3 ≠ D1
  n32 : D3 ≠ D2
theorem St0.same {s D1 D2 D3 : Addr} {us1 us2 : List V} {c1 c2 : List Pc} {G G' : Hp} (h : St0 K l s D1 D2 D3 us1 us2 c1 c2 G) (e : Same G G') : St0 K l s D1 D2 D3 us1 us2 c1 c2 G' :=
  { h with st := h.st.same e, a1 := h.a1.same e, a2 := h.a2.same e, a3 := h.a3.same e }
theorem St0.fr {s D1 D2 D3 : Addr} {us1 us2 : List V} {c1 c2 : List Pc} {G G' : Hp} (h : St0 K l s D1 D2 D3 us1 us2 c1 c2 G) (e : Fr s G G') (S : Sto l s G') : St0 K l s D1 D2 D3 us1 us2 c1 c2 G' :=
  { h with st := S, a1 := h.a1.fr e h.st.some h.n1, a2 := h.a2.fr e h.st.some h.n2, a3 := h.a3.fr e h.st.some h.n3 }
theorem St0.app {s D1 D2 D3 D : Addr} {us1 us2 ys zs : List V} {c1 c2 : List Pc} {G : Hp} (h : St0 K l s D1 D2 D3 us1 us2 c1 c2 G) (hD : G D = some (.lst ys)) (ns : D ≠ s) (nl : D ≠ l) (k1 : D1 ≠ D) (k2 : D2 ≠ D) (k3 : D3 ≠ D) : St0 K l s D1 D2 D3 us1 us2 c1 c2 (upd G D (.lst zs)) :=
  { h with st := h.st.upd ns nl, a1 := h.a1.fr (Fr.upd _) ⟨_, hD⟩ k1, a2 := h.a2.fr (Fr.upd _) ⟨_, hD⟩ k2, a3 := h.a3.fr (Fr.upd _) ⟨_, hD⟩ k3 }
/-- a list of rationals -/
def Lq (K : PySem.W.Frag) (G : Hp) (D : Addr) (us : List V) (qs : List Rat) : Prop := G D = some (.lst us) ∧ All2 (Rq K G) us qs
theorem Lq.same {G G' : Hp} {D : Addr} {us : List V} {qs : List Rat} (h : Lq K G D us qs) (e : Same G G') : Lq K G' D us qs := ⟨e _ _ h.1, h.2.imp fun _ _ h => h.same e⟩
theorem Lq.fr {s : Addr} {G G' : Hp} {D : Addr} {us : List V} {qs : List Rat} (h : Lq K G D us qs) (e : Fr s G G') (hs : ∃ ys, G s = some (.lst ys)) (n : D ≠ s) : Lq K G' D us qs := ⟨e _ _ h.1 n, h.2.imp fun _ _ h => h.fr e hs⟩
theorem ne_at {G : Hp} {a b : Addr} {o : HO} (h : G a = some o) (n : G b = none) : a ≠ b := fun e => by rw [e, n] at h; cases h
end Vk


namespace Vk
open PySem L2 Vm
/-! ### lines, what stays of a course, jumps -/
def ky (p : Pc) : Rat × Rat := (p.r, p.v - p.r * p.s)
def jmp (k : Rat × Rat) (q : Pc) : Rat := q.v - (k.2 + k.1 * q.s)
def vl (t : Rat) (p : Pc) : Rat := p.v + p.r * (t - p.s)
theorem ky_eq {p q : Pc} : ky q = ky p ↔ q.r = p.r ∧ jmp (ky p) q = 0 := by
  unfold jmp ky
  constructor
  · intro h
    have h1 := congrArg Prod.fst h
    have h2 := congrArg Prod.snd h
    dsimp only at h1 h2 ⊢
    exact ⟨h1, by rw [h1] at h2; grind⟩
  · rintro ⟨h1, h2⟩
    dsimp only at h2
    rw [h1]
    congr 1
    grind
theorem jmp_at (p q : Pc) : q.v - (p.v + p.r * (q.s - p.s)) = jmp (ky p) q := by
  unfold jmp ky
  dsimp only
  grind
theorem vl_ky {p q : Pc} (h : ky q = ky p) (t : Rat) : vl t q = vl t p := by
  have h1 := congrArg Prod.fst h
  have h2 := congrArg Prod.snd h
  unfold ky at h1 h2
  dsimp only at h1 h2
  unfold vl
  grind
def tlG : Rat × Rat → List Pc → List Pc
  | _, [] => []
  | k, q :: c => if ky q = k then tlG k c else q :: tlG (ky q) c
def tl : List Pc → List Pc
  | [] => []
  | p :: c => p :: tlG (ky p) c
def jlG : Rat × Rat → List Pc → List (Rat × Rat)
  | _, [] => []
  | k, q :: c => if jmp k q = 0 then jlG (ky q) c else (q.s, jmp k q) :: jlG (ky q) c
def jl : List Pc → List (Rat × Rat)
  | [] => []
  | p :: c => jlG (ky p) c
theorem jmp0 {k : Rat × Rat} {q : Pc} (h : ky q = k) : jmp k q = 0 := by
  subst h
  unfold jmp ky
  dsimp only
  grind
theorem tlG_snoc (p q : Pc) : ∀ (c : List Pc) (k : Rat × Rat), tlG k (c ++ [p, q]) = tlG k (c ++ [p]) ++ if ky q = ky p then [] else [q]
  | [], k => by
    show tlG k [p, q] = tlG k [p] ++ _
    unfold tlG
    by_cases h : ky p = k
    · rw [if_pos h, if_pos h]
      unfold tlG
      rw [← h]
      by_cases g : ky q = ky p
      · rw [if_pos g, if_pos g]; rfl
      · rw [if_neg g, if_neg g]; rfl
    · rw [if_neg h, if_neg h]
      unfold tlG
      by_cases g : ky q = ky p
      · rw [if_pos g, if_pos g]; rfl
      · rw [if_neg g, if_neg g]; rfl
  | x :: c, k => by
    show tlG k (x :: (c ++ [p, q])) = tlG k (x :: (c ++ [p])) ++ _
    unfold tlG
    by_cases h : ky x = k
    · rw [if_pos h, if_pos h, tlG_snoc p q c k]
    · rw [if_neg h, if_neg h, tlG_snoc p q c (ky x)]
      rfl
theorem jlG_snoc (p q : Pc) : ∀ (c : List Pc) (k : Rat × Rat), jlG k (c ++ [p, q]) = jlG k (c ++ [p]) ++ if jmp (ky p) q = 0 then [] else [(q.s, jmp (ky p) q)]
  | [], k => by
    show jlG k [p, q] = jlG k [p] ++ _
    unfold jlG
    by_cases h : jmp k p = 0
    · rw [if_pos h, if_pos h]
      unfold jlG
      by_cases g : jmp (ky p) q = 0
      · rw [if_pos g, if_pos g]; rfl
      · rw [if_neg g, if_neg g]; rfl
    · rw [if_neg h, if_neg h]
      unfold jlG
      by_cases g : jmp (ky p) q = 0
      · rw [if_pos g, if_pos g]; rfl
      · rw [if_neg g, if_neg g]; rfl
  | x :: c, k => by
    show jlG k (x :: (c ++ [p, q])) = jlG k (x :: (c ++ [p])) ++ _
    unfold jlG
    by_cases h : jmp k x = 0
    · rw [if_pos h, if_pos h, jlG_snoc p q c (ky x)]
    · rw [if_neg h, if_neg h, jlG_snoc p q c (ky x)]
      rfl
theorem take_two {c : List Pc} {i : Nat} {p q : Pc} (e1 : c[i]? = some p) (e2 : c[i + 1]? = some q) : c.take (i + 1) = c.take i ++ [p] ∧ c.take (i + 2) = c.take i ++ [p, q] := by
  have h1 : c.take (i + 1) = c.take i ++ [p] := by rw [List.take_add_one, e1]; rfl
  refine ⟨h1, ?_⟩
  rw [List.take_add_one, h1, e2, List.append_assoc]
  rfl
theorem tl_next {c : List Pc} {i : Nat} {p q : Pc} (e1 : c[i]? = some p) (e2 : c[i + 1]? = some q) : tl (c.take (i + 2)) = tl (c.take (i + 1)) ++ if ky q = ky p then [] else [q] := by
  obtain ⟨h1, h2⟩ := take_two e1 e2
  rw [h1, h2]
  cases h : c.take i with
  | nil =>
    show p :: tlG (ky p) [q] = _
    unfold tlG
    by_cases g : ky q = ky p
    · rw [if_pos g, if_pos g]; rfl
    · rw [if_neg g, if_neg g]; rfl
  | cons x d =>
    show x :: tlG (ky x) (d ++ [p, q]) = x :: tlG (ky x) (d ++ [p]) ++ _
    rw [tlG_snoc]
    rfl
theorem jl_next {c : List Pc} {i : Nat} {p q : Pc} (e1 : c[i]? = some p) (e2 : c[i + 1]? = some q) : jl (c.take (i + 2)) = jl (c.take (i + 1)) ++ if jmp (ky p) q = 0 then [] else [(q.s, jmp (ky p) q)] := by
  obtain ⟨h1, h2⟩ := take_two e1 e2
  rw [h1, h2]
  cases h : c.take i with
  | nil =>
    show jlG (ky p) [q] = _
    unfold jlG
    by_cases g : jmp (ky p) q = 0
    · rw [if_pos g, if_pos g]; rfl
    · rw [if_neg g, if_neg g]; rfl
  | cons x d =>
    show jlG (ky x) (d ++ [p, q]) = jlG (ky x) (d ++ [p]) ++ _
    rw [jlG_snoc]
theorem tlG_tlG : ∀ (c : List Pc) (k : Rat × Rat), tlG k (tlG k c) = tlG k c
  | [], k => rfl
  | q :: c, k => by
    by_cases h : ky q = k
    · have e1 : tlG k (q :: c) = tlG k c := by rw [tlG, if_pos h]
      rw [e1, tlG_tlG c k]
    · have e1 : ∀ d, tlG k (q :: d) = q :: tlG (ky q) d := fun d => by rw [tlG, if_neg h]
      rw [e1, e1, tlG_tlG c (ky q)]
theorem tl_tl (c : List Pc) : tl (tl c) = tl c := by
  cases c with
  | nil => rfl
  | cons p c =>
    show p :: tlG (ky p) (tlG (ky p) c) = _
    rw [tlG_tlG]
    rfl
theorem jlG_tlG : ∀ (c : List Pc) (k : Rat × Rat), jlG k (tlG k c) = jlG k c
  | [], k => rfl
  | q :: c, k => by
    by_cases h : ky q = k
    · have e1 : tlG k (q :: c) = tlG k c := by rw [tlG, if_pos h]
      have e2 : jlG k (q :: c) = jlG (ky q) c := by rw [jlG, if_pos (jmp0 h)]
      rw [e1, e2, h, jlG_tlG c k]
    · have e1 : tlG k (q :: c) = q :: tlG (ky q) c := by rw [tlG, if_neg h]
      rw [e1, jlG, jlG, jlG_tlG c (ky q)]
theorem jl_tl (c : List Pc) : jl (tl c) = jl c := by
  cases c with
  | nil => rfl
  | cons p c => exact jlG_tlG c (ky p)
theorem tlG_mem : ∀ (c : List Pc) (k : Rat × Rat), (tlG k c).Sublist c
  | [], k => List.Sublist.slnil
  | q :: c, k => by
    rw [tlG]
    split
    · exact (tlG_mem c k).cons q
    · exact (tlG_mem c (ky q)).cons₂ q
theorem tl_sub (c : List Pc) : (tl c).Sublist c := by
  cases c with
  | nil => exact List.Sublist.slnil
  | cons p c => exact (tlG_mem c (ky p)).cons₂ p
theorem tl_pos {c : List Pc} (h : 0 < c.length) : 0 < (tl c).length := by
  cases c with
  | nil => exact absurd h (by simp)
  | cons p c => exact Nat.succ_pos _
/-! ### ascending -/
def AscP (c : List Pc) : Prop := c.Pairwise fun p q => p.s < q.s
theorem ascP_of {c : List Pc} (ok : Cok c) : AscP c := by
  unfold AscP
  rw [List.pairwise_iff_getElem]
  intro i j hi hj hij
  exact cok_lt ok hij (List.getElem?_eq_getElem hi) (List.getElem?_eq_getElem hj)
theorem cok_of {c : List Pc} (a : AscP c) (r : ∀ p ∈ c, 0 < p.r) : Cok c := by
  refine ⟨r, fun i p q e1 e2 => ?_⟩
  have h1 := List.getElem?_eq_some_iff.mp e1
  have h2 := List.getElem?_eq_some_iff.mp e2
  have := (List.pairwise_iff_getElem.mp a) i (i + 1) h1.1 h2.1 (by omega)
  rw [h1.2, h2.2] at this
  exact this
theorem cok_tl {c : List Pc} (ok : Cok c) : Cok (tl c) := cok_of ((ascP_of ok).sublist (tl_sub c)) fun p hp => ok.1 p ((tl_sub c).subset hp)
theorem cz_tl {i j m : Nat} {c : List Pc} (z : Cz i j m c) : Cz i j m (tl c) := fun p hp => z p ((tl_sub c).subset hp)
/-! ### what is shown -/
def nG (t : Rat) : Option Rat → List Pc → Option Rat
  | d, [] => d
  | d, q :: c => nG t (if on t q = true then some (vl t q) else d) c
theorem nG_now (t : Rat) : ∀ (c : List Pc) (d : Option Rat), nG t d c = (((c.filter (on t)).getLast?).map (vl t)).or d
  | [], d => rfl
  | q :: c, d => by
    show nG t _ c = _
    rw [nG_now t c, List.filter_cons]
    by_cases h : on t q = true
    · rw [if_pos h, if_pos h, List.getLast?_cons]
      cases (c.filter (on t)).getLast? <;> rfl
    · rw [if_neg h, if_neg h]
theorem now_nG (c : List Pc) (t : Rat) : nowf c t = nG t none c := by
  rw [nG_now, Option.or_none]
  rfl
theorem on_le {t : Rat} {p q : Pc} (h : on t q = true) (l : p.s < q.s) : on t p = true := by
  unfold on at h ⊢
  have : ¬ t < q.s := by simpa using h
  have : ¬ t < p.s := by grind
  simpa using this
theorem nG_tlG (t : Rat) : ∀ (c : List Pc) (p : Pc) (d : Option Rat), AscP (p :: c) → (∀ q ∈ c, on t q = true → d = some (vl t p)) → nG t d (tlG (ky p) c) = nG t d c
  | [], p, d, _, _ => rfl
  | q :: c, p, d, a, h => by
    have a1 : AscP (q :: c) := (List.pairwise_cons.mp a).2
    have a2 : AscP (p :: c) := a.sublist ((List.sublist_cons_self q c).cons₂ p)
    by_cases g : ky q = ky p
    · rw [tlG, if_pos g]
      have e : (if on t q = true then some (vl t q) else d) = d := by
        split
        · rename_i o
          rw [h q (List.mem_cons_self ..) o, vl_ky g]
        · rfl
      show _ = nG t (if on t q = true then some (vl t q) else d) c
      rw [e]
      exact nG_tlG t c p d a2 fun x hx => h x (List.mem_cons_of_mem _ hx)
    · rw [tlG, if_neg g]
      show nG t (if on t q = true then some (vl t q) else d) (tlG (ky q) c) = nG t (if on t q = true then some (vl t q) else d) c
      refine nG_tlG t c q _ a1 fun x hx o => ?_
      rw [if_pos (on_le o ((List.pairwise_cons.mp a1).1 x hx))]
theorem now_tl {c : List Pc} (ok : Cok c) (t : Rat) : nowf (tl c) t = nowf c t := by
  rw [now_nG, now_nG]
  cases c with
  | nil => rfl
  | cons p c =>
    show nG t (if on t p = true then some (vl t p) else none) (tlG (ky p) c) = nG t (if on t p = true then some (vl t p) else none) c
    refine nG_tlG t c p _ (ascP_of ok) fun x hx o => ?_
    rw [if_pos (on_le o ((List.pairwise_cons.mp (ascP_of ok)).1 x hx))]
theorem now_at {c : List Pc} (ok : Cok c) {t : Rat} {k : Nat} {p : Pc} (e : c[k]? = some p) (h1 : ¬ t < p.s) (h2 : ∀ q, c[k + 1]? = some q → t < q.s) : nowf c t = some (vl t p) := by
  have hk := (List.getElem?_eq_some_iff.mp e).1
  have ef : c.filter (on t) = c.take (k + 1) := filter_take _ fun i x hx => by
    unfold on
    constructor
    · intro z
      refine Nat.lt_of_not_le fun g => ?_
      have hk1 : k + 1 < c.length := by have := (List.getElem?_eq_some_iff.mp hx).1; omega
      have e3 : c[k + 1]? = some c[k + 1] := List.getElem?_eq_getElem hk1
      have h4 := h2 _ e3
      have : c[k + 1].s ≤ x.s := by
        by_cases g5 : k + 1 = i
        · subst g5
          rw [e3] at hx
          cases hx
          exact Rat.le_refl
        · have := cok_lt ok (show k + 1 < i by omega) e3 hx
          grind
      have : t < x.s := by grind
      simp [this] at z
    · intro z
      have : x.s ≤ p.s := by
        by_cases g5 : i = k
        · subst g5
          rw [e] at hx
          cases hx
          exact Rat.le_refl
        · have := cok_lt ok (show i < k by omega) hx e
          grind
      have : ¬ t < x.s := by grind
      simp [this]
  unfold nowf
  rw [ef, List.getLast?_eq_getElem?, List.length_take, List.getElem?_take]
  have e1 : min (k + 1) c.length - 1 = k := by omega
  rw [e1, if_pos (by omega), e]
  rfl
/-! ### pieces that continue -/
def goes (c : List Pc) (i : Nat) : Bool := match i with
  | 0 => false
  | j + 1 => match c[j]?, c[j + 1]? with
    | some p, some q => decide (ky q = ky p)
    | _, _ => false
theorem goes_succ (c : List Pc) (j : Nat) : goes c (j + 1) = match c[j]?, c[j + 1]? with
    | some p, some q => decide (ky q = ky p)
    | _, _ => false := rfl
theorem goes_at {c : List Pc} {j : Nat} {p q : Pc} (e1 : c[j]? = some p) (e2 : c[j + 1]? = some q) : goes c (j + 1) = decide (ky q = ky p) := by
  rw [goes_succ, e1, e2]
def gl (c : List Pc) (n : Nat) : List Nat := (List.range n).filter (goes c)
theorem gl_succ (c : List Pc) (n : Nat) : gl c (n + 1) = gl c n ++ if goes c n = true then [n] else [] := by
  unfold gl
  rw [List.range_succ, List.filter_append]
  congr 1
  by_cases h : goes c n = true <;> simp [h]
def Nc : Rat × Rat → List Pc → Prop
  | _, [] => True
  | k, q :: c => ky q ≠ k ∧ Nc (ky q) c
theorem nc_tlG : ∀ (c : List Pc) (k : Rat × Rat), Nc k (tlG k c)
  | [], k => trivial
  | q :: c, k => by
    rw [tlG]
    split
    · exact nc_tlG c k
    · rename_i h
      exact ⟨h, nc_tlG c (ky q)⟩
theorem nc_at : ∀ (c : List Pc) (p : Pc), Nc (ky p) c → ∀ i x y, (p :: c)[i]? = some x → (p :: c)[i + 1]? = some y → ky y ≠ ky x
  | [], p, _, i, x, y, _, e2 => by simp at e2
  | q :: c, p, h, 0, x, y, e1, e2 => by
    simp at e1 e2
    subst e1 e2
    exact h.1
  | q :: c, p, h, i + 1, x, y, e1, e2 => nc_at c q h.2 i x y (by simpa using e1) (by simpa using e2)
theorem goes_tl (c : List Pc) (i : Nat) : goes (tl c) i = false := by
  cases i with
  | zero => rfl
  | succ j =>
    rw [goes_succ]
    cases e1 : (tl c)[j]? with
    | none => rfl
    | some x =>
      cases e2 : (tl c)[j + 1]? with
      | none => rfl
      | some y =>
        cases c with
        | nil => simp [tl] at e1
        | cons p c => exact dF (nc_at _ p (nc_tlG c (ky p)) j x y e1 e2)
theorem gl_tl (c : List Pc) (n : Nat) : gl (tl c) n = [] := by
  unfold gl
  rw [List.filter_eq_nil_iff]
  intro i _
  rw [goes_tl]
  exact Bool.false_ne_true
/-! ### a piece more that continues -/
theorem tlG_ins {p x : Pc} (h : ky x = ky p) : ∀ (a b : List Pc) (k : Rat × Rat), tlG k (a ++ p :: x :: b) = tlG k (a ++ p :: b)
  | [], b, k => by
    show tlG k (p :: x :: b) = tlG k (p :: b)
    by_cases g : ky p = k
    · rw [tlG, if_pos g, tlG, if_pos (h.trans g), tlG, if_pos g]
    · rw [tlG, if_neg g, tlG, if_pos h, tlG, if_neg g]
  | y :: a, b, k => by
    show tlG k (y :: (a ++ p :: x :: b)) = tlG k (y :: (a ++ p :: b))
    by_cases g : ky y = k
    · rw [tlG, if_pos g, tlG, if_pos g, tlG_ins h a b k]
    · rw [tlG, if_neg g, tlG, if_neg g, tlG_ins h a b (ky y)]
theorem tl_ins {p x : Pc} (h : ky x = ky p) (a b : List Pc) : tl (a ++ p :: x :: b) = tl (a ++ p :: b) := by
  cases a with
  | nil =>
    show p :: tlG (ky p) (x :: b) = p :: tlG (ky p) b
    rw [tlG, if_pos h]
  | cons y a =>
    show y :: tlG (ky y) (a ++ p :: x :: b) = y :: tlG (ky y) (a ++ p :: b)
    rw [tlG_ins h]
theorem jlG_ins {p x : Pc} (h : ky x = ky p) : ∀ (a b : List Pc) (k : Rat × Rat), jlG k (a ++ p :: x :: b) = jlG k (a ++ p :: b)
  | [], b, k => by
    show jlG k (p :: x :: b) = jlG k (p :: b)
    rw [jlG, jlG, if_pos (jmp0 h), h, jlG]
  | y :: a, b, k => by
    show jlG k (y :: (a ++ p :: x :: b)) = jlG k (y :: (a ++ p :: b))
    rw [jlG, jlG, jlG_ins h a b (ky y)]
theorem jl_ins {p x : Pc} (h : ky x = ky p) (a b : List Pc) : jl (a ++ p :: x :: b) = jl (a ++ p :: b) := by
  cases a with
  | nil =>
    show jlG (ky p) (x :: b) = jlG (ky p) b
    rw [jlG, if_pos (jmp0 h), h]
  | cons y a =>
    show jlG (ky y) (a ++ p :: x :: b) = jlG (ky y) (a ++ p :: b)
    rw [jlG_ins h]
end Vk

namespace Vk
open PySem L2 Vm
variable {l az : Addr} {P : Program} {w : World} {K : PySem.W.Frag} {mg : Str → Option Value} {base : Heap} {k : Nat} {f f1 f2 f3 f4 f5 f6 f7 f8 f9 : Addr} {fd fd1 fd2 fd3 fd4 fd5 fd6 fd7 fd8 fd9 : FuncData}
/-! ### the program's side -/
structure Zr (K : PySem.W.Frag) (mg : Str → Option Value) (az : Addr) : Prop where
  m : mg "ZERO" = some (.ref az)
  q : ∀ H, Rq K H (.ref az) 0
abbrev s_multiply : Stmt := top 9
abbrev N_multiply : List Str := ["a", "b"]
theorem sc_multiply : FnScope N_multiply ["a", "b"] (defScope s_multiply) := ⟨rfl, rfl, rfl, by decide +kernel, rfl, by decide +kernel, by decide +kernel⟩
abbrev ps_multiply : List Str := ["a", "b"]
theorem ok_multiply (F : Fn K mg "multiply" s_multiply ps_multiply f fd) (drational : Def P w K mg base k "rational" ["n", "d"] (spFrac K) f1 fd1) : Def P w K mg base (k + 1) "multiply" ps_multiply (spOp2 K (· * ·)) f fd := by
  refine ⟨F.F.ok sc_multiply (fun vs H Q E h => ?_) (fun cdv A outer s H vs Q E hr h => ?_), F.m, F.F.kp, F.b⟩
  · obtain ⟨x, y, p, q, m, l, rfl, _⟩ := h
    rfl
  obtain ⟨x, y, p, q, m, l, rfl, ⟨a, rfl, ha⟩, ⟨b, rfl, hb⟩, zp, zq, hm, z⟩ := h
  have m0 := nn zp
  have l0 := nn zq
  refine ⟨_, (pss_one (ps_ret (pcall drational hr (pa_cons (pe_op op_mulW (pe_ix ix_tup (pv 0) pe_int (fun _ _ => rfl)) (pe_ix ix_tup (pv 1) pe_int (fun _ _ => rfl))) (pa_cons (pe_op op_mulW (pe_ix ix_tup (pv 0) pe_int (fun _ _ => rfl)) (pe_ix ix_tup (pv 1) pe_int (fun _ _ => rfl))) pa_nil))))), ?_⟩
  refine ⟨_, rfl, a, _, _, _, rfl, rfl, ha, at0 rfl, _, rfl, b, _, _, _, rfl, rfl, hb, at0 rfl, _, _, rfl, rfl, mulW zp.1 zq.1 m0 l0 (by omega), ?_⟩
  refine ⟨_, rfl, a, _, _, _, rfl, rfl, ha, at1 rfl, _, rfl, b, _, _, _, rfl, rfl, hb, at1 rfl, _, _, rfl, rfl, mulW (dA zp) (dA zq) m0 l0 (by omega), ?_⟩
  refine ⟨_, _, m + l, rfl, dd_pos p q, ab_mul zp.1 zq.1, ab_mul (dA zp) (dA zq), by omega, fun r H' e hr => z r H' e ?_⟩
  rw [mk_mul] at hr
  exact hr
abbrev s__shown_by : Stmt := top 12
abbrev N__shown_by : List Str := ["piece", "t", "start", "shown", "rate"]
theorem sc__shown_by : FnScope N__shown_by ["piece", "t"] (defScope s__shown_by) := ⟨rfl, rfl, rfl, by decide +kernel, rfl, by decide +kernel, by decide +kernel⟩
abbrev ps__shown_by : List Str := ["piece", "t"]
def spShown (K : PySem.W.Frag) : Sp := fun vs H Q _ => ∃ (x y : V) (p : Pc) (t : Rat) (i j l m : Nat), vs = [x, y] ∧ Pq K H x p ∧ Rq K H y t ∧ Sz i p.s ∧ Sz j p.v ∧ Sz l p.r ∧ Sz m t ∧ j + l + m + i + 3 ≤ 9000 ∧
  ∀ r H', Same H H' → Rq K H' r (p.v + p.r * (t - p.s)) → Q r H'
theorem ok_shown_by (F : Fn K mg "_shown_by" s__shown_by ps__shown_by f fd) (dadd : Def P w K mg base k "add" ["a", "b"] (spOp2 K (· + ·)) f1 fd1) (dmultiply : Def P w K mg base k "multiply" ["a", "b"] (spOp2 K (· * ·)) f2 fd2) (dsubtract : Def P w K mg base k "subtract" ["a", "b"] (spOp2 K (· - ·)) f3 fd3) :
    Def P w K mg base (k + 1) "_shown_by" ps__shown_by (spShown K) f fd := by
  refine ⟨F.F.ok sc__shown_by (fun vs H Q E h => ?_) (fun cdv A outer s H vs Q E hr h => ?_), F.m, F.F.kp, F.b⟩
  · obtain ⟨x, y, p, q, i, j, l, m, rfl, _⟩ := h
    rfl
  obtain ⟨x, y, p, t, i, j, l, m, rfl, ⟨a, xs, xv, xr, rfl, ha, hs, hv, hr'⟩, hy, zs, zv, zr, zt, hb, z⟩ := h
  refine ⟨_, (pss_cons (ps_asg (pv 0) (pg_tup rfl (pgs_cons (pg_name (i := 2) sc__shown_by.nd rfl (Or.inl rfl)) (pgs_cons (pg_name (i := 3) sc__shown_by.nd rfl (Or.inl rfl)) (pgs_cons (pg_name (i := 4) sc__shown_by.nd rfl (Or.inl rfl)) pgs_nil)))))
      (pss_one (ps_ret (pcall dadd hr (pa_cons (pv 3) (pa_cons (pcall dmultiply hr (pa_cons (pv 4) (pa_cons (pcall dsubtract hr (pa_cons (pv 1) (pa_cons (pv 2) pa_nil))) pa_nil))) pa_nil)))))), ?_⟩
  refine ⟨_, rfl, a, _, rfl, ha, rfl, _, _, rfl, _, _, rfl, _, _, rfl, rfl, ?_⟩
  refine ⟨_, rfl, _, rfl, _, rfl, _, rfl, _, _, t, p.s, m, i, rfl, hy, hs, zt, zs, by omega, fun r1 H1 e1 h1 => ?_⟩
  refine ⟨_, _, p.r, t - p.s, l, m + i + 1, rfl, hr'.same e1, h1, zr, zt.sub zs, by omega, fun r2 H2 e2 h2 => ?_⟩
  exact ⟨_, _, p.v, p.r * (t - p.s), j, l + (m + i + 1), rfl, hv.same (e1.trans e2), h2, zv, zr.mul (zt.sub zs), by omega, fun r3 H3 e3 h3 => z _ _ (e1.trans (e2.trans e3)) h3⟩
abbrev s__jump_at : Stmt := top 13
abbrev N__jump_at : List Str := ["course", "at", "piece"]
theorem sc__jump_at : FnScope N__jump_at ["course", "at"] (defScope s__jump_at) := ⟨rfl, rfl, rfl, by decide +kernel, rfl, by decide +kernel, by decide +kernel⟩
abbrev ps__jump_at : List Str := ["course", "at"]
def spJumpAt (K : PySem.W.Frag) : Sp := fun vs H Q _ => ∃ (a : Addr) (n : Nat) (c : List Pc) (p q : Pc) (i j l : Nat), vs = [.ref a, .int ((n + 1 : Nat) : Int)] ∧ Cq K H a c ∧ c[n]? = some p ∧ c[n + 1]? = some q ∧ Cz i j l c ∧ j + j + l + i + i + 5 ≤ 9000 ∧
  ∀ r H', Same H H' → Rq K H' r (jmp (ky p) q) → Q r H'
theorem ok_jump_at (F : Fn K mg "_jump_at" s__jump_at ps__jump_at f fd) (dsubtract : Def P w K mg base k "subtract" ["a", "b"] (spOp2 K (· - ·)) f1 fd1) (d_shown_by : Def P w K mg base k "_shown_by" ["piece", "t"] (spShown K) f2 fd2) :
    Def P w K mg base (k + 1) "_jump_at" ps__jump_at (spJumpAt K) f fd := by
  refine ⟨F.F.ok sc__jump_at (fun vs H Q E h => ?_) (fun cdv A outer s H vs Q E hr h => ?_), F.m, F.F.kp, F.b⟩
  · obtain ⟨_, _, _, _, _, _, _, _, rfl, _⟩ := h
    rfl
  obtain ⟨a, n, c, p, q, i, j, l, rfl, ⟨xs, hx, hc⟩, e1, e2, cz, hb, z⟩ := h
  refine ⟨_, (pss_cons (ps_set (i := 2) sc__jump_at.nd rfl (Or.inl rfl) (pe_ix ix_list (pv 0) (pv 1) (fun _ _ => rfl)))
      (pss_one (ps_ret (pcall dsubtract hr (pa_cons (pe_ix ix_tup (pv 2) pe_int (fun _ _ => rfl)) (pa_cons (pcall d_shown_by hr (pa_cons (pe_ix ix_list (pv 0) (pe_op op_sub (pv 1) pe_int) (fun _ _ => rfl)) (pa_cons (pe_ix ix_tup (pv 2) pe_int (fun _ _ => rfl)) pa_nil))) pa_nil)))))), ?_⟩
  obtain ⟨zs1, zv1, zr1⟩ := cz p (List.mem_of_getElem? e1)
  obtain ⟨zs2, zv2, zr2⟩ := cz q (List.mem_of_getElem? e2)
  obtain ⟨x1, hx1, pp⟩ := hc.at e1
  obtain ⟨x2, hx2, pq⟩ := hc.at e2
  obtain ⟨b, bs, bv, br, rfl, hb2, r1, r2, r3⟩ := pq
  refine ⟨_, rfl, _, rfl, a, _, _, _, rfl, rfl, hx, at_of (j := n + 1) rfl hx2, ?_⟩
  refine ⟨_, rfl, b, _, _, _, rfl, rfl, hb2, at1 rfl, _, rfl, _, rfl, _, _, rfl, rfl, a, _, _, _, rfl, rfl, hx, at_of (j := n) (by omega) hx1, _, rfl, b, _, _, _, rfl, rfl, hb2, at0 rfl, ?_⟩
  refine ⟨_, _, p, q.s, i, j, l, i, rfl, pp, r1, zs1, zv1, zr1, zs2, by omega, fun w1 H1 s1 g1 => ?_⟩
  refine ⟨_, _, q.v, _, j, j + (l + (i + i + 1)) + 1, rfl, r2.same s1, g1, zv2, zv1.add (zr1.mul (zs2.sub zs1)), by omega, fun w2 H2 s2 g2 => z _ _ (s1.trans s2) ?_⟩
  rw [← jmp_at]
  exact g2
/-- a start and a jump -/
def Jq (K : PySem.W.Frag) (H : Hp) (x : V) (p : Rat × Rat) : Prop := ∃ a xs xj, x = .ref a ∧ SqT K H a [xs, xj] ∧ Rq K H xs p.1 ∧ Rq K H xj p.2
theorem Jq.same {H H' : Hp} {x : V} {p : Rat × Rat} (e : Same H H') (h : Jq K H x p) : Jq K H' x p := by
  obtain ⟨a, xs, xj, rfl, h, h1, h2⟩ := h
  exact ⟨a, xs, xj, rfl, e.sqt h, h1.same e, h2.same e⟩
theorem Jq.fr {s : Addr} {H H' : Hp} {x : V} {p : Rat × Rat} (e : Fr s H H') (hs : ∃ ys, H s = some (.lst ys)) (h : Jq K H x p) : Jq K H' x p := by
  obtain ⟨a, xs, xj, rfl, h, h1, h2⟩ := h
  exact ⟨a, xs, xj, rfl, sqt_fr e hs h, h1.fr e hs, h2.fr e hs⟩
def djp (p : Rat × Rat) : PyData := .tuple [dq p.1, dq p.2]
theorem Jq.dp {H : Hp} {v : V} {p : Rat × Rat} (h : Jq K H v p) : Dp K H v (djp p) := by
  obtain ⟨a, xs, xj, rfl, h, h1, h2⟩ := h
  exact .tup h (.cons h1.dp (.cons h2.dp .nil))
theorem jl_len (c : List Pc) : (jl c).length ≤ c.length := by
  have g : ∀ (c : List Pc) k, (jlG k c).length ≤ c.length := fun c => by
    induction c with
    | nil => exact fun _ => Nat.le_refl _
    | cons q c ih =>
      intro k
      have := ih (ky q)
      rw [jlG]
      split
      · rw [List.length_cons]; omega
      · rw [List.length_cons, List.length_cons]; omega
  cases c with
  | nil => exact Nat.le_refl _
  | cons p c =>
    have := g c (ky p)
    show (jlG (ky p) c).length ≤ _
    rw [List.length_cons]
    omega
abbrev s_jumps : Stmt := top 14
abbrev N_jumps : List Str := ["course", "found", "at", "jump"]
theorem sc_jumps : FnScope N_jumps ["course"] (defScope s_jumps) := ⟨rfl, rfl, rfl, by decide +kernel, rfl, by decide +kernel, by decide +kernel⟩
abbrev ps_jumps : List Str := ["course"]
def spJumps (K : PySem.W.Frag) : Sp := fun vs H Q _ => ∃ (a : Addr) (c : List Pc) (i j l : Nat), vs = [.ref a] ∧ Cq K H a c ∧ Cz i j l c ∧ 1 ≤ c.length ∧ c.length ≤ 900 ∧ j + j + l + i + i + 5 ≤ 9000 ∧
  ∀ D us H', Same H H' → H D = none → H' D = some (.lst us) → All2 (Jq K H') us (jl c) → Q (.ref D) H'
theorem ok_jumps (T : Bn mg) (Z : Zr K mg az) (F : Fn K mg "jumps" s_jumps ps_jumps f fd) (d_jump_at : Def P w K mg base k "_jump_at" ["course", "at"] (spJumpAt K) f1 fd1) : Def P w K mg base (k + 1) "jumps" ps_jumps (spJumps K) f fd := by
  refine ⟨F.F.ok sc_jumps (fun vs H Q E h => ?_) (fun cdv A outer s H vs Q E hr h => ?_), F.m, F.F.kp, F.b⟩
  · obtain ⟨_, _, _, _, _, rfl, _⟩ := h
    rfl
  obtain ⟨a, c, i0, j0, l0, rfl, hC, cz, hp, hl, hb, z⟩ := h
  obtain ⟨xs, hx, hc⟩ := id hC
  have hxl := hc.1
  refine ⟨_, (pss_cons (ps_set (i := 1) sc_jumps.nd rfl (Or.inl rfl) (pe_lst pa_nil))
      (pss_cons (ps_for PassesOwn.never rfl (pi_range2 (by rfl) T.range_ (pa_cons pe_int (pa_cons (pe_callB call_len_seq (by rfl) T.len_ PySem.boot_len (pa_cons (pv 0) pa_nil)) pa_nil))) (pg_name (i := 2) sc_jumps.nd rfl (Or.inl rfl))
        (pss_cons (ps_set (i := 3) sc_jumps.nd rfl (Or.inl rfl) (pcall d_jump_at hr (pa_cons (pv 0) (pa_cons (pv 2) pa_nil))))
        (pss_one (ps_if (pt_cmpR (op_neD hr.units) (pv 3) (pe_glob (v := .ref az) (u := .ref az) (by rfl) Z.m rfl) (nomark _))
          (pss_one (ps_expr (pe_bm PySem.F.plainAttrs_list PySem.F.slot_list_append PySem.F.type_list_append mt_append (pv 1) (pa_cons (pe_tup (pa_cons (pe_ix ix_tup (pe_ix ix_list (pv 0) (pv 2) (fun _ _ => rfl)) pe_int (fun _ _ => rfl)) (pa_cons (pv 3) pa_nil))) pa_nil))))
          pss_nil))))
      (pss_one (ps_ret (pv 1))))), ?_⟩
  have p62 : (2 : Int) ^ 62 = 4611686018427387904 := by decide
  refine ⟨Nat.zero_le _, fun D hD => ?_⟩
  have s0 := same_new hD (.lst [])
  refine ⟨_, rfl, a, _, rfl, .inl (s0.seq hx), _, _, rfl, ⟨by omega, by omega, by omega, by omega⟩, for_range (lo := 1) (n := (((xs.length : Nat) : Int) - 1).toNat) (fun i σ G => ∃ (us : List V) (k2 k3 : Option V), σ = [some (.ref a), some (.ref D), k2, k3] ∧ Same H G ∧ G D = some (.lst us) ∧ All2 (Jq K G) us (jl (c.take (i + 1))))
    ⟨[], none, none, rfl, s0, upd_same, ?_⟩ ?_ ?_⟩
  · cases c with
    | nil => simp at hp
    | cons p c => exact All2.nil
  · rintro i σ G hi ⟨us, k2, k3, rfl, s1, hD1, hA⟩
    have hi1 : i + 1 < c.length := by omega
    have e1 : c[i]? = some c[i] := List.getElem?_eq_getElem (by omega)
    have e2 : c[i + 1]? = some c[i + 1] := List.getElem?_eq_getElem hi1
    obtain ⟨p, ep⟩ : ∃ p, p = c[i] := ⟨_, rfl⟩
    obtain ⟨q, eq⟩ : ∃ q, q = c[i + 1] := ⟨_, rfl⟩
    rw [← ep] at e1
    rw [← eq] at e2
    refine ⟨_, rfl, _, rfl, a, i, c, p, q, i0, j0, l0, by rw [show (1 + (i : Int)) = ((i + 1 : Nat) : Int) by omega]; rfl, hC.same s1, e1, e2, cz, hb, fun jv G1 f1 rj => ?_⟩
    have s2 := s1.trans f1
    have hD2 : G1 D = some (.lst us) := f1 _ _ hD1
    have hA2 := hA.imp fun _ _ h => h.same f1
    have en := jl_next e1 e2
    refine ⟨_, rfl, _, _, rj.dp, (Z.q _).dp, sh_dq _, sh_dq _, _, rfl, ?_⟩
    rw [eqv_dq]
    by_cases g : jmp (ky p) q = 0
    · refine ifF (by rw [dT g]; rfl) ⟨us, _, _, rfl, s2, hD2, ?_⟩
      rw [en, if_pos g, List.append_nil]
      exact hA2
    · refine ifT (by rw [dF g]; rfl) ?_
      obtain ⟨x2, hx2, pq⟩ := hc.at e2
      obtain ⟨b, bs, bv, br, rfl, hb2, r1, r2, r3⟩ := pq.same s2
      have hul := hA.1
      have hjl := jl_len (c.take (i + 1))
      rw [List.length_take] at hjl
      refine ⟨_, rfl, .inl ⟨rfl, _, SqL.of hD2⟩, _, rfl, _, rfl, a, _, _, _, rfl, rfl, s2.seq hx, at_of (j := i + 1) (by omega) hx2, b, _, _, _, rfl, rfl, hb2, at0 rfl, _, rfl, sz2, fun T1 h1 => ?_⟩
      have t1 := same_new h1 (.tup [bs, jv])
      have nD : D ≠ T1 := ne_at hD2 h1
      have hD3 := t1 _ _ hD2
      refine ⟨D, _, _, rfl, rfl, hD3, le1000 (by omega), _, _, _, rfl, same_upd (s2.trans t1) hD _, upd_same, ?_⟩
      have fr : Fr D _ _ := Fr.upd (s := D) (H := upd G1 T1 (.tup [bs, jv])) (.lst (us ++ [.ref T1]))
      rw [en, if_neg g]
      have jn : Jq K (upd G1 T1 (.tup [bs, jv])) (.ref T1) (q.s, jmp (ky p) q) := ⟨T1, bs, jv, rfl, SqT.of upd_same, r1.same t1, rj.same t1⟩
      exact (hA2.imp fun _ _ h => (h.same t1).fr fr ⟨_, hD3⟩).snoc (jn.fr fr ⟨_, hD3⟩)
  · rintro σ G ⟨us, k2, k3, rfl, s1, hD1, hA⟩
    rw [List.take_of_length_le (by omega)] at hA
    exact ⟨_, rfl, z D us G s1 hD hD1 hA⟩
abbrev s_tidy : Stmt := top 15
abbrev N_tidy : List Str := ["course", "kept", "at"]
theorem sc_tidy : FnScope N_tidy ["course"] (defScope s_tidy) := ⟨rfl, rfl, rfl, by decide +kernel, rfl, by decide +kernel, by decide +kernel⟩
abbrev ps_tidy : List Str := ["course"]
def spTidy (K : PySem.W.Frag) : Sp := fun vs H Q _ => ∃ (a : Addr) (c : List Pc) (i j l : Nat), vs = [.ref a] ∧ Cq K H a c ∧ Cz i j l c ∧ 1 ≤ c.length ∧ c.length ≤ 900 ∧ j + j + l + i + i + 5 ≤ 9000 ∧
  ∀ D us H', Same H H' → H D = none → Ct K H' D us (tl c) → Q (.ref D) H'
theorem ok_tidy (T : Bn mg) (Z : Zr K mg az) (F : Fn K mg "tidy" s_tidy ps_tidy f fd) (d_jump_at : Def P w K mg base k "_jump_at" ["course", "at"] (spJumpAt K) f1 fd1) : Def P w K mg base (k + 1) "tidy" ps_tidy (spTidy K) f fd := by
  refine ⟨F.F.ok sc_tidy (fun vs H Q E h => ?_) (fun cdv A outer s H vs Q E hr h => ?_), F.m, F.F.kp, F.b⟩
  · obtain ⟨_, _, _, _, _, rfl, _⟩ := h
    rfl
  obtain ⟨a, c, i0, j0, l0, rfl, hC, cz, hp, hl, hb, z⟩ := h
  obtain ⟨xs, hx, hc⟩ := id hC
  have hxl := hc.1
  refine ⟨_, (pss_cons (ps_set (i := 1) sc_tidy.nd rfl (Or.inl rfl) (pe_lst (pa_cons (pe_ix ix_list (pv 0) pe_int (fun _ _ => rfl)) pa_nil)))
      (pss_cons (ps_for PassesOwn.never rfl (pi_range2 (by rfl) T.range_ (pa_cons pe_int (pa_cons (pe_callB call_len_seq (by rfl) T.len_ PySem.boot_len (pa_cons (pv 0) pa_nil)) pa_nil))) (pg_name (i := 2) sc_tidy.nd rfl (Or.inl rfl))
        (pss_one (ps_if (PW.pt (pw_or (pt_cmpR (op_neD hr.units) (pe_ix ix_tup (pe_ix ix_list (pv 0) (pv 2) (fun _ _ => rfl)) pe_int (fun _ _ => rfl)) (pe_ix ix_tup (pe_ix ix_list (pv 0) (pe_op op_sub (pv 2) pe_int) (fun _ _ => rfl)) pe_int (fun _ _ => rfl)) (nomark _)) (pw_or1 (pt_cmpR (op_neD hr.units) (pcall d_jump_at hr (pa_cons (pv 0) (pa_cons (pv 2) pa_nil))) (pe_glob (v := .ref az) (u := .ref az) (by rfl) Z.m rfl) (nomark _)))))
          (pss_one (ps_expr (pe_bm PySem.F.plainAttrs_list PySem.F.slot_list_append PySem.F.type_list_append mt_append (pv 1) (pa_cons (pe_ix ix_list (pv 0) (pv 2) (fun _ _ => rfl)) pa_nil))))
          pss_nil)))
      (pss_one (ps_ret (pv 1))))), ?_⟩
  have p62 : (2 : Int) ^ 62 = 4611686018427387904 := by decide
  have e0 : c[0]? = some c[0] := List.getElem?_eq_getElem (by omega)
  obtain ⟨x0, hx0, p0⟩ := hc.at e0
  refine ⟨_, rfl, a, _, _, _, rfl, rfl, hx, at0 hx0, sm1, fun D hD => ?_⟩
  have s0 := same_new hD (.lst [x0])
  refine ⟨_, rfl, a, _, rfl, .inl (s0.seq hx), _, _, rfl, ⟨by omega, by omega, by omega, by omega⟩, for_range (lo := 1) (n := (((xs.length : Nat) : Int) - 1).toNat) (fun i σ G => ∃ (us : List V) (k2 : Option V), σ = [some (.ref a), some (.ref D), k2] ∧ Same H G ∧ Ct K G D us (tl (c.take (i + 1))))
    ⟨[x0], none, rfl, s0, upd_same, ?_⟩ ?_ ?_⟩
  · have : tl (c.take 1) = [c[0]] := by
      cases c with
      | nil => simp at hp
      | cons p c => rfl
    rw [this]
    exact All2.one (p0.same s0)
  · rintro i σ G hi ⟨us, k2, rfl, s1, hD1, hA⟩
    have hi1 : i + 1 < c.length := by omega
    have e1 : c[i]? = some c[i] := List.getElem?_eq_getElem (by omega)
    have e2 : c[i + 1]? = some c[i + 1] := List.getElem?_eq_getElem hi1
    obtain ⟨p, ep⟩ : ∃ p, p = c[i] := ⟨_, rfl⟩
    obtain ⟨q, eq⟩ : ∃ q, q = c[i + 1] := ⟨_, rfl⟩
    rw [← ep] at e1
    rw [← eq] at e2
    have en := tl_next e1 e2
    obtain ⟨x1, hx1, pp⟩ := hc.at e1
    obtain ⟨x2, hx2, pq⟩ := hc.at e2
    obtain ⟨d1, ds1, dv1, dr1, rfl, hd1, r11, r12, r13⟩ := pp.same s1
    obtain ⟨d2, ds2, dv2, dr2, rfl, hd2, r21, r22, r23⟩ := pq.same s1
    have hul := hA.1
    have htl := (tl_sub (c.take (i + 1))).length_le
    rw [List.length_take] at htl
    -- the piece is kept
    have keep : ∀ G1 (f1 : Same G G1), ky q ≠ ky p → ∃ (us' : List V) (k2 : Option V), [some (V.ref a), some (.ref D), some (.int (1 + (i : Int)))] = [some (.ref a), some (.ref D), k2] ∧ Same H (upd G1 D (.lst (us ++ [.ref d2]))) ∧ Ct K (upd G1 D (.lst (us ++ [.ref d2]))) D us' (tl (c.take (i + 1 + 1))) := fun G1 f1 g => by
      have hD2 := f1 _ _ hD1
      have fr : Fr D G1 (upd G1 D (.lst (us ++ [.ref d2]))) := Fr.upd _
      refine ⟨_, _, rfl, same_upd (s1.trans f1) hD _, upd_same, ?_⟩
      rw [en, if_neg g]
      exact (hA.imp fun _ _ h => (h.same f1).fr fr ⟨_, hD2⟩).snoc ((pq.same (s1.trans f1)).fr fr ⟨_, hD2⟩)
    refine ⟨_, rfl, _, rfl, a, _, _, _, rfl, rfl, s1.seq hx, at_of (j := i + 1) (by omega) hx2, d2, _, _, _, rfl, rfl, hd2, at2 rfl, _, rfl, _, rfl, _, _, rfl, rfl, a, _, _, _, rfl, rfl, s1.seq hx, at_of (j := i) (by omega) hx1, d1, _, _, _, rfl, rfl, hd1, at2 rfl, ?_⟩
    refine ⟨_, _, r23.dp, r13.dp, sh_dq _, sh_dq _, _, rfl, ?_⟩
    rw [eqv_dq]
    by_cases g : q.r = p.r
    · refine ifF (by rw [dT g]; rfl) ⟨_, rfl, _, rfl, a, i, c, p, q, i0, j0, l0, by rw [show (1 + (i : Int)) = ((i + 1 : Nat) : Int) by omega]; rfl, hC.same s1, e1, e2, cz, hb, fun jv G1 f1 rj => ?_⟩
      refine ⟨_, _, rj.dp, (Z.q _).dp, sh_dq _, sh_dq _, _, rfl, ?_⟩
      rw [eqv_dq]
      by_cases g2 : jmp (ky p) q = 0
      · refine ifF (by rw [dT g2]; rfl) ⟨us, _, rfl, s1.trans f1, f1 _ _ hD1, ?_⟩
        rw [en, if_pos (ky_eq.mpr ⟨g, g2⟩), List.append_nil]
        exact hA.imp fun _ _ h => h.same f1
      · refine ifT (by rw [dF g2]; rfl) ⟨_, rfl, .inl ⟨rfl, _, SqL.of (f1 _ _ hD1)⟩, _, rfl, _, rfl, a, _, _, _, rfl, rfl, (s1.trans f1).seq hx, at_of (j := i + 1) (by omega) hx2, D, _, _, rfl, rfl, f1 _ _ hD1, le1000 (by omega), keep G1 f1 fun h => g2 (ky_eq.mp h).2⟩
    · refine ifT (by rw [dF g]; rfl) ⟨_, rfl, .inl ⟨rfl, _, SqL.of hD1⟩, _, rfl, _, rfl, a, _, _, _, rfl, rfl, s1.seq hx, at_of (j := i + 1) (by omega) hx2, D, _, _, rfl, rfl, hD1, le1000 (by omega), keep G (Same.refl _) fun h => g (ky_eq.mp h).1⟩
  · rintro σ G ⟨us, k2, rfl, s1, hD1, hA⟩
    rw [List.take_of_length_le (by omega)] at hA
    exact ⟨_, rfl, z D us G s1 hD ⟨hD1, hA⟩⟩
end Vk

namespace Vk
open PySem L2 Vm
variable {l az : Addr} {P : Program} {w : World} {K : PySem.W.Frag} {mg : Str → Option Value} {base : Heap} {k : Nat} {f f1 f2 f3 f4 f5 f6 f7 f8 f9 : Addr} {fd fd1 fd2 fd3 fd4 fd5 fd6 fd7 fd8 fd9 : FuncData}
abbrev s__law_copy : Stmt := top 25
abbrev N__law_copy : List Str := ["_law_value", "_law_one", "_law_row", "_law_name"]
theorem sc__law_copy : FnScope N__law_copy ["_law_value"] (defScope s__law_copy) := ⟨rfl, rfl, rfl, by decide +kernel, rfl, by decide +kernel, by decide +kernel⟩
abbrev ps__law_copy : List Str := ["_law_value"]
def spCp {α : Type} (R : Hp → V → α → Prop) : Sp := fun vs H Q _ => ∃ (x : V) (p : α), vs = [x] ∧ R H x p ∧ ∀ r H', Same H H' → R H' r p → Q r H'
def spCpL {α : Type} (K : PySem.W.Frag) (R : Hp → V → α → Prop) : Sp := fun vs H Q _ => ∃ (a : Addr) (xs : List V) (ps : List α), vs = [.ref a] ∧ SqL K H a xs ∧ All2 (R H) xs ps ∧ ps.length ≤ 900 ∧ ∀ D ys H', Same H H' → H D = none → H' D = some (.lst ys) → All2 (R H') ys ps → Q (.ref D) H'
def spCpT {α : Type} (K : PySem.W.Frag) (R : Hp → V → α → Prop) : Sp := fun vs H Q _ => ∃ (a : Addr) (xs : List V) (ps : List α), vs = [.ref a] ∧ SqT K H a xs ∧ All2 (R H) xs ps ∧ ps.length ≤ 900 ∧ ∀ D ys H', Same H H' → H' D = some (.tup ys) → All2 (R H') ys ps → Q (.ref D) H'
def isI (H : Hp) (x : V) (i : Int) : Prop := x = .int i
theorem ok_copyI (T : Bn mg) (F : Fn K mg "_law_copy" s__law_copy ps__law_copy f fd) (d_law_copy : Def P w K mg base k "_law_copy" ["_law_value"] (fun _ _ _ _ => False) f fd) : Def P w K mg base (k + 1) "_law_copy" ps__law_copy (spCp isI) f fd := by
  refine ⟨F.F.ok sc__law_copy (fun vs H Q E h => ?_) (fun cdv A outer s H vs Q E hr h => ?_), F.m, F.F.kp, F.b⟩
  · obtain ⟨_, _, rfl, _⟩ := h
    rfl
  obtain ⟨x, i, rfl, rfl, z⟩ := h
  refine ⟨_, (pss_cons (ps_if (pt_val (pe_callB call_isi (by rfl) T.isinstance_ (by decide +kernel) (pa_cons (pv 0) (pa_cons (pe_bltn (v := .ty "list") (by rfl) T.list_ (by decide +kernel) rfl) pa_nil))))
        (pss_one (ps_ret (pe_lc (own := [("_law_one", 1)]) (g := gName 1) (tt := tYes) rfl sc__law_copy.nd (pi_list (pv 0)) (blkOk_by (N := N__law_copy) (sc := defScope s__law_copy) (by decide +kernel)) (fun _ _ _ _ _ => pg_name (i := 1) sc__law_copy.nd rfl (Or.inl rfl)) (fun _ _ _ _ _ => pts_nil) (fun _ _ _ _ _ => (pcall d_law_copy hr (pa_cons (pv 1) pa_nil))))))
        pss_nil)
      (pss_cons (ps_if (pt_val (pe_callB call_isi (by rfl) T.isinstance_ (by decide +kernel) (pa_cons (pv 0) (pa_cons (pe_bltn (v := .ty "tuple") (by rfl) T.tuple_ (by decide +kernel) rfl) pa_nil))))
        (pss_one (ps_ret (pe_callTy call_tuple_of (by rfl) T.tuple_ (by decide +kernel) (pa_cons (pe_lc (own := [("_law_one", 1)]) (g := gName 1) (tt := tYes) rfl sc__law_copy.nd (pi_tup (pv 0)) (blkOk_by (N := N__law_copy) (sc := defScope s__law_copy) (by decide +kernel)) (fun _ _ _ _ _ => pg_name (i := 1) sc__law_copy.nd rfl (Or.inl rfl)) (fun _ _ _ _ _ => pts_nil) (fun _ _ _ _ _ => (pcall d_law_copy hr (pa_cons (pv 1) pa_nil)))) pa_nil))))
        pss_nil)
      (pss_cons (ps_if (pt_val (pe_callB call_isi (by rfl) T.isinstance_ (by decide +kernel) (pa_cons (pv 0) (pa_cons (pe_bltn (v := .ty "dict") (by rfl) T.dict_ (by decide +kernel) rfl) pa_nil))))
        pss_never
        pss_nil)
      (pss_one (ps_ret (pv 0)))))), ?_⟩
  refine ⟨_, rfl, _, _, _, _, false, rfl, .ty _, (.base (.int i)), kit_ty (by decide +kernel), _, rfl, ifF rfl ⟨_, rfl, _, _, _, _, false, rfl, .ty _, (.base (.int i)), kit_ty (by decide +kernel), _, rfl, ifF rfl ⟨_, rfl, _, _, _, _, false, rfl, .ty _, (.base (.int i)), kit_ty (by decide +kernel), _, rfl, ifF rfl ⟨_, rfl, z _ _ (Same.refl _) rfl⟩⟩⟩⟩
theorem ok_copyL {α : Type} (R : Hp → V → α → Prop) (L : Lasts R) (Ls : ∀ {H H' : Hp} {x : V} {p : α}, Same H H' → R H x p → R H' x p) (T : Bn mg) (F : Fn K mg "_law_copy" s__law_copy ps__law_copy f fd) (d_law_copy : Def P w K mg base k "_law_copy" ["_law_value"] (spCp R) f fd) :
    Def P w K mg base (k + 1) "_law_copy" ps__law_copy (spCpL K R) f fd := by
  refine ⟨F.F.ok sc__law_copy (fun vs H Q E h => ?_) (fun cdv A outer s H vs Q E hr h => ?_), F.m, F.F.kp, F.b⟩
  · obtain ⟨_, _, _, rfl, _⟩ := h
    rfl
  obtain ⟨a, xs, ps, rfl, hx, hA, hl, z⟩ := h
  have ta := sql_ty hx
  refine ⟨_, (pss_cons (ps_if (pt_val (pe_callB call_isi (by rfl) T.isinstance_ (by decide +kernel) (pa_cons (pv 0) (pa_cons (pe_bltn (v := .ty "list") (by rfl) T.list_ (by decide +kernel) rfl) pa_nil))))
        (pss_one (ps_ret (pe_lc (own := [("_law_one", 1)]) (g := gName 1) (tt := tYes) rfl sc__law_copy.nd (pi_list (pv 0)) (blkOk_by (N := N__law_copy) (sc := defScope s__law_copy) (by decide +kernel)) (fun _ _ _ _ _ => pg_name (i := 1) sc__law_copy.nd rfl (Or.inl rfl)) (fun _ _ _ _ _ => pts_nil) (fun _ _ _ _ _ => (pcall d_law_copy hr (pa_cons (pv 1) pa_nil))))))
        pss_nil)
      (pss_cons (ps_if (pt_val (pe_callB call_isi (by rfl) T.isinstance_ (by decide +kernel) (pa_cons (pv 0) (pa_cons (pe_bltn (v := .ty "tuple") (by rfl) T.tuple_ (by decide +kernel) rfl) pa_nil))))
        (pss_one (ps_ret (pe_callTy call_tuple_of (by rfl) T.tuple_ (by decide +kernel) (pa_cons (pe_lc (own := [("_law_one", 1)]) (g := gName 1) (tt := tYes) rfl sc__law_copy.nd (pi_tup (pv 0)) (blkOk_by (N := N__law_copy) (sc := defScope s__law_copy) (by decide +kernel)) (fun _ _ _ _ _ => pg_name (i := 1) sc__law_copy.nd rfl (Or.inl rfl)) (fun _ _ _ _ _ => pts_nil) (fun _ _ _ _ _ => (pcall d_law_copy hr (pa_cons (pv 1) pa_nil)))) pa_nil))))
        pss_nil)
      (pss_cons (ps_if (pt_val (pe_callB call_isi (by rfl) T.isinstance_ (by decide +kernel) (pa_cons (pv 0) (pa_cons (pe_bltn (v := .ty "dict") (by rfl) T.dict_ (by decide +kernel) rfl) pa_nil))))
        pss_never
        pss_nil)
      (pss_one (ps_ret (pv 0)))))), ?_⟩
  refine ⟨_, rfl, _, _, _, _, true, rfl, .ty _, ta, kit_ty (by decide +kernel), _, rfl, ifT rfl ?_⟩
  refine ⟨_, rfl, a, rfl, ⟨_, hx⟩, fun D hD => lc_list (xs := xs) (fun i G => ∃ acc, G D = some (.lst acc) ∧ Same H G ∧ All2 (R G) acc (ps.take i)) ⟨[], upd_same, same_new hD _, by rw [List.take_zero]; exact All2.nil⟩ (fun i G _ h => by obtain ⟨_, _, s1, _⟩ := h; exact s1.seq hx) ?_ ?_⟩
  · rintro i x G hxi ⟨acc, hD1, s1, hB⟩
    have hi : i < ps.length := by rw [← hA.1]; exact (List.getElem?_eq_some_iff.mp hxi).1
    have epi : ps[i]? = some ps[i] := List.getElem?_eq_getElem hi
    have hb := hB.1
    rw [List.length_take] at hb
    refine ⟨rfl, tyes ⟨_, rfl, x, ps[i], rfl, Ls s1 (hA.2 i x _ hxi epi), fun r G1 e1 hr1 => ?_⟩⟩
    have fr : Fr D G1 (upd G1 D (.lst (acc ++ [r]))) := Fr.upd _
    have hD2 := e1 _ _ hD1
    refine ⟨acc, hD2, le1000 (by omega), _, upd_same, same_upd (s1.trans e1) hD _, ?_⟩
    rw [List.take_add_one, epi]
    exact (hB.imp fun _ _ h => L fr ⟨_, hD2⟩ (Ls e1 h)).snoc (L fr ⟨_, hD2⟩ hr1)
  · rintro G ⟨acc, hD1, s1, hB⟩
    rw [hA.1, List.take_length] at hB
    exact z D acc G s1 hD hD1 hB
theorem ok_copyT {α : Type} (R : Hp → V → α → Prop) (L : Lasts R) (Ls : ∀ {H H' : Hp} {x : V} {p : α}, Same H H' → R H x p → R H' x p) (T : Bn mg) (F : Fn K mg "_law_copy" s__law_copy ps__law_copy f fd) (d_law_copy : Def P w K mg base k "_law_copy" ["_law_value"] (spCp R) f fd) :
    Def P w K mg base (k + 1) "_law_copy" ps__law_copy (spCpT K R) f fd := by
  refine ⟨F.F.ok sc__law_copy (fun vs H Q E h => ?_) (fun cdv A outer s H vs Q E hr h => ?_), F.m, F.F.kp, F.b⟩
  · obtain ⟨_, _, _, rfl, _⟩ := h
    rfl
  obtain ⟨a, xs, ps, rfl, hx, hA, hl, z⟩ := h
  have ta := sqt_ty hx
  refine ⟨_, (pss_cons (ps_if (pt_val (pe_callB call_isi (by rfl) T.isinstance_ (by decide +kernel) (pa_cons (pv 0) (pa_cons (pe_bltn (v := .ty "list") (by rfl) T.list_ (by decide +kernel) rfl) pa_nil))))
        (pss_one (ps_ret (pe_lc (own := [("_law_one", 1)]) (g := gName 1) (tt := tYes) rfl sc__law_copy.nd (pi_list (pv 0)) (blkOk_by (N := N__law_copy) (sc := defScope s__law_copy) (by decide +kernel)) (fun _ _ _ _ _ => pg_name (i := 1) sc__law_copy.nd rfl (Or.inl rfl)) (fun _ _ _ _ _ => pts_nil) (fun _ _ _ _ _ => (pcall d_law_copy hr (pa_cons (pv 1) pa_nil))))))
        pss_nil)
      (pss_cons (ps_if (pt_val (pe_callB call_isi (by rfl) T.isinstance_ (by decide +kernel) (pa_cons (pv 0) (pa_cons (pe_bltn (v := .ty "tuple") (by rfl) T.tuple_ (by decide +kernel) rfl) pa_nil))))
        (pss_one (ps_ret (pe_callTy call_tuple_of (by rfl) T.tuple_ (by decide +kernel) (pa_cons (pe_lc (own := [("_law_one", 1)]) (g := gName 1) (tt := tYes) rfl sc__law_copy.nd (pi_tup (pv 0)) (blkOk_by (N := N__law_copy) (sc := defScope s__law_copy) (by decide +kernel)) (fun _ _ _ _ _ => pg_name (i := 1) sc__law_copy.nd rfl (Or.inl rfl)) (fun _ _ _ _ _ => pts_nil) (fun _ _ _ _ _ => (pcall d_law_copy hr (pa_cons (pv 1) pa_nil)))) pa_nil))))
        pss_nil)
      (pss_cons (ps_if (pt_val (pe_callB call_isi (by rfl) T.isinstance_ (by decide +kernel) (pa_cons (pv 0) (pa_cons (pe_bltn (v := .ty "dict") (by rfl) T.dict_ (by decide +kernel) rfl) pa_nil))))
        pss_never
        pss_nil)
      (pss_one (ps_ret (pv 0)))))), ?_⟩
  refine ⟨_, rfl, _, _, _, _, false, rfl, .ty _, ta, kit_ty (by decide +kernel), _, rfl, ifF rfl ⟨_, rfl, _, _, _, _, true, rfl, .ty _, ta, kit_ty (by decide +kernel), _, rfl, ifT rfl ?_⟩⟩
  refine ⟨_, rfl, a, rfl, ⟨_, hx⟩, fun D hD => lc_tup (xs := xs) (fun i G => ∃ acc, G D = some (.lst acc) ∧ Same H G ∧ All2 (R G) acc (ps.take i)) ⟨[], upd_same, same_new hD _, by rw [List.take_zero]; exact All2.nil⟩ (fun i G _ h => by obtain ⟨_, _, s1, _⟩ := h; exact s1.sqt hx) ?_ ?_⟩
  · rintro i x G hxi ⟨acc, hD1, s1, hB⟩
    have hi : i < ps.length := by rw [← hA.1]; exact (List.getElem?_eq_some_iff.mp hxi).1
    have epi : ps[i]? = some ps[i] := List.getElem?_eq_getElem hi
    have hb := hB.1
    rw [List.length_take] at hb
    refine ⟨rfl, tyes ⟨_, rfl, x, ps[i], rfl, Ls s1 (hA.2 i x _ hxi epi), fun r G1 e1 hr1 => ?_⟩⟩
    have fr : Fr D G1 (upd G1 D (.lst (acc ++ [r]))) := Fr.upd _
    have hD2 := e1 _ _ hD1
    refine ⟨acc, hD2, le1000 (by omega), _, upd_same, same_upd (s1.trans e1) hD _, ?_⟩
    rw [List.take_add_one, epi]
    exact (hB.imp fun _ _ h => L fr ⟨_, hD2⟩ (Ls e1 h)).snoc (L fr ⟨_, hD2⟩ hr1)
  · rintro G ⟨acc, hD1, s1, hB⟩
    rw [hA.1, List.take_length] at hB
    refine ⟨D, acc, rfl, .inl ⟨SqL.of hD1, fun t ht => z t acc _ (s1.trans (same_new ht _)) upd_same (hB.imp fun _ _ h => Ls (same_new ht _) h)⟩⟩
theorem Def.impl {x : Str} {ps : List Str} {sp sp' : Sp} (d : Def P w K mg base k x ps sp f fd) (h : ∀ vs H Q E, sp' vs H Q E → sp vs H Q E) : Def P w K mg base k x ps sp' f fd := ⟨d.ok.imp h, d.m, d.kp, d.b⟩
theorem cp_rq {vs : List V} {H : Hp} {Q : VK} {E : XK} (h : spCp (Rq K) vs H Q E) : spCpT K isI vs H Q E := by
  obtain ⟨x, q, rfl, ⟨a, rfl, ha⟩, z⟩ := h
  refine ⟨a, _, [q.num, (q.den : Int)], rfl, ha, (All2.nil.snoc (show isI H (.int q.num) q.num from rfl)).snoc (show isI H (.int (q.den : Int)) (q.den : Int) from rfl), by show 2 ≤ 900; decide, fun D ys H' e hD hA => ?_⟩
  have hl := hA.1
  match ys, hl with
  | [y1, y2], _ =>
    have h1 : y1 = .int q.num := hA.2 0 y1 q.num rfl rfl
    have h2 : y2 = .int (q.den : Int) := hA.2 1 y2 (q.den : Int) rfl rfl
    subst h1 h2
    exact z _ _ e ⟨D, rfl, SqT.of hD⟩
theorem cp_pq {vs : List V} {H : Hp} {Q : VK} {E : XK} (h : spCp (Pq K) vs H Q E) : spCpT K (Rq K) vs H Q E := by
  obtain ⟨x, p, rfl, ⟨a, xs, xv, xr, rfl, ha, h1, h2, h3⟩, z⟩ := h
  refine ⟨a, _, [p.s, p.v, p.r], rfl, ha, all2_3 h1 h2 h3, by show 3 ≤ 900; decide, fun D ys H' e hD hA => ?_⟩
  have hl := hA.1
  match ys, hl with
  | [y1, y2, y3], _ => exact z _ _ e ⟨D, y1, y2, y3, rfl, SqT.of hD, hA.2 0 y1 p.s rfl rfl, hA.2 1 y2 p.v rfl rfl, hA.2 2 y3 p.r rfl rfl⟩
theorem ok_copy (T : Bn mg) (F : Fn K mg "_law_copy" s__law_copy ps__law_copy f fd) (d0 : Def P w K mg base 0 "_law_copy" ["_law_value"] (fun _ _ _ _ => False) f fd) : Def P w K mg base 4 "_law_copy" ["_law_value"] (spCpL K (Pq K)) f fd :=
  ok_copyL (Pq K) lastsP (fun e h => h.same e) T F ((ok_copyT (Rq K) lastsQ (fun e h => h.same e) T F ((ok_copyT isI (fun _ _ h => h) (fun _ h => h) T F (ok_copyI T F d0)).impl fun _ _ _ _ h => cp_rq h)).impl fun _ _ _ _ h => cp_pq h)
abbrev s__law_coming : Stmt := top 41
abbrev N__law_coming : List Str := ["_law_course_here", "_law_k", "_law_first", "_law_middle", "_law_there"]
theorem sc__law_coming : FnScope N__law_coming ["_law_course_here", "_law_k"] (defScope s__law_coming) := ⟨rfl, rfl, rfl, by decide +kernel, rfl, by decide +kernel, by decide +kernel⟩
abbrev ps__law_coming : List Str := ["_law_course_here", "_law_k"]
def spComing (K : PySem.W.Frag) : Sp := fun vs H Q _ => ∃ (a : Addr) (n : Nat) (c : List Pc) (p q : Pc) (i j l : Nat), vs = [.ref a, .int ((n + 1 : Nat) : Int)] ∧ Cq K H a c ∧ Cok c ∧ c[n]? = some p ∧ c[n + 1]? = some q ∧ Cz i j l c ∧ i + j + l ≤ 500 ∧ c.length ≤ 900 ∧
  ∀ r H', Same H H' → Rq K H' r (p.v + p.r * (q.s - p.s)) → Q r H'
theorem half_lt {a b : Rat} (h : a < b) : ¬ (a + b) * mkRat 1 2 < a ∧ (a + b) * mkRat 1 2 < b := by
  have e : mkRat 1 2 = (1 : Rat) / 2 := by decide +kernel
  rw [e]
  constructor <;> grind
theorem mid_walk (v r a b : Rat) : (v + r * ((a + b) * mkRat 1 2 - a)) + (v + r * ((a + b) * mkRat 1 2 - a)) - (v + r * (a - a)) = v + r * (b - a) := by
  have e : mkRat 1 2 = (1 : Rat) / 2 := by decide +kernel
  rw [e]
  grind
theorem ok_coming (F : Fn K mg "_law_coming" s__law_coming ps__law_coming f fd) (d_law_times : Def P w K mg base k "_law_times" ["_law_a", "_law_b"] (spOp2 K (· * ·)) f1 fd1) (d_law_plus : Def P w K mg base k "_law_plus" ["_law_a", "_law_b"] (spOp2 K (· + ·)) f2 fd2)
    (d_law_now : Def P w K mg base k "_law_now" ["_law_course_here", "_law_t"] (spNow K) f3 fd3) (d_law_minus : Def P w K mg base k "_law_minus" ["_law_a", "_law_b"] (spOp2 K (· - ·)) f4 fd4) : Def P w K mg base (k + 1) "_law_coming" ps__law_coming (spComing K) f fd := by
  refine ⟨F.F.ok sc__law_coming (fun vs H Q E h => ?_) (fun cdv A outer s H vs Q E hr h => ?_), F.m, F.F.kp, F.b⟩
  · obtain ⟨_, _, _, _, _, _, _, _, rfl, _⟩ := h
    rfl
  obtain ⟨a, n, c, p, q, i, j, l, rfl, hC, ok, e1, e2, cz, hb, hl, z⟩ := h
  obtain ⟨xs, hx, hc⟩ := id hC
  refine ⟨_, (pss_cons (ps_set (i := 2) sc__law_coming.nd rfl (Or.inl rfl) (pe_ix ix_tup (pe_ix ix_list (pv 0) (pe_op op_sub (pv 1) pe_int) (fun _ _ => rfl)) pe_int (fun _ _ => rfl)))
      (pss_cons (ps_set (i := 3) sc__law_coming.nd rfl (Or.inl rfl) (pcall d_law_times hr (pa_cons (pcall d_law_plus hr (pa_cons (pv 2) (pa_cons (pe_ix ix_tup (pe_ix ix_list (pv 0) (pv 1) (fun _ _ => rfl)) pe_int (fun _ _ => rfl)) pa_nil))) (pa_cons (pe_tup (pa_cons pe_int (pa_cons pe_int pa_nil))) pa_nil))))
      (pss_cons (ps_set (i := 4) sc__law_coming.nd rfl (Or.inl rfl) (pcall d_law_now hr (pa_cons (pv 0) (pa_cons (pv 3) pa_nil))))
      (pss_one (ps_ret (pcall d_law_minus hr (pa_cons (pcall d_law_plus hr (pa_cons (pv 4) (pa_cons (pv 4) pa_nil))) (pa_cons (pcall d_law_now hr (pa_cons (pv 0) (pa_cons (pv 2) pa_nil))) pa_nil)))))))), ?_⟩
  obtain ⟨zs1, zv1, zr1⟩ := cz p (List.mem_of_getElem? e1)
  obtain ⟨zs2, zv2, zr2⟩ := cz q (List.mem_of_getElem? e2)
  obtain ⟨x1, hx1, b1, bs1, bv1, br1, rfl, hb1, r11, r12, r13⟩ := hc.at e1
  obtain ⟨x2, hx2, b2, bs2, bv2, br2, rfl, hb2, r21, r22, r23⟩ := hc.at e2
  have lt := ok.2 n p q e1 e2
  obtain ⟨h1, h2⟩ := half_lt lt
  have n1 := now_at ok e1 (t := p.s) Rat.lt_irrefl fun y hy => by rw [e2] at hy; cases hy; exact lt
  have n2 := now_at ok e1 (t := (p.s + q.s) * mkRat 1 2) h1 fun y hy => by rw [e2] at hy; cases hy; exact h2
  refine ⟨_, rfl, _, rfl, _, _, rfl, rfl, a, _, _, _, rfl, rfl, hx, at_of (j := n) (by omega) hx1, b1, _, _, _, rfl, rfl, hb1, at0 rfl, ?_⟩
  refine ⟨_, rfl, _, rfl, _, rfl, a, _, _, _, rfl, rfl, hx, at_of (j := n + 1) rfl hx2, b2, _, _, _, rfl, rfl, hb2, at0 rfl, ?_⟩
  refine ⟨_, _, p.s, q.s, i, i, rfl, r11, r21, zs1, zs2, by omega, fun w1 H1 s1 g1 => ⟨sz2, fun t1 ht1 => ?_⟩⟩
  have t1s := same_new ht1 (.tup [.int 1, .int 2])
  have zh : Sz 2 (mkRat 1 2) := by decide +kernel
  have rh : Rq K (upd H1 t1 (.tup [.int 1, .int 2])) (.ref t1) (mkRat 1 2) := rq_new 1 2 _ (by decide +kernel) (by decide +kernel)
  refine ⟨_, _, p.s + q.s, mkRat 1 2, i + i + 1, 2, rfl, g1.same t1s, rh, zs1.add zs2, zh, by omega, fun w2 H2 s2 g2 => ?_⟩
  have f2 := s1.trans (t1s.trans s2)
  have zm := (zs1.add zs2).mul zh
  refine ⟨_, rfl, _, rfl, a, _, c, _, i, j, l, _, rfl, hC.same f2, g2, cz, zm, by omega, by omega, fun w3 H3 s3 g3 => ?_⟩
  have f3 := f2.trans s3
  rw [n2] at g3
  have g3 : Rq K H3 w3 (vl ((p.s + q.s) * mkRat 1 2) p) := g3
  have zt : Sz (j + (l + (i + i + 1 + 2 + i + 1)) + 1) (vl ((p.s + q.s) * mkRat 1 2) p) := zv1.add (zr1.mul (zm.sub zs1))
  refine ⟨_, rfl, _, rfl, _, _, _, _, _, _, rfl, g3, g3, zt, zt, by omega, fun w4 H4 s4 g4 => ?_⟩
  have f4 := f3.trans s4
  refine ⟨_, rfl, _, rfl, a, _, c, p.s, i, j, l, i, rfl, hC.same f4, r11.same f4, cz, zs1, by omega, by omega, fun w5 H5 s5 g5 => ?_⟩
  rw [n1] at g5
  have g5 : Rq K H5 w5 (vl p.s p) := g5
  have zu : Sz (j + (l + (i + i + 1)) + 1) (vl p.s p) := zv1.add (zr1.mul (zs1.sub zs1))
  refine ⟨_, _, _, _, _, _, rfl, g4.same s5, g5, zt.add zt, zu, by omega, fun w6 H6 s6 g6 => z _ _ (f4.trans (s5.trans s6)) ?_⟩
  have e := mid_walk p.v p.r p.s q.s
  unfold vl at g6
  dsimp only at g6
  rw [e] at g6
  exact g6
end Vk

namespace Vk
open PySem L2 Vm
variable {l az : Addr} {P : Program} {w : World} {K : PySem.W.Frag} {mg : Str → Option Value} {base : Heap} {k : Nat} {f f1 f2 f3 f4 f5 f6 f7 f8 f9 : Addr} {fd fd1 fd2 fd3 fd4 fd5 fd6 fd7 fd8 fd9 : FuncData}
theorem num0 (q : Rat) : (V.int q.num = V.int 0) ↔ q = 0 := by
  constructor
  · intro h
    exact Rat.num_eq_zero.mp (V.int.inj h)
  · intro h
    rw [h]
    rfl
abbrev s__law_jumps_due : Stmt := top 44
abbrev N__law_jumps_due : List Str := ["_law_course_here", "_law_row", "_law_k", "_law_jump"]
theorem sc__law_jumps_due : FnScope N__law_jumps_due ["_law_course_here"] (defScope s__law_jumps_due) := ⟨rfl, rfl, rfl, by decide +kernel, rfl, by decide +kernel, by decide +kernel⟩
abbrev ps__law_jumps_due : List Str := ["_law_course_here"]
def spJD (K : PySem.W.Frag) : Sp := fun vs H Q _ => ∃ (a : Addr) (c : List Pc) (i j l : Nat), vs = [.ref a] ∧ Cq K H a c ∧ Cok c ∧ Cz i j l c ∧ 1 ≤ c.length ∧ c.length ≤ 900 ∧ i + j + l ≤ 500 ∧
  ∀ D us H', Same H H' → H D = none → H' D = some (.lst us) → All2 (Jq K H') us (jl c) → Q (.ref D) H'
theorem ok_jumps_due (T : Bn mg) (F : Fn K mg "_law_jumps_due" s__law_jumps_due ps__law_jumps_due f fd) (d_law_coming : Def P w K mg base k "_law_coming" ["_law_course_here", "_law_k"] (spComing K) f1 fd1) (d_law_minus : Def P w K mg base k "_law_minus" ["_law_a", "_law_b"] (spOp2 K (· - ·)) f2 fd2) :
    Def P w K mg base (k + 1) "_law_jumps_due" ps__law_jumps_due (spJD K) f fd := by
  refine ⟨F.F.ok sc__law_jumps_due (fun vs H Q E h => ?_) (fun cdv A outer s H vs Q E hr h => ?_), F.m, F.F.kp, F.b⟩
  · obtain ⟨_, _, _, _, _, rfl, _⟩ := h
    rfl
  obtain ⟨a, c, i0, j0, l0, rfl, hC, ok, cz, hp, hl, hb, z⟩ := h
  obtain ⟨xs, hx, hc⟩ := id hC
  have hxl := hc.1
  refine ⟨_, (pss_cons (ps_set (i := 1) sc__law_jumps_due.nd rfl (Or.inl rfl) (pe_lst pa_nil))
      (pss_cons (ps_for PassesOwn.never rfl (pi_range2 (by rfl) T.range_ (pa_cons pe_int (pa_cons (pe_callB call_len_seq (by rfl) T.len_ PySem.boot_len (pa_cons (pv 0) pa_nil)) pa_nil))) (pg_name (i := 2) sc__law_jumps_due.nd rfl (Or.inl rfl))
        (pss_cons (ps_set (i := 3) sc__law_jumps_due.nd rfl (Or.inl rfl) (pcall d_law_minus hr (pa_cons (pe_ix ix_tup (pe_ix ix_list (pv 0) (pv 2) (fun _ _ => rfl)) pe_int (fun _ _ => rfl)) (pa_cons (pcall d_law_coming hr (pa_cons (pv 0) (pa_cons (pv 2) pa_nil))) pa_nil))))
        (pss_one (ps_if (pt_cmpR op_ne (pe_ix ix_tup (pv 3) pe_int (fun _ _ => rfl)) pe_int (nomark _))
          (pss_one (ps_expr (pe_bm PySem.F.plainAttrs_list PySem.F.slot_list_append PySem.F.type_list_append mt_append (pv 1) (pa_cons (pe_tup (pa_cons (pe_ix ix_tup (pe_ix ix_list (pv 0) (pv 2) (fun _ _ => rfl)) pe_int (fun _ _ => rfl)) (pa_cons (pv 3) pa_nil))) pa_nil))))
          pss_nil))))
      (pss_one (ps_ret (pv 1))))), ?_⟩
  have p62 : (2 : Int) ^ 62 = 4611686018427387904 := by decide
  refine ⟨Nat.zero_le _, fun D hD => ?_⟩
  have s0 := same_new hD (.lst [])
  refine ⟨_, rfl, a, _, rfl, .inl (s0.seq hx), _, _, rfl, ⟨by omega, by omega, by omega, by omega⟩, for_range (lo := 1) (n := (((xs.length : Nat) : Int) - 1).toNat) (fun i σ G => ∃ (us : List V) (k2 k3 : Option V), σ = [some (.ref a), some (.ref D), k2, k3] ∧ Same H G ∧ G D = some (.lst us) ∧ All2 (Jq K G) us (jl (c.take (i + 1))))
    ⟨[], none, none, rfl, s0, upd_same, ?_⟩ ?_ ?_⟩
  · cases c with
    | nil => simp at hp
    | cons p c => exact All2.nil
  · rintro i σ G hi ⟨us, k2, k3, rfl, s1, hD1, hA⟩
    have hi1 : i + 1 < c.length := by omega
    have e1 : c[i]? = some c[i] := List.getElem?_eq_getElem (by omega)
    have e2 : c[i + 1]? = some c[i + 1] := List.getElem?_eq_getElem hi1
    obtain ⟨p, ep⟩ : ∃ p, p = c[i] := ⟨_, rfl⟩
    obtain ⟨q, eq⟩ : ∃ q, q = c[i + 1] := ⟨_, rfl⟩
    rw [← ep] at e1
    rw [← eq] at e2
    obtain ⟨zs1, zv1, zr1⟩ := cz p (List.mem_of_getElem? e1)
    obtain ⟨zs2, zv2, zr2⟩ := cz q (List.mem_of_getElem? e2)
    obtain ⟨x2, hx2, pq⟩ := hc.at e2
    obtain ⟨b, bs, bv, br, rfl, hb2, r1, r2, r3⟩ := pq
    refine ⟨_, rfl, _, rfl, a, _, _, _, rfl, rfl, s1.seq hx, at_of (j := i + 1) (by omega) hx2, b, _, _, _, rfl, rfl, s1.sqt hb2, at1 rfl, ?_⟩
    refine ⟨_, rfl, _, rfl, a, i, c, p, q, i0, j0, l0, by rw [show (1 + (i : Int)) = ((i + 1 : Nat) : Int) by omega]; rfl, hC.same s1, ok, e1, e2, cz, hb, hl, fun cv G1 f1 rc => ?_⟩
    have zc : Sz (j0 + (l0 + (i0 + i0 + 1)) + 1) (p.v + p.r * (q.s - p.s)) := zv1.add (zr1.mul (zs2.sub zs1))
    refine ⟨_, _, q.v, _, _, _, rfl, r2.same (s1.trans f1), rc, zv2, zc, by omega, fun jv G2 f2 rj => ?_⟩
    have s2 := s1.trans (f1.trans f2)
    have rj : Rq K G2 jv (jmp (ky p) q) := by rw [← jmp_at]; exact rj
    have hD2 : G2 D = some (.lst us) := f2 _ _ (f1 _ _ hD1)
    have hA2 := hA.imp fun _ _ h => h.same (f1.trans f2)
    have en := jl_next e1 e2
    obtain ⟨ja, rfl, hja⟩ := id rj
    refine ⟨_, rfl, ja, _, _, _, rfl, rfl, hja, at0 rfl, rfl, _, rfl, ?_⟩
    by_cases g : jmp (ky p) q = 0
    · refine ifF (by rw [dT ((num0 _).mpr g)]; rfl) ⟨us, _, _, rfl, s2, hD2, ?_⟩
      rw [en, if_pos g, List.append_nil]
      exact hA2
    · refine ifT (by rw [dF fun e => g ((num0 _).mp e)]; rfl) ?_
      have hul := hA.1
      have hjl := jl_len (c.take (i + 1))
      rw [List.length_take] at hjl
      refine ⟨_, rfl, .inl ⟨rfl, _, SqL.of hD2⟩, _, rfl, _, rfl, a, _, _, _, rfl, rfl, s2.seq hx, at_of (j := i + 1) (by omega) hx2, b, _, _, _, rfl, rfl, s2.sqt hb2, at0 rfl, _, rfl, sz2, fun T1 h1 => ?_⟩
      have t1 := same_new h1 (.tup [bs, .ref ja])
      have hD3 := t1 _ _ hD2
      refine ⟨D, _, _, rfl, rfl, hD3, le1000 (by omega), _, _, _, rfl, same_upd (s2.trans t1) hD _, upd_same, ?_⟩
      have fr : Fr D _ _ := Fr.upd (s := D) (H := upd G2 T1 (.tup [bs, .ref ja])) (.lst (us ++ [.ref T1]))
      rw [en, if_neg g]
      have jn : Jq K (upd G2 T1 (.tup [bs, .ref ja])) (.ref T1) (q.s, jmp (ky p) q) := ⟨T1, bs, _, rfl, SqT.of upd_same, (r1.same s2).same t1, rj.same t1⟩
      exact (hA2.imp fun _ _ h => (h.same t1).fr fr ⟨_, hD3⟩).snoc (jn.fr fr ⟨_, hD3⟩)
  · rintro σ G ⟨us, k2, k3, rfl, s1, hD1, hA⟩
    rw [List.take_of_length_le (by omega)] at hA
    exact ⟨_, rfl, z D us G s1 hD hD1 hA⟩
abbrev s__law_continues : Stmt := top 45
abbrev N__law_continues : List Str := ["_law_course_here", "_law_row", "_law_k"]
theorem sc__law_continues : FnScope N__law_continues ["_law_course_here"] (defScope s__law_continues) := ⟨rfl, rfl, rfl, by decide +kernel, rfl, by decide +kernel, by decide +kernel⟩
abbrev ps__law_continues : List Str := ["_law_course_here"]
def nV (n : Nat) : V := .int (n : Int)
def spCont (K : PySem.W.Frag) : Sp := fun vs H Q _ => ∃ (a : Addr) (c : List Pc) (i j l : Nat), vs = [.ref a] ∧ Cq K H a c ∧ Cok c ∧ Cz i j l c ∧ 1 ≤ c.length ∧ c.length ≤ 900 ∧ i + j + l ≤ 500 ∧
  ∀ D H', Same H H' → H D = none → H' D = some (.lst ((gl c c.length).map nV)) → Q (.ref D) H'
theorem ok_continues (T : Bn mg) (F : Fn K mg "_law_continues" s__law_continues ps__law_continues f fd) (d_law_coming : Def P w K mg base k "_law_coming" ["_law_course_here", "_law_k"] (spComing K) f1 fd1) : Def P w K mg base (k + 1) "_law_continues" ps__law_continues (spCont K) f fd := by
  refine ⟨F.F.ok sc__law_continues (fun vs H Q E h => ?_) (fun cdv A outer s H vs Q E hr h => ?_), F.m, F.F.kp, F.b⟩
  · obtain ⟨_, _, _, _, _, rfl, _⟩ := h
    rfl
  obtain ⟨a, c, i0, j0, l0, rfl, hC, ok, cz, hp, hl, hb, z⟩ := h
  obtain ⟨xs, hx, hc⟩ := id hC
  have hxl := hc.1
  refine ⟨_, (pss_cons (ps_set (i := 1) sc__law_continues.nd rfl (Or.inl rfl) (pe_lst pa_nil))
      (pss_cons (ps_for PassesOwn.never rfl (pi_range2 (by rfl) T.range_ (pa_cons pe_int (pa_cons (pe_callB call_len_seq (by rfl) T.len_ PySem.boot_len (pa_cons (pv 0) pa_nil)) pa_nil))) (pg_name (i := 2) sc__law_continues.nd rfl (Or.inl rfl))
        (pss_one (ps_if (PW.pt (pw_and (pt_cmpR (op_eqD hr.units) (pe_ix ix_tup (pe_ix ix_list (pv 0) (pv 2) (fun _ _ => rfl)) pe_int (fun _ _ => rfl)) (pe_ix ix_tup (pe_ix ix_list (pv 0) (pe_op op_sub (pv 2) pe_int) (fun _ _ => rfl)) pe_int (fun _ _ => rfl)) (nomark _)) (pw_and1 (pt_cmpR (op_eqD hr.units) (pcall d_law_coming hr (pa_cons (pv 0) (pa_cons (pv 2) pa_nil))) (pe_ix ix_tup (pe_ix ix_list (pv 0) (pv 2) (fun _ _ => rfl)) pe_int (fun _ _ => rfl)) (nomark _)))))
          (pss_one (ps_expr (pe_bm PySem.F.plainAttrs_list PySem.F.slot_list_append PySem.F.type_list_append mt_append (pv 1) (pa_cons (pv 2) pa_nil))))
          pss_nil)))
      (pss_one (ps_ret (pv 1))))), ?_⟩
  have p62 : (2 : Int) ^ 62 = 4611686018427387904 := by decide
  refine ⟨Nat.zero_le _, fun D hD => ?_⟩
  have s0 := same_new hD (.lst [])
  refine ⟨_, rfl, a, _, rfl, .inl (s0.seq hx), _, _, rfl, ⟨by omega, by omega, by omega, by omega⟩, for_range (lo := 1) (n := (((xs.length : Nat) : Int) - 1).toNat) (fun i σ G => ∃ (k2 : Option V), σ = [some (.ref a), some (.ref D), k2] ∧ Same H G ∧ G D = some (.lst ((gl c (i + 1)).map nV)))
    ⟨none, rfl, s0, upd_same⟩ ?_ ?_⟩
  · rintro i σ G hi ⟨k2, rfl, s1, hD1⟩
    have hi1 : i + 1 < c.length := by omega
    have e1 : c[i]? = some c[i] := List.getElem?_eq_getElem (by omega)
    have e2 : c[i + 1]? = some c[i + 1] := List.getElem?_eq_getElem hi1
    obtain ⟨p, ep⟩ : ∃ p, p = c[i] := ⟨_, rfl⟩
    obtain ⟨q, eq⟩ : ∃ q, q = c[i + 1] := ⟨_, rfl⟩
    rw [← ep] at e1
    rw [← eq] at e2
    have en : gl c (i + 1 + 1) = gl c (i + 1) ++ if decide (ky q = ky p) = true then [i + 1] else [] := by rw [gl_succ, goes_at e1 e2]
    have hgl : (gl c (i + 1)).length ≤ i + 1 := by
      have := List.length_filter_le (goes c) (List.range (i + 1))
      rw [List.length_range] at this
      exact this
    obtain ⟨x1, hx1, pp⟩ := hc.at e1
    obtain ⟨x2, hx2, pq⟩ := hc.at e2
    obtain ⟨d1, ds1, dv1, dr1, rfl, hd1, r11, r12, r13⟩ := pp
    obtain ⟨d2, ds2, dv2, dr2, rfl, hd2, r21, r22, r23⟩ := pq
    refine ⟨_, rfl, _, rfl, a, _, _, _, rfl, rfl, s1.seq hx, at_of (j := i + 1) (by omega) hx2, d2, _, _, _, rfl, rfl, s1.sqt hd2, at2 rfl, _, rfl, _, rfl, _, _, rfl, rfl, a, _, _, _, rfl, rfl, s1.seq hx, at_of (j := i) (by omega) hx1, d1, _, _, _, rfl, rfl, s1.sqt hd1, at2 rfl, ?_⟩
    refine ⟨_, _, (r23.same s1).dp, (r13.same s1).dp, sh_dq _, sh_dq _, _, rfl, ?_⟩
    rw [eqv_dq]
    by_cases g : q.r = p.r
    · refine ifT (by rw [dT g]) ⟨_, rfl, _, rfl, a, i, c, p, q, i0, j0, l0, by rw [show (1 + (i : Int)) = ((i + 1 : Nat) : Int) by omega]; rfl, hC.same s1, ok, e1, e2, cz, hb, hl, fun cv G1 f1 rc => ?_⟩
      refine ⟨_, rfl, _, rfl, a, _, _, _, rfl, rfl, (s1.trans f1).seq hx, at_of (j := i + 1) (by omega) hx2, d2, _, _, _, rfl, rfl, (s1.trans f1).sqt hd2, at1 rfl, _, _, rc.dp, (r22.same (s1.trans f1)).dp, sh_dq _, sh_dq _, _, rfl, ?_⟩
      rw [eqv_dq]
      have iff : (p.v + p.r * (q.s - p.s) = q.v) ↔ jmp (ky p) q = 0 := by
        rw [← jmp_at]
        constructor <;> intro h <;> grind
      by_cases g2 : p.v + p.r * (q.s - p.s) = q.v
      · refine ifT (by rw [dT g2]) ⟨_, rfl, .inl ⟨rfl, _, SqL.of (f1 _ _ hD1)⟩, _, rfl, D, _, _, rfl, rfl, f1 _ _ hD1, le1000 (by rw [List.length_map]; omega), _, rfl, same_upd (s1.trans f1) hD _, ?_⟩
        rw [upd_same, en, if_pos (dT (ky_eq.mpr ⟨g, iff.mp g2⟩)), List.map_append]
        show some (HO.lst (List.map nV (gl c (i + 1)) ++ [V.int (1 + (i : Int))])) = some (HO.lst (List.map nV (gl c (i + 1)) ++ [V.int ((i + 1 : Nat) : Int)]))
        rw [show (1 + (i : Int)) = ((i + 1 : Nat) : Int) by omega]
      · refine ifF (by rw [dF g2]) ⟨_, rfl, s1.trans f1, ?_⟩
        rw [en, if_neg (by rw [dF fun h => g2 (iff.mpr (ky_eq.mp h).2)]; exact Bool.false_ne_true), List.append_nil]
        exact f1 _ _ hD1
    · refine ifF (by rw [dF g]) ⟨_, rfl, s1, ?_⟩
      rw [en, if_neg (by rw [dF fun h => g (ky_eq.mp h).1]; exact Bool.false_ne_true), List.append_nil]
      exact hD1
  · rintro σ G ⟨k2, rfl, s1, hD1⟩
    rw [show (((xs.length : Nat) : Int) - 1).toNat + 1 = c.length by omega] at hD1
    exact ⟨_, rfl, z D G s1 hD hD1⟩
abbrev s__law_is_course : Stmt := top 42
abbrev N__law_is_course : List Str := ["_law_value", "_law_k", "_law_one"]
theorem sc__law_is_course : FnScope N__law_is_course ["_law_value"] (defScope s__law_is_course) := ⟨rfl, rfl, rfl, by decide +kernel, rfl, by decide +kernel, by decide +kernel⟩
abbrev ps__law_is_course : List Str := ["_law_value"]
def spIsC (K : PySem.W.Frag) : Sp := fun vs H Q _ => ∃ (a : Addr) (c : List Pc) (i j l : Nat), vs = [.ref a] ∧ Cq K H a c ∧ Cok c ∧ Cz i j l c ∧ 1 ≤ c.length ∧ c.length ≤ 900 ∧ i + j + l ≤ 500 ∧ ∀ H', Same H H' → Q (.bl true) H'
theorem ok_is_course (T : Bn mg) (F : Fn K mg "_law_is_course" s__law_is_course ps__law_is_course f fd) (d_law_is_frac : Def P w K mg base k "_law_is_frac" ["_law_value"] (spIsFrac K) f1 fd1) (d_law_below : Def P w K mg base k "_law_below" ["_law_a", "_law_b"] (spTest2 K fun p q => .bl (decide (p < q))) f2 fd2) :
    Def P w K mg base (k + 1) "_law_is_course" ps__law_is_course (spIsC K) f fd := by
  refine ⟨F.F.ok sc__law_is_course (fun vs H Q E h => ?_) (fun cdv A outer s H vs Q E hr h => ?_), F.m, F.F.kp, F.b⟩
  · obtain ⟨_, _, _, _, _, rfl, _⟩ := h
    rfl
  obtain ⟨a, c, i0, j0, l0, rfl, hC, ok, cz, hp, hl, hb, z⟩ := h
  obtain ⟨xs, hx, hc⟩ := id hC
  have hxl := hc.1
  have ta := sql_ty hx
  refine ⟨_, (pss_cons (ps_if (PW.pt (pw_or (pt_not (pt_val (pe_callB call_isi (by rfl) T.isinstance_ (by decide +kernel) (pa_cons (pv 0) (pa_cons (pe_bltn (v := .ty "list") (by rfl) T.list_ (by decide +kernel) rfl) pa_nil))))) (pw_or1 (pt_cmpR op_eq (pe_callB call_len_seq (by rfl) T.len_ PySem.boot_len (pa_cons (pv 0) pa_nil)) pe_int (nomark _)))))
        (pss_one (ps_ret pe_bl))
        pss_nil)
      (pss_cons (ps_for PassesOwn.never rfl (pi_range1 (by rfl) T.range_ (pa_cons (pe_callB call_len_seq (by rfl) T.len_ PySem.boot_len (pa_cons (pv 0) pa_nil)) pa_nil)) (pg_name (i := 1) sc__law_is_course.nd rfl (Or.inl rfl))
        (pss_cons (ps_if (PW.pt (pw_or (pt_not (pt_val (pe_callB call_isi (by rfl) T.isinstance_ (by decide +kernel) (pa_cons (pe_ix ix_list (pv 0) (pv 1) (fun _ _ => rfl)) (pa_cons (pe_bltn (v := .ty "tuple") (by rfl) T.tuple_ (by decide +kernel) rfl) pa_nil))))) (pw_or1 (pt_cmpR op_ne (pe_callB call_len_seq (by rfl) T.len_ PySem.boot_len (pa_cons (pe_ix ix_list (pv 0) (pv 1) (fun _ _ => rfl)) pa_nil)) pe_int (nomark _)))))
          (pss_one (ps_ret pe_bl))
          pss_nil)
        (pss_cons (ps_if (PW.pt (pw_or (pt_cmpR op_gt (pe_callB call_len_seq (by rfl) T.len_ PySem.boot_len (pa_cons (pe_lc (own := [("_law_one", 2)]) (g := gName 2) rfl sc__law_is_course.nd (pi_tup (pe_ix ix_list (pv 0) (pv 1) (fun _ _ => rfl))) (blkOk_by (N := N__law_is_course) (sc := defScope s__law_is_course) (by decide +kernel)) (fun _ _ _ _ _ => pg_name (i := 2) sc__law_is_course.nd rfl (Or.inl rfl)) (fun _ _ _ _ _ => pts_one (pt_not (pt_val (pcall d_law_is_frac hr (pa_cons (pv 2) pa_nil))))) (fun _ _ _ _ _ => (pv 2))) pa_nil)) pe_int (nomark _)) (pw_or1 (pt_cmpR op_le (pe_ix ix_tup (pe_ix ix_tup (pe_ix ix_list (pv 0) (pv 1) (fun _ _ => rfl)) pe_int (fun _ _ => rfl)) pe_int (fun _ _ => rfl)) pe_int (nomark _)))))
          (pss_one (ps_ret pe_bl))
          pss_nil)
        (pss_one (ps_if (PW.pt (pw_and (pt_cmpR op_gt (pv 1) pe_int (nomark _)) (pw_and1 (pt_not (pt_val (pcall d_law_below hr (pa_cons (pe_ix ix_tup (pe_ix ix_list (pv 0) (pe_op op_sub (pv 1) pe_int) (fun _ _ => rfl)) pe_int (fun _ _ => rfl)) (pa_cons (pe_ix ix_tup (pe_ix ix_list (pv 0) (pv 1) (fun _ _ => rfl)) pe_int (fun _ _ => rfl)) pa_nil))))))))
          (pss_one (ps_ret pe_bl))
          pss_nil)))))
      (pss_one (ps_ret pe_bl)))), ?_⟩
  have p62 : (2 : Int) ^ 62 = 4611686018427387904 := by decide
  refine ⟨_, rfl, _, _, _, _, true, rfl, .ty _, ta, kit_ty (by decide +kernel), _, rfl, ifF rfl ⟨_, rfl, a, _, rfl, .inl hx, rfl, _, rfl, ifF (dF fun e => by have := V.int.inj e; omega) ?_⟩⟩
  refine ⟨_, rfl, a, _, rfl, .inl hx, _, rfl, by omega, by omega, for_range (n := ((xs.length : Nat) : Int).toNat) (fun i σ G => ∃ (k1 : Option V), σ = [some (.ref a), k1, none] ∧ Same H G) ⟨none, rfl, Same.refl _⟩ ?_ ?_⟩
  · rintro i σ G hi ⟨k1, rfl, s1⟩
    have hi' : i < c.length := by omega
    have e1 : c[i]? = some c[i] := List.getElem?_eq_getElem hi'
    obtain ⟨p, ep⟩ : ∃ p, p = c[i] := ⟨_, rfl⟩
    rw [← ep] at e1
    obtain ⟨zs1, zv1, zr1⟩ := cz p (List.mem_of_getElem? e1)
    obtain ⟨x1, hx1, pp⟩ := hc.at e1
    obtain ⟨d1, ds1, dv1, dr1, rfl, hd1, r11, r12, r13⟩ := pp
    have td := sqt_ty (s1.sqt hd1)
    have r0 := ok.1 p (List.mem_of_getElem? e1)
    refine ⟨_, rfl, _, rfl, a, _, _, _, rfl, rfl, s1.seq hx, at_of (j := i) (by omega) hx1, _, _, _, _, true, rfl, .ty _, td, kit_ty (by decide +kernel), _, rfl, ifF rfl ?_⟩
    refine ⟨_, rfl, _, rfl, a, _, _, _, rfl, rfl, s1.seq hx, at_of (j := i) (by omega) hx1, d1, _, rfl, .inr (s1.sqt hd1), rfl, _, rfl, ifF rfl ?_⟩
    refine ⟨_, rfl, _, rfl, a, _, _, _, rfl, rfl, s1.seq hx, at_of (j := i) (by omega) hx1, d1, rfl, ⟨_, s1.sqt hd1⟩, fun D hD => lc_tup (xs := [ds1, dv1, dr1]) (fun n G' => G' D = some (.lst []) ∧ Same G G') ⟨upd_same, same_new hD _⟩ (fun n G' _ h => h.2.sqt (s1.sqt hd1)) ?_ ?_⟩
    · rintro n x G' hxn ⟨hD1, s2⟩
      obtain ⟨q, m, rq, zq, hm⟩ : ∃ (q : Rat) (m : Nat), Rq K H x q ∧ Sz m q ∧ m ≤ 500 := by
        match n, hxn with
        | 0, h => cases h; exact ⟨_, _, r11, zs1, by omega⟩
        | 1, h => cases h; exact ⟨_, _, r12, zv1, by omega⟩
        | 2, h => cases h; exact ⟨_, _, r13, zr1, by omega⟩
      exact ⟨rfl, _, rfl, x, q, m, rfl, rq.same (s1.trans s2), zq, by omega, fun G2 e2 => ⟨_, rfl, ifF rfl ⟨e2 _ _ hD1, s2.trans e2⟩⟩⟩
    · rintro G' ⟨hD1, s2⟩
      have s3 := s1.trans s2
      obtain ⟨ra, rfl, hra⟩ := id r13
      have np := num_pos r0
      refine ⟨D, _, rfl, .inl (SqL.of hD1), _, _, rfl, rfl, _, rfl, ifF rfl ⟨_, rfl, _, rfl, a, _, _, _, rfl, rfl, s3.seq hx, at_of (j := i) (by omega) hx1, d1, _, _, _, rfl, rfl, s3.sqt hd1, at2 rfl, ra, _, _, _, rfl, rfl, s3.sqt hra, at0 rfl, _, _, rfl, rfl, _, rfl, ifF (dF (by omega)) ?_⟩⟩
      refine ⟨_, rfl, _, _, rfl, rfl, _, rfl, ifD (fun g => ?_) (fun g => ifF rfl ⟨_, rfl, s3⟩)⟩
      have e0 : c[i - 1]? = some c[i - 1] := List.getElem?_eq_getElem (by omega)
      obtain ⟨p0, ep0⟩ : ∃ p, p = c[i - 1] := ⟨_, rfl⟩
      rw [← ep0] at e0
      obtain ⟨zs0, _, _⟩ := cz p0 (List.mem_of_getElem? e0)
      obtain ⟨x0, hx0, d0, ds0, dv0, dr0, rfl, hd0, r01, _, _⟩ := hc.at e0
      have lt := cok_lt ok (show i - 1 < i by omega) e0 e1
      refine ⟨_, rfl, _, rfl, _, _, rfl, rfl, a, _, _, _, rfl, rfl, s3.seq hx, at_of (j := i - 1) (by omega) hx0, d0, _, _, _, rfl, rfl, s3.sqt hd0, at0 rfl, _, rfl, _, rfl, a, _, _, _, rfl, rfl, s3.seq hx, at_of (j := i) (by omega) hx1, d1, _, _, _, rfl, rfl, s3.sqt hd1, at0 rfl, ?_⟩
      exact ⟨_, _, p0.s, p.s, i0, i0, rfl, r01.same s3, r11.same s3, zs0, zs1, by omega, _, rfl, ifF (by rw [dT lt]; rfl) ⟨_, rfl, s3⟩⟩
  · rintro σ G ⟨k1, rfl, s1⟩
    exact z _ s1
end Vk

namespace Vk
open PySem L2 Vm
variable {l az : Addr} {P : Program} {w : World} {K : PySem.W.Frag} {mg : Str → Option Value} {base : Heap} {k : Nat} {f f1 f2 f3 f4 f5 f6 f7 f8 f9 : Addr} {fd fd1 fd2 fd3 fd4 fd5 fd6 fd7 fd8 fd9 : FuncData}
def spOrd8 (K : PySem.W.Frag) : Sp := fun vs H Q _ => ∃ (a : Addr) (xs : List V) (qs : List Rat) (m : Nat), vs = [.ref a] ∧ SqL K H a xs ∧ All2 (Rq K H) xs qs ∧ (∀ q ∈ qs, Sz m q) ∧ m ≤ 4000 ∧ qs.length ≤ 900 ∧
  ∀ D us os H', Same H H' → H D = none → H' D = some (.lst us) → All2 (Rq K H') us os → Asc os → (∀ o ∈ os, o ∈ qs) → os.length ≤ qs.length → (∀ q ∈ qs, q ∈ os) → Q (.ref D) H'
theorem ok_ord8 (T : Bn mg) (F : Fn K mg "_law_ordered" s__law_ordered ps__law_ordered f fd) (d_law_below : Def P w K mg base k "_law_below" ["_law_a", "_law_b"] (spTest2 K fun p q => .bl (decide (p < q))) f1 fd1) :
    Def P w K mg base (k + 1) "_law_ordered" ps__law_ordered (spOrd8 K) f fd := by
  refine ⟨F.F.ok sc__law_ordered (fun vs H Q E h => ?_) (fun cdv A outer s H vs Q E hr h => ?_), F.m, F.F.kp, F.b⟩
  · obtain ⟨_, _, _, _, rfl, _⟩ := h
    rfl
  obtain ⟨a, xs, qs, sz0, rfl, hx, hq, zq, hsz, hl, z⟩ := h
  refine ⟨_, (pss_cons (ps_set (i := 1) sc__law_ordered.nd rfl (Or.inl rfl) (pe_lst pa_nil))
      (pss_cons (ps_for PassesOwn.never rfl (pi_list (pv 0)) (pg_name (i := 2) sc__law_ordered.nd rfl (Or.inl rfl))
        (pss_cons (ps_set (i := 3) sc__law_ordered.nd rfl (Or.inl rfl) pe_int)
        (pss_cons (ps_for PassesOwn.never rfl (pi_range1 (by rfl) T.range_ (pa_cons (pe_callB call_len_seq (by rfl) T.len_ PySem.boot_len (pa_cons (pv 1) pa_nil)) pa_nil)) (pg_name (i := 4) sc__law_ordered.nd rfl (Or.inl rfl))
          (pss_one (ps_if (pt_val (pcall d_law_below hr (pa_cons (pe_ix ix_list (pv 1) (pv 4) (fun _ _ => rfl)) (pa_cons (pv 2) pa_nil))))
            (pss_one (ps_set (i := 3) sc__law_ordered.nd rfl (Or.inl rfl) (pe_op op_add (pv 4) pe_int)))
            pss_nil)))
        (pss_one (ps_if (PW.pt (pw_or (pt_cmpR op_eq (pv 3) (pe_callB call_len_seq (by rfl) T.len_ PySem.boot_len (pa_cons (pv 1) pa_nil)) (nomark _)) (pw_or1 (pt_cmpR (op_neD hr.units) (pe_ix ix_list (pv 1) (pv 3) (fun _ _ => rfl)) (pv 2) (nomark _)))))
          (pss_one (ps_expr (pe_bm PySem.F.plainAttrs_list PySem.F.slot_list_insert PySem.F.type_list_insert mt_insert (pv 1) (pa_cons (pv 3) (pa_cons (pv 2) pa_nil)))))
          pss_nil)))))
      (pss_one (ps_ret (pv 1))))), ?_⟩
  have p62 : (2 : Int) ^ 62 = 4611686018427387904 := by decide
  have p63 : (2 : Int) ^ 63 = 9223372036854775808 := by decide
  refine ⟨Nat.zero_le _, fun D hD => ?_⟩
  refine ⟨_, rfl, a, rfl, ⟨_, (same_new hD _).seq hx⟩, for_list (K := K) (a := a) (xs := xs) (fun i σ G => ∃ (us : List V) (os : List Rat) (k1 k2 k3 : Option V), σ = [some (.ref a), some (.ref D), k1, k2, k3] ∧ Same H G ∧ G D = some (.lst us) ∧ All2 (Rq K G) us os ∧ Asc os ∧ (∀ o ∈ os, o ∈ qs) ∧ os.length ≤ i ∧ (∀ q ∈ qs.take i, q ∈ os))
    ⟨[], [], none, none, none, rfl, same_new hD _, upd_same, All2.nil, List.Pairwise.nil, nofun, Nat.le_refl _, fun q h => by rw [List.take_zero] at h; cases h⟩ (fun i σ G _ h => by obtain ⟨_, _, _, _, _, _, s1, _⟩ := h; exact s1.seq hx) ?_ ?_⟩
  · rintro i x σ G hxi ⟨us, os, k1, k2, k3, rfl, s1, hD1, hA, asc, sub, ln, all⟩
    have hi : i < qs.length := by rw [← hq.1]; exact (List.getElem?_eq_some_iff.mp hxi).1
    have hqi : qs[i]? = some qs[i] := List.getElem?_eq_getElem hi
    have hmem : qs[i] ∈ qs := List.getElem_mem hi
    have rx := (hq.2 i x _ hxi hqi).same s1
    obtain ⟨one, eo⟩ : ∃ o, o = qs[i] := ⟨_, rfl⟩
    rw [← eo] at rx hmem
    have zo := zq one hmem
    have zos : ∀ o ∈ os, Sz sz0 o := fun o ho => zq o (sub o ho)
    have hal := hA.1
    refine ⟨_, rfl, D, _, rfl, .inl (SqL.of hD1), _, rfl, by omega, by omega, for_range (n := ((us.length : Nat) : Int).toNat) (fun j σ G' => ∃ (m : Nat) (k3 : Option V), σ = [some (.ref a), some (.ref D), some x, some (.int m), k3] ∧ G' = G ∧ Spot os one j m)
      ⟨0, k3, rfl, rfl, Nat.le_refl _, fun t o h => absurd h (by omega)⟩ ?_ ?_⟩
    · rintro j σ G' hj ⟨m, k3, rfl, rfl, sp⟩
      have hj' : j < os.length := by omega
      have hoj : os[j]? = some os[j] := List.getElem?_eq_getElem hj'
      obtain ⟨y, hy, ry⟩ := hA.at hoj
      have sn := spot_next asc sp hoj
      refine ⟨_, rfl, _, rfl, D, _, _, y, rfl, rfl, SqL.of hD1, at_of (j := j) (by omega) hy, _, rfl, _, _, os[j], one, sz0, sz0, rfl, ry, rx, zos _ (List.getElem_mem hj'), zo, by omega, _, rfl, ifD (fun g => ?_) (fun g => ?_)⟩
      · rw [if_pos g] at sn
        refine ⟨_, rfl, _, _, rfl, rfl, j + 1, some (.int (0 + (j : Int))), ?_, rfl, sn⟩
        show [some (V.ref a), some (V.ref D), some x, some (V.int (0 + (j : Int) + 1)), some (V.int (0 + (j : Int)))] = _
        rw [show (0 + (j : Int) + 1) = ((j + 1 : Nat) : Int) by omega]
      · rw [if_neg g] at sn
        exact ⟨m, _, rfl, rfl, sn⟩
    · rintro σ G' ⟨m, k3, rfl, rfl, sp⟩
      have sp : Spot os one os.length m := by
        have e : ((us.length : Nat) : Int).toNat = os.length := by omega
        rw [e] at sp
        exact sp
      have hm := sp.1
      have put : os[m]? ≠ some one → ∃ (us' : List V) (os' : List Rat) (k1 k2 k3' : Option V), [some (.ref a), some (.ref D), some x, some (.int m), k3] = [some (.ref a), some (.ref D), k1, k2, k3'] ∧ Same H (upd G' D (.lst (us.take m ++ [x] ++ us.drop m))) ∧ (upd G' D (.lst (us.take m ++ [x] ++ us.drop m))) D = some (.lst us') ∧
          All2 (Rq K (upd G' D (.lst (us.take m ++ [x] ++ us.drop m)))) us' os' ∧ Asc os' ∧ (∀ o ∈ os', o ∈ qs) ∧ os'.length ≤ i + 1 ∧ (∀ q ∈ qs.take (i + 1), q ∈ os') := fun hn => by
        have fr : Fr D G' (upd G' D (.lst (us.take m ++ [x] ++ us.drop m))) := Fr.upd _
        have hA' := hA.imp fun _ _ h => Rq.fr fr ⟨_, hD1⟩ h
        refine ⟨_, os.take m ++ [one] ++ os.drop m, _, _, _, rfl, same_upd s1 hD _, upd_same, ((hA'.take m).append (All2.one (rx.fr fr ⟨_, hD1⟩))).append (hA'.drop m), asc_insert asc sp hn, fun o ho => ?_, ?_, fun q hq => ?_⟩
        · rcases List.mem_append.mp ho with ho | ho
          · rcases List.mem_append.mp ho with ho | ho
            · exact sub o (List.mem_of_mem_take ho)
            · rw [List.mem_singleton.mp ho]
              exact hmem
          · exact sub o (List.mem_of_mem_drop ho)
        · rw [List.length_append, List.length_append, List.length_take, List.length_drop, List.length_singleton]
          omega
        · rw [List.take_add_one, hqi] at hq
          rcases List.mem_append.mp hq with hq | hq
          · have hq := all q hq
            rw [← List.take_append_drop m os] at hq
            rcases List.mem_append.mp hq with hq | hq
            · exact List.mem_append_left _ (List.mem_append_left _ hq)
            · exact List.mem_append_right _ hq
          · have hq : q = one := by rw [eo]; exact List.mem_singleton.mp hq
            rw [hq]
            exact List.mem_append_left _ (List.mem_append_right _ (List.mem_singleton.mpr rfl))
      refine ⟨_, rfl, _, rfl, D, _, rfl, .inl (SqL.of hD1), rfl, _, rfl, ifD (fun g => ifT rfl ?_) (fun g => ?_)⟩
      · have g' := V.int.inj g
        have hn : os[m]? ≠ some one := by rw [List.getElem?_eq_none (by omega)]; exact nofun
        exact ⟨_, rfl, .inl ⟨rfl, _, SqL.of hD1⟩, _, rfl, _, rfl, D, _, _, _, rfl, rfl, hD1, le1000 (by omega), by omega, by omega, put hn⟩
      · have g' : m ≠ us.length := fun e => g (by rw [e])
        have hmo : os[m]? = some os[m] := List.getElem?_eq_getElem (by omega)
        obtain ⟨y, hy, ry⟩ := hA.at hmo
        refine ⟨_, rfl, _, rfl, D, _, _, y, rfl, rfl, SqL.of hD1, at_of (j := m) rfl hy, _, rfl, _, _, ry.dp, rx.dp, sh_dq _, sh_dq _, _, rfl, ?_⟩
        rw [eqv_dq]
        by_cases e : os[m] = one
        · refine ifF (by rw [dT e]; rfl) ⟨us, os, _, _, _, rfl, s1, hD1, hA, asc, sub, by omega, fun q hq => ?_⟩
          rw [List.take_add_one, hqi] at hq
          rcases List.mem_append.mp hq with hq | hq
          · exact all q hq
          · have hq : q = one := by rw [eo]; exact List.mem_singleton.mp hq
            rw [hq, ← e]
            exact List.getElem_mem _
        · refine ifT (by rw [dF e]; rfl) ?_
          have hn : os[m]? ≠ some one := by rw [hmo]; exact fun z => e (Option.some.inj z)
          exact ⟨_, rfl, .inl ⟨rfl, _, SqL.of hD1⟩, _, rfl, _, rfl, D, _, _, _, rfl, rfl, hD1, le1000 (by omega), by omega, by omega, put hn⟩
  · rintro σ G ⟨us, os, k1, k2, k3, rfl, s1, hD1, hA, asc, sub, ln, ne⟩
    rw [hq.1] at ln
    rw [hq.1, List.take_length] at ne
    exact ⟨_, rfl, z D us os G s1 hD hD1 hA asc sub ln ne⟩


/-- a start and None -/
def Sn (K : PySem.W.Frag) (H : Hp) (x : V) (q : Rat) : Prop := ∃ a xs, x = .ref a ∧ SqT K H a [xs, .non] ∧ Rq K H xs q
theorem Sn.same {H H' : Hp} {x : V} {q : Rat} (e : Same H H') (h : Sn K H x q) : Sn K H' x q := by
  obtain ⟨a, xs, rfl, h, h1⟩ := h
  exact ⟨a, xs, rfl, e.sqt h, h1.same e⟩
theorem Sn.fr {s : Addr} {H H' : Hp} {x : V} {q : Rat} (e : Fr s H H') (hs : ∃ ys, H s = some (.lst ys)) (h : Sn K H x q) : Sn K H' x q := by
  obtain ⟨a, xs, rfl, h, h1⟩ := h
  exact ⟨a, xs, rfl, sqt_fr e hs h, h1.fr e hs⟩
abbrev s__law_probes : Stmt := top 36
abbrev N__law_probes : List Str := ["_law_spans", "_law_ends", "_law_span", "_law_one", "_law_row", "_law_k"]
theorem sc__law_probes : FnScope N__law_probes ["_law_spans"] (defScope s__law_probes) := ⟨rfl, rfl, rfl, by decide +kernel, rfl, by decide +kernel, by decide +kernel⟩
abbrev ps__law_probes : List Str := ["_law_spans"]
def spProbes (K : PySem.W.Frag) : Sp := fun vs H Q _ => ∃ (a : Addr) (xs : List V) (qs : List Rat) (m : Nat), vs = [.ref a] ∧ SqL K H a xs ∧ All2 (Sn K H) xs qs ∧ (∀ q ∈ qs, Sz m q) ∧ m ≤ 500 ∧ 1 ≤ qs.length ∧ qs.length ≤ 100 ∧
  ∀ D us ts H', Same H H' → H D = none → H' D = some (.lst us) → All2 (Rq K H') us ts → (∀ t ∈ ts, Sz (m + m + 4) t) → (∃ t ∈ ts, ∀ q ∈ qs, q < t) → ts.length ≤ 400 → Q (.ref D) H'
theorem ok_probes (T : Bn mg) (F : Fn K mg "_law_probes" s__law_probes ps__law_probes f fd) (d_law_ordered : Def P w K mg base k "_law_ordered" ["_law_fracs"] (spOrd8 K) f1 fd1) (d_law_minus : Def P w K mg base k "_law_minus" ["_law_a", "_law_b"] (spOp2 K (· - ·)) f2 fd2)
    (d_law_times : Def P w K mg base k "_law_times" ["_law_a", "_law_b"] (spOp2 K (· * ·)) f3 fd3) (d_law_plus : Def P w K mg base k "_law_plus" ["_law_a", "_law_b"] (spOp2 K (· + ·)) f4 fd4) : Def P w K mg base (k + 1) "_law_probes" ps__law_probes (spProbes K) f fd := by
  refine ⟨F.F.ok sc__law_probes (fun vs H Q E h => ?_) (fun cdv A outer s H vs Q E hr h => ?_), F.m, F.F.kp, F.b⟩
  · obtain ⟨_, _, _, _, rfl, _⟩ := h
    rfl
  obtain ⟨a, xs, qs, m, rfl, hx, hq, zq, hm, h1, hl, z⟩ := h
  refine ⟨_, (pss_cons (ps_set (i := 1) sc__law_probes.nd rfl (Or.inl rfl) (pe_lst pa_nil))
      (pss_cons (ps_for PassesOwn.never rfl (pi_list (pv 0)) (pg_name (i := 2) sc__law_probes.nd rfl (Or.inl rfl))
        (pss_one (ps_set (i := 1) sc__law_probes.nd rfl (Or.inl rfl) (pe_op op_cat (pv 1) (pe_lc (own := [("_law_one", 3)]) (g := gName 3) rfl sc__law_probes.nd (pi_tup (pv 2)) (blkOk_by (N := N__law_probes) (sc := defScope s__law_probes) (by decide +kernel)) (fun _ _ _ _ _ => pg_name (i := 3) sc__law_probes.nd rfl (Or.inl rfl)) (fun _ _ _ _ _ => pts_one (pt_cmpR op_notN (pv 3) pe_non (nomark _))) (fun _ _ _ _ _ => (pv 3)))))))
      (pss_cons (ps_set (i := 1) sc__law_probes.nd rfl (Or.inl rfl) (pcall d_law_ordered hr (pa_cons (pv 1) pa_nil)))
      (pss_cons (ps_if (pt_cmpR op_eq (pe_callB call_len_seq (by rfl) T.len_ PySem.boot_len (pa_cons (pv 1) pa_nil)) pe_int (nomark _))
        (pss_one (ps_ret (pe_lst (pa_cons (pe_tup (pa_cons pe_int (pa_cons pe_int pa_nil))) pa_nil))))
        pss_nil)
      (pss_cons (ps_set (i := 4) sc__law_probes.nd rfl (Or.inl rfl) (pe_lst (pa_cons (pcall d_law_minus hr (pa_cons (pe_ix ix_list (pv 1) pe_int (fun _ _ => rfl)) (pa_cons (pe_tup (pa_cons pe_int (pa_cons pe_int pa_nil))) pa_nil))) pa_nil)))
      (pss_cons (ps_for PassesOwn.never rfl (pi_range1 (by rfl) T.range_ (pa_cons (pe_callB call_len_seq (by rfl) T.len_ PySem.boot_len (pa_cons (pv 1) pa_nil)) pa_nil)) (pg_name (i := 5) sc__law_probes.nd rfl (Or.inl rfl))
        (pss_cons (ps_expr (pe_bm PySem.F.plainAttrs_list PySem.F.slot_list_append PySem.F.type_list_append mt_append (pv 4) (pa_cons (pe_ix ix_list (pv 1) (pv 5) (fun _ _ => rfl)) pa_nil)))
        (pss_one (ps_if (pt_cmpR op_lt (pe_op op_add (pv 5) pe_int) (pe_callB call_len_seq (by rfl) T.len_ PySem.boot_len (pa_cons (pv 1) pa_nil)) (nomark _))
          (pss_one (ps_expr (pe_bm PySem.F.plainAttrs_list PySem.F.slot_list_append PySem.F.type_list_append mt_append (pv 4) (pa_cons (pcall d_law_times hr (pa_cons (pcall d_law_plus hr (pa_cons (pe_ix ix_list (pv 1) (pv 5) (fun _ _ => rfl)) (pa_cons (pe_ix ix_list (pv 1) (pe_op op_add (pv 5) pe_int) (fun _ _ => rfl)) pa_nil))) (pa_cons (pe_tup (pa_cons pe_int (pa_cons pe_int pa_nil))) pa_nil))) pa_nil))))
          pss_nil))))
      (pss_one (ps_ret (pe_op op_cat (pv 4) (pe_lst (pa_cons (pcall d_law_plus hr (pa_cons (pe_ix ix_list (pv 1) (pe_op op_sub (pe_callB call_len_seq (by rfl) T.len_ PySem.boot_len (pa_cons (pv 1) pa_nil)) pe_int) (fun _ _ => rfl)) (pa_cons (pe_tup (pa_cons pe_int (pa_cons pe_int pa_nil))) pa_nil))) pa_nil))))))))))), ?_⟩
  have p62 : (2 : Int) ^ 62 = 4611686018427387904 := by decide
  have o1 : Sz 1 (1 : Rat) := by decide +kernel
  have zh : Sz 2 (mkRat 1 2) := by decide +kernel
  refine ⟨Nat.zero_le _, fun D0 hD0 => ?_⟩
  have s0 := same_new hD0 (.lst [])
  refine ⟨_, rfl, a, rfl, ⟨_, s0.seq hx⟩, for_list (K := K) (a := a) (xs := xs) (fun i σ G => ∃ (De : Addr) (es : List V) (k2 k4 k5 : Option V), σ = [some (.ref a), some (.ref De), k2, none, k4, k5] ∧ Same H G ∧ G De = some (.lst es) ∧ All2 (Rq K G) es (qs.take i))
    ⟨D0, [], none, none, none, rfl, s0, upd_same, by rw [List.take_zero]; exact All2.nil⟩ (fun i σ G _ h => by obtain ⟨_, _, _, _, _, _, s1, _⟩ := h; exact s1.seq hx) ?_ ?_⟩
  · rintro i x σ G hxi ⟨De, es, k2, k4, k5, rfl, s1, hDe, hA⟩
    have hi : i < qs.length := by rw [← hq.1]; exact (List.getElem?_eq_some_iff.mp hxi).1
    have eqi : qs[i]? = some qs[i] := List.getElem?_eq_getElem hi
    obtain ⟨b, bs, rfl, hb, rb⟩ := (hq.2 i x _ hxi eqi).same s1
    have hal := hA.1
    rw [List.length_take] at hal
    refine ⟨_, rfl, _, rfl, b, rfl, ⟨_, hb⟩, fun D hD => lc_tup (xs := [bs, .non]) (fun n G' => G' D = some (.lst (if n = 0 then [] else [bs])) ∧ Same G G') ⟨upd_same, same_new hD _⟩ (fun n G' _ h => h.2.sqt hb) ?_ ?_⟩
    · rintro n x G' hxn ⟨hD1, s2⟩
      obtain ⟨ba, rfl, hba⟩ := id rb
      match n, hxn with
      | 0, h =>
        cases h
        exact ⟨rfl, _, rfl, rfl, _, rfl, ifT rfl ⟨_, rfl, [], hD1, by decide, upd_same, same_upd s2 hD _⟩⟩
      | 1, h =>
        cases h
        exact ⟨rfl, _, rfl, rfl, _, rfl, ifF rfl ⟨hD1, s2⟩⟩
    · rintro G' ⟨hD1, s2⟩
      have hD1 : G' D = some (.lst [bs]) := hD1
      refine ⟨De, D, es, [bs], rfl, rfl, s2 _ _ hDe, hD1, Nat.le_of_lt (le1000 (by show es.length + 1 ≤ 1000; omega)), fun p hp => ?_⟩
      have s3 := same_new hp (.lst (es ++ [bs]))
      refine ⟨p, _, _, _, _, rfl, s1.trans (s2.trans s3), upd_same, ?_⟩
      rw [List.take_add_one, eqi]
      exact (hA.imp fun _ _ h => (h.same s2).same s3).snoc ((rb.same s2).same s3)
  · rintro σ G ⟨De, es, k2, k4, k5, rfl, s1, hDe, hA⟩
    rw [hq.1, List.take_length] at hA
    refine ⟨_, rfl, De, es, qs, m, rfl, SqL.of hDe, hA, zq, by omega, by omega, fun Do uo os G1 e1 hDo hDo' hO asc sub len all => ?_⟩
    have s2 := s1.trans e1
    have lo := hO.1
    have op : 0 < os.length := List.length_pos_iff.mpr fun e => by
      have := all qs[0] (List.getElem_mem (by omega))
      rw [e] at this
      cases this
    have zo : ∀ o ∈ os, Sz m o := fun o ho => zq o (sub o ho)
    refine ⟨_, rfl, Do, _, rfl, .inl (SqL.of hDo'), rfl, _, rfl, ifF (dF fun e => by have := V.int.inj e; omega) ?_⟩
    have eo0 : os[0]? = some os[0] := List.getElem?_eq_getElem op
    obtain ⟨y0, hy0, ry0⟩ := hO.at eo0
    refine ⟨_, rfl, Do, _, _, _, rfl, rfl, SqL.of hDo', at0 hy0, sz2, fun t1 ht1 => ?_⟩
    have st1 := same_new ht1 (.tup [.int 1, .int 1])
    have r1 : Rq K (upd G1 t1 (.tup [.int 1, .int 1])) (.ref t1) 1 := rq_new 1 1 _ (by decide +kernel) (by decide +kernel)
    refine ⟨_, _, os[0], 1, m, 1, rfl, ry0.same st1, r1, zo _ (List.getElem_mem op), o1, by omega, fun w1 G2 e2 g2 => ⟨sm1, fun Dr hDr => ?_⟩⟩
    have sr := same_new hDr (.lst [w1])
    have s3 := (st1.trans e2).trans sr
    have s4 := s2.trans s3
    have nro : Do ≠ Dr := ne_at ((st1.trans e2) _ _ hDo') hDr
    refine ⟨_, rfl, Do, _, rfl, .inl (SqL.of (s3 _ _ hDo')), _, rfl, by omega, by omega, for_range (n := ((uo.length : Nat) : Int).toNat) (fun i σ G => ∃ (us : List V) (ts : List Rat) (k2 k5 : Option V), σ = [some (.ref a), some (.ref Do), k2, none, some (.ref Dr), k5] ∧ Same H G ∧ G Do = some (.lst uo) ∧ All2 (Rq K G) uo os ∧ G Dr = some (.lst us) ∧ All2 (Rq K G) us ts ∧ (∀ t ∈ ts, Sz (m + m + 4) t) ∧ ts.length ≤ 1 + i + i)
      ⟨[w1], [os[0] - 1], _, _, rfl, s4, s3 _ _ hDo', hO.imp fun _ _ h => h.same s3, upd_same, All2.one (g2.same sr), fun t ht => by rw [List.mem_singleton.mp ht]; exact ((zo _ (List.getElem_mem op)).sub o1).mono (by omega), by show 1 ≤ _; omega⟩ ?_ ?_⟩
    · rintro i σ G hi ⟨us, ts, k2, k5, rfl, s5, hDo5, hO5, hDr5, hT5, zt, lt⟩
      have hi' : i < os.length := by omega
      have eoi : os[i]? = some os[i] := List.getElem?_eq_getElem hi'
      obtain ⟨yi, hyi, ryi⟩ := hO5.at eoi
      have hul := hT5.1
      have hDrn : H Dr = none := by
        cases q : H Dr with
        | none => rfl
        | some o => have := (s2.trans (st1.trans e2)) _ _ q; rw [hDr] at this; cases this
      refine ⟨_, rfl, .inl ⟨rfl, _, SqL.of hDr5⟩, _, rfl, _, rfl, Do, _, _, _, rfl, rfl, SqL.of hDo5, at_of (j := i) (by omega) hyi, Dr, _, _, rfl, rfl, hDr5, le1000 (by omega), ?_⟩
      have fr : Fr Dr G (upd G Dr (.lst (us ++ [yi]))) := Fr.upd _
      have s6 : Same H (upd G Dr (.lst (us ++ [yi]))) := same_upd s5 hDrn _
      have hDo6 : (upd G Dr (.lst (us ++ [yi]))) Do = some (.lst uo) := by rw [upd_ne nro]; exact hDo5
      have hO6 := hO5.imp fun _ _ h => Rq.fr fr ⟨_, hDr5⟩ h
      have hT6 := (hT5.imp fun _ _ h => Rq.fr fr ⟨_, hDr5⟩ h).snoc (ryi.fr fr ⟨_, hDr5⟩)
      have hDr6 : (upd G Dr (.lst (us ++ [yi]))) Dr = some (.lst (us ++ [yi])) := upd_same
      have zt6 : ∀ t ∈ ts ++ [os[i]], Sz (m + m + 4) t := fun t ht => by
        rcases List.mem_append.mp ht with ht | ht
        · exact zt t ht
        · rw [List.mem_singleton.mp ht]
          exact (zo _ (List.getElem_mem hi')).mono (by omega)
      have lt6 : (ts ++ [os[i]]).length ≤ 1 + i + i + 1 := by rw [List.length_append, List.length_singleton]; omega
      generalize upd G Dr (.lst (us ++ [yi])) = G6 at s6 hDo6 hO6 hT6 hDr6 ⊢
      generalize us ++ [yi] = us6 at hT6 hDr6
      generalize ts ++ [os[i]] = ts6 at hT6 zt6 lt6
      have hul6 := hT6.1
      refine ⟨_, rfl, _, _, rfl, rfl, _, rfl, Do, _, rfl, .inl (SqL.of hDo6), _, _, rfl, rfl, _, rfl, ifD (fun g => ?_) (fun g => ⟨us6, ts6, _, _, rfl, s6, hDo6, hO6, hDr6, hT6, zt6, by omega⟩)⟩
      have hi2 : i + 1 < os.length := by omega
      have eo2 : os[i + 1]? = some os[i + 1] := List.getElem?_eq_getElem hi2
      obtain ⟨y1, hy1, r11⟩ := hO6.at eoi
      obtain ⟨y2, hy2, r12⟩ := hO6.at eo2
      have zi := zo _ (List.getElem_mem hi')
      have zi2 := zo _ (List.getElem_mem hi2)
      refine ⟨_, rfl, .inl ⟨rfl, _, SqL.of hDr6⟩, _, rfl, _, rfl, Do, _, _, _, rfl, rfl, SqL.of hDo6, at_of (j := i) (by omega) hy1, _, rfl, _, rfl, _, _, rfl, rfl, Do, _, _, _, rfl, rfl, SqL.of hDo6, at_of (j := i + 1) (by omega) hy2, ?_⟩
      refine ⟨_, _, os[i], os[i + 1], m, m, rfl, r11, r12, zi, zi2, by omega, fun w2 G7 e7 g7 => ⟨sz2, fun t2 ht2 => ?_⟩⟩
      have st2 := same_new ht2 (.tup [.int 1, .int 2])
      have rh : Rq K (upd G7 t2 (.tup [.int 1, .int 2])) (.ref t2) (mkRat 1 2) := rq_new 1 2 _ (by decide +kernel) (by decide +kernel)
      refine ⟨_, _, os[i] + os[i + 1], mkRat 1 2, m + m + 1, 2, rfl, g7.same st2, rh, zi.add zi2, zh, by omega, fun w3 G8 e8 g8 => ?_⟩
      have s8 := (e7.trans st2).trans e8
      refine ⟨Dr, _, _, rfl, rfl, s8 _ _ hDr6, le1000 (by omega), ?_⟩
      have fr8 : Fr Dr G8 (upd G8 Dr (.lst (us6 ++ [w3]))) := Fr.upd _
      have hDr8 := s8 _ _ hDr6
      refine ⟨us6 ++ [w3], ts6 ++ [(os[i] + os[i + 1]) * mkRat 1 2], _, _, rfl, same_upd (s6.trans s8) hDrn _, by rw [upd_ne nro]; exact s8 _ _ hDo6, hO6.imp fun _ _ h => (h.same s8).fr fr8 ⟨_, hDr8⟩, upd_same, (hT6.imp fun _ _ h => (h.same s8).fr fr8 ⟨_, hDr8⟩).snoc (Rq.fr fr8 ⟨_, hDr8⟩ g8), fun t ht => ?_, by rw [List.length_append, List.length_singleton]; omega⟩
      rcases List.mem_append.mp ht with ht | ht
      · exact zt6 t ht
      · rw [List.mem_singleton.mp ht]
        exact ((zi.add zi2).mul zh).mono (by omega)
    · rintro σ G ⟨us, ts, k2, k5, rfl, s5, hDo5, hO5, hDr5, hT5, zt, lt⟩
      have eol : os[os.length - 1]? = some os[os.length - 1] := List.getElem?_eq_getElem (by omega)
      obtain ⟨yl, hyl, ryl⟩ := hO5.at eol
      have zl := zo _ (List.mem_of_getElem? eol)
      have hul := hT5.1
      refine ⟨_, rfl, _, rfl, _, rfl, Do, _, rfl, .inl (SqL.of hDo5), _, _, rfl, rfl, Do, _, _, _, rfl, rfl, SqL.of hDo5, at_of (j := os.length - 1) (by omega) hyl, sz2, fun t3 ht3 => ?_⟩
      have st3 := same_new ht3 (.tup [.int 1, .int 1])
      have r3 : Rq K (upd G t3 (.tup [.int 1, .int 1])) (.ref t3) 1 := rq_new 1 1 _ (by decide +kernel) (by decide +kernel)
      refine ⟨_, _, os[os.length - 1], 1, m, 1, rfl, ryl.same st3, r3, zl, o1, by omega, fun w4 G9 e9 g9 => ⟨sm1, fun D4 hD4 => ?_⟩⟩
      have s9 := (st3.trans e9).trans (same_new hD4 (.lst [w4]))
      refine ⟨Dr, D4, us, [w4], rfl, rfl, s9 _ _ hDr5, upd_same, Nat.le_of_lt (le1000 (by show us.length + 1 ≤ 1000; omega)), fun p hp => ?_⟩
      have sp := same_new hp (.lst (us ++ [w4]))
      have g9 : Rq K G9 w4 (os[os.length - 1] + 1) := g9
      refine z p (us ++ [w4]) (ts ++ [os[os.length - 1] + 1]) _ (s5.trans (s9.trans sp)) ?_ upd_same ((hT5.imp fun _ _ h => (h.same s9).same sp).snoc ((g9.same (same_new hD4 _)).same sp)) (fun t ht => ?_) ⟨_, List.mem_append_right _ (List.mem_singleton.mpr rfl), fun q hq' => ?_⟩ (by rw [List.length_append, List.length_singleton]; omega)
      · cases q : H p with
        | none => rfl
        | some o => have := (s5.trans s9) _ _ q; rw [hp] at this; cases this
      · rcases List.mem_append.mp ht with ht | ht
        · exact zt t ht
        · rw [List.mem_singleton.mp ht]
          exact (zl.add o1).mono (by omega)
      · obtain ⟨j, hj, ej⟩ := List.mem_iff_getElem.mp (all q hq')
        have ej' : os[j]? = some q := by rw [← ej]; exact List.getElem?_eq_getElem hj
        by_cases g : j = os.length - 1
        · subst g
          rw [eol] at ej'
          rw [Option.some.inj ej']
          grind
        · have := asc_at asc ej' eol (by omega)
          grind
end Vk

namespace Vk
open PySem L2 Vm
variable {l az : Addr} {P : Program} {w : World} {K : PySem.W.Frag} {mg : Str → Option Value} {base : Heap} {k : Nat} {f f1 f2 f3 f4 f5 f6 f7 f8 f9 : Addr} {fd fd1 fd2 fd3 fd4 fd5 fd6 fd7 fd8 fd9 : FuncData}
def odp : Option Rat → PyData
  | none => .none
  | some q => dq q
theorem optV.dp {H : Hp} {v : V} {o : Option Rat} (h : optV K H v o) : Dp K H v (odp o) := by
  cases o with
  | none =>
    have h : v = .non := h
    rw [h]
    exact .non
  | some q => exact Rq.dp h
theorem optV.same {H H' : Hp} {v : V} {o : Option Rat} (e : Same H H') (h : optV K H v o) : optV K H' v o := by
  cases o with
  | none => exact h
  | some q => exact Rq.same e h
theorem sh_odp (o : Option Rat) : SeqAt.shaped (odp o) = true := by cases o <;> rfl
theorem eqv_odp (o u : Option Rat) : PyData.eqv (odp o) (odp u) = decide (o = u) := by
  cases o with
  | none =>
    cases u with
    | none => rfl
    | some q => rfl
  | some p =>
    cases u with
    | none => rfl
    | some q =>
      show PyData.eqv (dq p) (dq q) = _
      rw [eqv_dq]
      by_cases h : p = q
      · rw [dT h, dT (congrArg some h)]
      · rw [dF h, dF fun e => h (Option.some.inj e)]
abbrev s__law_alike : Stmt := top 43
abbrev N__law_alike : List Str := ["_law_one", "_law_other", "_law_times_here", "_law_piece", "_law_t"]
theorem sc__law_alike : FnScope N__law_alike ["_law_one", "_law_other"] (defScope s__law_alike) := ⟨rfl, rfl, rfl, by decide +kernel, rfl, by decide +kernel, by decide +kernel⟩
abbrev ps__law_alike : List Str := ["_law_one", "_law_other"]
def spAlike (K : PySem.W.Frag) : Sp := fun vs H Q _ => ∃ (a b : Addr) (xs ys : List V) (c d : List Pc) (i j l : Nat), vs = [.ref a, .ref b] ∧ Ct K H a xs c ∧ Ct K H b ys d ∧ Cz i j l c ∧ Cz i j l d ∧ 1 ≤ c.length ∧ c.length + d.length ≤ 100 ∧ i + j + l ≤ 500 ∧
  ∀ r H', Same H H' → ((∀ t, nowf c t = nowf d t) → r = true) → ((∀ t, (∀ p ∈ c ++ d, p.s < t) → nowf c t ≠ nowf d t) → r = false) → Q (.bl r) H'
theorem ok_alike (T : Bn mg) (F : Fn K mg "_law_alike" s__law_alike ps__law_alike f fd) (d_law_probes : Def P w K mg base k "_law_probes" ["_law_spans"] (spProbes K) f1 fd1) (d_law_now : Def P w K mg base k "_law_now" ["_law_course_here", "_law_t"] (spNow K) f2 fd2) :
    Def P w K mg base (k + 1) "_law_alike" ps__law_alike (spAlike K) f fd := by
  refine ⟨F.F.ok sc__law_alike (fun vs H Q E h => ?_) (fun cdv A outer s H vs Q E hr h => ?_), F.m, F.F.kp, F.b⟩
  · obtain ⟨_, _, _, _, _, _, _, _, _, rfl, _⟩ := h
    rfl
  obtain ⟨a, b, xs, ys, c, d, i0, j0, l0, rfl, hC, hD0, cz, dz, hp, hl, hb, z⟩ := h
  have hcl := hC.2.1
  have hdl := hD0.2.1
  refine ⟨_, (pss_cons (ps_set (i := 2) sc__law_alike.nd rfl (Or.inl rfl) (pcall d_law_probes hr (pa_cons (pe_lc (own := [("_law_piece", 3)]) (g := gName 3) (tt := tYes) rfl sc__law_alike.nd (pi_list (pe_op op_cat (pv 0) (pv 1))) (blkOk_by (N := N__law_alike) (sc := defScope s__law_alike) (by decide +kernel)) (fun _ _ _ _ _ => pg_name (i := 3) sc__law_alike.nd rfl (Or.inl rfl)) (fun _ _ _ _ _ => pts_nil) (fun _ _ _ _ _ => (pe_tup (pa_cons (pe_ix (show IxR _ (rIxT K) from ix_tup) (pv 3) pe_int (fun _ _ => rfl)) (pa_cons pe_non pa_nil))))) pa_nil)))
      (pss_cons (ps_for PassesOwn.never rfl (pi_list (pv 2)) (pg_name (i := 4) sc__law_alike.nd rfl (Or.inl rfl))
        (pss_one (ps_if (pt_cmpR (op_neD hr.units) (pcall d_law_now hr (pa_cons (pv 0) (pa_cons (pv 4) pa_nil))) (pcall d_law_now hr (pa_cons (pv 1) (pa_cons (pv 4) pa_nil))) (nomark _))
          (pss_one (ps_ret pe_bl))
          pss_nil)))
      (pss_one (ps_ret pe_bl)))), ?_⟩
  refine ⟨_, rfl, _, rfl, a, b, xs, ys, rfl, rfl, hC.1, hD0.1, Nat.le_of_lt (le1000 (by omega)), fun p hpn => ?_⟩
  have s0 := same_new hpn (.lst (xs ++ ys))
  have hA0 : All2 (Pq K (upd H p (.lst (xs ++ ys)))) (xs ++ ys) (c ++ d) := (hC.2.append hD0.2).imp fun _ _ h => h.same s0
  have hp0 : (upd H p (.lst (xs ++ ys))) p = some (.lst (xs ++ ys)) := upd_same
  generalize upd H p (.lst (xs ++ ys)) = G0 at s0 hA0 hp0 ⊢
  have czd : Cz i0 j0 l0 (c ++ d) := fun x hx => by
    rcases List.mem_append.mp hx with hx | hx
    · exact cz x hx
    · exact dz x hx
  have lcd : (c ++ d).length = c.length + d.length := List.length_append
  refine ⟨p, rfl, ⟨_, SqL.of hp0⟩, fun D hD => lc_list (xs := xs ++ ys) (fun i G => ∃ acc, G D = some (.lst acc) ∧ Same G0 G ∧ All2 (Sn K G) acc (((c ++ d).take i).map (·.s))) ⟨[], upd_same, same_new hD _, by rw [List.take_zero]; exact All2.nil⟩ (fun i G _ h => by obtain ⟨_, _, s1, _⟩ := h; exact SqL.of (s1 _ _ hp0)) ?_ ?_⟩
  · rintro i x G hxi ⟨acc, hD1, s1, hB⟩
    have hi : i < (c ++ d).length := by rw [← hA0.1]; exact (List.getElem?_eq_some_iff.mp hxi).1
    have epi : (c ++ d)[i]? = some (c ++ d)[i] := List.getElem?_eq_getElem hi
    have hbl := hB.1
    rw [List.length_map, List.length_take] at hbl
    have px := (hA0.2 i x _ hxi epi).same s1
    generalize (c ++ d)[i] = pc at epi px
    obtain ⟨e, es, ev, er, rfl, he, r1, r2, r3⟩ := px
    refine ⟨rfl, tyes ⟨_, rfl, e, _, _, _, rfl, rfl, he, at0 rfl, sz2, fun t ht => ?_⟩⟩
    have st := same_new ht (.tup [es, .non])
    have hD2 := st _ _ hD1
    have fr : Fr D _ _ := Fr.upd (s := D) (H := upd G t (.tup [es, .non])) (.lst (acc ++ [.ref t]))
    refine ⟨acc, hD2, le1000 (by omega), _, upd_same, same_upd (s1.trans st) hD _, ?_⟩
    rw [List.take_add_one, epi, List.map_append]
    have sn : Sn K (upd G t (.tup [es, .non])) (.ref t) pc.s := ⟨t, es, rfl, SqT.of upd_same, r1.same st⟩
    exact (hB.imp fun _ _ h => (h.same st).fr fr ⟨_, hD2⟩).snoc (sn.fr fr ⟨_, hD2⟩)
  · rintro G ⟨acc, hD1, s1, hB⟩
    rw [hA0.1, List.take_length] at hB
    have s2 := s0.trans s1
    refine ⟨D, acc, _, i0, rfl, SqL.of hD1, hB, fun q hq => ?_, by omega, by rw [List.length_map]; omega, by rw [List.length_map]; omega, fun Dt ut ts G1 e1 hDt hDt' hT zt last lt => ?_⟩
    · obtain ⟨x, hx, rfl⟩ := List.mem_map.mp hq
      exact (czd x hx).1
    have s3 := s2.trans e1
    refine ⟨_, rfl, Dt, rfl, ⟨_, SqL.of hDt'⟩, for_list (K := K) (a := Dt) (xs := ut) (fun i σ G => ∃ (k4 : Option V), σ = [some (.ref a), some (.ref b), some (.ref Dt), none, k4] ∧ Same G1 G ∧ ∀ t ∈ ts.take i, nowf c t = nowf d t)
      ⟨_, rfl, Same.refl _, fun t ht => by rw [List.take_zero] at ht; cases ht⟩ (fun i σ G _ h => by obtain ⟨_, _, s4, _⟩ := h; exact SqL.of (s4 _ _ hDt')) ?_ ?_⟩
    · rintro i x σ G2 hxi ⟨k4, rfl, s4, heq⟩
      have hi : i < ts.length := by rw [← hT.1]; exact (List.getElem?_eq_some_iff.mp hxi).1
      have eti : ts[i]? = some ts[i] := List.getElem?_eq_getElem hi
      have rt := (hT.2 i x _ hxi eti).same s4
      have zti := zt _ (List.getElem_mem hi)
      have s5 := s3.trans s4
      obtain ⟨t, et⟩ : ∃ t, t = ts[i] := ⟨_, rfl⟩
      rw [← et] at eti rt zti
      refine ⟨_, rfl, _, rfl, a, x, c, t, i0, j0, l0, _, rfl, (hC.same s5).cq, rt, cz, zti, by omega, by omega, fun v1 G3 e3 o1 => ?_⟩
      refine ⟨_, rfl, _, rfl, b, x, d, t, i0, j0, l0, _, rfl, (hD0.same (s5.trans e3)).cq, rt.same e3, dz, zti, by omega, by omega, fun v2 G4 e4 o2 => ?_⟩
      refine ⟨_, _, (o1.same e4).dp, o2.dp, sh_odp _, sh_odp _, _, rfl, ?_⟩
      rw [eqv_odp]
      have s6 := s4.trans (e3.trans e4)
      by_cases g : nowf c t = nowf d t
      · refine ifF (by rw [dT g]; rfl) ⟨_, rfl, s6, fun u hu => ?_⟩
        rw [List.take_add_one, eti] at hu
        rcases List.mem_append.mp hu with hu | hu
        · exact heq u hu
        · have hu : u = t := List.mem_singleton.mp hu
          rw [hu]
          exact g
      · exact ifT (by rw [dF g]; rfl) (z false _ (s3.trans s6) (fun h => absurd (h t) g) fun _ => rfl)
    · rintro σ G2 ⟨k4, rfl, s4, heq⟩
      rw [hT.1, List.take_length] at heq
      obtain ⟨t, ht, hlast⟩ := last
      exact z true _ (s3.trans s4) (fun _ => rfl) fun h => absurd (heq t ht) (h t fun p hp => hlast _ (List.mem_map_of_mem hp))
end Vk

namespace Vk
open PySem L2 Vm
variable {l az : Addr} {P : Program} {w : World} {K : PySem.W.Frag} {mg : Str → Option Value} {base : Heap} {k : Nat} {f f1 f2 f3 f4 f5 f6 f7 f8 f9 : Addr} {fd fd1 fd2 fd3 fd4 fd5 fd6 fd7 fd8 fd9 : FuncData}
/-! ### rationals over a common denominator -/
def Fx (M B : Nat) (q : Rat) : Prop := ∃ z : Int, q * (M : Rat) = (z : Rat) ∧ z.natAbs ≤ M * B
theorem Fx.mono {M B C : Nat} {q : Rat} (h : Fx M B q) (l : B ≤ C) : Fx M C q := by
  obtain ⟨z, e, hz⟩ := h
  exact ⟨z, e, Nat.le_trans hz (Nat.mul_le_mul_left M l)⟩
theorem Fx.add {M B C : Nat} {p q : Rat} (h : Fx M B p) (g : Fx M C q) : Fx M (B + C) (p + q) := by
  obtain ⟨z, e, hz⟩ := h
  obtain ⟨y, d, hy⟩ := g
  refine ⟨z + y, by rw [Rat.add_mul, e, d, Rat.intCast_add], ?_⟩
  rw [Nat.mul_add]
  omega
theorem Fx.neg {M B : Nat} {p : Rat} (h : Fx M B p) : Fx M B (-p) := by
  obtain ⟨z, e, hz⟩ := h
  exact ⟨-z, by rw [Rat.neg_mul, e, Rat.intCast_neg], by rw [Int.natAbs_neg]; exact hz⟩
theorem Fx.sub {M B C : Nat} {p q : Rat} (h : Fx M B p) (g : Fx M C q) : Fx M (B + C) (p - q) := by
  rw [Rat.sub_eq_add_neg]
  exact h.add g.neg
theorem Fx.mul {M N B C : Nat} {p q : Rat} (h : Fx M B p) (g : Fx N C q) : Fx (M * N) (B * C) (p * q) := by
  obtain ⟨z, e, hz⟩ := h
  obtain ⟨y, d, hy⟩ := g
  refine ⟨z * y, ?_, ?_⟩
  · rw [Rat.intCast_mul, ← e, ← d, Rat.natCast_mul]
    grind
  · rw [Int.natAbs_mul]
    calc z.natAbs * y.natAbs ≤ (M * B) * (N * C) := Nat.mul_le_mul hz hy
      _ = (M * N) * (B * C) := by grind
theorem Fx.lift {M B : Nat} {q : Rat} (N : Nat) (h : Fx M B q) : Fx (M * N) B q := by
  obtain ⟨z, e, hz⟩ := h
  refine ⟨z * (N : Int), ?_, ?_⟩
  · rw [Rat.intCast_mul, ← e, Rat.natCast_mul]
    have : (((N : Int)) : Rat) = (N : Rat) := rfl
    rw [this]
    grind
  · rw [Int.natAbs_mul, Int.natAbs_natCast]
    calc z.natAbs * N ≤ (M * B) * N := Nat.mul_le_mul_right N hz
      _ = (M * N) * B := by grind
theorem Fx.half {M B : Nat} {q : Rat} (h : Fx M B q) : Fx (M * 2) B (q * mkRat 1 2) := by
  obtain ⟨z, e, hz⟩ := h
  have eh : mkRat 1 2 = (1 : Rat) / 2 := by decide +kernel
  refine ⟨z, ?_, ?_⟩
  · rw [← e, eh, Rat.natCast_mul]
    have : ((2 : Nat) : Rat) = 2 := rfl
    rw [this]
    grind
  · have : M * 2 * B = M * B + M * B := by grind
    omega
theorem Fx.sz {M B k : Nat} {q : Rat} (h : Fx M B q) (m0 : M ≠ 0) (hb : M * B < 2 ^ k) (hm : M < 2 ^ k) : Sz k q := by
  obtain ⟨z, e, hz⟩ := h
  have mr : ((M : Nat) : Rat) ≠ 0 := by
    intro h
    exact m0 (by exact_mod_cast h)
  have eq : q = mkRat z M := by
    rw [Rat.mkRat_eq_div]
    have : (((M : Int)) : Rat) = (M : Rat) := rfl
    rw [← e]
    grind
  rw [eq]
  exact sz_mk m0 (by omega) hm
/-- what each number below 32 divides -/
def LL : Nat := 72201776446800
theorem LL_dvd : ∀ d, d < 32 → 0 < d → d ∣ LL := by decide +kernel
theorem fx5 {q : Rat} (h : Sz 5 q) : Fx LL 31 q := by
  have p5 : (2 : Nat) ^ 5 = 32 := by decide
  have h1 := h.1
  have h2 := h.2
  rw [p5] at h1 h2
  obtain ⟨m, hm⟩ := LL_dvd q.den h2 q.den_pos
  refine ⟨q.num * (m : Int), ?_, ?_⟩
  · have e : q * (q.den : Rat) = (q.num : Rat) := by
      have d := Rat.mkRat_eq_div q.num q.den
      rw [Rat.mkRat_self] at d
      have nz : ((q.den : Nat) : Rat) ≠ 0 := by
        intro h
        exact q.den_nz (by exact_mod_cast h)
      have e2 : ((q.den : Int) : Rat) = (q.den : Rat) := rfl
      generalize ((q.den : Nat) : Rat) = x at d nz ⊢
      generalize ((q.num : Int) : Rat) = y at d ⊢
      grind
    rw [hm, Rat.natCast_mul, Rat.intCast_mul, ← e]
    have : (((m : Int)) : Rat) = (m : Rat) := rfl
    rw [this]
    grind
  · rw [Int.natAbs_mul, Int.natAbs_natCast]
    have : m ≤ LL := Nat.le_of_dvd (by decide) ⟨q.den, by rw [hm, Nat.mul_comm]⟩
    calc q.num.natAbs * m ≤ 31 * LL := Nat.mul_le_mul (by omega) this
      _ = LL * 31 := Nat.mul_comm _ _
theorem Fx.szL {B : Nat} {q : Rat} (h : Fx LL B q) (l : B ≤ 1300) : Sz 62 q := (h.mono l).sz (by decide) (by decide +kernel) (by decide +kernel)
theorem Fx.szW {B : Nat} {q : Rat} (h : Fx (LL * LL) B q) (l : B ≤ 50000) : Sz 115 q := (h.mono l).sz (by decide +kernel) (by decide +kernel) (by decide +kernel)
/-- a course's sizes, cut n times -/
def Fz (n : Nat) (c : List Pc) : Prop := ∀ p ∈ c, Fx (LL * 2 ^ n) (1300 + 40 * n) p.s ∧ Fx (LL * LL * 2 ^ n) (50000 + 100000 * n) p.v ∧ Sz 5 p.r
theorem Fz.snoc {n : Nat} {c : List Pc} {x : Pc} (h : Fz n c) (z : Fx (LL * 2 ^ n) (1300 + 40 * n) x.s ∧ Fx (LL * LL * 2 ^ n) (50000 + 100000 * n) x.v ∧ Sz 5 x.r) : Fz n (c ++ [x]) := fun p hp => by
  rcases List.mem_append.mp hp with hp | hp
  · exact h p hp
  · rw [List.mem_singleton.mp hp]
    exact z
theorem fz0 {s v r : Rat} (h1 : Fx LL 1300 s) (h2 : Fx (LL * LL) 50000 v) (h3 : Sz 5 r) : Fx (LL * 2 ^ 0) (1300 + 40 * 0) s ∧ Fx (LL * LL * 2 ^ 0) (50000 + 100000 * 0) v ∧ Sz 5 r := by
  refine ⟨?_, ?_, h3⟩
  · rw [Nat.pow_zero, Nat.mul_one]; exact h1
  · rw [Nat.pow_zero, Nat.mul_one]; exact h2
theorem fzz_s {n : Nat} (h : n ≤ 4) {q : Rat} (z : Fx (LL * 2 ^ n) (1300 + 40 * n) q) : Sz 62 q := by
  have h16 : 2 ^ n ≤ 16 := by
    have := Nat.pow_le_pow_right (show 0 < 2 by decide) h
    exact this
  have hn : (2 : Nat) ^ n ≠ 0 := by have := Nat.two_pow_pos n; omega
  have hm : LL * 2 ^ n ≤ LL * 16 := Nat.mul_le_mul_left _ h16
  refine (z.mono (show 1300 + 40 * n ≤ 1500 by omega)).sz (Nat.mul_ne_zero (by decide) hn) (Nat.lt_of_le_of_lt (Nat.mul_le_mul_right 1500 hm) (by decide +kernel)) (Nat.lt_of_le_of_lt hm (by decide +kernel))
theorem fzz_v {n : Nat} (h : n ≤ 4) {q : Rat} (z : Fx (LL * LL * 2 ^ n) (50000 + 100000 * n) q) : Sz 115 q := by
  have h16 : 2 ^ n ≤ 16 := by
    have := Nat.pow_le_pow_right (show 0 < 2 by decide) h
    exact this
  have hn : (2 : Nat) ^ n ≠ 0 := by have := Nat.two_pow_pos n; omega
  have hm : LL * LL * 2 ^ n ≤ LL * LL * 16 := Nat.mul_le_mul_left _ h16
  refine (z.mono (show 50000 + 100000 * n ≤ 450000 by omega)).sz (Nat.mul_ne_zero (by decide +kernel) hn) (Nat.lt_of_le_of_lt (Nat.mul_le_mul_right 450000 hm) (by decide +kernel)) (Nat.lt_of_le_of_lt hm (by decide +kernel))
theorem Fz.cz {n : Nat} {c : List Pc} (h : n ≤ 4) (z : Fz n c) : Cz 62 115 5 c := fun p hp => ⟨fzz_s h (z p hp).1, fzz_v h (z p hp).2.1, (z p hp).2.2⟩
def spCourse8 (K : PySem.W.Frag) (l : Addr) : Sp := fun vs H Q _ => ∃ (s : Addr) (many : Nat) (fall : Bool), vs = [.ref s, .int many, .bl fall] ∧ Sto l s H ∧ many ≤ 40 ∧
  ∀ D us c H', Bun (Pq K) l s D H us c H' → c.length = many → Cok c → Fz 0 c → Q (.ref D) H'
theorem ok_course8 (T : Bn mg) (F : Fn K mg "_law_course" s__law_course ps__law_course f fd) (d_law_part : Def P w K mg base k "_law_part" ["_law_store_here"] (spDraw K l 5 anyQ) f1 fd1) (d_law_pace : Def P w K mg base k "_law_pace" ["_law_store_here"] (spDraw K l 5 posQ) f2 fd2)
    (d_law_above : Def P w K mg base k "_law_above" ["_law_store_here"] (spDraw K l 5 posQ) f3 fd3) (d_law_plus : Def P w K mg base k "_law_plus" ["_law_a", "_law_b"] (spOp2 K (· + ·)) f4 fd4) (d_law_times : Def P w K mg base k "_law_times" ["_law_a", "_law_b"] (spOp2 K (· * ·)) f5 fd5)
    (d_law_minus : Def P w K mg base k "_law_minus" ["_law_a", "_law_b"] (spOp2 K (· - ·)) f6 fd6) (d_law_take : Def P w K mg base k "_law_take" ["_law_store_here", "_law_many"] (spTake K l) f7 fd7) :
    Def P w K mg base (k + 1) "_law_course" ps__law_course (spCourse8 K l) f fd := by
  refine ⟨F.F.ok sc__law_course (fun vs H Q E h => ?_) (fun cdv A outer s H vs Q E hr h => ?_), F.m, F.F.kp, F.b⟩
  · obtain ⟨_, _, _, rfl, _⟩ := h
    rfl
  obtain ⟨s, many, fall, rfl, hS, hm, z⟩ := h
  refine ⟨_, (pss_cons (ps_set (i := 3) sc__law_course.nd rfl (Or.inl rfl) (pcall d_law_part hr (pa_cons (pv 0) pa_nil)))
      (pss_cons (ps_set (i := 4) sc__law_course.nd rfl (Or.inl rfl) (pcall d_law_part hr (pa_cons (pv 0) pa_nil)))
      (pss_cons (ps_set (i := 5) sc__law_course.nd rfl (Or.inl rfl) (pcall d_law_pace hr (pa_cons (pv 0) pa_nil)))
      (pss_cons (ps_set (i := 6) sc__law_course.nd rfl (Or.inl rfl) (pe_lst pa_nil))
      (pss_cons (ps_for PassesOwn.never rfl (pi_range1 (by rfl) T.range_ (pa_cons (pv 1) pa_nil)) (pg_name (i := 7) sc__law_course.nd rfl (Or.inl rfl))
        (pss_cons (ps_expr (pe_bm PySem.F.plainAttrs_list PySem.F.slot_list_append PySem.F.type_list_append mt_append (pv 6) (pa_cons (pe_tup (pa_cons (pv 3) (pa_cons (pv 4) (pa_cons (pv 5) pa_nil)))) pa_nil)))
        (pss_cons (ps_set (i := 8) sc__law_course.nd rfl (Or.inl rfl) (pcall d_law_above hr (pa_cons (pv 0) pa_nil)))
        (pss_cons (ps_set (i := 3) sc__law_course.nd rfl (Or.inl rfl) (pcall d_law_plus hr (pa_cons (pv 3) (pa_cons (pv 8) pa_nil))))
        (pss_cons (ps_set (i := 4) sc__law_course.nd rfl (Or.inl rfl) (pcall d_law_plus hr (pa_cons (pv 4) (pa_cons (pcall d_law_times hr (pa_cons (pv 5) (pa_cons (pv 8) pa_nil))) pa_nil))))
        (pss_cons (ps_set (i := 9) sc__law_course.nd rfl (Or.inl rfl) (pcall d_law_take hr (pa_cons (pv 0) (pa_cons pe_int pa_nil))))
        (pss_cons (ps_if (PW.pt (pw_or (pt_cmpR op_eq (pv 9) pe_int (nomark _)) (pw_or1 (pt_cmpR op_eq (pv 9) pe_int (nomark _)))))
          (pss_one (ps_set (i := 4) sc__law_course.nd rfl (Or.inl rfl) (pcall d_law_plus hr (pa_cons (pv 4) (pa_cons (pcall d_law_above hr (pa_cons (pv 0) pa_nil)) pa_nil)))))
          pss_nil)
        (pss_cons (ps_if (PW.pt (pw_and (pt_cmpR op_eq (pv 9) pe_int (nomark _)) (pw_and1 (pt_val (pv 2)))))
          (pss_one (ps_set (i := 4) sc__law_course.nd rfl (Or.inl rfl) (pcall d_law_minus hr (pa_cons (pv 4) (pa_cons (pcall d_law_above hr (pa_cons (pv 0) pa_nil)) pa_nil)))))
          pss_nil)
        (pss_one (ps_if (PW.pt (pw_and (pt_cmpR op_ne (pv 9) pe_int (nomark _)) (pw_and1 (pt_cmpR op_ne (pv 9) pe_int (nomark _)))))
          (pss_one (ps_set (i := 5) sc__law_course.nd rfl (Or.inl rfl) (pcall d_law_pace hr (pa_cons (pv 0) pa_nil))))
          pss_nil))))))))))
      (pss_one (ps_ret (pv 6)))))))), ?_⟩
  refine ⟨_, rfl, s, rfl, hS, fun wv G1 qw S1 e1 => ?_⟩
  refine ⟨_, rfl, s, rfl, S1, fun tv G2 qt S2 e2 => ?_⟩
  refine ⟨_, rfl, s, rfl, S2, fun pv G3 qp S3 e3 => ?_⟩
  refine ⟨Nat.zero_le _, fun D hD => ?_⟩
  have p62 : (2 : Int) ^ 62 = 4611686018427387904 := by decide
  have B0 : Bun (Pq K) l s D H [] [] (upd G3 D (.lst [])) := Bun.start S3 (e1.trans (e2.trans e3)) hD
  have s4 := same_new hD (.lst [])
  obtain ⟨qw0, rw0, zw0, _⟩ := ((qw.fr e2 S1).fr e3 S2).same s4
  obtain ⟨qt0, rt0, zt0, _⟩ := (qt.fr e3 S2).same s4
  obtain ⟨qp0, rp0, zp0, pp0⟩ := qp.same s4
  refine ⟨_, rfl, _, rfl, by omega, by omega, for_range (n := ((many : Nat) : Int).toNat) (fun i σ G => ∃ (us : List V) (c : List Pc) (wv tv pv : V) (k1 k2 k3 : Option V) (qw qt qp : Rat), σ = [some (.ref s), some (.int many), some (.bl fall), some wv, some tv, some pv, some (.ref D), k1, k2, k3] ∧
      Bun (Pq K) l s D H us c G ∧ Rq K G wv qw ∧ Rq K G tv qt ∧ Rq K G pv qp ∧ Fx LL (31 + 31 * i) qw ∧ Fx (LL * LL) (31 + 1100 * i) qt ∧ Sz 5 qp ∧ 0 < qp ∧ c.length = i ∧ (∀ p ∈ c, p.s < qw) ∧ Cok c ∧ Fz 0 c)
    ⟨[], [], _, _, _, _, _, _, qw0, qt0, qp0, rfl, B0, rw0, rt0, rp0, fx5 zw0, (fx5 zt0).lift LL, zp0, pp0, rfl, nofun, ⟨nofun, fun i p q h => by simp at h⟩, nofun⟩ ?_ ?_⟩
  · rintro i σ G hi ⟨us, c, wv, tv, pv, k1, k2, k3, qw, qto, qp, rfl, B, rw1, rt1, rp1, zw, zt, zp, pp, hc, hlt, ok, cz⟩
    have hi' : i < 40 := by omega
    have hul : us.length ≤ 1000 := by have := B.len; omega
    -- the piece
    refine ⟨_, rfl, .inl ⟨rfl, _, SqL.of B.at⟩, _, rfl, _, rfl, _, rfl, sm3, fun T hT => ?_⟩
    have t1 := same_new hT (.tup [wv, tv, pv])
    have B1 := B.same lastsP t1
    refine ⟨D, _, _, rfl, rfl, B1.at, le1000 hul, ?_⟩
    have B2 := B1.app lastsP (x := .ref T) (p := ⟨qw, qto, qp⟩) ⟨T, wv, tv, pv, rfl, SqT.of upd_same, rw1.same t1, rt1.same t1, rp1.same t1⟩
    have f2 : Fr D (upd G T (.tup [wv, tv, pv])) (upd (upd G T (.tup [wv, tv, pv])) D (.lst (us ++ [.ref T]))) := Fr.upd _
    have rw2 := (rw1.same t1).fr f2 ⟨_, B1.at⟩
    have rt2 := (rt1.same t1).fr f2 ⟨_, B1.at⟩
    have rp2 := (rp1.same t1).fr f2 ⟨_, B1.at⟩
    -- the step; when; told
    refine ⟨_, rfl, s, rfl, B2.1, fun sv G3 qs0 S3 e3 => ?_⟩
    have B3 := B2.fr lastsP e3 S3
    obtain ⟨qs, rs, zs, ps⟩ := qs0
    have ps : 0 < qs := ps
    have rw3 := rw2.fr e3 B2.1.some
    have rt3 := rt2.fr e3 B2.1.some
    have rp3 := rp2.fr e3 B2.1.some
    refine ⟨_, rfl, _, rfl, _, _, qw, qs, 62, 5, rfl, rw3, rs, zw.szL (by omega), zs, by decide, fun wv' G4 e4 rw4 => ?_⟩
    refine ⟨_, rfl, _, rfl, _, rfl, _, _, qp, qs, 5, 5, rfl, rp3.same e4, rs.same e4, zp, zs, by omega, fun xv G5 e5 rx => ?_⟩
    refine ⟨_, _, qto, qp * qs, 115, 10, rfl, rt3.same (e4.trans e5), rx, zt.szW (by omega), zp.mul zs, by decide, fun tv' G6 e6 rt6 => ?_⟩
    have B6 := B3.same lastsP (e4.trans (e5.trans e6))
    refine ⟨_, rfl, s, 6, rfl, B6.1, by decide, fun so G7 so0 so1 S7 e7 => ?_⟩
    have B7 := B6.fr lastsP e7 S7
    have rw7 := (rw4.same (e5.trans e6)).fr e7 B6.1.some
    have rt7 := rt6.fr e7 B6.1.some
    have rp7 := (rp3.same (e4.trans (e5.trans e6))).fr e7 B6.1.some
    have zw7 : Fx LL (31 + 31 * (i + 1)) (qw + qs) := (zw.add (fx5 zs)).mono (by omega)
    have zt7 : Fx (LL * LL) (992 + 1100 * i) (qto + qp * qs) := (zt.add ((fx5 zp).mul (fx5 zs))).mono (by omega)
    have lw : qw < qw + qs := lt_add_pos ps
    dsimp only [gName]
    refine cut (fun σ' G' => ∃ (tv : V) (qt : Rat), σ' = [some (.ref s), some (.int many), some (.bl fall), some wv', some tv, some pv, some (.ref D), some (.int (0 + (i : Int))), some sv, some (.int so)] ∧ Bun (Pq K) l s D H (us ++ [.ref T]) (c ++ [⟨qw, qto, qp⟩]) G' ∧ Rq K G' wv' (qw + qs) ∧ Rq K G' tv qt ∧ Rq K G' pv qp ∧ Fx (LL * LL) (1023 + 1100 * i) qt) ?_ ?_
    · rintro σ' G8 ⟨tv8, qt8, rfl, B8, rw8, rt8, rp8, zt8⟩
      refine cut (fun σ' G' => ∃ (tv : V) (qt : Rat), σ' = [some (.ref s), some (.int many), some (.bl fall), some wv', some tv, some pv, some (.ref D), some (.int (0 + (i : Int))), some sv, some (.int so)] ∧ Bun (Pq K) l s D H (us ++ [.ref T]) (c ++ [⟨qw, qto, qp⟩]) G' ∧ Rq K G' wv' (qw + qs) ∧ Rq K G' tv qt ∧ Rq K G' pv qp ∧ Fx (LL * LL) (1054 + 1100 * i) qt) ?_ ?_
      · rintro σ' G9 ⟨tv9, qt9, rfl, B9, rw9, rt9, rp9, zt9⟩
        -- the last if
        have okc : Cok (c ++ [⟨qw, qto, qp⟩]) := ok.snoc hlt pp
        have czc : Fz 0 (c ++ [⟨qw, qto, qp⟩]) := cz.snoc (fz0 (zw.mono (by omega)) (zt.mono (by omega)) zp)
        have ltc : ∀ p ∈ c ++ [(⟨qw, qto, qp⟩ : Pc)], p.s < qw + qs := fun p hp => by
          rcases List.mem_append.mp hp with hp | hp
          · have h1 := hlt p hp; grind
          · rw [List.mem_singleton.mp hp]
            exact lw
        have lenc : (c ++ [(⟨qw, qto, qp⟩ : Pc)]).length = i + 1 := by rw [List.length_append, hc]; rfl
        have stay : ∃ (us' : List V) (c : List Pc) (wv tv pv' : V) (k1 k2 k3 : Option V) (qw qt qp : Rat), [some (.ref s), some (.int many), some (.bl fall), some wv', some tv9, some pv, some (.ref D), some (.int (0 + (i : Int))), some sv, some (.int so)] = [some (.ref s), some (.int many), some (.bl fall), some wv, some tv, some pv', some (.ref D), k1, k2, k3] ∧
            Bun (Pq K) l s D H us' c G9 ∧ Rq K G9 wv qw ∧ Rq K G9 tv qt ∧ Rq K G9 pv' qp ∧ Fx LL (31 + 31 * (i + 1)) qw ∧ Fx (LL * LL) (31 + 1100 * (i + 1)) qt ∧ Sz 5 qp ∧ 0 < qp ∧ c.length = i + 1 ∧ (∀ p ∈ c, p.s < qw) ∧ Cok c ∧ Fz 0 c :=
          ⟨_, _, _, _, _, _, _, _, _, _, _, rfl, B9, rw9, rt9, rp9, zw7, zt9.mono (by omega), zp, pp, lenc, ltc, okc, czc⟩
        refine ⟨_, rfl, rfl, _, rfl, ?_⟩
        by_cases g1 : so = 0
        · refine ifF (by rw [dT (congrArg V.int g1)]; rfl) (ifF rfl stay)
        refine ifT (by rw [dF fun e => g1 (V.int.inj e)]; rfl) ⟨_, rfl, rfl, _, rfl, ?_⟩
        by_cases g2 : so = 4
        · exact ifF (by rw [dT (congrArg V.int g2)]; rfl) stay
        refine ifT (by rw [dF fun e => g2 (V.int.inj e)]; rfl) ⟨_, rfl, s, rfl, B9.1, fun pv' G10 qn S10 e10 => ?_⟩
        obtain ⟨qn, rn, zn, pn⟩ := qn
        exact ⟨_, _, _, _, _, _, _, _, _, _, _, rfl, B9.fr lastsP e10 S10, rw9.fr e10 B9.1.some, rt9.fr e10 B9.1.some, rn, zw7, zt9.mono (by omega), zn, pn, lenc, ltc, okc, czc⟩
      · intro key
        refine ⟨_, rfl, rfl, _, rfl, ?_⟩
        have skip := key _ _ ⟨tv8, qt8, rfl, B8, rw8, rt8, rp8, zt8.mono (by omega)⟩
        by_cases g1 : so = 4
        · refine ifT (dT (congrArg V.int g1)) ⟨_, rfl, _, rfl, ?_⟩
          cases fall with
          | false => exact ifF rfl skip
          | true =>
            refine ifT rfl ⟨_, rfl, _, rfl, s, rfl, B8.1, fun av G9 qa S9 e9 => ?_⟩
            obtain ⟨qa, ra, za, _⟩ := qa
            have B9 := B8.fr lastsP e9 S9
            refine ⟨_, _, qt8, qa, 115, 5, rfl, rt8.fr e9 B8.1.some, ra, zt8.szW (by omega), za, by decide, fun tv9 G10 e10 rt10 => ?_⟩
            exact key _ _ ⟨tv9, _, rfl, B9.same lastsP e10, (rw8.fr e9 B8.1.some).same e10, rt10, (rp8.fr e9 B8.1.some).same e10, (zt8.sub ((fx5 za).lift LL)).mono (by omega)⟩
        · exact ifF (dF fun e => g1 (V.int.inj e)) (ifF rfl skip)
    · intro key
      have skip := key _ _ ⟨tv', _, rfl, B7, rw7, rt7, rp7, zt7.mono (by omega)⟩
      have doit : ∀ (Qx : Prop), True → Qx → Qx := fun _ _ h => h
      refine ⟨_, rfl, rfl, _, rfl, ?_⟩
      by_cases g1 : so = 2
      · refine ifT (dT (congrArg V.int g1)) (ifT rfl ⟨_, rfl, _, rfl, s, rfl, B7.1, fun av G8 qa S8 e8 => ?_⟩)
        obtain ⟨qa, ra, za, _⟩ := qa
        refine ⟨_, _, _, qa, 115, 5, rfl, rt7.fr e8 B7.1.some, ra, zt7.szW (by omega), za, by decide, fun tv8 G9 e9 rt9 => ?_⟩
        exact key _ _ ⟨tv8, _, rfl, (B7.fr lastsP e8 S8).same lastsP e9, (rw7.fr e8 B7.1.some).same e9, rt9, (rp7.fr e8 B7.1.some).same e9, (zt7.add ((fx5 za).lift LL)).mono (by omega)⟩
      refine ifF (dF fun e => g1 (V.int.inj e)) ⟨_, rfl, rfl, _, rfl, ?_⟩
      by_cases g2 : so = 3
      · refine ifT (dT (congrArg V.int g2)) ⟨_, rfl, _, rfl, s, rfl, B7.1, fun av G8 qa S8 e8 => ?_⟩
        obtain ⟨qa, ra, za, _⟩ := qa
        refine ⟨_, _, _, qa, 115, 5, rfl, rt7.fr e8 B7.1.some, ra, zt7.szW (by omega), za, by decide, fun tv8 G9 e9 rt9 => ?_⟩
        exact key _ _ ⟨tv8, _, rfl, (B7.fr lastsP e8 S8).same lastsP e9, (rw7.fr e8 B7.1.some).same e9, rt9, (rp7.fr e8 B7.1.some).same e9, (zt7.add ((fx5 za).lift LL)).mono (by omega)⟩
      · exact ifF (dF fun e => g2 (V.int.inj e)) skip
  · rintro σ G ⟨us, c, wv, tv, pv, k1, k2, k3, qw, qt, qp, rfl, B, rw1, rt1, rp1, zw, zt, zp, pp, hc, hlt, ok, cz⟩
    exact ⟨_, rfl, z D us c G B (by omega) ok cz⟩
end Vk

namespace Vk
open PySem L2 Vm
variable {l az : Addr} {P : Program} {w : World} {K : PySem.W.Frag} {mg : Str → Option Value} {base : Heap} {k : Nat} {f f1 f2 f3 f4 f5 f6 f7 f8 f9 : Addr} {fd fd1 fd2 fd3 fd4 fd5 fd6 fd7 fd8 fd9 : FuncData}
/-! ### a piece put in -/
theorem split_at {α : Type} {c : List α} {n : Nat} {p : α} (e : c[n]? = some p) : c = c.take n ++ p :: c.drop (n + 1) := by
  obtain ⟨h, e2⟩ := List.getElem?_eq_some_iff.mp e
  have := List.take_append_drop n c
  rw [List.drop_eq_getElem_cons h, e2] at this
  exact this.symm
theorem put_at {α : Type} {c : List α} {n : Nat} {p : α} (x : α) (e : c[n]? = some p) : c.take (n + 1) ++ [x] ++ c.drop (n + 1) = c.take n ++ p :: x :: c.drop (n + 1) := by
  rw [List.take_add_one, e]
  simp [List.append_assoc]
theorem cok_put {c : List Pc} (ok : Cok c) {n : Nat} {p x : Pc} (e : c[n]? = some p) (h1 : p.s < x.s) (h2 : ∀ q, c[n + 1]? = some q → x.s < q.s) (r : 0 < x.r) : Cok (c.take (n + 1) ++ [x] ++ c.drop (n + 1)) := by
  have hn := (List.getElem?_eq_some_iff.mp e).1
  refine cok_of ?_ fun q hq => ?_
  · have a := ascP_of ok
    unfold AscP at a ⊢
    rw [List.append_assoc, List.pairwise_append]
    refine ⟨a.sublist (List.take_sublist _ _), ?_, fun y hy z hz => ?_⟩
    · rw [List.singleton_append, List.pairwise_cons]
      refine ⟨fun z hz => ?_, a.sublist (List.drop_sublist _ _)⟩
      obtain ⟨j, hj, ej⟩ := List.mem_iff_getElem.mp hz
      rw [List.length_drop] at hj
      rw [List.getElem_drop] at ej
      have e1 : c[n + 1]? = some c[n + 1] := List.getElem?_eq_getElem (by omega)
      have h3 := h2 _ e1
      have ez : c[n + 1 + j]? = some z := by rw [← ej]; exact List.getElem?_eq_getElem (by omega)
      cases j with
      | zero =>
        rw [Nat.add_zero, e1] at ez
        rw [← Option.some.inj ez]
        exact h3
      | succ j => exact rlt_trans h3 (cok_lt ok (show n + 1 < n + 1 + (j + 1) by omega) e1 ez)
    · obtain ⟨i, hi, ei⟩ := List.mem_iff_getElem.mp hy
      rw [List.length_take] at hi
      rw [List.getElem_take] at ei
      have ey : c[i]? = some y := by rw [← ei]; exact List.getElem?_eq_getElem (by omega)
      have hyx : y.s < x.s := by
        by_cases g : i = n
        · subst g
          rw [e] at ey
          rw [← Option.some.inj ey]
          exact h1
        · exact rlt_trans (cok_lt ok (show i < n by omega) ey e) h1
      rw [List.singleton_append] at hz
      rcases List.mem_cons.mp hz with rfl | hz
      · exact hyx
      · obtain ⟨j, hj, ej⟩ := List.mem_iff_getElem.mp hz
        rw [List.length_drop] at hj
        rw [List.getElem_drop] at ej
        have ez : c[n + 1 + j]? = some z := by rw [← ej]; exact List.getElem?_eq_getElem (by omega)
        exact cok_lt ok (show i < n + 1 + j by omega) ey ez
  · rcases List.mem_append.mp hq with hq | hq
    · rcases List.mem_append.mp hq with hq | hq
      · exact ok.1 q (List.mem_of_mem_take hq)
      · rw [List.mem_singleton.mp hq]
        exact r
    · exact ok.1 q (List.mem_of_mem_drop hq)
theorem fz_put {n i : Nat} {c : List Pc} {x : Pc} (h : Fz n c) (z : Fx (LL * 2 ^ (n + 1)) (1300 + 40 * (n + 1)) x.s ∧ Fx (LL * LL * 2 ^ (n + 1)) (50000 + 100000 * (n + 1)) x.v ∧ Sz 5 x.r) : Fz (n + 1) (c.take i ++ [x] ++ c.drop i) := by
  have up : ∀ p ∈ c, Fx (LL * 2 ^ (n + 1)) (1300 + 40 * (n + 1)) p.s ∧ Fx (LL * LL * 2 ^ (n + 1)) (50000 + 100000 * (n + 1)) p.v ∧ Sz 5 p.r := fun p hp => by
    obtain ⟨h1, h2, h3⟩ := h p hp
    refine ⟨?_, ?_, h3⟩
    · rw [Nat.pow_succ, ← Nat.mul_assoc]
      exact (h1.lift 2).mono (by omega)
    · rw [Nat.pow_succ, ← Nat.mul_assoc]
      exact (h2.lift 2).mono (by omega)
  intro p hp
  rcases List.mem_append.mp hp with hp | hp
  · rcases List.mem_append.mp hp with hp | hp
    · exact up p (List.mem_of_mem_take hp)
    · rw [List.mem_singleton.mp hp]
      exact z
  · exact up p (List.mem_of_mem_drop hp)
theorem ky_vl (p : Pc) (t : Rat) : ky ⟨t, vl t p, p.r⟩ = ky p := by
  unfold ky vl
  congr 1
  dsimp only
  grind
theorem Fx.halve {M B : Nat} {q : Rat} (h : Fx M (B + B) q) : Fx (M * 2) B (q * mkRat 1 2) := by
  obtain ⟨z, e, hz⟩ := h
  have eh : mkRat 1 2 = (1 : Rat) / 2 := by decide +kernel
  refine ⟨z, ?_, ?_⟩
  · rw [← e, eh, Rat.natCast_mul]
    have : ((2 : Nat) : Rat) = 2 := rfl
    rw [this]
    grind
  · have : M * 2 * B = M * (B + B) := by grind
    omega
abbrev s__law_cut_up : Stmt := top 46
abbrev N__law_cut_up : List Str := ["_law_store_here", "_law_course_here", "_law_many", "_law_row", "_law_k", "_law_spot", "_law_first", "_law_after"]
theorem sc__law_cut_up : FnScope N__law_cut_up ["_law_store_here", "_law_course_here", "_law_many"] (defScope s__law_cut_up) := ⟨rfl, rfl, rfl, by decide +kernel, rfl, by decide +kernel, by decide +kernel⟩
abbrev ps__law_cut_up : List Str := ["_law_store_here", "_law_course_here", "_law_many"]
def spCut (K : PySem.W.Frag) (l : Addr) : Sp := fun vs H Q _ => ∃ (s a : Addr) (m : Nat) (xs : List V) (c : List Pc), vs = [.ref s, .ref a, .int (m : Int)] ∧ Sto l s H ∧ a ≠ s ∧ Ct K H a xs c ∧ Cok c ∧ Fz 0 c ∧ m ≤ 4 ∧ 1 ≤ c.length ∧ c.length ≤ 40 ∧
  ∀ D us c2 H', Bun (Pq K) l s D H us c2 H' → Cok c2 → Cz 62 115 5 c2 → tl c2 = tl c → jl c2 = jl c → c2.length = c.length + m → Q (.ref D) H'
theorem ok_cut_up (T : Bn mg) (F : Fn K mg "_law_cut_up" s__law_cut_up ps__law_cut_up f fd) (d_law_take : Def P w K mg base k "_law_take" ["_law_store_here", "_law_many"] (spTake K l) f1 fd1) (d_law_plus : Def P w K mg base k "_law_plus" ["_law_a", "_law_b"] (spOp2 K (· + ·)) f2 fd2)
    (d_law_above : Def P w K mg base k "_law_above" ["_law_store_here"] (spDraw K l 5 posQ) f3 fd3) (d_law_times : Def P w K mg base k "_law_times" ["_law_a", "_law_b"] (spOp2 K (· * ·)) f4 fd4) (d_law_now : Def P w K mg base k "_law_now" ["_law_course_here", "_law_t"] (spNow K) f5 fd5) :
    Def P w K mg base (k + 1) "_law_cut_up" ps__law_cut_up (spCut K l) f fd := by
  refine ⟨F.F.ok sc__law_cut_up (fun vs H Q E h => ?_) (fun cdv A outer s H vs Q E hr h => ?_), F.m, F.F.kp, F.b⟩
  · obtain ⟨_, _, _, _, _, rfl, _⟩ := h
    rfl
  obtain ⟨s, a, m, xs, c, rfl, hS, nas, hC, ok0, fz0', hm, h1, hl, z⟩ := h
  refine ⟨_, (pss_cons (ps_set (i := 3) sc__law_cut_up.nd rfl (Or.inl rfl) (pe_callTy call_list_of (by rfl) T.list_ (by decide +kernel) (pa_cons (pv 1) pa_nil)))
      (pss_cons (ps_for PassesOwn.never rfl (pi_range1 (by rfl) T.range_ (pa_cons (pv 2) pa_nil)) (pg_name (i := 4) sc__law_cut_up.nd rfl (Or.inl rfl))
        (pss_cons (ps_set (i := 5) sc__law_cut_up.nd rfl (Or.inl rfl) (pcall d_law_take hr (pa_cons (pv 0) (pa_cons (pe_callB call_len_seq (by rfl) T.len_ PySem.boot_len (pa_cons (pv 3) pa_nil)) pa_nil))))
        (pss_cons (ps_set (i := 6) sc__law_cut_up.nd rfl (Or.inl rfl) (pe_ix ix_tup (pe_ix ix_list (pv 3) (pv 5) (fun _ _ => rfl)) pe_int (fun _ _ => rfl)))
        (pss_cons (ps_set (i := 7) sc__law_cut_up.nd rfl (Or.inl rfl) (pcall d_law_plus hr (pa_cons (pv 6) (pa_cons (pcall d_law_above hr (pa_cons (pv 0) pa_nil)) pa_nil))))
        (pss_cons (ps_if (pt_cmpR op_lt (pe_op op_add (pv 5) pe_int) (pe_callB call_len_seq (by rfl) T.len_ PySem.boot_len (pa_cons (pv 3) pa_nil)) (nomark _))
          (pss_one (ps_set (i := 7) sc__law_cut_up.nd rfl (Or.inl rfl) (pcall d_law_times hr (pa_cons (pcall d_law_plus hr (pa_cons (pv 6) (pa_cons (pe_ix ix_tup (pe_ix ix_list (pv 3) (pe_op op_add (pv 5) pe_int) (fun _ _ => rfl)) pe_int (fun _ _ => rfl)) pa_nil))) (pa_cons (pe_tup (pa_cons pe_int (pa_cons pe_int pa_nil))) pa_nil)))))
          pss_nil)
        (pss_one (ps_expr (pe_bm PySem.F.plainAttrs_list PySem.F.slot_list_insert PySem.F.type_list_insert mt_insert (pv 3) (pa_cons (pe_op op_add (pv 5) pe_int) (pa_cons (pe_tup (pa_cons (pv 7) (pa_cons (pcall d_law_now hr (pa_cons (pv 3) (pa_cons (pv 7) pa_nil))) (pa_cons (pe_ix ix_tup (pe_ix ix_list (pv 3) (pv 5) (fun _ _ => rfl)) pe_int (fun _ _ => rfl)) pa_nil)))) pa_nil))))))))))
      (pss_one (ps_ret (pv 3))))), ?_⟩
  have p62 : (2 : Int) ^ 62 = 4611686018427387904 := by decide
  have p64 : (2 : Int) ^ 64 = 18446744073709551616 := by decide
  refine ⟨_, rfl, a, _, rfl, .inl (SqL.of hC.1), fun D hD => ?_⟩
  have B0 : Bun (Pq K) l s D H xs c (upd H D (.lst xs)) := Bun.made hS (Fr.refl _ _) hD (hC.2.imp fun _ _ h => h.same (same_new hD _))
  refine ⟨_, rfl, _, rfl, by omega, by omega, for_range (n := ((m : Nat) : Int).toNat) (fun i σ G => ∃ (us : List V) (c2 : List Pc) (k4 k5 k6 k7 : Option V), σ = [some (.ref s), some (.ref a), some (.int (m : Int)), some (.ref D), k4, k5, k6, k7] ∧ Bun (Pq K) l s D H us c2 G ∧ Cok c2 ∧ Fz i c2 ∧ tl c2 = tl c ∧ jl c2 = jl c ∧ c2.length = c.length + i)
    ⟨xs, c, _, _, _, _, rfl, B0, ok0, fz0', rfl, rfl, rfl⟩ ?_ ?_⟩
  · rintro i σ G hi ⟨us, c2, k4, k5, k6, k7, rfl, B, ok, fz, et, ej, el⟩
    have hi4 : i < 4 := by omega
    have hul := B.len
    have cz := fz.cz (show i ≤ 4 by omega)
    refine ⟨_, rfl, _, rfl, D, _, rfl, .inl (SqL.of B.at), s, _, rfl, B.1, by omega, fun r G1 r0 r1 S1 e1 => ?_⟩
    have B1 := B.fr lastsP e1 S1
    obtain ⟨n, rfl⟩ : ∃ n : Nat, r = (n : Int) := ⟨r.toNat, by omega⟩
    have hn : n < c2.length := by omega
    have en : c2[n]? = some c2[n] := List.getElem?_eq_getElem hn
    obtain ⟨p, ep⟩ : ∃ p, p = c2[n] := ⟨_, rfl⟩
    rw [← ep] at en
    obtain ⟨xp, hxp, pp⟩ := B1.all.at en
    obtain ⟨b, bs, bv, br, rfl, hb, q1, q2, q3⟩ := id pp
    obtain ⟨zs, zv, zr⟩ := cz p (List.mem_of_getElem? en)
    obtain ⟨fs, fv, _⟩ := fz p (List.mem_of_getElem? en)
    refine ⟨_, rfl, _, rfl, D, _, _, _, rfl, rfl, SqL.of B1.at, at_of (j := n) rfl hxp, b, _, _, _, rfl, rfl, hb, at0 rfl, ?_⟩
    refine ⟨_, rfl, _, rfl, s, rfl, B1.1, fun av G2 qa S2 e2 => ?_⟩
    have B2 := B1.fr lastsP e2 S2
    obtain ⟨qa, ra, za, pa⟩ := qa
    have pa : 0 < qa := pa
    have q12 := q1.fr e2 B1.1.some
    refine ⟨_, _, p.s, qa, 62, 5, rfl, q12, ra, zs, za, by decide, fun w3 G3 e3 g3 => ?_⟩
    have B3 := B2.same lastsP e3
    have g3 : Rq K G3 w3 (p.s + qa) := g3
    have f1 : Fx (LL * 2 ^ (i + 1)) (1300 + 40 * (i + 1)) (p.s + qa) := by
      rw [Nat.pow_succ, ← Nat.mul_assoc]
      exact ((fs.lift 2).add (((fx5 za).lift (2 ^ i)).lift 2)).mono (by omega)
    dsimp only [gName]
    refine cut (fun σ' G' => ∃ (tv : V) (t : Rat), σ' = [some (.ref s), some (.ref a), some (.int (m : Int)), some (.ref D), some (.int (0 + (i : Int))), some (.int (n : Int)), some bs, some tv] ∧ Bun (Pq K) l s D H us c2 G' ∧ Rq K G' tv t ∧ p.s < t ∧ (∀ q, c2[n + 1]? = some q → t < q.s) ∧ Fx (LL * 2 ^ (i + 1)) (1300 + 40 * (i + 1)) t) ?_ ?_
    · rintro σ' G4 ⟨tv, t, rfl, B4, rt, lt1, lt2, ft⟩
      have zt := fzz_s (show i + 1 ≤ 4 by omega) ft
      have nw := now_at ok en (t := t) (by grind) lt2
      refine ⟨_, rfl, .inl ⟨rfl, _, SqL.of B4.at⟩, _, rfl, _, _, rfl, rfl, _, rfl, _, rfl, _, rfl, D, tv, c2, t, 62, 115, 5, 62, rfl, ⟨_, SqL.of B4.at, B4.all⟩, rt, cz, zt, by omega, by decide, fun vv G5 e5 hv => ?_⟩
      rw [nw] at hv
      have hv : Rq K G5 vv (vl t p) := hv
      have B5 := B4.same lastsP e5
      obtain ⟨xp, hxp, pp⟩ := B5.all.at en
      obtain ⟨b, bs, bv, br, rfl, hb, q1, q2, q3⟩ := id pp
      refine ⟨_, rfl, _, rfl, D, _, _, _, rfl, rfl, SqL.of B5.at, at_of (j := n) rfl hxp, b, _, _, _, rfl, rfl, hb, at2 rfl, sm3, fun T1 h1' => ?_⟩
      have t6 := same_new h1' (.tup [tv, vv, br])
      have B6 := B5.same lastsP t6
      have hx6 : (upd G5 T1 (.tup [tv, vv, br])) T1 = some (.tup [tv, vv, br]) := upd_same
      have px : Pq K (upd G5 T1 (.tup [tv, vv, br])) (.ref T1) ⟨t, vl t p, p.r⟩ := ⟨T1, tv, vv, br, rfl, SqT.of upd_same, (rt.same e5).same t6, hv.same t6, q3.same t6⟩
      generalize upd G5 T1 (.tup [tv, vv, br]) = G6 at B6 px ⊢
      have nD : D ≠ s := B6.2.2.1
      have nDl : D ≠ l := B6.2.2.2.1
      have hDn : H D = none := B6.2.2.2.2.1
      have hul6 := B6.len
      have fr : Fr D G6 (upd G6 D (.lst (us.take (n + 1) ++ [.ref T1] ++ us.drop (n + 1)))) := Fr.upd _
      have hA6 := B6.all.imp fun _ _ h => Pq.fr fr ⟨_, B6.at⟩ h
      have px6 := px.fr fr ⟨_, B6.at⟩
      refine ⟨D, _, _, _, rfl, rfl, B6.at, le1000 (by omega), by omega, by omega, ?_⟩
      have ei : ((n : Int) + 1).toNat = n + 1 := by omega
      rw [ei]
      refine ⟨us.take (n + 1) ++ [.ref T1] ++ us.drop (n + 1), c2.take (n + 1) ++ [⟨t, vl t p, p.r⟩] ++ c2.drop (n + 1), _, _, _, _, rfl, ⟨B6.1.upd nD nDl, fun b o hb hn => ?_, nD, nDl, hDn, upd_same, ((hA6.take (n + 1)).append (All2.one px6)).append (hA6.drop (n + 1))⟩, cok_put ok en lt1 lt2 (ok.1 p (List.mem_of_getElem? en)), fz_put fz ⟨ft, ?_, zr⟩, ?_, ?_, ?_⟩
      · rw [upd_ne (ne_of_none hb hDn)]
        exact B6.2.1 b o hb hn
      · have f2 : Fx (LL * (LL * 2 ^ (i + 1))) (31 * ((1300 + 40 * (i + 1)) + (1300 + 40 * i))) (p.r * (t - p.s)) := by
          refine (fx5 zr).mul (ft.sub ?_)
          rw [Nat.pow_succ, ← Nat.mul_assoc]
          exact fs.lift 2
        rw [← Nat.mul_assoc] at f2
        have f3 : Fx (LL * LL * 2 ^ (i + 1)) (50000 + 100000 * i) p.v := by
          rw [Nat.pow_succ, ← Nat.mul_assoc]
          exact fv.lift 2
        exact (f3.add f2).mono (by omega)
      · rw [put_at _ en, tl_ins (ky_vl p t), ← split_at en, et]
      · rw [put_at _ en, jl_ins (ky_vl p t), ← split_at en, ej]
      · rw [List.length_append, List.length_append, List.length_take, List.length_drop, List.length_singleton]
        omega
    · intro key
      refine ⟨_, rfl, _, _, rfl, rfl, _, rfl, D, _, rfl, .inl (SqL.of B3.at), _, _, rfl, rfl, _, rfl, ifD (fun g => ?_) (fun g => ?_)⟩
      · have hn2 : n + 1 < c2.length := by omega
        have en2 : c2[n + 1]? = some c2[n + 1] := List.getElem?_eq_getElem hn2
        obtain ⟨q, eq⟩ : ∃ q, q = c2[n + 1] := ⟨_, rfl⟩
        rw [← eq] at en2
        obtain ⟨xq, hxq, d, ds, dv, dr, rfl, hd, u1, u2, u3⟩ := B3.all.at en2
        obtain ⟨zs2, _, _⟩ := cz q (List.mem_of_getElem? en2)
        obtain ⟨fs2, _, _⟩ := fz q (List.mem_of_getElem? en2)
        have lt := ok.2 n p q en en2
        refine ⟨_, rfl, _, rfl, _, rfl, _, _, rfl, rfl, D, _, _, _, rfl, rfl, SqL.of B3.at, at_of (j := n + 1) (by omega) hxq, d, _, _, _, rfl, rfl, hd, at0 rfl, ?_⟩
        refine ⟨_, _, p.s, q.s, 62, 62, rfl, q12.same e3, u1, zs, zs2, by decide, fun w4 G4 e4 g4 => ⟨sz2, fun t1 ht1 => ?_⟩⟩
        have st := same_new ht1 (.tup [.int 1, .int 2])
        have rh : Rq K (upd G4 t1 (.tup [.int 1, .int 2])) (.ref t1) (mkRat 1 2) := rq_new 1 2 _ (by decide +kernel) (by decide +kernel)
        have zh : Sz 2 (mkRat 1 2) := by decide +kernel
        refine ⟨_, _, p.s + q.s, mkRat 1 2, 125, 2, rfl, g4.same st, rh, zs.add zs2, zh, by decide, fun w5 G5 e5 g5 => ?_⟩
        have g5 : Rq K G5 w5 ((p.s + q.s) * mkRat 1 2) := g5
        have eh : mkRat 1 2 = (1 : Rat) / 2 := by decide +kernel
        refine key _ _ ⟨w5, _, rfl, B3.same lastsP ((e4.trans st).trans e5), g5, by rw [eh]; grind, fun y hy => ?_, ?_⟩
        · rw [en2] at hy
          cases hy
          exact (half_lt lt).2
        · rw [Nat.pow_succ, ← Nat.mul_assoc]
          exact ((fs.add fs2).halve).mono (by omega)
      · refine key _ _ ⟨w3, _, rfl, B3, g3, by grind, fun y hy => ?_, f1⟩
        rw [List.getElem?_eq_none (by omega)] at hy
        cases hy
  · rintro σ G ⟨us, c2, k4, k5, k6, k7, rfl, B, ok, fz, et, ej, el⟩
    exact ⟨_, rfl, z D us c2 G B ok (fz.cz (by omega)) et ej (by omega)⟩
end Vk

namespace Vk
open PySem L2 Vm
variable {l az : Addr} {P : Program} {w : World} {K : PySem.W.Frag} {mg : Str → Option Value} {base : Heap} {k : Nat} {f f1 f2 f3 f4 f5 f6 f7 f8 f9 : Addr} {fd fd1 fd2 fd3 fd4 fd5 fd6 fd7 fd8 fd9 : FuncData}
/-! ### data of courses and of jumps -/
def Jt (K : PySem.W.Frag) (H : Hp) (a : Addr) (xs : List V) (c : List (Rat × Rat)) : Prop := H a = some (.lst xs) ∧ All2 (Jq K H) xs c
theorem Jt.same {H H' : Hp} {a : Addr} {xs : List V} {c : List (Rat × Rat)} (e : Same H H') (h : Jt K H a xs c) : Jt K H' a xs c := ⟨e _ _ h.1, h.2.imp fun _ _ h => h.same e⟩
theorem Jt.fr {s : Addr} {H H' : Hp} {a : Addr} {xs : List V} {c : List (Rat × Rat)} (e : Fr s H H') (hs : ∃ ys, H s = some (.lst ys)) (n : a ≠ s) (h : Jt K H a xs c) : Jt K H' a xs c := ⟨e _ _ h.1 n, h.2.imp fun _ _ h => h.fr e hs⟩
def cdat (c : List Pc) : PyData := .list (c.map dpc)
def jdat (c : List (Rat × Rat)) : PyData := .list (c.map djp)
theorem Ct.dd {H : Hp} {a : Addr} {xs : List V} {c : List Pc} (h : Ct K H a xs c) : Dp K H (.ref a) (cdat c) := .lst (SqL.of h.1) (dpall_of (fun _ _ h => h.dp) h.2)
theorem Jt.dd {H : Hp} {a : Addr} {xs : List V} {c : List (Rat × Rat)} (h : Jt K H a xs c) : Dp K H (.ref a) (jdat c) := .lst (SqL.of h.1) (dpall_of (fun _ _ h => h.dp) h.2)
theorem tree_c {c : List Pc} (h : c.length ≤ 900) : Tree 3 (cdat c) := .lst (by rw [List.length_map]; omega) fun d hd => by
  obtain ⟨p, _, rfl⟩ := List.mem_map.mp hd
  exact tree_dpc 0 p
theorem tree_j {c : List (Rat × Rat)} (h : c.length ≤ 900) : Tree 3 (jdat c) := .lst (by rw [List.length_map]; omega) fun d hd => by
  obtain ⟨p, _, rfl⟩ := List.mem_map.mp hd
  refine .tup (by show 2 ≤ 1000; decide) fun d h => ?_
  rcases List.mem_cons.mp h with rfl | h
  · exact tree_dq 0 _
  · rcases List.mem_cons.mp h with rfl | h
    · exact tree_dq 0 _
    · cases h
theorem inV_gl (c : List Pc) (n i : Nat) (h : i < n) : inV (.int (0 + (i : Int))) ((gl c n).map nV) = goes c i := by
  unfold inV gl
  rw [List.any_map]
  by_cases g : goes c i = true
  · rw [g, List.any_eq_true]
    refine ⟨i, List.mem_filter.mpr ⟨List.mem_range.mpr h, g⟩, ?_⟩
    show eqV (.int (i : Int)) (.int (0 + (i : Int))) = true
    rw [Int.zero_add]
    exact beq_self_eq_true _
  · have g : goes c i = false := by simpa using g
    rw [g, List.any_eq_false]
    intro x hx
    have hx := (List.mem_filter.mp hx).2
    show ¬ eqV (.int (x : Int)) (.int (0 + (i : Int))) = true
    rw [Int.zero_add]
    intro e
    have e : ((x : Int) == (i : Int)) = true := e
    have e : (x : Int) = (i : Int) := by simpa using e
    have e : x = i := by omega
    rw [e, g] at hx
    cases hx
theorem flat_n (xs : List Nat) : (xs.map nV).all flatV = true := by
  rw [List.all_eq_true]
  intro v hv
  obtain ⟨n, _, rfl⟩ := List.mem_map.mp hv
  rfl
abbrev s__law_right : Stmt := top 47
abbrev N__law_right : List Str := ["_law_course_here", "_law_row", "_law_told", "_law_found", "_law_due", "_law_gone", "_law_k", "_law_kept"]
theorem sc__law_right : FnScope N__law_right ["_law_course_here"] (defScope s__law_right) := ⟨rfl, rfl, rfl, by decide +kernel, rfl, by decide +kernel, by decide +kernel⟩
abbrev ps__law_right : List Str := ["_law_course_here"]
def spRight (K : PySem.W.Frag) : Sp := fun vs H Q _ => ∃ (a : Addr) (xs : List V) (c : List Pc) (i j l : Nat), vs = [.ref a] ∧ Ct K H a xs c ∧ Cok c ∧ Cz i j l c ∧ i + j + l ≤ 500 ∧ 1 ≤ c.length ∧ c.length ≤ 50 ∧ ∀ H', Same H H' → Q (.bl true) H'
theorem ok_right (T : Bn mg) (F : Fn K mg "_law_right" s__law_right ps__law_right f fd) (dtidy : Def P w K mg base k "tidy" ["course"] (spTidy K) f1 fd1) (djumps : Def P w K mg base k "jumps" ["course"] (spJumps K) f2 fd2)
    (d_law_jumps_due : Def P w K mg base k "_law_jumps_due" ["_law_course_here"] (spJD K) f3 fd3) (d_law_is_course : Def P w K mg base k "_law_is_course" ["_law_value"] (spIsC K) f4 fd4) (d_law_alike : Def P w K mg base k "_law_alike" ["_law_one", "_law_other"] (spAlike K) f5 fd5)
    (d_law_continues : Def P w K mg base k "_law_continues" ["_law_course_here"] (spCont K) f6 fd6) (d_law_same : Def P w K mg base k "_law_same" ["_law_value", "_law_due"] (spSame K 3) f7 fd7) (d_law_copy : Def P w K mg base k "_law_copy" ["_law_value"] (spCpL K (Pq K)) f8 fd8) :
    Def P w K mg base (k + 1) "_law_right" ps__law_right (spRight K) f fd := by
  refine ⟨F.F.ok sc__law_right (fun vs H Q E h => ?_) (fun cdv A outer s H vs Q E hr h => ?_), F.m, F.F.kp, F.b⟩
  · obtain ⟨_, _, _, _, _, _, rfl, _⟩ := h
    rfl
  obtain ⟨a, xs, c, i0, j0, l0, rfl, hC, ok, cz, hb, h1, hl, z⟩ := h
  refine ⟨_, (pss_cons (ps_set (i := 1) sc__law_right.nd rfl (Or.inl rfl) (pe_callTy call_list_of (by rfl) T.list_ (by decide +kernel) (pa_cons (pv 0) pa_nil)))
      (pss_cons (ps_set (i := 2) sc__law_right.nd rfl (Or.inl rfl) (pcall dtidy hr (pa_cons (pv 1) pa_nil)))
      (pss_cons (ps_set (i := 3) sc__law_right.nd rfl (Or.inl rfl) (pcall djumps hr (pa_cons (pv 1) pa_nil)))
      (pss_cons (ps_set (i := 4) sc__law_right.nd rfl (Or.inl rfl) (pcall d_law_jumps_due hr (pa_cons (pv 0) pa_nil)))
      (pss_cons (ps_if (PW.pt (pw_or (pt_not (pt_val (pcall d_law_is_course hr (pa_cons (pv 2) pa_nil)))) (pw_or (pt_not (pt_val (pcall d_law_alike hr (pa_cons (pv 2) (pa_cons (pv 0) pa_nil))))) (pw_or1 (pt_cmpR op_gt (pe_callB call_len_seq (by rfl) T.len_ PySem.boot_len (pa_cons (pcall d_law_continues hr (pa_cons (pv 2) pa_nil)) pa_nil)) pe_int (nomark _))))))
        (pss_one (ps_ret pe_bl))
        pss_nil)
      (pss_cons (ps_set (i := 5) sc__law_right.nd rfl (Or.inr rfl) (pcall d_law_continues hr (pa_cons (pv 0) pa_nil)))
      (pss_cons (ps_if (pt_not (pt_val (pcall d_law_same hr (pa_cons (pv 2) (pa_cons (pe_lc (own := [("_law_k", 6)]) (g := gName 6) rfl sc__law_right.nd (pi_range1 (by rfl) T.range_ (pa_cons (pe_callB call_len_seq (by rfl) T.len_ PySem.boot_len (pa_cons (pv 0) pa_nil)) pa_nil)) (blkOk_by (N := N__law_right) (sc := defScope s__law_right) (by decide +kernel)) (fun _ _ _ _ _ => pg_name (i := 6) sc__law_right.nd rfl (Or.inl rfl)) (fun _ _ _ _ _ => pts_one (pt_cmpR (show OpR _ (compareOp .NotIn) (rIn K true) from op_notIn_seq) (pv 6) (pv 5) rfl)) (fun _ _ _ _ _ => (pe_ix (show IxR _ (rIxL K) from ix_list) (pv 0) (pv 6) (fun _ _ => rfl)))) pa_nil)))))
        (pss_one (ps_ret pe_bl))
        pss_nil)
      (pss_cons (ps_if (PW.pt (pw_or (pt_not (pt_val (pcall d_law_same hr (pa_cons (pv 3) (pa_cons (pv 4) pa_nil))))) (pw_or1 (pt_not (pt_val (pcall d_law_same hr (pa_cons (pv 1) (pa_cons (pv 0) pa_nil))))))))
        (pss_one (ps_ret pe_bl))
        pss_nil)
      (pss_cons (ps_set (i := 7) sc__law_right.nd rfl (Or.inl rfl) (pcall d_law_copy hr (pa_cons (pv 2) pa_nil)))
      (pss_cons (ps_expr (pe_bm PySem.F.plainAttrs_list PySem.F.slot_list_append PySem.F.type_list_append mt_append (pv 2) (pa_cons (pe_ix ix_list (pv 2) pe_int (fun _ _ => rfl)) pa_nil)))
      (pss_cons (ps_expr (pe_bm PySem.F.plainAttrs_list PySem.F.slot_list_append PySem.F.type_list_append mt_append (pv 3) (pa_cons pe_non pa_nil)))
      (pss_cons (ps_if (PW.pt (pw_or (pt_not (pt_val (pcall d_law_same hr (pa_cons (pcall dtidy hr (pa_cons (pv 1) pa_nil)) (pa_cons (pv 7) pa_nil))))) (pw_or1 (pt_not (pt_val (pcall d_law_same hr (pa_cons (pcall djumps hr (pa_cons (pv 1) pa_nil)) (pa_cons (pv 4) pa_nil))))))))
        (pss_one (ps_ret pe_bl))
        pss_nil)
      (pss_one (ps_ret (pe_and (pcall d_law_same hr (pa_cons (pcall dtidy hr (pa_cons (pv 7) pa_nil)) (pa_cons (pv 7) pa_nil))) (pe_one (pcall d_law_same hr (pa_cons (pcall djumps hr (pa_cons (pv 7) pa_nil)) (pa_cons (pv 4) pa_nil))))))))))))))))))), ?_⟩
  have p62 : (2 : Int) ^ 62 = 4611686018427387904 := by decide
  have okt := cok_tl ok
  have czt := cz_tl cz
  have lt1 := tl_pos (c := c) (by omega)
  have lt2 := (tl_sub c).length_le
  have lj := jl_len c
  refine ⟨_, rfl, a, _, rfl, .inl (SqL.of hC.1), fun D1 hD1 => ?_⟩
  have s1 := same_new hD1 (.lst xs)
  have C1 : Ct K (upd H D1 (.lst xs)) D1 xs c := ⟨upd_same, hC.2.imp fun _ _ h => h.same s1⟩
  have Ca := hC.same s1
  generalize upd H D1 (.lst xs) = G1 at s1 C1 Ca ⊢
  refine ⟨_, rfl, D1, c, i0, j0, l0, rfl, C1.cq, cz, h1, by omega, by omega, fun D2 us2 G2 e2 h2 C2 => ?_⟩
  refine ⟨_, rfl, D1, c, i0, j0, l0, rfl, (C1.same e2).cq, cz, h1, by omega, by omega, fun D3 us3 G3 e3 h3 h3' A3 => ?_⟩
  refine ⟨_, rfl, a, c, i0, j0, l0, rfl, (Ca.same (e2.trans e3)).cq, ok, cz, h1, by omega, by omega, fun D4 us4 G4 e4 h4 h4' A4 => ?_⟩
  have g22 : G2 D2 = some (.lst us2) := C2.1
  have ne12 : D1 ≠ D2 := ne_at C1.1 h2
  have ne13 : D1 ≠ D3 := ne_at (e2 _ _ C1.1) h3
  have e2' : G3 D2 = some (.lst us2) := e3 _ _ C2.1
  have s4 := s1.trans (e2.trans (e3.trans e4))
  have Ca := Ca.same (e2.trans (e3.trans e4))
  have C1 := C1.same (e2.trans (e3.trans e4))
  have C2 := C2.same (e3.trans e4)
  have J3 : Jt K G4 D3 us3 (jl c) := Jt.same e4 ⟨h3', A3⟩
  have J4 : Jt K G4 D4 us4 (jl c) := ⟨h4', A4⟩
  have hD2n : H D2 = none := by
    cases q : H D2 with
    | none => rfl
    | some o => have := s1 _ _ q; rw [h2] at this; cases this
  have hD3n : H D3 = none := by
    cases q : H D3 with
    | none => rfl
    | some o => have := (s1.trans e2) _ _ q; rw [h3] at this; cases this
  refine ⟨_, rfl, D2, tl c, i0, j0, l0, rfl, C2.cq, okt, czt, lt1, by omega, hb, fun G5 e5 => ⟨_, rfl, ifF rfl ?_⟩⟩
  refine ⟨_, rfl, _, rfl, D2, a, us2, xs, tl c, c, i0, j0, l0, rfl, C2.same e5, Ca.same e5, czt, cz, lt1, by omega, hb, fun r G6 e6 ht _ => ?_⟩
  have er := ht fun t => now_tl ok t
  subst er
  have e6 := e5.trans e6
  refine ⟨_, rfl, ifF rfl ⟨_, rfl, D2, tl c, i0, j0, l0, rfl, (C2.same e6).cq, okt, czt, lt1, by omega, hb, fun D7 G7 e7 h7 h7' => ?_⟩⟩
  rw [gl_tl] at h7'
  refine ⟨D7, _, rfl, .inl (SqL.of h7'), _, _, rfl, rfl, _, rfl, ifF rfl ?_⟩
  have e7 := e6.trans e7
  refine ⟨_, rfl, a, c, i0, j0, l0, rfl, (Ca.same e7).cq, ok, cz, h1, by omega, hb, fun D8 G8 e8 h8 h8' => ?_⟩
  have e8 := e7.trans e8
  have s8 := s4.trans e8
  have Ca := Ca.same e8
  have C1 := C1.same e8
  have C2 := C2.same e8
  have J3 := J3.same e8
  have J4 := J4.same e8
  have hcl := Ca.2.1
  -- what stays, piece by piece
  refine ⟨_, rfl, _, rfl, a, _, rfl, .inl (SqL.of Ca.1), _, rfl, by omega, by omega, fun D9 hD9 => lc_range (lo := 0) (n := ((xs.length : Nat) : Int).toNat) (fun i G => ∃ acc, G D9 = some (.lst acc) ∧ Same G8 G ∧ All2 (Pq K G) acc (tl (c.take i))) ⟨[], upd_same, same_new hD9 _, by rw [List.take_zero]; exact All2.nil⟩ ?_ ?_⟩
  · rintro i G hi ⟨acc, hA9, sg, hA⟩
    have hi' : i < c.length := by omega
    have ei : c[i]? = some c[i] := List.getElem?_eq_getElem hi'
    obtain ⟨x, hx, px⟩ := (Ca.same sg).2.at ei
    have hal := hA.1
    have htl := (tl_sub (c.take i)).length_le
    rw [List.length_take] at htl
    have en : tl (c.take (i + 1)) = tl (c.take i) ++ if goes c i = true then [] else [c[i]] := by
      cases i with
      | zero =>
        cases c with
        | nil => simp at hi'
        | cons p c => rfl
      | succ j =>
        have ej : c[j]? = some c[j] := List.getElem?_eq_getElem (by omega)
        have := tl_next ej ei
        rw [goes_at ej ei]
        by_cases g : ky c[j + 1] = ky c[j]
        · rw [if_pos g] at this
          rw [if_pos (dT g)]
          exact this
        · rw [if_neg g] at this
          rw [if_neg (by rw [dF g]; exact Bool.false_ne_true)]
          exact this
    refine ⟨rfl, _, rfl, _, rfl, D8, _, rfl, .inl (SqL.of (sg _ _ h8')), rfl, flat_n _, _, rfl, ?_⟩
    rw [if_pos rfl, inV_gl c c.length i hi']
    by_cases g : goes c i = true
    · refine ifF (by rw [g]; rfl) ⟨acc, hA9, sg, ?_⟩
      rw [en, if_pos g, List.append_nil]
      exact hA
    · have g' : goes c i = false := by simpa using g
      refine ifT (by rw [g']; rfl) ⟨_, rfl, _, rfl, a, _, _, x, rfl, rfl, SqL.of (sg _ _ Ca.1), at_of (j := i) (by omega) hx, acc, hA9, le1000 (by omega), _, upd_same, same_upd sg hD9 _, ?_⟩
      have fr : Fr D9 G (upd G D9 (.lst (acc ++ [x]))) := Fr.upd _
      rw [en, if_neg g]
      exact (hA.imp fun _ _ h => h.fr fr ⟨_, hA9⟩).snoc (px.fr fr ⟨_, hA9⟩)
  · rintro G9 ⟨acc, hA9, e9, hA⟩
    rw [List.take_of_length_le (by omega)] at hA
    have C9 : Ct K G9 D9 acc (tl c) := ⟨hA9, hA⟩
    have Ca := Ca.same e9
    have C1 := C1.same e9
    have C2 := C2.same e9
    have J3 := J3.same e9
    have J4 := J4.same e9
    have s9 := s8.trans e9
    refine ⟨_, _, _, rfl, C2.dd, C9.dd, tree_c (by omega), _, rfl, ifF rfl ?_⟩
    refine ⟨_, rfl, _, rfl, _, _, _, rfl, J3.dd, J4.dd, tree_j (by omega), _, rfl, ifF rfl ⟨_, rfl, _, rfl, _, _, _, rfl, C1.dd, Ca.dd, tree_c (by omega), _, rfl, ifF rfl ?_⟩⟩
    have c29 := C2.1
    have c39 := J3.1
    refine ⟨_, rfl, D2, us2, tl c, rfl, SqL.of C2.1, C2.2, by omega, fun Dk yk Gk ek hDk hDk' Ak => ?_⟩
    have Ck : Ct K Gk Dk yk (tl c) := ⟨hDk', Ak⟩
    have C1 := C1.same ek
    have C2 := C2.same ek
    have J3 := J3.same ek
    have J4 := J4.same ek
    have sk := s9.trans ek
    obtain ⟨x0, hx0, _⟩ := C2.2.at (List.getElem?_eq_getElem lt1)
    -- the answers are changed
    have n12 : D1 ≠ D2 := ne12
    have n32 : D3 ≠ D2 := fun e => by rw [e] at h3; rw [g22] at h3; cases h3
    have n42 : D4 ≠ D2 := fun e => by rw [e] at h4; rw [e2'] at h4; cases h4
    have nk2 : Dk ≠ D2 := fun e => by rw [e] at hDk; rw [c29] at hDk; cases hDk
    have n13 : D1 ≠ D3 := ne13
    have n43 : D4 ≠ D3 := fun e => by rw [e] at h4; rw [h3'] at h4; cases h4
    have nk3 : Dk ≠ D3 := fun e => by rw [e] at hDk; rw [c39] at hDk; cases hDk
    refine ⟨_, rfl, .inl ⟨rfl, _, SqL.of C2.1⟩, _, rfl, D2, _, _, _, rfl, rfl, SqL.of C2.1, at0 hx0, D2, _, _, rfl, rfl, C2.1, le1000 (by have := C2.2.1; omega), ?_⟩
    have fr1 : Fr D2 _ _ := Fr.upd (s := D2) (H := Gk) (.lst (us2 ++ [x0]))
    have C1 := C1.fr fr1 ⟨_, C2.1⟩ n12
    have J3 := J3.fr fr1 ⟨_, C2.1⟩ n32
    have J4 := J4.fr fr1 ⟨_, C2.1⟩ n42
    have Ck := Ck.fr fr1 ⟨_, C2.1⟩ nk2
    have sk := same_upd sk hD2n (.lst (us2 ++ [x0]))
    generalize upd Gk D2 (.lst (us2 ++ [x0])) = Gm at C1 J3 J4 Ck sk ⊢
    refine ⟨_, rfl, .inl ⟨rfl, _, SqL.of J3.1⟩, D3, _, _, rfl, rfl, J3.1, le1000 (by have := J3.2.1; omega), ?_⟩
    have fr2 : Fr D3 _ _ := Fr.upd (s := D3) (H := Gm) (.lst (us3 ++ [.non]))
    have C1 := C1.fr fr2 ⟨_, J3.1⟩ n13
    have J4 := J4.fr fr2 ⟨_, J3.1⟩ n43
    have Ck := Ck.fr fr2 ⟨_, J3.1⟩ nk3
    have sk := same_upd sk hD3n (.lst (us3 ++ [.non]))
    generalize upd Gm D3 (.lst (us3 ++ [.non])) = Gn at C1 J4 Ck sk ⊢
    refine ⟨_, rfl, D1, c, i0, j0, l0, rfl, C1.cq, cz, h1, by omega, by omega, fun Dp up Gp ep hp Cp => ?_⟩
    have Ck := Ck.same ep
    refine ⟨_, rfl, _, _, _, rfl, Cp.dd, Ck.dd, tree_c (by omega), _, rfl, ifF rfl ?_⟩
    refine ⟨_, rfl, D1, c, i0, j0, l0, rfl, (C1.same ep).cq, cz, h1, by omega, by omega, fun Dr ur Gr er hr0 hr' Ar => ?_⟩
    have Jr : Jt K Gr Dr ur (jl c) := ⟨hr', Ar⟩
    have J4 := J4.same (ep.trans er)
    refine ⟨_, rfl, _, _, _, rfl, Jr.dd, J4.dd, tree_j (by omega), _, rfl, ifF rfl ?_⟩
    have Ck := Ck.same er
    refine ⟨_, rfl, Dk, tl c, i0, j0, l0, rfl, Ck.cq, czt, lt1, by omega, by omega, fun Du uu Gu eu hu Cu => ?_⟩
    rw [tl_tl] at Cu
    have Ck := Ck.same eu
    have J4 := J4.same eu
    refine ⟨_, rfl, _, _, _, rfl, Cu.dd, Ck.dd, tree_c (by omega), _, rfl, ifT rfl ?_⟩
    refine ⟨_, rfl, Dk, tl c, i0, j0, l0, rfl, Ck.cq, czt, lt1, by omega, by omega, fun Dw uw Gw ew hw hw' Aw => ?_⟩
    rw [jl_tl] at Aw
    have Jw : Jt K Gw Dw uw (jl c) := ⟨hw', Aw⟩
    exact ⟨_, rfl, _, _, _, rfl, Jw.dd, (J4.same ew).dd, tree_j (by omega), z _ (sk.trans (ep.trans (er.trans (eu.trans ew))))⟩
end Vk

namespace Vk
open PySem L2 Vm
variable {l az : Addr} {P : Program} {w : World} {K : PySem.W.Frag} {mg : Str → Option Value} {base : Heap} {k : Nat} {f f1 f2 f3 f4 f5 f6 f7 f8 f9 f10 f11 f12 f13 : Addr} {fd fd1 fd2 fd3 fd4 fd5 fd6 fd7 fd8 fd9 fd10 fd11 fd12 fd13 : FuncData}
/-! ### a course raised from a piece on -/
def up (q : Rat) (p : Pc) : Pc := ⟨p.s, p.v + q, p.r⟩
def rz (c : List Pc) (n : Nat) (q : Rat) : List Pc := c.take n ++ (c.drop n).map (up q)
theorem rz_len (c : List Pc) (n : Nat) (q : Rat) : (rz c n q).length = c.length := by
  unfold rz
  rw [List.length_append, List.length_map, List.length_take, List.length_drop]
  omega
theorem rz_get {c : List Pc} {n : Nat} {q : Rat} {i : Nat} {x : Pc} (hn : n ≤ c.length) (h : (rz c n q)[i]? = some x) : ∃ p, c[i]? = some p ∧ x = if i < n then p else up q p := by
  unfold rz at h
  by_cases g : i < n
  · rw [List.getElem?_append_left (by rw [List.length_take]; omega), List.getElem?_take, if_pos g] at h
    exact ⟨x, h, by rw [if_pos g]⟩
  · rw [List.getElem?_append_right (by rw [List.length_take]; omega), List.length_take, List.getElem?_map, List.getElem?_drop] at h
    have e : n + (i - min n c.length) = i := by omega
    rw [e] at h
    cases hc : c[i]? with
    | none => rw [hc] at h; cases h
    | some p =>
      rw [hc] at h
      exact ⟨p, rfl, by rw [if_neg g]; exact (Option.some.inj h).symm⟩
theorem rz_s {c : List Pc} {n : Nat} {q : Rat} {i : Nat} {x : Pc} (hn : n ≤ c.length) (h : (rz c n q)[i]? = some x) : ∃ p, c[i]? = some p ∧ x.s = p.s ∧ x.r = p.r := by
  obtain ⟨p, e, rfl⟩ := rz_get hn h
  refine ⟨p, e, ?_, ?_⟩ <;> split <;> rfl
theorem cok_rz {c : List Pc} (ok : Cok c) {n : Nat} (hn : n ≤ c.length) (q : Rat) : Cok (rz c n q) := by
  refine ⟨fun x hx => ?_, fun i x y ex ey => ?_⟩
  · obtain ⟨i, hi, e⟩ := List.mem_iff_getElem.mp hx
    have hx' : (rz c n q)[i]? = some x := by rw [← e]; exact List.getElem?_eq_getElem hi
    obtain ⟨p, ep, _, er⟩ := rz_s hn hx'
    rw [er]
    exact ok.1 p (List.mem_of_getElem? ep)
  · obtain ⟨p, ep, es, _⟩ := rz_s hn ex
    obtain ⟨p2, ep2, es2, _⟩ := rz_s hn ey
    rw [es, es2]
    exact ok.2 i p p2 ep ep2
theorem cz_rz {c : List Pc} {i j m : Nat} (cz : Cz i j m c) {n : Nat} (hn : n ≤ c.length) {q : Rat} (zq : Sz 5 q) : Cz i (j + 6) m (rz c n q) := fun x hx => by
  obtain ⟨t, ht, e⟩ := List.mem_iff_getElem.mp hx
  have hx' : (rz c n q)[t]? = some x := by rw [← e]; exact List.getElem?_eq_getElem ht
  obtain ⟨p, ep, rfl⟩ := rz_get hn hx'
  obtain ⟨z1, z2, z3⟩ := cz p (List.mem_of_getElem? ep)
  split
  · exact ⟨z1, z2.mono (by omega), z3⟩
  · exact ⟨z1, (z2.add zq).mono (by omega), z3⟩
theorem rz_zero (c : List Pc) (n : Nat) : rz c n 0 = c := by
  unfold rz
  have e : (c.drop n).map (up 0) = c.drop n := by
    have : up 0 = id := by
      funext p
      show Pc.mk p.s (p.v + 0) p.r = p
      rw [Rat.add_zero]
    rw [this, List.map_id]
  rw [e, List.take_append_drop]
theorem now_end {c : List Pc} (ok : Cok c) (h : 0 < c.length) {t : Rat} (ht : ∀ p ∈ c, p.s < t) : ∃ p, c[c.length - 1]? = some p ∧ nowf c t = some (vl t p) := by
  have e : c[c.length - 1]? = some c[c.length - 1] := List.getElem?_eq_getElem (by omega)
  refine ⟨_, e, now_at ok e ?_ fun q hq => ?_⟩
  · have := ht _ (List.getElem_mem (show c.length - 1 < c.length by omega))
    grind
  · rw [List.getElem?_eq_none (by omega)] at hq
    cases hq
theorem now_rz {c : List Pc} (ok : Cok c) {n : Nat} (hn : n < c.length) {q t : Rat} (ht : ∀ p ∈ rz c n q, p.s < t) : ∃ y, nowf c t = some y ∧ nowf (rz c n q) t = some (y + q) := by
  have ht' : ∀ p ∈ c, p.s < t := fun p hp => by
    obtain ⟨i, hi, e⟩ := List.mem_iff_getElem.mp hp
    have hi2 : i < (rz c n q).length := by rw [rz_len]; exact hi
    obtain ⟨p2, e2, es, _⟩ := rz_s (Nat.le_of_lt hn) (List.getElem?_eq_getElem (l := rz c n q) hi2)
    have e3 : p2 = p := by
      rw [List.getElem?_eq_getElem hi, e] at e2
      exact (Option.some.inj e2).symm
    rw [← e3, ← es]
    exact ht _ (List.getElem_mem hi2)
  obtain ⟨p, ep, np⟩ := now_end ok (by omega) ht'
  obtain ⟨x, ex, nx⟩ := now_end (cok_rz ok (Nat.le_of_lt hn) q) (by rw [rz_len]; omega) ht
  rw [rz_len] at ex
  obtain ⟨p2, e2, rfl⟩ := rz_get (Nat.le_of_lt hn) ex
  rw [ep] at e2
  cases e2
  rw [if_neg (by omega)] at nx
  refine ⟨_, np, ?_⟩
  rw [nx]
  congr 1
  unfold vl up
  dsimp only
  grind
theorem tl_ne {c d : List Pc} (okc : Cok c) (okd : Cok d) {n : Nat} (hn : n < c.length) {q : Rat} (hq : q ≠ 0) (e : tl c = tl d) : (∀ t, (∀ p ∈ rz c n q ++ d, p.s < t) → nowf (rz c n q) t ≠ nowf d t) ∧ tl (rz c n q) ≠ tl d := by
  have okz := cok_rz okc (Nat.le_of_lt hn) q
  have main : ∀ t, (∀ p ∈ rz c n q, p.s < t) → nowf (rz c n q) t ≠ nowf d t := fun t ht h => by
    obtain ⟨y, h1, h2⟩ := now_rz okc hn ht
    rw [h2, ← now_tl okd, ← e, now_tl okc, h1] at h
    have := Option.some.inj h
    grind
  refine ⟨fun t ht => main t fun p hp => ht p (List.mem_append_left _ hp), fun h => ?_⟩
  -- a time behind all starts
  obtain ⟨x, hx⟩ : ∃ x, (rz c n q)[(rz c n q).length - 1]? = some x := ⟨_, List.getElem?_eq_getElem (by rw [rz_len]; omega)⟩
  refine main (x.s + 1) (fun p hp => ?_) ?_
  · obtain ⟨i, hi, ei⟩ := List.mem_iff_getElem.mp hp
    have ei' : (rz c n q)[i]? = some p := by rw [← ei]; exact List.getElem?_eq_getElem hi
    by_cases g : i = (rz c n q).length - 1
    · rw [g, hx] at ei'
      rw [← Option.some.inj ei']
      grind
    · have := cok_lt okz (show i < (rz c n q).length - 1 by omega) ei' hx
      grind
  · rw [← now_tl okz, h, now_tl okd]
theorem cutV_take {xs : List V} {n : Nat} (h : n ≤ xs.length) : cutV xs none (some (n : Int)) = xs.take n := by
  unfold cutV
  rw [HT.sIx_none, HT.sIx_nat, Nat.min_eq_left h]
  simp
theorem cutV_drop {xs : List V} {n : Nat} (h : n ≤ xs.length) : cutV xs (some (n : Int)) none = xs.drop n := by
  unfold cutV
  rw [HT.sIx_none, HT.sIx_nat, Nat.min_eq_left h, List.take_of_length_le]
  rw [List.length_drop]
  exact Nat.le_refl _
instance pcDec : DecidableEq Pc := fun p q => decidable_of_decidable_of_iff (p := p.s = q.s ∧ p.v = q.v ∧ p.r = q.r) ⟨fun h => by
    obtain ⟨a, b, c⟩ := p
    obtain ⟨d, e, f⟩ := q
    obtain ⟨h1, h2, h3⟩ := h
    dsimp only at h1 h2 h3
    rw [h1, h2, h3], fun h => by
    rw [h]
    exact ⟨rfl, rfl, rfl⟩⟩
/-! ### a course as data -/
theorem depth_cs : ∀ c : List Pc, PyData.depthAll (c.map dpc) ≤ 3
  | [] => by simp [PyData.depthAll]
  | p :: c => by
    have := depth_cs c
    simp only [List.map_cons, PyData.depthAll]
    have : (dpc p).depth ≤ 3 := by simp [dpc, dq, PyData.depth, PyData.depthAll]
    omega
theorem lay_cs : ∀ c : List Pc, PyData.canLayAll0 (c.map dpc) = true
  | [] => rfl
  | p :: c => by
    have := lay_cs c
    show (PyData.canLay0 (dpc p) && PyData.canLayAll0 (c.map dpc)) = true
    rw [this]
    rfl
theorem sh_c (c : List Pc) : SeqAt.shaped (cdat c) = true := by
  have h1 := depth_cs c
  have h2 := lay_cs c
  show (PyData.canLay0 (.list (c.map dpc)) && decide (PyData.depth (.list (c.map dpc)) ≤ 64)) = true
  have h3 : PyData.canLay0 (.list (c.map dpc)) = true := h2
  have h4 : PyData.depth (.list (c.map dpc)) ≤ 64 := by simp only [PyData.depth]; omega
  rw [h3, decide_eq_true h4]
  rfl
theorem eqv_dpc (p q : Pc) : PyData.eqv (dpc p) (dpc q) = decide (p = q) := by
  show (PyData.eqv (dq p.s) (dq q.s) && (PyData.eqv (dq p.v) (dq q.v) && (PyData.eqv (dq p.r) (dq q.r) && true))) = decide (p = q)
  rw [eqv_dq, eqv_dq, eqv_dq]
  by_cases h : p = q
  · subst h
    simp
  · rw [dF h]
    obtain ⟨s, v, r⟩ := p
    obtain ⟨s', v', r'⟩ := q
    dsimp only
    by_cases h1 : s = s'
    · by_cases h2 : v = v'
      · by_cases h3 : r = r'
        · exact absurd (by rw [h1, h2, h3]) h
        · rw [dF h3]; simp
      · rw [dF h2]; simp
    · rw [dF h1]; simp
theorem eqv_c : ∀ c d : List Pc, PyData.eqv (cdat c) (cdat d) = decide (c = d)
  | [], [] => rfl
  | [], _ :: _ => rfl
  | _ :: _, [] => rfl
  | p :: c, q :: d => by
    have ih : PyData.eqv (cdat c) (cdat d) = decide (c = d) := eqv_c c d
    show (PyData.eqv (dpc p) (dpc q) && PyData.eqv (cdat c) (cdat d)) = _
    rw [ih, eqv_dpc]
    by_cases h1 : p = q
    · by_cases h2 : c = d
      · rw [dT h1, dT h2, dT (by rw [h1, h2])]; rfl
      · rw [dT h1, dF h2, dF fun e => h2 (List.cons.inj e).2]; rfl
    · rw [dF h1, dF fun e => h1 (List.cons.inj e).1]; rfl
end Vk

namespace Vk
open PySem L2 Vm
variable {l az : Addr} {P : Program} {w : World} {K : PySem.W.Frag} {mg : Str → Option Value} {base : Heap} {k : Nat} {f f1 f2 f3 f4 f5 f6 f7 f8 f9 f10 f11 f12 f13 : Addr} {fd fd1 fd2 fd3 fd4 fd5 fd6 fd7 fd8 fd9 fd10 fd11 fd12 fd13 : FuncData}
abbrev s__law_long_right : Stmt := top 48
abbrev N__law_long_right : List Str := ["_law_store_here", "_law_course_here", "_law_spot", "_law_by", "_law_row", "_law_piece", "_law_found", "_law_kept", "_law_k", "_law_before", "_law_coming_here", "_law_jump", "_law_passed"]
theorem sc__law_long_right : FnScope N__law_long_right ["_law_store_here"] (defScope s__law_long_right) := ⟨rfl, rfl, rfl, by decide +kernel, rfl, by decide +kernel, by decide +kernel⟩
abbrev ps__law_long_right : List Str := ["_law_store_here"]
def spLong (K : PySem.W.Frag) (l : Addr) : Sp := fun vs H Q _ => ∃ (s : Addr), vs = [.ref s] ∧ Sto l s H ∧ ∀ H', Q (.bl true) H'
theorem ok_long (T : Bn mg) (F : Fn K mg "_law_long_right" s__law_long_right ps__law_long_right f fd) (d_law_course : Def P w K mg base k "_law_course" ["_law_store_here", "_law_many", "_law_fall"] (spCourse8 K l) f1 fd1) (d_law_pick : Def P w K mg base k "_law_pick" ["_law_store_here", "_law_things"] (spPick K l) f2 fd2)
    (d_law_take : Def P w K mg base k "_law_take" ["_law_store_here", "_law_many"] (spTake K l) f3 fd3) (d_law_part : Def P w K mg base k "_law_part" ["_law_store_here"] (spDraw K l 5 anyQ) f4 fd4) (d_law_plus : Def P w K mg base k "_law_plus" ["_law_a", "_law_b"] (spOp2 K (· + ·)) f5 fd5)
    (d_law_times : Def P w K mg base k "_law_times" ["_law_a", "_law_b"] (spOp2 K (· * ·)) f6 fd6) (d_law_minus : Def P w K mg base k "_law_minus" ["_law_a", "_law_b"] (spOp2 K (· - ·)) f7 fd7) (d_law_same : Def P w K mg base k "_law_same" ["_law_value", "_law_due"] (spSame K 3) f8 fd8)
    (djumps : Def P w K mg base k "jumps" ["course"] (spJumps K) f9 fd9) (dtidy : Def P w K mg base k "tidy" ["course"] (spTidy K) f10 fd10) : Def P w K mg base (k + 1) "_law_long_right" ps__law_long_right (spLong K l) f fd := by
  refine ⟨F.F.ok sc__law_long_right (fun vs H Q E h => ?_) (fun cdv A outer s0 H vs Q E hr h => ?_), F.m, F.F.kp, F.b⟩
  · obtain ⟨_, rfl, _⟩ := h
    rfl
  obtain ⟨s, rfl, hS, z⟩ := h
  refine ⟨_, (pss_cons (ps_set (i := 1) sc__law_long_right.nd rfl (Or.inl rfl) (pcall d_law_course hr (pa_cons (pv 0) (pa_cons (pcall d_law_pick hr (pa_cons (pv 0) (pa_cons (pe_lst (pa_cons pe_int (pa_cons pe_int (pa_cons pe_int (pa_cons pe_int pa_nil))))) pa_nil))) (pa_cons pe_bl pa_nil)))))
      (pss_cons (ps_set (i := 2) sc__law_long_right.nd rfl (Or.inl rfl) (pcall d_law_pick hr (pa_cons (pv 0) (pa_cons (pe_lst (pa_cons (pe_op op_sub (pe_callB call_len_seq (by rfl) T.len_ PySem.boot_len (pa_cons (pv 1) pa_nil)) pe_int) (pa_cons (pcall d_law_take hr (pa_cons (pv 0) (pa_cons (pe_callB call_len_seq (by rfl) T.len_ PySem.boot_len (pa_cons (pv 1) pa_nil)) pa_nil))) pa_nil))) pa_nil))))
      (pss_cons (ps_set (i := 3) sc__law_long_right.nd rfl (Or.inr rfl) (pcall d_law_part hr (pa_cons (pv 0) pa_nil)))
      (pss_cons (ps_set (i := 4) sc__law_long_right.nd rfl (Or.inl rfl) (pe_op op_cat (pe_slice sl_list (pv 1) po_none (po_some (pv 2))) (pe_lc (own := [("_law_piece", 5)]) (g := gName 5) (tt := tYes) rfl sc__law_long_right.nd (pi_list (pe_slice sl_list (pv 1) (po_some (pv 2)) po_none)) (blkOk_by (N := N__law_long_right) (sc := defScope s__law_long_right) (by decide +kernel)) (fun _ _ _ _ _ => pg_name (i := 5) sc__law_long_right.nd rfl (Or.inl rfl)) (fun _ _ _ _ _ => pts_nil) (fun _ _ _ _ _ => (pe_tup (pa_cons (pe_ix (show IxR _ (rIxT K) from ix_tup) (pv 5) pe_int (fun _ _ => rfl)) (pa_cons (pcall d_law_plus hr (pa_cons (pe_ix (show IxR _ (rIxT K) from ix_tup) (pv 5) pe_int (fun _ _ => rfl)) (pa_cons (pv 3) pa_nil))) (pa_cons (pe_ix (show IxR _ (rIxT K) from ix_tup) (pv 5) pe_int (fun _ _ => rfl)) pa_nil))))))))
      (pss_cons (ps_set (i := 6) sc__law_long_right.nd rfl (Or.inl rfl) (pe_lst pa_nil))
      (pss_cons (ps_set (i := 7) sc__law_long_right.nd rfl (Or.inl rfl) (pe_lst (pa_cons (pe_ix ix_list (pv 4) pe_int (fun _ _ => rfl)) pa_nil)))
      (pss_cons (ps_for PassesOwn.never rfl (pi_range2 (by rfl) T.range_ (pa_cons pe_int (pa_cons (pe_callB call_len_seq (by rfl) T.len_ PySem.boot_len (pa_cons (pv 4) pa_nil)) pa_nil))) (pg_name (i := 8) sc__law_long_right.nd rfl (Or.inl rfl))
        (pss_cons (ps_set (i := 9) sc__law_long_right.nd rfl (Or.inl rfl) (pe_ix ix_list (pv 4) (pe_op op_sub (pv 8) pe_int) (fun _ _ => rfl)))
        (pss_cons (ps_set (i := 10) sc__law_long_right.nd rfl (Or.inl rfl) (pcall d_law_plus hr (pa_cons (pe_ix ix_tup (pv 9) pe_int (fun _ _ => rfl)) (pa_cons (pcall d_law_times hr (pa_cons (pe_ix ix_tup (pv 9) pe_int (fun _ _ => rfl)) (pa_cons (pcall d_law_minus hr (pa_cons (pe_ix ix_tup (pe_ix ix_list (pv 4) (pv 8) (fun _ _ => rfl)) pe_int (fun _ _ => rfl)) (pa_cons (pe_ix ix_tup (pv 9) pe_int (fun _ _ => rfl)) pa_nil))) pa_nil))) pa_nil))))
        (pss_cons (ps_set (i := 11) sc__law_long_right.nd rfl (Or.inl rfl) (pcall d_law_minus hr (pa_cons (pe_ix ix_tup (pe_ix ix_list (pv 4) (pv 8) (fun _ _ => rfl)) pe_int (fun _ _ => rfl)) (pa_cons (pv 10) pa_nil))))
        (pss_cons (ps_if (pt_cmpR op_ne (pe_ix ix_tup (pv 11) pe_int (fun _ _ => rfl)) pe_int (nomark _))
          (pss_one (ps_expr (pe_bm PySem.F.plainAttrs_list PySem.F.slot_list_append PySem.F.type_list_append mt_append (pv 6) (pa_cons (pe_tup (pa_cons (pe_ix ix_tup (pe_ix ix_list (pv 4) (pv 8) (fun _ _ => rfl)) pe_int (fun _ _ => rfl)) (pa_cons (pv 11) pa_nil))) pa_nil))))
          pss_nil)
        (pss_one (ps_if (PW.pt (pw_or (pt_cmpR op_ne (pe_ix ix_tup (pv 11) pe_int (fun _ _ => rfl)) pe_int (nomark _)) (pw_or1 (pt_cmpR (op_neD hr.units) (pe_ix ix_tup (pe_ix ix_list (pv 4) (pv 8) (fun _ _ => rfl)) pe_int (fun _ _ => rfl)) (pe_ix ix_tup (pv 9) pe_int (fun _ _ => rfl)) (nomark _)))))
          (pss_one (ps_expr (pe_bm PySem.F.plainAttrs_list PySem.F.slot_list_append PySem.F.type_list_append mt_append (pv 7) (pa_cons (pe_ix ix_list (pv 4) (pv 8) (fun _ _ => rfl)) pa_nil))))
          pss_nil)))))))
      (pss_cons (ps_set (i := 12) sc__law_long_right.nd rfl (Or.inl rfl) (pe_callTy call_list_of (by rfl) T.list_ (by decide +kernel) (pa_cons (pv 4) pa_nil)))
      (pss_one (ps_ret (pe_and (pcall d_law_same hr (pa_cons (pcall djumps hr (pa_cons (pv 12) pa_nil)) (pa_cons (pv 6) pa_nil))) (pe_and (pcall d_law_same hr (pa_cons (pcall dtidy hr (pa_cons (pv 12) pa_nil)) (pa_cons (pv 7) pa_nil))) (pe_one (pcall d_law_same hr (pa_cons (pv 12) (pa_cons (pv 4) pa_nil)))))))))))))))), ?_⟩
  have p62 : (2 : Int) ^ 62 = 4611686018427387904 := by decide
  have p64 : (2 : Int) ^ 64 = 18446744073709551616 := by decide
  -- the course
  refine ⟨_, rfl, _, rfl, sm4, fun p hp => ?_⟩
  have e0 := same_new hp (.lst [.int 40, .int 40, .int 36, .int 21])
  refine ⟨s, p, _, rfl, hS.same e0, hS.ne hp, SqL.of upd_same, (by show 0 < 4; decide), (by show 4 < 2 ^ 32; decide), fun v G1 hv S1 e1 => ?_⟩
  obtain ⟨many, rfl, hm1, hm2⟩ : ∃ m : Nat, v = .int (m : Int) ∧ 1 ≤ m ∧ m ≤ 40 := by
    simp only [List.mem_cons, List.mem_nil_iff, or_false] at hv
    rcases hv with rfl | rfl | rfl | rfl
    · exact ⟨40, rfl, by decide, by decide⟩
    · exact ⟨40, rfl, by decide, by decide⟩
    · exact ⟨36, rfl, by decide, by decide⟩
    · exact ⟨21, rfl, by decide, by decide⟩
  refine ⟨s, many, true, rfl, S1, hm2, fun a xs c G2 B2 hc ok fz => ?_⟩
  have cz := fz.cz (by decide)
  have S2 := B2.1
  have nas : a ≠ s := B2.2.2.1
  have C2 : Ct K G2 a xs c := ⟨B2.at, B2.all⟩
  clear B2 e1 e0
  -- the spot
  refine ⟨_, rfl, _, rfl, a, _, rfl, .inl (SqL.of C2.1), _, _, rfl, rfl, _, rfl, _, rfl, a, _, rfl, .inl (SqL.of C2.1), s, _, rfl, S2, by have := C2.2.1; omega, fun r G3 r0 r1 S3 e3 => ?_⟩
  have C3 := C2.fr e3 S2.some nas
  have hxl := C3.2.1
  refine ⟨sz2, fun p hp => ?_⟩
  have e4 := same_new hp (.lst [.int (((xs.length : Nat) : Int) - 1), .int r])
  refine ⟨s, p, _, rfl, S3.same e4, S3.ne hp, SqL.of upd_same, (by show 0 < 2; decide), (by show 2 < 2 ^ 32; decide), fun v G5 hv S5 e5 => ?_⟩
  have C5 := (C3.same e4).fr e5 (S3.same e4).some nas
  obtain ⟨n, rfl, hn⟩ : ∃ n : Nat, v = .int (n : Int) ∧ n < c.length := by
    simp only [List.mem_cons, List.mem_nil_iff, or_false] at hv
    rcases hv with rfl | rfl
    · exact ⟨xs.length - 1, by rw [show (((xs.length - 1 : Nat)) : Int) = (xs.length : Int) - 1 by omega], by omega⟩
    · exact ⟨r.toNat, by rw [show ((r.toNat : Nat) : Int) = r by omega], by omega⟩
  refine ⟨_, rfl, s, rfl, S5, fun y G6 qy S6 e6 => ?_⟩
  have C6 := C5.fr e6 S5.some nas
  obtain ⟨q, ry, zq, _⟩ := qy
  clear e5 e4 e3 C2 C3 C5
  refine ⟨_, rfl, _, rfl, _, rfl, a, xs, rfl, SqL.of C6.1, fun p1 hp1 => ?_⟩
  rw [cutV_take (by have := C6.2.1; omega)]
  have t1 := same_new hp1 (.lst (xs.take n))
  have x1 : (upd G6 p1 (.lst (xs.take n))) p1 = some (.lst (xs.take n)) := upd_same
  generalize upd G6 p1 (.lst (xs.take n)) = Ga at t1 x1 ⊢
  refine ⟨_, rfl, _, rfl, _, rfl, a, xs, rfl, SqL.of (t1 _ _ C6.1), fun p2 hp2 => ?_⟩
  rw [cutV_drop (by have := C6.2.1; omega)]
  have t2 := same_new hp2 (.lst (xs.drop n))
  have x2 : (upd Ga p2 (.lst (xs.drop n))) p2 = some (.lst (xs.drop n)) := upd_same
  have x1 := t2 _ _ x1
  have t2 := t1.trans t2
  generalize upd Ga p2 (.lst (xs.drop n)) = Gb at t2 x1 x2 ⊢
  have Cb := C6.same t2
  have rb := ry.same t2
  refine ⟨p2, rfl, ⟨_, SqL.of x2⟩, fun D hD => lc_list (xs := xs.drop n) (fun i G => ∃ acc, G D = some (.lst acc) ∧ Same Gb G ∧ All2 (Pq K G) acc (((c.drop n).take i).map (up q))) ⟨[], upd_same, same_new hD _, by rw [List.take_zero]; exact All2.nil⟩ (fun i G _ h => by obtain ⟨_, _, sg, _⟩ := h; exact SqL.of (sg _ _ x2)) ?_ ?_⟩
  · rintro i x G hxi ⟨acc, hA1, sg, hA⟩
    have hdl := (Cb.2.drop n).1
    have hi : i < (c.drop n).length := by rw [← hdl]; exact (List.getElem?_eq_some_iff.mp hxi).1
    have ei : (c.drop n)[i]? = some (c.drop n)[i] := List.getElem?_eq_getElem hi
    have pi := ((Cb.2.drop n).2 i x _ hxi ei).same sg
    have hm : (c.drop n)[i] ∈ c := List.mem_of_mem_drop (List.getElem_mem hi)
    obtain ⟨zs, zv, zr⟩ := cz _ hm
    generalize (c.drop n)[i] = pc at ei pi zs zv zr
    obtain ⟨e, es, ev, er, rfl, he, r1, r2, r3⟩ := pi
    have hal := hA.1
    rw [List.length_map, List.length_take] at hal
    rw [List.length_drop] at hi
    refine ⟨rfl, tyes ⟨_, rfl, e, _, _, _, rfl, rfl, he, at0 rfl, _, rfl, e, _, _, _, rfl, rfl, he, at1 rfl, _, rfl, _, _, pc.v, q, 115, 5, rfl, r2, rb.same sg, zv, zq, by decide, fun w1 G1 f1 g1 => ?_⟩⟩
    refine ⟨_, rfl, e, _, _, _, rfl, rfl, f1.sqt he, at2 rfl, sm3, fun T1 hT1 => ?_⟩
    have st := same_new hT1 (.tup [es, w1, er])
    have hA2 := st _ _ (f1 _ _ hA1)
    have fr : Fr D _ _ := Fr.upd (s := D) (H := upd G1 T1 (.tup [es, w1, er])) (.lst (acc ++ [.ref T1]))
    have g1 : Rq K G1 w1 (pc.v + q) := g1
    have np : Pq K (upd G1 T1 (.tup [es, w1, er])) (.ref T1) (up q pc) := ⟨T1, es, w1, er, rfl, SqT.of upd_same, (r1.same f1).same st, g1.same st, (r3.same f1).same st⟩
    refine ⟨acc, hA2, le1000 (by omega), _, upd_same, same_upd (sg.trans (f1.trans st)) hD _, ?_⟩
    rw [List.take_add_one, ei, List.map_append]
    exact (hA.imp fun _ _ h => (h.same (f1.trans st)).fr fr ⟨_, hA2⟩).snoc (np.fr fr ⟨_, hA2⟩)
  rintro Gc ⟨acc, hA1, sg, hA⟩
  have hdl := (Cb.2.drop n).1
  rw [hdl, List.take_length] at hA
  have Cc := Cb.same sg
  have hal := hA.1
  rw [List.length_map, List.length_drop] at hal
  have hxl := Cc.2.1
  refine ⟨p1, D, _, _, rfl, rfl, sg _ _ x1, hA1, Nat.le_of_lt (le1000 (by rw [List.length_take]; omega)), fun Dr hDr => ?_⟩
  have sr := same_new hDr (.lst (xs.take n ++ acc))
  have Cr : Ct K (upd Gc Dr (.lst (xs.take n ++ acc))) Dr (xs.take n ++ acc) (rz c n q) := ⟨upd_same, ((Cc.2.take n).append hA).imp fun _ _ h => h.same sr⟩
  have sr := (t2.trans sg).trans sr
  generalize upd Gc Dr (.lst (xs.take n ++ acc)) = Gr at sr Cr ⊢
  generalize xs.take n ++ acc = ur at Cr
  have okr := cok_rz ok (Nat.le_of_lt hn) q
  have czr := cz_rz cz (Nat.le_of_lt hn) zq
  have lr : (rz c n q).length = c.length := rz_len c n q
  generalize rz c n q = row at Cr okr czr lr
  clear Cc Cb hA hA1 sg x1 x2 rb hdl
  have hrl := Cr.2.1
  refine ⟨Nat.zero_le _, fun Df hDf => ?_⟩
  have nrf : Dr ≠ Df := ne_at Cr.1 hDf
  have Cr := Cr.same (same_new hDf (.lst []))
  have Jf : Jt K (upd Gr Df (.lst [])) Df [] (jl (row.take 1)) := ⟨upd_same, by
    cases row with
    | nil => exact absurd lr (by show ¬ 0 = c.length; omega)
    | cons p d => exact All2.nil⟩
  generalize upd Gr Df (.lst []) = Gs at Cr Jf ⊢
  have er0 : row[0]? = some row[0] := List.getElem?_eq_getElem (by omega)
  obtain ⟨x0, hx0, px0⟩ := Cr.2.at er0
  refine ⟨_, rfl, Dr, _, _, _, rfl, rfl, SqL.of Cr.1, at0 hx0, sm1, fun Dk hDk => ?_⟩
  have nrk : Dr ≠ Dk := ne_at Cr.1 hDk
  have nfk : Df ≠ Dk := ne_at Jf.1 hDk
  have sk := same_new hDk (.lst [x0])
  have Ck : Ct K (upd Gs Dk (.lst [x0])) Dk [x0] (tl (row.take 1)) := ⟨upd_same, by
    have : tl (row.take 1) = [row[0]] := by
      cases row with
      | nil => exact absurd lr (by show ¬ 0 = c.length; omega)
      | cons p d => rfl
    rw [this]
    exact All2.one (px0.same sk)⟩
  have Cr := Cr.same sk
  have Jf := Jf.same sk
  generalize upd Gs Dk (.lst [x0]) = Gt at Cr Jf Ck ⊢
  refine ⟨_, rfl, Dr, _, rfl, .inl (SqL.of Cr.1), _, _, rfl, ⟨by omega, by omega, by omega, by omega⟩, for_range (lo := 1) (n := (((ur.length : Nat) : Int) - 1).toNat) (fun i σ G => ∃ (uf uk : List V) (k8 k9 k10 k11 : Option V), σ = [some (.ref s), some (.ref a), some (.int (n : Int)), some y, some (.ref Dr), none, some (.ref Df), some (.ref Dk), k8, k9, k10, k11, none] ∧ Ct K G Dr ur row ∧ Jt K G Df uf (jl (row.take (i + 1))) ∧ Ct K G Dk uk (tl (row.take (i + 1))))
    ⟨_, _, _, _, _, _, rfl, Cr, Jf, Ck⟩ ?_ ?_⟩
  · clear Cr Jf Ck
    rintro i σ G hi ⟨uf, uk, k8, k9, k10, k11, rfl, Cr, Jf, Ck⟩
    have hi1 : i + 1 < row.length := by omega
    have e1 : row[i]? = some row[i] := List.getElem?_eq_getElem (by omega)
    have e2 : row[i + 1]? = some row[i + 1] := List.getElem?_eq_getElem hi1
    obtain ⟨p, ep⟩ : ∃ p, p = row[i] := ⟨_, rfl⟩
    obtain ⟨x, ex⟩ : ∃ p, p = row[i + 1] := ⟨_, rfl⟩
    rw [← ep] at e1
    rw [← ex] at e2
    have en := jl_next e1 e2
    have et := tl_next e1 e2
    obtain ⟨zs1, zv1, zr1⟩ := czr p (List.mem_of_getElem? e1)
    obtain ⟨zs2, zv2, zr2⟩ := czr x (List.mem_of_getElem? e2)
    obtain ⟨x1, hx1, d1, ds1, dv1, dr1, rfl, hd1, r11, r12, r13⟩ := Cr.2.at e1
    obtain ⟨x2, hx2, px⟩ := Cr.2.at e2
    obtain ⟨d2, ds2, dv2, dr2, rfl, hd2, r21, r22, r23⟩ := id px
    have huf := Jf.2.1
    have huk := Ck.2.1
    have hjl := jl_len (row.take (i + 1))
    have htl := (tl_sub (row.take (i + 1))).length_le
    rw [List.length_take] at hjl htl
    refine ⟨_, rfl, _, rfl, _, _, rfl, rfl, Dr, _, _, _, rfl, rfl, SqL.of Cr.1, at_of (j := i) (by omega) hx1, ?_⟩
    refine ⟨_, rfl, d1, _, _, _, rfl, rfl, hd1, at1 rfl, _, rfl, d1, _, _, _, rfl, rfl, hd1, at2 rfl, _, rfl, _, rfl, Dr, _, _, _, rfl, rfl, SqL.of Cr.1, at_of (j := i + 1) (by omega) hx2, d2, _, _, _, rfl, rfl, hd2, at0 rfl, _, rfl, d1, _, _, _, rfl, rfl, hd1, at0 rfl, ?_⟩
    refine ⟨_, _, x.s, p.s, 62, 62, rfl, r21, r11, zs2, zs1, by decide, fun w1 G1 f1 g1 => ?_⟩
    refine ⟨_, _, p.r, x.s - p.s, 5, 125, rfl, r13.same f1, g1, zr1, zs2.sub zs1, by decide, fun w2 G2 f2 g2 => ?_⟩
    have f2 := f1.trans f2
    refine ⟨_, _, p.v, p.r * (x.s - p.s), 121, 130, rfl, r12.same f2, g2, zv1, zr1.mul (zs2.sub zs1), by decide, fun w3 G3 f3 g3 => ?_⟩
    have f3 := f2.trans f3
    refine ⟨_, rfl, _, rfl, Dr, _, _, _, rfl, rfl, SqL.of (f3 _ _ Cr.1), at_of (j := i + 1) (by omega) hx2, d2, _, _, _, rfl, rfl, f3.sqt hd2, at1 rfl, _, rfl, ?_⟩
    refine ⟨_, _, x.v, p.v + p.r * (x.s - p.s), 121, 252, rfl, r22.same f3, g3, zv2, zv1.add (zr1.mul (zs2.sub zs1)), by decide, fun w4 G4 f4 g4 => ?_⟩
    have f4 := f3.trans f4
    have g4 : Rq K G4 w4 (jmp (ky p) x) := by rw [← jmp_at]; exact g4
    have Cr := Cr.same f4
    have Jf := Jf.same f4
    have Ck := Ck.same f4
    have hd1 := f4.sqt hd1
    have hd2 := f4.sqt hd2
    have px := px.same f4
    have r13 := r13.same f4
    have r21 := r21.same f4
    have r23 := r23.same f4
    obtain ⟨ja, rfl, hja⟩ := id g4
    dsimp only [gName]
    refine cut (fun σ' G' => ∃ (uf : List V), σ' = [some (.ref s), some (.ref a), some (.int (n : Int)), some y, some (.ref Dr), none, some (.ref Df), some (.ref Dk), some (.int (1 + (i : Int))), some (.ref d1), some w3, some (.ref ja), none] ∧ Ct K G' Dr ur row ∧ Jt K G' Df uf (jl (row.take (i + 2))) ∧ Ct K G' Dk uk (tl (row.take (i + 1))) ∧ SqT K G' ja [.int (jmp (ky p) x).num, .int ((jmp (ky p) x).den : Int)] ∧ Pq K G' (.ref d2) x ∧ SqT K G' d1 [ds1, dv1, dr1] ∧ Rq K G' dr1 p.r ∧ SqT K G' d2 [ds2, dv2, dr2] ∧ Rq K G' dr2 x.r) ?_ ?_
    · rintro σ' G5 ⟨uf', rfl, Cr, Jf, Ck, hja, px, hd1, r13, hd2, r23⟩
      have keep : ky x ≠ ky p → ∃ (uf uk' : List V) (k8 k9 k10 k11 : Option V), [some (.ref s), some (.ref a), some (.int (n : Int)), some y, some (.ref Dr), none, some (.ref Df), some (.ref Dk), some (.int (1 + (i : Int))), some (.ref d1), some w3, some (.ref ja), none] = [some (.ref s), some (.ref a), some (.int (n : Int)), some y, some (.ref Dr), none, some (.ref Df), some (.ref Dk), k8, k9, k10, k11, none] ∧ Ct K (upd G5 Dk (.lst (uk ++ [.ref d2]))) Dr ur row ∧ Jt K (upd G5 Dk (.lst (uk ++ [.ref d2]))) Df uf (jl (row.take (i + 1 + 1))) ∧ Ct K (upd G5 Dk (.lst (uk ++ [.ref d2]))) Dk uk' (tl (row.take (i + 1 + 1))) := fun g => by
        have fr : Fr Dk G5 (upd G5 Dk (.lst (uk ++ [.ref d2]))) := Fr.upd _
        refine ⟨uf', _, _, _, _, _, rfl, Cr.fr fr ⟨_, Ck.1⟩ nrk, Jf.fr fr ⟨_, Ck.1⟩ nfk, upd_same, ?_⟩
        rw [et, if_neg g]
        exact (Ck.2.imp fun _ _ h => h.fr fr ⟨_, Ck.1⟩).snoc (px.fr fr ⟨_, Ck.1⟩)
      refine ⟨_, rfl, ja, _, _, _, rfl, rfl, hja, at0 rfl, rfl, _, rfl, ?_⟩
      by_cases g : jmp (ky p) x = 0
      · refine ifF (by rw [dT ((num0 _).mpr g)]; rfl) ⟨_, rfl, _, rfl, Dr, _, _, _, rfl, rfl, SqL.of Cr.1, at_of (j := i + 1) (by omega) hx2, d2, _, _, _, rfl, rfl, hd2, at2 rfl, _, rfl, d1, _, _, _, rfl, rfl, hd1, at2 rfl, _, _, r23.dp, r13.dp, sh_dq _, sh_dq _, _, rfl, ?_⟩
        rw [eqv_dq]
        by_cases g2 : x.r = p.r
        · refine ifF (by rw [dT g2]; rfl) ⟨uf', uk, _, _, _, _, rfl, Cr, Jf, Ck.1, ?_⟩
          rw [et, if_pos (ky_eq.mpr ⟨g2, g⟩), List.append_nil]
          exact Ck.2
        · exact ifT (by rw [dF g2]; rfl) ⟨_, rfl, .inl ⟨rfl, _, SqL.of Ck.1⟩, _, rfl, _, rfl, Dr, _, _, _, rfl, rfl, SqL.of Cr.1, at_of (j := i + 1) (by omega) hx2, Dk, _, _, rfl, rfl, Ck.1, le1000 (by omega), keep fun h => g2 (ky_eq.mp h).1⟩
      · exact ifT (by rw [dF fun e => g ((num0 _).mp e)]; rfl) ⟨_, rfl, .inl ⟨rfl, _, SqL.of Ck.1⟩, _, rfl, _, rfl, Dr, _, _, _, rfl, rfl, SqL.of Cr.1, at_of (j := i + 1) (by omega) hx2, Dk, _, _, rfl, rfl, Ck.1, le1000 (by omega), keep fun h => g (ky_eq.mp h).2⟩
    · intro key
      refine ⟨_, rfl, ja, _, _, _, rfl, rfl, hja, at0 rfl, rfl, _, rfl, ?_⟩
      by_cases g : jmp (ky p) x = 0
      · refine ifF (by rw [dT ((num0 _).mpr g)]; rfl) (key _ _ ⟨uf, rfl, Cr, ⟨Jf.1, ?_⟩, Ck, hja, px, hd1, r13, hd2, r23⟩)
        rw [en, if_pos g, List.append_nil]
        exact Jf.2
      · refine ifT (by rw [dF fun e => g ((num0 _).mp e)]; rfl) ⟨_, rfl, .inl ⟨rfl, _, SqL.of Jf.1⟩, _, rfl, _, rfl, Dr, _, _, _, rfl, rfl, SqL.of Cr.1, at_of (j := i + 1) (by omega) hx2, d2, _, _, _, rfl, rfl, hd2, at0 rfl, _, rfl, sz2, fun T1 h1 => ?_⟩
        have t1 := same_new h1 (.tup [ds2, .ref ja])
        have hf := t1 _ _ Jf.1
        have fr : Fr Df _ _ := Fr.upd (s := Df) (H := upd G4 T1 (.tup [ds2, .ref ja])) (.lst (uf ++ [.ref T1]))
        have hs : ∃ ys, (upd G4 T1 (.tup [ds2, .ref ja])) Df = some (.lst ys) := ⟨_, hf⟩
        have jn : Jq K (upd G4 T1 (.tup [ds2, .ref ja])) (.ref T1) (x.s, jmp (ky p) x) := ⟨T1, ds2, _, rfl, SqT.of upd_same, r21.same t1, g4.same t1⟩
        refine ⟨Df, _, _, rfl, rfl, hf, le1000 (by omega), key _ _ ⟨_, rfl, (Cr.same t1).fr fr hs nrf, ⟨upd_same, ?_⟩, (Ck.same t1).fr fr hs (Ne.symm nfk), sqt_fr fr hs (t1.sqt hja), (px.same t1).fr fr hs, sqt_fr fr hs (t1.sqt hd1), (r13.same t1).fr fr hs, sqt_fr fr hs (t1.sqt hd2), (r23.same t1).fr fr hs⟩⟩
        rw [en, if_neg g]
        exact (Jf.2.imp fun _ _ h => (h.same t1).fr fr hs).snoc (jn.fr fr hs)
  · clear Cr Jf Ck
    rintro σ G ⟨uf, uk, k8, k9, k10, k11, rfl, Cr, Jf, Ck⟩
    rw [List.take_of_length_le (by omega)] at Jf Ck
    have lj := jl_len row
    have lt := (tl_sub row).length_le
    refine ⟨_, rfl, Dr, _, rfl, .inl (SqL.of Cr.1), fun Dp hDp => ?_⟩
    have sp := same_new hDp (.lst ur)
    have Cp : Ct K (upd G Dp (.lst ur)) Dp ur row := ⟨upd_same, (Cr.same sp).2⟩
    have Cr := Cr.same sp
    have Jf := Jf.same sp
    have Ck := Ck.same sp
    generalize upd G Dp (.lst ur) = Gp at Cp Cr Jf Ck ⊢
    refine ⟨_, rfl, Dp, row, 62, 121, 5, rfl, Cp.cq, czr, by omega, by omega, by decide, fun Dx ux Gx ex hx hx' Ax => ?_⟩
    have Jx : Jt K Gx Dx ux (jl row) := ⟨hx', Ax⟩
    refine ⟨_, rfl, _, _, _, rfl, Jx.dd, (Jf.same ex).dd, tree_j (by omega), _, rfl, ifT rfl ?_⟩
    refine ⟨_, rfl, Dp, row, 62, 121, 5, rfl, (Cp.same ex).cq, czr, by omega, by omega, by decide, fun Dy uy Gy ey hy Cy => ?_⟩
    have ey := ex.trans ey
    refine ⟨_, rfl, _, _, _, rfl, Cy.dd, (Ck.same ey).dd, tree_c (by omega), _, rfl, ifT rfl ?_⟩
    exact ⟨_, rfl, _, rfl, _, _, _, rfl, (Cp.same ey).dd, (Cr.same ey).dd, tree_c (by omega), z _⟩
end Vk

namespace Vk
open PySem L2 Vm
variable {l az : Addr} {P : Program} {w : World} {K : PySem.W.Frag} {mg : Str → Option Value} {base : Heap} {k : Nat} {f f1 f2 f3 f4 f5 f6 f7 f8 f9 f10 f11 f12 f13 : Addr} {fd fd1 fd2 fd3 fd4 fd5 fd6 fd7 fd8 fd9 fd10 fd11 fd12 fd13 : FuncData}
variable {f14 : Addr} {fd14 : FuncData}
abbrev s_law : Stmt := top 49
abbrev N_law : List Str := ["_law_script", "_law_store_here", "_law_many", "_law_first", "_law_second", "_law_more", "_law_spot", "_law_by", "_law_turned", "_law_piece", "_law_same_here"]
theorem sc_law : FnScope N_law ["_law_script"] (defScope s_law) := ⟨rfl, rfl, rfl, by decide +kernel, rfl, by decide +kernel, by decide +kernel⟩
abbrev ps_law : List Str := ["_law_script"]
def spLaw (K : PySem.W.Frag) : Sp := fun vs H Q _ => ∃ (a : Addr) (ns : List Int), vs = [.ref a] ∧ SqL K H a (ns.map V.int) ∧ ns.length ≤ 63 ∧ ∀ H', Q (.bl true) H'
theorem ok_law (T : Bn mg) (F : Fn K mg "law" s_law ps_law f fd) (d_law_store : Def P w K mg base k "_law_store" ["_law_script"] (spStore K) f1 fd1) (d_law_take : Def P w K mg base k "_law_take" ["_law_store_here", "_law_many"] (exS (spTake K)) f2 fd2)
    (d_law_size : Def P w K mg base k "_law_size" ["_law_store_here", "_law_least", "_law_top"] (exS (spSize K)) f3 fd3) (d_law_course : Def P w K mg base k "_law_course" ["_law_store_here", "_law_many", "_law_fall"] (exS (spCourse8 K)) f4 fd4)
    (d_law_wide_course : Def P w K mg base k "_law_wide_course" ["_law_store_here"] (exS (spWide K)) f5 fd5) (d_law_cut_up : Def P w K mg base k "_law_cut_up" ["_law_store_here", "_law_course_here", "_law_many"] (exS (spCut K)) f6 fd6)
    (d_law_right : Def P w K mg base k "_law_right" ["_law_course_here"] (spRight K) f7 fd7) (d_law_same : Def P w K mg base k "_law_same" ["_law_value", "_law_due"] (spSame K 3) f8 fd8)
    (dtidy : Def P w K mg base k "tidy" ["course"] (spTidy K) f9 fd9) (djumps : Def P w K mg base k "jumps" ["course"] (spJumps K) f10 fd10) (d_law_part : Def P w K mg base k "_law_part" ["_law_store_here"] (exS fun l => spDraw K l 5 anyQ) f11 fd11)
    (d_law_plus : Def P w K mg base k "_law_plus" ["_law_a", "_law_b"] (spOp2 K (· + ·)) f12 fd12) (d_law_alike : Def P w K mg base k "_law_alike" ["_law_one", "_law_other"] (spAlike K) f13 fd13) (d_law_long_right : Def P w K mg base k "_law_long_right" ["_law_store_here"] (exS (spLong K)) f14 fd14) :
    Def P w K mg base (k + 1) "law" ps_law (spLaw K) f fd := by
  refine ⟨F.F.ok sc_law (fun vs H Q E h => ?_) (fun cdv A outer s0 H vs Q E hr h => ?_), F.m, F.F.kp, F.b⟩
  · obtain ⟨_, _, rfl, _⟩ := h
    rfl
  obtain ⟨a, ns, rfl, hS, hlen, z⟩ := h
  refine ⟨_, (pss_cons (ps_set (i := 1) sc_law.nd rfl (Or.inl rfl) (pcall d_law_store hr (pa_cons (pv 0) pa_nil)))
      (pss_cons (ps_set (i := 2) sc_law.nd rfl (Or.inl rfl) (pe_op op_add pe_int (pcall d_law_take hr (pa_cons (pv 1) (pa_cons pe_int pa_nil)))))
      (pss_cons (ps_if (pt_cmpR op_eq (pcall d_law_take hr (pa_cons (pv 1) (pa_cons pe_int pa_nil))) pe_int (nomark _))
        (pss_one (ps_set (i := 2) sc_law.nd rfl (Or.inl rfl) (pcall d_law_size hr (pa_cons (pv 1) (pa_cons pe_int (pa_cons pe_int pa_nil))))))
        pss_nil)
      (pss_cons (ps_set (i := 3) sc_law.nd rfl (Or.inl rfl) (pcall d_law_course hr (pa_cons (pv 1) (pa_cons (pv 2) (pa_cons pe_bl pa_nil)))))
      (pss_cons (ps_set (i := 4) sc_law.nd rfl (Or.inl rfl) (pcall d_law_wide_course hr (pa_cons (pv 1) pa_nil)))
      (pss_cons (ps_set (i := 5) sc_law.nd rfl (Or.inl rfl) (pcall d_law_cut_up hr (pa_cons (pv 1) (pa_cons (pv 3) (pa_cons (pe_op op_add pe_int (pcall d_law_take hr (pa_cons (pv 1) (pa_cons pe_int pa_nil)))) pa_nil)))))
      (pss_cons (ps_if (PW.pt (pw_or (pt_not (pt_val (pcall d_law_right hr (pa_cons (pv 3) pa_nil)))) (pw_or (pt_not (pt_val (pcall d_law_right hr (pa_cons (pv 4) pa_nil)))) (pw_or1 (pt_not (pt_val (pcall d_law_right hr (pa_cons (pv 5) pa_nil))))))))
        (pss_one (ps_ret pe_bl))
        pss_nil)
      (pss_cons (ps_if (PW.pt (pw_or (pt_not (pt_val (pcall d_law_same hr (pa_cons (pcall dtidy hr (pa_cons (pv 5) pa_nil)) (pa_cons (pcall dtidy hr (pa_cons (pv 3) pa_nil)) pa_nil))))) (pw_or1 (pt_not (pt_val (pcall d_law_same hr (pa_cons (pcall djumps hr (pa_cons (pv 5) pa_nil)) (pa_cons (pcall djumps hr (pa_cons (pv 3) pa_nil)) pa_nil))))))))
        (pss_one (ps_ret pe_bl))
        pss_nil)
      (pss_cons (ps_set (i := 6) sc_law.nd rfl (Or.inl rfl) (pcall d_law_take hr (pa_cons (pv 1) (pa_cons (pe_callB call_len_seq (by rfl) T.len_ PySem.boot_len (pa_cons (pv 5) pa_nil)) pa_nil))))
      (pss_cons (ps_set (i := 7) sc_law.nd rfl (Or.inr rfl) (pcall d_law_part hr (pa_cons (pv 1) pa_nil)))
      (pss_cons (ps_set (i := 8) sc_law.nd rfl (Or.inl rfl) (pe_op op_cat (pe_slice sl_list (pv 5) po_none (po_some (pv 6))) (pe_lc (own := [("_law_piece", 9)]) (g := gName 9) (tt := tYes) rfl sc_law.nd (pi_list (pe_slice sl_list (pv 5) (po_some (pv 6)) po_none)) (blkOk_by (N := N_law) (sc := defScope s_law) (by decide +kernel)) (fun _ _ _ _ _ => pg_name (i := 9) sc_law.nd rfl (Or.inl rfl)) (fun _ _ _ _ _ => pts_nil) (fun _ _ _ _ _ => (pe_tup (pa_cons (pe_ix (show IxR _ (rIxT K) from ix_tup) (pv 9) pe_int (fun _ _ => rfl)) (pa_cons (pcall d_law_plus hr (pa_cons (pe_ix (show IxR _ (rIxT K) from ix_tup) (pv 9) pe_int (fun _ _ => rfl)) (pa_cons (pv 7) pa_nil))) (pa_cons (pe_ix (show IxR _ (rIxT K) from ix_tup) (pv 9) pe_int (fun _ _ => rfl)) pa_nil))))))))
      (pss_cons (ps_if (pt_not (pt_val (pcall d_law_right hr (pa_cons (pv 8) pa_nil))))
        (pss_one (ps_ret pe_bl))
        pss_nil)
      (pss_cons (ps_set (i := 10) sc_law.nd rfl (Or.inl rfl) (pe_cmpR (op_eqD hr.units) (pcall dtidy hr (pa_cons (pv 8) pa_nil)) (pcall dtidy hr (pa_cons (pv 3) pa_nil)) (nomark _)))
      (pss_cons (ps_if (PW.pt (pw_or (pt_cmpR op_ne (pv 10) (pcall d_law_alike hr (pa_cons (pv 8) (pa_cons (pv 3) pa_nil))) (nomark _)) (pw_or1 (pt_cmpR op_ne (pv 10) (pe_cmpR op_eq (pe_ix ix_tup (pv 7) pe_int (fun _ _ => rfl)) pe_int (nomark _)) (nomark _)))))
        (pss_one (ps_ret pe_bl))
        pss_nil)
      (pss_one (ps_ret (pcall d_law_long_right hr (pa_cons (pv 1) pa_nil)))))))))))))))))), ?_⟩
  have p64 : (2 : Int) ^ 64 = 18446744073709551616 := by decide
  -- the store; how many pieces
  refine ⟨_, rfl, a, ns, rfl, hS, hlen, fun s l H1 e1 s0 S1 => ?_⟩
  refine ⟨_, rfl, l, s, 5, rfl, S1, by decide, fun r H2 r0 r1 S2 e2 => ⟨_, _, rfl, rfl, ?_⟩⟩
  obtain ⟨n, en⟩ : ∃ n : Nat, (n : Int) = 1 + r := ⟨(1 + r).toNat, by omega⟩
  dsimp only [gName]
  refine cut (fun σ' G => ∃ (m : Nat), σ' = [some (.ref a), some (.ref s), some (.int m), none, none, none, none, none, none, none, none] ∧ Sto l s G ∧ 1 ≤ m ∧ m ≤ 14) ?_ ?_
  · rintro σ' G0 ⟨m, rfl, S0, m1, m2⟩
    clear S1 S2 e1 e2
    -- the three courses
    refine ⟨_, rfl, _, rfl, l, s, m, true, rfl, S0, by omega, fun D1 us1 c1 G1 B1 hc1 ok1 fz1 => ?_⟩
    have cz1 := fz1.cz (by decide)
    have S1 := B1.1
    have n1 : D1 ≠ s := B1.2.2.1
    have C1 : Ct K G1 D1 us1 c1 := ⟨B1.at, B1.all⟩
    refine ⟨_, rfl, l, s, rfl, S1, fun D2 us2 c2 G2 B2 p2 l2 ok2 cz2 => ?_⟩
    have S2 := B2.1
    have n2 : D2 ≠ s := B2.2.2.1
    have C2 : Ct K G2 D2 us2 c2 := ⟨B2.at, B2.all⟩
    have C1 := C1.fr B2.2.1 S1.some n1
    refine ⟨_, rfl, _, rfl, _, rfl, l, s, 4, rfl, S2, by decide, fun r4 G3 r40 r41 S3 e3 => ⟨_, _, rfl, rfl, ?_⟩⟩
    obtain ⟨m4, em4⟩ : ∃ n : Nat, (n : Int) = 1 + r4 := ⟨(1 + r4).toNat, by omega⟩
    have C1 := C1.fr e3 S2.some n1
    have C2 := C2.fr e3 S2.some n2
    refine ⟨l, s, D1, m4, us1, c1, by rw [em4]; rfl, S3, n1, C1, ok1, fz1, by omega, by omega, by omega, fun D3 us3 c3 G4 B4 ok3 cz3 et ej el => ?_⟩
    have S4 := B4.1
    have n3 : D3 ≠ s := B4.2.2.1
    have C3 : Ct K G4 D3 us3 c3 := ⟨B4.at, B4.all⟩
    have C1 := C1.fr B4.2.1 S3.some n1
    have C2 := C2.fr B4.2.1 S3.some n2
    clear B1 B2 B4 e3
    refine ⟨_, rfl, D1, us1, c1, 62, 115, 5, rfl, C1, ok1, cz1, by decide, by omega, by omega, fun G5 e5 => ⟨_, rfl, ifF rfl ?_⟩⟩
    refine ⟨_, rfl, D2, us2, c2, 40, 40, 40, rfl, C2.same e5, ok2, cz2, by decide, by omega, by omega, fun G6 e6 => ⟨_, rfl, ifF rfl ?_⟩⟩
    have e6 := e5.trans e6
    refine ⟨_, rfl, D3, us3, c3, 62, 115, 5, rfl, C3.same e6, ok3, cz3, by decide, by omega, by omega, fun G7 e7 => ⟨_, rfl, ifF rfl ?_⟩⟩
    have e7 := e6.trans e7
    have C1 := C1.same e7
    have C3 := C3.same e7
    have S7 := S4.same e7
    clear C2 e5 e6 e7
    -- the same tidy form, the same jumps
    have l1 := (tl_sub c1).length_le
    have j1 := jl_len c1
    refine ⟨_, rfl, D3, c3, 62, 115, 5, rfl, C3.cq, cz3, by omega, by omega, by decide, fun Da ua Ga ea ha Ca => ?_⟩
    refine ⟨_, rfl, D1, c1, 62, 115, 5, rfl, (C1.same ea).cq, cz1, by omega, by omega, by decide, fun Db ub Gb eb hb Cb => ?_⟩
    rw [et] at Ca
    refine ⟨_, _, _, rfl, (Ca.same eb).dd, Cb.dd, tree_c (by omega), _, rfl, ifF rfl ?_⟩
    have eb := ea.trans eb
    refine ⟨_, rfl, D3, c3, 62, 115, 5, rfl, (C3.same eb).cq, cz3, by omega, by omega, by decide, fun Dc uc Gc ec hc hc' Ac => ?_⟩
    have ec := eb.trans ec
    refine ⟨_, rfl, D1, c1, 62, 115, 5, rfl, (C1.same ec).cq, cz1, by omega, by omega, by decide, fun Dd ud Gd ed hd hd' Ad => ?_⟩
    rw [ej] at Ac
    have Jc : Jt K Gc Dc uc (jl c1) := ⟨hc', Ac⟩
    have Jd : Jt K Gd Dd ud (jl c1) := ⟨hd', Ad⟩
    refine ⟨_, _, _, rfl, (Jc.same ed).dd, Jd.dd, tree_j (by omega), _, rfl, ifF rfl ?_⟩
    have ed := ec.trans ed
    have C1 := C1.same ed
    have C3 := C3.same ed
    have S8 := S7.same ed
    clear Ca Cb Jc Jd ea eb ec ed Ac Ad
    have h3l := C3.2.1
    -- raised from a piece on
    refine ⟨_, rfl, _, rfl, D3, _, rfl, .inl (SqL.of C3.1), l, s, _, rfl, S8, by omega, fun rn G9 rn0 rn1 S9 e9 => ?_⟩
    have C1 := C1.fr e9 S8.some n1
    have C3 := C3.fr e9 S8.some n3
    obtain ⟨n, rfl⟩ : ∃ n : Nat, rn = (n : Int) := ⟨rn.toNat, by omega⟩
    have hn : n < c3.length := by omega
    refine ⟨_, rfl, l, s, rfl, S9, fun y G10 qy S10 e10 => ?_⟩
    have C1 := C1.fr e10 S9.some n1
    have C3 := C3.fr e10 S9.some n3
    obtain ⟨q, ry, zq, _⟩ := qy
    refine ⟨_, rfl, _, rfl, _, rfl, D3, us3, rfl, SqL.of C3.1, fun p1 hp1 => ?_⟩
    rw [cutV_take (by have := C3.2.1; omega)]
    have t1 := same_new hp1 (.lst (us3.take n))
    have x1 : (upd G10 p1 (.lst (us3.take n))) p1 = some (.lst (us3.take n)) := upd_same
    generalize upd G10 p1 (.lst (us3.take n)) = Ga at t1 x1 ⊢
    refine ⟨_, rfl, _, rfl, _, rfl, D3, us3, rfl, SqL.of (t1 _ _ C3.1), fun p2 hp2 => ?_⟩
    rw [cutV_drop (by have := C3.2.1; omega)]
    have t2 := same_new hp2 (.lst (us3.drop n))
    have x2 : (upd Ga p2 (.lst (us3.drop n))) p2 = some (.lst (us3.drop n)) := upd_same
    have x1 := t2 _ _ x1
    have t2 := t1.trans t2
    generalize upd Ga p2 (.lst (us3.drop n)) = Gb at t2 x1 x2 ⊢
    have Cb := C3.same t2
    have rb := ry.same t2
    refine ⟨p2, rfl, ⟨_, SqL.of x2⟩, fun D hD => lc_list (xs := us3.drop n) (fun i G => ∃ acc, G D = some (.lst acc) ∧ Same Gb G ∧ All2 (Pq K G) acc (((c3.drop n).take i).map (up q))) ⟨[], upd_same, same_new hD _, by rw [List.take_zero]; exact All2.nil⟩ (fun i G _ h => by obtain ⟨_, _, sg, _⟩ := h; exact SqL.of (sg _ _ x2)) ?_ ?_⟩
    · rintro i x G hxi ⟨acc, hA1, sg, hA⟩
      have hdl := (Cb.2.drop n).1
      have hi : i < (c3.drop n).length := by rw [← hdl]; exact (List.getElem?_eq_some_iff.mp hxi).1
      have ei : (c3.drop n)[i]? = some (c3.drop n)[i] := List.getElem?_eq_getElem hi
      have pi := ((Cb.2.drop n).2 i x _ hxi ei).same sg
      have hm : (c3.drop n)[i] ∈ c3 := List.mem_of_mem_drop (List.getElem_mem hi)
      obtain ⟨zs, zv, zr⟩ := cz3 _ hm
      generalize (c3.drop n)[i] = pc at ei pi zs zv zr
      obtain ⟨e, es, ev, er, rfl, he, r1, r2, r3⟩ := pi
      have hal := hA.1
      rw [List.length_map, List.length_take] at hal
      rw [List.length_drop] at hi
      refine ⟨rfl, tyes ⟨_, rfl, e, _, _, _, rfl, rfl, he, at0 rfl, _, rfl, e, _, _, _, rfl, rfl, he, at1 rfl, _, rfl, _, _, pc.v, q, 115, 5, rfl, r2, rb.same sg, zv, zq, by decide, fun w1 G1 f1 g1 => ?_⟩⟩
      refine ⟨_, rfl, e, _, _, _, rfl, rfl, f1.sqt he, at2 rfl, sm3, fun T1 hT1 => ?_⟩
      have st := same_new hT1 (.tup [es, w1, er])
      have hA2 := st _ _ (f1 _ _ hA1)
      have fr : Fr D _ _ := Fr.upd (s := D) (H := upd G1 T1 (.tup [es, w1, er])) (.lst (acc ++ [.ref T1]))
      have g1 : Rq K G1 w1 (pc.v + q) := g1
      have np : Pq K (upd G1 T1 (.tup [es, w1, er])) (.ref T1) (up q pc) := ⟨T1, es, w1, er, rfl, SqT.of upd_same, (r1.same f1).same st, g1.same st, (r3.same f1).same st⟩
      refine ⟨acc, hA2, le1000 (by omega), _, upd_same, same_upd (sg.trans (f1.trans st)) hD _, ?_⟩
      rw [List.take_add_one, ei, List.map_append]
      exact (hA.imp fun _ _ h => (h.same (f1.trans st)).fr fr ⟨_, hA2⟩).snoc (np.fr fr ⟨_, hA2⟩)
    rintro Gc ⟨acc, hA1, sg, hA⟩
    have hdl := (Cb.2.drop n).1
    rw [hdl, List.take_length] at hA
    have Cc := Cb.same sg
    have hal := hA.1
    rw [List.length_map, List.length_drop] at hal
    have hxl := Cc.2.1
    refine ⟨p1, D, _, _, rfl, rfl, sg _ _ x1, hA1, Nat.le_of_lt (le1000 (by rw [List.length_take]; omega)), fun Dr hDr => ?_⟩
    have sr := same_new hDr (.lst (us3.take n ++ acc))
    have Cr : Ct K (upd Gc Dr (.lst (us3.take n ++ acc))) Dr (us3.take n ++ acc) (rz c3 n q) := ⟨upd_same, ((Cc.2.take n).append hA).imp fun _ _ h => h.same sr⟩
    have sr := (t2.trans sg).trans sr
    generalize upd Gc Dr (.lst (us3.take n ++ acc)) = Gr at sr Cr ⊢
    generalize us3.take n ++ acc = ur at Cr
    have okr := cok_rz ok3 (Nat.le_of_lt hn) q
    have czr := cz_rz cz3 (Nat.le_of_lt hn) zq
    have lr : (rz c3 n q).length = c3.length := rz_len c3 n q
    have S11 := S10.same sr
    have C1 := C1.same sr
    have ry := ry.same sr
    clear Cc Cb hA hA1 sg x1 x2 rb hdl
    have cz1' : Cz 62 121 5 c1 := fun p hp => ⟨(cz1 p hp).1, (cz1 p hp).2.1.mono (by decide), (cz1 p hp).2.2⟩
    have fin : (q = 0 → tl (rz c3 n q) = tl c1 ∧ ∀ t, nowf (rz c3 n q) t = nowf c1 t) ∧ (q ≠ 0 → tl (rz c3 n q) ≠ tl c1 ∧ ∀ t, (∀ p ∈ rz c3 n q ++ c1, p.s < t) → nowf (rz c3 n q) t ≠ nowf c1 t) := by
      constructor
      · intro hq
        rw [hq, rz_zero]
        exact ⟨et, fun t => by rw [← now_tl ok3, et, now_tl ok1]⟩
      · intro hq
        obtain ⟨h1, h2⟩ := tl_ne ok3 ok1 hn hq et
        exact ⟨h2, h1⟩
    generalize rz c3 n q = row at Cr okr czr lr fin
    refine ⟨_, rfl, Dr, ur, row, 62, 121, 5, rfl, Cr, okr, czr, by decide, by omega, by omega, fun G12 e12 => ⟨_, rfl, ifF rfl ?_⟩⟩
    have Cr := Cr.same e12
    have C1 := C1.same e12
    have ry := ry.same e12
    have S12 := S11.same e12
    refine ⟨_, rfl, Dr, row, 62, 121, 5, rfl, Cr.cq, czr, by omega, by omega, by decide, fun Dx ux Gx ex hx Cx => ?_⟩
    refine ⟨_, rfl, D1, c1, 62, 115, 5, rfl, (C1.same ex).cq, cz1, by omega, by omega, by decide, fun Dy uy Gy ey hy Cy => ?_⟩
    refine ⟨_, _, (Cx.same ey).dd, Cy.dd, sh_c _, sh_c _, ?_⟩
    rw [eqv_c]
    have ey := ex.trans ey
    refine ⟨_, rfl, _, rfl, _, rfl, Dr, D1, ur, us1, row, c1, 62, 121, 5, rfl, Cr.same ey, C1.same ey, czr, cz1', by omega, by omega, by decide, fun b Gz ez ht hf => ?_⟩
    have ez := ey.trans ez
    have ry := ry.same ez
    have S13 := S12.same ez
    have eb : b = decide (tl row = tl c1) := by
      by_cases hq : q = 0
      · rw [ht (fin.1 hq).2, dT (fin.1 hq).1]
      · rw [hf (fin.2 hq).2, dF (fin.2 hq).1]
    have eq0 : decide (tl row = tl c1) = decide (V.int q.num = V.int 0) := by
      by_cases hq : q = 0
      · rw [dT (fin.1 hq).1, dT ((num0 q).mpr hq)]
      · rw [dF (fin.2 hq).1, dF fun e => hq ((num0 q).mp e)]
    obtain ⟨ya, rfl, hya⟩ := id ry
    refine ⟨rfl, _, rfl, ifF (by rw [eb]; simp) ⟨_, rfl, _, rfl, ya, _, _, _, rfl, rfl, hya, at0 rfl, rfl, rfl, _, rfl, ifF (by rw [eq0]; simp) ?_⟩⟩
    exact ⟨_, rfl, l, s, rfl, S13, z⟩
  · intro key
    refine ⟨_, rfl, l, s, 8, rfl, S2, by decide, fun r2 H3 _ _ S3 e3 => ⟨rfl, _, rfl, ifD (fun _ => ?_) (fun _ => ?_)⟩⟩
    · refine ⟨_, rfl, l, s, 8, 14, rfl, S3, by decide, by decide, fun r3 H4 lo hi S4 e4 => ?_⟩
      obtain ⟨n3, rfl⟩ : ∃ n : Nat, r3 = (n : Int) := ⟨r3.toNat, by omega⟩
      exact key _ _ ⟨n3, rfl, S4, by omega, by omega⟩
    · refine key _ _ ⟨n, ?_, S3, by omega, by omega⟩
      rw [en]
      rfl
end Vk

namespace Vk
open PySem L2 Vm

theorem law_ok {P : Program} {w : World} {K : PySem.W.Frag} {mg : Str → Option Value} {base : Heap} {f_rational : Addr} {fd_rational : FuncData} {f_add : Addr} {fd_add : FuncData} {f_subtract : Addr} {fd_subtract : FuncData} {f_multiply : Addr} {fd_multiply : FuncData} {f_negate : Addr} {fd_negate : FuncData} {f__shown_by : Addr} {fd__shown_by : FuncData} {f__jump_at : Addr} {fd__jump_at : FuncData} {f_jumps : Addr} {fd_jumps : FuncData} {f_tidy : Addr} {fd_tidy : FuncData} {f__law_store : Addr} {fd__law_store : FuncData} {f__law_feed : Addr} {fd__law_feed : FuncData} {f__law_mixed : Addr} {fd__law_mixed : FuncData} {f__law_take : Addr} {fd__law_take : FuncData} {f__law_pick : Addr} {fd__law_pick : FuncData} {f__law_size : Addr} {fd__law_size : FuncData} {f__law_is_int : Addr} {fd__law_is_int : FuncData} {f__law_same : Addr} {fd__law_same : FuncData} {f__law_copy : Addr} {fd__law_copy : FuncData} {f__law_frac : Addr} {fd__law_frac : FuncData} {f__law_plus : Addr} {fd__law_plus : FuncData} {f__law_minus : Addr} {fd__law_minus : FuncData} {f__law_times : Addr} {fd__law_times : FuncData} {f__law_below : Addr} {fd__law_below : FuncData} {f__law_is_frac : Addr} {fd__law_is_frac : FuncData} {f__law_ratio : Addr} {fd__law_ratio : FuncData} {f__law_part : Addr} {fd__law_part : FuncData} {f__law_above : Addr} {fd__law_above : FuncData} {f__law_ordered : Addr} {fd__law_ordered : FuncData} {f__law_probes : Addr} {fd__law_probes : FuncData} {f__law_pace : Addr} {fd__law_pace : FuncData} {f__law_course : Addr} {fd__law_course : FuncData} {f__law_wide_course : Addr} {fd__law_wide_course : FuncData} {f__law_now : Addr} {fd__law_now : FuncData} {f__law_coming : Addr} {fd__law_coming : FuncData} {f__law_is_course : Addr} {fd__law_is_course : FuncData} {f__law_alike : Addr} {fd__law_alike : FuncData} {f__law_jumps_due : Addr} {fd__law_jumps_due : FuncData} {f__law_continues : Addr} {fd__law_continues : FuncData} {f__law_cut_up : Addr} {fd__law_cut_up : FuncData} {f__law_right : Addr} {fd__law_right : FuncData} {f__law_long_right : Addr} {fd__law_long_right : FuncData} {f_law : Addr} {fd_law : FuncData} (T : Bn mg) {az : Addr} (Z : Zr K mg az)
    (h_rational : FunA K "rational" "rational" s_rational f_rational fd_rational) (m_rational : mg "rational" = some (.ref f_rational)) (b_rational : Binds K fd_rational ps_rational [])
    (h_add : Fn K mg "add" s_add ps_add f_add fd_add)
    (h_subtract : Fn K mg "subtract" s_subtract ps_subtract f_subtract fd_subtract)
    (h_multiply : Fn K mg "multiply" s_multiply ps_multiply f_multiply fd_multiply)
    (h_negate : Fn K mg "negate" s_negate ps_negate f_negate fd_negate)
    (h__shown_by : Fn K mg "_shown_by" s__shown_by ps__shown_by f__shown_by fd__shown_by)
    (h__jump_at : Fn K mg "_jump_at" s__jump_at ps__jump_at f__jump_at fd__jump_at)
    (h_jumps : Fn K mg "jumps" s_jumps ps_jumps f_jumps fd_jumps)
    (h_tidy : Fn K mg "tidy" s_tidy ps_tidy f_tidy fd_tidy)
    (h__law_store : Fn K mg "_law_store" s__law_store ps__law_store f__law_store fd__law_store)
    (h__law_feed : Fn K mg "_law_feed" s__law_feed ps__law_feed f__law_feed fd__law_feed)
    (h__law_mixed : Fn K mg "_law_mixed" s__law_mixed ps__law_mixed f__law_mixed fd__law_mixed)
    (h__law_take : Fn K mg "_law_take" s__law_take ps__law_take f__law_take fd__law_take)
    (h__law_pick : Fn K mg "_law_pick" s__law_pick ps__law_pick f__law_pick fd__law_pick)
    (h__law_size : Fn K mg "_law_size" s__law_size ps__law_size f__law_size fd__law_size)
    (h__law_is_int : Fn K mg "_law_is_int" s__law_is_int ps__law_is_int f__law_is_int fd__law_is_int)
    (h__law_same : Fn K mg "_law_same" s__law_same ps__law_same f__law_same fd__law_same)
    (h__law_copy : Fn K mg "_law_copy" s__law_copy ps__law_copy f__law_copy fd__law_copy)
    (h__law_frac : Fn K mg "_law_frac" s__law_frac ps__law_frac f__law_frac fd__law_frac)
    (h__law_plus : Fn K mg "_law_plus" s__law_plus ps__law_plus f__law_plus fd__law_plus)
    (h__law_minus : Fn K mg "_law_minus" s__law_minus ps__law_minus f__law_minus fd__law_minus)
    (h__law_times : Fn K mg "_law_times" s__law_times ps__law_times f__law_times fd__law_times)
    (h__law_below : Fn K mg "_law_below" s__law_below ps__law_below f__law_below fd__law_below)
    (h__law_is_frac : Fn K mg "_law_is_frac" s__law_is_frac ps__law_is_frac f__law_is_frac fd__law_is_frac)
    (h__law_ratio : Fn K mg "_law_ratio" s__law_ratio ps__law_ratio f__law_ratio fd__law_ratio)
    (h__law_part : Fn K mg "_law_part" s__law_part ps__law_part f__law_part fd__law_part)
    (h__law_above : Fn K mg "_law_above" s__law_above ps__law_above f__law_above fd__law_above)
    (h__law_ordered : Fn K mg "_law_ordered" s__law_ordered ps__law_ordered f__law_ordered fd__law_ordered)
    (h__law_probes : Fn K mg "_law_probes" s__law_probes ps__law_probes f__law_probes fd__law_probes)
    (h__law_pace : Fn K mg "_law_pace" s__law_pace ps__law_pace f__law_pace fd__law_pace)
    (h__law_course : Fn K mg "_law_course" s__law_course ps__law_course f__law_course fd__law_course)
    (h__law_wide_course : Fn K mg "_law_wide_course" s__law_wide_course ps__law_wide_course f__law_wide_course fd__law_wide_course)
    (h__law_now : Fn K mg "_law_now" s__law_now ps__law_now f__law_now fd__law_now)
    (h__law_coming : Fn K mg "_law_coming" s__law_coming ps__law_coming f__law_coming fd__law_coming)
    (h__law_is_course : Fn K mg "_law_is_course" s__law_is_course ps__law_is_course f__law_is_course fd__law_is_course)
    (h__law_alike : Fn K mg "_law_alike" s__law_alike ps__law_alike f__law_alike fd__law_alike)
    (h__law_jumps_due : Fn K mg "_law_jumps_due" s__law_jumps_due ps__law_jumps_due f__law_jumps_due fd__law_jumps_due)
    (h__law_continues : Fn K mg "_law_continues" s__law_continues ps__law_continues f__law_continues fd__law_continues)
    (h__law_cut_up : Fn K mg "_law_cut_up" s__law_cut_up ps__law_cut_up f__law_cut_up fd__law_cut_up)
    (h__law_right : Fn K mg "_law_right" s__law_right ps__law_right f__law_right fd__law_right)
    (h__law_long_right : Fn K mg "_law_long_right" s__law_long_right ps__law_long_right f__law_long_right fd__law_long_right)
    (h_law : Fn K mg "law" s_law ps_law f_law fd_law)
    : FnOk P w K mg base CX0 7 f_law fd_law ps_law (spLaw K) := by
  have rational := ok_rational (P := P) (w := w) (base := base) (k := 0) T h_rational m_rational b_rational
  have add := ok_add (P := P) (w := w) (base := base) (k := 0) T h_add
  have negate := ok_negate (P := P) (w := w) (base := base) (k := 0) h_negate
  have subtract := ok_subtract h_subtract add negate
  have multiply := ok_multiply h_multiply rational
  have shown_by := ok_shown_by h__shown_by (add.up (by decide : 1 ≤ 2)) multiply subtract
  have jump_at := ok_jump_at h__jump_at (subtract.up (by decide)) shown_by
  have jumps := ok_jumps T Z h_jumps jump_at
  have tidy := ok_tidy T Z h_tidy jump_at
  have store := ok_store (P := P) (w := w) (base := base) (k := 0) T h__law_store
  have mixed := fun l => ok_mixed (l := l) (P := P) (w := w) (base := base) (k := 0) T h__law_mixed
  have feed := fun l => ok_feed (l := l) (P := P) (w := w) (base := base) (k := 0) T h__law_feed
  have take := fun l => ok_take T h__law_take (feed l) (mixed l)
  have pick := fun l => ok_pick T h__law_pick (take l)
  have size := fun l => ok_size h__law_size (take l)
  have is_int := ok_is_int (P := P) (w := w) (base := base) (k := 0) T h__law_is_int
  have same := ok_same T h__law_same is_int 3
  have copy := ok_copy (P := P) (w := w) (base := base) T h__law_copy ⟨⟨fun _ _ _ _ h => h.elim, fun _ _ _ _ _ _ _ _ _ _ _ _ _ h => h.elim⟩, h__law_copy.m, h__law_copy.F.kp, h__law_copy.b⟩
  have frac := ok_frac (P := P) (w := w) (base := base) (k := 0) T h__law_frac
  have plus := ok_plus h__law_plus frac
  have minus := ok_minus h__law_minus frac
  have times := ok_times h__law_times frac
  have below := ok_below (P := P) (w := w) (base := base) (k := 0) h__law_below
  have is_frac := ok_is_frac T h__law_is_frac is_int frac
  have ratio := fun l => ok_ratio h__law_ratio ((take l).up (by decide)) (pick l) (frac.up (by decide))
  have part := fun l => ok_part h__law_part ((take l).up (by decide)) (pick l) (frac.up (by decide))
  have above := fun l => ok_above h__law_above ((take l).up (by decide : 2 ≤ 3)) (frac.up (by decide))
  have ordered := ok_ordered T h__law_ordered below
  have ord8 := ok_ord8 T h__law_ordered below
  have pace := fun l => ok_pace h__law_pace ((take l).up (by decide)) (pick l) (frac.up (by decide))
  have course := fun l => ok_course8 T h__law_course (part l) (pace l) (above l) (plus.up (by decide)) (times.up (by decide)) (minus.up (by decide)) ((take l).up (by decide))
  have now := ok_now T h__law_now (below.up (by decide)) plus times minus
  have wide := fun l => ok_wide T h__law_wide_course (ordered.up (by decide)) ((take l).up (by decide)) (ratio l)
  have probes := ok_probes T h__law_probes ord8 minus times plus
  have coming := ok_coming h__law_coming (times.up (by decide)) (plus.up (by decide)) now (minus.up (by decide))
  have is_course := ok_is_course T h__law_is_course is_frac (below.up (by decide))
  have alike := ok_alike T h__law_alike probes now
  have jumps_due := ok_jumps_due T h__law_jumps_due coming (minus.up (by decide))
  have continues := ok_continues T h__law_continues coming
  have cut_up := fun l => ok_cut_up T h__law_cut_up ((take l).up (by decide : 2 ≤ 4)) (plus.up (by decide)) (above l) (times.up (by decide)) (now.up (by decide))
  have right := ok_right T h__law_right tidy jumps jumps_due (is_course.up (by decide)) (alike.up (by decide)) continues same (copy.up (by decide))
  have long := fun l => ok_long T h__law_long_right (course l) ((pick l).up (by decide)) ((take l).up (by decide)) ((part l).up (by decide)) (plus.up (by decide)) (times.up (by decide)) (minus.up (by decide)) same jumps tidy
  exact (ok_law (k := 6) T h_law (store.up (by decide)) (Def.ex fun l => (take l).up (by decide)) (Def.ex fun l => (size l).up (by decide)) (Def.ex fun l => (course l).up (by decide)) (Def.ex fun l => (wide l).up (by decide)) (Def.ex fun l => (cut_up l).up (by decide))
    right (same.up (by decide)) (tidy.up (by decide)) (jumps.up (by decide)) (Def.ex fun l => (part l).up (by decide)) (plus.up (by decide)) (alike.up (by decide)) (Def.ex fun l => long l)).ok
set_option maxHeartbeats 0 in
theorem all_mk {l : PySem.W.OpenLaw} {w : World} {K : PySem.W.Frag} {h : Heap} {mg : Str → Option Value} {fa : Addr} (X : K.In h) (G : h.Ns mainGlobals mg) (hfa : mg "law" = some (.ref fa))
    {f_rational : Addr} {od_rational an_rational : Option Addr} {sl_rational : Array (Option Value)} {oc_rational kV_rational dc_rational pm_rational cd_rational ct_rational : Value}
    {f_add : Addr} {od_add an_add : Option Addr} {sl_add : Array (Option Value)} {oc_add kV_add dc_add pm_add cd_add ct_add : Value}
    {f_subtract : Addr} {od_subtract an_subtract : Option Addr} {sl_subtract : Array (Option Value)} {oc_subtract kV_subtract dc_subtract pm_subtract cd_subtract ct_subtract : Value}
    {f_multiply : Addr} {od_multiply an_multiply : Option Addr} {sl_multiply : Array (Option Value)} {oc_multiply kV_multiply dc_multiply pm_multiply cd_multiply ct_multiply : Value}
    {f_negate : Addr} {od_negate an_negate : Option Addr} {sl_negate : Array (Option Value)} {oc_negate kV_negate dc_negate pm_negate cd_negate ct_negate : Value}
    {f__shown_by : Addr} {od__shown_by an__shown_by : Option Addr} {sl__shown_by : Array (Option Value)} {oc__shown_by kV__shown_by dc__shown_by pm__shown_by cd__shown_by ct__shown_by : Value}
    {f__jump_at : Addr} {od__jump_at an__jump_at : Option Addr} {sl__jump_at : Array (Option Value)} {oc__jump_at kV__jump_at dc__jump_at pm__jump_at cd__jump_at ct__jump_at : Value}
    {f_jumps : Addr} {od_jumps an_jumps : Option Addr} {sl_jumps : Array (Option Value)} {oc_jumps kV_jumps dc_jumps pm_jumps cd_jumps ct_jumps : Value}
    {f_tidy : Addr} {od_tidy an_tidy : Option Addr} {sl_tidy : Array (Option Value)} {oc_tidy kV_tidy dc_tidy pm_tidy cd_tidy ct_tidy : Value}
    {f__law_store : Addr} {od__law_store an__law_store : Option Addr} {sl__law_store : Array (Option Value)} {oc__law_store kV__law_store dc__law_store pm__law_store cd__law_store ct__law_store : Value}
    {f__law_feed : Addr} {od__law_feed an__law_feed : Option Addr} {sl__law_feed : Array (Option Value)} {oc__law_feed kV__law_feed dc__law_feed pm__law_feed cd__law_feed ct__law_feed : Value}
    {f__law_mixed : Addr} {od__law_mixed an__law_mixed : Option Addr} {sl__law_mixed : Array (Option Value)} {oc__law_mixed kV__law_mixed dc__law_mixed pm__law_mixed cd__law_mixed ct__law_mixed : Value}
    {f__law_take : Addr} {od__law_take an__law_take : Option Addr} {sl__law_take : Array (Option Value)} {oc__law_take kV__law_take dc__law_take pm__law_take cd__law_take ct__law_take : Value}
    {f__law_pick : Addr} {od__law_pick an__law_pick : Option Addr} {sl__law_pick : Array (Option Value)} {oc__law_pick kV__law_pick dc__law_pick pm__law_pick cd__law_pick ct__law_pick : Value}
    {f__law_size : Addr} {od__law_size an__law_size : Option Addr} {sl__law_size : Array (Option Value)} {oc__law_size kV__law_size dc__law_size pm__law_size cd__law_size ct__law_size : Value}
    {f__law_is_int : Addr} {od__law_is_int an__law_is_int : Option Addr} {sl__law_is_int : Array (Option Value)} {oc__law_is_int kV__law_is_int dc__law_is_int pm__law_is_int cd__law_is_int ct__law_is_int : Value}
    {f__law_same : Addr} {od__law_same an__law_same : Option Addr} {sl__law_same : Array (Option Value)} {oc__law_same kV__law_same dc__law_same pm__law_same cd__law_same ct__law_same : Value}
    {f__law_copy : Addr} {od__law_copy an__law_copy : Option Addr} {sl__law_copy : Array (Option Value)} {oc__law_copy kV__law_copy dc__law_copy pm__law_copy cd__law_copy ct__law_copy : Value}
    {f__law_frac : Addr} {od__law_frac an__law_frac : Option Addr} {sl__law_frac : Array (Option Value)} {oc__law_frac kV__law_frac dc__law_frac pm__law_frac cd__law_frac ct__law_frac : Value}
    {f__law_plus : Addr} {od__law_plus an__law_plus : Option Addr} {sl__law_plus : Array (Option Value)} {oc__law_plus kV__law_plus dc__law_plus pm__law_plus cd__law_plus ct__law_plus : Value}
    {f__law_minus : Addr} {od__law_minus an__law_minus : Option Addr} {sl__law_minus : Array (Option Value)} {oc__law_minus kV__law_minus dc__law_minus pm__law_minus cd__law_minus ct__law_minus : Value}
    {f__law_times : Addr} {od__law_times an__law_times : Option Addr} {sl__law_times : Array (Option Value)} {oc__law_times kV__law_times dc__law_times pm__law_times cd__law_times ct__law_times : Value}
    {f__law_below : Addr} {od__law_below an__law_below : Option Addr} {sl__law_below : Array (Option Value)} {oc__law_below kV__law_below dc__law_below pm__law_below cd__law_below ct__law_below : Value}
    {f__law_is_frac : Addr} {od__law_is_frac an__law_is_frac : Option Addr} {sl__law_is_frac : Array (Option Value)} {oc__law_is_frac kV__law_is_frac dc__law_is_frac pm__law_is_frac cd__law_is_frac ct__law_is_frac : Value}
    {f__law_ratio : Addr} {od__law_ratio an__law_ratio : Option Addr} {sl__law_ratio : Array (Option Value)} {oc__law_ratio kV__law_ratio dc__law_ratio pm__law_ratio cd__law_ratio ct__law_ratio : Value}
    {f__law_part : Addr} {od__law_part an__law_part : Option Addr} {sl__law_part : Array (Option Value)} {oc__law_part kV__law_part dc__law_part pm__law_part cd__law_part ct__law_part : Value}
    {f__law_above : Addr} {od__law_above an__law_above : Option Addr} {sl__law_above : Array (Option Value)} {oc__law_above kV__law_above dc__law_above pm__law_above cd__law_above ct__law_above : Value}
    {f__law_ordered : Addr} {od__law_ordered an__law_ordered : Option Addr} {sl__law_ordered : Array (Option Value)} {oc__law_ordered kV__law_ordered dc__law_ordered pm__law_ordered cd__law_ordered ct__law_ordered : Value}
    {f__law_probes : Addr} {od__law_probes an__law_probes : Option Addr} {sl__law_probes : Array (Option Value)} {oc__law_probes kV__law_probes dc__law_probes pm__law_probes cd__law_probes ct__law_probes : Value}
    {f__law_pace : Addr} {od__law_pace an__law_pace : Option Addr} {sl__law_pace : Array (Option Value)} {oc__law_pace kV__law_pace dc__law_pace pm__law_pace cd__law_pace ct__law_pace : Value}
    {f__law_course : Addr} {od__law_course an__law_course : Option Addr} {sl__law_course : Array (Option Value)} {oc__law_course kV__law_course dc__law_course pm__law_course cd__law_course ct__law_course : Value}
    {f__law_wide_course : Addr} {od__law_wide_course an__law_wide_course : Option Addr} {sl__law_wide_course : Array (Option Value)} {oc__law_wide_course kV__law_wide_course dc__law_wide_course pm__law_wide_course cd__law_wide_course ct__law_wide_course : Value}
    {f__law_now : Addr} {od__law_now an__law_now : Option Addr} {sl__law_now : Array (Option Value)} {oc__law_now kV__law_now dc__law_now pm__law_now cd__law_now ct__law_now : Value}
    {f__law_coming : Addr} {od__law_coming an__law_coming : Option Addr} {sl__law_coming : Array (Option Value)} {oc__law_coming kV__law_coming dc__law_coming pm__law_coming cd__law_coming ct__law_coming : Value}
    {f__law_is_course : Addr} {od__law_is_course an__law_is_course : Option Addr} {sl__law_is_course : Array (Option Value)} {oc__law_is_course kV__law_is_course dc__law_is_course pm__law_is_course cd__law_is_course ct__law_is_course : Value}
    {f__law_alike : Addr} {od__law_alike an__law_alike : Option Addr} {sl__law_alike : Array (Option Value)} {oc__law_alike kV__law_alike dc__law_alike pm__law_alike cd__law_alike ct__law_alike : Value}
    {f__law_jumps_due : Addr} {od__law_jumps_due an__law_jumps_due : Option Addr} {sl__law_jumps_due : Array (Option Value)} {oc__law_jumps_due kV__law_jumps_due dc__law_jumps_due pm__law_jumps_due cd__law_jumps_due ct__law_jumps_due : Value}
    {f__law_continues : Addr} {od__law_continues an__law_continues : Option Addr} {sl__law_continues : Array (Option Value)} {oc__law_continues kV__law_continues dc__law_continues pm__law_continues cd__law_continues ct__law_continues : Value}
    {f__law_cut_up : Addr} {od__law_cut_up an__law_cut_up : Option Addr} {sl__law_cut_up : Array (Option Value)} {oc__law_cut_up kV__law_cut_up dc__law_cut_up pm__law_cut_up cd__law_cut_up ct__law_cut_up : Value}
    {f__law_right : Addr} {od__law_right an__law_right : Option Addr} {sl__law_right : Array (Option Value)} {oc__law_right kV__law_right dc__law_right pm__law_right cd__law_right ct__law_right : Value}
    {f__law_long_right : Addr} {od__law_long_right an__law_long_right : Option Addr} {sl__law_long_right : Array (Option Value)} {oc__law_long_right kV__law_long_right dc__law_long_right pm__law_long_right cd__law_long_right ct__law_long_right : Value}
    {f_law : Addr} {od_law an_law : Option Addr} {sl_law : Array (Option Value)} {oc_law kV_law dc_law pm_law cd_law ct_law : Value}
    {dV : Addr} {dcls : Value} {ddd : Option Addr} {dtk : Tok} {dn : Nat} {dsl : Array (Option Value)} (ldf : K.lookup dV = some ⟨dcls, ddd, .seq #[.int 1 dtk] dn, dsl⟩)
    {az : Addr} {add' : Option Addr} {t0 t1 : Tok} {zn : Nat} {zsl : Array (Option Value)} (azero : PySem.W.nsIn K mainGlobals "ZERO" = some (some (.ref az))) (lzero : K.lookup az = some ⟨.type "tuple", add', .seq #[.int 0 t0, .int 1 t1] zn, zsl⟩)
    (a_rational : PySem.W.nsIn K mainGlobals "rational" = some (some (.ref f_rational))) (l_rational : K.lookup f_rational = some ⟨oc_rational, od_rational, .func (PySem.W.fnOf "rational" "rational" (defArgs s_rational) (defBody s_rational) (defScope s_rational) (.ref dV) kV_rational dc_rational pm_rational an_rational cd_rational ct_rational), sl_rational⟩) (c_rational : PySem.W.codeIn K cd_rational "rational" = true) (k_rational : PySem.W.keepIn K (.ref f_rational) = true)
    (a_add : PySem.W.nsIn K mainGlobals "add" = some (some (.ref f_add))) (l_add : K.lookup f_add = some ⟨oc_add, od_add, .func (PySem.W.fnOf "add" "add" (defArgs s_add) (defBody s_add) (defScope s_add) .none kV_add dc_add pm_add an_add cd_add ct_add), sl_add⟩) (c_add : PySem.W.codeIn K cd_add "add" = true) (k_add : PySem.W.keepIn K (.ref f_add) = true)
    (a_subtract : PySem.W.nsIn K mainGlobals "subtract" = some (some (.ref f_subtract))) (l_subtract : K.lookup f_subtract = some ⟨oc_subtract, od_subtract, .func (PySem.W.fnOf "subtract" "subtract" (defArgs s_subtract) (defBody s_subtract) (defScope s_subtract) .none kV_subtract dc_subtract pm_subtract an_subtract cd_subtract ct_subtract), sl_subtract⟩) (c_subtract : PySem.W.codeIn K cd_subtract "subtract" = true) (k_subtract : PySem.W.keepIn K (.ref f_subtract) = true)
    (a_multiply : PySem.W.nsIn K mainGlobals "multiply" = some (some (.ref f_multiply))) (l_multiply : K.lookup f_multiply = some ⟨oc_multiply, od_multiply, .func (PySem.W.fnOf "multiply" "multiply" (defArgs s_multiply) (defBody s_multiply) (defScope s_multiply) .none kV_multiply dc_multiply pm_multiply an_multiply cd_multiply ct_multiply), sl_multiply⟩) (c_multiply : PySem.W.codeIn K cd_multiply "multiply" = true) (k_multiply : PySem.W.keepIn K (.ref f_multiply) = true)
    (a_negate : PySem.W.nsIn K mainGlobals "negate" = some (some (.ref f_negate))) (l_negate : K.lookup f_negate = some ⟨oc_negate, od_negate, .func (PySem.W.fnOf "negate" "negate" (defArgs s_negate) (defBody s_negate) (defScope s_negate) .none kV_negate dc_negate pm_negate an_negate cd_negate ct_negate), sl_negate⟩) (c_negate : PySem.W.codeIn K cd_negate "negate" = true) (k_negate : PySem.W.keepIn K (.ref f_negate) = true)
    (a__shown_by : PySem.W.nsIn K mainGlobals "_shown_by" = some (some (.ref f__shown_by))) (l__shown_by : K.lookup f__shown_by = some ⟨oc__shown_by, od__shown_by, .func (PySem.W.fnOf "_shown_by" "_shown_by" (defArgs s__shown_by) (defBody s__shown_by) (defScope s__shown_by) .none kV__shown_by dc__shown_by pm__shown_by an__shown_by cd__shown_by ct__shown_by), sl__shown_by⟩) (c__shown_by : PySem.W.codeIn K cd__shown_by "_shown_by" = true) (k__shown_by : PySem.W.keepIn K (.ref f__shown_by) = true)
    (a__jump_at : PySem.W.nsIn K mainGlobals "_jump_at" = some (some (.ref f__jump_at))) (l__jump_at : K.lookup f__jump_at = some ⟨oc__jump_at, od__jump_at, .func (PySem.W.fnOf "_jump_at" "_jump_at" (defArgs s__jump_at) (defBody s__jump_at) (defScope s__jump_at) .none kV__jump_at dc__jump_at pm__jump_at an__jump_at cd__jump_at ct__jump_at), sl__jump_at⟩) (c__jump_at : PySem.W.codeIn K cd__jump_at "_jump_at" = true) (k__jump_at : PySem.W.keepIn K (.ref f__jump_at) = true)
    (a_jumps : PySem.W.nsIn K mainGlobals "jumps" = some (some (.ref f_jumps))) (l_jumps : K.lookup f_jumps = some ⟨oc_jumps, od_jumps, .func (PySem.W.fnOf "jumps" "jumps" (defArgs s_jumps) (defBody s_jumps) (defScope s_jumps) .none kV_jumps dc_jumps pm_jumps an_jumps cd_jumps ct_jumps), sl_jumps⟩) (c_jumps : PySem.W.codeIn K cd_jumps "jumps" = true) (k_jumps : PySem.W.keepIn K (.ref f_jumps) = true)
    (a_tidy : PySem.W.nsIn K mainGlobals "tidy" = some (some (.ref f_tidy))) (l_tidy : K.lookup f_tidy = some ⟨oc_tidy, od_tidy, .func (PySem.W.fnOf "tidy" "tidy" (defArgs s_tidy) (defBody s_tidy) (defScope s_tidy) .none kV_tidy dc_tidy pm_tidy an_tidy cd_tidy ct_tidy), sl_tidy⟩) (c_tidy : PySem.W.codeIn K cd_tidy "tidy" = true) (k_tidy : PySem.W.keepIn K (.ref f_tidy) = true)
    (a__law_store : PySem.W.nsIn K mainGlobals "_law_store" = some (some (.ref f__law_store))) (l__law_store : K.lookup f__law_store = some ⟨oc__law_store, od__law_store, .func (PySem.W.fnOf "_law_store" "_law_store" (defArgs s__law_store) (defBody s__law_store) (defScope s__law_store) .none kV__law_store dc__law_store pm__law_store an__law_store cd__law_store ct__law_store), sl__law_store⟩) (c__law_store : PySem.W.codeIn K cd__law_store "_law_store" = true) (k__law_store : PySem.W.keepIn K (.ref f__law_store) = true)
    (a__law_feed : PySem.W.nsIn K mainGlobals "_law_feed" = some (some (.ref f__law_feed))) (l__law_feed : K.lookup f__law_feed = some ⟨oc__law_feed, od__law_feed, .func (PySem.W.fnOf "_law_feed" "_law_feed" (defArgs s__law_feed) (defBody s__law_feed) (defScope s__law_feed) .none kV__law_feed dc__law_feed pm__law_feed an__law_feed cd__law_feed ct__law_feed), sl__law_feed⟩) (c__law_feed : PySem.W.codeIn K cd__law_feed "_law_feed" = true) (k__law_feed : PySem.W.keepIn K (.ref f__law_feed) = true)
    (a__law_mixed : PySem.W.nsIn K mainGlobals "_law_mixed" = some (some (.ref f__law_mixed))) (l__law_mixed : K.lookup f__law_mixed = some ⟨oc__law_mixed, od__law_mixed, .func (PySem.W.fnOf "_law_mixed" "_law_mixed" (defArgs s__law_mixed) (defBody s__law_mixed) (defScope s__law_mixed) .none kV__law_mixed dc__law_mixed pm__law_mixed an__law_mixed cd__law_mixed ct__law_mixed), sl__law_mixed⟩) (c__law_mixed : PySem.W.codeIn K cd__law_mixed "_law_mixed" = true) (k__law_mixed : PySem.W.keepIn K (.ref f__law_mixed) = true)
    (a__law_take : PySem.W.nsIn K mainGlobals "_law_take" = some (some (.ref f__law_take))) (l__law_take : K.lookup f__law_take = some ⟨oc__law_take, od__law_take, .func (PySem.W.fnOf "_law_take" "_law_take" (defArgs s__law_take) (defBody s__law_take) (defScope s__law_take) .none kV__law_take dc__law_take pm__law_take an__law_take cd__law_take ct__law_take), sl__law_take⟩) (c__law_take : PySem.W.codeIn K cd__law_take "_law_take" = true) (k__law_take : PySem.W.keepIn K (.ref f__law_take) = true)
    (a__law_pick : PySem.W.nsIn K mainGlobals "_law_pick" = some (some (.ref f__law_pick))) (l__law_pick : K.lookup f__law_pick = some ⟨oc__law_pick, od__law_pick, .func (PySem.W.fnOf "_law_pick" "_law_pick" (defArgs s__law_pick) (defBody s__law_pick) (defScope s__law_pick) .none kV__law_pick dc__law_pick pm__law_pick an__law_pick cd__law_pick ct__law_pick), sl__law_pick⟩) (c__law_pick : PySem.W.codeIn K cd__law_pick "_law_pick" = true) (k__law_pick : PySem.W.keepIn K (.ref f__law_pick) = true)
    (a__law_size : PySem.W.nsIn K mainGlobals "_law_size" = some (some (.ref f__law_size))) (l__law_size : K.lookup f__law_size = some ⟨oc__law_size, od__law_size, .func (PySem.W.fnOf "_law_size" "_law_size" (defArgs s__law_size) (defBody s__law_size) (defScope s__law_size) .none kV__law_size dc__law_size pm__law_size an__law_size cd__law_size ct__law_size), sl__law_size⟩) (c__law_size : PySem.W.codeIn K cd__law_size "_law_size" = true) (k__law_size : PySem.W.keepIn K (.ref f__law_size) = true)
    (a__law_is_int : PySem.W.nsIn K mainGlobals "_law_is_int" = some (some (.ref f__law_is_int))) (l__law_is_int : K.lookup f__law_is_int = some ⟨oc__law_is_int, od__law_is_int, .func (PySem.W.fnOf "_law_is_int" "_law_is_int" (defArgs s__law_is_int) (defBody s__law_is_int) (defScope s__law_is_int) .none kV__law_is_int dc__law_is_int pm__law_is_int an__law_is_int cd__law_is_int ct__law_is_int), sl__law_is_int⟩) (c__law_is_int : PySem.W.codeIn K cd__law_is_int "_law_is_int" = true) (k__law_is_int : PySem.W.keepIn K (.ref f__law_is_int) = true)
    (a__law_same : PySem.W.nsIn K mainGlobals "_law_same" = some (some (.ref f__law_same))) (l__law_same : K.lookup f__law_same = some ⟨oc__law_same, od__law_same, .func (PySem.W.fnOf "_law_same" "_law_same" (defArgs s__law_same) (defBody s__law_same) (defScope s__law_same) .none kV__law_same dc__law_same pm__law_same an__law_same cd__law_same ct__law_same), sl__law_same⟩) (c__law_same : PySem.W.codeIn K cd__law_same "_law_same" = true) (k__law_same : PySem.W.keepIn K (.ref f__law_same) = true)
    (a__law_copy : PySem.W.nsIn K mainGlobals "_law_copy" = some (some (.ref f__law_copy))) (l__law_copy : K.lookup f__law_copy = some ⟨oc__law_copy, od__law_copy, .func (PySem.W.fnOf "_law_copy" "_law_copy" (defArgs s__law_copy) (defBody s__law_copy) (defScope s__law_copy) .none kV__law_copy dc__law_copy pm__law_copy an__law_copy cd__law_copy ct__law_copy), sl__law_copy⟩) (c__law_copy : PySem.W.codeIn K cd__law_copy "_law_copy" = true) (k__law_copy : PySem.W.keepIn K (.ref f__law_copy) = true)
    (a__law_frac : PySem.W.nsIn K mainGlobals "_law_frac" = some (some (.ref f__law_frac))) (l__law_frac : K.lookup f__law_frac = some ⟨oc__law_frac, od__law_frac, .func (PySem.W.fnOf "_law_frac" "_law_frac" (defArgs s__law_frac) (defBody s__law_frac) (defScope s__law_frac) .none kV__law_frac dc__law_frac pm__law_frac an__law_frac cd__law_frac ct__law_frac), sl__law_frac⟩) (c__law_frac : PySem.W.codeIn K cd__law_frac "_law_frac" = true) (k__law_frac : PySem.W.keepIn K (.ref f__law_frac) = true)
    (a__law_plus : PySem.W.nsIn K mainGlobals "_law_plus" = some (some (.ref f__law_plus))) (l__law_plus : K.lookup f__law_plus = some ⟨oc__law_plus, od__law_plus, .func (PySem.W.fnOf "_law_plus" "_law_plus" (defArgs s__law_plus) (defBody s__law_plus) (defScope s__law_plus) .none kV__law_plus dc__law_plus pm__law_plus an__law_plus cd__law_plus ct__law_plus), sl__law_plus⟩) (c__law_plus : PySem.W.codeIn K cd__law_plus "_law_plus" = true) (k__law_plus : PySem.W.keepIn K (.ref f__law_plus) = true)
    (a__law_minus : PySem.W.nsIn K mainGlobals "_law_minus" = some (some (.ref f__law_minus))) (l__law_minus : K.lookup f__law_minus = some ⟨oc__law_minus, od__law_minus, .func (PySem.W.fnOf "_law_minus" "_law_minus" (defArgs s__law_minus) (defBody s__law_minus) (defScope s__law_minus) .none kV__law_minus dc__law_minus pm__law_minus an__law_minus cd__law_minus ct__law_minus), sl__law_minus⟩) (c__law_minus : PySem.W.codeIn K cd__law_minus "_law_minus" = true) (k__law_minus : PySem.W.keepIn K (.ref f__law_minus) = true)
    (a__law_times : PySem.W.nsIn K mainGlobals "_law_times" = some (some (.ref f__law_times))) (l__law_times : K.lookup f__law_times = some ⟨oc__law_times, od__law_times, .func (PySem.W.fnOf "_law_times" "_law_times" (defArgs s__law_times) (defBody s__law_times) (defScope s__law_times) .none kV__law_times dc__law_times pm__law_times an__law_times cd__law_times ct__law_times), sl__law_times⟩) (c__law_times : PySem.W.codeIn K cd__law_times "_law_times" = true) (k__law_times : PySem.W.keepIn K (.ref f__law_times) = true)
    (a__law_below : PySem.W.nsIn K mainGlobals "_law_below" = some (some (.ref f__law_below))) (l__law_below : K.lookup f__law_below = some ⟨oc__law_below, od__law_below, .func (PySem.W.fnOf "_law_below" "_law_below" (defArgs s__law_below) (defBody s__law_below) (defScope s__law_below) .none kV__law_below dc__law_below pm__law_below an__law_below cd__law_below ct__law_below), sl__law_below⟩) (c__law_below : PySem.W.codeIn K cd__law_below "_law_below" = true) (k__law_below : PySem.W.keepIn K (.ref f__law_below) = true)
    (a__law_is_frac : PySem.W.nsIn K mainGlobals "_law_is_frac" = some (some (.ref f__law_is_frac))) (l__law_is_frac : K.lookup f__law_is_frac = some ⟨oc__law_is_frac, od__law_is_frac, .func (PySem.W.fnOf "_law_is_frac" "_law_is_frac" (defArgs s__law_is_frac) (defBody s__law_is_frac) (defScope s__law_is_frac) .none kV__law_is_frac dc__law_is_frac pm__law_is_frac an__law_is_frac cd__law_is_frac ct__law_is_frac), sl__law_is_frac⟩) (c__law_is_frac : PySem.W.codeIn K cd__law_is_frac "_law_is_frac" = true) (k__law_is_frac : PySem.W.keepIn K (.ref f__law_is_frac) = true)
    (a__law_ratio : PySem.W.nsIn K mainGlobals "_law_ratio" = some (some (.ref f__law_ratio))) (l__law_ratio : K.lookup f__law_ratio = some ⟨oc__law_ratio, od__law_ratio, .func (PySem.W.fnOf "_law_ratio" "_law_ratio" (defArgs s__law_ratio) (defBody s__law_ratio) (defScope s__law_ratio) .none kV__law_ratio dc__law_ratio pm__law_ratio an__law_ratio cd__law_ratio ct__law_ratio), sl__law_ratio⟩) (c__law_ratio : PySem.W.codeIn K cd__law_ratio "_law_ratio" = true) (k__law_ratio : PySem.W.keepIn K (.ref f__law_ratio) = true)
    (a__law_part : PySem.W.nsIn K mainGlobals "_law_part" = some (some (.ref f__law_part))) (l__law_part : K.lookup f__law_part = some ⟨oc__law_part, od__law_part, .func (PySem.W.fnOf "_law_part" "_law_part" (defArgs s__law_part) (defBody s__law_part) (defScope s__law_part) .none kV__law_part dc__law_part pm__law_part an__law_part cd__law_part ct__law_part), sl__law_part⟩) (c__law_part : PySem.W.codeIn K cd__law_part "_law_part" = true) (k__law_part : PySem.W.keepIn K (.ref f__law_part) = true)
    (a__law_above : PySem.W.nsIn K mainGlobals "_law_above" = some (some (.ref f__law_above))) (l__law_above : K.lookup f__law_above = some ⟨oc__law_above, od__law_above, .func (PySem.W.fnOf "_law_above" "_law_above" (defArgs s__law_above) (defBody s__law_above) (defScope s__law_above) .none kV__law_above dc__law_above pm__law_above an__law_above cd__law_above ct__law_above), sl__law_above⟩) (c__law_above : PySem.W.codeIn K cd__law_above "_law_above" = true) (k__law_above : PySem.W.keepIn K (.ref f__law_above) = true)
    (a__law_ordered : PySem.W.nsIn K mainGlobals "_law_ordered" = some (some (.ref f__law_ordered))) (l__law_ordered : K.lookup f__law_ordered = some ⟨oc__law_ordered, od__law_ordered, .func (PySem.W.fnOf "_law_ordered" "_law_ordered" (defArgs s__law_ordered) (defBody s__law_ordered) (defScope s__law_ordered) .none kV__law_ordered dc__law_ordered pm__law_ordered an__law_ordered cd__law_ordered ct__law_ordered), sl__law_ordered⟩) (c__law_ordered : PySem.W.codeIn K cd__law_ordered "_law_ordered" = true) (k__law_ordered : PySem.W.keepIn K (.ref f__law_ordered) = true)
    (a__law_probes : PySem.W.nsIn K mainGlobals "_law_probes" = some (some (.ref f__law_probes))) (l__law_probes : K.lookup f__law_probes = some ⟨oc__law_probes, od__law_probes, .func (PySem.W.fnOf "_law_probes" "_law_probes" (defArgs s__law_probes) (defBody s__law_probes) (defScope s__law_probes) .none kV__law_probes dc__law_probes pm__law_probes an__law_probes cd__law_probes ct__law_probes), sl__law_probes⟩) (c__law_probes : PySem.W.codeIn K cd__law_probes "_law_probes" = true) (k__law_probes : PySem.W.keepIn K (.ref f__law_probes) = true)
    (a__law_pace : PySem.W.nsIn K mainGlobals "_law_pace" = some (some (.ref f__law_pace))) (l__law_pace : K.lookup f__law_pace = some ⟨oc__law_pace, od__law_pace, .func (PySem.W.fnOf "_law_pace" "_law_pace" (defArgs s__law_pace) (defBody s__law_pace) (defScope s__law_pace) .none kV__law_pace dc__law_pace pm__law_pace an__law_pace cd__law_pace ct__law_pace), sl__law_pace⟩) (c__law_pace : PySem.W.codeIn K cd__law_pace "_law_pace" = true) (k__law_pace : PySem.W.keepIn K (.ref f__law_pace) = true)
    (a__law_course : PySem.W.nsIn K mainGlobals "_law_course" = some (some (.ref f__law_course))) (l__law_course : K.lookup f__law_course = some ⟨oc__law_course, od__law_course, .func (PySem.W.fnOf "_law_course" "_law_course" (defArgs s__law_course) (defBody s__law_course) (defScope s__law_course) .none kV__law_course dc__law_course pm__law_course an__law_course cd__law_course ct__law_course), sl__law_course⟩) (c__law_course : PySem.W.codeIn K cd__law_course "_law_course" = true) (k__law_course : PySem.W.keepIn K (.ref f__law_course) = true)
    (a__law_wide_course : PySem.W.nsIn K mainGlobals "_law_wide_course" = some (some (.ref f__law_wide_course))) (l__law_wide_course : K.lookup f__law_wide_course = some ⟨oc__law_wide_course, od__law_wide_course, .func (PySem.W.fnOf "_law_wide_course" "_law_wide_course" (defArgs s__law_wide_course) (defBody s__law_wide_course) (defScope s__law_wide_course) .none kV__law_wide_course dc__law_wide_course pm__law_wide_course an__law_wide_course cd__law_wide_course ct__law_wide_course), sl__law_wide_course⟩) (c__law_wide_course : PySem.W.codeIn K cd__law_wide_course "_law_wide_course" = true) (k__law_wide_course : PySem.W.keepIn K (.ref f__law_wide_course) = true)
    (a__law_now : PySem.W.nsIn K mainGlobals "_law_now" = some (some (.ref f__law_now))) (l__law_now : K.lookup f__law_now = some ⟨oc__law_now, od__law_now, .func (PySem.W.fnOf "_law_now" "_law_now" (defArgs s__law_now) (defBody s__law_now) (defScope s__law_now) .none kV__law_now dc__law_now pm__law_now an__law_now cd__law_now ct__law_now), sl__law_now⟩) (c__law_now : PySem.W.codeIn K cd__law_now "_law_now" = true) (k__law_now : PySem.W.keepIn K (.ref f__law_now) = true)
    (a__law_coming : PySem.W.nsIn K mainGlobals "_law_coming" = some (some (.ref f__law_coming))) (l__law_coming : K.lookup f__law_coming = some ⟨oc__law_coming, od__law_coming, .func (PySem.W.fnOf "_law_coming" "_law_coming" (defArgs s__law_coming) (defBody s__law_coming) (defScope s__law_coming) .none kV__law_coming dc__law_coming pm__law_coming an__law_coming cd__law_coming ct__law_coming), sl__law_coming⟩) (c__law_coming : PySem.W.codeIn K cd__law_coming "_law_coming" = true) (k__law_coming : PySem.W.keepIn K (.ref f__law_coming) = true)
    (a__law_is_course : PySem.W.nsIn K mainGlobals "_law_is_course" = some (some (.ref f__law_is_course))) (l__law_is_course : K.lookup f__law_is_course = some ⟨oc__law_is_course, od__law_is_course, .func (PySem.W.fnOf "_law_is_course" "_law_is_course" (defArgs s__law_is_course) (defBody s__law_is_course) (defScope s__law_is_course) .none kV__law_is_course dc__law_is_course pm__law_is_course an__law_is_course cd__law_is_course ct__law_is_course), sl__law_is_course⟩) (c__law_is_course : PySem.W.codeIn K cd__law_is_course "_law_is_course" = true) (k__law_is_course : PySem.W.keepIn K (.ref f__law_is_course) = true)
    (a__law_alike : PySem.W.nsIn K mainGlobals "_law_alike" = some (some (.ref f__law_alike))) (l__law_alike : K.lookup f__law_alike = some ⟨oc__law_alike, od__law_alike, .func (PySem.W.fnOf "_law_alike" "_law_alike" (defArgs s__law_alike) (defBody s__law_alike) (defScope s__law_alike) .none kV__law_alike dc__law_alike pm__law_alike an__law_alike cd__law_alike ct__law_alike), sl__law_alike⟩) (c__law_alike : PySem.W.codeIn K cd__law_alike "_law_alike" = true) (k__law_alike : PySem.W.keepIn K (.ref f__law_alike) = true)
    (a__law_jumps_due : PySem.W.nsIn K mainGlobals "_law_jumps_due" = some (some (.ref f__law_jumps_due))) (l__law_jumps_due : K.lookup f__law_jumps_due = some ⟨oc__law_jumps_due, od__law_jumps_due, .func (PySem.W.fnOf "_law_jumps_due" "_law_jumps_due" (defArgs s__law_jumps_due) (defBody s__law_jumps_due) (defScope s__law_jumps_due) .none kV__law_jumps_due dc__law_jumps_due pm__law_jumps_due an__law_jumps_due cd__law_jumps_due ct__law_jumps_due), sl__law_jumps_due⟩) (c__law_jumps_due : PySem.W.codeIn K cd__law_jumps_due "_law_jumps_due" = true) (k__law_jumps_due : PySem.W.keepIn K (.ref f__law_jumps_due) = true)
    (a__law_continues : PySem.W.nsIn K mainGlobals "_law_continues" = some (some (.ref f__law_continues))) (l__law_continues : K.lookup f__law_continues = some ⟨oc__law_continues, od__law_continues, .func (PySem.W.fnOf "_law_continues" "_law_continues" (defArgs s__law_continues) (defBody s__law_continues) (defScope s__law_continues) .none kV__law_continues dc__law_continues pm__law_continues an__law_continues cd__law_continues ct__law_continues), sl__law_continues⟩) (c__law_continues : PySem.W.codeIn K cd__law_continues "_law_continues" = true) (k__law_continues : PySem.W.keepIn K (.ref f__law_continues) = true)
    (a__law_cut_up : PySem.W.nsIn K mainGlobals "_law_cut_up" = some (some (.ref f__law_cut_up))) (l__law_cut_up : K.lookup f__law_cut_up = some ⟨oc__law_cut_up, od__law_cut_up, .func (PySem.W.fnOf "_law_cut_up" "_law_cut_up" (defArgs s__law_cut_up) (defBody s__law_cut_up) (defScope s__law_cut_up) .none kV__law_cut_up dc__law_cut_up pm__law_cut_up an__law_cut_up cd__law_cut_up ct__law_cut_up), sl__law_cut_up⟩) (c__law_cut_up : PySem.W.codeIn K cd__law_cut_up "_law_cut_up" = true) (k__law_cut_up : PySem.W.keepIn K (.ref f__law_cut_up) = true)
    (a__law_right : PySem.W.nsIn K mainGlobals "_law_right" = some (some (.ref f__law_right))) (l__law_right : K.lookup f__law_right = some ⟨oc__law_right, od__law_right, .func (PySem.W.fnOf "_law_right" "_law_right" (defArgs s__law_right) (defBody s__law_right) (defScope s__law_right) .none kV__law_right dc__law_right pm__law_right an__law_right cd__law_right ct__law_right), sl__law_right⟩) (c__law_right : PySem.W.codeIn K cd__law_right "_law_right" = true) (k__law_right : PySem.W.keepIn K (.ref f__law_right) = true)
    (a__law_long_right : PySem.W.nsIn K mainGlobals "_law_long_right" = some (some (.ref f__law_long_right))) (l__law_long_right : K.lookup f__law_long_right = some ⟨oc__law_long_right, od__law_long_right, .func (PySem.W.fnOf "_law_long_right" "_law_long_right" (defArgs s__law_long_right) (defBody s__law_long_right) (defScope s__law_long_right) .none kV__law_long_right dc__law_long_right pm__law_long_right an__law_long_right cd__law_long_right ct__law_long_right), sl__law_long_right⟩) (c__law_long_right : PySem.W.codeIn K cd__law_long_right "_law_long_right" = true) (k__law_long_right : PySem.W.keepIn K (.ref f__law_long_right) = true)
    (a_law : PySem.W.nsIn K mainGlobals "law" = some (some (.ref f_law))) (l_law : K.lookup f_law = some ⟨oc_law, od_law, .func (PySem.W.fnOf "law" "law" (defArgs s_law) (defBody s_law) (defScope s_law) .none kV_law dc_law pm_law an_law cd_law ct_law), sl_law⟩) (c_law : PySem.W.codeIn K cd_law "law" = true) (k_law : PySem.W.keepIn K (.ref f_law) = true)
    (zgcd : PySem.W.nsIn K mainGlobals "gcd" = some (some (.builtin "math.gcd")))
    (zlen : PySem.W.nsIn K mainGlobals "len" = some none)
    (zabs : PySem.W.nsIn K mainGlobals "abs" = some none)
    (zmax : PySem.W.nsIn K mainGlobals "max" = some none)
    (zint : PySem.W.nsIn K mainGlobals "int" = some none)
    (zisinstance : PySem.W.nsIn K mainGlobals "isinstance" = some none)
    (zrange : PySem.W.nsIn K mainGlobals "range" = some none)
    (zenumerate : PySem.W.nsIn K mainGlobals "enumerate" = some none)
    (zlist : PySem.W.nsIn K mainGlobals "list" = some none)
    (ztuple : PySem.W.nsIn K mainGlobals "tuple" = some none)
    (zstr : PySem.W.nsIn K mainGlobals "str" = some none)
    (zbool : PySem.W.nsIn K mainGlobals "bool" = some none)
    (zdict : PySem.W.nsIn K mainGlobals "dict" = some none)
    : ∃ fd : FuncData, (∀ (s : Shared) (v : Value), BindsTo s fd ⟨[v], []⟩ [("_law_script", v)]) ∧ ∀ base : Heap, K.In base → base.Ns mainGlobals mg → FnOk l.prog w K mg base CX0 7 fa fd ["_law_script"] (spLaw K) := by
  have e := hfa.symm.trans (PySem.W.mg_of X G a_law)
  cases e
  have T : Bn mg := ⟨PySem.W.mg_of X G zgcd, PySem.W.mg_none_of X G zlen, PySem.W.mg_none_of X G zabs, PySem.W.mg_none_of X G zmax, PySem.W.mg_none_of X G zint, PySem.W.mg_none_of X G zisinstance, PySem.W.mg_none_of X G zrange, PySem.W.mg_none_of X G zenumerate, PySem.W.mg_none_of X G zlist, PySem.W.mg_none_of X G ztuple, PySem.W.mg_none_of X G zstr, PySem.W.mg_none_of X G zbool, PySem.W.mg_none_of X G zdict⟩
  have hR : FunD K "rational" "rational" (defArgs s_rational) (defBody s_rational) (defScope s_rational) [.int 1] [] f_rational _ := ⟨⟨_, _, _, _, _, _, _, _, _, _, rfl, l_rational, c_rational, .inr ⟨nofun, dV, _, [.int 1 dtk], dn, rfl, ldf, rfl, .cons ⟨dtk, rfl⟩ .nil⟩, .inl rfl⟩, k_rational⟩
  obtain ⟨ds, rds, bR⟩ := hR.binds1 (ps := ["n", "d"]) 2 1 nofun rfl fun T kV doc pm an cdv ct us its hu hi => match us, its, hu, hi with | [_, _], [_], _, _ => ⟨_, rfl, rfl⟩
  cases rds
  have F_add := fun_mk (st := s_add) l_add c_add k_add
  have B_add := F_add.binds (ps := ["a", "b"]) fun _ _ _ _ _ _ us hl => match us, hl with | [_, _], _ => rfl
  have F_subtract := fun_mk (st := s_subtract) l_subtract c_subtract k_subtract
  have B_subtract := F_subtract.binds (ps := ["a", "b"]) fun _ _ _ _ _ _ us hl => match us, hl with | [_, _], _ => rfl
  have F_multiply := fun_mk (st := s_multiply) l_multiply c_multiply k_multiply
  have B_multiply := F_multiply.binds (ps := ["a", "b"]) fun _ _ _ _ _ _ us hl => match us, hl with | [_, _], _ => rfl
  have F_negate := fun_mk (st := s_negate) l_negate c_negate k_negate
  have B_negate := F_negate.binds (ps := ["a"]) fun _ _ _ _ _ _ us hl => match us, hl with | [_], _ => rfl
  have F__shown_by := fun_mk (st := s__shown_by) l__shown_by c__shown_by k__shown_by
  have B__shown_by := F__shown_by.binds (ps := ["piece", "t"]) fun _ _ _ _ _ _ us hl => match us, hl with | [_, _], _ => rfl
  have F__jump_at := fun_mk (st := s__jump_at) l__jump_at c__jump_at k__jump_at
  have B__jump_at := F__jump_at.binds (ps := ["course", "at"]) fun _ _ _ _ _ _ us hl => match us, hl with | [_, _], _ => rfl
  have F_jumps := fun_mk (st := s_jumps) l_jumps c_jumps k_jumps
  have B_jumps := F_jumps.binds (ps := ["course"]) fun _ _ _ _ _ _ us hl => match us, hl with | [_], _ => rfl
  have F_tidy := fun_mk (st := s_tidy) l_tidy c_tidy k_tidy
  have B_tidy := F_tidy.binds (ps := ["course"]) fun _ _ _ _ _ _ us hl => match us, hl with | [_], _ => rfl
  have F__law_store := fun_mk (st := s__law_store) l__law_store c__law_store k__law_store
  have B__law_store := F__law_store.binds (ps := ["_law_script"]) fun _ _ _ _ _ _ us hl => match us, hl with | [_], _ => rfl
  have F__law_feed := fun_mk (st := s__law_feed) l__law_feed c__law_feed k__law_feed
  have B__law_feed := F__law_feed.binds (ps := ["_law_store_here"]) fun _ _ _ _ _ _ us hl => match us, hl with | [_], _ => rfl
  have F__law_mixed := fun_mk (st := s__law_mixed) l__law_mixed c__law_mixed k__law_mixed
  have B__law_mixed := F__law_mixed.binds (ps := ["_law_store_here"]) fun _ _ _ _ _ _ us hl => match us, hl with | [_], _ => rfl
  have F__law_take := fun_mk (st := s__law_take) l__law_take c__law_take k__law_take
  have B__law_take := F__law_take.binds (ps := ["_law_store_here", "_law_many"]) fun _ _ _ _ _ _ us hl => match us, hl with | [_, _], _ => rfl
  have F__law_pick := fun_mk (st := s__law_pick) l__law_pick c__law_pick k__law_pick
  have B__law_pick := F__law_pick.binds (ps := ["_law_store_here", "_law_things"]) fun _ _ _ _ _ _ us hl => match us, hl with | [_, _], _ => rfl
  have F__law_size := fun_mk (st := s__law_size) l__law_size c__law_size k__law_size
  have B__law_size := F__law_size.binds (ps := ["_law_store_here", "_law_least", "_law_top"]) fun _ _ _ _ _ _ us hl => match us, hl with | [_, _, _], _ => rfl
  have F__law_is_int := fun_mk (st := s__law_is_int) l__law_is_int c__law_is_int k__law_is_int
  have B__law_is_int := F__law_is_int.binds (ps := ["_law_value"]) fun _ _ _ _ _ _ us hl => match us, hl with | [_], _ => rfl
  have F__law_same := fun_mk (st := s__law_same) l__law_same c__law_same k__law_same
  have B__law_same := F__law_same.binds (ps := ["_law_value", "_law_due"]) fun _ _ _ _ _ _ us hl => match us, hl with | [_, _], _ => rfl
  have F__law_copy := fun_mk (st := s__law_copy) l__law_copy c__law_copy k__law_copy
  have B__law_copy := F__law_copy.binds (ps := ["_law_value"]) fun _ _ _ _ _ _ us hl => match us, hl with | [_], _ => rfl
  have F__law_frac := fun_mk (st := s__law_frac) l__law_frac c__law_frac k__law_frac
  have B__law_frac := F__law_frac.binds (ps := ["_law_n", "_law_d"]) fun _ _ _ _ _ _ us hl => match us, hl with | [_, _], _ => rfl
  have F__law_plus := fun_mk (st := s__law_plus) l__law_plus c__law_plus k__law_plus
  have B__law_plus := F__law_plus.binds (ps := ["_law_a", "_law_b"]) fun _ _ _ _ _ _ us hl => match us, hl with | [_, _], _ => rfl
  have F__law_minus := fun_mk (st := s__law_minus) l__law_minus c__law_minus k__law_minus
  have B__law_minus := F__law_minus.binds (ps := ["_law_a", "_law_b"]) fun _ _ _ _ _ _ us hl => match us, hl with | [_, _], _ => rfl
  have F__law_times := fun_mk (st := s__law_times) l__law_times c__law_times k__law_times
  have B__law_times := F__law_times.binds (ps := ["_law_a", "_law_b"]) fun _ _ _ _ _ _ us hl => match us, hl with | [_, _], _ => rfl
  have F__law_below := fun_mk (st := s__law_below) l__law_below c__law_below k__law_below
  have B__law_below := F__law_below.binds (ps := ["_law_a", "_law_b"]) fun _ _ _ _ _ _ us hl => match us, hl with | [_, _], _ => rfl
  have F__law_is_frac := fun_mk (st := s__law_is_frac) l__law_is_frac c__law_is_frac k__law_is_frac
  have B__law_is_frac := F__law_is_frac.binds (ps := ["_law_value"]) fun _ _ _ _ _ _ us hl => match us, hl with | [_], _ => rfl
  have F__law_ratio := fun_mk (st := s__law_ratio) l__law_ratio c__law_ratio k__law_ratio
  have B__law_ratio := F__law_ratio.binds (ps := ["_law_store_here", "_law_top"]) fun _ _ _ _ _ _ us hl => match us, hl with | [_, _], _ => rfl
  have F__law_part := fun_mk (st := s__law_part) l__law_part c__law_part k__law_part
  have B__law_part := F__law_part.binds (ps := ["_law_store_here"]) fun _ _ _ _ _ _ us hl => match us, hl with | [_], _ => rfl
  have F__law_above := fun_mk (st := s__law_above) l__law_above c__law_above k__law_above
  have B__law_above := F__law_above.binds (ps := ["_law_store_here"]) fun _ _ _ _ _ _ us hl => match us, hl with | [_], _ => rfl
  have F__law_ordered := fun_mk (st := s__law_ordered) l__law_ordered c__law_ordered k__law_ordered
  have B__law_ordered := F__law_ordered.binds (ps := ["_law_fracs"]) fun _ _ _ _ _ _ us hl => match us, hl with | [_], _ => rfl
  have F__law_probes := fun_mk (st := s__law_probes) l__law_probes c__law_probes k__law_probes
  have B__law_probes := F__law_probes.binds (ps := ["_law_spans"]) fun _ _ _ _ _ _ us hl => match us, hl with | [_], _ => rfl
  have F__law_pace := fun_mk (st := s__law_pace) l__law_pace c__law_pace k__law_pace
  have B__law_pace := F__law_pace.binds (ps := ["_law_store_here"]) fun _ _ _ _ _ _ us hl => match us, hl with | [_], _ => rfl
  have F__law_course := fun_mk (st := s__law_course) l__law_course c__law_course k__law_course
  have B__law_course := F__law_course.binds (ps := ["_law_store_here", "_law_many", "_law_fall"]) fun _ _ _ _ _ _ us hl => match us, hl with | [_, _, _], _ => rfl
  have F__law_wide_course := fun_mk (st := s__law_wide_course) l__law_wide_course c__law_wide_course k__law_wide_course
  have B__law_wide_course := F__law_wide_course.binds (ps := ["_law_store_here"]) fun _ _ _ _ _ _ us hl => match us, hl with | [_], _ => rfl
  have F__law_now := fun_mk (st := s__law_now) l__law_now c__law_now k__law_now
  have B__law_now := F__law_now.binds (ps := ["_law_course_here", "_law_t"]) fun _ _ _ _ _ _ us hl => match us, hl with | [_, _], _ => rfl
  have F__law_coming := fun_mk (st := s__law_coming) l__law_coming c__law_coming k__law_coming
  have B__law_coming := F__law_coming.binds (ps := ["_law_course_here", "_law_k"]) fun _ _ _ _ _ _ us hl => match us, hl with | [_, _], _ => rfl
  have F__law_is_course := fun_mk (st := s__law_is_course) l__law_is_course c__law_is_course k__law_is_course
  have B__law_is_course := F__law_is_course.binds (ps := ["_law_value"]) fun _ _ _ _ _ _ us hl => match us, hl with | [_], _ => rfl
  have F__law_alike := fun_mk (st := s__law_alike) l__law_alike c__law_alike k__law_alike
  have B__law_alike := F__law_alike.binds (ps := ["_law_one", "_law_other"]) fun _ _ _ _ _ _ us hl => match us, hl with | [_, _], _ => rfl
  have F__law_jumps_due := fun_mk (st := s__law_jumps_due) l__law_jumps_due c__law_jumps_due k__law_jumps_due
  have B__law_jumps_due := F__law_jumps_due.binds (ps := ["_law_course_here"]) fun _ _ _ _ _ _ us hl => match us, hl with | [_], _ => rfl
  have F__law_continues := fun_mk (st := s__law_continues) l__law_continues c__law_continues k__law_continues
  have B__law_continues := F__law_continues.binds (ps := ["_law_course_here"]) fun _ _ _ _ _ _ us hl => match us, hl with | [_], _ => rfl
  have F__law_cut_up := fun_mk (st := s__law_cut_up) l__law_cut_up c__law_cut_up k__law_cut_up
  have B__law_cut_up := F__law_cut_up.binds (ps := ["_law_store_here", "_law_course_here", "_law_many"]) fun _ _ _ _ _ _ us hl => match us, hl with | [_, _, _], _ => rfl
  have F__law_right := fun_mk (st := s__law_right) l__law_right c__law_right k__law_right
  have B__law_right := F__law_right.binds (ps := ["_law_course_here"]) fun _ _ _ _ _ _ us hl => match us, hl with | [_], _ => rfl
  have F__law_long_right := fun_mk (st := s__law_long_right) l__law_long_right c__law_long_right k__law_long_right
  have B__law_long_right := F__law_long_right.binds (ps := ["_law_store_here"]) fun _ _ _ _ _ _ us hl => match us, hl with | [_], _ => rfl
  have F_law := fun_mk (st := s_law) l_law c_law k_law
  have B_law := F_law.binds (ps := ["_law_script"]) fun _ _ _ _ _ _ us hl => match us, hl with | [_], _ => rfl
  refine ⟨PySem.W.fnOf "law" "law" (defArgs s_law) (defBody s_law) (defScope s_law) .none kV_law dc_law pm_law an_law cd_law ct_law, fun s v => .of_eq rfl, fun base _ _ => ?_⟩
  have Z : Zr K mg az := ⟨PySem.W.mg_of X G azero, fun H => ⟨az, rfl, .inr ⟨_, _, _, lzero, rfl, rfl, (by show 2 ≤ sizeLine; decide), .cons ⟨t0, rfl⟩ (.cons ⟨t1, rfl⟩ .nil)⟩⟩⟩
  exact law_ok T Z ⟨⟨_, _, _, _, _, _, _, _, _, _, rfl, l_rational, c_rational⟩, k_rational⟩ (PySem.W.mg_of X G a_rational) bR
    ⟨F_add, PySem.W.mg_of X G a_add, B_add⟩
    ⟨F_subtract, PySem.W.mg_of X G a_subtract, B_subtract⟩
    ⟨F_multiply, PySem.W.mg_of X G a_multiply, B_multiply⟩
    ⟨F_negate, PySem.W.mg_of X G a_negate, B_negate⟩
    ⟨F__shown_by, PySem.W.mg_of X G a__shown_by, B__shown_by⟩
    ⟨F__jump_at, PySem.W.mg_of X G a__jump_at, B__jump_at⟩
    ⟨F_jumps, PySem.W.mg_of X G a_jumps, B_jumps⟩
    ⟨F_tidy, PySem.W.mg_of X G a_tidy, B_tidy⟩
    ⟨F__law_store, PySem.W.mg_of X G a__law_store, B__law_store⟩
    ⟨F__law_feed, PySem.W.mg_of X G a__law_feed, B__law_feed⟩
    ⟨F__law_mixed, PySem.W.mg_of X G a__law_mixed, B__law_mixed⟩
    ⟨F__law_take, PySem.W.mg_of X G a__law_take, B__law_take⟩
    ⟨F__law_pick, PySem.W.mg_of X G a__law_pick, B__law_pick⟩
    ⟨F__law_size, PySem.W.mg_of X G a__law_size, B__law_size⟩
    ⟨F__law_is_int, PySem.W.mg_of X G a__law_is_int, B__law_is_int⟩
    ⟨F__law_same, PySem.W.mg_of X G a__law_same, B__law_same⟩
    ⟨F__law_copy, PySem.W.mg_of X G a__law_copy, B__law_copy⟩
    ⟨F__law_frac, PySem.W.mg_of X G a__law_frac, B__law_frac⟩
    ⟨F__law_plus, PySem.W.mg_of X G a__law_plus, B__law_plus⟩
    ⟨F__law_minus, PySem.W.mg_of X G a__law_minus, B__law_minus⟩
    ⟨F__law_times, PySem.W.mg_of X G a__law_times, B__law_times⟩
    ⟨F__law_below, PySem.W.mg_of X G a__law_below, B__law_below⟩
    ⟨F__law_is_frac, PySem.W.mg_of X G a__law_is_frac, B__law_is_frac⟩
    ⟨F__law_ratio, PySem.W.mg_of X G a__law_ratio, B__law_ratio⟩
    ⟨F__law_part, PySem.W.mg_of X G a__law_part, B__law_part⟩
    ⟨F__law_above, PySem.W.mg_of X G a__law_above, B__law_above⟩
    ⟨F__law_ordered, PySem.W.mg_of X G a__law_ordered, B__law_ordered⟩
    ⟨F__law_probes, PySem.W.mg_of X G a__law_probes, B__law_probes⟩
    ⟨F__law_pace, PySem.W.mg_of X G a__law_pace, B__law_pace⟩
    ⟨F__law_course, PySem.W.mg_of X G a__law_course, B__law_course⟩
    ⟨F__law_wide_course, PySem.W.mg_of X G a__law_wide_course, B__law_wide_course⟩
    ⟨F__law_now, PySem.W.mg_of X G a__law_now, B__law_now⟩
    ⟨F__law_coming, PySem.W.mg_of X G a__law_coming, B__law_coming⟩
    ⟨F__law_is_course, PySem.W.mg_of X G a__law_is_course, B__law_is_course⟩
    ⟨F__law_alike, PySem.W.mg_of X G a__law_alike, B__law_alike⟩
    ⟨F__law_jumps_due, PySem.W.mg_of X G a__law_jumps_due, B__law_jumps_due⟩
    ⟨F__law_continues, PySem.W.mg_of X G a__law_continues, B__law_continues⟩
    ⟨F__law_cut_up, PySem.W.mg_of X G a__law_cut_up, B__law_cut_up⟩
    ⟨F__law_right, PySem.W.mg_of X G a__law_right, B__law_right⟩
    ⟨F__law_long_right, PySem.W.mg_of X G a__law_long_right, B__law_long_right⟩
    ⟨F_law, PySem.W.mg_of X G a_law, B_law⟩
theorem walk {l : PySem.W.OpenLaw} {q : Program} {loose : List Str} {XP : (Str → Option Value) → Heap → Prop} {YP : World → Heap → Prop} {d : DefRec} {K : Params → PySem.W.Frag} (hn : l.most = some 63) (hdf : d.params.defaults = [])
    (hY : ∀ (w : World) (h : Heap), YP w h → (K w.params).In h)
    (F : ∀ (w : World) (mg : Str → Option Value) (fa : Addr) (h : Heap), (K w.params).In h → h.Ns mainGlobals mg → mg d.name = some (.ref fa) →
      ∃ fd : FuncData, (∀ (s : Shared) (u : Value), BindsTo s fd ⟨[u], []⟩ [("_law_script", u)]) ∧ ∀ base : Heap, (K w.params).In base → base.Ns mainGlobals mg → FnOk l.prog w (K w.params) mg base CX0 7 fa fd ["_law_script"] (spLaw (K w.params))) :
    PySem.W.WalkO q loose XP YP l.row.toRowW d [] (fun f vs => PySem.call f vs) :=
  L2.walk_of (n := 63) (k := 7) (x := "_law_script") (CX := fun _ => CX0) (sp := fun w => spLaw (K w.params)) hn (by decide) hdf ⟨rfl, by decide, by decide⟩ hY F (fun _ _ a ns hl _ hS => ⟨a, ns, rfl, hS, hl, fun _ => rfl⟩) fun _ _ _ _ _ z => z
end Vk
open PySem PySem.W PyProof.Rows
set_option maxRecDepth 100000 in
set_option maxHeartbeats 0 in
theorem PySem.Challenge.cw_clockverdict_k08_tidy_and_jumps_holds : PySem.Challenge.rw_clockverdict_k08_tidy_and_jumps.Holds := by
  w_on; o_law; k_head; (case hw => w_witness2)
  k_fill
  refine Vk.walk (l := PySem.Challenge.rw_clockverdict_k08_tidy_and_jumps) rfl rfl (fun w h Y => PySem.W.kIn_of Y) ?F
  case F =>
    intro w mg fa h KX G hmg
    refine' Vk.all_mk KX G hmg ?ldf ?azero ?lzero ?a_rational ?l_rational ?c_rational ?k_rational ?a_add ?l_add ?c_add ?k_add ?a_subtract ?l_subtract ?c_subtract ?k_subtract ?a_multiply ?l_multiply ?c_multiply ?k_multiply ?a_negate ?l_negate ?c_negate ?k_negate ?a__shown_by ?l__shown_by ?c__shown_by ?k__shown_by ?a__jump_at ?l__jump_at ?c__jump_at ?k__jump_at ?a_jumps ?l_jumps ?c_jumps ?k_jumps ?a_tidy ?l_tidy ?c_tidy ?k_tidy ?a__law_store ?l__law_store ?c__law_store ?k__law_store ?a__law_feed ?l__law_feed ?c__law_feed ?k__law_feed ?a__law_mixed ?l__law_mixed ?c__law_mixed ?k__law_mixed ?a__law_take ?l__law_take ?c__law_take ?k__law_take ?a__law_pick ?l__law_pick ?c__law_pick ?k__law_pick ?a__law_size ?l__law_size ?c__law_size ?k__law_size ?a__law_is_int ?l__law_is_int ?c__law_is_int ?k__law_is_int ?a__law_same ?l__law_same ?c__law_same ?k__law_same ?a__law_copy ?l__law_copy ?c__law_copy ?k__law_copy ?a__law_frac ?l__law_frac ?c__law_frac ?k__law_frac ?a__law_plus ?l__law_plus ?c__law_plus ?k__law_plus ?a__law_minus ?l__law_minus ?c__law_minus ?k__law_minus ?a__law_times ?l__law_times ?c__law_times ?k__law_times ?a__law_below ?l__law_below ?c__law_below ?k__law_below ?a__law_is_frac ?l__law_is_frac ?c__law_is_frac ?k__law_is_frac ?a__law_ratio ?l__law_ratio ?c__law_ratio ?k__law_ratio ?a__law_part ?l__law_part ?c__law_part ?k__law_part ?a__law_above ?l__law_above ?c__law_above ?k__law_above ?a__law_ordered ?l__law_ordered ?c__law_ordered ?k__law_ordered ?a__law_probes ?l__law_probes ?c__law_probes ?k__law_probes ?a__law_pace ?l__law_pace ?c__law_pace ?k__law_pace ?a__law_course ?l__law_course ?c__law_course ?k__law_course ?a__law_wide_course ?l__law_wide_course ?c__law_wide_course ?k__law_wide_course ?a__law_now ?l__law_now ?c__law_now ?k__law_now ?a__law_coming ?l__law_coming ?c__law_coming ?k__law_coming ?a__law_is_course ?l__law_is_course ?c__law_is_course ?k__law_is_course ?a__law_alike ?l__law_alike ?c__law_alike ?k__law_alike ?a__law_jumps_due ?l__law_jumps_due ?c__law_jumps_due ?k__law_jumps_due ?a__law_continues ?l__law_continues ?c__law_continues ?k__law_continues ?a__law_cut_up ?l__law_cut_up ?c__law_cut_up ?k__law_cut_up ?a__law_right ?l__law_right ?c__law_right ?k__law_right ?a__law_long_right ?l__law_long_right ?c__law_long_right ?k__law_long_right ?a_law ?l_law ?c_law ?k_law ?zgcd ?zlen ?zabs ?zmax ?zint ?zisinstance ?zrange ?zenumerate ?zlist ?ztuple ?zstr ?zbool ?zdict
    (case a_rational => k_is); (case l_rational => k_is); (case c_rational => k_is); (case k_rational => k_is)
    (case a_add => k_is); (case l_add => k_is); (case c_add => k_is); (case k_add => k_is)
    (case a_subtract => k_is); (case l_subtract => k_is); (case c_subtract => k_is); (case k_subtract => k_is)
    (case a_multiply => k_is); (case l_multiply => k_is); (case c_multiply => k_is); (case k_multiply => k_is)
    (case a_negate => k_is); (case l_negate => k_is); (case c_negate => k_is); (case k_negate => k_is)
    (case a__shown_by => k_is); (case l__shown_by => k_is); (case c__shown_by => k_is); (case k__shown_by => k_is)
    (case a__jump_at => k_is); (case l__jump_at => k_is); (case c__jump_at => k_is); (case k__jump_at => k_is)
    (case a_jumps => k_is); (case l_jumps => k_is); (case c_jumps => k_is); (case k_jumps => k_is)
    (case a_tidy => k_is); (case l_tidy => k_is); (case c_tidy => k_is); (case k_tidy => k_is)
    (case a__law_store => k_is); (case l__law_store => k_is); (case c__law_store => k_is); (case k__law_store => k_is)
    (case a__law_feed => k_is); (case l__law_feed => k_is); (case c__law_feed => k_is); (case k__law_feed => k_is)
    (case a__law_mixed => k_is); (case l__law_mixed => k_is); (case c__law_mixed => k_is); (case k__law_mixed => k_is)
    (case a__law_take => k_is); (case l__law_take => k_is); (case c__law_take => k_is); (case k__law_take => k_is)
    (case a__law_pick => k_is); (case l__law_pick => k_is); (case c__law_pick => k_is); (case k__law_pick => k_is)
    (case a__law_size => k_is); (case l__law_size => k_is); (case c__law_size => k_is); (case k__law_size => k_is)
    (case a__law_is_int => k_is); (case l__law_is_int => k_is); (case c__law_is_int => k_is); (case k__law_is_int => k_is)
    (case a__law_same => k_is); (case l__law_same => k_is); (case c__law_same => k_is); (case k__law_same => k_is)
    (case a__law_copy => k_is); (case l__law_copy => k_is); (case c__law_copy => k_is); (case k__law_copy => k_is)
    (case a__law_frac => k_is); (case l__law_frac => k_is); (case c__law_frac => k_is); (case k__law_frac => k_is)
    (case a__law_plus => k_is); (case l__law_plus => k_is); (case c__law_plus => k_is); (case k__law_plus => k_is)
    (case a__law_minus => k_is); (case l__law_minus => k_is); (case c__law_minus => k_is); (case k__law_minus => k_is)
    (case a__law_times => k_is); (case l__law_times => k_is); (case c__law_times => k_is); (case k__law_times => k_is)
    (case a__law_below => k_is); (case l__law_below => k_is); (case c__law_below => k_is); (case k__law_below => k_is)
    (case a__law_is_frac => k_is); (case l__law_is_frac => k_is); (case c__law_is_frac => k_is); (case k__law_is_frac => k_is)
    (case a__law_ratio => k_is); (case l__law_ratio => k_is); (case c__law_ratio => k_is); (case k__law_ratio => k_is)
    (case a__law_part => k_is); (case l__law_part => k_is); (case c__law_part => k_is); (case k__law_part => k_is)
    (case a__law_above => k_is); (case l__law_above => k_is); (case c__law_above => k_is); (case k__law_above => k_is)
    (case a__law_ordered => k_is); (case l__law_ordered => k_is); (case c__law_ordered => k_is); (case k__law_ordered => k_is)
    (case a__law_probes => k_is); (case l__law_probes => k_is); (case c__law_probes => k_is); (case k__law_probes => k_is)
    (case a__law_pace => k_is); (case l__law_pace => k_is); (case c__law_pace => k_is); (case k__law_pace => k_is)
    (case a__law_course => k_is); (case l__law_course => k_is); (case c__law_course => k_is); (case k__law_course => k_is)
    (case a__law_wide_course => k_is); (case l__law_wide_course => k_is); (case c__law_wide_course => k_is); (case k__law_wide_course => k_is)
    (case a__law_now => k_is); (case l__law_now => k_is); (case c__law_now => k_is); (case k__law_now => k_is)
    (case a__law_coming => k_is); (case l__law_coming => k_is); (case c__law_coming => k_is); (case k__law_coming => k_is)
    (case a__law_is_course => k_is); (case l__law_is_course => k_is); (case c__law_is_course => k_is); (case k__law_is_course => k_is)
    (case a__law_alike => k_is); (case l__law_alike => k_is); (case c__law_alike => k_is); (case k__law_alike => k_is)
    (case a__law_jumps_due => k_is); (case l__law_jumps_due => k_is); (case c__law_jumps_due => k_is); (case k__law_jumps_due => k_is)
    (case a__law_continues => k_is); (case l__law_continues => k_is); (case c__law_continues => k_is); (case k__law_continues => k_is)
    (case a__law_cut_up => k_is); (case l__law_cut_up => k_is); (case c__law_cut_up => k_is); (case k__law_cut_up => k_is)
    (case a__law_right => k_is); (case l__law_right => k_is); (case c__law_right => k_is); (case k__law_right => k_is)
    (case a__law_long_right => k_is); (case l__law_long_right => k_is); (case c__law_long_right => k_is); (case k__law_long_right => k_is)
    (case a_law => k_is); (case l_law => k_is); (case c_law => k_is); (case k_law => k_is)
    (case ldf => k_is); (case azero => k_is); (case lzero => k_is); (case zgcd => k_is)
    (case zlen => k_is)
    (case zabs => k_is)
    (case zmax => k_is)
    (case zint => k_is)
    (case zisinstance => k_is)
    (case zrange => k_is)
    (case zenumerate => k_is)
    (case zlist => k_is)
    (case ztuple => k_is)
    (case zstr => k_is)
    (case zbool => k_is)
    (case zdict => k_is)

