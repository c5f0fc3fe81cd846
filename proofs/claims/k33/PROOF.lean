import PyProof.Rows.All
import Wide.All
import OpenK.AllK
import Wide.FinOn
import HandS.ForMost
import HandS.Wide
import HandS.Gcd
import HandS.IsInst
import HandS.Deep
import HandS.Flow
import HandS.More
import HandS.SetFor
import HandS.Defaults
import PyProof.EqAt
import PyProof.EqKinds
import PyProof.TupleCall
import Open.SpecLaws
import KE.OsGo
import HandS.ForSpec
import HandS.ExcCtx
import HandS.ForExc
import HandS.TryMany
import HandS.ExcIs
import HandS.ExcInit
import HandS.ExcField
import HandS.Base
import HandS.Call
import HandS.Exc
import HandS.ExcOwn
import HandS.WordsExc
import PySem.Challenge.RW_clockverdict_k33_laps_until
set_option Elab.async false
set_option linter.all false
set_option maxRecDepth 100000
namespace Vm
/-! ### sizes of rationals -/
def Sz (k : Nat) (q : Rat) : Prop := q.num.natAbs < 2 ^ k ∧ q.den < 2 ^ k
theorem Sz.mono {a b : Nat} {q : Rat} (h : Sz a q) (l : a ≤ b) : Sz b q :=
  ⟨Nat.lt_of_lt_of_le h.1 (Nat.pow_le_pow_right (by decide) l), Nat.lt_of_lt_of_le h.2 (Nat.pow_le_pow_right (by decide) l)⟩
theorem mk_num (n : Int) {d : Nat} (hd : d ≠ 0) : (mkRat n d).num = n / ((Nat.gcd n.natAbs d : Nat) : Int) := by
  rw [Rat.num_mkRat, if_neg hd, Nat.gcd_comm]
theorem mk_den (n : Int) {d : Nat} (hd : d ≠ 0) : (mkRat n d).den = d / Nat.gcd n.natAbs d := by
  rw [Rat.den_mkRat, if_neg hd, Nat.gcd_comm]
theorem sz_mk {n : Int} {d k : Nat} (h : d ≠ 0) (hn : n.natAbs < 2 ^ k) (hd : d < 2 ^ k) : Sz k (mkRat n d) := by
  have e : ∀ (z : Int) (g : Nat), (z / (g : Int)).natAbs ≤ z.natAbs := fun z g => Int.natAbs_ediv_le_natAbs z g
  exact ⟨by rw [mk_num n h]; exact Nat.lt_of_le_of_lt (e _ _) hn, by rw [mk_den n h]; exact Nat.lt_of_le_of_lt (Nat.div_le_self _ _) hd⟩
theorem lt_mul {a b i j : Nat} (h : a < 2 ^ i) (l : b < 2 ^ j) : a * b < 2 ^ (i + j) := by
  rw [Nat.pow_add]
  exact Nat.mul_lt_mul'' h l
theorem Sz.add {a b : Nat} {p q : Rat} (h : Sz a p) (l : Sz b q) : Sz (a + b + 1) (p + q) := by
  rw [Rat.add_def']
  have h1 := lt_mul h.1 l.2
  have h2 := lt_mul l.1 h.2
  have h3 := lt_mul h.2 l.2
  rw [Nat.add_comm b a] at h2
  refine sz_mk (Nat.ne_of_gt (Nat.mul_pos p.den_pos q.den_pos)) ?_ ?_
  · rw [Nat.pow_succ]
    have q1 := Int.natAbs_add_le (p.num * q.den) (q.num * p.den)
    rw [Int.natAbs_mul, Int.natAbs_mul, Int.natAbs_natCast, Int.natAbs_natCast] at q1
    omega
  · rw [Nat.pow_succ]
    omega
theorem Sz.neg {a : Nat} {p : Rat} (h : Sz a p) : Sz a (-p) := ⟨by rw [Rat.neg_num, Int.natAbs_neg]; exact h.1, h.2⟩
theorem Sz.sub {a b : Nat} {p q : Rat} (h : Sz a p) (l : Sz b q) : Sz (a + b + 1) (p - q) := by
  rw [Rat.sub_eq_add_neg]
  exact h.add l.neg
theorem Sz.mul {a b : Nat} {p q : Rat} (h : Sz a p) (l : Sz b q) : Sz (a + b) (p * q) := by
  rw [Rat.mul_def']
  refine sz_mk (Nat.ne_of_gt (Nat.mul_pos p.den_pos q.den_pos)) ?_ (lt_mul h.2 l.2)
  rw [Int.natAbs_mul]
  exact lt_mul h.1 l.1
theorem num_pos {q : Rat} (h : 0 < q) : 0 < q.num := by
  have z := (Rat.lt_iff 0 q).mp h
  simp at z
  exact z
theorem pos_of_num {q : Rat} (h : 0 < q.num) : 0 < q := by
  rw [Rat.lt_iff]
  simp
  exact h
theorem Sz.inv {a : Nat} {q : Rat} (h : Sz a q) (hq : 0 < q) : Sz a q⁻¹ := by
  have hn := num_pos hq
  refine ⟨?_, ?_⟩
  · rw [Rat.num_inv, Int.sign_eq_one_of_pos hn, Int.one_mul, Int.natAbs_natCast]
    exact h.2
  · rw [Rat.den_inv, if_neg (by omega)]
    exact h.1
theorem Sz.div {a b : Nat} {p q : Rat} (h : Sz a p) (l : Sz b q) (hq : 0 < q) : Sz (a + b) (p / q) := by
  rw [Rat.div_def]
  exact h.mul (l.inv hq)
/-! ### normal forms -/
theorem nf {n : Int} {d : Nat} (hd : d ≠ 0) (hc : Nat.gcd n.natAbs d = 1) : (mkRat n d).num = n ∧ (mkRat n d).den = d := by
  rw [mk_num n hd, mk_den n hd, hc]
  simp
theorem div_mk (p q : Rat) (hq : 0 < q) : p / q = mkRat (p.num * q.den) (p.den * q.num.toNat) := by
  have hn := num_pos hq
  rw [Rat.div_def, Rat.mul_def', Rat.num_inv, Rat.den_inv, if_neg (by omega), Int.sign_eq_one_of_pos hn, Int.one_mul]
  congr 2
  omega
/-- the sum by the divisors of the denominators alone -/
theorem add_parts (a b : Rat) (g f : Nat) (n : Int) (r : Nat) (hg : g = Nat.gcd a.den b.den) (hf : f = b.den / g) (hn : n = a.num * f + b.num * ((a.den / g : Nat) : Int)) (hr : r = Nat.gcd n.natAbs g) :
    (a + b).num = n / (r : Int) ∧ (a + b).den = a.den / r * f := by
  have gp : 0 < g := by rw [hg]; exact Nat.gcd_pos_of_pos_left _ a.den_pos
  obtain ⟨u, hu⟩ : g ∣ a.den := by rw [hg]; exact Nat.gcd_dvd_left _ _
  obtain ⟨v, hv⟩ : g ∣ b.den := by rw [hg]; exact Nat.gcd_dvd_right _ _
  have eu : a.den / g = u := by rw [hu]; exact Nat.mul_div_cancel_left _ gp
  have ev : f = v := by rw [hf, hv]; exact Nat.mul_div_cancel_left _ gp
  subst ev
  rw [eu] at hn
  have up : 0 < u := Nat.pos_of_ne_zero fun z => by rw [z, Nat.mul_zero] at hu; exact absurd hu (Nat.ne_of_gt a.den_pos)
  have fp : 0 < f := Nat.pos_of_ne_zero fun z => by rw [z, Nat.mul_zero] at hv; exact absurd hv (Nat.ne_of_gt b.den_pos)
  have cuf : Nat.Coprime u f := by
    have z : g * Nat.gcd u f = g := by rw [← Nat.gcd_mul_left, ← hu, ← hv, ← hg]
    exact Nat.eq_of_mul_eq_mul_left gp (by rw [z, Nat.mul_one])
  have ca : Nat.Coprime a.num.natAbs u := (Nat.Coprime.coprime_dvd_right ⟨g, by rw [hu, Nat.mul_comm]⟩ a.reduced)
  have cb : Nat.Coprime b.num.natAbs f := (Nat.Coprime.coprime_dvd_right ⟨g, by rw [hv, Nat.mul_comm]⟩ b.reduced)
  have key : ∀ (x y z : Int) (m : Nat), x = y + z * m → Nat.gcd x.natAbs m = Nat.gcd y.natAbs m := by
    intro x y z m h
    have e : ∀ t : Int, Nat.gcd t.natAbs m = Int.gcd t m := fun t => by rw [Int.gcd]; simp
    rw [e, e, h, Int.gcd_add_mul_right_left]
  have cnu : Nat.Coprime n.natAbs u := by
    have z := key n (a.num * f) b.num u hn
    unfold Nat.Coprime
    rw [z, Int.natAbs_mul, Int.natAbs_natCast]
    exact Nat.Coprime.mul_left ca cuf.symm
  have cnf : Nat.Coprime n.natAbs f := by
    have z := key n (b.num * u) a.num f (by rw [hn, Int.add_comm])
    unfold Nat.Coprime
    rw [z, Int.natAbs_mul, Int.natAbs_natCast]
    exact Nat.Coprime.mul_left cb cuf
  have cn : Nat.Coprime n.natAbs (u * f) := Nat.Coprime.mul_right cnu cnf
  have er : Nat.gcd n.natAbs (g * (u * f)) = r := by
    rw [hr]
    exact Nat.Coprime.gcd_mul_right_cancel_right g cn.symm
  have es : a + b = mkRat n (g * (u * f)) := by
    rw [Rat.add_def', hu, hv, hn]
    have z := Rat.mkRat_mul_left (n := a.num * f + b.num * u) (d := g * (u * f)) (a := g) (by omega)
    rw [← z]
    congr 1
    · push_cast
      grind
    · grind
  have dn : g * (u * f) ≠ 0 := Nat.ne_of_gt (Nat.mul_pos gp (Nat.mul_pos up fp))
  have rg : r ∣ g := by rw [hr]; exact Nat.gcd_dvd_right _ _
  refine ⟨by rw [es, mk_num n dn, er], ?_⟩
  rw [es, mk_den n dn, er, hu]
  obtain ⟨w, hw⟩ := rg
  have rp : 0 < r := Nat.pos_of_ne_zero fun z => by rw [z, Nat.zero_mul] at hw; omega
  rw [hw, Nat.mul_assoc, Nat.mul_div_cancel_left _ rp, Nat.mul_assoc, Nat.mul_div_cancel_left _ rp, Nat.mul_assoc]
/-! ### what the cross products make -/
theorem tn (a b : Nat) : ((a : Int) * (b : Int)).toNat = a * b := by
  rw [← Int.natCast_mul]
  rfl
theorem mk_add (p q : Rat) : mkRat (p.num * (q.den : Int) + q.num * (p.den : Int)) ((p.den : Int) * (q.den : Int)).toNat = p + q := by rw [tn, Rat.add_def']
theorem mk_sub (p q : Rat) : mkRat (p.num * (q.den : Int) - q.num * (p.den : Int)) ((p.den : Int) * (q.den : Int)).toNat = p - q := by rw [tn, Rat.sub_def']
theorem mk_mul (p q : Rat) : mkRat (p.num * q.num) ((p.den : Int) * (q.den : Int)).toNat = p * q := by rw [tn, Rat.mul_def']
theorem dd_pos (p q : Rat) : 0 < (p.den : Int) * (q.den : Int) := Int.mul_pos (by have := p.den_pos; omega) (by have := q.den_pos; omega)
theorem ab_mul {i j : Int} {a b : Nat} (h : i.natAbs < 2 ^ a) (l : j.natAbs < 2 ^ b) : (i * j).natAbs < 2 ^ (a + b) := by
  rw [Int.natAbs_mul]
  exact lt_mul h l
theorem ab_add {i j : Int} {a : Nat} (h : i.natAbs < 2 ^ a) (l : j.natAbs < 2 ^ a) : (i + j).natAbs < 2 ^ (a + 1) := by
  rw [Nat.pow_succ]
  omega
theorem ab_sub {i j : Int} {a : Nat} (h : i.natAbs < 2 ^ a) (l : j.natAbs < 2 ^ a) : (i - j).natAbs < 2 ^ (a + 1) := by
  rw [Nat.pow_succ]
  omega
theorem ab_up {i : Int} {a b : Nat} (h : i.natAbs < 2 ^ a) (l : a ≤ b) : i.natAbs < 2 ^ b := Nat.lt_of_lt_of_le h (Nat.pow_le_pow_right (by decide) l)
theorem ab_le {i j : Int} {a : Nat} (h : i.natAbs < 2 ^ a) (l : j.natAbs ≤ i.natAbs) : j.natAbs < 2 ^ a := Nat.lt_of_le_of_lt l h
theorem nn {m : Nat} {p : Rat} (h : Sz m p) : 0 < m := by
  cases m with
  | zero => have := h.2; have := p.den_pos; simp at *; omega
  | succ m => exact Nat.succ_pos _
theorem dA {m : Nat} {p : Rat} (h : Sz m p) : ((p.den : Nat) : Int).natAbs < 2 ^ m := h.2
theorem lt_num {p q : Rat} : p < q ↔ p.num * (q.den : Int) < q.num * (p.den : Int) := Rat.lt_iff p q
theorem eq_num {p q : Rat} : p = q ↔ p.num * (q.den : Int) = q.num * (p.den : Int) := Rat.eq_iff_mul_eq_mul
end Vm

namespace Vk
open PySem L2
/-! ### defs as they stand, and with a promise -/
structure Fn (K : PySem.W.Frag) (mg : Str → Option Value) (x : Str) (st : Stmt) (ps : List Str) (f : Addr) (fd : FuncData) : Prop where
  F : Fun K x x st f fd
  m : mg x = some (.ref f)
  b : Binds K fd ps []
structure Def (P : Program) (w : World) (K : PySem.W.Frag) (mg : Str → Option Value) (base : Heap) (k : Nat) (x : Str) (ps : List Str) (sp : Sp) (f : Addr) (fd : FuncData) : Prop where
  ok : FnOk P w K mg base CX0 k f fd ps sp
  m : mg x = some (.ref f)
  kp : PySem.W.keepIn K (.ref f) = true
  b : Binds K fd ps []
theorem Def.up {P : Program} {w : World} {K : PySem.W.Frag} {mg : Str → Option Value} {base : Heap} {j k : Nat} {x : Str} {ps : List Str} {sp : Sp} {f : Addr} {fd : FuncData} (d : Def P w K mg base j x ps sp f fd) (h : j ≤ k) : Def P w K mg base k x ps sp f fd := ⟨d.ok.mono h, d.m, d.kp, d.b⟩
theorem pcall {X : Cx} {k : Nat} {f : Addr} {fd : FuncData} {ps : List Str} {sp : Sp} {x : Str} {p pos : Pos} {e : Expr} {es : List Expr} {t : TA} (D : Def X.prog X.w X.K X.mg X.base k x ps sp f fd) (hr : Room k X.A) (ha : PA X (e :: es) t)
    (hg : Gl X x := by rfl) (hdb : (x == ("__debug__" : Str)) = false := by decide) (he : starEach (e :: es) X.env = (false, eval e X.env) :: starEach es X.env := by rfl) (hpl : (backTo pos (starEach es X.env)).any (·.1) = false := by rfl) :
    PE X (.Call (.Name x p) (e :: es) [] pos) (tCall sp [] E0 t) := pe_call D.ok hr hg D.m D.kp D.b .nil pass0 ha hdb he hpl
/-- a def as it stands, whatever its defaults are -/
structure FunA (K : PySem.W.Frag) (x qual : Str) (st : Stmt) (f : Addr) (fd : FuncData) : Prop where
  ex : ∃ (oc : Value) (od : Option Addr) (dV kV doc pm : Value) (an : Option Addr) (cdv ct : Value) (osl : Array (Option Value)),
    fd = PySem.W.fnOf x qual (defArgs st) (defBody st) (defScope st) dV kV doc pm an cdv ct ∧ K.lookup f = some ⟨oc, od, .func fd, osl⟩ ∧ PySem.W.codeIn K cdv qual = true
  kp : PySem.W.keepIn K (.ref f) = true
theorem FunA.ok {P : Program} {w : World} {K : PySem.W.Frag} {mg : Str → Option Value} {base : Heap} {x qual : Str} {st : Stmt} {f : Addr} {fd : FuncData} {N ps : List Str} {k : Nat} {sp : Sp} (F : FunA K x qual st f fd) (S : FnScope N ps (defScope st)) (len : ∀ vs H Q E, sp vs H Q E → vs.length = ps.length)
    (hbody : ∀ (cdv : Value) (A : Around) (outer : List Env) (s : Shared) (H : Hp) (vs : List V) (Q : VK) (E : XK), Room k (A.deeper (PyProof.Rows.envOfC qual (defScope st) s.heap.objs.size f cdv)) → sp vs H Q E →
      ∃ t, PSs (cxOf CX0 P w K mg base N qual (defScope st) f cdv A outer s H E).nox (defBody st) t ∧ t { nx := fun _ H' => Q .non H', rt := Q } (start N vs) H) : FnOk P w K mg base CX0 (k + 1) f fd ps sp := by
  obtain ⟨oc, od, dV, kV, doc, pm, an, cdv, ct, osl, rfl, lk, hcd⟩ := F.ex
  refine fn_of lk hcd S len fun A outer s H vs Q E hr hsp => ?_
  obtain ⟨t, h, q⟩ := hbody cdv A outer s H vs Q E hr hsp
  exact ⟨t, h.nox, q⟩
/-- the built-in names as the top leaves them -/
structure Bn (mg : Str → Option Value) : Prop where
  gcd_ : mg "gcd" = some (.builtin "math.gcd")
  len_ : mg "len" = none
  abs_ : mg "abs" = none
  max_ : mg "max" = none
  int_ : mg "int" = none
  isinstance_ : mg "isinstance" = none
  range_ : mg "range" = none
  enumerate_ : mg "enumerate" = none
  list_ : mg "list" = none
  tuple_ : mg "tuple" = none
  str_ : mg "str" = none
  bool_ : mg "bool" = none
  dict_ : mg "dict" = none
/-! ### heaps -/
theorem _root_.L2.Same.sqt {K : PySem.W.Frag} {H H' : Hp} {a : Addr} {xs : List V} (e : Same H H') (h : SqT K H a xs) : SqT K H' a xs := by
  rcases h with (h | ⟨o, h⟩) | h
  · exact .inl (.inl (e _ _ h))
  · exact .inl (.inr ⟨o, e _ _ h⟩)
  · exact .inr h
theorem same_new {H : Hp} {p : Addr} (h : H p = none) (o : HO) : Same H (upd H p o) := fun b u q => by rw [upd_ne (ne_of_none q h)]; exact q
/-- a pair of ints that stands for q -/
def Rq (K : PySem.W.Frag) (H : Hp) (v : V) (q : Rat) : Prop := ∃ a, v = .ref a ∧ SqT K H a [.int q.num, .int (q.den : Int)]
theorem Rq.same {K : PySem.W.Frag} {H H' : Hp} {v : V} {q : Rat} (e : Same H H') (h : Rq K H v q) : Rq K H' v q := by
  obtain ⟨a, rfl, h⟩ := h
  exact ⟨a, rfl, e.sqt h⟩
theorem sz2 : 2 ≤ sizeLine := by decide
theorem at0 {xs : List V} {v : V} (h : xs[0]? = some v) : atI xs 0 = some v := atI_nat (j := 0) h
theorem at1 {xs : List V} {v : V} (h : xs[1]? = some v) : atI xs 1 = some v := atI_nat (j := 1) h
theorem at2 {xs : List V} {v : V} (h : xs[2]? = some v) : atI xs 2 = some v := atI_nat (j := 2) h
theorem ifT {c : Bool} {A B : Prop} (hc : c = true) (h : A) : if c = true then A else B := by
  rw [if_pos hc]
  exact h
theorem ifF {c : Bool} {A B : Prop} (hc : c = false) (h : B) : if c = true then A else B := by
  rw [hc, if_neg Bool.false_ne_true]
  exact h
theorem dF {p : Prop} [Decidable p] (h : ¬ p) : decide p = false := decide_eq_false h
theorem dT {p : Prop} [Decidable p] (h : p) : decide p = true := decide_eq_true h
theorem ifD {p : Prop} [Decidable p] {A B : Prop} (h1 : p → A) (h2 : ¬ p → B) : if decide p = true then A else B := by
  by_cases h : p
  · exact ifT (decide_eq_true h) (h1 h)
  · exact ifF (decide_eq_false h) (h2 h)
theorem fmod_nat (x m : Nat) : (x : Int).fmod (m : Int) = ((x % m : Nat) : Int) := by
  rw [Int.fmod_eq_emod_of_nonneg _ (by omega)]
  rfl
/-- what stands behind a statement, said once for all its ways -/
theorem cut {t u : TS} {D : Ends} {σ : L2.St} {H : Hp} (mid : L2.St → Hp → Prop) (key : ∀ σ' H', mid σ' H' → u D σ' H') (h : (∀ σ' H', mid σ' H' → u D σ' H') → tSeq t u D σ H) : tSeq t u D σ H := h key
/-! ### the store of draws -/
/-- at s stands a store: the script's list at l, five counters -/
def Sto (l s : Addr) (H : Hp) : Prop := ∃ (ns : List Int) (pos num seed hold cnt : Int), H s = some (.lst [.ref l, .int pos, .int num, .int seed, .int hold, .int cnt]) ∧ l ≠ s ∧ H l = some (.lst (ns.map V.int)) ∧ ns.length ≤ 63 ∧ 0 ≤ pos ∧ 0 ≤ num ∧ 0 ≤ seed ∧ seed < 1000000007
/-- all but what stands at s is as it was -/
def Fr (s : Addr) (H H' : Hp) : Prop := ∀ b o, H b = some o → b ≠ s → H' b = some o
theorem Fr.refl (s : Addr) (H : Hp) : Fr s H H := fun _ _ h _ => h
theorem Fr.trans {s : Addr} {H H1 H2 : Hp} (a : Fr s H H1) (b : Fr s H1 H2) : Fr s H H2 := fun c o h n => b c o (a c o h n) n
theorem Fr.of {s : Addr} {H H' : Hp} (e : Same H H') : Fr s H H' := fun b o h _ => e b o h
theorem Fr.upd {s : Addr} {H : Hp} (o : HO) : Fr s H (upd H s o) := fun b u h n => by rw [upd_ne n]; exact h
theorem Fr.free {s : Addr} {H H' : Hp} (e : Fr s H H') {p : Addr} (h : H' p = none) (n : p ≠ s) : H p = none := by
  cases q : H p with
  | none => rfl
  | some o =>
    rw [e p o q n] at h
    cases h
theorem Sto.some {l s : Addr} {H : Hp} (h : Sto l s H) : ∃ xs, H s = some (.lst xs) := by
  obtain ⟨_, _, _, _, _, _, h, _⟩ := h
  exact ⟨_, h⟩
theorem Sto.ne {l s : Addr} {H : Hp} (h : Sto l s H) {p : Addr} (n : H p = none) : p ≠ s := by
  obtain ⟨xs, h⟩ := h.some
  exact fun z => by rw [z, h] at n; cases n
theorem Sto.nl {l s : Addr} {H : Hp} (h : Sto l s H) {p : Addr} (n : H p = none) : p ≠ l := by
  obtain ⟨_, _, _, _, _, _, _, _, h, _⟩ := h
  exact fun z => by rw [z, h] at n; cases n
theorem Sto.same {l s : Addr} {H H' : Hp} (e : Same H H') (h : Sto l s H) : Sto l s H' := by
  obtain ⟨ns, pos, num, seed, hold, cnt, h1, h2, h3, r⟩ := h
  exact ⟨ns, pos, num, seed, hold, cnt, e _ _ h1, h2, e _ _ h3, r⟩
/-- what becomes of another list does not matter -/
theorem Sto.upd {l s D : Addr} {H : Hp} {o : HO} (h : Sto l s H) (n1 : D ≠ s) (n2 : D ≠ l) : Sto l s (upd H D o) := by
  obtain ⟨ns, pos, num, seed, hold, cnt, h1, h2, h3, r⟩ := h
  exact ⟨ns, pos, num, seed, hold, cnt, by rw [upd_ne (Ne.symm n1)]; exact h1, h2, by rw [upd_ne (Ne.symm n2)]; exact h3, r⟩
/-- a tuple outlives what becomes of a list -/
theorem sqt_fr {K : PySem.W.Frag} {s a : Addr} {H H' : Hp} {xs : List V} (e : Fr s H H') (hs : ∃ ys, H s = some (.lst ys)) (h : SqT K H a xs) : SqT K H' a xs := by
  obtain ⟨ys, hs⟩ := hs
  have n : ∀ {o : HO}, H a = some o → (∀ ys, o ≠ .lst ys) → a ≠ s := fun {o} h1 h2 z => by
    rw [z, hs] at h1
    exact h2 ys (Option.some.inj h1).symm
  rcases h with (h | ⟨o, h⟩) | h
  · exact .inl (.inl (e _ _ h (n h fun _ z => by cases z)))
  · exact .inl (.inr ⟨o, e _ _ h (n h fun _ z => by cases z)⟩)
  · exact .inr h
theorem Rq.fr {K : PySem.W.Frag} {s : Addr} {H H' : Hp} {v : V} {q : Rat} (e : Fr s H H') (hs : ∃ ys, H s = some (.lst ys)) (h : Rq K H v q) : Rq K H' v q := by
  obtain ⟨a, rfl, h⟩ := h
  exact ⟨a, rfl, sqt_fr e hs h⟩
theorem seq_fr {K : PySem.W.Frag} {s a : Addr} {H H' : Hp} {xs : List V} (e : Fr s H H') (n : a ≠ s) (h : SqL K H a xs) : SqL K H' a xs := by
  rcases h with (h | ⟨o, h⟩) | h
  · exact .inl (.inl (e _ _ h n))
  · exact .inl (.inr ⟨o, e _ _ h n⟩)
  · exact .inr h
theorem sm6 : 6 ≤ sizeLine := by decide
theorem sm4 : 4 ≤ sizeLine := by decide
theorem sm3 : 3 ≤ sizeLine := by decide
theorem sm5 : 5 ≤ sizeLine := by decide
end Vk

set_option maxHeartbeats 2000000
namespace PySem
namespace ValX
open PySem.W PySem.Calls PyProof.Rows PySem.HandSPX
/-! ### the text of __init__ -/
def iA (p1 p2 : Pos) : Arguments := { posonlyargs := [], args := [{ arg := "self", annotation := none, pos := p1 }, { arg := "value", annotation := none, pos := p2 }], vararg := none, kwonlyargs := [], kw_defaults := [], kwarg := none, defaults := [] }
def iB (q1 q2 q3 q4 : Pos) : List Stmt := [.Assign [.Attribute (.Name "self" q1) "value" q2] (.Name "value" q3) q4]
def iS : Scope := { kind := .function, names := [(PySem.Str.ofString "self", .local), (PySem.Str.ofString "value", .local)], isGenerator := false, isCoroutine := false, more := [] }
/-- what the written part says of the class, at C, and of its __init__, at fI -/
structure ValTxt (K : Frag) (mg : Str → Option Value) (nm : Str) (C fI : Addr) : Prop where
  gC : mg nm = some (.ref C)
  cls : ∃ nm q N bs bm sn sub ab col dd k0 k1 k2 k3 k5, K.lookup C = some (excClassObj nm q C N bs bm true sn sub ab col dd k0 k1 k2 k3 k5 "ValueError.__new__") ∧ refsVE bm = true
  sa : findIn K (.ref C) "__setattr__" = some (some (.builtin "object.__setattr__"))
  ga : findIn K (.ref C) "__getattribute__" = some (some (.builtin "BaseException.__getattribute__"))
  gg : findIn K (.ref C) "__getattr__" = some none
  noN : findIn K (.ref C) "value" = some none
  iC : findIn K (.ref C) "__init__" = some (some (.ref fI))
  tC : typeIn K (.ref fI) = some (.type "function")
  kC : keepIn K (.ref C) = true
  exC : subIn K (.ref C) (.type "BaseException") = some true
  tyC : typeIn K (.ref C) = some (.type "type")
  hdC : hasDictIn K C = true
  te : exmOne K (.ref C) (.ref C) = some true
  fn : ∃ (q : Str) (oc : Value) (od : Option Addr) (doc pm : Value) (an : Option Addr) (cdv ct : Value) (osl : Array (Option Value)) (p1 p2 q1 q2 q3 q4 : Pos),
    K.lookup fI = some ⟨oc, od, .func (fnOf "__init__" q (iA p1 p2) (iB q1 q2 q3 q4) iS .none .none doc pm an cdv ct), osl⟩ ∧ codeIn K cdv q = true
theorem one_size (v : Value) : [v].length ≤ sizeLine := by
  rw [sizeLine_eq]
  exact (by decide : 1 ≤ 16777216)
theorem kept_but {K : Frag} {h h' : Heap} {x : Addr} (X : K.In h) (hx : K.lookup x = none) (k : ∀ b o, b ≠ x → h.get? b = some o → h'.get? b = some o) : K.In h' := fun a o e =>
  k a o (fun z => by rw [z, hx] at e; cases e) (X a o e)
theorem ldC {M : Model} {s : Shared} {name : Str} {scope : Scope} {L a : Addr} {cd : Value} {m : Str → Option Value} {x : Str} {pos : Pos} {v : Value} {Q : Value → Shared → Prop} {A : Around} {E : Value → Shared → Prop} (hn : s.heap.Ns L m) (hv : m x = some v) (h : Q v s)
    (hk : scope.kind = .function := by rfl) (hl : (envOfC name scope L a cd).kindOf x = some .local := by rfl) (hd : (x == ("__debug__" : Str)) = false := by decide) :
    wpAny M A (eval (.Name x pos) (envOfC name scope L a cd)) Q E s := wpAny_Name (wpAny_loadName_local hk hl hn hv h) hd
/-- what __init__ leaves of a fresh exception at x -/
structure InitEnd (h h' : Heap) (x C dx t1 : Addr) (v : Value) : Prop where
  keep : ∀ b o, b ≠ x → h.get? b = some o → h'.get? b = some o
  obj : h'.get? x = some { cls := .ref C, dict := some dx, data := .fields #[.ref t1, .none, .none, .none, .bool false, .none] }
  dbig : h.objs.size ≤ dx
  dne : dx ≠ x
  ns : h'.Ns1 dx (fun y => if y = "value" then some v else none)
/-- a made error -/
structure OwnMade (h h' : Heap) (e C d : Addr) (v : Value) : Prop where
  keep : ∀ b o, h.get? b = some o → h'.get? b = some o
  new : h.objs.size ≤ e
  obj : ∃ oe vs, h'.get? e = some oe ∧ oe.cls = .ref C ∧ oe.dict = some d ∧ oe.data = .fields vs ∧ vs[1]? = some .none ∧ vs[2]? = some .none
  dbig : h.objs.size ≤ d
  dne : d ≠ e
  ns : h'.Ns1 d (fun y => if y = "value" then some v else none)
section
variable {prog : Program} {w : World} {A : Around} {E : Value → Shared → Prop} {R : Result → Shared → Prop} {s : Shared} {K : Frag} {mg : Str → Option Value} {nm : Str} {C fI : Addr}
theorem val_init (T : ValTxt K mg nm C fI) {x t0 : Addr} {v : Value} (X : K.In s.heap) (hlim : s.heap.NoLimit) (hx : s.heap.get? x = some (excO C t0)) (hnx : K.lookup x = none) (hroom : A.depth < recursionLimit)
    (hq : ∀ h' tk dx, InitEnd s.heap h' x C dx t0 v → R (.ok (.ret .none)) { s with heap := h', toks := tk }) :
    codeAny (model prog w) A (.call (.ref fI) ⟨[.ref x, v], []⟩) R s := by
  obtain ⟨qn, oc, od, doc, pm, an, cdv, ct, osl, p1, p2, q1, q2, q3, q4, ho, hcd⟩ := T.fn
  obtain ⟨cnm, q, N, bs, bm, sn, sub, ab, col, dd, k0, k1, k2, k3, k5, hC, hbm⟩ := T.cls
  have hcl : clsIn K C = some { name := cnm, bases := bs, mro := .ref C :: bm, ns := N, qualname := q, hasDict := true, slotNames := sn, subclasses := sub, abstract := ab, collection := col, hasDel := false } := by unfold clsIn; rw [hC] <;> rfl
  refine Att.call_fn (binds := [("self", .ref x), ("value", v)]) X hlim ho hcd hroom (BindsTo.of_eq (by first | rfl | with_unfolding_all rfl)) (by first | rfl | decide | with_unfolding_all rfl) (fun s₁ IC => ?_) rfl rfl rfl
  obtain ⟨h₁, tk₁, rfl⟩ := IC.toInCall.same
  have k : ∀ b o, s.heap.get? b = some o → h₁.get? b = some o := IC.toInCall.keep
  have hn := IC.toInCall.ns
  have hxL : s.heap.objs.size ≠ x := Nat.ne_of_gt (Heap.lt_size hx)
  have X₁ : K.In h₁ := X.keeps k
  have hx₁ := k _ _ hx
  -- self.by = by
  show wpAny _ _ (execs _ _) _ _ _
  refine wpAny_execs_cons (plainObj_wpAny_Assign_Attribute ?_)
  refine ldC (v := v) hn (by first | rfl | with_unfolding_all rfl | kernel_rfl) (ldC (v := .ref x) hn (by first | rfl | with_unfolding_all rfl | kernel_rfl) ?_)
  refine set_plain X₁ (ox := excO C t0) (od := none) ⟨hx₁, rfl, rfl, trivial⟩ T.sa ?_
  refine exc_osa X₁ hx₁ hcl (show refsVE (.ref C :: bm) = true from hbm) rfl T.noN (fun h₃ tk₃ dx k₃ dn dne hx₃ hn₃ => ?_)
  show wpAny _ _ (execs _ _) _ _ _
  have z : s.heap.objs.size < h₁.objs.size := hn.lt
  exact wpAny_execs_nil (hq h₃ tk₃ dx ⟨fun b o hb e => k₃ b o hb (k b o e), hx₃, Nat.le_of_lt (Nat.lt_of_lt_of_le z dn), dne, hn₃⟩)
theorem val_made (T : ValTxt K mg nm C fI) {v : Value} (X : K.In s.heap) (hlim : s.heap.NoLimit) (hroom : A.depth + 1 < recursionLimit)
    (hq : ∀ h' tk e d, OwnMade s.heap h' e C d v → R (.ok (.ret (.ref e))) { s with heap := h', toks := tk }) :
    codeAny (model prog w) A (.call (.ref C) ⟨[v], []⟩) R s := by
  obtain ⟨cnm, q, N, bs, bm, sn, sub, ab, col, dd, k0, k1, k2, k3, k5, hC, hbm⟩ := T.cls
  obtain ⟨hp, g, dr, tk, os⟩ := s
  have k : ∀ b o, hp.get? b = some o → ((hp.push (kdv_tup [v])).push (excO C hp.objs.size)).get? b = some o := fun b o e => Heap.get?_push_of_some _ (Heap.get?_push_of_some _ e)
  have hget : ((hp.push (kdv_tup [v])).push (excO C hp.objs.size)).get? (hp.objs.size + 1) = some (excO C hp.objs.size) := by heap_get
  have hnx : K.lookup (hp.objs.size + 1) = none := by
    cases e : K.lookup (hp.objs.size + 1) with
    | none => rfl
    | some o =>
      have z : hp.get? (hp.objs.size + 1) = some o := X _ _ e
      exact absurd (Nat.lt_of_succ_lt (Heap.lt_size z)) (Nat.lt_irrefl _)
  refine call_own F.excBase_ValueError (fun X => refsVE_contains X bm hbm) (X _ _ hC) (looks_findIn X T.iC) (fun self => bind_fn X self T.tC) (one_size v) ?_
  refine val_init (s := ⟨(hp.push (kdv_tup [v])).push (excO C hp.objs.size), g, dr, tk, os⟩) T (X.keeps k) (hlim.keeps k) hget hnx ?_ fun h' tk' dx ⟨k', hx, dn, dne, hns⟩ => ?_
  · show A.depth + 1 < recursionLimit
    exact hroom
  · have old : ∀ b o, hp.get? b = some o → h'.get? b = some o := fun b o e => k' b o (Nat.ne_of_lt (Nat.lt_succ_of_lt (Heap.lt_size e))) (k b o e)
    have z : hp.objs.size + 1 + 1 ≤ dx := by
      first
        | (simpa only [Heap.size_push] using dn)
        | exact dn
        | (have q := dn; rw [Heap.size_push, Heap.size_push] at q; exact q)
    exact ⟨rfl, hq h' tk' (hp.objs.size + 1) dx ⟨old, Nat.le_succ _, ⟨_, _, hx, rfl, rfl, rfl, rfl, rfl⟩, Nat.le_trans (Nat.le_trans (Nat.le_succ _) (Nat.le_succ _)) z, dne, hns⟩⟩
end
end ValX
end PySem
namespace L2
open PySem PySem.Spec PyProof.Rows
theorem relO_val {v : V} {v' : Value} (r : RelV v v') (f : Str) : RelO (List.lookup f [(("value" : Str), v)]) (if f = "value" then some v' else none) := by
  by_cases hw : f = "value"
  · subst hw
    rw [if_pos rfl]
    have q : List.lookup ("value" : Str) [(("value" : Str), v)] = some v := by simp [List.lookup]
    rw [q]
    exact r
  · rw [if_neg hw]
    have qw : (f == ("value" : Str)) = false := by simpa using hw
    have q2 : List.lookup f [(("value" : Str), v)] = none := by simp [List.lookup, qw]
    rw [q2]
    trivial
section
variable {X : Cx} {nm : Str} {C fI : Addr}
/-- X(e) -/
def tMkVal (C : Addr) (ta : TA) : St → Hp → XK → Prop := fun σ H Q => ta σ H fun vs H1 => ∃ v, vs = [v] ∧ ∀ d, H1 d = none → Q (.ref C) (some d) (upd H1 d (.xd [(("value" : Str), v)]))
theorem pmk_val {a : Expr} {ta : TA} {p pos : Pos} {k : Nat} (T : PySem.ValX.ValTxt X.K X.mg nm C fI) (hr : Room k X.A) (ha : PA X [a] ta) (hg : Gl X nm := by rfl) (hdb : (nm == ("__debug__" : Str)) = false := by decide)
    (he : starEach (a :: []) X.env = (false, eval a X.env) :: starEach [] X.env := by rfl) (hpl : (backTo pos (starEach [] X.env)).any (·.1) = false := by rfl) :
    PMk X (.Call (.Name nm p) [a] [] pos) (tMkVal C ta) := by
  intro pins s σ H Q I h
  refine wpAny_Call_Name_kw (ld_glob I hg T.gC ?_ hdb)
  refine PySem.W.callWith_K (h₀ := X.base) I.ok.mod.kin T.kC (thn (ha.run pos pins s σ H _ I h) fun us s1 hh => ?_) he hpl
  obtain ⟨vs, H1, I1, r1, v, ev, q1⟩ := hh
  subst ev
  refine ⟨I1.kIn, ?_⟩
  cases r1 with
  | cons rv rn =>
    rename_i v' us'
    cases rn
    show wpAny _ _ (call (.ref C) [v']) _ _ _
    have hlim := I1.nolimit
    obtain ⟨hp, g, dr, tk, os⟩ := s1
    refine wpAny_call (PySem.ValX.val_made T I1.kIn hlim (by have := hr.dp; omega) fun h' tk' e d M => ?_)
    show MkP X pins σ Q (.ref e) ⟨h', g, dr, tk', os⟩
    obtain ⟨oe, fv, hoe, hc, hd, hdat, h1, h2⟩ := M.obj
    have hns := M.ns
    obtain ⟨G', g1, g2⟩ := restrict h' fun b => decide (b ≠ e)
    have gk : ∀ b, b ≠ e → G'.get? b = h'.get? b := fun b hb => g1 b (decide_eq_true hb)
    have ge : G'.get? e = none := g2 e (by simp)
    have old : ∀ b o, hp.get? b = some o → G'.get? b = some o := fun b o q => (gk b (Nat.ne_of_lt (Nat.lt_of_lt_of_le (Heap.lt_size q) M.new))).trans (M.keep b o q)
    have ob : ObjOk X.prog X.w (upd H1 d (.xd [(("value" : Str), v)])) G' d (.xd [(("value" : Str), v)]) :=
      ⟨_, hns.at (fun o q => (gk d M.dne).trans q), fun f => relO_val rv f⟩
    have J : Inv X pins σ (upd H1 d (.xd [(("value" : Str), v)])) ⟨G', g, dr, tk', os⟩ := I1.laid (t' := tk') old M.dbig ob
    refine ⟨e, oe, fv, ⟨G', g, dr, tk', os⟩, _, .ref C, some d, rfl, J, fun b o q => ?_, ge, hoe, ⟨hc, hd⟩, hdat, h1, ?_, rfl, I1.bare, raises_own T.exC T.tyC, q1 d (I1.hok.fresh M.dbig)⟩
    · by_cases hb : b = e
      · have q' : G'.get? b = some o := q
        rw [hb, ge] at q'; cases q'
      · exact (gk b hb).symm.trans q
    · rw [upd_ne (Ne.symm M.dne)]
      exact I1.hok.fresh M.new
/-- raise X(e) -/
def tRaiseVal (C : Addr) (W : WX) (ta : TA) : TS := fun _ σ H => tMkVal C ta σ H fun cls d H' => W cls d σ H'
theorem ps_raiseVal {a : Expr} {ta : TA} {W : WX} {p pos pos2 : Pos} {k : Nat} (hc : X.calm = true) (T : PySem.ValX.ValTxt X.K X.mg nm C fI) (hr : Room k X.A) (tk : Takes X W) (ha : PA X [a] ta) (hg : Gl X nm := by rfl) (hdb : (nm == ("__debug__" : Str)) = false := by decide)
    (he : starEach (a :: []) X.env = (false, eval a X.env) :: starEach [] X.env := by rfl) (hpl : (backTo pos (starEach [] X.env)).any (·.1) = false := by rfl) :
    PS X (.Raise (some (.Call (.Name nm p) [a] [] pos)) none pos2) (tRaiseVal C W ta) := ps_raise hc tk (pmk_val T hr ha hg hdb he hpl)
theorem pmk_valN {a : Expr} {ta : TA} {p pos : Pos} {k : Nat} (T : PySem.ValX.ValTxt X.K X.mg nm C fI) (hr : Room k X.A) (ha : PA X [a] ta) (hg : Gl X nm := by rfl) (hdb : (nm == ("__debug__" : Str)) = false := by decide)
    (he : starEach (a :: []) X.env = (false, eval a X.env) :: starEach [] X.env := by rfl) (hpl : (backTo pos (starEach [] X.env)).any (·.1) = false := by rfl) :
    L2N.PMk X (.Call (.Name nm p) [a] [] pos) (tMkVal C ta) := by
  intro pins s σ H Q I h
  refine wpAny_Call_Name_kw (ld_glob I hg T.gC ?_ hdb)
  refine PySem.W.callWith_K (h₀ := X.base) I.ok.mod.kin T.kC (thn (ha.run pos pins s σ H _ I h) fun us s1 hh => ?_) he hpl
  obtain ⟨vs, H1, I1, r1, v, ev, q1⟩ := hh
  subst ev
  refine ⟨I1.kIn, ?_⟩
  cases r1 with
  | cons rv rn =>
    rename_i v' us'
    cases rn
    show wpAny _ _ (call (.ref C) [v']) _ _ _
    have hlim := I1.nolimit
    obtain ⟨hp, g, dr, tk, os⟩ := s1
    refine wpAny_call (PySem.ValX.val_made T I1.kIn hlim (by have := hr.dp; omega) fun h' tk' e d M => ?_)
    show L2N.MkP X pins σ Q (.ref e) ⟨h', g, dr, tk', os⟩
    obtain ⟨oe, fv, hoe, hc, hd, hdat, h1, h2⟩ := M.obj
    have hns := M.ns
    obtain ⟨G', g1, g2⟩ := restrict h' fun b => decide (b ≠ e)
    have gk : ∀ b, b ≠ e → G'.get? b = h'.get? b := fun b hb => g1 b (decide_eq_true hb)
    have ge : G'.get? e = none := g2 e (by simp)
    have old : ∀ b o, hp.get? b = some o → G'.get? b = some o := fun b o q => (gk b (Nat.ne_of_lt (Nat.lt_of_lt_of_le (Heap.lt_size q) M.new))).trans (M.keep b o q)
    have ob : ObjOk X.prog X.w (upd H1 d (.xd [(("value" : Str), v)])) G' d (.xd [(("value" : Str), v)]) :=
      ⟨_, hns.at (fun o q => (gk d M.dne).trans q), fun f => relO_val rv f⟩
    have J : Inv X pins σ (upd H1 d (.xd [(("value" : Str), v)])) ⟨G', g, dr, tk', os⟩ := I1.laid (t' := tk') old M.dbig ob
    refine ⟨e, oe, fv, ⟨G', g, dr, tk', os⟩, _, .ref C, some d, rfl, J, fun b o q => ?_, ge, hoe, ⟨hc, hd, fun vs ev => by rw [hdat] at ev; cases ev; exact h2⟩, hdat, h1, ?_, rfl, I1.bare, raises_own T.exC T.tyC, q1 d (I1.hok.fresh M.dbig)⟩
    · by_cases hb : b = e
      · have q' : G'.get? b = some o := q
        rw [hb, ge] at q'; cases q'
      · exact (gk b hb).symm.trans q
    · rw [upd_ne (Ne.symm M.dne)]
      exact I1.hok.fresh M.new
/-- raise X(e), where the context of exceptions is told, too -/
theorem ps_raiseValN {a : Expr} {ta : TA} {W : WX} {p pos pos2 : Pos} {k : Nat} (hc : X.calm = true) (T : PySem.ValX.ValTxt X.K X.mg nm C fI) (hr : Room k X.A) (tk : L2N.Takes X W) (ha : PA X [a] ta) (hg : Gl X nm := by rfl) (hdb : (nm == ("__debug__" : Str)) = false := by decide)
    (he : starEach (a :: []) X.env = (false, eval a X.env) :: starEach [] X.env := by rfl) (hpl : (backTo pos (starEach [] X.env)).any (·.1) = false := by rfl) :
    PS X (.Raise (some (.Call (.Name nm p) [a] [] pos)) none pos2) (tRaiseVal C W ta) := L2N.ps_raise hc tk (pmk_valN T hr ha hg hdb he hpl)
/-- e.value, e the exception that the suite holds (at a; its class cls, its dict d) -/
def tByVal (C : Addr) (a : Addr) (cls : Value) (d : Option Addr) (te : TE) : TE := fun σ H Q => te σ H fun x H1 => x = .ref a ∧ cls = .ref C ∧ ∃ (dd : Addr) (v : V), d = some dd ∧ H1 dd = some (.xd [(("value" : Str), v)]) ∧ Q v H1
theorem pe_byVal {a : Addr} {oe : Obj} {cls : Value} {d : Option Addr} {pn : List (Addr × Obj)} {e : Expr} {te : TE} {pos : Pos} (T : PySem.ValX.ValTxt X.K X.mg nm C fI) (hz : Zc cls d oe) (hf : ∃ vs, oe.data = .fields vs) (he : PE (X.suite a ((a, oe) :: pn)) e te)
    (hb : attributeBase e "value" X.env (eval e X.env) = eval e X.env := by rfl) :
    PE (X.suite a ((a, oe) :: pn)) (.Attribute e "value" pos) (tByVal C a cls d te) := by
  refine ⟨fun pins s σ H Q I h => ?_⟩
  refine attr_of hb (thn (he.run pins s σ H _ I h) fun u s1 hh => ?_)
  obtain ⟨x, H1, I1, rx, ex, ec, dd, v, ed, ea, q⟩ := hh
  subst ex
  obtain rfl : u = Value.ref a := rx
  subst ec
  subst ed
  obtain ⟨ha, _⟩ := I1.pin (a, oe) (List.mem_append_left _ List.mem_cons_self)
  obtain ⟨vs, hd⟩ := hf
  have hx : ObjOk X.prog X.w H1 s1.heap dd (.xd [(("value" : Str), v)]) := I1.hok dd _ ea
  obtain ⟨mA, hns, hr⟩ := hx
  obtain ⟨od, ho, hl⟩ := lookIn_ns hns
  have l : List.lookup ("value" : Str) [(("value" : Str), v)] = some v := by simp [List.lookup]
  obtain ⟨u, hu, ru⟩ := RelO.some_of (v := v) (o := mA "value") (by rw [← l]; exact hr "value")
  have J : PySem.W.InstAt s1.heap a oe C (some od) := ⟨ha, hz.1, by unfold PySem.W.notCls; rw [hd] <;> rfl, by rw [hz.2]; exact ho⟩
  exact HandSPX.exc_get I1.kIn J T.ga T.gg T.exC (PySem.W.findObj_own T.hdC T.noN rfl (by rw [hl, hu])) (handed_of ru) ⟨v, H1, I1.tok _, ru, q⟩
end
end L2

set_option maxHeartbeats 4000000
/-! isinstance of a caught error of an own class that has a dict of its own -/
namespace Vk
open PySem PySem.W PySem.Spec PySem.Calls PyProof.Rows
section
variable {prog : Program} {w : World} {A : Around} {E : Value → Shared → Prop} {s : Shared} {K : Frag} {x D : Addr} {ox : Obj} {od : Option Obj}
theorem found_data {C : Addr} {name : Str} {a g : Value} (hc : (clsIn K C).isSome = true) (ha : findIn K (.ref C) name = some (some a)) (hg : specialIn K a "__get__" = some (some g)) (ht : takesIn K a = some true) : findObj K C od name = some (.bind g a) := by
  obtain ⟨cd, hc⟩ := Option.isSome_iff_exists.mp hc
  simp only [findObj, hc, ha, Option.bind_some, hg, ht]
/-- what the class must say -/
abbrev Ec (K : Frag) (D : Addr) : Prop := L2.ExcC K D
theorem class_asked {Q : Option Value → Shared → Prop} (C : Ec K D) (X : K.In s.heap) (I : InstAt s.heap x ox D od) (h : Q (some (.ref D)) { s with toks := s.toks + 1 }) : wpAny (model prog w) A (getAttr? (.ref x) "__class__") Q E s := by
  have isC : (clsIn K D).isSome = true := by
    obtain ⟨cd, e, _⟩ := any_some C.hd
    rw [e]
    rfl
  obtain ⟨hp, g, d, t, os⟩ := s
  have T0 := I.type (M := model prog w)
  have F1 := looks_findIn (M := model prog w) X C.hg
  have F2 := looks_findIn (M := model prog w) X C.hk
  have F3 := looks_find (M := model prog w) X I (found_data isC C.ha C.hn C.ht)
  have below : Looks (model prog w) hp (isInstance (.ref x) (.type "BaseException")) true := T0.andThen (looks_subIn X C.hs)
  have q1 : (Value.builtin "BaseException.__getattribute__" == Value.builtin "object.__getattribute__") = false := by decide +kernel
  have q2 : (onTheHeap (Value.ref D) && Value.builtin "BaseException.__getattribute__" == Value.builtin "object.__getattribute__") = false := by rw [q1]; rfl
  unfold getAttr? getAttrBy? getAttrBy
  refine wpAny_bind (wpAny_mkText (wpAny_bind (wpAny_attempt (wpAny_holding (wpAny_bind (T0.at (wpAny_bind (F1.at ?_))))))))
  show wpAny _ _ (if (onTheHeap (Value.ref D) && Value.builtin "BaseException.__getattribute__" == Value.builtin "object.__getattribute__") = true then _ else _) _ _ _
  rw [q2, if_neg Bool.false_ne_true]
  unfold getAttrByItsOwn hookBefore
  refine wpAny_bind ?_
  rw [if_pos (show onTheHeap (Value.ref D) = true from rfl)]
  refine F2.at (wpAny_bind (wpAny_attempt (wpAny_holding ?_)))
  unfold callGetattribute
  rw [show (false && onTheHeap (Value.builtin "BaseException.__getattribute__")) = false from rfl, if_neg Bool.false_ne_true]
  unfold boundAndCalled
  rw [PySem.F.excAttr_ValueError.ga.bind (.ref x)]
  refine wpAny_bind (wpAny_pure ?_)
  show wpAny _ _ (call (.builtin "BaseException.__getattribute__") [.ref x, .str "__class__" t]) _ _ _
  refine wpAny_call (codeAny_call_builtin PySem.F.excAttr_ValueError.ga.plain PySem.F.entry_bexc_ga ?_)
  refine @check_slot (model prog w) _ _ ⟨hp, g, d, t + 1, os⟩ "BaseException.__getattribute__" "BaseException" "__getattribute__" (.ref x) [.str "__class__" t] [] _ (by decide +kernel) (by decide +kernel) below (PySem.F.args_bexc_ga (.ref x) (.str "__class__" t)) ?_
  unfold Builtin.«object.__getattribute__»
  refine wpAny_bind (wpAny_of_eq (a := ((Value.ref x : Value), [Value.str "__class__" t])) (by first | rfl | (simp only [slotArgs]; rfl)) ?_)
  refine wpAny_bind (wpAny_pure (wpAny_bind (T0.at (wpAny_bind (F3.at ?_)))))
  show wpAny _ _ (holding [Value.builtin "object.__class__"] (call (.builtin "getset_descriptor.__get__") [.builtin "object.__class__", .ref x, .ref D]) >>= ret) _ _ _
  refine wpAny_bind (wpAny_holding (wpAny_call (class_get (s := ⟨hp, g, d, t + 1, os⟩) (ox := ox) (od := od) X I C.hm ?_)))
  refine wpAny_pure ?_
  show wpAny _ _ (handedOut (.ref D)) _ _ _
  rw [handedOut_of (v := .ref D) rfl]
  first
    | exact wpAny_pure (wpAny_pure h)
    | exact wpAny_pure h
    | exact wpAny_pure (wpAny_bind (wpAny_pure (wpAny_pure h)))
theorem kit_exc (C : Ec K D) : KitX K (.ref x) (.ref D) (fun h => InstAt h x ox D od) where
  ty := fun _ _ _ I => I.type
  it := fun _ _ X _ => by
    obtain ⟨cdD, hcD, _⟩ := any_some C.hd
    unfold clsIn at hcD
    split at hcD
    · rename_i c' d' cd' sl' ho
      intro A' Q' E' s' k q
      unfold isType loadHead
      exact wpAny_bind (wpAny_loadPart (k _ _ (X _ _ ho)) (wpAny_pure q))
    · cases hcD
  ne := fun h tp dd its n sl X htp => by
    obtain ⟨cdD, hcD, _⟩ := any_some C.hd
    unfold clsIn at hcD
    split at hcD
    · rename_i c' d' cd' sl' ho
      refine Bool.eq_false_iff.mpr fun q => ?_
      have e : D = tp := Value.ref.inj (beq_iff_eq.mp q)
      rw [← e] at htp
      cases (X _ _ ho).symm.trans htp
    · cases hcD
  ca := fun X I k => class_asked C X I k
end
end Vk
namespace Vk
open PySem PySem.Spec PyProof.Rows L2
/-- isinstance(e, c), e the exception that the suite holds, its dict tracked (or none) -/
def rIsG (K : PySem.W.Frag) (D a : Addr) (d : Option Addr) : List V → Hp → VK → Prop := fun xs H Q => ∃ (c : V) (cv : Value) (b : Bool), xs = [.ref a, c] ∧ ClsV c cv ∧ (d = none ∨ ∃ dd fs, d = some dd ∧ H dd = some (.xd fs)) ∧ PySem.W.kitOne K (.ref D) cv = some b ∧ Q (.bl b) H
theorem call_isG {X : Cx} {a D : Addr} {oe : Obj} {d : Option Addr} {pn : List (Addr × Obj)} (C : ExcC X.K D) (hz : Zc (.ref D) d oe) (hf : ∃ vs, oe.data = .fields vs) : CallR (X.suite a ((a, oe) :: pn)) (.builtin "isinstance") (rIsG X.K D a d) := by
  intro pins s σ H xs us Q I r h
  obtain ⟨c, cv, b, rfl, hcv, hd, e, q⟩ := h
  obtain ⟨u1, u2, rfl, r1, r2⟩ := vals2 r
  obtain rfl : u1 = Value.ref a := r1
  have ec := hcv.eq r2
  subst ec
  obtain ⟨hget, _⟩ := I.pin (a, oe) (List.mem_append_left _ List.mem_cons_self)
  obtain ⟨vs, hv⟩ := hf
  obtain ⟨od, J⟩ : ∃ od, PySem.W.InstAt s.heap a oe D od := by
    have no : PySem.W.notCls oe = true := by unfold PySem.W.notCls; rw [hv] <;> rfl
    rcases hd with rfl | ⟨dd, fs, rfl, hdd⟩
    · exact ⟨none, hget, hz.1, no, by rw [hz.2]; trivial⟩
    · have hx : ObjOk X.prog X.w H s.heap dd (.xd fs) := I.hok dd _ hdd
      obtain ⟨mA, hns, _⟩ := hx
      obtain ⟨o, ho, _⟩ := lookIn_ns hns
      exact ⟨some o, hget, hz.1, no, by rw [hz.2]; exact ho⟩
  exact PySem.W.kia_one (kit_exc C) I.kIn J e (fun z => nomatch z) fun tk => ⟨.bl b, H, I.kept (t' := tk) fun _ _ z => z, rfl, q⟩
end Vk

set_option maxHeartbeats 2000000
/-! several clauses «except X as n» behind one try -/
namespace L2
open PySem PySem.Spec PyProof.Rows
abbrev Clause := Value × Nat × (Addr → Value → Option Addr → TS)
/-- behind a suite its name is gone -/
def Ends.off (i : Nat) (D : Ends) : Ends := ⟨fun τ G => D.nx (τ.set i none) G, D.rt, fun τ G => D.bk (τ.set i none) G, fun τ G => D.ct (τ.set i none) G⟩
def wAses (K : PySem.W.Frag) (W0 : WX) (D : Ends) : List Clause → WX
  | [] => W0
  | q :: more => fun k dd τ G => ∃ hit, PySem.W.exmOne K k q.1 = some hit ∧ (hit = true → ∀ z, G z = none → q.2.2 z k dd (D.off q.2.1) (τ.set q.2.1 (some (.ref z))) G) ∧ (hit = false → wAses K W0 D more k dd τ G)
inductive AsOk (X : Cx) : List ExceptHandler → List Clause → Prop
  | nil : AsOk X [] []
  | cons {x n : Str} {c : Value} {i : Nat} {ts : Addr → Value → Option Addr → TS} {b0 : Stmt} {bs : List Stmt} {p1 p2 : Pos} {es : List ExceptHandler} {qs : List Clause} (hc : Names X x c) (hi : X.N[i]? = some n) (hk : X.env.kindOf n = some .local)
      (hsu : ∀ (z : Addr) (oz : Obj) (k : Value) (dd : Option Addr) (pn : List (Addr × Obj)), Zc k dd oz → (∃ vs, oz.data = .fields vs) → PSs (X.suite z ((z, oz) :: pn)) (b0 :: bs) (ts z k dd)) (more : AsOk X es qs) :
      AsOk X (.ExceptHandler (some (.Name x p1)) (some n) (b0 :: bs) p2 :: es) ((c, i, ts) :: qs)
section
variable {X : Cx} {body : List Stmt} {e0 : ExceptHandler} {es : List ExceptHandler} {qs : List Clause} {pos : Pos} {tb : WX → TS} {W0 : WX}
theorem ps_try_ases (hst : X.stack = X.env :: X.outer) (hfr : X.env.frame = some X.env.locals) (hnd : X.N.Nodup) (tk : Takes X W0)
    (hb : ∀ (W : WX) (pn : List (Addr × Obj)) (xe : Value → Shared → Prop), Takes (X.tr pn xe) W → PassesOwn (model X.prog X.w) X.A X.env xe → PSs (X.tr pn xe) body (tb W))
    (hh : AsOk X (e0 :: es) qs) : PS X (.Try body (e0 :: es) [] [] pos) (fun D τ G => tb (wAses X.K W0 D qs) D τ G) := by
  refine ⟨fun pins s τ0 G0 D inv0 wish => ?_⟩
  have okk := inv0.ok
  have frm : X.A.frames = some (X.env :: X.outer) := okk.frames.trans (congrArg some hst)
  refine wpAny_Try_except (wpAny_mono ((hb (wAses X.K W0 D qs) (X.pn ++ pins) (fun u t1 => wpAny (model X.prog X.w) X.A (noteFrame u X.env) (fun _ t2 => wpAny (model X.prog X.w) X.A (setFlight u none) (fun _ t3 =>
    wpAny (model X.prog X.w) X.A (handleBy u X.env (e0 :: es)) (SP X pins D) X.xe t3) X.xe t2) X.xe t1) (fun u t raised => ?caught) PassesOwn.looking).run [] s τ0 G0 D (inv0.toTry _) wish) (fun fl t got => ?through) (fun _ _ y => y))
  case through =>
    cases fl with
    | next => obtain ⟨τ, G, J, q⟩ := got; exact wpAny_execs_nil ⟨τ, G, J.ofTry okk, q⟩
    | brk => obtain ⟨τ, G, J, q⟩ := got; exact ⟨τ, G, J.ofTry okk, q⟩
    | cont => obtain ⟨τ, G, J, q⟩ := got; exact ⟨τ, G, J.ofTry okk, q⟩
    | ret u => obtain ⟨v, τ, G, J, r, q⟩ := got; exact ⟨v, τ, G, J.ofTry okk, r, q⟩
  case caught =>
    obtain ⟨z, B, sB, pins1, τ, G, k, dd, rfl, jT, bare, upB, inSky, zfree, os1, same1, wants⟩ := raised
    have j0 : Inv X pins τ G sB := jT.ofTry okk
    have inSky1 : Sky B (X.env :: X.outer) z (Zc k dd) X.env.locals t.heap := hst ▸ inSky
    show wpAny (model X.prog X.w) X.A (noteFrame (.ref z) X.env) _ _ _
    refine Sky.land Zc.steady frm hfr inSky1 fun hA flA upA => ?_
    have jA : Inv X pins τ G { t with heap := hA } := j0.landed bare flA.1 (upB.trans upA) os1 same1
    obtain ⟨oA, vA, getA, zcA, datA⟩ := flA.there
    have notF : z ∉ frs (X.env :: X.outer) := by
      intro hm
      obtain ⟨_, o', e', hnf⟩ := flA.2.2.1.mem hm
      rw [getA] at e'
      cases e'
      exact hnf _ datA
    have zL : z ≠ X.env.locals := fun y => notF (List.mem_filterMap.mpr ⟨X.env, List.mem_cons_self, hfr.trans (congrArg some y.symm)⟩)
    have zF : z ∉ X.fs := fun hm => by
      obtain ⟨en, hen, y⟩ := List.mem_filterMap.mp hm
      exact notF (List.mem_filterMap.mpr ⟨en, List.mem_cons_of_mem _ hen, y⟩)
    have jS := jA.suite getA datA zfree zL zF
    have turn : ∀ {es1 : List ExceptHandler} {qs1 : List Clause}, AsOk X es1 qs1 → wAses X.K W0 D qs1 k dd τ G → wpAny (model X.prog X.w) X.A (handleBy (.ref z) X.env es1) (SP X pins D) X.xe { t with heap := hA } := by
      intro es1 qs1 kk
      induction kk with
      | nil =>
        intro out
        refine wpAny_handleBy_nil ?_
        obtain ⟨_, _, _, oz, vs, Tr, oTr, tsr, geto, zco, dato, one, _⟩ := id flA
        unfold PySem.passOn
        refine wpAny_bind (wpAny_field geto dato one ?_)
        rw [if_neg (by simp : ¬ ((Value.ref Tr == Value.none) = true))]
        have away : wpAny (model X.prog X.w) X.A (setFlight (.ref z) X.env.frame) (fun _ t4 => wpAny (model X.prog X.w) X.A (throw (.ref z) : Sem Flow) (SP X pins D) X.xe t4) X.xe { t with heap := hA } := by
          rw [hfr]
          exact HandSPX.setFlight_upZ flA fun h4 sk4 up4 => wpAny_throw (tk _ _ ⟨z, B, sB, pins, τ, G, k, dd, rfl, j0, bare, (upB.trans upA).trans up4, .inr (.inr (hst.symm ▸ sk4)), zfree, os1, same1, out⟩)
        first | exact wpAny_bind (wpAny_pure (wpAny_bind away)) | exact wpAny_bind away
      | @cons x n c i ts b0 bs p1 p2 es2 qs2 hc hi hk hsu more ih =>
        rintro ⟨hit, isHit, onHit, offHit⟩
        refine wpAny_handleBy_cons (codeAny_handlers_test ?_) (by intro y; cases y)
        have looksT : PySem.W.Looks (model X.prog X.w) hA (typeOf (.ref z)) k := fun A Q E s kp y => wpAny_typeOf_ref (kp _ _ getA) (by rw [zcA.1]; exact y)
        have looksM := PySem.W.exm_one (M := model X.prog X.w) jA.kIn looksT isHit
        have named : ∀ {Q : Value → Shared → Prop} {E : Value → Shared → Prop}, Q c { t with heap := hA } → wpAny (model X.prog X.w) (X.A.mark (some (.ref z))) (eval (.Name x p1) X.env) Q E { t with heap := hA } := fun {Q E} y =>
          match hc with
          | ⟨hg, hdb, .inl hm⟩ => ld_glob (X := X.suite z ((z, oA) :: (X.pn ++ pins))) jS hg hm y hdb
          | ⟨hg, hdb, .inr ⟨hm, hv, hnn⟩⟩ => ld_blt (X := X.suite z ((z, oA) :: (X.pn ++ pins))) jS hg hm hv y hnn hdb
        refine named (looksM.here ?_)
        cases hit with
        | false => exact ih (offHit rfl)
        | true =>
          refine codeAny_handlers_suite_as (HandSPX.lands_againZ flA fun hB flB upB2 => ?_)
          have jB : Inv X pins τ G { t with heap := hB } := j0.landed bare flB.1 ((upB.trans upA).trans upB2) os1 same1
          obtain ⟨oB, vB, getB, zcB, datB⟩ := flB.there
          have jSB := jB.suite getB datB zfree zL zF
          refine store_ok (X := X.suite z ((z, oB) :: (X.pn ++ pins))) (v := .ref z) jSB hnd hi (.inl hk) rfl (fun t5 S5 => ?_) (.inr hk)
          refine wpAny_mono ((hsu z oB k dd (X.pn ++ pins) zcB ⟨_, datB⟩).run [] t5 _ G _ S5 (onHit rfl z zfree)) (fun fl t6 got => ?_) (fun _ _ y => y.elim)
          have fin : ∀ {τ6 : St} {G6 : Hp} {Q : Shared → Prop}, Inv (X.suite z ((z, oB) :: (X.pn ++ pins))) [] τ6 G6 t6 → (∀ t7, Inv X pins (τ6.set i none) G6 t7 → Q t7) →
              wpAny (model X.prog X.w) X.A (do bindName X.env n .none; unbindBehindTheSuite X.env n p2) (fun _ t7 => Q t7) X.xe t6 := fun S6 hq => gone_ok (S6.unsuite okk) hnd hi hk hq
          cases fl with
          | next => obtain ⟨_, _, S6, q6⟩ := got; exact fin S6 fun _ J7 => ⟨_, _, J7, q6⟩
          | brk => obtain ⟨_, _, S6, q6⟩ := got; exact fin S6 fun _ J7 => ⟨_, _, J7, q6⟩
          | cont => obtain ⟨_, _, S6, q6⟩ := got; exact fin S6 fun _ J7 => ⟨_, _, J7, q6⟩
          | ret u => obtain ⟨_, _, _, S6, r6, q6⟩ := got; exact fin S6 fun _ J7 => ⟨_, _, _, J7, r6, q6⟩
    exact turn hh wants
end
end L2

/-! defs that may raise, and calls with keywords -/
namespace Vk
open PySem L2 PyProof.Rows
/-- a def that may raise: its promise says when -/
structure DefX (P : Program) (w : World) (K : PySem.W.Frag) (mg : Str → Option Value) (base : Heap) (k : Nat) (x : Str) (ps : List Str) (sp : Sp) (f : Addr) (fd : FuncData) : Prop where
  ok : FnOk P w K mg base (L2.CX P w) k f fd ps sp
  m : mg x = some (.ref f)
  kp : PySem.W.keepIn K (.ref f) = true
  b : Binds K fd ps []
theorem DefX.up {P : Program} {w : World} {K : PySem.W.Frag} {mg : Str → Option Value} {base : Heap} {j k : Nat} {x : Str} {ps : List Str} {sp : Sp} {f : Addr} {fd : FuncData} (d : DefX P w K mg base j x ps sp f fd) (h : j ≤ k) : DefX P w K mg base k x ps sp f fd := ⟨d.ok.mono h, d.m, d.kp, d.b⟩
/-- with n values by place and keywords ks -/
structure DefXN (P : Program) (w : World) (K : PySem.W.Frag) (mg : Str → Option Value) (base : Heap) (k : Nat) (x : Str) (ps : List Str) (n : Nat) (ks : List Str) (sp : Sp) (f : Addr) (fd : FuncData) : Prop where
  ok : FnOk P w K mg base (L2.CX P w) k f fd ps sp
  m : mg x = some (.ref f)
  kp : PySem.W.keepIn K (.ref f) = true
  b : KBn K fd ps n ks (fun us ws => us ++ ws) (fun vs zs => vs ++ zs)
theorem DefXN.up {P : Program} {w : World} {K : PySem.W.Frag} {mg : Str → Option Value} {base : Heap} {j k n : Nat} {x : Str} {ps ks : List Str} {sp : Sp} {f : Addr} {fd : FuncData} (d : DefXN P w K mg base j x ps n ks sp f fd) (h : j ≤ k) : DefXN P w K mg base k x ps n ks sp f fd := ⟨d.ok.mono h, d.m, d.kp, d.b⟩
theorem vals_app : ∀ {vs : List V} {us : List Value} {zs : List V} {ws : List Value}, Vals vs us → Vals zs ws → Vals (vs ++ zs) (us ++ ws)
  | _, _, _, _, .nil, h => h
  | _, _, _, _, .cons r t, h => .cons r (vals_app t h)
/-- keyword-only parameters without defaults, all given -/
theorem kbn_of {K : PySem.W.Frag} {x qual : Str} {st : Stmt} {f : Addr} {fd : FuncData} {ps ks : List Str} {n : Nat} (F : Fun K x qual st f fd)
    (h : ∀ (kV doc pm : Value) (an : Option Addr) (cdv ct : Value) (us ws : List Value), us.length = n → ws.length = ks.length → bindArgs (PySem.W.fnOf x qual (defArgs st) (defBody st) (defScope st) .none kV doc pm an cdv ct) ⟨us, ks.zip ws⟩ = pure (ps.zip (us ++ ws))) :
    KBn K fd ps n ks (fun us ws => us ++ ws) (fun vs zs => vs ++ zs) := by
  obtain ⟨oc, od, kV, doc, pm, an, cdv, ct, osl, rfl, lk, hcd⟩ := F.ex
  exact ⟨fun s us ws _ l1 l2 => BindsTo.of_eq (h kV doc pm an cdv ct us ws l1 l2), vals_app⟩
section
variable {X : Cx} {k n : Nat} {f : Addr} {fd : FuncData} {ps ks : List Str} {sp : Sp} {x : Str} {p pos : Pos} {e : Expr} {es : List Expr} {kws : List Keyword} {t tkw : TA} {W : WX}
/-- called where nothing is let out -/
theorem pcallL (D : DefX X.prog X.w X.K X.mg X.base k x ps sp f fd) (hr : Room k X.A) (ha : PA X (e :: es) t)
    (hg : Gl X x := by rfl) (hdb : (x == ("__debug__" : Str)) = false := by decide) (he : starEach (e :: es) X.env = (false, eval e X.env) :: starEach es X.env := by rfl) (hpl : (backTo pos (starEach es X.env)).any (·.1) = false := by rfl) :
    PE X (.Call (.Name x p) (e :: es) [] pos) (tCall sp [] E0 t) := pe_call D.ok hr hg D.m D.kp D.b .nil passL ha hdb he hpl
/-- called where the wish W takes what it raises -/
theorem pcallX (D : DefX X.prog X.w X.K X.mg X.base k x ps sp f fd) (hr : Room k X.A) (tk : Takes X W) (ha : PA X (e :: es) t)
    (hg : Gl X x := by rfl) (hdb : (x == ("__debug__" : Str)) = false := by decide) (he : starEach (e :: es) X.env = (false, eval e X.env) :: starEach es X.env := by rfl) (hpl : (backTo pos (starEach es X.env)).any (·.1) = false := by rfl) :
    PE X (.Call (.Name x p) (e :: es) [] pos) (tCallS sp (WE W) t) := pe_callS D.ok hr hg D.m D.kp D.b (fun σ => passAt tk σ) ha hdb he hpl
theorem pcallLN (D : DefXN X.prog X.w X.K X.mg X.base k x ps n ks sp f fd) (hr : Room k X.A) (ha : PA X (e :: es) t) (hkw : PK X kws tkw)
    (hg : Gl X x := by rfl) (hall : (backToKw pos (keywordEach kws X.env)).all (·.1.isSome) = true := by rfl) (hks : (backToKw pos (keywordEach kws X.env)).filterMap (·.1) = ks := by rfl)
    (hdb : (x == ("__debug__" : Str)) = false := by decide) (he : starEach (e :: es) X.env = (false, eval e X.env) :: starEach es X.env := by rfl)
    (hpl : ((backTo pos (starEach (e :: es) X.env)).any (·.1) || (backToKw pos (keywordEach kws X.env)).any (·.1.isNone)) = false := by rfl) :
    PE X (.Call (.Name x p) (e :: es) kws pos) (tCallN n ks.length sp (fun vs zs => vs ++ zs) E0 t tkw) := pe_callN D.ok hr hg D.m D.kp D.b passL ha hkw hall hks hdb he hpl
def tCallNS (n m : Nat) (sp : Sp) (E : L2.St → XK) (t tkw : TA) : TE := fun σ H Q => t σ H fun vs H1 => tkw σ H1 fun zs H2 => vs.length = n ∧ zs.length = m ∧ sp (vs ++ zs) H2 Q (E σ)
theorem pcallXN (D : DefXN X.prog X.w X.K X.mg X.base k x ps n ks sp f fd) (hr : Room k X.A) (tk : Takes X W) (ha : PA X (e :: es) t) (hkw : PK X kws tkw)
    (hg : Gl X x := by rfl) (hall : (backToKw pos (keywordEach kws X.env)).all (·.1.isSome) = true := by rfl) (hks : (backToKw pos (keywordEach kws X.env)).filterMap (·.1) = ks := by rfl)
    (hdb : (x == ("__debug__" : Str)) = false := by decide) (he : starEach (e :: es) X.env = (false, eval e X.env) :: starEach es X.env := by rfl)
    (hpl : ((backTo pos (starEach (e :: es) X.env)).any (·.1) || (backToKw pos (keywordEach kws X.env)).any (·.1.isNone)) = false := by rfl) :
    PE X (.Call (.Name x p) (e :: es) kws pos) (tCallNS n ks.length sp (WE W) t tkw) := by
  refine ⟨fun pins s σ H Q I wish => wpAny_Call_Name_kw (ld_glob I hg D.m ?_ hdb)⟩
  refine PySem.W.callWith_KW (h₀ := X.base) I.ok.mod.kin D.kp hall (thn (ha.run pos pins s σ H _ I wish) fun us s1 ⟨vs, H1, I1, r1, q1⟩ => ?_) hpl he
  refine thn (hkw.run pos pins s1 σ H1 _ I1 q1) fun ws s2 ⟨zs, H2, I2, r2, l1, l2, q2⟩ => ⟨I2.kIn, ?_⟩
  rw [hks]
  refine wpAny_call (codeAny_mono (D.ok.run X.A X.stack s2 H2 ⟨us, ks.zip ws⟩ (us ++ ws) (vs ++ zs) Q _ hr I2.env0 (D.b.to s2 us ws I2.kIn (r1.length.symm.trans l1) (r2.length.symm.trans l2)) (D.b.rel r1 r2) q2) fun r s' hq => ?_)
  match r with
  | .error u => exact passAt tk σ pins H2 s2 u s' I2 hq
  | .ok (.ret u) => exact I2.after hq
  | .ok .next => exact hq.elim
  | .ok .brk => exact hq.elim
  | .ok .cont => exact hq.elim
end
/-- a def with keyword-only parameters, as it stands -/
structure FnK (K : PySem.W.Frag) (mg : Str → Option Value) (x : Str) (st : Stmt) (f : Addr) (fd : FuncData) : Prop where
  F : Fun K x x st f fd
  m : mg x = some (.ref f)
/-- what a raised error of the class C with this value wishes -/
def eV (E : XK) (C : Addr) (H : Hp) (v : V) : Prop := ∀ d, H d = none → E (.ref C) (some d) (upd H d (.xd [(("value" : Str), v)]))
end Vk

/-! what the written part says of classes of errors -/
namespace Vk
open PySem PySem.W PySem.Calls PySem.HandSPX L2
theorem cls_both {K : Frag} {C : Addr} (h2 : isClsIn K C = true) (h3 : typeIn K (.ref C) = some (.type "type")) : ((clsIn K C).isSome && typeIn K (.ref C) == some (.type "type")) = true := by
  have h2' : (clsIn K C).isSome = true := h2
  rw [h2', h3]
  rfl
theorem exm_of {K : Frag} {S C : Addr} {b : Bool} (h1 : subIn K (.ref C) (.type "BaseException") = some true) (h2 : isClsIn K C = true) (h3 : typeIn K (.ref C) = some (.type "type")) (h4 : subIn K (.ref S) (.ref C) = some b) : exmOne K (.ref S) (.ref C) = some b := by
  have e1 : (subIn K (.ref C) (.type "BaseException") == some true) = true := by rw [h1]; rfl
  unfold exmOne kitCls
  rw [if_pos e1]
  dsimp only
  rw [if_pos (cls_both h2 h3)]
  exact h4
theorem kit_of1 {K : Frag} {S C : Addr} {b : Bool} (n : (S == C) = false) (h2 : isClsIn K C = true) (h3 : typeIn K (.ref C) = some (.type "type")) (h4 : subIn K (.ref S) (.ref C) = some b) : kitOne K (.ref S) (.ref C) = some b := by
  have e1 : (Value.ref S == Value.ref C) = false := beq_false_of_ne fun e => by
    have := Value.ref.inj e
    rw [this, beq_self_eq_true] at n
    cases n
  unfold kitOne kitCls
  rw [e1, if_neg Bool.false_ne_true]
  dsimp only
  rw [if_pos (cls_both h2 h3)]
  exact h4
theorem errTxt {K : Frag} {mg : Str → Option Value} {x nm q iq : Str} {C fi N : Addr} {bs bm sub : List Value} {sn : List Str} {ab : Bool} {col : Option Bool} {dd : Option Addr} {m0 m1 m2 m3 m5 : Option Value} {iod ian : Option Addr} {isl : Array (Option Value)} {ioc idc ipm icd ict : Value} {p1 p2 q1 q2 q3 q4 : Pos}
    (aC : mg x = some (.ref C)) (xL : K.lookup C = some (excClassObj nm q C N bs bm true sn sub ab col dd m0 m1 m2 m3 m5 "ValueError.__new__")) (rv : refsVE bm = true)
    (sa : findIn K (.ref C) "__setattr__" = some (some (.builtin "object.__setattr__"))) (ga : findIn K (.ref C) "__getattribute__" = some (some (.builtin "BaseException.__getattribute__"))) (gg : findIn K (.ref C) "__getattr__" = some none) (nb : findIn K (.ref C) "value" = some none)
    (a1 : findIn K (.ref C) "__init__" = some (some (.ref fi))) (t1 : typeIn K (.ref fi) = some (.type "function"))
    (l1 : K.lookup fi = some ⟨ioc, iod, .func (fnOf "__init__" iq (PySem.ValX.iA p1 p2) (PySem.ValX.iB q1 q2 q3 q4) PySem.ValX.iS .none .none idc ipm ian icd ict), isl⟩) (c1 : codeIn K icd iq = true)
    (kC : keepIn K (.ref C) = true) (eC : subIn K (.ref C) (.type "BaseException") = some true) (tC : typeIn K (.ref C) = some (.type "type")) (hC : hasDictIn K C = true) (te : exmOne K (.ref C) (.ref C) = some true) : PySem.ValX.ValTxt K mg x C fi :=
  { gC := aC, cls := ⟨nm, q, N, bs, bm, sn, sub, ab, col, dd, m0, m1, m2, m3, m5, xL, rv⟩, sa := sa, ga := ga, gg := gg, noN := nb, iC := a1, tC := t1, kC := kC, exC := eC, tyC := tC, hdC := hC, te := te, fn := ⟨iq, ioc, iod, idc, ipm, ian, icd, ict, isl, p1, p2, q1, q2, q3, q4, l1, c1⟩ }
end Vk

namespace Vs
/-! ### spans of offsets -/
abbrev Spn := Option Rat × Option Rat
def maxO : Option Rat → Option Rat → Option Rat
  | none, b => b
  | some p, none => some p
  | some p, some q => some (if q ≤ p then p else q)
def minO : Option Rat → Option Rat → Option Rat
  | none, b => b
  | some p, none => some p
  | some p, some q => some (if p ≤ q then p else q)
def crossed : Option Rat → Option Rat → Bool
  | some l, some h => decide (h < l)
  | _, _ => false
def meetO (a b : Spn) : Option Spn := if crossed (maxO a.1 b.1) (minO a.2 b.2) = true then none else some (maxO a.1 b.1, minO a.2 b.2)
def aboveO (o : Option Rat) (t : Rat) : Bool := match o with | none => true | some l => !decide (t < l)
def belowO (o : Option Rat) (t : Rat) : Bool := match o with | none => true | some h => !decide (h < t)
def inS (s : Spn) (t : Rat) : Bool := aboveO s.1 t && belowO s.2 t
def movO (o : Option Rat) (d : Rat) : Option Rat := match o with | none => none | some q => some (q + d)
def negO (o : Option Rat) : Option Rat := match o with | none => none | some q => some (-q)
def shO (s : Spn) (d : Rat) : Spn := (movO s.1 d, movO s.2 d)
def offO (x y : Rat) (fo ba : Spn) : Option Spn := meetO (shO (negO fo.2, negO fo.1) x) (shO ba y)
theorem above_max (a b : Option Rat) (t : Rat) : aboveO (maxO a b) t = (aboveO a t && aboveO b t) := by
  cases a with
  | none => simp [maxO, aboveO]
  | some p => cases b with
    | none => simp [maxO, aboveO]
    | some q =>
      simp only [maxO, aboveO]
      split <;> by_cases h1 : t < p <;> by_cases h2 : t < q <;> simp [h1, h2] <;> grind
theorem below_min (a b : Option Rat) (t : Rat) : belowO (minO a b) t = (belowO a t && belowO b t) := by
  cases a with
  | none => simp [minO, belowO]
  | some p => cases b with
    | none => simp [minO, belowO]
    | some q =>
      simp only [minO, belowO]
      split <;> by_cases h1 : p < t <;> by_cases h2 : q < t <;> simp [h1, h2] <;> grind
theorem crossed_in {l h : Option Rat} (c : crossed l h = true) (t : Rat) : (aboveO l t && belowO h t) = false := by
  cases l with
  | none => simp [crossed] at c
  | some p => cases h with
    | none => simp [crossed] at c
    | some q =>
      simp only [crossed, decide_eq_true_eq] at c
      simp only [aboveO, belowO]
      by_cases h1 : t < p <;> by_cases h2 : q < t <;> simp [h1, h2] <;> grind
theorem meet_in (a b : Spn) (t : Rat) : (inS a t && inS b t) = (match meetO a b with | none => false | some s => inS s t) := by
  have e : (inS a t && inS b t) = (aboveO (maxO a.1 b.1) t && belowO (minO a.2 b.2) t) := by
    rw [above_max, below_min]
    unfold inS
    cases aboveO a.1 t <;> cases aboveO b.1 t <;> cases belowO a.2 t <;> cases belowO b.2 t <;> rfl
  rw [e]
  unfold meetO
  by_cases c : crossed (maxO a.1 b.1) (minO a.2 b.2) = true
  · rw [if_pos c]
    exact crossed_in c t
  · rw [if_neg c]
    rfl
theorem above_mov (o : Option Rat) (x f : Rat) : aboveO (movO (negO o) x) f = belowO o (x - f) := by
  cases o with
  | none => rfl
  | some q =>
    simp only [negO, movO, aboveO, belowO]
    congr 1
    exact decide_eq_decide.mpr (by grind)
theorem below_mov (o : Option Rat) (x f : Rat) : belowO (movO (negO o) x) f = aboveO o (x - f) := by
  cases o with
  | none => rfl
  | some q =>
    simp only [negO, movO, aboveO, belowO]
    congr 1
    exact decide_eq_decide.mpr (by grind)
theorem above_mov2 (o : Option Rat) {y z : Rat} (f : Rat) (h : y = -z) : aboveO (movO o y) f = aboveO o (z + f) := by
  cases o with
  | none => rfl
  | some q =>
    simp only [movO, aboveO]
    congr 1
    exact decide_eq_decide.mpr (by grind)
theorem below_mov2 (o : Option Rat) {y z : Rat} (f : Rat) (h : y = -z) : belowO (movO o y) f = belowO o (z + f) := by
  cases o with
  | none => rfl
  | some q =>
    simp only [movO, belowO]
    congr 1
    exact decide_eq_decide.mpr (by grind)
theorem off_in (x y z : Rat) (fo ba : Spn) (f : Rat) (h : y = -z) : (inS fo (x - f) && inS ba (z + f)) = (match offO x y fo ba with | none => false | some s => inS s f) := by
  unfold offO
  rw [← meet_in]
  unfold inS shO
  simp only [above_mov, below_mov, above_mov2 _ f h, below_mov2 _ f h]
  cases aboveO fo.1 (x - f) <;> cases belowO fo.2 (x - f) <;> cases aboveO ba.1 (z + f) <;> cases belowO ba.2 (z + f) <;> rfl
theorem off_ok {x y : Rat} {fo ba s : Spn} (h : offO x y fo ba = some s) : crossed s.1 s.2 = false := by
  unfold offO meetO at h
  split at h
  · cases h
  · rename_i c
    cases h
    simpa using c
/-- both ends known: no end is farther from the plain offset than half the width -/
theorem off_half {x y lo hi : Rat} {s : Spn} (h : offO x y (some lo, some hi) (some lo, some hi) = some s) :
    ∃ l u, s = (some l, some u) ∧ ∀ f, f = l ∨ f = u → ¬ (hi - lo < 2 * ((x + y) / 2 - f)) ∧ ¬ (hi - lo < 2 * (f - (x + y) / 2)) := by
  have c := off_ok h
  unfold offO meetO at h
  split at h
  · cases h
  · simp only [shO, negO, movO, maxO, minO] at h
    obtain rfl := (Option.some.inj h).symm
    refine ⟨_, _, rfl, fun f hf => ?_⟩
    simp only [crossed, decide_eq_false_iff_not] at c
    have e2 : (x + y) / 2 + (x + y) / 2 = x + y := by grind
    generalize (x + y) / 2 = p at e2
    have e3 : ∀ q : Rat, 2 * q = q + q := fun q => by grind
    rw [e3, e3]
    split at hf <;> split at hf <;> rename_i h1 h2 <;> simp only [h1, h2, if_true, if_false] at c <;> rcases hf with rfl | rfl <;> constructor <;> grind
/-! ### sizes and items -/
def itemsO : Spn → List Rat := fun s => s.1.toList ++ s.2.toList
end Vs

namespace Vk
open PySem L2 Vm
def top (i : Nat) : Stmt := PySem.Challenge.pw_clockverdict_k33_laps_until.main.body.getD i (.Pass ⟨0, 0, 0, 0⟩)
variable {P : Program} {w : World} {K : PySem.W.Frag} {mg : Str → Option Value} {base : Heap} {k : Nat} {f f1 f2 f3 f4 f5 f6 f7 f8 f9 : Addr} {fd fd1 fd2 fd3 fd4 fd5 fd6 fd7 fd8 fd9 : FuncData}
/-! ### the law's own rationals -/
def spFrac (K : PySem.W.Frag) : Sp := fun vs H Q _ => ∃ (n d : Int) (b : Nat), vs = [.int n, .int d] ∧ 0 < d ∧ n.natAbs < 2 ^ b ∧ d.natAbs < 2 ^ b ∧ b ≤ 9000 ∧
  ∀ r H', Same H H' → Rq K H' r (mkRat n d.toNat) → Q r H'
abbrev s__law_frac : Stmt := top 36
abbrev N__law_frac : List Str := ["_law_n", "_law_d", "_law_a", "_law_b"]
theorem sc__law_frac : FnScope N__law_frac ["_law_n", "_law_d"] (defScope s__law_frac) := ⟨rfl, rfl, rfl, by decide +kernel, rfl, by decide +kernel, by decide +kernel⟩
abbrev ps__law_frac : List Str := ["_law_n", "_law_d"]
theorem ok_frac (T : Bn mg) (F : Fn K mg "_law_frac" s__law_frac ps__law_frac f fd) : Def P w K mg base (k + 1) "_law_frac" ps__law_frac (spFrac K) f fd := by
  refine ⟨F.F.ok sc__law_frac (fun vs H Q E h => ?_) (fun cdv A outer s H vs Q E hr h => ?_), F.m, F.F.kp, F.b⟩
  · obtain ⟨n, d, b, rfl, _⟩ := h
    rfl
  obtain ⟨n, d, b, rfl, hd, hn, hdb, hb, q⟩ := h
  refine ⟨_, (pss_cons (ps_if (pt_cmpR op_eq (pv 1) pe_int (nomark _))
        (pss_one (ps_ret (pe_tup (pa_cons pe_int (pa_cons pe_int pa_nil)))))
        pss_nil)
      (pss_cons (ps_set (i := 2) sc__law_frac.nd rfl (Or.inl rfl) (pe_callB call_abs (by rfl) T.abs_ (by decide +kernel) (pa_cons (pv 0) pa_nil)))
      (pss_cons (ps_set (i := 3) sc__law_frac.nd rfl (Or.inl rfl) (pe_callB call_abs (by rfl) T.abs_ (by decide +kernel) (pa_cons (pv 1) pa_nil)))
      (pss_cons (ps_while PassesOwn.never (pt_cmpR op_gt (pv 3) pe_int (nomark _))
        (pss_one (ps_par (i := 2) (j := 3) (by rfl) sc__law_frac.nd rfl rfl (by decide) rfl rfl (pa_cons (pv 3) (pa_cons (pe_op op_modN (pe_callTy call_int1 (by rfl) T.int_ (by decide +kernel) (pa_cons (pv 2) pa_nil)) (pv 3)) pa_nil)) (by rfl))))
      (pss_cons (ps_if (pt_cmpR op_lt (pv 1) pe_int (nomark _))
        (pss_one (ps_set (i := 2) sc__law_frac.nd rfl (Or.inl rfl) (pe_op op_sub pe_int (pv 2))))
        pss_nil)
      (pss_one (ps_ret (pe_tup (pa_cons (pe_op op_fdivW (pv 0) (pv 2)) (pa_cons (pe_op op_fdivW (pv 1) (pv 2)) pa_nil)))))))))), ?_⟩
  have b0 : 0 < b := by
    cases b with
    | zero => simp at hdb; omega
    | succ b => exact Nat.succ_pos _
  -- if _law_d == 0
  refine ⟨_, rfl, rfl, _, rfl, ifF (dF fun c => by cases c; omega) ?_⟩
  have ea : ∀ z : Int, (if z < 0 then -z else z) = (z.natAbs : Int) := fun z => by split <;> omega
  refine ⟨_, rfl, _, rfl, _, rfl, _, rfl, (fun m σ H' => ∃ x y : Nat, m = y ∧ σ = [some (.int n), some (.int d), some (.int x), some (.int y)] ∧ H' = H ∧ Nat.gcd x y = Nat.gcd n.natAbs d.natAbs),
    ⟨_, n.natAbs, d.natAbs, rfl, by rw [ea, ea]; rfl, rfl, rfl⟩, ?_⟩
  rintro m σ H' ⟨x, y, em, rfl, rfl, hg⟩
  subst em
  -- while _law_b > 0
  refine ⟨_, rfl, _, _, rfl, rfl, _, rfl, ifD (fun c => ?_) (fun c => ?_)⟩
  · refine ⟨_, fun _ _ z => z, _, rfl, _, rfl, .inl ⟨_, rfl, _, rfl, _, _, rfl, rfl, by omega, _, _, rfl, ?_⟩⟩
    refine ⟨x % m, Nat.mod_lt _ (by omega), m, x % m, rfl, ?_, rfl, ?_⟩
    · show [some (V.int n), some (V.int d), some (V.int (m : Int)), some (V.int ((x : Int).fmod (m : Int)))] = _
      rw [fmod_nat]
    · rw [← hg, Nat.gcd_comm x m, Nat.gcd_rec m x, Nat.gcd_comm]
  have y0 : m = 0 := by omega
  subst y0
  rw [Nat.gcd_zero_right] at hg
  subst hg
  have dn : d.toNat ≠ 0 := by omega
  have gp : 0 < Nat.gcd n.natAbs d.natAbs := Nat.gcd_pos_of_pos_right _ (by omega)
  have gb : (((Nat.gcd n.natAbs d.natAbs : Nat) : Int)).natAbs < 2 ^ b := by
    rw [Int.natAbs_natCast]
    exact Nat.lt_of_le_of_lt (Nat.gcd_le_right _ (by omega)) hdb
  have w : CDivW n ((Nat.gcd n.natAbs d.natAbs : Nat) : Int) := wide_div (by omega) gb b0 (by omega)
  have w2 : CDivW d ((Nat.gcd n.natAbs d.natAbs : Nat) : Int) := wide_div (by omega) gb b0 (by omega)
  have ed : d.toNat = d.natAbs := by omega
  refine ⟨_, rfl, _, _, rfl, rfl, _, rfl, ifF (dF (by omega)) ?_⟩
  refine ⟨_, rfl, _, rfl, _, _, rfl, rfl, w, _, rfl, _, rfl, _, _, rfl, rfl, w2, sz2, fun p hp => ?_⟩
  refine q _ _ (same_new hp _) ⟨p, rfl, SqT.of ?_⟩
  rw [upd_same, mk_num n dn, mk_den n dn, ed]
  congr 4
  have e : d = (d.natAbs : Int) := by omega
  rw [show (((d.natAbs / Nat.gcd n.natAbs d.natAbs : Nat)) : Int) = (d.natAbs : Int) / ((Nat.gcd n.natAbs d.natAbs : Nat) : Int) from Int.natCast_ediv _ _]
  rw [← e]
/-- two rationals in, their f out -/
def spOp2 (K : PySem.W.Frag) (g : Rat → Rat → Rat) : Sp := fun vs H Q _ => ∃ (x y : V) (p q : Rat) (m l : Nat), vs = [x, y] ∧ Rq K H x p ∧ Rq K H y q ∧ Sz m p ∧ Sz l q ∧ m + l + 1 ≤ 9000 ∧
  ∀ r H', Same H H' → Rq K H' r (g p q) → Q r H'
/-- two rationals in, a test of them out -/
def spTest2 (K : PySem.W.Frag) (g : Rat → Rat → V) : Sp := fun vs H Q _ => ∃ (x y : V) (p q : Rat) (m l : Nat), vs = [x, y] ∧ Rq K H x p ∧ Rq K H y q ∧ Sz m p ∧ Sz l q ∧ m + l + 1 ≤ 900000 ∧ Q (g p q) H
theorem mulW {m l : Nat} {i j : Int} (hi : i.natAbs < 2 ^ m) (hj : j.natAbs < 2 ^ l) (h0 : 0 < m) (h1 : 0 < l) (h : m + l ≤ 900000) : CMulW i j := wide_mul hi hj h0 h1 (by omega)
abbrev s__law_plus : Stmt := top 37
abbrev N__law_plus : List Str := ["_law_a", "_law_b"]
theorem sc__law_plus : FnScope N__law_plus ["_law_a", "_law_b"] (defScope s__law_plus) := ⟨rfl, rfl, rfl, by decide +kernel, rfl, by decide +kernel, by decide +kernel⟩
abbrev ps__law_plus : List Str := ["_law_a", "_law_b"]
theorem ok_plus (F : Fn K mg "_law_plus" s__law_plus ps__law_plus f fd) (d_law_frac : Def P w K mg base k "_law_frac" ["_law_n", "_law_d"] (spFrac K) f1 fd1) : Def P w K mg base (k + 1) "_law_plus" ps__law_plus (spOp2 K (· + ·)) f fd := by
  refine ⟨F.F.ok sc__law_plus (fun vs H Q E h => ?_) (fun cdv A outer s H vs Q E hr h => ?_), F.m, F.F.kp, F.b⟩
  · obtain ⟨x, y, p, q, m, l, rfl, _⟩ := h
    rfl
  obtain ⟨x, y, p, q, m, l, rfl, ⟨a, rfl, ha⟩, ⟨b, rfl, hb⟩, zp, zq, hm, z⟩ := h
  have m0 := nn zp
  have l0 := nn zq
  refine ⟨_, (pss_one (ps_ret (pcall d_law_frac hr (pa_cons (pe_op op_add (pe_op op_mulW (pe_ix ix_tup (pv 0) pe_int (fun _ _ => rfl)) (pe_ix ix_tup (pv 1) pe_int (fun _ _ => rfl))) (pe_op op_mulW (pe_ix ix_tup (pv 1) pe_int (fun _ _ => rfl)) (pe_ix ix_tup (pv 0) pe_int (fun _ _ => rfl)))) (pa_cons (pe_op op_mulW (pe_ix ix_tup (pv 0) pe_int (fun _ _ => rfl)) (pe_ix ix_tup (pv 1) pe_int (fun _ _ => rfl))) pa_nil))))), ?_⟩
  refine ⟨_, rfl, a, _, _, _, rfl, rfl, ha, at0 rfl, _, rfl, b, _, _, _, rfl, rfl, hb, at1 rfl, _, _, rfl, rfl, mulW zp.1 (dA zq) m0 l0 (by omega), ?_⟩
  refine ⟨_, rfl, b, _, _, _, rfl, rfl, hb, at0 rfl, _, rfl, a, _, _, _, rfl, rfl, ha, at1 rfl, _, _, rfl, rfl, mulW zq.1 (dA zp) l0 m0 (by omega), _, _, rfl, rfl, ?_⟩
  refine ⟨_, rfl, a, _, _, _, rfl, rfl, ha, at1 rfl, _, rfl, b, _, _, _, rfl, rfl, hb, at1 rfl, _, _, rfl, rfl, mulW (dA zp) (dA zq) m0 l0 (by omega), ?_⟩
  refine ⟨_, _, m + l + 1, rfl, dd_pos p q, ab_add (ab_mul zp.1 (dA zq)) (ab_up (ab_mul zq.1 (dA zp)) (by omega)), ab_up (ab_mul (dA zp) (dA zq)) (by omega), by omega, fun r H' e hr => z r H' e ?_⟩
  rw [mk_add] at hr
  exact hr
abbrev s__law_minus : Stmt := top 38
abbrev N__law_minus : List Str := ["_law_a", "_law_b"]
theorem sc__law_minus : FnScope N__law_minus ["_law_a", "_law_b"] (defScope s__law_minus) := ⟨rfl, rfl, rfl, by decide +kernel, rfl, by decide +kernel, by decide +kernel⟩
abbrev ps__law_minus : List Str := ["_law_a", "_law_b"]
theorem ok_minus (F : Fn K mg "_law_minus" s__law_minus ps__law_minus f fd) (d_law_frac : Def P w K mg base k "_law_frac" ["_law_n", "_law_d"] (spFrac K) f1 fd1) : Def P w K mg base (k + 1) "_law_minus" ps__law_minus (spOp2 K (· - ·)) f fd := by
  refine ⟨F.F.ok sc__law_minus (fun vs H Q E h => ?_) (fun cdv A outer s H vs Q E hr h => ?_), F.m, F.F.kp, F.b⟩
  · obtain ⟨x, y, p, q, m, l, rfl, _⟩ := h
    rfl
  obtain ⟨x, y, p, q, m, l, rfl, ⟨a, rfl, ha⟩, ⟨b, rfl, hb⟩, zp, zq, hm, z⟩ := h
  have m0 := nn zp
  have l0 := nn zq
  refine ⟨_, (pss_one (ps_ret (pcall d_law_frac hr (pa_cons (pe_op op_sub (pe_op op_mulW (pe_ix ix_tup (pv 0) pe_int (fun _ _ => rfl)) (pe_ix ix_tup (pv 1) pe_int (fun _ _ => rfl))) (pe_op op_mulW (pe_ix ix_tup (pv 1) pe_int (fun _ _ => rfl)) (pe_ix ix_tup (pv 0) pe_int (fun _ _ => rfl)))) (pa_cons (pe_op op_mulW (pe_ix ix_tup (pv 0) pe_int (fun _ _ => rfl)) (pe_ix ix_tup (pv 1) pe_int (fun _ _ => rfl))) pa_nil))))), ?_⟩
  refine ⟨_, rfl, a, _, _, _, rfl, rfl, ha, at0 rfl, _, rfl, b, _, _, _, rfl, rfl, hb, at1 rfl, _, _, rfl, rfl, mulW zp.1 (dA zq) m0 l0 (by omega), ?_⟩
  refine ⟨_, rfl, b, _, _, _, rfl, rfl, hb, at0 rfl, _, rfl, a, _, _, _, rfl, rfl, ha, at1 rfl, _, _, rfl, rfl, mulW zq.1 (dA zp) l0 m0 (by omega), _, _, rfl, rfl, ?_⟩
  refine ⟨_, rfl, a, _, _, _, rfl, rfl, ha, at1 rfl, _, rfl, b, _, _, _, rfl, rfl, hb, at1 rfl, _, _, rfl, rfl, mulW (dA zp) (dA zq) m0 l0 (by omega), ?_⟩
  refine ⟨_, _, m + l + 1, rfl, dd_pos p q, ab_sub (ab_mul zp.1 (dA zq)) (ab_up (ab_mul zq.1 (dA zp)) (by omega)), ab_up (ab_mul (dA zp) (dA zq)) (by omega), by omega, fun r H' e hr => z r H' e ?_⟩
  rw [mk_sub] at hr
  exact hr
abbrev s__law_times : Stmt := top 39
abbrev N__law_times : List Str := ["_law_a", "_law_b"]
theorem sc__law_times : FnScope N__law_times ["_law_a", "_law_b"] (defScope s__law_times) := ⟨rfl, rfl, rfl, by decide +kernel, rfl, by decide +kernel, by decide +kernel⟩
abbrev ps__law_times : List Str := ["_law_a", "_law_b"]
theorem ok_times (F : Fn K mg "_law_times" s__law_times ps__law_times f fd) (d_law_frac : Def P w K mg base k "_law_frac" ["_law_n", "_law_d"] (spFrac K) f1 fd1) : Def P w K mg base (k + 1) "_law_times" ps__law_times (spOp2 K (· * ·)) f fd := by
  refine ⟨F.F.ok sc__law_times (fun vs H Q E h => ?_) (fun cdv A outer s H vs Q E hr h => ?_), F.m, F.F.kp, F.b⟩
  · obtain ⟨x, y, p, q, m, l, rfl, _⟩ := h
    rfl
  obtain ⟨x, y, p, q, m, l, rfl, ⟨a, rfl, ha⟩, ⟨b, rfl, hb⟩, zp, zq, hm, z⟩ := h
  have m0 := nn zp
  have l0 := nn zq
  refine ⟨_, (pss_one (ps_ret (pcall d_law_frac hr (pa_cons (pe_op op_mulW (pe_ix ix_tup (pv 0) pe_int (fun _ _ => rfl)) (pe_ix ix_tup (pv 1) pe_int (fun _ _ => rfl))) (pa_cons (pe_op op_mulW (pe_ix ix_tup (pv 0) pe_int (fun _ _ => rfl)) (pe_ix ix_tup (pv 1) pe_int (fun _ _ => rfl))) pa_nil))))), ?_⟩
  refine ⟨_, rfl, a, _, _, _, rfl, rfl, ha, at0 rfl, _, rfl, b, _, _, _, rfl, rfl, hb, at0 rfl, _, _, rfl, rfl, mulW zp.1 zq.1 m0 l0 (by omega), ?_⟩
  refine ⟨_, rfl, a, _, _, _, rfl, rfl, ha, at1 rfl, _, rfl, b, _, _, _, rfl, rfl, hb, at1 rfl, _, _, rfl, rfl, mulW (dA zp) (dA zq) m0 l0 (by omega), ?_⟩
  refine ⟨_, _, m + l + 1, rfl, dd_pos p q, ab_up (ab_mul zp.1 zq.1) (by omega), ab_up (ab_mul (dA zp) (dA zq)) (by omega), by omega, fun r H' e hr => z r H' e ?_⟩
  rw [mk_mul] at hr
  exact hr
abbrev s__law_below : Stmt := top 40
abbrev N__law_below : List Str := ["_law_a", "_law_b"]
theorem sc__law_below : FnScope N__law_below ["_law_a", "_law_b"] (defScope s__law_below) := ⟨rfl, rfl, rfl, by decide +kernel, rfl, by decide +kernel, by decide +kernel⟩
abbrev ps__law_below : List Str := ["_law_a", "_law_b"]
theorem ok_below (F : Fn K mg "_law_below" s__law_below ps__law_below f fd) : Def P w K mg base (k + 1) "_law_below" ps__law_below (spTest2 K fun p q => .bl (decide (p < q))) f fd := by
  refine ⟨F.F.ok sc__law_below (fun vs H Q E h => ?_) (fun cdv A outer s H vs Q E hr h => ?_), F.m, F.F.kp, F.b⟩
  · obtain ⟨x, y, p, q, m, l, rfl, _⟩ := h
    rfl
  obtain ⟨x, y, p, q, m, l, rfl, ⟨a, rfl, ha⟩, ⟨b, rfl, hb⟩, zp, zq, hm, z⟩ := h
  have m0 := nn zp
  have l0 := nn zq
  refine ⟨_, (pss_one (ps_ret (pe_cmpR op_lt (pe_op op_mulW (pe_ix ix_tup (pv 0) pe_int (fun _ _ => rfl)) (pe_ix ix_tup (pv 1) pe_int (fun _ _ => rfl))) (pe_op op_mulW (pe_ix ix_tup (pv 1) pe_int (fun _ _ => rfl)) (pe_ix ix_tup (pv 0) pe_int (fun _ _ => rfl))) (nomark _)))), ?_⟩
  refine ⟨_, rfl, a, _, _, _, rfl, rfl, ha, at0 rfl, _, rfl, b, _, _, _, rfl, rfl, hb, at1 rfl, _, _, rfl, rfl, mulW zp.1 (dA zq) m0 l0 (by omega), ?_⟩
  refine ⟨_, rfl, b, _, _, _, rfl, rfl, hb, at0 rfl, _, rfl, a, _, _, _, rfl, rfl, ha, at1 rfl, _, _, rfl, rfl, mulW zq.1 (dA zp) l0 m0 (by omega), _, _, rfl, rfl, ?_⟩
  show Q (.bl (decide (p.num * (q.den : Int) < q.num * (p.den : Int)))) H
  rw [decide_eq_decide.mpr (lt_num (p := p) (q := q)).symm]
  exact z
/-! ### the program's rationals -/
def sg (p q : Rat) : Int := if p = q then 0 else if p < q then -1 else 1
abbrev s_compare : Stmt := top 17
abbrev N_compare : List Str := ["a", "b", "left", "right"]
theorem sc_compare : FnScope N_compare ["a", "b"] (defScope s_compare) := ⟨rfl, rfl, rfl, by decide +kernel, rfl, by decide +kernel, by decide +kernel⟩
abbrev ps_compare : List Str := ["a", "b"]
theorem ok_compare (F : Fn K mg "compare" s_compare ps_compare f fd) : Def P w K mg base (k + 1) "compare" ps_compare (spTest2 K fun p q => .int (sg p q)) f fd := by
  refine ⟨F.F.ok sc_compare (fun vs H Q E h => ?_) (fun cdv A outer s H vs Q E hr h => ?_), F.m, F.F.kp, F.b⟩
  · obtain ⟨x, y, p, q, m, l, rfl, _⟩ := h
    rfl
  obtain ⟨x, y, p, q, m, l, rfl, ⟨a, rfl, ha⟩, ⟨b, rfl, hb⟩, zp, zq, hm, z⟩ := h
  have m0 := nn zp
  have l0 := nn zq
  refine ⟨_, (pss_cons (ps_set (i := 2) sc_compare.nd rfl (Or.inl rfl) (pe_op op_mulW (pe_ix ix_tup (pv 0) pe_int (fun _ _ => rfl)) (pe_ix ix_tup (pv 1) pe_int (fun _ _ => rfl))))
      (pss_cons (ps_set (i := 3) sc_compare.nd rfl (Or.inl rfl) (pe_op op_mulW (pe_ix ix_tup (pv 1) pe_int (fun _ _ => rfl)) (pe_ix ix_tup (pv 0) pe_int (fun _ _ => rfl))))
      (pss_cons (ps_if (pt_cmpR op_eq (pv 2) (pv 3) (nomark _))
        (pss_one (ps_ret pe_int))
        pss_nil)
      (pss_one (ps_ret (pe_ifExp (pt_cmpR op_lt (pv 2) (pv 3) (nomark _)) (pe_un un_neg pe_int) pe_int)))))), ?_⟩
  refine ⟨_, rfl, a, _, _, _, rfl, rfl, ha, at0 rfl, _, rfl, b, _, _, _, rfl, rfl, hb, at1 rfl, _, _, rfl, rfl, mulW zp.1 (dA zq) m0 l0 (by omega), ?_⟩
  refine ⟨_, rfl, b, _, _, _, rfl, rfl, hb, at0 rfl, _, rfl, a, _, _, _, rfl, rfl, ha, at1 rfl, _, _, rfl, rfl, mulW zq.1 (dA zp) l0 m0 (by omega), ?_⟩
  refine ⟨_, rfl, _, rfl, rfl, _, rfl, ifD (fun c => ?_) (fun c => ?_)⟩
  · have e : p = q := eq_num.mpr (V.int.inj c)
    have z' : Q (.int (sg p q)) H := z
    unfold sg at z'
    rw [if_pos e] at z'
    exact z'
  · have e : ¬ p = q := fun e => c (congrArg V.int (eq_num.mp e))
    have z' : Q (.int (sg p q)) H := z
    unfold sg at z'
    rw [if_neg e] at z'
    refine ⟨_, rfl, _, rfl, _, _, rfl, rfl, _, rfl, ifD (fun c => ?_) (fun c => ?_)⟩
    · rw [if_pos (lt_num.mpr c)] at z'
      exact ⟨_, rfl, z'⟩
    · rw [if_neg (fun e => c (lt_num.mp e))] at z'
      exact z'
abbrev s_negate : Stmt := top 15
abbrev N_negate : List Str := ["a"]
theorem sc_negate : FnScope N_negate ["a"] (defScope s_negate) := ⟨rfl, rfl, rfl, by decide +kernel, rfl, by decide +kernel, by decide +kernel⟩
abbrev ps_negate : List Str := ["a"]
def spOp1 (K : PySem.W.Frag) (g : Rat → Rat) : Sp := fun vs H Q _ => ∃ (x : V) (p : Rat), vs = [x] ∧ Rq K H x p ∧ ∀ r H', Same H H' → Rq K H' r (g p) → Q r H'
theorem ok_negate (F : Fn K mg "negate" s_negate ps_negate f fd) : Def P w K mg base (k + 1) "negate" ps_negate (spOp1 K fun p => -p) f fd := by
  refine ⟨F.F.ok sc_negate (fun vs H Q E h => ?_) (fun cdv A outer s H vs Q E hr h => ?_), F.m, F.F.kp, F.b⟩
  · obtain ⟨x, p, rfl, _⟩ := h
    rfl
  obtain ⟨x, p, rfl, ⟨a, rfl, ha⟩, z⟩ := h
  refine ⟨_, (pss_one (ps_ret (pe_tup (pa_cons (pe_un un_neg (pe_ix ix_tup (pv 0) pe_int (fun _ _ => rfl))) (pa_cons (pe_ix ix_tup (pv 0) pe_int (fun _ _ => rfl)) pa_nil))))), ?_⟩
  refine ⟨_, rfl, a, _, _, _, rfl, rfl, ha, at0 rfl, _, rfl, _, rfl, a, _, _, _, rfl, rfl, ha, at1 rfl, sz2, fun r hr' => ?_⟩
  exact z _ _ (same_new hr' _) ⟨r, rfl, SqT.of upd_same⟩
abbrev s_add : Stmt := top 12
abbrev N_add : List Str := ["a", "b", "common", "factor", "n", "rest"]
theorem sc_add : FnScope N_add ["a", "b"] (defScope s_add) := ⟨rfl, rfl, rfl, by decide +kernel, rfl, by decide +kernel, by decide +kernel⟩
abbrev ps_add : List Str := ["a", "b"]
theorem ok_add (T : Bn mg) (F : Fn K mg "add" s_add ps_add f fd) : Def P w K mg base (k + 1) "add" ps_add (spOp2 K (· + ·)) f fd := by
  refine ⟨F.F.ok sc_add (fun vs H Q E h => ?_) (fun cdv A outer s H vs Q E hr h => ?_), F.m, F.F.kp, F.b⟩
  · obtain ⟨x, y, p, q, m, l, rfl, _⟩ := h
    rfl
  obtain ⟨x, y, p, q, m, l, rfl, ⟨a, rfl, ha⟩, ⟨b, rfl, hb⟩, zp, zq, hm, z⟩ := h
  have m0 := nn zp
  have l0 := nn zq
  refine ⟨_, (pss_cons (ps_set (i := 2) sc_add.nd rfl (Or.inl rfl) (pe_callBfun cr_gcd (by rfl) T.gcd_ (pa_cons (pe_ix ix_tup (pv 0) pe_int (fun _ _ => rfl)) (pa_cons (pe_ix ix_tup (pv 1) pe_int (fun _ _ => rfl)) pa_nil))))
      (pss_cons (ps_set (i := 3) sc_add.nd rfl (Or.inl rfl) (pe_op op_fdivW (pe_ix ix_tup (pv 1) pe_int (fun _ _ => rfl)) (pv 2)))
      (pss_cons (ps_set (i := 4) sc_add.nd rfl (Or.inl rfl) (pe_op op_add (pe_op op_mulW (pe_ix ix_tup (pv 0) pe_int (fun _ _ => rfl)) (pv 3)) (pe_op op_mulW (pe_ix ix_tup (pv 1) pe_int (fun _ _ => rfl)) (pe_op op_fdivW (pe_ix ix_tup (pv 0) pe_int (fun _ _ => rfl)) (pv 2)))))
      (pss_cons (ps_set (i := 5) sc_add.nd rfl (Or.inl rfl) (pe_callBfun cr_gcd (by rfl) T.gcd_ (pa_cons (pv 4) (pa_cons (pv 2) pa_nil))))
      (pss_one (ps_ret (pe_tup (pa_cons (pe_op op_fdivW (pv 4) (pv 5)) (pa_cons (pe_op op_mulW (pe_op op_fdivW (pe_ix ix_tup (pv 0) pe_int (fun _ _ => rfl)) (pv 5)) (pv 3)) pa_nil))))))))), ?_⟩
  have gp : 0 < Nat.gcd p.den q.den := Nat.gcd_pos_of_pos_left _ p.den_pos
  have gb : (((Nat.gcd p.den q.den : Nat) : Int)).natAbs < 2 ^ m := Nat.lt_of_le_of_lt (Nat.gcd_le_left _ p.den_pos) zp.2
  have wg : ∀ x : Int, CDivW x ((Nat.gcd p.den q.den : Nat) : Int) := fun x => wide_div (by omega) gb m0 (by omega)
  have fb : (((q.den / Nat.gcd p.den q.den : Nat)) : Int).natAbs < 2 ^ l := Nat.lt_of_le_of_lt (Nat.div_le_self _ _) zq.2
  have hb' : (((p.den / Nat.gcd p.den q.den : Nat)) : Int).natAbs < 2 ^ m := Nat.lt_of_le_of_lt (Nat.div_le_self _ _) zp.2
  refine ⟨_, rfl, a, _, _, _, rfl, rfl, ha, at1 rfl, _, rfl, b, _, _, _, rfl, rfl, hb, at1 rfl, _, _, rfl, ?_⟩
  -- factor; n
  refine ⟨_, rfl, b, _, _, _, rfl, rfl, hb, at1 rfl, _, rfl, _, _, rfl, rfl, wg _, ?_⟩
  refine ⟨_, rfl, a, _, _, _, rfl, rfl, ha, at0 rfl, _, rfl, _, _, rfl, rfl, mulW zp.1 fb m0 l0 (by omega), ?_⟩
  refine ⟨_, rfl, b, _, _, _, rfl, rfl, hb, at0 rfl, _, rfl, a, _, _, _, rfl, rfl, ha, at1 rfl, _, rfl, _, _, rfl, rfl, wg _, _, _, rfl, rfl, mulW zq.1 hb' l0 m0 (by omega), _, _, rfl, rfl, ?_⟩
  -- rest
  refine ⟨_, rfl, _, rfl, _, _, rfl, ?_⟩
  obtain ⟨n, en⟩ : ∃ n : Int, n = p.num * ((q.den / Nat.gcd p.den q.den : Nat) : Int) + q.num * ((p.den / Nat.gcd p.den q.den : Nat) : Int) := ⟨_, rfl⟩
  obtain ⟨r, er⟩ : ∃ r : Nat, r = Nat.gcd n.natAbs (Nat.gcd p.den q.den) := ⟨_, rfl⟩
  have A := add_parts p q _ _ n r rfl rfl en er
  have rp : 0 < r := by rw [er]; exact Nat.gcd_pos_of_pos_right _ gp
  have rb : ((r : Nat) : Int).natAbs < 2 ^ m := by rw [er]; exact Nat.lt_of_le_of_lt (Nat.gcd_le_right _ gp) gb
  have wr : ∀ x : Int, CDivW x (r : Int) := fun x => wide_div (by omega) rb m0 (by omega)
  have db : (((p.den / r : Nat)) : Int).natAbs < 2 ^ m := Nat.lt_of_le_of_lt (Nat.div_le_self _ _) zp.2
  have en' : (fun i j : Int => i + j) ((fun i j : Int => i * j) p.num ((q.den : Int) / ((Nat.gcd p.den q.den : Nat) : Int))) ((fun i j : Int => i * j) q.num ((p.den : Int) / ((Nat.gcd p.den q.den : Nat) : Int))) = n := en.symm
  suffices hz : ∀ n' : Int, n' = n → ∀ r' : Int, r' = (r : Int) → tRet (tTup (tCons (tOp (rI CDivW fun i j => V.int (i / j)) (tVar 4) (tVar 5)) (tCons (tOp (rI CMulW fun i j => V.int (i * j)) (tOp (rI CDivW fun i j => V.int (i / j)) (tOp (rIxT K) (tVar 0) (tC (V.int 1))) (tVar 5)) (tVar 3)) tNil)))
      { nx := fun _ H' => Q V.non H', rt := Q } [some (.ref a), some (.ref b), some (.int ((Nat.gcd p.den q.den : Nat) : Int)), some (.int ((q.den / Nat.gcd p.den q.den : Nat) : Int)), some (.int n'), some (.int r')] H from hz _ en' _ (by rw [er, ← en']; rfl)
  rintro n' e1 r' e2
  subst e1 e2
  refine ⟨_, rfl, _, rfl, _, _, rfl, rfl, wr _, _, rfl, a, _, _, _, rfl, rfl, ha, at1 rfl, _, rfl, _, _, rfl, rfl, wr _, _, rfl, _, _, rfl, rfl, mulW db fb m0 l0 (by omega), sz2, fun t ht => ?_⟩
  refine z _ _ (same_new ht _) ⟨t, rfl, SqT.of ?_⟩
  rw [upd_same]
  show some (HO.tup [V.int (n' / (r : Int)), V.int (((p.den / r : Nat) : Int) * ((q.den / Nat.gcd p.den q.den : Nat) : Int))]) = some (HO.tup [V.int (p + q).num, V.int ((p + q).den : Int)])
  rw [A.1, A.2]
  rfl
abbrev s_subtract : Stmt := top 13
abbrev N_subtract : List Str := ["a", "b"]
theorem sc_subtract : FnScope N_subtract ["a", "b"] (defScope s_subtract) := ⟨rfl, rfl, rfl, by decide +kernel, rfl, by decide +kernel, by decide +kernel⟩
abbrev ps_subtract : List Str := ["a", "b"]
theorem ok_subtract (F : Fn K mg "subtract" s_subtract ps_subtract f fd) (dadd : Def P w K mg base k "add" ["a", "b"] (spOp2 K (· + ·)) f1 fd1) (dnegate : Def P w K mg base k "negate" ["a"] (spOp1 K fun p => -p) f2 fd2) :
    Def P w K mg base (k + 1) "subtract" ps_subtract (spOp2 K (· - ·)) f fd := by
  refine ⟨F.F.ok sc_subtract (fun vs H Q E h => ?_) (fun cdv A outer s H vs Q E hr h => ?_), F.m, F.F.kp, F.b⟩
  · obtain ⟨x, y, p, q, m, l, rfl, _⟩ := h
    rfl
  obtain ⟨x, y, p, q, m, l, rfl, ha, hb, zp, zq, hm, z⟩ := h
  refine ⟨_, (pss_one (ps_ret (pcall dadd hr (pa_cons (pv 0) (pa_cons (pcall dnegate hr (pa_cons (pv 1) pa_nil)) pa_nil))))), ?_⟩
  refine ⟨_, rfl, _, rfl, _, q, rfl, hb, fun r H' e hr' => ?_⟩
  refine ⟨_, _, p, -q, m, l, rfl, ha.same e, hr', zp, zq.neg, hm, fun r2 H2 e2 hr2 => z _ _ (e.trans e2) ?_⟩
  show Rq K H2 r2 (p - q)
  rw [Rat.sub_eq_add_neg]
  exact hr2
/-- rational(n, d) where d is above zero; its second argument is always written -/
abbrev s_rational : Stmt := top 11
abbrev N_rational : List Str := ["n", "d", "common"]
theorem sc_rational : FnScope N_rational ["n", "d"] (defScope s_rational) := ⟨rfl, rfl, rfl, by decide +kernel, rfl, by decide +kernel, by decide +kernel⟩
abbrev ps_rational : List Str := ["n", "d"]
theorem ok_rational (T : Bn mg) (F : FunA K "rational" "rational" s_rational f fd) (hm : mg "rational" = some (.ref f)) (hb : Binds K fd ps_rational []) : Def P w K mg base (k + 1) "rational" ps_rational (spFrac K) f fd := by
  refine ⟨F.ok sc_rational (fun vs H Q E h => ?_) (fun cdv A outer s H vs Q E hr h => ?_), hm, F.kp, hb⟩
  · obtain ⟨n, d, b, rfl, _⟩ := h
    rfl
  obtain ⟨n, d, b, rfl, hd, hn, hdb, hb, q⟩ := h
  refine ⟨_, (pss_cons (ps_if (pt_cmpR op_eq (pv 1) pe_int (nomark _))
        (pss_one ps_never)
        pss_nil)
      (pss_cons (ps_set (i := 2) sc_rational.nd rfl (Or.inl rfl) (pe_callBfun cr_gcd (by rfl) T.gcd_ (pa_cons (pv 0) (pa_cons (pv 1) pa_nil))))
      (pss_cons (ps_if (pt_cmpR op_lt (pv 1) pe_int (nomark _))
        (pss_one (ps_set (i := 2) sc_rational.nd rfl (Or.inl rfl) (pe_un un_neg (pv 2))))
        pss_nil)
      (pss_one (ps_ret (pe_tup (pa_cons (pe_op op_fdivW (pv 0) (pv 2)) (pa_cons (pe_op op_fdivW (pv 1) (pv 2)) pa_nil)))))))), ?_⟩
  have b0 : 0 < b := by
    cases b with
    | zero => simp at hdb; omega
    | succ b => exact Nat.succ_pos _
  have dn : d.toNat ≠ 0 := by omega
  have gp : 0 < Nat.gcd n.natAbs d.natAbs := Nat.gcd_pos_of_pos_right _ (by omega)
  have gb : (((Nat.gcd n.natAbs d.natAbs : Nat) : Int)).natAbs < 2 ^ b := by
    rw [Int.natAbs_natCast]
    exact Nat.lt_of_le_of_lt (Nat.gcd_le_right _ (by omega)) hdb
  have w : ∀ x : Int, CDivW x ((Nat.gcd n.natAbs d.natAbs : Nat) : Int) := fun x => wide_div (by omega) gb b0 (by omega)
  have ed : d.toNat = d.natAbs := by omega
  refine ⟨_, rfl, rfl, _, rfl, ifF (dF fun c => by cases c; omega) ?_⟩
  refine ⟨_, rfl, _, rfl, _, _, rfl, ?_⟩
  refine ⟨_, rfl, _, _, rfl, rfl, _, rfl, ifF (dF (by omega)) ?_⟩
  refine ⟨_, rfl, _, rfl, _, _, rfl, rfl, w _, _, rfl, _, rfl, _, _, rfl, rfl, w _, sz2, fun p hp => ?_⟩
  refine q _ _ (same_new hp _) ⟨p, rfl, SqT.of ?_⟩
  rw [upd_same, mk_num n dn, mk_den n dn, ed]
  congr 4
  have e : d = (d.natAbs : Int) := by omega
  rw [show (((d.natAbs / Nat.gcd n.natAbs d.natAbs : Nat)) : Int) = (d.natAbs : Int) / ((Nat.gcd n.natAbs d.natAbs : Nat) : Int) from Int.natCast_ediv _ _]
  rw [← e]
abbrev s_divide : Stmt := top 16
abbrev N_divide : List Str := ["a", "b"]
theorem sc_divide : FnScope N_divide ["a", "b"] (defScope s_divide) := ⟨rfl, rfl, rfl, by decide +kernel, rfl, by decide +kernel, by decide +kernel⟩
abbrev ps_divide : List Str := ["a", "b"]
def spDiv (K : PySem.W.Frag) : Sp := fun vs H Q _ => ∃ (x y : V) (p q : Rat) (m l : Nat), vs = [x, y] ∧ Rq K H x p ∧ Rq K H y q ∧ Sz m p ∧ Sz l q ∧ m + l + 1 ≤ 9000 ∧ 0 < q ∧ ∀ r H', Same H H' → Rq K H' r (p / q) → Q r H'
theorem ok_divide (F : Fn K mg "divide" s_divide ps_divide f fd) (drational : Def P w K mg base k "rational" ["n", "d"] (spFrac K) f1 fd1) : Def P w K mg base (k + 1) "divide" ps_divide (spDiv K) f fd := by
  refine ⟨F.F.ok sc_divide (fun vs H Q E h => ?_) (fun cdv A outer s H vs Q E hr h => ?_), F.m, F.F.kp, F.b⟩
  · obtain ⟨x, y, p, q, m, l, rfl, _⟩ := h
    rfl
  obtain ⟨x, y, p, q, m, l, rfl, ⟨a, rfl, ha⟩, ⟨b, rfl, hb⟩, zp, zq, hm, q0, z⟩ := h
  have m0 := nn zp
  have l0 := nn zq
  have hn := num_pos q0
  refine ⟨_, (pss_one (ps_ret (pcall drational hr (pa_cons (pe_op op_mulW (pe_ix ix_tup (pv 0) pe_int (fun _ _ => rfl)) (pe_ix ix_tup (pv 1) pe_int (fun _ _ => rfl))) (pa_cons (pe_op op_mulW (pe_ix ix_tup (pv 0) pe_int (fun _ _ => rfl)) (pe_ix ix_tup (pv 1) pe_int (fun _ _ => rfl))) pa_nil))))), ?_⟩
  refine ⟨_, rfl, a, _, _, _, rfl, rfl, ha, at0 rfl, _, rfl, b, _, _, _, rfl, rfl, hb, at1 rfl, _, _, rfl, rfl, mulW zp.1 (dA zq) m0 l0 (by omega), ?_⟩
  refine ⟨_, rfl, a, _, _, _, rfl, rfl, ha, at1 rfl, _, rfl, b, _, _, _, rfl, rfl, hb, at0 rfl, _, _, rfl, rfl, mulW (dA zp) zq.1 m0 l0 (by omega), ?_⟩
  refine ⟨_, _, m + l, rfl, Int.mul_pos (by have := p.den_pos; omega) hn, ab_mul zp.1 (dA zq), ab_mul (dA zp) zq.1, by omega, fun r H' e hr => z r H' e ?_⟩
  have e2 : ((p.den : Int) * q.num).toNat = p.den * q.num.toNat := by
    have e3 : q.num = (q.num.toNat : Int) := by omega
    rw [e3, tn]
    rfl
  rw [e2, ← div_mk p q q0] at hr
  exact hr
end Vk
namespace Vk
open PySem L2 Vm
variable {l : Addr} {P : Program} {w : World} {K : PySem.W.Frag} {mg : Str → Option Value} {base : Heap} {k : Nat} {f f1 f2 f3 f4 f5 f6 f7 f8 f9 : Addr} {fd fd1 fd2 fd3 fd4 fd5 fd6 fd7 fd8 fd9 : FuncData}
abbrev s__law_store : Stmt := top 28
abbrev N__law_store : List Str := ["_law_script"]
theorem sc__law_store : FnScope N__law_store ["_law_script"] (defScope s__law_store) := ⟨rfl, rfl, rfl, by decide +kernel, rfl, by decide +kernel, by decide +kernel⟩
abbrev ps__law_store : List Str := ["_law_script"]
def spStore (K : PySem.W.Frag) : Sp := fun vs H Q _ => ∃ (a : Addr) (ns : List Int), vs = [.ref a] ∧ SqL K H a (ns.map V.int) ∧ ns.length ≤ 63 ∧ ∀ (s l : Addr) H', Same H H' → H s = none → Sto l s H' → Q (.ref s) H'
theorem ok_store (T : Bn mg) (F : Fn K mg "_law_store" s__law_store ps__law_store f fd) : Def P w K mg base (k + 1) "_law_store" ps__law_store (spStore K) f fd := by
  refine ⟨F.F.ok sc__law_store (fun vs H Q E h => ?_) (fun cdv A outer s H vs Q E hr h => ?_), F.m, F.F.kp, F.b⟩
  · obtain ⟨a, ns, rfl, _⟩ := h
    rfl
  obtain ⟨a, ns, rfl, ha, hl, z⟩ := h
  refine ⟨_, (pss_one (ps_ret (pe_lst (pa_cons (pe_callTy call_list_of (by rfl) T.list_ (by decide +kernel) (pa_cons (pv 0) pa_nil)) (pa_cons pe_int (pa_cons pe_int (pa_cons pe_int (pa_cons pe_int (pa_cons pe_int pa_nil))))))))), ?_⟩
  refine ⟨_, rfl, a, _, rfl, .inl ha, fun l l0 => ?_⟩
  refine ⟨sm6, fun p p0 => ?_⟩
  have lp : l ≠ p := fun e => by rw [e, upd_same] at p0; cases p0
  have e1 : Same H (upd H l (.lst (ns.map V.int))) := same_new l0 _
  refine z _ l _ (e1.trans (same_new p0 _)) (e1.free p0) ⟨ns, 0, 0, 1, 0, 0, upd_same, lp, ?_, hl, by omega, by omega, by omega, by omega⟩
  rw [upd_ne lp, upd_same]
abbrev s__law_mixed : Stmt := top 30
abbrev N__law_mixed : List Str := ["_law_store_here"]
theorem sc__law_mixed : FnScope N__law_mixed ["_law_store_here"] (defScope s__law_mixed) := ⟨rfl, rfl, rfl, by decide +kernel, rfl, by decide +kernel, by decide +kernel⟩
abbrev ps__law_mixed : List Str := ["_law_store_here"]
def spMixed (K : PySem.W.Frag) (l : Addr) : Sp := fun vs H Q _ => ∃ (s : Addr), vs = [.ref s] ∧ Sto l s H ∧ ∀ (r : Int) H', 0 ≤ r → r < 1000000009 → Sto l s H' → Fr s H H' → Q (.int r) H'
theorem ok_mixed (T : Bn mg) (F : Fn K mg "_law_mixed" s__law_mixed ps__law_mixed f fd) : Def P w K mg base (k + 1) "_law_mixed" ps__law_mixed (spMixed K l) f fd := by
  refine ⟨F.F.ok sc__law_mixed (fun vs H Q E h => ?_) (fun cdv A outer s H vs Q E hr h => ?_), F.m, F.F.kp, F.b⟩
  · obtain ⟨a, rfl, _⟩ := h
    rfl
  obtain ⟨s, rfl, ⟨ns, pos, num, seed, hold, cnt, h1, h2, h3, h4, h5, h6, h7, h8⟩, z⟩ := h
  refine ⟨_, (pss_cons (ps_asg (pe_op op_add (pe_ix ix_list (pv 0) pe_int (fun _ _ => rfl)) pe_int) (pg_sub (pv 0) pe_int set_list))
      (pss_cons (ps_asg (pe_op op_mod (pe_callTy call_int1 (by rfl) T.int_ (by decide +kernel) (pa_cons (pe_op op_add (pe_op op_add (pe_op op_mul (pe_ix ix_list (pv 0) pe_int (fun _ _ => rfl)) pe_int) (pe_op op_mul (pe_ix ix_list (pv 0) pe_int (fun _ _ => rfl)) pe_int)) pe_int) pa_nil)) pe_int) (pg_sub (pv 0) pe_int set_list))
      (pss_one (ps_ret (pe_op op_mod (pe_callTy call_int1 (by rfl) T.int_ (by decide +kernel) (pa_cons (pe_op op_add (pe_op op_mul (pe_ix ix_list (pv 0) pe_int (fun _ _ => rfl)) pe_int) (pe_op op_fdiv (pe_ix ix_list (pv 0) pe_int (fun _ _ => rfl)) pe_int)) pa_nil)) pe_int))))), ?_⟩
  refine ⟨_, rfl, s, _, _, _, rfl, rfl, SqL.of h1, atI_nat (j := 5) rfl, _, _, rfl, rfl, _, rfl, s, _, _, _, rfl, rfl, h1, rfl, ?_⟩
  refine ⟨_, rfl, s, _, _, _, rfl, rfl, SqL.of upd_same, atI_nat (j := 3) rfl, _, _, rfl, rfl, .inr ⟨by decide, by decide⟩, ?_⟩
  refine ⟨_, rfl, s, _, _, _, rfl, rfl, SqL.of upd_same, atI_nat (j := 5) rfl, _, _, rfl, rfl, .inr ⟨by decide, by decide⟩, _, _, rfl, rfl, ?_⟩
  refine ⟨_, _, rfl, rfl, .inl ⟨_, rfl, _, _, rfl, rfl, (by show (0 : Int) < 1000000007; decide), _, rfl, s, _, _, _, rfl, rfl, upd_same, rfl, ?_⟩⟩
  refine ⟨_, rfl, s, _, _, _, rfl, rfl, SqL.of upd_same, atI_nat (j := 3) rfl, _, _, rfl, rfl, .inr ⟨by decide, by decide⟩, ?_⟩
  refine ⟨_, rfl, s, _, _, _, rfl, rfl, SqL.of upd_same, atI_nat (j := 3) rfl, _, _, rfl, rfl, ⟨by decide, by decide⟩, _, _, rfl, rfl, .inl ⟨_, rfl, _, _, rfl, rfl, (by show (0 : Int) < 1000000009; decide), ?_⟩⟩
  have e2 : ∀ o1 o2, Fr s H (upd (upd H s o1) s o2) := fun _ _ => (Fr.upd _).trans (Fr.upd _)
  exact z _ _ (Int.emod_nonneg _ (by decide)) (Int.emod_lt_of_pos _ (by decide)) ⟨ns, pos, num, _, hold, _, upd_same, h2, (e2 _ _) _ _ h3 h2, h4, h5, h6, Int.emod_nonneg _ (by decide), Int.emod_lt_of_pos _ (by decide)⟩ (e2 _ _)
abbrev s__law_feed : Stmt := top 29
abbrev N__law_feed : List Str := ["_law_store_here", "_law_cell"]
theorem sc__law_feed : FnScope N__law_feed ["_law_store_here"] (defScope s__law_feed) := ⟨rfl, rfl, rfl, by decide +kernel, rfl, by decide +kernel, by decide +kernel⟩
abbrev ps__law_feed : List Str := ["_law_store_here"]
def spFeed (K : PySem.W.Frag) (l : Addr) : Sp := fun vs H Q _ => ∃ (s : Addr) (ns : List Int) (pos num seed hold cnt : Int), vs = [.ref s] ∧ H s = some (.lst [.ref l, .int pos, .int num, .int seed, .int hold, .int cnt]) ∧ l ≠ s ∧ H l = some (.lst (ns.map V.int)) ∧ ns.length ≤ 63 ∧ 0 ≤ pos ∧ 0 ≤ num ∧ 0 ≤ seed ∧ seed < 1000000007 ∧ pos < (ns.length : Int) ∧
  ∀ H', Sto l s H' → Fr s H H' → Q .non H'
theorem ok_feed (T : Bn mg) (F : Fn K mg "_law_feed" s__law_feed ps__law_feed f fd) : Def P w K mg base (k + 1) "_law_feed" ps__law_feed (spFeed K l) f fd := by
  refine ⟨F.F.ok sc__law_feed (fun vs H Q E h => ?_) (fun cdv A outer s H vs Q E hr h => ?_), F.m, F.F.kp, F.b⟩
  · obtain ⟨_, _, _, _, _, _, _, rfl, _⟩ := h
    rfl
  obtain ⟨s, ns, pos, num, seed, hold, cnt, rfl, h1, h2, h3, h4, h5, h6, h7, h8, h9, z⟩ := h
  refine ⟨_, (pss_cons (ps_set (i := 1) sc__law_feed.nd rfl (Or.inl rfl) (pe_callTy call_int1 (by rfl) T.int_ (by decide +kernel) (pa_cons (pe_ix ix_list (pe_ix ix_list (pv 0) pe_int (fun _ _ => rfl)) (pe_ix ix_list (pv 0) pe_int (fun _ _ => rfl)) (fun _ _ => rfl)) pa_nil)))
      (pss_cons (ps_asg (pe_op op_add (pe_ix ix_list (pv 0) pe_int (fun _ _ => rfl)) pe_int) (pg_sub (pv 0) pe_int set_list))
      (pss_cons (ps_asg (pe_op op_mod (pe_callTy call_int1 (by rfl) T.int_ (by decide +kernel) (pa_cons (pe_op op_add (pe_op op_mul (pe_ix ix_list (pv 0) pe_int (fun _ _ => rfl)) pe_int) (pv 1)) pa_nil)) pe_int) (pg_sub (pv 0) pe_int set_list))
      (pss_one (ps_if (PW.pt (pw_or (pt_cmpR op_ge (pv 1) (pe_op op_pow pe_int pe_int) (nomark _)) (pw_or1 (pt_cmpR op_le (pv 1) (pe_op op_sub pe_int (pe_op op_pow pe_int pe_int)) (nomark _)))))
        (pss_one (ps_asg (pe_callB call_abs (by rfl) T.abs_ (by decide +kernel) (pa_cons (pv 1) pa_nil)) (pg_sub (pv 0) pe_int set_list)))
        (pss_one (ps_asg pe_int (pg_sub (pv 0) pe_int set_list)))))))), ?_⟩
  have hp : pos.toNat < ns.length := by omega
  have ea : atI (ns.map V.int) pos = some (.int ns[pos.toNat]) := at_of (j := pos.toNat) (by omega) (by rw [List.getElem?_map, List.getElem?_eq_getElem hp]; rfl)
  obtain ⟨c, hc⟩ : ∃ c, c = ns[pos.toNat] := ⟨_, rfl⟩
  rw [← hc] at ea
  refine ⟨_, rfl, s, _, _, _, rfl, rfl, SqL.of h1, at0 rfl, _, rfl, s, _, _, _, rfl, rfl, SqL.of h1, at1 rfl, l, _, _, _, rfl, rfl, SqL.of h3, ea, .inl ⟨_, rfl, ?_⟩⟩
  refine ⟨_, rfl, s, _, _, _, rfl, rfl, SqL.of h1, at1 rfl, _, _, rfl, rfl, _, rfl, s, _, _, _, rfl, rfl, h1, rfl, ?_⟩
  refine ⟨_, rfl, s, _, _, _, rfl, rfl, SqL.of upd_same, atI_nat (j := 3) rfl, _, _, rfl, rfl, .inr ⟨by decide, by decide⟩, _, rfl, _, _, rfl, rfl, .inl ⟨_, rfl, _, _, rfl, rfl, (by show (0 : Int) < 1000000007; decide), _, rfl, s, _, _, _, rfl, rfl, upd_same, rfl, ?_⟩⟩
  have e2 : ∀ o1 o2, Fr s H (upd (upd H s o1) s o2) := fun _ _ => (Fr.upd _).trans (Fr.upd _)
  have e3 : ∀ o1 o2 o3, Fr s H (upd (upd (upd H s o1) s o2) s o3) := fun _ _ _ => (e2 _ _).trans (Fr.upd _)
  have pw : (0 : Int) ≤ 18 ∧ (18 : Int) ≤ 1000000 ∧ (10 : Int).natAbs < 2 ^ 64 := ⟨by decide, by decide, by decide⟩
  have big : ∀ H', H' s = _ → Fr s H H' → Q .non H' := fun H' (e : H' s = some (.lst [.ref l, .int (pos + 1), .int (if c < 0 then -c else c), .int ((seed * 30011 + c) % 1000000007), .int hold, .int cnt])) e' =>
    z H' ⟨ns, pos + 1, _, _, hold, cnt, e, h2, e' _ _ h3 h2, h4, by omega, by split <;> omega, Int.emod_nonneg _ (by decide), Int.emod_lt_of_pos _ (by decide)⟩ e'
  refine ⟨_, rfl, _, _, rfl, rfl, pw, _, _, rfl, rfl, _, rfl, ifD (fun _ => ?_) (fun _ => ⟨_, rfl, _, _, rfl, rfl, pw, _, _, rfl, rfl, _, _, rfl, rfl, _, rfl, ifD (fun _ => ?_) (fun _ => ?_)⟩)⟩
  · exact ⟨_, rfl, _, rfl, _, rfl, s, _, _, _, rfl, rfl, upd_same, rfl, big _ upd_same (e3 _ _ _)⟩
  · exact ⟨_, rfl, _, rfl, _, rfl, s, _, _, _, rfl, rfl, upd_same, rfl, big _ upd_same (e3 _ _ _)⟩
  · exact ⟨_, rfl, s, _, _, _, rfl, rfl, upd_same, rfl, z _ ⟨ns, pos + 1, num, _, 3, cnt, upd_same, h2, (e3 _ _ _) _ _ h3 h2, h4, by omega, h6, Int.emod_nonneg _ (by decide), Int.emod_lt_of_pos _ (by decide)⟩ (e3 _ _ _)⟩
abbrev s__law_take : Stmt := top 31
abbrev N__law_take : List Str := ["_law_store_here", "_law_many", "_law_number"]
theorem sc__law_take : FnScope N__law_take ["_law_store_here", "_law_many"] (defScope s__law_take) := ⟨rfl, rfl, rfl, by decide +kernel, rfl, by decide +kernel, by decide +kernel⟩
abbrev ps__law_take : List Str := ["_law_store_here", "_law_many"]
def spTake (K : PySem.W.Frag) (l : Addr) : Sp := fun vs H Q _ => ∃ (s : Addr) (many : Int), vs = [.ref s, .int many] ∧ Sto l s H ∧ many < 2 ^ 64 ∧ ∀ (r : Int) H', 0 ≤ r → (r < many ∨ r = 0) → Sto l s H' → Fr s H H' → Q (.int r) H'
theorem ok_take (T : Bn mg) (F : Fn K mg "_law_take" s__law_take ps__law_take f fd) (d_law_feed : Def P w K mg base k "_law_feed" ["_law_store_here"] (spFeed K l) f1 fd1) (d_law_mixed : Def P w K mg base k "_law_mixed" ["_law_store_here"] (spMixed K l) f2 fd2) :
    Def P w K mg base (k + 1) "_law_take" ps__law_take (spTake K l) f fd := by
  refine ⟨F.F.ok sc__law_take (fun vs H Q E h => ?_) (fun cdv A outer s H vs Q E hr h => ?_), F.m, F.F.kp, F.b⟩
  · obtain ⟨_, _, rfl, _⟩ := h
    rfl
  obtain ⟨s, many, rfl, hS, hm, z⟩ := h
  refine ⟨_, (pss_cons (ps_set (i := 1) sc__law_take.nd rfl (Or.inl rfl) (pe_callB (call_max2 rfl) (by rfl) T.max_ (by decide +kernel) (pa_cons pe_int (pa_cons (pv 1) pa_nil))))
      (pss_cons (ps_if (PW.pt (pw_and (pt_cmpR op_eq (pe_ix ix_list (pv 0) pe_int (fun _ _ => rfl)) pe_int (nomark _)) (pw_and (pt_cmpR op_eq (pe_ix ix_list (pv 0) pe_int (fun _ _ => rfl)) pe_int (nomark _)) (pw_and1 (pt_cmpR op_lt (pe_ix ix_list (pv 0) pe_int (fun _ _ => rfl)) (pe_callB call_len_seq (by rfl) T.len_ PySem.boot_len (pa_cons (pe_ix ix_list (pv 0) pe_int (fun _ _ => rfl)) pa_nil)) (nomark _))))))
        (pss_one (ps_expr (pcall d_law_feed hr (pa_cons (pv 0) pa_nil))))
        pss_nil)
      (pss_cons (ps_if (pt_cmpR op_gt (pe_ix ix_list (pv 0) pe_int (fun _ _ => rfl)) pe_int (nomark _))
        (pss_cons (ps_set (i := 2) sc__law_take.nd rfl (Or.inl rfl) (pe_ix ix_list (pv 0) pe_int (fun _ _ => rfl)))
        (pss_cons (ps_asg (pe_op op_fdivW (pv 2) (pv 1)) (pg_sub (pv 0) pe_int set_list))
        (pss_one (ps_ret (pe_op op_mod (pe_callTy call_int1 (by rfl) T.int_ (by decide +kernel) (pa_cons (pv 2) pa_nil)) (pv 1))))))
        pss_nil)
      (pss_cons (ps_asg (pe_callB (call_max2 rfl) (by rfl) T.max_ (by decide +kernel) (pa_cons pe_int (pa_cons (pe_op op_sub (pe_ix ix_list (pv 0) pe_int (fun _ _ => rfl)) pe_int) pa_nil))) (pg_sub (pv 0) pe_int set_list))
      (pss_cons (ps_set (i := 2) sc__law_take.nd rfl (Or.inl rfl) (pcall d_law_mixed hr (pa_cons (pv 0) pa_nil)))
      (pss_cons (ps_if (pt_cmpR op_gt (pv 1) pe_int (nomark _))
        (pss_one (ps_set (i := 2) sc__law_take.nd rfl (Or.inl rfl) (pe_op op_add (pv 2) (pe_op op_mul (pcall d_law_mixed hr (pa_cons (pv 0) pa_nil)) pe_int))))
        pss_nil)
      (pss_one (ps_ret (pe_op op_mod (pe_callTy call_int1 (by rfl) T.int_ (by decide +kernel) (pa_cons (pv 2) pa_nil)) (pv 1)))))))))), ?_⟩
  refine ⟨_, rfl, _, _, rfl, ?_⟩
  obtain ⟨M, eM⟩ : ∃ M : Int, M = if many > 1 then many else 1 := ⟨_, rfl⟩
  have M1 : 1 ≤ M := by rw [eM]; split <;> omega
  have M2 : M.natAbs < 2 ^ 64 := by
    have : (2 : Nat) ^ 64 = 18446744073709551616 := by decide
    have : (2 : Int) ^ 64 = 18446744073709551616 := by decide
    rw [eM]; split <;> omega
  have hz : ∀ (r : Int) H', 0 ≤ r → r < M → Sto l s H' → Fr s H H' → Q (.int r) H' := fun r H' a b => z r H' a (by rw [eM] at b; split at b <;> omega)
  rw [← eM]
  dsimp only [gName]
  refine cut (fun σ' H' => σ' = [some (.ref s), some (.int M), none] ∧ Sto l s H' ∧ Fr s H H') ?_ ?_
  · rintro σ H1 ⟨rfl, hS1, e1⟩
    obtain ⟨ns, pos, num, seed, hold, cnt, h1, h2, h3, h4, h5, h6, h7, h8⟩ := id hS1
    refine ⟨_, rfl, s, _, _, _, rfl, rfl, SqL.of h1, at2 rfl, _, _, rfl, rfl, _, rfl, ifD (fun c => ?_) (fun c => ?_)⟩
    · refine ⟨_, rfl, s, _, _, _, rfl, rfl, SqL.of h1, at2 rfl, ?_⟩
      refine ⟨_, rfl, _, rfl, _, _, rfl, rfl, wide_div (by omega) M2 (by decide) (by decide), _, rfl, s, _, _, _, rfl, rfl, h1, rfl, ?_⟩
      refine ⟨_, rfl, .inl ⟨_, rfl, _, rfl, _, _, rfl, rfl, (by show 0 < M; omega), ?_⟩⟩
      have e2 : ∀ o, Fr s H1 (upd H1 s o) := fun _ => Fr.upd _
      exact hz _ _ (Int.emod_nonneg _ (by omega)) (Int.emod_lt_of_pos _ (by omega)) ⟨ns, pos, num / M, seed, hold, cnt, upd_same, h2, (e2 _) _ _ h3 h2, h4, h5, Int.ediv_nonneg (by omega) (by omega), h7, h8⟩ (e1.trans (e2 _))
    refine ⟨_, rfl, s, _, _, _, rfl, rfl, SqL.of h1, atI_nat (j := 4) rfl, _, _, rfl, rfl, _, _, rfl, _, rfl, s, _, _, _, rfl, rfl, h1, rfl, ?_⟩
    have e2 : ∀ o, Fr s H1 (upd H1 s o) := fun _ => Fr.upd _
    refine ⟨_, rfl, s, rfl, ⟨ns, pos, num, seed, _, cnt, upd_same, h2, (e2 _) _ _ h3 h2, h4, h5, h6, h7, h8⟩, fun r H2 r0 r1 S2 e3 => ?_⟩
    refine ⟨_, rfl, _, _, rfl, rfl, _, rfl, ifD (fun c => ?_) (fun c => ?_)⟩
    · refine ⟨_, rfl, _, rfl, s, rfl, S2, fun r' H3 _ _ S3 e4 => ⟨_, _, rfl, rfl, .inr ⟨by decide, by decide⟩, _, _, rfl, rfl, ?_⟩⟩
      refine ⟨_, rfl, .inl ⟨_, rfl, _, rfl, _, _, rfl, rfl, (by show 0 < M; omega), ?_⟩⟩
      exact hz _ _ (Int.emod_nonneg _ (by omega)) (Int.emod_lt_of_pos _ (by omega)) S3 (e1.trans ((e2 _).trans (e3.trans e4)))
    · refine ⟨_, rfl, .inl ⟨_, rfl, _, rfl, _, _, rfl, rfl, (by show 0 < M; omega), ?_⟩⟩
      exact hz _ _ (Int.emod_nonneg _ (by omega)) (Int.emod_lt_of_pos _ (by omega)) S2 (e1.trans ((e2 _).trans e3))
  · intro key
    obtain ⟨ns, pos, num, seed, hold, cnt, h1, h2, h3, h4, h5, h6, h7, h8⟩ := id hS
    refine ⟨_, rfl, s, _, _, _, rfl, rfl, SqL.of h1, at2 rfl, rfl, _, rfl, ifD (fun _ => ?_) (fun _ => ifF rfl (key _ _ ⟨rfl, hS, Fr.refl _ _⟩))⟩
    refine ⟨_, rfl, s, _, _, _, rfl, rfl, SqL.of h1, atI_nat (j := 4) rfl, rfl, _, rfl, ifD (fun _ => ?_) (fun _ => ifF rfl (key _ _ ⟨rfl, hS, Fr.refl _ _⟩))⟩
    refine ⟨_, rfl, s, _, _, _, rfl, rfl, SqL.of h1, at1 rfl, _, rfl, s, _, _, _, rfl, rfl, SqL.of h1, at0 rfl, l, _, rfl, .inl (SqL.of h3), _, _, rfl, rfl, _, rfl, ifD (fun c => ?_) (fun _ => key _ _ ⟨rfl, hS, Fr.refl _ _⟩)⟩
    rw [List.length_map] at c
    exact ⟨_, rfl, s, ns, pos, num, seed, hold, cnt, rfl, h1, h2, h3, h4, h5, h6, h7, h8, c, fun H' S' e' => key _ _ ⟨rfl, S', e'⟩⟩
abbrev s__law_pick : Stmt := top 32
abbrev N__law_pick : List Str := ["_law_store_here", "_law_things"]
theorem sc__law_pick : FnScope N__law_pick ["_law_store_here", "_law_things"] (defScope s__law_pick) := ⟨rfl, rfl, rfl, by decide +kernel, rfl, by decide +kernel, by decide +kernel⟩
abbrev ps__law_pick : List Str := ["_law_store_here", "_law_things"]
/-- a list that is not the store; one of its things is handed back -/
def spPick (K : PySem.W.Frag) (l : Addr) : Sp := fun vs H Q _ => ∃ (s a : Addr) (xs : List V), vs = [.ref s, .ref a] ∧ Sto l s H ∧ a ≠ s ∧ SqL K H a xs ∧ 0 < xs.length ∧ xs.length < 2 ^ 32 ∧ ∀ (v : V) H', v ∈ xs → Sto l s H' → Fr s H H' → Q v H'
theorem ok_pick (T : Bn mg) (F : Fn K mg "_law_pick" s__law_pick ps__law_pick f fd) (d_law_take : Def P w K mg base k "_law_take" ["_law_store_here", "_law_many"] (spTake K l) f1 fd1) : Def P w K mg base (k + 1) "_law_pick" ps__law_pick (spPick K l) f fd := by
  refine ⟨F.F.ok sc__law_pick (fun vs H Q E h => ?_) (fun cdv A outer s H vs Q E hr h => ?_), F.m, F.F.kp, F.b⟩
  · obtain ⟨_, _, _, rfl, _⟩ := h
    rfl
  obtain ⟨s, a, xs, rfl, hS, n, ha, h0, hl, z⟩ := h
  refine ⟨_, (pss_one (ps_ret (pe_ix ix_list (pv 1) (pcall d_law_take hr (pa_cons (pv 0) (pa_cons (pe_callB call_len_seq (by rfl) T.len_ PySem.boot_len (pa_cons (pv 1) pa_nil)) pa_nil))) (fun _ _ => rfl)))), ?_⟩
  have p32 : (2 : Nat) ^ 32 = 4294967296 := by decide
  have p64 : (2 : Int) ^ 64 = 18446744073709551616 := by decide
  refine ⟨_, rfl, _, rfl, _, rfl, a, _, rfl, .inl ha, s, _, rfl, hS, by omega, fun r H' r0 r1 S' e => ?_⟩
  have hr : r.toNat < xs.length := by omega
  refine ⟨a, _, _, xs[r.toNat], rfl, rfl, seq_fr e n ha, at_of (j := r.toNat) (by omega) (List.getElem?_eq_getElem hr), z _ _ (List.getElem_mem hr) S' e⟩
end Vk
namespace Vk
open PySem L2 Vm
variable {l : Addr} {P : Program} {w : World} {K : PySem.W.Frag} {mg : Str → Option Value} {base : Heap} {k : Nat} {f f1 f2 f3 f4 f5 f6 f7 f8 f9 : Addr} {fd fd1 fd2 fd3 fd4 fd5 fd6 fd7 fd8 fd9 : FuncData}
/-! ### data -/
def dq (q : Rat) : PyData := .tuple [.int q.num, .int (q.den : Int)]
theorem Rq.dp {H : Hp} {v : V} {q : Rat} (h : Rq K H v q) : Dp K H v (dq q) := by
  obtain ⟨a, rfl, h⟩ := h
  exact .tup h (.cons (.int _) (.cons (.int _) .nil))
theorem sh_dq (q : Rat) : SeqAt.shaped (dq q) = true := rfl
theorem eqv_dq (p q : Rat) : PyData.eqv (dq p) (dq q) = decide (p = q) := by
  show ((p.num == q.num) && (((p.den : Int) == (q.den : Int)) && true)) = decide (p = q)
  by_cases h : p = q
  · subst h
    simp
  · rw [decide_eq_false h]
    by_cases h1 : p.num = q.num
    · by_cases h2 : p.den = q.den
      · exact absurd (Rat.ext h1 h2) h
      · have : ((p.den : Int) == (q.den : Int)) = false := beq_false_of_ne (by omega)
        rw [this]
        simp
    · have : (p.num == q.num) = false := by simpa using h1
      rw [this]
      simp
inductive Tree : Nat → PyData → Prop
  | int {n} (i : Int) : Tree n (.int i)
  | non {n} : Tree n .none
  | str {n} {s : Str} (h : SeqAt.shaped (.str s) = true) : Tree n (.str s)
  | tup {n} {ds : List PyData} : ds.length ≤ 1000 → (∀ d ∈ ds, Tree n d) → Tree (n + 1) (.tuple ds)
  | lst {n} {ds : List PyData} : ds.length ≤ 1000 → (∀ d ∈ ds, Tree n d) → Tree (n + 1) (.list ds)
theorem tree_dq (n : Nat) (q : Rat) : Tree (n + 1) (dq q) := .tup (by show 2 ≤ 1000; decide) fun d h => by
  rcases List.mem_cons.mp h with rfl | h
  · exact .int _
  · rcases List.mem_cons.mp h with rfl | h
    · exact .int _
    · cases h
theorem sql_ty {H : Hp} {a : Addr} {xs : List V} (h : SqL K H a xs) : TyX K H (.ref a) (.type "list") := by
  rcases h with (h | ⟨o, h⟩) | ⟨o, its, n, h, c, _⟩
  · exact .base (.lst h)
  · exact .base (.frz h)
  · exact .kList h c
theorem sqt_ty {H : Hp} {a : Addr} {xs : List V} (h : SqT K H a xs) : TyX K H (.ref a) (.type "tuple") := by
  rcases h with (h | ⟨o, h⟩) | ⟨o, its, n, h, c, _⟩
  · exact .base (.tup h)
  · exact .fTuple h
  · exact .kTuple h c
theorem dpall_len {H : Hp} : ∀ {vs : List V} {ds : List PyData}, DpAll K H vs ds → vs.length = ds.length
  | _, _, .nil => rfl
  | _, _, .cons _ t => by simp [dpall_len t]
theorem dpall_at {H : Hp} : ∀ {vs : List V} {ds : List PyData}, DpAll K H vs ds → ∀ {i : Nat} {d : PyData}, ds[i]? = some d → ∃ v, vs[i]? = some v ∧ Dp K H v d
  | _, _, .nil, i, d, h => by simp at h
  | _, _, .cons r t, 0, d, h => ⟨_, rfl, by rw [← Option.some.inj h]; exact r⟩
  | _, _, .cons r t, i + 1, d, h => dpall_at t h
abbrev s__law_is_int : Stmt := top 34
abbrev N__law_is_int : List Str := ["_law_value"]
theorem sc__law_is_int : FnScope N__law_is_int ["_law_value"] (defScope s__law_is_int) := ⟨rfl, rfl, rfl, by decide +kernel, rfl, by decide +kernel, by decide +kernel⟩
abbrev ps__law_is_int : List Str := ["_law_value"]
def spIsInt (K : PySem.W.Frag) : Sp := fun vs H Q _ => ∃ i : Int, vs = [.int i] ∧ Q (.bl true) H
theorem ok_is_int (T : Bn mg) (F : Fn K mg "_law_is_int" s__law_is_int ps__law_is_int f fd) : Def P w K mg base (k + 1) "_law_is_int" ps__law_is_int (spIsInt K) f fd := by
  refine ⟨F.F.ok sc__law_is_int (fun vs H Q E h => ?_) (fun cdv A outer s H vs Q E hr h => ?_), F.m, F.F.kp, F.b⟩
  · obtain ⟨i, rfl, _⟩ := h
    rfl
  obtain ⟨i, rfl, z⟩ := h
  refine ⟨_, (pss_one (ps_ret (pe_and (pe_callB call_isi (by rfl) T.isinstance_ (by decide +kernel) (pa_cons (pv 0) (pa_cons (pe_bltn (v := .ty "int") (by rfl) T.int_ (by decide +kernel) rfl) pa_nil))) (pe_one (pe_not (pe_callB call_isi (by rfl) T.isinstance_ (by decide +kernel) (pa_cons (pv 0) (pa_cons (pe_bltn (v := .ty "bool") (by rfl) T.bool_ (by decide +kernel) rfl) pa_nil)))))))), ?_⟩
  exact ⟨_, rfl, _, _, _, _, true, rfl, .ty _, (.base (.int i)), kit_ty (by decide +kernel), _, rfl, ifT rfl ⟨_, rfl, _, _, _, _, false, rfl, .ty _, (.base (.int i)), kit_ty (by decide +kernel), _, rfl, z⟩⟩
abbrev s__law_same : Stmt := top 35
abbrev N__law_same : List Str := ["_law_value", "_law_due", "_law_keys", "_law_name", "_law_k"]
theorem sc__law_same : FnScope N__law_same ["_law_value", "_law_due"] (defScope s__law_same) := ⟨rfl, rfl, rfl, by decide +kernel, rfl, by decide +kernel, by decide +kernel⟩
abbrev ps__law_same : List Str := ["_law_value", "_law_due"]
def spSame (K : PySem.W.Frag) (n : Nat) : Sp := fun vs H Q _ => ∃ (v u : V) (d : PyData), vs = [v, u] ∧ Dp K H v d ∧ Dp K H u d ∧ Tree n d ∧ Q (.bl true) H
theorem ok_same1 (T : Bn mg) (n : Nat) (F : Fn K mg "_law_same" s__law_same ps__law_same f fd) (d_law_is_int : Def P w K mg base (k + n) "_law_is_int" ["_law_value"] (spIsInt K) f1 fd1)
    (d_law_same : Def P w K mg base (k + n) "_law_same" ["_law_value", "_law_due"] (fun vs H Q E => ∃ m, m + 1 = n ∧ spSame K m vs H Q E) f fd) : Def P w K mg base (k + n + 1) "_law_same" ps__law_same (spSame K n) f fd := by
  refine ⟨F.F.ok sc__law_same (fun vs H Q E h => ?_) (fun cdv A outer s H vs Q E hr h => ?_), F.m, F.F.kp, F.b⟩
  · obtain ⟨v, u, d, rfl, _⟩ := h
    rfl
  obtain ⟨v, u, d, rfl, hv, hu, ht, z⟩ := h
  refine ⟨_, (pss_cons (ps_if (pt_cmpR op_isN (pv 1) pe_non (nomark _))
        (pss_one (ps_ret (pe_cmpR op_isN (pv 0) pe_non (nomark _))))
        pss_nil)
      (pss_cons (ps_if (pt_val (pe_callB call_isi (by rfl) T.isinstance_ (by decide +kernel) (pa_cons (pv 1) (pa_cons (pe_bltn (v := .ty "bool") (by rfl) T.bool_ (by decide +kernel) rfl) pa_nil))))
        (pss_one (ps_ret (pe_and (pe_callB call_isi (by rfl) T.isinstance_ (by decide +kernel) (pa_cons (pv 0) (pa_cons (pe_bltn (v := .ty "bool") (by rfl) T.bool_ (by decide +kernel) rfl) pa_nil))) (pe_one (pe_cmpR (op_eqD hr.units) (pv 0) (pv 1) (nomark _))))))
        pss_nil)
      (pss_cons (ps_if (pt_val (pe_callB call_isi (by rfl) T.isinstance_ (by decide +kernel) (pa_cons (pv 1) (pa_cons (pe_bltn (v := .ty "int") (by rfl) T.int_ (by decide +kernel) rfl) pa_nil))))
        (pss_one (ps_ret (pe_and (pcall d_law_is_int hr (pa_cons (pv 0) pa_nil)) (pe_one (pe_cmpR (op_eqD hr.units) (pv 0) (pv 1) (nomark _))))))
        pss_nil)
      (pss_cons (ps_if (pt_val (pe_callB call_isi (by rfl) T.isinstance_ (by decide +kernel) (pa_cons (pv 1) (pa_cons (pe_bltn (v := .ty "str") (by rfl) T.str_ (by decide +kernel) rfl) pa_nil))))
        (pss_one (ps_ret (pe_and (pe_callB call_isi (by rfl) T.isinstance_ (by decide +kernel) (pa_cons (pv 0) (pa_cons (pe_bltn (v := .ty "str") (by rfl) T.str_ (by decide +kernel) rfl) pa_nil))) (pe_one (pe_cmpR (op_eqD hr.units) (pv 0) (pv 1) (nomark _))))))
        pss_nil)
      (pss_cons (ps_if (pt_val (pe_callB call_isi (by rfl) T.isinstance_ (by decide +kernel) (pa_cons (pv 1) (pa_cons (pe_bltn (v := .ty "dict") (by rfl) T.dict_ (by decide +kernel) rfl) pa_nil))))
        pss_never
        pss_nil)
      (pss_cons (ps_if (PW.pt (pw_and (pt_val (pe_callB call_isi (by rfl) T.isinstance_ (by decide +kernel) (pa_cons (pv 1) (pa_cons (pe_bltn (v := .ty "list") (by rfl) T.list_ (by decide +kernel) rfl) pa_nil)))) (pw_and1 (pt_not (pt_val (pe_callB call_isi (by rfl) T.isinstance_ (by decide +kernel) (pa_cons (pv 0) (pa_cons (pe_bltn (v := .ty "list") (by rfl) T.list_ (by decide +kernel) rfl) pa_nil))))))))
        (pss_one (ps_ret pe_bl))
        pss_nil)
      (pss_cons (ps_if (PW.pt (pw_and (pt_val (pe_callB call_isi (by rfl) T.isinstance_ (by decide +kernel) (pa_cons (pv 1) (pa_cons (pe_bltn (v := .ty "tuple") (by rfl) T.tuple_ (by decide +kernel) rfl) pa_nil)))) (pw_and1 (pt_not (pt_val (pe_callB call_isi (by rfl) T.isinstance_ (by decide +kernel) (pa_cons (pv 0) (pa_cons (pe_bltn (v := .ty "tuple") (by rfl) T.tuple_ (by decide +kernel) rfl) pa_nil))))))))
        (pss_one (ps_ret pe_bl))
        pss_nil)
      (pss_cons (ps_if (pt_cmpR op_ne (pe_callB call_len_seq (by rfl) T.len_ PySem.boot_len (pa_cons (pv 0) pa_nil)) (pe_callB call_len_seq (by rfl) T.len_ PySem.boot_len (pa_cons (pv 1) pa_nil)) (nomark _))
        (pss_one (ps_ret pe_bl))
        pss_nil)
      (pss_cons (ps_for PassesOwn.never rfl (pi_range1 (by rfl) T.range_ (pa_cons (pe_callB call_len_seq (by rfl) T.len_ PySem.boot_len (pa_cons (pv 1) pa_nil)) pa_nil)) (pg_name (i := 4) sc__law_same.nd rfl (Or.inl rfl))
        (pss_one (ps_if (pt_not (pt_val (pcall d_law_same hr (pa_cons (pe_ix ix_seq (pv 0) (pv 4) (fun _ _ => rfl)) (pa_cons (pe_ix ix_seq (pv 1) (pv 4) (fun _ _ => rfl)) pa_nil)))))
          (pss_one (ps_ret pe_bl))
          pss_nil)))
      (pss_one (ps_ret pe_bl))))))))))), ?_⟩
  cases ht with
  | int i =>
    cases hv
    cases hu
    refine ⟨_, rfl, rfl, _, rfl, ifF (dF nofun) ⟨_, rfl, _, _, _, _, false, rfl, .ty _, (.base (.int i)), kit_ty (by decide +kernel), _, rfl, ifF rfl ⟨_, rfl, _, _, _, _, true, rfl, .ty _, (.base (.int i)), kit_ty (by decide +kernel), _, rfl, ifT rfl ?_⟩⟩⟩
    refine ⟨_, rfl, i, rfl, _, rfl, ifT rfl ⟨_, rfl, _, rfl, _, _, .int i, .int i, rfl, rfl, ?_⟩⟩
    rw [show PyData.eqv (.int i) (.int i) = true from beq_self_eq_true i]
    exact z
  | non =>
    cases hv
    cases hu
    exact ⟨_, rfl, rfl, _, rfl, ifT (dT rfl) ⟨_, rfl, rfl, z⟩⟩
  | @str _ s hs =>
    cases hv
    cases hu
    refine ⟨_, rfl, rfl, _, rfl, ifF (dF nofun) ⟨_, rfl, _, _, _, _, false, rfl, .ty _, (.base (.str s)), kit_ty (by decide +kernel), _, rfl, ifF rfl ⟨_, rfl, _, _, _, _, false, rfl, .ty _, (.base (.str s)), kit_ty (by decide +kernel), _, rfl, ifF rfl ⟨_, rfl, _, _, _, _, true, rfl, .ty _, (.base (.str s)), kit_ty (by decide +kernel), _, rfl, ifT rfl ?_⟩⟩⟩⟩
    refine ⟨_, rfl, _, _, _, _, true, rfl, .ty _, (.base (.str s)), kit_ty (by decide +kernel), _, rfl, ifT rfl ⟨_, rfl, _, rfl, _, _, .str s, .str s, hs, hs, ?_⟩⟩
    rw [show PyData.eqv (.str s) (.str s) = true from beq_self_eq_true s]
    exact z
  | tup hl hall =>
    rename_i m ds
    cases hv with
    | tup ha da =>
    rename_i a xs
    cases hu with
    | tup hb db =>
    rename_i b ys
    have lx := dpall_len da
    have ly := dpall_len db
    have ta := sqt_ty ha
    have tb := sqt_ty hb
    refine ⟨_, rfl, rfl, _, rfl, ifF (dF nofun) ⟨_, rfl, _, _, _, _, false, rfl, .ty _, tb, kit_ty (by decide +kernel), _, rfl, ifF rfl ⟨_, rfl, _, _, _, _, false, rfl, .ty _, tb, kit_ty (by decide +kernel), _, rfl, ifF rfl ⟨_, rfl, _, _, _, _, false, rfl, .ty _, tb, kit_ty (by decide +kernel), _, rfl, ifF rfl ⟨_, rfl, _, _, _, _, false, rfl, .ty _, tb, kit_ty (by decide +kernel), _, rfl, ifF rfl ?_⟩⟩⟩⟩⟩
    refine ⟨_, rfl, _, _, _, _, false, rfl, .ty _, tb, kit_ty (by decide +kernel), _, rfl, ifF rfl (ifF rfl ⟨_, rfl, _, _, _, _, true, rfl, .ty _, tb, kit_ty (by decide +kernel), _, rfl, ifT rfl ⟨_, rfl, _, _, _, _, true, rfl, .ty _, ta, kit_ty (by decide +kernel), _, rfl, ifF rfl ?_⟩⟩)⟩
    refine ⟨_, rfl, a, _, rfl, .inr ha, _, rfl, b, _, rfl, .inr hb, rfl, _, rfl, ifF ?_ ?_⟩
    · rw [lx, ly]
      simp
    have p62 : (2 : Int) ^ 62 = 4611686018427387904 := by decide
    refine ⟨_, rfl, b, _, rfl, .inr hb, _, rfl, by omega, by omega, for_range (n := ((ys.length : Nat) : Int).toNat) (fun i σ H' => ∃ kk, σ = [some (.ref a), some (.ref b), none, none, kk] ∧ H' = H) ⟨none, rfl, rfl⟩ ?_ ?_⟩
    · rintro i σ H' hi ⟨kk, rfl, rfl⟩
      have hi' : i < ds.length := by omega
      obtain ⟨v, hv, dv⟩ := dpall_at da (List.getElem?_eq_getElem hi')
      obtain ⟨u, hu, du⟩ := dpall_at db (List.getElem?_eq_getElem hi')
      refine ⟨_, rfl, _, rfl, .inr (.inl ⟨a, _, _, v, rfl, rfl, ha, at_of (j := i) (by omega) hv, _, rfl, _, rfl, .inr (.inl ⟨b, _, _, u, rfl, rfl, hb, at_of (j := i) (by omega) hu, m, rfl, v, u, _, rfl, dv, du, hall _ (List.getElem_mem hi'), ?_⟩)⟩)⟩
      exact ⟨_, rfl, ifF rfl ⟨_, rfl, rfl⟩⟩
    · rintro σ H' ⟨kk, rfl, rfl⟩
      exact z
  | lst hl hall =>
    rename_i m ds
    cases hv with
    | lst ha da =>
    rename_i a xs
    cases hu with
    | lst hb db =>
    rename_i b ys
    have lx := dpall_len da
    have ly := dpall_len db
    have ta := sql_ty ha
    have tb := sql_ty hb
    refine ⟨_, rfl, rfl, _, rfl, ifF (dF nofun) ⟨_, rfl, _, _, _, _, false, rfl, .ty _, tb, kit_ty (by decide +kernel), _, rfl, ifF rfl ⟨_, rfl, _, _, _, _, false, rfl, .ty _, tb, kit_ty (by decide +kernel), _, rfl, ifF rfl ⟨_, rfl, _, _, _, _, false, rfl, .ty _, tb, kit_ty (by decide +kernel), _, rfl, ifF rfl ⟨_, rfl, _, _, _, _, false, rfl, .ty _, tb, kit_ty (by decide +kernel), _, rfl, ifF rfl ?_⟩⟩⟩⟩⟩
    refine ⟨_, rfl, _, _, _, _, true, rfl, .ty _, tb, kit_ty (by decide +kernel), _, rfl, ifT rfl ⟨_, rfl, _, _, _, _, true, rfl, .ty _, ta, kit_ty (by decide +kernel), _, rfl, ifF rfl ⟨_, rfl, _, _, _, _, false, rfl, .ty _, tb, kit_ty (by decide +kernel), _, rfl, ifF rfl (ifF rfl ?_)⟩⟩⟩
    refine ⟨_, rfl, a, _, rfl, .inl ha, _, rfl, b, _, rfl, .inl hb, rfl, _, rfl, ifF ?_ ?_⟩
    · rw [lx, ly]
      simp
    have p62 : (2 : Int) ^ 62 = 4611686018427387904 := by decide
    refine ⟨_, rfl, b, _, rfl, .inl hb, _, rfl, by omega, by omega, for_range (n := ((ys.length : Nat) : Int).toNat) (fun i σ H' => ∃ kk, σ = [some (.ref a), some (.ref b), none, none, kk] ∧ H' = H) ⟨none, rfl, rfl⟩ ?_ ?_⟩
    · rintro i σ H' hi ⟨kk, rfl, rfl⟩
      have hi' : i < ds.length := by omega
      obtain ⟨v, hv, dv⟩ := dpall_at da (List.getElem?_eq_getElem hi')
      obtain ⟨u, hu, du⟩ := dpall_at db (List.getElem?_eq_getElem hi')
      refine ⟨_, rfl, _, rfl, .inl ⟨a, _, _, v, rfl, rfl, ha, at_of (j := i) (by omega) hv, _, rfl, _, rfl, .inl ⟨b, _, _, u, rfl, rfl, hb, at_of (j := i) (by omega) hu, m, rfl, v, u, _, rfl, dv, du, hall _ (List.getElem_mem hi'), ?_⟩⟩⟩
      exact ⟨_, rfl, ifF rfl ⟨_, rfl, rfl⟩⟩
    · rintro σ H' ⟨kk, rfl, rfl⟩
      exact z
abbrev s__law_size : Stmt := top 33
abbrev N__law_size : List Str := ["_law_store_here", "_law_least", "_law_top", "_law_sort"]
theorem sc__law_size : FnScope N__law_size ["_law_store_here", "_law_least", "_law_top"] (defScope s__law_size) := ⟨rfl, rfl, rfl, by decide +kernel, rfl, by decide +kernel, by decide +kernel⟩
abbrev ps__law_size : List Str := ["_law_store_here", "_law_least", "_law_top"]
def spSize (K : PySem.W.Frag) (l : Addr) : Sp := fun vs H Q _ => ∃ (s : Addr) (lo hi : Int), vs = [.ref s, .int lo, .int hi] ∧ Sto l s H ∧ lo ≤ hi ∧ hi - lo < 2 ^ 32 ∧ ∀ (r : Int) H', lo ≤ r → r ≤ hi → Sto l s H' → Fr s H H' → Q (.int r) H'
theorem ok_size (F : Fn K mg "_law_size" s__law_size ps__law_size f fd) (d_law_take : Def P w K mg base k "_law_take" ["_law_store_here", "_law_many"] (spTake K l) f1 fd1) : Def P w K mg base (k + 1) "_law_size" ps__law_size (spSize K l) f fd := by
  refine ⟨F.F.ok sc__law_size (fun vs H Q E h => ?_) (fun cdv A outer s H vs Q E hr h => ?_), F.m, F.F.kp, F.b⟩
  · obtain ⟨_, _, _, rfl, _⟩ := h
    rfl
  obtain ⟨s, lo, hi, rfl, hS, h1, h2, z⟩ := h
  refine ⟨_, (pss_cons (ps_set (i := 3) sc__law_size.nd rfl (Or.inl rfl) (pcall d_law_take hr (pa_cons (pv 0) (pa_cons pe_int pa_nil))))
      (pss_cons (ps_if (pt_cmpR op_eq (pv 3) pe_int (nomark _))
        (pss_one (ps_ret (pv 1)))
        pss_nil)
      (pss_cons (ps_if (pt_cmpR op_eq (pv 3) pe_int (nomark _))
        (pss_one (ps_ret (pv 2)))
        pss_nil)
      (pss_one (ps_ret (pe_op op_add (pv 1) (pcall d_law_take hr (pa_cons (pv 0) (pa_cons (pe_op op_add (pe_op op_sub (pv 2) (pv 1)) pe_int) pa_nil))))))))), ?_⟩
  have p32 : (2 : Int) ^ 32 = 4294967296 := by decide
  have p64 : (2 : Int) ^ 64 = 18446744073709551616 := by decide
  refine ⟨_, rfl, s, 6, rfl, hS, by decide, fun r H1 r0 r1 S1 e1 => ?_⟩
  refine ⟨_, rfl, rfl, _, rfl, ifD (fun _ => ⟨_, rfl, z _ _ (by omega) h1 S1 e1⟩) (fun _ => ?_)⟩
  refine ⟨_, rfl, rfl, _, rfl, ifD (fun _ => ⟨_, rfl, z _ _ h1 (by omega) S1 e1⟩) (fun _ => ?_)⟩
  refine ⟨_, rfl, _, rfl, _, rfl, _, rfl, _, _, rfl, rfl, _, _, rfl, rfl, s, _, rfl, S1, by omega, fun r' H2 r2 r3 S2 e2 => ⟨_, _, rfl, rfl, ?_⟩⟩
  exact z _ _ (by omega) (by omega) S2 (e1.trans e2)
theorem ok_same (T : Bn mg) (F : Fn K mg "_law_same" s__law_same ps__law_same f fd) (d_law_is_int : Def P w K mg base k "_law_is_int" ["_law_value"] (spIsInt K) f1 fd1) : ∀ n, Def P w K mg base (k + n + 1) "_law_same" ps__law_same (spSame K n) f fd
  | 0 => ok_same1 T 0 F (d_law_is_int.up (Nat.le_refl _)) ⟨⟨fun vs H Q E h => by obtain ⟨m, h, _⟩ := h; omega, fun A outer s H args us vs Q E _ _ _ _ h => by obtain ⟨m, h, _⟩ := h; omega⟩, F.m, F.F.kp, F.b⟩
  | n + 1 => by
    have ih := ok_same T F d_law_is_int n
    exact ok_same1 T (n + 1) F (d_law_is_int.up (by omega)) ⟨ih.ok.imp fun vs H Q E h => by
      obtain ⟨m, h, q⟩ := h
      have e : m = n := by omega
      subst e
      exact q, F.m, F.F.kp, F.b⟩
end Vk
namespace Vk
open PySem L2 Vm
variable {l : Addr} {P : Program} {w : World} {K : PySem.W.Frag} {mg : Str → Option Value} {base : Heap} {k : Nat} {f f1 f2 f3 f4 f5 f6 f7 f8 f9 : Addr} {fd fd1 fd2 fd3 fd4 fd5 fd6 fd7 fd8 fd9 : FuncData}
/-! ### drawn rationals -/
def Qd (K : PySem.W.Frag) (m : Nat) (ok : Rat → Prop) (H : Hp) (v : V) : Prop := ∃ q, Rq K H v q ∧ Sz m q ∧ ok q
theorem Qd.same {m : Nat} {ok : Rat → Prop} {H H' : Hp} {v : V} (e : Same H H') (h : Qd K m ok H v) : Qd K m ok H' v := by
  obtain ⟨q, h, r⟩ := h
  exact ⟨q, h.same e, r⟩
theorem Qd.fr {m : Nat} {ok : Rat → Prop} {s : Addr} {H H' : Hp} {v : V} (e : Fr s H H') (hs : Sto l s H) (h : Qd K m ok H v) : Qd K m ok H' v := by
  obtain ⟨q, h, r⟩ := h
  exact ⟨q, h.fr e hs.some, r⟩
theorem Qd.new {m : Nat} {ok : Rat → Prop} {H : Hp} {t : Addr} (n d : Int) (q : Rat) (en : q.num = n) (ed : (q.den : Int) = d) (z : Sz m q) (o : ok q) : Qd K m ok (upd H t (.tup [.int n, .int d])) (.ref t) :=
  ⟨q, ⟨t, rfl, SqT.of (by rw [upd_same, en, ed])⟩, z, o⟩
theorem rq_new {H : Hp} {t : Addr} (n d : Int) (q : Rat) (en : q.num = n) (ed : (q.den : Int) = d) : Rq K (upd H t (.tup [.int n, .int d])) (.ref t) q := ⟨t, rfl, SqT.of (by rw [upd_same, en, ed])⟩
instance (k : Nat) (q : Rat) : Decidable (Sz k q) := inferInstanceAs (Decidable (_ ∧ _))
/-- a written pair: from then on a drawn rational -/
theorem newq {m : Nat} {ok : Rat → Prop} {H : Hp} {Q : V → Hp → Prop} (n d : Int) (q : Rat) (en : q.num = n) (ed : (q.den : Int) = d) (z : Sz m q) (o : ok q) (h : ∀ v H', Same H H' → Qd K m ok H' v → Q v H') : ∀ t, H t = none → Q (.ref t) (upd H t (.tup [.int n, .int d])) :=
  fun t ht => h _ _ (same_new ht _) (Qd.new n d q en ed z o)
def anyQ : Rat → Prop := fun _ => True
def posQ : Rat → Prop := fun q => 0 < q
instance (q : Rat) : Decidable (posQ q) := inferInstanceAs (Decidable (0 < q))
/-- a rational is drawn -/
def spDraw (K : PySem.W.Frag) (l : Addr) (m : Nat) (ok : Rat → Prop) : Sp := fun vs H Q _ => ∃ (s : Addr), vs = [.ref s] ∧ Sto l s H ∧ ∀ (v : V) H', Qd K m ok H' v → Sto l s H' → Fr s H H' → Q v H'
theorem mk_pos {n d : Int} (hn : 0 < n) (hd : 0 < d) : 0 < mkRat n d.toNat := by
  refine pos_of_num ?_
  have dn : d.toNat ≠ 0 := by omega
  rw [mk_num n dn]
  have g := Nat.gcd_le_left d.toNat (show 0 < n.natAbs by omega)
  have gp : 0 < Nat.gcd n.natAbs d.toNat := Nat.gcd_pos_of_pos_left _ (by omega)
  exact Int.ediv_pos_of_pos_of_dvd hn (by omega) (by
    have := Nat.gcd_dvd_left n.natAbs d.toNat
    have e : n = (n.natAbs : Int) := by omega
    rw [e]
    exact Int.natCast_dvd_natCast.mpr (by rw [Int.natAbs_natCast]; exact this))
theorem lt2 {i : Int} {b : Nat} (c : Nat) (h : i.natAbs < c) (e : c ≤ 2 ^ b) : i.natAbs < 2 ^ b := Nat.lt_of_lt_of_le h e
abbrev s__law_part : Stmt := top 41
abbrev N__law_part : List Str := ["_law_store_here", "_law_sort"]
theorem sc__law_part : FnScope N__law_part ["_law_store_here"] (defScope s__law_part) := ⟨rfl, rfl, rfl, by decide +kernel, rfl, by decide +kernel, by decide +kernel⟩
abbrev ps__law_part : List Str := ["_law_store_here"]
theorem ok_part (F : Fn K mg "_law_part" s__law_part ps__law_part f fd) (d_law_take : Def P w K mg base k "_law_take" ["_law_store_here", "_law_many"] (spTake K l) f1 fd1) (d_law_pick : Def P w K mg base k "_law_pick" ["_law_store_here", "_law_things"] (spPick K l) f2 fd2)
    (d_law_frac : Def P w K mg base k "_law_frac" ["_law_n", "_law_d"] (spFrac K) f3 fd3) : Def P w K mg base (k + 1) "_law_part" ps__law_part (spDraw K l 5 anyQ) f fd := by
  refine ⟨F.F.ok sc__law_part (fun vs H Q E h => ?_) (fun cdv A outer s H vs Q E hr h => ?_), F.m, F.F.kp, F.b⟩
  · obtain ⟨_, rfl, _⟩ := h
    rfl
  obtain ⟨s, rfl, hS, z⟩ := h
  refine ⟨_, (pss_cons (ps_set (i := 1) sc__law_part.nd rfl (Or.inl rfl) (pcall d_law_take hr (pa_cons (pv 0) (pa_cons pe_int pa_nil))))
      (pss_cons (ps_if (pt_cmpR op_lt (pv 1) pe_int (nomark _))
        (pss_one (ps_ret (pcall d_law_pick hr (pa_cons (pv 0) (pa_cons (pe_lst (pa_cons (pe_tup (pa_cons pe_int (pa_cons pe_int pa_nil))) (pa_cons (pe_tup (pa_cons pe_int (pa_cons pe_int pa_nil))) (pa_cons (pe_tup (pa_cons pe_int (pa_cons pe_int pa_nil))) (pa_cons (pe_tup (pa_cons (pe_un un_neg pe_int) (pa_cons pe_int pa_nil))) (pa_cons (pe_tup (pa_cons pe_int (pa_cons pe_int pa_nil))) (pa_cons (pe_tup (pa_cons (pe_un un_neg pe_int) (pa_cons pe_int pa_nil))) pa_nil))))))) pa_nil)))))
        pss_nil)
      (pss_one (ps_ret (pcall d_law_frac hr (pa_cons (pe_op op_sub (pcall d_law_take hr (pa_cons (pv 0) (pa_cons pe_int pa_nil))) pe_int) (pa_cons (pe_op op_add pe_int (pcall d_law_take hr (pa_cons (pv 0) (pa_cons pe_int pa_nil)))) pa_nil))))))), ?_⟩
  refine ⟨_, rfl, s, 6, rfl, hS, by decide, fun r H1 r0 r1 S1 e1 => ?_⟩
  refine ⟨_, rfl, _, _, rfl, rfl, _, rfl, ifD (fun _ => ?_) (fun _ => ?_)⟩
  · refine ⟨_, rfl, sz2, fun t1 h1 => ?_⟩
    have c1 := same_new h1 (.tup [.int 0, .int 1]); have q1 := Qd.new (K := K) (m := 5) (ok := anyQ) (H := H1) (t := t1) 0 1 (0) (by decide) (by decide) (by decide) trivial; generalize upd H1 t1 (.tup [.int 0, .int 1]) = G1 at c1 q1 ⊢
    refine ⟨sz2, fun t2 h2 => ?_⟩
    have c2 := same_new h2 (.tup [.int 0, .int 1]); have q2 := Qd.new (K := K) (m := 5) (ok := anyQ) (H := G1) (t := t2) 0 1 (0) (by decide) (by decide) (by decide) trivial; generalize upd G1 t2 (.tup [.int 0, .int 1]) = G2 at c2 q2 ⊢
    refine ⟨sz2, fun t3 h3 => ?_⟩
    have c3 := same_new h3 (.tup [.int 1, .int 1]); have q3 := Qd.new (K := K) (m := 5) (ok := anyQ) (H := G2) (t := t3) 1 1 (1) (by decide) (by decide) (by decide) trivial; generalize upd G2 t3 (.tup [.int 1, .int 1]) = G3 at c3 q3 ⊢
    refine ⟨_, rfl, sz2, fun t4 h4 => ?_⟩
    have c4 := same_new h4 (.tup [.int (-1), .int 1]); have q4 := Qd.new (K := K) (m := 5) (ok := anyQ) (H := G3) (t := t4) (-1) 1 (-1) (by decide) (by decide) (by decide) trivial; generalize upd G3 t4 (.tup [.int (-1), .int 1]) = G4 at c4 q4 ⊢
    refine ⟨sz2, fun t5 h5 => ?_⟩
    have c5 := same_new h5 (.tup [.int 1, .int 2]); have q5 := Qd.new (K := K) (m := 5) (ok := anyQ) (H := G4) (t := t5) 1 2 (mkRat 1 2) (by decide) (by decide) (by decide) trivial; generalize upd G4 t5 (.tup [.int 1, .int 2]) = G5 at c5 q5 ⊢
    refine ⟨_, rfl, sz2, fun t6 h6 => ?_⟩
    have c6 := same_new h6 (.tup [.int (-1), .int 2]); have q6 := Qd.new (K := K) (m := 5) (ok := anyQ) (H := G5) (t := t6) (-1) 2 (mkRat (-1) 2) (by decide) (by decide) (by decide) trivial; generalize upd G5 t6 (.tup [.int (-1), .int 2]) = G6 at c6 q6 ⊢
    refine ⟨sm6, fun p h7 => ?_⟩
    have c7 := same_new h7 (.lst [.ref t1, .ref t2, .ref t3, .ref t4, .ref t5, .ref t6])
    have d6 := c6.trans c7; have d5 := c5.trans d6; have d4 := c4.trans d5; have d3 := c3.trans d4; have d2 := c2.trans d3; have d1 := c1.trans d2
    have S7 := S1.same d1
    have q1 := q1.same d2; have q2 := q2.same d3; have q3 := q3.same d4; have q4 := q4.same d5; have q5 := q5.same d6; have q6 := q6.same c7
    refine ⟨s, p, _, rfl, S7, (S1.same (c1.trans (c2.trans (c3.trans (c4.trans (c5.trans c6)))))).ne h7, SqL.of upd_same, (by show 0 < 6; decide), (by show 6 < 2 ^ 32; decide), fun v H' hv S' e' => z _ _ ?_ S' (e1.trans ((Fr.of d1).trans e'))⟩
    refine Qd.fr e' S7 ?_
    simp only [List.mem_cons, List.mem_nil_iff, or_false] at hv
    rcases hv with rfl | rfl | rfl | rfl | rfl | rfl <;> assumption
  · refine ⟨_, rfl, s, 49, rfl, S1, by decide, fun r2 H2 r3 r4 S2 e2 => ⟨_, _, rfl, rfl, ?_⟩⟩
    refine ⟨_, rfl, s, 6, rfl, S2, by decide, fun r5 H3 r6 r7 S3 e3 => ⟨_, _, rfl, rfl, ?_⟩⟩
    refine ⟨_, _, 5, rfl, by omega, lt2 25 (by omega) (by decide), lt2 7 (by omega) (by decide), by decide, fun v H' e hv => z _ _ ⟨_, hv, sz_mk (by omega) ?_ ?_, trivial⟩ (S3.same e) (e1.trans (e2.trans (e3.trans (Fr.of e))))⟩
    · exact lt2 25 (by omega) (by decide)
    · have : (2 : Nat) ^ 5 = 32 := by decide
      omega
/-- one rational in, one near it out -/
def spNear (K : PySem.W.Frag) (l : Addr) : Sp := fun vs H Q _ => ∃ (s : Addr) (x : V) (m : Nat), vs = [.ref s, x] ∧ Sto l s H ∧ m + 11 ≤ 9000 ∧ Qd K m anyQ H x ∧ ∀ (v : V) H', Qd K (m + 11) anyQ H' v → Sto l s H' → Fr s H H' → Q v H'
end Vk
namespace Vk
open PySem L2 Vm
variable {P : Program} {w : World} {K : PySem.W.Frag} {mg : Str → Option Value} {base : Heap} {k : Nat} {f f1 f2 f3 f4 f5 f6 f7 f8 f9 : Addr} {fd fd1 fd2 fd3 fd4 fd5 fd6 fd7 fd8 fd9 : FuncData}
/-! ### courses -/
structure Pc where
  s : Rat
  v : Rat
  r : Rat
def Pq (K : PySem.W.Frag) (H : Hp) (x : V) (p : Pc) : Prop := ∃ a xs xv xr, x = .ref a ∧ SqT K H a [xs, xv, xr] ∧ Rq K H xs p.s ∧ Rq K H xv p.v ∧ Rq K H xr p.r
theorem Pq.same {H H' : Hp} {x : V} {p : Pc} (e : Same H H') (h : Pq K H x p) : Pq K H' x p := by
  obtain ⟨a, xs, xv, xr, rfl, h, h1, h2, h3⟩ := h
  exact ⟨a, xs, xv, xr, rfl, e.sqt h, h1.same e, h2.same e, h3.same e⟩
theorem Pq.fr {s : Addr} {H H' : Hp} {x : V} {p : Pc} (e : Fr s H H') (hs : ∃ ys, H s = some (.lst ys)) (h : Pq K H x p) : Pq K H' x p := by
  obtain ⟨a, xs, xv, xr, rfl, h, h1, h2, h3⟩ := h
  exact ⟨a, xs, xv, xr, rfl, sqt_fr e hs h, h1.fr e hs, h2.fr e hs, h3.fr e hs⟩
def All2 {α : Type} (R : V → α → Prop) (xs : List V) (c : List α) : Prop := xs.length = c.length ∧ ∀ (i : Nat) x p, xs[i]? = some x → c[i]? = some p → R x p
theorem All2.nil {α : Type} {R : V → α → Prop} : All2 R [] [] := ⟨rfl, fun i x p h => by simp at h⟩
theorem All2.imp {α : Type} {R R' : V → α → Prop} {xs : List V} {c : List α} (h : All2 R xs c) (g : ∀ x p, R x p → R' x p) : All2 R' xs c := ⟨h.1, fun i x p a b => g _ _ (h.2 i x p a b)⟩
theorem All2.snoc {α : Type} {R : V → α → Prop} {xs : List V} {c : List α} {x : V} {p : α} (h : All2 R xs c) (r : R x p) : All2 R (xs ++ [x]) (c ++ [p]) := by
  refine ⟨by simp [h.1], fun i y q a b => ?_⟩
  by_cases hi : i < xs.length
  · rw [List.getElem?_append_left hi] at a
    rw [List.getElem?_append_left (by rw [← h.1]; exact hi)] at b
    exact h.2 i y q a b
  · rw [List.getElem?_append_right (by omega)] at a
    rw [List.getElem?_append_right (by rw [← h.1]; omega)] at b
    have e : i - xs.length = 0 := by
      have := (List.getElem?_eq_some_iff.mp a).1
      simp at this
      omega
    rw [e] at a
    rw [← h.1, e] at b
    cases a
    cases b
    exact r
theorem All2.at {α : Type} {R : V → α → Prop} {xs : List V} {c : List α} (h : All2 R xs c) {i : Nat} {p : α} (e : c[i]? = some p) : ∃ x, xs[i]? = some x ∧ R x p := by
  have hi := (List.getElem?_eq_some_iff.mp e).1
  rw [← h.1] at hi
  exact ⟨xs[i], List.getElem?_eq_getElem hi, h.2 i _ _ (List.getElem?_eq_getElem hi) e⟩
/-- a list at a holds the course c -/
def Cq (K : PySem.W.Frag) (H : Hp) (a : Addr) (c : List Pc) : Prop := ∃ xs, SqL K H a xs ∧ All2 (Pq K H) xs c
theorem Cq.same {H H' : Hp} {a : Addr} {c : List Pc} (e : Same H H') (h : Cq K H a c) : Cq K H' a c := by
  obtain ⟨xs, h, g⟩ := h
  exact ⟨xs, e.seq h, g.imp fun _ _ h => h.same e⟩
theorem Cq.fr {s : Addr} {H H' : Hp} {a : Addr} {c : List Pc} (e : Fr s H H') (hs : ∃ ys, H s = some (.lst ys)) (n : a ≠ s) (h : Cq K H a c) : Cq K H' a c := by
  obtain ⟨xs, h, g⟩ := h
  exact ⟨xs, seq_fr e n h, g.imp fun _ _ h => h.fr e hs⟩
/-- sizes: starts, values, rates -/
def Cz (i j l : Nat) (c : List Pc) : Prop := ∀ p ∈ c, Sz i p.s ∧ Sz j p.v ∧ Sz l p.r
/-- a course's form -/
def Cok (c : List Pc) : Prop := (∀ p ∈ c, 0 < p.r) ∧ ∀ (i : Nat) p q, c[i]? = some p → c[i + 1]? = some q → p.s < q.s
def tm (p : Pc) (y : Rat) : Rat := p.s + (y - p.v) / p.r
def before (c : List Pc) (k : Nat) (t : Rat) : Bool := match c[k]? with
  | none => true
  | some q => decide (t < q.s)
def hit (c : List Pc) (y : Rat) (k : Nat) : Option Rat := match c[k]? with
  | none => none
  | some p => if p.s ≤ tm p y ∧ before c (k + 1) (tm p y) = true then some (tm p y) else none
def hits (c : List Pc) (y : Rat) (n : Nat) : List Rat := (List.range n).filterMap (hit c y)
theorem hits_succ (c : List Pc) (y : Rat) (n : Nat) : hits c y (n + 1) = hits c y n ++ (hit c y n).toList := by
  unfold hits
  rw [List.range_succ, List.filterMap_append]
  cases h : hit c y n <;> simp [h]
def spIsFrac (K : PySem.W.Frag) : Sp := fun vs H Q _ => ∃ (x : V) (q : Rat) (m : Nat), vs = [x] ∧ Rq K H x q ∧ Sz m q ∧ m ≤ 9000 ∧ ∀ H', Same H H' → Q (.bl true) H'
def spTimeOf (K : PySem.W.Frag) : Sp := fun vs H Q _ => ∃ (x y : V) (p : Pc) (q : Rat) (i j l m : Nat), vs = [x, y] ∧ Pq K H x p ∧ Rq K H y q ∧ Sz i p.s ∧ Sz j p.v ∧ Sz l p.r ∧ Sz m q ∧ 0 < p.r ∧ m + j + l + i + 3 ≤ 9000 ∧
  ∀ r H', Same H H' → Rq K H' r (tm p q) → Q r H'
def endV (K : PySem.W.Frag) (H : Hp) (c : List Pc) (n : Nat) (v : V) : Prop := match c[n]? with
  | none => v = .non
  | some p => Rq K H v p.s
def spEndOf (K : PySem.W.Frag) : Sp := fun vs H Q _ => ∃ (a : Addr) (n : Nat) (c : List Pc), vs = [.ref a, .int n] ∧ Cq K H a c ∧ ∀ v, endV K H c (n + 1) v → Q v H
end Vk
namespace Vk
open PySem L2 Vm
variable {P : Program} {w : World} {K : PySem.W.Frag} {mg : Str → Option Value} {base : Heap} {k : Nat} {f f1 f2 f3 f4 f5 f6 f7 f8 f9 : Addr} {fd fd1 fd2 fd3 fd4 fd5 fd6 fd7 fd8 fd9 : FuncData}
theorem for_enum {K : PySem.W.Frag} {a : Addr} {xs : List V} {g : TG} {tb : TS} {D : Ends} {σ : L2.St} {H : Hp} (Pv : Nat → L2.St → Hp → Prop) (h0 : Pv 0 σ H) (hq : ∀ i σ H, Pv i σ H → SqL K H a xs)
    (hs : ∀ (i : Nat) (x : V) (T : Addr) (σ : L2.St) (H : Hp), xs[i]? = some x → Pv i σ H → H T = none → g (.ref T) σ (upd H T (.tup [.int (i : Nat), x])) fun σ2 H2 => tb { D with nx := Pv (i + 1), ct := Pv (i + 1), bk := D.nx } σ2 H2) (hd : ∀ σ H, Pv xs.length σ H → D.nx σ H) :
    ∃ W : Nat → Nat → L2.St → Hp → Prop, (∃ m, W 0 m σ H) ∧ ∀ i m σ H, W i m σ H →
      ((Ite K a).stop i H ∧ D.nx σ H) ∨ ((Ite K a).go i H ∧ ∃ N : L2.St → Hp → Prop, (∀ σ' H', N σ' H' → ∃ m', m' < m ∧ W (i + 1) m' σ' H') ∧ ∀ v H', (Ite K a).yld i H v H' → g v σ H' fun σ2 H2 => tb { D with nx := N, ct := N, bk := D.nx } σ2 H2) := by
  refine ⟨fun i m σ H => m = xs.length - i ∧ i ≤ xs.length ∧ Pv i σ H, ⟨xs.length, rfl, Nat.zero_le _, h0⟩, ?_⟩
  rintro i m σ H ⟨rfl, hi, p⟩
  have qx := hq i σ H p
  by_cases hlt : i < xs.length
  · have hx : xs[i]? = some xs[i] := List.getElem?_eq_getElem hlt
    refine .inr ⟨⟨xs, _, qx, hx⟩, Pv (i + 1), fun σ' H' p' => ⟨xs.length - (i + 1), by omega, rfl, hlt, p'⟩, fun v H' y => ?_⟩
    obtain ⟨T, x', rfl, hT, rfl, f1⟩ := y
    exact hs i x' T σ H (f1 xs qx) p hT
  · have e : i = xs.length := by omega
    subst e
    exact .inl ⟨⟨xs, qx, Nat.le_refl _⟩, hd σ H p⟩
theorem sg_ge {p q : Rat} : 0 ≤ sg p q ↔ q ≤ p := by
  unfold sg
  split
  · rename_i h
    subst h
    simp [Rat.le_refl]
  · split
    · rename_i h1 h2
      constructor
      · intro h; omega
      · intro h; exact absurd (Rat.not_lt.mpr h) (fun g => g h2)
    · rename_i h1 h2
      constructor
      · intro _; exact Rat.not_lt.mp h2
      · intro _; omega
theorem sg_lt {p q : Rat} : sg p q < 0 ↔ p < q := by
  unfold sg
  split
  · rename_i h
    subst h
    constructor
    · intro h; omega
    · intro h; exact absurd h Rat.lt_irrefl
  · split
    · rename_i h1 h2
      exact ⟨fun _ => h2, fun _ => by omega⟩
    · rename_i h1 h2
      exact ⟨fun h => by omega, fun h => absurd h h2⟩
theorem same_upd {H H' : Hp} {D : Addr} (e : Same H H') (h : H D = none) (o : HO) : Same H (upd H' D o) := fun b u q => by rw [upd_ne (ne_of_none q h)]; exact e b u q
theorem hits_len (c : List Pc) (y : Rat) (n : Nat) : (hits c y n).length ≤ n := by
  have := List.length_filterMap_le (hit c y) (List.range n)
  rw [List.length_range] at this
  exact this
theorem le1000 {n : Nat} (h : n ≤ 1000) : n < sizeLine := Nat.lt_of_le_of_lt h (by decide)
def spTimes (K : PySem.W.Frag) : Sp := fun vs H Q _ => ∃ (a : Addr) (y : V) (c : List Pc) (q : Rat) (i j l m : Nat), vs = [.ref a, y] ∧ Cq K H a c ∧ Rq K H y q ∧ Cz i j l c ∧ Sz m q ∧ (∀ p ∈ c, 0 < p.r) ∧ c.length ≤ 1000 ∧ m + j + l + i + i + 4 ≤ 9000 ∧
  ∀ D us H', Same H H' → H D = none → H' D = some (.lst us) → All2 (Rq K H') us (hits c q c.length) → Q (.ref D) H'
end Vk
namespace Vk
open PySem L2 Vm
variable {P : Program} {w : World} {K : PySem.W.Frag} {mg : Str → Option Value} {base : Heap} {k : Nat} {f f1 f2 f3 f4 f5 f6 f7 f8 f9 : Addr} {fd fd1 fd2 fd3 fd4 fd5 fd6 fd7 fd8 fd9 : FuncData}
def optV (K : PySem.W.Frag) (H : Hp) (v : V) : Option Rat → Prop
  | none => v = .non
  | some q => Rq K H v q
def lim (c : List Pc) (n : Nat) : Option Rat := match c[n]? with
  | none => none
  | some p => match c[n + 1]? with
    | none => none
    | some q => some (p.v + p.r * (q.s - p.s))
def spLimit (K : PySem.W.Frag) : Sp := fun vs H Q _ => ∃ (a : Addr) (n : Nat) (c : List Pc) (i j l : Nat), vs = [.ref a, .int n] ∧ Cq K H a c ∧ n < c.length ∧ Cz i j l c ∧ i + i + l + j + 3 ≤ 9000 ∧ ∀ v H', Same H H' → optV K H' v (lim c n) → Q v H'
def on (t : Rat) (p : Pc) : Bool := !decide (t < p.s)
def nowf (c : List Pc) (t : Rat) : Option Rat := ((c.filter (on t)).getLast?).map fun p => p.v + p.r * (t - p.s)
theorem filter_more {α : Type} {c : List α} {i : Nat} {p : α} (g : α → Bool) (h : c[i]? = some p) : (c.take (i + 1)).filter g = (c.take i).filter g ++ (if g p = true then [p] else []) := by
  rw [List.take_add_one, h, List.filter_append]
  congr 1
  simp only [Option.toList]
  cases e : g p <;> simp [e]
def spNow (K : PySem.W.Frag) : Sp := fun vs H Q _ => ∃ (a : Addr) (y : V) (c : List Pc) (t : Rat) (i j l m : Nat), vs = [.ref a, y] ∧ Cq K H a c ∧ Rq K H y t ∧ Cz i j l c ∧ Sz m t ∧ c.length ≤ 1000 ∧ m + i + l + j + 3 ≤ 9000 ∧ ∀ v H', Same H H' → optV K H' v (nowf c t) → Q v H'
end Vk
namespace Vk
open PySem L2 Vm
variable {l : Addr} {P : Program} {w : World} {K : PySem.W.Frag} {mg : Str → Option Value} {base : Heap} {k : Nat} {f f1 f2 f3 f4 f5 f6 f7 f8 f9 : Addr} {fd fd1 fd2 fd3 fd4 fd5 fd6 fd7 fd8 fd9 : FuncData}
def spRatio (K : PySem.W.Frag) (l : Addr) : Sp := fun vs H Q _ => ∃ (s : Addr) (top : Int), vs = [.ref s, .int top] ∧ Sto l s H ∧ 1 ≤ top ∧ top < 2 ^ 40 ∧ ∀ (v : V) H', Qd K 40 anyQ H' v → Sto l s H' → Fr s H H' → Q v H'
theorem int_q {H : Hp} {t : Addr} (n : Int) (h : n.natAbs < 2 ^ 40) : Qd K 40 anyQ (upd H t (.tup [.int n, .int 1])) (.ref t) := Qd.new n 1 (n : Rat) rfl rfl ⟨h, by show 1 < 2 ^ 40; decide⟩ trivial
end Vk
namespace Vk
open PySem L2 Vm
variable {l : Addr} {P : Program} {w : World} {K : PySem.W.Frag} {mg : Str → Option Value} {base : Heap} {k : Nat} {f f1 f2 f3 f4 f5 f6 f7 f8 f9 : Addr} {fd fd1 fd2 fd3 fd4 fd5 fd6 fd7 fd8 fd9 : FuncData}
/-- while a list of things is being made at D -/
def Bun {α : Type} (R : Hp → V → α → Prop) (l s D : Addr) (H0 : Hp) (us : List V) (c : List α) (G : Hp) : Prop := Sto l s G ∧ Fr s H0 G ∧ D ≠ s ∧ D ≠ l ∧ H0 D = none ∧ G D = some (.lst us) ∧ All2 (R G) us c
section
variable {α : Type} {R : Hp → V → α → Prop} {s D : Addr} {H0 G G' : Hp} {us : List V} {c : List α}
/-- what R says outlives what becomes of a list -/
def Lasts (R : Hp → V → α → Prop) : Prop := ∀ {s : Addr} {H H' : Hp} {x : V} {p : α}, Fr s H H' → (∃ ys, H s = some (.lst ys)) → R H x p → R H' x p
theorem Bun.fr (h : Bun R l s D H0 us c G) (L : Lasts R) (e : Fr s G G') (S : Sto l s G') : Bun R l s D H0 us c G' := by
  obtain ⟨h1, h2, h3, h4, h5, h6, h7⟩ := h
  exact ⟨S, h2.trans e, h3, h4, h5, e _ _ h6 h3, h7.imp fun _ _ r => L e h1.some r⟩
theorem Bun.same (h : Bun R l s D H0 us c G) (L : Lasts R) (e : Same G G') : Bun R l s D H0 us c G' := h.fr L (Fr.of e) (h.1.same e)
theorem Bun.app {x : V} {p : α} (h : Bun R l s D H0 us c G) (L : Lasts R) (r : R G x p) : Bun R l s D H0 (us ++ [x]) (c ++ [p]) (upd G D (.lst (us ++ [x]))) := by
  obtain ⟨h1, h2, h3, h4, h5, h6, h7⟩ := h
  have fr : Fr D G (upd G D (.lst (us ++ [x]))) := Fr.upd _
  refine ⟨h1.upd h3 h4, fun b o hb hn => ?_, h3, h4, h5, upd_same, (h7.imp fun _ _ r => L fr ⟨_, h6⟩ r).snoc (L fr ⟨_, h6⟩ r)⟩
  rw [upd_ne (ne_of_none hb h5)]
  exact h2 b o hb hn
theorem Bun.start (S : Sto l s G) (e : Fr s H0 G) (hD : G D = none) : Bun R l s D H0 [] [] (upd G D (.lst [])) := by
  have nD := S.ne hD
  have f := same_new hD (.lst [])
  exact ⟨S.same f, e.trans (Fr.of f), nD, S.nl hD, e.free hD nD, upd_same, All2.nil⟩
end
theorem Bun.at {α : Type} {R : Hp → V → α → Prop} {s D : Addr} {H0 G : Hp} {us : List V} {c : List α} (h : Bun R l s D H0 us c G) : G D = some (.lst us) := h.2.2.2.2.2.1
theorem Bun.len {α : Type} {R : Hp → V → α → Prop} {s D : Addr} {H0 G : Hp} {us : List V} {c : List α} (h : Bun R l s D H0 us c G) : us.length = c.length := h.2.2.2.2.2.2.1
theorem Bun.all {α : Type} {R : Hp → V → α → Prop} {s D : Addr} {H0 G : Hp} {us : List V} {c : List α} (h : Bun R l s D H0 us c G) : All2 (R G) us c := h.2.2.2.2.2.2
theorem lastsP : Lasts (Pq K) := fun e hs h => h.fr e hs
theorem lastsQ : Lasts (Rq K) := fun e hs h => h.fr e hs
theorem Cok.snoc {c : List Pc} {x : Pc} (h : Cok c) (hx : ∀ p ∈ c, p.s < x.s) (r : 0 < x.r) : Cok (c ++ [x]) := by
  refine ⟨fun p hp => ?_, fun i p q e1 e2 => ?_⟩
  · rcases List.mem_append.mp hp with hp | hp
    · exact h.1 p hp
    · rw [List.mem_singleton.mp hp]
      exact r
  · by_cases hi : i + 1 < c.length
    · rw [List.getElem?_append_left (by omega)] at e1
      rw [List.getElem?_append_left hi] at e2
      exact h.2 i p q e1 e2
    · have hl := (List.getElem?_eq_some_iff.mp e2).1
      rw [List.length_append, List.length_singleton] at hl
      rw [List.getElem?_append_left (by omega)] at e1
      rw [List.getElem?_append_right (by omega)] at e2
      have e0 : i + 1 - c.length = 0 := by omega
      rw [e0] at e2
      cases e2
      exact hx p (List.mem_of_getElem? e1)
theorem Cz.snoc {i j m : Nat} {c : List Pc} {x : Pc} (h : Cz i j m c) (z : Sz i x.s ∧ Sz j x.v ∧ Sz m x.r) : Cz i j m (c ++ [x]) := fun p hp => by
  rcases List.mem_append.mp hp with hp | hp
  · exact h p hp
  · rw [List.mem_singleton.mp hp]
    exact z
theorem lt_add_pos {a b : Rat} (h : 0 < b) : a < a + b := by grind
def spCourse (K : PySem.W.Frag) (l : Addr) : Sp := fun vs H Q _ => ∃ (s : Addr) (many : Nat) (fall : Bool), vs = [.ref s, .int many, .bl fall] ∧ Sto l s H ∧ many ≤ 40 ∧
  ∀ D us c H', Bun (Pq K) l s D H us c H' → c.length = many → Cok c → Cz 245 925 5 c → Q (.ref D) H'
end Vk
namespace Vk
open PySem L2 Vm
variable {l : Addr} {P : Program} {w : World} {K : PySem.W.Frag} {mg : Str → Option Value} {base : Heap} {k : Nat} {f f1 f2 f3 f4 f5 f6 f7 f8 f9 : Addr} {fd fd1 fd2 fd3 fd4 fd5 fd6 fd7 fd8 fd9 : FuncData}
theorem All2.append {α : Type} {R : V → α → Prop} {xs ys : List V} {c d : List α} (h : All2 R xs c) (g : All2 R ys d) : All2 R (xs ++ ys) (c ++ d) := by
  refine ⟨by rw [List.length_append, List.length_append, h.1, g.1], fun i x p a b => ?_⟩
  have hl := h.1
  by_cases hi : i < xs.length
  · rw [List.getElem?_append_left hi] at a
    rw [List.getElem?_append_left (by omega)] at b
    exact h.2 i x p a b
  · rw [List.getElem?_append_right (by omega)] at a
    rw [List.getElem?_append_right (by omega), ← hl] at b
    exact g.2 _ x p a b
theorem All2.take {α : Type} {R : V → α → Prop} {xs : List V} {c : List α} (h : All2 R xs c) (m : Nat) : All2 R (xs.take m) (c.take m) := by
  refine ⟨by rw [List.length_take, List.length_take, h.1], fun i x p a b => ?_⟩
  rw [List.getElem?_take] at a b
  split at a
  · rename_i hi
    rw [if_pos hi] at b
    exact h.2 i x p a b
  · cases a
theorem All2.drop {α : Type} {R : V → α → Prop} {xs : List V} {c : List α} (h : All2 R xs c) (m : Nat) : All2 R (xs.drop m) (c.drop m) := by
  refine ⟨by rw [List.length_drop, List.length_drop, h.1], fun i x p a b => ?_⟩
  rw [List.getElem?_drop] at a b
  exact h.2 _ x p a b
theorem All2.one {α : Type} {R : V → α → Prop} {x : V} {p : α} (r : R x p) : All2 R [x] [p] := by
  have h : All2 R ([] ++ [x]) ([] ++ [p]) := All2.nil.snoc r
  exact h
def Asc (os : List Rat) : Prop := os.Pairwise (· < ·)
theorem asc_at {os : List Rat} (h : Asc os) {i j : Nat} {a b : Rat} (ha : os[i]? = some a) (hb : os[j]? = some b) (hij : i < j) : a < b := by
  obtain ⟨h1, rfl⟩ := List.getElem?_eq_some_iff.mp ha
  obtain ⟨h2, rfl⟩ := List.getElem?_eq_some_iff.mp hb
  exact List.pairwise_iff_getElem.mp h i j h1 h2 hij
/-- the place of one among os -/
def Spot (os : List Rat) (one : Rat) (j m : Nat) : Prop := m ≤ j ∧ ∀ (t : Nat) o, t < j → os[t]? = some o → (o < one ↔ t < m)
theorem rlt_trans {a b c : Rat} (h : a < b) (g : b < c) : a < c := by grind
theorem spot_next {os : List Rat} {one o : Rat} {j m : Nat} (ha : Asc os) (h : Spot os one j m) (ho : os[j]? = some o) : Spot os one (j + 1) (if o < one then j + 1 else m) := by
  split
  · rename_i g
    refine ⟨Nat.le_refl _, fun t x ht hx => ⟨fun _ => ht, fun _ => ?_⟩⟩
    by_cases e : t = j
    · subst e
      rw [ho] at hx
      cases hx
      exact g
    · exact rlt_trans (asc_at ha hx ho (by omega)) g
  · rename_i g
    refine ⟨by have := h.1; omega, fun t x ht hx => ?_⟩
    by_cases e : t = j
    · subst e
      rw [ho] at hx
      cases hx
      exact ⟨fun z => absurd z g, fun z => absurd z (by have := h.1; omega)⟩
    · exact h.2 t x (by omega) hx
theorem asc_insert {os : List Rat} {one : Rat} {m : Nat} (ha : Asc os) (h : Spot os one os.length m) (hn : os[m]? ≠ some one) : Asc (os.take m ++ [one] ++ os.drop m) := by
  have hlt : ∀ o ∈ os.take m, o < one := fun o ho => by
    obtain ⟨t, ht, rfl⟩ := List.mem_iff_getElem.mp ho
    rw [List.length_take] at ht
    have e : os[t]? = some (os.take m)[t] := by
      rw [List.getElem_take]
      exact List.getElem?_eq_getElem (by omega)
    exact (h.2 t _ (by omega) e).mpr (by omega)
  have hgt : ∀ o ∈ os.drop m, one < o := fun o ho => by
    obtain ⟨t, ht, rfl⟩ := List.mem_iff_getElem.mp ho
    rw [List.length_drop] at ht
    have e : os[m + t]? = some (os.drop m)[t] := by
      rw [List.getElem_drop]
      exact List.getElem?_eq_getElem (by omega)
    have h1 : ¬ (os.drop m)[t] < one := fun z => absurd ((h.2 (m + t) _ (by omega) e).mp z) (by omega)
    by_cases t0 : t = 0
    · have h2 : (os.drop m)[t] ≠ one := fun z => hn (by rw [← z, ← e, t0, Nat.add_zero])
      grind
    · have hm : m < os.length := by omega
      have h3 := asc_at ha (List.getElem?_eq_getElem hm) e (by omega)
      have h4 : ¬ os[m] < one := fun z => absurd ((h.2 m _ hm (List.getElem?_eq_getElem hm)).mp z) (by omega)
      grind
  unfold Asc
  rw [List.append_assoc, List.pairwise_append]
  refine ⟨ha.sublist (List.take_sublist _ _), ?_, fun a h1 b h2 => ?_⟩
  · rw [List.singleton_append, List.pairwise_cons]
    exact ⟨hgt, ha.sublist (List.drop_sublist _ _)⟩
  · rw [List.singleton_append] at h2
    rcases List.mem_cons.mp h2 with rfl | h2
    · exact hlt a h1
    · exact rlt_trans (hlt a h1) (hgt b h2)
def spOrdered (K : PySem.W.Frag) : Sp := fun vs H Q _ => ∃ (a : Addr) (xs : List V) (qs : List Rat), vs = [.ref a] ∧ SqL K H a xs ∧ All2 (Rq K H) xs qs ∧ (∀ q ∈ qs, Sz 40 q) ∧ qs.length ≤ 900 ∧
  ∀ D us os H', Same H H' → H D = none → H' D = some (.lst us) → All2 (Rq K H') us os → Asc os → (∀ o ∈ os, o ∈ qs) → os.length ≤ qs.length → (qs ≠ [] → os ≠ []) → Q (.ref D) H'
end Vk
namespace Vk
open PySem PySem.Spec PyProof.Rows L2
section
variable {X : Cx}
/-- xs.count(y), data of any depth -/
def rCountD (K : PySem.W.Frag) : V → List V → Hp → VK → Prop := fun x xs H Q => ∃ (a : Addr) (y : V) (d : PyData) (ds : List PyData), x = V.ref a ∧ xs = [y] ∧ Dp K H (V.ref a) (.list ds) ∧ Dp K H y d ∧
  SeqAt.shaped (.list ds) = true ∧ SeqAt.shaped d = true ∧ Q (.int ((ds.countP fun z => PyData.eqv z d : Nat) : Int)) H
theorem mt_countD (hu : X.A.units + 65 < cLine) : MtR X "list.count" (rCountD X.K) := by
  intro pins s σ H x xs v us Q I rx rxs h
  obtain ⟨a, y, d, ds, rfl, rfl, hl, hy, sl, sd, q⟩ := h
  cases rx
  cases rxs with
  | cons ry rt =>
    rename_i uy ut
    cases rt
    obtain ⟨bs, r1⟩ := Dp.reads I d y uy hy ry
    have hxs : PyData.canLayAll0 ds = true := SeqAt.canLay_of_shaped sl
    have hroom : X.A.units + 1 + min (PyData.depthAll ds) d.depth < cLine := room_in_shaped sd hu
    cases hl with
    | lst hs ha =>
      obtain ⟨its, rv, ⟨⟨cls, dd, data, sls⟩, n, ho, hc, hdn, hdt⟩, hlen⟩ := I.list hs
      simp only at hc hdt
      subst hc hdt
      obtain ⟨as, h4⟩ := Dp.readsAll I ds _ its ha rv
      have hmap : its.map (SeqAt.readOf s.heap) = ds := SeqAt.readsAll_map ds its as hxs h4
      refine call_meets PySem.F.slot_list_count ⟨_, ho, rfl⟩ PySem.F.entry_list_count (PySem.F.args_list_count_2 _ _)
        (SeqAt.list_countAt a its.toArray n dd sls uy (fun u => PyData.eqv (SeqAt.readOf s.heap u) d)) ⟨ho, SeqAt.items_eqAt (vs := its.toArray) (show ReadsAll s.heap its.toArray.toList ds as from h4) r1 hxs (SeqAt.canLay_of_shaped sd) hroom, ?_⟩
      refine ⟨.int ((ds.countP fun z => PyData.eqv z d : Nat) : Int), H, I.tok _, ⟨s.toks, ?_⟩, q⟩
      have e : (its.toArray.toList.countP fun u => PyData.eqv (SeqAt.readOf s.heap u) d) = ds.countP fun z => PyData.eqv z d := by
        rw [← hmap, List.countP_map]
        rfl
      show Value.int ((its.toArray.toList.countP (fun u => PyData.eqv (SeqAt.readOf s.heap u) d) : Nat) : Int) s.toks = _
      rw [e]
end
end Vk
namespace Vk
open PySem L2 Vm
variable {l : Addr} {P : Program} {w : World} {K : PySem.W.Frag} {mg : Str → Option Value} {base : Heap} {k : Nat} {f f1 f2 f3 f4 f5 f6 f7 f8 f9 : Addr} {fd fd1 fd2 fd3 fd4 fd5 fd6 fd7 fd8 fd9 : FuncData}
theorem sm1 : 1 ≤ sizeLine := by decide
theorem Bun.made {α : Type} {R : Hp → V → α → Prop} {s D : Addr} {H0 G : Hp} {us : List V} {c : List α} (S : Sto l s G) (e : Fr s H0 G) (hD : G D = none) (h : All2 (R (upd G D (.lst us))) us c) : Bun R l s D H0 us c (upd G D (.lst us)) := by
  have nD := S.ne hD
  have f := same_new hD (.lst us)
  exact ⟨S.same f, e.trans (Fr.of f), nD, S.nl hD, e.free hD nD, upd_same, h⟩
/-- a tracked list with a course -/
def Ct (K : PySem.W.Frag) (H : Hp) (a : Addr) (xs : List V) (c : List Pc) : Prop := H a = some (.lst xs) ∧ All2 (Pq K H) xs c
theorem Ct.cq {H : Hp} {a : Addr} {xs : List V} {c : List Pc} (h : Ct K H a xs c) : Cq K H a c := ⟨xs, SqL.of h.1, h.2⟩
theorem Ct.same {H H' : Hp} {a : Addr} {xs : List V} {c : List Pc} (e : Same H H') (h : Ct K H a xs c) : Ct K H' a xs c := ⟨e _ _ h.1, h.2.imp fun _ _ h => h.same e⟩
theorem Ct.fr {s : Addr} {H H' : Hp} {a : Addr} {xs : List V} {c : List Pc} (e : Fr s H H') (hs : ∃ ys, H s = some (.lst ys)) (n : a ≠ s) (h : Ct K H a xs c) : Ct K H' a xs c := ⟨e _ _ h.1 n, h.2.imp fun _ _ h => h.fr e hs⟩
theorem all2_3 {α : Type} {R : V → α → Prop} {x y z : V} {a b c : α} (h1 : R x a) (h2 : R y b) (h3 : R z c) : All2 R [x, y, z] [a, b, c] := (((All2.nil.snoc h1).snoc h2).snoc h3 : All2 R ([] ++ [x] ++ [y] ++ [z]) ([] ++ [a] ++ [b] ++ [c]))
def spValues (K : PySem.W.Frag) (l : Addr) : Sp := fun vs H Q _ => ∃ (s a : Addr) (xs : List V) (c : List Pc), vs = [.ref s, .ref a] ∧ Sto l s H ∧ a ≠ s ∧ a ≠ l ∧ Ct K H a xs c ∧ Cz 245 925 5 c ∧ 1 ≤ c.length ∧ c.length ≤ 1000 ∧
  ∀ D us qs H', Bun (Rq K) l s D H us qs H' → (∀ q ∈ qs, Sz 2350 q) → 0 < qs.length → qs.length ≤ 100 → Q (.ref D) H'
end Vk
namespace Vk
open PySem L2 Vm
variable {l : Addr} {P : Program} {w : World} {K : PySem.W.Frag} {mg : Str → Option Value} {base : Heap} {k : Nat} {f f1 f2 f3 f4 f5 f6 f7 f8 f9 f10 f11 f12 f13 f14 : Addr} {fd fd1 fd2 fd3 fd4 fd5 fd6 fd7 fd8 fd9 fd10 fd11 fd12 fd13 fd14 : FuncData}
theorem hu65 {k : Nat} {A : Around} (hr : Room k A) : A.units + 65 < cLine := by have := hr.un; omega
/-- a promise with something left open -/
def exS {α : Type} (sp : α → Sp) : Sp := fun vs H Q E => ∃ x, sp x vs H Q E
theorem Def.ex {α : Type} [Inhabited α] {x : Str} {ps : List Str} {sp : α → Sp} (h : ∀ a, Def P w K mg base k x ps (sp a) f fd) : Def P w K mg base k x ps (exS sp) f fd :=
  ⟨⟨fun vs H Q E ⟨a, z⟩ => (h a).ok.len vs H Q E z, fun A outer s H args us vs Q E hr he hb hv ⟨a, z⟩ => (h a).ok.run A outer s H args us vs Q E hr he hb hv z⟩, (h default).m, (h default).kp, (h default).b⟩
theorem ixN_last {n : Nat} (h : 0 < n) {i : Int} (e : i = (n : Int) - 1) : ixN n i = some (n - 1) := by
  subst e
  unfold ixN
  rw [if_pos (by omega), if_pos (by omega)]
  congr 1
  omega
/-! ### data -/
def dpc (p : Pc) : PyData := .tuple [dq p.s, dq p.v, dq p.r]
theorem Pq.dp {H : Hp} {v : V} {p : Pc} (h : Pq K H v p) : Dp K H v (dpc p) := by
  obtain ⟨a, xs, xv, xr, rfl, h, h1, h2, h3⟩ := h
  exact .tup h (.cons h1.dp (.cons h2.dp (.cons h3.dp .nil)))
theorem dpall_of {α : Type} {R : V → α → Prop} {d : α → PyData} {H : Hp} (g : ∀ v p, R v p → Dp K H v (d p)) : ∀ {xs : List V} {c : List α}, All2 R xs c → DpAll K H xs (c.map d)
  | [], [], _ => .nil
  | [], _ :: _, h => absurd h.1 (by simp)
  | _ :: _, [], h => absurd h.1 (by simp)
  | x :: xs, p :: c, h => .cons (g _ _ (h.2 0 x p rfl rfl)) (dpall_of g ⟨by have := h.1; simp at this; exact this, fun i x p a b => h.2 (i + 1) x p a b⟩)
theorem tree_dpc (n : Nat) (p : Pc) : Tree (n + 2) (dpc p) := .tup (by show 3 ≤ 1000; decide) fun d h => by
  simp only [List.mem_cons, List.mem_nil_iff, or_false] at h
  rcases h with rfl | rfl | rfl <;> exact tree_dq _ _
theorem depth_dqs : ∀ T : List Rat, PyData.depthAll (T.map dq) ≤ 2
  | [] => by simp [PyData.depthAll]
  | t :: T => by
    have := depth_dqs T
    simp only [List.map_cons, PyData.depthAll]
    have : (dq t).depth ≤ 2 := by show PyData.depth (.tuple [.int t.num, .int (t.den : Int)]) ≤ 2; simp [PyData.depth, PyData.depthAll]
    omega
theorem lay_dqs : ∀ T : List Rat, PyData.canLayAll0 (T.map dq) = true
  | [] => rfl
  | t :: T => by
    have := lay_dqs T
    show (PyData.canLay0 (dq t) && PyData.canLayAll0 (T.map dq)) = true
    rw [this]
    rfl
theorem sh_dqs (T : List Rat) : SeqAt.shaped (.list (T.map dq)) = true := by
  have h1 := depth_dqs T
  have h2 := lay_dqs T
  show (PyData.canLay0 (.list (T.map dq)) && decide (PyData.depth (.list (T.map dq)) ≤ 64)) = true
  have h3 : PyData.canLay0 (.list (T.map dq)) = true := h2
  have h4 : PyData.depth (.list (T.map dq)) ≤ 64 := by simp only [PyData.depth]; omega
  rw [h3, decide_eq_true h4]
  rfl
/-! ### the course whose last piece is set -/
theorem all2_set {α : Type} {R : V → α → Prop} {xs : List V} {c : List α} {x : V} {p : α} (h : All2 R xs c) (n : Nat) (r : R x p) : All2 R (xs.set n x) (c.set n p) := by
  refine ⟨by rw [List.length_set, List.length_set, h.1], fun i y q a b => ?_⟩
  by_cases e : n = i
  · subst e
    rw [List.getElem?_set] at a b
    simp only [if_true] at a b
    split at a
    · split at b
      · cases a
        cases b
        exact r
      · cases b
    · cases a
  · rw [List.getElem?_set_ne e] at a b
    exact h.2 i y q a b
theorem cok_set {c : List Pc} (ok : Cok c) {n : Nat} {p p' : Pc} (hp : c[n]? = some p) (hs : p'.s = p.s) (hr : p'.r = p.r) : Cok (c.set n p') := by
  have key : ∀ (i : Nat) (x : Pc), (c.set n p')[i]? = some x → ∃ y, c[i]? = some y ∧ x.s = y.s ∧ x.r = y.r := fun i x h => by
    by_cases e : n = i
    · subst e
      rw [List.getElem?_set] at h
      simp only [if_true] at h
      split at h
      · cases h
        exact ⟨p, hp, hs, hr⟩
      · cases h
    · rw [List.getElem?_set_ne e] at h
      exact ⟨x, h, rfl, rfl⟩
  refine ⟨fun x hx => ?_, fun i x y hx hy => ?_⟩
  · obtain ⟨i, hi, rfl⟩ := List.mem_iff_getElem.mp hx
    obtain ⟨y, e1, _, e2⟩ := key i _ (List.getElem?_eq_getElem hi)
    rw [e2]
    exact ok.1 y (List.mem_of_getElem? e1)
  · obtain ⟨x1, a1, b1, _⟩ := key i x hx
    obtain ⟨y1, a2, b2, _⟩ := key (i + 1) y hy
    rw [b1, b2]
    exact ok.2 i x1 y1 a1 a2
theorem cz_set {c : List Pc} {i j j' m : Nat} (cz : Cz i j m c) (hj : j ≤ j') {n : Nat} {p' : Pc} (h : Sz i p'.s ∧ Sz j' p'.v ∧ Sz m p'.r) : Cz i j' m (c.set n p') := fun x hx => by
  rcases List.mem_or_eq_of_mem_set hx with hx | rfl
  · obtain ⟨z1, z2, z3⟩ := cz x hx
    exact ⟨z1, z2.mono hj, z3⟩
  · exact h
/-! ### what stands while the law goes on -/
structure St0 (K : PySem.W.Frag) (l s D1 D2 D3 : Addr) (us1 us2 : List V) (c1 c2 : List Pc) (G : Hp) : Prop where
  st : Sto l s G
  a1 : Ct K G D1 us1 c1
  a2 : Ct K G D2 us2 c2
  a3 : Ct K G D3 us1 c1
  n1 : D1 ≠ s
  n2 : D2 ≠ s
  n3 : D3 ≠ s
  m3 : D3 ≠ l
  n31 : D3 ≠ D1
  n32 : D3 ≠ D2
theorem St0.same {s D1 D2 D3 : Addr} {us1 us2 : List V} {c1 c2 : List Pc} {G G' : Hp} (h : St0 K l s D1 D2 D3 us1 us2 c1 c2 G) (e : Same G G') : St0 K l s D1 D2 D3 us1 us2 c1 c2 G' :=
  { h with st := h.st.same e, a1 := h.a1.same e, a2 := h.a2.same e, a3 := h.a3.same e }
theorem St0.fr {s D1 D2 D3 : Addr} {us1 us2 : List V} {c1 c2 : List Pc} {G G' : Hp} (h : St0 K l s D1 D2 D3 us1 us2 c1 c2 G) (e : Fr s G G') (S : Sto l s G') : St0 K l s D1 D2 D3 us1 us2 c1 c2 G' :=
  { h with st := S, a1 := h.a1.fr e h.st.some h.n1, a2 := h.a2.fr e h.st.some h.n2, a3 := h.a3.fr e h.st.some h.n3 }
theorem St0.app {s D1 D2 D3 D : Addr} {us1 us2 ys zs : List V} {c1 c2 : List Pc} {G : Hp} (h : St0 K l s D1 D2 D3 us1 us2 c1 c2 G) (hD : G D = some (.lst ys)) (ns : D ≠ s) (nl : D ≠ l) (k1 : D1 ≠ D) (k2 : D2 ≠ D) (k3 : D3 ≠ D) : St0 K l s D1 D2 D3 us1 us2 c1 c2 (upd G D (.lst zs)) :=
  { h with st := h.st.upd ns nl, a1 := h.a1.fr (Fr.upd _) ⟨_, hD⟩ k1, a2 := h.a2.fr (Fr.upd _) ⟨_, hD⟩ k2, a3 := h.a3.fr (Fr.upd _) ⟨_, hD⟩ k3 }
/-- a list of rationals -/
def Lq (K : PySem.W.Frag) (G : Hp) (D : Addr) (us : List V) (qs : List Rat) : Prop := G D = some (.lst us) ∧ All2 (Rq K G) us qs
theorem Lq.same {G G' : Hp} {D : Addr} {us : List V} {qs : List Rat} (h : Lq K G D us qs) (e : Same G G') : Lq K G' D us qs := ⟨e _ _ h.1, h.2.imp fun _ _ h => h.same e⟩
theorem Lq.fr {s : Addr} {G G' : Hp} {D : Addr} {us : List V} {qs : List Rat} (h : Lq K G D us qs) (e : Fr s G G') (hs : ∃ ys, G s = some (.lst ys)) (n : D ≠ s) : Lq K G' D us qs := ⟨e _ _ h.1 n, h.2.imp fun _ _ h => h.fr e hs⟩
theorem ne_at {G : Hp} {a b : Addr} {o : HO} (h : G a = some o) (n : G b = none) : a ≠ b := fun e => by rw [e, n] at h; cases h
end Vk
namespace Vk
open PySem L2 Vm
variable {l az : Addr} {P : Program} {w : World} {K : PySem.W.Frag} {mg : Str → Option Value} {base : Heap} {k : Nat} {f f1 f2 f3 f4 f5 f6 f7 f8 f9 : Addr} {fd fd1 fd2 fd3 fd4 fd5 fd6 fd7 fd8 fd9 : FuncData}
/-! ### the program's side -/
structure Zr (K : PySem.W.Frag) (mg : Str → Option Value) (az : Addr) : Prop where
  m : mg "ZERO" = some (.ref az)
  q : ∀ H, Rq K H (.ref az) 0
abbrev s_multiply : Stmt := top 14
abbrev N_multiply : List Str := ["a", "b"]
theorem sc_multiply : FnScope N_multiply ["a", "b"] (defScope s_multiply) := ⟨rfl, rfl, rfl, by decide +kernel, rfl, by decide +kernel, by decide +kernel⟩
abbrev ps_multiply : List Str := ["a", "b"]
theorem ok_multiply (F : Fn K mg "multiply" s_multiply ps_multiply f fd) (drational : Def P w K mg base k "rational" ["n", "d"] (spFrac K) f1 fd1) : Def P w K mg base (k + 1) "multiply" ps_multiply (spOp2 K (· * ·)) f fd := by
  refine ⟨F.F.ok sc_multiply (fun vs H Q E h => ?_) (fun cdv A outer s H vs Q E hr h => ?_), F.m, F.F.kp, F.b⟩
  · obtain ⟨x, y, p, q, m, l, rfl, _⟩ := h
    rfl
  obtain ⟨x, y, p, q, m, l, rfl, ⟨a, rfl, ha⟩, ⟨b, rfl, hb⟩, zp, zq, hm, z⟩ := h
  have m0 := nn zp
  have l0 := nn zq
  refine ⟨_, (pss_one (ps_ret (pcall drational hr (pa_cons (pe_op op_mulW (pe_ix ix_tup (pv 0) pe_int (fun _ _ => rfl)) (pe_ix ix_tup (pv 1) pe_int (fun _ _ => rfl))) (pa_cons (pe_op op_mulW (pe_ix ix_tup (pv 0) pe_int (fun _ _ => rfl)) (pe_ix ix_tup (pv 1) pe_int (fun _ _ => rfl))) pa_nil))))), ?_⟩
  refine ⟨_, rfl, a, _, _, _, rfl, rfl, ha, at0 rfl, _, rfl, b, _, _, _, rfl, rfl, hb, at0 rfl, _, _, rfl, rfl, mulW zp.1 zq.1 m0 l0 (by omega), ?_⟩
  refine ⟨_, rfl, a, _, _, _, rfl, rfl, ha, at1 rfl, _, rfl, b, _, _, _, rfl, rfl, hb, at1 rfl, _, _, rfl, rfl, mulW (dA zp) (dA zq) m0 l0 (by omega), ?_⟩
  refine ⟨_, _, m + l, rfl, dd_pos p q, ab_mul zp.1 zq.1, ab_mul (dA zp) (dA zq), by omega, fun r H' e hr => z r H' e ?_⟩
  rw [mk_mul] at hr
  exact hr
def spShown (K : PySem.W.Frag) : Sp := fun vs H Q _ => ∃ (x y : V) (p : Pc) (t : Rat) (i j l m : Nat), vs = [x, y] ∧ Pq K H x p ∧ Rq K H y t ∧ Sz i p.s ∧ Sz j p.v ∧ Sz l p.r ∧ Sz m t ∧ j + l + m + i + 3 ≤ 9000 ∧
  ∀ r H', Same H H' → Rq K H' r (p.v + p.r * (t - p.s)) → Q r H'
/-- a start and a jump -/
def Jq (K : PySem.W.Frag) (H : Hp) (x : V) (p : Rat × Rat) : Prop := ∃ a xs xj, x = .ref a ∧ SqT K H a [xs, xj] ∧ Rq K H xs p.1 ∧ Rq K H xj p.2
theorem Jq.same {H H' : Hp} {x : V} {p : Rat × Rat} (e : Same H H') (h : Jq K H x p) : Jq K H' x p := by
  obtain ⟨a, xs, xj, rfl, h, h1, h2⟩ := h
  exact ⟨a, xs, xj, rfl, e.sqt h, h1.same e, h2.same e⟩
theorem Jq.fr {s : Addr} {H H' : Hp} {x : V} {p : Rat × Rat} (e : Fr s H H') (hs : ∃ ys, H s = some (.lst ys)) (h : Jq K H x p) : Jq K H' x p := by
  obtain ⟨a, xs, xj, rfl, h, h1, h2⟩ := h
  exact ⟨a, xs, xj, rfl, sqt_fr e hs h, h1.fr e hs, h2.fr e hs⟩
def djp (p : Rat × Rat) : PyData := .tuple [dq p.1, dq p.2]
theorem Jq.dp {H : Hp} {v : V} {p : Rat × Rat} (h : Jq K H v p) : Dp K H v (djp p) := by
  obtain ⟨a, xs, xj, rfl, h, h1, h2⟩ := h
  exact .tup h (.cons h1.dp (.cons h2.dp .nil))
end Vk
namespace Vk
open PySem L2 Vm Vs
variable {l az : Addr} {P : Program} {w : World} {K : PySem.W.Frag} {mg : Str → Option Value} {base : Heap} {k : Nat} {f f1 f2 f3 f4 f5 f6 f7 f8 f9 : Addr} {fd fd1 fd2 fd3 fd4 fd5 fd6 fd7 fd8 fd9 : FuncData}
/-! ### ends and spans -/
def OSz (m : Nat) (o : Option Rat) : Prop := ∀ q, o = some q → Sz m q
def SSz (m : Nat) (s : Spn) : Prop := OSz m s.1 ∧ OSz m s.2
theorem optV.same {H H' : Hp} {v : V} {o : Option Rat} (e : Same H H') (h : optV K H v o) : optV K H' v o := by
  cases o with
  | none => exact h
  | some q => exact Rq.same e h
theorem optV.fr {s : Addr} {H H' : Hp} {v : V} {o : Option Rat} (e : Fr s H H') (hs : ∃ ys, H s = some (.lst ys)) (h : optV K H v o) : optV K H' v o := by
  cases o with
  | none => exact h
  | some q => exact Rq.fr e hs h
def Spq (K : PySem.W.Frag) (H : Hp) (x : V) (s : Spn) : Prop := ∃ a u v, x = .ref a ∧ SqT K H a [u, v] ∧ optV K H u s.1 ∧ optV K H v s.2
theorem Spq.same {H H' : Hp} {x : V} {s : Spn} (e : Same H H') (h : Spq K H x s) : Spq K H' x s := by
  obtain ⟨a, u, v, rfl, h, h1, h2⟩ := h
  exact ⟨a, u, v, rfl, e.sqt h, h1.same e, h2.same e⟩
theorem Spq.fr {s : Addr} {H H' : Hp} {x : V} {p : Spn} (e : Fr s H H') (hs : ∃ ys, H s = some (.lst ys)) (h : Spq K H x p) : Spq K H' x p := by
  obtain ⟨a, u, v, rfl, h, h1, h2⟩ := h
  exact ⟨a, u, v, rfl, sqt_fr e hs h, h1.fr e hs, h2.fr e hs⟩
def oSp (K : PySem.W.Frag) (H : Hp) (x : V) : Option Spn → Prop
  | none => x = .non
  | some s => Spq K H x s
theorem oSp.same {H H' : Hp} {x : V} {o : Option Spn} (e : Same H H') (h : oSp K H x o) : oSp K H' x o := by
  cases o with
  | none => exact h
  | some q => exact Spq.same e h
theorem osz_max {m : Nat} {a b : Option Rat} (h : OSz m a) (g : OSz m b) : OSz m (maxO a b) := by
  cases a with
  | none => exact g
  | some p => cases b with
    | none => exact h
    | some q =>
      intro r e
      simp only [maxO] at e
      cases Option.some.inj e
      split
      · exact h _ rfl
      · exact g _ rfl
theorem osz_min {m : Nat} {a b : Option Rat} (h : OSz m a) (g : OSz m b) : OSz m (minO a b) := by
  cases a with
  | none => exact g
  | some p => cases b with
    | none => exact h
    | some q =>
      intro r e
      simp only [minO] at e
      cases Option.some.inj e
      split
      · exact h _ rfl
      · exact g _ rfl
theorem osz_mov {m j : Nat} {o : Option Rat} {d : Rat} (h : OSz m o) (g : Sz j d) : OSz (m + j + 1) (movO o d) := by
  cases o with
  | none => nofun
  | some q => intro r e; cases Option.some.inj e; exact (h _ rfl).add g
theorem osz_neg {m : Nat} {o : Option Rat} (h : OSz m o) : OSz m (negO o) := by
  cases o with
  | none => nofun
  | some q => intro r e; cases Option.some.inj e; exact (h _ rfl).neg
theorem osz_up {m j : Nat} {o : Option Rat} (h : OSz m o) (e : m ≤ j) : OSz j o := fun q g => (h q g).mono e
theorem ssz_meet {m : Nat} {a b s : Spn} (h : SSz m a) (g : SSz m b) (e : meetO a b = some s) : SSz m s := by
  unfold meetO at e
  split at e
  · cases e
  · cases e
    exact ⟨osz_max h.1 g.1, osz_min h.2 g.2⟩
theorem ssz_off {x y : Rat} {i j : Nat} {fo ba s : Spn} (hx : Sz j x) (hy : Sz j y) (h : SSz i fo) (g : SSz i ba) (e : offO x y fo ba = some s) : SSz (i + j + 1) s :=
  ssz_meet ⟨osz_mov (osz_neg h.2) hx, osz_mov (osz_neg h.1) hx⟩ ⟨osz_mov g.1 hy, osz_mov g.2 hy⟩ e
/-- the written half -/
structure Hf (K : PySem.W.Frag) (mg : Str → Option Value) (az : Addr) : Prop where
  m : mg "HALF" = some (.ref az)
  q : ∀ H, Rq K H (.ref az) (1 / 2)
/-! ### the lesser and the greater one -/
def spSel (K : PySem.W.Frag) (g : Rat → Rat → Rat) : Sp := fun vs H Q _ => ∃ (x y : V) (p q : Rat) (m l : Nat), vs = [x, y] ∧ Rq K H x p ∧ Rq K H y q ∧ Sz m p ∧ Sz l q ∧ m + l + 1 ≤ 9000 ∧ ∀ v, Rq K H v (g p q) → Q v H
theorem sg_le {p q : Rat} : sg p q ≤ 0 ↔ p ≤ q := by
  unfold sg
  split
  · rename_i h
    subst h
    simp [Rat.le_refl]
  · split
    · rename_i h1 h2
      exact ⟨fun _ => by grind, fun _ => by omega⟩
    · rename_i h1 h2
      exact ⟨fun h => by omega, fun h => absurd h (by grind)⟩
abbrev s_larger : Stmt := top 18
abbrev N_larger : List Str := ["a", "b"]
theorem sc_larger : FnScope N_larger ["a", "b"] (defScope s_larger) := ⟨rfl, rfl, rfl, by decide +kernel, rfl, by decide +kernel, by decide +kernel⟩
abbrev ps_larger : List Str := ["a", "b"]
theorem ok_larger (F : Fn K mg "larger" s_larger ps_larger f fd) (dcompare : Def P w K mg base k "compare" ["a", "b"] (spTest2 K fun p q => .int (sg p q)) f1 fd1) : Def P w K mg base (k + 1) "larger" ps_larger (spSel K fun p q => if q ≤ p then p else q) f fd := by
  refine ⟨F.F.ok sc_larger (fun vs H Q E h => ?_) (fun cdv A outer s H vs Q E hr h => ?_), F.m, F.F.kp, F.b⟩
  · obtain ⟨x, y, p, q, m, l, rfl, _⟩ := h
    rfl
  obtain ⟨x, y, p, q, m, l, rfl, ha, hb, zp, zq, hm, z⟩ := h
  refine ⟨_, (pss_one (ps_ret (pe_ifExp (pt_cmpR op_ge (pcall dcompare hr (pa_cons (pv 0) (pa_cons (pv 1) pa_nil))) pe_int (nomark _)) (pv 0) (pv 1)))), ?_⟩
  refine ⟨_, rfl, _, rfl, x, y, p, q, m, l, rfl, ha, hb, zp, zq, by omega, _, _, rfl, rfl, _, rfl, ifD (fun c => ⟨_, rfl, z _ ?_⟩) (fun c => ⟨_, rfl, z _ ?_⟩)⟩
  · dsimp only; rw [if_pos (sg_ge.mp c)]; exact ha
  · dsimp only; rw [if_neg (fun e => c (sg_ge.mpr e))]; exact hb
def spEnd2 (K : PySem.W.Frag) (g : Option Rat → Option Rat → Option Rat) : Sp := fun vs H Q _ => ∃ (x y : V) (p q : Option Rat) (m : Nat), vs = [x, y] ∧ optV K H x p ∧ optV K H y q ∧ OSz m p ∧ OSz m q ∧ m + m + 1 ≤ 9000 ∧ ∀ v, optV K H v (g p q) → Q v H
def spMeet (K : PySem.W.Frag) : Sp := fun vs H Q _ => ∃ (x y : V) (s t : Spn) (m : Nat), vs = [x, y] ∧ Spq K H x s ∧ Spq K H y t ∧ SSz m s ∧ SSz m t ∧ m + m + 1 ≤ 9000 ∧ ∀ v H', Same H H' → oSp K H' v (meetO s t) → Q v H'
theorem sg_gt {p q : Rat} : 0 < sg p q ↔ q < p := by
  have := @sg_le p q
  constructor
  · intro h; exact Rat.not_le.mp fun e => by have := this.mpr e; omega
  · intro h; exact Int.not_le.mp fun e => absurd (this.mp e) (Rat.not_le.mpr h)
end Vk


namespace Vl
/-! ### laps -/
/-- the six numbers: bound, half, lap, slew, drift, goal -/
structure A6 where
  b : Rat
  h : Rat
  l : Rat
  s : Rat
  d : Rat
def ahead (x : A6) : Rat := x.h + x.d * x.l
def gain (x : A6) : Rat := (x.s - x.d) * x.l
structure Good (x : A6) : Prop where
  b0 : 0 ≤ x.b
  h0 : 0 ≤ x.h
  l0 : 0 < x.l
  s0 : 0 < x.s
  s1 : x.s < 1
  d0 : 0 ≤ x.d
  ds : x.d < x.s
theorem mul_pos' {a b : Rat} (ha : 0 < a) (hb : 0 < b) : 0 < a * b := Rat.mul_pos ha hb
theorem mul_nn {a b : Rat} (ha : 0 ≤ a) (hb : 0 ≤ b) : 0 ≤ a * b := Rat.mul_nonneg ha hb
theorem Good.gp {x : A6} (g : Good x) : 0 < gain x := mul_pos' (by have := g.ds; grind) g.l0
theorem Good.an {x : A6} (g : Good x) : 0 ≤ ahead x := by
  have h1 := g.h0
  have h2 : 0 ≤ x.d * x.l := mul_nn g.d0 (by have := g.l0; grind)
  unfold ahead
  grind
def lapsP (x : A6) (g : Rat) : Option Int := if x.b ≤ g then some 0 else if g < ahead x then none else some (-((g - x.b) / gain x).floor)
def mx (a b : Rat) : Rat := if a < b then b else a
def after (x : A6) (k : Int) : Rat := if k = 0 then x.b else mx (x.b + (k : Rat) * ((x.d - x.s) * x.l)) (ahead x)
def LapsOk (x : A6) (g : Rat) : Option Int → Prop
  | none => g < x.b ∧ g < ahead x
  | some k => 0 ≤ k ∧ k ≤ 1000 ∧ ¬ g < after x k ∧ (0 < k → g < x.b) ∧ (2 ≤ k → g < after x (k - 1))
theorem neg_gain (x : A6) (k : Rat) : k * ((x.d - x.s) * x.l) = - (k * gain x) := by unfold gain; grind
theorem laps_ok {x : A6} {g : Rat} (G : Good x) (top : x.b - g ≤ 1000 * gain x ∨ x.b = 0) : LapsOk x g (lapsP x g) := by
  have gp := G.gp
  have an := G.an
  unfold lapsP
  split
  · rename_i h
    refine ⟨by decide, by decide, ?_, fun z => absurd z (by decide), fun z => absurd z (by decide)⟩
    unfold after
    rw [if_pos rfl]
    exact Rat.not_lt.mpr h
  · rename_i h1
    split
    · rename_i h2
      exact ⟨Rat.not_le.mp h1, h2⟩
    · rename_i h2
      have h1 : g < x.b := Rat.not_le.mp h1
      have h2 : ahead x ≤ g := Rat.not_lt.mp h2
      have top : x.b - g ≤ 1000 * gain x := by
        rcases top with h | h
        · exact h
        · exfalso; grind
      obtain ⟨t, ht⟩ : ∃ t, t = (g - x.b) / gain x := ⟨_, rfl⟩
      have te : t * gain x = g - x.b := by
        rw [ht]
        exact Rat.div_mul_cancel (by grind)
      rw [← ht]
      have f1 := Rat.floor_le t
      have f2 := Rat.lt_floor_add_one t
      obtain ⟨k, hk⟩ : ∃ k : Int, k = -t.floor := ⟨_, rfl⟩
      have ek : ((t.floor : Int) : Rat) = -(k : Rat) := by rw [hk]; push_cast; grind
      have ek1 : ((t.floor + 1 : Int) : Rat) = -(k : Rat) + 1 := by rw [hk]; push_cast; grind
      rw [ek] at f1
      rw [ek1] at f2
      rw [← hk]
      -- k gain between
      have m1 : -(k : Rat) * gain x ≤ t * gain x := Rat.mul_le_mul_of_nonneg_right f1 (by grind)
      have m2 : t * gain x < (-(k : Rat) + 1) * gain x := Rat.mul_lt_mul_of_pos_right f2 gp
      have tneg : t < 0 := by
        by_cases z : t < 0
        · exact z
        · exfalso
          have := mul_nn (Rat.not_lt.mp z) (show (0 : Rat) ≤ gain x by grind)
          grind
      have t1000 : -1000 ≤ t := by
        by_cases z : -1000 ≤ t
        · exact z
        · exfalso
          have := Rat.mul_lt_mul_of_pos_right (Rat.not_le.mp z) gp
          grind
      have k1 : 0 < k := by
        have : (0 : Rat) < (k : Rat) := by grind
        exact_mod_cast this
      have k2 : k ≤ 1000 := by
        have : (k : Rat) < ((1001 : Int) : Rat) := by
          have e : ((1001 : Int) : Rat) = 1001 := rfl
          rw [e]
          grind
        have := Rat.intCast_lt_intCast.mp this
        omega
      have key : x.b - (k : Rat) * gain x ≤ g := by grind
      refine ⟨by omega, k2, ?_, fun _ => h1, fun k3 => ?_⟩
      · unfold after mx
        rw [if_neg (by omega), neg_gain]
        split <;> grind
      · unfold after mx
        rw [if_neg (by omega), neg_gain]
        have e : ((k - 1 : Int) : Rat) = (k : Rat) - 1 := by push_cast; rfl
        rw [e]
        split <;> grind
/-- one lap -/
def nextB (x : A6) (b : Rat) : Rat := x.d * x.l + (if x.h ≤ b - x.s * x.l then b - x.s * x.l else x.h)
theorem next_eq (x : A6) (b : Rat) : nextB x b = mx (b + (1 : Rat) * ((x.d - x.s) * x.l)) (ahead x) := by
  rw [neg_gain]
  unfold nextB mx ahead gain
  split <;> split <;> grind
theorem after_next {x : A6} (G : Good x) (b : Rat) (i : Int) (hi : 0 ≤ i) : nextB x (after { x with b := b } i) = after { x with b := b } (i + 1) := by
  rw [next_eq, neg_gain]
  have gp := G.gp
  have e1 : ahead { x with b := b } = ahead x := rfl
  have e2 : gain { x with b := b } = gain x := rfl
  unfold after
  rw [if_neg (show ¬ i + 1 = 0 by omega)]
  rw [neg_gain, e2, e1]
  have e3 : ((i + 1 : Int) : Rat) = (i : Rat) + 1 := by push_cast; rfl
  rw [e3]
  split
  · rename_i h
    subst h
    simp only [Rat.intCast_zero]
    congr 1
    have := neg_gain x 1
    grind
  · rw [neg_gain, e2]
    unfold mx
    split <;> split <;> split <;> grind
theorem after_le {x : A6} {g : Rat} (G : Good x) (b : Rat) (hb : b ≤ g) (ha : ahead x ≤ g) (i : Int) (hi : 0 ≤ i) : ¬ g < after { x with b := b } i := by
  have gp := G.gp
  have e1 : ahead { x with b := b } = ahead x := rfl
  have e2 : gain { x with b := b } = gain x := rfl
  unfold after mx
  split
  · exact Rat.not_lt.mpr hb
  · rw [neg_gain, e2, e1]
    have : (0 : Rat) ≤ (i : Rat) * gain x := mul_nn (by exact_mod_cast hi) (by grind)
    split <;> grind
theorem after_nn {x : A6} (G : Good x) (k : Int) : 0 ≤ after x k := by
  have := G.an
  have := G.b0
  unfold after mx
  split
  · exact G.b0
  · split <;> grind
end Vl

namespace Vk
open PySem L2 Vm Vl
variable {l aZERO aONE CB CR fB fR : Addr} {P : Program} {w : World} {K : PySem.W.Frag} {mg : Str → Option Value} {base : Heap} {k : Nat} {f f1 f2 f3 f4 f5 f6 f7 f8 f9 : Addr} {fd fd1 fd2 fd3 fd4 fd5 fd6 fd7 fd8 fd9 : FuncData}
/-- a rational of the module -/
structure Cn (K : PySem.W.Frag) (mg : Str → Option Value) (x : Str) (p : Rat) (a : Addr) : Prop where
  m : mg x = some (.ref a)
  q : ∀ H, Rq K H (.ref a) p
theorem zz1 : Sz 1 (0 : Rat) := by decide +kernel
theorem zo1 : Sz 1 (1 : Rat) := by decide +kernel
abbrev s_floor_of : Stmt := top 19
abbrev N_floor_of : List Str := ["a"]
theorem sc_floor_of : FnScope N_floor_of ["a"] (defScope s_floor_of) := ⟨rfl, rfl, rfl, by decide +kernel, rfl, by decide +kernel, by decide +kernel⟩
abbrev ps_floor_of : List Str := ["a"]
theorem ok_floor_of (F : Fn K mg "floor_of" s_floor_of ps_floor_of f fd) : Def P w K mg base (k + 1) "floor_of" ps_floor_of (fun vs H Q _ => ∃ (x : V) (q : Rat) (m : Nat), vs = [x] ∧ Rq K H x q ∧ Sz m q ∧ m ≤ 9000 ∧ Q (.int q.floor) H) f fd := by
  refine ⟨F.F.ok sc_floor_of (fun vs H Q E h => ?_) (fun cdv A outer s H vs Q E hr h => ?_), F.m, F.F.kp, F.b⟩
  · obtain ⟨_, _, _, rfl, _⟩ := h
    rfl
  obtain ⟨x, q, m, rfl, ⟨a, rfl, ha⟩, zq, hm, z⟩ := h
  refine ⟨_, (pss_one (ps_ret (pe_op op_fdivW (pe_ix ix_tup (pv 0) pe_int (fun _ _ => rfl)) (pe_ix ix_tup (pv 0) pe_int (fun _ _ => rfl))))), ?_⟩
  have dp := q.den_pos
  refine ⟨_, rfl, a, _, _, _, rfl, rfl, ha, at0 rfl, _, rfl, a, _, _, _, rfl, rfl, ha, at1 rfl, _, _, rfl, rfl, wide_div (by omega) (dA zq) (nn zq) hm, ?_⟩
  rw [Rat.floor_def] at z
  exact z
def spNB (K : PySem.W.Frag) (CB : Addr) : Sp := fun vs H Q E => ∃ (x : V) (q : Rat) (m : Nat), vs = [x] ∧ Rq K H x q ∧ Sz m q ∧ m ≤ 8000 ∧ (0 ≤ q → Q .non H) ∧ (q < 0 → eV E CB H x)
abbrev s_require_not_below_zero : Stmt := top 21
abbrev N_require_not_below_zero : List Str := ["bound"]
theorem sc_require_not_below_zero : FnScope N_require_not_below_zero ["bound"] (defScope s_require_not_below_zero) := ⟨rfl, rfl, rfl, by decide +kernel, rfl, by decide +kernel, by decide +kernel⟩
abbrev ps_require_not_below_zero : List Str := ["bound"]
theorem ok_not_below (ZZERO : Cn K mg "ZERO" 0 aZERO) (TBadBound : PySem.ValX.ValTxt K mg "BadBound" CB fB) (F : Fn K mg "require_not_below_zero" s_require_not_below_zero ps_require_not_below_zero f fd) (dcompare : Def P w K mg base k "compare" ["a", "b"] (spTest2 K fun p q => .int (sg p q)) f1 fd1) :
    DefX P w K mg base (k + 1) "require_not_below_zero" ps_require_not_below_zero (spNB K CB) f fd := by
  refine ⟨F.F.okX sc_require_not_below_zero (fun vs H Q E h => ?_) (fun cdv A outer s H vs Q E hr h => ?_), F.m, F.F.kp, F.b⟩
  · obtain ⟨_, _, _, rfl, _⟩ := h
    rfl
  obtain ⟨x, q, m, rfl, hx, zq, hm, z, e⟩ := h
  refine ⟨_, (pss_one (ps_if (pt_cmpR op_lt (pcall dcompare hr (pa_cons (pv 0) (pa_cons (pe_glob (v := .ref aZERO) (u := .ref aZERO) (by rfl) ZZERO.m rfl) pa_nil))) pe_int (nomark _))
        (pss_one (ps_raiseVal rfl TBadBound hr (takes_of rfl rfl rfl rfl) (pa_cons (pv 0) pa_nil)))
        pss_nil)), ?_⟩
  refine ⟨_, rfl, _, _, q, 0, m, 1, rfl, hx, ZZERO.q _, zq, zz1, by omega, _, _, rfl, rfl, _, rfl, ifD (fun c => ?_) (fun c => ?_)⟩
  · exact ⟨_, rfl, x, rfl, fun d hd => e (sg_lt.mp c) d hd⟩
  · exact z (Rat.not_lt.mp fun g => c (sg_lt.mpr g))
def spSD (K : PySem.W.Frag) (CR : Addr) : Sp := fun vs H Q E => ∃ (x y : V) (s d : Rat) (m : Nat), vs = [x, y] ∧ Rq K H x s ∧ Rq K H y d ∧ Sz m s ∧ Sz m d ∧ m ≤ 4000 ∧
  (0 < s → s < 1 → 0 ≤ d → d < s → Q .non H) ∧ (s ≤ 0 ∨ 1 ≤ s → eV E CR H x) ∧ (0 < s → s < 1 → d < 0 ∨ s ≤ d → eV E CR H y)
theorem sg_le' {p q : Rat} : sg p q ≤ 0 ↔ p ≤ q := by
  have h := @sg_lt p q
  have g := @sg_ge p q
  constructor
  · intro e
    by_cases z : sg p q < 0
    · have := h.mp z; grind
    · have e0 : sg p q = 0 := by omega
      unfold sg at e0
      split at e0
      · rename_i hh; rw [hh]; exact Rat.le_refl
      · split at e0 <;> omega
  · intro e
    by_cases z : p < q
    · have := h.mpr z; omega
    · have e2 : p = q := by grind
      unfold sg
      rw [if_pos e2]
      omega
abbrev s__require_slew_and_drift : Stmt := top 22
abbrev N__require_slew_and_drift : List Str := ["slew", "drift"]
theorem sc__require_slew_and_drift : FnScope N__require_slew_and_drift ["slew", "drift"] (defScope s__require_slew_and_drift) := ⟨rfl, rfl, rfl, by decide +kernel, rfl, by decide +kernel, by decide +kernel⟩
abbrev ps__require_slew_and_drift : List Str := ["slew", "drift"]
theorem ok_slew_drift (ZZERO : Cn K mg "ZERO" 0 aZERO) (ZONE : Cn K mg "ONE" 1 aONE) (TBadRate : PySem.ValX.ValTxt K mg "BadRate" CR fR) (F : Fn K mg "_require_slew_and_drift" s__require_slew_and_drift ps__require_slew_and_drift f fd) (dcompare : Def P w K mg base k "compare" ["a", "b"] (spTest2 K fun p q => .int (sg p q)) f1 fd1) :
    DefX P w K mg base (k + 1) "_require_slew_and_drift" ps__require_slew_and_drift (spSD K CR) f fd := by
  refine ⟨F.F.okX sc__require_slew_and_drift (fun vs H Q E h => ?_) (fun cdv A outer s H vs Q E hr h => ?_), F.m, F.F.kp, F.b⟩
  · obtain ⟨_, _, _, _, _, rfl, _⟩ := h
    rfl
  obtain ⟨x, y, s', d', m, rfl, hx, hy, zs, zd, hm, z, e1, e2⟩ := h
  refine ⟨_, (pss_cons (ps_if (PW.pt (pw_or (pt_cmpR op_le (pcall dcompare hr (pa_cons (pv 0) (pa_cons (pe_glob (v := .ref aZERO) (u := .ref aZERO) (by rfl) ZZERO.m rfl) pa_nil))) pe_int (nomark _)) (pw_or1 (pt_cmpR op_ge (pcall dcompare hr (pa_cons (pv 0) (pa_cons (pe_glob (v := .ref aONE) (u := .ref aONE) (by rfl) ZONE.m rfl) pa_nil))) pe_int (nomark _)))))
        (pss_one (ps_raiseVal rfl TBadRate hr (takes_of rfl rfl rfl rfl) (pa_cons (pv 0) pa_nil)))
        pss_nil)
      (pss_one (ps_if (PW.pt (pw_or (pt_cmpR op_lt (pcall dcompare hr (pa_cons (pv 1) (pa_cons (pe_glob (v := .ref aZERO) (u := .ref aZERO) (by rfl) ZZERO.m rfl) pa_nil))) pe_int (nomark _)) (pw_or1 (pt_cmpR op_ge (pcall dcompare hr (pa_cons (pv 1) (pa_cons (pv 0) pa_nil))) pe_int (nomark _)))))
        (pss_one (ps_raiseVal rfl TBadRate hr (takes_of rfl rfl rfl rfl) (pa_cons (pv 1) pa_nil)))
        pss_nil))), ?_⟩
  have up1 : (s' ≤ 0 ∨ 1 ≤ s') → ∃ v, [x] = [v] ∧ ∀ d, H d = none → E (.ref CR) (some d) (upd H d (.xd [(("value" : Str), v)])) := fun h => ⟨x, rfl, fun d hd => e1 h d hd⟩
  refine ⟨_, rfl, _, _, s', 0, m, 1, rfl, hx, ZZERO.q _, zs, zz1, by omega, _, _, rfl, rfl, _, rfl, ifD (fun c => ?_) (fun c => ?_)⟩
  · exact ifT rfl ⟨_, rfl, up1 (.inl (sg_le'.mp c))⟩
  have c1 : 0 < s' := by have := fun g => c (sg_le'.mpr g); exact Rat.not_le.mp this
  refine ⟨_, rfl, _, _, s', 1, m, 1, rfl, hx, ZONE.q _, zs, zo1, by omega, _, _, rfl, rfl, _, rfl, ifD (fun c => ?_) (fun c => ?_)⟩
  · exact ⟨_, rfl, up1 (.inr (sg_ge.mp c))⟩
  have c2 : s' < 1 := by have := fun g => c (sg_ge.mpr g); exact Rat.not_le.mp this
  have up2 : (d' < 0 ∨ s' ≤ d') → ∃ v, [y] = [v] ∧ ∀ d, H d = none → E (.ref CR) (some d) (upd H d (.xd [(("value" : Str), v)])) := fun h => ⟨y, rfl, fun d hd => e2 c1 c2 h d hd⟩
  refine ⟨_, rfl, _, _, d', 0, m, 1, rfl, hy, ZZERO.q _, zd, zz1, by omega, _, _, rfl, rfl, _, rfl, ifD (fun c => ?_) (fun c => ?_)⟩
  · exact ifT rfl ⟨_, rfl, up2 (.inl (sg_lt.mp c))⟩
  have c3 : 0 ≤ d' := Rat.not_lt.mp fun g => c (sg_lt.mpr g)
  refine ⟨_, rfl, _, rfl, _, _, d', s', m, m, rfl, hy, hx, zd, zs, by omega, _, _, rfl, rfl, _, rfl, ifD (fun c => ?_) (fun c => ?_)⟩
  · exact ⟨_, rfl, up2 (.inr (sg_ge.mp c))⟩
  · exact z c1 c2 c3 (by have := fun g => c (sg_ge.mpr g); exact Rat.not_le.mp this)
/-- the five arguments of a lap -/
structure L5 (K : PySem.W.Frag) (H : Hp) (xb xh xl xs xd : V) (x : A6) (m : Nat) : Prop where
  b : Rq K H xb x.b
  h : Rq K H xh x.h
  l : Rq K H xl x.l
  s : Rq K H xs x.s
  d : Rq K H xd x.d
  zb : Sz m x.b
  zh : Sz m x.h
  zl : Sz m x.l
  zs : Sz m x.s
  zd : Sz m x.d
theorem L5.same {H H' : Hp} {xb xh xl xs xd : V} {x : A6} {m : Nat} (h : L5 K H xb xh xl xs xd x m) (e : Same H H') : L5 K H' xb xh xl xs xd x m := { h with b := h.b.same e, h := h.h.same e, l := h.l.same e, s := h.s.same e, d := h.d.same e }
theorem L5.fr {s : Addr} {H H' : Hp} {xb xh xl xs xd : V} {x : A6} {m : Nat} (h : L5 K H xb xh xl xs xd x m) (e : Fr s H H') (hs : ∃ ys, H s = some (.lst ys)) : L5 K H' xb xh xl xs xd x m := { h with b := h.b.fr e hs, h := h.h.fr e hs, l := h.l.fr e hs, s := h.s.fr e hs, d := h.d.fr e hs }
/-- the first wrong argument: what it wishes of an error -/
def Fault (x : A6) (W : Bool → Nat → Prop) : Prop :=
  (x.b < 0 → W true 0) ∧ (0 ≤ x.b → x.h < 0 → W true 1) ∧ (0 ≤ x.b → 0 ≤ x.h → x.l ≤ 0 → W true 2) ∧ (0 ≤ x.b → 0 ≤ x.h → 0 < x.l → x.s ≤ 0 ∨ 1 ≤ x.s → W false 3) ∧
    (0 ≤ x.b → 0 ≤ x.h → 0 < x.l → 0 < x.s → x.s < 1 → x.d < 0 ∨ x.s ≤ x.d → W false 4)
def eF (E : XK) (CB CR : Addr) (H : Hp) (ys : List V) : Bool → Nat → Prop := fun b i => ∀ y, ys[i]? = some y → eV E (if b = true then CB else CR) H y
def spLap (K : PySem.W.Frag) (CB CR : Addr) : Sp := fun vs H Q E => ∃ (xb xh xl xs xd : V) (x : A6) (m : Nat), vs = [xb, xh, xl, xs, xd] ∧ L5 K H xb xh xl xs xd x m ∧ m ≤ 4000 ∧ (Good x → Q .non H) ∧ Fault x (eF E CB CR H [xb, xh, xl, xs, xd])
abbrev s__require_lap : Stmt := top 23
abbrev N__require_lap : List Str := ["bound", "half", "lap", "slew", "drift"]
theorem sc__require_lap : FnScope N__require_lap ["bound", "half", "lap", "slew", "drift"] (defScope s__require_lap) := ⟨rfl, rfl, rfl, by decide +kernel, rfl, by decide +kernel, by decide +kernel⟩
abbrev ps__require_lap : List Str := ["bound", "half", "lap", "slew", "drift"]
theorem ok_require_lap (ZZERO : Cn K mg "ZERO" 0 aZERO) (TBadBound : PySem.ValX.ValTxt K mg "BadBound" CB fB) (F : Fn K mg "_require_lap" s__require_lap ps__require_lap f fd) (drequire_not_below_zero : DefX P w K mg base k "require_not_below_zero" ["bound"] (spNB K CB) f1 fd1) (dcompare : Def P w K mg base k "compare" ["a", "b"] (spTest2 K fun p q => .int (sg p q)) f2 fd2)
    (d_require_slew_and_drift : DefX P w K mg base k "_require_slew_and_drift" ["slew", "drift"] (spSD K CR) f3 fd3) : DefX P w K mg base (k + 1) "_require_lap" ps__require_lap (spLap K CB CR) f fd := by
  refine ⟨F.F.okX sc__require_lap (fun vs H Q E h => ?_) (fun cdv A outer s H vs Q E hr h => ?_), F.m, F.F.kp, F.b⟩
  · obtain ⟨_, _, _, _, _, _, _, rfl, _⟩ := h
    rfl
  obtain ⟨xb, xh, xl, xs, xd, x, m, rfl, L, hm, z, w1, w2, w3, w4, w5⟩ := h
  refine ⟨_, (pss_cons (ps_expr (pcallX drequire_not_below_zero hr (takes_of rfl rfl rfl rfl) (pa_cons (pv 0) pa_nil)))
      (pss_cons (ps_expr (pcallX drequire_not_below_zero hr (takes_of rfl rfl rfl rfl) (pa_cons (pv 1) pa_nil)))
      (pss_cons (ps_if (pt_cmpR op_le (pcall dcompare hr (pa_cons (pv 2) (pa_cons (pe_glob (v := .ref aZERO) (u := .ref aZERO) (by rfl) ZZERO.m rfl) pa_nil))) pe_int (nomark _))
        (pss_one (ps_raiseVal rfl TBadBound hr (takes_of rfl rfl rfl rfl) (pa_cons (pv 2) pa_nil)))
        pss_nil)
      (pss_one (ps_expr (pcallX d_require_slew_and_drift hr (takes_of rfl rfl rfl rfl) (pa_cons (pv 3) (pa_cons (pv 4) pa_nil)))))))), ?_⟩
  refine ⟨_, rfl, xb, x.b, m, rfl, L.b, L.zb, by omega, fun c1 => ?_, fun c1 => w1 c1 _ rfl⟩
  refine ⟨_, rfl, xh, x.h, m, rfl, L.h, L.zh, by omega, fun c2 => ?_, fun c2 => w2 c1 c2 _ rfl⟩
  refine ⟨_, rfl, _, _, x.l, 0, m, 1, rfl, L.l, ZZERO.q _, L.zl, zz1, by omega, _, _, rfl, rfl, _, rfl, ifD (fun c => ?_) (fun c => ?_)⟩
  · exact ⟨_, rfl, xl, rfl, fun d hd => w3 c1 c2 (sg_le'.mp c) _ rfl d hd⟩
  have c3 : 0 < x.l := by have := fun g => c (sg_le'.mpr g); exact Rat.not_le.mp this
  exact ⟨_, rfl, _, rfl, xs, xd, x.s, x.d, m, rfl, L.s, L.d, L.zs, L.zd, hm, fun a b c d => z ⟨c1, c2, c3, a, b, c, d⟩, fun c => w4 c1 c2 c3 c _ rfl, fun a b c => w5 c1 c2 c3 a b c _ rfl⟩
def spBehind (K : PySem.W.Frag) : Sp := fun vs H Q _ => ∃ (xb xh xl xs xd : V) (x : A6) (m : Nat), vs = [xb, xh, xl, xs, xd] ∧ L5 K H xb xh xl xs xd x m ∧ m ≤ 1500 ∧ ∀ v H', Same H H' → Rq K H' v (nextB x x.b) → Q v H'
abbrev s__bound_behind : Stmt := top 24
abbrev N__bound_behind : List Str := ["bound", "half", "raw_units", "slew", "drift", "rest"]
theorem sc__bound_behind : FnScope N__bound_behind ["bound", "half", "raw_units", "slew", "drift"] (defScope s__bound_behind) := ⟨rfl, rfl, rfl, by decide +kernel, rfl, by decide +kernel, by decide +kernel⟩
abbrev ps__bound_behind : List Str := ["bound", "half", "raw_units", "slew", "drift"]
theorem ok_bound_behind (F : Fn K mg "_bound_behind" s__bound_behind ps__bound_behind f fd) (dlarger : Def P w K mg base k "larger" ["a", "b"] (spSel K fun p q => if q ≤ p then p else q) f1 fd1) (dsubtract : Def P w K mg base k "subtract" ["a", "b"] (spOp2 K (· - ·)) f2 fd2) (dmultiply : Def P w K mg base k "multiply" ["a", "b"] (spOp2 K (· * ·)) f3 fd3) (dadd : Def P w K mg base k "add" ["a", "b"] (spOp2 K (· + ·)) f4 fd4) :
    Def P w K mg base (k + 1) "_bound_behind" ps__bound_behind (spBehind K) f fd := by
  refine ⟨F.F.ok sc__bound_behind (fun vs H Q E h => ?_) (fun cdv A outer s H vs Q E hr h => ?_), F.m, F.F.kp, F.b⟩
  · obtain ⟨_, _, _, _, _, _, _, rfl, _⟩ := h
    rfl
  obtain ⟨xb, xh, xl, xs, xd, x, m, rfl, L, hm, z⟩ := h
  refine ⟨_, (pss_cons (ps_set (i := 5) sc__bound_behind.nd rfl (Or.inl rfl) (pcall dlarger hr (pa_cons (pcall dsubtract hr (pa_cons (pv 0) (pa_cons (pcall dmultiply hr (pa_cons (pv 3) (pa_cons (pv 2) pa_nil))) pa_nil))) (pa_cons (pv 1) pa_nil))))
      (pss_one (ps_ret (pcall dadd hr (pa_cons (pcall dmultiply hr (pa_cons (pv 4) (pa_cons (pv 2) pa_nil))) (pa_cons (pv 5) pa_nil)))))), ?_⟩
  refine ⟨_, rfl, _, rfl, _, rfl, _, _, x.s, x.l, m, m, rfl, L.s, L.l, L.zs, L.zl, by omega, fun v1 H1 e1 h1 => ?_⟩
  have z1 : Sz (m + m) (x.s * x.l) := L.zs.mul L.zl
  refine ⟨_, _, x.b, x.s * x.l, m, m + m, rfl, L.b.same e1, h1, L.zb, z1, by omega, fun v2 H2 e2 h2 => ?_⟩
  have z2 : Sz (m + (m + m) + 1) (x.b - x.s * x.l) := L.zb.sub z1
  refine ⟨_, rfl, _, _, x.b - x.s * x.l, x.h, _, m, rfl, h2, L.h.same (e1.trans e2), z2, L.zh, by omega, fun v3 h3 => ?_⟩
  refine ⟨_, rfl, _, rfl, _, _, x.d, x.l, m, m, rfl, L.d.same (e1.trans e2), L.l.same (e1.trans e2), L.zd, L.zl, by omega, fun v4 H4 e4 h4 => ?_⟩
  have z3 : Sz (m + (m + m) + 1) (if x.h ≤ x.b - x.s * x.l then x.b - x.s * x.l else x.h) := by
    split
    · exact z2
    · exact L.zh.mono (by omega)
  exact ⟨_, rfl, _, _, x.d * x.l, _, m + m, _, rfl, h4, Rq.same e4 h3, L.zd.mul L.zl, z3, by omega, fun v5 H5 e5 h5 => z _ _ (e1.trans (e2.trans (e4.trans e5))) h5⟩
def spAfter (K : PySem.W.Frag) (CB CR : Addr) : Sp := fun vs H Q E => ∃ (xb xh xl xs xd : V) (x : A6) (m : Nat), vs = [xb, xh, xl, xs, xd] ∧ L5 K H xb xh xl xs xd x m ∧ m ≤ 1500 ∧ (Good x → ∀ v H', Same H H' → Rq K H' v (nextB x x.b) → Q v H') ∧ Fault x (eF E CB CR H [xb, xh, xl, xs, xd])
abbrev s_bound_after : Stmt := top 25
abbrev N_bound_after : List Str := ["bound", "half", "lap", "slew", "drift"]
theorem sc_bound_after : FnScope N_bound_after ["bound", "half", "lap", "slew", "drift"] (defScope s_bound_after) := ⟨rfl, rfl, rfl, by decide +kernel, rfl, by decide +kernel, by decide +kernel⟩
abbrev ps_bound_after : List Str := ["bound", "half", "lap", "slew", "drift"]
theorem ok_bound_after (F : FnK K mg "bound_after" s_bound_after f fd) (hb : KBn K fd ps_bound_after 2 ["lap", "slew", "drift"] (fun us ws => us ++ ws) (fun vs zs => vs ++ zs)) (d_require_lap : DefX P w K mg base k "_require_lap" ["bound", "half", "lap", "slew", "drift"] (spLap K CB CR) f1 fd1) (d_bound_behind : Def P w K mg base k "_bound_behind" ["bound", "half", "raw_units", "slew", "drift"] (spBehind K) f2 fd2) :
    DefXN P w K mg base (k + 1) "bound_after" ps_bound_after 2 ["lap", "slew", "drift"] (spAfter K CB CR) f fd := by
  refine ⟨F.F.okX sc_bound_after (fun vs H Q E h => ?_) (fun cdv A outer s H vs Q E hr h => ?_), F.m, F.F.kp, hb⟩
  · obtain ⟨_, _, _, _, _, _, _, rfl, _⟩ := h
    rfl
  obtain ⟨xb, xh, xl, xs, xd, x, m, rfl, L, hm, z, fl⟩ := h
  refine ⟨_, (pss_cons (ps_expr (pcallX d_require_lap hr (takes_of rfl rfl rfl rfl) (pa_cons (pv 0) (pa_cons (pv 1) (pa_cons (pv 2) (pa_cons (pv 3) (pa_cons (pv 4) pa_nil)))))))
      (pss_one (ps_ret (pcall d_bound_behind hr (pa_cons (pv 0) (pa_cons (pv 1) (pa_cons (pv 2) (pa_cons (pv 3) (pa_cons (pv 4) pa_nil))))))))), ?_⟩
  refine ⟨_, rfl, _, rfl, _, rfl, _, rfl, _, rfl, xb, xh, xl, xs, xd, x, m, rfl, L, by omega, fun G => ?_, fl⟩
  exact ⟨_, rfl, _, rfl, _, rfl, _, rfl, _, rfl, xb, xh, xl, xs, xd, x, m, rfl, L, hm, z G⟩
def lapV : Option Int → V
  | none => .non
  | some k => .int k
def spUntil (K : PySem.W.Frag) (CB CR : Addr) : Sp := fun vs H Q E => ∃ (xb xh xg xl xs xd : V) (x : A6) (g : Rat) (m : Nat), vs = [xb, xh, xg, xl, xs, xd] ∧ L5 K H xb xh xl xs xd x m ∧ Rq K H xg g ∧ Sz m g ∧ m ≤ 1500 ∧ (Good x → ∀ H', Same H H' → Q (lapV (lapsP x g)) H') ∧ Fault x (eF E CB CR H [xb, xh, xl, xs, xd])
abbrev s_laps_until : Stmt := top 26
abbrev N_laps_until : List Str := ["bound", "half", "goal", "lap", "slew", "drift", "gain"]
theorem sc_laps_until : FnScope N_laps_until ["bound", "half", "goal", "lap", "slew", "drift"] (defScope s_laps_until) := ⟨rfl, rfl, rfl, by decide +kernel, rfl, by decide +kernel, by decide +kernel⟩
abbrev ps_laps_until : List Str := ["bound", "half", "goal", "lap", "slew", "drift"]
theorem ok_laps_until (F : FnK K mg "laps_until" s_laps_until f fd) (hb : KBn K fd ps_laps_until 3 ["lap", "slew", "drift"] (fun us ws => us ++ ws) (fun vs zs => vs ++ zs)) (d_require_lap : DefX P w K mg base k "_require_lap" ["bound", "half", "lap", "slew", "drift"] (spLap K CB CR) f1 fd1) (dcompare : Def P w K mg base k "compare" ["a", "b"] (spTest2 K fun p q => .int (sg p q)) f2 fd2)
    (dadd : Def P w K mg base k "add" ["a", "b"] (spOp2 K (· + ·)) f3 fd3) (dmultiply : Def P w K mg base k "multiply" ["a", "b"] (spOp2 K (· * ·)) f4 fd4) (dsubtract : Def P w K mg base k "subtract" ["a", "b"] (spOp2 K (· - ·)) f5 fd5) (dfloor_of : Def P w K mg base k "floor_of" ["a"] (fun vs H Q _ => ∃ (x : V) (q : Rat) (m : Nat), vs = [x] ∧ Rq K H x q ∧ Sz m q ∧ m ≤ 9000 ∧ Q (.int q.floor) H) f6 fd6) (ddivide : Def P w K mg base k "divide" ["a", "b"] (spDiv K) f7 fd7) :
    DefXN P w K mg base (k + 1) "laps_until" ps_laps_until 3 ["lap", "slew", "drift"] (spUntil K CB CR) f fd := by
  refine ⟨F.F.okX sc_laps_until (fun vs H Q E h => ?_) (fun cdv A outer s H vs Q E hr h => ?_), F.m, F.F.kp, hb⟩
  · obtain ⟨_, _, _, _, _, _, _, _, _, rfl, _⟩ := h
    rfl
  obtain ⟨xb, xh, xg, xl, xs, xd, x, g, m, rfl, L, hg, zg, hm, z, fl⟩ := h
  refine ⟨_, (pss_cons (ps_expr (pcallX d_require_lap hr (takes_of rfl rfl rfl rfl) (pa_cons (pv 0) (pa_cons (pv 1) (pa_cons (pv 3) (pa_cons (pv 4) (pa_cons (pv 5) pa_nil)))))))
      (pss_cons (ps_if (pt_cmpR op_le (pcall dcompare hr (pa_cons (pv 0) (pa_cons (pv 2) pa_nil))) pe_int (nomark _))
        (pss_one (ps_ret pe_int))
        pss_nil)
      (pss_cons (ps_if (pt_cmpR op_lt (pcall dcompare hr (pa_cons (pv 2) (pa_cons (pcall dadd hr (pa_cons (pv 1) (pa_cons (pcall dmultiply hr (pa_cons (pv 5) (pa_cons (pv 3) pa_nil))) pa_nil))) pa_nil))) pe_int (nomark _))
        (pss_one (ps_ret pe_non))
        pss_nil)
      (pss_cons (ps_set (i := 6) sc_laps_until.nd rfl (Or.inl rfl) (pcall dmultiply hr (pa_cons (pcall dsubtract hr (pa_cons (pv 4) (pa_cons (pv 5) pa_nil))) (pa_cons (pv 3) pa_nil))))
      (pss_one (ps_ret (pe_un un_neg (pcall dfloor_of hr (pa_cons (pcall ddivide hr (pa_cons (pcall dsubtract hr (pa_cons (pv 2) (pa_cons (pv 0) pa_nil))) (pa_cons (pv 6) pa_nil))) pa_nil))))))))), ?_⟩
  refine ⟨_, rfl, _, rfl, _, rfl, _, rfl, _, rfl, xb, xh, xl, xs, xd, x, m, rfl, L, by omega, fun G => ?_, fl⟩
  have z := z G
  refine ⟨_, rfl, _, rfl, _, _, x.b, g, m, m, rfl, L.b, hg, L.zb, zg, by omega, _, _, rfl, rfl, _, rfl, ifD (fun c => ?_) (fun c => ?_)⟩
  · have e : lapsP x g = some 0 := by unfold lapsP; rw [if_pos (sg_le'.mp c)]
    rw [e] at z
    exact z _ (Same.refl _)
  have c1 : ¬ x.b ≤ g := fun e => c (sg_le'.mpr e)
  refine ⟨_, rfl, _, rfl, _, rfl, _, rfl, _, _, x.d, x.l, m, m, rfl, L.d, L.l, L.zd, L.zl, by omega, fun v1 H1 e1 h1 => ?_⟩
  refine ⟨_, _, x.h, x.d * x.l, m, m + m, rfl, L.h.same e1, h1, L.zh, L.zd.mul L.zl, by omega, fun v2 H2 e2 h2 => ?_⟩
  have e12 := e1.trans e2
  have za : Sz (m + (m + m) + 1) (ahead x) := L.zh.add (L.zd.mul L.zl)
  refine ⟨_, _, g, ahead x, m, _, rfl, hg.same e12, h2, zg, za, by omega, _, _, rfl, rfl, _, rfl, ifD (fun c => ?_) (fun c => ?_)⟩
  · have e : lapsP x g = none := by unfold lapsP; rw [if_neg c1, if_pos (sg_lt.mp c)]
    rw [e] at z
    exact z _ e12
  have c2 : ¬ g < ahead x := fun e => c (sg_lt.mpr e)
  refine ⟨_, rfl, _, rfl, _, _, x.s, x.d, m, m, rfl, L.s.same e12, L.d.same e12, L.zs, L.zd, by omega, fun v3 H3 e3 h3 => ?_⟩
  have e13 := e12.trans e3
  refine ⟨_, rfl, _, _, x.s - x.d, x.l, _, m, rfl, h3, L.l.same e13, L.zs.sub L.zd, L.zl, by omega, fun v4 H4 e4 h4 => ?_⟩
  have e14 := e13.trans e4
  have zgn : Sz (m + m + 1 + m) (gain x) := (L.zs.sub L.zd).mul L.zl
  refine ⟨_, rfl, _, rfl, _, _, g, x.b, m, m, rfl, hg.same e14, L.b.same e14, zg, L.zb, by omega, fun v5 H5 e5 h5 => ?_⟩
  refine ⟨_, rfl, _, _, g - x.b, gain x, _, _, rfl, h5, Rq.same e5 h4, zg.sub L.zb, zgn, by omega, G.gp, fun v6 H6 e6 h6 => ?_⟩
  refine ⟨v6, _, _, rfl, h6, (zg.sub L.zb).div zgn G.gp, by omega, ?_⟩
  have e : lapsP x g = some (-((g - x.b) / gain x).floor) := by unfold lapsP; rw [if_neg c1, if_neg c2]
  rw [e] at z
  exact ⟨_, rfl, z _ (e14.trans (e5.trans e6))⟩
end Vk

namespace Vk
open PySem L2 Vm Vl
variable {l : Addr} {P : Program} {w : World} {K : PySem.W.Frag} {mg : Str → Option Value} {base : Heap} {k : Nat} {f f1 f2 f3 f4 f5 f6 f7 f8 f9 : Addr} {fd fd1 fd2 fd3 fd4 fd5 fd6 fd7 fd8 fd9 : FuncData}
/-! ### written fractions compared -/
theorem mkm {n d : Int} (hd : 0 < d) : mkRat n d.toNat * (d : Rat) = (n : Rat) := by
  obtain ⟨m, rfl⟩ : ∃ m : Nat, d = (m : Int) := ⟨d.toNat, by omega⟩
  rw [Int.toNat_natCast, Rat.mkRat_eq_div]
  have h : ((m : Nat) : Rat) = (((m : Nat) : Int) : Rat) := rfl
  rw [h]
  refine Rat.div_mul_cancel fun e => ?_
  have : ((m : Int) : Rat) = ((0 : Int) : Rat) := e
  have := Rat.intCast_inj.mp this
  omega
theorem qle {n d m e : Int} (hd : 0 < d) (he : 0 < e) (h : n * e ≤ m * d) : mkRat n d.toNat ≤ mkRat m e.toNat := by
  have p := mkm (n := n) hd
  have q := mkm (n := m) he
  generalize mkRat n d.toNat = a at p
  generalize mkRat m e.toNat = b at q
  have hd' : (0 : Rat) < (d : Rat) := by exact_mod_cast hd
  have he' : (0 : Rat) < (e : Rat) := by exact_mod_cast he
  have h' : (n : Rat) * (e : Rat) ≤ (m : Rat) * (d : Rat) := by exact_mod_cast h
  by_cases z : a ≤ b
  · exact z
  · exfalso
    have z := Rat.not_le.mp z
    have de := Rat.mul_pos hd' he'
    have := Rat.mul_lt_mul_of_pos_right z de
    have e1 : a * ((d : Rat) * (e : Rat)) = (n : Rat) * (e : Rat) := by rw [← p]; grind
    have e2 : b * ((d : Rat) * (e : Rat)) = (m : Rat) * (d : Rat) := by rw [← q]; grind
    rw [e1, e2] at this
    exact absurd this (Rat.not_lt.mpr h')
theorem qlt {n d m e : Int} (hd : 0 < d) (he : 0 < e) (h : n * e < m * d) : mkRat n d.toNat < mkRat m e.toNat := by
  have p := mkm (n := n) hd
  have q := mkm (n := m) he
  generalize mkRat n d.toNat = a at p
  generalize mkRat m e.toNat = b at q
  have hd' : (0 : Rat) < (d : Rat) := by exact_mod_cast hd
  have he' : (0 : Rat) < (e : Rat) := by exact_mod_cast he
  have h' : (n : Rat) * (e : Rat) < (m : Rat) * (d : Rat) := by exact_mod_cast h
  by_cases z : a < b
  · exact z
  · exfalso
    have z := Rat.not_lt.mp z
    have de := Rat.mul_pos hd' he'
    have := Rat.mul_le_mul_of_nonneg_right z (show (0 : Rat) ≤ (d : Rat) * (e : Rat) by grind)
    have e1 : a * ((d : Rat) * (e : Rat)) = (n : Rat) * (e : Rat) := by rw [← p]; grind
    have e2 : b * ((d : Rat) * (e : Rat)) = (m : Rat) * (d : Rat) := by rw [← q]; grind
    rw [e1, e2] at this
    exact absurd this (Rat.not_le.mpr h')
def ge6 : Rat → Prop := fun q => mkRat 1 6 ≤ q
def nnQ : Rat → Prop := fun q => 0 ≤ q
def negQ : Rat → Prop := fun q => q < 0
def npQ : Rat → Prop := fun q => q ≤ 0
def outQ : Rat → Prop := fun q => q ≤ 0 ∨ 1 ≤ q
instance (q : Rat) : Decidable (ge6 q) := inferInstanceAs (Decidable (_ ≤ _))
instance (q : Rat) : Decidable (nnQ q) := inferInstanceAs (Decidable (_ ≤ _))
instance (q : Rat) : Decidable (negQ q) := inferInstanceAs (Decidable (_ < _))
instance (q : Rat) : Decidable (npQ q) := inferInstanceAs (Decidable (_ ≤ _))
instance (q : Rat) : Decidable (outQ q) := inferInstanceAs (Decidable (_ ∨ _))
theorem r01 : mkRat 0 1 = 0 := by decide +kernel
theorem Qd.imp {m j : Nat} {ok ok' : Rat → Prop} {H : Hp} {v : V} (h : Qd K m ok H v) (e : m ≤ j) (g : ∀ q, ok q → ok' q) : Qd K j ok' H v := by
  obtain ⟨q, r, z, o⟩ := h
  exact ⟨q, r, z.mono e, g q o⟩
abbrev s__law_above : Stmt := top 43
abbrev N__law_above : List Str := ["_law_store_here"]
theorem sc__law_above : FnScope N__law_above ["_law_store_here"] (defScope s__law_above) := ⟨rfl, rfl, rfl, by decide +kernel, rfl, by decide +kernel, by decide +kernel⟩
abbrev ps__law_above : List Str := ["_law_store_here"]
theorem ok_above6 (F : Fn K mg "_law_above" s__law_above ps__law_above f fd) (d_law_take : Def P w K mg base k "_law_take" ["_law_store_here", "_law_many"] (spTake K l) f1 fd1) (d_law_frac : Def P w K mg base k "_law_frac" ["_law_n", "_law_d"] (spFrac K) f3 fd3) : Def P w K mg base (k + 1) "_law_above" ps__law_above (spDraw K l 5 ge6) f fd := by
  refine ⟨F.F.ok sc__law_above (fun vs H Q E h => ?_) (fun cdv A outer s H vs Q E hr h => ?_), F.m, F.F.kp, F.b⟩
  · obtain ⟨_, rfl, _⟩ := h
    rfl
  obtain ⟨s, rfl, hS, z⟩ := h
  refine ⟨_, (pss_cons (ps_if (pt_cmpR op_eq (pcall d_law_take hr (pa_cons (pv 0) (pa_cons pe_int pa_nil))) pe_int (nomark _))
        (pss_one (ps_ret (pe_tup (pa_cons pe_int (pa_cons pe_int pa_nil)))))
        pss_nil)
      (pss_one (ps_ret (pcall d_law_frac hr (pa_cons (pe_op op_add pe_int (pcall d_law_take hr (pa_cons (pv 0) (pa_cons pe_int pa_nil)))) (pa_cons (pe_op op_add pe_int (pcall d_law_take hr (pa_cons (pv 0) (pa_cons pe_int pa_nil)))) pa_nil)))))), ?_⟩
  refine ⟨_, rfl, s, 4, rfl, hS, by decide, fun r H1 r0 r1 S1 e1 => ?_⟩
  refine ⟨rfl, _, rfl, ifD (fun _ => ?_) (fun _ => ?_)⟩
  · exact ⟨sz2, fun t ht => z _ _ (Qd.new 1 1 1 rfl rfl (by decide) (by decide +kernel)) (S1.same (same_new ht _)) (e1.trans (Fr.of (same_new ht _)))⟩
  refine ⟨_, rfl, s, 24, rfl, S1, by decide, fun r2 H2 r3 r4 S2 e2 => ⟨_, _, rfl, rfl, ?_⟩⟩
  refine ⟨_, rfl, s, 6, rfl, S2, by decide, fun r5 H3 r6 r7 S3 e3 => ⟨_, _, rfl, rfl, ?_⟩⟩
  refine ⟨_, _, 5, rfl, by omega, lt2 25 (by omega) (by decide), lt2 7 (by omega) (by decide), by decide, fun v H' e hv => z _ _ ⟨_, hv, sz_mk (by omega) ?_ ?_, ?_⟩ (S3.same e) (e1.trans (e2.trans (e3.trans (Fr.of e))))⟩
  · exact lt2 25 (by omega) (by decide)
  · have : (2 : Nat) ^ 5 = 32 := by decide
    omega
  · exact qle (n := 1) (d := 6) (by decide) (by omega) (by omega)
abbrev s__law_spare : Stmt := top 42
abbrev N__law_spare : List Str := ["_law_store_here"]
theorem sc__law_spare : FnScope N__law_spare ["_law_store_here"] (defScope s__law_spare) := ⟨rfl, rfl, rfl, by decide +kernel, rfl, by decide +kernel, by decide +kernel⟩
abbrev ps__law_spare : List Str := ["_law_store_here"]
theorem ok_spareN (F : Fn K mg "_law_spare" s__law_spare ps__law_spare f fd) (d_law_take : Def P w K mg base k "_law_take" ["_law_store_here", "_law_many"] (spTake K l) f1 fd1) (d_law_frac : Def P w K mg base k "_law_frac" ["_law_n", "_law_d"] (spFrac K) f3 fd3) : Def P w K mg base (k + 1) "_law_spare" ps__law_spare (spDraw K l 5 nnQ) f fd := by
  refine ⟨F.F.ok sc__law_spare (fun vs H Q E h => ?_) (fun cdv A outer s H vs Q E hr h => ?_), F.m, F.F.kp, F.b⟩
  · obtain ⟨_, rfl, _⟩ := h
    rfl
  obtain ⟨s, rfl, hS, z⟩ := h
  refine ⟨_, (pss_cons (ps_if (pt_cmpR op_eq (pcall d_law_take hr (pa_cons (pv 0) (pa_cons pe_int pa_nil))) pe_int (nomark _))
        (pss_one (ps_ret (pe_tup (pa_cons pe_int (pa_cons pe_int pa_nil)))))
        pss_nil)
      (pss_one (ps_ret (pcall d_law_frac hr (pa_cons (pcall d_law_take hr (pa_cons (pv 0) (pa_cons pe_int pa_nil))) (pa_cons (pe_op op_add pe_int (pcall d_law_take hr (pa_cons (pv 0) (pa_cons pe_int pa_nil)))) pa_nil)))))), ?_⟩
  refine ⟨_, rfl, s, 4, rfl, hS, by decide, fun r H1 r0 r1 S1 e1 => ?_⟩
  refine ⟨rfl, _, rfl, ifD (fun _ => ?_) (fun _ => ?_)⟩
  · exact ⟨sz2, fun t ht => z _ _ (Qd.new 0 1 0 rfl rfl (by decide) (by decide +kernel)) (S1.same (same_new ht _)) (e1.trans (Fr.of (same_new ht _)))⟩
  refine ⟨_, rfl, s, 25, rfl, S1, by decide, fun r2 H2 r3 r4 S2 e2 => ?_⟩
  refine ⟨_, rfl, s, 6, rfl, S2, by decide, fun r5 H3 r6 r7 S3 e3 => ⟨_, _, rfl, rfl, ?_⟩⟩
  refine ⟨_, _, 5, rfl, by omega, lt2 25 (by omega) (by decide), lt2 7 (by omega) (by decide), by decide, fun v H' e hv => z _ _ ⟨_, hv, sz_mk (by omega) ?_ ?_, ?_⟩ (S3.same e) (e1.trans (e2.trans (e3.trans (Fr.of e))))⟩
  · exact lt2 25 (by omega) (by decide)
  · have : (2 : Nat) ^ 5 = 32 := by decide
    omega
  · have := qle (n := 0) (d := 1) (m := r2) (e := 1 + r5) (by decide) (by omega) (by omega)
    show (0 : Rat) ≤ _
    rw [← r01]
    exact this
/-! ### slews -/
def SlOk (s d : Rat) : Prop := mkRat 1 20 ≤ s ∧ s < 1 ∧ 0 ≤ d ∧ 8 * d ≤ 7 * s
def Sl (K : PySem.W.Frag) (m : Nat) (ok : Rat → Rat → Prop) (H : Hp) (v : V) : Prop := ∃ r xs xd s d, v = .ref r ∧ SqT K H r [xs, xd] ∧ Rq K H xs s ∧ Rq K H xd d ∧ Sz m s ∧ Sz m d ∧ ok s d
theorem Sl.same {m : Nat} {ok : Rat → Rat → Prop} {H H' : Hp} {v : V} (e : Same H H') (h : Sl K m ok H v) : Sl K m ok H' v := by
  obtain ⟨r, xs, xd, s, d, rfl, h, h1, h2, r'⟩ := h
  exact ⟨r, xs, xd, s, d, rfl, e.sqt h, h1.same e, h2.same e, r'⟩
theorem Sl.fr {m : Nat} {ok : Rat → Rat → Prop} {s : Addr} {H H' : Hp} {v : V} (e : Fr s H H') (hs : ∃ ys, H s = some (.lst ys)) (h : Sl K m ok H v) : Sl K m ok H' v := by
  obtain ⟨r, xs, xd, s, d, rfl, h, h1, h2, r'⟩ := h
  exact ⟨r, xs, xd, s, d, rfl, sqt_fr e hs h, h1.fr e hs, h2.fr e hs, r'⟩
theorem sl_new {m : Nat} {ok : Rat → Rat → Prop} {H : Hp} {t : Addr} {u v : V} {s d : Rat} (ht : H t = none) (hu : Rq K H u s) (hv : Rq K H v d) (zs : Sz m s) (zd : Sz m d) (o : ok s d) : Sl K m ok (upd H t (.tup [u, v])) (.ref t) :=
  ⟨t, u, v, s, d, rfl, SqT.of upd_same, hu.same (same_new ht _), hv.same (same_new ht _), zs, zd, o⟩
def spSl (K : PySem.W.Frag) (l : Addr) : Sp := fun vs H Q _ => ∃ (s : Addr), vs = [.ref s] ∧ Sto l s H ∧ ∀ (v : V) H', Sl K 24 SlOk H' v → Sto l s H' → Fr s H H' → Q v H'
abbrev s__law_slews : Stmt := top 44
abbrev N__law_slews : List Str := ["_law_store_here", "_law_parts", "_law_bend"]
theorem sc__law_slews : FnScope N__law_slews ["_law_store_here"] (defScope s__law_slews) := ⟨rfl, rfl, rfl, by decide +kernel, rfl, by decide +kernel, by decide +kernel⟩
abbrev ps__law_slews : List Str := ["_law_store_here"]
theorem ok_slews (F : Fn K mg "_law_slews" s__law_slews ps__law_slews f fd) (d_law_take : Def P w K mg base k "_law_take" ["_law_store_here", "_law_many"] (spTake K l) f1 fd1) (d_law_frac : Def P w K mg base k "_law_frac" ["_law_n", "_law_d"] (spFrac K) f2 fd2) (d_law_times : Def P w K mg base k "_law_times" ["_law_a", "_law_b"] (spOp2 K (· * ·)) f3 fd3) :
    Def P w K mg base (k + 1) "_law_slews" ps__law_slews (spSl K l) f fd := by
  refine ⟨F.F.ok sc__law_slews (fun vs H Q E h => ?_) (fun cdv A outer s H vs Q E hr h => ?_), F.m, F.F.kp, F.b⟩
  · obtain ⟨_, rfl, _⟩ := h
    rfl
  obtain ⟨s, rfl, hS, z⟩ := h
  refine ⟨_, (pss_cons (ps_set (i := 1) sc__law_slews.nd rfl (Or.inl rfl) (pe_op op_add pe_int (pcall d_law_take hr (pa_cons (pv 0) (pa_cons pe_int pa_nil)))))
      (pss_cons (ps_set (i := 2) sc__law_slews.nd rfl (Or.inl rfl) (pcall d_law_frac hr (pa_cons (pe_op op_add pe_int (pcall d_law_take hr (pa_cons (pv 0) (pa_cons (pe_op op_sub (pv 1) pe_int) pa_nil)))) (pa_cons (pv 1) pa_nil))))
      (pss_cons (ps_if (pt_cmpR op_eq (pcall d_law_take hr (pa_cons (pv 0) (pa_cons pe_int pa_nil))) pe_int (nomark _))
        (pss_one (ps_ret (pe_tup (pa_cons (pv 2) (pa_cons (pe_tup (pa_cons pe_int (pa_cons pe_int pa_nil))) pa_nil)))))
        pss_nil)
      (pss_one (ps_ret (pe_tup (pa_cons (pv 2) (pa_cons (pcall d_law_times hr (pa_cons (pv 2) (pa_cons (pcall d_law_frac hr (pa_cons (pcall d_law_take hr (pa_cons (pv 0) (pa_cons pe_int pa_nil))) (pa_cons pe_int pa_nil))) pa_nil))) pa_nil)))))))), ?_⟩
  refine ⟨_, rfl, s, 19, rfl, hS, by decide, fun r H1 r0 r1 S1 e1 => ⟨_, _, rfl, rfl, ?_⟩⟩
  have p64 : (2 : Int) ^ 64 = 18446744073709551616 := by decide
  refine ⟨_, rfl, _, rfl, _, _, rfl, rfl, s, _, rfl, S1, by omega, fun i H2 i0 i1 S2 e2 => ⟨_, _, rfl, rfl, _, rfl, ?_⟩⟩
  have i1 : i < 2 + r - 1 ∨ i = 0 := i1
  have z20 : (2 : Nat) ^ 20 = 1048576 := by decide
  refine ⟨_, _, 20, rfl, by omega, by omega, by omega, by decide, fun vb H3 e3 hb => ?_⟩
  have zb : Sz 20 (mkRat (1 + i) (2 + r).toNat) := sz_mk (by omega) (by omega) (by omega)
  have b1 : mkRat 1 20 ≤ mkRat (1 + i) (2 + r).toNat := qle (n := 1) (d := 20) (by decide) (by omega) (by omega)
  have b2 : mkRat (1 + i) (2 + r).toNat < 1 := by
    have := qlt (n := 1 + i) (d := 2 + r) (m := 1) (e := 1) (by omega) (by decide) (by omega)
    rw [show mkRat 1 (1 : Int).toNat = 1 by decide +kernel] at this
    exact this
  generalize mkRat (1 + i) (2 + r).toNat = q at hb zb b1 b2
  have S3 := S2.same e3
  have e13 := e1.trans (e2.trans (Fr.of e3))
  refine ⟨_, rfl, s, 4, rfl, S3, by decide, fun r2 H4 _ _ S4 e4 => ⟨rfl, _, rfl, ?_⟩⟩
  have hb4 := hb.fr e4 S3.some
  refine ifD (fun _ => ?_) (fun _ => ?_)
  · refine ⟨_, rfl, sz2, fun t ht => ⟨sz2, fun t2 ht2 => ?_⟩⟩
    have st := same_new ht (.tup [.int 0, .int 1])
    have q0 : (0 : Rat) ≤ q := by
      have : (0 : Rat) ≤ mkRat 1 20 := by decide +kernel
      grind
    exact z _ _ (sl_new (m := 24) (ok := SlOk) ht2 (hb4.same st) (rq_new 0 1 0 (by decide +kernel) (by decide +kernel)) (zb.mono (by decide)) (by decide +kernel) ⟨b1, b2, Rat.le_refl, by grind⟩) ((S4.same st).same (same_new ht2 _)) (e13.trans (e4.trans (Fr.of (st.trans (same_new ht2 _)))))
  · refine ⟨_, rfl, _, rfl, _, rfl, s, 8, rfl, S4, by decide, fun j H5 j0 j1 S5 e5 => ?_⟩
    refine ⟨_, _, 4, rfl, by decide, lt2 9 (by omega) (by decide), by decide, by decide, fun vj H6 e6 hj => ?_⟩
    have p4 : (2 : Nat) ^ 4 = 16 := by decide
    have zj : Sz 4 (mkRat j (8 : Int).toNat) := sz_mk (by decide) (by omega) (by decide)
    have m1 := mkm (n := j) (d := 8) (by decide)
    generalize mkRat j (8 : Int).toNat = qj at hj zj m1
    have j0' : (0 : Rat) ≤ (j : Rat) := by exact_mod_cast j0
    have j7' : (j : Rat) ≤ ((7 : Int) : Rat) := by
      have : j ≤ 7 := by omega
      exact_mod_cast this
    have c7 : ((7 : Int) : Rat) = 7 := rfl
    have c8 : ((8 : Int) : Rat) = 8 := rfl
    rw [c7] at j7'
    rw [c8] at m1
    have hb6 : Rq K H6 vb q := (hb4.fr e5 S4.some).same e6
    refine ⟨_, _, q, qj, 20, 4, rfl, hb6, hj, zb, zj, by decide, fun vd H7 e7 hd => ⟨sz2, fun t ht => ?_⟩⟩
    have q0 : (0 : Rat) ≤ q := by
      have : (0 : Rat) ≤ mkRat 1 20 := by decide +kernel
      grind
    have o1 : 0 ≤ q * qj := mul_nn q0 (by grind)
    have o2 : 8 * (q * qj) ≤ 7 * q := by
      have : q * (8 * qj) ≤ q * 7 := Rat.mul_le_mul_of_nonneg_left (by grind) q0
      grind
    have S7 := (S5.same e6).same e7
    exact z _ _ (sl_new (m := 24) (ok := SlOk) ht (hb6.same e7) hd (zb.mono (by decide)) (zb.mul zj) ⟨b1, b2, o1, o2⟩) (S7.same (same_new ht _)) (e13.trans (e4.trans (e5.trans (Fr.of (e6.trans (e7.trans (same_new ht _)))))))
end Vk

namespace Vk
open PySem L2 Vm Vl
variable {l : Addr} {P : Program} {w : World} {K : PySem.W.Frag} {mg : Str → Option Value} {base : Heap} {k : Nat} {f f1 f2 f3 f4 f5 f6 f7 f8 f9 : Addr} {fd fd1 fd2 fd3 fd4 fd5 fd6 fd7 fd8 fd9 : FuncData}
theorem z1000 : Sz 10 (mkRat 1 1000) := by decide +kernel
abbrev s__law_negative : Stmt := top 45
abbrev N__law_negative : List Str := ["_law_store_here"]
theorem sc__law_negative : FnScope N__law_negative ["_law_store_here"] (defScope s__law_negative) := ⟨rfl, rfl, rfl, by decide +kernel, rfl, by decide +kernel, by decide +kernel⟩
abbrev ps__law_negative : List Str := ["_law_store_here"]
theorem ok_negative (F : Fn K mg "_law_negative" s__law_negative ps__law_negative f fd) (d_law_pick : Def P w K mg base k "_law_pick" ["_law_store_here", "_law_things"] (spPick K l) f1 fd1) (d_law_minus : Def P w K mg base k "_law_minus" ["_law_a", "_law_b"] (spOp2 K (· - ·)) f2 fd2) (d_law_above : Def P w K mg base k "_law_above" ["_law_store_here"] (spDraw K l 5 ge6) f3 fd3) :
    Def P w K mg base (k + 1) "_law_negative" ps__law_negative (spDraw K l 20 negQ) f fd := by
  refine ⟨F.F.ok sc__law_negative (fun vs H Q E h => ?_) (fun cdv A outer s H vs Q E hr h => ?_), F.m, F.F.kp, F.b⟩
  · obtain ⟨_, rfl, _⟩ := h
    rfl
  obtain ⟨s, rfl, hS, z⟩ := h
  refine ⟨_, (pss_one (ps_ret (pcall d_law_pick hr (pa_cons (pv 0) (pa_cons (pe_lst (pa_cons (pe_tup (pa_cons (pe_un un_neg pe_int) (pa_cons pe_int pa_nil))) (pa_cons (pe_tup (pa_cons (pe_un un_neg pe_int) (pa_cons pe_int pa_nil))) (pa_cons (pcall d_law_minus hr (pa_cons (pe_tup (pa_cons pe_int (pa_cons pe_int pa_nil))) (pa_cons (pcall d_law_above hr (pa_cons (pv 0) pa_nil)) pa_nil))) pa_nil)))) pa_nil))))), ?_⟩
  refine ⟨_, rfl, _, rfl, sz2, fun t1 h1 => ?_⟩
  have c1 := same_new h1 (.tup [.int (-1), .int 1]); have q1 := Qd.new (K := K) (m := 20) (ok := negQ) (H := H) (t := t1) (-1) 1 (-1) (by decide) (by decide) (by decide) (by decide); generalize upd H t1 (.tup [.int (-1), .int 1]) = G1 at c1 q1 ⊢
  refine ⟨_, rfl, sz2, fun t2 h2 => ?_⟩
  have c2 := same_new h2 (.tup [.int (-1), .int 1000]); have q2 := Qd.new (K := K) (m := 20) (ok := negQ) (H := G1) (t := t2) (-1) 1000 (mkRat (-1) 1000) (by decide) (by decide) (by decide) (by decide); generalize upd G1 t2 (.tup [.int (-1), .int 1000]) = G2 at c2 q2 ⊢
  refine ⟨sz2, fun t3 h3 => ?_⟩
  have c3 := same_new h3 (.tup [.int 0, .int 1])
  have r0 : Rq K (upd G2 t3 (.tup [.int 0, .int 1])) (.ref t3) 0 := rq_new 0 1 0 (by decide +kernel) (by decide +kernel)
  generalize upd G2 t3 (.tup [.int 0, .int 1]) = G3 at c3 r0 ⊢
  have S3 := hS.same (c1.trans (c2.trans c3))
  refine ⟨_, rfl, s, rfl, S3, fun va G4 qa S4 e4 => ?_⟩
  obtain ⟨b, rb, zb, ob⟩ := qa
  have ob : mkRat 1 6 ≤ b := ob
  have b0 : 0 < b := by
    have : (0 : Rat) < mkRat 1 6 := by decide +kernel
    grind
  refine ⟨_, _, 0, b, 1, 5, rfl, r0.fr e4 S3.some, rb, zz1, zb, by decide, fun v5 G5 e5 h5 => ⟨sm3, fun p hp => ?_⟩⟩
  have sp := same_new hp (.lst [.ref t1, .ref t2, v5])
  have S5 := (S4.same e5).same sp
  have q1 := ((((q1.same c2).same c3).fr e4 S3).same e5).same sp
  have q2 := (((q2.same c3).fr e4 S3).same e5).same sp
  have q3 : Qd K 20 negQ (upd G5 p (.lst [.ref t1, .ref t2, v5])) v5 := ⟨0 - b, h5.same sp, (zz1.sub zb).mono (by decide), (by show 0 - b < 0; grind)⟩
  refine ⟨s, p, _, rfl, S5, (S4.same e5).ne hp, SqL.of upd_same, (by show 0 < 3; decide), (by show 3 < 2 ^ 32; decide), fun v H' hv S' e' => ?_⟩
  refine z _ _ (Qd.fr e' S5 ?_) S' ((Fr.of (c1.trans (c2.trans c3))).trans (e4.trans ((Fr.of (e5.trans sp)).trans e')))
  simp only [List.mem_cons, List.mem_nil_iff, or_false] at hv
  rcases hv with rfl | rfl | rfl <;> assumption
abbrev s__law_not_above : Stmt := top 46
abbrev N__law_not_above : List Str := ["_law_store_here"]
theorem sc__law_not_above : FnScope N__law_not_above ["_law_store_here"] (defScope s__law_not_above) := ⟨rfl, rfl, rfl, by decide +kernel, rfl, by decide +kernel, by decide +kernel⟩
abbrev ps__law_not_above : List Str := ["_law_store_here"]
theorem ok_not_above (F : Fn K mg "_law_not_above" s__law_not_above ps__law_not_above f fd) (d_law_pick : Def P w K mg base k "_law_pick" ["_law_store_here", "_law_things"] (spPick K l) f1 fd1) (d_law_negative : Def P w K mg base k "_law_negative" ["_law_store_here"] (spDraw K l 20 negQ) f2 fd2) :
    Def P w K mg base (k + 1) "_law_not_above" ps__law_not_above (spDraw K l 20 npQ) f fd := by
  refine ⟨F.F.ok sc__law_not_above (fun vs H Q E h => ?_) (fun cdv A outer s H vs Q E hr h => ?_), F.m, F.F.kp, F.b⟩
  · obtain ⟨_, rfl, _⟩ := h
    rfl
  obtain ⟨s, rfl, hS, z⟩ := h
  refine ⟨_, (pss_one (ps_ret (pcall d_law_pick hr (pa_cons (pv 0) (pa_cons (pe_lst (pa_cons (pe_tup (pa_cons pe_int (pa_cons pe_int pa_nil))) (pa_cons (pe_tup (pa_cons pe_int (pa_cons pe_int pa_nil))) (pa_cons (pcall d_law_negative hr (pa_cons (pv 0) pa_nil)) pa_nil)))) pa_nil))))), ?_⟩
  refine ⟨_, rfl, sz2, fun t1 h1 => ?_⟩
  have c1 := same_new h1 (.tup [.int 0, .int 1]); have q1 := Qd.new (K := K) (m := 20) (ok := npQ) (H := H) (t := t1) 0 1 (0) (by decide) (by decide) (by decide) (by decide); generalize upd H t1 (.tup [.int 0, .int 1]) = G1 at c1 q1 ⊢
  refine ⟨sz2, fun t2 h2 => ?_⟩
  have c2 := same_new h2 (.tup [.int 0, .int 1]); have q2 := Qd.new (K := K) (m := 20) (ok := npQ) (H := G1) (t := t2) 0 1 (0) (by decide) (by decide) (by decide) (by decide); generalize upd G1 t2 (.tup [.int 0, .int 1]) = G2 at c2 q2 ⊢
  have S2 := hS.same (c1.trans c2)
  refine ⟨_, rfl, s, rfl, S2, fun va G4 qa S4 e4 => ⟨sm3, fun p hp => ?_⟩⟩
  have sp := same_new hp (.lst [.ref t1, .ref t2, va])
  have S5 := S4.same sp
  have q1 := ((q1.same c2).fr e4 S2).same sp
  have q2 := (q2.fr e4 S2).same sp
  have q3 : Qd K 20 npQ (upd G4 p (.lst [.ref t1, .ref t2, va])) va := (qa.same sp).imp (Nat.le_refl _) fun q h => by have h : q < 0 := h; show q ≤ 0; grind
  refine ⟨s, p, _, rfl, S5, S4.ne hp, SqL.of upd_same, (by show 0 < 3; decide), (by show 3 < 2 ^ 32; decide), fun v H' hv S' e' => ?_⟩
  refine z _ _ (Qd.fr e' S5 ?_) S' ((Fr.of (c1.trans c2)).trans (e4.trans ((Fr.of sp).trans e')))
  simp only [List.mem_cons, List.mem_nil_iff, or_false] at hv
  rcases hv with rfl | rfl | rfl <;> assumption
abbrev s__law_bad_slew : Stmt := top 47
abbrev N__law_bad_slew : List Str := ["_law_store_here"]
theorem sc__law_bad_slew : FnScope N__law_bad_slew ["_law_store_here"] (defScope s__law_bad_slew) := ⟨rfl, rfl, rfl, by decide +kernel, rfl, by decide +kernel, by decide +kernel⟩
abbrev ps__law_bad_slew : List Str := ["_law_store_here"]
theorem ok_bad_slew (F : Fn K mg "_law_bad_slew" s__law_bad_slew ps__law_bad_slew f fd) (d_law_pick : Def P w K mg base k "_law_pick" ["_law_store_here", "_law_things"] (spPick K l) f1 fd1) (d_law_negative : Def P w K mg base k "_law_negative" ["_law_store_here"] (spDraw K l 20 negQ) f2 fd2) (d_law_plus : Def P w K mg base k "_law_plus" ["_law_a", "_law_b"] (spOp2 K (· + ·)) f3 fd3) (d_law_above : Def P w K mg base k "_law_above" ["_law_store_here"] (spDraw K l 5 ge6) f4 fd4) :
    Def P w K mg base (k + 1) "_law_bad_slew" ps__law_bad_slew (spDraw K l 20 outQ) f fd := by
  refine ⟨F.F.ok sc__law_bad_slew (fun vs H Q E h => ?_) (fun cdv A outer s H vs Q E hr h => ?_), F.m, F.F.kp, F.b⟩
  · obtain ⟨_, rfl, _⟩ := h
    rfl
  obtain ⟨s, rfl, hS, z⟩ := h
  refine ⟨_, (pss_one (ps_ret (pcall d_law_pick hr (pa_cons (pv 0) (pa_cons (pe_lst (pa_cons (pe_tup (pa_cons pe_int (pa_cons pe_int pa_nil))) (pa_cons (pe_tup (pa_cons pe_int (pa_cons pe_int pa_nil))) (pa_cons (pe_tup (pa_cons pe_int (pa_cons pe_int pa_nil))) (pa_cons (pcall d_law_negative hr (pa_cons (pv 0) pa_nil)) (pa_cons (pcall d_law_plus hr (pa_cons (pe_tup (pa_cons pe_int (pa_cons pe_int pa_nil))) (pa_cons (pcall d_law_above hr (pa_cons (pv 0) pa_nil)) pa_nil))) pa_nil)))))) pa_nil))))), ?_⟩
  refine ⟨_, rfl, sz2, fun t1 h1 => ?_⟩
  have c1 := same_new h1 (.tup [.int 0, .int 1]); have q1 := Qd.new (K := K) (m := 20) (ok := outQ) (H := H) (t := t1) 0 1 (0) (by decide) (by decide) (by decide) (by decide); generalize upd H t1 (.tup [.int 0, .int 1]) = G1 at c1 q1 ⊢
  refine ⟨sz2, fun t2 h2 => ?_⟩
  have c2 := same_new h2 (.tup [.int 1, .int 1]); have q2 := Qd.new (K := K) (m := 20) (ok := outQ) (H := G1) (t := t2) 1 1 (1) (by decide) (by decide) (by decide) (by decide); generalize upd G1 t2 (.tup [.int 1, .int 1]) = G2 at c2 q2 ⊢
  refine ⟨sz2, fun t3 h3 => ?_⟩
  have c3 := same_new h3 (.tup [.int 1, .int 1]); have q3 := Qd.new (K := K) (m := 20) (ok := outQ) (H := G2) (t := t3) 1 1 (1) (by decide) (by decide) (by decide) (by decide); generalize upd G2 t3 (.tup [.int 1, .int 1]) = G3 at c3 q3 ⊢
  have S3 := hS.same (c1.trans (c2.trans c3))
  refine ⟨_, rfl, s, rfl, S3, fun va G4 qa S4 e4 => ⟨sz2, fun t5 h5 => ?_⟩⟩
  have c5 := same_new h5 (.tup [.int 1, .int 1])
  have r1 : Rq K (upd G4 t5 (.tup [.int 1, .int 1])) (.ref t5) 1 := rq_new 1 1 1 (by decide +kernel) (by decide +kernel)
  generalize upd G4 t5 (.tup [.int 1, .int 1]) = G5 at c5 r1 ⊢
  have S5 := S4.same c5
  refine ⟨_, rfl, s, rfl, S5, fun vb G6 qb S6 e6 => ?_⟩
  obtain ⟨b, rb, zb, ob⟩ := qb
  have ob : mkRat 1 6 ≤ b := ob
  have b0 : 0 < b := by
    have : (0 : Rat) < mkRat 1 6 := by decide +kernel
    grind
  refine ⟨_, _, 1, b, 1, 5, rfl, r1.fr e6 S5.some, rb, zo1, zb, by decide, fun v7 G7 e7 h7 => ⟨sm5, fun p hp => ?_⟩⟩
  have sp := same_new hp (.lst [.ref t1, .ref t2, .ref t3, va, v7])
  have S7 := (S6.same e7).same sp
  have q1 := ((((((q1.same c2).same c3).fr e4 S3).same c5).fr e6 S5).same e7).same sp
  have q2 := (((((q2.same c3).fr e4 S3).same c5).fr e6 S5).same e7).same sp
  have q3 := ((((q3.fr e4 S3).same c5).fr e6 S5).same e7).same sp
  have q4 : Qd K 20 outQ (upd G7 p (.lst [.ref t1, .ref t2, .ref t3, va, v7])) va := ((((qa.same c5).fr e6 S5).same e7).same sp).imp (Nat.le_refl _) fun q h => by have h : q < 0 := h; show q ≤ 0 ∨ _; left; grind
  have q5 : Qd K 20 outQ (upd G7 p (.lst [.ref t1, .ref t2, .ref t3, va, v7])) v7 := ⟨1 + b, h7.same sp, (zo1.add zb).mono (by decide), (by show _ ∨ 1 ≤ 1 + b; right; grind)⟩
  refine ⟨s, p, _, rfl, S7, (S6.same e7).ne hp, SqL.of upd_same, (by show 0 < 5; decide), (by show 5 < 2 ^ 32; decide), fun v H' hv S' e' => ?_⟩
  refine z _ _ (Qd.fr e' S7 ?_) S' ((Fr.of (c1.trans (c2.trans c3))).trans (e4.trans ((Fr.of c5).trans (e6.trans ((Fr.of (e7.trans sp)).trans e')))))
  simp only [List.mem_cons, List.mem_nil_iff, or_false] at hv
  rcases hv with rfl | rfl | rfl | rfl | rfl <;> assumption
def overQ (b : Rat) : Rat → Prop := fun q => q < 0 ∨ b ≤ q
def spBadD (K : PySem.W.Frag) (l : Addr) : Sp := fun vs H Q _ => ∃ (s : Addr) (x : V) (b : Rat), vs = [.ref s, x] ∧ Sto l s H ∧ Rq K H x b ∧ Sz 24 b ∧ b < 1 ∧ ∀ (v : V) H', Qd K 40 (overQ b) H' v → Sto l s H' → Fr s H H' → Q v H'
abbrev s__law_bad_drift : Stmt := top 48
abbrev N__law_bad_drift : List Str := ["_law_store_here", "_law_bend"]
theorem sc__law_bad_drift : FnScope N__law_bad_drift ["_law_store_here", "_law_bend"] (defScope s__law_bad_drift) := ⟨rfl, rfl, rfl, by decide +kernel, rfl, by decide +kernel, by decide +kernel⟩
abbrev ps__law_bad_drift : List Str := ["_law_store_here", "_law_bend"]
theorem ok_bad_drift (F : Fn K mg "_law_bad_drift" s__law_bad_drift ps__law_bad_drift f fd) (d_law_pick : Def P w K mg base k "_law_pick" ["_law_store_here", "_law_things"] (spPick K l) f1 fd1) (d_law_negative : Def P w K mg base k "_law_negative" ["_law_store_here"] (spDraw K l 20 negQ) f2 fd2) (d_law_plus : Def P w K mg base k "_law_plus" ["_law_a", "_law_b"] (spOp2 K (· + ·)) f3 fd3) :
    Def P w K mg base (k + 1) "_law_bad_drift" ps__law_bad_drift (spBadD K l) f fd := by
  refine ⟨F.F.ok sc__law_bad_drift (fun vs H Q E h => ?_) (fun cdv A outer s H vs Q E hr h => ?_), F.m, F.F.kp, F.b⟩
  · obtain ⟨_, _, _, rfl, _⟩ := h
    rfl
  obtain ⟨s, x, b, rfl, hS, hx, zb, b1, z⟩ := h
  refine ⟨_, (pss_one (ps_ret (pcall d_law_pick hr (pa_cons (pv 0) (pa_cons (pe_lst (pa_cons (pv 1) (pa_cons (pcall d_law_negative hr (pa_cons (pv 0) pa_nil)) (pa_cons (pcall d_law_plus hr (pa_cons (pv 1) (pa_cons (pe_tup (pa_cons pe_int (pa_cons pe_int pa_nil))) pa_nil))) (pa_cons (pe_tup (pa_cons pe_int (pa_cons pe_int pa_nil))) pa_nil))))) pa_nil))))), ?_⟩
  refine ⟨_, rfl, _, rfl, _, rfl, s, rfl, hS, fun va G1 qa S1 e1 => ⟨_, rfl, sz2, fun t2 h2 => ?_⟩⟩
  have c2 := same_new h2 (.tup [.int 1, .int 1000])
  have rm : Rq K (upd G1 t2 (.tup [.int 1, .int 1000])) (.ref t2) (mkRat 1 1000) := rq_new 1 1000 _ (by decide +kernel) (by decide +kernel)
  have qa2 := qa.same c2
  have hx2 := (hx.fr e1 hS.some).same c2
  generalize upd G1 t2 (.tup [.int 1, .int 1000]) = G2 at c2 rm qa2 hx2 ⊢
  refine ⟨_, _, b, mkRat 1 1000, 24, 10, rfl, hx2, rm, zb, z1000, by decide, fun v3 G3 e3 h3 => ⟨sz2, fun t4 h4 => ?_⟩⟩
  have c4 := same_new h4 (.tup [.int 1, .int 1])
  have ro : Rq K (upd G3 t4 (.tup [.int 1, .int 1])) (.ref t4) 1 := rq_new 1 1 1 (by decide +kernel) (by decide +kernel)
  have s24 := e3.trans c4
  have h34 := Rq.same c4 h3
  generalize upd G3 t4 (.tup [.int 1, .int 1]) = G4 at c4 ro s24 h34 ⊢
  refine ⟨sm4, fun p hp => ?_⟩
  have sp := same_new hp (.lst [x, va, v3, .ref t4])
  have S4 := (S1.same c2).same s24
  have b0 : mkRat 1 1000 > 0 := by decide +kernel
  have q1 : Qd K 40 (overQ b) (upd G4 p (.lst [x, va, v3, .ref t4])) x := ⟨b, (hx2.same s24).same sp, zb.mono (by decide), .inr Rat.le_refl⟩
  have q2 : Qd K 40 (overQ b) (upd G4 p (.lst [x, va, v3, .ref t4])) va := ((qa2.same s24).same sp).imp (by decide) fun q h => .inl h
  have q3 : Qd K 40 (overQ b) (upd G4 p (.lst [x, va, v3, .ref t4])) v3 := ⟨b + mkRat 1 1000, h34.same sp, (zb.add z1000).mono (by decide), .inr (by grind)⟩
  have q4 : Qd K 40 (overQ b) (upd G4 p (.lst [x, va, v3, .ref t4])) (.ref t4) := ⟨1, ro.same sp, zo1.mono (by decide), .inr (by grind)⟩
  refine ⟨s, p, _, rfl, S4.same sp, S4.ne hp, SqL.of upd_same, (by show 0 < 4; decide), (by show 4 < 2 ^ 32; decide), fun v H' hv S' e' => ?_⟩
  refine z _ _ (Qd.fr e' (S4.same sp) ?_) S' (e1.trans ((Fr.of (c2.trans (s24.trans sp))).trans e'))
  simp only [List.mem_cons, List.mem_nil_iff, or_false] at hv
  rcases hv with rfl | rfl | rfl | rfl <;> assumption
end Vk

namespace Vk
open PySem L2 Vm Vl
variable {l : Addr} {P : Program} {w : World} {K : PySem.W.Frag} {mg : Str → Option Value} {base : Heap} {k : Nat} {f f1 f2 f3 f4 f5 f6 f7 f8 f9 : Addr} {fd fd1 fd2 fd3 fd4 fd5 fd6 fd7 fd8 fd9 : FuncData}
def faName (b : Bool) : Str := if b = true then ("BadBound" : Str) else ("BadRate" : Str)
/-- the first wrong argument is the i-th one -/
def Fa (x : A6) (b : Bool) (i : Nat) : Prop := ∀ W, Fault x W → W b i
def Bd (K : PySem.W.Frag) (H : Hp) (v : V) : Prop := ∃ r x0 x1 x2 x3 x4 t y x b i, v = .ref r ∧ SqT K H r [x0, x1, x2, x3, x4, .ref t] ∧ SqT K H t [.str (faName b), y] ∧ L5 K H x0 x1 x2 x3 x4 x 40 ∧ Fa x b i ∧ [x0, x1, x2, x3, x4][i]? = some y
def spBd (K : PySem.W.Frag) (l : Addr) : Sp := fun vs H Q _ => ∃ (s : Addr), vs = [.ref s] ∧ Sto l s H ∧ ∀ (v : V) H', Bd K H' v → Sto l s H' → Fr s H H' → Q v H'
def bit (m : Int) (j : Nat) : Bool := decide ((m / (2 : Int) ^ j) % 2 = 1)
theorem bit_some {m : Int} (h1 : 1 ≤ m) (h2 : m ≤ 31) : ∃ j, j < 5 ∧ bit m j = true ∧ ∀ i, i < j → bit m i = false := by
  have e : ∀ j, bit m j = decide ((m / (2 : Int) ^ j) % 2 = 1) := fun j => rfl
  have p1 : (2 : Int) ^ 1 = 2 := by decide
  have p2 : (2 : Int) ^ 2 = 4 := by decide
  have p3 : (2 : Int) ^ 3 = 8 := by decide
  have p4 : (2 : Int) ^ 4 = 16 := by decide
  have p0 : (2 : Int) ^ 0 = 1 := by decide
  have neg : ∀ j, ¬ (m / (2 : Int) ^ j) % 2 = 1 → bit m j = false := fun j h => decide_eq_false h
  have pos : ∀ j, (m / (2 : Int) ^ j) % 2 = 1 → bit m j = true := fun j h => decide_eq_true h
  by_cases h0 : (m / (2 : Int) ^ 0) % 2 = 1
  · exact ⟨0, by decide, pos 0 h0, fun i hi => absurd hi (by omega)⟩
  by_cases h1 : (m / (2 : Int) ^ 1) % 2 = 1
  · exact ⟨1, by decide, pos 1 h1, fun i hi => by match i, hi with | 0, _ => exact neg 0 h0⟩
  by_cases h2 : (m / (2 : Int) ^ 2) % 2 = 1
  · exact ⟨2, by decide, pos 2 h2, fun i hi => by match i, hi with | 0, _ => exact neg 0 h0 | 1, _ => exact neg 1 h1⟩
  by_cases h3 : (m / (2 : Int) ^ 3) % 2 = 1
  · exact ⟨3, by decide, pos 3 h3, fun i hi => by match i, hi with | 0, _ => exact neg 0 h0 | 1, _ => exact neg 1 h1 | 2, _ => exact neg 2 h2⟩
  by_cases h4 : (m / (2 : Int) ^ 4) % 2 = 1
  · exact ⟨4, by decide, pos 4 h4, fun i hi => by match i, hi with | 0, _ => exact neg 0 h0 | 1, _ => exact neg 1 h1 | 2, _ => exact neg 2 h2 | 3, _ => exact neg 3 h3⟩
  rw [p0] at h0; rw [p1] at h1; rw [p2] at h2; rw [p3] at h3; rw [p4] at h4
  omega
theorem pow_item {i : Nat} (h : i < 5) : [V.int 1, V.int 2, V.int 4, V.int 8, V.int 16][i]? = some (.int ((2 : Int) ^ i)) ∧ 0 < (2 : Int) ^ i ∧ ((2 : Int) ^ i).natAbs < 2 ^ 5 := by
  match i, h with
  | 0, _ => exact ⟨rfl, by decide, by decide⟩
  | 1, _ => exact ⟨rfl, by decide, by decide⟩
  | 2, _ => exact ⟨rfl, by decide, by decide⟩
  | 3, _ => exact ⟨rfl, by decide, by decide⟩
  | 4, _ => exact ⟨rfl, by decide, by decide⟩
def pickW (β : Nat → Bool) (n : Nat) (g w : List V) (ys : List V) : Prop := ys.length = 5 ∧ ∀ j, j < 5 → ys[j]? = if j < n ∧ β j = true then w[j]? else g[j]?
theorem pickW_skip {β : Nat → Bool} {n : Nat} {g w ys : List V} (h : pickW β n g w ys) (e : β n = false) : pickW β (n + 1) g w ys := by
  refine ⟨h.1, fun j hj => ?_⟩
  rw [h.2 j hj]
  by_cases c : j < n ∧ β j = true
  · rw [if_pos c, if_pos ⟨by omega, c.2⟩]
  · rw [if_neg c, if_neg fun z => c ⟨by
      rcases Nat.lt_or_ge j n with q | q
      · exact q
      · have : j = n := by omega
        rw [this, e] at z
        exact absurd z.2 Bool.false_ne_true, z.2⟩]
theorem pickW_set {β : Nat → Bool} {n : Nat} {g w ys : List V} (h : pickW β n g w ys) (hn : n < 5) (e : β n = true) {v : V} (hv : w[n]? = some v) : pickW β (n + 1) g w (ys.set n v) := by
  refine ⟨by rw [List.length_set]; exact h.1, fun j hj => ?_⟩
  by_cases c : n = j
  · subst c
    rw [List.getElem?_set, if_pos rfl, if_pos (by rw [h.1]; exact hj), if_pos ⟨by omega, e⟩]
    exact hv.symm
  · rw [List.getElem?_set_ne c, h.2 j hj]
    by_cases d : j < n ∧ β j = true
    · rw [if_pos d, if_pos ⟨by omega, d.2⟩]
    · rw [if_neg d, if_neg fun z => d ⟨by omega, z.2⟩]
/-- the tuple of what is due, after n turns -/
def dueW (β : Nat → Bool) (n : Nat) (w : List V) (xs : List V) : Prop := (xs = [] ∧ ∀ j, j < n → β j = false) ∨ ∃ j y, j < n ∧ β j = true ∧ (∀ i, i < j → β i = false) ∧ w[j]? = some y ∧ xs = [.str (faName (decide (j < 3))), y]
end Vk

namespace Vk
open PySem L2 Vm Vl
variable {l : Addr} {P : Program} {w : World} {K : PySem.W.Frag} {mg : Str → Option Value} {base : Heap} {k : Nat} {f f1 f2 f3 f4 f5 f6 f7 f8 f9 : Addr} {fd fd1 fd2 fd3 fd4 fd5 fd6 fd7 fd8 fd9 : FuncData}
/-- five rationals, good or wrong -/
theorem fa_of {β : Nat → Bool} {gb gh gl gs gd wb wh wl ws wd : Rat} (G : Good ⟨gb, gh, gl, gs, gd⟩) (h0 : wb < 0) (h1 : wh < 0) (h2 : wl ≤ 0) (h3 : ws ≤ 0 ∨ 1 ≤ ws) (h4 : wd < 0 ∨ gs ≤ wd) {i : Nat} (hi : i < 5) (hb : β i = true) (hn : ∀ j, j < i → β j = false) :
    Fa ⟨if β 0 = true then wb else gb, if β 1 = true then wh else gh, if β 2 = true then wl else gl, if β 3 = true then ws else gs, if β 4 = true then wd else gd⟩ (decide (i < 3)) i := by
  obtain ⟨b0, hh0, l0, s0, s1, d0, ds⟩ := G
  intro W F
  have no : ∀ j, j < i → ¬ β j = true := fun j hj e => by rw [hn j hj] at e; cases e
  obtain ⟨F0, F1, F2, F3, F4⟩ := F
  dsimp only at *
  match i, hi with
  | 0, _ => rw [if_pos hb] at F0; exact F0 h0
  | 1, _ =>
    rw [if_neg (no 0 (by decide)), if_pos hb] at F1
    exact F1 b0 h1
  | 2, _ =>
    rw [if_neg (no 0 (by decide)), if_neg (no 1 (by decide)), if_pos hb] at F2
    exact F2 b0 hh0 h2
  | 3, _ =>
    rw [if_neg (no 0 (by decide)), if_neg (no 1 (by decide)), if_neg (no 2 (by decide)), if_pos hb] at F3
    exact F3 b0 hh0 l0 h3
  | 4, _ =>
    rw [if_neg (no 0 (by decide)), if_neg (no 1 (by decide)), if_neg (no 2 (by decide)), if_neg (no 3 (by decide)), if_pos hb] at F4
    exact F4 b0 hh0 l0 s0 s1 h4
theorem pick_rq {β : Bool} {H : Hp} {g w y : V} {qg qw : Rat} {m : Nat} (hg : Rq K H g qg) (hw : Rq K H w qw) (zg : Sz m qg) (zw : Sz m qw) (h : some y = if True ∧ β = true then some w else some g) : Rq K H y (if β = true then qw else qg) ∧ Sz m (if β = true then qw else qg) := by
  cases β with
  | true => cases h; exact ⟨hw, zw⟩
  | false => cases h; exact ⟨hg, zg⟩
theorem ixN_at {n i : Nat} (h : i < n) {z : Int} (e : z = (i : Int)) : ixN n z = some i := by
  subst e
  unfold ixN
  rw [if_pos (by omega), if_pos (by omega)]
  rfl
abbrev s__law_bad_lap : Stmt := top 49
abbrev N__law_bad_lap : List Str := ["_law_store_here", "_law_mask", "_law_pair", "_law_args", "_law_wrong", "_law_due", "_law_k"]
theorem sc__law_bad_lap : FnScope N__law_bad_lap ["_law_store_here"] (defScope s__law_bad_lap) := ⟨rfl, rfl, rfl, by decide +kernel, rfl, by decide +kernel, by decide +kernel⟩
abbrev ps__law_bad_lap : List Str := ["_law_store_here"]
set_option maxHeartbeats 1000000 in
theorem ok_bad_lap (T : Bn mg) (F : Fn K mg "_law_bad_lap" s__law_bad_lap ps__law_bad_lap f fd) (d_law_take : Def P w K mg base k "_law_take" ["_law_store_here", "_law_many"] (spTake K l) f1 fd1) (d_law_slews : Def P w K mg base k "_law_slews" ["_law_store_here"] (spSl K l) f2 fd2) (d_law_spare : Def P w K mg base k "_law_spare" ["_law_store_here"] (spDraw K l 5 nnQ) f3 fd3)
    (d_law_above : Def P w K mg base k "_law_above" ["_law_store_here"] (spDraw K l 5 ge6) f4 fd4) (d_law_negative : Def P w K mg base k "_law_negative" ["_law_store_here"] (spDraw K l 20 negQ) f5 fd5) (d_law_not_above : Def P w K mg base k "_law_not_above" ["_law_store_here"] (spDraw K l 20 npQ) f6 fd6)
    (d_law_bad_slew : Def P w K mg base k "_law_bad_slew" ["_law_store_here"] (spDraw K l 20 outQ) f7 fd7) (d_law_bad_drift : Def P w K mg base k "_law_bad_drift" ["_law_store_here", "_law_bend"] (spBadD K l) f8 fd8) :
    Def P w K mg base (k + 1) "_law_bad_lap" ps__law_bad_lap (spBd K l) f fd := by
  refine ⟨F.F.ok sc__law_bad_lap (fun vs H Q E h => ?_) (fun cdv A outer s H vs Q E hr h => ?_), F.m, F.F.kp, F.b⟩
  · obtain ⟨_, rfl, _⟩ := h
    rfl
  obtain ⟨s, rfl, hS, z⟩ := h
  refine ⟨_, (pss_cons (ps_set (i := 1) sc__law_bad_lap.nd rfl (Or.inl rfl) (pe_op op_add pe_int (pcall d_law_take hr (pa_cons (pv 0) (pa_cons pe_int pa_nil)))))
      (pss_cons (ps_set (i := 2) sc__law_bad_lap.nd rfl (Or.inl rfl) (pcall d_law_slews hr (pa_cons (pv 0) pa_nil)))
      (pss_cons (ps_set (i := 3) sc__law_bad_lap.nd rfl (Or.inl rfl) (pe_lst (pa_cons (pcall d_law_spare hr (pa_cons (pv 0) pa_nil)) (pa_cons (pcall d_law_spare hr (pa_cons (pv 0) pa_nil)) (pa_cons (pcall d_law_above hr (pa_cons (pv 0) pa_nil)) (pa_cons (pe_ix ix_tup (pv 2) pe_int (fun _ _ => rfl)) (pa_cons (pe_ix ix_tup (pv 2) pe_int (fun _ _ => rfl)) pa_nil)))))))
      (pss_cons (ps_set (i := 4) sc__law_bad_lap.nd rfl (Or.inl rfl) (pe_lst (pa_cons (pcall d_law_negative hr (pa_cons (pv 0) pa_nil)) (pa_cons (pcall d_law_negative hr (pa_cons (pv 0) pa_nil)) (pa_cons (pcall d_law_not_above hr (pa_cons (pv 0) pa_nil)) (pa_cons (pcall d_law_bad_slew hr (pa_cons (pv 0) pa_nil)) pa_nil))))))
      (pss_cons (ps_expr (pe_bm PySem.F.plainAttrs_list PySem.F.slot_list_append PySem.F.type_list_append mt_append (pv 4) (pa_cons (pcall d_law_bad_drift hr (pa_cons (pv 0) (pa_cons (pe_ix ix_tup (pv 2) pe_int (fun _ _ => rfl)) pa_nil))) pa_nil)))
      (pss_cons (ps_set (i := 5) sc__law_bad_lap.nd rfl (Or.inl rfl) (pe_tup pa_nil))
      (pss_cons (ps_for PassesOwn.never rfl (pi_range1 (by rfl) T.range_ (pa_cons pe_int pa_nil)) (pg_name (i := 6) sc__law_bad_lap.nd rfl (Or.inl rfl))
        (pss_one (ps_if (pt_cmpR op_eq (pe_op op_mod (pe_callTy call_int1 (by rfl) T.int_ (by decide +kernel) (pa_cons (pe_op op_fdivW (pv 1) (pe_ix ix_list (pe_lst (pa_cons pe_int (pa_cons pe_int (pa_cons pe_int (pa_cons pe_int (pa_cons pe_int pa_nil)))))) (pv 6) (fun _ _ => rfl))) pa_nil)) pe_int) pe_int (nomark _))
          (pss_cons (ps_asg (pe_ix ix_list (pv 4) (pv 6) (fun _ _ => rfl)) (pg_sub (pv 3) (pv 6) set_list))
          (pss_one (ps_if (pt_cmpR op_eq (pe_callB call_len_seq (by rfl) T.len_ PySem.boot_len (pa_cons (pv 5) pa_nil)) pe_int (nomark _))
            (pss_one (ps_set (i := 5) sc__law_bad_lap.nd rfl (Or.inl rfl) (pe_tup (pa_cons (pe_ifExp (pt_cmpR op_lt (pv 6) pe_int (nomark _)) pe_str pe_str) (pa_cons (pe_ix ix_list (pv 3) (pv 6) (fun _ _ => rfl)) pa_nil)))))
            pss_nil)))
          pss_nil)))
      (pss_one (ps_ret (pe_tup (pa_cons (pe_ix ix_list (pv 3) pe_int (fun _ _ => rfl)) (pa_cons (pe_ix ix_list (pv 3) pe_int (fun _ _ => rfl)) (pa_cons (pe_ix ix_list (pv 3) pe_int (fun _ _ => rfl)) (pa_cons (pe_ix ix_list (pv 3) pe_int (fun _ _ => rfl)) (pa_cons (pe_ix ix_list (pv 3) pe_int (fun _ _ => rfl)) (pa_cons (pv 5) pa_nil)))))))))))))))), ?_⟩
  refine ⟨_, rfl, s, 31, rfl, hS, by decide, fun r H1 r0 r1 S1 e1 => ⟨_, _, rfl, rfl, ?_⟩⟩
  have mk1 : 1 ≤ 1 + r := by omega
  have mk2 : 1 + r ≤ 31 := by omega
  refine ⟨_, rfl, s, rfl, S1, fun vp H2 pp S2 e2 => ?_⟩
  refine ⟨_, rfl, s, rfl, S2, fun a0 H3 q0 S3 e3 => ⟨_, rfl, s, rfl, S3, fun a1 H4 q1 S4 e4 => ⟨_, rfl, s, rfl, S4, fun a2 H5 q2 S5 e5 => ?_⟩⟩⟩
  have q0 := (q0.fr e4 S3).fr e5 S4
  have q1 := q1.fr e5 S4
  have pp := ((pp.fr e3 S2.some).fr e4 S3.some).fr e5 S4.some
  obtain ⟨pr, xs, xd, sl, dr, rfl, hpr, hxs, hxd, zsl, zdr, ⟨o1, o2, o3, o4⟩⟩ := pp
  refine ⟨_, rfl, pr, _, _, _, rfl, rfl, hpr, at0 rfl, _, rfl, pr, _, _, _, rfl, rfl, hpr, at1 rfl, sm5, fun D1 hD1 => ?_⟩
  have c6 := same_new hD1 (.lst [a0, a1, a2, xs, xd])
  have S6 := S5.same c6
  have n1s := S5.ne hD1
  have n1l := S5.nl hD1
  have hD1n : H D1 = none := (e1.trans (e2.trans (e3.trans (e4.trans e5)))).free hD1 n1s
  have hD1a : (upd H5 D1 (.lst [a0, a1, a2, xs, xd])) D1 = some (.lst [a0, a1, a2, xs, xd]) := upd_same
  have q0 := q0.same c6; have q1 := q1.same c6; have q2 := q2.same c6
  replace hpr := c6.sqt hpr; replace hxs := hxs.same c6; replace hxd := hxd.same c6
  have e16 : Fr s H (upd H5 D1 (.lst [a0, a1, a2, xs, xd])) := e1.trans (e2.trans (e3.trans (e4.trans (e5.trans (Fr.of c6)))))
  generalize upd H5 D1 (.lst [a0, a1, a2, xs, xd]) = H6 at S6 hD1a q0 q1 q2 hpr hxs hxd e16 ⊢
  clear e1 e2 e3 e4 e5 c6 S1 S2 S3 S4 S5
  refine ⟨_, rfl, s, rfl, S6, fun w0 H7 p0 S7 e7 => ⟨_, rfl, s, rfl, S7, fun w1 H8 p1 S8 e8 => ⟨_, rfl, s, rfl, S8, fun w2 H9 p2 S9 e9 => ⟨_, rfl, s, rfl, S9, fun w3 H10 p3 S10 e10 => ⟨sm4, fun D2 hD2 => ?_⟩⟩⟩⟩⟩
  have e610 := e7.trans (e8.trans (e9.trans e10))
  have c11 := same_new hD2 (.lst [w0, w1, w2, w3])
  have S11 := S10.same c11
  have n2s := S10.ne hD2
  have n2l := S10.nl hD2
  have hD2n : H D2 = none := (e16.trans e610).free hD2 n2s
  have n12 : D1 ≠ D2 := ne_at (e610 _ _ hD1a n1s) hD2
  have hD2a : (upd H10 D2 (.lst [w0, w1, w2, w3])) D2 = some (.lst [w0, w1, w2, w3]) := upd_same
  have p0 := (((p0.fr e8 S7).fr e9 S8).fr e10 S9).same c11
  have p1 := ((p1.fr e9 S8).fr e10 S9).same c11
  have p2 := (p2.fr e10 S9).same c11
  have p3 := p3.same c11
  have e611 := e610.trans (Fr.of c11)
  generalize upd H10 D2 (.lst [w0, w1, w2, w3]) = H11 at S11 hD2a p0 p1 p2 p3 e611 ⊢
  clear e7 e8 e9 e10 c11 S7 S8 S9 S10 e610
  have q0 := q0.fr e611 S6; have q1 := q1.fr e611 S6; have q2 := q2.fr e611 S6
  replace hpr := sqt_fr e611 S6.some hpr; replace hxs := hxs.fr e611 S6.some; replace hxd := hxd.fr e611 S6.some
  refine ⟨_, rfl, .inl ⟨rfl, _, SqL.of hD2a⟩, _, rfl, _, rfl, pr, _, _, _, rfl, rfl, hpr, at0 rfl, s, xs, sl, rfl, S11, hxs, zsl, o2, fun w4 H12 p4 S12 e12 => ?_⟩
  have hD2b := e12 _ _ hD2a n2s
  refine ⟨D2, _, _, rfl, rfl, hD2b, le1000 (by show 4 ≤ 1000; decide), ?_⟩
  have S13 := S12.upd (o := .lst ([w0, w1, w2, w3] ++ [w4])) n2s n2l
  have f13 := Fr.upd (s := D2) (H := H12) (.lst ([w0, w1, w2, w3] ++ [w4]))
  have hh : ∃ ys, H12 D2 = some (.lst ys) := ⟨_, hD2b⟩
  have frQ : ∀ {m : Nat} {ok : Rat → Prop} {v : V}, Qd K m ok H12 v → Qd K m ok (upd H12 D2 (.lst ([w0, w1, w2, w3] ++ [w4]))) v := fun h => by
    obtain ⟨q, r, o⟩ := h
    exact ⟨q, r.fr f13 hh, o⟩
  have q0 := frQ (q0.fr e12 S11); have q1 := frQ (q1.fr e12 S11); have q2 := frQ (q2.fr e12 S11)
  have p0 := frQ (p0.fr e12 S11); have p1 := frQ (p1.fr e12 S11); have p2 := frQ (p2.fr e12 S11); have p3 := frQ (p3.fr e12 S11); have p4 := frQ p4
  replace hxs := (hxs.fr e12 S11.some).fr f13 hh; replace hxd := (hxd.fr e12 S11.some).fr f13 hh
  have hD1b : (upd H12 D2 (.lst ([w0, w1, w2, w3] ++ [w4]))) D1 = some (.lst [a0, a1, a2, xs, xd]) := by
    rw [upd_ne n12]
    exact (e611.trans e12) _ _ hD1a n1s
  have e13 : Fr s H (upd H12 D2 (.lst ([w0, w1, w2, w3] ++ [w4]))) := fun b o hb hn => by
    rw [upd_ne (ne_of_none hb hD2n)]
    exact (e16.trans (e611.trans e12)) b o hb hn
  have hD2c : (upd H12 D2 (.lst ([w0, w1, w2, w3] ++ [w4]))) D2 = some (.lst [w0, w1, w2, w3, w4]) := upd_same
  generalize upd H12 D2 (.lst ([w0, w1, w2, w3] ++ [w4])) = H13 at S13 q0 q1 q2 p0 p1 p2 p3 p4 hxs hxd hD1b e13 hD2c ⊢
  clear f13 hh frQ hD2b e611 e12 S11 S12 hD2a hpr
  refine ⟨Nat.zero_le _, fun t0 ht0 => ?_⟩
  have ct := same_new ht0 (.tup [])
  have S14 := S13.same ct
  have q0 := q0.same ct; have q1 := q1.same ct; have q2 := q2.same ct
  have p0 := p0.same ct; have p1 := p1.same ct; have p2 := p2.same ct; have p3 := p3.same ct; have p4 := p4.same ct
  replace hxs := hxs.same ct; replace hxd := hxd.same ct
  replace hD1b := ct _ _ hD1b; replace hD2c := ct _ _ hD2c
  have e14 := e13.trans (Fr.of ct)
  have ht0a : SqT K (upd H13 t0 (.tup [])) t0 [] := SqT.of upd_same
  generalize upd H13 t0 (.tup []) = G0 at S14 q0 q1 q2 p0 p1 p2 p3 p4 hxs hxd hD1b hD2c e14 ht0a ⊢
  clear ct S13 e13 ht0
  refine ⟨5, rfl, by decide, by decide, for_range (n := 5) (fun i σ G => ∃ (ys xs5 : List V) (t : Addr) (k6 : Option V), σ = [some (.ref s), some (.int (1 + r)), some (.ref pr), some (.ref D1), some (.ref D2), some (.ref t), k6] ∧ Fr D1 G0 G ∧ G D1 = some (.lst ys) ∧ pickW (bit (1 + r)) i [a0, a1, a2, xs, xd] [w0, w1, w2, w3, w4] ys ∧ SqT K G t xs5 ∧ dueW (bit (1 + r)) i [w0, w1, w2, w3, w4] xs5 ∧ Sto l s G)
    ⟨[a0, a1, a2, xs, xd], [], t0, none, rfl, Fr.refl _ _, hD1b, ⟨rfl, fun j _ => by rw [if_neg fun z => absurd z.1 (by omega)]⟩, ht0a, .inl ⟨rfl, fun j hj => absurd hj (by omega)⟩, S14⟩ ?_ ?_⟩
  · rintro i σ G hi ⟨ys, xs5, t, k6, rfl, fr, hD1g, pw, hts, du, SG⟩
    obtain ⟨it, ip, ib⟩ := pow_item hi
    have hyl := pw.1
    refine ⟨_, rfl, sm5, fun p hp => ?_⟩
    have cp := same_new hp (.lst [.int 1, .int 2, .int 4, .int 8, .int 16])
    have SGp := SG.same cp
    have frp := fr.trans (Fr.of (s := D1) cp)
    have hDp := cp _ _ hD1g
    have htp := cp.sqt hts
    have ha : (upd G p (.lst [.int 1, .int 2, .int 4, .int 8, .int 16])) p = some (.lst [.int 1, .int 2, .int 4, .int 8, .int 16]) := upd_same
    generalize upd G p (.lst [.int 1, .int 2, .int 4, .int 8, .int 16]) = G1 at SGp frp hDp htp ha ⊢
    refine ⟨_, rfl, p, _, _, _, rfl, rfl, SqL.of ha, at_of (j := i) (by omega) it, _, _, rfl, rfl, wide_div ip ib (by decide) (by decide), .inl ⟨_, rfl, _, _, rfl, rfl, (by show (0 : Int) < 2; decide), rfl, _, rfl, ?_⟩⟩
    have eb : decide (V.int ((1 + r) / (2 : Int) ^ i % 2) = V.int 1) = bit (1 + r) i := by
      unfold bit
      exact decide_eq_decide.mpr ⟨fun h => V.int.inj h, fun h => by rw [h]⟩
    rw [eb]
    cases hb : bit (1 + r) i with
    | false =>
      refine ifF rfl ⟨ys, xs5, t, _, rfl, frp, hDp, pickW_skip pw hb, htp, ?_, SGp⟩
      rcases du with ⟨e, h⟩ | ⟨j, y, hj, rest⟩
      · refine .inl ⟨e, fun j hj => ?_⟩
        by_cases c : j = i
        · rw [c]; exact hb
        · exact h j (by omega)
      · exact .inr ⟨j, y, by omega, rest⟩
    | true =>
      have hw5 : i < [w0, w1, w2, w3, w4].length := hi
      obtain ⟨wi, hwi⟩ : ∃ v, [w0, w1, w2, w3, w4][i]? = some v := ⟨_, List.getElem?_eq_getElem hw5⟩
      have hD2g : G1 D2 = some (.lst [w0, w1, w2, w3, w4]) := frp _ _ hD2c (Ne.symm n12)
      refine ifT rfl ⟨_, rfl, _, rfl, D2, _, _, _, rfl, rfl, SqL.of hD2g, at_of (j := i) (by omega) hwi, _, rfl, _, rfl, D1, _, _, i, rfl, rfl, hDp, ixN_at (by omega) (by omega), ?_⟩
      have fs := Fr.upd (s := D1) (H := G1) (.lst (ys.set i wi))
      have hts2 := sqt_fr fs ⟨_, hDp⟩ htp
      have S2 := SGp.upd (o := .lst (ys.set i wi)) n1s n1l
      have fr2 := frp.trans fs
      have pw2 := pickW_set pw hi hb hwi
      have hDs : (upd G1 D1 (.lst (ys.set i wi))) D1 = some (.lst (ys.set i wi)) := upd_same
      generalize upd G1 D1 (.lst (ys.set i wi)) = G2 at hts2 S2 fr2 hDs ⊢
      refine ⟨_, rfl, t, xs5, rfl, .inr hts2, rfl, _, rfl, ifD (fun g => ?_) (fun g => ?_)⟩
      · have g0 : xs5.length = 0 := by have := V.int.inj g; omega
        have hno : ∀ j, j < i → bit (1 + r) j = false := by
          rcases du with ⟨_, h⟩ | ⟨j, y, _, _, _, _, e⟩
          · exact h
          · rw [e] at g0; exact absurd g0 (by simp)
        have item : (ys.set i wi)[i]? = some wi := by rw [List.getElem?_set, if_pos rfl, if_pos (by omega)]
        have fin : ∀ t1, G2 t1 = none → ∃ (ys' xs5 : List V) (t' : Addr) (k6 : Option V), [some (.ref s), some (.int (1 + r)), some (.ref pr), some (.ref D1), some (.ref D2), some (.ref t1), some (.int (0 + (i : Int)))] = [some (.ref s), some (.int (1 + r)), some (.ref pr), some (.ref D1), some (.ref D2), some (.ref t'), k6] ∧ Fr D1 G0 (upd G2 t1 (.tup [.str (faName (decide (i < 3))), wi])) ∧ (upd G2 t1 (.tup [.str (faName (decide (i < 3))), wi])) D1 = some (.lst ys') ∧ pickW (bit (1 + r)) (i + 1) [a0, a1, a2, xs, xd] [w0, w1, w2, w3, w4] ys' ∧ SqT K (upd G2 t1 (.tup [.str (faName (decide (i < 3))), wi])) t' xs5 ∧ dueW (bit (1 + r)) (i + 1) [w0, w1, w2, w3, w4] xs5 ∧ Sto l s (upd G2 t1 (.tup [.str (faName (decide (i < 3))), wi])) := fun t1 ht1 => by
          have c1 := same_new ht1 (.tup [.str (faName (decide (i < 3))), wi])
          exact ⟨ys.set i wi, _, t1, _, rfl, fr2.trans (Fr.of c1), c1 _ _ hDs, pw2, SqT.of upd_same, .inr ⟨i, wi, by omega, hb, hno, hwi, rfl⟩, S2.same c1⟩
        refine ⟨_, rfl, _, _, rfl, rfl, _, rfl, ifD (fun c => ?_) (fun c => ?_)⟩
        · have e3 : decide (i < 3) = true := decide_eq_true (by omega)
          rw [e3] at fin
          exact ⟨_, rfl, _, rfl, D1, _, _, _, rfl, rfl, SqL.of hDs, at_of (j := i) (by omega) item, sz2, fin⟩
        · have e3 : decide (i < 3) = false := decide_eq_false (by omega)
          rw [e3] at fin
          exact ⟨_, rfl, _, rfl, D1, _, _, _, rfl, rfl, SqL.of hDs, at_of (j := i) (by omega) item, sz2, fin⟩
      · refine ⟨ys.set i wi, xs5, t, _, rfl, fr2, hDs, pw2, hts2, ?_, S2⟩
        rcases du with ⟨e, _⟩ | ⟨j, y, hj, rest⟩
        · exact absurd (by rw [e]; rfl) g
        · exact .inr ⟨j, y, by omega, rest⟩
  · rintro σ G ⟨ys, xs5, t, k6, rfl, fr, hD1g, pw, hts, du, SG⟩
    obtain ⟨l5, pw⟩ := pw
    match ys, l5 with
    | [y0, y1, y2, y3, y4], _ =>
    have i0 := pw 0 (by decide); have i1 := pw 1 (by decide); have i2 := pw 2 (by decide); have i3 := pw 3 (by decide); have i4 := pw 4 (by decide)
    have hs : ∃ zs, G0 D1 = some (.lst zs) := ⟨_, hD1b⟩
    obtain ⟨gb, rgb, zgb, ogb⟩ := q0; obtain ⟨gh, rgh, zgh, ogh⟩ := q1; obtain ⟨gl, rgl, zgl, ogl⟩ := q2
    obtain ⟨wb, rwb, zwb, owb⟩ := p0; obtain ⟨wh, rwh, zwh, owh⟩ := p1; obtain ⟨wl, rwl, zwl, owl⟩ := p2; obtain ⟨ws, rws, zws, ows⟩ := p3; obtain ⟨wd, rwd, zwd, owd⟩ := p4
    have j0 := pick_rq (m := 40) (rgb.fr fr hs) (rwb.fr fr hs) (zgb.mono (by decide)) (zwb.mono (by decide)) (β := bit (1 + r) 0) (y := y0) (by simpa using i0)
    have j1 := pick_rq (m := 40) (rgh.fr fr hs) (rwh.fr fr hs) (zgh.mono (by decide)) (zwh.mono (by decide)) (β := bit (1 + r) 1) (y := y1) (by simpa using i1)
    have j2 := pick_rq (m := 40) (rgl.fr fr hs) (rwl.fr fr hs) (zgl.mono (by decide)) (zwl.mono (by decide)) (β := bit (1 + r) 2) (y := y2) (by simpa using i2)
    have j3 := pick_rq (m := 40) (hxs.fr fr hs) (rws.fr fr hs) (zsl.mono (by decide)) (zws.mono (by decide)) (β := bit (1 + r) 3) (y := y3) (by simpa using i3)
    have j4 := pick_rq (m := 40) (hxd.fr fr hs) (rwd.fr fr hs) (zdr.mono (by decide)) zwd (β := bit (1 + r) 4) (y := y4) (by simpa using i4)
    have ogl : mkRat 1 6 ≤ gl := ogl
    have gl0 : 0 < gl := by
      have : (0 : Rat) < mkRat 1 6 := by decide +kernel
      grind
    have s00 : 0 < sl := by
      have : (0 : Rat) < mkRat 1 20 := by decide +kernel
      grind
    have GD : Good ⟨gb, gh, gl, sl, dr⟩ := ⟨ogb, ogh, gl0, s00, o2, o3, by show dr < sl; grind⟩
    rcases du with ⟨_, hno⟩ | ⟨j, y, hj, hb, hlt, hy, rfl⟩
    · obtain ⟨j, hj, hb, _⟩ := bit_some mk1 mk2
      rw [hno j hj] at hb
      cases hb
    have fa := fa_of (β := bit (1 + r)) GD owb owh owl ows owd hj hb hlt
    have yj : [y0, y1, y2, y3, y4][j]? = some y := by
      rw [pw j hj, if_pos ⟨hj, hb⟩]
      exact hy
    refine ⟨_, rfl, D1, _, _, _, rfl, rfl, SqL.of hD1g, atI_nat (j := 0) rfl, _, rfl, D1, _, _, _, rfl, rfl, SqL.of hD1g, atI_nat (j := 1) rfl, _, rfl, D1, _, _, _, rfl, rfl, SqL.of hD1g, atI_nat (j := 2) rfl, _, rfl, D1, _, _, _, rfl, rfl, SqL.of hD1g, atI_nat (j := 3) rfl, _, rfl, D1, _, _, _, rfl, rfl, SqL.of hD1g, atI_nat (j := 4) rfl, _, rfl, sm6, fun tr htr => ?_⟩
    have cr := same_new htr (.tup [y0, y1, y2, y3, y4, .ref t])
    refine z _ _ ⟨tr, y0, y1, y2, y3, y4, t, y, _, decide (j < 3), j, rfl, SqT.of upd_same, cr.sqt hts, ⟨j0.1.same cr, j1.1.same cr, j2.1.same cr, j3.1.same cr, j4.1.same cr, j0.2, j1.2, j2.2, j3.2, j4.2⟩, fa, yj⟩ (SG.same cr) ?_
    intro b o hb hn
    exact cr _ _ (fr _ _ (e14 b o hb hn) (fun e => by rw [e, hD1n] at hb; cases hb))
end Vk

namespace Vk
open PySem L2 Vm Vl
variable {l : Addr} {P : Program} {w : World} {K : PySem.W.Frag} {mg : Str → Option Value} {base : Heap} {k : Nat} {f f1 f2 f3 f4 f5 f6 f7 f8 f9 f10 : Addr} {fd fd1 fd2 fd3 fd4 fd5 fd6 fd7 fd8 fd9 fd10 : FuncData}
/-- what a drawn case keeps -/
def CaOk (x : A6) (g : Rat) : Prop := Good x ∧ mkRat 1 2000 ≤ gain x ∧ (x.b - g ≤ 1000 * gain x ∨ x.b = 0)
def Sm (x : A6) : Prop := Sz 25 x.h ∧ Sz 25 x.l ∧ Sz 25 x.s ∧ Sz 25 x.d
def Ca (K : PySem.W.Frag) (H : Hp) (D : Addr) : Prop := ∃ xb xh xl xs xd xg x g, H D = some (.lst [xb, xh, xl, xs, xd, xg]) ∧ L5 K H xb xh xl xs xd x 260 ∧ Rq K H xg g ∧ Sz 260 g ∧ Sm x ∧ CaOk x g
def spCa (K : PySem.W.Frag) (l : Addr) : Sp := fun vs H Q _ => ∃ (s : Addr), vs = [.ref s] ∧ Sto l s H ∧ ∀ D H', H D = none → D ≠ s → Ca K H' D → Sto l s H' → Fr s H H' → Q (.ref D) H'
def PairOk (l : Rat) (s d : Rat) : Prop := 0 < s ∧ s < 1 ∧ 0 ≤ d ∧ d < s ∧ mkRat 1 2000 ≤ (s - d) * l
theorem pair_a {s d l : Rat} (h : SlOk s d) (g : mkRat 1 6 ≤ l) : PairOk l s d := by
  unfold PairOk
  obtain ⟨h1, h2, h3, h4⟩ := h
  have e1 : mkRat 1 20 * 20 = 1 := by decide +kernel
  have e2 : mkRat 1 6 * 6 = 1 := by decide +kernel
  have e3 : mkRat 1 2000 * 2000 = 1 := by decide +kernel
  generalize mkRat 1 20 = a at *
  generalize mkRat 1 6 = b at *
  generalize mkRat 1 2000 = c at *
  have s0 : 0 < s := by grind
  have sd : a * (1 / 8) ≤ s - d := by grind
  have m : (a * (1 / 8)) * b ≤ (s - d) * l := by
    have q1 : (a * (1 / 8)) * b ≤ (s - d) * b := Rat.mul_le_mul_of_nonneg_right sd (by grind)
    have q2 : (s - d) * b ≤ (s - d) * l := Rat.mul_le_mul_of_nonneg_left g (by grind)
    grind
  have ea : a = 1 / 20 := by grind
  have eb : b = 1 / 6 := by grind
  have ec : c = 1 / 2000 := by grind
  subst ea eb ec
  exact ⟨s0, h2, h3, by grind, by grind⟩
theorem pair_b {p j : Int} {l sq dq : Rat} (hp : 1000 ≤ p) (j0 : 0 ≤ j) (j7 : j ≤ 7) (g : mkRat 1 6 ≤ l) (hs : sq * (p : Rat) = 1) (hd : dq * ((8 * p : Int) : Rat) = (j : Rat)) : PairOk (l * (p : Rat)) sq dq := by
  unfold PairOk
  have p0 : ((1000 : Int) : Rat) ≤ (p : Rat) := by exact_mod_cast hp
  have c : ((1000 : Int) : Rat) = 1000 := rfl
  rw [c] at p0
  have j0' : (0 : Rat) ≤ (j : Rat) := by exact_mod_cast j0
  have j7' : (j : Rat) ≤ ((7 : Int) : Rat) := by exact_mod_cast j7
  have c7 : ((7 : Int) : Rat) = 7 := rfl
  rw [c7] at j7'
  have c8 : ((8 * p : Int) : Rat) = 8 * (p : Rat) := by push_cast; rfl
  rw [c8] at hd
  have e2 : mkRat 1 6 * 6 = 1 := by decide +kernel
  have e3 : mkRat 1 2000 * 2000 = 1 := by decide +kernel
  generalize mkRat 1 6 = b at *
  generalize mkRat 1 2000 = c' at *
  generalize (p : Rat) = P at *
  have P0 : 0 < P := by grind
  have s0 : 0 < sq := by
    by_cases z : 0 < sq
    · exact z
    · exfalso
      have := Rat.mul_le_mul_of_nonneg_right (Rat.not_lt.mp z) (show (0 : Rat) ≤ P by grind)
      grind
  have s1 : sq < 1 := by
    by_cases z : sq < 1
    · exact z
    · exfalso
      have := Rat.mul_le_mul_of_nonneg_right (Rat.not_lt.mp z) (show (0 : Rat) ≤ P by grind)
      grind
  have d0 : 0 ≤ dq := by
    by_cases z : 0 ≤ dq
    · exact z
    · exfalso
      have := Rat.mul_lt_mul_of_pos_right (Rat.not_le.mp z) (show (0 : Rat) < 8 * P by grind)
      grind
  have ds : 8 * dq ≤ 7 * sq := by
    by_cases z : 8 * dq ≤ 7 * sq
    · exact z
    · exfalso
      have := Rat.mul_lt_mul_of_pos_right (Rat.not_le.mp z) P0
      grind
  have m : b * (1 / 8) ≤ (sq - dq) * (l * P) := by
    have q0 : (1 : Rat) / 8 ≤ (sq - dq) * P := by
      have : (sq * (1 / 8)) * P ≤ (sq - dq) * P := Rat.mul_le_mul_of_nonneg_right (by grind) (by grind)
      grind
    have q1 : b * (1 / 8) ≤ l * (1 / 8) := Rat.mul_le_mul_of_nonneg_right g (by grind)
    have q2 : l * (1 / 8) ≤ l * ((sq - dq) * P) := Rat.mul_le_mul_of_nonneg_left q0 (by grind)
    grind
  exact ⟨s0, s1, d0, by grind, by grind⟩
theorem top_ok {b g G m q : Rat} (hG : mkRat 1 2000 ≤ G) (hm : m ≤ 1000) (hq : 0 ≤ q) (hb : b = g + G * (m - q) ∨ (m ≤ 998 ∧ b = g + G * (m - q) + mkRat 1 1000)) : b - g ≤ 1000 * G := by
  have e3 : mkRat 1 2000 * 2000 = 1 := by decide +kernel
  have e4 : mkRat 1 1000 * 1000 = 1 := by decide +kernel
  generalize mkRat 1 2000 = c at *
  generalize mkRat 1 1000 = t at *
  have G0 : 0 ≤ G := by grind
  rcases hb with rfl | ⟨h, rfl⟩
  · have := Rat.mul_le_mul_of_nonneg_left (show m - q ≤ 1000 by grind) G0
    grind
  · have := Rat.mul_le_mul_of_nonneg_left (show m - q ≤ 998 by grind) G0
    grind
theorem neg_num {q : Rat} : q.num < 0 ↔ q < 0 := by
  rw [Rat.lt_iff]
  simp
abbrev s__law_case : Stmt := top 50
abbrev N__law_case : List Str := ["_law_store_here", "_law_pair", "_law_half", "_law_stretch", "_law_parts", "_law_gain", "_law_ahead", "_law_goal", "_law_many", "_law_part_here", "_law_bound"]
theorem sc__law_case : FnScope N__law_case ["_law_store_here"] (defScope s__law_case) := ⟨rfl, rfl, rfl, by decide +kernel, rfl, by decide +kernel, by decide +kernel⟩
abbrev ps__law_case : List Str := ["_law_store_here"]
set_option maxHeartbeats 2000000 in
theorem ok_case (F : Fn K mg "_law_case" s__law_case ps__law_case f fd) (d_law_take : Def P w K mg base k "_law_take" ["_law_store_here", "_law_many"] (spTake K l) f1 fd1) (d_law_slews : Def P w K mg base k "_law_slews" ["_law_store_here"] (spSl K l) f2 fd2) (d_law_spare : Def P w K mg base k "_law_spare" ["_law_store_here"] (spDraw K l 5 nnQ) f3 fd3)
    (d_law_above : Def P w K mg base k "_law_above" ["_law_store_here"] (spDraw K l 5 ge6) f4 fd4) (d_law_pick : Def P w K mg base k "_law_pick" ["_law_store_here", "_law_things"] (spPick K l) f5 fd5) (d_law_frac : Def P w K mg base k "_law_frac" ["_law_n", "_law_d"] (spFrac K) f6 fd6) (d_law_times : Def P w K mg base k "_law_times" ["_law_a", "_law_b"] (spOp2 K (· * ·)) f7 fd7)
    (d_law_minus : Def P w K mg base k "_law_minus" ["_law_a", "_law_b"] (spOp2 K (· - ·)) f8 fd8) (d_law_plus : Def P w K mg base k "_law_plus" ["_law_a", "_law_b"] (spOp2 K (· + ·)) f9 fd9) (d_law_size : Def P w K mg base k "_law_size" ["_law_store_here", "_law_least", "_law_top"] (spSize K l) f10 fd10) {f11 : Addr} {fd11 : FuncData} (d_law_part : Def P w K mg base k "_law_part" ["_law_store_here"] (spDraw K l 5 anyQ) f11 fd11) :
    Def P w K mg base (k + 1) "_law_case" ps__law_case (spCa K l) f fd := by
  refine ⟨F.F.ok sc__law_case (fun vs H Q E h => ?_) (fun cdv A outer s H vs Q E hr h => ?_), F.m, F.F.kp, F.b⟩
  · obtain ⟨_, rfl, _⟩ := h
    rfl
  obtain ⟨s, rfl, hS, z⟩ := h
  refine ⟨_, (pss_cons (ps_set (i := 1) sc__law_case.nd rfl (Or.inl rfl) (pcall d_law_slews hr (pa_cons (pv 0) pa_nil)))
      (pss_cons (ps_par (i := 2) (j := 3) (by rfl) sc__law_case.nd rfl rfl (by decide) rfl rfl (pa_cons (pcall d_law_spare hr (pa_cons (pv 0) pa_nil)) (pa_cons (pcall d_law_above hr (pa_cons (pv 0) pa_nil)) pa_nil)) (by rfl))
      (pss_cons (ps_if (pt_cmpR op_eq (pcall d_law_take hr (pa_cons (pv 0) (pa_cons pe_int pa_nil))) pe_int (nomark _))
        (pss_cons (ps_set (i := 4) sc__law_case.nd rfl (Or.inl rfl) (pcall d_law_pick hr (pa_cons (pv 0) (pa_cons (pe_lst (pa_cons pe_int (pa_cons pe_int (pa_cons pe_int (pa_cons (pe_op op_pow pe_int pe_int) pa_nil))))) pa_nil))))
        (pss_cons (ps_set (i := 1) sc__law_case.nd rfl (Or.inl rfl) (pe_tup (pa_cons (pe_tup (pa_cons pe_int (pa_cons (pv 4) pa_nil))) (pa_cons (pcall d_law_frac hr (pa_cons (pcall d_law_take hr (pa_cons (pv 0) (pa_cons pe_int pa_nil))) (pa_cons (pe_op op_mul pe_int (pv 4)) pa_nil))) pa_nil))))
        (pss_one (ps_set (i := 3) sc__law_case.nd rfl (Or.inl rfl) (pcall d_law_times hr (pa_cons (pv 3) (pa_cons (pe_tup (pa_cons (pv 4) (pa_cons pe_int pa_nil))) pa_nil)))))))
        pss_nil)
      (pss_cons (ps_set (i := 5) sc__law_case.nd rfl (Or.inl rfl) (pcall d_law_times hr (pa_cons (pcall d_law_minus hr (pa_cons (pe_ix ix_tup (pv 1) pe_int (fun _ _ => rfl)) (pa_cons (pe_ix ix_tup (pv 1) pe_int (fun _ _ => rfl)) pa_nil))) (pa_cons (pv 3) pa_nil))))
      (pss_cons (ps_set (i := 6) sc__law_case.nd rfl (Or.inl rfl) (pcall d_law_plus hr (pa_cons (pv 2) (pa_cons (pcall d_law_times hr (pa_cons (pe_ix ix_tup (pv 1) pe_int (fun _ _ => rfl)) (pa_cons (pv 3) pa_nil))) pa_nil))))
      (pss_cons (ps_set (i := 7) sc__law_case.nd rfl (Or.inl rfl) (pcall d_law_pick hr (pa_cons (pv 0) (pa_cons (pe_lst (pa_cons (pv 6) (pa_cons (pv 6) (pa_cons (pcall d_law_plus hr (pa_cons (pv 6) (pa_cons (pcall d_law_spare hr (pa_cons (pv 0) pa_nil)) pa_nil))) (pa_cons (pcall d_law_plus hr (pa_cons (pv 6) (pa_cons (pv 5) pa_nil))) pa_nil))))) pa_nil))))
      (pss_cons (ps_if (pt_cmpR op_eq (pcall d_law_take hr (pa_cons (pv 0) (pa_cons pe_int pa_nil))) pe_int (nomark _))
        (pss_one (ps_set (i := 7) sc__law_case.nd rfl (Or.inl rfl) (pcall d_law_pick hr (pa_cons (pv 0) (pa_cons (pe_lst (pa_cons (pcall d_law_minus hr (pa_cons (pv 6) (pa_cons (pe_tup (pa_cons pe_int (pa_cons pe_int pa_nil))) pa_nil))) (pa_cons (pcall d_law_minus hr (pa_cons (pv 6) (pa_cons (pv 5) pa_nil))) (pa_cons (pv 2) (pa_cons (pcall d_law_part hr (pa_cons (pv 0) pa_nil)) pa_nil))))) pa_nil)))))
        pss_nil)
      (pss_cons (ps_set (i := 8) sc__law_case.nd rfl (Or.inl rfl) (pcall d_law_size hr (pa_cons (pv 0) (pa_cons pe_int (pa_cons pe_int pa_nil)))))
      (pss_cons (ps_if (pt_cmpR op_eq (pcall d_law_take hr (pa_cons (pv 0) (pa_cons pe_int pa_nil))) pe_int (nomark _))
        (pss_one (ps_set (i := 8) sc__law_case.nd rfl (Or.inl rfl) (pcall d_law_size hr (pa_cons (pv 0) (pa_cons pe_int (pa_cons pe_int pa_nil))))))
        pss_nil)
      (pss_cons (ps_set (i := 9) sc__law_case.nd rfl (Or.inl rfl) (pcall d_law_frac hr (pa_cons (pcall d_law_take hr (pa_cons (pv 0) (pa_cons pe_int pa_nil))) (pa_cons pe_int pa_nil))))
      (pss_cons (ps_set (i := 10) sc__law_case.nd rfl (Or.inl rfl) (pcall d_law_plus hr (pa_cons (pv 7) (pa_cons (pcall d_law_times hr (pa_cons (pv 5) (pa_cons (pcall d_law_minus hr (pa_cons (pe_tup (pa_cons (pv 8) (pa_cons pe_int pa_nil))) (pa_cons (pv 9) pa_nil))) pa_nil))) pa_nil))))
      (pss_cons (ps_set (i := 10) sc__law_case.nd rfl (Or.inl rfl) (pcall d_law_pick hr (pa_cons (pv 0) (pa_cons (pe_lst (pa_cons (pv 10) (pa_cons (pv 10) (pa_cons (pv 10) (pa_cons (pe_ifExp (pt_cmpR op_lt (pv 8) pe_int (nomark _)) (pcall d_law_plus hr (pa_cons (pv 10) (pa_cons (pe_tup (pa_cons pe_int (pa_cons pe_int pa_nil))) pa_nil))) (pv 10)) pa_nil))))) pa_nil))))
      (pss_cons (ps_if (pt_cmpR op_lt (pe_ix ix_tup (pv 10) pe_int (fun _ _ => rfl)) pe_int (nomark _))
        (pss_one (ps_set (i := 10) sc__law_case.nd rfl (Or.inl rfl) (pe_tup (pa_cons pe_int (pa_cons pe_int pa_nil)))))
        pss_nil)
      (pss_one (ps_ret (pe_lst (pa_cons (pv 10) (pa_cons (pv 2) (pa_cons (pv 3) (pa_cons (pe_ix ix_tup (pv 1) pe_int (fun _ _ => rfl)) (pa_cons (pe_ix ix_tup (pv 1) pe_int (fun _ _ => rfl)) (pa_cons (pv 7) pa_nil)))))))))))))))))))))), ?_⟩
  refine ⟨_, rfl, s, rfl, hS, fun vp H1 pp S1 e1 => ?_⟩
  refine ⟨_, rfl, s, rfl, S1, fun vh H2 qh S2 e2 => ⟨_, rfl, s, rfl, S2, fun vl H3 ql S3 e3 => ⟨_, _, rfl, ?_⟩⟩⟩
  have qh := qh.fr e3 S2
  have pp := (pp.fr e2 S1.some).fr e3 S2.some
  have e13 := e1.trans (e2.trans e3)
  clear e1 e2 e3 S1 S2
  obtain ⟨h, rh, zh, oh⟩ := qh
  have oh : 0 ≤ h := oh
  dsimp only [gName]
  refine cut (fun σ' G => ∃ (vp vl : V) (k4 : Option V) (lr : Rat), σ' = [some (.ref s), some vp, some vh, some vl, k4, none, none, none, none, none, none] ∧ Sl K 24 (PairOk lr) G vp ∧ Rq K G vl lr ∧ 0 < lr ∧ Sz 25 lr ∧ Rq K G vh h ∧ Sto l s G ∧ Fr s H G) ?_ ?_
  · rintro σ G1 ⟨vp, vl, k4, lr, rfl, ⟨pr, xs, xd, sl, dr, rfl, hpr, hxs, hxd, zs, zd, o1, o2, o3, o4, o5⟩, hl, l0, zl, rh, S1, e1⟩
    -- gain
    refine ⟨_, rfl, pr, _, _, _, rfl, rfl, hpr, at0 rfl, _, rfl, pr, _, _, _, rfl, rfl, hpr, at1 rfl, ?_⟩
    refine ⟨_, _, sl, dr, 24, 24, rfl, hxs, hxd, zs, zd, by decide, fun v1 G2 f2 h2 => ?_⟩
    refine ⟨_, rfl, _, _, sl - dr, lr, 49, 25, rfl, h2, hl.same f2, zs.sub zd, zl, by decide, fun vg G3 f3 h3 => ?_⟩
    have f13 := f2.trans f3
    -- ahead
    refine ⟨_, rfl, _, rfl, pr, _, _, _, rfl, rfl, f13.sqt hpr, at1 rfl, _, rfl, ?_⟩
    refine ⟨_, _, dr, lr, 24, 25, rfl, hxd.same f13, hl.same f13, zd, zl, by decide, fun v4 G4 f4 h4 => ?_⟩
    refine ⟨_, _, h, dr * lr, 5, 49, rfl, rh.same (f13.trans f4), h4, zh, zd.mul zl, by decide, fun va G5 f5 h5 => ?_⟩
    have f15 := f13.trans (f4.trans f5)
    have hg5 : Rq K G5 vg ((sl - dr) * lr) := Rq.same (f4.trans f5) h3
    have ha5 : Rq K G5 va (h + dr * lr) := h5
    have zgn : Sz 74 ((sl - dr) * lr) := (zs.sub zd).mul zl
    have zah : Sz 55 (h + dr * lr) := zh.add (zd.mul zl)
    replace hpr := f15.sqt hpr; replace hxs := hxs.same f15; replace hxd := hxd.same f15; replace hl := hl.same f15; replace rh := rh.same f15
    have S5 := S1.same f15
    have e5 := e1.trans (Fr.of f15)
    clear h2 h3 h4 h5 f2 f3 f4 f5 f13 f15 S1 e1
    -- the goal
    refine ⟨_, rfl, _, rfl, _, rfl, _, rfl, _, rfl, s, rfl, S5, fun vs1 G6 qs S6 e6 => ?_⟩
    obtain ⟨sp, rsp, zsp, _⟩ := qs
    have hs5 := S5.some
    refine ⟨_, _, h + dr * lr, sp, 55, 5, rfl, ha5.fr e6 hs5, rsp, zah, zsp, by decide, fun v7 G7 f7 h7 => ?_⟩
    refine ⟨_, rfl, _, rfl, _, _, h + dr * lr, (sl - dr) * lr, 55, 74, rfl, (ha5.fr e6 hs5).same f7, (hg5.fr e6 hs5).same f7, zah, zgn, by decide, fun v8 G8 f8 h8 => ⟨sm4, fun p hp => ?_⟩⟩
    have sp9 := same_new hp (.lst [va, va, v7, v8])
    have f69 := f7.trans (f8.trans sp9)
    have S9 := S6.same f69
    have i1 : Qd K 131 anyQ (upd G8 p (.lst [va, va, v7, v8])) va := ⟨_, (ha5.fr e6 hs5).same f69, zah.mono (by decide), trivial⟩
    have i3 : Qd K 131 anyQ (upd G8 p (.lst [va, va, v7, v8])) v7 := ⟨_, Rq.same (f8.trans sp9) h7, (zah.add zsp).mono (by decide), trivial⟩
    have i4 : Qd K 131 anyQ (upd G8 p (.lst [va, va, v7, v8])) v8 := ⟨_, Rq.same sp9 h8, (zah.add zgn).mono (by decide), trivial⟩
    refine ⟨s, p, _, rfl, S9, (S6.same (f7.trans f8)).ne hp, SqL.of upd_same, (by show 0 < 4; decide), (by show 4 < 2 ^ 32; decide), fun vgo G10 hv S10 e10 => ?_⟩
    have qgo : Qd K 131 anyQ G10 vgo := by
      refine Qd.fr e10 S9 ?_
      simp only [List.mem_cons, List.mem_nil_iff, or_false] at hv
      rcases hv with rfl | rfl | rfl | rfl <;> assumption
    have g510 := e6.trans ((Fr.of f69).trans e10)
    replace hpr := sqt_fr g510 hs5 hpr; replace hxs := hxs.fr g510 hs5; replace hxd := hxd.fr g510 hs5; replace hl := hl.fr g510 hs5; replace rh := rh.fr g510 hs5
    replace ha5 := ha5.fr g510 hs5; replace hg5 := hg5.fr g510 hs5
    have e10' := e5.trans g510
    clear i1 i3 i4 h7 h8 rsp e6 S6 S9 e5 S5 hs5 g510 f69 hv e10
    dsimp only [gName]
    refine cut (fun σ' G => ∃ (vgo : V), σ' = [some (.ref s), some (.ref pr), some vh, some vl, k4, some vg, some va, some vgo, none, none, none] ∧ Qd K 131 anyQ G vgo ∧ SqT K G pr [xs, xd] ∧ Rq K G xs sl ∧ Rq K G xd dr ∧ Rq K G vl lr ∧ Rq K G vh h ∧ Rq K G vg ((sl - dr) * lr) ∧ Sto l s G ∧ Fr s H G) ?_ ?_
    · rintro σ G11 ⟨vgo, rfl, ⟨g, rg, zg, _⟩, hpr, hxs, hxd, hl, rh, hgn, S11, e11⟩
      -- many
      refine ⟨_, rfl, s, 0, 12, rfl, S11, by decide, by decide, fun mn G12 m0 m1 S12 e12 => ?_⟩
      dsimp only [gName]
      refine cut (fun σ' G => ∃ (mn : Int), σ' = [some (.ref s), some (.ref pr), some vh, some vl, k4, some vg, some va, some vgo, some (.int mn), none, none] ∧ 0 ≤ mn ∧ mn ≤ 1000 ∧ Sto l s G ∧ Fr s G11 G) ?_ ?_
      · rintro σ G13 ⟨mn, rfl, m0, m1, S13, e13'⟩
        refine ⟨_, rfl, s, 4, rfl, S13, by decide, fun j G14 j0 j1 S14 e14 => ?_⟩
        refine ⟨_, _, 3, rfl, by decide, lt2 5 (by omega) (by decide), by decide, by decide, fun vq G15 f15 h15 => ?_⟩
        have p3 : (2 : Nat) ^ 3 = 8 := by decide
        have zq : Sz 3 (mkRat j (4 : Int).toNat) := sz_mk (by decide) (by omega) (by decide)
        have q0 : 0 ≤ mkRat j (4 : Int).toNat := by
          have := qle (n := 0) (d := 1) (m := j) (e := 4) (by decide) (by decide) (by omega)
          rw [show mkRat 0 (1 : Int).toNat = 0 by decide +kernel] at this
          exact this
        generalize mkRat j (4 : Int).toNat = q at h15 zq q0
        have g1115 := (e13'.trans e14).trans (Fr.of f15)
        have ss := S11.some
        have rg5 := rg.fr g1115 ss; have gn5 := hgn.fr g1115 ss
        -- bound
        refine ⟨_, rfl, _, rfl, _, rfl, sz2, fun t16 ht16 => ?_⟩
        have st := same_new ht16 (.tup [.int mn, .int 1])
        have rm : Rq K (upd G15 t16 (.tup [.int mn, .int 1])) (.ref t16) ((mn : Int) : Rat) := rq_new mn 1 _ rfl rfl
        have p10 : (2 : Nat) ^ 10 = 1024 := by decide
        have zm : Sz 10 ((mn : Int) : Rat) := ⟨by show mn.natAbs < _; omega, by show 1 < 2 ^ 10; decide⟩
        generalize upd G15 t16 (.tup [.int mn, .int 1]) = G16 at st rm ⊢
        have S16 := (S14.same f15).same st
        refine ⟨_, rfl, _, _, (mn : Rat), q, 10, 3, rfl, rm, Rq.same st h15, zm, zq, by decide, fun v17 G17 f17 h17 => ?_⟩
        have f1517 := st.trans f17
        refine ⟨_, _, (sl - dr) * lr, (mn : Rat) - q, 74, 14, rfl, gn5.same f1517, h17, zgn, zm.sub zq, by decide, fun v18 G18 f18 h18 => ?_⟩
        have f1518 := f1517.trans f18
        refine ⟨_, _, g, (sl - dr) * lr * ((mn : Rat) - q), 131, 88, rfl, rg5.same f1518, h18, zg, zgn.mul (zm.sub zq), by decide, fun v19 G19 f19 h19 => ?_⟩
        have f1519 := f1518.trans f19
        have zb : Sz 220 (g + (sl - dr) * lr * ((mn : Rat) - q)) := zg.add (zgn.mul (zm.sub zq))
        have hb19 : Rq K G19 v19 (g + (sl - dr) * lr * ((mn : Rat) - q)) := h19
        have S19 := S16.same (f17.trans (f18.trans f19))
        have g1119 := g1115.trans (Fr.of f1519)
        replace hpr := sqt_fr g1119 ss hpr; replace hxs := hxs.fr g1119 ss; replace hxd := hxd.fr g1119 ss; replace hl := hl.fr g1119 ss; replace rh := rh.fr g1119 ss
        replace rg := rg.fr g1119 ss
        have e19 := e11.trans g1119
        have m1' : (mn : Rat) ≤ ((1000 : Int) : Rat) := by exact_mod_cast m1
        have c1000 : ((1000 : Int) : Rat) = 1000 := rfl
        rw [c1000] at m1'
        clear h17 h18 rm rg5 gn5 f15 f17 f18 f19 f1517 f1518 f1519 st S16 S14 S13 h19 e13' e14 g1115 S11 g1119 e11
        -- the bound picked
        have base1 : (g + (sl - dr) * lr * ((mn : Rat) - q)) - g ≤ 1000 * ((sl - dr) * lr) := top_ok o5 m1' q0 (.inl rfl)
        have hs19 := S19.some
        dsimp only [gName]
        refine cut (fun σ' G => ∃ vb, σ' = [some (.ref s), some (.ref pr), some vh, some vl, k4, some vg, some va, some vgo, some (.int mn), some vq, some vb] ∧ Qd K 231 (fun b => b - g ≤ 1000 * ((sl - dr) * lr)) G vb ∧ Sto l s G ∧ Fr s G19 G) ?_ ?_
        · rintro σ G ⟨vb, rfl, qb, SG, eG⟩
          obtain ⟨b, rb, zb', ob⟩ := qb
          have hprG := sqt_fr eG hs19 hpr; have hxsG := hxs.fr eG hs19; have hxdG := hxd.fr eG hs19; have hlG := hl.fr eG hs19; have rhG := rh.fr eG hs19; have rgG := rg.fr eG hs19
          have eAll := e19.trans eG
          refine cut (fun σ' G' => ∃ vb b, σ' = [some (.ref s), some (.ref pr), some vh, some vl, k4, some vg, some va, some vgo, some (.int mn), some vq, some vb] ∧ Same G G' ∧ Rq K G' vb b ∧ Sz 231 b ∧ 0 ≤ b ∧ (b - g ≤ 1000 * ((sl - dr) * lr) ∨ b = 0)) ?_ ?_
          · rintro σ G' ⟨vb, b, rfl, sG, rb, zb', b0, ob⟩
            refine ⟨_, rfl, _, rfl, _, rfl, _, rfl, pr, _, _, _, rfl, rfl, sG.sqt hprG, at0 rfl, _, rfl, pr, _, _, _, rfl, rfl, sG.sqt hprG, at1 rfl, _, rfl, sm6, fun D hD => ?_⟩
            have sD := same_new hD (.lst [vb, vh, vl, xs, xd, vgo])
            have all := sG.trans sD
            have SG' := SG.same sG
            refine z D _ ((eAll.trans (Fr.of sG)).free hD (SG'.ne hD)) (SG'.ne hD) ⟨vb, vh, vl, xs, xd, vgo, ⟨b, h, lr, sl, dr⟩, g, upd_same, ⟨rb.same sD, rhG.same all, hlG.same all, hxsG.same all, hxdG.same all, zb'.mono (by decide), zh.mono (by decide), zl.mono (by decide), zs.mono (by decide), zd.mono (by decide)⟩, rgG.same all, zg.mono (by decide), ⟨zh.mono (by decide), zl, zs.mono (by decide), zd.mono (by decide)⟩, ⟨b0, oh, l0, o1, o2, o3, o4⟩, o5, ob⟩ (SG'.same sD) (eAll.trans (Fr.of all))
          · intro key3
            obtain ⟨ba, rfl, hba⟩ := id rb
            refine ⟨_, rfl, ba, _, _, _, rfl, rfl, hba, at0 rfl, _, _, rfl, rfl, _, rfl, ifD (fun c => ?_) (fun c => ?_)⟩
            · refine ⟨sz2, fun t ht => key3 _ _ ⟨.ref t, 0, rfl, same_new ht _, rq_new 0 1 0 (by decide +kernel) (by decide +kernel), by decide +kernel, Rat.le_refl, .inr rfl⟩⟩
            · exact key3 _ _ ⟨.ref ba, b, rfl, Same.refl _, rb, zb', Rat.not_lt.mp fun e => c (neg_num.mpr e), .inl ob⟩
        · intro fin
          have made : ∀ (v4 : V) (G : Hp), Same G19 G → Qd K 231 (fun b => b - g ≤ 1000 * ((sl - dr) * lr)) G v4 → ∀ p, G p = none → ∀ (R : V → Hp → Prop), (∀ vb G', Qd K 231 (fun b => b - g ≤ 1000 * ((sl - dr) * lr)) G' vb → Sto l s G' → Fr s G19 G' → R vb G') →
              spPick K l [.ref s, .ref p] (upd G p (.lst [v19, v19, v19, v4])) R E0 := fun v4 G sG q4 p hp R hR => by
            have sp := same_new hp (.lst [v19, v19, v19, v4])
            have SG := (S19.same sG).same sp
            have q1 : Qd K 231 (fun b => b - g ≤ 1000 * ((sl - dr) * lr)) (upd G p (.lst [v19, v19, v19, v4])) v19 := ⟨_, (hb19.same sG).same sp, zb.mono (by decide), base1⟩
            have q4 := q4.same sp
            refine ⟨s, p, _, rfl, SG, (S19.same sG).ne hp, SqL.of upd_same, (by show 0 < 4; decide), (by show 4 < 2 ^ 32; decide), fun v G' hv S' e' => hR v G' (Qd.fr e' SG ?_) S' ((Fr.of (sG.trans sp)).trans e')⟩
            simp only [List.mem_cons, List.mem_nil_iff, or_false] at hv
            rcases hv with rfl | rfl | rfl | rfl <;> assumption
          refine ⟨_, rfl, _, rfl, _, rfl, _, rfl, _, rfl, _, _, rfl, rfl, _, rfl, ifD (fun c => ?_) (fun c => ?_)⟩
          · refine ⟨_, rfl, sz2, fun t ht => ?_⟩
            have st := same_new ht (.tup [.int 1, .int 1000])
            have rt : Rq K (upd G19 t (.tup [.int 1, .int 1000])) (.ref t) (mkRat 1 1000) := rq_new 1 1000 _ (by decide +kernel) (by decide +kernel)
            generalize upd G19 t (.tup [.int 1, .int 1000]) = G20 at st rt ⊢
            refine ⟨_, _, _, mkRat 1 1000, 220, 10, rfl, hb19.same st, rt, zb, z1000, by decide, fun v4 G21 f21 h21 => ⟨sm4, fun p hp => ?_⟩⟩
            have c998 : (mn : Rat) ≤ ((998 : Int) : Rat) := by
              have : mn ≤ 998 := by omega
              exact_mod_cast this
            have e998 : ((998 : Int) : Rat) = 998 := rfl
            rw [e998] at c998
            exact made v4 G21 (st.trans f21) ⟨_, h21, zb.add z1000, top_ok o5 m1' q0 (.inr ⟨c998, rfl⟩)⟩ p hp _ fun vb G' a b c => fin _ _ ⟨vb, rfl, a, b, c⟩
          · refine ⟨_, rfl, sm4, fun p hp => ?_⟩
            exact made v19 G19 (Same.refl _) ⟨_, hb19, zb.mono (by decide), base1⟩ p hp _ fun vb G' a b c => fin _ _ ⟨vb, rfl, a, b, c⟩
      · intro key
        refine ⟨_, rfl, s, 16, rfl, S12, by decide, fun r2 G13 _ _ S13 e13' => ⟨rfl, _, rfl, ifD (fun _ => ?_) (fun _ => key _ _ ⟨mn, rfl, m0, by omega, S13, e12.trans e13'⟩)⟩⟩
        exact ⟨_, rfl, s, 13, 1000, rfl, S13, by decide, by decide, fun mn2 G14 a b S14 e14 => key _ _ ⟨mn2, rfl, by omega, by omega, S14, e12.trans (e13'.trans e14)⟩⟩
    · intro key
      refine ⟨_, rfl, s, 4, rfl, S10, by decide, fun r2 G11 _ _ S11 e11 => ⟨rfl, _, rfl, ?_⟩⟩
      have ss := S10.some
      refine ifD (fun _ => ?_) (fun _ => key _ _ ⟨vgo, rfl, qgo.fr e11 S10, sqt_fr e11 ss hpr, hxs.fr e11 ss, hxd.fr e11 ss, hl.fr e11 ss, rh.fr e11 ss, hg5.fr e11 ss, S11, e10'.trans e11⟩)
      have ha1 := ha5.fr e11 ss; have hg1 := hg5.fr e11 ss; have rh1 := rh.fr e11 ss
      refine ⟨_, rfl, _, rfl, sz2, fun t1 ht1 => ?_⟩
      have st := same_new ht1 (.tup [.int 1, .int 1000])
      have rt : Rq K (upd G11 t1 (.tup [.int 1, .int 1000])) (.ref t1) (mkRat 1 1000) := rq_new 1 1000 _ (by decide +kernel) (by decide +kernel)
      generalize upd G11 t1 (.tup [.int 1, .int 1000]) = G12 at st rt ⊢
      refine ⟨_, _, h + dr * lr, mkRat 1 1000, 55, 10, rfl, ha1.same st, rt, zah, z1000, by decide, fun w1 G13 f13 i1 => ?_⟩
      refine ⟨_, rfl, _, rfl, _, _, h + dr * lr, (sl - dr) * lr, 55, 74, rfl, ha1.same (st.trans f13), hg1.same (st.trans f13), zah, zgn, by decide, fun w2 G14 f14 i2 => ?_⟩
      have S14 := ((S11.same st).same f13).same f14
      refine ⟨_, rfl, _, rfl, s, rfl, S14, fun w4 G15 q4 S15 e15 => ⟨sm4, fun p hp => ?_⟩⟩
      have sp := same_new hp (.lst [w1, w2, vh, w4])
      have f1114 := st.trans (f13.trans f14)
      have j1 : Qd K 131 anyQ (upd G15 p (.lst [w1, w2, vh, w4])) w1 := ⟨_, ((Rq.same f14 i1).fr e15 S14.some).same sp, (zah.sub z1000).mono (by decide), trivial⟩
      have j2 : Qd K 131 anyQ (upd G15 p (.lst [w1, w2, vh, w4])) w2 := ⟨_, (Rq.fr e15 S14.some i2).same sp, (zah.sub zgn).mono (by decide), trivial⟩
      have j3 : Qd K 131 anyQ (upd G15 p (.lst [w1, w2, vh, w4])) vh := ⟨_, ((rh1.same f1114).fr e15 S14.some).same sp, zh.mono (by decide), trivial⟩
      have j4 : Qd K 131 anyQ (upd G15 p (.lst [w1, w2, vh, w4])) w4 := (q4.same sp).imp (by decide) fun _ h => h
      have Sp := S15.same sp
      refine ⟨s, p, _, rfl, Sp, S15.ne hp, SqL.of upd_same, (by show 0 < 4; decide), (by show 4 < 2 ^ 32; decide), fun v G16 hv S16 e16 => ?_⟩
      have all := e11.trans ((Fr.of f1114).trans (e15.trans ((Fr.of sp).trans e16)))
      refine key _ _ ⟨v, rfl, Qd.fr e16 Sp ?_, sqt_fr all ss hpr, hxs.fr all ss, hxd.fr all ss, hl.fr all ss, rh.fr all ss, hg5.fr all ss, S16, e10'.trans all⟩
      simp only [List.mem_cons, List.mem_nil_iff, or_false] at hv
      rcases hv with rfl | rfl | rfl | rfl <;> assumption
  · intro key
    obtain ⟨lr, rl, zl, ol⟩ := ql
    have ol : mkRat 1 6 ≤ lr := ol
    have l0 : 0 < lr := by
      have : (0 : Rat) < mkRat 1 6 := by decide +kernel
      grind
    have hs3 := S3.some
    refine ⟨_, rfl, s, 4, rfl, S3, by decide, fun r2 H4 _ _ S4 e4 => ⟨rfl, _, rfl, ifD (fun _ => ?_) (fun _ => ?_)⟩⟩
    · have pw : (0 : Int) ≤ 6 ∧ (6 : Int) ≤ 1000000 ∧ (10 : Int).natAbs < 2 ^ 64 := ⟨by decide, by decide, by decide⟩
      refine ⟨_, rfl, _, _, rfl, rfl, pw, sm4, fun p hp => ?_⟩
      have sp := same_new hp (.lst [.int 1000, .int 2000, .int 2000, .int (10 ^ ((6 : Int).toNat))])
      refine ⟨s, p, _, rfl, S4.same sp, S4.ne hp, SqL.of upd_same, (by show 0 < 4; decide), (by show 4 < 2 ^ 32; decide), fun v H5 hv S5 e5 => ?_⟩
      obtain ⟨P', rfl, P0, P1⟩ : ∃ P' : Int, v = .int P' ∧ 1000 ≤ P' ∧ P' ≤ 1000000 := by
        rw [show ((fun i j : Int => V.int (i ^ j.toNat)) 10 6) = V.int 1000000 from congrArg V.int (by decide)] at hv
        simp only [List.mem_cons, List.mem_nil_iff, or_false] at hv
        rcases hv with rfl | rfl | rfl | rfl <;> exact ⟨_, rfl, by decide, by decide⟩
      have e35 := e4.trans ((Fr.of sp).trans e5)
      have rl5 := rl.fr e35 hs3; have rh5 := rh.fr e35 hs3
      refine ⟨_, rfl, sz2, fun t1 ht1 => ?_⟩
      have c1 := same_new ht1 (.tup [.int 1, .int P'])
      have p20 : (2 : Nat) ^ 20 = 1048576 := by decide
      have p24 : (2 : Nat) ^ 24 = 16777216 := by decide
      have nf1 := nf (n := 1) (d := P'.toNat) (by omega) (by rw [show (1 : Int).natAbs = 1 from rfl]; exact Nat.gcd_one_left _)
      have rs : Rq K (upd H5 t1 (.tup [.int 1, .int P'])) (.ref t1) (mkRat 1 P'.toNat) := rq_new 1 P' _ nf1.1 (by rw [nf1.2]; omega)
      have zs : Sz 24 (mkRat 1 P'.toNat) := ⟨by rw [nf1.1]; decide, by rw [nf1.2]; omega⟩
      have ms := mkm (n := 1) (d := P') (by omega)
      generalize mkRat 1 P'.toNat = sq at rs zs ms
      have S6 := S5.same c1
      generalize upd H5 t1 (.tup [.int 1, .int P']) = H6 at c1 rs S6 ⊢
      refine ⟨_, rfl, s, 8, rfl, S6, by decide, fun j H7 j0 j1 S7 e7 => ?_⟩
      refine ⟨_, rfl, _, _, rfl, rfl, .inl ⟨by decide, by decide⟩, ?_⟩
      refine ⟨_, _, 24, rfl, by omega, by omega, by omega, by decide, fun vd H8 e8 hd => ⟨sz2, fun t2 ht2 => ?_⟩⟩
      have zd : Sz 24 (mkRat j (8 * P').toNat) := sz_mk (by omega) (by omega) (by omega)
      have md := mkm (n := j) (d := 8 * P') (by omega)
      generalize mkRat j (8 * P').toNat = dq at hd zd md
      have po := pair_b P0 j0 (by omega) ol ms md
      have c2 := same_new ht2 (.tup [.ref t1, vd])
      have sl2 := sl_new (m := 24) (ok := PairOk (lr * (P' : Rat))) ht2 ((rs.fr e7 S6.some).same e8) hd zs zd po
      have S9 := (S7.same e8).same c2
      have e59 := (Fr.of (s := s) c1).trans (e7.trans (Fr.of (e8.trans c2)))
      have rl9 := rl5.fr e59 S5.some; have rh9 := rh5.fr e59 S5.some
      generalize upd H8 t2 (.tup [.ref t1, vd]) = H9 at sl2 S9 e59 rl9 rh9 ⊢
      refine ⟨_, rfl, _, rfl, sz2, fun t3 ht3 => ?_⟩
      have c3 := same_new ht3 (.tup [.int P', .int 1])
      have rp : Rq K (upd H9 t3 (.tup [.int P', .int 1])) (.ref t3) ((P' : Int) : Rat) := rq_new P' 1 _ rfl rfl
      have zp : Sz 20 ((P' : Int) : Rat) := ⟨by show P'.natAbs < _; omega, by show 1 < 2 ^ 20; decide⟩
      have P00 : (0 : Rat) < (P' : Rat) := by
        have : (0 : Int) < P' := by omega
        exact_mod_cast this
      refine ⟨_, _, lr, (P' : Rat), 5, 20, rfl, rl9.same c3, rp, zl, zp, by decide, fun vl2 H10 e10 h10 => ?_⟩
      have c4 := c3.trans e10
      exact key _ _ ⟨.ref t2, vl2, _, lr * (P' : Rat), rfl, sl2.same c4, h10, mul_pos' l0 P00, zl.mul zp, rh9.same c4, S9.same c4, e13.trans (e35.trans (e59.trans (Fr.of c4)))⟩
    · refine key _ _ ⟨vp, vl, _, lr, rfl, ?_, rl.fr e4 hs3, l0, zl.mono (by decide), rh.fr e4 hs3, S4, e13.trans e4⟩
      obtain ⟨pr, xs, xd, sl, dr, rfl, h1, h2, h3, h4, h5, o⟩ := pp.fr e4 hs3
      exact ⟨pr, xs, xd, sl, dr, rfl, h1, h2, h3, h4, h5, pair_a o ol⟩
end Vk

namespace Vk
open PySem L2 Vm Vl
variable {l CB CR : Addr} {P : Program} {w : World} {K : PySem.W.Frag} {mg : Str → Option Value} {base : Heap} {k : Nat} {f f1 f2 f3 f4 f5 f6 f7 f8 f9 f10 : Addr} {fd fd1 fd2 fd3 fd4 fd5 fd6 fd7 fd8 fd9 fd10 : FuncData}
/-- the list of the arguments, its goal last -/
structure Ag (K : PySem.W.Frag) (H : Hp) (a : Addr) (xb xh xl xs xd xg : V) (x : A6) (g : Rat) (m : Nat) : Prop where
  q : SqL K H a [xb, xh, xl, xs, xd, xg]
  v : L5 K H xb xh xl xs xd x m
  gq : Rq K H xg g
  z : Sz m g
theorem Ag.same {H H' : Hp} {a : Addr} {xb xh xl xs xd xg : V} {x : A6} {g : Rat} {m : Nat} (h : Ag K H a xb xh xl xs xd xg x g m) (e : Same H H') : Ag K H' a xb xh xl xs xd xg x g m := ⟨e.seq h.q, h.v.same e, h.gq.same e, h.z⟩
theorem at3 {xs : List V} {v : V} (h : xs[3]? = some v) : atI xs 3 = some v := atI_nat (j := 3) h
theorem at4 {xs : List V} {v : V} (h : xs[4]? = some v) : atI xs 4 = some v := atI_nat (j := 4) h
theorem at5 {xs : List V} {v : V} (h : xs[5]? = some v) : atI xs 5 = some v := atI_nat (j := 5) h
abbrev s__law_laps : Stmt := top 52
abbrev N__law_laps : List Str := ["_law_args"]
theorem sc__law_laps : FnScope N__law_laps ["_law_args"] (defScope s__law_laps) := ⟨rfl, rfl, rfl, by decide +kernel, rfl, by decide +kernel, by decide +kernel⟩
abbrev ps__law_laps : List Str := ["_law_args"]
def spLaps (K : PySem.W.Frag) (CB CR : Addr) : Sp := fun vs H Q E => ∃ (a : Addr) (xb xh xl xs xd xg : V) (x : A6) (g : Rat) (m : Nat), vs = [.ref a] ∧ Ag K H a xb xh xl xs xd xg x g m ∧ m ≤ 1500 ∧ (Good x → ∀ H', Same H H' → Q (lapV (lapsP x g)) H') ∧ Fault x (eF E CB CR H [xb, xh, xl, xs, xd])
theorem ok_laps (F : Fn K mg "_law_laps" s__law_laps ps__law_laps f fd) (dlaps_until : DefXN P w K mg base k "laps_until" ["bound", "half", "goal", "lap", "slew", "drift"] 3 ["lap", "slew", "drift"] (spUntil K CB CR) f1 fd1) : DefX P w K mg base (k + 1) "_law_laps" ps__law_laps (spLaps K CB CR) f fd := by
  refine ⟨F.F.okX sc__law_laps (fun vs H Q E h => ?_) (fun cdv A outer s H vs Q E hr h => ?_), F.m, F.F.kp, F.b⟩
  · obtain ⟨_, _, _, _, _, _, _, _, _, _, rfl, _⟩ := h
    rfl
  obtain ⟨a, xb, xh, xl, xs, xd, xg, x, g, m, rfl, ⟨ha, L, hg, zg⟩, hm, z, fl⟩ := h
  refine ⟨_, (pss_one (ps_ret (pcallXN dlaps_until hr (takes_of rfl rfl rfl rfl) (pa_cons (pe_ix ix_list (pv 0) pe_int (fun _ _ => rfl)) (pa_cons (pe_ix ix_list (pv 0) pe_int (fun _ _ => rfl)) (pa_cons (pe_ix ix_list (pv 0) pe_int (fun _ _ => rfl)) pa_nil))) (pk_cons (pe_ix ix_list (pv 0) pe_int (fun _ _ => rfl)) (pk_cons (pe_ix ix_list (pv 0) pe_int (fun _ _ => rfl)) (pk_cons (pe_ix ix_list (pv 0) pe_int (fun _ _ => rfl)) pk_nil)))))), ?_⟩
  refine ⟨_, rfl, a, _, _, _, rfl, rfl, ha, at0 rfl, _, rfl, a, _, _, _, rfl, rfl, ha, at1 rfl, _, rfl, a, _, _, _, rfl, rfl, ha, at5 rfl, ?_⟩
  refine ⟨_, rfl, a, _, _, _, rfl, rfl, ha, at2 rfl, _, rfl, a, _, _, _, rfl, rfl, ha, at3 rfl, _, rfl, a, _, _, _, rfl, rfl, ha, at4 rfl, rfl, rfl, ?_⟩
  exact ⟨xb, xh, xg, xl, xs, xd, x, g, m, rfl, L, hg, zg, hm, z, fl⟩
abbrev s__law_next : Stmt := top 53
abbrev N__law_next : List Str := ["_law_args", "_law_bound"]
theorem sc__law_next : FnScope N__law_next ["_law_args", "_law_bound"] (defScope s__law_next) := ⟨rfl, rfl, rfl, by decide +kernel, rfl, by decide +kernel, by decide +kernel⟩
abbrev ps__law_next : List Str := ["_law_args", "_law_bound"]
def spNext (K : PySem.W.Frag) : Sp := fun vs H Q _ => ∃ (a : Addr) (xb xh xl xs xd xg v : V) (x : A6) (g b : Rat) (m : Nat), vs = [.ref a, v] ∧ Ag K H a xb xh xl xs xd xg x g m ∧ Rq K H v b ∧ Sz m b ∧ m ≤ 1500 ∧ Good { x with b := b } ∧ ∀ v H', Same H H' → Rq K H' v (nextB x b) → Q v H'
theorem ok_next (F : Fn K mg "_law_next" s__law_next ps__law_next f fd) (dbound_after : DefXN P w K mg base k "bound_after" ["bound", "half", "lap", "slew", "drift"] 2 ["lap", "slew", "drift"] (spAfter K CB CR) f1 fd1) : Def P w K mg base (k + 1) "_law_next" ps__law_next (spNext K) f fd := by
  refine ⟨F.F.ok sc__law_next (fun vs H Q E h => ?_) (fun cdv A outer s H vs Q E hr h => ?_), F.m, F.F.kp, F.b⟩
  · obtain ⟨_, _, _, _, _, _, _, _, _, _, _, _, rfl, _⟩ := h
    rfl
  obtain ⟨a, xb, xh, xl, xs, xd, xg, v, x, g, b, m, rfl, ⟨ha, L, hg, zg⟩, hv, zb, hm, G, z⟩ := h
  refine ⟨_, (pss_one (ps_ret (pcallLN dbound_after hr (pa_cons (pv 1) (pa_cons (pe_ix ix_list (pv 0) pe_int (fun _ _ => rfl)) pa_nil)) (pk_cons (pe_ix ix_list (pv 0) pe_int (fun _ _ => rfl)) (pk_cons (pe_ix ix_list (pv 0) pe_int (fun _ _ => rfl)) (pk_cons (pe_ix ix_list (pv 0) pe_int (fun _ _ => rfl)) pk_nil)))))), ?_⟩
  refine ⟨_, rfl, _, rfl, a, _, _, _, rfl, rfl, ha, at1 rfl, ?_⟩
  refine ⟨_, rfl, a, _, _, _, rfl, rfl, ha, at2 rfl, _, rfl, a, _, _, _, rfl, rfl, ha, at3 rfl, _, rfl, a, _, _, _, rfl, rfl, ha, at4 rfl, rfl, rfl, ?_⟩
  refine ⟨v, xh, xl, xs, xd, { x with b := b }, m, rfl, { L with b := hv, zb := zb }, hm, fun _ v' H' e h => z v' H' e h, ?_⟩
  obtain ⟨b0, h0, l0, s0, s1, d0, ds⟩ := G
  dsimp only at *
  exact ⟨fun c => absurd b0 (Rat.not_le.mpr c), fun _ c => absurd h0 (Rat.not_le.mpr c), fun _ _ c => absurd l0 (Rat.not_lt.mpr c), fun _ _ _ c => by
    rcases c with c | c
    · exact absurd s0 (Rat.not_lt.mpr c)
    · exact absurd s1 (Rat.not_lt.mpr c), fun _ _ _ _ _ c => by
    rcases c with c | c
    · exact absurd d0 (Rat.not_le.mpr c)
    · exact absurd ds (Rat.not_lt.mpr c)⟩
theorem sz_int {k : Int} (h0 : 0 ≤ k) (h1 : k ≤ 1023) : Sz 10 ((k : Int) : Rat) := by
  have p : (2 : Nat) ^ 10 = 1024 := by decide
  refine ⟨?_, by show 1 < 2 ^ 10; decide⟩
  show k.natAbs < _
  omega
theorem sz_ahead {x : A6} (z : Sm x) : Sz 76 (ahead x) := z.1.add (z.2.2.2.mul z.2.1)
theorem sz_fall {x : A6} {k : Int} {m : Nat} (z : Sm x) (zb : Sz m x.b) (h0 : 0 ≤ k) (h1 : k ≤ 1023) : Sz (m + 90) (x.b + (k : Rat) * ((x.d - x.s) * x.l)) :=
  (zb.add ((sz_int h0 h1).mul ((z.2.2.2.sub z.2.2.1).mul z.2.1))).mono (by omega)
theorem sz_after {x : A6} {k : Int} {m : Nat} (z : Sm x) (zb : Sz m x.b) (h0 : 0 ≤ k) (h1 : k ≤ 1023) : Sz (m + 90) (after x k) := by
  unfold after mx
  split
  · exact zb.mono (by omega)
  · split
    · exact (sz_ahead z).mono (by omega)
    · exact sz_fall z zb h0 h1
abbrev s__law_after : Stmt := top 51
abbrev N__law_after : List Str := ["_law_args", "_law_laps_here", "_law_ahead", "_law_fallen"]
theorem sc__law_after : FnScope N__law_after ["_law_args", "_law_laps_here"] (defScope s__law_after) := ⟨rfl, rfl, rfl, by decide +kernel, rfl, by decide +kernel, by decide +kernel⟩
abbrev ps__law_after : List Str := ["_law_args", "_law_laps_here"]
def spAft (K : PySem.W.Frag) : Sp := fun vs H Q _ => ∃ (a : Addr) (xb xh xl xs xd xg : V) (x : A6) (g : Rat) (k : Int) (m : Nat), vs = [.ref a, .int k] ∧ Ag K H a xb xh xl xs xd xg x g m ∧ Sm x ∧ m ≤ 1000 ∧ 0 ≤ k ∧ k ≤ 1023 ∧ ∀ v H', Same H H' → Rq K H' v (after x k) → Q v H'
theorem ok_after (F : Fn K mg "_law_after" s__law_after ps__law_after f fd) (d_law_plus : Def P w K mg base k "_law_plus" ["_law_a", "_law_b"] (spOp2 K (· + ·)) f1 fd1) (d_law_times : Def P w K mg base k "_law_times" ["_law_a", "_law_b"] (spOp2 K (· * ·)) f2 fd2) (d_law_minus : Def P w K mg base k "_law_minus" ["_law_a", "_law_b"] (spOp2 K (· - ·)) f3 fd3) (d_law_below : Def P w K mg base k "_law_below" ["_law_a", "_law_b"] (spTest2 K fun p q => .bl (decide (p < q))) f4 fd4) :
    Def P w K mg base (k + 1) "_law_after" ps__law_after (spAft K) f fd := by
  refine ⟨F.F.ok sc__law_after (fun vs H Q E h => ?_) (fun cdv A outer s H vs Q E hr h => ?_), F.m, F.F.kp, F.b⟩
  · obtain ⟨_, _, _, _, _, _, _, _, _, _, _, rfl, _⟩ := h
    rfl
  obtain ⟨a, xb, xh, xl, xs, xd, xg, x, g, n, m, rfl, ⟨ha, L, hg, zg⟩, zm, hm, n0, n1, z⟩ := h
  refine ⟨_, (pss_cons (ps_if (pt_cmpR op_eq (pv 1) pe_int (nomark _))
        (pss_one (ps_ret (pe_ix ix_list (pv 0) pe_int (fun _ _ => rfl))))
        pss_nil)
      (pss_cons (ps_set (i := 2) sc__law_after.nd rfl (Or.inl rfl) (pcall d_law_plus hr (pa_cons (pe_ix ix_list (pv 0) pe_int (fun _ _ => rfl)) (pa_cons (pcall d_law_times hr (pa_cons (pe_ix ix_list (pv 0) pe_int (fun _ _ => rfl)) (pa_cons (pe_ix ix_list (pv 0) pe_int (fun _ _ => rfl)) pa_nil))) pa_nil))))
      (pss_cons (ps_set (i := 3) sc__law_after.nd rfl (Or.inl rfl) (pcall d_law_plus hr (pa_cons (pe_ix ix_list (pv 0) pe_int (fun _ _ => rfl)) (pa_cons (pcall d_law_times hr (pa_cons (pe_tup (pa_cons (pv 1) (pa_cons pe_int pa_nil))) (pa_cons (pcall d_law_times hr (pa_cons (pcall d_law_minus hr (pa_cons (pe_ix ix_list (pv 0) pe_int (fun _ _ => rfl)) (pa_cons (pe_ix ix_list (pv 0) pe_int (fun _ _ => rfl)) pa_nil))) (pa_cons (pe_ix ix_list (pv 0) pe_int (fun _ _ => rfl)) pa_nil))) pa_nil))) pa_nil))))
      (pss_one (ps_ret (pe_ifExp (pt_val (pcall d_law_below hr (pa_cons (pv 3) (pa_cons (pv 2) pa_nil)))) (pv 2) (pv 3))))))), ?_⟩
  refine ⟨_, rfl, rfl, _, rfl, ifD (fun c => ?_) (fun c => ?_)⟩
  · have e : after x n = x.b := by unfold after; rw [if_pos (V.int.inj c)]
    rw [e] at z
    exact ⟨_, rfl, a, _, _, _, rfl, rfl, ha, at0 rfl, z _ _ (Same.refl _) L.b⟩
  have e : after x n = mx (x.b + (n : Rat) * ((x.d - x.s) * x.l)) (ahead x) := by unfold after; rw [if_neg fun q => c (congrArg V.int q)]
  rw [e] at z
  obtain ⟨zh, zl, zs, zd⟩ := id zm
  refine ⟨_, rfl, a, _, _, _, rfl, rfl, ha, at1 rfl, _, rfl, a, _, _, _, rfl, rfl, ha, at4 rfl, _, rfl, a, _, _, _, rfl, rfl, ha, at2 rfl, ?_⟩
  refine ⟨_, _, x.d, x.l, 25, 25, rfl, L.d, L.l, zd, zl, by decide, fun v1 H1 e1 h1 => ?_⟩
  refine ⟨_, _, x.h, x.d * x.l, 25, 50, rfl, L.h.same e1, h1, zh, zd.mul zl, by decide, fun v2 H2 e2 h2 => ?_⟩
  have e12 := e1.trans e2
  have ha2 := e12.seq ha
  have L2 := L.same e12
  refine ⟨_, rfl, a, _, _, _, rfl, rfl, ha2, at0 rfl, _, rfl, sz2, fun t ht => ?_⟩
  have st := same_new ht (.tup [.int n, .int 1])
  have rn : Rq K (upd H2 t (.tup [.int n, .int 1])) (.ref t) ((n : Int) : Rat) := rq_new n 1 _ rfl rfl
  have ha3 := st.seq ha2
  have L3 := L2.same st
  have h2' : Rq K (upd H2 t (.tup [.int n, .int 1])) v2 (ahead x) := Rq.same st h2
  generalize upd H2 t (.tup [.int n, .int 1]) = H3 at st rn ha3 L3 h2' ⊢
  refine ⟨_, rfl, a, _, _, _, rfl, rfl, ha3, at4 rfl, _, rfl, a, _, _, _, rfl, rfl, ha3, at3 rfl, ?_⟩
  refine ⟨_, _, x.d, x.s, 25, 25, rfl, L3.d, L3.s, zd, zs, by decide, fun v4 H4 e4 h4 => ?_⟩
  refine ⟨_, rfl, a, _, _, _, rfl, rfl, e4.seq ha3, at2 rfl, ?_⟩
  refine ⟨_, _, x.d - x.s, x.l, 51, 25, rfl, h4, L3.l.same e4, zd.sub zs, zl, by decide, fun v5 H5 e5 h5 => ?_⟩
  refine ⟨_, _, (n : Rat), (x.d - x.s) * x.l, 10, 76, rfl, rn.same (e4.trans e5), h5, sz_int n0 n1, (zd.sub zs).mul zl, by decide, fun v6 H6 e6 h6 => ?_⟩
  have e36 := e4.trans (e5.trans e6)
  refine ⟨_, _, x.b, (n : Rat) * ((x.d - x.s) * x.l), m, 86, rfl, L3.b.same e36, h6, L.zb, (sz_int n0 n1).mul ((zd.sub zs).mul zl), by omega, fun v7 H7 e7 h7 => ?_⟩
  have e37 := e36.trans e7
  have h7 : Rq K H7 v7 (x.b + (n : Rat) * ((x.d - x.s) * x.l)) := h7
  have h2'' := h2'.same e37
  have all := e12.trans (st.trans e37)
  refine ⟨_, rfl, _, rfl, _, _, _, ahead x, m + 90, 76, rfl, h7, h2'', sz_fall zm L.zb n0 n1, sz_ahead zm, by omega, _, rfl, ifD (fun c => ?_) (fun c => ?_)⟩
  · exact ⟨_, rfl, z _ _ all (by unfold mx; rw [if_pos c]; exact h2'')⟩
  · exact ⟨_, rfl, z _ _ all (by unfold mx; rw [if_neg c]; exact h7)⟩
end Vk

namespace Vk
open PySem L2 Vm Vl
variable {l CB CR CV CE CT fB fR : Addr} {P : Program} {w : World} {K : PySem.W.Frag} {mg : Str → Option Value} {base : Heap} {k : Nat} {f f1 f2 f3 f4 f5 f6 f7 f8 f9 f10 f11 : Addr} {fd fd1 fd2 fd3 fd4 fd5 fd6 fd7 fd8 fd9 fd10 fd11 : FuncData}
abbrev s__law_laps_ok : Stmt := top 54
abbrev N__law_laps_ok : List Str := ["_law_args", "_law_told", "_law_goal", "_law_ahead"]
theorem sc__law_laps_ok : FnScope N__law_laps_ok ["_law_args", "_law_told"] (defScope s__law_laps_ok) := ⟨rfl, rfl, rfl, by decide +kernel, rfl, by decide +kernel, by decide +kernel⟩
abbrev ps__law_laps_ok : List Str := ["_law_args", "_law_told"]
def spLok (K : PySem.W.Frag) : Sp := fun vs H Q _ => ∃ (a : Addr) (xb xh xl xs xd xg : V) (x : A6) (g : Rat) (o : Option Int) (m : Nat), vs = [.ref a, lapV o] ∧ Ag K H a xb xh xl xs xd xg x g m ∧ Sm x ∧ m ≤ 1000 ∧ LapsOk x g o ∧ ∀ H', Same H H' → Q (.bl true) H'
theorem ok_laps_ok (T : Bn mg) (F : Fn K mg "_law_laps_ok" s__law_laps_ok ps__law_laps_ok f fd) (d_law_plus : Def P w K mg base k "_law_plus" ["_law_a", "_law_b"] (spOp2 K (· + ·)) f1 fd1) (d_law_times : Def P w K mg base k "_law_times" ["_law_a", "_law_b"] (spOp2 K (· * ·)) f2 fd2) (d_law_below : Def P w K mg base k "_law_below" ["_law_a", "_law_b"] (spTest2 K fun p q => .bl (decide (p < q))) f3 fd3)
    (d_law_is_int : Def P w K mg base k "_law_is_int" ["_law_value"] (spIsInt K) f4 fd4) (d_law_after : Def P w K mg base k "_law_after" ["_law_args", "_law_laps_here"] (spAft K) f5 fd5) : Def P w K mg base (k + 1) "_law_laps_ok" ps__law_laps_ok (spLok K) f fd := by
  refine ⟨F.F.ok sc__law_laps_ok (fun vs H Q E h => ?_) (fun cdv A outer s H vs Q E hr h => ?_), F.m, F.F.kp, F.b⟩
  · obtain ⟨_, _, _, _, _, _, _, _, _, _, _, rfl, _⟩ := h
    rfl
  obtain ⟨a, xb, xh, xl, xs, xd, xg, x, g, o, m, rfl, ⟨ha, L, hg, zg⟩, zm, hm, lo, z⟩ := h
  refine ⟨_, (pss_cons (ps_set (i := 2) sc__law_laps_ok.nd rfl (Or.inl rfl) (pe_ix ix_list (pv 0) pe_int (fun _ _ => rfl)))
      (pss_cons (ps_set (i := 3) sc__law_laps_ok.nd rfl (Or.inl rfl) (pcall d_law_plus hr (pa_cons (pe_ix ix_list (pv 0) pe_int (fun _ _ => rfl)) (pa_cons (pcall d_law_times hr (pa_cons (pe_ix ix_list (pv 0) pe_int (fun _ _ => rfl)) (pa_cons (pe_ix ix_list (pv 0) pe_int (fun _ _ => rfl)) pa_nil))) pa_nil))))
      (pss_cons (ps_if (pt_cmpR op_isN (pv 1) pe_non (nomark _))
        (pss_one (ps_ret (pe_and (pcall d_law_below hr (pa_cons (pv 2) (pa_cons (pe_ix ix_list (pv 0) pe_int (fun _ _ => rfl)) pa_nil))) (pe_one (pcall d_law_below hr (pa_cons (pv 2) (pa_cons (pv 3) pa_nil)))))))
        pss_nil)
      (pss_cons (ps_if (PW.pt (pw_or (pt_not (pt_val (pcall d_law_is_int hr (pa_cons (pv 1) pa_nil)))) (pw_or (pt_cmpR op_lt (pv 1) pe_int (nomark _)) (pw_or (pt_cmpR op_gt (pv 1) pe_int (nomark _)) (pw_or1 (pt_val (pcall d_law_below hr (pa_cons (pv 2) (pa_cons (pcall d_law_after hr (pa_cons (pv 0) (pa_cons (pv 1) pa_nil))) pa_nil)))))))))
        (pss_one (ps_ret pe_bl))
        pss_nil)
      (pss_cons (ps_if (PW.pt (pw_and (pt_cmpR op_gt (pv 1) pe_int (nomark _)) (pw_and1 (pt_not (pt_val (pcall d_law_below hr (pa_cons (pv 2) (pa_cons (pe_ix ix_list (pv 0) pe_int (fun _ _ => rfl)) pa_nil))))))))
        (pss_one (ps_ret pe_bl))
        pss_nil)
      (pss_one (ps_ret (pe_or (pe_cmpR op_lt (pv 1) pe_int (nomark _)) (pe_one (pcall d_law_below hr (pa_cons (pv 2) (pa_cons (pcall d_law_after hr (pa_cons (pv 0) (pa_cons (pe_op op_sub (pv 1) pe_int) pa_nil))) pa_nil)))))))))))), ?_⟩
  obtain ⟨zh, zl, zs, zd⟩ := id zm
  refine ⟨_, rfl, a, _, _, _, rfl, rfl, ha, at5 rfl, ?_⟩
  refine ⟨_, rfl, a, _, _, _, rfl, rfl, ha, at1 rfl, _, rfl, a, _, _, _, rfl, rfl, ha, at4 rfl, _, rfl, a, _, _, _, rfl, rfl, ha, at2 rfl, ?_⟩
  refine ⟨_, _, x.d, x.l, 25, 25, rfl, L.d, L.l, zd, zl, by decide, fun v1 H1 e1 h1 => ?_⟩
  refine ⟨_, _, x.h, x.d * x.l, 25, 50, rfl, L.h.same e1, h1, zh, zd.mul zl, by decide, fun v2 H2 e2 h2 => ?_⟩
  have e12 := e1.trans e2
  have h2 : Rq K H2 v2 (ahead x) := h2
  have ha := e12.seq ha
  have L := L.same e12
  have hg := hg.same e12
  have A2 : Ag K H2 a xb xh xl xs xd xg x g m := ⟨ha, L, hg, zg⟩
  cases o with
  | none =>
    obtain ⟨o1, o2⟩ := lo
    refine ⟨_, rfl, rfl, _, rfl, ifT rfl ?_⟩
    refine ⟨_, rfl, _, rfl, a, _, _, _, rfl, rfl, ha, at0 rfl, _, _, g, x.b, m, m, rfl, hg, L.b, zg, L.zb, by omega, _, rfl, ifT (dT o1) ?_⟩
    refine ⟨_, rfl, _, rfl, _, _, g, ahead x, m, 76, rfl, hg, h2, zg, sz_ahead zm, by omega, ?_⟩
    show Q (.bl (decide (g < ahead x))) H2
    rw [dT o2]
    exact z _ e12
  | some n =>
    obtain ⟨n0, n1, o1, o2, o3⟩ := lo
    refine ⟨_, rfl, rfl, _, rfl, ifF rfl ?_⟩
    refine ⟨_, rfl, n, rfl, _, rfl, ifF rfl ⟨_, rfl, _, _, rfl, rfl, _, rfl, ifF (dF (by omega)) ⟨_, rfl, _, _, rfl, rfl, _, rfl, ifF (dF (by omega)) ?_⟩⟩⟩
    refine ⟨_, rfl, _, rfl, _, rfl, a, xb, xh, xl, xs, xd, xg, x, g, n, m, rfl, A2, zm, hm, n0, by omega, fun v3 H3 e3 h3 => ?_⟩
    refine ⟨_, _, g, _, m, m + 90, rfl, hg.same e3, h3, zg, sz_after zm L.zb n0 (by omega), by omega, _, rfl, ifF (dF o1) ?_⟩
    have e13 := e12.trans e3
    have ha3 := e3.seq ha
    have rest : ∀ H', Same H3 H' → Q (.bl true) H' := fun H' e => z _ (e13.trans e)
    dsimp only [tNext]
    refine cut (fun σ' H' => σ' = [some (.ref a), some (.int n), some xg, some v2] ∧ H' = H3) ?_ ?_
    · rintro σ H' ⟨rfl, rfl⟩
      refine ⟨_, rfl, _, _, rfl, rfl, _, rfl, ifD (fun c => ?_) (fun c => ?_)⟩
      · exact rest _ (Same.refl _)
      · refine ⟨_, rfl, _, rfl, _, rfl, _, _, rfl, rfl, a, xb, xh, xl, xs, xd, xg, x, g, n - 1, m, rfl, A2.same e3, zm, hm, by omega, by omega, fun v4 H4 e4 h4 => ?_⟩
        refine ⟨_, _, g, _, m, m + 90, rfl, hg.same (e3.trans e4), h4, zg, sz_after zm L.zb (by omega) (by omega), by omega, ?_⟩
        show Q (.bl (decide (g < after x (n - 1)))) H4
        rw [dT (o3 (by omega))]
        exact rest _ e4
    · intro key
      refine ⟨_, rfl, _, _, rfl, rfl, _, rfl, ?_⟩
      by_cases c : 0 < n
      · refine ifT (dT c) ?_
        refine ⟨_, rfl, _, rfl, a, _, _, _, rfl, rfl, ha3, at0 rfl, _, _, g, x.b, m, m, rfl, hg.same e3, L.b.same e3, zg, L.zb, by omega, ?_⟩
        show ∃ b, V.bl (decide (g < x.b)) = .bl b ∧ _
        rw [dT (o2 c)]
        exact ⟨_, rfl, ifF rfl (key _ _ ⟨rfl, rfl⟩)⟩
      · exact ifF (dF c) (ifF rfl (key _ _ ⟨rfl, rfl⟩))
abbrev s__law_stays : Stmt := top 55
abbrev N__law_stays : List Str := ["_law_args", "_law_told", "_law_bound", "_law_k"]
theorem sc__law_stays : FnScope N__law_stays ["_law_args", "_law_told"] (defScope s__law_stays) := ⟨rfl, rfl, rfl, by decide +kernel, rfl, by decide +kernel, by decide +kernel⟩
abbrev ps__law_stays : List Str := ["_law_args", "_law_told"]
def spStays (K : PySem.W.Frag) : Sp := fun vs H Q _ => ∃ (a : Addr) (xb xh xl xs xd xg : V) (x : A6) (g : Rat) (n : Int) (m : Nat), vs = [.ref a, .int n] ∧ Ag K H a xb xh xl xs xd xg x g m ∧ Sm x ∧ m ≤ 700 ∧ Good x ∧ 0 ≤ n ∧ n ≤ 1000 ∧ ¬ g < after x n ∧ ∀ H', Same H H' → Q (.bl true) H'
theorem ok_stays (T : Bn mg) (F : Fn K mg "_law_stays" s__law_stays ps__law_stays f fd) (d_law_after : Def P w K mg base k "_law_after" ["_law_args", "_law_laps_here"] (spAft K) f1 fd1) (d_law_below : Def P w K mg base k "_law_below" ["_law_a", "_law_b"] (spTest2 K fun p q => .bl (decide (p < q))) f2 fd2) (d_law_plus : Def P w K mg base k "_law_plus" ["_law_a", "_law_b"] (spOp2 K (· + ·)) f3 fd3) (d_law_times : Def P w K mg base k "_law_times" ["_law_a", "_law_b"] (spOp2 K (· * ·)) f4 fd4)
    (d_law_next : Def P w K mg base k "_law_next" ["_law_args", "_law_bound"] (spNext K) f5 fd5) (d_law_same : Def P w K mg base k "_law_same" ["_law_value", "_law_due"] (spSame K 2) f6 fd6) : Def P w K mg base (k + 1) "_law_stays" ps__law_stays (spStays K) f fd := by
  refine ⟨F.F.ok sc__law_stays (fun vs H Q E h => ?_) (fun cdv A outer s H vs Q E hr h => ?_), F.m, F.F.kp, F.b⟩
  · obtain ⟨_, _, _, _, _, _, _, _, _, _, _, rfl, _⟩ := h
    rfl
  obtain ⟨a, xb, xh, xl, xs, xd, xg, x, g, n, m, rfl, A0, zm, hm, G, n0, n1, o1, z⟩ := h
  refine ⟨_, (pss_cons (ps_set (i := 2) sc__law_stays.nd rfl (Or.inl rfl) (pcall d_law_after hr (pa_cons (pv 0) (pa_cons (pv 1) pa_nil))))
      (pss_cons (ps_if (pt_val (pcall d_law_below hr (pa_cons (pe_ix ix_list (pv 0) pe_int (fun _ _ => rfl)) (pa_cons (pcall d_law_plus hr (pa_cons (pe_ix ix_list (pv 0) pe_int (fun _ _ => rfl)) (pa_cons (pcall d_law_times hr (pa_cons (pe_ix ix_list (pv 0) pe_int (fun _ _ => rfl)) (pa_cons (pe_ix ix_list (pv 0) pe_int (fun _ _ => rfl)) pa_nil))) pa_nil))) pa_nil))))
        (pss_one (ps_ret pe_bl))
        pss_nil)
      (pss_cons (ps_for PassesOwn.never rfl (pi_range1 (by rfl) T.range_ (pa_cons pe_int pa_nil)) (pg_name (i := 3) sc__law_stays.nd rfl (Or.inl rfl))
        (pss_cons (ps_set (i := 2) sc__law_stays.nd rfl (Or.inl rfl) (pcall d_law_next hr (pa_cons (pv 0) (pa_cons (pv 2) pa_nil))))
        (pss_one (ps_if (PW.pt (pw_or (pt_not (pt_val (pcall d_law_same hr (pa_cons (pv 2) (pa_cons (pcall d_law_after hr (pa_cons (pe_op op_cat (pe_lst (pa_cons (pcall d_law_after hr (pa_cons (pv 0) (pa_cons (pv 1) pa_nil))) pa_nil)) (pe_slice sl_list (pv 0) (po_some pe_int) po_none)) (pa_cons (pe_op op_add (pv 3) pe_int) pa_nil))) pa_nil))))) (pw_or1 (pt_val (pcall d_law_below hr (pa_cons (pe_ix ix_list (pv 0) pe_int (fun _ _ => rfl)) (pa_cons (pv 2) pa_nil)))))))
          (pss_one (ps_ret pe_bl))
          pss_nil))))
      (pss_one (ps_ret pe_bl))))), ?_⟩
  obtain ⟨zh, zl, zs, zd⟩ := id zm
  refine ⟨_, rfl, _, rfl, a, xb, xh, xl, xs, xd, xg, x, g, n, m, rfl, A0, zm, (by omega), n0, by omega, fun v1 H1 e1 h1 => ?_⟩
  have A1 := A0.same e1
  refine ⟨_, rfl, a, _, _, _, rfl, rfl, A1.q, at5 rfl, ?_⟩
  refine ⟨_, rfl, a, _, _, _, rfl, rfl, A1.q, at1 rfl, _, rfl, a, _, _, _, rfl, rfl, A1.q, at4 rfl, _, rfl, a, _, _, _, rfl, rfl, A1.q, at2 rfl, ?_⟩
  refine ⟨_, _, x.d, x.l, 25, 25, rfl, A1.v.d, A1.v.l, zd, zl, by decide, fun v2 H2 e2 h2 => ?_⟩
  refine ⟨_, _, x.h, x.d * x.l, 25, 50, rfl, A1.v.h.same e2, h2, zh, zd.mul zl, by decide, fun v3 H3 e3 h3 => ?_⟩
  have e23 := e2.trans e3
  have h3 : Rq K H3 v3 (ahead x) := h3
  refine ⟨_, _, g, ahead x, m, 76, rfl, A1.gq.same e23, h3, A1.z, sz_ahead zm, by omega, _, rfl, ifD (fun c => ?_) (fun c => ?_)⟩
  · exact z _ (e1.trans e23)
  have ah : ahead x ≤ g := Rat.not_lt.mp c
  have bg : after x n ≤ g := Rat.not_lt.mp o1
  have b0 := after_nn G n
  have zb := sz_after zm A0.v.zb n0 (by omega : n ≤ 1023)
  have h1 : Rq K H3 v1 (after x n) := h1.same e23
  have A3 := A1.same e23
  have z3 : ∀ H', Same H3 H' → Q (.bl true) H' := fun H' e => z _ ((e1.trans e23).trans e)
  obtain ⟨b, eb⟩ : ∃ b, after x n = b := ⟨_, rfl⟩
  rw [eb] at h1 bg b0 zb
  have G' : Good { x with b := b } := { G with b0 := b0 }
  have zi : ∀ i : Int, 0 ≤ i → i ≤ 1023 → Sz (m + 90 + 90) (after { x with b := b } i) := fun i h0 h1 => sz_after (x := { x with b := b }) zm zb h0 h1
  clear A1 A0 e1 e2 e3 e23 h2 h3 z o1
  refine ⟨3, rfl, by decide, by decide, for_range (n := 3) (fun i σ G => ∃ (v : V) (k3 : Option V), σ = [some (.ref a), some (.int n), some v, k3] ∧ Same H3 G ∧ Rq K G v (after { x with b := b } (i : Nat))) ⟨v1, none, rfl, Same.refl _, ?_⟩ ?_ ?_⟩
  · have : after { x with b := b } ((0 : Nat) : Int) = b := rfl
    rw [this]
    exact h1
  · rintro i σ G4 hi ⟨v, k3, rfl, s4, hv⟩
    have A4 := A3.same s4
    have zi' := zi (i : Nat) (by omega) (by omega)
    have L4 : L5 K G4 xb xh xl xs xd x (m + 90 + 90) := { A4.v with zb := A4.v.zb.mono (by omega), zh := A4.v.zh.mono (by omega), zl := A4.v.zl.mono (by omega), zs := A4.v.zs.mono (by omega), zd := A4.v.zd.mono (by omega) }
    have bi0 := after_nn G' ((i : Nat) : Int)
    refine ⟨_, rfl, _, rfl, a, xb, xh, xl, xs, xd, xg, v, x, g, _, m + 90 + 90, rfl, ⟨A4.q, L4, A4.gq, A4.z.mono (by omega)⟩, hv, zi', by omega, { G with b0 := bi0 }, fun v5 G5 e5 h5 => ?_⟩
    have en := after_next G b ((i : Nat) : Int) (by omega)
    rw [en] at h5
    have A5 := A4.same e5
    have h1' := h1.same (s4.trans e5)
    -- the law's own
    refine ⟨_, rfl, _, rfl, _, rfl, a, xb, xh, xl, xs, xd, xg, x, g, n, m, rfl, A5, zm, (by omega), n0, by omega, fun v6 G6 e6 h6 => ⟨sm1, fun p1 hp1 => ?_⟩⟩
    have c1 := same_new hp1 (.lst [v6])
    have A6' := (A5.same e6).same c1
    have h6' : Rq K (upd G6 p1 (.lst [v6])) v6 (after x n) := Rq.same c1 h6
    have hp1a : (upd G6 p1 (.lst [v6])) p1 = some (.lst [v6]) := upd_same
    have h5' : Rq K (upd G6 p1 (.lst [v6])) v5 _ := (Rq.same e6 h5).same c1
    generalize upd G6 p1 (.lst [v6]) = G7 at c1 A6' h6' hp1a h5' ⊢
    refine ⟨_, rfl, _, rfl, a, _, rfl, A6'.q, fun p2 hp2 => ?_⟩
    have c2 := same_new hp2 (.lst (cutV [xb, xh, xl, xs, xd, xg] (some 1) none))
    refine ⟨p1, p2, [v6], [xh, xl, xs, xd, xg], rfl, rfl, c2 _ _ hp1a, upd_same, sm6, fun p3 hp3 => ?_⟩
    have c3 := same_new hp3 (.lst ([v6] ++ [xh, xl, xs, xd, xg]))
    have hp3a : (upd (upd G7 p2 (.lst (cutV [xb, xh, xl, xs, xd, xg] (some 1) none))) p3 (.lst ([v6] ++ [xh, xl, xs, xd, xg]))) p3 = some (.lst [v6, xh, xl, xs, xd, xg]) := upd_same
    have A8 := A6'.same (c2.trans c3)
    have h6' := h6'.same (c2.trans c3)
    have h5' := h5'.same (c2.trans c3)
    generalize upd (upd G7 p2 (.lst (cutV [xb, xh, xl, xs, xd, xg] (some 1) none))) p3 (.lst ([v6] ++ [xh, xl, xs, xd, xg])) = G8 at c3 hp3a A8 h6' h5' ⊢
    rw [eb] at h6'
    have e38 : Same H3 G8 := (s4.trans (e5.trans (e6.trans c1))).trans (c2.trans c3)
    refine ⟨_, rfl, _, _, rfl, rfl, p3, v6, xh, xl, xs, xd, xg, { x with b := b }, g, _, m + 90, rfl, ⟨SqL.of hp3a, { A8.v with b := h6', zb := zb, zh := zh.mono (by omega), zl := zl.mono (by omega), zs := zs.mono (by omega), zd := zd.mono (by omega) }, A8.gq, A8.z.mono (by omega)⟩, zm, by omega, by omega, by omega, fun v9 G9 e9 h9 => ?_⟩
    have ei : (0 + (i : Int)) + 1 = (i : Int) + 1 := by omega
    rw [ei] at h9
    have h5'' := Rq.same e9 h5'
    refine ⟨_, _, _, rfl, h5''.dp, h9.dp, tree_dq 1 _, ⟨_, rfl, ifF rfl ?_⟩⟩
    have A9 := A8.same e9
    have zi2 := zi ((i : Int) + 1) (by omega) (by omega)
    refine ⟨_, rfl, a, _, _, _, rfl, rfl, A9.q, at5 rfl, _, rfl, _, _, g, _, m, m + 90 + 90, rfl, A9.gq, h5'', A9.z, zi2, by omega, _, rfl, ifF (dF (after_le G b bg ah _ (by omega))) ?_⟩
    exact ⟨v5, _, rfl, e38.trans e9, h5''⟩
  · rintro σ G4 ⟨v, k3, rfl, s4, hv⟩
    exact z3 _ s4
end Vk

namespace Vk
open PySem L2 Vm Vl
variable {l CB CR CV CE CT fB fR : Addr} {P : Program} {w : World} {K : PySem.W.Frag} {mg : Str → Option Value} {base : Heap} {k : Nat} {f f1 f2 f3 f4 f5 f6 f7 f8 f9 f10 f11 : Addr} {fd fd1 fd2 fd3 fd4 fd5 fd6 fd7 fd8 fd9 fd10 fd11 : FuncData}
theorem pss_on {X : Cx} {b : List Stmt} {p : Prop} {t : Addr → Option Addr → TS} (a : Addr) (d : Option Addr) (h : p → PSs X b (t a d)) : PSs X b (fun D σ H => p ∧ t a d D σ H) := ⟨fun pins s σ H D I w => (h w.1).run pins s σ H D I w.2⟩
theorem pss_if {X : Cx} {b : List Stmt} {p : Prop} {t : TS} (h : p → PSs X b t) : PSs X b (fun D σ H => p ∧ t D σ H) := ⟨fun pins s σ H D I w => (h w.1).run pins s σ H D I w.2⟩
/-- the classes that a law names -/
structure Cls (K : PySem.W.Frag) (mg : Str → Option Value) (CB CR CV CE CT : Addr) : Prop where
  eB : ExcC K CB
  eR : ExcC K CR
  gV : mg "VerdictError" = some (.ref CV)
  gE : mg "EmptySpan" = some (.ref CE)
  gT : mg "TurnsBack" = some (.ref CT)
  rb : PySem.W.exmOne K (.ref CR) (.ref CB) = some false
  bv : PySem.W.kitOne K (.ref CB) (.ref CV) = some true
  br : PySem.W.kitOne K (.ref CB) (.ref CR) = some false
  be : PySem.W.kitOne K (.ref CB) (.ref CE) = some false
  rv : PySem.W.kitOne K (.ref CR) (.ref CV) = some true
  rt : PySem.W.kitOne K (.ref CR) (.ref CT) = some false
  re : PySem.W.kitOne K (.ref CR) (.ref CE) = some false
theorem fault_only {x : A6} {b : Bool} {i : Nat} {W : Bool → Nat → Prop} (fa : Fa x b i) (h : W b i) : Fault x W := by
  refine ⟨fun c => ?_, fun c1 c => ?_, fun c1 c2 c => ?_, fun c1 c2 c3 c => ?_, fun c1 c2 c3 c4 c5 c => ?_⟩
  · obtain ⟨rfl, rfl⟩ := fa (fun b' i' => b' = true ∧ i' = 0) ⟨fun _ => ⟨rfl, rfl⟩, fun d => absurd d (Rat.not_le.mpr c), fun d => absurd d (Rat.not_le.mpr c), fun d => absurd d (Rat.not_le.mpr c), fun d => absurd d (Rat.not_le.mpr c)⟩
    exact h
  · obtain ⟨rfl, rfl⟩ := fa (fun b' i' => b' = true ∧ i' = 1) ⟨fun d => absurd c1 (Rat.not_le.mpr d), fun _ _ => ⟨rfl, rfl⟩, fun _ d => absurd d (Rat.not_le.mpr c), fun _ d => absurd d (Rat.not_le.mpr c), fun _ d => absurd d (Rat.not_le.mpr c)⟩
    exact h
  · obtain ⟨rfl, rfl⟩ := fa (fun b' i' => b' = true ∧ i' = 2) ⟨fun d => absurd c1 (Rat.not_le.mpr d), fun _ d => absurd c2 (Rat.not_le.mpr d), fun _ _ _ => ⟨rfl, rfl⟩, fun _ _ d => absurd d (Rat.not_lt.mpr c), fun _ _ d => absurd d (Rat.not_lt.mpr c)⟩
    exact h
  · have no : 0 < x.s → x.s < 1 → False := fun d1 d2 => by
      rcases c with c | c
      · exact absurd d1 (Rat.not_lt.mpr c)
      · exact absurd d2 (Rat.not_lt.mpr c)
    obtain ⟨rfl, rfl⟩ := fa (fun b' i' => b' = false ∧ i' = 3) ⟨fun d => absurd c1 (Rat.not_le.mpr d), fun _ d => absurd c2 (Rat.not_le.mpr d), fun _ _ d => absurd c3 (Rat.not_lt.mpr d), fun _ _ _ _ => ⟨rfl, rfl⟩, fun _ _ _ d1 d2 => (no d1 d2).elim⟩
    exact h
  · obtain ⟨rfl, rfl⟩ := fa (fun b' i' => b' = false ∧ i' = 4) ⟨fun d => absurd c1 (Rat.not_le.mpr d), fun _ d => absurd c2 (Rat.not_le.mpr d), fun _ _ d => absurd c3 (Rat.not_lt.mpr d), fun _ _ _ d => by
        rcases d with d | d
        · exact absurd c4 (Rat.not_lt.mpr d)
        · exact absurd c5 (Rat.not_lt.mpr d), fun _ _ _ _ _ _ => ⟨rfl, rfl⟩⟩
    exact h
theorem fa_bad {x : A6} {b : Bool} {i : Nat} (fa : Fa x b i) (G : Good x) : False := by
  obtain ⟨b0, h0, l0, s0, s1, d0, ds⟩ := G
  exact fa (fun _ _ => False) ⟨fun d => absurd b0 (Rat.not_le.mpr d), fun _ d => absurd h0 (Rat.not_le.mpr d), fun _ _ d => absurd l0 (Rat.not_lt.mpr d), fun _ _ _ d => by
    rcases d with d | d
    · exact absurd s0 (Rat.not_lt.mpr d)
    · exact absurd s1 (Rat.not_lt.mpr d), fun _ _ _ _ _ d => by
    rcases d with d | d
    · exact absurd d0 (Rat.not_le.mpr d)
    · exact absurd ds (Rat.not_lt.mpr d)⟩
/-- the suite of a clause: of the class C and its base, of neither of two others; a name and the value -/
def tSu (K : PySem.W.Frag) (C C1 C2 C3 : Addr) (nm : Str) : Addr → Value → Option Addr → TS := fun a cls d D σ H => cls = .ref C ∧
  tIfS (tAnd (tB (tCB (rIsG K C a d) (tCons (tVar 2) (tCons (tC (.ref C1)) tNil)))) (tAnd (tNot (tB (tCB (rIsG K C a d) (tCons (tVar 2) (tCons (tC (.ref C2)) tNil))))) (tNot (tB (tCB (rIsG K C a d) (tCons (tVar 2) (tCons (tC (.ref C3)) tNil)))))))
    (tAsg (tLst (tCons (tC (.str nm)) (tCons (tByVal C a (.ref C) d (tVar 2)) tNil))) (gName 1)) tNext D σ H
abbrev s__law_refused : Stmt := top 56
abbrev N__law_refused : List Str := ["_law_args", "_law_told", "e"]
theorem sc__law_refused : FnScope N__law_refused ["_law_args"] (defScope s__law_refused) := ⟨rfl, rfl, rfl, by decide +kernel, rfl, by decide +kernel, by decide +kernel⟩
abbrev ps__law_refused : List Str := ["_law_args"]
def spRef (K : PySem.W.Frag) : Sp := fun vs H Q _ => ∃ (a : Addr) (xb xh xl xs xd xg : V) (x : A6) (g : Rat) (m : Nat) (b : Bool) (i : Nat) (y : V), vs = [.ref a] ∧ Ag K H a xb xh xl xs xd xg x g m ∧ m ≤ 1500 ∧ Fa x b i ∧ [xb, xh, xl, xs, xd][i]? = some y ∧ ∀ D H', Same H H' → H' D = some (.lst [.str (faName b), y]) → Q (.ref D) H'
theorem ok_refused (T : Bn mg) (C : Cls K mg CB CR CV CE CT) (TB : PySem.ValX.ValTxt K mg "BadBound" CB fB) (TR : PySem.ValX.ValTxt K mg "BadRate" CR fR) (F : Fn K mg "_law_refused" s__law_refused ps__law_refused f fd) (d_law_laps : DefX P w K mg base k "_law_laps" ["_law_args"] (spLaps K CB CR) f1 fd1) :
    Def P w K mg base (k + 1) "_law_refused" ps__law_refused (spRef K) f fd := by
  refine ⟨F.F.ok sc__law_refused (fun vs H Q E h => ?_) (fun cdv A outer s H vs Q E hr h => ?_), F.m, F.F.kp, F.b⟩
  · obtain ⟨_, _, _, _, _, _, _, _, _, _, _, _, _, rfl, _⟩ := h
    rfl
  obtain ⟨a, xb, xh, xl, xs, xd, xg, x, g, m, b, i, y, rfl, A0, hm, fa, hy, z⟩ := h
  refine ⟨_, (pss_cons (ps_set (i := 1) sc__law_refused.nd rfl (Or.inl rfl) (pe_lst pa_nil))
      (pss_cons (ps_try_ases (W0 := fun _ _ _ _ => False) rfl rfl sc__law_refused.nd takes0
          (fun W pn xe tk _ => pss_one (ps_expr (pcallX d_law_laps hr tk (pa_cons (pv 0) pa_nil))))
          (AsOk.cons (i := 2) (ts := tSu K CB CV CR CE "BadBound") ⟨rfl, by decide, Or.inl TB.gC⟩ rfl rfl (fun a oe cls d pn hz hf => pss_if (p := cls = .ref CB) fun e => by
              subst e
              exact (pss_one (ps_if (PW.pt (pw_and (pt_val (pe_callB (call_isG C.eB hz hf) (by rfl) T.isinstance_ (by decide +kernel) (pa_cons (pv 2) (pa_cons (pe_glob (v := .ref CV) (u := .ref CV) (by rfl) C.gV rfl) pa_nil))))
                (pw_and (pt_not (pt_val (pe_callB (call_isG C.eB hz hf) (by rfl) T.isinstance_ (by decide +kernel) (pa_cons (pv 2) (pa_cons (pe_glob (v := .ref CR) (u := .ref CR) (by rfl) TR.gC rfl) pa_nil)))))
                (pw_and1 (pt_not (pt_val (pe_callB (call_isG C.eB hz hf) (by rfl) T.isinstance_ (by decide +kernel) (pa_cons (pv 2) (pa_cons (pe_glob (v := .ref CE) (u := .ref CE) (by rfl) C.gE rfl) pa_nil)))))))))
                (pss_one (ps_set (i := 1) sc__law_refused.nd rfl (Or.inl rfl) (pe_lst (pa_cons pe_str (pa_cons (pe_byVal TB hz hf (pv 2)) pa_nil)))))
                pss_nil)))
          (AsOk.cons (i := 2) (ts := tSu K CR CV CT CE "BadRate") ⟨rfl, by decide, Or.inl TR.gC⟩ rfl rfl (fun a oe cls d pn hz hf => pss_if (p := cls = .ref CR) fun e => by
              subst e
              exact (pss_one (ps_if (PW.pt (pw_and (pt_val (pe_callB (call_isG C.eR hz hf) (by rfl) T.isinstance_ (by decide +kernel) (pa_cons (pv 2) (pa_cons (pe_glob (v := .ref CV) (u := .ref CV) (by rfl) C.gV rfl) pa_nil))))
                (pw_and (pt_not (pt_val (pe_callB (call_isG C.eR hz hf) (by rfl) T.isinstance_ (by decide +kernel) (pa_cons (pv 2) (pa_cons (pe_glob (v := .ref CT) (u := .ref CT) (by rfl) C.gT rfl) pa_nil)))))
                (pw_and1 (pt_not (pt_val (pe_callB (call_isG C.eR hz hf) (by rfl) T.isinstance_ (by decide +kernel) (pa_cons (pv 2) (pa_cons (pe_glob (v := .ref CE) (u := .ref CE) (by rfl) C.gE rfl) pa_nil)))))))))
                (pss_one (ps_set (i := 1) sc__law_refused.nd rfl (Or.inl rfl) (pe_lst (pa_cons pe_str (pa_cons (pe_byVal TR hz hf (pv 2)) pa_nil)))))
                pss_nil)))
          AsOk.nil)))
      (pss_one (ps_ret (pv 1))))), ?_⟩
  refine ⟨Nat.zero_le _, fun D0 hD0 => ?_⟩
  have c0 := same_new hD0 (.lst [])
  have A1 := A0.same c0
  generalize upd H D0 (.lst []) = H1 at c0 A1 ⊢
  refine ⟨_, rfl, a, xb, xh, xl, xs, xd, xg, x, g, m, rfl, A1, hm, fun G => ?_, ?_⟩
  · exact (fa_bad fa G).elim
  · refine fault_only fa fun y' hy' d hd => ?_
    have ey : y' = y := Option.some.inj (hy'.symm.trans hy)
    subst ey
    have cd := same_new hd (.xd [(("value" : Str), y')])
    have c1 := c0.trans cd
    have hdat : (upd H1 d (.xd [(("value" : Str), y')])) d = some (.xd [(("value" : Str), y')]) := upd_same
    generalize upd H1 d (.xd [(("value" : Str), y')]) = H2 at c1 hdat ⊢
    cases b with
    | true =>
      refine ⟨true, TB.te, fun _ u hu => ⟨rfl, ?_⟩, nofun⟩
      refine ⟨_, rfl, .ref CV, .ref CV, true, rfl, .own _, .inr ⟨d, _, rfl, hdat⟩, C.bv, _, rfl, ifT rfl ?_⟩
      refine ⟨_, rfl, .ref CR, .ref CR, false, rfl, .own _, .inr ⟨d, _, rfl, hdat⟩, C.br, _, rfl, ifT rfl ?_⟩
      refine ⟨_, rfl, .ref CE, .ref CE, false, rfl, .own _, .inr ⟨d, _, rfl, hdat⟩, C.be, _, rfl, ifT rfl ?_⟩
      refine ⟨_, rfl, rfl, rfl, d, y', rfl, hdat, sz2, fun D hD => ?_⟩
      exact ⟨_, rfl, z D _ (c1.trans (same_new hD _)) upd_same⟩
    | false =>
      refine ⟨false, C.rb, nofun, fun _ => ⟨true, TR.te, fun _ u hu => ⟨rfl, ?_⟩, nofun⟩⟩
      refine ⟨_, rfl, .ref CV, .ref CV, true, rfl, .own _, .inr ⟨d, _, rfl, hdat⟩, C.rv, _, rfl, ifT rfl ?_⟩
      refine ⟨_, rfl, .ref CT, .ref CT, false, rfl, .own _, .inr ⟨d, _, rfl, hdat⟩, C.rt, _, rfl, ifT rfl ?_⟩
      refine ⟨_, rfl, .ref CE, .ref CE, false, rfl, .own _, .inr ⟨d, _, rfl, hdat⟩, C.re, _, rfl, ifT rfl ?_⟩
      refine ⟨_, rfl, rfl, rfl, d, y', rfl, hdat, sz2, fun D hD => ?_⟩
      exact ⟨_, rfl, z D _ (c1.trans (same_new hD _)) upd_same⟩
end Vk

namespace Vk
open PySem L2 Vm Vl
variable {l CB CR CV CE CT fB fR : Addr} {P : Program} {w : World} {K : PySem.W.Frag} {mg : Str → Option Value} {base : Heap} {k : Nat} {f f1 f2 f3 f4 f5 f6 f7 f8 f9 f10 f11 f12 : Addr} {fd fd1 fd2 fd3 fd4 fd5 fd6 fd7 fd8 fd9 fd10 fd11 fd12 : FuncData}
theorem good_fault {x : A6} {W : Bool → Nat → Prop} (G : Good x) : Fault x W := by
  obtain ⟨b0, h0, l0, s0, s1, d0, ds⟩ := G
  exact ⟨fun d => absurd b0 (Rat.not_le.mpr d), fun _ d => absurd h0 (Rat.not_le.mpr d), fun _ _ d => absurd l0 (Rat.not_lt.mpr d), fun _ _ _ d => by
    rcases d with d | d
    · exact absurd s0 (Rat.not_lt.mpr d)
    · exact absurd s1 (Rat.not_lt.mpr d), fun _ _ _ _ _ d => by
    rcases d with d | d
    · exact absurd d0 (Rat.not_le.mpr d)
    · exact absurd ds (Rat.not_lt.mpr d)⟩
def dLap : Option Int → PyData
  | none => .none
  | some n => .int n
theorem dp_lap {H : Hp} : ∀ o : Option Int, Dp K H (lapV o) (dLap o)
  | none => .non
  | some n => .int n
theorem tree_lap (n : Nat) : ∀ o : Option Int, Tree n (dLap o)
  | none => .non
  | some _ => .int _
theorem l5_item {H : Hp} {x0 x1 x2 x3 x4 y : V} {x : A6} {m i : Nat} (L : L5 K H x0 x1 x2 x3 x4 x m) (h : [x0, x1, x2, x3, x4][i]? = some y) : ∃ q, Rq K H y q := by
  have hi := (List.getElem?_eq_some_iff.mp h).1
  match i, hi, h with
  | 0, _, h => cases h; exact ⟨_, L.b⟩
  | 1, _, h => cases h; exact ⟨_, L.h⟩
  | 2, _, h => cases h; exact ⟨_, L.l⟩
  | 3, _, h => cases h; exact ⟨_, L.s⟩
  | 4, _, h => cases h; exact ⟨_, L.d⟩
theorem sh_name (b : Bool) : SeqAt.shaped (.str (faName b)) = true := by cases b <;> decide +kernel
theorem near_top {x : A6} {q : Rat} (h : x.b - q ≤ mkRat 1 7) (g : mkRat 1 2000 ≤ gain x) : x.b - q ≤ 1000 * gain x := by
  have e3 : mkRat 1 2000 * 2000 = 1 := by decide +kernel
  have e4 : mkRat 1 7 * 7 = 1 := by decide +kernel
  generalize mkRat 1 2000 = c at *
  generalize mkRat 1 7 = d at *
  grind
def spLaw (K : PySem.W.Frag) : Sp := fun vs H Q _ => ∃ (a : Addr) (ns : List Int), vs = [.ref a] ∧ SqL K H a (ns.map V.int) ∧ ns.length ≤ 63 ∧ ∀ H', Q (.bl true) H'
abbrev s_law : Stmt := top 57
abbrev N_law : List Str := ["_law_script", "_law_store_here", "_law_args", "_law_told", "_law_wrong", "_law_goal", "_law_more", "_law_near"]
theorem sc_law : FnScope N_law ["_law_script"] (defScope s_law) := ⟨rfl, rfl, rfl, by decide +kernel, rfl, by decide +kernel, by decide +kernel⟩
abbrev ps_law : List Str := ["_law_script"]
set_option maxHeartbeats 1000000 in
theorem ok_law (T : Bn mg) (F : Fn K mg "law" s_law ps_law f fd) (d_law_store : Def P w K mg base k "_law_store" ["_law_script"] (spStore K) f1 fd1) (d_law_case : ∀ l, Def P w K mg base k "_law_case" ["_law_store_here"] (spCa K l) f2 fd2) (d_law_laps : DefX P w K mg base k "_law_laps" ["_law_args"] (spLaps K CB CR) f3 fd3) (d_law_laps_ok : Def P w K mg base k "_law_laps_ok" ["_law_args", "_law_told"] (spLok K) f4 fd4)
    (d_law_stays : Def P w K mg base k "_law_stays" ["_law_args", "_law_told"] (spStays K) f5 fd5) (d_law_bad_lap : ∀ l, Def P w K mg base k "_law_bad_lap" ["_law_store_here"] (spBd K l) f6 fd6) (d_law_pick : ∀ l, Def P w K mg base k "_law_pick" ["_law_store_here", "_law_things"] (spPick K l) f7 fd7) (d_law_part : ∀ l, Def P w K mg base k "_law_part" ["_law_store_here"] (spDraw K l 5 anyQ) f8 fd8)
    (d_law_same : Def P w K mg base k "_law_same" ["_law_value", "_law_due"] (spSame K 2) f9 fd9) (d_law_refused : Def P w K mg base k "_law_refused" ["_law_args"] (spRef K) f10 fd10) (d_law_plus : Def P w K mg base k "_law_plus" ["_law_a", "_law_b"] (spOp2 K (· + ·)) f11 fd11) (d_law_minus : Def P w K mg base k "_law_minus" ["_law_a", "_law_b"] (spOp2 K (· - ·)) f12 fd12)
    {f13 : Addr} {fd13 : FuncData} (d_law_below : Def P w K mg base k "_law_below" ["_law_a", "_law_b"] (spTest2 K fun p q => .bl (decide (p < q))) f13 fd13) : Def P w K mg base (k + 1) "law" ps_law (spLaw K) f fd := by
  have d_law_case := Def.ex d_law_case
  have d_law_bad_lap := Def.ex d_law_bad_lap
  have d_law_pick := Def.ex d_law_pick
  have d_law_part := Def.ex d_law_part
  refine ⟨F.F.ok sc_law (fun vs H Q E h => ?_) (fun cdv A outer s H vs Q E hr h => ?_), F.m, F.F.kp, F.b⟩
  · obtain ⟨_, _, rfl, _⟩ := h
    rfl
  obtain ⟨a, ns, rfl, hS, hl, z⟩ := h
  refine ⟨_, (pss_cons (ps_set (i := 1) sc_law.nd rfl (Or.inl rfl) (pcall d_law_store hr (pa_cons (pv 0) pa_nil)))
      (pss_cons (ps_set (i := 2) sc_law.nd rfl (Or.inl rfl) (pcall d_law_case hr (pa_cons (pv 1) pa_nil)))
      (pss_cons (ps_set (i := 3) sc_law.nd rfl (Or.inl rfl) (pcallL d_law_laps hr (pa_cons (pv 2) pa_nil)))
      (pss_cons (ps_if (PW.pt (pw_or (pt_not (pt_val (pcall d_law_laps_ok hr (pa_cons (pv 2) (pa_cons (pv 3) pa_nil))))) (pw_or1 (PW.pt (pw_and (pt_cmpR op_notN (pv 3) pe_non (nomark _)) (pw_and1 (pt_not (pt_val (pcall d_law_stays hr (pa_cons (pv 2) (pa_cons (pv 3) pa_nil)))))))))))
        (pss_one (ps_ret pe_bl))
        pss_nil)
      (pss_cons (ps_set (i := 4) sc_law.nd rfl (Or.inl rfl) (pcall d_law_bad_lap hr (pa_cons (pv 1) pa_nil)))
      (pss_cons (ps_set (i := 5) sc_law.nd rfl (Or.inl rfl) (pcall d_law_pick hr (pa_cons (pv 1) (pa_cons (pe_lst (pa_cons (pcall d_law_part hr (pa_cons (pv 1) pa_nil)) (pa_cons (pe_tup (pa_cons pe_int (pa_cons pe_int pa_nil))) (pa_cons (pe_ix ix_tup (pv 4) pe_int (fun _ _ => rfl)) (pa_cons (pe_tup (pa_cons (pe_un un_neg pe_int) (pa_cons pe_int pa_nil))) pa_nil))))) pa_nil))))
      (pss_cons (ps_if (pt_not (pt_val (pcall d_law_same hr (pa_cons (pcall d_law_refused hr (pa_cons (pe_op op_cat (pe_callTy call_list_of (by rfl) T.list_ (by decide +kernel) (pa_cons (pe_slice sl_tup (pv 4) po_none (po_some pe_int)) pa_nil)) (pe_lst (pa_cons (pv 5) pa_nil))) pa_nil)) (pa_cons (pe_callTy call_list_of (by rfl) T.list_ (by decide +kernel) (pa_cons (pe_ix ix_tup (pv 4) pe_int (fun _ _ => rfl)) pa_nil)) pa_nil)))))
        (pss_one (ps_ret pe_bl))
        pss_nil)
      (pss_cons (ps_for PassesOwn.never rfl (pi_list (pe_lst (pa_cons (pe_ix ix_list (pv 2) pe_int (fun _ _ => rfl)) (pa_cons (pcall d_law_plus hr (pa_cons (pe_ix ix_list (pv 2) pe_int (fun _ _ => rfl)) (pa_cons (pe_tup (pa_cons pe_int (pa_cons pe_int pa_nil))) pa_nil))) (pa_cons (pcall d_law_minus hr (pa_cons (pe_ix ix_list (pv 2) pe_int (fun _ _ => rfl)) (pa_cons (pe_tup (pa_cons pe_int (pa_cons pe_int pa_nil))) pa_nil))) pa_nil))))) (pg_name (i := 6) sc_law.nd rfl (Or.inl rfl))
        (pss_cons (ps_set (i := 7) sc_law.nd rfl (Or.inl rfl) (pe_op op_cat (pe_slice sl_list (pv 2) po_none (po_some pe_int)) (pe_lst (pa_cons (pv 6) pa_nil))))
        (pss_one (ps_if (PW.pt (pw_or (pt_val (pcall d_law_below hr (pa_cons (pe_ix ix_list (pv 2) pe_int (fun _ _ => rfl)) (pa_cons (pv 6) pa_nil)))) (pw_or1 (pt_cmpR (op_eqD hr.units) (pv 6) (pe_ix ix_list (pv 2) pe_int (fun _ _ => rfl)) (nomark _)))))
          (pss_one (ps_if (pt_not (pt_val (pcall d_law_same hr (pa_cons (pcallL d_law_laps hr (pa_cons (pv 7) pa_nil)) (pa_cons pe_int pa_nil)))))
            (pss_one (ps_ret pe_bl))
            pss_nil))
          (pss_one (ps_if (pt_not (pt_val (pcall d_law_laps_ok hr (pa_cons (pv 7) (pa_cons (pcallL d_law_laps hr (pa_cons (pv 7) pa_nil)) pa_nil)))))
            (pss_one (ps_ret pe_bl))
            pss_nil))))))
      (pss_one (ps_ret (pcall d_law_same hr (pa_cons (pcallL d_law_laps hr (pa_cons (pv 2) pa_nil)) (pa_cons (pv 3) pa_nil))))))))))))), ?_⟩
  refine ⟨_, rfl, a, ns, rfl, hS, hl, fun s l H1 e1 _ S1 => ?_⟩
  refine ⟨_, rfl, l, s, rfl, S1, fun D H2 hDn nDs ca S2 e2 => ?_⟩
  obtain ⟨xb, xh, xl, xs, xd, xg, x, g, hD, L, hg, zg, zm, ⟨G, g2000, top⟩⟩ := ca
  clear e1 e2 hS S1
  have A0 : Ag K H2 D xb xh xl xs xd xg x g 260 := ⟨SqL.of hD, L, hg, zg⟩
  refine ⟨_, rfl, D, xb, xh, xl, xs, xd, xg, x, g, 260, rfl, A0, by decide, fun _ H3 e3 => ?_, good_fault G⟩
  have lo := laps_ok G top
  generalize eo : lapsP x g = o at lo
  have S3 := S2.same e3
  have A3 := A0.same e3
  have hD3 := e3 _ _ hD
  dsimp only [gName]
  refine cut (fun σ' G' => σ' = [some (.ref a), some (.ref s), some (.ref D), some (lapV o), none, none, none, none] ∧ Same H3 G') ?_ ?_
  · rintro σ H4 ⟨rfl, e4⟩
    have S4 := S3.same e4
    -- wrong arguments
    refine ⟨_, rfl, l, s, rfl, S4, fun vw H5 bd S5 e5 => ?_⟩
    have A5 : Ag K H5 D xb xh xl xs xd xg x g 260 := by
      have A4 := A3.same e4
      have hs := S4.some
      exact ⟨SqL.of (e5 _ _ (e4 _ _ hD3) nDs), A4.v.fr e5 hs, A4.gq.fr e5 hs, zg⟩
    have hD5 := e5 _ _ (e4 _ _ hD3) nDs
    have S5' := S5.some
    refine ⟨_, rfl, _, rfl, l, s, rfl, S5, fun v1 H6 q1 S6 e6 => ⟨sz2, fun t2 h2 => ?_⟩⟩
    have c2 := same_new h2 (.tup [.int 100, .int 1])
    have q2 : Qd K 40 anyQ (upd H6 t2 (.tup [.int 100, .int 1])) (.ref t2) := Qd.new 100 1 100 (by decide +kernel) (by decide +kernel) (by decide +kernel) trivial
    have q1 := q1.same c2
    have S7 := S6.same c2
    have bd7 : Bd K (upd H6 t2 (.tup [.int 100, .int 1])) vw := by
      obtain ⟨r, x0, x1, x2, x3, x4, t, y, x', b, i, rfl, h1, h2, h3, h4⟩ := bd
      exact ⟨r, x0, x1, x2, x3, x4, t, y, x', b, i, rfl, c2.sqt (sqt_fr e6 S5' h1), c2.sqt (sqt_fr e6 S5' h2), (h3.fr e6 S5').same c2, h4⟩
    have e57 := e6.trans (Fr.of c2)
    generalize upd H6 t2 (.tup [.int 100, .int 1]) = H7 at c2 q1 q2 S7 bd7 e57 ⊢
    obtain ⟨r, x0, x1, x2, x3, x4, t, y, x', b, i, rfl, hr7, ht7, L7, fa, hy⟩ := bd7
    refine ⟨_, rfl, r, _, _, _, rfl, rfl, hr7, at0 rfl, _, rfl, sz2, fun t4 h4 => ?_⟩
    have c4 := same_new h4 (.tup [.int (-1), .int 1])
    have q4 : Qd K 40 anyQ (upd H7 t4 (.tup [.int (-1), .int 1])) (.ref t4) := Qd.new (-1) 1 (-1) (by decide +kernel) (by decide +kernel) (by decide +kernel) trivial
    have q1 := q1.same c4; have q2 := q2.same c4; have S8 := S7.same c4
    replace hr7 := c4.sqt hr7; replace ht7 := c4.sqt ht7; replace L7 := L7.same c4
    have e58 := e57.trans (Fr.of c4)
    generalize upd H7 t4 (.tup [.int (-1), .int 1]) = H8 at c4 q1 q2 q4 S8 hr7 ht7 L7 e58 ⊢
    refine ⟨sm4, fun p hp => ?_⟩
    have cp := same_new hp (.lst [v1, .ref t2, x0, .ref t4])
    have S9 := S8.same cp
    refine ⟨l, s, p, _, rfl, S9, S8.ne hp, SqL.of upd_same, (by show 0 < 4; decide), (by show 4 < 2 ^ 32; decide), fun vg H10 hv S10 e10 => ?_⟩
    have qg : Qd K 40 anyQ H10 vg := by
      have i1 := (q1.imp (show 5 ≤ 40 by decide) fun _ h => h).same cp
      have i2 := q2.same cp
      have i4 := q4.same cp
      have i3 : Qd K 40 anyQ (upd H8 p (.lst [v1, .ref t2, x0, .ref t4])) x0 := ⟨_, (L7.b).same cp, L7.zb, trivial⟩
      refine Qd.fr e10 S9 ?_
      simp only [List.mem_cons, List.mem_nil_iff, or_false] at hv
      rcases hv with rfl | rfl | rfl | rfl <;> assumption
    obtain ⟨gq, rgq, zgq, _⟩ := qg
    have e810 := (Fr.of (s := s) cp).trans e10
    have hs8 := S8.some
    replace hr7 := sqt_fr e810 hs8 hr7; replace ht7 := sqt_fr e810 hs8 ht7; replace L7 := L7.fr e810 hs8
    have e510 := e58.trans e810
    have A10 : Ag K H10 D xb xh xl xs xd xg x g 260 := ⟨SqL.of (e510 _ _ hD5 nDs), A5.v.fr e510 S5', A5.gq.fr e510 S5', zg⟩
    have hD10 := e510 _ _ hD5 nDs
    clear q1 q2 q4 c2 c4 cp e6 e57 e58 e810 e510 A5 hD5 S7 S8 S9 e10 hv A3 A0 e3 e4 e5
    -- the refusal
    refine ⟨_, rfl, _, rfl, r, _, rfl, hr7, (show ¬ (HT.sIx 6 0 none = 0 ∧ HT.sIx 6 6 (some 5) = 6) by decide), fun p1 hp1 => ?_⟩
    have cv : cutV [x0, x1, x2, x3, x4, V.ref t] none (some 5) = [x0, x1, x2, x3, x4] := rfl
    rw [cv]
    have c1 := same_new hp1 (.tup [x0, x1, x2, x3, x4])
    have hp1a : SqT K (upd H10 p1 (.tup [x0, x1, x2, x3, x4])) p1 [x0, x1, x2, x3, x4] := SqT.of upd_same
    generalize upd H10 p1 (.tup [x0, x1, x2, x3, x4]) = H11 at c1 hp1a ⊢
    refine ⟨p1, _, rfl, .inr hp1a, fun p2 hp2 => ⟨_, rfl, sm1, fun p3 hp3 => ?_⟩⟩
    have c2 := same_new hp2 (.lst [x0, x1, x2, x3, x4])
    have c3 := same_new hp3 (.lst [vg])
    have hp2a : (upd H11 p2 (.lst [x0, x1, x2, x3, x4])) p2 = some (.lst [x0, x1, x2, x3, x4]) := upd_same
    refine ⟨p2, p3, _, _, rfl, rfl, c3 _ _ hp2a, upd_same, sm6, fun p4 hp4 => ?_⟩
    have c4 := same_new hp4 (.lst ([x0, x1, x2, x3, x4] ++ [vg]))
    have c14 := c1.trans (c2.trans (c3.trans c4))
    have hp4a : (upd (upd (upd H11 p2 (.lst [x0, x1, x2, x3, x4])) p3 (.lst [vg])) p4 (.lst ([x0, x1, x2, x3, x4] ++ [vg]))) p4 = some (.lst [x0, x1, x2, x3, x4, vg]) := upd_same
    generalize upd (upd (upd H11 p2 (.lst [x0, x1, x2, x3, x4])) p3 (.lst [vg])) p4 (.lst ([x0, x1, x2, x3, x4] ++ [vg])) = H14 at c4 c14 hp4a ⊢
    refine ⟨p4, x0, x1, x2, x3, x4, vg, x', gq, 40, b, i, y, rfl, ⟨SqL.of hp4a, L7.same c14, rgq.same c14, zgq⟩, by decide, fa, hy, fun Dr H15 e15 hDr => ?_⟩
    have c115 := c14.trans e15
    refine ⟨_, rfl, r, _, _, _, rfl, rfl, c115.sqt hr7, at5 rfl, t, _, rfl, .inr (c115.sqt ht7), fun p5 hp5 => ?_⟩
    have c5 := same_new hp5 (.lst [.str (faName b), y])
    have c116 := c115.trans c5
    have hDr' := c5 _ _ hDr
    have hp5a : (upd H15 p5 (.lst [.str (faName b), y])) p5 = some (.lst [.str (faName b), y]) := upd_same
    generalize upd H15 p5 (.lst [.str (faName b), y]) = H16 at c5 c116 hDr' hp5a ⊢
    obtain ⟨qy, hqy⟩ := l5_item (L7.same c116) hy
    have dA : DpAll K H16 [.str (faName b), y] [.str (faName b), dq qy] := .cons (.str _) (.cons hqy.dp .nil)
    refine ⟨_, _, .list [.str (faName b), dq qy], rfl, .lst (SqL.of hDr') dA, .lst (SqL.of hp5a) dA, .lst (by show 2 ≤ 1000; decide) (fun d hd => ?_), ⟨_, rfl, ifF rfl ?_⟩⟩
    · simp only [List.mem_cons, List.mem_nil_iff, or_false] at hd
      rcases hd with rfl | rfl
      · exact .str (sh_name b)
      · exact tree_dq 0 _
    -- near goals
    have A16 := A10.same c116
    have hD16 := c116 _ _ hD10
    clear dA hqy c116 c5 hDr' hp5a c115 c14 c4 c3 c2 c1 hDr e15 hp4a hp2a hp1a L7 hr7 ht7 A10 hD10 rgq
    refine ⟨_, rfl, D, _, _, _, rfl, rfl, A16.q, at0 rfl, _, rfl, D, _, _, _, rfl, rfl, A16.q, at0 rfl, sz2, fun t5 ht5 => ?_⟩
    have k5 := same_new ht5 (.tup [.int 1, .int 7])
    have r5 : Rq K (upd H16 t5 (.tup [.int 1, .int 7])) (.ref t5) (mkRat 1 7) := rq_new 1 7 _ (by decide +kernel) (by decide +kernel)
    have z7 : Sz 3 (mkRat 1 7) := by decide +kernel
    have A17 := A16.same k5
    generalize upd H16 t5 (.tup [.int 1, .int 7]) = H17 at k5 r5 A17 ⊢
    refine ⟨_, _, x.b, mkRat 1 7, 260, 3, rfl, A17.v.b, r5, A17.v.zb, z7, by decide, fun m1 H18 f18 hm1 => ?_⟩
    have A18 := A17.same f18
    refine ⟨_, rfl, D, _, _, _, rfl, rfl, A18.q, at0 rfl, sz2, fun t6 ht6 => ?_⟩
    have k6 := same_new ht6 (.tup [.int 1, .int 7])
    have r6 : Rq K (upd H18 t6 (.tup [.int 1, .int 7])) (.ref t6) (mkRat 1 7) := rq_new 1 7 _ (by decide +kernel) (by decide +kernel)
    have A19 := A18.same k6
    generalize upd H18 t6 (.tup [.int 1, .int 7]) = H19 at k6 r6 A19 ⊢
    refine ⟨_, _, x.b, mkRat 1 7, 260, 3, rfl, A19.v.b, r6, A19.v.zb, z7, by decide, fun m2 H20 f20 hm2 => ⟨sm3, fun p6 hp6 => ?_⟩⟩
    have k7 := same_new hp6 (.lst [xb, m1, m2])
    have A21 := (A19.same f20).same k7
    have hD21 := (k5.trans (f18.trans (k6.trans (f20.trans k7)))) _ _ hD16
    have d7 : 0 ≤ mkRat 1 7 := by decide +kernel
    have items : ∀ (j : Nat) v, [xb, m1, m2][j]? = some v → ∃ q, Rq K (upd H20 p6 (.lst [xb, m1, m2])) v q ∧ Sz 264 q ∧ x.b - q ≤ mkRat 1 7 := fun j v hv => by
      have hj := (List.getElem?_eq_some_iff.mp hv).1
      match j, hj, hv with
      | 0, _, h => cases h; exact ⟨_, A21.v.b, A21.v.zb.mono (by decide), by grind⟩
      | 1, _, h => cases h; exact ⟨_, Rq.same (k6.trans (f20.trans k7)) hm1, A21.v.zb.add z7, by grind⟩
      | 2, _, h => cases h; exact ⟨_, Rq.same k7 hm2, A21.v.zb.sub z7, by grind⟩
    have hp6a : (upd H20 p6 (.lst [xb, m1, m2])) p6 = some (.lst [xb, m1, m2]) := upd_same
    generalize upd H20 p6 (.lst [xb, m1, m2]) = H21 at A21 hD21 items hp6a ⊢
    refine ⟨p6, rfl, ⟨_, SqL.of hp6a⟩, for_list (K := K) (a := p6) (xs := [xb, m1, m2]) (fun i σ G' => ∃ k6 k7, σ = [some (.ref a), some (.ref s), some (.ref D), some (lapV o), some (.ref r), some vg, k6, k7] ∧ Same H21 G') ⟨none, none, rfl, Same.refl _⟩ (fun i σ G' _ h => by obtain ⟨_, _, _, s1⟩ := h; exact SqL.of (s1 _ _ hp6a)) ?_ ?_⟩
    · rintro j v σ G1 hj ⟨k6', k7', rfl, sg⟩
      obtain ⟨q, hq, zq, near⟩ := items j v hj
      have hq := hq.same sg
      have A1 := A21.same sg
      have hD1 := sg _ _ hD21
      refine ⟨_, rfl, _, rfl, D, _, rfl, SqL.of hD1, fun p7 hp7 => ⟨_, rfl, sm1, fun p8 hp8 => ?_⟩⟩
      have c7 := same_new hp7 (.lst (cutV [xb, xh, xl, xs, xd, xg] none (some 5)))
      have c8 := same_new hp8 (.lst [v])
      refine ⟨p7, p8, [xb, xh, xl, xs, xd], [v], rfl, rfl, c8 _ _ upd_same, upd_same, sm6, fun p9 hp9 => ?_⟩
      have c9 := same_new hp9 (.lst ([xb, xh, xl, xs, xd] ++ [v]))
      have c79 := c7.trans (c8.trans c9)
      have hp9a : (upd (upd (upd G1 p7 (.lst (cutV [xb, xh, xl, xs, xd, xg] none (some 5)))) p8 (.lst [v])) p9 (.lst ([xb, xh, xl, xs, xd] ++ [v]))) p9 = some (.lst [xb, xh, xl, xs, xd, v]) := upd_same
      have A2 := A1.same c79
      have hq2 := hq.same c79
      generalize upd (upd (upd G1 p7 (.lst (cutV [xb, xh, xl, xs, xd, xg] none (some 5)))) p8 (.lst [v])) p9 (.lst ([xb, xh, xl, xs, xd] ++ [v])) = G2 at c9 c79 hp9a A2 hq2 ⊢
      have sg2 := sg.trans c79
      have An : Ag K G2 p9 xb xh xl xs xd v x q 264 := ⟨SqL.of hp9a, { A2.v with zb := A2.v.zb.mono (by decide), zh := A2.v.zh.mono (by decide), zl := A2.v.zl.mono (by decide), zs := A2.v.zs.mono (by decide), zd := A2.v.zd.mono (by decide) }, hq2, zq⟩
      refine ⟨_, rfl, D, _, _, _, rfl, rfl, A2.q, at0 rfl, _, rfl, _, _, x.b, q, 260, 264, rfl, A2.v.b, hq2, A2.v.zb, zq, by decide, _, rfl, ?_⟩
      refine ifD (fun c => ifT rfl ?_) (fun c => ?_)
      · have le : x.b ≤ q := by grind
        refine ⟨_, rfl, p9, xb, xh, xl, xs, xd, v, x, q, 264, rfl, An, by decide, fun _ G3 e3 => ?_, good_fault G⟩
        have e0 : lapsP x q = some 0 := by unfold lapsP; rw [if_pos le]
        rw [e0]
        exact ⟨_, _, .int 0, rfl, .int 0, .int 0, .int 0, ⟨_, rfl, ifF rfl ⟨_, _, rfl, sg2.trans e3⟩⟩⟩
      · refine ⟨_, rfl, _, rfl, D, _, _, _, rfl, rfl, A2.q, at0 rfl, _, _, hq2.dp, A2.v.b.dp, sh_dq _, sh_dq _, _, rfl, ?_⟩
        rw [eqv_dq]
        by_cases c2 : q = x.b
        · have le : x.b ≤ q := by grind
          refine ifT (dT c2) ?_
          refine ⟨_, rfl, p9, xb, xh, xl, xs, xd, v, x, q, 264, rfl, An, by decide, fun _ G3 e3 => ?_, good_fault G⟩
          have e0 : lapsP x q = some 0 := by unfold lapsP; rw [if_pos le]
          rw [e0]
          exact ⟨_, _, .int 0, rfl, .int 0, .int 0, .int 0, ⟨_, rfl, ifF rfl ⟨_, _, rfl, sg2.trans e3⟩⟩⟩
        · refine ifF (dF c2) ?_
          have lo2 := laps_ok (g := q) G (.inl (near_top near g2000))
          refine ⟨_, rfl, _, rfl, p9, xb, xh, xl, xs, xd, v, x, q, 264, rfl, An, by decide, fun _ G3 e3 => ?_, good_fault G⟩
          exact ⟨p9, xb, xh, xl, xs, xd, v, x, q, _, 264, rfl, An.same e3, zm, by decide, lo2, fun G4 e4 => ⟨_, rfl, ifF rfl ⟨_, _, rfl, sg2.trans (e3.trans e4)⟩⟩⟩
    · rintro σ G1 ⟨k6', k7', rfl, sg⟩
      refine ⟨_, rfl, D, xb, xh, xl, xs, xd, xg, x, g, 260, rfl, A21.same sg, by decide, fun _ G2 e2 => ?_, good_fault G⟩
      rw [eo]
      exact ⟨_, rfl, _, _, _, rfl, dp_lap o, dp_lap o, tree_lap 2 o, z _⟩
  · intro key
    try rw [eo]
    refine ⟨_, rfl, _, rfl, D, xb, xh, xl, xs, xd, xg, x, g, o, 260, rfl, A3, zm, by decide, lo, fun H4 e4 => ⟨_, rfl, ifF rfl ?_⟩⟩
    cases o with
    | none => exact ⟨_, rfl, rfl, _, rfl, ifF rfl (ifF rfl (key _ _ ⟨rfl, e4⟩))⟩
    | some n =>
      obtain ⟨n0, n1, o1, _, _⟩ := lo
      exact ⟨_, rfl, rfl, _, rfl, ifT rfl ⟨_, rfl, _, rfl, D, xb, xh, xl, xs, xd, xg, x, g, n, 260, rfl, A3.same e4, zm, by decide, G, n0, n1, o1, fun H5 e5 => ⟨_, rfl, ifF rfl (key _ _ ⟨rfl, e4.trans e5⟩)⟩⟩⟩
end Vk
namespace Vk
open PySem L2 Vm Vl
variable {K : PySem.W.Frag} {mg : Str → Option Value}
abbrev CnZERO (K : PySem.W.Frag) (mg : Str → Option Value) (a : Addr) := Cn K mg "ZERO" 0 a
abbrev CnONE (K : PySem.W.Frag) (mg : Str → Option Value) (a : Addr) := Cn K mg "ONE" 1 a
theorem cnZERO {a : Addr} (m : mg "ZERO" = some (.ref a)) (h : ∀ H, SqT K H a [.int 0, .int 1]) : CnZERO K mg a := ⟨m, fun H => ⟨a, rfl, by rw [show (0 : Rat).num = 0 by decide +kernel, show ((0 : Rat).den : Int) = 1 by decide +kernel]; exact h H⟩⟩
theorem cnONE {a : Addr} (m : mg "ONE" = some (.ref a)) (h : ∀ H, SqT K H a [.int 1, .int 1]) : CnONE K mg a := ⟨m, fun H => ⟨a, rfl, by rw [show (1 : Rat).num = 1 by decide +kernel, show ((1 : Rat).den : Int) = 1 by decide +kernel]; exact h H⟩⟩
end Vk

namespace Vk
open PySem PySem.Calls PySem.HandSPX L2 Vm Vl

theorem law_ok {P : Program} {w : World} {K : PySem.W.Frag} {mg : Str → Option Value} {base : Heap} {f_rational : Addr} {fd_rational : FuncData} {f_add : Addr} {fd_add : FuncData} {f_subtract : Addr} {fd_subtract : FuncData} {f_multiply : Addr} {fd_multiply : FuncData} {f_negate : Addr} {fd_negate : FuncData} {f_divide : Addr} {fd_divide : FuncData} {f_compare : Addr} {fd_compare : FuncData} {f_larger : Addr} {fd_larger : FuncData} {f_floor_of : Addr} {fd_floor_of : FuncData} {f_require_not_below_zero : Addr} {fd_require_not_below_zero : FuncData} {f__require_slew_and_drift : Addr} {fd__require_slew_and_drift : FuncData} {f__require_lap : Addr} {fd__require_lap : FuncData} {f__bound_behind : Addr} {fd__bound_behind : FuncData} {f_bound_after : Addr} {fd_bound_after : FuncData} {f_laps_until : Addr} {fd_laps_until : FuncData} {f__law_store : Addr} {fd__law_store : FuncData} {f__law_feed : Addr} {fd__law_feed : FuncData} {f__law_mixed : Addr} {fd__law_mixed : FuncData} {f__law_take : Addr} {fd__law_take : FuncData} {f__law_pick : Addr} {fd__law_pick : FuncData} {f__law_size : Addr} {fd__law_size : FuncData} {f__law_is_int : Addr} {fd__law_is_int : FuncData} {f__law_same : Addr} {fd__law_same : FuncData} {f__law_frac : Addr} {fd__law_frac : FuncData} {f__law_plus : Addr} {fd__law_plus : FuncData} {f__law_minus : Addr} {fd__law_minus : FuncData} {f__law_times : Addr} {fd__law_times : FuncData} {f__law_below : Addr} {fd__law_below : FuncData} {f__law_part : Addr} {fd__law_part : FuncData} {f__law_spare : Addr} {fd__law_spare : FuncData} {f__law_above : Addr} {fd__law_above : FuncData} {f__law_slews : Addr} {fd__law_slews : FuncData} {f__law_negative : Addr} {fd__law_negative : FuncData} {f__law_not_above : Addr} {fd__law_not_above : FuncData} {f__law_bad_slew : Addr} {fd__law_bad_slew : FuncData} {f__law_bad_drift : Addr} {fd__law_bad_drift : FuncData} {f__law_bad_lap : Addr} {fd__law_bad_lap : FuncData} {f__law_case : Addr} {fd__law_case : FuncData} {f__law_after : Addr} {fd__law_after : FuncData} {f__law_laps : Addr} {fd__law_laps : FuncData} {f__law_next : Addr} {fd__law_next : FuncData} {f__law_laps_ok : Addr} {fd__law_laps_ok : FuncData} {f__law_stays : Addr} {fd__law_stays : FuncData} {f__law_refused : Addr} {fd__law_refused : FuncData} {f_law : Addr} {fd_law : FuncData} (T : Bn mg) {aZERO : Addr} (ZZERO : CnZERO K mg aZERO) {aONE : Addr} (ZONE : CnONE K mg aONE)
    (h_rational : FunA K "rational" "rational" s_rational f_rational fd_rational) (m_rational : mg "rational" = some (.ref f_rational)) (b_rational : Binds K fd_rational ps_rational [])
    {C_BadBound fi_BadBound : Addr}
    {C_BadRate fi_BadRate : Addr}
    {C_VerdictError : Addr}
    {C_EmptySpan : Addr}
    {C_TurnsBack : Addr}
    (TBadBound : PySem.ValX.ValTxt K mg "BadBound" C_BadBound fi_BadBound)
    (TBadRate : PySem.ValX.ValTxt K mg "BadRate" C_BadRate fi_BadRate)
    (EBadBound : ExcC K C_BadBound)
    (EBadRate : ExcC K C_BadRate)
    (GVerdictError : mg "VerdictError" = some (.ref C_VerdictError))
    (GEmptySpan : mg "EmptySpan" = some (.ref C_EmptySpan))
    (GTurnsBack : mg "TurnsBack" = some (.ref C_TurnsBack))
    (Ie_BadRate_BadBound : PySem.W.exmOne K (.ref C_BadRate) (.ref C_BadBound) = some false)
    (Ik_BadBound_VerdictError : PySem.W.kitOne K (.ref C_BadBound) (.ref C_VerdictError) = some true)
    (Ik_BadBound_BadRate : PySem.W.kitOne K (.ref C_BadBound) (.ref C_BadRate) = some false)
    (Ik_BadBound_EmptySpan : PySem.W.kitOne K (.ref C_BadBound) (.ref C_EmptySpan) = some false)
    (Ik_BadRate_VerdictError : PySem.W.kitOne K (.ref C_BadRate) (.ref C_VerdictError) = some true)
    (Ik_BadRate_TurnsBack : PySem.W.kitOne K (.ref C_BadRate) (.ref C_TurnsBack) = some false)
    (Ik_BadRate_EmptySpan : PySem.W.kitOne K (.ref C_BadRate) (.ref C_EmptySpan) = some false)
    (h_bound_after : FnK K mg "bound_after" s_bound_after f_bound_after fd_bound_after) (kb_bound_after : KBn K fd_bound_after ps_bound_after 2 ["lap", "slew", "drift"] (fun us ws => us ++ ws) (fun vs zs => vs ++ zs))
    (h_laps_until : FnK K mg "laps_until" s_laps_until f_laps_until fd_laps_until) (kb_laps_until : KBn K fd_laps_until ps_laps_until 3 ["lap", "slew", "drift"] (fun us ws => us ++ ws) (fun vs zs => vs ++ zs))
    (h_add : Fn K mg "add" s_add ps_add f_add fd_add)
    (h_subtract : Fn K mg "subtract" s_subtract ps_subtract f_subtract fd_subtract)
    (h_multiply : Fn K mg "multiply" s_multiply ps_multiply f_multiply fd_multiply)
    (h_negate : Fn K mg "negate" s_negate ps_negate f_negate fd_negate)
    (h_divide : Fn K mg "divide" s_divide ps_divide f_divide fd_divide)
    (h_compare : Fn K mg "compare" s_compare ps_compare f_compare fd_compare)
    (h_larger : Fn K mg "larger" s_larger ps_larger f_larger fd_larger)
    (h_floor_of : Fn K mg "floor_of" s_floor_of ps_floor_of f_floor_of fd_floor_of)
    (h_require_not_below_zero : Fn K mg "require_not_below_zero" s_require_not_below_zero ps_require_not_below_zero f_require_not_below_zero fd_require_not_below_zero)
    (h__require_slew_and_drift : Fn K mg "_require_slew_and_drift" s__require_slew_and_drift ps__require_slew_and_drift f__require_slew_and_drift fd__require_slew_and_drift)
    (h__require_lap : Fn K mg "_require_lap" s__require_lap ps__require_lap f__require_lap fd__require_lap)
    (h__bound_behind : Fn K mg "_bound_behind" s__bound_behind ps__bound_behind f__bound_behind fd__bound_behind)
    (h__law_store : Fn K mg "_law_store" s__law_store ps__law_store f__law_store fd__law_store)
    (h__law_feed : Fn K mg "_law_feed" s__law_feed ps__law_feed f__law_feed fd__law_feed)
    (h__law_mixed : Fn K mg "_law_mixed" s__law_mixed ps__law_mixed f__law_mixed fd__law_mixed)
    (h__law_take : Fn K mg "_law_take" s__law_take ps__law_take f__law_take fd__law_take)
    (h__law_pick : Fn K mg "_law_pick" s__law_pick ps__law_pick f__law_pick fd__law_pick)
    (h__law_size : Fn K mg "_law_size" s__law_size ps__law_size f__law_size fd__law_size)
    (h__law_is_int : Fn K mg "_law_is_int" s__law_is_int ps__law_is_int f__law_is_int fd__law_is_int)
    (h__law_same : Fn K mg "_law_same" s__law_same ps__law_same f__law_same fd__law_same)
    (h__law_frac : Fn K mg "_law_frac" s__law_frac ps__law_frac f__law_frac fd__law_frac)
    (h__law_plus : Fn K mg "_law_plus" s__law_plus ps__law_plus f__law_plus fd__law_plus)
    (h__law_minus : Fn K mg "_law_minus" s__law_minus ps__law_minus f__law_minus fd__law_minus)
    (h__law_times : Fn K mg "_law_times" s__law_times ps__law_times f__law_times fd__law_times)
    (h__law_below : Fn K mg "_law_below" s__law_below ps__law_below f__law_below fd__law_below)
    (h__law_part : Fn K mg "_law_part" s__law_part ps__law_part f__law_part fd__law_part)
    (h__law_spare : Fn K mg "_law_spare" s__law_spare ps__law_spare f__law_spare fd__law_spare)
    (h__law_above : Fn K mg "_law_above" s__law_above ps__law_above f__law_above fd__law_above)
    (h__law_slews : Fn K mg "_law_slews" s__law_slews ps__law_slews f__law_slews fd__law_slews)
    (h__law_negative : Fn K mg "_law_negative" s__law_negative ps__law_negative f__law_negative fd__law_negative)
    (h__law_not_above : Fn K mg "_law_not_above" s__law_not_above ps__law_not_above f__law_not_above fd__law_not_above)
    (h__law_bad_slew : Fn K mg "_law_bad_slew" s__law_bad_slew ps__law_bad_slew f__law_bad_slew fd__law_bad_slew)
    (h__law_bad_drift : Fn K mg "_law_bad_drift" s__law_bad_drift ps__law_bad_drift f__law_bad_drift fd__law_bad_drift)
    (h__law_bad_lap : Fn K mg "_law_bad_lap" s__law_bad_lap ps__law_bad_lap f__law_bad_lap fd__law_bad_lap)
    (h__law_case : Fn K mg "_law_case" s__law_case ps__law_case f__law_case fd__law_case)
    (h__law_after : Fn K mg "_law_after" s__law_after ps__law_after f__law_after fd__law_after)
    (h__law_laps : Fn K mg "_law_laps" s__law_laps ps__law_laps f__law_laps fd__law_laps)
    (h__law_next : Fn K mg "_law_next" s__law_next ps__law_next f__law_next fd__law_next)
    (h__law_laps_ok : Fn K mg "_law_laps_ok" s__law_laps_ok ps__law_laps_ok f__law_laps_ok fd__law_laps_ok)
    (h__law_stays : Fn K mg "_law_stays" s__law_stays ps__law_stays f__law_stays fd__law_stays)
    (h__law_refused : Fn K mg "_law_refused" s__law_refused ps__law_refused f__law_refused fd__law_refused)
    (h_law : Fn K mg "law" s_law ps_law f_law fd_law)
    : FnOk P w K mg base CX0 9 f_law fd_law ps_law (spLaw K) := by
  have CL : Cls K mg C_BadBound C_BadRate C_VerdictError C_EmptySpan C_TurnsBack := ⟨EBadBound, EBadRate, GVerdictError, GEmptySpan, GTurnsBack, Ie_BadRate_BadBound, Ik_BadBound_VerdictError, Ik_BadBound_BadRate, Ik_BadBound_EmptySpan, Ik_BadRate_VerdictError, Ik_BadRate_TurnsBack, Ik_BadRate_EmptySpan⟩
  have rational := ok_rational (P := P) (w := w) (base := base) (k := 0) T h_rational m_rational b_rational
  have add := ok_add (P := P) (w := w) (base := base) (k := 0) T h_add
  have negate := ok_negate (P := P) (w := w) (base := base) (k := 0) h_negate
  have compare := ok_compare (P := P) (w := w) (base := base) (k := 0) h_compare
  have subtract := ok_subtract h_subtract add negate
  have multiply := ok_multiply h_multiply rational
  have divide := ok_divide h_divide rational
  have larger := ok_larger h_larger compare
  have floor_of := ok_floor_of (P := P) (w := w) (base := base) (k := 0) h_floor_of
  have notb := ok_not_below ZZERO TBadBound h_require_not_below_zero compare
  have slewd := ok_slew_drift ZZERO ZONE TBadRate h__require_slew_and_drift compare
  have reql := ok_require_lap ZZERO TBadBound h__require_lap notb (compare.up (by decide)) slewd
  have behind := ok_bound_behind h__bound_behind larger subtract multiply (add.up (by decide))
  have bafter := ok_bound_after h_bound_after kb_bound_after reql behind
  have luntil := ok_laps_until h_laps_until kb_laps_until reql (compare.up (by decide)) (add.up (by decide)) (multiply.up (by decide)) (subtract.up (by decide)) (floor_of.up (by decide)) (divide.up (by decide))
  have store := ok_store (P := P) (w := w) (base := base) (k := 0) T h__law_store
  have mixed := fun l => ok_mixed (l := l) (P := P) (w := w) (base := base) (k := 0) T h__law_mixed
  have feed := fun l => ok_feed (l := l) (P := P) (w := w) (base := base) (k := 0) T h__law_feed
  have take := fun l => ok_take T h__law_take (feed l) (mixed l)
  have pick := fun l => ok_pick T h__law_pick (take l)
  have size := fun l => ok_size h__law_size (take l)
  have is_int := ok_is_int (P := P) (w := w) (base := base) (k := 0) T h__law_is_int
  have same := ok_same T h__law_same is_int 2
  have frac := ok_frac (P := P) (w := w) (base := base) (k := 0) T h__law_frac
  have plus := ok_plus h__law_plus frac
  have minus := ok_minus h__law_minus frac
  have times := ok_times h__law_times frac
  have below := ok_below (P := P) (w := w) (base := base) (k := 0) h__law_below
  have part := fun l => ok_part h__law_part ((take l).up (by decide)) (pick l) (frac.up (by decide))
  have above := fun l => ok_above6 h__law_above (take l) (frac.up (by decide))
  have spare := fun l => ok_spareN h__law_spare (take l) (frac.up (by decide))
  have slews := fun l => ok_slews h__law_slews (take l) (frac.up (by decide)) times
  have negative := fun l => ok_negative h__law_negative (pick l) (minus.up (by decide)) (above l)
  have not_above := fun l => ok_not_above h__law_not_above ((pick l).up (by decide)) (negative l)
  have bad_slew := fun l => ok_bad_slew h__law_bad_slew ((pick l).up (by decide)) (negative l) (plus.up (by decide)) ((above l).up (by decide))
  have bad_drift := fun l => ok_bad_drift h__law_bad_drift ((pick l).up (by decide)) (negative l) (plus.up (by decide))
  have bad_lap := fun l => ok_bad_lap T h__law_bad_lap ((take l).up (by decide : 2 ≤ 5)) ((slews l).up (by decide)) ((spare l).up (by decide)) ((above l).up (by decide)) ((negative l).up (by decide)) (not_above l) (bad_slew l) (bad_drift l)
  have case := fun l => ok_case h__law_case ((take l).up (by decide : 2 ≤ 4)) ((slews l).up (by decide)) ((spare l).up (by decide)) ((above l).up (by decide)) ((pick l).up (by decide)) (frac.up (by decide)) (times.up (by decide)) (minus.up (by decide)) (plus.up (by decide)) ((size l).up (by decide)) (part l)
  have after := ok_after h__law_after plus times minus (below.up (by decide))
  have laps := ok_laps h__law_laps luntil
  have next := ok_next h__law_next bafter
  have lok := ok_laps_ok T h__law_laps_ok (plus.up (by decide)) (times.up (by decide)) (below.up (by decide)) (is_int.up (by decide)) after
  have stays := ok_stays T h__law_stays (after.up (by decide : 3 ≤ 5)) (below.up (by decide)) (plus.up (by decide)) (times.up (by decide)) next (same.up (by decide))
  have refused := ok_refused T CL TBadBound TBadRate h__law_refused laps
  exact (ok_law (k := 8) T h_law (store.up (by decide)) (fun l => (case l).up (by decide)) (laps.up (by decide)) (lok.up (by decide)) (stays.up (by decide)) (fun l => (bad_lap l).up (by decide)) (fun l => (pick l).up (by decide)) (fun l => (part l).up (by decide)) (same.up (by decide)) (refused.up (by decide)) (plus.up (by decide)) (minus.up (by decide)) (below.up (by decide))).ok
set_option maxHeartbeats 0 in
theorem all_mk {l : PySem.W.OpenLaw} {w : World} {K : PySem.W.Frag} {h : Heap} {mg : Str → Option Value} {fa : Addr} (X : K.In h) (G : h.Ns mainGlobals mg) (hfa : mg "law" = some (.ref fa))
    {f_rational : Addr} {od_rational an_rational : Option Addr} {sl_rational : Array (Option Value)} {oc_rational kV_rational dc_rational pm_rational cd_rational ct_rational : Value}
    {f_add : Addr} {od_add an_add : Option Addr} {sl_add : Array (Option Value)} {oc_add kV_add dc_add pm_add cd_add ct_add : Value}
    {f_subtract : Addr} {od_subtract an_subtract : Option Addr} {sl_subtract : Array (Option Value)} {oc_subtract kV_subtract dc_subtract pm_subtract cd_subtract ct_subtract : Value}
    {f_multiply : Addr} {od_multiply an_multiply : Option Addr} {sl_multiply : Array (Option Value)} {oc_multiply kV_multiply dc_multiply pm_multiply cd_multiply ct_multiply : Value}
    {f_negate : Addr} {od_negate an_negate : Option Addr} {sl_negate : Array (Option Value)} {oc_negate kV_negate dc_negate pm_negate cd_negate ct_negate : Value}
    {f_divide : Addr} {od_divide an_divide : Option Addr} {sl_divide : Array (Option Value)} {oc_divide kV_divide dc_divide pm_divide cd_divide ct_divide : Value}
    {f_compare : Addr} {od_compare an_compare : Option Addr} {sl_compare : Array (Option Value)} {oc_compare kV_compare dc_compare pm_compare cd_compare ct_compare : Value}
    {f_larger : Addr} {od_larger an_larger : Option Addr} {sl_larger : Array (Option Value)} {oc_larger kV_larger dc_larger pm_larger cd_larger ct_larger : Value}
    {f_floor_of : Addr} {od_floor_of an_floor_of : Option Addr} {sl_floor_of : Array (Option Value)} {oc_floor_of kV_floor_of dc_floor_of pm_floor_of cd_floor_of ct_floor_of : Value}
    {f_require_not_below_zero : Addr} {od_require_not_below_zero an_require_not_below_zero : Option Addr} {sl_require_not_below_zero : Array (Option Value)} {oc_require_not_below_zero kV_require_not_below_zero dc_require_not_below_zero pm_require_not_below_zero cd_require_not_below_zero ct_require_not_below_zero : Value}
    {f__require_slew_and_drift : Addr} {od__require_slew_and_drift an__require_slew_and_drift : Option Addr} {sl__require_slew_and_drift : Array (Option Value)} {oc__require_slew_and_drift kV__require_slew_and_drift dc__require_slew_and_drift pm__require_slew_and_drift cd__require_slew_and_drift ct__require_slew_and_drift : Value}
    {f__require_lap : Addr} {od__require_lap an__require_lap : Option Addr} {sl__require_lap : Array (Option Value)} {oc__require_lap kV__require_lap dc__require_lap pm__require_lap cd__require_lap ct__require_lap : Value}
    {f__bound_behind : Addr} {od__bound_behind an__bound_behind : Option Addr} {sl__bound_behind : Array (Option Value)} {oc__bound_behind kV__bound_behind dc__bound_behind pm__bound_behind cd__bound_behind ct__bound_behind : Value}
    {f_bound_after : Addr} {od_bound_after an_bound_after : Option Addr} {sl_bound_after : Array (Option Value)} {oc_bound_after kV_bound_after dc_bound_after pm_bound_after cd_bound_after ct_bound_after : Value}
    {f_laps_until : Addr} {od_laps_until an_laps_until : Option Addr} {sl_laps_until : Array (Option Value)} {oc_laps_until kV_laps_until dc_laps_until pm_laps_until cd_laps_until ct_laps_until : Value}
    {f__law_store : Addr} {od__law_store an__law_store : Option Addr} {sl__law_store : Array (Option Value)} {oc__law_store kV__law_store dc__law_store pm__law_store cd__law_store ct__law_store : Value}
    {f__law_feed : Addr} {od__law_feed an__law_feed : Option Addr} {sl__law_feed : Array (Option Value)} {oc__law_feed kV__law_feed dc__law_feed pm__law_feed cd__law_feed ct__law_feed : Value}
    {f__law_mixed : Addr} {od__law_mixed an__law_mixed : Option Addr} {sl__law_mixed : Array (Option Value)} {oc__law_mixed kV__law_mixed dc__law_mixed pm__law_mixed cd__law_mixed ct__law_mixed : Value}
    {f__law_take : Addr} {od__law_take an__law_take : Option Addr} {sl__law_take : Array (Option Value)} {oc__law_take kV__law_take dc__law_take pm__law_take cd__law_take ct__law_take : Value}
    {f__law_pick : Addr} {od__law_pick an__law_pick : Option Addr} {sl__law_pick : Array (Option Value)} {oc__law_pick kV__law_pick dc__law_pick pm__law_pick cd__law_pick ct__law_pick : Value}
    {f__law_size : Addr} {od__law_size an__law_size : Option Addr} {sl__law_size : Array (Option Value)} {oc__law_size kV__law_size dc__law_size pm__law_size cd__law_size ct__law_size : Value}
    {f__law_is_int : Addr} {od__law_is_int an__law_is_int : Option Addr} {sl__law_is_int : Array (Option Value)} {oc__law_is_int kV__law_is_int dc__law_is_int pm__law_is_int cd__law_is_int ct__law_is_int : Value}
    {f__law_same : Addr} {od__law_same an__law_same : Option Addr} {sl__law_same : Array (Option Value)} {oc__law_same kV__law_same dc__law_same pm__law_same cd__law_same ct__law_same : Value}
    {f__law_frac : Addr} {od__law_frac an__law_frac : Option Addr} {sl__law_frac : Array (Option Value)} {oc__law_frac kV__law_frac dc__law_frac pm__law_frac cd__law_frac ct__law_frac : Value}
    {f__law_plus : Addr} {od__law_plus an__law_plus : Option Addr} {sl__law_plus : Array (Option Value)} {oc__law_plus kV__law_plus dc__law_plus pm__law_plus cd__law_plus ct__law_plus : Value}
    {f__law_minus : Addr} {od__law_minus an__law_minus : Option Addr} {sl__law_minus : Array (Option Value)} {oc__law_minus kV__law_minus dc__law_minus pm__law_minus cd__law_minus ct__law_minus : Value}
    {f__law_times : Addr} {od__law_times an__law_times : Option Addr} {sl__law_times : Array (Option Value)} {oc__law_times kV__law_times dc__law_times pm__law_times cd__law_times ct__law_times : Value}
    {f__law_below : Addr} {od__law_below an__law_below : Option Addr} {sl__law_below : Array (Option Value)} {oc__law_below kV__law_below dc__law_below pm__law_below cd__law_below ct__law_below : Value}
    {f__law_part : Addr} {od__law_part an__law_part : Option Addr} {sl__law_part : Array (Option Value)} {oc__law_part kV__law_part dc__law_part pm__law_part cd__law_part ct__law_part : Value}
    {f__law_spare : Addr} {od__law_spare an__law_spare : Option Addr} {sl__law_spare : Array (Option Value)} {oc__law_spare kV__law_spare dc__law_spare pm__law_spare cd__law_spare ct__law_spare : Value}
    {f__law_above : Addr} {od__law_above an__law_above : Option Addr} {sl__law_above : Array (Option Value)} {oc__law_above kV__law_above dc__law_above pm__law_above cd__law_above ct__law_above : Value}
    {f__law_slews : Addr} {od__law_slews an__law_slews : Option Addr} {sl__law_slews : Array (Option Value)} {oc__law_slews kV__law_slews dc__law_slews pm__law_slews cd__law_slews ct__law_slews : Value}
    {f__law_negative : Addr} {od__law_negative an__law_negative : Option Addr} {sl__law_negative : Array (Option Value)} {oc__law_negative kV__law_negative dc__law_negative pm__law_negative cd__law_negative ct__law_negative : Value}
    {f__law_not_above : Addr} {od__law_not_above an__law_not_above : Option Addr} {sl__law_not_above : Array (Option Value)} {oc__law_not_above kV__law_not_above dc__law_not_above pm__law_not_above cd__law_not_above ct__law_not_above : Value}
    {f__law_bad_slew : Addr} {od__law_bad_slew an__law_bad_slew : Option Addr} {sl__law_bad_slew : Array (Option Value)} {oc__law_bad_slew kV__law_bad_slew dc__law_bad_slew pm__law_bad_slew cd__law_bad_slew ct__law_bad_slew : Value}
    {f__law_bad_drift : Addr} {od__law_bad_drift an__law_bad_drift : Option Addr} {sl__law_bad_drift : Array (Option Value)} {oc__law_bad_drift kV__law_bad_drift dc__law_bad_drift pm__law_bad_drift cd__law_bad_drift ct__law_bad_drift : Value}
    {f__law_bad_lap : Addr} {od__law_bad_lap an__law_bad_lap : Option Addr} {sl__law_bad_lap : Array (Option Value)} {oc__law_bad_lap kV__law_bad_lap dc__law_bad_lap pm__law_bad_lap cd__law_bad_lap ct__law_bad_lap : Value}
    {f__law_case : Addr} {od__law_case an__law_case : Option Addr} {sl__law_case : Array (Option Value)} {oc__law_case kV__law_case dc__law_case pm__law_case cd__law_case ct__law_case : Value}
    {f__law_after : Addr} {od__law_after an__law_after : Option Addr} {sl__law_after : Array (Option Value)} {oc__law_after kV__law_after dc__law_after pm__law_after cd__law_after ct__law_after : Value}
    {f__law_laps : Addr} {od__law_laps an__law_laps : Option Addr} {sl__law_laps : Array (Option Value)} {oc__law_laps kV__law_laps dc__law_laps pm__law_laps cd__law_laps ct__law_laps : Value}
    {f__law_next : Addr} {od__law_next an__law_next : Option Addr} {sl__law_next : Array (Option Value)} {oc__law_next kV__law_next dc__law_next pm__law_next cd__law_next ct__law_next : Value}
    {f__law_laps_ok : Addr} {od__law_laps_ok an__law_laps_ok : Option Addr} {sl__law_laps_ok : Array (Option Value)} {oc__law_laps_ok kV__law_laps_ok dc__law_laps_ok pm__law_laps_ok cd__law_laps_ok ct__law_laps_ok : Value}
    {f__law_stays : Addr} {od__law_stays an__law_stays : Option Addr} {sl__law_stays : Array (Option Value)} {oc__law_stays kV__law_stays dc__law_stays pm__law_stays cd__law_stays ct__law_stays : Value}
    {f__law_refused : Addr} {od__law_refused an__law_refused : Option Addr} {sl__law_refused : Array (Option Value)} {oc__law_refused kV__law_refused dc__law_refused pm__law_refused cd__law_refused ct__law_refused : Value}
    {f_law : Addr} {od_law an_law : Option Addr} {sl_law : Array (Option Value)} {oc_law kV_law dc_law pm_law cd_law ct_law : Value}
    {dV_rational : Addr} {dcls_rational : Value} {ddd_rational : Option Addr} {dtk_rational : Tok} {dn_rational : Nat} {dsl_rational : Array (Option Value)} (ldf_rational : K.lookup dV_rational = some ⟨dcls_rational, ddd_rational, .seq #[.int 1 dtk_rational] dn_rational, dsl_rational⟩)
    {aZERO : Addr} {addZERO : Option Addr} {tZERO0 tZERO1 : Tok} {znZERO : Nat} {zslZERO : Array (Option Value)} (a0ZERO : PySem.W.nsIn K mainGlobals "ZERO" = some (some (.ref aZERO))) (l0ZERO : K.lookup aZERO = some ⟨.type "tuple", addZERO, .seq #[.int 0 tZERO0, .int 1 tZERO1] znZERO, zslZERO⟩)
    {aONE : Addr} {addONE : Option Addr} {tONE0 tONE1 : Tok} {znONE : Nat} {zslONE : Array (Option Value)} (a0ONE : PySem.W.nsIn K mainGlobals "ONE" = some (some (.ref aONE))) (l0ONE : K.lookup aONE = some ⟨.type "tuple", addONE, .seq #[.int 1 tONE0, .int 1 tONE1] znONE, zslONE⟩)
    {C_BadBound fi_BadBound : Addr} {nm_BadBound q_BadBound iq_BadBound : Str} {N_BadBound : Addr} {bs_BadBound bm_BadBound sub_BadBound : List Value} {sn_BadBound : List Str} {ab_BadBound : Bool} {col_BadBound : Option Bool} {dd_BadBound : Option Addr} {m0_BadBound m1_BadBound m2_BadBound m3_BadBound m5_BadBound : Option Value} {iod_BadBound ian_BadBound : Option Addr} {isl_BadBound : Array (Option Value)} {ioc_BadBound idc_BadBound ipm_BadBound icd_BadBound ict_BadBound : Value} {p1_BadBound p2_BadBound q1_BadBound q2_BadBound q3_BadBound q4_BadBound : Pos}
    (aC_BadBound : PySem.W.nsIn K mainGlobals "BadBound" = some (some (.ref C_BadBound))) (xL_BadBound : K.lookup C_BadBound = some (excClassObj nm_BadBound q_BadBound C_BadBound N_BadBound bs_BadBound bm_BadBound true sn_BadBound sub_BadBound ab_BadBound col_BadBound dd_BadBound m0_BadBound m1_BadBound m2_BadBound m3_BadBound m5_BadBound "ValueError.__new__")) (rv_BadBound : refsVE bm_BadBound = true)
    (sa_BadBound : PySem.W.findIn K (.ref C_BadBound) "__setattr__" = some (some (.builtin "object.__setattr__"))) (ga_BadBound : PySem.W.findIn K (.ref C_BadBound) "__getattribute__" = some (some (.builtin "BaseException.__getattribute__"))) (gg_BadBound : PySem.W.findIn K (.ref C_BadBound) "__getattr__" = some none) (nb_BadBound : PySem.W.findIn K (.ref C_BadBound) "value" = some none)
    (a1_BadBound : PySem.W.findIn K (.ref C_BadBound) "__init__" = some (some (.ref fi_BadBound))) (t1_BadBound : PySem.W.typeIn K (.ref fi_BadBound) = some (.type "function"))
    (l1_BadBound : K.lookup fi_BadBound = some ⟨ioc_BadBound, iod_BadBound, .func (PySem.W.fnOf "__init__" iq_BadBound (PySem.ValX.iA p1_BadBound p2_BadBound) (PySem.ValX.iB q1_BadBound q2_BadBound q3_BadBound q4_BadBound) PySem.ValX.iS .none .none idc_BadBound ipm_BadBound ian_BadBound icd_BadBound ict_BadBound), isl_BadBound⟩) (c1_BadBound : PySem.W.codeIn K icd_BadBound iq_BadBound = true)
    (kC_BadBound : PySem.W.keepIn K (.ref C_BadBound) = true) (eC_BadBound : PySem.W.subIn K (.ref C_BadBound) (.type "BaseException") = some true) (tC_BadBound : PySem.W.typeIn K (.ref C_BadBound) = some (.type "type")) (hC_BadBound : PySem.W.hasDictIn K C_BadBound = true) (iC_BadBound : PySem.W.isClsIn K C_BadBound = true) (sC_BadBound : PySem.W.subIn K (.ref C_BadBound) (.ref C_BadBound) = some true)
    {C_BadRate fi_BadRate : Addr} {nm_BadRate q_BadRate iq_BadRate : Str} {N_BadRate : Addr} {bs_BadRate bm_BadRate sub_BadRate : List Value} {sn_BadRate : List Str} {ab_BadRate : Bool} {col_BadRate : Option Bool} {dd_BadRate : Option Addr} {m0_BadRate m1_BadRate m2_BadRate m3_BadRate m5_BadRate : Option Value} {iod_BadRate ian_BadRate : Option Addr} {isl_BadRate : Array (Option Value)} {ioc_BadRate idc_BadRate ipm_BadRate icd_BadRate ict_BadRate : Value} {p1_BadRate p2_BadRate q1_BadRate q2_BadRate q3_BadRate q4_BadRate : Pos}
    (aC_BadRate : PySem.W.nsIn K mainGlobals "BadRate" = some (some (.ref C_BadRate))) (xL_BadRate : K.lookup C_BadRate = some (excClassObj nm_BadRate q_BadRate C_BadRate N_BadRate bs_BadRate bm_BadRate true sn_BadRate sub_BadRate ab_BadRate col_BadRate dd_BadRate m0_BadRate m1_BadRate m2_BadRate m3_BadRate m5_BadRate "ValueError.__new__")) (rv_BadRate : refsVE bm_BadRate = true)
    (sa_BadRate : PySem.W.findIn K (.ref C_BadRate) "__setattr__" = some (some (.builtin "object.__setattr__"))) (ga_BadRate : PySem.W.findIn K (.ref C_BadRate) "__getattribute__" = some (some (.builtin "BaseException.__getattribute__"))) (gg_BadRate : PySem.W.findIn K (.ref C_BadRate) "__getattr__" = some none) (nb_BadRate : PySem.W.findIn K (.ref C_BadRate) "value" = some none)
    (a1_BadRate : PySem.W.findIn K (.ref C_BadRate) "__init__" = some (some (.ref fi_BadRate))) (t1_BadRate : PySem.W.typeIn K (.ref fi_BadRate) = some (.type "function"))
    (l1_BadRate : K.lookup fi_BadRate = some ⟨ioc_BadRate, iod_BadRate, .func (PySem.W.fnOf "__init__" iq_BadRate (PySem.ValX.iA p1_BadRate p2_BadRate) (PySem.ValX.iB q1_BadRate q2_BadRate q3_BadRate q4_BadRate) PySem.ValX.iS .none .none idc_BadRate ipm_BadRate ian_BadRate icd_BadRate ict_BadRate), isl_BadRate⟩) (c1_BadRate : PySem.W.codeIn K icd_BadRate iq_BadRate = true)
    (kC_BadRate : PySem.W.keepIn K (.ref C_BadRate) = true) (eC_BadRate : PySem.W.subIn K (.ref C_BadRate) (.type "BaseException") = some true) (tC_BadRate : PySem.W.typeIn K (.ref C_BadRate) = some (.type "type")) (hC_BadRate : PySem.W.hasDictIn K C_BadRate = true) (iC_BadRate : PySem.W.isClsIn K C_BadRate = true) (sC_BadRate : PySem.W.subIn K (.ref C_BadRate) (.ref C_BadRate) = some true)
    (xa_BadBound : PySem.W.findIn K (.ref C_BadBound) "__class__" = some (some (.builtin "object.__class__"))) (xm_BadBound : PySem.W.mroIn K C_BadBound (.type "object") = some true)
    (xa_BadRate : PySem.W.findIn K (.ref C_BadRate) "__class__" = some (some (.builtin "object.__class__"))) (xm_BadRate : PySem.W.mroIn K C_BadRate (.type "object") = some true)
    (xn : PySem.W.specialIn K (.builtin "object.__class__") "__get__" = some (some (.builtin "getset_descriptor.__get__"))) (xt : PySem.W.takesIn K (.builtin "object.__class__") = some true)
    {C_VerdictError : Addr} (aC_VerdictError : PySem.W.nsIn K mainGlobals "VerdictError" = some (some (.ref C_VerdictError))) (tC_VerdictError : PySem.W.typeIn K (.ref C_VerdictError) = some (.type "type")) (iC_VerdictError : PySem.W.isClsIn K C_VerdictError = true)
    {C_EmptySpan : Addr} (aC_EmptySpan : PySem.W.nsIn K mainGlobals "EmptySpan" = some (some (.ref C_EmptySpan))) (tC_EmptySpan : PySem.W.typeIn K (.ref C_EmptySpan) = some (.type "type")) (iC_EmptySpan : PySem.W.isClsIn K C_EmptySpan = true)
    {C_TurnsBack : Addr} (aC_TurnsBack : PySem.W.nsIn K mainGlobals "TurnsBack" = some (some (.ref C_TurnsBack))) (tC_TurnsBack : PySem.W.typeIn K (.ref C_TurnsBack) = some (.type "type")) (iC_TurnsBack : PySem.W.isClsIn K C_TurnsBack = true)
    (je_BadRate_BadBound : PySem.W.subIn K (.ref C_BadRate) (.ref C_BadBound) = some false) (ne_BadRate_BadBound : (C_BadRate == C_BadBound) = false)
    (jk_BadBound_VerdictError : PySem.W.subIn K (.ref C_BadBound) (.ref C_VerdictError) = some true) (nk_BadBound_VerdictError : (C_BadBound == C_VerdictError) = false)
    (jk_BadBound_BadRate : PySem.W.subIn K (.ref C_BadBound) (.ref C_BadRate) = some false) (nk_BadBound_BadRate : (C_BadBound == C_BadRate) = false)
    (jk_BadBound_EmptySpan : PySem.W.subIn K (.ref C_BadBound) (.ref C_EmptySpan) = some false) (nk_BadBound_EmptySpan : (C_BadBound == C_EmptySpan) = false)
    (jk_BadRate_VerdictError : PySem.W.subIn K (.ref C_BadRate) (.ref C_VerdictError) = some true) (nk_BadRate_VerdictError : (C_BadRate == C_VerdictError) = false)
    (jk_BadRate_TurnsBack : PySem.W.subIn K (.ref C_BadRate) (.ref C_TurnsBack) = some false) (nk_BadRate_TurnsBack : (C_BadRate == C_TurnsBack) = false)
    (jk_BadRate_EmptySpan : PySem.W.subIn K (.ref C_BadRate) (.ref C_EmptySpan) = some false) (nk_BadRate_EmptySpan : (C_BadRate == C_EmptySpan) = false)
    (a_rational : PySem.W.nsIn K mainGlobals "rational" = some (some (.ref f_rational))) (l_rational : K.lookup f_rational = some ⟨oc_rational, od_rational, .func (PySem.W.fnOf "rational" "rational" (defArgs s_rational) (defBody s_rational) (defScope s_rational) (.ref dV_rational) kV_rational dc_rational pm_rational an_rational cd_rational ct_rational), sl_rational⟩) (c_rational : PySem.W.codeIn K cd_rational "rational" = true) (k_rational : PySem.W.keepIn K (.ref f_rational) = true)
    (a_add : PySem.W.nsIn K mainGlobals "add" = some (some (.ref f_add))) (l_add : K.lookup f_add = some ⟨oc_add, od_add, .func (PySem.W.fnOf "add" "add" (defArgs s_add) (defBody s_add) (defScope s_add) .none kV_add dc_add pm_add an_add cd_add ct_add), sl_add⟩) (c_add : PySem.W.codeIn K cd_add "add" = true) (k_add : PySem.W.keepIn K (.ref f_add) = true)
    (a_subtract : PySem.W.nsIn K mainGlobals "subtract" = some (some (.ref f_subtract))) (l_subtract : K.lookup f_subtract = some ⟨oc_subtract, od_subtract, .func (PySem.W.fnOf "subtract" "subtract" (defArgs s_subtract) (defBody s_subtract) (defScope s_subtract) .none kV_subtract dc_subtract pm_subtract an_subtract cd_subtract ct_subtract), sl_subtract⟩) (c_subtract : PySem.W.codeIn K cd_subtract "subtract" = true) (k_subtract : PySem.W.keepIn K (.ref f_subtract) = true)
    (a_multiply : PySem.W.nsIn K mainGlobals "multiply" = some (some (.ref f_multiply))) (l_multiply : K.lookup f_multiply = some ⟨oc_multiply, od_multiply, .func (PySem.W.fnOf "multiply" "multiply" (defArgs s_multiply) (defBody s_multiply) (defScope s_multiply) .none kV_multiply dc_multiply pm_multiply an_multiply cd_multiply ct_multiply), sl_multiply⟩) (c_multiply : PySem.W.codeIn K cd_multiply "multiply" = true) (k_multiply : PySem.W.keepIn K (.ref f_multiply) = true)
    (a_negate : PySem.W.nsIn K mainGlobals "negate" = some (some (.ref f_negate))) (l_negate : K.lookup f_negate = some ⟨oc_negate, od_negate, .func (PySem.W.fnOf "negate" "negate" (defArgs s_negate) (defBody s_negate) (defScope s_negate) .none kV_negate dc_negate pm_negate an_negate cd_negate ct_negate), sl_negate⟩) (c_negate : PySem.W.codeIn K cd_negate "negate" = true) (k_negate : PySem.W.keepIn K (.ref f_negate) = true)
    (a_divide : PySem.W.nsIn K mainGlobals "divide" = some (some (.ref f_divide))) (l_divide : K.lookup f_divide = some ⟨oc_divide, od_divide, .func (PySem.W.fnOf "divide" "divide" (defArgs s_divide) (defBody s_divide) (defScope s_divide) .none kV_divide dc_divide pm_divide an_divide cd_divide ct_divide), sl_divide⟩) (c_divide : PySem.W.codeIn K cd_divide "divide" = true) (k_divide : PySem.W.keepIn K (.ref f_divide) = true)
    (a_compare : PySem.W.nsIn K mainGlobals "compare" = some (some (.ref f_compare))) (l_compare : K.lookup f_compare = some ⟨oc_compare, od_compare, .func (PySem.W.fnOf "compare" "compare" (defArgs s_compare) (defBody s_compare) (defScope s_compare) .none kV_compare dc_compare pm_compare an_compare cd_compare ct_compare), sl_compare⟩) (c_compare : PySem.W.codeIn K cd_compare "compare" = true) (k_compare : PySem.W.keepIn K (.ref f_compare) = true)
    (a_larger : PySem.W.nsIn K mainGlobals "larger" = some (some (.ref f_larger))) (l_larger : K.lookup f_larger = some ⟨oc_larger, od_larger, .func (PySem.W.fnOf "larger" "larger" (defArgs s_larger) (defBody s_larger) (defScope s_larger) .none kV_larger dc_larger pm_larger an_larger cd_larger ct_larger), sl_larger⟩) (c_larger : PySem.W.codeIn K cd_larger "larger" = true) (k_larger : PySem.W.keepIn K (.ref f_larger) = true)
    (a_floor_of : PySem.W.nsIn K mainGlobals "floor_of" = some (some (.ref f_floor_of))) (l_floor_of : K.lookup f_floor_of = some ⟨oc_floor_of, od_floor_of, .func (PySem.W.fnOf "floor_of" "floor_of" (defArgs s_floor_of) (defBody s_floor_of) (defScope s_floor_of) .none kV_floor_of dc_floor_of pm_floor_of an_floor_of cd_floor_of ct_floor_of), sl_floor_of⟩) (c_floor_of : PySem.W.codeIn K cd_floor_of "floor_of" = true) (k_floor_of : PySem.W.keepIn K (.ref f_floor_of) = true)
    (a_require_not_below_zero : PySem.W.nsIn K mainGlobals "require_not_below_zero" = some (some (.ref f_require_not_below_zero))) (l_require_not_below_zero : K.lookup f_require_not_below_zero = some ⟨oc_require_not_below_zero, od_require_not_below_zero, .func (PySem.W.fnOf "require_not_below_zero" "require_not_below_zero" (defArgs s_require_not_below_zero) (defBody s_require_not_below_zero) (defScope s_require_not_below_zero) .none kV_require_not_below_zero dc_require_not_below_zero pm_require_not_below_zero an_require_not_below_zero cd_require_not_below_zero ct_require_not_below_zero), sl_require_not_below_zero⟩) (c_require_not_below_zero : PySem.W.codeIn K cd_require_not_below_zero "require_not_below_zero" = true) (k_require_not_below_zero : PySem.W.keepIn K (.ref f_require_not_below_zero) = true)
    (a__require_slew_and_drift : PySem.W.nsIn K mainGlobals "_require_slew_and_drift" = some (some (.ref f__require_slew_and_drift))) (l__require_slew_and_drift : K.lookup f__require_slew_and_drift = some ⟨oc__require_slew_and_drift, od__require_slew_and_drift, .func (PySem.W.fnOf "_require_slew_and_drift" "_require_slew_and_drift" (defArgs s__require_slew_and_drift) (defBody s__require_slew_and_drift) (defScope s__require_slew_and_drift) .none kV__require_slew_and_drift dc__require_slew_and_drift pm__require_slew_and_drift an__require_slew_and_drift cd__require_slew_and_drift ct__require_slew_and_drift), sl__require_slew_and_drift⟩) (c__require_slew_and_drift : PySem.W.codeIn K cd__require_slew_and_drift "_require_slew_and_drift" = true) (k__require_slew_and_drift : PySem.W.keepIn K (.ref f__require_slew_and_drift) = true)
    (a__require_lap : PySem.W.nsIn K mainGlobals "_require_lap" = some (some (.ref f__require_lap))) (l__require_lap : K.lookup f__require_lap = some ⟨oc__require_lap, od__require_lap, .func (PySem.W.fnOf "_require_lap" "_require_lap" (defArgs s__require_lap) (defBody s__require_lap) (defScope s__require_lap) .none kV__require_lap dc__require_lap pm__require_lap an__require_lap cd__require_lap ct__require_lap), sl__require_lap⟩) (c__require_lap : PySem.W.codeIn K cd__require_lap "_require_lap" = true) (k__require_lap : PySem.W.keepIn K (.ref f__require_lap) = true)
    (a__bound_behind : PySem.W.nsIn K mainGlobals "_bound_behind" = some (some (.ref f__bound_behind))) (l__bound_behind : K.lookup f__bound_behind = some ⟨oc__bound_behind, od__bound_behind, .func (PySem.W.fnOf "_bound_behind" "_bound_behind" (defArgs s__bound_behind) (defBody s__bound_behind) (defScope s__bound_behind) .none kV__bound_behind dc__bound_behind pm__bound_behind an__bound_behind cd__bound_behind ct__bound_behind), sl__bound_behind⟩) (c__bound_behind : PySem.W.codeIn K cd__bound_behind "_bound_behind" = true) (k__bound_behind : PySem.W.keepIn K (.ref f__bound_behind) = true)
    (a_bound_after : PySem.W.nsIn K mainGlobals "bound_after" = some (some (.ref f_bound_after))) (l_bound_after : K.lookup f_bound_after = some ⟨oc_bound_after, od_bound_after, .func (PySem.W.fnOf "bound_after" "bound_after" (defArgs s_bound_after) (defBody s_bound_after) (defScope s_bound_after) .none kV_bound_after dc_bound_after pm_bound_after an_bound_after cd_bound_after ct_bound_after), sl_bound_after⟩) (c_bound_after : PySem.W.codeIn K cd_bound_after "bound_after" = true) (k_bound_after : PySem.W.keepIn K (.ref f_bound_after) = true)
    (a_laps_until : PySem.W.nsIn K mainGlobals "laps_until" = some (some (.ref f_laps_until))) (l_laps_until : K.lookup f_laps_until = some ⟨oc_laps_until, od_laps_until, .func (PySem.W.fnOf "laps_until" "laps_until" (defArgs s_laps_until) (defBody s_laps_until) (defScope s_laps_until) .none kV_laps_until dc_laps_until pm_laps_until an_laps_until cd_laps_until ct_laps_until), sl_laps_until⟩) (c_laps_until : PySem.W.codeIn K cd_laps_until "laps_until" = true) (k_laps_until : PySem.W.keepIn K (.ref f_laps_until) = true)
    (a__law_store : PySem.W.nsIn K mainGlobals "_law_store" = some (some (.ref f__law_store))) (l__law_store : K.lookup f__law_store = some ⟨oc__law_store, od__law_store, .func (PySem.W.fnOf "_law_store" "_law_store" (defArgs s__law_store) (defBody s__law_store) (defScope s__law_store) .none kV__law_store dc__law_store pm__law_store an__law_store cd__law_store ct__law_store), sl__law_store⟩) (c__law_store : PySem.W.codeIn K cd__law_store "_law_store" = true) (k__law_store : PySem.W.keepIn K (.ref f__law_store) = true)
    (a__law_feed : PySem.W.nsIn K mainGlobals "_law_feed" = some (some (.ref f__law_feed))) (l__law_feed : K.lookup f__law_feed = some ⟨oc__law_feed, od__law_feed, .func (PySem.W.fnOf "_law_feed" "_law_feed" (defArgs s__law_feed) (defBody s__law_feed) (defScope s__law_feed) .none kV__law_feed dc__law_feed pm__law_feed an__law_feed cd__law_feed ct__law_feed), sl__law_feed⟩) (c__law_feed : PySem.W.codeIn K cd__law_feed "_law_feed" = true) (k__law_feed : PySem.W.keepIn K (.ref f__law_feed) = true)
    (a__law_mixed : PySem.W.nsIn K mainGlobals "_law_mixed" = some (some (.ref f__law_mixed))) (l__law_mixed : K.lookup f__law_mixed = some ⟨oc__law_mixed, od__law_mixed, .func (PySem.W.fnOf "_law_mixed" "_law_mixed" (defArgs s__law_mixed) (defBody s__law_mixed) (defScope s__law_mixed) .none kV__law_mixed dc__law_mixed pm__law_mixed an__law_mixed cd__law_mixed ct__law_mixed), sl__law_mixed⟩) (c__law_mixed : PySem.W.codeIn K cd__law_mixed "_law_mixed" = true) (k__law_mixed : PySem.W.keepIn K (.ref f__law_mixed) = true)
    (a__law_take : PySem.W.nsIn K mainGlobals "_law_take" = some (some (.ref f__law_take))) (l__law_take : K.lookup f__law_take = some ⟨oc__law_take, od__law_take, .func (PySem.W.fnOf "_law_take" "_law_take" (defArgs s__law_take) (defBody s__law_take) (defScope s__law_take) .none kV__law_take dc__law_take pm__law_take an__law_take cd__law_take ct__law_take), sl__law_take⟩) (c__law_take : PySem.W.codeIn K cd__law_take "_law_take" = true) (k__law_take : PySem.W.keepIn K (.ref f__law_take) = true)
    (a__law_pick : PySem.W.nsIn K mainGlobals "_law_pick" = some (some (.ref f__law_pick))) (l__law_pick : K.lookup f__law_pick = some ⟨oc__law_pick, od__law_pick, .func (PySem.W.fnOf "_law_pick" "_law_pick" (defArgs s__law_pick) (defBody s__law_pick) (defScope s__law_pick) .none kV__law_pick dc__law_pick pm__law_pick an__law_pick cd__law_pick ct__law_pick), sl__law_pick⟩) (c__law_pick : PySem.W.codeIn K cd__law_pick "_law_pick" = true) (k__law_pick : PySem.W.keepIn K (.ref f__law_pick) = true)
    (a__law_size : PySem.W.nsIn K mainGlobals "_law_size" = some (some (.ref f__law_size))) (l__law_size : K.lookup f__law_size = some ⟨oc__law_size, od__law_size, .func (PySem.W.fnOf "_law_size" "_law_size" (defArgs s__law_size) (defBody s__law_size) (defScope s__law_size) .none kV__law_size dc__law_size pm__law_size an__law_size cd__law_size ct__law_size), sl__law_size⟩) (c__law_size : PySem.W.codeIn K cd__law_size "_law_size" = true) (k__law_size : PySem.W.keepIn K (.ref f__law_size) = true)
    (a__law_is_int : PySem.W.nsIn K mainGlobals "_law_is_int" = some (some (.ref f__law_is_int))) (l__law_is_int : K.lookup f__law_is_int = some ⟨oc__law_is_int, od__law_is_int, .func (PySem.W.fnOf "_law_is_int" "_law_is_int" (defArgs s__law_is_int) (defBody s__law_is_int) (defScope s__law_is_int) .none kV__law_is_int dc__law_is_int pm__law_is_int an__law_is_int cd__law_is_int ct__law_is_int), sl__law_is_int⟩) (c__law_is_int : PySem.W.codeIn K cd__law_is_int "_law_is_int" = true) (k__law_is_int : PySem.W.keepIn K (.ref f__law_is_int) = true)
    (a__law_same : PySem.W.nsIn K mainGlobals "_law_same" = some (some (.ref f__law_same))) (l__law_same : K.lookup f__law_same = some ⟨oc__law_same, od__law_same, .func (PySem.W.fnOf "_law_same" "_law_same" (defArgs s__law_same) (defBody s__law_same) (defScope s__law_same) .none kV__law_same dc__law_same pm__law_same an__law_same cd__law_same ct__law_same), sl__law_same⟩) (c__law_same : PySem.W.codeIn K cd__law_same "_law_same" = true) (k__law_same : PySem.W.keepIn K (.ref f__law_same) = true)
    (a__law_frac : PySem.W.nsIn K mainGlobals "_law_frac" = some (some (.ref f__law_frac))) (l__law_frac : K.lookup f__law_frac = some ⟨oc__law_frac, od__law_frac, .func (PySem.W.fnOf "_law_frac" "_law_frac" (defArgs s__law_frac) (defBody s__law_frac) (defScope s__law_frac) .none kV__law_frac dc__law_frac pm__law_frac an__law_frac cd__law_frac ct__law_frac), sl__law_frac⟩) (c__law_frac : PySem.W.codeIn K cd__law_frac "_law_frac" = true) (k__law_frac : PySem.W.keepIn K (.ref f__law_frac) = true)
    (a__law_plus : PySem.W.nsIn K mainGlobals "_law_plus" = some (some (.ref f__law_plus))) (l__law_plus : K.lookup f__law_plus = some ⟨oc__law_plus, od__law_plus, .func (PySem.W.fnOf "_law_plus" "_law_plus" (defArgs s__law_plus) (defBody s__law_plus) (defScope s__law_plus) .none kV__law_plus dc__law_plus pm__law_plus an__law_plus cd__law_plus ct__law_plus), sl__law_plus⟩) (c__law_plus : PySem.W.codeIn K cd__law_plus "_law_plus" = true) (k__law_plus : PySem.W.keepIn K (.ref f__law_plus) = true)
    (a__law_minus : PySem.W.nsIn K mainGlobals "_law_minus" = some (some (.ref f__law_minus))) (l__law_minus : K.lookup f__law_minus = some ⟨oc__law_minus, od__law_minus, .func (PySem.W.fnOf "_law_minus" "_law_minus" (defArgs s__law_minus) (defBody s__law_minus) (defScope s__law_minus) .none kV__law_minus dc__law_minus pm__law_minus an__law_minus cd__law_minus ct__law_minus), sl__law_minus⟩) (c__law_minus : PySem.W.codeIn K cd__law_minus "_law_minus" = true) (k__law_minus : PySem.W.keepIn K (.ref f__law_minus) = true)
    (a__law_times : PySem.W.nsIn K mainGlobals "_law_times" = some (some (.ref f__law_times))) (l__law_times : K.lookup f__law_times = some ⟨oc__law_times, od__law_times, .func (PySem.W.fnOf "_law_times" "_law_times" (defArgs s__law_times) (defBody s__law_times) (defScope s__law_times) .none kV__law_times dc__law_times pm__law_times an__law_times cd__law_times ct__law_times), sl__law_times⟩) (c__law_times : PySem.W.codeIn K cd__law_times "_law_times" = true) (k__law_times : PySem.W.keepIn K (.ref f__law_times) = true)
    (a__law_below : PySem.W.nsIn K mainGlobals "_law_below" = some (some (.ref f__law_below))) (l__law_below : K.lookup f__law_below = some ⟨oc__law_below, od__law_below, .func (PySem.W.fnOf "_law_below" "_law_below" (defArgs s__law_below) (defBody s__law_below) (defScope s__law_below) .none kV__law_below dc__law_below pm__law_below an__law_below cd__law_below ct__law_below), sl__law_below⟩) (c__law_below : PySem.W.codeIn K cd__law_below "_law_below" = true) (k__law_below : PySem.W.keepIn K (.ref f__law_below) = true)
    (a__law_part : PySem.W.nsIn K mainGlobals "_law_part" = some (some (.ref f__law_part))) (l__law_part : K.lookup f__law_part = some ⟨oc__law_part, od__law_part, .func (PySem.W.fnOf "_law_part" "_law_part" (defArgs s__law_part) (defBody s__law_part) (defScope s__law_part) .none kV__law_part dc__law_part pm__law_part an__law_part cd__law_part ct__law_part), sl__law_part⟩) (c__law_part : PySem.W.codeIn K cd__law_part "_law_part" = true) (k__law_part : PySem.W.keepIn K (.ref f__law_part) = true)
    (a__law_spare : PySem.W.nsIn K mainGlobals "_law_spare" = some (some (.ref f__law_spare))) (l__law_spare : K.lookup f__law_spare = some ⟨oc__law_spare, od__law_spare, .func (PySem.W.fnOf "_law_spare" "_law_spare" (defArgs s__law_spare) (defBody s__law_spare) (defScope s__law_spare) .none kV__law_spare dc__law_spare pm__law_spare an__law_spare cd__law_spare ct__law_spare), sl__law_spare⟩) (c__law_spare : PySem.W.codeIn K cd__law_spare "_law_spare" = true) (k__law_spare : PySem.W.keepIn K (.ref f__law_spare) = true)
    (a__law_above : PySem.W.nsIn K mainGlobals "_law_above" = some (some (.ref f__law_above))) (l__law_above : K.lookup f__law_above = some ⟨oc__law_above, od__law_above, .func (PySem.W.fnOf "_law_above" "_law_above" (defArgs s__law_above) (defBody s__law_above) (defScope s__law_above) .none kV__law_above dc__law_above pm__law_above an__law_above cd__law_above ct__law_above), sl__law_above⟩) (c__law_above : PySem.W.codeIn K cd__law_above "_law_above" = true) (k__law_above : PySem.W.keepIn K (.ref f__law_above) = true)
    (a__law_slews : PySem.W.nsIn K mainGlobals "_law_slews" = some (some (.ref f__law_slews))) (l__law_slews : K.lookup f__law_slews = some ⟨oc__law_slews, od__law_slews, .func (PySem.W.fnOf "_law_slews" "_law_slews" (defArgs s__law_slews) (defBody s__law_slews) (defScope s__law_slews) .none kV__law_slews dc__law_slews pm__law_slews an__law_slews cd__law_slews ct__law_slews), sl__law_slews⟩) (c__law_slews : PySem.W.codeIn K cd__law_slews "_law_slews" = true) (k__law_slews : PySem.W.keepIn K (.ref f__law_slews) = true)
    (a__law_negative : PySem.W.nsIn K mainGlobals "_law_negative" = some (some (.ref f__law_negative))) (l__law_negative : K.lookup f__law_negative = some ⟨oc__law_negative, od__law_negative, .func (PySem.W.fnOf "_law_negative" "_law_negative" (defArgs s__law_negative) (defBody s__law_negative) (defScope s__law_negative) .none kV__law_negative dc__law_negative pm__law_negative an__law_negative cd__law_negative ct__law_negative), sl__law_negative⟩) (c__law_negative : PySem.W.codeIn K cd__law_negative "_law_negative" = true) (k__law_negative : PySem.W.keepIn K (.ref f__law_negative) = true)
    (a__law_not_above : PySem.W.nsIn K mainGlobals "_law_not_above" = some (some (.ref f__law_not_above))) (l__law_not_above : K.lookup f__law_not_above = some ⟨oc__law_not_above, od__law_not_above, .func (PySem.W.fnOf "_law_not_above" "_law_not_above" (defArgs s__law_not_above) (defBody s__law_not_above) (defScope s__law_not_above) .none kV__law_not_above dc__law_not_above pm__law_not_above an__law_not_above cd__law_not_above ct__law_not_above), sl__law_not_above⟩) (c__law_not_above : PySem.W.codeIn K cd__law_not_above "_law_not_above" = true) (k__law_not_above : PySem.W.keepIn K (.ref f__law_not_above) = true)
    (a__law_bad_slew : PySem.W.nsIn K mainGlobals "_law_bad_slew" = some (some (.ref f__law_bad_slew))) (l__law_bad_slew : K.lookup f__law_bad_slew = some ⟨oc__law_bad_slew, od__law_bad_slew, .func (PySem.W.fnOf "_law_bad_slew" "_law_bad_slew" (defArgs s__law_bad_slew) (defBody s__law_bad_slew) (defScope s__law_bad_slew) .none kV__law_bad_slew dc__law_bad_slew pm__law_bad_slew an__law_bad_slew cd__law_bad_slew ct__law_bad_slew), sl__law_bad_slew⟩) (c__law_bad_slew : PySem.W.codeIn K cd__law_bad_slew "_law_bad_slew" = true) (k__law_bad_slew : PySem.W.keepIn K (.ref f__law_bad_slew) = true)
    (a__law_bad_drift : PySem.W.nsIn K mainGlobals "_law_bad_drift" = some (some (.ref f__law_bad_drift))) (l__law_bad_drift : K.lookup f__law_bad_drift = some ⟨oc__law_bad_drift, od__law_bad_drift, .func (PySem.W.fnOf "_law_bad_drift" "_law_bad_drift" (defArgs s__law_bad_drift) (defBody s__law_bad_drift) (defScope s__law_bad_drift) .none kV__law_bad_drift dc__law_bad_drift pm__law_bad_drift an__law_bad_drift cd__law_bad_drift ct__law_bad_drift), sl__law_bad_drift⟩) (c__law_bad_drift : PySem.W.codeIn K cd__law_bad_drift "_law_bad_drift" = true) (k__law_bad_drift : PySem.W.keepIn K (.ref f__law_bad_drift) = true)
    (a__law_bad_lap : PySem.W.nsIn K mainGlobals "_law_bad_lap" = some (some (.ref f__law_bad_lap))) (l__law_bad_lap : K.lookup f__law_bad_lap = some ⟨oc__law_bad_lap, od__law_bad_lap, .func (PySem.W.fnOf "_law_bad_lap" "_law_bad_lap" (defArgs s__law_bad_lap) (defBody s__law_bad_lap) (defScope s__law_bad_lap) .none kV__law_bad_lap dc__law_bad_lap pm__law_bad_lap an__law_bad_lap cd__law_bad_lap ct__law_bad_lap), sl__law_bad_lap⟩) (c__law_bad_lap : PySem.W.codeIn K cd__law_bad_lap "_law_bad_lap" = true) (k__law_bad_lap : PySem.W.keepIn K (.ref f__law_bad_lap) = true)
    (a__law_case : PySem.W.nsIn K mainGlobals "_law_case" = some (some (.ref f__law_case))) (l__law_case : K.lookup f__law_case = some ⟨oc__law_case, od__law_case, .func (PySem.W.fnOf "_law_case" "_law_case" (defArgs s__law_case) (defBody s__law_case) (defScope s__law_case) .none kV__law_case dc__law_case pm__law_case an__law_case cd__law_case ct__law_case), sl__law_case⟩) (c__law_case : PySem.W.codeIn K cd__law_case "_law_case" = true) (k__law_case : PySem.W.keepIn K (.ref f__law_case) = true)
    (a__law_after : PySem.W.nsIn K mainGlobals "_law_after" = some (some (.ref f__law_after))) (l__law_after : K.lookup f__law_after = some ⟨oc__law_after, od__law_after, .func (PySem.W.fnOf "_law_after" "_law_after" (defArgs s__law_after) (defBody s__law_after) (defScope s__law_after) .none kV__law_after dc__law_after pm__law_after an__law_after cd__law_after ct__law_after), sl__law_after⟩) (c__law_after : PySem.W.codeIn K cd__law_after "_law_after" = true) (k__law_after : PySem.W.keepIn K (.ref f__law_after) = true)
    (a__law_laps : PySem.W.nsIn K mainGlobals "_law_laps" = some (some (.ref f__law_laps))) (l__law_laps : K.lookup f__law_laps = some ⟨oc__law_laps, od__law_laps, .func (PySem.W.fnOf "_law_laps" "_law_laps" (defArgs s__law_laps) (defBody s__law_laps) (defScope s__law_laps) .none kV__law_laps dc__law_laps pm__law_laps an__law_laps cd__law_laps ct__law_laps), sl__law_laps⟩) (c__law_laps : PySem.W.codeIn K cd__law_laps "_law_laps" = true) (k__law_laps : PySem.W.keepIn K (.ref f__law_laps) = true)
    (a__law_next : PySem.W.nsIn K mainGlobals "_law_next" = some (some (.ref f__law_next))) (l__law_next : K.lookup f__law_next = some ⟨oc__law_next, od__law_next, .func (PySem.W.fnOf "_law_next" "_law_next" (defArgs s__law_next) (defBody s__law_next) (defScope s__law_next) .none kV__law_next dc__law_next pm__law_next an__law_next cd__law_next ct__law_next), sl__law_next⟩) (c__law_next : PySem.W.codeIn K cd__law_next "_law_next" = true) (k__law_next : PySem.W.keepIn K (.ref f__law_next) = true)
    (a__law_laps_ok : PySem.W.nsIn K mainGlobals "_law_laps_ok" = some (some (.ref f__law_laps_ok))) (l__law_laps_ok : K.lookup f__law_laps_ok = some ⟨oc__law_laps_ok, od__law_laps_ok, .func (PySem.W.fnOf "_law_laps_ok" "_law_laps_ok" (defArgs s__law_laps_ok) (defBody s__law_laps_ok) (defScope s__law_laps_ok) .none kV__law_laps_ok dc__law_laps_ok pm__law_laps_ok an__law_laps_ok cd__law_laps_ok ct__law_laps_ok), sl__law_laps_ok⟩) (c__law_laps_ok : PySem.W.codeIn K cd__law_laps_ok "_law_laps_ok" = true) (k__law_laps_ok : PySem.W.keepIn K (.ref f__law_laps_ok) = true)
    (a__law_stays : PySem.W.nsIn K mainGlobals "_law_stays" = some (some (.ref f__law_stays))) (l__law_stays : K.lookup f__law_stays = some ⟨oc__law_stays, od__law_stays, .func (PySem.W.fnOf "_law_stays" "_law_stays" (defArgs s__law_stays) (defBody s__law_stays) (defScope s__law_stays) .none kV__law_stays dc__law_stays pm__law_stays an__law_stays cd__law_stays ct__law_stays), sl__law_stays⟩) (c__law_stays : PySem.W.codeIn K cd__law_stays "_law_stays" = true) (k__law_stays : PySem.W.keepIn K (.ref f__law_stays) = true)
    (a__law_refused : PySem.W.nsIn K mainGlobals "_law_refused" = some (some (.ref f__law_refused))) (l__law_refused : K.lookup f__law_refused = some ⟨oc__law_refused, od__law_refused, .func (PySem.W.fnOf "_law_refused" "_law_refused" (defArgs s__law_refused) (defBody s__law_refused) (defScope s__law_refused) .none kV__law_refused dc__law_refused pm__law_refused an__law_refused cd__law_refused ct__law_refused), sl__law_refused⟩) (c__law_refused : PySem.W.codeIn K cd__law_refused "_law_refused" = true) (k__law_refused : PySem.W.keepIn K (.ref f__law_refused) = true)
    (a_law : PySem.W.nsIn K mainGlobals "law" = some (some (.ref f_law))) (l_law : K.lookup f_law = some ⟨oc_law, od_law, .func (PySem.W.fnOf "law" "law" (defArgs s_law) (defBody s_law) (defScope s_law) .none kV_law dc_law pm_law an_law cd_law ct_law), sl_law⟩) (c_law : PySem.W.codeIn K cd_law "law" = true) (k_law : PySem.W.keepIn K (.ref f_law) = true)
    (zgcd : PySem.W.nsIn K mainGlobals "gcd" = some (some (.builtin "math.gcd")))
    (zlen : PySem.W.nsIn K mainGlobals "len" = some none)
    (zabs : PySem.W.nsIn K mainGlobals "abs" = some none)
    (zmax : PySem.W.nsIn K mainGlobals "max" = some none)
    (zint : PySem.W.nsIn K mainGlobals "int" = some none)
    (zisinstance : PySem.W.nsIn K mainGlobals "isinstance" = some none)
    (zrange : PySem.W.nsIn K mainGlobals "range" = some none)
    (zenumerate : PySem.W.nsIn K mainGlobals "enumerate" = some none)
    (zlist : PySem.W.nsIn K mainGlobals "list" = some none)
    (ztuple : PySem.W.nsIn K mainGlobals "tuple" = some none)
    (zstr : PySem.W.nsIn K mainGlobals "str" = some none)
    (zbool : PySem.W.nsIn K mainGlobals "bool" = some none)
    (zdict : PySem.W.nsIn K mainGlobals "dict" = some none)
    : ∃ fd : FuncData, (∀ (s : Shared) (v : Value), BindsTo s fd ⟨[v], []⟩ [("_law_script", v)]) ∧ ∀ base : Heap, K.In base → base.Ns mainGlobals mg → FnOk l.prog w K mg base CX0 9 fa fd ["_law_script"] (spLaw K) := by
  have e := hfa.symm.trans (PySem.W.mg_of X G a_law)
  cases e
  have T : Bn mg := ⟨PySem.W.mg_of X G zgcd, PySem.W.mg_none_of X G zlen, PySem.W.mg_none_of X G zabs, PySem.W.mg_none_of X G zmax, PySem.W.mg_none_of X G zint, PySem.W.mg_none_of X G zisinstance, PySem.W.mg_none_of X G zrange, PySem.W.mg_none_of X G zenumerate, PySem.W.mg_none_of X G zlist, PySem.W.mg_none_of X G ztuple, PySem.W.mg_none_of X G zstr, PySem.W.mg_none_of X G zbool, PySem.W.mg_none_of X G zdict⟩
  have hR_rational : FunD K "rational" "rational" (defArgs s_rational) (defBody s_rational) (defScope s_rational) [.int 1] [] f_rational _ := ⟨⟨_, _, _, _, _, _, _, _, _, _, rfl, l_rational, c_rational, .inr ⟨nofun, dV_rational, _, [.int 1 dtk_rational], dn_rational, rfl, ldf_rational, rfl, .cons ⟨dtk_rational, rfl⟩ .nil⟩, .inl rfl⟩, k_rational⟩
  obtain ⟨ds_rational, rds_rational, bR_rational⟩ := hR_rational.binds1 (ps := ["n", "d"]) 2 1 nofun rfl fun T kV doc pm an cdv ct us its hu hi => match us, its, hu, hi with | [_, _], [_], _, _ => ⟨_, rfl, rfl⟩
  cases rds_rational
  have F_add := fun_mk (st := s_add) l_add c_add k_add
  have B_add := F_add.binds (ps := ["a", "b"]) fun _ _ _ _ _ _ us hl => match us, hl with | [_, _], _ => rfl
  have F_subtract := fun_mk (st := s_subtract) l_subtract c_subtract k_subtract
  have B_subtract := F_subtract.binds (ps := ["a", "b"]) fun _ _ _ _ _ _ us hl => match us, hl with | [_, _], _ => rfl
  have F_multiply := fun_mk (st := s_multiply) l_multiply c_multiply k_multiply
  have B_multiply := F_multiply.binds (ps := ["a", "b"]) fun _ _ _ _ _ _ us hl => match us, hl with | [_, _], _ => rfl
  have F_negate := fun_mk (st := s_negate) l_negate c_negate k_negate
  have B_negate := F_negate.binds (ps := ["a"]) fun _ _ _ _ _ _ us hl => match us, hl with | [_], _ => rfl
  have F_divide := fun_mk (st := s_divide) l_divide c_divide k_divide
  have B_divide := F_divide.binds (ps := ["a", "b"]) fun _ _ _ _ _ _ us hl => match us, hl with | [_, _], _ => rfl
  have F_compare := fun_mk (st := s_compare) l_compare c_compare k_compare
  have B_compare := F_compare.binds (ps := ["a", "b"]) fun _ _ _ _ _ _ us hl => match us, hl with | [_, _], _ => rfl
  have F_larger := fun_mk (st := s_larger) l_larger c_larger k_larger
  have B_larger := F_larger.binds (ps := ["a", "b"]) fun _ _ _ _ _ _ us hl => match us, hl with | [_, _], _ => rfl
  have F_floor_of := fun_mk (st := s_floor_of) l_floor_of c_floor_of k_floor_of
  have B_floor_of := F_floor_of.binds (ps := ["a"]) fun _ _ _ _ _ _ us hl => match us, hl with | [_], _ => rfl
  have F_require_not_below_zero := fun_mk (st := s_require_not_below_zero) l_require_not_below_zero c_require_not_below_zero k_require_not_below_zero
  have B_require_not_below_zero := F_require_not_below_zero.binds (ps := ["bound"]) fun _ _ _ _ _ _ us hl => match us, hl with | [_], _ => rfl
  have F__require_slew_and_drift := fun_mk (st := s__require_slew_and_drift) l__require_slew_and_drift c__require_slew_and_drift k__require_slew_and_drift
  have B__require_slew_and_drift := F__require_slew_and_drift.binds (ps := ["slew", "drift"]) fun _ _ _ _ _ _ us hl => match us, hl with | [_, _], _ => rfl
  have F__require_lap := fun_mk (st := s__require_lap) l__require_lap c__require_lap k__require_lap
  have B__require_lap := F__require_lap.binds (ps := ["bound", "half", "lap", "slew", "drift"]) fun _ _ _ _ _ _ us hl => match us, hl with | [_, _, _, _, _], _ => rfl
  have F__bound_behind := fun_mk (st := s__bound_behind) l__bound_behind c__bound_behind k__bound_behind
  have B__bound_behind := F__bound_behind.binds (ps := ["bound", "half", "raw_units", "slew", "drift"]) fun _ _ _ _ _ _ us hl => match us, hl with | [_, _, _, _, _], _ => rfl
  have F__law_store := fun_mk (st := s__law_store) l__law_store c__law_store k__law_store
  have B__law_store := F__law_store.binds (ps := ["_law_script"]) fun _ _ _ _ _ _ us hl => match us, hl with | [_], _ => rfl
  have F__law_feed := fun_mk (st := s__law_feed) l__law_feed c__law_feed k__law_feed
  have B__law_feed := F__law_feed.binds (ps := ["_law_store_here"]) fun _ _ _ _ _ _ us hl => match us, hl with | [_], _ => rfl
  have F__law_mixed := fun_mk (st := s__law_mixed) l__law_mixed c__law_mixed k__law_mixed
  have B__law_mixed := F__law_mixed.binds (ps := ["_law_store_here"]) fun _ _ _ _ _ _ us hl => match us, hl with | [_], _ => rfl
  have F__law_take := fun_mk (st := s__law_take) l__law_take c__law_take k__law_take
  have B__law_take := F__law_take.binds (ps := ["_law_store_here", "_law_many"]) fun _ _ _ _ _ _ us hl => match us, hl with | [_, _], _ => rfl
  have F__law_pick := fun_mk (st := s__law_pick) l__law_pick c__law_pick k__law_pick
  have B__law_pick := F__law_pick.binds (ps := ["_law_store_here", "_law_things"]) fun _ _ _ _ _ _ us hl => match us, hl with | [_, _], _ => rfl
  have F__law_size := fun_mk (st := s__law_size) l__law_size c__law_size k__law_size
  have B__law_size := F__law_size.binds (ps := ["_law_store_here", "_law_least", "_law_top"]) fun _ _ _ _ _ _ us hl => match us, hl with | [_, _, _], _ => rfl
  have F__law_is_int := fun_mk (st := s__law_is_int) l__law_is_int c__law_is_int k__law_is_int
  have B__law_is_int := F__law_is_int.binds (ps := ["_law_value"]) fun _ _ _ _ _ _ us hl => match us, hl with | [_], _ => rfl
  have F__law_same := fun_mk (st := s__law_same) l__law_same c__law_same k__law_same
  have B__law_same := F__law_same.binds (ps := ["_law_value", "_law_due"]) fun _ _ _ _ _ _ us hl => match us, hl with | [_, _], _ => rfl
  have F__law_frac := fun_mk (st := s__law_frac) l__law_frac c__law_frac k__law_frac
  have B__law_frac := F__law_frac.binds (ps := ["_law_n", "_law_d"]) fun _ _ _ _ _ _ us hl => match us, hl with | [_, _], _ => rfl
  have F__law_plus := fun_mk (st := s__law_plus) l__law_plus c__law_plus k__law_plus
  have B__law_plus := F__law_plus.binds (ps := ["_law_a", "_law_b"]) fun _ _ _ _ _ _ us hl => match us, hl with | [_, _], _ => rfl
  have F__law_minus := fun_mk (st := s__law_minus) l__law_minus c__law_minus k__law_minus
  have B__law_minus := F__law_minus.binds (ps := ["_law_a", "_law_b"]) fun _ _ _ _ _ _ us hl => match us, hl with | [_, _], _ => rfl
  have F__law_times := fun_mk (st := s__law_times) l__law_times c__law_times k__law_times
  have B__law_times := F__law_times.binds (ps := ["_law_a", "_law_b"]) fun _ _ _ _ _ _ us hl => match us, hl with | [_, _], _ => rfl
  have F__law_below := fun_mk (st := s__law_below) l__law_below c__law_below k__law_below
  have B__law_below := F__law_below.binds (ps := ["_law_a", "_law_b"]) fun _ _ _ _ _ _ us hl => match us, hl with | [_, _], _ => rfl
  have F__law_part := fun_mk (st := s__law_part) l__law_part c__law_part k__law_part
  have B__law_part := F__law_part.binds (ps := ["_law_store_here"]) fun _ _ _ _ _ _ us hl => match us, hl with | [_], _ => rfl
  have F__law_spare := fun_mk (st := s__law_spare) l__law_spare c__law_spare k__law_spare
  have B__law_spare := F__law_spare.binds (ps := ["_law_store_here"]) fun _ _ _ _ _ _ us hl => match us, hl with | [_], _ => rfl
  have F__law_above := fun_mk (st := s__law_above) l__law_above c__law_above k__law_above
  have B__law_above := F__law_above.binds (ps := ["_law_store_here"]) fun _ _ _ _ _ _ us hl => match us, hl with | [_], _ => rfl
  have F__law_slews := fun_mk (st := s__law_slews) l__law_slews c__law_slews k__law_slews
  have B__law_slews := F__law_slews.binds (ps := ["_law_store_here"]) fun _ _ _ _ _ _ us hl => match us, hl with | [_], _ => rfl
  have F__law_negative := fun_mk (st := s__law_negative) l__law_negative c__law_negative k__law_negative
  have B__law_negative := F__law_negative.binds (ps := ["_law_store_here"]) fun _ _ _ _ _ _ us hl => match us, hl with | [_], _ => rfl
  have F__law_not_above := fun_mk (st := s__law_not_above) l__law_not_above c__law_not_above k__law_not_above
  have B__law_not_above := F__law_not_above.binds (ps := ["_law_store_here"]) fun _ _ _ _ _ _ us hl => match us, hl with | [_], _ => rfl
  have F__law_bad_slew := fun_mk (st := s__law_bad_slew) l__law_bad_slew c__law_bad_slew k__law_bad_slew
  have B__law_bad_slew := F__law_bad_slew.binds (ps := ["_law_store_here"]) fun _ _ _ _ _ _ us hl => match us, hl with | [_], _ => rfl
  have F__law_bad_drift := fun_mk (st := s__law_bad_drift) l__law_bad_drift c__law_bad_drift k__law_bad_drift
  have B__law_bad_drift := F__law_bad_drift.binds (ps := ["_law_store_here", "_law_bend"]) fun _ _ _ _ _ _ us hl => match us, hl with | [_, _], _ => rfl
  have F__law_bad_lap := fun_mk (st := s__law_bad_lap) l__law_bad_lap c__law_bad_lap k__law_bad_lap
  have B__law_bad_lap := F__law_bad_lap.binds (ps := ["_law_store_here"]) fun _ _ _ _ _ _ us hl => match us, hl with | [_], _ => rfl
  have F__law_case := fun_mk (st := s__law_case) l__law_case c__law_case k__law_case
  have B__law_case := F__law_case.binds (ps := ["_law_store_here"]) fun _ _ _ _ _ _ us hl => match us, hl with | [_], _ => rfl
  have F__law_after := fun_mk (st := s__law_after) l__law_after c__law_after k__law_after
  have B__law_after := F__law_after.binds (ps := ["_law_args", "_law_laps_here"]) fun _ _ _ _ _ _ us hl => match us, hl with | [_, _], _ => rfl
  have F__law_laps := fun_mk (st := s__law_laps) l__law_laps c__law_laps k__law_laps
  have B__law_laps := F__law_laps.binds (ps := ["_law_args"]) fun _ _ _ _ _ _ us hl => match us, hl with | [_], _ => rfl
  have F__law_next := fun_mk (st := s__law_next) l__law_next c__law_next k__law_next
  have B__law_next := F__law_next.binds (ps := ["_law_args", "_law_bound"]) fun _ _ _ _ _ _ us hl => match us, hl with | [_, _], _ => rfl
  have F__law_laps_ok := fun_mk (st := s__law_laps_ok) l__law_laps_ok c__law_laps_ok k__law_laps_ok
  have B__law_laps_ok := F__law_laps_ok.binds (ps := ["_law_args", "_law_told"]) fun _ _ _ _ _ _ us hl => match us, hl with | [_, _], _ => rfl
  have F__law_stays := fun_mk (st := s__law_stays) l__law_stays c__law_stays k__law_stays
  have B__law_stays := F__law_stays.binds (ps := ["_law_args", "_law_told"]) fun _ _ _ _ _ _ us hl => match us, hl with | [_, _], _ => rfl
  have F__law_refused := fun_mk (st := s__law_refused) l__law_refused c__law_refused k__law_refused
  have B__law_refused := F__law_refused.binds (ps := ["_law_args"]) fun _ _ _ _ _ _ us hl => match us, hl with | [_], _ => rfl
  have F_law := fun_mk (st := s_law) l_law c_law k_law
  have B_law := F_law.binds (ps := ["_law_script"]) fun _ _ _ _ _ _ us hl => match us, hl with | [_], _ => rfl
  have F_bound_after := fun_mk (st := s_bound_after) l_bound_after c_bound_after k_bound_after
  have B_bound_after := kbn_of (n := 2) (ps := ["bound", "half", "lap", "slew", "drift"]) (ks := ["lap", "slew", "drift"]) F_bound_after fun _ _ _ _ _ _ us ws h1 h2 => match us, h1, ws, h2 with | [_, _], _, [_, _, _], _ => rfl
  have F_laps_until := fun_mk (st := s_laps_until) l_laps_until c_laps_until k_laps_until
  have B_laps_until := kbn_of (n := 3) (ps := ["bound", "half", "goal", "lap", "slew", "drift"]) (ks := ["lap", "slew", "drift"]) F_laps_until fun _ _ _ _ _ _ us ws h1 h2 => match us, h1, ws, h2 with | [_, _, _], _, [_, _, _], _ => rfl
  refine ⟨PySem.W.fnOf "law" "law" (defArgs s_law) (defBody s_law) (defScope s_law) .none kV_law dc_law pm_law an_law cd_law ct_law, fun s v => .of_eq rfl, fun base _ _ => ?_⟩
  have ZZERO : CnZERO K mg aZERO := cnZERO (PySem.W.mg_of X G a0ZERO) fun H => .inr ⟨_, _, _, l0ZERO, rfl, rfl, (by show 2 ≤ sizeLine; decide), (.cons ⟨tZERO0, rfl⟩ (.cons ⟨tZERO1, rfl⟩ .nil))⟩
  have ZONE : CnONE K mg aONE := cnONE (PySem.W.mg_of X G a0ONE) fun H => .inr ⟨_, _, _, l0ONE, rfl, rfl, (by show 2 ≤ sizeLine; decide), (.cons ⟨tONE0, rfl⟩ (.cons ⟨tONE1, rfl⟩ .nil))⟩
  exact law_ok T ZZERO ZONE ⟨⟨_, _, _, _, _, _, _, _, _, _, rfl, l_rational, c_rational⟩, k_rational⟩ (PySem.W.mg_of X G a_rational) bR_rational
    (errTxt (PySem.W.mg_of X G aC_BadBound) xL_BadBound rv_BadBound sa_BadBound ga_BadBound gg_BadBound nb_BadBound a1_BadBound t1_BadBound l1_BadBound c1_BadBound kC_BadBound eC_BadBound tC_BadBound hC_BadBound (exm_of eC_BadBound iC_BadBound tC_BadBound sC_BadBound))
    (errTxt (PySem.W.mg_of X G aC_BadRate) xL_BadRate rv_BadRate sa_BadRate ga_BadRate gg_BadRate nb_BadRate a1_BadRate t1_BadRate l1_BadRate c1_BadRate kC_BadRate eC_BadRate tC_BadRate hC_BadRate (exm_of eC_BadRate iC_BadRate tC_BadRate sC_BadRate))
    ⟨ga_BadBound, gg_BadBound, eC_BadBound, hC_BadBound, xa_BadBound, xn, xt, xm_BadBound⟩
    ⟨ga_BadRate, gg_BadRate, eC_BadRate, hC_BadRate, xa_BadRate, xn, xt, xm_BadRate⟩
    (PySem.W.mg_of X G aC_VerdictError)
    (PySem.W.mg_of X G aC_EmptySpan)
    (PySem.W.mg_of X G aC_TurnsBack)
    (exm_of eC_BadBound iC_BadBound tC_BadBound je_BadRate_BadBound)
    (kit_of1 nk_BadBound_VerdictError iC_VerdictError tC_VerdictError jk_BadBound_VerdictError)
    (kit_of1 nk_BadBound_BadRate iC_BadRate tC_BadRate jk_BadBound_BadRate)
    (kit_of1 nk_BadBound_EmptySpan iC_EmptySpan tC_EmptySpan jk_BadBound_EmptySpan)
    (kit_of1 nk_BadRate_VerdictError iC_VerdictError tC_VerdictError jk_BadRate_VerdictError)
    (kit_of1 nk_BadRate_TurnsBack iC_TurnsBack tC_TurnsBack jk_BadRate_TurnsBack)
    (kit_of1 nk_BadRate_EmptySpan iC_EmptySpan tC_EmptySpan jk_BadRate_EmptySpan)
    ⟨F_bound_after, PySem.W.mg_of X G a_bound_after⟩ B_bound_after
    ⟨F_laps_until, PySem.W.mg_of X G a_laps_until⟩ B_laps_until
    ⟨F_add, PySem.W.mg_of X G a_add, B_add⟩
    ⟨F_subtract, PySem.W.mg_of X G a_subtract, B_subtract⟩
    ⟨F_multiply, PySem.W.mg_of X G a_multiply, B_multiply⟩
    ⟨F_negate, PySem.W.mg_of X G a_negate, B_negate⟩
    ⟨F_divide, PySem.W.mg_of X G a_divide, B_divide⟩
    ⟨F_compare, PySem.W.mg_of X G a_compare, B_compare⟩
    ⟨F_larger, PySem.W.mg_of X G a_larger, B_larger⟩
    ⟨F_floor_of, PySem.W.mg_of X G a_floor_of, B_floor_of⟩
    ⟨F_require_not_below_zero, PySem.W.mg_of X G a_require_not_below_zero, B_require_not_below_zero⟩
    ⟨F__require_slew_and_drift, PySem.W.mg_of X G a__require_slew_and_drift, B__require_slew_and_drift⟩
    ⟨F__require_lap, PySem.W.mg_of X G a__require_lap, B__require_lap⟩
    ⟨F__bound_behind, PySem.W.mg_of X G a__bound_behind, B__bound_behind⟩
    ⟨F__law_store, PySem.W.mg_of X G a__law_store, B__law_store⟩
    ⟨F__law_feed, PySem.W.mg_of X G a__law_feed, B__law_feed⟩
    ⟨F__law_mixed, PySem.W.mg_of X G a__law_mixed, B__law_mixed⟩
    ⟨F__law_take, PySem.W.mg_of X G a__law_take, B__law_take⟩
    ⟨F__law_pick, PySem.W.mg_of X G a__law_pick, B__law_pick⟩
    ⟨F__law_size, PySem.W.mg_of X G a__law_size, B__law_size⟩
    ⟨F__law_is_int, PySem.W.mg_of X G a__law_is_int, B__law_is_int⟩
    ⟨F__law_same, PySem.W.mg_of X G a__law_same, B__law_same⟩
    ⟨F__law_frac, PySem.W.mg_of X G a__law_frac, B__law_frac⟩
    ⟨F__law_plus, PySem.W.mg_of X G a__law_plus, B__law_plus⟩
    ⟨F__law_minus, PySem.W.mg_of X G a__law_minus, B__law_minus⟩
    ⟨F__law_times, PySem.W.mg_of X G a__law_times, B__law_times⟩
    ⟨F__law_below, PySem.W.mg_of X G a__law_below, B__law_below⟩
    ⟨F__law_part, PySem.W.mg_of X G a__law_part, B__law_part⟩
    ⟨F__law_spare, PySem.W.mg_of X G a__law_spare, B__law_spare⟩
    ⟨F__law_above, PySem.W.mg_of X G a__law_above, B__law_above⟩
    ⟨F__law_slews, PySem.W.mg_of X G a__law_slews, B__law_slews⟩
    ⟨F__law_negative, PySem.W.mg_of X G a__law_negative, B__law_negative⟩
    ⟨F__law_not_above, PySem.W.mg_of X G a__law_not_above, B__law_not_above⟩
    ⟨F__law_bad_slew, PySem.W.mg_of X G a__law_bad_slew, B__law_bad_slew⟩
    ⟨F__law_bad_drift, PySem.W.mg_of X G a__law_bad_drift, B__law_bad_drift⟩
    ⟨F__law_bad_lap, PySem.W.mg_of X G a__law_bad_lap, B__law_bad_lap⟩
    ⟨F__law_case, PySem.W.mg_of X G a__law_case, B__law_case⟩
    ⟨F__law_after, PySem.W.mg_of X G a__law_after, B__law_after⟩
    ⟨F__law_laps, PySem.W.mg_of X G a__law_laps, B__law_laps⟩
    ⟨F__law_next, PySem.W.mg_of X G a__law_next, B__law_next⟩
    ⟨F__law_laps_ok, PySem.W.mg_of X G a__law_laps_ok, B__law_laps_ok⟩
    ⟨F__law_stays, PySem.W.mg_of X G a__law_stays, B__law_stays⟩
    ⟨F__law_refused, PySem.W.mg_of X G a__law_refused, B__law_refused⟩
    ⟨F_law, PySem.W.mg_of X G a_law, B_law⟩
theorem walk {l : PySem.W.OpenLaw} {q : Program} {loose : List Str} {XP : (Str → Option Value) → Heap → Prop} {YP : World → Heap → Prop} {d : DefRec} {K : Params → PySem.W.Frag} (hn : l.most = some 63) (hdf : d.params.defaults = [])
    (hY : ∀ (w : World) (h : Heap), YP w h → (K w.params).In h)
    (F : ∀ (w : World) (mg : Str → Option Value) (fa : Addr) (h : Heap), (K w.params).In h → h.Ns mainGlobals mg → mg d.name = some (.ref fa) →
      ∃ fd : FuncData, (∀ (s : Shared) (u : Value), BindsTo s fd ⟨[u], []⟩ [("_law_script", u)]) ∧ ∀ base : Heap, (K w.params).In base → base.Ns mainGlobals mg → FnOk l.prog w (K w.params) mg base CX0 9 fa fd ["_law_script"] (spLaw (K w.params))) :
    PySem.W.WalkO q loose XP YP l.row.toRowW d [] (fun f vs => PySem.call f vs) :=
  L2.walk_of (n := 63) (k := 9) (x := "_law_script") (CX := fun _ => CX0) (sp := fun w => spLaw (K w.params)) hn (by decide) hdf ⟨rfl, by decide, by decide⟩ hY F (fun _ _ a ns hl _ hS => ⟨a, ns, rfl, hS, hl, fun _ => rfl⟩) fun _ _ _ _ _ z => z
end Vk
open PySem PySem.W PyProof.Rows
set_option maxRecDepth 100000 in
set_option maxHeartbeats 0 in
theorem PySem.Challenge.cw_clockverdict_k33_laps_until_holds : PySem.Challenge.rw_clockverdict_k33_laps_until.Holds := by
  w_on; o_law; k_head; (case hw => w_witness2)
  k_fill
  refine Vk.walk (l := PySem.Challenge.rw_clockverdict_k33_laps_until) rfl rfl (fun w h Y => PySem.W.kIn_of Y) ?F
  case F =>
    intro w mg fa h KX G hmg
    refine' Vk.all_mk KX G hmg ?ldf_rational ?a0ZERO ?l0ZERO ?a0ONE ?l0ONE ?aC_BadBound ?xL_BadBound ?rv_BadBound ?sa_BadBound ?ga_BadBound ?gg_BadBound ?nb_BadBound ?a1_BadBound ?t1_BadBound ?l1_BadBound ?c1_BadBound ?kC_BadBound ?eC_BadBound ?tC_BadBound ?hC_BadBound ?iC_BadBound ?sC_BadBound ?aC_BadRate ?xL_BadRate ?rv_BadRate ?sa_BadRate ?ga_BadRate ?gg_BadRate ?nb_BadRate ?a1_BadRate ?t1_BadRate ?l1_BadRate ?c1_BadRate ?kC_BadRate ?eC_BadRate ?tC_BadRate ?hC_BadRate ?iC_BadRate ?sC_BadRate ?xa_BadBound ?xm_BadBound ?xa_BadRate ?xm_BadRate ?xn ?xt ?aC_VerdictError ?tC_VerdictError ?iC_VerdictError ?aC_EmptySpan ?tC_EmptySpan ?iC_EmptySpan ?aC_TurnsBack ?tC_TurnsBack ?iC_TurnsBack ?je_BadRate_BadBound ?ne_BadRate_BadBound ?jk_BadBound_VerdictError ?nk_BadBound_VerdictError ?jk_BadBound_BadRate ?nk_BadBound_BadRate ?jk_BadBound_EmptySpan ?nk_BadBound_EmptySpan ?jk_BadRate_VerdictError ?nk_BadRate_VerdictError ?jk_BadRate_TurnsBack ?nk_BadRate_TurnsBack ?jk_BadRate_EmptySpan ?nk_BadRate_EmptySpan ?a_rational ?l_rational ?c_rational ?k_rational ?a_add ?l_add ?c_add ?k_add ?a_subtract ?l_subtract ?c_subtract ?k_subtract ?a_multiply ?l_multiply ?c_multiply ?k_multiply ?a_negate ?l_negate ?c_negate ?k_negate ?a_divide ?l_divide ?c_divide ?k_divide ?a_compare ?l_compare ?c_compare ?k_compare ?a_larger ?l_larger ?c_larger ?k_larger ?a_floor_of ?l_floor_of ?c_floor_of ?k_floor_of ?a_require_not_below_zero ?l_require_not_below_zero ?c_require_not_below_zero ?k_require_not_below_zero ?a__require_slew_and_drift ?l__require_slew_and_drift ?c__require_slew_and_drift ?k__require_slew_and_drift ?a__require_lap ?l__require_lap ?c__require_lap ?k__require_lap ?a__bound_behind ?l__bound_behind ?c__bound_behind ?k__bound_behind ?a_bound_after ?l_bound_after ?c_bound_after ?k_bound_after ?a_laps_until ?l_laps_until ?c_laps_until ?k_laps_until ?a__law_store ?l__law_store ?c__law_store ?k__law_store ?a__law_feed ?l__law_feed ?c__law_feed ?k__law_feed ?a__law_mixed ?l__law_mixed ?c__law_mixed ?k__law_mixed ?a__law_take ?l__law_take ?c__law_take ?k__law_take ?a__law_pick ?l__law_pick ?c__law_pick ?k__law_pick ?a__law_size ?l__law_size ?c__law_size ?k__law_size ?a__law_is_int ?l__law_is_int ?c__law_is_int ?k__law_is_int ?a__law_same ?l__law_same ?c__law_same ?k__law_same ?a__law_frac ?l__law_frac ?c__law_frac ?k__law_frac ?a__law_plus ?l__law_plus ?c__law_plus ?k__law_plus ?a__law_minus ?l__law_minus ?c__law_minus ?k__law_minus ?a__law_times ?l__law_times ?c__law_times ?k__law_times ?a__law_below ?l__law_below ?c__law_below ?k__law_below ?a__law_part ?l__law_part ?c__law_part ?k__law_part ?a__law_spare ?l__law_spare ?c__law_spare ?k__law_spare ?a__law_above ?l__law_above ?c__law_above ?k__law_above ?a__law_slews ?l__law_slews ?c__law_slews ?k__law_slews ?a__law_negative ?l__law_negative ?c__law_negative ?k__law_negative ?a__law_not_above ?l__law_not_above ?c__law_not_above ?k__law_not_above ?a__law_bad_slew ?l__law_bad_slew ?c__law_bad_slew ?k__law_bad_slew ?a__law_bad_drift ?l__law_bad_drift ?c__law_bad_drift ?k__law_bad_drift ?a__law_bad_lap ?l__law_bad_lap ?c__law_bad_lap ?k__law_bad_lap ?a__law_case ?l__law_case ?c__law_case ?k__law_case ?a__law_after ?l__law_after ?c__law_after ?k__law_after ?a__law_laps ?l__law_laps ?c__law_laps ?k__law_laps ?a__law_next ?l__law_next ?c__law_next ?k__law_next ?a__law_laps_ok ?l__law_laps_ok ?c__law_laps_ok ?k__law_laps_ok ?a__law_stays ?l__law_stays ?c__law_stays ?k__law_stays ?a__law_refused ?l__law_refused ?c__law_refused ?k__law_refused ?a_law ?l_law ?c_law ?k_law ?zgcd ?zlen ?zabs ?zmax ?zint ?zisinstance ?zrange ?zenumerate ?zlist ?ztuple ?zstr ?zbool ?zdict
    (case a_rational => k_is); (case l_rational => k_is); (case c_rational => k_is); (case k_rational => k_is)
    (case a_add => k_is); (case l_add => k_is); (case c_add => k_is); (case k_add => k_is)
    (case a_subtract => k_is); (case l_subtract => k_is); (case c_subtract => k_is); (case k_subtract => k_is)
    (case a_multiply => k_is); (case l_multiply => k_is); (case c_multiply => k_is); (case k_multiply => k_is)
    (case a_negate => k_is); (case l_negate => k_is); (case c_negate => k_is); (case k_negate => k_is)
    (case a_divide => k_is); (case l_divide => k_is); (case c_divide => k_is); (case k_divide => k_is)
    (case a_compare => k_is); (case l_compare => k_is); (case c_compare => k_is); (case k_compare => k_is)
    (case a_larger => k_is); (case l_larger => k_is); (case c_larger => k_is); (case k_larger => k_is)
    (case a_floor_of => k_is); (case l_floor_of => k_is); (case c_floor_of => k_is); (case k_floor_of => k_is)
    (case a_require_not_below_zero => k_is); (case l_require_not_below_zero => k_is); (case c_require_not_below_zero => k_is); (case k_require_not_below_zero => k_is)
    (case a__require_slew_and_drift => k_is); (case l__require_slew_and_drift => k_is); (case c__require_slew_and_drift => k_is); (case k__require_slew_and_drift => k_is)
    (case a__require_lap => k_is); (case l__require_lap => k_is); (case c__require_lap => k_is); (case k__require_lap => k_is)
    (case a__bound_behind => k_is); (case l__bound_behind => k_is); (case c__bound_behind => k_is); (case k__bound_behind => k_is)
    (case a_bound_after => k_is); (case l_bound_after => k_is); (case c_bound_after => k_is); (case k_bound_after => k_is)
    (case a_laps_until => k_is); (case l_laps_until => k_is); (case c_laps_until => k_is); (case k_laps_until => k_is)
    (case a__law_store => k_is); (case l__law_store => k_is); (case c__law_store => k_is); (case k__law_store => k_is)
    (case a__law_feed => k_is); (case l__law_feed => k_is); (case c__law_feed => k_is); (case k__law_feed => k_is)
    (case a__law_mixed => k_is); (case l__law_mixed => k_is); (case c__law_mixed => k_is); (case k__law_mixed => k_is)
    (case a__law_take => k_is); (case l__law_take => k_is); (case c__law_take => k_is); (case k__law_take => k_is)
    (case a__law_pick => k_is); (case l__law_pick => k_is); (case c__law_pick => k_is); (case k__law_pick => k_is)
    (case a__law_size => k_is); (case l__law_size => k_is); (case c__law_size => k_is); (case k__law_size => k_is)
    (case a__law_is_int => k_is); (case l__law_is_int => k_is); (case c__law_is_int => k_is); (case k__law_is_int => k_is)
    (case a__law_same => k_is); (case l__law_same => k_is); (case c__law_same => k_is); (case k__law_same => k_is)
    (case a__law_frac => k_is); (case l__law_frac => k_is); (case c__law_frac => k_is); (case k__law_frac => k_is)
    (case a__law_plus => k_is); (case l__law_plus => k_is); (case c__law_plus => k_is); (case k__law_plus => k_is)
    (case a__law_minus => k_is); (case l__law_minus => k_is); (case c__law_minus => k_is); (case k__law_minus => k_is)
    (case a__law_times => k_is); (case l__law_times => k_is); (case c__law_times => k_is); (case k__law_times => k_is)
    (case a__law_below => k_is); (case l__law_below => k_is); (case c__law_below => k_is); (case k__law_below => k_is)
    (case a__law_part => k_is); (case l__law_part => k_is); (case c__law_part => k_is); (case k__law_part => k_is)
    (case a__law_spare => k_is); (case l__law_spare => k_is); (case c__law_spare => k_is); (case k__law_spare => k_is)
    (case a__law_above => k_is); (case l__law_above => k_is); (case c__law_above => k_is); (case k__law_above => k_is)
    (case a__law_slews => k_is); (case l__law_slews => k_is); (case c__law_slews => k_is); (case k__law_slews => k_is)
    (case a__law_negative => k_is); (case l__law_negative => k_is); (case c__law_negative => k_is); (case k__law_negative => k_is)
    (case a__law_not_above => k_is); (case l__law_not_above => k_is); (case c__law_not_above => k_is); (case k__law_not_above => k_is)
    (case a__law_bad_slew => k_is); (case l__law_bad_slew => k_is); (case c__law_bad_slew => k_is); (case k__law_bad_slew => k_is)
    (case a__law_bad_drift => k_is); (case l__law_bad_drift => k_is); (case c__law_bad_drift => k_is); (case k__law_bad_drift => k_is)
    (case a__law_bad_lap => k_is); (case l__law_bad_lap => k_is); (case c__law_bad_lap => k_is); (case k__law_bad_lap => k_is)
    (case a__law_case => k_is); (case l__law_case => k_is); (case c__law_case => k_is); (case k__law_case => k_is)
    (case a__law_after => k_is); (case l__law_after => k_is); (case c__law_after => k_is); (case k__law_after => k_is)
    (case a__law_laps => k_is); (case l__law_laps => k_is); (case c__law_laps => k_is); (case k__law_laps => k_is)
    (case a__law_next => k_is); (case l__law_next => k_is); (case c__law_next => k_is); (case k__law_next => k_is)
    (case a__law_laps_ok => k_is); (case l__law_laps_ok => k_is); (case c__law_laps_ok => k_is); (case k__law_laps_ok => k_is)
    (case a__law_stays => k_is); (case l__law_stays => k_is); (case c__law_stays => k_is); (case k__law_stays => k_is)
    (case a__law_refused => k_is); (case l__law_refused => k_is); (case c__law_refused => k_is); (case k__law_refused => k_is)
    (case a_law => k_is); (case l_law => k_is); (case c_law => k_is); (case k_law => k_is)
    (case ldf_rational => k_is)
    (case a0ZERO => k_is); (case l0ZERO => k_is)
    (case a0ONE => k_is); (case l0ONE => k_is)
    (case aC_BadBound => first | k_is | rfl | decide +kernel | decide)
    (case xL_BadBound => first | k_is | rfl | decide +kernel | decide)
    (case rv_BadBound => first | k_is | rfl | decide +kernel | decide)
    (case sa_BadBound => first | k_is | rfl | decide +kernel | decide)
    (case ga_BadBound => first | k_is | rfl | decide +kernel | decide)
    (case gg_BadBound => first | k_is | rfl | decide +kernel | decide)
    (case nb_BadBound => first | k_is | rfl | decide +kernel | decide)
    (case a1_BadBound => first | k_is | rfl | decide +kernel | decide)
    (case t1_BadBound => first | k_is | rfl | decide +kernel | decide)
    (case l1_BadBound => first | k_is | rfl | decide +kernel | decide)
    (case c1_BadBound => first | k_is | rfl | decide +kernel | decide)
    (case kC_BadBound => first | k_is | rfl | decide +kernel | decide)
    (case eC_BadBound => first | k_is | rfl | decide +kernel | decide)
    (case tC_BadBound => first | k_is | rfl | decide +kernel | decide)
    (case hC_BadBound => first | k_is | rfl | decide +kernel | decide)
    (case iC_BadBound => first | k_is | rfl | decide +kernel | decide)
    (case sC_BadBound => first | k_is | rfl | decide +kernel | decide)
    (case aC_BadRate => first | k_is | rfl | decide +kernel | decide)
    (case xL_BadRate => first | k_is | rfl | decide +kernel | decide)
    (case rv_BadRate => first | k_is | rfl | decide +kernel | decide)
    (case sa_BadRate => first | k_is | rfl | decide +kernel | decide)
    (case ga_BadRate => first | k_is | rfl | decide +kernel | decide)
    (case gg_BadRate => first | k_is | rfl | decide +kernel | decide)
    (case nb_BadRate => first | k_is | rfl | decide +kernel | decide)
    (case a1_BadRate => first | k_is | rfl | decide +kernel | decide)
    (case t1_BadRate => first | k_is | rfl | decide +kernel | decide)
    (case l1_BadRate => first | k_is | rfl | decide +kernel | decide)
    (case c1_BadRate => first | k_is | rfl | decide +kernel | decide)
    (case kC_BadRate => first | k_is | rfl | decide +kernel | decide)
    (case eC_BadRate => first | k_is | rfl | decide +kernel | decide)
    (case tC_BadRate => first | k_is | rfl | decide +kernel | decide)
    (case hC_BadRate => first | k_is | rfl | decide +kernel | decide)
    (case iC_BadRate => first | k_is | rfl | decide +kernel | decide)
    (case sC_BadRate => first | k_is | rfl | decide +kernel | decide)
    (case xa_BadBound => first | k_is | rfl | decide +kernel | decide)
    (case xm_BadBound => first | k_is | rfl | decide +kernel | decide)
    (case xa_BadRate => first | k_is | rfl | decide +kernel | decide)
    (case xm_BadRate => first | k_is | rfl | decide +kernel | decide)
    (case xn => first | k_is | rfl | decide +kernel | decide)
    (case xt => first | k_is | rfl | decide +kernel | decide)
    (case aC_VerdictError => first | k_is | rfl | decide +kernel | decide)
    (case tC_VerdictError => first | k_is | rfl | decide +kernel | decide)
    (case iC_VerdictError => first | k_is | rfl | decide +kernel | decide)
    (case aC_EmptySpan => first | k_is | rfl | decide +kernel | decide)
    (case tC_EmptySpan => first | k_is | rfl | decide +kernel | decide)
    (case iC_EmptySpan => first | k_is | rfl | decide +kernel | decide)
    (case aC_TurnsBack => first | k_is | rfl | decide +kernel | decide)
    (case tC_TurnsBack => first | k_is | rfl | decide +kernel | decide)
    (case iC_TurnsBack => first | k_is | rfl | decide +kernel | decide)
    (case je_BadRate_BadBound => first | k_is | rfl | decide +kernel | decide)
    (case ne_BadRate_BadBound => first | k_is | rfl | decide +kernel | decide)
    (case jk_BadBound_VerdictError => first | k_is | rfl | decide +kernel | decide)
    (case nk_BadBound_VerdictError => first | k_is | rfl | decide +kernel | decide)
    (case jk_BadBound_BadRate => first | k_is | rfl | decide +kernel | decide)
    (case nk_BadBound_BadRate => first | k_is | rfl | decide +kernel | decide)
    (case jk_BadBound_EmptySpan => first | k_is | rfl | decide +kernel | decide)
    (case nk_BadBound_EmptySpan => first | k_is | rfl | decide +kernel | decide)
    (case jk_BadRate_VerdictError => first | k_is | rfl | decide +kernel | decide)
    (case nk_BadRate_VerdictError => first | k_is | rfl | decide +kernel | decide)
    (case jk_BadRate_TurnsBack => first | k_is | rfl | decide +kernel | decide)
    (case nk_BadRate_TurnsBack => first | k_is | rfl | decide +kernel | decide)
    (case jk_BadRate_EmptySpan => first | k_is | rfl | decide +kernel | decide)
    (case nk_BadRate_EmptySpan => first | k_is | rfl | decide +kernel | decide)
    (case zgcd => k_is)
    (case zlen => k_is)
    (case zabs => k_is)
    (case zmax => k_is)
    (case zint => k_is)
    (case zisinstance => k_is)
    (case zrange => k_is)
    (case zenumerate => k_is)
    (case zlist => k_is)
    (case ztuple => k_is)
    (case zstr => k_is)
    (case zbool => k_is)
    (case zdict => k_is)

