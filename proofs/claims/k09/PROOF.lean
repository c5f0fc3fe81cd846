import PyProof.Rows.All
import Wide.All
import OpenK.AllK
import Wide.FinOn
import HandS.ForMost
import HandS.Wide
import HandS.Gcd
import HandS.IsInst
import HandS.Deep
import HandS.Flow
import HandS.More
import HandS.SetFor
import HandS.Defaults
import PyProof.EqAt
import PyProof.EqKinds
import PyProof.TupleCall
import Open.SpecLaws
import KE.OsGo
import HandS.ForSpec
import HandS.ExcCtx
import HandS.ExcInit
import HandS.ForExc
import HandS.TryMany
import HandS.ExcIs
import HandS.ExcField
import HandS.Base
import HandS.Call
import HandS.Exc
import HandS.ExcOwn
import HandS.WordsExc
import HandS.HotCalls
import PySem.Challenge.RW_clockverdict_k09_slewed_and_stepped
set_option Elab.async false
set_option linter.all false
set_option maxRecDepth 100000
set_option hygiene false in
local macro_rules | `(tactic| walk_at "vk_raw") => `(tactic| ((focus ((repeat first | with_reducible assumption | with_reducible exact upd_same | (with_reducible refine' (upd_ne ?_).trans ?_; with_reducible assumption) | (with_reducible apply sameAt; first | with_reducible assumption | with_reducible exact same_new (by with_reducible assumption) _)); done))))
set_option hygiene false in
local macro_rules | `(tactic| walk_at "vk_same") => `(tactic| ((focus ((repeat first | with_reducible assumption | with_reducible exact Same.refl _ | (refine' Same.trans ?_ (same_new (by with_reducible assumption) _)) | (with_reducible refine' same_upd ?_ (by with_reducible assumption) _) | (refine' Same.trans ?_ (by with_reducible assumption))); done))))
set_option hygiene false in
local macro_rules | `(tactic| walk_at "vk_up") => `(tactic| ((first | with_reducible assumption | with_reducible exact same_new (by with_reducible assumption) _)))
set_option hygiene false in
local macro_rules | `(tactic| walk_at "vk_upd") => `(tactic| ((with_reducible refine' same_upd ?_ (by with_reducible assumption) _; (walk_at "vk_same"))))
set_option hygiene false in
local macro_rules | `(tactic| walk_at "vk_sto") => `(tactic| ((focus ((repeat first | with_reducible assumption | (with_reducible apply Sto.same; (walk_at "vk_up"))); done))))
set_option hygiene false in
local macro_rules | `(tactic| walk_at "vk_some") => `(tactic| ((first | with_reducible exact ⟨_, by (walk_at "vk_raw")⟩ | with_reducible exact Sto.some (by (walk_at "vk_sto")))))
set_option hygiene false in
local macro_rules | `(tactic| walk_at "vk_cl") => `(tactic| ((focus ((repeat first | with_reducible assumption | with_reducible exact SqT.of upd_same | with_reducible exact SqL.of upd_same | with_reducible exact optV_rq (by with_reducible assumption) (by with_reducible assumption) | with_reducible exact Ct.cq (by with_reducible assumption) | (with_reducible apply Vk.Ct.copyq; with_reducible assumption) | (with_reducible apply Vk.Ct.copy; with_reducible assumption) | with_reducible exact rl11 | with_reducible exact rl12 | with_reducible exact rl01 | with_reducible exact rl1m | with_reducible exact rlnm | with_reducible exact rln1 | with_reducible exact rlh1 | (with_reducible apply Rq.same; (walk_at "vk_up")) | (with_reducible apply Rq.fr; (first | with_reducible exact Fr.upd _ | with_reducible assumption); (walk_at "vk_some")) | (with_reducible apply Rq.same; (walk_at "vk_upd")) | (with_reducible apply L2.Same.sqt; (walk_at "vk_up")) | (with_reducible apply sqt_fr; (first | with_reducible exact Fr.upd _ | with_reducible assumption); (walk_at "vk_some")) | (with_reducible apply L2.Same.sqt; (walk_at "vk_upd")) | (with_reducible apply L2.Same.seq; (walk_at "vk_up")) | (with_reducible apply seq_fr; (first | with_reducible exact Fr.upd _ | with_reducible assumption); with_reducible assumption) | (with_reducible apply L2.Same.seq; (walk_at "vk_upd")) | (with_reducible apply Pq.same; (walk_at "vk_up")) | (with_reducible apply Pq.fr; (first | with_reducible exact Fr.upd _ | with_reducible assumption); (walk_at "vk_some")) | (with_reducible apply Pq.same; (walk_at "vk_upd")) | (with_reducible apply Cq.same; (walk_at "vk_up")) | (with_reducible apply Cq.fr; (first | with_reducible exact Fr.upd _ | with_reducible assumption); (walk_at "vk_some"); with_reducible assumption) | (with_reducible apply Cq.same; (walk_at "vk_upd")) | (with_reducible apply Ct.same; (walk_at "vk_up")) | (with_reducible apply Ct.fr; (first | with_reducible exact Fr.upd _ | with_reducible assumption); (walk_at "vk_some"); with_reducible assumption) | (with_reducible apply Ct.same; (walk_at "vk_upd")) | (with_reducible apply optV.same; (walk_at "vk_up")) | (with_reducible apply optV.same; (walk_at "vk_upd"))); done))))
set_option hygiene false in
local macro_rules | `(tactic| walk_at "vk_sql") => `(tactic| ((first | (walk_at "vk_cl") | (focus (with_reducible apply L2.SqL.of; (walk_at "vk_raw"))))))
set_option hygiene false in
local macro_rules | `(tactic| walk_at "vk_atom") => `(tactic| ((first | with_reducible show Rq _ _ _ _ | with_reducible show SqT _ _ _ _ | with_reducible show SqL _ _ _ _ | with_reducible show Pq _ _ _ _ | with_reducible show Cq _ _ _ _ | with_reducible show Ct _ _ _ _ _ | with_reducible show Cz _ _ _ _ | with_reducible show Cok _ | with_reducible show Sz _ _ | with_reducible show Sto _ _ _ | with_reducible show Fr _ _ _ | with_reducible show Same _ _ | with_reducible show tyV _ _ _ _ | with_reducible show All2 _ _ _ | with_reducible show Gw _ _ _ _ _ _ | with_reducible show L2.Dp _ _ _ _ | with_reducible show L2.DpAll _ _ _ _ | with_reducible show Tree _ _ | with_reducible show optV _ _ _ _)))
set_option hygiene false in
local macro_rules | `(tactic| walk_at "vk_formsa") => `(tactic| ((first | with_reducible apply And.intro | ((fail_if_success first | with_reducible show ∃ _ : Nat → Nat → L2.St → Hp → Prop, _ | with_reducible show ∃ _ : Nat → Nat → Hp → Prop, _ | with_reducible show ∃ _ : Nat → L2.St → Hp → Prop, _); with_reducible apply Exists.intro) | (with_reducible refine ifT rfl ?_) | (with_reducible refine ifF rfl ?_) | (with_reducible refine ifT (dT (by with_reducible assumption)) ?_) | (with_reducible refine ifF (dF (by with_reducible assumption)) ?_) | (with_reducible refine ifD (fun gc => ?_) (fun gc => ?_)) | (with_reducible refine ifNF (by first | with_reducible assumption | with_reducible exact rfl) ?_) | (with_reducible refine ifNT (by with_reducible assumption) ?_) | (with_reducible refine ifN (fun gc => ?_) (fun gc => ?_)) | (with_reducible refine ifNF (by first | with_reducible assumption | with_reducible exact rfl) ?_) | ((first | rw [eqv_odp] | rw [eqv_odq]); first | (with_reducible refine ifT (dT (by with_reducible assumption)) ?_) | (with_reducible refine ifNF (by first | with_reducible assumption | with_reducible exact rfl) ?_) | (with_reducible refine ifD (fun gc => ?_) (fun gc => ?_)) | (with_reducible refine ifN (fun gc => ?_) (fun gc => ?_))) | (rw [eqv_dq]; first | (with_reducible refine ifT (dT (by with_reducible assumption)) ?_) | (with_reducible refine ifNF (by first | with_reducible assumption | with_reducible exact rfl) ?_) | (with_reducible refine ifD (fun gc => ?_) (fun gc => ?_)) | (with_reducible refine ifN (fun gc => ?_) (fun gc => ?_))) | (with_reducible refine ifT (by decide +kernel) ?_) | (with_reducible refine ifF (by decide +kernel) ?_) | ((with_reducible show ∀ p : Addr, _ = none → _); intro p np) | ((with_reducible show ∀ r : Int, ∀ H' : Hp, 0 ≤ r → _ → Sto _ _ H' → _ → _); intro r H' r0 r1 S e) | ((with_reducible show ∀ v : V, ∀ H' : Hp, Qd _ _ _ H' v → _ → _ → _); refine aQd (K := K) fun a q H' h h' zq okq S e => ?_) | ((with_reducible show ∀ H' : Hp, Same _ H' → _); intro H' e) | ((with_reducible show ∀ v : V, ∀ H' : Hp, Same _ H' → optV _ _ _ _ → _); intro v H' e h) | ((with_reducible show ∀ _ : V, ∀ _ : Hp, _ → _); refine aRq (K := K) fun a H' e h h' => ?_))))
set_option hygiene false in
local macro_rules | `(tactic| walk_at "vk_forms") => `(tactic| ((first | with_reducible apply And.intro | ((fail_if_success first | with_reducible show ∃ l : Addr, ∃ xs : List V, ∃ y : V, _ = V.ref l ∧ _ = [y] ∧ _ = some (HO.lst xs) ∧ _ | with_reducible show ∃ _ : Nat → Nat → L2.St → Hp → Prop, _ | with_reducible show ∃ _ : Nat → Nat → Hp → Prop, _ | with_reducible show ∃ _ : Nat → L2.St → Hp → Prop, _); with_reducible apply Exists.intro) | (with_reducible refine ifT rfl ?_) | (with_reducible refine ifF rfl ?_) | (with_reducible refine ifT (dT (by with_reducible assumption)) ?_) | (with_reducible refine ifF (dF (by with_reducible assumption)) ?_) | (with_reducible refine ifD (fun gc => ?_) (fun gc => ?_)) | (with_reducible refine ifNF (by first | with_reducible assumption | with_reducible exact rfl) ?_) | (with_reducible refine ifNT (by with_reducible assumption) ?_) | (with_reducible refine ifN (fun gc => ?_) (fun gc => ?_)) | (with_reducible refine ifNF (by first | with_reducible assumption | with_reducible exact rfl) ?_) | ((first | rw [eqv_odp] | rw [eqv_odq]); first | (with_reducible refine ifT (dT (by with_reducible assumption)) ?_) | (with_reducible refine ifNF (by first | with_reducible assumption | with_reducible exact rfl) ?_) | (with_reducible refine ifD (fun gc => ?_) (fun gc => ?_)) | (with_reducible refine ifN (fun gc => ?_) (fun gc => ?_))) | (rw [eqv_dq]; first | (with_reducible refine ifT (dT (by with_reducible assumption)) ?_) | (with_reducible refine ifNF (by first | with_reducible assumption | with_reducible exact rfl) ?_) | (with_reducible refine ifD (fun gc => ?_) (fun gc => ?_)) | (with_reducible refine ifN (fun gc => ?_) (fun gc => ?_))) | (with_reducible refine ifT (by decide +kernel) ?_) | (with_reducible refine ifF (by decide +kernel) ?_) | ((with_reducible show ∀ p : Addr, _ = none → _); intro p np) | ((with_reducible show ∀ r : Int, ∀ H' : Hp, 0 ≤ r → _ → Sto _ _ H' → _ → _); intro r H' r0 r1 S e) | ((with_reducible show ∀ v : V, ∀ H' : Hp, Qd _ _ _ H' v → _ → _ → _); refine aQd (K := K) fun a q H' h h' zq okq S e => ?_) | ((with_reducible show ∀ H' : Hp, Same _ H' → _); intro H' e) | ((with_reducible show ∀ v : V, ∀ H' : Hp, Same _ H' → optV _ _ _ _ → _); intro v H' e h) | ((with_reducible show ∀ _ : V, ∀ _ : Hp, _ → _); refine aRq (K := K) fun a H' e h h' => ?_))))
set_option hygiene false in
local macro_rules | `(tactic| walk_at "vk_va") => `(tactic| (((try dsimp only [cxOf_K, Cx.nox, Cx.wish]); repeat' (show (_ : Prop); first | with_reducible exact rfl | with_reducible assumption | (walk_at "vk_formsa") | ((with_reducible show ∀ d ∈ _, Tree _ d); first | exact treeAll_nil | refine treeAll_cons ?_ ?_) | ((with_reducible show SeqAt.shaped _ = true); first | with_reducible exact sh_dq _ | with_reducible exact sh_odp _ | decide +kernel) | ((with_reducible show _ = _); first | exact at0 rfl | exact at1 rfl | exact at2 rfl | exact rfl | (walk_at "vk_raw") | assumption) | ((with_reducible show (_ : Addr) ≠ _); (refine' Sto.ne (l := l) ?_ (by with_reducible assumption); (walk_at "vk_sto"))) | ((with_reducible show 0 < List.length _); first | omega | exact Nat.succ_pos _) | ((with_reducible show List.length _ < 2 ^ 32); first | omega | exact Nat.le_of_ble_eq_true rfl) | ((with_reducible show List.length _ ≤ sizeLine); first | exact Nat.zero_le _ | exact sz1 | exact sz2 | exact sz3 | exact sz4 | exact sm5 | exact sm6) | ((with_reducible show List.length _ < sizeLine); exact le1000 (by omega)) | ((with_reducible show _ ≤ _); omega) | ((with_reducible show (_ : Nat) < _); omega) | ((with_reducible show (_ : Int) < _); omega) | ((walk_at "vk_atom"); first | (walk_at "vk_cl") | (focus (with_reducible apply L2.SqL.of; (walk_at "vk_raw"))) | ((with_reducible show tyV _ _ _ _); apply Or.inl; apply And.intro rfl; apply Exists.intro; (walk_at "vk_sql")) | with_reducible exact L2.Dp.str _ | with_reducible exact L2.Dp.int _ | with_reducible exact L2.Dp.non | with_reducible exact L2.Dp.bl _ | (with_reducible apply Rq.dp; (walk_at "vk_cl")) | (with_reducible apply optV.dp; (walk_at "vk_cl")) | (with_reducible apply Vk.Ct.dd; (walk_at "vk_cl")) | (with_reducible apply L2.Dp.tup; (walk_at "vk_cl")) | (with_reducible apply L2.Dp.lst; (walk_at "vk_sql")) | exact tree_dq _ _ | exact Tree.str (by decide +kernel) | exact Tree.int _ | exact Tree.non | (refine Tree.tup (Nat.le_of_ble_eq_true rfl) ?_) | with_reducible apply L2.DpAll.cons | with_reducible exact L2.DpAll.nil | with_reducible exact zz1 | with_reducible exact zo1 | with_reducible exact zl12 | with_reducible exact zl1m | with_reducible exact zlnm | with_reducible exact zln1 | with_reducible exact zlh1 | (with_reducible show Sz _ _; refine Sz.mono (by with_reducible assumption) (Nat.le_of_ble_eq_true rfl)) | with_reducible apply Sz.add | with_reducible apply Sz.sub | with_reducible apply Sz.mul | with_reducible apply Sz.neg | ((with_reducible show Sto _ _ _); (focus ((repeat first | with_reducible assumption | (with_reducible apply Sto.same; (walk_at "vk_up"))); done))) | ((with_reducible show Fr _ _ _); (focus ((repeat first | with_reducible assumption | with_reducible exact Fr.refl _ _ | (refine' Fr.trans ?_ (Fr.of (same_new (by with_reducible assumption) _))) | (refine' Fr.trans ?_ (by with_reducible assumption)) | (refine' Fr.trans ?_ (Fr.of (by with_reducible assumption)))); done))) | ((with_reducible show Same _ _); (walk_at "vk_same")) | assumption) | ((with_reducible show L2.SqL _ _ _ _ ∨ L2.SqT _ _ _ _); first | (apply Or.inl; (walk_at "vk_sql")) | (apply Or.inr; (walk_at "vk_cl"))) | ((fail_if_success (walk_at "vk_atom")); (fail_if_success with_reducible show rAppend _ _ _ _); (conv => whnf); first | (walk_at "vk_formsa") | with_reducible exact rfl | with_reducible assumption | ((with_reducible show _ = _); exact rfl)) ))))
set_option hygiene false in
local macro_rules | `(tactic| walk_at "vk_vc") => `(tactic| (((try dsimp only [cxOf_K, Cx.nox, Cx.wish]); repeat' (show (_ : Prop); first | with_reducible exact rfl | with_reducible assumption | (walk_at "vk_forms") | ((with_reducible show ∀ d ∈ _, Tree _ d); first | exact treeAll_nil | refine treeAll_cons ?_ ?_) | ((with_reducible show SeqAt.shaped _ = true); first | with_reducible exact sh_dq _ | with_reducible exact sh_odp _ | decide +kernel) | ((with_reducible show _ = _); first | exact at0 rfl | exact at1 rfl | exact at2 rfl | exact rfl | (walk_at "vk_raw") | assumption) | ((with_reducible show (_ : Addr) ≠ _); (refine' Sto.ne (l := l) ?_ (by with_reducible assumption); (walk_at "vk_sto"))) | ((with_reducible show 0 < List.length _); first | omega | exact Nat.succ_pos _) | ((with_reducible show List.length _ < 2 ^ 32); first | omega | exact Nat.le_of_ble_eq_true rfl) | ((with_reducible show List.length _ ≤ sizeLine); first | exact Nat.zero_le _ | exact sz1 | exact sz2 | exact sz3 | exact sz4 | exact sm5 | exact sm6) | ((with_reducible show List.length _ < sizeLine); exact le1000 (by omega)) | ((with_reducible show _ ≤ _); omega) | ((with_reducible show (_ : Nat) < _); omega) | ((with_reducible show (_ : Int) < _); omega) | ((walk_at "vk_atom"); first | (walk_at "vk_cl") | (focus (with_reducible apply L2.SqL.of; (walk_at "vk_raw"))) | ((with_reducible show tyV _ _ _ _); apply Or.inl; apply And.intro rfl; apply Exists.intro; (walk_at "vk_sql")) | with_reducible exact L2.Dp.str _ | with_reducible exact L2.Dp.int _ | with_reducible exact L2.Dp.non | with_reducible exact L2.Dp.bl _ | (with_reducible apply Rq.dp; (walk_at "vk_cl")) | (with_reducible apply optV.dp; (walk_at "vk_cl")) | (with_reducible apply Vk.Ct.dd; (walk_at "vk_cl")) | (with_reducible apply L2.Dp.tup; (walk_at "vk_cl")) | (with_reducible apply L2.Dp.lst; (walk_at "vk_sql")) | exact tree_dq _ _ | exact Tree.str (by decide +kernel) | exact Tree.int _ | exact Tree.non | (refine Tree.tup (Nat.le_of_ble_eq_true rfl) ?_) | with_reducible apply L2.DpAll.cons | with_reducible exact L2.DpAll.nil | with_reducible exact zz1 | with_reducible exact zo1 | with_reducible exact zl12 | with_reducible exact zl1m | with_reducible exact zlnm | with_reducible exact zln1 | with_reducible exact zlh1 | (with_reducible show Sz _ _; refine Sz.mono (by with_reducible assumption) (Nat.le_of_ble_eq_true rfl)) | with_reducible apply Sz.add | with_reducible apply Sz.sub | with_reducible apply Sz.mul | with_reducible apply Sz.neg | ((with_reducible show Sto _ _ _); (focus ((repeat first | with_reducible assumption | (with_reducible apply Sto.same; (walk_at "vk_up"))); done))) | ((with_reducible show Fr _ _ _); (focus ((repeat first | with_reducible assumption | with_reducible exact Fr.refl _ _ | (refine' Fr.trans ?_ (Fr.of (same_new (by with_reducible assumption) _))) | (refine' Fr.trans ?_ (by with_reducible assumption)) | (refine' Fr.trans ?_ (Fr.of (by with_reducible assumption)))); done))) | ((with_reducible show Same _ _); (walk_at "vk_same")) | assumption) | ((with_reducible show L2.SqL _ _ _ _ ∨ L2.SqT _ _ _ _); first | (apply Or.inl; (walk_at "vk_sql")) | (apply Or.inr; (walk_at "vk_cl"))) | ((fail_if_success (walk_at "vk_atom")); (fail_if_success with_reducible show rAppend _ _ _ _); (conv => whnf); first | (walk_at "vk_forms") | with_reducible exact rfl | with_reducible assumption | ((with_reducible show _ = _); exact rfl)) ))))
set_option hygiene false in
local macro_rules | `(tactic| walk_at "vk_fr") => `(tactic| ((focus ((repeat first | with_reducible assumption | with_reducible exact Fr.refl _ _ | (refine' Fr.trans ?_ (Fr.of (same_new (by with_reducible assumption) _))) | (refine' Fr.trans ?_ (by with_reducible assumption)) | (refine' Fr.trans ?_ (Fr.of (by with_reducible assumption)))); done))))
namespace Vm
/-! ### sizes of rationals -/
def Sz (k : Nat) (q : Rat) : Prop := q.num.natAbs < 2 ^ k ∧ q.den < 2 ^ k
theorem Sz.mono {a b : Nat} {q : Rat} (h : Sz a q) (l : a ≤ b) : Sz b q :=
  ⟨Nat.lt_of_lt_of_le h.1 (Nat.pow_le_pow_right (by decide) l), Nat.lt_of_lt_of_le h.2 (Nat.pow_le_pow_right (by decide) l)⟩
theorem mk_num (n : Int) {d : Nat} (hd : d ≠ 0) : (mkRat n d).num = n / ((Nat.gcd n.natAbs d : Nat) : Int) := by
  rw [Rat.num_mkRat, if_neg hd, Nat.gcd_comm]
theorem mk_den (n : Int) {d : Nat} (hd : d ≠ 0) : (mkRat n d).den = d / Nat.gcd n.natAbs d := by
  rw [Rat.den_mkRat, if_neg hd, Nat.gcd_comm]
theorem sz_mk {n : Int} {d k : Nat} (h : d ≠ 0) (hn : n.natAbs < 2 ^ k) (hd : d < 2 ^ k) : Sz k (mkRat n d) := by
  have e : ∀ (z : Int) (g : Nat), (z / (g : Int)).natAbs ≤ z.natAbs := fun z g => Int.natAbs_ediv_le_natAbs z g
  exact ⟨by rw [mk_num n h]; exact Nat.lt_of_le_of_lt (e _ _) hn, by rw [mk_den n h]; exact Nat.lt_of_le_of_lt (Nat.div_le_self _ _) hd⟩
theorem lt_mul {a b i j : Nat} (h : a < 2 ^ i) (l : b < 2 ^ j) : a * b < 2 ^ (i + j) := by
  rw [Nat.pow_add]
  exact Nat.mul_lt_mul'' h l
theorem Sz.add {a b : Nat} {p q : Rat} (h : Sz a p) (l : Sz b q) : Sz (a + b + 1) (p + q) := by
  rw [Rat.add_def']
  have h1 := lt_mul h.1 l.2
  have h2 := lt_mul l.1 h.2
  have h3 := lt_mul h.2 l.2
  rw [Nat.add_comm b a] at h2
  refine sz_mk (Nat.ne_of_gt (Nat.mul_pos p.den_pos q.den_pos)) ?_ ?_
  · rw [Nat.pow_succ]
    have q1 := Int.natAbs_add_le (p.num * q.den) (q.num * p.den)
    rw [Int.natAbs_mul, Int.natAbs_mul, Int.natAbs_natCast, Int.natAbs_natCast] at q1
    omega
  · rw [Nat.pow_succ]
    omega
theorem Sz.neg {a : Nat} {p : Rat} (h : Sz a p) : Sz a (-p) := ⟨by rw [Rat.neg_num, Int.natAbs_neg]; exact h.1, h.2⟩
theorem Sz.sub {a b : Nat} {p q : Rat} (h : Sz a p) (l : Sz b q) : Sz (a + b + 1) (p - q) := by
  rw [Rat.sub_eq_add_neg]
  exact h.add l.neg
theorem Sz.mul {a b : Nat} {p q : Rat} (h : Sz a p) (l : Sz b q) : Sz (a + b) (p * q) := by
  rw [Rat.mul_def']
  refine sz_mk (Nat.ne_of_gt (Nat.mul_pos p.den_pos q.den_pos)) ?_ (lt_mul h.2 l.2)
  rw [Int.natAbs_mul]
  exact lt_mul h.1 l.1
theorem num_pos {q : Rat} (h : 0 < q) : 0 < q.num := by
  have z := (Rat.lt_iff 0 q).mp h
  simp at z
  exact z
theorem pos_of_num {q : Rat} (h : 0 < q.num) : 0 < q := by
  rw [Rat.lt_iff]
  simp
  exact h
theorem Sz.inv {a : Nat} {q : Rat} (h : Sz a q) (hq : 0 < q) : Sz a q⁻¹ := by
  have hn := num_pos hq
  refine ⟨?_, ?_⟩
  · rw [Rat.num_inv, Int.sign_eq_one_of_pos hn, Int.one_mul, Int.natAbs_natCast]
    exact h.2
  · rw [Rat.den_inv, if_neg (by omega)]
    exact h.1
theorem Sz.div {a b : Nat} {p q : Rat} (h : Sz a p) (l : Sz b q) (hq : 0 < q) : Sz (a + b) (p / q) := by
  rw [Rat.div_def]
  exact h.mul (l.inv hq)
/-! ### normal forms -/
theorem nf {n : Int} {d : Nat} (hd : d ≠ 0) (hc : Nat.gcd n.natAbs d = 1) : (mkRat n d).num = n ∧ (mkRat n d).den = d := by
  rw [mk_num n hd, mk_den n hd, hc]
  simp
theorem div_mk (p q : Rat) (hq : 0 < q) : p / q = mkRat (p.num * q.den) (p.den * q.num.toNat) := by
  have hn := num_pos hq
  rw [Rat.div_def, Rat.mul_def', Rat.num_inv, Rat.den_inv, if_neg (by omega), Int.sign_eq_one_of_pos hn, Int.one_mul]
  congr 2
  omega
/-- the sum by the divisors of the denominators alone -/
theorem add_parts (a b : Rat) (g f : Nat) (n : Int) (r : Nat) (hg : g = Nat.gcd a.den b.den) (hf : f = b.den / g) (hn : n = a.num * f + b.num * ((a.den / g : Nat) : Int)) (hr : r = Nat.gcd n.natAbs g) :
    (a + b).num = n / (r : Int) ∧ (a + b).den = a.den / r * f := by
  have gp : 0 < g := by rw [hg]; exact Nat.gcd_pos_of_pos_left _ a.den_pos
  obtain ⟨u, hu⟩ : g ∣ a.den := by rw [hg]; exact Nat.gcd_dvd_left _ _
  obtain ⟨v, hv⟩ : g ∣ b.den := by rw [hg]; exact Nat.gcd_dvd_right _ _
  have eu : a.den / g = u := by rw [hu]; exact Nat.mul_div_cancel_left _ gp
  have ev : f = v := by rw [hf, hv]; exact Nat.mul_div_cancel_left _ gp
  subst ev
  rw [eu] at hn
  have up : 0 < u := Nat.pos_of_ne_zero fun z => by rw [z, Nat.mul_zero] at hu; exact absurd hu (Nat.ne_of_gt a.den_pos)
  have fp : 0 < f := Nat.pos_of_ne_zero fun z => by rw [z, Nat.mul_zero] at hv; exact absurd hv (Nat.ne_of_gt b.den_pos)
  have cuf : Nat.Coprime u f := by
    have z : g * Nat.gcd u f = g := by rw [← Nat.gcd_mul_left, ← hu, ← hv, ← hg]
    exact Nat.eq_of_mul_eq_mul_left gp (by rw [z, Nat.mul_one])
  have ca : Nat.Coprime a.num.natAbs u := (Nat.Coprime.coprime_dvd_right ⟨g, by rw [hu, Nat.mul_comm]⟩ a.reduced)
  have cb : Nat.Coprime b.num.natAbs f := (Nat.Coprime.coprime_dvd_right ⟨g, by rw [hv, Nat.mul_comm]⟩ b.reduced)
  have key : ∀ (x y z : Int) (m : Nat), x = y + z * m → Nat.gcd x.natAbs m = Nat.gcd y.natAbs m := by
    intro x y z m h
    have e : ∀ t : Int, Nat.gcd t.natAbs m = Int.gcd t m := fun t => by rw [Int.gcd]; simp
    rw [e, e, h, Int.gcd_add_mul_right_left]
  have cnu : Nat.Coprime n.natAbs u := by
    have z := key n (a.num * f) b.num u hn
    unfold Nat.Coprime
    rw [z, Int.natAbs_mul, Int.natAbs_natCast]
    exact Nat.Coprime.mul_left ca cuf.symm
  have cnf : Nat.Coprime n.natAbs f := by
    have z := key n (b.num * u) a.num f (by rw [hn, Int.add_comm])
    unfold Nat.Coprime
    rw [z, Int.natAbs_mul, Int.natAbs_natCast]
    exact Nat.Coprime.mul_left cb cuf
  have cn : Nat.Coprime n.natAbs (u * f) := Nat.Coprime.mul_right cnu cnf
  have er : Nat.gcd n.natAbs (g * (u * f)) = r := by
    rw [hr]
    exact Nat.Coprime.gcd_mul_right_cancel_right g cn.symm
  have es : a + b = mkRat n (g * (u * f)) := by
    rw [Rat.add_def', hu, hv, hn]
    have z := Rat.mkRat_mul_left (n := a.num * f + b.num * u) (d := g * (u * f)) (a := g) (by omega)
    rw [← z]
    congr 1
    · push_cast
      grind
    · grind
  have dn : g * (u * f) ≠ 0 := Nat.ne_of_gt (Nat.mul_pos gp (Nat.mul_pos up fp))
  have rg : r ∣ g := by rw [hr]; exact Nat.gcd_dvd_right _ _
  refine ⟨by rw [es, mk_num n dn, er], ?_⟩
  rw [es, mk_den n dn, er, hu]
  obtain ⟨w, hw⟩ := rg
  have rp : 0 < r := Nat.pos_of_ne_zero fun z => by rw [z, Nat.zero_mul] at hw; omega
  rw [hw, Nat.mul_assoc, Nat.mul_div_cancel_left _ rp, Nat.mul_assoc, Nat.mul_div_cancel_left _ rp, Nat.mul_assoc]
/-! ### what the cross products make -/
theorem tn (a b : Nat) : ((a : Int) * (b : Int)).toNat = a * b := by
  rw [← Int.natCast_mul]
  rfl
theorem mk_add (p q : Rat) : mkRat (p.num * (q.den : Int) + q.num * (p.den : Int)) ((p.den : Int) * (q.den : Int)).toNat = p + q := by rw [tn, Rat.add_def']
theorem mk_sub (p q : Rat) : mkRat (p.num * (q.den : Int) - q.num * (p.den : Int)) ((p.den : Int) * (q.den : Int)).toNat = p - q := by rw [tn, Rat.sub_def']
theorem mk_mul (p q : Rat) : mkRat (p.num * q.num) ((p.den : Int) * (q.den : Int)).toNat = p * q := by rw [tn, Rat.mul_def']
theorem dd_pos (p q : Rat) : 0 < (p.den : Int) * (q.den : Int) := Int.mul_pos (by have := p.den_pos; omega) (by have := q.den_pos; omega)
theorem ab_mul {i j : Int} {a b : Nat} (h : i.natAbs < 2 ^ a) (l : j.natAbs < 2 ^ b) : (i * j).natAbs < 2 ^ (a + b) := by
  rw [Int.natAbs_mul]
  exact lt_mul h l
theorem ab_add {i j : Int} {a : Nat} (h : i.natAbs < 2 ^ a) (l : j.natAbs < 2 ^ a) : (i + j).natAbs < 2 ^ (a + 1) := by
  rw [Nat.pow_succ]
  omega
theorem ab_sub {i j : Int} {a : Nat} (h : i.natAbs < 2 ^ a) (l : j.natAbs < 2 ^ a) : (i - j).natAbs < 2 ^ (a + 1) := by
  rw [Nat.pow_succ]
  omega
theorem ab_up {i : Int} {a b : Nat} (h : i.natAbs < 2 ^ a) (l : a ≤ b) : i.natAbs < 2 ^ b := Nat.lt_of_lt_of_le h (Nat.pow_le_pow_right (by decide) l)
theorem ab_le {i j : Int} {a : Nat} (h : i.natAbs < 2 ^ a) (l : j.natAbs ≤ i.natAbs) : j.natAbs < 2 ^ a := Nat.lt_of_le_of_lt l h
theorem nn {m : Nat} {p : Rat} (h : Sz m p) : 0 < m := by
  cases m with
  | zero => have := h.2; have := p.den_pos; simp at *; omega
  | succ m => exact Nat.succ_pos _
theorem dA {m : Nat} {p : Rat} (h : Sz m p) : ((p.den : Nat) : Int).natAbs < 2 ^ m := h.2
theorem lt_num {p q : Rat} : p < q ↔ p.num * (q.den : Int) < q.num * (p.den : Int) := Rat.lt_iff p q
theorem eq_num {p q : Rat} : p = q ↔ p.num * (q.den : Int) = q.num * (p.den : Int) := Rat.eq_iff_mul_eq_mul
end Vm

namespace Vk
open PySem L2
/-! ### defs as they stand, and with a promise -/
structure Fn (K : PySem.W.Frag) (mg : Str → Option Value) (x : Str) (st : Stmt) (ps : List Str) (f : Addr) (fd : FuncData) : Prop where
  F : Fun K x x st f fd
  m : mg x = some (.ref f)
  b : Binds K fd ps []
structure Def (P : Program) (w : World) (K : PySem.W.Frag) (mg : Str → Option Value) (base : Heap) (k : Nat) (x : Str) (ps : List Str) (sp : Sp) (f : Addr) (fd : FuncData) : Prop where
  ok : FnOk P w K mg base CX0 k f fd ps sp
  m : mg x = some (.ref f)
  kp : PySem.W.keepIn K (.ref f) = true
  b : Binds K fd ps []
theorem Def.up {P : Program} {w : World} {K : PySem.W.Frag} {mg : Str → Option Value} {base : Heap} {j k : Nat} {x : Str} {ps : List Str} {sp : Sp} {f : Addr} {fd : FuncData} (d : Def P w K mg base j x ps sp f fd) (h : j ≤ k) : Def P w K mg base k x ps sp f fd := ⟨d.ok.mono h, d.m, d.kp, d.b⟩
theorem pcall {X : Cx} {k : Nat} {f : Addr} {fd : FuncData} {ps : List Str} {sp : Sp} {x : Str} {p pos : Pos} {e : Expr} {es : List Expr} {t : TA} (D : Def X.prog X.w X.K X.mg X.base k x ps sp f fd) (hr : Room k X.A) (ha : PA X (e :: es) t)
    (hg : Gl X x := by rfl) (hdb : (x == ("__debug__" : Str)) = false := by decide) (he : starEach (e :: es) X.env = (false, eval e X.env) :: starEach es X.env := by rfl) (hpl : (backTo pos (starEach es X.env)).any (·.1) = false := by rfl) :
    PE X (.Call (.Name x p) (e :: es) [] pos) (tCall sp [] E0 t) := pe_call D.ok hr hg D.m D.kp D.b .nil pass0 ha hdb he hpl
/-- a def as it stands, whatever its defaults are -/
structure FunA (K : PySem.W.Frag) (x qual : Str) (st : Stmt) (f : Addr) (fd : FuncData) : Prop where
  ex : ∃ (oc : Value) (od : Option Addr) (dV kV doc pm : Value) (an : Option Addr) (cdv ct : Value) (osl : Array (Option Value)),
    fd = PySem.W.fnOf x qual (defArgs st) (defBody st) (defScope st) dV kV doc pm an cdv ct ∧ K.lookup f = some ⟨oc, od, .func fd, osl⟩ ∧ PySem.W.codeIn K cdv qual = true
  kp : PySem.W.keepIn K (.ref f) = true
theorem FunA.ok {P : Program} {w : World} {K : PySem.W.Frag} {mg : Str → Option Value} {base : Heap} {x qual : Str} {st : Stmt} {f : Addr} {fd : FuncData} {N ps : List Str} {k : Nat} {sp : Sp} (F : FunA K x qual st f fd) (S : FnScope N ps (defScope st)) (len : ∀ vs H Q E, sp vs H Q E → vs.length = ps.length)
    (hbody : ∀ (cdv : Value) (A : Around) (outer : List Env) (s : Shared) (H : Hp) (vs : List V) (Q : VK) (E : XK), Room k (A.deeper (PyProof.Rows.envOfC qual (defScope st) s.heap.objs.size f cdv)) → sp vs H Q E →
      ∃ t, PSs (cxOf CX0 P w K mg base N qual (defScope st) f cdv A outer s H E).nox (defBody st) t ∧ t { nx := fun _ H' => Q .non H', rt := Q } (start N vs) H) : FnOk P w K mg base CX0 (k + 1) f fd ps sp := by
  obtain ⟨oc, od, dV, kV, doc, pm, an, cdv, ct, osl, rfl, lk, hcd⟩ := F.ex
  refine fn_of lk hcd S len fun A outer s H vs Q E hr hsp => ?_
  obtain ⟨t, h, q⟩ := hbody cdv A outer s H vs Q E hr hsp
  exact ⟨t, h.nox, q⟩
/-- the built-in names as the top leaves them -/
structure Bn (mg : Str → Option Value) : Prop where
  gcd_ : mg "gcd" = some (.builtin "math.gcd")
  len_ : mg "len" = none
  abs_ : mg "abs" = none
  max_ : mg "max" = none
  int_ : mg "int" = none
  isinstance_ : mg "isinstance" = none
  range_ : mg "range" = none
  enumerate_ : mg "enumerate" = none
  list_ : mg "list" = none
  tuple_ : mg "tuple" = none
  str_ : mg "str" = none
  bool_ : mg "bool" = none
  dict_ : mg "dict" = none
/-! ### heaps -/
theorem _root_.L2.Same.sqt {K : PySem.W.Frag} {H H' : Hp} {a : Addr} {xs : List V} (e : Same H H') (h : SqT K H a xs) : SqT K H' a xs := by
  rcases h with (h | ⟨o, h⟩) | h
  · exact .inl (.inl (e _ _ h))
  · exact .inl (.inr ⟨o, e _ _ h⟩)
  · exact .inr h
theorem same_new {H : Hp} {p : Addr} (h : H p = none) (o : HO) : Same H (upd H p o) := fun b u q => by rw [upd_ne (ne_of_none q h)]; exact q
/-- a pair of ints that stands for q -/
def Rq (K : PySem.W.Frag) (H : Hp) (v : V) (q : Rat) : Prop := ∃ a, v = .ref a ∧ SqT K H a [.int q.num, .int (q.den : Int)]
theorem Rq.same {K : PySem.W.Frag} {H H' : Hp} {v : V} {q : Rat} (e : Same H H') (h : Rq K H v q) : Rq K H' v q := by
  obtain ⟨a, rfl, h⟩ := h
  exact ⟨a, rfl, e.sqt h⟩
theorem sz2 : 2 ≤ sizeLine := by decide
theorem at0 {xs : List V} {v : V} (h : xs[0]? = some v) : atI xs 0 = some v := atI_nat (j := 0) h
theorem at1 {xs : List V} {v : V} (h : xs[1]? = some v) : atI xs 1 = some v := atI_nat (j := 1) h
theorem at2 {xs : List V} {v : V} (h : xs[2]? = some v) : atI xs 2 = some v := atI_nat (j := 2) h
theorem ifT {c : Bool} {A B : Prop} (hc : c = true) (h : A) : if c = true then A else B := by
  rw [if_pos hc]
  exact h
theorem ifF {c : Bool} {A B : Prop} (hc : c = false) (h : B) : if c = true then A else B := by
  rw [hc, if_neg Bool.false_ne_true]
  exact h
theorem dF {p : Prop} [Decidable p] (h : ¬ p) : decide p = false := decide_eq_false h
theorem dT {p : Prop} [Decidable p] (h : p) : decide p = true := decide_eq_true h
theorem ifD {p : Prop} [Decidable p] {A B : Prop} (h1 : p → A) (h2 : ¬ p → B) : if decide p = true then A else B := by
  by_cases h : p
  · exact ifT (decide_eq_true h) (h1 h)
  · exact ifF (decide_eq_false h) (h2 h)
theorem fmod_nat (x m : Nat) : (x : Int).fmod (m : Int) = ((x % m : Nat) : Int) := by
  rw [Int.fmod_eq_emod_of_nonneg _ (by omega)]
  rfl
/-- what stands behind a statement, said once for all its ways -/
theorem cut {t u : TS} {D : Ends} {σ : L2.St} {H : Hp} (mid : L2.St → Hp → Prop) (key : ∀ σ' H', mid σ' H' → u D σ' H') (h : (∀ σ' H', mid σ' H' → u D σ' H') → tSeq t u D σ H) : tSeq t u D σ H := h key
/-! ### the store of draws -/
/-- at s stands a store: the script's list at l, five counters -/
def Sto (l s : Addr) (H : Hp) : Prop := ∃ (ns : List Int) (pos num seed hold cnt : Int), H s = some (.lst [.ref l, .int pos, .int num, .int seed, .int hold, .int cnt]) ∧ l ≠ s ∧ H l = some (.lst (ns.map V.int)) ∧ ns.length ≤ 63 ∧ 0 ≤ pos ∧ 0 ≤ num ∧ 0 ≤ seed ∧ seed < 1000000007
/-- all but what stands at s is as it was -/
def Fr (s : Addr) (H H' : Hp) : Prop := ∀ b o, H b = some o → b ≠ s → H' b = some o
theorem Fr.refl (s : Addr) (H : Hp) : Fr s H H := fun _ _ h _ => h
theorem Fr.trans {s : Addr} {H H1 H2 : Hp} (a : Fr s H H1) (b : Fr s H1 H2) : Fr s H H2 := fun c o h n => b c o (a c o h n) n
theorem Fr.of {s : Addr} {H H' : Hp} (e : Same H H') : Fr s H H' := fun b o h _ => e b o h
theorem Fr.upd {s : Addr} {H : Hp} (o : HO) : Fr s H (upd H s o) := fun b u h n => by rw [upd_ne n]; exact h
theorem Fr.free {s : Addr} {H H' : Hp} (e : Fr s H H') {p : Addr} (h : H' p = none) (n : p ≠ s) : H p = none := by
  cases q : H p with
  | none => rfl
  | some o =>
    rw [e p o q n] at h
    cases h
theorem Sto.some {l s : Addr} {H : Hp} (h : Sto l s H) : ∃ xs, H s = some (.lst xs) := by
  obtain ⟨_, _, _, _, _, _, h, _⟩ := h
  exact ⟨_, h⟩
theorem Sto.ne {l s : Addr} {H : Hp} (h : Sto l s H) {p : Addr} (n : H p = none) : p ≠ s := by
  obtain ⟨xs, h⟩ := h.some
  exact fun z => by rw [z, h] at n; cases n
theorem Sto.nl {l s : Addr} {H : Hp} (h : Sto l s H) {p : Addr} (n : H p = none) : p ≠ l := by
  obtain ⟨_, _, _, _, _, _, _, _, h, _⟩ := h
  exact fun z => by rw [z, h] at n; cases n
theorem Sto.same {l s : Addr} {H H' : Hp} (e : Same H H') (h : Sto l s H) : Sto l s H' := by
  obtain ⟨ns, pos, num, seed, hold, cnt, h1, h2, h3, r⟩ := h
  exact ⟨ns, pos, num, seed, hold, cnt, e _ _ h1, h2, e _ _ h3, r⟩
/-- what becomes of another list does not matter -/
theorem Sto.upd {l s D : Addr} {H : Hp} {o : HO} (h : Sto l s H) (n1 : D ≠ s) (n2 : D ≠ l) : Sto l s (upd H D o) := by
  obtain ⟨ns, pos, num, seed, hold, cnt, h1, h2, h3, r⟩ := h
  exact ⟨ns, pos, num, seed, hold, cnt, by rw [upd_ne (Ne.symm n1)]; exact h1, h2, by rw [upd_ne (Ne.symm n2)]; exact h3, r⟩
/-- a tuple outlives what becomes of a list -/
theorem sqt_fr {K : PySem.W.Frag} {s a : Addr} {H H' : Hp} {xs : List V} (e : Fr s H H') (hs : ∃ ys, H s = some (.lst ys)) (h : SqT K H a xs) : SqT K H' a xs := by
  obtain ⟨ys, hs⟩ := hs
  have n : ∀ {o : HO}, H a = some o → (∀ ys, o ≠ .lst ys) → a ≠ s := fun {o} h1 h2 z => by
    rw [z, hs] at h1
    exact h2 ys (Option.some.inj h1).symm
  rcases h with (h | ⟨o, h⟩) | h
  · exact .inl (.inl (e _ _ h (n h fun _ z => by cases z)))
  · exact .inl (.inr ⟨o, e _ _ h (n h fun _ z => by cases z)⟩)
  · exact .inr h
theorem Rq.fr {K : PySem.W.Frag} {s : Addr} {H H' : Hp} {v : V} {q : Rat} (e : Fr s H H') (hs : ∃ ys, H s = some (.lst ys)) (h : Rq K H v q) : Rq K H' v q := by
  obtain ⟨a, rfl, h⟩ := h
  exact ⟨a, rfl, sqt_fr e hs h⟩
theorem seq_fr {K : PySem.W.Frag} {s a : Addr} {H H' : Hp} {xs : List V} (e : Fr s H H') (n : a ≠ s) (h : SqL K H a xs) : SqL K H' a xs := by
  rcases h with (h | ⟨o, h⟩) | h
  · exact .inl (.inl (e _ _ h n))
  · exact .inl (.inr ⟨o, e _ _ h n⟩)
  · exact .inr h
theorem sm6 : 6 ≤ sizeLine := by decide
theorem sm4 : 4 ≤ sizeLine := by decide
theorem sm3 : 3 ≤ sizeLine := by decide
theorem sm5 : 5 ≤ sizeLine := by decide
end Vk

namespace Vk
open PySem L2 Vm
/-! ### what a question asks, said so that it is answered by looks at the context -/
variable {K : PySem.W.Frag}
theorem aTup {H : Hp} {xs : List V} {Q : VK} (h : ∀ p H', H p = none → Same H H' → SqT K H' p xs → Q (.ref p) H') : ∀ p, H p = none → Q (.ref p) (upd H p (.tup xs)) := fun p hp => h p _ hp (same_new hp _) (SqT.of upd_same)
theorem aLst {H : Hp} {xs : List V} {Q : VK} (h : ∀ p H', H p = none → Same H H' → H' p = some (.lst xs) → Q (.ref p) H') : ∀ p, H p = none → Q (.ref p) (upd H p (.lst xs)) := fun p hp => h p _ hp (same_new hp _) upd_same
theorem aRq {H : Hp} {q : Rat} {Q : VK} (h : ∀ a H', Same H H' → Rq K H' (.ref a) q → SqT K H' a [.int q.num, .int (q.den : Int)] → Q (.ref a) H') : ∀ r H', Same H H' → Rq K H' r q → Q r H' := fun r H' e hr => by
  obtain ⟨a, rfl, ha⟩ := id hr
  exact h a H' e hr ha
theorem same_new2 {H : Hp} {p q : Addr} {o u : HO} (h : H p = none) (g : upd H p o q = none) : Same H (upd (upd H p o) q u) := (same_new h o).trans (same_new g u)
theorem same_new3 {H : Hp} {p q r : Addr} {o u x : HO} (h : H p = none) (g : upd H p o q = none) (f : upd (upd H p o) q u r = none) : Same H (upd (upd (upd H p o) q u) r x) := (same_new2 h g).trans (same_new f x)
theorem sameFree {H H' : Hp} {p : Addr} (e : Same H H') (h : H' p = none) : H p = none := by
  cases q : H p with
  | none => rfl
  | some o => rw [e _ _ q] at h; cases h
theorem sameAt {H H' : Hp} {a : Addr} {o : HO} (e : Same H H') (h : H a = some o) : H' a = some o := e _ _ h
theorem psNox {X : Cx} {s : Stmt} {t : TS} (h : PS X.nox s t) : PS X s t := ⟨fun pins st σ H D I hw => PySem.wpAny_mono (h.run pins st σ H D (I.wish _) hw) (fun _ _ q => q.unwish) fun _ _ z => False.elim z⟩
theorem cxOf_K {CX : CXT} {P : Program} {w : World} {K : PySem.W.Frag} {mg : Str → Option Value} {base : Heap} {N : List Str} {q : Str} {sc : Scope} {f : Addr} {cdv : Value} {A : Around} {outer : List Env} {s : Shared} {H : Hp} {E : XK} : (cxOf CX P w K mg base N q sc f cdv A outer s H E).K = K := rfl
theorem cxOf_noxK {CX : CXT} {P : Program} {w : World} {K : PySem.W.Frag} {mg : Str → Option Value} {base : Heap} {N : List Str} {q : Str} {sc : Scope} {f : Addr} {cdv : Value} {A : Around} {outer : List Env} {s : Shared} {H : Hp} {E : XK} : (cxOf CX P w K mg base N q sc f cdv A outer s H E).nox.K = K := rfl
theorem sz3 : 3 ≤ sizeLine := by decide
theorem sz1 : 1 ≤ sizeLine := by decide
theorem sz4 : 4 ≤ sizeLine := by decide
end Vk

set_option maxHeartbeats 2000000
namespace PySem
namespace ValX
open PySem.W PySem.Calls PyProof.Rows PySem.HandSPX
/-! ### the text of __init__ -/
def iA (p1 p2 : Pos) : Arguments := { posonlyargs := [], args := [{ arg := "self", annotation := none, pos := p1 }, { arg := "value", annotation := none, pos := p2 }], vararg := none, kwonlyargs := [], kw_defaults := [], kwarg := none, defaults := [] }
def iB (q1 q2 q3 q4 : Pos) : List Stmt := [.Assign [.Attribute (.Name "self" q1) "value" q2] (.Name "value" q3) q4]
def iS : Scope := { kind := .function, names := [(PySem.Str.ofString "self", .local), (PySem.Str.ofString "value", .local)], isGenerator := false, isCoroutine := false, more := [] }
/-- what the written part says of the class, at C, and of its __init__, at fI -/
structure ValTxt (K : Frag) (mg : Str → Option Value) (nm : Str) (C fI : Addr) : Prop where
  gC : mg nm = some (.ref C)
  cls : ∃ nm q N bs bm sn sub ab col dd k0 k1 k2 k3 k5, K.lookup C = some (excClassObj nm q C N bs bm true sn sub ab col dd k0 k1 k2 k3 k5 "ValueError.__new__") ∧ refsVE bm = true
  sa : findIn K (.ref C) "__setattr__" = some (some (.builtin "object.__setattr__"))
  ga : findIn K (.ref C) "__getattribute__" = some (some (.builtin "BaseException.__getattribute__"))
  gg : findIn K (.ref C) "__getattr__" = some none
  noN : findIn K (.ref C) "value" = some none
  iC : findIn K (.ref C) "__init__" = some (some (.ref fI))
  tC : typeIn K (.ref fI) = some (.type "function")
  kC : keepIn K (.ref C) = true
  exC : subIn K (.ref C) (.type "BaseException") = some true
  tyC : typeIn K (.ref C) = some (.type "type")
  hdC : hasDictIn K C = true
  te : exmOne K (.ref C) (.ref C) = some true
  fn : ∃ (q : Str) (oc : Value) (od : Option Addr) (doc pm : Value) (an : Option Addr) (cdv ct : Value) (osl : Array (Option Value)) (p1 p2 q1 q2 q3 q4 : Pos),
    K.lookup fI = some ⟨oc, od, .func (fnOf "__init__" q (iA p1 p2) (iB q1 q2 q3 q4) iS .none .none doc pm an cdv ct), osl⟩ ∧ codeIn K cdv q = true
theorem one_size (v : Value) : [v].length ≤ sizeLine := by
  rw [sizeLine_eq]
  exact (by decide : 1 ≤ 16777216)
theorem kept_but {K : Frag} {h h' : Heap} {x : Addr} (X : K.In h) (hx : K.lookup x = none) (k : ∀ b o, b ≠ x → h.get? b = some o → h'.get? b = some o) : K.In h' := fun a o e =>
  k a o (fun z => by rw [z, hx] at e; cases e) (X a o e)
theorem ldC {M : Model} {s : Shared} {name : Str} {scope : Scope} {L a : Addr} {cd : Value} {m : Str → Option Value} {x : Str} {pos : Pos} {v : Value} {Q : Value → Shared → Prop} {A : Around} {E : Value → Shared → Prop} (hn : s.heap.Ns L m) (hv : m x = some v) (h : Q v s)
    (hk : scope.kind = .function := by rfl) (hl : (envOfC name scope L a cd).kindOf x = some .local := by rfl) (hd : (x == ("__debug__" : Str)) = false := by decide) :
    wpAny M A (eval (.Name x pos) (envOfC name scope L a cd)) Q E s := wpAny_Name (wpAny_loadName_local hk hl hn hv h) hd
/-- what __init__ leaves of a fresh exception at x -/
structure InitEnd (h h' : Heap) (x C dx t1 : Addr) (v : Value) : Prop where
  keep : ∀ b o, b ≠ x → h.get? b = some o → h'.get? b = some o
  obj : h'.get? x = some { cls := .ref C, dict := some dx, data := .fields #[.ref t1, .none, .none, .none, .bool false, .none] }
  dbig : h.objs.size ≤ dx
  dne : dx ≠ x
  ns : h'.Ns1 dx (fun y => if y = "value" then some v else none)
/-- a made error -/
structure OwnMade (h h' : Heap) (e C d : Addr) (v : Value) : Prop where
  keep : ∀ b o, h.get? b = some o → h'.get? b = some o
  new : h.objs.size ≤ e
  obj : ∃ oe vs, h'.get? e = some oe ∧ oe.cls = .ref C ∧ oe.dict = some d ∧ oe.data = .fields vs ∧ vs[1]? = some .none ∧ vs[2]? = some .none
  dbig : h.objs.size ≤ d
  dne : d ≠ e
  ns : h'.Ns1 d (fun y => if y = "value" then some v else none)
section
variable {prog : Program} {w : World} {A : Around} {E : Value → Shared → Prop} {R : Result → Shared → Prop} {s : Shared} {K : Frag} {mg : Str → Option Value} {nm : Str} {C fI : Addr}
theorem val_init (T : ValTxt K mg nm C fI) {x t0 : Addr} {v : Value} (X : K.In s.heap) (hlim : s.heap.NoLimit) (hx : s.heap.get? x = some (excO C t0)) (hnx : K.lookup x = none) (hroom : A.depth < recursionLimit)
    (hq : ∀ h' tk dx, InitEnd s.heap h' x C dx t0 v → R (.ok (.ret .none)) { s with heap := h', toks := tk }) :
    codeAny (model prog w) A (.call (.ref fI) ⟨[.ref x, v], []⟩) R s := by
  obtain ⟨qn, oc, od, doc, pm, an, cdv, ct, osl, p1, p2, q1, q2, q3, q4, ho, hcd⟩ := T.fn
  obtain ⟨cnm, q, N, bs, bm, sn, sub, ab, col, dd, k0, k1, k2, k3, k5, hC, hbm⟩ := T.cls
  have hcl : clsIn K C = some { name := cnm, bases := bs, mro := .ref C :: bm, ns := N, qualname := q, hasDict := true, slotNames := sn, subclasses := sub, abstract := ab, collection := col, hasDel := false } := by unfold clsIn; rw [hC] <;> rfl
  refine Att.call_fn (binds := [("self", .ref x), ("value", v)]) X hlim ho hcd hroom (BindsTo.of_eq (by first | rfl | with_unfolding_all rfl)) (by first | rfl | decide | with_unfolding_all rfl) (fun s₁ IC => ?_) rfl rfl rfl
  obtain ⟨h₁, tk₁, rfl⟩ := IC.toInCall.same
  have k : ∀ b o, s.heap.get? b = some o → h₁.get? b = some o := IC.toInCall.keep
  have hn := IC.toInCall.ns
  have hxL : s.heap.objs.size ≠ x := Nat.ne_of_gt (Heap.lt_size hx)
  have X₁ : K.In h₁ := X.keeps k
  have hx₁ := k _ _ hx
  -- self.by = by
  show wpAny _ _ (execs _ _) _ _ _
  refine wpAny_execs_cons (plainObj_wpAny_Assign_Attribute ?_)
  refine ldC (v := v) hn (by first | rfl | with_unfolding_all rfl | kernel_rfl) (ldC (v := .ref x) hn (by first | rfl | with_unfolding_all rfl | kernel_rfl) ?_)
  refine set_plain X₁ (ox := excO C t0) (od := none) ⟨hx₁, rfl, rfl, trivial⟩ T.sa ?_
  refine exc_osa X₁ hx₁ hcl (show refsVE (.ref C :: bm) = true from hbm) rfl T.noN (fun h₃ tk₃ dx k₃ dn dne hx₃ hn₃ => ?_)
  show wpAny _ _ (execs _ _) _ _ _
  have z : s.heap.objs.size < h₁.objs.size := hn.lt
  exact wpAny_execs_nil (hq h₃ tk₃ dx ⟨fun b o hb e => k₃ b o hb (k b o e), hx₃, Nat.le_of_lt (Nat.lt_of_lt_of_le z dn), dne, hn₃⟩)
theorem val_made (T : ValTxt K mg nm C fI) {v : Value} (X : K.In s.heap) (hlim : s.heap.NoLimit) (hroom : A.depth + 1 < recursionLimit)
    (hq : ∀ h' tk e d, OwnMade s.heap h' e C d v → R (.ok (.ret (.ref e))) { s with heap := h', toks := tk }) :
    codeAny (model prog w) A (.call (.ref C) ⟨[v], []⟩) R s := by
  obtain ⟨cnm, q, N, bs, bm, sn, sub, ab, col, dd, k0, k1, k2, k3, k5, hC, hbm⟩ := T.cls
  obtain ⟨hp, g, dr, tk, os⟩ := s
  have k : ∀ b o, hp.get? b = some o → ((hp.push (kdv_tup [v])).push (excO C hp.objs.size)).get? b = some o := fun b o e => Heap.get?_push_of_some _ (Heap.get?_push_of_some _ e)
  have hget : ((hp.push (kdv_tup [v])).push (excO C hp.objs.size)).get? (hp.objs.size + 1) = some (excO C hp.objs.size) := by heap_get
  have hnx : K.lookup (hp.objs.size + 1) = none := by
    cases e : K.lookup (hp.objs.size + 1) with
    | none => rfl
    | some o =>
      have z : hp.get? (hp.objs.size + 1) = some o := X _ _ e
      exact absurd (Nat.lt_of_succ_lt (Heap.lt_size z)) (Nat.lt_irrefl _)
  refine call_own F.excBase_ValueError (fun X => refsVE_contains X bm hbm) (X _ _ hC) (looks_findIn X T.iC) (fun self => bind_fn X self T.tC) (one_size v) ?_
  refine val_init (s := ⟨(hp.push (kdv_tup [v])).push (excO C hp.objs.size), g, dr, tk, os⟩) T (X.keeps k) (hlim.keeps k) hget hnx ?_ fun h' tk' dx ⟨k', hx, dn, dne, hns⟩ => ?_
  · show A.depth + 1 < recursionLimit
    exact hroom
  · have old : ∀ b o, hp.get? b = some o → h'.get? b = some o := fun b o e => k' b o (Nat.ne_of_lt (Nat.lt_succ_of_lt (Heap.lt_size e))) (k b o e)
    have z : hp.objs.size + 1 + 1 ≤ dx := by
      first
        | (simpa only [Heap.size_push] using dn)
        | exact dn
        | (have q := dn; rw [Heap.size_push, Heap.size_push] at q; exact q)
    exact ⟨rfl, hq h' tk' (hp.objs.size + 1) dx ⟨old, Nat.le_succ _, ⟨_, _, hx, rfl, rfl, rfl, rfl, rfl⟩, Nat.le_trans (Nat.le_trans (Nat.le_succ _) (Nat.le_succ _)) z, dne, hns⟩⟩
end
end ValX
end PySem
namespace L2
open PySem PySem.Spec PyProof.Rows
theorem relO_val {v : V} {v' : Value} (r : RelV v v') (f : Str) : RelO (List.lookup f [(("value" : Str), v)]) (if f = "value" then some v' else none) := by
  by_cases hw : f = "value"
  · subst hw
    rw [if_pos rfl]
    have q : List.lookup ("value" : Str) [(("value" : Str), v)] = some v := by simp [List.lookup]
    rw [q]
    exact r
  · rw [if_neg hw]
    have qw : (f == ("value" : Str)) = false := by simpa using hw
    have q2 : List.lookup f [(("value" : Str), v)] = none := by simp [List.lookup, qw]
    rw [q2]
    trivial
section
variable {X : Cx} {nm : Str} {C fI : Addr}
/-- X(e) -/
def tMkVal (C : Addr) (ta : TA) : St → Hp → XK → Prop := fun σ H Q => ta σ H fun vs H1 => ∃ v, vs = [v] ∧ ∀ d, H1 d = none → Q (.ref C) (some d) (upd H1 d (.xd [(("value" : Str), v)]))
theorem pmk_val {a : Expr} {ta : TA} {p pos : Pos} {k : Nat} (T : PySem.ValX.ValTxt X.K X.mg nm C fI) (hr : Room k X.A) (ha : PA X [a] ta) (hg : Gl X nm := by rfl) (hdb : (nm == ("__debug__" : Str)) = false := by decide)
    (he : starEach (a :: []) X.env = (false, eval a X.env) :: starEach [] X.env := by rfl) (hpl : (backTo pos (starEach [] X.env)).any (·.1) = false := by rfl) :
    PMk X (.Call (.Name nm p) [a] [] pos) (tMkVal C ta) := by
  intro pins s σ H Q I h
  refine wpAny_Call_Name_kw (ld_glob I hg T.gC ?_ hdb)
  refine PySem.W.callWith_K (h₀ := X.base) I.ok.mod.kin T.kC (thn (ha.run pos pins s σ H _ I h) fun us s1 hh => ?_) he hpl
  obtain ⟨vs, H1, I1, r1, v, ev, q1⟩ := hh
  subst ev
  refine ⟨I1.kIn, ?_⟩
  cases r1 with
  | cons rv rn =>
    rename_i v' us'
    cases rn
    show wpAny _ _ (call (.ref C) [v']) _ _ _
    have hlim := I1.nolimit
    obtain ⟨hp, g, dr, tk, os⟩ := s1
    refine wpAny_call (PySem.ValX.val_made T I1.kIn hlim (by have := hr.dp; omega) fun h' tk' e d M => ?_)
    show MkP X pins σ Q (.ref e) ⟨h', g, dr, tk', os⟩
    obtain ⟨oe, fv, hoe, hc, hd, hdat, h1, h2⟩ := M.obj
    have hns := M.ns
    obtain ⟨G', g1, g2⟩ := restrict h' fun b => decide (b ≠ e)
    have gk : ∀ b, b ≠ e → G'.get? b = h'.get? b := fun b hb => g1 b (decide_eq_true hb)
    have ge : G'.get? e = none := g2 e (by simp)
    have old : ∀ b o, hp.get? b = some o → G'.get? b = some o := fun b o q => (gk b (Nat.ne_of_lt (Nat.lt_of_lt_of_le (Heap.lt_size q) M.new))).trans (M.keep b o q)
    have ob : ObjOk X.prog X.w (upd H1 d (.xd [(("value" : Str), v)])) G' d (.xd [(("value" : Str), v)]) :=
      ⟨_, hns.at (fun o q => (gk d M.dne).trans q), fun f => relO_val rv f⟩
    have J : Inv X pins σ (upd H1 d (.xd [(("value" : Str), v)])) ⟨G', g, dr, tk', os⟩ := I1.laid (t' := tk') old M.dbig ob
    refine ⟨e, oe, fv, ⟨G', g, dr, tk', os⟩, _, .ref C, some d, rfl, J, fun b o q => ?_, ge, hoe, ⟨hc, hd⟩, hdat, h1, ?_, rfl, I1.bare, raises_own T.exC T.tyC, q1 d (I1.hok.fresh M.dbig)⟩
    · by_cases hb : b = e
      · have q' : G'.get? b = some o := q
        rw [hb, ge] at q'; cases q'
      · exact (gk b hb).symm.trans q
    · rw [upd_ne (Ne.symm M.dne)]
      exact I1.hok.fresh M.new
/-- raise X(e) -/
def tRaiseVal (C : Addr) (W : WX) (ta : TA) : TS := fun _ σ H => tMkVal C ta σ H fun cls d H' => W cls d σ H'
theorem ps_raiseVal {a : Expr} {ta : TA} {W : WX} {p pos pos2 : Pos} {k : Nat} (hc : X.calm = true) (T : PySem.ValX.ValTxt X.K X.mg nm C fI) (hr : Room k X.A) (tk : Takes X W) (ha : PA X [a] ta) (hg : Gl X nm := by rfl) (hdb : (nm == ("__debug__" : Str)) = false := by decide)
    (he : starEach (a :: []) X.env = (false, eval a X.env) :: starEach [] X.env := by rfl) (hpl : (backTo pos (starEach [] X.env)).any (·.1) = false := by rfl) :
    PS X (.Raise (some (.Call (.Name nm p) [a] [] pos)) none pos2) (tRaiseVal C W ta) := ps_raise hc tk (pmk_val T hr ha hg hdb he hpl)
theorem pmk_valN {a : Expr} {ta : TA} {p pos : Pos} {k : Nat} (T : PySem.ValX.ValTxt X.K X.mg nm C fI) (hr : Room k X.A) (ha : PA X [a] ta) (hg : Gl X nm := by rfl) (hdb : (nm == ("__debug__" : Str)) = false := by decide)
    (he : starEach (a :: []) X.env = (false, eval a X.env) :: starEach [] X.env := by rfl) (hpl : (backTo pos (starEach [] X.env)).any (·.1) = false := by rfl) :
    L2N.PMk X (.Call (.Name nm p) [a] [] pos) (tMkVal C ta) := by
  intro pins s σ H Q I h
  refine wpAny_Call_Name_kw (ld_glob I hg T.gC ?_ hdb)
  refine PySem.W.callWith_K (h₀ := X.base) I.ok.mod.kin T.kC (thn (ha.run pos pins s σ H _ I h) fun us s1 hh => ?_) he hpl
  obtain ⟨vs, H1, I1, r1, v, ev, q1⟩ := hh
  subst ev
  refine ⟨I1.kIn, ?_⟩
  cases r1 with
  | cons rv rn =>
    rename_i v' us'
    cases rn
    show wpAny _ _ (call (.ref C) [v']) _ _ _
    have hlim := I1.nolimit
    obtain ⟨hp, g, dr, tk, os⟩ := s1
    refine wpAny_call (PySem.ValX.val_made T I1.kIn hlim (by have := hr.dp; omega) fun h' tk' e d M => ?_)
    show L2N.MkP X pins σ Q (.ref e) ⟨h', g, dr, tk', os⟩
    obtain ⟨oe, fv, hoe, hc, hd, hdat, h1, h2⟩ := M.obj
    have hns := M.ns
    obtain ⟨G', g1, g2⟩ := restrict h' fun b => decide (b ≠ e)
    have gk : ∀ b, b ≠ e → G'.get? b = h'.get? b := fun b hb => g1 b (decide_eq_true hb)
    have ge : G'.get? e = none := g2 e (by simp)
    have old : ∀ b o, hp.get? b = some o → G'.get? b = some o := fun b o q => (gk b (Nat.ne_of_lt (Nat.lt_of_lt_of_le (Heap.lt_size q) M.new))).trans (M.keep b o q)
    have ob : ObjOk X.prog X.w (upd H1 d (.xd [(("value" : Str), v)])) G' d (.xd [(("value" : Str), v)]) :=
      ⟨_, hns.at (fun o q => (gk d M.dne).trans q), fun f => relO_val rv f⟩
    have J : Inv X pins σ (upd H1 d (.xd [(("value" : Str), v)])) ⟨G', g, dr, tk', os⟩ := I1.laid (t' := tk') old M.dbig ob
    refine ⟨e, oe, fv, ⟨G', g, dr, tk', os⟩, _, .ref C, some d, rfl, J, fun b o q => ?_, ge, hoe, ⟨hc, hd, fun vs ev => by rw [hdat] at ev; cases ev; exact h2⟩, hdat, h1, ?_, rfl, I1.bare, raises_own T.exC T.tyC, q1 d (I1.hok.fresh M.dbig)⟩
    · by_cases hb : b = e
      · have q' : G'.get? b = some o := q
        rw [hb, ge] at q'; cases q'
      · exact (gk b hb).symm.trans q
    · rw [upd_ne (Ne.symm M.dne)]
      exact I1.hok.fresh M.new
/-- raise X(e), where the context of exceptions is told, too -/
theorem ps_raiseValN {a : Expr} {ta : TA} {W : WX} {p pos pos2 : Pos} {k : Nat} (hc : X.calm = true) (T : PySem.ValX.ValTxt X.K X.mg nm C fI) (hr : Room k X.A) (tk : L2N.Takes X W) (ha : PA X [a] ta) (hg : Gl X nm := by rfl) (hdb : (nm == ("__debug__" : Str)) = false := by decide)
    (he : starEach (a :: []) X.env = (false, eval a X.env) :: starEach [] X.env := by rfl) (hpl : (backTo pos (starEach [] X.env)).any (·.1) = false := by rfl) :
    PS X (.Raise (some (.Call (.Name nm p) [a] [] pos)) none pos2) (tRaiseVal C W ta) := L2N.ps_raise hc tk (pmk_valN T hr ha hg hdb he hpl)
/-- e.value, e the exception that the suite holds (at a; its class cls, its dict d) -/
def tByVal (C : Addr) (a : Addr) (cls : Value) (d : Option Addr) (te : TE) : TE := fun σ H Q => te σ H fun x H1 => x = .ref a ∧ cls = .ref C ∧ ∃ (dd : Addr) (v : V), d = some dd ∧ H1 dd = some (.xd [(("value" : Str), v)]) ∧ Q v H1
theorem pe_byVal {a : Addr} {oe : Obj} {cls : Value} {d : Option Addr} {pn : List (Addr × Obj)} {e : Expr} {te : TE} {pos : Pos} (T : PySem.ValX.ValTxt X.K X.mg nm C fI) (hz : Zc cls d oe) (hf : ∃ vs, oe.data = .fields vs) (he : PE (X.suite a ((a, oe) :: pn)) e te)
    (hb : attributeBase e "value" X.env (eval e X.env) = eval e X.env := by rfl) :
    PE (X.suite a ((a, oe) :: pn)) (.Attribute e "value" pos) (tByVal C a cls d te) := by
  refine ⟨fun pins s σ H Q I h => ?_⟩
  refine attr_of hb (thn (he.run pins s σ H _ I h) fun u s1 hh => ?_)
  obtain ⟨x, H1, I1, rx, ex, ec, dd, v, ed, ea, q⟩ := hh
  subst ex
  obtain rfl : u = Value.ref a := rx
  subst ec
  subst ed
  obtain ⟨ha, _⟩ := I1.pin (a, oe) (List.mem_append_left _ List.mem_cons_self)
  obtain ⟨vs, hd⟩ := hf
  have hx : ObjOk X.prog X.w H1 s1.heap dd (.xd [(("value" : Str), v)]) := I1.hok dd _ ea
  obtain ⟨mA, hns, hr⟩ := hx
  obtain ⟨od, ho, hl⟩ := lookIn_ns hns
  have l : List.lookup ("value" : Str) [(("value" : Str), v)] = some v := by simp [List.lookup]
  obtain ⟨u, hu, ru⟩ := RelO.some_of (v := v) (o := mA "value") (by rw [← l]; exact hr "value")
  have J : PySem.W.InstAt s1.heap a oe C (some od) := ⟨ha, hz.1, by unfold PySem.W.notCls; rw [hd] <;> rfl, by rw [hz.2]; exact ho⟩
  exact HandSPX.exc_get I1.kIn J T.ga T.gg T.exC (PySem.W.findObj_own T.hdC T.noN rfl (by rw [hl, hu])) (handed_of ru) ⟨v, H1, I1.tok _, ru, q⟩
end
end L2

set_option maxHeartbeats 2000000
/-! a class whose __init__ stores its two arguments as self.low and self.high -/
namespace PySem
namespace Val2
open PySem.W PySem.Calls PyProof.Rows PySem.HandSPX PySem.ValX
def iA (p1 p2 p3 : Pos) : Arguments := { posonlyargs := [], args := [{ arg := "self", annotation := none, pos := p1 }, { arg := "low", annotation := none, pos := p2 }, { arg := "high", annotation := none, pos := p3 }], vararg := none, kwonlyargs := [], kw_defaults := [], kwarg := none, defaults := [] }
def iB (q1 q2 q3 q4 r1 r2 r3 r4 : Pos) : List Stmt := [.Assign [.Attribute (.Name "self" q1) "low" q2] (.Name "low" q3) q4, .Assign [.Attribute (.Name "self" r1) "high" r2] (.Name "high" r3) r4]
def iS : Scope := { kind := .function, names := [(PySem.Str.ofString "self", .local), (PySem.Str.ofString "low", .local), (PySem.Str.ofString "high", .local)], isGenerator := false, isCoroutine := false, more := [] }
structure Txt (K : Frag) (mg : Str → Option Value) (nm : Str) (C fI : Addr) : Prop where
  gC : mg nm = some (.ref C)
  cls : ∃ nm q N bs bm sn sub ab col dd k0 k1 k2 k3 k5, K.lookup C = some (excClassObj nm q C N bs bm true sn sub ab col dd k0 k1 k2 k3 k5 "ValueError.__new__") ∧ refsVE bm = true
  sa : findIn K (.ref C) "__setattr__" = some (some (.builtin "object.__setattr__"))
  ga : findIn K (.ref C) "__getattribute__" = some (some (.builtin "BaseException.__getattribute__"))
  gg : findIn K (.ref C) "__getattr__" = some none
  noL : findIn K (.ref C) "low" = some none
  noH : findIn K (.ref C) "high" = some none
  iC : findIn K (.ref C) "__init__" = some (some (.ref fI))
  tC : typeIn K (.ref fI) = some (.type "function")
  kC : keepIn K (.ref C) = true
  exC : subIn K (.ref C) (.type "BaseException") = some true
  tyC : typeIn K (.ref C) = some (.type "type")
  hdC : hasDictIn K C = true
  te : exmOne K (.ref C) (.ref C) = some true
  fn : ∃ (q : Str) (oc : Value) (od : Option Addr) (doc pm : Value) (an : Option Addr) (cdv ct : Value) (osl : Array (Option Value)) (p1 p2 p3 q1 q2 q3 q4 r1 r2 r3 r4 : Pos),
    K.lookup fI = some ⟨oc, od, .func (fnOf "__init__" q (iA p1 p2 p3) (iB q1 q2 q3 q4 r1 r2 r3 r4) iS .none .none doc pm an cdv ct), osl⟩ ∧ codeIn K cdv q = true
theorem two_size (u v : Value) : [u, v].length ≤ sizeLine := by
  rw [sizeLine_eq]
  exact (by decide : 2 ≤ 16777216)
abbrev m2 (u v : Value) : Str → Option Value := fun y => if y = "high" then some v else if y = "low" then some u else none
structure InitEnd (h h' : Heap) (x C dx t1 : Addr) (u v : Value) : Prop where
  keep : ∀ b o, b ≠ x → h.get? b = some o → h'.get? b = some o
  obj : h'.get? x = some { cls := .ref C, dict := some dx, data := .fields #[.ref t1, .none, .none, .none, .bool false, .none] }
  dbig : h.objs.size ≤ dx
  dne : dx ≠ x
  ns : h'.Ns1 dx (m2 u v)
structure OwnMade (h h' : Heap) (e C d : Addr) (u v : Value) : Prop where
  keep : ∀ b o, h.get? b = some o → h'.get? b = some o
  new : h.objs.size ≤ e
  obj : ∃ oe vs, h'.get? e = some oe ∧ oe.cls = .ref C ∧ oe.dict = some d ∧ oe.data = .fields vs ∧ vs[1]? = some .none ∧ vs[2]? = some .none
  dbig : h.objs.size ≤ d
  dne : d ≠ e
  ns : h'.Ns1 d (m2 u v)
section
variable {prog : Program} {w : World} {A : Around} {E : Value → Shared → Prop} {R : Result → Shared → Prop} {s : Shared} {K : Frag} {mg : Str → Option Value} {nm : Str} {C fI : Addr}
theorem val_init (T : Txt K mg nm C fI) {x t0 : Addr} {u v : Value} (X : K.In s.heap) (hlim : s.heap.NoLimit) (hx : s.heap.get? x = some (excO C t0)) (hnx : K.lookup x = none) (hroom : A.depth < recursionLimit)
    (hq : ∀ h' tk dx, InitEnd s.heap h' x C dx t0 u v → R (.ok (.ret .none)) { s with heap := h', toks := tk }) :
    codeAny (model prog w) A (.call (.ref fI) ⟨[.ref x, u, v], []⟩) R s := by
  obtain ⟨qn, oc, od, doc, pm, an, cdv, ct, osl, p1, p2, p3, q1, q2, q3, q4, r1, r2, r3, r4, ho, hcd⟩ := T.fn
  obtain ⟨cnm, q, N, bs, bm, sn, sub, ab, col, dd, k0, k1, k2, k3, k5, hC, hbm⟩ := T.cls
  have hcl : clsIn K C = some { name := cnm, bases := bs, mro := .ref C :: bm, ns := N, qualname := q, hasDict := true, slotNames := sn, subclasses := sub, abstract := ab, collection := col, hasDel := false } := by unfold clsIn; rw [hC] <;> rfl
  refine Att.call_fn (binds := [("self", .ref x), ("low", u), ("high", v)]) X hlim ho hcd hroom (BindsTo.of_eq (by first | rfl | with_unfolding_all rfl)) (by first | rfl | decide | with_unfolding_all rfl) (fun s₁ IC => ?_) rfl rfl rfl
  obtain ⟨h₁, tk₁, rfl⟩ := IC.toInCall.same
  have k : ∀ b o, s.heap.get? b = some o → h₁.get? b = some o := IC.toInCall.keep
  have hn := IC.toInCall.ns
  have hxL : s.heap.objs.size ≠ x := Nat.ne_of_gt (Heap.lt_size hx)
  have X₁ : K.In h₁ := X.keeps k
  have hx₁ := k _ _ hx
  show wpAny _ _ (execs _ _) _ _ _
  refine wpAny_execs_cons (plainObj_wpAny_Assign_Attribute ?_)
  refine ldC (v := u) hn (by first | rfl | with_unfolding_all rfl | kernel_rfl) (ldC (v := .ref x) hn (by first | rfl | with_unfolding_all rfl | kernel_rfl) ?_)
  refine set_plain X₁ (ox := excO C t0) (od := none) ⟨hx₁, rfl, rfl, trivial⟩ T.sa ?_
  refine exc_osa X₁ hx₁ hcl (show refsVE (.ref C :: bm) = true from hbm) rfl T.noL (fun h₃ tk₃ dx k₃ dn dne hx₃ hn₃ => ?_)
  have z : s.heap.objs.size < h₁.objs.size := hn.lt
  have X₃ : K.In h₃ := kept_but X₁ hnx k₃
  have dL : dx ≠ s.heap.objs.size := fun e => absurd (Nat.lt_of_lt_of_le z dn) (by rw [e]; exact Nat.lt_irrefl _)
  have hnL : h₃.Ns s.heap.objs.size _ := hn.at fun o e => k₃ _ o hxL e
  show wpAny _ _ (execs _ _) _ _ _
  refine wpAny_execs_cons (plainObj_wpAny_Assign_Attribute ?_)
  refine ldC (v := v) hnL (by first | rfl | with_unfolding_all rfl | kernel_rfl) (ldC (v := .ref x) hnL (by first | rfl | with_unfolding_all rfl | kernel_rfl) ?_)
  have hw : Within (fun y => if y = "low" then some u else none) ["low"] := fun y hy => by
    by_cases e : y = "low"
    · rw [e]; exact List.mem_cons_self
    · exact absurd (if_neg e) hy
  obtain ⟨oD, _, _, hoD, _, _⟩ := hn₃.count hw
  refine set_plain X₃ (ox := { cls := .ref C, dict := some dx, data := .fields #[.ref t0, .none, .none, .none, .bool false, .none] }) (od := some oD) ⟨hx₃, rfl, rfl, hoD⟩ T.sa ?_
  refine PySem.OEX.osa_old X₃ hx₃ hn₃ hw (by decide) hcl (show refsVE (.ref C :: bm) = true from hbm) rfl T.noH (fun h₄ tk₄ k₄ hn₄ => ?_)
  show wpAny _ _ (execs _ _) _ _ _
  have old : ∀ b o, b ≠ x → s.heap.get? b = some o → h₄.get? b = some o := fun b o hb e =>
    k₄ b o (Nat.ne_of_lt (Nat.lt_of_lt_of_le (Nat.lt_trans (Heap.lt_size e) z) dn)) (k₃ b o hb (k b o e))
  exact wpAny_execs_nil (hq h₄ tk₄ dx ⟨old, k₄ _ _ (Ne.symm dne) hx₃, Nat.le_of_lt (Nat.lt_of_lt_of_le z dn), dne, hn₄⟩)
theorem val_made (T : Txt K mg nm C fI) {u v : Value} (X : K.In s.heap) (hlim : s.heap.NoLimit) (hroom : A.depth + 1 < recursionLimit)
    (hq : ∀ h' tk e d, OwnMade s.heap h' e C d u v → R (.ok (.ret (.ref e))) { s with heap := h', toks := tk }) :
    codeAny (model prog w) A (.call (.ref C) ⟨[u, v], []⟩) R s := by
  obtain ⟨cnm, q, N, bs, bm, sn, sub, ab, col, dd, k0, k1, k2, k3, k5, hC, hbm⟩ := T.cls
  obtain ⟨hp, g, dr, tk, os⟩ := s
  have k : ∀ b o, hp.get? b = some o → ((hp.push (kdv_tup [u, v])).push (excO C hp.objs.size)).get? b = some o := fun b o e => Heap.get?_push_of_some _ (Heap.get?_push_of_some _ e)
  have hget : ((hp.push (kdv_tup [u, v])).push (excO C hp.objs.size)).get? (hp.objs.size + 1) = some (excO C hp.objs.size) := by heap_get
  have hnx : K.lookup (hp.objs.size + 1) = none := by
    cases e : K.lookup (hp.objs.size + 1) with
    | none => rfl
    | some o =>
      have z : hp.get? (hp.objs.size + 1) = some o := X _ _ e
      exact absurd (Nat.lt_of_succ_lt (Heap.lt_size z)) (Nat.lt_irrefl _)
  refine call_own F.excBase_ValueError (fun X => refsVE_contains X bm hbm) (X _ _ hC) (looks_findIn X T.iC) (fun self => bind_fn X self T.tC) (two_size u v) ?_
  refine val_init (s := ⟨(hp.push (kdv_tup [u, v])).push (excO C hp.objs.size), g, dr, tk, os⟩) T (X.keeps k) (hlim.keeps k) hget hnx ?_ fun h' tk' dx ⟨k', hx, dn, dne, hns⟩ => ?_
  · show A.depth + 1 < recursionLimit
    exact hroom
  · have old : ∀ b o, hp.get? b = some o → h'.get? b = some o := fun b o e => k' b o (Nat.ne_of_lt (Nat.lt_succ_of_lt (Heap.lt_size e))) (k b o e)
    have z : hp.objs.size + 1 + 1 ≤ dx := by
      first
        | (simpa only [Heap.size_push] using dn)
        | exact dn
        | (have q := dn; rw [Heap.size_push, Heap.size_push] at q; exact q)
    exact ⟨rfl, hq h' tk' (hp.objs.size + 1) dx ⟨old, Nat.le_succ _, ⟨_, _, hx, rfl, rfl, rfl, rfl, rfl⟩, Nat.le_trans (Nat.le_trans (Nat.le_succ _) (Nat.le_succ _)) z, dne, hns⟩⟩
end
end Val2
end PySem
namespace L2
open PySem PySem.Spec PyProof.Rows
/-- the two fields -/
abbrev xd2 (u v : V) : HO := .xd [(("high" : Str), v), (("low" : Str), u)]
theorem relO_nil (f : Str) : RelO (List.lookup f ([] : List (Str × V))) (none : Option Value) := trivial
section
variable {X : Cx} {nm : Str} {C fI : Addr}
def tMk2 (C : Addr) (ta : TA) : St → Hp → XK → Prop := fun σ H Q => ta σ H fun vs H1 => ∃ u v, vs = [u, v] ∧ ∀ d, H1 d = none → Q (.ref C) (some d) (upd H1 d (xd2 u v))
theorem relO_2 {u v : V} {u' v' : Value} (ru : RelV u u') (rv : RelV v v') (f : Str) : RelO (List.lookup f [(("high" : Str), v), (("low" : Str), u)]) (PySem.Val2.m2 u' v' f) := by
  have r := relO_put (f := ("high" : Str)) rv (relO_put (f := ("low" : Str)) ru relO_nil) f
  exact r
theorem pmk_2N {a b : Expr} {ta : TA} {p pos : Pos} {k : Nat} (T : PySem.Val2.Txt X.K X.mg nm C fI) (hr : Room k X.A) (ha : PA X [a, b] ta) (hg : Gl X nm := by rfl) (hdb : (nm == ("__debug__" : Str)) = false := by decide)
    (he : starEach (a :: [b]) X.env = (false, eval a X.env) :: starEach [b] X.env := by rfl) (hpl : (backTo pos (starEach [b] X.env)).any (·.1) = false := by rfl) :
    L2N.PMk X (.Call (.Name nm p) [a, b] [] pos) (tMk2 C ta) := by
  intro pins s σ H Q I h
  refine wpAny_Call_Name_kw (ld_glob I hg T.gC ?_ hdb)
  refine PySem.W.callWith_K (h₀ := X.base) I.ok.mod.kin T.kC (thn (ha.run pos pins s σ H _ I h) fun us s1 hh => ?_) he hpl
  obtain ⟨vs, H1, I1, r1, u, v, ev, q1⟩ := hh
  subst ev
  refine ⟨I1.kIn, ?_⟩
  obtain ⟨u', v', rfl, ru, rv⟩ := vals2 r1
  show wpAny _ _ (call (.ref C) [u', v']) _ _ _
  have hlim := I1.nolimit
  obtain ⟨hp, g, dr, tk, os⟩ := s1
  refine wpAny_call (PySem.Val2.val_made T I1.kIn hlim (by have := hr.dp; omega) fun h' tk' e d M => ?_)
  show L2N.MkP X pins σ Q (.ref e) ⟨h', g, dr, tk', os⟩
  obtain ⟨oe, fv, hoe, hc, hd, hdat, h1, h2⟩ := M.obj
  have hns := M.ns
  obtain ⟨G', g1, g2⟩ := restrict h' fun b => decide (b ≠ e)
  have gk : ∀ b, b ≠ e → G'.get? b = h'.get? b := fun b hb => g1 b (decide_eq_true hb)
  have ge : G'.get? e = none := g2 e (by simp)
  have old : ∀ b o, hp.get? b = some o → G'.get? b = some o := fun b o q => (gk b (Nat.ne_of_lt (Nat.lt_of_lt_of_le (Heap.lt_size q) M.new))).trans (M.keep b o q)
  have ob : ObjOk X.prog X.w (upd H1 d (xd2 u v)) G' d (xd2 u v) :=
    ⟨_, hns.at (fun o q => (gk d M.dne).trans q), fun f => relO_2 ru rv f⟩
  have J : Inv X pins σ (upd H1 d (xd2 u v)) ⟨G', g, dr, tk', os⟩ := I1.laid (t' := tk') old M.dbig ob
  refine ⟨e, oe, fv, ⟨G', g, dr, tk', os⟩, _, .ref C, some d, rfl, J, fun b o q => ?_, ge, hoe, ⟨hc, hd, fun vs ev => by rw [hdat] at ev; cases ev; exact h2⟩, hdat, h1, ?_, rfl, I1.bare, raises_own T.exC T.tyC, q1 d (I1.hok.fresh M.dbig)⟩
  · by_cases hb : b = e
    · have q' : G'.get? b = some o := q
      rw [hb, ge] at q'; cases q'
    · exact (gk b hb).symm.trans q
  · rw [upd_ne (Ne.symm M.dne)]
    exact I1.hok.fresh M.new
def tRaise2 (C : Addr) (W : WX) (ta : TA) : TS := fun _ σ H => tMk2 C ta σ H fun cls d H' => W cls d σ H'
theorem ps_raise2N {a b : Expr} {ta : TA} {W : WX} {p pos pos2 : Pos} {k : Nat} (hc : X.calm = true) (T : PySem.Val2.Txt X.K X.mg nm C fI) (hr : Room k X.A) (tk : L2N.Takes X W) (ha : PA X [a, b] ta) (hg : Gl X nm := by rfl) (hdb : (nm == ("__debug__" : Str)) = false := by decide)
    (he : starEach (a :: [b]) X.env = (false, eval a X.env) :: starEach [b] X.env := by rfl) (hpl : (backTo pos (starEach [b] X.env)).any (·.1) = false := by rfl) :
    PS X (.Raise (some (.Call (.Name nm p) [a, b] [] pos)) none pos2) (tRaise2 C W ta) := L2N.ps_raise hc tk (pmk_2N T hr ha hg hdb he hpl)
end
end L2

set_option maxHeartbeats 4000000
/-! isinstance of a caught error of an own class that has a dict of its own -/
namespace Vk
open PySem PySem.W PySem.Spec PySem.Calls PyProof.Rows
section
variable {prog : Program} {w : World} {A : Around} {E : Value → Shared → Prop} {s : Shared} {K : Frag} {x D : Addr} {ox : Obj} {od : Option Obj}
theorem found_data {C : Addr} {name : Str} {a g : Value} (hc : (clsIn K C).isSome = true) (ha : findIn K (.ref C) name = some (some a)) (hg : specialIn K a "__get__" = some (some g)) (ht : takesIn K a = some true) : findObj K C od name = some (.bind g a) := by
  obtain ⟨cd, hc⟩ := Option.isSome_iff_exists.mp hc
  simp only [findObj, hc, ha, Option.bind_some, hg, ht]
/-- what the class must say -/
abbrev Ec (K : Frag) (D : Addr) : Prop := L2.ExcC K D
theorem class_asked {Q : Option Value → Shared → Prop} (C : Ec K D) (X : K.In s.heap) (I : InstAt s.heap x ox D od) (h : Q (some (.ref D)) { s with toks := s.toks + 1 }) : wpAny (model prog w) A (getAttr? (.ref x) "__class__") Q E s := by
  have isC : (clsIn K D).isSome = true := by
    obtain ⟨cd, e, _⟩ := any_some C.hd
    rw [e]
    rfl
  obtain ⟨hp, g, d, t, os⟩ := s
  have T0 := I.type (M := model prog w)
  have F1 := looks_findIn (M := model prog w) X C.hg
  have F2 := looks_findIn (M := model prog w) X C.hk
  have F3 := looks_find (M := model prog w) X I (found_data isC C.ha C.hn C.ht)
  have below : Looks (model prog w) hp (isInstance (.ref x) (.type "BaseException")) true := T0.andThen (looks_subIn X C.hs)
  have q1 : (Value.builtin "BaseException.__getattribute__" == Value.builtin "object.__getattribute__") = false := by decide +kernel
  have q2 : (onTheHeap (Value.ref D) && Value.builtin "BaseException.__getattribute__" == Value.builtin "object.__getattribute__") = false := by rw [q1]; rfl
  unfold getAttr? getAttrBy? getAttrBy
  refine wpAny_bind (wpAny_mkText (wpAny_bind (wpAny_attempt (wpAny_holding (wpAny_bind (T0.at (wpAny_bind (F1.at ?_))))))))
  show wpAny _ _ (if (onTheHeap (Value.ref D) && Value.builtin "BaseException.__getattribute__" == Value.builtin "object.__getattribute__") = true then _ else _) _ _ _
  rw [q2, if_neg Bool.false_ne_true]
  unfold getAttrByItsOwn hookBefore
  refine wpAny_bind ?_
  rw [if_pos (show onTheHeap (Value.ref D) = true from rfl)]
  refine F2.at (wpAny_bind (wpAny_attempt (wpAny_holding ?_)))
  unfold callGetattribute
  rw [show (false && onTheHeap (Value.builtin "BaseException.__getattribute__")) = false from rfl, if_neg Bool.false_ne_true]
  unfold boundAndCalled
  rw [PySem.F.excAttr_ValueError.ga.bind (.ref x)]
  refine wpAny_bind (wpAny_pure ?_)
  show wpAny _ _ (call (.builtin "BaseException.__getattribute__") [.ref x, .str "__class__" t]) _ _ _
  refine wpAny_call (codeAny_call_builtin PySem.F.excAttr_ValueError.ga.plain PySem.F.entry_bexc_ga ?_)
  refine @check_slot (model prog w) _ _ ⟨hp, g, d, t + 1, os⟩ "BaseException.__getattribute__" "BaseException" "__getattribute__" (.ref x) [.str "__class__" t] [] _ (by decide +kernel) (by decide +kernel) below (PySem.F.args_bexc_ga (.ref x) (.str "__class__" t)) ?_
  unfold Builtin.«object.__getattribute__»
  refine wpAny_bind (wpAny_of_eq (a := ((Value.ref x : Value), [Value.str "__class__" t])) (by first | rfl | (simp only [slotArgs]; rfl)) ?_)
  refine wpAny_bind (wpAny_pure (wpAny_bind (T0.at (wpAny_bind (F3.at ?_)))))
  show wpAny _ _ (holding [Value.builtin "object.__class__"] (call (.builtin "getset_descriptor.__get__") [.builtin "object.__class__", .ref x, .ref D]) >>= ret) _ _ _
  refine wpAny_bind (wpAny_holding (wpAny_call (class_get (s := ⟨hp, g, d, t + 1, os⟩) (ox := ox) (od := od) X I C.hm ?_)))
  refine wpAny_pure ?_
  show wpAny _ _ (handedOut (.ref D)) _ _ _
  rw [handedOut_of (v := .ref D) rfl]
  first
    | exact wpAny_pure (wpAny_pure h)
    | exact wpAny_pure h
    | exact wpAny_pure (wpAny_bind (wpAny_pure (wpAny_pure h)))
theorem kit_exc (C : Ec K D) : KitX K (.ref x) (.ref D) (fun h => InstAt h x ox D od) where
  ty := fun _ _ _ I => I.type
  it := fun _ _ X _ => by
    obtain ⟨cdD, hcD, _⟩ := any_some C.hd
    unfold clsIn at hcD
    split at hcD
    · rename_i c' d' cd' sl' ho
      intro A' Q' E' s' k q
      unfold isType loadHead
      exact wpAny_bind (wpAny_loadPart (k _ _ (X _ _ ho)) (wpAny_pure q))
    · cases hcD
  ne := fun h tp dd its n sl X htp => by
    obtain ⟨cdD, hcD, _⟩ := any_some C.hd
    unfold clsIn at hcD
    split at hcD
    · rename_i c' d' cd' sl' ho
      refine Bool.eq_false_iff.mpr fun q => ?_
      have e : D = tp := Value.ref.inj (beq_iff_eq.mp q)
      rw [← e] at htp
      cases (X _ _ ho).symm.trans htp
    · cases hcD
  ca := fun X I k => class_asked C X I k
end
end Vk
namespace Vk
open PySem PySem.Spec PyProof.Rows L2
/-- isinstance(e, c), e the exception that the suite holds, its dict tracked (or none) -/
def rIsG (K : PySem.W.Frag) (D a : Addr) (d : Option Addr) : List V → Hp → VK → Prop := fun xs H Q => ∃ (c : V) (cv : Value) (b : Bool), xs = [.ref a, c] ∧ ClsV c cv ∧ (d = none ∨ ∃ dd fs, d = some dd ∧ H dd = some (.xd fs)) ∧ PySem.W.kitOne K (.ref D) cv = some b ∧ Q (.bl b) H
theorem call_isG {X : Cx} {a D : Addr} {oe : Obj} {d : Option Addr} {pn : List (Addr × Obj)} (C : ExcC X.K D) (hz : Zc (.ref D) d oe) (hf : ∃ vs, oe.data = .fields vs) : CallR (X.suite a ((a, oe) :: pn)) (.builtin "isinstance") (rIsG X.K D a d) := by
  intro pins s σ H xs us Q I r h
  obtain ⟨c, cv, b, rfl, hcv, hd, e, q⟩ := h
  obtain ⟨u1, u2, rfl, r1, r2⟩ := vals2 r
  obtain rfl : u1 = Value.ref a := r1
  have ec := hcv.eq r2
  subst ec
  obtain ⟨hget, _⟩ := I.pin (a, oe) (List.mem_append_left _ List.mem_cons_self)
  obtain ⟨vs, hv⟩ := hf
  obtain ⟨od, J⟩ : ∃ od, PySem.W.InstAt s.heap a oe D od := by
    have no : PySem.W.notCls oe = true := by unfold PySem.W.notCls; rw [hv] <;> rfl
    rcases hd with rfl | ⟨dd, fs, rfl, hdd⟩
    · exact ⟨none, hget, hz.1, no, by rw [hz.2]; trivial⟩
    · have hx : ObjOk X.prog X.w H s.heap dd (.xd fs) := I.hok dd _ hdd
      obtain ⟨mA, hns, _⟩ := hx
      obtain ⟨o, ho, _⟩ := lookIn_ns hns
      exact ⟨some o, hget, hz.1, no, by rw [hz.2]; exact ho⟩
  exact PySem.W.kia_one (kit_exc C) I.kIn J e (fun z => nomatch z) fun tk => ⟨.bl b, H, I.kept (t' := tk) fun _ _ z => z, rfl, q⟩
end Vk

set_option maxHeartbeats 2000000
/-! several clauses «except X as n» behind one try -/
namespace L2
open PySem PySem.Spec PyProof.Rows
abbrev Clause := Value × Nat × (Addr → Value → Option Addr → TS)
/-- behind a suite its name is gone -/
def Ends.off (i : Nat) (D : Ends) : Ends := ⟨fun τ G => D.nx (τ.set i none) G, D.rt, fun τ G => D.bk (τ.set i none) G, fun τ G => D.ct (τ.set i none) G⟩
def wAses (K : PySem.W.Frag) (W0 : WX) (D : Ends) : List Clause → WX
  | [] => W0
  | q :: more => fun k dd τ G => ∃ hit, PySem.W.exmOne K k q.1 = some hit ∧ (hit = true → ∀ z, G z = none → q.2.2 z k dd (D.off q.2.1) (τ.set q.2.1 (some (.ref z))) G) ∧ (hit = false → wAses K W0 D more k dd τ G)
inductive AsOk (X : Cx) : List ExceptHandler → List Clause → Prop
  | nil : AsOk X [] []
  | cons {x n : Str} {c : Value} {i : Nat} {ts : Addr → Value → Option Addr → TS} {b0 : Stmt} {bs : List Stmt} {p1 p2 : Pos} {es : List ExceptHandler} {qs : List Clause} (hc : Names X x c) (hi : X.N[i]? = some n) (hk : X.env.kindOf n = some .local)
      (hsu : ∀ (z : Addr) (oz : Obj) (k : Value) (dd : Option Addr) (pn : List (Addr × Obj)), Zc k dd oz → (∃ vs, oz.data = .fields vs) → PSs (X.suite z ((z, oz) :: pn)) (b0 :: bs) (ts z k dd)) (more : AsOk X es qs) :
      AsOk X (.ExceptHandler (some (.Name x p1)) (some n) (b0 :: bs) p2 :: es) ((c, i, ts) :: qs)
section
variable {X : Cx} {body : List Stmt} {e0 : ExceptHandler} {es : List ExceptHandler} {qs : List Clause} {pos : Pos} {tb : WX → TS} {W0 : WX}
theorem ps_try_ases (hst : X.stack = X.env :: X.outer) (hfr : X.env.frame = some X.env.locals) (hnd : X.N.Nodup) (tk : Takes X W0)
    (hb : ∀ (W : WX) (pn : List (Addr × Obj)) (xe : Value → Shared → Prop), Takes (X.tr pn xe) W → PassesOwn (model X.prog X.w) X.A X.env xe → PSs (X.tr pn xe) body (tb W))
    (hh : AsOk X (e0 :: es) qs) : PS X (.Try body (e0 :: es) [] [] pos) (fun D τ G => tb (wAses X.K W0 D qs) D τ G) := by
  refine ⟨fun pins s τ0 G0 D inv0 wish => ?_⟩
  have okk := inv0.ok
  have frm : X.A.frames = some (X.env :: X.outer) := okk.frames.trans (congrArg some hst)
  refine wpAny_Try_except (wpAny_mono ((hb (wAses X.K W0 D qs) (X.pn ++ pins) (fun u t1 => wpAny (model X.prog X.w) X.A (noteFrame u X.env) (fun _ t2 => wpAny (model X.prog X.w) X.A (setFlight u none) (fun _ t3 =>
    wpAny (model X.prog X.w) X.A (handleBy u X.env (e0 :: es)) (SP X pins D) X.xe t3) X.xe t2) X.xe t1) (fun u t raised => ?caught) PassesOwn.looking).run [] s τ0 G0 D (inv0.toTry _) wish) (fun fl t got => ?through) (fun _ _ y => y))
  case through =>
    cases fl with
    | next => obtain ⟨τ, G, J, q⟩ := got; exact wpAny_execs_nil ⟨τ, G, J.ofTry okk, q⟩
    | brk => obtain ⟨τ, G, J, q⟩ := got; exact ⟨τ, G, J.ofTry okk, q⟩
    | cont => obtain ⟨τ, G, J, q⟩ := got; exact ⟨τ, G, J.ofTry okk, q⟩
    | ret u => obtain ⟨v, τ, G, J, r, q⟩ := got; exact ⟨v, τ, G, J.ofTry okk, r, q⟩
  case caught =>
    obtain ⟨z, B, sB, pins1, τ, G, k, dd, rfl, jT, bare, upB, inSky, zfree, os1, same1, wants⟩ := raised
    have j0 : Inv X pins τ G sB := jT.ofTry okk
    have inSky1 : Sky B (X.env :: X.outer) z (Zc k dd) X.env.locals t.heap := hst ▸ inSky
    show wpAny (model X.prog X.w) X.A (noteFrame (.ref z) X.env) _ _ _
    refine Sky.land Zc.steady frm hfr inSky1 fun hA flA upA => ?_
    have jA : Inv X pins τ G { t with heap := hA } := j0.landed bare flA.1 (upB.trans upA) os1 same1
    obtain ⟨oA, vA, getA, zcA, datA⟩ := flA.there
    have notF : z ∉ frs (X.env :: X.outer) := by
      intro hm
      obtain ⟨_, o', e', hnf⟩ := flA.2.2.1.mem hm
      rw [getA] at e'
      cases e'
      exact hnf _ datA
    have zL : z ≠ X.env.locals := fun y => notF (List.mem_filterMap.mpr ⟨X.env, List.mem_cons_self, hfr.trans (congrArg some y.symm)⟩)
    have zF : z ∉ X.fs := fun hm => by
      obtain ⟨en, hen, y⟩ := List.mem_filterMap.mp hm
      exact notF (List.mem_filterMap.mpr ⟨en, List.mem_cons_of_mem _ hen, y⟩)
    have jS := jA.suite getA datA zfree zL zF
    have turn : ∀ {es1 : List ExceptHandler} {qs1 : List Clause}, AsOk X es1 qs1 → wAses X.K W0 D qs1 k dd τ G → wpAny (model X.prog X.w) X.A (handleBy (.ref z) X.env es1) (SP X pins D) X.xe { t with heap := hA } := by
      intro es1 qs1 kk
      induction kk with
      | nil =>
        intro out
        refine wpAny_handleBy_nil ?_
        obtain ⟨_, _, _, oz, vs, Tr, oTr, tsr, geto, zco, dato, one, _⟩ := id flA
        unfold PySem.passOn
        refine wpAny_bind (wpAny_field geto dato one ?_)
        rw [if_neg (by simp : ¬ ((Value.ref Tr == Value.none) = true))]
        have away : wpAny (model X.prog X.w) X.A (setFlight (.ref z) X.env.frame) (fun _ t4 => wpAny (model X.prog X.w) X.A (throw (.ref z) : Sem Flow) (SP X pins D) X.xe t4) X.xe { t with heap := hA } := by
          rw [hfr]
          exact HandSPX.setFlight_upZ flA fun h4 sk4 up4 => wpAny_throw (tk _ _ ⟨z, B, sB, pins, τ, G, k, dd, rfl, j0, bare, (upB.trans upA).trans up4, .inr (.inr (hst.symm ▸ sk4)), zfree, os1, same1, out⟩)
        first | exact wpAny_bind (wpAny_pure (wpAny_bind away)) | exact wpAny_bind away
      | @cons x n c i ts b0 bs p1 p2 es2 qs2 hc hi hk hsu more ih =>
        rintro ⟨hit, isHit, onHit, offHit⟩
        refine wpAny_handleBy_cons (codeAny_handlers_test ?_) (by intro y; cases y)
        have looksT : PySem.W.Looks (model X.prog X.w) hA (typeOf (.ref z)) k := fun A Q E s kp y => wpAny_typeOf_ref (kp _ _ getA) (by rw [zcA.1]; exact y)
        have looksM := PySem.W.exm_one (M := model X.prog X.w) jA.kIn looksT isHit
        have named : ∀ {Q : Value → Shared → Prop} {E : Value → Shared → Prop}, Q c { t with heap := hA } → wpAny (model X.prog X.w) (X.A.mark (some (.ref z))) (eval (.Name x p1) X.env) Q E { t with heap := hA } := fun {Q E} y =>
          match hc with
          | ⟨hg, hdb, .inl hm⟩ => ld_glob (X := X.suite z ((z, oA) :: (X.pn ++ pins))) jS hg hm y hdb
          | ⟨hg, hdb, .inr ⟨hm, hv, hnn⟩⟩ => ld_blt (X := X.suite z ((z, oA) :: (X.pn ++ pins))) jS hg hm hv y hnn hdb
        refine named (looksM.here ?_)
        cases hit with
        | false => exact ih (offHit rfl)
        | true =>
          refine codeAny_handlers_suite_as (HandSPX.lands_againZ flA fun hB flB upB2 => ?_)
          have jB : Inv X pins τ G { t with heap := hB } := j0.landed bare flB.1 ((upB.trans upA).trans upB2) os1 same1
          obtain ⟨oB, vB, getB, zcB, datB⟩ := flB.there
          have jSB := jB.suite getB datB zfree zL zF
          refine store_ok (X := X.suite z ((z, oB) :: (X.pn ++ pins))) (v := .ref z) jSB hnd hi (.inl hk) rfl (fun t5 S5 => ?_) (.inr hk)
          refine wpAny_mono ((hsu z oB k dd (X.pn ++ pins) zcB ⟨_, datB⟩).run [] t5 _ G _ S5 (onHit rfl z zfree)) (fun fl t6 got => ?_) (fun _ _ y => y.elim)
          have fin : ∀ {τ6 : St} {G6 : Hp} {Q : Shared → Prop}, Inv (X.suite z ((z, oB) :: (X.pn ++ pins))) [] τ6 G6 t6 → (∀ t7, Inv X pins (τ6.set i none) G6 t7 → Q t7) →
              wpAny (model X.prog X.w) X.A (do bindName X.env n .none; unbindBehindTheSuite X.env n p2) (fun _ t7 => Q t7) X.xe t6 := fun S6 hq => gone_ok (S6.unsuite okk) hnd hi hk hq
          cases fl with
          | next => obtain ⟨_, _, S6, q6⟩ := got; exact fin S6 fun _ J7 => ⟨_, _, J7, q6⟩
          | brk => obtain ⟨_, _, S6, q6⟩ := got; exact fin S6 fun _ J7 => ⟨_, _, J7, q6⟩
          | cont => obtain ⟨_, _, S6, q6⟩ := got; exact fin S6 fun _ J7 => ⟨_, _, J7, q6⟩
          | ret u => obtain ⟨_, _, _, S6, r6, q6⟩ := got; exact fin S6 fun _ J7 => ⟨_, _, _, J7, r6, q6⟩
    exact turn hh wants
end
end L2

/-! defs that may raise, and calls with keywords -/
namespace Vk
open PySem L2 PyProof.Rows
/-- a def that may raise: its promise says when -/
structure DefX (P : Program) (w : World) (K : PySem.W.Frag) (mg : Str → Option Value) (base : Heap) (k : Nat) (x : Str) (ps : List Str) (sp : Sp) (f : Addr) (fd : FuncData) : Prop where
  ok : FnOk P w K mg base (L2.CX P w) k f fd ps sp
  m : mg x = some (.ref f)
  kp : PySem.W.keepIn K (.ref f) = true
  b : Binds K fd ps []
theorem DefX.up {P : Program} {w : World} {K : PySem.W.Frag} {mg : Str → Option Value} {base : Heap} {j k : Nat} {x : Str} {ps : List Str} {sp : Sp} {f : Addr} {fd : FuncData} (d : DefX P w K mg base j x ps sp f fd) (h : j ≤ k) : DefX P w K mg base k x ps sp f fd := ⟨d.ok.mono h, d.m, d.kp, d.b⟩
/-- with n values by place and keywords ks -/
structure DefXN (P : Program) (w : World) (K : PySem.W.Frag) (mg : Str → Option Value) (base : Heap) (k : Nat) (x : Str) (ps : List Str) (n : Nat) (ks : List Str) (sp : Sp) (f : Addr) (fd : FuncData) : Prop where
  ok : FnOk P w K mg base (L2.CX P w) k f fd ps sp
  m : mg x = some (.ref f)
  kp : PySem.W.keepIn K (.ref f) = true
  b : KBn K fd ps n ks (fun us ws => us ++ ws) (fun vs zs => vs ++ zs)
theorem DefXN.up {P : Program} {w : World} {K : PySem.W.Frag} {mg : Str → Option Value} {base : Heap} {j k n : Nat} {x : Str} {ps ks : List Str} {sp : Sp} {f : Addr} {fd : FuncData} (d : DefXN P w K mg base j x ps n ks sp f fd) (h : j ≤ k) : DefXN P w K mg base k x ps n ks sp f fd := ⟨d.ok.mono h, d.m, d.kp, d.b⟩
theorem vals_app : ∀ {vs : List V} {us : List Value} {zs : List V} {ws : List Value}, Vals vs us → Vals zs ws → Vals (vs ++ zs) (us ++ ws)
  | _, _, _, _, .nil, h => h
  | _, _, _, _, .cons r t, h => .cons r (vals_app t h)
/-- keyword-only parameters without defaults, all given -/
theorem kbn_of {K : PySem.W.Frag} {x qual : Str} {st : Stmt} {f : Addr} {fd : FuncData} {ps ks : List Str} {n : Nat} (F : Fun K x qual st f fd)
    (h : ∀ (kV doc pm : Value) (an : Option Addr) (cdv ct : Value) (us ws : List Value), us.length = n → ws.length = ks.length → bindArgs (PySem.W.fnOf x qual (defArgs st) (defBody st) (defScope st) .none kV doc pm an cdv ct) ⟨us, ks.zip ws⟩ = pure (ps.zip (us ++ ws))) :
    KBn K fd ps n ks (fun us ws => us ++ ws) (fun vs zs => vs ++ zs) := by
  obtain ⟨oc, od, kV, doc, pm, an, cdv, ct, osl, rfl, lk, hcd⟩ := F.ex
  exact ⟨fun s us ws _ l1 l2 => BindsTo.of_eq (h kV doc pm an cdv ct us ws l1 l2), vals_app⟩
section
variable {X : Cx} {k n : Nat} {f : Addr} {fd : FuncData} {ps ks : List Str} {sp : Sp} {x : Str} {p pos : Pos} {e : Expr} {es : List Expr} {kws : List Keyword} {t tkw : TA} {W : WX}
/-- called where nothing is let out -/
theorem pcallL (D : DefX X.prog X.w X.K X.mg X.base k x ps sp f fd) (hr : Room k X.A) (ha : PA X (e :: es) t)
    (hg : Gl X x := by rfl) (hdb : (x == ("__debug__" : Str)) = false := by decide) (he : starEach (e :: es) X.env = (false, eval e X.env) :: starEach es X.env := by rfl) (hpl : (backTo pos (starEach es X.env)).any (·.1) = false := by rfl) :
    PE X (.Call (.Name x p) (e :: es) [] pos) (tCall sp [] E0 t) := pe_call D.ok hr hg D.m D.kp D.b .nil passL ha hdb he hpl
/-- called where the wish W takes what it raises -/
theorem pcallX (D : DefX X.prog X.w X.K X.mg X.base k x ps sp f fd) (hr : Room k X.A) (tk : Takes X W) (ha : PA X (e :: es) t)
    (hg : Gl X x := by rfl) (hdb : (x == ("__debug__" : Str)) = false := by decide) (he : starEach (e :: es) X.env = (false, eval e X.env) :: starEach es X.env := by rfl) (hpl : (backTo pos (starEach es X.env)).any (·.1) = false := by rfl) :
    PE X (.Call (.Name x p) (e :: es) [] pos) (tCallS sp (WE W) t) := pe_callS D.ok hr hg D.m D.kp D.b (fun σ => passAt tk σ) ha hdb he hpl
theorem pcallLN (D : DefXN X.prog X.w X.K X.mg X.base k x ps n ks sp f fd) (hr : Room k X.A) (ha : PA X (e :: es) t) (hkw : PK X kws tkw)
    (hg : Gl X x := by rfl) (hall : (backToKw pos (keywordEach kws X.env)).all (·.1.isSome) = true := by rfl) (hks : (backToKw pos (keywordEach kws X.env)).filterMap (·.1) = ks := by rfl)
    (hdb : (x == ("__debug__" : Str)) = false := by decide) (he : starEach (e :: es) X.env = (false, eval e X.env) :: starEach es X.env := by rfl)
    (hpl : ((backTo pos (starEach (e :: es) X.env)).any (·.1) || (backToKw pos (keywordEach kws X.env)).any (·.1.isNone)) = false := by rfl) :
    PE X (.Call (.Name x p) (e :: es) kws pos) (tCallN n ks.length sp (fun vs zs => vs ++ zs) E0 t tkw) := pe_callN D.ok hr hg D.m D.kp D.b passL ha hkw hall hks hdb he hpl
def tCallNS (n m : Nat) (sp : Sp) (E : L2.St → XK) (t tkw : TA) : TE := fun σ H Q => t σ H fun vs H1 => tkw σ H1 fun zs H2 => vs.length = n ∧ zs.length = m ∧ sp (vs ++ zs) H2 Q (E σ)
theorem pcallXN (D : DefXN X.prog X.w X.K X.mg X.base k x ps n ks sp f fd) (hr : Room k X.A) (tk : Takes X W) (ha : PA X (e :: es) t) (hkw : PK X kws tkw)
    (hg : Gl X x := by rfl) (hall : (backToKw pos (keywordEach kws X.env)).all (·.1.isSome) = true := by rfl) (hks : (backToKw pos (keywordEach kws X.env)).filterMap (·.1) = ks := by rfl)
    (hdb : (x == ("__debug__" : Str)) = false := by decide) (he : starEach (e :: es) X.env = (false, eval e X.env) :: starEach es X.env := by rfl)
    (hpl : ((backTo pos (starEach (e :: es) X.env)).any (·.1) || (backToKw pos (keywordEach kws X.env)).any (·.1.isNone)) = false := by rfl) :
    PE X (.Call (.Name x p) (e :: es) kws pos) (tCallNS n ks.length sp (WE W) t tkw) := by
  refine ⟨fun pins s σ H Q I wish => wpAny_Call_Name_kw (ld_glob I hg D.m ?_ hdb)⟩
  refine PySem.W.callWith_KW (h₀ := X.base) I.ok.mod.kin D.kp hall (thn (ha.run pos pins s σ H _ I wish) fun us s1 ⟨vs, H1, I1, r1, q1⟩ => ?_) hpl he
  refine thn (hkw.run pos pins s1 σ H1 _ I1 q1) fun ws s2 ⟨zs, H2, I2, r2, l1, l2, q2⟩ => ⟨I2.kIn, ?_⟩
  rw [hks]
  refine wpAny_call (codeAny_mono (D.ok.run X.A X.stack s2 H2 ⟨us, ks.zip ws⟩ (us ++ ws) (vs ++ zs) Q _ hr I2.env0 (D.b.to s2 us ws I2.kIn (r1.length.symm.trans l1) (r2.length.symm.trans l2)) (D.b.rel r1 r2) q2) fun r s' hq => ?_)
  match r with
  | .error u => exact passAt tk σ pins H2 s2 u s' I2 hq
  | .ok (.ret u) => exact I2.after hq
  | .ok .next => exact hq.elim
  | .ok .brk => exact hq.elim
  | .ok .cont => exact hq.elim
end
/-- a def with keyword-only parameters, as it stands -/
structure FnK (K : PySem.W.Frag) (mg : Str → Option Value) (x : Str) (st : Stmt) (f : Addr) (fd : FuncData) : Prop where
  F : Fun K x x st f fd
  m : mg x = some (.ref f)
/-- what a raised error of the class C with this value wishes -/
def eV (E : XK) (C : Addr) (H : Hp) (v : V) : Prop := ∀ d, H d = none → E (.ref C) (some d) (upd H d (.xd [(("value" : Str), v)]))
end Vk

set_option maxHeartbeats 4000000
/-! A def that a caught error is passed to, from within the suite that holds it. -/
namespace Vk
open PySem PySem.Spec PyProof.Rows L2 L2H
/-- a def's promise about the error at hand -/
structure FnP (P : Program) (w : World) (K : PySem.W.Frag) (mg : Str → Option Value) (base : Heap) (k : Nat) (f : Addr) (fd : FuncData) (ps : List Str) (sp : Addr × Obj → Sp) : Prop where
  many : ∀ p vs H Q E, sp p vs H Q E → vs.length = ps.length
  go : ∀ (A : Around) (outer : List Env) (s : Shared) (H : Hp) (args : Args) (us : List Value) (vs : List V) (Q : VK) (E : XK) (p : Addr × Obj), RoomH k A → Hot1 A p → PinOk outer H s p →
    Env0 P w K mg base A outer s H → BindsTo s fd args (ps.zip us) → Vals vs us → sp p vs H Q E → codeAny (model P w) A (.call (.ref f) args) (CR CX0 outer P w H s Q E) s
theorem fnp_mk {P : Program} {w : World} {K : PySem.W.Frag} {mg : Str → Option Value} {base : Heap} {k : Nat} {f : Addr} {nm qual : Str} {pars : Arguments} {bod : List Stmt} {sco : Scope} {dV kV doc pm cdv ct oc : Value} {an od : Option Addr} {osl : Array (Option Value)} {N ps : List Str}
    {sp : Addr × Obj → Sp} (at_ : K.lookup f = some ⟨oc, od, .func (PySem.W.fnOf nm qual pars bod sco dV kV doc pm an cdv ct), osl⟩) (code : PySem.W.codeIn K cdv qual = true) (S : FnScope N ps sco) (many : ∀ p vs H Q E, sp p vs H Q E → vs.length = ps.length)
    (runs : ∀ (A : Around) (outer : List Env) (s : Shared) (H : Hp) (vs : List V) (Q : VK) (E : XK) (p : Addr × Obj), Hot1 A p → RoomH k (A.deeper (envOfC qual sco s.heap.objs.size f cdv)) → sp p vs H Q E →
      ∃ t, PSs (cxH CX0 P w K mg base N qual sco f cdv A outer s H E p) bod t ∧ t { nx := fun _ G => Q .non G, rt := Q } (L2.start N vs) H) : FnP P w K mg base (k + 1) f (PySem.W.fnOf nm qual pars bod sco dV kV doc pm an cdv ct) ps sp := by
  refine ⟨many, ?_⟩
  intro A outer s H args us vs Q E p room hot pin e0 bound rel want
  have cnt := many _ _ _ _ _ want
  have old : ∀ b o, base.get? b = some o → s.heap.get? b = some o := fun b o e => (e0.bs b o e).1
  have kin := e0.mod.kin.keeps old
  have nol := e0.mod.nolimit.keeps old
  have kinds : ∀ y ∈ ps.zip us, sco.names.lookup y.1 = some .local ∨ (sco.names.lookup y.1 = some .cell ∧ ((cellsFrom (s.heap.objs.size + 1) sco.names []).lookup y.1).isSome = true) := by
    rintro ⟨n, v⟩ hy
    rcases S.par n (List.of_mem_zip hy).1 with c | c
    · exact Or.inl c
    · exact Or.inr ⟨c, PySem.W.cellsFrom_some _ _ _ (.inl c)⟩
  refine codeAny_call_function room.depth (kin _ _ at_) rfl S.co S.gen rfl (PySem.W.codeRec_of kin code) (bound _ _ _ _ ?_)
  refine wpAny_newFunctionEnv_cells S.kind kinds fun env eenv s1 inC => ?_
  subst eenv
  refine ⟨nol.keeps inC.toInCall.keep, codeAny_func ?_⟩
  obtain ⟨t, ht, q⟩ := runs A outer s H vs Q E p hot (room.deeper _) want
  have I := inv_startH (CX := CX0) (E := E) S pin e0 cnt rel inC
  refine wpAny_mono (ht.run [] s1 (L2.start N vs) H _ I q) (fun fl s2 hs => ?_) fun _ _ h => h
  have out : ∀ {σ2 : L2.St} {G : Hp} {v : V} {u : Value}, Inv (cxH CX0 P w K mg base N qual sco f cdv A outer s H E p) [] σ2 G s2 → RelV v u → Q v G → CE outer P w H s Q u s2 := by
    intro σ2 G v u J r z
    exact ⟨v, G, J.os, J.bare, J.base, J.hok, r, z⟩
  cases fl with
  | ret u =>
    obtain ⟨v, _, _, J, r, z⟩ := hs
    exact out J r z
  | next =>
    obtain ⟨_, _, J, z⟩ := hs
    exact out (v := V.non) (u := Value.none) J rfl z
  | brk =>
    obtain ⟨_, _, _, z⟩ := hs
    exact z.elim
  | cont =>
    obtain ⟨_, _, _, z⟩ := hs
    exact z.elim
/-- f(e), e the error that is at hand -/
theorem pe_callP {X : Cx} {k : Nat} {f : Addr} {fd : FuncData} {ps : List Str} {sp : Addr × Obj → Sp} {p : Addr × Obj} {x : Str} {q pos : Pos} {e : Expr} {es : List Expr} {t : TA} (F : FnP X.prog X.w X.K X.mg X.base k f fd ps sp) (room : RoomH k X.A) (hot : Hot1 X.A p) (hp : p ∈ X.pn)
    (hg : Gl X x) (hm : X.mg x = some (.ref f)) (kp : PySem.W.keepIn X.K (.ref f) = true) (hb : Binds X.K fd ps []) (ha : PA X (e :: es) t) (hdb : (x == ("__debug__" : Str)) = false := by decide)
    (he : starEach (e :: es) X.env = (false, eval e X.env) :: starEach es X.env := by rfl) (hpl : (backTo pos (starEach es X.env)).any (·.1) = false := by rfl) : PE X (.Call (.Name x q) (e :: es) [] pos) (tCall (sp p) [] E0 t) := by
  refine ⟨?_⟩
  intro pins s σ H Q I want
  refine wpAny_Call_Name_kw (ld_glob I hg hm ?_ hdb)
  refine PySem.W.callWith_K (h₀ := X.base) I.ok.mod.kin kp (thn (ha.run pos pins s σ H _ I want) ?_) he hpl
  rintro us s1 ⟨vs, H1, I1, r, z⟩
  refine ⟨I1.kIn, ?_⟩
  have z : sp p vs H1 Q E0 := by rw [List.append_nil] at z; exact z
  have cnt : us.length = ps.length := by rw [← r.length]; exact F.many _ _ _ _ _ z
  have bound := hb s1 us I1.kIn (by rw [List.append_nil]; exact cnt)
  rw [List.append_nil] at bound
  have at1 := I1.pin p (List.mem_append_left _ hp)
  have pin : PinOk X.stack H1 s1 p := ⟨at1.1, at1.2.1, fun m => (List.mem_cons.mp (I1.stkSub p.1 m)).elim at1.2.2.1 at1.2.2.2.1, at1.2.2.2.2⟩
  refine wpAny_call (codeAny_mono (F.go X.A X.stack s1 H1 ⟨us, []⟩ us vs Q E0 p room hot pin I1.env0 bound r z) ?_)
  intro res s2 out
  cases res with
  | error _ => exact out.elim
  | ok fl =>
    cases fl with
    | ret u => exact I1.after out
    | next => exact out.elim
    | brk => exact out.elim
    | cont => exact out.elim
/-- isinstance of an error that the context holds -/
theorem call_isP {X : Cx} {a D : Addr} {oe : Obj} {d : Option Addr} (C : ExcC X.K D) (hz : Zc (.ref D) d oe) (hf : ∃ vs, oe.data = .fields vs) (hp : (a, oe) ∈ X.pn) : CallR X (.builtin "isinstance") (rIsG X.K D a d) := by
  intro pins s σ H xs us Q I r h
  obtain ⟨c, cv, b, rfl, hcv, hd, e, q⟩ := h
  obtain ⟨u1, u2, rfl, r1, r2⟩ := vals2 r
  obtain rfl : u1 = Value.ref a := r1
  have ec := hcv.eq r2
  subst ec
  obtain ⟨hget, _⟩ := I.pin (a, oe) (List.mem_append_left _ hp)
  obtain ⟨vs, hv⟩ := hf
  obtain ⟨od, J⟩ : ∃ od, PySem.W.InstAt s.heap a oe D od := by
    have no : PySem.W.notCls oe = true := by unfold PySem.W.notCls; rw [hv] <;> rfl
    rcases hd with rfl | ⟨dd, fs, rfl, hdd⟩
    · exact ⟨none, hget, hz.1, no, by rw [hz.2]; trivial⟩
    · have hx : ObjOk X.prog X.w H s.heap dd (.xd fs) := I.hok dd _ hdd
      obtain ⟨mA, hns, _⟩ := hx
      obtain ⟨o, ho, _⟩ := lookIn_ns hns
      exact ⟨some o, hget, hz.1, no, by rw [hz.2]; exact ho⟩
  exact PySem.W.kia_one (kit_exc C) I.kIn J e (fun z => nomatch z) fun tk => ⟨.bl b, H, I.kept (t' := tk) fun _ _ z => z, rfl, q⟩
end Vk

set_option maxHeartbeats 2000000
/-! several clauses «except X as n» behind one try -/
namespace L2N
open PySem PySem.Spec PyProof.Rows L2
inductive AsOk (X : Cx) : List ExceptHandler → List Clause → Prop
  | nil : AsOk X [] []
  | cons {x n : Str} {c : Value} {i : Nat} {ts : Addr → Value → Option Addr → TS} {b0 : Stmt} {bs : List Stmt} {p1 p2 : Pos} {es : List ExceptHandler} {qs : List Clause} (hc : Names X x c) (hi : X.N[i]? = some n) (hk : X.env.kindOf n = some .local)
      (hsu : ∀ (z : Addr) (oz : Obj) (k : Value) (dd : Option Addr) (pn : List (Addr × Obj)), Zn k dd oz → (∃ vs, oz.data = .fields vs) → PSs (X.suite z ((z, oz) :: pn)) (b0 :: bs) (ts z k dd)) (more : AsOk X es qs) :
      AsOk X (.ExceptHandler (some (.Name x p1)) (some n) (b0 :: bs) p2 :: es) ((c, i, ts) :: qs)
section
variable {X : Cx} {body : List Stmt} {e0 : ExceptHandler} {es : List ExceptHandler} {qs : List Clause} {pos : Pos} {tb : WX → TS} {W0 : WX}
theorem ps_try_ases (hst : X.stack = X.env :: X.outer) (hfr : X.env.frame = some X.env.locals) (hnd : X.N.Nodup) (tk : Takes X W0)
    (hb : ∀ (W : WX) (pn : List (Addr × Obj)) (xe : Value → Shared → Prop), Takes (X.tr pn xe) W → PassesOwn (model X.prog X.w) X.A X.env xe → PSs (X.tr pn xe) body (tb W))
    (hh : AsOk X (e0 :: es) qs) : PS X (.Try body (e0 :: es) [] [] pos) (fun D τ G => tb (wAses X.K W0 D qs) D τ G) := by
  refine ⟨fun pins s τ0 G0 D inv0 wish => ?_⟩
  have okk := inv0.ok
  have frm : X.A.frames = some (X.env :: X.outer) := okk.frames.trans (congrArg some hst)
  refine wpAny_Try_except (wpAny_mono ((hb (wAses X.K W0 D qs) (X.pn ++ pins) (fun u t1 => wpAny (model X.prog X.w) X.A (noteFrame u X.env) (fun _ t2 => wpAny (model X.prog X.w) X.A (setFlight u none) (fun _ t3 =>
    wpAny (model X.prog X.w) X.A (handleBy u X.env (e0 :: es)) (SP X pins D) X.xe t3) X.xe t2) X.xe t1) (fun u t raised => ?caught) PassesOwn.looking).run [] s τ0 G0 D (inv0.toTry _) wish) (fun fl t got => ?through) (fun _ _ y => y))
  case through =>
    cases fl with
    | next => obtain ⟨τ, G, J, q⟩ := got; exact wpAny_execs_nil ⟨τ, G, J.ofTry okk, q⟩
    | brk => obtain ⟨τ, G, J, q⟩ := got; exact ⟨τ, G, J.ofTry okk, q⟩
    | cont => obtain ⟨τ, G, J, q⟩ := got; exact ⟨τ, G, J.ofTry okk, q⟩
    | ret u => obtain ⟨v, τ, G, J, r, q⟩ := got; exact ⟨v, τ, G, J.ofTry okk, r, q⟩
  case caught =>
    obtain ⟨z, B, sB, pins1, τ, G, k, dd, rfl, jT, bare, upB, inSky, zfree, os1, same1, wants⟩ := raised
    have j0 : Inv X pins τ G sB := jT.ofTry okk
    have inSky1 : Sky B (X.env :: X.outer) z (Zn k dd) X.env.locals t.heap := hst ▸ inSky
    show wpAny (model X.prog X.w) X.A (noteFrame (.ref z) X.env) _ _ _
    refine Sky.land Zn.steady frm hfr inSky1 fun hA flA upA => ?_
    have jA : Inv X pins τ G { t with heap := hA } := j0.landed bare flA.1 (upB.trans upA) os1 same1
    obtain ⟨oA, vA, getA, zcA, datA⟩ := flA.there
    have notF : z ∉ frs (X.env :: X.outer) := by
      intro hm
      obtain ⟨_, o', e', hnf⟩ := flA.2.2.1.mem hm
      rw [getA] at e'
      cases e'
      exact hnf _ datA
    have zL : z ≠ X.env.locals := fun y => notF (List.mem_filterMap.mpr ⟨X.env, List.mem_cons_self, hfr.trans (congrArg some y.symm)⟩)
    have zF : z ∉ X.fs := fun hm => by
      obtain ⟨en, hen, y⟩ := List.mem_filterMap.mp hm
      exact notF (List.mem_filterMap.mpr ⟨en, List.mem_cons_of_mem _ hen, y⟩)
    have jS := jA.suite getA datA zfree zL zF
    have turn : ∀ {es1 : List ExceptHandler} {qs1 : List Clause}, AsOk X es1 qs1 → wAses X.K W0 D qs1 k dd τ G → wpAny (model X.prog X.w) X.A (handleBy (.ref z) X.env es1) (SP X pins D) X.xe { t with heap := hA } := by
      intro es1 qs1 kk
      induction kk with
      | nil =>
        intro out
        refine wpAny_handleBy_nil ?_
        obtain ⟨_, _, _, oz, vs, Tr, oTr, tsr, geto, zco, dato, one, _⟩ := id flA
        unfold PySem.passOn
        refine wpAny_bind (wpAny_field geto dato one ?_)
        rw [if_neg (by simp : ¬ ((Value.ref Tr == Value.none) = true))]
        have away : wpAny (model X.prog X.w) X.A (setFlight (.ref z) X.env.frame) (fun _ t4 => wpAny (model X.prog X.w) X.A (throw (.ref z) : Sem Flow) (SP X pins D) X.xe t4) X.xe { t with heap := hA } := by
          rw [hfr]
          exact HandSPX.setFlight_upZ flA fun h4 sk4 up4 => wpAny_throw (tk _ _ ⟨z, B, sB, pins, τ, G, k, dd, rfl, j0, bare, (upB.trans upA).trans up4, .inr (.inr (hst.symm ▸ sk4)), zfree, os1, same1, out⟩)
        first | exact wpAny_bind (wpAny_pure (wpAny_bind away)) | exact wpAny_bind away
      | @cons x n c i ts b0 bs p1 p2 es2 qs2 hc hi hk hsu more ih =>
        rintro ⟨hit, isHit, onHit, offHit⟩
        refine wpAny_handleBy_cons (codeAny_handlers_test ?_) (by intro y; cases y)
        have looksT : PySem.W.Looks (model X.prog X.w) hA (typeOf (.ref z)) k := fun A Q E s kp y => wpAny_typeOf_ref (kp _ _ getA) (by rw [zcA.1]; exact y)
        have looksM := PySem.W.exm_one (M := model X.prog X.w) jA.kIn looksT isHit
        have named : ∀ {Q : Value → Shared → Prop} {E : Value → Shared → Prop}, Q c { t with heap := hA } → wpAny (model X.prog X.w) (X.A.mark (some (.ref z))) (eval (.Name x p1) X.env) Q E { t with heap := hA } := fun {Q E} y =>
          match hc with
          | ⟨hg, hdb, .inl hm⟩ => ld_glob (X := X.suite z ((z, oA) :: (X.pn ++ pins))) jS hg hm y hdb
          | ⟨hg, hdb, .inr ⟨hm, hv, hnn⟩⟩ => ld_blt (X := X.suite z ((z, oA) :: (X.pn ++ pins))) jS hg hm hv y hnn hdb
        refine named (looksM.here ?_)
        cases hit with
        | false => exact ih (offHit rfl)
        | true =>
          refine codeAny_handlers_suite_as (HandSPX.lands_againZ flA fun hB flB upB2 => ?_)
          have jB : Inv X pins τ G { t with heap := hB } := j0.landed bare flB.1 ((upB.trans upA).trans upB2) os1 same1
          obtain ⟨oB, vB, getB, zcB, datB⟩ := flB.there
          have jSB := jB.suite getB datB zfree zL zF
          refine store_ok (X := X.suite z ((z, oB) :: (X.pn ++ pins))) (v := .ref z) jSB hnd hi (.inl hk) rfl (fun t5 S5 => ?_) (.inr hk)
          refine wpAny_mono ((hsu z oB k dd (X.pn ++ pins) zcB ⟨_, datB⟩).run [] t5 _ G _ S5 (onHit rfl z zfree)) (fun fl t6 got => ?_) (fun _ _ y => y.elim)
          have fin : ∀ {τ6 : St} {G6 : Hp} {Q : Shared → Prop}, Inv (X.suite z ((z, oB) :: (X.pn ++ pins))) [] τ6 G6 t6 → (∀ t7, Inv X pins (τ6.set i none) G6 t7 → Q t7) →
              wpAny (model X.prog X.w) X.A (do bindName X.env n .none; unbindBehindTheSuite X.env n p2) (fun _ t7 => Q t7) X.xe t6 := fun S6 hq => gone_ok (S6.unsuite okk) hnd hi hk hq
          cases fl with
          | next => obtain ⟨_, _, S6, q6⟩ := got; exact fin S6 fun _ J7 => ⟨_, _, J7, q6⟩
          | brk => obtain ⟨_, _, S6, q6⟩ := got; exact fin S6 fun _ J7 => ⟨_, _, J7, q6⟩
          | cont => obtain ⟨_, _, S6, q6⟩ := got; exact fin S6 fun _ J7 => ⟨_, _, J7, q6⟩
          | ret u => obtain ⟨_, _, _, S6, r6, q6⟩ := got; exact fin S6 fun _ J7 => ⟨_, _, _, J7, r6, q6⟩
    exact turn hh wants
end
end L2N

/-! defs that may raise, where the context of exceptions is told, too -/
namespace Vk
open PySem L2 PyProof.Rows
theorem passLY {X : Cx} : Passes (L2N.CX X.prog X.w) X E0 := fun _ _ _ _ _ _ _ h => by
  obtain ⟨_, _, _, _, _, _, _, _, _, _, _, _, z⟩ := h
  exact z.elim
theorem takes0Y {X : Cx} : L2N.Takes X (fun _ _ _ _ => False) := fun _ _ x => by
  obtain ⟨_, _, _, _, _, _, _, _, _, _, _, _, _, _, _, _, z⟩ := x
  exact z.elim
structure DefY (P : Program) (w : World) (K : PySem.W.Frag) (mg : Str → Option Value) (base : Heap) (k : Nat) (x : Str) (ps : List Str) (sp : Sp) (f : Addr) (fd : FuncData) : Prop where
  ok : FnOk P w K mg base (L2N.CX P w) k f fd ps sp
  m : mg x = some (.ref f)
  kp : PySem.W.keepIn K (.ref f) = true
  b : Binds K fd ps []
theorem DefY.up {P : Program} {w : World} {K : PySem.W.Frag} {mg : Str → Option Value} {base : Heap} {j k : Nat} {x : Str} {ps : List Str} {sp : Sp} {f : Addr} {fd : FuncData} (d : DefY P w K mg base j x ps sp f fd) (h : j ≤ k) : DefY P w K mg base k x ps sp f fd := ⟨d.ok.mono h, d.m, d.kp, d.b⟩
structure DefYN (P : Program) (w : World) (K : PySem.W.Frag) (mg : Str → Option Value) (base : Heap) (k : Nat) (x : Str) (ps : List Str) (n : Nat) (ks : List Str) (sp : Sp) (f : Addr) (fd : FuncData) : Prop where
  ok : FnOk P w K mg base (L2N.CX P w) k f fd ps sp
  m : mg x = some (.ref f)
  kp : PySem.W.keepIn K (.ref f) = true
  b : KBn K fd ps n ks (fun us ws => us ++ ws) (fun vs zs => vs ++ zs)
theorem DefYN.up {P : Program} {w : World} {K : PySem.W.Frag} {mg : Str → Option Value} {base : Heap} {j k n : Nat} {x : Str} {ps ks : List Str} {sp : Sp} {f : Addr} {fd : FuncData} (d : DefYN P w K mg base j x ps n ks sp f fd) (h : j ≤ k) : DefYN P w K mg base k x ps n ks sp f fd := ⟨d.ok.mono h, d.m, d.kp, d.b⟩
/-- a def that an error at hand is passed to -/
structure DefP (P : Program) (w : World) (K : PySem.W.Frag) (mg : Str → Option Value) (base : Heap) (k : Nat) (x : Str) (ps : List Str) (sp : Addr × Obj → Sp) (f : Addr) (fd : FuncData) : Prop where
  ok : FnP P w K mg base k f fd ps sp
  m : mg x = some (.ref f)
  kp : PySem.W.keepIn K (.ref f) = true
  b : Binds K fd ps []
section
variable {X : Cx} {k n : Nat} {f : Addr} {fd : FuncData} {ps ks : List Str} {sp : Sp} {x : Str} {p pos : Pos} {e : Expr} {es : List Expr} {kws : List Keyword} {t tkw : TA} {W : WX}
theorem pcallYL (D : DefY X.prog X.w X.K X.mg X.base k x ps sp f fd) (hr : Room k X.A) (ha : PA X (e :: es) t)
    (hg : Gl X x := by rfl) (hdb : (x == ("__debug__" : Str)) = false := by decide) (he : starEach (e :: es) X.env = (false, eval e X.env) :: starEach es X.env := by rfl) (hpl : (backTo pos (starEach es X.env)).any (·.1) = false := by rfl) :
    PE X (.Call (.Name x p) (e :: es) [] pos) (tCall sp [] E0 t) := pe_call D.ok hr hg D.m D.kp D.b .nil passLY ha hdb he hpl
theorem pcallY (D : DefY X.prog X.w X.K X.mg X.base k x ps sp f fd) (hr : Room k X.A) (tk : L2N.Takes X W) (ha : PA X (e :: es) t)
    (hg : Gl X x := by rfl) (hdb : (x == ("__debug__" : Str)) = false := by decide) (he : starEach (e :: es) X.env = (false, eval e X.env) :: starEach es X.env := by rfl) (hpl : (backTo pos (starEach es X.env)).any (·.1) = false := by rfl) :
    PE X (.Call (.Name x p) (e :: es) [] pos) (tCallS sp (WE W) t) := pe_callS D.ok hr hg D.m D.kp D.b (fun σ => L2N.passAt tk σ) ha hdb he hpl
theorem pcallYLN (D : DefYN X.prog X.w X.K X.mg X.base k x ps n ks sp f fd) (hr : Room k X.A) (ha : PA X (e :: es) t) (hkw : PK X kws tkw)
    (hg : Gl X x := by rfl) (hall : (backToKw pos (keywordEach kws X.env)).all (·.1.isSome) = true := by rfl) (hks : (backToKw pos (keywordEach kws X.env)).filterMap (·.1) = ks := by rfl)
    (hdb : (x == ("__debug__" : Str)) = false := by decide) (he : starEach (e :: es) X.env = (false, eval e X.env) :: starEach es X.env := by rfl)
    (hpl : ((backTo pos (starEach (e :: es) X.env)).any (·.1) || (backToKw pos (keywordEach kws X.env)).any (·.1.isNone)) = false := by rfl) :
    PE X (.Call (.Name x p) (e :: es) kws pos) (tCallN n ks.length sp (fun vs zs => vs ++ zs) E0 t tkw) := pe_callN D.ok hr hg D.m D.kp D.b passLY ha hkw hall hks hdb he hpl
theorem pcallYN (D : DefYN X.prog X.w X.K X.mg X.base k x ps n ks sp f fd) (hr : Room k X.A) (tk : L2N.Takes X W) (ha : PA X (e :: es) t) (hkw : PK X kws tkw)
    (hg : Gl X x := by rfl) (hall : (backToKw pos (keywordEach kws X.env)).all (·.1.isSome) = true := by rfl) (hks : (backToKw pos (keywordEach kws X.env)).filterMap (·.1) = ks := by rfl)
    (hdb : (x == ("__debug__" : Str)) = false := by decide) (he : starEach (e :: es) X.env = (false, eval e X.env) :: starEach es X.env := by rfl)
    (hpl : ((backTo pos (starEach (e :: es) X.env)).any (·.1) || (backToKw pos (keywordEach kws X.env)).any (·.1.isNone)) = false := by rfl) :
    PE X (.Call (.Name x p) (e :: es) kws pos) (tCallNS n ks.length sp (WE W) t tkw) := by
  refine ⟨fun pins s σ H Q I wish => wpAny_Call_Name_kw (ld_glob I hg D.m ?_ hdb)⟩
  refine PySem.W.callWith_KW (h₀ := X.base) I.ok.mod.kin D.kp hall (thn (ha.run pos pins s σ H _ I wish) fun us s1 ⟨vs, H1, I1, r1, q1⟩ => ?_) hpl he
  refine thn (hkw.run pos pins s1 σ H1 _ I1 q1) fun ws s2 ⟨zs, H2, I2, r2, l1, l2, q2⟩ => ⟨I2.kIn, ?_⟩
  rw [hks]
  refine wpAny_call (codeAny_mono (D.ok.run X.A X.stack s2 H2 ⟨us, ks.zip ws⟩ (us ++ ws) (vs ++ zs) Q _ hr I2.env0 (D.b.to s2 us ws I2.kIn (r1.length.symm.trans l1) (r2.length.symm.trans l2)) (D.b.rel r1 r2) q2) fun r s' hq => ?_)
  match r with
  | .error u => exact L2N.passAt tk σ pins H2 s2 u s' I2 hq
  | .ok (.ret u) => exact I2.after hq
  | .ok .next => exact hq.elim
  | .ok .brk => exact hq.elim
  | .ok .cont => exact hq.elim
end
section
variable {P : Program} {w : World} {K : PySem.W.Frag} {mg : Str → Option Value} {base : Heap}
theorem okY {x qual : Str} {st : Stmt} {f : Addr} {fd : FuncData} {N ps : List Str} {k : Nat} {sp : Sp} (F : Fun K x qual st f fd) (S : FnScope N ps (defScope st)) (len : ∀ vs H Q E, sp vs H Q E → vs.length = ps.length)
    (hbody : ∀ (cdv : Value) (A : Around) (outer : List Env) (s : Shared) (H : Hp) (vs : List V) (Q : VK) (E : XK), Room k (A.deeper (envOfC qual (defScope st) s.heap.objs.size f cdv)) → sp vs H Q E →
      ∃ t, PSs (cxOf (L2N.CX P w) P w K mg base N qual (defScope st) f cdv A outer s H E) (defBody st) t ∧ t { nx := fun _ H' => Q .non H', rt := Q } (start N vs) H) : FnOk P w K mg base (L2N.CX P w) (k + 1) f fd ps sp := by
  obtain ⟨oc, od, kV, doc, pm, an, cdv, ct, osl, rfl, lk, hcd⟩ := F.ex
  exact fn_of lk hcd S len fun A outer s H vs Q E hr hsp => hbody cdv A outer s H vs Q E hr hsp
theorem okP {x qual : Str} {st : Stmt} {f : Addr} {fd : FuncData} {N ps : List Str} {k : Nat} {sp : Addr × Obj → Sp} (F : Fun K x qual st f fd) (S : FnScope N ps (defScope st)) (len : ∀ p vs H Q E, sp p vs H Q E → vs.length = ps.length)
    (hbody : ∀ (cdv : Value) (A : Around) (outer : List Env) (s : Shared) (H : Hp) (vs : List V) (Q : VK) (E : XK) (p : Addr × Obj), L2H.Hot1 A p → L2H.RoomH k (A.deeper (envOfC qual (defScope st) s.heap.objs.size f cdv)) → sp p vs H Q E →
      ∃ t, PSs (L2H.cxH CX0 P w K mg base N qual (defScope st) f cdv A outer s H E p) (defBody st) t ∧ t { nx := fun _ H' => Q .non H', rt := Q } (start N vs) H) : FnP P w K mg base (k + 1) f fd ps sp := by
  obtain ⟨oc, od, kV, doc, pm, an, cdv, ct, osl, rfl, lk, hcd⟩ := F.ex
  exact fnp_mk lk hcd S len fun A outer s H vs Q E p hot hr hsp => hbody cdv A outer s H vs Q E p hot hr hsp
end
end Vk

/-! what the written part says of classes of errors -/
namespace Vk
open PySem PySem.W PySem.Calls PySem.HandSPX L2
theorem cls_both {K : Frag} {C : Addr} (h2 : isClsIn K C = true) (h3 : typeIn K (.ref C) = some (.type "type")) : ((clsIn K C).isSome && typeIn K (.ref C) == some (.type "type")) = true := by
  have h2' : (clsIn K C).isSome = true := h2
  rw [h2', h3]
  rfl
theorem exm_of {K : Frag} {S C : Addr} {b : Bool} (h1 : subIn K (.ref C) (.type "BaseException") = some true) (h2 : isClsIn K C = true) (h3 : typeIn K (.ref C) = some (.type "type")) (h4 : subIn K (.ref S) (.ref C) = some b) : exmOne K (.ref S) (.ref C) = some b := by
  have e1 : (subIn K (.ref C) (.type "BaseException") == some true) = true := by rw [h1]; rfl
  unfold exmOne kitCls
  rw [if_pos e1]
  dsimp only
  rw [if_pos (cls_both h2 h3)]
  exact h4
theorem kit_of1 {K : Frag} {S C : Addr} {b : Bool} (n : (S == C) = false) (h2 : isClsIn K C = true) (h3 : typeIn K (.ref C) = some (.type "type")) (h4 : subIn K (.ref S) (.ref C) = some b) : kitOne K (.ref S) (.ref C) = some b := by
  have e1 : (Value.ref S == Value.ref C) = false := beq_false_of_ne fun e => by
    have := Value.ref.inj e
    rw [this, beq_self_eq_true] at n
    cases n
  unfold kitOne kitCls
  rw [e1, if_neg Bool.false_ne_true]
  dsimp only
  rw [if_pos (cls_both h2 h3)]
  exact h4
theorem errTxt {K : Frag} {mg : Str → Option Value} {x nm q iq : Str} {C fi N : Addr} {bs bm sub : List Value} {sn : List Str} {ab : Bool} {col : Option Bool} {dd : Option Addr} {m0 m1 m2 m3 m5 : Option Value} {iod ian : Option Addr} {isl : Array (Option Value)} {ioc idc ipm icd ict : Value} {p1 p2 q1 q2 q3 q4 : Pos}
    (aC : mg x = some (.ref C)) (xL : K.lookup C = some (excClassObj nm q C N bs bm true sn sub ab col dd m0 m1 m2 m3 m5 "ValueError.__new__")) (rv : refsVE bm = true)
    (sa : findIn K (.ref C) "__setattr__" = some (some (.builtin "object.__setattr__"))) (ga : findIn K (.ref C) "__getattribute__" = some (some (.builtin "BaseException.__getattribute__"))) (gg : findIn K (.ref C) "__getattr__" = some none) (nb : findIn K (.ref C) "value" = some none)
    (a1 : findIn K (.ref C) "__init__" = some (some (.ref fi))) (t1 : typeIn K (.ref fi) = some (.type "function"))
    (l1 : K.lookup fi = some ⟨ioc, iod, .func (fnOf "__init__" iq (PySem.ValX.iA p1 p2) (PySem.ValX.iB q1 q2 q3 q4) PySem.ValX.iS .none .none idc ipm ian icd ict), isl⟩) (c1 : codeIn K icd iq = true)
    (kC : keepIn K (.ref C) = true) (eC : subIn K (.ref C) (.type "BaseException") = some true) (tC : typeIn K (.ref C) = some (.type "type")) (hC : hasDictIn K C = true) (te : exmOne K (.ref C) (.ref C) = some true) : PySem.ValX.ValTxt K mg x C fi :=
  { gC := aC, cls := ⟨nm, q, N, bs, bm, sn, sub, ab, col, dd, m0, m1, m2, m3, m5, xL, rv⟩, sa := sa, ga := ga, gg := gg, noN := nb, iC := a1, tC := t1, kC := kC, exC := eC, tyC := tC, hdC := hC, te := te, fn := ⟨iq, ioc, iod, idc, ipm, ian, icd, ict, isl, p1, p2, q1, q2, q3, q4, l1, c1⟩ }
end Vk

namespace Vs
/-! ### spans of offsets -/
abbrev Spn := Option Rat × Option Rat
def maxO : Option Rat → Option Rat → Option Rat
  | none, b => b
  | some p, none => some p
  | some p, some q => some (if q ≤ p then p else q)
def minO : Option Rat → Option Rat → Option Rat
  | none, b => b
  | some p, none => some p
  | some p, some q => some (if p ≤ q then p else q)
def crossed : Option Rat → Option Rat → Bool
  | some l, some h => decide (h < l)
  | _, _ => false
def meetO (a b : Spn) : Option Spn := if crossed (maxO a.1 b.1) (minO a.2 b.2) = true then none else some (maxO a.1 b.1, minO a.2 b.2)
def aboveO (o : Option Rat) (t : Rat) : Bool := match o with | none => true | some l => !decide (t < l)
def belowO (o : Option Rat) (t : Rat) : Bool := match o with | none => true | some h => !decide (h < t)
def inS (s : Spn) (t : Rat) : Bool := aboveO s.1 t && belowO s.2 t
def movO (o : Option Rat) (d : Rat) : Option Rat := match o with | none => none | some q => some (q + d)
def negO (o : Option Rat) : Option Rat := match o with | none => none | some q => some (-q)
def shO (s : Spn) (d : Rat) : Spn := (movO s.1 d, movO s.2 d)
def offO (x y : Rat) (fo ba : Spn) : Option Spn := meetO (shO (negO fo.2, negO fo.1) x) (shO ba y)
theorem above_max (a b : Option Rat) (t : Rat) : aboveO (maxO a b) t = (aboveO a t && aboveO b t) := by
  cases a with
  | none => simp [maxO, aboveO]
  | some p => cases b with
    | none => simp [maxO, aboveO]
    | some q =>
      simp only [maxO, aboveO]
      split <;> by_cases h1 : t < p <;> by_cases h2 : t < q <;> simp [h1, h2] <;> grind
theorem below_min (a b : Option Rat) (t : Rat) : belowO (minO a b) t = (belowO a t && belowO b t) := by
  cases a with
  | none => simp [minO, belowO]
  | some p => cases b with
    | none => simp [minO, belowO]
    | some q =>
      simp only [minO, belowO]
      split <;> by_cases h1 : p < t <;> by_cases h2 : q < t <;> simp [h1, h2] <;> grind
theorem crossed_in {l h : Option Rat} (c : crossed l h = true) (t : Rat) : (aboveO l t && belowO h t) = false := by
  cases l with
  | none => simp [crossed] at c
  | some p => cases h with
    | none => simp [crossed] at c
    | some q =>
      simp only [crossed, decide_eq_true_eq] at c
      simp only [aboveO, belowO]
      by_cases h1 : t < p <;> by_cases h2 : q < t <;> simp [h1, h2] <;> grind
theorem meet_in (a b : Spn) (t : Rat) : (inS a t && inS b t) = (match meetO a b with | none => false | some s => inS s t) := by
  have e : (inS a t && inS b t) = (aboveO (maxO a.1 b.1) t && belowO (minO a.2 b.2) t) := by
    rw [above_max, below_min]
    unfold inS
    cases aboveO a.1 t <;> cases aboveO b.1 t <;> cases belowO a.2 t <;> cases belowO b.2 t <;> rfl
  rw [e]
  unfold meetO
  by_cases c : crossed (maxO a.1 b.1) (minO a.2 b.2) = true
  · rw [if_pos c]
    exact crossed_in c t
  · rw [if_neg c]
    rfl
theorem above_mov (o : Option Rat) (x f : Rat) : aboveO (movO (negO o) x) f = belowO o (x - f) := by
  cases o with
  | none => rfl
  | some q =>
    simp only [negO, movO, aboveO, belowO]
    congr 1
    exact decide_eq_decide.mpr (by grind)
theorem below_mov (o : Option Rat) (x f : Rat) : belowO (movO (negO o) x) f = aboveO o (x - f) := by
  cases o with
  | none => rfl
  | some q =>
    simp only [negO, movO, aboveO, belowO]
    congr 1
    exact decide_eq_decide.mpr (by grind)
theorem above_mov2 (o : Option Rat) {y z : Rat} (f : Rat) (h : y = -z) : aboveO (movO o y) f = aboveO o (z + f) := by
  cases o with
  | none => rfl
  | some q =>
    simp only [movO, aboveO]
    congr 1
    exact decide_eq_decide.mpr (by grind)
theorem below_mov2 (o : Option Rat) {y z : Rat} (f : Rat) (h : y = -z) : belowO (movO o y) f = belowO o (z + f) := by
  cases o with
  | none => rfl
  | some q =>
    simp only [movO, belowO]
    congr 1
    exact decide_eq_decide.mpr (by grind)
theorem off_in (x y z : Rat) (fo ba : Spn) (f : Rat) (h : y = -z) : (inS fo (x - f) && inS ba (z + f)) = (match offO x y fo ba with | none => false | some s => inS s f) := by
  unfold offO
  rw [← meet_in]
  unfold inS shO
  simp only [above_mov, below_mov, above_mov2 _ f h, below_mov2 _ f h]
  cases aboveO fo.1 (x - f) <;> cases belowO fo.2 (x - f) <;> cases aboveO ba.1 (z + f) <;> cases belowO ba.2 (z + f) <;> rfl
theorem off_ok {x y : Rat} {fo ba s : Spn} (h : offO x y fo ba = some s) : crossed s.1 s.2 = false := by
  unfold offO meetO at h
  split at h
  · cases h
  · rename_i c
    cases h
    simpa using c
/-- both ends known: no end is farther from the plain offset than half the width -/
theorem off_half {x y lo hi : Rat} {s : Spn} (h : offO x y (some lo, some hi) (some lo, some hi) = some s) :
    ∃ l u, s = (some l, some u) ∧ ∀ f, f = l ∨ f = u → ¬ (hi - lo < 2 * ((x + y) / 2 - f)) ∧ ¬ (hi - lo < 2 * (f - (x + y) / 2)) := by
  have c := off_ok h
  unfold offO meetO at h
  split at h
  · cases h
  · simp only [shO, negO, movO, maxO, minO] at h
    obtain rfl := (Option.some.inj h).symm
    refine ⟨_, _, rfl, fun f hf => ?_⟩
    simp only [crossed, decide_eq_false_iff_not] at c
    have e2 : (x + y) / 2 + (x + y) / 2 = x + y := by grind
    generalize (x + y) / 2 = p at e2
    have e3 : ∀ q : Rat, 2 * q = q + q := fun q => by grind
    rw [e3, e3]
    split at hf <;> split at hf <;> rename_i h1 h2 <;> simp only [h1, h2, if_true, if_false] at c <;> rcases hf with rfl | rfl <;> constructor <;> grind
/-! ### sizes and items -/
def itemsO : Spn → List Rat := fun s => s.1.toList ++ s.2.toList
end Vs

namespace Vl
/-! ### laps -/
/-- the six numbers: bound, half, lap, slew, drift, goal -/
structure A6 where
  b : Rat
  h : Rat
  l : Rat
  s : Rat
  d : Rat
def ahead (x : A6) : Rat := x.h + x.d * x.l
def gain (x : A6) : Rat := (x.s - x.d) * x.l
structure Good (x : A6) : Prop where
  b0 : 0 ≤ x.b
  h0 : 0 ≤ x.h
  l0 : 0 < x.l
  s0 : 0 < x.s
  s1 : x.s < 1
  d0 : 0 ≤ x.d
  ds : x.d < x.s
theorem mul_pos' {a b : Rat} (ha : 0 < a) (hb : 0 < b) : 0 < a * b := Rat.mul_pos ha hb
theorem mul_nn {a b : Rat} (ha : 0 ≤ a) (hb : 0 ≤ b) : 0 ≤ a * b := Rat.mul_nonneg ha hb
theorem Good.gp {x : A6} (g : Good x) : 0 < gain x := mul_pos' (by have := g.ds; grind) g.l0
theorem Good.an {x : A6} (g : Good x) : 0 ≤ ahead x := by
  have h1 := g.h0
  have h2 : 0 ≤ x.d * x.l := mul_nn g.d0 (by have := g.l0; grind)
  unfold ahead
  grind
def lapsP (x : A6) (g : Rat) : Option Int := if x.b ≤ g then some 0 else if g < ahead x then none else some (-((g - x.b) / gain x).floor)
def mx (a b : Rat) : Rat := if a < b then b else a
def after (x : A6) (k : Int) : Rat := if k = 0 then x.b else mx (x.b + (k : Rat) * ((x.d - x.s) * x.l)) (ahead x)
def LapsOk (x : A6) (g : Rat) : Option Int → Prop
  | none => g < x.b ∧ g < ahead x
  | some k => 0 ≤ k ∧ k ≤ 1000 ∧ ¬ g < after x k ∧ (0 < k → g < x.b) ∧ (2 ≤ k → g < after x (k - 1))
theorem neg_gain (x : A6) (k : Rat) : k * ((x.d - x.s) * x.l) = - (k * gain x) := by unfold gain; grind
theorem laps_ok {x : A6} {g : Rat} (G : Good x) (top : x.b - g ≤ 1000 * gain x ∨ x.b = 0) : LapsOk x g (lapsP x g) := by
  have gp := G.gp
  have an := G.an
  unfold lapsP
  split
  · rename_i h
    refine ⟨by decide, by decide, ?_, fun z => absurd z (by decide), fun z => absurd z (by decide)⟩
    unfold after
    rw [if_pos rfl]
    exact Rat.not_lt.mpr h
  · rename_i h1
    split
    · rename_i h2
      exact ⟨Rat.not_le.mp h1, h2⟩
    · rename_i h2
      have h1 : g < x.b := Rat.not_le.mp h1
      have h2 : ahead x ≤ g := Rat.not_lt.mp h2
      have top : x.b - g ≤ 1000 * gain x := by
        rcases top with h | h
        · exact h
        · exfalso; grind
      obtain ⟨t, ht⟩ : ∃ t, t = (g - x.b) / gain x := ⟨_, rfl⟩
      have te : t * gain x = g - x.b := by
        rw [ht]
        exact Rat.div_mul_cancel (by grind)
      rw [← ht]
      have f1 := Rat.floor_le t
      have f2 := Rat.lt_floor_add_one t
      obtain ⟨k, hk⟩ : ∃ k : Int, k = -t.floor := ⟨_, rfl⟩
      have ek : ((t.floor : Int) : Rat) = -(k : Rat) := by rw [hk]; push_cast; grind
      have ek1 : ((t.floor + 1 : Int) : Rat) = -(k : Rat) + 1 := by rw [hk]; push_cast; grind
      rw [ek] at f1
      rw [ek1] at f2
      rw [← hk]
      -- k gain between
      have m1 : -(k : Rat) * gain x ≤ t * gain x := Rat.mul_le_mul_of_nonneg_right f1 (by grind)
      have m2 : t * gain x < (-(k : Rat) + 1) * gain x := Rat.mul_lt_mul_of_pos_right f2 gp
      have tneg : t < 0 := by
        by_cases z : t < 0
        · exact z
        · exfalso
          have := mul_nn (Rat.not_lt.mp z) (show (0 : Rat) ≤ gain x by grind)
          grind
      have t1000 : -1000 ≤ t := by
        by_cases z : -1000 ≤ t
        · exact z
        · exfalso
          have := Rat.mul_lt_mul_of_pos_right (Rat.not_le.mp z) gp
          grind
      have k1 : 0 < k := by
        have : (0 : Rat) < (k : Rat) := by grind
        exact_mod_cast this
      have k2 : k ≤ 1000 := by
        have : (k : Rat) < ((1001 : Int) : Rat) := by
          have e : ((1001 : Int) : Rat) = 1001 := rfl
          rw [e]
          grind
        have := Rat.intCast_lt_intCast.mp this
        omega
      have key : x.b - (k : Rat) * gain x ≤ g := by grind
      refine ⟨by omega, k2, ?_, fun _ => h1, fun k3 => ?_⟩
      · unfold after mx
        rw [if_neg (by omega), neg_gain]
        split <;> grind
      · unfold after mx
        rw [if_neg (by omega), neg_gain]
        have e : ((k - 1 : Int) : Rat) = (k : Rat) - 1 := by push_cast; rfl
        rw [e]
        split <;> grind
/-- one lap -/
def nextB (x : A6) (b : Rat) : Rat := x.d * x.l + (if x.h ≤ b - x.s * x.l then b - x.s * x.l else x.h)
theorem next_eq (x : A6) (b : Rat) : nextB x b = mx (b + (1 : Rat) * ((x.d - x.s) * x.l)) (ahead x) := by
  rw [neg_gain]
  unfold nextB mx ahead gain
  split <;> split <;> grind
theorem after_next {x : A6} (G : Good x) (b : Rat) (i : Int) (hi : 0 ≤ i) : nextB x (after { x with b := b } i) = after { x with b := b } (i + 1) := by
  rw [next_eq, neg_gain]
  have gp := G.gp
  have e1 : ahead { x with b := b } = ahead x := rfl
  have e2 : gain { x with b := b } = gain x := rfl
  unfold after
  rw [if_neg (show ¬ i + 1 = 0 by omega)]
  rw [neg_gain, e2, e1]
  have e3 : ((i + 1 : Int) : Rat) = (i : Rat) + 1 := by push_cast; rfl
  rw [e3]
  split
  · rename_i h
    subst h
    simp only [Rat.intCast_zero]
    congr 1
    have := neg_gain x 1
    grind
  · rw [neg_gain, e2]
    unfold mx
    split <;> split <;> split <;> grind
theorem after_le {x : A6} {g : Rat} (G : Good x) (b : Rat) (hb : b ≤ g) (ha : ahead x ≤ g) (i : Int) (hi : 0 ≤ i) : ¬ g < after { x with b := b } i := by
  have gp := G.gp
  have e1 : ahead { x with b := b } = ahead x := rfl
  have e2 : gain { x with b := b } = gain x := rfl
  unfold after mx
  split
  · exact Rat.not_lt.mpr hb
  · rw [neg_gain, e2, e1]
    have : (0 : Rat) ≤ (i : Rat) * gain x := mul_nn (by exact_mod_cast hi) (by grind)
    split <;> grind
theorem after_nn {x : A6} (G : Good x) (k : Int) : 0 ≤ after x k := by
  have := G.an
  have := G.b0
  unfold after mx
  split
  · exact G.b0
  · split <;> grind
end Vl

namespace Vk
open PySem L2 Vm
def top (i : Nat) : Stmt := PySem.Challenge.pw_clockverdict_k09_slewed_and_stepped.main.body.getD i (.Pass ⟨0, 0, 0, 0⟩)
variable {P : Program} {w : World} {K : PySem.W.Frag} {mg : Str → Option Value} {base : Heap} {k : Nat} {f f1 f2 f3 f4 f5 f6 f7 f8 f9 : Addr} {fd fd1 fd2 fd3 fd4 fd5 fd6 fd7 fd8 fd9 : FuncData}
/-! ### the law's own rationals -/
def spFrac (K : PySem.W.Frag) : Sp := fun vs H Q _ => ∃ (n d : Int) (b : Nat), vs = [.int n, .int d] ∧ 0 < d ∧ n.natAbs < 2 ^ b ∧ d.natAbs < 2 ^ b ∧ b ≤ 9000 ∧
  ∀ r H', Same H H' → Rq K H' r (mkRat n d.toNat) → Q r H'
abbrev s__law_frac : Stmt := top 37
abbrev N__law_frac : List Str := ["_law_n", "_law_d", "_law_a", "_law_b"]
theorem sc__law_frac : FnScope N__law_frac ["_law_n", "_law_d"] (defScope s__law_frac) := ⟨rfl, rfl, rfl, by decide +kernel, rfl, by decide +kernel, by decide +kernel⟩
abbrev ps__law_frac : List Str := ["_law_n", "_law_d"]
theorem ok_frac (T : Bn mg) (F : Fn K mg "_law_frac" s__law_frac ps__law_frac f fd) : Def P w K mg base (k + 1) "_law_frac" ps__law_frac (spFrac K) f fd := by
  refine ⟨F.F.ok sc__law_frac (fun vs H Q E h => ?_) (fun cdv A outer s H vs Q E hr h => ?_), F.m, F.F.kp, F.b⟩
  · obtain ⟨n, d, b, rfl, _⟩ := h
    rfl
  obtain ⟨n, d, b, rfl, hd, hn, hdb, hb, q⟩ := h
  refine ⟨_, (pss_cons (ps_if (pt_cmpR op_eq (pv 1) pe_int (nomark _))
        (pss_one (ps_ret (pe_tup (pa_cons pe_int (pa_cons pe_int pa_nil)))))
        pss_nil)
      (pss_cons (ps_set (i := 2) sc__law_frac.nd rfl (Or.inl rfl) (pe_callB call_abs (by rfl) T.abs_ (by decide +kernel) (pa_cons (pv 0) pa_nil)))
      (pss_cons (ps_set (i := 3) sc__law_frac.nd rfl (Or.inl rfl) (pe_callB call_abs (by rfl) T.abs_ (by decide +kernel) (pa_cons (pv 1) pa_nil)))
      (pss_cons (ps_while PassesOwn.never (pt_cmpR op_gt (pv 3) pe_int (nomark _))
        (pss_one (ps_par (i := 2) (j := 3) (by rfl) sc__law_frac.nd rfl rfl (by decide) rfl rfl (pa_cons (pv 3) (pa_cons (pe_op op_modN (pe_callTy call_int1 (by rfl) T.int_ (by decide +kernel) (pa_cons (pv 2) pa_nil)) (pv 3)) pa_nil)) (by rfl))))
      (pss_cons (ps_if (pt_cmpR op_lt (pv 1) pe_int (nomark _))
        (pss_one (ps_set (i := 2) sc__law_frac.nd rfl (Or.inl rfl) (pe_op op_sub pe_int (pv 2))))
        pss_nil)
      (pss_one (ps_ret (pe_tup (pa_cons (pe_op op_fdivW (pv 0) (pv 2)) (pa_cons (pe_op op_fdivW (pv 1) (pv 2)) pa_nil)))))))))), ?_⟩
  have b0 : 0 < b := by
    cases b with
    | zero => simp at hdb; omega
    | succ b => exact Nat.succ_pos _
  -- if _law_d == 0
  refine ⟨_, rfl, rfl, _, rfl, ifF (dF fun c => by cases c; omega) ?_⟩
  have ea : ∀ z : Int, (if z < 0 then -z else z) = (z.natAbs : Int) := fun z => by split <;> omega
  refine ⟨_, rfl, _, rfl, _, rfl, _, rfl, (fun m σ H' => ∃ x y : Nat, m = y ∧ σ = [some (.int n), some (.int d), some (.int x), some (.int y)] ∧ H' = H ∧ Nat.gcd x y = Nat.gcd n.natAbs d.natAbs),
    ⟨_, n.natAbs, d.natAbs, rfl, by rw [ea, ea]; rfl, rfl, rfl⟩, ?_⟩
  rintro m σ H' ⟨x, y, em, rfl, rfl, hg⟩
  subst em
  -- while _law_b > 0
  refine ⟨_, rfl, _, _, rfl, rfl, _, rfl, ifD (fun c => ?_) (fun c => ?_)⟩
  · refine ⟨_, fun _ _ z => z, _, rfl, _, rfl, .inl ⟨_, rfl, _, rfl, _, _, rfl, rfl, by omega, _, _, rfl, ?_⟩⟩
    refine ⟨x % m, Nat.mod_lt _ (by omega), m, x % m, rfl, ?_, rfl, ?_⟩
    · show [some (V.int n), some (V.int d), some (V.int (m : Int)), some (V.int ((x : Int).fmod (m : Int)))] = _
      rw [fmod_nat]
    · rw [← hg, Nat.gcd_comm x m, Nat.gcd_rec m x, Nat.gcd_comm]
  have y0 : m = 0 := by omega
  subst y0
  rw [Nat.gcd_zero_right] at hg
  subst hg
  have dn : d.toNat ≠ 0 := by omega
  have gp : 0 < Nat.gcd n.natAbs d.natAbs := Nat.gcd_pos_of_pos_right _ (by omega)
  have gb : (((Nat.gcd n.natAbs d.natAbs : Nat) : Int)).natAbs < 2 ^ b := by
    rw [Int.natAbs_natCast]
    exact Nat.lt_of_le_of_lt (Nat.gcd_le_right _ (by omega)) hdb
  have w : CDivW n ((Nat.gcd n.natAbs d.natAbs : Nat) : Int) := wide_div (by omega) gb b0 (by omega)
  have w2 : CDivW d ((Nat.gcd n.natAbs d.natAbs : Nat) : Int) := wide_div (by omega) gb b0 (by omega)
  have ed : d.toNat = d.natAbs := by omega
  refine ⟨_, rfl, _, _, rfl, rfl, _, rfl, ifF (dF (by omega)) ?_⟩
  refine ⟨_, rfl, _, rfl, _, _, rfl, rfl, w, _, rfl, _, rfl, _, _, rfl, rfl, w2, sz2, fun p hp => ?_⟩
  refine q _ _ (same_new hp _) ⟨p, rfl, SqT.of ?_⟩
  rw [upd_same, mk_num n dn, mk_den n dn, ed]
  congr 4
  have e : d = (d.natAbs : Int) := by omega
  rw [show (((d.natAbs / Nat.gcd n.natAbs d.natAbs : Nat)) : Int) = (d.natAbs : Int) / ((Nat.gcd n.natAbs d.natAbs : Nat) : Int) from Int.natCast_ediv _ _]
  rw [← e]
/-- two rationals in, their f out -/
def spOp2 (K : PySem.W.Frag) (g : Rat → Rat → Rat) : Sp := fun vs H Q _ => ∃ (x y : V) (p q : Rat) (m l : Nat), vs = [x, y] ∧ Rq K H x p ∧ Rq K H y q ∧ Sz m p ∧ Sz l q ∧ m + l + 1 ≤ 9000 ∧
  ∀ r H', Same H H' → Rq K H' r (g p q) → Q r H'
/-- two rationals in, a test of them out -/
def spTest2 (K : PySem.W.Frag) (g : Rat → Rat → V) : Sp := fun vs H Q _ => ∃ (x y : V) (p q : Rat) (m l : Nat), vs = [x, y] ∧ Rq K H x p ∧ Rq K H y q ∧ Sz m p ∧ Sz l q ∧ m + l + 1 ≤ 900000 ∧ Q (g p q) H
theorem mulW {m l : Nat} {i j : Int} (hi : i.natAbs < 2 ^ m) (hj : j.natAbs < 2 ^ l) (h0 : 0 < m) (h1 : 0 < l) (h : m + l ≤ 900000) : CMulW i j := wide_mul hi hj h0 h1 (by omega)
abbrev s__law_plus : Stmt := top 38
abbrev N__law_plus : List Str := ["_law_a", "_law_b"]
theorem sc__law_plus : FnScope N__law_plus ["_law_a", "_law_b"] (defScope s__law_plus) := ⟨rfl, rfl, rfl, by decide +kernel, rfl, by decide +kernel, by decide +kernel⟩
abbrev ps__law_plus : List Str := ["_law_a", "_law_b"]
theorem ok_plus (F : Fn K mg "_law_plus" s__law_plus ps__law_plus f fd) (d_law_frac : Def P w K mg base k "_law_frac" ["_law_n", "_law_d"] (spFrac K) f1 fd1) : Def P w K mg base (k + 1) "_law_plus" ps__law_plus (spOp2 K (· + ·)) f fd := by
  refine ⟨F.F.ok sc__law_plus (fun vs H Q E h => ?_) (fun cdv A outer s H vs Q E hr h => ?_), F.m, F.F.kp, F.b⟩
  · obtain ⟨x, y, p, q, m, l, rfl, _⟩ := h
    rfl
  obtain ⟨x, y, p, q, m, l, rfl, ⟨a, rfl, ha⟩, ⟨b, rfl, hb⟩, zp, zq, hm, z⟩ := h
  have m0 := nn zp
  have l0 := nn zq
  refine ⟨_, (pss_one (ps_ret (pcall d_law_frac hr (pa_cons (pe_op op_add (pe_op op_mulW (pe_ix ix_tup (pv 0) pe_int (fun _ _ => rfl)) (pe_ix ix_tup (pv 1) pe_int (fun _ _ => rfl))) (pe_op op_mulW (pe_ix ix_tup (pv 1) pe_int (fun _ _ => rfl)) (pe_ix ix_tup (pv 0) pe_int (fun _ _ => rfl)))) (pa_cons (pe_op op_mulW (pe_ix ix_tup (pv 0) pe_int (fun _ _ => rfl)) (pe_ix ix_tup (pv 1) pe_int (fun _ _ => rfl))) pa_nil))))), ?_⟩
  refine ⟨_, rfl, a, _, _, _, rfl, rfl, ha, at0 rfl, _, rfl, b, _, _, _, rfl, rfl, hb, at1 rfl, _, _, rfl, rfl, mulW zp.1 (dA zq) m0 l0 (by omega), ?_⟩
  refine ⟨_, rfl, b, _, _, _, rfl, rfl, hb, at0 rfl, _, rfl, a, _, _, _, rfl, rfl, ha, at1 rfl, _, _, rfl, rfl, mulW zq.1 (dA zp) l0 m0 (by omega), _, _, rfl, rfl, ?_⟩
  refine ⟨_, rfl, a, _, _, _, rfl, rfl, ha, at1 rfl, _, rfl, b, _, _, _, rfl, rfl, hb, at1 rfl, _, _, rfl, rfl, mulW (dA zp) (dA zq) m0 l0 (by omega), ?_⟩
  refine ⟨_, _, m + l + 1, rfl, dd_pos p q, ab_add (ab_mul zp.1 (dA zq)) (ab_up (ab_mul zq.1 (dA zp)) (by omega)), ab_up (ab_mul (dA zp) (dA zq)) (by omega), by omega, fun r H' e hr => z r H' e ?_⟩
  rw [mk_add] at hr
  exact hr
abbrev s__law_minus : Stmt := top 39
abbrev N__law_minus : List Str := ["_law_a", "_law_b"]
theorem sc__law_minus : FnScope N__law_minus ["_law_a", "_law_b"] (defScope s__law_minus) := ⟨rfl, rfl, rfl, by decide +kernel, rfl, by decide +kernel, by decide +kernel⟩
abbrev ps__law_minus : List Str := ["_law_a", "_law_b"]
theorem ok_minus (F : Fn K mg "_law_minus" s__law_minus ps__law_minus f fd) (d_law_frac : Def P w K mg base k "_law_frac" ["_law_n", "_law_d"] (spFrac K) f1 fd1) : Def P w K mg base (k + 1) "_law_minus" ps__law_minus (spOp2 K (· - ·)) f fd := by
  refine ⟨F.F.ok sc__law_minus (fun vs H Q E h => ?_) (fun cdv A outer s H vs Q E hr h => ?_), F.m, F.F.kp, F.b⟩
  · obtain ⟨x, y, p, q, m, l, rfl, _⟩ := h
    rfl
  obtain ⟨x, y, p, q, m, l, rfl, ⟨a, rfl, ha⟩, ⟨b, rfl, hb⟩, zp, zq, hm, z⟩ := h
  have m0 := nn zp
  have l0 := nn zq
  refine ⟨_, (pss_one (ps_ret (pcall d_law_frac hr (pa_cons (pe_op op_sub (pe_op op_mulW (pe_ix ix_tup (pv 0) pe_int (fun _ _ => rfl)) (pe_ix ix_tup (pv 1) pe_int (fun _ _ => rfl))) (pe_op op_mulW (pe_ix ix_tup (pv 1) pe_int (fun _ _ => rfl)) (pe_ix ix_tup (pv 0) pe_int (fun _ _ => rfl)))) (pa_cons (pe_op op_mulW (pe_ix ix_tup (pv 0) pe_int (fun _ _ => rfl)) (pe_ix ix_tup (pv 1) pe_int (fun _ _ => rfl))) pa_nil))))), ?_⟩
  refine ⟨_, rfl, a, _, _, _, rfl, rfl, ha, at0 rfl, _, rfl, b, _, _, _, rfl, rfl, hb, at1 rfl, _, _, rfl, rfl, mulW zp.1 (dA zq) m0 l0 (by omega), ?_⟩
  refine ⟨_, rfl, b, _, _, _, rfl, rfl, hb, at0 rfl, _, rfl, a, _, _, _, rfl, rfl, ha, at1 rfl, _, _, rfl, rfl, mulW zq.1 (dA zp) l0 m0 (by omega), _, _, rfl, rfl, ?_⟩
  refine ⟨_, rfl, a, _, _, _, rfl, rfl, ha, at1 rfl, _, rfl, b, _, _, _, rfl, rfl, hb, at1 rfl, _, _, rfl, rfl, mulW (dA zp) (dA zq) m0 l0 (by omega), ?_⟩
  refine ⟨_, _, m + l + 1, rfl, dd_pos p q, ab_sub (ab_mul zp.1 (dA zq)) (ab_up (ab_mul zq.1 (dA zp)) (by omega)), ab_up (ab_mul (dA zp) (dA zq)) (by omega), by omega, fun r H' e hr => z r H' e ?_⟩
  rw [mk_sub] at hr
  exact hr
abbrev s__law_times : Stmt := top 40
abbrev N__law_times : List Str := ["_law_a", "_law_b"]
theorem sc__law_times : FnScope N__law_times ["_law_a", "_law_b"] (defScope s__law_times) := ⟨rfl, rfl, rfl, by decide +kernel, rfl, by decide +kernel, by decide +kernel⟩
abbrev ps__law_times : List Str := ["_law_a", "_law_b"]
theorem ok_times (F : Fn K mg "_law_times" s__law_times ps__law_times f fd) (d_law_frac : Def P w K mg base k "_law_frac" ["_law_n", "_law_d"] (spFrac K) f1 fd1) : Def P w K mg base (k + 1) "_law_times" ps__law_times (spOp2 K (· * ·)) f fd := by
  refine ⟨F.F.ok sc__law_times (fun vs H Q E h => ?_) (fun cdv A outer s H vs Q E hr h => ?_), F.m, F.F.kp, F.b⟩
  · obtain ⟨x, y, p, q, m, l, rfl, _⟩ := h
    rfl
  obtain ⟨x, y, p, q, m, l, rfl, ⟨a, rfl, ha⟩, ⟨b, rfl, hb⟩, zp, zq, hm, z⟩ := h
  have m0 := nn zp
  have l0 := nn zq
  refine ⟨_, (pss_one (ps_ret (pcall d_law_frac hr (pa_cons (pe_op op_mulW (pe_ix ix_tup (pv 0) pe_int (fun _ _ => rfl)) (pe_ix ix_tup (pv 1) pe_int (fun _ _ => rfl))) (pa_cons (pe_op op_mulW (pe_ix ix_tup (pv 0) pe_int (fun _ _ => rfl)) (pe_ix ix_tup (pv 1) pe_int (fun _ _ => rfl))) pa_nil))))), ?_⟩
  refine ⟨_, rfl, a, _, _, _, rfl, rfl, ha, at0 rfl, _, rfl, b, _, _, _, rfl, rfl, hb, at0 rfl, _, _, rfl, rfl, mulW zp.1 zq.1 m0 l0 (by omega), ?_⟩
  refine ⟨_, rfl, a, _, _, _, rfl, rfl, ha, at1 rfl, _, rfl, b, _, _, _, rfl, rfl, hb, at1 rfl, _, _, rfl, rfl, mulW (dA zp) (dA zq) m0 l0 (by omega), ?_⟩
  refine ⟨_, _, m + l + 1, rfl, dd_pos p q, ab_up (ab_mul zp.1 zq.1) (by omega), ab_up (ab_mul (dA zp) (dA zq)) (by omega), by omega, fun r H' e hr => z r H' e ?_⟩
  rw [mk_mul] at hr
  exact hr
abbrev s__law_below : Stmt := top 41
abbrev N__law_below : List Str := ["_law_a", "_law_b"]
theorem sc__law_below : FnScope N__law_below ["_law_a", "_law_b"] (defScope s__law_below) := ⟨rfl, rfl, rfl, by decide +kernel, rfl, by decide +kernel, by decide +kernel⟩
abbrev ps__law_below : List Str := ["_law_a", "_law_b"]
theorem ok_below (F : Fn K mg "_law_below" s__law_below ps__law_below f fd) : Def P w K mg base (k + 1) "_law_below" ps__law_below (spTest2 K fun p q => .bl (decide (p < q))) f fd := by
  refine ⟨F.F.ok sc__law_below (fun vs H Q E h => ?_) (fun cdv A outer s H vs Q E hr h => ?_), F.m, F.F.kp, F.b⟩
  · obtain ⟨x, y, p, q, m, l, rfl, _⟩ := h
    rfl
  obtain ⟨x, y, p, q, m, l, rfl, ⟨a, rfl, ha⟩, ⟨b, rfl, hb⟩, zp, zq, hm, z⟩ := h
  have m0 := nn zp
  have l0 := nn zq
  refine ⟨_, (pss_one (ps_ret (pe_cmpR op_lt (pe_op op_mulW (pe_ix ix_tup (pv 0) pe_int (fun _ _ => rfl)) (pe_ix ix_tup (pv 1) pe_int (fun _ _ => rfl))) (pe_op op_mulW (pe_ix ix_tup (pv 1) pe_int (fun _ _ => rfl)) (pe_ix ix_tup (pv 0) pe_int (fun _ _ => rfl))) (nomark _)))), ?_⟩
  refine ⟨_, rfl, a, _, _, _, rfl, rfl, ha, at0 rfl, _, rfl, b, _, _, _, rfl, rfl, hb, at1 rfl, _, _, rfl, rfl, mulW zp.1 (dA zq) m0 l0 (by omega), ?_⟩
  refine ⟨_, rfl, b, _, _, _, rfl, rfl, hb, at0 rfl, _, rfl, a, _, _, _, rfl, rfl, ha, at1 rfl, _, _, rfl, rfl, mulW zq.1 (dA zp) l0 m0 (by omega), _, _, rfl, rfl, ?_⟩
  show Q (.bl (decide (p.num * (q.den : Int) < q.num * (p.den : Int)))) H
  rw [decide_eq_decide.mpr (lt_num (p := p) (q := q)).symm]
  exact z
/-! ### the program's rationals -/
def sg (p q : Rat) : Int := if p = q then 0 else if p < q then -1 else 1
abbrev s_compare : Stmt := top 17
abbrev N_compare : List Str := ["a", "b", "left", "right"]
theorem sc_compare : FnScope N_compare ["a", "b"] (defScope s_compare) := ⟨rfl, rfl, rfl, by decide +kernel, rfl, by decide +kernel, by decide +kernel⟩
abbrev ps_compare : List Str := ["a", "b"]
theorem ok_compare (F : Fn K mg "compare" s_compare ps_compare f fd) : Def P w K mg base (k + 1) "compare" ps_compare (spTest2 K fun p q => .int (sg p q)) f fd := by
  refine ⟨F.F.ok sc_compare (fun vs H Q E h => ?_) (fun cdv A outer s H vs Q E hr h => ?_), F.m, F.F.kp, F.b⟩
  · obtain ⟨x, y, p, q, m, l, rfl, _⟩ := h
    rfl
  obtain ⟨x, y, p, q, m, l, rfl, ⟨a, rfl, ha⟩, ⟨b, rfl, hb⟩, zp, zq, hm, z⟩ := h
  have m0 := nn zp
  have l0 := nn zq
  refine ⟨_, (pss_cons (ps_set (i := 2) sc_compare.nd rfl (Or.inl rfl) (pe_op op_mulW (pe_ix ix_tup (pv 0) pe_int (fun _ _ => rfl)) (pe_ix ix_tup (pv 1) pe_int (fun _ _ => rfl))))
      (pss_cons (ps_set (i := 3) sc_compare.nd rfl (Or.inl rfl) (pe_op op_mulW (pe_ix ix_tup (pv 1) pe_int (fun _ _ => rfl)) (pe_ix ix_tup (pv 0) pe_int (fun _ _ => rfl))))
      (pss_cons (ps_if (pt_cmpR op_eq (pv 2) (pv 3) (nomark _))
        (pss_one (ps_ret pe_int))
        pss_nil)
      (pss_one (ps_ret (pe_ifExp (pt_cmpR op_lt (pv 2) (pv 3) (nomark _)) (pe_un un_neg pe_int) pe_int)))))), ?_⟩
  refine ⟨_, rfl, a, _, _, _, rfl, rfl, ha, at0 rfl, _, rfl, b, _, _, _, rfl, rfl, hb, at1 rfl, _, _, rfl, rfl, mulW zp.1 (dA zq) m0 l0 (by omega), ?_⟩
  refine ⟨_, rfl, b, _, _, _, rfl, rfl, hb, at0 rfl, _, rfl, a, _, _, _, rfl, rfl, ha, at1 rfl, _, _, rfl, rfl, mulW zq.1 (dA zp) l0 m0 (by omega), ?_⟩
  refine ⟨_, rfl, _, rfl, rfl, _, rfl, ifD (fun c => ?_) (fun c => ?_)⟩
  · have e : p = q := eq_num.mpr (V.int.inj c)
    have z' : Q (.int (sg p q)) H := z
    unfold sg at z'
    rw [if_pos e] at z'
    exact z'
  · have e : ¬ p = q := fun e => c (congrArg V.int (eq_num.mp e))
    have z' : Q (.int (sg p q)) H := z
    unfold sg at z'
    rw [if_neg e] at z'
    refine ⟨_, rfl, _, rfl, _, _, rfl, rfl, _, rfl, ifD (fun c => ?_) (fun c => ?_)⟩
    · rw [if_pos (lt_num.mpr c)] at z'
      exact ⟨_, rfl, z'⟩
    · rw [if_neg (fun e => c (lt_num.mp e))] at z'
      exact z'
abbrev s_negate : Stmt := top 16
abbrev N_negate : List Str := ["a"]
theorem sc_negate : FnScope N_negate ["a"] (defScope s_negate) := ⟨rfl, rfl, rfl, by decide +kernel, rfl, by decide +kernel, by decide +kernel⟩
abbrev ps_negate : List Str := ["a"]
def spOp1 (K : PySem.W.Frag) (g : Rat → Rat) : Sp := fun vs H Q _ => ∃ (x : V) (p : Rat), vs = [x] ∧ Rq K H x p ∧ ∀ r H', Same H H' → Rq K H' r (g p) → Q r H'
theorem ok_negate (F : Fn K mg "negate" s_negate ps_negate f fd) : Def P w K mg base (k + 1) "negate" ps_negate (spOp1 K fun p => -p) f fd := by
  refine ⟨F.F.ok sc_negate (fun vs H Q E h => ?_) (fun cdv A outer s H vs Q E hr h => ?_), F.m, F.F.kp, F.b⟩
  · obtain ⟨x, p, rfl, _⟩ := h
    rfl
  obtain ⟨x, p, rfl, ⟨a, rfl, ha⟩, z⟩ := h
  refine ⟨_, (pss_one (ps_ret (pe_tup (pa_cons (pe_un un_neg (pe_ix ix_tup (pv 0) pe_int (fun _ _ => rfl))) (pa_cons (pe_ix ix_tup (pv 0) pe_int (fun _ _ => rfl)) pa_nil))))), ?_⟩
  refine ⟨_, rfl, a, _, _, _, rfl, rfl, ha, at0 rfl, _, rfl, _, rfl, a, _, _, _, rfl, rfl, ha, at1 rfl, sz2, fun r hr' => ?_⟩
  exact z _ _ (same_new hr' _) ⟨r, rfl, SqT.of upd_same⟩
abbrev s_add : Stmt := top 13
abbrev N_add : List Str := ["a", "b", "common", "factor", "n", "rest"]
theorem sc_add : FnScope N_add ["a", "b"] (defScope s_add) := ⟨rfl, rfl, rfl, by decide +kernel, rfl, by decide +kernel, by decide +kernel⟩
abbrev ps_add : List Str := ["a", "b"]
theorem ok_add (T : Bn mg) (F : Fn K mg "add" s_add ps_add f fd) : Def P w K mg base (k + 1) "add" ps_add (spOp2 K (· + ·)) f fd := by
  refine ⟨F.F.ok sc_add (fun vs H Q E h => ?_) (fun cdv A outer s H vs Q E hr h => ?_), F.m, F.F.kp, F.b⟩
  · obtain ⟨x, y, p, q, m, l, rfl, _⟩ := h
    rfl
  obtain ⟨x, y, p, q, m, l, rfl, ⟨a, rfl, ha⟩, ⟨b, rfl, hb⟩, zp, zq, hm, z⟩ := h
  have m0 := nn zp
  have l0 := nn zq
  refine ⟨_, (pss_cons (ps_set (i := 2) sc_add.nd rfl (Or.inl rfl) (pe_callBfun cr_gcd (by rfl) T.gcd_ (pa_cons (pe_ix ix_tup (pv 0) pe_int (fun _ _ => rfl)) (pa_cons (pe_ix ix_tup (pv 1) pe_int (fun _ _ => rfl)) pa_nil))))
      (pss_cons (ps_set (i := 3) sc_add.nd rfl (Or.inl rfl) (pe_op op_fdivW (pe_ix ix_tup (pv 1) pe_int (fun _ _ => rfl)) (pv 2)))
      (pss_cons (ps_set (i := 4) sc_add.nd rfl (Or.inl rfl) (pe_op op_add (pe_op op_mulW (pe_ix ix_tup (pv 0) pe_int (fun _ _ => rfl)) (pv 3)) (pe_op op_mulW (pe_ix ix_tup (pv 1) pe_int (fun _ _ => rfl)) (pe_op op_fdivW (pe_ix ix_tup (pv 0) pe_int (fun _ _ => rfl)) (pv 2)))))
      (pss_cons (ps_set (i := 5) sc_add.nd rfl (Or.inl rfl) (pe_callBfun cr_gcd (by rfl) T.gcd_ (pa_cons (pv 4) (pa_cons (pv 2) pa_nil))))
      (pss_one (ps_ret (pe_tup (pa_cons (pe_op op_fdivW (pv 4) (pv 5)) (pa_cons (pe_op op_mulW (pe_op op_fdivW (pe_ix ix_tup (pv 0) pe_int (fun _ _ => rfl)) (pv 5)) (pv 3)) pa_nil))))))))), ?_⟩
  have gp : 0 < Nat.gcd p.den q.den := Nat.gcd_pos_of_pos_left _ p.den_pos
  have gb : (((Nat.gcd p.den q.den : Nat) : Int)).natAbs < 2 ^ m := Nat.lt_of_le_of_lt (Nat.gcd_le_left _ p.den_pos) zp.2
  have wg : ∀ x : Int, CDivW x ((Nat.gcd p.den q.den : Nat) : Int) := fun x => wide_div (by omega) gb m0 (by omega)
  have fb : (((q.den / Nat.gcd p.den q.den : Nat)) : Int).natAbs < 2 ^ l := Nat.lt_of_le_of_lt (Nat.div_le_self _ _) zq.2
  have hb' : (((p.den / Nat.gcd p.den q.den : Nat)) : Int).natAbs < 2 ^ m := Nat.lt_of_le_of_lt (Nat.div_le_self _ _) zp.2
  refine ⟨_, rfl, a, _, _, _, rfl, rfl, ha, at1 rfl, _, rfl, b, _, _, _, rfl, rfl, hb, at1 rfl, _, _, rfl, ?_⟩
  -- factor; n
  refine ⟨_, rfl, b, _, _, _, rfl, rfl, hb, at1 rfl, _, rfl, _, _, rfl, rfl, wg _, ?_⟩
  refine ⟨_, rfl, a, _, _, _, rfl, rfl, ha, at0 rfl, _, rfl, _, _, rfl, rfl, mulW zp.1 fb m0 l0 (by omega), ?_⟩
  refine ⟨_, rfl, b, _, _, _, rfl, rfl, hb, at0 rfl, _, rfl, a, _, _, _, rfl, rfl, ha, at1 rfl, _, rfl, _, _, rfl, rfl, wg _, _, _, rfl, rfl, mulW zq.1 hb' l0 m0 (by omega), _, _, rfl, rfl, ?_⟩
  -- rest
  refine ⟨_, rfl, _, rfl, _, _, rfl, ?_⟩
  obtain ⟨n, en⟩ : ∃ n : Int, n = p.num * ((q.den / Nat.gcd p.den q.den : Nat) : Int) + q.num * ((p.den / Nat.gcd p.den q.den : Nat) : Int) := ⟨_, rfl⟩
  obtain ⟨r, er⟩ : ∃ r : Nat, r = Nat.gcd n.natAbs (Nat.gcd p.den q.den) := ⟨_, rfl⟩
  have A := add_parts p q _ _ n r rfl rfl en er
  have rp : 0 < r := by rw [er]; exact Nat.gcd_pos_of_pos_right _ gp
  have rb : ((r : Nat) : Int).natAbs < 2 ^ m := by rw [er]; exact Nat.lt_of_le_of_lt (Nat.gcd_le_right _ gp) gb
  have wr : ∀ x : Int, CDivW x (r : Int) := fun x => wide_div (by omega) rb m0 (by omega)
  have db : (((p.den / r : Nat)) : Int).natAbs < 2 ^ m := Nat.lt_of_le_of_lt (Nat.div_le_self _ _) zp.2
  have en' : (fun i j : Int => i + j) ((fun i j : Int => i * j) p.num ((q.den : Int) / ((Nat.gcd p.den q.den : Nat) : Int))) ((fun i j : Int => i * j) q.num ((p.den : Int) / ((Nat.gcd p.den q.den : Nat) : Int))) = n := en.symm
  suffices hz : ∀ n' : Int, n' = n → ∀ r' : Int, r' = (r : Int) → tRet (tTup (tCons (tOp (rI CDivW fun i j => V.int (i / j)) (tVar 4) (tVar 5)) (tCons (tOp (rI CMulW fun i j => V.int (i * j)) (tOp (rI CDivW fun i j => V.int (i / j)) (tOp (rIxT K) (tVar 0) (tC (V.int 1))) (tVar 5)) (tVar 3)) tNil)))
      { nx := fun _ H' => Q V.non H', rt := Q } [some (.ref a), some (.ref b), some (.int ((Nat.gcd p.den q.den : Nat) : Int)), some (.int ((q.den / Nat.gcd p.den q.den : Nat) : Int)), some (.int n'), some (.int r')] H from hz _ en' _ (by rw [er, ← en']; rfl)
  rintro n' e1 r' e2
  subst e1 e2
  refine ⟨_, rfl, _, rfl, _, _, rfl, rfl, wr _, _, rfl, a, _, _, _, rfl, rfl, ha, at1 rfl, _, rfl, _, _, rfl, rfl, wr _, _, rfl, _, _, rfl, rfl, mulW db fb m0 l0 (by omega), sz2, fun t ht => ?_⟩
  refine z _ _ (same_new ht _) ⟨t, rfl, SqT.of ?_⟩
  rw [upd_same]
  show some (HO.tup [V.int (n' / (r : Int)), V.int (((p.den / r : Nat) : Int) * ((q.den / Nat.gcd p.den q.den : Nat) : Int))]) = some (HO.tup [V.int (p + q).num, V.int ((p + q).den : Int)])
  rw [A.1, A.2]
  rfl
abbrev s_subtract : Stmt := top 14
abbrev N_subtract : List Str := ["a", "b"]
theorem sc_subtract : FnScope N_subtract ["a", "b"] (defScope s_subtract) := ⟨rfl, rfl, rfl, by decide +kernel, rfl, by decide +kernel, by decide +kernel⟩
abbrev ps_subtract : List Str := ["a", "b"]
theorem ok_subtract (F : Fn K mg "subtract" s_subtract ps_subtract f fd) (dadd : Def P w K mg base k "add" ["a", "b"] (spOp2 K (· + ·)) f1 fd1) (dnegate : Def P w K mg base k "negate" ["a"] (spOp1 K fun p => -p) f2 fd2) :
    Def P w K mg base (k + 1) "subtract" ps_subtract (spOp2 K (· - ·)) f fd := by
  refine ⟨F.F.ok sc_subtract (fun vs H Q E h => ?_) (fun cdv A outer s H vs Q E hr h => ?_), F.m, F.F.kp, F.b⟩
  · obtain ⟨x, y, p, q, m, l, rfl, _⟩ := h
    rfl
  obtain ⟨x, y, p, q, m, l, rfl, ha, hb, zp, zq, hm, z⟩ := h
  refine ⟨_, (pss_one (ps_ret (pcall dadd hr (pa_cons (pv 0) (pa_cons (pcall dnegate hr (pa_cons (pv 1) pa_nil)) pa_nil))))), ?_⟩
  refine ⟨_, rfl, _, rfl, _, q, rfl, hb, fun r H' e hr' => ?_⟩
  refine ⟨_, _, p, -q, m, l, rfl, ha.same e, hr', zp, zq.neg, hm, fun r2 H2 e2 hr2 => z _ _ (e.trans e2) ?_⟩
  show Rq K H2 r2 (p - q)
  rw [Rat.sub_eq_add_neg]
  exact hr2
/-- rational(n, d) where d is above zero; its second argument is always written -/
abbrev s_rational : Stmt := top 12
abbrev N_rational : List Str := ["n", "d", "common"]
theorem sc_rational : FnScope N_rational ["n", "d"] (defScope s_rational) := ⟨rfl, rfl, rfl, by decide +kernel, rfl, by decide +kernel, by decide +kernel⟩
abbrev ps_rational : List Str := ["n", "d"]
theorem ok_rational (T : Bn mg) (F : FunA K "rational" "rational" s_rational f fd) (hm : mg "rational" = some (.ref f)) (hb : Binds K fd ps_rational []) : Def P w K mg base (k + 1) "rational" ps_rational (spFrac K) f fd := by
  refine ⟨F.ok sc_rational (fun vs H Q E h => ?_) (fun cdv A outer s H vs Q E hr h => ?_), hm, F.kp, hb⟩
  · obtain ⟨n, d, b, rfl, _⟩ := h
    rfl
  obtain ⟨n, d, b, rfl, hd, hn, hdb, hb, q⟩ := h
  refine ⟨_, (pss_cons (ps_if (pt_cmpR op_eq (pv 1) pe_int (nomark _))
        (pss_one ps_never)
        pss_nil)
      (pss_cons (ps_set (i := 2) sc_rational.nd rfl (Or.inl rfl) (pe_callBfun cr_gcd (by rfl) T.gcd_ (pa_cons (pv 0) (pa_cons (pv 1) pa_nil))))
      (pss_cons (ps_if (pt_cmpR op_lt (pv 1) pe_int (nomark _))
        (pss_one (ps_set (i := 2) sc_rational.nd rfl (Or.inl rfl) (pe_un un_neg (pv 2))))
        pss_nil)
      (pss_one (ps_ret (pe_tup (pa_cons (pe_op op_fdivW (pv 0) (pv 2)) (pa_cons (pe_op op_fdivW (pv 1) (pv 2)) pa_nil)))))))), ?_⟩
  have b0 : 0 < b := by
    cases b with
    | zero => simp at hdb; omega
    | succ b => exact Nat.succ_pos _
  have dn : d.toNat ≠ 0 := by omega
  have gp : 0 < Nat.gcd n.natAbs d.natAbs := Nat.gcd_pos_of_pos_right _ (by omega)
  have gb : (((Nat.gcd n.natAbs d.natAbs : Nat) : Int)).natAbs < 2 ^ b := by
    rw [Int.natAbs_natCast]
    exact Nat.lt_of_le_of_lt (Nat.gcd_le_right _ (by omega)) hdb
  have w : ∀ x : Int, CDivW x ((Nat.gcd n.natAbs d.natAbs : Nat) : Int) := fun x => wide_div (by omega) gb b0 (by omega)
  have ed : d.toNat = d.natAbs := by omega
  refine ⟨_, rfl, rfl, _, rfl, ifF (dF fun c => by cases c; omega) ?_⟩
  refine ⟨_, rfl, _, rfl, _, _, rfl, ?_⟩
  refine ⟨_, rfl, _, _, rfl, rfl, _, rfl, ifF (dF (by omega)) ?_⟩
  refine ⟨_, rfl, _, rfl, _, _, rfl, rfl, w _, _, rfl, _, rfl, _, _, rfl, rfl, w _, sz2, fun p hp => ?_⟩
  refine q _ _ (same_new hp _) ⟨p, rfl, SqT.of ?_⟩
  rw [upd_same, mk_num n dn, mk_den n dn, ed]
  congr 4
  have e : d = (d.natAbs : Int) := by omega
  rw [show (((d.natAbs / Nat.gcd n.natAbs d.natAbs : Nat)) : Int) = (d.natAbs : Int) / ((Nat.gcd n.natAbs d.natAbs : Nat) : Int) from Int.natCast_ediv _ _]
  rw [← e]
def spDiv (K : PySem.W.Frag) : Sp := fun vs H Q _ => ∃ (x y : V) (p q : Rat) (m l : Nat), vs = [x, y] ∧ Rq K H x p ∧ Rq K H y q ∧ Sz m p ∧ Sz l q ∧ m + l + 1 ≤ 9000 ∧ 0 < q ∧ ∀ r H', Same H H' → Rq K H' r (p / q) → Q r H'
end Vk
namespace Vk
open PySem L2 Vm
variable {l : Addr} {P : Program} {w : World} {K : PySem.W.Frag} {mg : Str → Option Value} {base : Heap} {k : Nat} {f f1 f2 f3 f4 f5 f6 f7 f8 f9 : Addr} {fd fd1 fd2 fd3 fd4 fd5 fd6 fd7 fd8 fd9 : FuncData}
abbrev s__law_store : Stmt := top 29
abbrev N__law_store : List Str := ["_law_script"]
theorem sc__law_store : FnScope N__law_store ["_law_script"] (defScope s__law_store) := ⟨rfl, rfl, rfl, by decide +kernel, rfl, by decide +kernel, by decide +kernel⟩
abbrev ps__law_store : List Str := ["_law_script"]
def spStore (K : PySem.W.Frag) : Sp := fun vs H Q _ => ∃ (a : Addr) (ns : List Int), vs = [.ref a] ∧ SqL K H a (ns.map V.int) ∧ ns.length ≤ 63 ∧ ∀ (s l : Addr) H', Same H H' → H s = none → Sto l s H' → Q (.ref s) H'
theorem ok_store (T : Bn mg) (F : Fn K mg "_law_store" s__law_store ps__law_store f fd) : Def P w K mg base (k + 1) "_law_store" ps__law_store (spStore K) f fd := by
  refine ⟨F.F.ok sc__law_store (fun vs H Q E h => ?_) (fun cdv A outer s H vs Q E hr h => ?_), F.m, F.F.kp, F.b⟩
  · obtain ⟨a, ns, rfl, _⟩ := h
    rfl
  obtain ⟨a, ns, rfl, ha, hl, z⟩ := h
  refine ⟨_, (pss_one (ps_ret (pe_lst (pa_cons (pe_callTy call_list_of (by rfl) T.list_ (by decide +kernel) (pa_cons (pv 0) pa_nil)) (pa_cons pe_int (pa_cons pe_int (pa_cons pe_int (pa_cons pe_int (pa_cons pe_int pa_nil))))))))), ?_⟩
  refine ⟨_, rfl, a, _, rfl, .inl ha, fun l l0 => ?_⟩
  refine ⟨sm6, fun p p0 => ?_⟩
  have lp : l ≠ p := fun e => by rw [e, upd_same] at p0; cases p0
  have e1 : Same H (upd H l (.lst (ns.map V.int))) := same_new l0 _
  refine z _ l _ (e1.trans (same_new p0 _)) (e1.free p0) ⟨ns, 0, 0, 1, 0, 0, upd_same, lp, ?_, hl, by omega, by omega, by omega, by omega⟩
  rw [upd_ne lp, upd_same]
abbrev s__law_mixed : Stmt := top 31
abbrev N__law_mixed : List Str := ["_law_store_here"]
theorem sc__law_mixed : FnScope N__law_mixed ["_law_store_here"] (defScope s__law_mixed) := ⟨rfl, rfl, rfl, by decide +kernel, rfl, by decide +kernel, by decide +kernel⟩
abbrev ps__law_mixed : List Str := ["_law_store_here"]
def spMixed (K : PySem.W.Frag) (l : Addr) : Sp := fun vs H Q _ => ∃ (s : Addr), vs = [.ref s] ∧ Sto l s H ∧ ∀ (r : Int) H', 0 ≤ r → r < 1000000009 → Sto l s H' → Fr s H H' → Q (.int r) H'
theorem ok_mixed (T : Bn mg) (F : Fn K mg "_law_mixed" s__law_mixed ps__law_mixed f fd) : Def P w K mg base (k + 1) "_law_mixed" ps__law_mixed (spMixed K l) f fd := by
  refine ⟨F.F.ok sc__law_mixed (fun vs H Q E h => ?_) (fun cdv A outer s H vs Q E hr h => ?_), F.m, F.F.kp, F.b⟩
  · obtain ⟨a, rfl, _⟩ := h
    rfl
  obtain ⟨s, rfl, ⟨ns, pos, num, seed, hold, cnt, h1, h2, h3, h4, h5, h6, h7, h8⟩, z⟩ := h
  refine ⟨_, (pss_cons (ps_asg (pe_op op_add (pe_ix ix_list (pv 0) pe_int (fun _ _ => rfl)) pe_int) (pg_sub (pv 0) pe_int set_list))
      (pss_cons (ps_asg (pe_op op_mod (pe_callTy call_int1 (by rfl) T.int_ (by decide +kernel) (pa_cons (pe_op op_add (pe_op op_add (pe_op op_mul (pe_ix ix_list (pv 0) pe_int (fun _ _ => rfl)) pe_int) (pe_op op_mul (pe_ix ix_list (pv 0) pe_int (fun _ _ => rfl)) pe_int)) pe_int) pa_nil)) pe_int) (pg_sub (pv 0) pe_int set_list))
      (pss_one (ps_ret (pe_op op_mod (pe_callTy call_int1 (by rfl) T.int_ (by decide +kernel) (pa_cons (pe_op op_add (pe_op op_mul (pe_ix ix_list (pv 0) pe_int (fun _ _ => rfl)) pe_int) (pe_op op_fdiv (pe_ix ix_list (pv 0) pe_int (fun _ _ => rfl)) pe_int)) pa_nil)) pe_int))))), ?_⟩
  refine ⟨_, rfl, s, _, _, _, rfl, rfl, SqL.of h1, atI_nat (j := 5) rfl, _, _, rfl, rfl, _, rfl, s, _, _, _, rfl, rfl, h1, rfl, ?_⟩
  refine ⟨_, rfl, s, _, _, _, rfl, rfl, SqL.of upd_same, atI_nat (j := 3) rfl, _, _, rfl, rfl, .inr ⟨by decide, by decide⟩, ?_⟩
  refine ⟨_, rfl, s, _, _, _, rfl, rfl, SqL.of upd_same, atI_nat (j := 5) rfl, _, _, rfl, rfl, .inr ⟨by decide, by decide⟩, _, _, rfl, rfl, ?_⟩
  refine ⟨_, _, rfl, rfl, .inl ⟨_, rfl, _, _, rfl, rfl, (by show (0 : Int) < 1000000007; decide), _, rfl, s, _, _, _, rfl, rfl, upd_same, rfl, ?_⟩⟩
  refine ⟨_, rfl, s, _, _, _, rfl, rfl, SqL.of upd_same, atI_nat (j := 3) rfl, _, _, rfl, rfl, .inr ⟨by decide, by decide⟩, ?_⟩
  refine ⟨_, rfl, s, _, _, _, rfl, rfl, SqL.of upd_same, atI_nat (j := 3) rfl, _, _, rfl, rfl, ⟨by decide, by decide⟩, _, _, rfl, rfl, .inl ⟨_, rfl, _, _, rfl, rfl, (by show (0 : Int) < 1000000009; decide), ?_⟩⟩
  have e2 : ∀ o1 o2, Fr s H (upd (upd H s o1) s o2) := fun _ _ => (Fr.upd _).trans (Fr.upd _)
  exact z _ _ (Int.emod_nonneg _ (by decide)) (Int.emod_lt_of_pos _ (by decide)) ⟨ns, pos, num, _, hold, _, upd_same, h2, (e2 _ _) _ _ h3 h2, h4, h5, h6, Int.emod_nonneg _ (by decide), Int.emod_lt_of_pos _ (by decide)⟩ (e2 _ _)
abbrev s__law_feed : Stmt := top 30
abbrev N__law_feed : List Str := ["_law_store_here", "_law_cell"]
theorem sc__law_feed : FnScope N__law_feed ["_law_store_here"] (defScope s__law_feed) := ⟨rfl, rfl, rfl, by decide +kernel, rfl, by decide +kernel, by decide +kernel⟩
abbrev ps__law_feed : List Str := ["_law_store_here"]
def spFeed (K : PySem.W.Frag) (l : Addr) : Sp := fun vs H Q _ => ∃ (s : Addr) (ns : List Int) (pos num seed hold cnt : Int), vs = [.ref s] ∧ H s = some (.lst [.ref l, .int pos, .int num, .int seed, .int hold, .int cnt]) ∧ l ≠ s ∧ H l = some (.lst (ns.map V.int)) ∧ ns.length ≤ 63 ∧ 0 ≤ pos ∧ 0 ≤ num ∧ 0 ≤ seed ∧ seed < 1000000007 ∧ pos < (ns.length : Int) ∧
  ∀ H', Sto l s H' → Fr s H H' → Q .non H'
theorem ok_feed (T : Bn mg) (F : Fn K mg "_law_feed" s__law_feed ps__law_feed f fd) : Def P w K mg base (k + 1) "_law_feed" ps__law_feed (spFeed K l) f fd := by
  refine ⟨F.F.ok sc__law_feed (fun vs H Q E h => ?_) (fun cdv A outer s H vs Q E hr h => ?_), F.m, F.F.kp, F.b⟩
  · obtain ⟨_, _, _, _, _, _, _, rfl, _⟩ := h
    rfl
  obtain ⟨s, ns, pos, num, seed, hold, cnt, rfl, h1, h2, h3, h4, h5, h6, h7, h8, h9, z⟩ := h
  refine ⟨_, (pss_cons (ps_set (i := 1) sc__law_feed.nd rfl (Or.inl rfl) (pe_callTy call_int1 (by rfl) T.int_ (by decide +kernel) (pa_cons (pe_ix ix_list (pe_ix ix_list (pv 0) pe_int (fun _ _ => rfl)) (pe_ix ix_list (pv 0) pe_int (fun _ _ => rfl)) (fun _ _ => rfl)) pa_nil)))
      (pss_cons (ps_asg (pe_op op_add (pe_ix ix_list (pv 0) pe_int (fun _ _ => rfl)) pe_int) (pg_sub (pv 0) pe_int set_list))
      (pss_cons (ps_asg (pe_op op_mod (pe_callTy call_int1 (by rfl) T.int_ (by decide +kernel) (pa_cons (pe_op op_add (pe_op op_mul (pe_ix ix_list (pv 0) pe_int (fun _ _ => rfl)) pe_int) (pv 1)) pa_nil)) pe_int) (pg_sub (pv 0) pe_int set_list))
      (pss_one (ps_if (PW.pt (pw_or (pt_cmpR op_ge (pv 1) (pe_op op_pow pe_int pe_int) (nomark _)) (pw_or1 (pt_cmpR op_le (pv 1) (pe_op op_sub pe_int (pe_op op_pow pe_int pe_int)) (nomark _)))))
        (pss_one (ps_asg (pe_callB call_abs (by rfl) T.abs_ (by decide +kernel) (pa_cons (pv 1) pa_nil)) (pg_sub (pv 0) pe_int set_list)))
        (pss_one (ps_asg pe_int (pg_sub (pv 0) pe_int set_list)))))))), ?_⟩
  have hp : pos.toNat < ns.length := by omega
  have ea : atI (ns.map V.int) pos = some (.int ns[pos.toNat]) := at_of (j := pos.toNat) (by omega) (by rw [List.getElem?_map, List.getElem?_eq_getElem hp]; rfl)
  obtain ⟨c, hc⟩ : ∃ c, c = ns[pos.toNat] := ⟨_, rfl⟩
  rw [← hc] at ea
  refine ⟨_, rfl, s, _, _, _, rfl, rfl, SqL.of h1, at0 rfl, _, rfl, s, _, _, _, rfl, rfl, SqL.of h1, at1 rfl, l, _, _, _, rfl, rfl, SqL.of h3, ea, .inl ⟨_, rfl, ?_⟩⟩
  refine ⟨_, rfl, s, _, _, _, rfl, rfl, SqL.of h1, at1 rfl, _, _, rfl, rfl, _, rfl, s, _, _, _, rfl, rfl, h1, rfl, ?_⟩
  refine ⟨_, rfl, s, _, _, _, rfl, rfl, SqL.of upd_same, atI_nat (j := 3) rfl, _, _, rfl, rfl, .inr ⟨by decide, by decide⟩, _, rfl, _, _, rfl, rfl, .inl ⟨_, rfl, _, _, rfl, rfl, (by show (0 : Int) < 1000000007; decide), _, rfl, s, _, _, _, rfl, rfl, upd_same, rfl, ?_⟩⟩
  have e2 : ∀ o1 o2, Fr s H (upd (upd H s o1) s o2) := fun _ _ => (Fr.upd _).trans (Fr.upd _)
  have e3 : ∀ o1 o2 o3, Fr s H (upd (upd (upd H s o1) s o2) s o3) := fun _ _ _ => (e2 _ _).trans (Fr.upd _)
  have pw : (0 : Int) ≤ 18 ∧ (18 : Int) ≤ 1000000 ∧ (10 : Int).natAbs < 2 ^ 64 := ⟨by decide, by decide, by decide⟩
  have big : ∀ H', H' s = _ → Fr s H H' → Q .non H' := fun H' (e : H' s = some (.lst [.ref l, .int (pos + 1), .int (if c < 0 then -c else c), .int ((seed * 30011 + c) % 1000000007), .int hold, .int cnt])) e' =>
    z H' ⟨ns, pos + 1, _, _, hold, cnt, e, h2, e' _ _ h3 h2, h4, by omega, by split <;> omega, Int.emod_nonneg _ (by decide), Int.emod_lt_of_pos _ (by decide)⟩ e'
  refine ⟨_, rfl, _, _, rfl, rfl, pw, _, _, rfl, rfl, _, rfl, ifD (fun _ => ?_) (fun _ => ⟨_, rfl, _, _, rfl, rfl, pw, _, _, rfl, rfl, _, _, rfl, rfl, _, rfl, ifD (fun _ => ?_) (fun _ => ?_)⟩)⟩
  · exact ⟨_, rfl, _, rfl, _, rfl, s, _, _, _, rfl, rfl, upd_same, rfl, big _ upd_same (e3 _ _ _)⟩
  · exact ⟨_, rfl, _, rfl, _, rfl, s, _, _, _, rfl, rfl, upd_same, rfl, big _ upd_same (e3 _ _ _)⟩
  · exact ⟨_, rfl, s, _, _, _, rfl, rfl, upd_same, rfl, z _ ⟨ns, pos + 1, num, _, 3, cnt, upd_same, h2, (e3 _ _ _) _ _ h3 h2, h4, by omega, h6, Int.emod_nonneg _ (by decide), Int.emod_lt_of_pos _ (by decide)⟩ (e3 _ _ _)⟩
abbrev s__law_take : Stmt := top 32
abbrev N__law_take : List Str := ["_law_store_here", "_law_many", "_law_number"]
theorem sc__law_take : FnScope N__law_take ["_law_store_here", "_law_many"] (defScope s__law_take) := ⟨rfl, rfl, rfl, by decide +kernel, rfl, by decide +kernel, by decide +kernel⟩
abbrev ps__law_take : List Str := ["_law_store_here", "_law_many"]
def spTake (K : PySem.W.Frag) (l : Addr) : Sp := fun vs H Q _ => ∃ (s : Addr) (many : Int), vs = [.ref s, .int many] ∧ Sto l s H ∧ many < 2 ^ 64 ∧ ∀ (r : Int) H', 0 ≤ r → (r < many ∨ r = 0) → Sto l s H' → Fr s H H' → Q (.int r) H'
theorem ok_take (T : Bn mg) (F : Fn K mg "_law_take" s__law_take ps__law_take f fd) (d_law_feed : Def P w K mg base k "_law_feed" ["_law_store_here"] (spFeed K l) f1 fd1) (d_law_mixed : Def P w K mg base k "_law_mixed" ["_law_store_here"] (spMixed K l) f2 fd2) :
    Def P w K mg base (k + 1) "_law_take" ps__law_take (spTake K l) f fd := by
  refine ⟨F.F.ok sc__law_take (fun vs H Q E h => ?_) (fun cdv A outer s H vs Q E hr h => ?_), F.m, F.F.kp, F.b⟩
  · obtain ⟨_, _, rfl, _⟩ := h
    rfl
  obtain ⟨s, many, rfl, hS, hm, z⟩ := h
  refine ⟨_, (pss_cons (ps_set (i := 1) sc__law_take.nd rfl (Or.inl rfl) (pe_callB (call_max2 rfl) (by rfl) T.max_ (by decide +kernel) (pa_cons pe_int (pa_cons (pv 1) pa_nil))))
      (pss_cons (ps_if (PW.pt (pw_and (pt_cmpR op_eq (pe_ix ix_list (pv 0) pe_int (fun _ _ => rfl)) pe_int (nomark _)) (pw_and (pt_cmpR op_eq (pe_ix ix_list (pv 0) pe_int (fun _ _ => rfl)) pe_int (nomark _)) (pw_and1 (pt_cmpR op_lt (pe_ix ix_list (pv 0) pe_int (fun _ _ => rfl)) (pe_callB call_len_seq (by rfl) T.len_ PySem.boot_len (pa_cons (pe_ix ix_list (pv 0) pe_int (fun _ _ => rfl)) pa_nil)) (nomark _))))))
        (pss_one (ps_expr (pcall d_law_feed hr (pa_cons (pv 0) pa_nil))))
        pss_nil)
      (pss_cons (ps_if (pt_cmpR op_gt (pe_ix ix_list (pv 0) pe_int (fun _ _ => rfl)) pe_int (nomark _))
        (pss_cons (ps_set (i := 2) sc__law_take.nd rfl (Or.inl rfl) (pe_ix ix_list (pv 0) pe_int (fun _ _ => rfl)))
        (pss_cons (ps_asg (pe_op op_fdivW (pv 2) (pv 1)) (pg_sub (pv 0) pe_int set_list))
        (pss_one (ps_ret (pe_op op_mod (pe_callTy call_int1 (by rfl) T.int_ (by decide +kernel) (pa_cons (pv 2) pa_nil)) (pv 1))))))
        pss_nil)
      (pss_cons (ps_asg (pe_callB (call_max2 rfl) (by rfl) T.max_ (by decide +kernel) (pa_cons pe_int (pa_cons (pe_op op_sub (pe_ix ix_list (pv 0) pe_int (fun _ _ => rfl)) pe_int) pa_nil))) (pg_sub (pv 0) pe_int set_list))
      (pss_cons (ps_set (i := 2) sc__law_take.nd rfl (Or.inl rfl) (pcall d_law_mixed hr (pa_cons (pv 0) pa_nil)))
      (pss_cons (ps_if (pt_cmpR op_gt (pv 1) pe_int (nomark _))
        (pss_one (ps_set (i := 2) sc__law_take.nd rfl (Or.inl rfl) (pe_op op_add (pv 2) (pe_op op_mul (pcall d_law_mixed hr (pa_cons (pv 0) pa_nil)) pe_int))))
        pss_nil)
      (pss_one (ps_ret (pe_op op_mod (pe_callTy call_int1 (by rfl) T.int_ (by decide +kernel) (pa_cons (pv 2) pa_nil)) (pv 1)))))))))), ?_⟩
  refine ⟨_, rfl, _, _, rfl, ?_⟩
  obtain ⟨M, eM⟩ : ∃ M : Int, M = if many > 1 then many else 1 := ⟨_, rfl⟩
  have M1 : 1 ≤ M := by rw [eM]; split <;> omega
  have M2 : M.natAbs < 2 ^ 64 := by
    have : (2 : Nat) ^ 64 = 18446744073709551616 := by decide
    have : (2 : Int) ^ 64 = 18446744073709551616 := by decide
    rw [eM]; split <;> omega
  have hz : ∀ (r : Int) H', 0 ≤ r → r < M → Sto l s H' → Fr s H H' → Q (.int r) H' := fun r H' a b => z r H' a (by rw [eM] at b; split at b <;> omega)
  rw [← eM]
  dsimp only [gName]
  refine cut (fun σ' H' => σ' = [some (.ref s), some (.int M), none] ∧ Sto l s H' ∧ Fr s H H') ?_ ?_
  · rintro σ H1 ⟨rfl, hS1, e1⟩
    obtain ⟨ns, pos, num, seed, hold, cnt, h1, h2, h3, h4, h5, h6, h7, h8⟩ := id hS1
    refine ⟨_, rfl, s, _, _, _, rfl, rfl, SqL.of h1, at2 rfl, _, _, rfl, rfl, _, rfl, ifD (fun c => ?_) (fun c => ?_)⟩
    · refine ⟨_, rfl, s, _, _, _, rfl, rfl, SqL.of h1, at2 rfl, ?_⟩
      refine ⟨_, rfl, _, rfl, _, _, rfl, rfl, wide_div (by omega) M2 (by decide) (by decide), _, rfl, s, _, _, _, rfl, rfl, h1, rfl, ?_⟩
      refine ⟨_, rfl, .inl ⟨_, rfl, _, rfl, _, _, rfl, rfl, (by show 0 < M; omega), ?_⟩⟩
      have e2 : ∀ o, Fr s H1 (upd H1 s o) := fun _ => Fr.upd _
      exact hz _ _ (Int.emod_nonneg _ (by omega)) (Int.emod_lt_of_pos _ (by omega)) ⟨ns, pos, num / M, seed, hold, cnt, upd_same, h2, (e2 _) _ _ h3 h2, h4, h5, Int.ediv_nonneg (by omega) (by omega), h7, h8⟩ (e1.trans (e2 _))
    refine ⟨_, rfl, s, _, _, _, rfl, rfl, SqL.of h1, atI_nat (j := 4) rfl, _, _, rfl, rfl, _, _, rfl, _, rfl, s, _, _, _, rfl, rfl, h1, rfl, ?_⟩
    have e2 : ∀ o, Fr s H1 (upd H1 s o) := fun _ => Fr.upd _
    refine ⟨_, rfl, s, rfl, ⟨ns, pos, num, seed, _, cnt, upd_same, h2, (e2 _) _ _ h3 h2, h4, h5, h6, h7, h8⟩, fun r H2 r0 r1 S2 e3 => ?_⟩
    refine ⟨_, rfl, _, _, rfl, rfl, _, rfl, ifD (fun c => ?_) (fun c => ?_)⟩
    · refine ⟨_, rfl, _, rfl, s, rfl, S2, fun r' H3 _ _ S3 e4 => ⟨_, _, rfl, rfl, .inr ⟨by decide, by decide⟩, _, _, rfl, rfl, ?_⟩⟩
      refine ⟨_, rfl, .inl ⟨_, rfl, _, rfl, _, _, rfl, rfl, (by show 0 < M; omega), ?_⟩⟩
      exact hz _ _ (Int.emod_nonneg _ (by omega)) (Int.emod_lt_of_pos _ (by omega)) S3 (e1.trans ((e2 _).trans (e3.trans e4)))
    · refine ⟨_, rfl, .inl ⟨_, rfl, _, rfl, _, _, rfl, rfl, (by show 0 < M; omega), ?_⟩⟩
      exact hz _ _ (Int.emod_nonneg _ (by omega)) (Int.emod_lt_of_pos _ (by omega)) S2 (e1.trans ((e2 _).trans e3))
  · intro key
    obtain ⟨ns, pos, num, seed, hold, cnt, h1, h2, h3, h4, h5, h6, h7, h8⟩ := id hS
    refine ⟨_, rfl, s, _, _, _, rfl, rfl, SqL.of h1, at2 rfl, rfl, _, rfl, ifD (fun _ => ?_) (fun _ => ifF rfl (key _ _ ⟨rfl, hS, Fr.refl _ _⟩))⟩
    refine ⟨_, rfl, s, _, _, _, rfl, rfl, SqL.of h1, atI_nat (j := 4) rfl, rfl, _, rfl, ifD (fun _ => ?_) (fun _ => ifF rfl (key _ _ ⟨rfl, hS, Fr.refl _ _⟩))⟩
    refine ⟨_, rfl, s, _, _, _, rfl, rfl, SqL.of h1, at1 rfl, _, rfl, s, _, _, _, rfl, rfl, SqL.of h1, at0 rfl, l, _, rfl, .inl (SqL.of h3), _, _, rfl, rfl, _, rfl, ifD (fun c => ?_) (fun _ => key _ _ ⟨rfl, hS, Fr.refl _ _⟩)⟩
    rw [List.length_map] at c
    exact ⟨_, rfl, s, ns, pos, num, seed, hold, cnt, rfl, h1, h2, h3, h4, h5, h6, h7, h8, c, fun H' S' e' => key _ _ ⟨rfl, S', e'⟩⟩
abbrev s__law_pick : Stmt := top 33
abbrev N__law_pick : List Str := ["_law_store_here", "_law_things"]
theorem sc__law_pick : FnScope N__law_pick ["_law_store_here", "_law_things"] (defScope s__law_pick) := ⟨rfl, rfl, rfl, by decide +kernel, rfl, by decide +kernel, by decide +kernel⟩
abbrev ps__law_pick : List Str := ["_law_store_here", "_law_things"]
/-- a list that is not the store; one of its things is handed back -/
def spPick (K : PySem.W.Frag) (l : Addr) : Sp := fun vs H Q _ => ∃ (s a : Addr) (xs : List V), vs = [.ref s, .ref a] ∧ Sto l s H ∧ a ≠ s ∧ SqL K H a xs ∧ 0 < xs.length ∧ xs.length < 2 ^ 32 ∧ ∀ (v : V) H', v ∈ xs → Sto l s H' → Fr s H H' → Q v H'
theorem ok_pick (T : Bn mg) (F : Fn K mg "_law_pick" s__law_pick ps__law_pick f fd) (d_law_take : Def P w K mg base k "_law_take" ["_law_store_here", "_law_many"] (spTake K l) f1 fd1) : Def P w K mg base (k + 1) "_law_pick" ps__law_pick (spPick K l) f fd := by
  refine ⟨F.F.ok sc__law_pick (fun vs H Q E h => ?_) (fun cdv A outer s H vs Q E hr h => ?_), F.m, F.F.kp, F.b⟩
  · obtain ⟨_, _, _, rfl, _⟩ := h
    rfl
  obtain ⟨s, a, xs, rfl, hS, n, ha, h0, hl, z⟩ := h
  refine ⟨_, (pss_one (ps_ret (pe_ix ix_list (pv 1) (pcall d_law_take hr (pa_cons (pv 0) (pa_cons (pe_callB call_len_seq (by rfl) T.len_ PySem.boot_len (pa_cons (pv 1) pa_nil)) pa_nil))) (fun _ _ => rfl)))), ?_⟩
  have p32 : (2 : Nat) ^ 32 = 4294967296 := by decide
  have p64 : (2 : Int) ^ 64 = 18446744073709551616 := by decide
  refine ⟨_, rfl, _, rfl, _, rfl, a, _, rfl, .inl ha, s, _, rfl, hS, by omega, fun r H' r0 r1 S' e => ?_⟩
  have hr : r.toNat < xs.length := by omega
  refine ⟨a, _, _, xs[r.toNat], rfl, rfl, seq_fr e n ha, at_of (j := r.toNat) (by omega) (List.getElem?_eq_getElem hr), z _ _ (List.getElem_mem hr) S' e⟩
end Vk
namespace Vk
open PySem L2 Vm
variable {l : Addr} {P : Program} {w : World} {K : PySem.W.Frag} {mg : Str → Option Value} {base : Heap} {k : Nat} {f f1 f2 f3 f4 f5 f6 f7 f8 f9 : Addr} {fd fd1 fd2 fd3 fd4 fd5 fd6 fd7 fd8 fd9 : FuncData}
/-! ### data -/
def dq (q : Rat) : PyData := .tuple [.int q.num, .int (q.den : Int)]
theorem Rq.dp {H : Hp} {v : V} {q : Rat} (h : Rq K H v q) : Dp K H v (dq q) := by
  obtain ⟨a, rfl, h⟩ := h
  exact .tup h (.cons (.int _) (.cons (.int _) .nil))
theorem sh_dq (q : Rat) : SeqAt.shaped (dq q) = true := rfl
theorem eqv_dq (p q : Rat) : PyData.eqv (dq p) (dq q) = decide (p = q) := by
  show ((p.num == q.num) && (((p.den : Int) == (q.den : Int)) && true)) = decide (p = q)
  by_cases h : p = q
  · subst h
    simp
  · rw [decide_eq_false h]
    by_cases h1 : p.num = q.num
    · by_cases h2 : p.den = q.den
      · exact absurd (Rat.ext h1 h2) h
      · have : ((p.den : Int) == (q.den : Int)) = false := beq_false_of_ne (by omega)
        rw [this]
        simp
    · have : (p.num == q.num) = false := by simpa using h1
      rw [this]
      simp
inductive Tree : Nat → PyData → Prop
  | int {n} (i : Int) : Tree n (.int i)
  | non {n} : Tree n .none
  | str {n} {s : Str} (h : SeqAt.shaped (.str s) = true) : Tree n (.str s)
  | tup {n} {ds : List PyData} : ds.length ≤ 1000 → (∀ d ∈ ds, Tree n d) → Tree (n + 1) (.tuple ds)
  | lst {n} {ds : List PyData} : ds.length ≤ 1000 → (∀ d ∈ ds, Tree n d) → Tree (n + 1) (.list ds)
theorem tree_dq (n : Nat) (q : Rat) : Tree (n + 1) (dq q) := .tup (by show 2 ≤ 1000; decide) fun d h => by
  rcases List.mem_cons.mp h with rfl | h
  · exact .int _
  · rcases List.mem_cons.mp h with rfl | h
    · exact .int _
    · cases h
theorem sql_ty {H : Hp} {a : Addr} {xs : List V} (h : SqL K H a xs) : TyX K H (.ref a) (.type "list") := by
  rcases h with (h | ⟨o, h⟩) | ⟨o, its, n, h, c, _⟩
  · exact .base (.lst h)
  · exact .base (.frz h)
  · exact .kList h c
theorem sqt_ty {H : Hp} {a : Addr} {xs : List V} (h : SqT K H a xs) : TyX K H (.ref a) (.type "tuple") := by
  rcases h with (h | ⟨o, h⟩) | ⟨o, its, n, h, c, _⟩
  · exact .base (.tup h)
  · exact .fTuple h
  · exact .kTuple h c
theorem dpall_len {H : Hp} : ∀ {vs : List V} {ds : List PyData}, DpAll K H vs ds → vs.length = ds.length
  | _, _, .nil => rfl
  | _, _, .cons _ t => by simp [dpall_len t]
theorem dpall_at {H : Hp} : ∀ {vs : List V} {ds : List PyData}, DpAll K H vs ds → ∀ {i : Nat} {d : PyData}, ds[i]? = some d → ∃ v, vs[i]? = some v ∧ Dp K H v d
  | _, _, .nil, i, d, h => by simp at h
  | _, _, .cons r t, 0, d, h => ⟨_, rfl, by rw [← Option.some.inj h]; exact r⟩
  | _, _, .cons r t, i + 1, d, h => dpall_at t h
abbrev s__law_is_int : Stmt := top 35
abbrev N__law_is_int : List Str := ["_law_value"]
theorem sc__law_is_int : FnScope N__law_is_int ["_law_value"] (defScope s__law_is_int) := ⟨rfl, rfl, rfl, by decide +kernel, rfl, by decide +kernel, by decide +kernel⟩
abbrev ps__law_is_int : List Str := ["_law_value"]
def spIsInt (K : PySem.W.Frag) : Sp := fun vs H Q _ => ∃ i : Int, vs = [.int i] ∧ Q (.bl true) H
theorem ok_is_int (T : Bn mg) (F : Fn K mg "_law_is_int" s__law_is_int ps__law_is_int f fd) : Def P w K mg base (k + 1) "_law_is_int" ps__law_is_int (spIsInt K) f fd := by
  refine ⟨F.F.ok sc__law_is_int (fun vs H Q E h => ?_) (fun cdv A outer s H vs Q E hr h => ?_), F.m, F.F.kp, F.b⟩
  · obtain ⟨i, rfl, _⟩ := h
    rfl
  obtain ⟨i, rfl, z⟩ := h
  refine ⟨_, (pss_one (ps_ret (pe_and (pe_callB call_isi (by rfl) T.isinstance_ (by decide +kernel) (pa_cons (pv 0) (pa_cons (pe_bltn (v := .ty "int") (by rfl) T.int_ (by decide +kernel) rfl) pa_nil))) (pe_one (pe_not (pe_callB call_isi (by rfl) T.isinstance_ (by decide +kernel) (pa_cons (pv 0) (pa_cons (pe_bltn (v := .ty "bool") (by rfl) T.bool_ (by decide +kernel) rfl) pa_nil)))))))), ?_⟩
  exact ⟨_, rfl, _, _, _, _, true, rfl, .ty _, (.base (.int i)), kit_ty (by decide +kernel), _, rfl, ifT rfl ⟨_, rfl, _, _, _, _, false, rfl, .ty _, (.base (.int i)), kit_ty (by decide +kernel), _, rfl, z⟩⟩
abbrev s__law_same : Stmt := top 36
abbrev N__law_same : List Str := ["_law_value", "_law_due", "_law_keys", "_law_name", "_law_k"]
theorem sc__law_same : FnScope N__law_same ["_law_value", "_law_due"] (defScope s__law_same) := ⟨rfl, rfl, rfl, by decide +kernel, rfl, by decide +kernel, by decide +kernel⟩
abbrev ps__law_same : List Str := ["_law_value", "_law_due"]
def spSame (K : PySem.W.Frag) (n : Nat) : Sp := fun vs H Q _ => ∃ (v u : V) (d : PyData), vs = [v, u] ∧ Dp K H v d ∧ Dp K H u d ∧ Tree n d ∧ Q (.bl true) H
theorem ok_same1 (T : Bn mg) (n : Nat) (F : Fn K mg "_law_same" s__law_same ps__law_same f fd) (d_law_is_int : Def P w K mg base (k + n) "_law_is_int" ["_law_value"] (spIsInt K) f1 fd1)
    (d_law_same : Def P w K mg base (k + n) "_law_same" ["_law_value", "_law_due"] (fun vs H Q E => ∃ m, m + 1 = n ∧ spSame K m vs H Q E) f fd) : Def P w K mg base (k + n + 1) "_law_same" ps__law_same (spSame K n) f fd := by
  refine ⟨F.F.ok sc__law_same (fun vs H Q E h => ?_) (fun cdv A outer s H vs Q E hr h => ?_), F.m, F.F.kp, F.b⟩
  · obtain ⟨v, u, d, rfl, _⟩ := h
    rfl
  obtain ⟨v, u, d, rfl, hv, hu, ht, z⟩ := h
  refine ⟨_, (pss_cons (ps_if (pt_cmpR op_isN (pv 1) pe_non (nomark _))
        (pss_one (ps_ret (pe_cmpR op_isN (pv 0) pe_non (nomark _))))
        pss_nil)
      (pss_cons (ps_if (pt_val (pe_callB call_isi (by rfl) T.isinstance_ (by decide +kernel) (pa_cons (pv 1) (pa_cons (pe_bltn (v := .ty "bool") (by rfl) T.bool_ (by decide +kernel) rfl) pa_nil))))
        (pss_one (ps_ret (pe_and (pe_callB call_isi (by rfl) T.isinstance_ (by decide +kernel) (pa_cons (pv 0) (pa_cons (pe_bltn (v := .ty "bool") (by rfl) T.bool_ (by decide +kernel) rfl) pa_nil))) (pe_one (pe_cmpR (op_eqD hr.units) (pv 0) (pv 1) (nomark _))))))
        pss_nil)
      (pss_cons (ps_if (pt_val (pe_callB call_isi (by rfl) T.isinstance_ (by decide +kernel) (pa_cons (pv 1) (pa_cons (pe_bltn (v := .ty "int") (by rfl) T.int_ (by decide +kernel) rfl) pa_nil))))
        (pss_one (ps_ret (pe_and (pcall d_law_is_int hr (pa_cons (pv 0) pa_nil)) (pe_one (pe_cmpR (op_eqD hr.units) (pv 0) (pv 1) (nomark _))))))
        pss_nil)
      (pss_cons (ps_if (pt_val (pe_callB call_isi (by rfl) T.isinstance_ (by decide +kernel) (pa_cons (pv 1) (pa_cons (pe_bltn (v := .ty "str") (by rfl) T.str_ (by decide +kernel) rfl) pa_nil))))
        (pss_one (ps_ret (pe_and (pe_callB call_isi (by rfl) T.isinstance_ (by decide +kernel) (pa_cons (pv 0) (pa_cons (pe_bltn (v := .ty "str") (by rfl) T.str_ (by decide +kernel) rfl) pa_nil))) (pe_one (pe_cmpR (op_eqD hr.units) (pv 0) (pv 1) (nomark _))))))
        pss_nil)
      (pss_cons (ps_if (pt_val (pe_callB call_isi (by rfl) T.isinstance_ (by decide +kernel) (pa_cons (pv 1) (pa_cons (pe_bltn (v := .ty "dict") (by rfl) T.dict_ (by decide +kernel) rfl) pa_nil))))
        pss_never
        pss_nil)
      (pss_cons (ps_if (PW.pt (pw_and (pt_val (pe_callB call_isi (by rfl) T.isinstance_ (by decide +kernel) (pa_cons (pv 1) (pa_cons (pe_bltn (v := .ty "list") (by rfl) T.list_ (by decide +kernel) rfl) pa_nil)))) (pw_and1 (pt_not (pt_val (pe_callB call_isi (by rfl) T.isinstance_ (by decide +kernel) (pa_cons (pv 0) (pa_cons (pe_bltn (v := .ty "list") (by rfl) T.list_ (by decide +kernel) rfl) pa_nil))))))))
        (pss_one (ps_ret pe_bl))
        pss_nil)
      (pss_cons (ps_if (PW.pt (pw_and (pt_val (pe_callB call_isi (by rfl) T.isinstance_ (by decide +kernel) (pa_cons (pv 1) (pa_cons (pe_bltn (v := .ty "tuple") (by rfl) T.tuple_ (by decide +kernel) rfl) pa_nil)))) (pw_and1 (pt_not (pt_val (pe_callB call_isi (by rfl) T.isinstance_ (by decide +kernel) (pa_cons (pv 0) (pa_cons (pe_bltn (v := .ty "tuple") (by rfl) T.tuple_ (by decide +kernel) rfl) pa_nil))))))))
        (pss_one (ps_ret pe_bl))
        pss_nil)
      (pss_cons (ps_if (pt_cmpR op_ne (pe_callB call_len_seq (by rfl) T.len_ PySem.boot_len (pa_cons (pv 0) pa_nil)) (pe_callB call_len_seq (by rfl) T.len_ PySem.boot_len (pa_cons (pv 1) pa_nil)) (nomark _))
        (pss_one (ps_ret pe_bl))
        pss_nil)
      (pss_cons (ps_for PassesOwn.never rfl (pi_range1 (by rfl) T.range_ (pa_cons (pe_callB call_len_seq (by rfl) T.len_ PySem.boot_len (pa_cons (pv 1) pa_nil)) pa_nil)) (pg_name (i := 4) sc__law_same.nd rfl (Or.inl rfl))
        (pss_one (ps_if (pt_not (pt_val (pcall d_law_same hr (pa_cons (pe_ix ix_seq (pv 0) (pv 4) (fun _ _ => rfl)) (pa_cons (pe_ix ix_seq (pv 1) (pv 4) (fun _ _ => rfl)) pa_nil)))))
          (pss_one (ps_ret pe_bl))
          pss_nil)))
      (pss_one (ps_ret pe_bl))))))))))), ?_⟩
  cases ht with
  | int i =>
    cases hv
    cases hu
    refine ⟨_, rfl, rfl, _, rfl, ifF (dF nofun) ⟨_, rfl, _, _, _, _, false, rfl, .ty _, (.base (.int i)), kit_ty (by decide +kernel), _, rfl, ifF rfl ⟨_, rfl, _, _, _, _, true, rfl, .ty _, (.base (.int i)), kit_ty (by decide +kernel), _, rfl, ifT rfl ?_⟩⟩⟩
    refine ⟨_, rfl, i, rfl, _, rfl, ifT rfl ⟨_, rfl, _, rfl, _, _, .int i, .int i, rfl, rfl, ?_⟩⟩
    rw [show PyData.eqv (.int i) (.int i) = true from beq_self_eq_true i]
    exact z
  | non =>
    cases hv
    cases hu
    exact ⟨_, rfl, rfl, _, rfl, ifT (dT rfl) ⟨_, rfl, rfl, z⟩⟩
  | @str _ s hs =>
    cases hv
    cases hu
    refine ⟨_, rfl, rfl, _, rfl, ifF (dF nofun) ⟨_, rfl, _, _, _, _, false, rfl, .ty _, (.base (.str s)), kit_ty (by decide +kernel), _, rfl, ifF rfl ⟨_, rfl, _, _, _, _, false, rfl, .ty _, (.base (.str s)), kit_ty (by decide +kernel), _, rfl, ifF rfl ⟨_, rfl, _, _, _, _, true, rfl, .ty _, (.base (.str s)), kit_ty (by decide +kernel), _, rfl, ifT rfl ?_⟩⟩⟩⟩
    refine ⟨_, rfl, _, _, _, _, true, rfl, .ty _, (.base (.str s)), kit_ty (by decide +kernel), _, rfl, ifT rfl ⟨_, rfl, _, rfl, _, _, .str s, .str s, hs, hs, ?_⟩⟩
    rw [show PyData.eqv (.str s) (.str s) = true from beq_self_eq_true s]
    exact z
  | tup hl hall =>
    rename_i m ds
    cases hv with
    | tup ha da =>
    rename_i a xs
    cases hu with
    | tup hb db =>
    rename_i b ys
    have lx := dpall_len da
    have ly := dpall_len db
    have ta := sqt_ty ha
    have tb := sqt_ty hb
    refine ⟨_, rfl, rfl, _, rfl, ifF (dF nofun) ⟨_, rfl, _, _, _, _, false, rfl, .ty _, tb, kit_ty (by decide +kernel), _, rfl, ifF rfl ⟨_, rfl, _, _, _, _, false, rfl, .ty _, tb, kit_ty (by decide +kernel), _, rfl, ifF rfl ⟨_, rfl, _, _, _, _, false, rfl, .ty _, tb, kit_ty (by decide +kernel), _, rfl, ifF rfl ⟨_, rfl, _, _, _, _, false, rfl, .ty _, tb, kit_ty (by decide +kernel), _, rfl, ifF rfl ?_⟩⟩⟩⟩⟩
    refine ⟨_, rfl, _, _, _, _, false, rfl, .ty _, tb, kit_ty (by decide +kernel), _, rfl, ifF rfl (ifF rfl ⟨_, rfl, _, _, _, _, true, rfl, .ty _, tb, kit_ty (by decide +kernel), _, rfl, ifT rfl ⟨_, rfl, _, _, _, _, true, rfl, .ty _, ta, kit_ty (by decide +kernel), _, rfl, ifF rfl ?_⟩⟩)⟩
    refine ⟨_, rfl, a, _, rfl, .inr ha, _, rfl, b, _, rfl, .inr hb, rfl, _, rfl, ifF ?_ ?_⟩
    · rw [lx, ly]
      simp
    have p62 : (2 : Int) ^ 62 = 4611686018427387904 := by decide
    refine ⟨_, rfl, b, _, rfl, .inr hb, _, rfl, by omega, by omega, for_range (n := ((ys.length : Nat) : Int).toNat) (fun i σ H' => ∃ kk, σ = [some (.ref a), some (.ref b), none, none, kk] ∧ H' = H) ⟨none, rfl, rfl⟩ ?_ ?_⟩
    · rintro i σ H' hi ⟨kk, rfl, rfl⟩
      have hi' : i < ds.length := by omega
      obtain ⟨v, hv, dv⟩ := dpall_at da (List.getElem?_eq_getElem hi')
      obtain ⟨u, hu, du⟩ := dpall_at db (List.getElem?_eq_getElem hi')
      refine ⟨_, rfl, _, rfl, .inr (.inl ⟨a, _, _, v, rfl, rfl, ha, at_of (j := i) (by omega) hv, _, rfl, _, rfl, .inr (.inl ⟨b, _, _, u, rfl, rfl, hb, at_of (j := i) (by omega) hu, m, rfl, v, u, _, rfl, dv, du, hall _ (List.getElem_mem hi'), ?_⟩)⟩)⟩
      exact ⟨_, rfl, ifF rfl ⟨_, rfl, rfl⟩⟩
    · rintro σ H' ⟨kk, rfl, rfl⟩
      exact z
  | lst hl hall =>
    rename_i m ds
    cases hv with
    | lst ha da =>
    rename_i a xs
    cases hu with
    | lst hb db =>
    rename_i b ys
    have lx := dpall_len da
    have ly := dpall_len db
    have ta := sql_ty ha
    have tb := sql_ty hb
    refine ⟨_, rfl, rfl, _, rfl, ifF (dF nofun) ⟨_, rfl, _, _, _, _, false, rfl, .ty _, tb, kit_ty (by decide +kernel), _, rfl, ifF rfl ⟨_, rfl, _, _, _, _, false, rfl, .ty _, tb, kit_ty (by decide +kernel), _, rfl, ifF rfl ⟨_, rfl, _, _, _, _, false, rfl, .ty _, tb, kit_ty (by decide +kernel), _, rfl, ifF rfl ⟨_, rfl, _, _, _, _, false, rfl, .ty _, tb, kit_ty (by decide +kernel), _, rfl, ifF rfl ?_⟩⟩⟩⟩⟩
    refine ⟨_, rfl, _, _, _, _, true, rfl, .ty _, tb, kit_ty (by decide +kernel), _, rfl, ifT rfl ⟨_, rfl, _, _, _, _, true, rfl, .ty _, ta, kit_ty (by decide +kernel), _, rfl, ifF rfl ⟨_, rfl, _, _, _, _, false, rfl, .ty _, tb, kit_ty (by decide +kernel), _, rfl, ifF rfl (ifF rfl ?_)⟩⟩⟩
    refine ⟨_, rfl, a, _, rfl, .inl ha, _, rfl, b, _, rfl, .inl hb, rfl, _, rfl, ifF ?_ ?_⟩
    · rw [lx, ly]
      simp
    have p62 : (2 : Int) ^ 62 = 4611686018427387904 := by decide
    refine ⟨_, rfl, b, _, rfl, .inl hb, _, rfl, by omega, by omega, for_range (n := ((ys.length : Nat) : Int).toNat) (fun i σ H' => ∃ kk, σ = [some (.ref a), some (.ref b), none, none, kk] ∧ H' = H) ⟨none, rfl, rfl⟩ ?_ ?_⟩
    · rintro i σ H' hi ⟨kk, rfl, rfl⟩
      have hi' : i < ds.length := by omega
      obtain ⟨v, hv, dv⟩ := dpall_at da (List.getElem?_eq_getElem hi')
      obtain ⟨u, hu, du⟩ := dpall_at db (List.getElem?_eq_getElem hi')
      refine ⟨_, rfl, _, rfl, .inl ⟨a, _, _, v, rfl, rfl, ha, at_of (j := i) (by omega) hv, _, rfl, _, rfl, .inl ⟨b, _, _, u, rfl, rfl, hb, at_of (j := i) (by omega) hu, m, rfl, v, u, _, rfl, dv, du, hall _ (List.getElem_mem hi'), ?_⟩⟩⟩
      exact ⟨_, rfl, ifF rfl ⟨_, rfl, rfl⟩⟩
    · rintro σ H' ⟨kk, rfl, rfl⟩
      exact z
abbrev s__law_size : Stmt := top 34
abbrev N__law_size : List Str := ["_law_store_here", "_law_least", "_law_top", "_law_sort"]
theorem sc__law_size : FnScope N__law_size ["_law_store_here", "_law_least", "_law_top"] (defScope s__law_size) := ⟨rfl, rfl, rfl, by decide +kernel, rfl, by decide +kernel, by decide +kernel⟩
abbrev ps__law_size : List Str := ["_law_store_here", "_law_least", "_law_top"]
def spSize (K : PySem.W.Frag) (l : Addr) : Sp := fun vs H Q _ => ∃ (s : Addr) (lo hi : Int), vs = [.ref s, .int lo, .int hi] ∧ Sto l s H ∧ lo ≤ hi ∧ hi - lo < 2 ^ 32 ∧ ∀ (r : Int) H', lo ≤ r → r ≤ hi → Sto l s H' → Fr s H H' → Q (.int r) H'
theorem ok_size (F : Fn K mg "_law_size" s__law_size ps__law_size f fd) (d_law_take : Def P w K mg base k "_law_take" ["_law_store_here", "_law_many"] (spTake K l) f1 fd1) : Def P w K mg base (k + 1) "_law_size" ps__law_size (spSize K l) f fd := by
  refine ⟨F.F.ok sc__law_size (fun vs H Q E h => ?_) (fun cdv A outer s H vs Q E hr h => ?_), F.m, F.F.kp, F.b⟩
  · obtain ⟨_, _, _, rfl, _⟩ := h
    rfl
  obtain ⟨s, lo, hi, rfl, hS, h1, h2, z⟩ := h
  refine ⟨_, (pss_cons (ps_set (i := 3) sc__law_size.nd rfl (Or.inl rfl) (pcall d_law_take hr (pa_cons (pv 0) (pa_cons pe_int pa_nil))))
      (pss_cons (ps_if (pt_cmpR op_eq (pv 3) pe_int (nomark _))
        (pss_one (ps_ret (pv 1)))
        pss_nil)
      (pss_cons (ps_if (pt_cmpR op_eq (pv 3) pe_int (nomark _))
        (pss_one (ps_ret (pv 2)))
        pss_nil)
      (pss_one (ps_ret (pe_op op_add (pv 1) (pcall d_law_take hr (pa_cons (pv 0) (pa_cons (pe_op op_add (pe_op op_sub (pv 2) (pv 1)) pe_int) pa_nil))))))))), ?_⟩
  have p32 : (2 : Int) ^ 32 = 4294967296 := by decide
  have p64 : (2 : Int) ^ 64 = 18446744073709551616 := by decide
  refine ⟨_, rfl, s, 6, rfl, hS, by decide, fun r H1 r0 r1 S1 e1 => ?_⟩
  refine ⟨_, rfl, rfl, _, rfl, ifD (fun _ => ⟨_, rfl, z _ _ (by omega) h1 S1 e1⟩) (fun _ => ?_)⟩
  refine ⟨_, rfl, rfl, _, rfl, ifD (fun _ => ⟨_, rfl, z _ _ h1 (by omega) S1 e1⟩) (fun _ => ?_)⟩
  refine ⟨_, rfl, _, rfl, _, rfl, _, rfl, _, _, rfl, rfl, _, _, rfl, rfl, s, _, rfl, S1, by omega, fun r' H2 r2 r3 S2 e2 => ⟨_, _, rfl, rfl, ?_⟩⟩
  exact z _ _ (by omega) (by omega) S2 (e1.trans e2)
theorem ok_same (T : Bn mg) (F : Fn K mg "_law_same" s__law_same ps__law_same f fd) (d_law_is_int : Def P w K mg base k "_law_is_int" ["_law_value"] (spIsInt K) f1 fd1) : ∀ n, Def P w K mg base (k + n + 1) "_law_same" ps__law_same (spSame K n) f fd
  | 0 => ok_same1 T 0 F (d_law_is_int.up (Nat.le_refl _)) ⟨⟨fun vs H Q E h => by obtain ⟨m, h, _⟩ := h; omega, fun A outer s H args us vs Q E _ _ _ _ h => by obtain ⟨m, h, _⟩ := h; omega⟩, F.m, F.F.kp, F.b⟩
  | n + 1 => by
    have ih := ok_same T F d_law_is_int n
    exact ok_same1 T (n + 1) F (d_law_is_int.up (by omega)) ⟨ih.ok.imp fun vs H Q E h => by
      obtain ⟨m, h, q⟩ := h
      have e : m = n := by omega
      subst e
      exact q, F.m, F.F.kp, F.b⟩
end Vk
namespace Vk
open PySem L2 Vm
variable {l : Addr} {P : Program} {w : World} {K : PySem.W.Frag} {mg : Str → Option Value} {base : Heap} {k : Nat} {f f1 f2 f3 f4 f5 f6 f7 f8 f9 : Addr} {fd fd1 fd2 fd3 fd4 fd5 fd6 fd7 fd8 fd9 : FuncData}
/-! ### drawn rationals -/
def Qd (K : PySem.W.Frag) (m : Nat) (ok : Rat → Prop) (H : Hp) (v : V) : Prop := ∃ q, Rq K H v q ∧ Sz m q ∧ ok q
theorem Qd.same {m : Nat} {ok : Rat → Prop} {H H' : Hp} {v : V} (e : Same H H') (h : Qd K m ok H v) : Qd K m ok H' v := by
  obtain ⟨q, h, r⟩ := h
  exact ⟨q, h.same e, r⟩
theorem Qd.fr {m : Nat} {ok : Rat → Prop} {s : Addr} {H H' : Hp} {v : V} (e : Fr s H H') (hs : Sto l s H) (h : Qd K m ok H v) : Qd K m ok H' v := by
  obtain ⟨q, h, r⟩ := h
  exact ⟨q, h.fr e hs.some, r⟩
theorem Qd.new {m : Nat} {ok : Rat → Prop} {H : Hp} {t : Addr} (n d : Int) (q : Rat) (en : q.num = n) (ed : (q.den : Int) = d) (z : Sz m q) (o : ok q) : Qd K m ok (upd H t (.tup [.int n, .int d])) (.ref t) :=
  ⟨q, ⟨t, rfl, SqT.of (by rw [upd_same, en, ed])⟩, z, o⟩
theorem rq_new {H : Hp} {t : Addr} (n d : Int) (q : Rat) (en : q.num = n) (ed : (q.den : Int) = d) : Rq K (upd H t (.tup [.int n, .int d])) (.ref t) q := ⟨t, rfl, SqT.of (by rw [upd_same, en, ed])⟩
instance (k : Nat) (q : Rat) : Decidable (Sz k q) := inferInstanceAs (Decidable (_ ∧ _))
/-- a written pair: from then on a drawn rational -/
theorem newq {m : Nat} {ok : Rat → Prop} {H : Hp} {Q : V → Hp → Prop} (n d : Int) (q : Rat) (en : q.num = n) (ed : (q.den : Int) = d) (z : Sz m q) (o : ok q) (h : ∀ v H', Same H H' → Qd K m ok H' v → Q v H') : ∀ t, H t = none → Q (.ref t) (upd H t (.tup [.int n, .int d])) :=
  fun t ht => h _ _ (same_new ht _) (Qd.new n d q en ed z o)
def anyQ : Rat → Prop := fun _ => True
def posQ : Rat → Prop := fun q => 0 < q
instance (q : Rat) : Decidable (posQ q) := inferInstanceAs (Decidable (0 < q))
/-- a rational is drawn -/
def spDraw (K : PySem.W.Frag) (l : Addr) (m : Nat) (ok : Rat → Prop) : Sp := fun vs H Q _ => ∃ (s : Addr), vs = [.ref s] ∧ Sto l s H ∧ ∀ (v : V) H', Qd K m ok H' v → Sto l s H' → Fr s H H' → Q v H'
theorem mk_pos {n d : Int} (hn : 0 < n) (hd : 0 < d) : 0 < mkRat n d.toNat := by
  refine pos_of_num ?_
  have dn : d.toNat ≠ 0 := by omega
  rw [mk_num n dn]
  have g := Nat.gcd_le_left d.toNat (show 0 < n.natAbs by omega)
  have gp : 0 < Nat.gcd n.natAbs d.toNat := Nat.gcd_pos_of_pos_left _ (by omega)
  exact Int.ediv_pos_of_pos_of_dvd hn (by omega) (by
    have := Nat.gcd_dvd_left n.natAbs d.toNat
    have e : n = (n.natAbs : Int) := by omega
    rw [e]
    exact Int.natCast_dvd_natCast.mpr (by rw [Int.natAbs_natCast]; exact this))
theorem lt2 {i : Int} {b : Nat} (c : Nat) (h : i.natAbs < c) (e : c ≤ 2 ^ b) : i.natAbs < 2 ^ b := Nat.lt_of_lt_of_le h e
abbrev s__law_part : Stmt := top 44
abbrev N__law_part : List Str := ["_law_store_here", "_law_sort"]
theorem sc__law_part : FnScope N__law_part ["_law_store_here"] (defScope s__law_part) := ⟨rfl, rfl, rfl, by decide +kernel, rfl, by decide +kernel, by decide +kernel⟩
abbrev ps__law_part : List Str := ["_law_store_here"]
theorem ok_part (F : Fn K mg "_law_part" s__law_part ps__law_part f fd) (d_law_take : Def P w K mg base k "_law_take" ["_law_store_here", "_law_many"] (spTake K l) f1 fd1) (d_law_pick : Def P w K mg base k "_law_pick" ["_law_store_here", "_law_things"] (spPick K l) f2 fd2)
    (d_law_frac : Def P w K mg base k "_law_frac" ["_law_n", "_law_d"] (spFrac K) f3 fd3) : Def P w K mg base (k + 1) "_law_part" ps__law_part (spDraw K l 5 anyQ) f fd := by
  refine ⟨F.F.ok sc__law_part (fun vs H Q E h => ?_) (fun cdv A outer s H vs Q E hr h => ?_), F.m, F.F.kp, F.b⟩
  · obtain ⟨_, rfl, _⟩ := h
    rfl
  obtain ⟨s, rfl, hS, z⟩ := h
  refine ⟨_, (pss_cons (ps_set (i := 1) sc__law_part.nd rfl (Or.inl rfl) (pcall d_law_take hr (pa_cons (pv 0) (pa_cons pe_int pa_nil))))
      (pss_cons (ps_if (pt_cmpR op_lt (pv 1) pe_int (nomark _))
        (pss_one (ps_ret (pcall d_law_pick hr (pa_cons (pv 0) (pa_cons (pe_lst (pa_cons (pe_tup (pa_cons pe_int (pa_cons pe_int pa_nil))) (pa_cons (pe_tup (pa_cons pe_int (pa_cons pe_int pa_nil))) (pa_cons (pe_tup (pa_cons pe_int (pa_cons pe_int pa_nil))) (pa_cons (pe_tup (pa_cons (pe_un un_neg pe_int) (pa_cons pe_int pa_nil))) (pa_cons (pe_tup (pa_cons pe_int (pa_cons pe_int pa_nil))) (pa_cons (pe_tup (pa_cons (pe_un un_neg pe_int) (pa_cons pe_int pa_nil))) pa_nil))))))) pa_nil)))))
        pss_nil)
      (pss_one (ps_ret (pcall d_law_frac hr (pa_cons (pe_op op_sub (pcall d_law_take hr (pa_cons (pv 0) (pa_cons pe_int pa_nil))) pe_int) (pa_cons (pe_op op_add pe_int (pcall d_law_take hr (pa_cons (pv 0) (pa_cons pe_int pa_nil)))) pa_nil))))))), ?_⟩
  refine ⟨_, rfl, s, 6, rfl, hS, by decide, fun r H1 r0 r1 S1 e1 => ?_⟩
  refine ⟨_, rfl, _, _, rfl, rfl, _, rfl, ifD (fun _ => ?_) (fun _ => ?_)⟩
  · refine ⟨_, rfl, sz2, fun t1 h1 => ?_⟩
    have c1 := same_new h1 (.tup [.int 0, .int 1]); have q1 := Qd.new (K := K) (m := 5) (ok := anyQ) (H := H1) (t := t1) 0 1 (0) (by decide) (by decide) (by decide) trivial; generalize upd H1 t1 (.tup [.int 0, .int 1]) = G1 at c1 q1 ⊢
    refine ⟨sz2, fun t2 h2 => ?_⟩
    have c2 := same_new h2 (.tup [.int 0, .int 1]); have q2 := Qd.new (K := K) (m := 5) (ok := anyQ) (H := G1) (t := t2) 0 1 (0) (by decide) (by decide) (by decide) trivial; generalize upd G1 t2 (.tup [.int 0, .int 1]) = G2 at c2 q2 ⊢
    refine ⟨sz2, fun t3 h3 => ?_⟩
    have c3 := same_new h3 (.tup [.int 1, .int 1]); have q3 := Qd.new (K := K) (m := 5) (ok := anyQ) (H := G2) (t := t3) 1 1 (1) (by decide) (by decide) (by decide) trivial; generalize upd G2 t3 (.tup [.int 1, .int 1]) = G3 at c3 q3 ⊢
    refine ⟨_, rfl, sz2, fun t4 h4 => ?_⟩
    have c4 := same_new h4 (.tup [.int (-1), .int 1]); have q4 := Qd.new (K := K) (m := 5) (ok := anyQ) (H := G3) (t := t4) (-1) 1 (-1) (by decide) (by decide) (by decide) trivial; generalize upd G3 t4 (.tup [.int (-1), .int 1]) = G4 at c4 q4 ⊢
    refine ⟨sz2, fun t5 h5 => ?_⟩
    have c5 := same_new h5 (.tup [.int 1, .int 2]); have q5 := Qd.new (K := K) (m := 5) (ok := anyQ) (H := G4) (t := t5) 1 2 (mkRat 1 2) (by decide) (by decide) (by decide) trivial; generalize upd G4 t5 (.tup [.int 1, .int 2]) = G5 at c5 q5 ⊢
    refine ⟨_, rfl, sz2, fun t6 h6 => ?_⟩
    have c6 := same_new h6 (.tup [.int (-1), .int 2]); have q6 := Qd.new (K := K) (m := 5) (ok := anyQ) (H := G5) (t := t6) (-1) 2 (mkRat (-1) 2) (by decide) (by decide) (by decide) trivial; generalize upd G5 t6 (.tup [.int (-1), .int 2]) = G6 at c6 q6 ⊢
    refine ⟨sm6, fun p h7 => ?_⟩
    have c7 := same_new h7 (.lst [.ref t1, .ref t2, .ref t3, .ref t4, .ref t5, .ref t6])
    have d6 := c6.trans c7; have d5 := c5.trans d6; have d4 := c4.trans d5; have d3 := c3.trans d4; have d2 := c2.trans d3; have d1 := c1.trans d2
    have S7 := S1.same d1
    have q1 := q1.same d2; have q2 := q2.same d3; have q3 := q3.same d4; have q4 := q4.same d5; have q5 := q5.same d6; have q6 := q6.same c7
    refine ⟨s, p, _, rfl, S7, (S1.same (c1.trans (c2.trans (c3.trans (c4.trans (c5.trans c6)))))).ne h7, SqL.of upd_same, (by show 0 < 6; decide), (by show 6 < 2 ^ 32; decide), fun v H' hv S' e' => z _ _ ?_ S' (e1.trans ((Fr.of d1).trans e'))⟩
    refine Qd.fr e' S7 ?_
    simp only [List.mem_cons, List.mem_nil_iff, or_false] at hv
    rcases hv with rfl | rfl | rfl | rfl | rfl | rfl <;> assumption
  · refine ⟨_, rfl, s, 49, rfl, S1, by decide, fun r2 H2 r3 r4 S2 e2 => ⟨_, _, rfl, rfl, ?_⟩⟩
    refine ⟨_, rfl, s, 6, rfl, S2, by decide, fun r5 H3 r6 r7 S3 e3 => ⟨_, _, rfl, rfl, ?_⟩⟩
    refine ⟨_, _, 5, rfl, by omega, lt2 25 (by omega) (by decide), lt2 7 (by omega) (by decide), by decide, fun v H' e hv => z _ _ ⟨_, hv, sz_mk (by omega) ?_ ?_, trivial⟩ (S3.same e) (e1.trans (e2.trans (e3.trans (Fr.of e))))⟩
    · exact lt2 25 (by omega) (by decide)
    · have : (2 : Nat) ^ 5 = 32 := by decide
      omega
abbrev s__law_above : Stmt := top 45
abbrev N__law_above : List Str := ["_law_store_here"]
theorem sc__law_above : FnScope N__law_above ["_law_store_here"] (defScope s__law_above) := ⟨rfl, rfl, rfl, by decide +kernel, rfl, by decide +kernel, by decide +kernel⟩
abbrev ps__law_above : List Str := ["_law_store_here"]
theorem ok_above (F : Fn K mg "_law_above" s__law_above ps__law_above f fd) (d_law_take : Def P w K mg base k "_law_take" ["_law_store_here", "_law_many"] (spTake K l) f1 fd1) (d_law_frac : Def P w K mg base k "_law_frac" ["_law_n", "_law_d"] (spFrac K) f3 fd3) : Def P w K mg base (k + 1) "_law_above" ps__law_above (spDraw K l 5 posQ) f fd := by
  refine ⟨F.F.ok sc__law_above (fun vs H Q E h => ?_) (fun cdv A outer s H vs Q E hr h => ?_), F.m, F.F.kp, F.b⟩
  · obtain ⟨_, rfl, _⟩ := h
    rfl
  obtain ⟨s, rfl, hS, z⟩ := h
  refine ⟨_, (pss_cons (ps_if (pt_cmpR op_eq (pcall d_law_take hr (pa_cons (pv 0) (pa_cons pe_int pa_nil))) pe_int (nomark _))
        (pss_one (ps_ret (pe_tup (pa_cons pe_int (pa_cons pe_int pa_nil)))))
        pss_nil)
      (pss_one (ps_ret (pcall d_law_frac hr (pa_cons (pe_op op_add pe_int (pcall d_law_take hr (pa_cons (pv 0) (pa_cons pe_int pa_nil)))) (pa_cons (pe_op op_add pe_int (pcall d_law_take hr (pa_cons (pv 0) (pa_cons pe_int pa_nil)))) pa_nil)))))), ?_⟩
  refine ⟨_, rfl, s, 4, rfl, hS, by decide, fun r H1 r0 r1 S1 e1 => ?_⟩
  refine ⟨rfl, _, rfl, ifD (fun _ => ?_) (fun _ => ?_)⟩
  · exact ⟨sz2, fun t ht => z _ _ (Qd.new 1 1 1 rfl rfl (by decide) (by decide)) (S1.same (same_new ht _)) (e1.trans (Fr.of (same_new ht _)))⟩
  refine ⟨_, rfl, s, 24, rfl, S1, by decide, fun r2 H2 r3 r4 S2 e2 => ⟨_, _, rfl, rfl, ?_⟩⟩
  refine ⟨_, rfl, s, 6, rfl, S2, by decide, fun r5 H3 r6 r7 S3 e3 => ⟨_, _, rfl, rfl, ?_⟩⟩
  refine ⟨_, _, 5, rfl, by omega, lt2 25 (by omega) (by decide), lt2 7 (by omega) (by decide), by decide, fun v H' e hv => z _ _ ⟨_, hv, sz_mk (by omega) ?_ ?_, mk_pos (by omega) (by omega)⟩ (S3.same e) (e1.trans (e2.trans (e3.trans (Fr.of e))))⟩
  · exact lt2 25 (by omega) (by decide)
  · have : (2 : Nat) ^ 5 = 32 := by decide
    omega
abbrev s__law_pace : Stmt := top 48
abbrev N__law_pace : List Str := ["_law_store_here"]
theorem sc__law_pace : FnScope N__law_pace ["_law_store_here"] (defScope s__law_pace) := ⟨rfl, rfl, rfl, by decide +kernel, rfl, by decide +kernel, by decide +kernel⟩
abbrev ps__law_pace : List Str := ["_law_store_here"]
theorem ok_pace (F : Fn K mg "_law_pace" s__law_pace ps__law_pace f fd) (d_law_take : Def P w K mg base k "_law_take" ["_law_store_here", "_law_many"] (spTake K l) f1 fd1) (d_law_pick : Def P w K mg base k "_law_pick" ["_law_store_here", "_law_things"] (spPick K l) f2 fd2) (d_law_frac : Def P w K mg base k "_law_frac" ["_law_n", "_law_d"] (spFrac K) f3 fd3) : Def P w K mg base (k + 1) "_law_pace" ps__law_pace (spDraw K l 5 posQ) f fd := by
  refine ⟨F.F.ok sc__law_pace (fun vs H Q E h => ?_) (fun cdv A outer s H vs Q E hr h => ?_), F.m, F.F.kp, F.b⟩
  · obtain ⟨_, rfl, _⟩ := h
    rfl
  obtain ⟨s, rfl, hS, z⟩ := h
  refine ⟨_, (pss_cons (ps_if (pt_cmpR op_eq (pcall d_law_take hr (pa_cons (pv 0) (pa_cons pe_int pa_nil))) pe_int (nomark _))
        (pss_one (ps_ret (pcall d_law_pick hr (pa_cons (pv 0) (pa_cons (pe_lst (pa_cons (pe_tup (pa_cons pe_int (pa_cons pe_int pa_nil))) (pa_cons (pe_tup (pa_cons pe_int (pa_cons pe_int pa_nil))) (pa_cons (pe_tup (pa_cons pe_int (pa_cons pe_int pa_nil))) (pa_cons (pe_tup (pa_cons pe_int (pa_cons pe_int pa_nil))) (pa_cons (pe_tup (pa_cons pe_int (pa_cons pe_int pa_nil))) (pa_cons (pe_tup (pa_cons pe_int (pa_cons pe_int pa_nil))) pa_nil))))))) pa_nil)))))
        pss_nil)
      (pss_one (ps_ret (pcall d_law_frac hr (pa_cons (pe_op op_add pe_int (pcall d_law_take hr (pa_cons (pv 0) (pa_cons pe_int pa_nil)))) (pa_cons (pe_op op_add pe_int (pcall d_law_take hr (pa_cons (pv 0) (pa_cons pe_int pa_nil)))) pa_nil)))))), ?_⟩
  refine ⟨_, rfl, s, 2, rfl, hS, by decide, fun r H1 r0 r1 S1 e1 => ?_⟩
  refine ⟨rfl, _, rfl, ifD (fun _ => ?_) (fun _ => ?_)⟩
  · refine ⟨_, rfl, sz2, fun t1 h1 => ?_⟩
    have c1 := same_new h1 (.tup [.int 1, .int 1]); have q1 := Qd.new (K := K) (m := 5) (ok := posQ) (H := H1) (t := t1) 1 1 (1) (by decide) (by decide) (by decide) (by decide); generalize upd H1 t1 (.tup [.int 1, .int 1]) = G1 at c1 q1 ⊢
    refine ⟨sz2, fun t2 h2 => ?_⟩
    have c2 := same_new h2 (.tup [.int 1, .int 1]); have q2 := Qd.new (K := K) (m := 5) (ok := posQ) (H := G1) (t := t2) 1 1 (1) (by decide) (by decide) (by decide) (by decide); generalize upd G1 t2 (.tup [.int 1, .int 1]) = G2 at c2 q2 ⊢
    refine ⟨sz2, fun t3 h3 => ?_⟩
    have c3 := same_new h3 (.tup [.int 1, .int 2]); have q3 := Qd.new (K := K) (m := 5) (ok := posQ) (H := G2) (t := t3) 1 2 (mkRat 1 2) (by decide) (by decide) (by decide) (by decide); generalize upd G2 t3 (.tup [.int 1, .int 2]) = G3 at c3 q3 ⊢
    refine ⟨sz2, fun t4 h4 => ?_⟩
    have c4 := same_new h4 (.tup [.int 2, .int 1]); have q4 := Qd.new (K := K) (m := 5) (ok := posQ) (H := G3) (t := t4) 2 1 (2) (by decide) (by decide) (by decide) (by decide); generalize upd G3 t4 (.tup [.int 2, .int 1]) = G4 at c4 q4 ⊢
    refine ⟨sz2, fun t5 h5 => ?_⟩
    have c5 := same_new h5 (.tup [.int 9, .int 10]); have q5 := Qd.new (K := K) (m := 5) (ok := posQ) (H := G4) (t := t5) 9 10 (mkRat 9 10) (by decide) (by decide) (by decide) (by decide); generalize upd G4 t5 (.tup [.int 9, .int 10]) = G5 at c5 q5 ⊢
    refine ⟨sz2, fun t6 h6 => ?_⟩
    have c6 := same_new h6 (.tup [.int 11, .int 10]); have q6 := Qd.new (K := K) (m := 5) (ok := posQ) (H := G5) (t := t6) 11 10 (mkRat 11 10) (by decide) (by decide) (by decide) (by decide); generalize upd G5 t6 (.tup [.int 11, .int 10]) = G6 at c6 q6 ⊢
    refine ⟨sm6, fun p hp => ?_⟩
    have cp := same_new hp (.lst [.ref t1, .ref t2, .ref t3, .ref t4, .ref t5, .ref t6])
    have d6 := c6.trans cp
    have d5 := c5.trans d6
    have d4 := c4.trans d5
    have d3 := c3.trans d4
    have d2 := c2.trans d3
    have d1 := c1.trans d2
    have Sp := S1.same d1
    have np := (S1.same (c1.trans (c2.trans (c3.trans (c4.trans (c5.trans c6)))))).ne hp
    have q1 := q1.same d2
    have q2 := q2.same d3
    have q3 := q3.same d4
    have q4 := q4.same d5
    have q5 := q5.same d6
    have q6 := q6.same cp
    refine ⟨s, p, _, rfl, Sp, np, SqL.of upd_same, (by show 0 < 6; decide), (by show 6 < 2 ^ 32; decide), fun v H' hv S' e' => ?_⟩
    have qv : Qd K 5 posQ H' v := by
      refine Qd.fr e' Sp ?_
      simp only [List.mem_cons, List.mem_nil_iff, or_false] at hv
      rcases hv with rfl | rfl | rfl | rfl | rfl | rfl <;> assumption
    exact z _ _ qv S' (e1.trans ((Fr.of d1).trans e'))
  refine ⟨_, rfl, s, 30, rfl, S1, by decide, fun r2 H2 r3 r4 S2 e2 => ⟨_, _, rfl, rfl, ?_⟩⟩
  refine ⟨_, rfl, s, 12, rfl, S2, by decide, fun r5 H3 r6 r7 S3 e3 => ⟨_, _, rfl, rfl, ?_⟩⟩
  refine ⟨_, _, 5, rfl, by omega, lt2 31 (by omega) (by decide), lt2 13 (by omega) (by decide), by decide, fun v H' e hv => z _ _ ⟨_, hv, sz_mk (by omega) ?_ ?_, mk_pos (by omega) (by omega)⟩ (S3.same e) (e1.trans (e2.trans (e3.trans (Fr.of e))))⟩
  · exact lt2 31 (by omega) (by decide)
  · have : (2 : Nat) ^ 5 = 32 := by decide
    omega
/-- one rational in, one near it out -/
def spNear (K : PySem.W.Frag) (l : Addr) : Sp := fun vs H Q _ => ∃ (s : Addr) (x : V) (m : Nat), vs = [.ref s, x] ∧ Sto l s H ∧ m + 11 ≤ 9000 ∧ Qd K m anyQ H x ∧ ∀ (v : V) H', Qd K (m + 11) anyQ H' v → Sto l s H' → Fr s H H' → Q v H'
end Vk
namespace Vk
open PySem L2 Vm
variable {P : Program} {w : World} {K : PySem.W.Frag} {mg : Str → Option Value} {base : Heap} {k : Nat} {f f1 f2 f3 f4 f5 f6 f7 f8 f9 : Addr} {fd fd1 fd2 fd3 fd4 fd5 fd6 fd7 fd8 fd9 : FuncData}
/-! ### courses -/
structure Pc where
  s : Rat
  v : Rat
  r : Rat
def Pq (K : PySem.W.Frag) (H : Hp) (x : V) (p : Pc) : Prop := ∃ a xs xv xr, x = .ref a ∧ SqT K H a [xs, xv, xr] ∧ Rq K H xs p.s ∧ Rq K H xv p.v ∧ Rq K H xr p.r
theorem Pq.same {H H' : Hp} {x : V} {p : Pc} (e : Same H H') (h : Pq K H x p) : Pq K H' x p := by
  obtain ⟨a, xs, xv, xr, rfl, h, h1, h2, h3⟩ := h
  exact ⟨a, xs, xv, xr, rfl, e.sqt h, h1.same e, h2.same e, h3.same e⟩
theorem Pq.fr {s : Addr} {H H' : Hp} {x : V} {p : Pc} (e : Fr s H H') (hs : ∃ ys, H s = some (.lst ys)) (h : Pq K H x p) : Pq K H' x p := by
  obtain ⟨a, xs, xv, xr, rfl, h, h1, h2, h3⟩ := h
  exact ⟨a, xs, xv, xr, rfl, sqt_fr e hs h, h1.fr e hs, h2.fr e hs, h3.fr e hs⟩
def All2 {α : Type} (R : V → α → Prop) (xs : List V) (c : List α) : Prop := xs.length = c.length ∧ ∀ (i : Nat) x p, xs[i]? = some x → c[i]? = some p → R x p
theorem All2.nil {α : Type} {R : V → α → Prop} : All2 R [] [] := ⟨rfl, fun i x p h => by simp at h⟩
theorem All2.imp {α : Type} {R R' : V → α → Prop} {xs : List V} {c : List α} (h : All2 R xs c) (g : ∀ x p, R x p → R' x p) : All2 R' xs c := ⟨h.1, fun i x p a b => g _ _ (h.2 i x p a b)⟩
theorem All2.snoc {α : Type} {R : V → α → Prop} {xs : List V} {c : List α} {x : V} {p : α} (h : All2 R xs c) (r : R x p) : All2 R (xs ++ [x]) (c ++ [p]) := by
  refine ⟨by simp [h.1], fun i y q a b => ?_⟩
  by_cases hi : i < xs.length
  · rw [List.getElem?_append_left hi] at a
    rw [List.getElem?_append_left (by rw [← h.1]; exact hi)] at b
    exact h.2 i y q a b
  · rw [List.getElem?_append_right (by omega)] at a
    rw [List.getElem?_append_right (by rw [← h.1]; omega)] at b
    have e : i - xs.length = 0 := by
      have := (List.getElem?_eq_some_iff.mp a).1
      simp at this
      omega
    rw [e] at a
    rw [← h.1, e] at b
    cases a
    cases b
    exact r
theorem All2.at {α : Type} {R : V → α → Prop} {xs : List V} {c : List α} (h : All2 R xs c) {i : Nat} {p : α} (e : c[i]? = some p) : ∃ x, xs[i]? = some x ∧ R x p := by
  have hi := (List.getElem?_eq_some_iff.mp e).1
  rw [← h.1] at hi
  exact ⟨xs[i], List.getElem?_eq_getElem hi, h.2 i _ _ (List.getElem?_eq_getElem hi) e⟩
/-- a list at a holds the course c -/
def Cq (K : PySem.W.Frag) (H : Hp) (a : Addr) (c : List Pc) : Prop := ∃ xs, SqL K H a xs ∧ All2 (Pq K H) xs c
theorem Cq.same {H H' : Hp} {a : Addr} {c : List Pc} (e : Same H H') (h : Cq K H a c) : Cq K H' a c := by
  obtain ⟨xs, h, g⟩ := h
  exact ⟨xs, e.seq h, g.imp fun _ _ h => h.same e⟩
theorem Cq.fr {s : Addr} {H H' : Hp} {a : Addr} {c : List Pc} (e : Fr s H H') (hs : ∃ ys, H s = some (.lst ys)) (n : a ≠ s) (h : Cq K H a c) : Cq K H' a c := by
  obtain ⟨xs, h, g⟩ := h
  exact ⟨xs, seq_fr e n h, g.imp fun _ _ h => h.fr e hs⟩
/-- sizes: starts, values, rates -/
def Cz (i j l : Nat) (c : List Pc) : Prop := ∀ p ∈ c, Sz i p.s ∧ Sz j p.v ∧ Sz l p.r
/-- a course's form -/
def Cok (c : List Pc) : Prop := (∀ p ∈ c, 0 < p.r) ∧ ∀ (i : Nat) p q, c[i]? = some p → c[i + 1]? = some q → p.s < q.s
def tm (p : Pc) (y : Rat) : Rat := p.s + (y - p.v) / p.r
def before (c : List Pc) (k : Nat) (t : Rat) : Bool := match c[k]? with
  | none => true
  | some q => decide (t < q.s)
def hit (c : List Pc) (y : Rat) (k : Nat) : Option Rat := match c[k]? with
  | none => none
  | some p => if p.s ≤ tm p y ∧ before c (k + 1) (tm p y) = true then some (tm p y) else none
def hits (c : List Pc) (y : Rat) (n : Nat) : List Rat := (List.range n).filterMap (hit c y)
theorem hits_succ (c : List Pc) (y : Rat) (n : Nat) : hits c y (n + 1) = hits c y n ++ (hit c y n).toList := by
  unfold hits
  rw [List.range_succ, List.filterMap_append]
  cases h : hit c y n <;> simp [h]
abbrev s__law_is_frac : Stmt := top 42
abbrev N__law_is_frac : List Str := ["_law_value"]
theorem sc__law_is_frac : FnScope N__law_is_frac ["_law_value"] (defScope s__law_is_frac) := ⟨rfl, rfl, rfl, by decide +kernel, rfl, by decide +kernel, by decide +kernel⟩
abbrev ps__law_is_frac : List Str := ["_law_value"]
def spIsFrac (K : PySem.W.Frag) : Sp := fun vs H Q _ => ∃ (x : V) (q : Rat) (m : Nat), vs = [x] ∧ Rq K H x q ∧ Sz m q ∧ m ≤ 9000 ∧ ∀ H', Same H H' → Q (.bl true) H'
theorem ok_is_frac (T : Bn mg) (F : Fn K mg "_law_is_frac" s__law_is_frac ps__law_is_frac f fd) (d_law_is_int : Def P w K mg base k "_law_is_int" ["_law_value"] (spIsInt K) f1 fd1) (d_law_frac : Def P w K mg base k "_law_frac" ["_law_n", "_law_d"] (spFrac K) f2 fd2) :
    Def P w K mg base (k + 1) "_law_is_frac" ps__law_is_frac (spIsFrac K) f fd := by
  refine ⟨F.F.ok sc__law_is_frac (fun vs H Q E h => ?_) (fun cdv A outer s H vs Q E hr h => ?_), F.m, F.F.kp, F.b⟩
  · obtain ⟨x, q, m, rfl, _⟩ := h
    rfl
  obtain ⟨x, q, m, rfl, hx, zq, hm, z⟩ := h
  obtain ⟨a, rfl, ha⟩ := id hx
  refine ⟨_, (pss_cons (ps_if (PW.pt (pw_or (pt_not (pt_val (pe_callB call_isi (by rfl) T.isinstance_ (by decide +kernel) (pa_cons (pv 0) (pa_cons (pe_bltn (v := .ty "tuple") (by rfl) T.tuple_ (by decide +kernel) rfl) pa_nil))))) (pw_or1 (pt_cmpR op_ne (pe_callB call_len_seq (by rfl) T.len_ PySem.boot_len (pa_cons (pv 0) pa_nil)) pe_int (nomark _)))))
        (pss_one (ps_ret pe_bl))
        pss_nil)
      (pss_cons (ps_if (PW.pt (pw_or (pt_not (pt_val (pcall d_law_is_int hr (pa_cons (pe_ix ix_tup (pv 0) pe_int (fun _ _ => rfl)) pa_nil)))) (pw_or (pt_not (pt_val (pcall d_law_is_int hr (pa_cons (pe_ix ix_tup (pv 0) pe_int (fun _ _ => rfl)) pa_nil)))) (pw_or1 (pt_cmpR op_lt (pe_ix ix_tup (pv 0) pe_int (fun _ _ => rfl)) pe_int (nomark _))))))
        (pss_one (ps_ret pe_bl))
        pss_nil)
      (pss_one (ps_ret (pe_cmpR (op_eqD hr.units) (pcall d_law_frac hr (pa_cons (pe_ix ix_tup (pv 0) pe_int (fun _ _ => rfl)) (pa_cons (pe_ix ix_tup (pv 0) pe_int (fun _ _ => rfl)) pa_nil))) (pv 0) (nomark _)))))), ?_⟩
  have ta := sqt_ty ha
  have dp := q.den_pos
  refine ⟨_, rfl, _, _, _, _, true, rfl, .ty _, ta, kit_ty (by decide +kernel), _, rfl, ifF rfl ⟨_, rfl, a, _, rfl, .inr ha, rfl, _, rfl, ifF rfl ?_⟩⟩
  refine ⟨_, rfl, a, _, _, _, rfl, rfl, ha, at0 rfl, _, rfl, _, rfl, ifF rfl ⟨_, rfl, a, _, _, _, rfl, rfl, ha, at1 rfl, _, rfl, _, rfl, ifF rfl ⟨_, rfl, a, _, _, _, rfl, rfl, ha, at1 rfl, _, _, rfl, rfl, _, rfl, ifF (dF (by omega)) ?_⟩⟩⟩
  refine ⟨_, rfl, a, _, _, _, rfl, rfl, ha, at0 rfl, _, rfl, a, _, _, _, rfl, rfl, ha, at1 rfl, _, _, m, rfl, by omega, zq.1, dA zq, hm, fun r H' e hr => ?_⟩
  have er : mkRat q.num ((q.den : Int)).toNat = q := Rat.mkRat_self q
  rw [er] at hr
  refine ⟨_, rfl, _, _, hr.dp, (hx.same e).dp, sh_dq _, sh_dq _, ?_⟩
  rw [eqv_dq, dT rfl]
  exact z _ e
def spTimeOf (K : PySem.W.Frag) : Sp := fun vs H Q _ => ∃ (x y : V) (p : Pc) (q : Rat) (i j l m : Nat), vs = [x, y] ∧ Pq K H x p ∧ Rq K H y q ∧ Sz i p.s ∧ Sz j p.v ∧ Sz l p.r ∧ Sz m q ∧ 0 < p.r ∧ m + j + l + i + 3 ≤ 9000 ∧
  ∀ r H', Same H H' → Rq K H' r (tm p q) → Q r H'
def endV (K : PySem.W.Frag) (H : Hp) (c : List Pc) (n : Nat) (v : V) : Prop := match c[n]? with
  | none => v = .non
  | some p => Rq K H v p.s
def spEndOf (K : PySem.W.Frag) : Sp := fun vs H Q _ => ∃ (a : Addr) (n : Nat) (c : List Pc), vs = [.ref a, .int n] ∧ Cq K H a c ∧ ∀ v, endV K H c (n + 1) v → Q v H
end Vk
namespace Vk
open PySem L2 Vm
variable {P : Program} {w : World} {K : PySem.W.Frag} {mg : Str → Option Value} {base : Heap} {k : Nat} {f f1 f2 f3 f4 f5 f6 f7 f8 f9 : Addr} {fd fd1 fd2 fd3 fd4 fd5 fd6 fd7 fd8 fd9 : FuncData}
theorem for_enum {K : PySem.W.Frag} {a : Addr} {xs : List V} {g : TG} {tb : TS} {D : Ends} {σ : L2.St} {H : Hp} (Pv : Nat → L2.St → Hp → Prop) (h0 : Pv 0 σ H) (hq : ∀ i σ H, Pv i σ H → SqL K H a xs)
    (hs : ∀ (i : Nat) (x : V) (T : Addr) (σ : L2.St) (H : Hp), xs[i]? = some x → Pv i σ H → H T = none → g (.ref T) σ (upd H T (.tup [.int (i : Nat), x])) fun σ2 H2 => tb { D with nx := Pv (i + 1), ct := Pv (i + 1), bk := D.nx } σ2 H2) (hd : ∀ σ H, Pv xs.length σ H → D.nx σ H) :
    ∃ W : Nat → Nat → L2.St → Hp → Prop, (∃ m, W 0 m σ H) ∧ ∀ i m σ H, W i m σ H →
      ((Ite K a).stop i H ∧ D.nx σ H) ∨ ((Ite K a).go i H ∧ ∃ N : L2.St → Hp → Prop, (∀ σ' H', N σ' H' → ∃ m', m' < m ∧ W (i + 1) m' σ' H') ∧ ∀ v H', (Ite K a).yld i H v H' → g v σ H' fun σ2 H2 => tb { D with nx := N, ct := N, bk := D.nx } σ2 H2) := by
  refine ⟨fun i m σ H => m = xs.length - i ∧ i ≤ xs.length ∧ Pv i σ H, ⟨xs.length, rfl, Nat.zero_le _, h0⟩, ?_⟩
  rintro i m σ H ⟨rfl, hi, p⟩
  have qx := hq i σ H p
  by_cases hlt : i < xs.length
  · have hx : xs[i]? = some xs[i] := List.getElem?_eq_getElem hlt
    refine .inr ⟨⟨xs, _, qx, hx⟩, Pv (i + 1), fun σ' H' p' => ⟨xs.length - (i + 1), by omega, rfl, hlt, p'⟩, fun v H' y => ?_⟩
    obtain ⟨T, x', rfl, hT, rfl, f1⟩ := y
    exact hs i x' T σ H (f1 xs qx) p hT
  · have e : i = xs.length := by omega
    subst e
    exact .inl ⟨⟨xs, qx, Nat.le_refl _⟩, hd σ H p⟩
theorem sg_ge {p q : Rat} : 0 ≤ sg p q ↔ q ≤ p := by
  unfold sg
  split
  · rename_i h
    subst h
    simp [Rat.le_refl]
  · split
    · rename_i h1 h2
      constructor
      · intro h; omega
      · intro h; exact absurd (Rat.not_lt.mpr h) (fun g => g h2)
    · rename_i h1 h2
      constructor
      · intro _; exact Rat.not_lt.mp h2
      · intro _; omega
theorem sg_lt {p q : Rat} : sg p q < 0 ↔ p < q := by
  unfold sg
  split
  · rename_i h
    subst h
    constructor
    · intro h; omega
    · intro h; exact absurd h Rat.lt_irrefl
  · split
    · rename_i h1 h2
      exact ⟨fun _ => h2, fun _ => by omega⟩
    · rename_i h1 h2
      exact ⟨fun h => by omega, fun h => absurd h h2⟩
theorem same_upd {H H' : Hp} {D : Addr} (e : Same H H') (h : H D = none) (o : HO) : Same H (upd H' D o) := fun b u q => by rw [upd_ne (ne_of_none q h)]; exact e b u q
theorem hits_len (c : List Pc) (y : Rat) (n : Nat) : (hits c y n).length ≤ n := by
  have := List.length_filterMap_le (hit c y) (List.range n)
  rw [List.length_range] at this
  exact this
theorem le1000 {n : Nat} (h : n ≤ 1000) : n < sizeLine := Nat.lt_of_le_of_lt h (by decide)
def spTimes (K : PySem.W.Frag) : Sp := fun vs H Q _ => ∃ (a : Addr) (y : V) (c : List Pc) (q : Rat) (i j l m : Nat), vs = [.ref a, y] ∧ Cq K H a c ∧ Rq K H y q ∧ Cz i j l c ∧ Sz m q ∧ (∀ p ∈ c, 0 < p.r) ∧ c.length ≤ 1000 ∧ m + j + l + i + i + 4 ≤ 9000 ∧
  ∀ D us H', Same H H' → H D = none → H' D = some (.lst us) → All2 (Rq K H') us (hits c q c.length) → Q (.ref D) H'
end Vk
namespace Vk
open PySem L2 Vm
variable {P : Program} {w : World} {K : PySem.W.Frag} {mg : Str → Option Value} {base : Heap} {k : Nat} {f f1 f2 f3 f4 f5 f6 f7 f8 f9 : Addr} {fd fd1 fd2 fd3 fd4 fd5 fd6 fd7 fd8 fd9 : FuncData}
def optV (K : PySem.W.Frag) (H : Hp) (v : V) : Option Rat → Prop
  | none => v = .non
  | some q => Rq K H v q
def lim (c : List Pc) (n : Nat) : Option Rat := match c[n]? with
  | none => none
  | some p => match c[n + 1]? with
    | none => none
    | some q => some (p.v + p.r * (q.s - p.s))
def spLimit (K : PySem.W.Frag) : Sp := fun vs H Q _ => ∃ (a : Addr) (n : Nat) (c : List Pc) (i j l : Nat), vs = [.ref a, .int n] ∧ Cq K H a c ∧ n < c.length ∧ Cz i j l c ∧ i + i + l + j + 3 ≤ 9000 ∧ ∀ v H', Same H H' → optV K H' v (lim c n) → Q v H'
def on (t : Rat) (p : Pc) : Bool := !decide (t < p.s)
def nowf (c : List Pc) (t : Rat) : Option Rat := ((c.filter (on t)).getLast?).map fun p => p.v + p.r * (t - p.s)
theorem filter_more {α : Type} {c : List α} {i : Nat} {p : α} (g : α → Bool) (h : c[i]? = some p) : (c.take (i + 1)).filter g = (c.take i).filter g ++ (if g p = true then [p] else []) := by
  rw [List.take_add_one, h, List.filter_append]
  congr 1
  simp only [Option.toList]
  cases e : g p <;> simp [e]
abbrev s__law_now : Stmt := top 52
abbrev N__law_now : List Str := ["_law_course_here", "_law_t", "_law_row", "_law_piece"]
theorem sc__law_now : FnScope N__law_now ["_law_course_here", "_law_t"] (defScope s__law_now) := ⟨rfl, rfl, rfl, by decide +kernel, rfl, by decide +kernel, by decide +kernel⟩
abbrev ps__law_now : List Str := ["_law_course_here", "_law_t"]
def spNow (K : PySem.W.Frag) : Sp := fun vs H Q _ => ∃ (a : Addr) (y : V) (c : List Pc) (t : Rat) (i j l m : Nat), vs = [.ref a, y] ∧ Cq K H a c ∧ Rq K H y t ∧ Cz i j l c ∧ Sz m t ∧ c.length ≤ 1000 ∧ m + i + l + j + 3 ≤ 9000 ∧ ∀ v H', Same H H' → optV K H' v (nowf c t) → Q v H'
theorem ok_now (T : Bn mg) (F : Fn K mg "_law_now" s__law_now ps__law_now f fd) (d_law_below : Def P w K mg base k "_law_below" ["_law_a", "_law_b"] (spTest2 K fun p q => .bl (decide (p < q))) f4 fd4) (d_law_plus : Def P w K mg base k "_law_plus" ["_law_a", "_law_b"] (spOp2 K (· + ·)) f1 fd1) (d_law_times : Def P w K mg base k "_law_times" ["_law_a", "_law_b"] (spOp2 K (· * ·)) f2 fd2)
    (d_law_minus : Def P w K mg base k "_law_minus" ["_law_a", "_law_b"] (spOp2 K (· - ·)) f3 fd3) : Def P w K mg base (k + 1) "_law_now" ps__law_now (spNow K) f fd := by
  refine ⟨F.F.ok sc__law_now (fun vs H Q E h => ?_) (fun cdv A outer s H vs Q E hr h => ?_), F.m, F.F.kp, F.b⟩
  · obtain ⟨_, _, _, _, _, _, _, _, rfl, _⟩ := h
    rfl
  obtain ⟨a, y, c, t, i0, j0, l0, m0, rfl, hC, hy, zc, zt, hl, hb, z⟩ := h
  obtain ⟨xs, hx, hc⟩ := id hC
  refine ⟨_, (pss_cons (ps_setLc (i := 2) (own := [("_law_piece", 3)]) (g := gName 3) rfl sc__law_now.nd rfl rfl (sw_true rfl rfl rfl (by decide +kernel)) (pi_list (pv 0)) (blkOk_by (N := N__law_now) (sc := defScope s__law_now) (by decide +kernel)) (fun _ _ _ _ _ => pg_name (i := 3) sc__law_now.nd rfl (Or.inl rfl)) (fun _ _ _ _ _ => pts_one (pt_not (pt_val (pcall d_law_below hr (pa_cons (pv 1) (pa_cons (pe_ix (show IxR _ (rIxT K) from ix_tup) (pv 3) pe_int (fun _ _ => rfl)) pa_nil)))))) (fun _ _ _ _ _ => (pv 3)))
      (pss_cons (ps_if (pt_cmpR op_eq (pe_callB call_len_seq (by rfl) T.len_ PySem.boot_len (pa_cons (pv 2) pa_nil)) pe_int (nomark _))
        (pss_one (ps_ret pe_non))
        pss_nil)
      (pss_cons (ps_set (i := 3) sc__law_now.nd rfl (Or.inl rfl) (pe_ix ix_list (pv 2) (pe_op op_sub (pe_callB call_len_seq (by rfl) T.len_ PySem.boot_len (pa_cons (pv 2) pa_nil)) pe_int) (fun _ _ => rfl)))
      (pss_one (ps_ret (pcall d_law_plus hr (pa_cons (pe_ix ix_tup (pv 3) pe_int (fun _ _ => rfl)) (pa_cons (pcall d_law_times hr (pa_cons (pe_ix ix_tup (pv 3) pe_int (fun _ _ => rfl)) (pa_cons (pcall d_law_minus hr (pa_cons (pv 1) (pa_cons (pe_ix ix_tup (pv 3) pe_int (fun _ _ => rfl)) pa_nil))) pa_nil))) pa_nil)))))))), ?_⟩
  refine ⟨_, rfl, a, rfl, ⟨_, hx⟩, fun D hD => lc_list (xs := xs) (fun i H' => ∃ acc, H' D = some (.lst acc) ∧ Same H H' ∧ All2 (Pq K H') acc ((c.take i).filter (on t))) ⟨[], upd_same, same_new hD _, All2.nil⟩ (fun i H' _ h => by obtain ⟨_, _, s1, _⟩ := h; exact s1.seq hx) ?_ ?_⟩
  · rintro i x H' hxi ⟨acc, hD1, s1, hA⟩
    have hi : i < c.length := by rw [← hc.1]; exact (List.getElem?_eq_some_iff.mp hxi).1
    have hci : c[i]? = some c[i] := List.getElem?_eq_getElem hi
    have hpx := hc.2 i x _ hxi hci
    obtain ⟨p, ep⟩ : ∃ p, p = c[i] := ⟨_, rfl⟩
    rw [← ep] at hci hpx
    have hmem : p ∈ c := by rw [ep]; exact List.getElem_mem hi
    obtain ⟨zs, zv, zr⟩ := zc p hmem
    have hal : acc.length ≤ 1000 := by
      have h1 := hA.1
      have h2 := List.length_filter_le (on t) (c.take i)
      rw [List.length_take] at h2
      omega
    obtain ⟨b, bs, bv, br, rfl, hb1, r1, r2, r3⟩ := hpx.same s1
    refine ⟨rfl, _, rfl, _, rfl, b, _, _, _, rfl, rfl, hb1, at0 rfl, _, _, t, p.s, m0, i0, rfl, hy.same s1, r1, zt, zs, by omega, _, rfl, ?_⟩
    have em := filter_more (on t) hci
    by_cases g : t < p.s
    · have eo : on t p = false := by unfold on; rw [dT g]; rfl
      refine ifF (by rw [dT g]; rfl) ⟨acc, hD1, s1, ?_⟩
      rw [em, eo]
      simpa using hA
    · have eo : on t p = true := by unfold on; rw [dF g]; rfl
      refine ifT (by rw [dF g]; rfl) ⟨_, rfl, acc, hD1, le1000 hal, _, upd_same, same_upd s1 hD _, ?_⟩
      rw [em, eo]
      have fr : Fr D H' (upd H' D (.lst (acc ++ [.ref b]))) := Fr.upd _
      exact (hA.imp fun _ _ h => h.fr fr ⟨_, hD1⟩).snoc ((hpx.same s1).fr fr ⟨_, hD1⟩)
  · rintro H' ⟨acc, hD1, s1, hA⟩
    rw [List.take_of_length_le (by rw [hc.1]; exact Nat.le_refl _)] at hA
    have ha := hA.1
    refine ⟨_, rfl, D, _, rfl, .inl (SqL.of hD1), rfl, _, rfl, ifD (fun g => ?_) (fun g => ?_)⟩
    · have g' := V.int.inj g
      refine z _ _ s1 ?_
      have e : c.filter (on t) = [] := List.eq_nil_of_length_eq_zero (by omega)
      unfold nowf
      rw [e]
      rfl
    · have ga : acc.length ≠ 0 := fun e => g (by rw [e]; rfl)
      have hlast : (c.filter (on t))[acc.length - 1]? = some (c.filter (on t))[acc.length - 1] := List.getElem?_eq_getElem (by omega)
      obtain ⟨p, ep⟩ : ∃ p, p = (c.filter (on t))[acc.length - 1] := ⟨_, rfl⟩
      rw [← ep] at hlast
      obtain ⟨x, hx1, hp⟩ := hA.at hlast
      have hmem : p ∈ c := by rw [ep]; exact (List.mem_filter.mp (List.getElem_mem _)).1
      obtain ⟨zs, zv, zr⟩ := zc p hmem
      obtain ⟨b, bs, bv, br, rfl, hb1, r1, r2, r3⟩ := hp
      refine ⟨_, rfl, _, rfl, D, _, rfl, .inl (SqL.of hD1), _, _, rfl, rfl, D, _, _, _, rfl, rfl, SqL.of hD1, at_of (j := acc.length - 1) (by omega) hx1, ?_⟩
      refine ⟨_, rfl, b, _, _, _, rfl, rfl, hb1, at1 rfl, _, rfl, b, _, _, _, rfl, rfl, hb1, at2 rfl, _, rfl, _, rfl, b, _, _, _, rfl, rfl, hb1, at0 rfl, ?_⟩
      refine ⟨_, _, _, _, m0, i0, rfl, hy.same s1, r1, zt, zs, by omega, fun w1 H1 f1 g1 => ?_⟩
      refine ⟨_, _, _, _, l0, m0 + i0 + 1, rfl, r3.same f1, g1, zr, zt.sub zs, by omega, fun w2 H2 f2 g2 => ?_⟩
      refine ⟨_, _, _, _, j0, l0 + (m0 + i0 + 1), rfl, r2.same (f1.trans f2), g2, zv, zr.mul (zt.sub zs), by omega, fun w3 H3 f3 g3 => z _ _ (s1.trans (f1.trans (f2.trans f3))) ?_⟩
      unfold nowf
      rw [List.getLast?_eq_getElem?, ← ha, hlast]
      exact g3
end Vk
namespace Vk
open PySem L2 Vm
variable {l : Addr} {P : Program} {w : World} {K : PySem.W.Frag} {mg : Str → Option Value} {base : Heap} {k : Nat} {f f1 f2 f3 f4 f5 f6 f7 f8 f9 : Addr} {fd fd1 fd2 fd3 fd4 fd5 fd6 fd7 fd8 fd9 : FuncData}
abbrev s__law_ratio : Stmt := top 43
abbrev N__law_ratio : List Str := ["_law_store_here", "_law_top", "_law_sort"]
theorem sc__law_ratio : FnScope N__law_ratio ["_law_store_here", "_law_top"] (defScope s__law_ratio) := ⟨rfl, rfl, rfl, by decide +kernel, rfl, by decide +kernel, by decide +kernel⟩
abbrev ps__law_ratio : List Str := ["_law_store_here", "_law_top"]
def spRatio (K : PySem.W.Frag) (l : Addr) : Sp := fun vs H Q _ => ∃ (s : Addr) (top : Int), vs = [.ref s, .int top] ∧ Sto l s H ∧ 1 ≤ top ∧ top < 2 ^ 40 ∧ ∀ (v : V) H', Qd K 40 anyQ H' v → Sto l s H' → Fr s H H' → Q v H'
theorem int_q {H : Hp} {t : Addr} (n : Int) (h : n.natAbs < 2 ^ 40) : Qd K 40 anyQ (upd H t (.tup [.int n, .int 1])) (.ref t) := Qd.new n 1 (n : Rat) rfl rfl ⟨h, by show 1 < 2 ^ 40; decide⟩ trivial
theorem ok_ratio (F : Fn K mg "_law_ratio" s__law_ratio ps__law_ratio f fd) (d_law_take : Def P w K mg base k "_law_take" ["_law_store_here", "_law_many"] (spTake K l) f1 fd1) (d_law_pick : Def P w K mg base k "_law_pick" ["_law_store_here", "_law_things"] (spPick K l) f2 fd2)
    (d_law_frac : Def P w K mg base k "_law_frac" ["_law_n", "_law_d"] (spFrac K) f3 fd3) : Def P w K mg base (k + 1) "_law_ratio" ps__law_ratio (spRatio K l) f fd := by
  refine ⟨F.F.ok sc__law_ratio (fun vs H Q E h => ?_) (fun cdv A outer s H vs Q E hr h => ?_), F.m, F.F.kp, F.b⟩
  · obtain ⟨_, _, rfl, _⟩ := h
    rfl
  obtain ⟨s, top, rfl, hS, t1, t2, z⟩ := h
  have p40 : (2 : Int) ^ 40 = 1099511627776 := by decide
  have n40 : (2 : Nat) ^ 40 = 1099511627776 := by decide
  have p64 : (2 : Int) ^ 64 = 18446744073709551616 := by decide
  refine ⟨_, (pss_cons (ps_set (i := 2) sc__law_ratio.nd rfl (Or.inl rfl) (pcall d_law_take hr (pa_cons (pv 0) (pa_cons pe_int pa_nil))))
      (pss_cons (ps_if (pt_cmpR op_eq (pv 2) pe_int (nomark _))
        (pss_one (ps_ret (pe_tup (pa_cons pe_int (pa_cons pe_int pa_nil)))))
        pss_nil)
      (pss_cons (ps_if (pt_cmpR op_eq (pv 2) pe_int (nomark _))
        (pss_one (ps_ret (pe_tup (pa_cons (pcall d_law_pick hr (pa_cons (pv 0) (pa_cons (pe_lst (pa_cons pe_int (pa_cons (pe_op op_sub pe_int pe_int) (pa_cons (pv 1) (pa_cons (pe_op op_sub pe_int (pv 1)) pa_nil))))) pa_nil))) (pa_cons pe_int pa_nil)))))
        pss_nil)
      (pss_cons (ps_if (pt_cmpR op_eq (pv 2) pe_int (nomark _))
        (pss_one (ps_ret (pcall d_law_frac hr (pa_cons (pcall d_law_pick hr (pa_cons (pv 0) (pa_cons (pe_lst (pa_cons pe_int (pa_cons (pe_op op_sub pe_int pe_int) (pa_cons (pv 1) (pa_cons (pe_op op_sub pe_int (pv 1)) pa_nil))))) pa_nil))) (pa_cons (pv 1) pa_nil)))))
        pss_nil)
      (pss_cons (ps_if (pt_cmpR op_eq (pv 2) pe_int (nomark _))
        (pss_one (ps_ret (pe_tup (pa_cons (pe_op op_sub (pcall d_law_take hr (pa_cons (pv 0) (pa_cons (pe_op op_add (pe_op op_mul pe_int (pv 1)) pe_int) pa_nil))) (pv 1)) (pa_cons pe_int pa_nil)))))
        pss_nil)
      (pss_one (ps_ret (pcall d_law_frac hr (pa_cons (pe_op op_sub (pcall d_law_take hr (pa_cons (pv 0) (pa_cons (pe_op op_add (pe_op op_mul pe_int (pv 1)) pe_int) pa_nil))) (pv 1)) (pa_cons (pe_op op_add pe_int (pcall d_law_take hr (pa_cons (pv 0) (pa_cons (pv 1) pa_nil)))) pa_nil)))))))))), ?_⟩
  refine ⟨_, rfl, s, 6, rfl, hS, by decide, fun r H1 r0 r1 S1 e1 => ?_⟩
  refine ⟨_, rfl, rfl, _, rfl, ifD (fun _ => ?_) (fun _ => ?_)⟩
  · exact ⟨sz2, fun t ht => z _ _ (Qd.new 0 1 0 rfl rfl (by decide) trivial) (S1.same (same_new ht _)) (e1.trans (Fr.of (same_new ht _)))⟩
  refine ⟨_, rfl, rfl, _, rfl, ifD (fun _ => ?_) (fun _ => ?_)⟩
  · refine ⟨_, rfl, _, _, rfl, rfl, _, rfl, _, rfl, _, _, rfl, rfl, sm4, fun p hp => ?_⟩
    refine ⟨s, p, _, rfl, S1.same (same_new hp _), S1.ne hp, SqL.of upd_same, (by show 0 < 4; decide), (by show 4 < 2 ^ 32; decide), fun v H' hv S' e' => ?_⟩
    obtain ⟨n, rfl, hn⟩ : ∃ n : Int, v = .int n ∧ n.natAbs < 2 ^ 40 := by
      simp only [List.mem_cons, List.mem_nil_iff, or_false] at hv
      rcases hv with rfl | rfl | rfl | rfl
      · exact ⟨_, rfl, by omega⟩
      · exact ⟨_, rfl, by omega⟩
      · exact ⟨_, rfl, by omega⟩
      · exact ⟨_, rfl, by omega⟩
    exact ⟨sz2, fun t ht => z _ _ (int_q n hn) (S'.same (same_new ht _)) (e1.trans ((Fr.of (same_new hp _)).trans (e'.trans (Fr.of (same_new ht _)))))⟩
  refine ⟨_, rfl, rfl, _, rfl, ifD (fun _ => ?_) (fun _ => ?_)⟩
  · refine ⟨_, rfl, _, _, rfl, rfl, _, rfl, _, rfl, _, _, rfl, rfl, sm4, fun p hp => ?_⟩
    refine ⟨s, p, _, rfl, S1.same (same_new hp _), S1.ne hp, SqL.of upd_same, (by show 0 < 4; decide), (by show 4 < 2 ^ 32; decide), fun v H' hv S' e' => ?_⟩
    obtain ⟨n, rfl, hn⟩ : ∃ n : Int, v = .int n ∧ n.natAbs < 2 ^ 40 := by
      simp only [List.mem_cons, List.mem_nil_iff, or_false] at hv
      rcases hv with rfl | rfl | rfl | rfl
      · exact ⟨_, rfl, by omega⟩
      · exact ⟨_, rfl, by omega⟩
      · exact ⟨_, rfl, by omega⟩
      · exact ⟨_, rfl, by omega⟩
    refine ⟨_, rfl, n, top, 40, rfl, by omega, hn, by omega, by decide, fun v H'' e hv => z _ _ ⟨_, hv, sz_mk (by omega) hn (by omega), trivial⟩ (S'.same e) (e1.trans ((Fr.of (same_new hp _)).trans (e'.trans (Fr.of e))))⟩
  have m2 : CMul 2 top := .inl ⟨by decide, by decide⟩
  refine ⟨_, rfl, rfl, _, rfl, ifD (fun _ => ?_) (fun _ => ?_)⟩
  · refine ⟨_, rfl, _, rfl, _, _, rfl, rfl, m2, _, _, rfl, rfl, s, _, rfl, S1, by omega, fun r2 H2 r3 r4 S2 e2 => ⟨_, rfl, _, _, rfl, rfl, ?_⟩⟩
    exact ⟨sz2, fun t ht => z _ _ (int_q _ (by omega)) (S2.same (same_new ht _)) (e1.trans (e2.trans (Fr.of (same_new ht _))))⟩
  refine ⟨_, rfl, _, rfl, _, _, rfl, rfl, m2, _, _, rfl, rfl, s, _, rfl, S1, by omega, fun r2 H2 r3 r4 S2 e2 => ⟨_, rfl, _, _, rfl, rfl, ?_⟩⟩
  refine ⟨_, rfl, _, rfl, s, top, rfl, S2, by omega, fun r5 H3 r6 r7 S3 e3 => ⟨_, _, rfl, rfl, ?_⟩⟩
  exact ⟨_, _, 40, rfl, by omega, by omega, by omega, by decide, fun v H' e hv => z _ _ ⟨_, hv, sz_mk (by omega) (by omega) (by omega), trivial⟩ (S3.same e) (e1.trans (e2.trans (e3.trans (Fr.of e))))⟩
end Vk
namespace Vk
open PySem L2 Vm
variable {l : Addr} {P : Program} {w : World} {K : PySem.W.Frag} {mg : Str → Option Value} {base : Heap} {k : Nat} {f f1 f2 f3 f4 f5 f6 f7 f8 f9 : Addr} {fd fd1 fd2 fd3 fd4 fd5 fd6 fd7 fd8 fd9 : FuncData}
/-- while a list of things is being made at D -/
def Bun {α : Type} (R : Hp → V → α → Prop) (l s D : Addr) (H0 : Hp) (us : List V) (c : List α) (G : Hp) : Prop := Sto l s G ∧ Fr s H0 G ∧ D ≠ s ∧ D ≠ l ∧ H0 D = none ∧ G D = some (.lst us) ∧ All2 (R G) us c
section
variable {α : Type} {R : Hp → V → α → Prop} {s D : Addr} {H0 G G' : Hp} {us : List V} {c : List α}
/-- what R says outlives what becomes of a list -/
def Lasts (R : Hp → V → α → Prop) : Prop := ∀ {s : Addr} {H H' : Hp} {x : V} {p : α}, Fr s H H' → (∃ ys, H s = some (.lst ys)) → R H x p → R H' x p
theorem Bun.fr (h : Bun R l s D H0 us c G) (L : Lasts R) (e : Fr s G G') (S : Sto l s G') : Bun R l s D H0 us c G' := by
  obtain ⟨h1, h2, h3, h4, h5, h6, h7⟩ := h
  exact ⟨S, h2.trans e, h3, h4, h5, e _ _ h6 h3, h7.imp fun _ _ r => L e h1.some r⟩
theorem Bun.same (h : Bun R l s D H0 us c G) (L : Lasts R) (e : Same G G') : Bun R l s D H0 us c G' := h.fr L (Fr.of e) (h.1.same e)
theorem Bun.app {x : V} {p : α} (h : Bun R l s D H0 us c G) (L : Lasts R) (r : R G x p) : Bun R l s D H0 (us ++ [x]) (c ++ [p]) (upd G D (.lst (us ++ [x]))) := by
  obtain ⟨h1, h2, h3, h4, h5, h6, h7⟩ := h
  have fr : Fr D G (upd G D (.lst (us ++ [x]))) := Fr.upd _
  refine ⟨h1.upd h3 h4, fun b o hb hn => ?_, h3, h4, h5, upd_same, (h7.imp fun _ _ r => L fr ⟨_, h6⟩ r).snoc (L fr ⟨_, h6⟩ r)⟩
  rw [upd_ne (ne_of_none hb h5)]
  exact h2 b o hb hn
theorem Bun.start (S : Sto l s G) (e : Fr s H0 G) (hD : G D = none) : Bun R l s D H0 [] [] (upd G D (.lst [])) := by
  have nD := S.ne hD
  have f := same_new hD (.lst [])
  exact ⟨S.same f, e.trans (Fr.of f), nD, S.nl hD, e.free hD nD, upd_same, All2.nil⟩
end
theorem Bun.at {α : Type} {R : Hp → V → α → Prop} {s D : Addr} {H0 G : Hp} {us : List V} {c : List α} (h : Bun R l s D H0 us c G) : G D = some (.lst us) := h.2.2.2.2.2.1
theorem Bun.len {α : Type} {R : Hp → V → α → Prop} {s D : Addr} {H0 G : Hp} {us : List V} {c : List α} (h : Bun R l s D H0 us c G) : us.length = c.length := h.2.2.2.2.2.2.1
theorem Bun.all {α : Type} {R : Hp → V → α → Prop} {s D : Addr} {H0 G : Hp} {us : List V} {c : List α} (h : Bun R l s D H0 us c G) : All2 (R G) us c := h.2.2.2.2.2.2
theorem lastsP : Lasts (Pq K) := fun e hs h => h.fr e hs
theorem lastsQ : Lasts (Rq K) := fun e hs h => h.fr e hs
theorem Cok.snoc {c : List Pc} {x : Pc} (h : Cok c) (hx : ∀ p ∈ c, p.s < x.s) (r : 0 < x.r) : Cok (c ++ [x]) := by
  refine ⟨fun p hp => ?_, fun i p q e1 e2 => ?_⟩
  · rcases List.mem_append.mp hp with hp | hp
    · exact h.1 p hp
    · rw [List.mem_singleton.mp hp]
      exact r
  · by_cases hi : i + 1 < c.length
    · rw [List.getElem?_append_left (by omega)] at e1
      rw [List.getElem?_append_left hi] at e2
      exact h.2 i p q e1 e2
    · have hl := (List.getElem?_eq_some_iff.mp e2).1
      rw [List.length_append, List.length_singleton] at hl
      rw [List.getElem?_append_left (by omega)] at e1
      rw [List.getElem?_append_right (by omega)] at e2
      have e0 : i + 1 - c.length = 0 := by omega
      rw [e0] at e2
      cases e2
      exact hx p (List.mem_of_getElem? e1)
theorem Cz.snoc {i j m : Nat} {c : List Pc} {x : Pc} (h : Cz i j m c) (z : Sz i x.s ∧ Sz j x.v ∧ Sz m x.r) : Cz i j m (c ++ [x]) := fun p hp => by
  rcases List.mem_append.mp hp with hp | hp
  · exact h p hp
  · rw [List.mem_singleton.mp hp]
    exact z
theorem lt_add_pos {a b : Rat} (h : 0 < b) : a < a + b := by grind
abbrev s__law_course : Stmt := top 49
abbrev N__law_course : List Str := ["_law_store_here", "_law_many", "_law_fall", "_law_when_here", "_law_told_here", "_law_pace_here", "_law_course_here", "_law_k", "_law_step", "_law_sort"]
theorem sc__law_course : FnScope N__law_course ["_law_store_here", "_law_many", "_law_fall"] (defScope s__law_course) := ⟨rfl, rfl, rfl, by decide +kernel, rfl, by decide +kernel, by decide +kernel⟩
abbrev ps__law_course : List Str := ["_law_store_here", "_law_many", "_law_fall"]
def spCourse (K : PySem.W.Frag) (l : Addr) : Sp := fun vs H Q _ => ∃ (s : Addr) (many : Nat) (fall : Bool), vs = [.ref s, .int many, .bl fall] ∧ Sto l s H ∧ many ≤ 40 ∧
  ∀ D us c H', Bun (Pq K) l s D H us c H' → c.length = many → Cok c → Cz 245 925 5 c → Q (.ref D) H'
theorem ok_course (T : Bn mg) (F : Fn K mg "_law_course" s__law_course ps__law_course f fd) (d_law_part : Def P w K mg base k "_law_part" ["_law_store_here"] (spDraw K l 5 anyQ) f1 fd1) (d_law_pace : Def P w K mg base k "_law_pace" ["_law_store_here"] (spDraw K l 5 posQ) f2 fd2)
    (d_law_above : Def P w K mg base k "_law_above" ["_law_store_here"] (spDraw K l 5 posQ) f3 fd3) (d_law_plus : Def P w K mg base k "_law_plus" ["_law_a", "_law_b"] (spOp2 K (· + ·)) f4 fd4) (d_law_times : Def P w K mg base k "_law_times" ["_law_a", "_law_b"] (spOp2 K (· * ·)) f5 fd5)
    (d_law_minus : Def P w K mg base k "_law_minus" ["_law_a", "_law_b"] (spOp2 K (· - ·)) f6 fd6) (d_law_take : Def P w K mg base k "_law_take" ["_law_store_here", "_law_many"] (spTake K l) f7 fd7) :
    Def P w K mg base (k + 1) "_law_course" ps__law_course (spCourse K l) f fd := by
  refine ⟨F.F.ok sc__law_course (fun vs H Q E h => ?_) (fun cdv A outer s H vs Q E hr h => ?_), F.m, F.F.kp, F.b⟩
  · obtain ⟨_, _, _, rfl, _⟩ := h
    rfl
  obtain ⟨s, many, fall, rfl, hS, hm, z⟩ := h
  refine ⟨_, (pss_cons (ps_set (i := 3) sc__law_course.nd rfl (Or.inl rfl) (pcall d_law_part hr (pa_cons (pv 0) pa_nil)))
      (pss_cons (ps_set (i := 4) sc__law_course.nd rfl (Or.inl rfl) (pcall d_law_part hr (pa_cons (pv 0) pa_nil)))
      (pss_cons (ps_set (i := 5) sc__law_course.nd rfl (Or.inl rfl) (pcall d_law_pace hr (pa_cons (pv 0) pa_nil)))
      (pss_cons (ps_set (i := 6) sc__law_course.nd rfl (Or.inl rfl) (pe_lst pa_nil))
      (pss_cons (ps_for PassesOwn.never rfl (pi_range1 (by rfl) T.range_ (pa_cons (pv 1) pa_nil)) (pg_name (i := 7) sc__law_course.nd rfl (Or.inl rfl))
        (pss_cons (ps_expr (pe_bm PySem.F.plainAttrs_list PySem.F.slot_list_append PySem.F.type_list_append mt_append (pv 6) (pa_cons (pe_tup (pa_cons (pv 3) (pa_cons (pv 4) (pa_cons (pv 5) pa_nil)))) pa_nil)))
        (pss_cons (ps_set (i := 8) sc__law_course.nd rfl (Or.inl rfl) (pcall d_law_above hr (pa_cons (pv 0) pa_nil)))
        (pss_cons (ps_set (i := 3) sc__law_course.nd rfl (Or.inl rfl) (pcall d_law_plus hr (pa_cons (pv 3) (pa_cons (pv 8) pa_nil))))
        (pss_cons (ps_set (i := 4) sc__law_course.nd rfl (Or.inl rfl) (pcall d_law_plus hr (pa_cons (pv 4) (pa_cons (pcall d_law_times hr (pa_cons (pv 5) (pa_cons (pv 8) pa_nil))) pa_nil))))
        (pss_cons (ps_set (i := 9) sc__law_course.nd rfl (Or.inl rfl) (pcall d_law_take hr (pa_cons (pv 0) (pa_cons pe_int pa_nil))))
        (pss_cons (ps_if (PW.pt (pw_or (pt_cmpR op_eq (pv 9) pe_int (nomark _)) (pw_or1 (pt_cmpR op_eq (pv 9) pe_int (nomark _)))))
          (pss_one (ps_set (i := 4) sc__law_course.nd rfl (Or.inl rfl) (pcall d_law_plus hr (pa_cons (pv 4) (pa_cons (pcall d_law_above hr (pa_cons (pv 0) pa_nil)) pa_nil)))))
          pss_nil)
        (pss_cons (ps_if (PW.pt (pw_and (pt_cmpR op_eq (pv 9) pe_int (nomark _)) (pw_and1 (pt_val (pv 2)))))
          (pss_one (ps_set (i := 4) sc__law_course.nd rfl (Or.inl rfl) (pcall d_law_minus hr (pa_cons (pv 4) (pa_cons (pcall d_law_above hr (pa_cons (pv 0) pa_nil)) pa_nil)))))
          pss_nil)
        (pss_one (ps_if (PW.pt (pw_and (pt_cmpR op_ne (pv 9) pe_int (nomark _)) (pw_and1 (pt_cmpR op_ne (pv 9) pe_int (nomark _)))))
          (pss_one (ps_set (i := 5) sc__law_course.nd rfl (Or.inl rfl) (pcall d_law_pace hr (pa_cons (pv 0) pa_nil))))
          pss_nil))))))))))
      (pss_one (ps_ret (pv 6)))))))), ?_⟩
  refine ⟨_, rfl, s, rfl, hS, fun wv G1 qw S1 e1 => ?_⟩
  refine ⟨_, rfl, s, rfl, S1, fun tv G2 qt S2 e2 => ?_⟩
  refine ⟨_, rfl, s, rfl, S2, fun pv G3 qp S3 e3 => ?_⟩
  refine ⟨Nat.zero_le _, fun D hD => ?_⟩
  have p62 : (2 : Int) ^ 62 = 4611686018427387904 := by decide
  have B0 : Bun (Pq K) l s D H [] [] (upd G3 D (.lst [])) := Bun.start S3 (e1.trans (e2.trans e3)) hD
  have s4 := same_new hD (.lst [])
  obtain ⟨qw0, rw0, zw0, _⟩ := ((qw.fr e2 S1).fr e3 S2).same s4
  obtain ⟨qt0, rt0, zt0, _⟩ := (qt.fr e3 S2).same s4
  obtain ⟨qp0, rp0, zp0, pp0⟩ := qp.same s4
  refine ⟨_, rfl, _, rfl, by omega, by omega, for_range (n := ((many : Nat) : Int).toNat) (fun i σ G => ∃ (us : List V) (c : List Pc) (wv tv pv : V) (k1 k2 k3 : Option V) (qw qt qp : Rat), σ = [some (.ref s), some (.int many), some (.bl fall), some wv, some tv, some pv, some (.ref D), k1, k2, k3] ∧
      Bun (Pq K) l s D H us c G ∧ Rq K G wv qw ∧ Rq K G tv qt ∧ Rq K G pv qp ∧ Sz (5 + 6 * i) qw ∧ Sz (5 + 23 * i) qt ∧ Sz 5 qp ∧ 0 < qp ∧ c.length = i ∧ (∀ p ∈ c, p.s < qw) ∧ Cok c ∧ Cz 245 925 5 c)
    ⟨[], [], _, _, _, _, _, _, qw0, qt0, qp0, rfl, B0, rw0, rt0, rp0, zw0, zt0, zp0, pp0, rfl, nofun, ⟨nofun, fun i p q h => by simp at h⟩, nofun⟩ ?_ ?_⟩
  · rintro i σ G hi ⟨us, c, wv, tv, pv, k1, k2, k3, qw, qto, qp, rfl, B, rw1, rt1, rp1, zw, zt, zp, pp, hc, hlt, ok, cz⟩
    have hi' : i < 40 := by omega
    have hul : us.length ≤ 1000 := by have := B.len; omega
    -- the piece
    refine ⟨_, rfl, .inl ⟨rfl, _, SqL.of B.at⟩, _, rfl, _, rfl, _, rfl, sm3, fun T hT => ?_⟩
    have t1 := same_new hT (.tup [wv, tv, pv])
    have B1 := B.same lastsP t1
    refine ⟨D, _, _, rfl, rfl, B1.at, le1000 hul, ?_⟩
    have B2 := B1.app lastsP (x := .ref T) (p := ⟨qw, qto, qp⟩) ⟨T, wv, tv, pv, rfl, SqT.of upd_same, rw1.same t1, rt1.same t1, rp1.same t1⟩
    have f2 : Fr D (upd G T (.tup [wv, tv, pv])) (upd (upd G T (.tup [wv, tv, pv])) D (.lst (us ++ [.ref T]))) := Fr.upd _
    have rw2 := (rw1.same t1).fr f2 ⟨_, B1.at⟩
    have rt2 := (rt1.same t1).fr f2 ⟨_, B1.at⟩
    have rp2 := (rp1.same t1).fr f2 ⟨_, B1.at⟩
    -- the step; when; told
    refine ⟨_, rfl, s, rfl, B2.1, fun sv G3 qs0 S3 e3 => ?_⟩
    have B3 := B2.fr lastsP e3 S3
    obtain ⟨qs, rs, zs, ps⟩ := qs0
    have ps : 0 < qs := ps
    have rw3 := rw2.fr e3 B2.1.some
    have rt3 := rt2.fr e3 B2.1.some
    have rp3 := rp2.fr e3 B2.1.some
    refine ⟨_, rfl, _, rfl, _, _, qw, qs, _, 5, rfl, rw3, rs, zw, zs, by omega, fun wv' G4 e4 rw4 => ?_⟩
    refine ⟨_, rfl, _, rfl, _, rfl, _, _, qp, qs, 5, 5, rfl, rp3.same e4, rs.same e4, zp, zs, by omega, fun xv G5 e5 rx => ?_⟩
    refine ⟨_, _, qto, qp * qs, _, 10, rfl, rt3.same (e4.trans e5), rx, zt, zp.mul zs, by omega, fun tv' G6 e6 rt6 => ?_⟩
    have B6 := B3.same lastsP (e4.trans (e5.trans e6))
    refine ⟨_, rfl, s, 6, rfl, B6.1, by decide, fun so G7 so0 so1 S7 e7 => ?_⟩
    have B7 := B6.fr lastsP e7 S7
    have rw7 := (rw4.same (e5.trans e6)).fr e7 B6.1.some
    have rt7 := rt6.fr e7 B6.1.some
    have rp7 := (rp3.same (e4.trans (e5.trans e6))).fr e7 B6.1.some
    have zw7 : Sz (5 + 6 * (i + 1)) (qw + qs) := (zw.add zs).mono (by omega)
    have zt7 : Sz (16 + 23 * i) (qto + qp * qs) := (zt.add (zp.mul zs)).mono (by omega)
    have lw : qw < qw + qs := lt_add_pos ps
    dsimp only [gName]
    refine cut (fun σ' G' => ∃ (tv : V) (qt : Rat), σ' = [some (.ref s), some (.int many), some (.bl fall), some wv', some tv, some pv, some (.ref D), some (.int (0 + (i : Int))), some sv, some (.int so)] ∧ Bun (Pq K) l s D H (us ++ [.ref T]) (c ++ [⟨qw, qto, qp⟩]) G' ∧ Rq K G' wv' (qw + qs) ∧ Rq K G' tv qt ∧ Rq K G' pv qp ∧ Sz (22 + 23 * i) qt) ?_ ?_
    · rintro σ' G8 ⟨tv8, qt8, rfl, B8, rw8, rt8, rp8, zt8⟩
      refine cut (fun σ' G' => ∃ (tv : V) (qt : Rat), σ' = [some (.ref s), some (.int many), some (.bl fall), some wv', some tv, some pv, some (.ref D), some (.int (0 + (i : Int))), some sv, some (.int so)] ∧ Bun (Pq K) l s D H (us ++ [.ref T]) (c ++ [⟨qw, qto, qp⟩]) G' ∧ Rq K G' wv' (qw + qs) ∧ Rq K G' tv qt ∧ Rq K G' pv qp ∧ Sz (28 + 23 * i) qt) ?_ ?_
      · rintro σ' G9 ⟨tv9, qt9, rfl, B9, rw9, rt9, rp9, zt9⟩
        -- the last if
        have okc : Cok (c ++ [⟨qw, qto, qp⟩]) := ok.snoc hlt pp
        have czc : Cz 245 925 5 (c ++ [⟨qw, qto, qp⟩]) := cz.snoc ⟨zw.mono (by omega), zt.mono (by omega), zp⟩
        have ltc : ∀ p ∈ c ++ [(⟨qw, qto, qp⟩ : Pc)], p.s < qw + qs := fun p hp => by
          rcases List.mem_append.mp hp with hp | hp
          · have h1 := hlt p hp; grind
          · rw [List.mem_singleton.mp hp]
            exact lw
        have lenc : (c ++ [(⟨qw, qto, qp⟩ : Pc)]).length = i + 1 := by rw [List.length_append, hc]; rfl
        have stay : ∃ (us' : List V) (c : List Pc) (wv tv pv' : V) (k1 k2 k3 : Option V) (qw qt qp : Rat), [some (.ref s), some (.int many), some (.bl fall), some wv', some tv9, some pv, some (.ref D), some (.int (0 + (i : Int))), some sv, some (.int so)] = [some (.ref s), some (.int many), some (.bl fall), some wv, some tv, some pv', some (.ref D), k1, k2, k3] ∧
            Bun (Pq K) l s D H us' c G9 ∧ Rq K G9 wv qw ∧ Rq K G9 tv qt ∧ Rq K G9 pv' qp ∧ Sz (5 + 6 * (i + 1)) qw ∧ Sz (5 + 23 * (i + 1)) qt ∧ Sz 5 qp ∧ 0 < qp ∧ c.length = i + 1 ∧ (∀ p ∈ c, p.s < qw) ∧ Cok c ∧ Cz 245 925 5 c :=
          ⟨_, _, _, _, _, _, _, _, _, _, _, rfl, B9, rw9, rt9, rp9, zw7, zt9.mono (by omega), zp, pp, lenc, ltc, okc, czc⟩
        refine ⟨_, rfl, rfl, _, rfl, ?_⟩
        by_cases g1 : so = 0
        · refine ifF (by rw [dT (congrArg V.int g1)]; rfl) (ifF rfl stay)
        refine ifT (by rw [dF fun e => g1 (V.int.inj e)]; rfl) ⟨_, rfl, rfl, _, rfl, ?_⟩
        by_cases g2 : so = 4
        · exact ifF (by rw [dT (congrArg V.int g2)]; rfl) stay
        refine ifT (by rw [dF fun e => g2 (V.int.inj e)]; rfl) ⟨_, rfl, s, rfl, B9.1, fun pv' G10 qn S10 e10 => ?_⟩
        obtain ⟨qn, rn, zn, pn⟩ := qn
        exact ⟨_, _, _, _, _, _, _, _, _, _, _, rfl, B9.fr lastsP e10 S10, rw9.fr e10 B9.1.some, rt9.fr e10 B9.1.some, rn, zw7, zt9.mono (by omega), zn, pn, lenc, ltc, okc, czc⟩
      · intro key
        refine ⟨_, rfl, rfl, _, rfl, ?_⟩
        have skip := key _ _ ⟨tv8, qt8, rfl, B8, rw8, rt8, rp8, zt8.mono (by omega)⟩
        by_cases g1 : so = 4
        · refine ifT (dT (congrArg V.int g1)) ⟨_, rfl, _, rfl, ?_⟩
          cases fall with
          | false => exact ifF rfl skip
          | true =>
            refine ifT rfl ⟨_, rfl, _, rfl, s, rfl, B8.1, fun av G9 qa S9 e9 => ?_⟩
            obtain ⟨qa, ra, za, _⟩ := qa
            have B9 := B8.fr lastsP e9 S9
            refine ⟨_, _, qt8, qa, _, 5, rfl, rt8.fr e9 B8.1.some, ra, zt8, za, by omega, fun tv9 G10 e10 rt10 => ?_⟩
            exact key _ _ ⟨tv9, _, rfl, B9.same lastsP e10, (rw8.fr e9 B8.1.some).same e10, rt10, (rp8.fr e9 B8.1.some).same e10, (zt8.sub za).mono (by omega)⟩
        · exact ifF (dF fun e => g1 (V.int.inj e)) (ifF rfl skip)
    · intro key
      have skip := key _ _ ⟨tv', _, rfl, B7, rw7, rt7, rp7, zt7.mono (by omega)⟩
      have doit : ∀ (Qx : Prop), True → Qx → Qx := fun _ _ h => h
      refine ⟨_, rfl, rfl, _, rfl, ?_⟩
      by_cases g1 : so = 2
      · refine ifT (dT (congrArg V.int g1)) (ifT rfl ⟨_, rfl, _, rfl, s, rfl, B7.1, fun av G8 qa S8 e8 => ?_⟩)
        obtain ⟨qa, ra, za, _⟩ := qa
        refine ⟨_, _, _, qa, _, 5, rfl, rt7.fr e8 B7.1.some, ra, zt7, za, by omega, fun tv8 G9 e9 rt9 => ?_⟩
        exact key _ _ ⟨tv8, _, rfl, (B7.fr lastsP e8 S8).same lastsP e9, (rw7.fr e8 B7.1.some).same e9, rt9, (rp7.fr e8 B7.1.some).same e9, (zt7.add za).mono (by omega)⟩
      refine ifF (dF fun e => g1 (V.int.inj e)) ⟨_, rfl, rfl, _, rfl, ?_⟩
      by_cases g2 : so = 3
      · refine ifT (dT (congrArg V.int g2)) ⟨_, rfl, _, rfl, s, rfl, B7.1, fun av G8 qa S8 e8 => ?_⟩
        obtain ⟨qa, ra, za, _⟩ := qa
        refine ⟨_, _, _, qa, _, 5, rfl, rt7.fr e8 B7.1.some, ra, zt7, za, by omega, fun tv8 G9 e9 rt9 => ?_⟩
        exact key _ _ ⟨tv8, _, rfl, (B7.fr lastsP e8 S8).same lastsP e9, (rw7.fr e8 B7.1.some).same e9, rt9, (rp7.fr e8 B7.1.some).same e9, (zt7.add za).mono (by omega)⟩
      · exact ifF (dF fun e => g2 (V.int.inj e)) skip
  · rintro σ G ⟨us, c, wv, tv, pv, k1, k2, k3, qw, qt, qp, rfl, B, rw1, rt1, rp1, zw, zt, zp, pp, hc, hlt, ok, cz⟩
    exact ⟨_, rfl, z D us c G B (by omega) ok cz⟩
end Vk
namespace Vk
open PySem L2 Vm
variable {l : Addr} {P : Program} {w : World} {K : PySem.W.Frag} {mg : Str → Option Value} {base : Heap} {k : Nat} {f f1 f2 f3 f4 f5 f6 f7 f8 f9 : Addr} {fd fd1 fd2 fd3 fd4 fd5 fd6 fd7 fd8 fd9 : FuncData}
theorem All2.append {α : Type} {R : V → α → Prop} {xs ys : List V} {c d : List α} (h : All2 R xs c) (g : All2 R ys d) : All2 R (xs ++ ys) (c ++ d) := by
  refine ⟨by rw [List.length_append, List.length_append, h.1, g.1], fun i x p a b => ?_⟩
  have hl := h.1
  by_cases hi : i < xs.length
  · rw [List.getElem?_append_left hi] at a
    rw [List.getElem?_append_left (by omega)] at b
    exact h.2 i x p a b
  · rw [List.getElem?_append_right (by omega)] at a
    rw [List.getElem?_append_right (by omega), ← hl] at b
    exact g.2 _ x p a b
theorem All2.take {α : Type} {R : V → α → Prop} {xs : List V} {c : List α} (h : All2 R xs c) (m : Nat) : All2 R (xs.take m) (c.take m) := by
  refine ⟨by rw [List.length_take, List.length_take, h.1], fun i x p a b => ?_⟩
  rw [List.getElem?_take] at a b
  split at a
  · rename_i hi
    rw [if_pos hi] at b
    exact h.2 i x p a b
  · cases a
theorem All2.drop {α : Type} {R : V → α → Prop} {xs : List V} {c : List α} (h : All2 R xs c) (m : Nat) : All2 R (xs.drop m) (c.drop m) := by
  refine ⟨by rw [List.length_drop, List.length_drop, h.1], fun i x p a b => ?_⟩
  rw [List.getElem?_drop] at a b
  exact h.2 _ x p a b
theorem All2.one {α : Type} {R : V → α → Prop} {x : V} {p : α} (r : R x p) : All2 R [x] [p] := by
  have h : All2 R ([] ++ [x]) ([] ++ [p]) := All2.nil.snoc r
  exact h
def Asc (os : List Rat) : Prop := os.Pairwise (· < ·)
theorem asc_at {os : List Rat} (h : Asc os) {i j : Nat} {a b : Rat} (ha : os[i]? = some a) (hb : os[j]? = some b) (hij : i < j) : a < b := by
  obtain ⟨h1, rfl⟩ := List.getElem?_eq_some_iff.mp ha
  obtain ⟨h2, rfl⟩ := List.getElem?_eq_some_iff.mp hb
  exact List.pairwise_iff_getElem.mp h i j h1 h2 hij
/-- the place of one among os -/
def Spot (os : List Rat) (one : Rat) (j m : Nat) : Prop := m ≤ j ∧ ∀ (t : Nat) o, t < j → os[t]? = some o → (o < one ↔ t < m)
theorem rlt_trans {a b c : Rat} (h : a < b) (g : b < c) : a < c := by grind
theorem spot_next {os : List Rat} {one o : Rat} {j m : Nat} (ha : Asc os) (h : Spot os one j m) (ho : os[j]? = some o) : Spot os one (j + 1) (if o < one then j + 1 else m) := by
  split
  · rename_i g
    refine ⟨Nat.le_refl _, fun t x ht hx => ⟨fun _ => ht, fun _ => ?_⟩⟩
    by_cases e : t = j
    · subst e
      rw [ho] at hx
      cases hx
      exact g
    · exact rlt_trans (asc_at ha hx ho (by omega)) g
  · rename_i g
    refine ⟨by have := h.1; omega, fun t x ht hx => ?_⟩
    by_cases e : t = j
    · subst e
      rw [ho] at hx
      cases hx
      exact ⟨fun z => absurd z g, fun z => absurd z (by have := h.1; omega)⟩
    · exact h.2 t x (by omega) hx
theorem asc_insert {os : List Rat} {one : Rat} {m : Nat} (ha : Asc os) (h : Spot os one os.length m) (hn : os[m]? ≠ some one) : Asc (os.take m ++ [one] ++ os.drop m) := by
  have hlt : ∀ o ∈ os.take m, o < one := fun o ho => by
    obtain ⟨t, ht, rfl⟩ := List.mem_iff_getElem.mp ho
    rw [List.length_take] at ht
    have e : os[t]? = some (os.take m)[t] := by
      rw [List.getElem_take]
      exact List.getElem?_eq_getElem (by omega)
    exact (h.2 t _ (by omega) e).mpr (by omega)
  have hgt : ∀ o ∈ os.drop m, one < o := fun o ho => by
    obtain ⟨t, ht, rfl⟩ := List.mem_iff_getElem.mp ho
    rw [List.length_drop] at ht
    have e : os[m + t]? = some (os.drop m)[t] := by
      rw [List.getElem_drop]
      exact List.getElem?_eq_getElem (by omega)
    have h1 : ¬ (os.drop m)[t] < one := fun z => absurd ((h.2 (m + t) _ (by omega) e).mp z) (by omega)
    by_cases t0 : t = 0
    · have h2 : (os.drop m)[t] ≠ one := fun z => hn (by rw [← z, ← e, t0, Nat.add_zero])
      grind
    · have hm : m < os.length := by omega
      have h3 := asc_at ha (List.getElem?_eq_getElem hm) e (by omega)
      have h4 : ¬ os[m] < one := fun z => absurd ((h.2 m _ hm (List.getElem?_eq_getElem hm)).mp z) (by omega)
      grind
  unfold Asc
  rw [List.append_assoc, List.pairwise_append]
  refine ⟨ha.sublist (List.take_sublist _ _), ?_, fun a h1 b h2 => ?_⟩
  · rw [List.singleton_append, List.pairwise_cons]
    exact ⟨hgt, ha.sublist (List.drop_sublist _ _)⟩
  · rw [List.singleton_append] at h2
    rcases List.mem_cons.mp h2 with rfl | h2
    · exact hlt a h1
    · exact rlt_trans (hlt a h1) (hgt b h2)
abbrev s__law_ordered : Stmt := top 46
abbrev N__law_ordered : List Str := ["_law_fracs", "_law_row", "_law_one", "_law_spot", "_law_k"]
theorem sc__law_ordered : FnScope N__law_ordered ["_law_fracs"] (defScope s__law_ordered) := ⟨rfl, rfl, rfl, by decide +kernel, rfl, by decide +kernel, by decide +kernel⟩
abbrev ps__law_ordered : List Str := ["_law_fracs"]
def spOrdered (K : PySem.W.Frag) : Sp := fun vs H Q _ => ∃ (a : Addr) (xs : List V) (qs : List Rat), vs = [.ref a] ∧ SqL K H a xs ∧ All2 (Rq K H) xs qs ∧ (∀ q ∈ qs, Sz 40 q) ∧ qs.length ≤ 900 ∧
  ∀ D us os H', Same H H' → H D = none → H' D = some (.lst us) → All2 (Rq K H') us os → Asc os → (∀ o ∈ os, o ∈ qs) → os.length ≤ qs.length → (qs ≠ [] → os ≠ []) → Q (.ref D) H'
theorem ok_ordered (T : Bn mg) (F : Fn K mg "_law_ordered" s__law_ordered ps__law_ordered f fd) (d_law_below : Def P w K mg base k "_law_below" ["_law_a", "_law_b"] (spTest2 K fun p q => .bl (decide (p < q))) f1 fd1) :
    Def P w K mg base (k + 1) "_law_ordered" ps__law_ordered (spOrdered K) f fd := by
  refine ⟨F.F.ok sc__law_ordered (fun vs H Q E h => ?_) (fun cdv A outer s H vs Q E hr h => ?_), F.m, F.F.kp, F.b⟩
  · obtain ⟨_, _, _, rfl, _⟩ := h
    rfl
  obtain ⟨a, xs, qs, rfl, hx, hq, zq, hl, z⟩ := h
  refine ⟨_, (pss_cons (ps_set (i := 1) sc__law_ordered.nd rfl (Or.inl rfl) (pe_lst pa_nil))
      (pss_cons (ps_for PassesOwn.never rfl (pi_list (pv 0)) (pg_name (i := 2) sc__law_ordered.nd rfl (Or.inl rfl))
        (pss_cons (ps_set (i := 3) sc__law_ordered.nd rfl (Or.inl rfl) pe_int)
        (pss_cons (ps_for PassesOwn.never rfl (pi_range1 (by rfl) T.range_ (pa_cons (pe_callB call_len_seq (by rfl) T.len_ PySem.boot_len (pa_cons (pv 1) pa_nil)) pa_nil)) (pg_name (i := 4) sc__law_ordered.nd rfl (Or.inl rfl))
          (pss_one (ps_if (pt_val (pcall d_law_below hr (pa_cons (pe_ix ix_list (pv 1) (pv 4) (fun _ _ => rfl)) (pa_cons (pv 2) pa_nil))))
            (pss_one (ps_set (i := 3) sc__law_ordered.nd rfl (Or.inl rfl) (pe_op op_add (pv 4) pe_int)))
            pss_nil)))
        (pss_one (ps_if (PW.pt (pw_or (pt_cmpR op_eq (pv 3) (pe_callB call_len_seq (by rfl) T.len_ PySem.boot_len (pa_cons (pv 1) pa_nil)) (nomark _)) (pw_or1 (pt_cmpR (op_neD hr.units) (pe_ix ix_list (pv 1) (pv 3) (fun _ _ => rfl)) (pv 2) (nomark _)))))
          (pss_one (ps_expr (pe_bm PySem.F.plainAttrs_list PySem.F.slot_list_insert PySem.F.type_list_insert mt_insert (pv 1) (pa_cons (pv 3) (pa_cons (pv 2) pa_nil)))))
          pss_nil)))))
      (pss_one (ps_ret (pv 1))))), ?_⟩
  have p62 : (2 : Int) ^ 62 = 4611686018427387904 := by decide
  have p63 : (2 : Int) ^ 63 = 9223372036854775808 := by decide
  refine ⟨Nat.zero_le _, fun D hD => ?_⟩
  refine ⟨_, rfl, a, rfl, ⟨_, (same_new hD _).seq hx⟩, for_list (K := K) (a := a) (xs := xs) (fun i σ G => ∃ (us : List V) (os : List Rat) (k1 k2 k3 : Option V), σ = [some (.ref a), some (.ref D), k1, k2, k3] ∧ Same H G ∧ G D = some (.lst us) ∧ All2 (Rq K G) us os ∧ Asc os ∧ (∀ o ∈ os, o ∈ qs) ∧ os.length ≤ i ∧ (0 < i → os ≠ []))
    ⟨[], [], none, none, none, rfl, same_new hD _, upd_same, All2.nil, List.Pairwise.nil, nofun, Nat.le_refl _, fun h => absurd h (by omega)⟩ (fun i σ G _ h => by obtain ⟨_, _, _, _, _, _, s1, _⟩ := h; exact s1.seq hx) ?_ ?_⟩
  · rintro i x σ G hxi ⟨us, os, k1, k2, k3, rfl, s1, hD1, hA, asc, sub, ln, _⟩
    have hi : i < qs.length := by rw [← hq.1]; exact (List.getElem?_eq_some_iff.mp hxi).1
    have hqi : qs[i]? = some qs[i] := List.getElem?_eq_getElem hi
    have hmem : qs[i] ∈ qs := List.getElem_mem hi
    have rx := (hq.2 i x _ hxi hqi).same s1
    obtain ⟨one, eo⟩ : ∃ o, o = qs[i] := ⟨_, rfl⟩
    rw [← eo] at rx hmem
    have zo := zq one hmem
    have zos : ∀ o ∈ os, Sz 40 o := fun o ho => zq o (sub o ho)
    have hal := hA.1
    refine ⟨_, rfl, D, _, rfl, .inl (SqL.of hD1), _, rfl, by omega, by omega, for_range (n := ((us.length : Nat) : Int).toNat) (fun j σ G' => ∃ (m : Nat) (k3 : Option V), σ = [some (.ref a), some (.ref D), some x, some (.int m), k3] ∧ G' = G ∧ Spot os one j m)
      ⟨0, k3, rfl, rfl, Nat.le_refl _, fun t o h => absurd h (by omega)⟩ ?_ ?_⟩
    · rintro j σ G' hj ⟨m, k3, rfl, rfl, sp⟩
      have hj' : j < os.length := by omega
      have hoj : os[j]? = some os[j] := List.getElem?_eq_getElem hj'
      obtain ⟨y, hy, ry⟩ := hA.at hoj
      have sn := spot_next asc sp hoj
      refine ⟨_, rfl, _, rfl, D, _, _, y, rfl, rfl, SqL.of hD1, at_of (j := j) (by omega) hy, _, rfl, _, _, os[j], one, 40, 40, rfl, ry, rx, zos _ (List.getElem_mem hj'), zo, by decide, _, rfl, ifD (fun g => ?_) (fun g => ?_)⟩
      · rw [if_pos g] at sn
        refine ⟨_, rfl, _, _, rfl, rfl, j + 1, some (.int (0 + (j : Int))), ?_, rfl, sn⟩
        show [some (V.ref a), some (V.ref D), some x, some (V.int (0 + (j : Int) + 1)), some (V.int (0 + (j : Int)))] = _
        rw [show (0 + (j : Int) + 1) = ((j + 1 : Nat) : Int) by omega]
      · rw [if_neg g] at sn
        exact ⟨m, _, rfl, rfl, sn⟩
    · rintro σ G' ⟨m, k3, rfl, rfl, sp⟩
      have sp : Spot os one os.length m := by
        have e : ((us.length : Nat) : Int).toNat = os.length := by omega
        rw [e] at sp
        exact sp
      have hm := sp.1
      have put : os[m]? ≠ some one → ∃ (us' : List V) (os' : List Rat) (k1 k2 k3' : Option V), [some (.ref a), some (.ref D), some x, some (.int m), k3] = [some (.ref a), some (.ref D), k1, k2, k3'] ∧ Same H (upd G' D (.lst (us.take m ++ [x] ++ us.drop m))) ∧ (upd G' D (.lst (us.take m ++ [x] ++ us.drop m))) D = some (.lst us') ∧
          All2 (Rq K (upd G' D (.lst (us.take m ++ [x] ++ us.drop m)))) us' os' ∧ Asc os' ∧ (∀ o ∈ os', o ∈ qs) ∧ os'.length ≤ i + 1 ∧ (0 < i + 1 → os' ≠ []) := fun hn => by
        have fr : Fr D G' (upd G' D (.lst (us.take m ++ [x] ++ us.drop m))) := Fr.upd _
        have hA' := hA.imp fun _ _ h => Rq.fr fr ⟨_, hD1⟩ h
        refine ⟨_, os.take m ++ [one] ++ os.drop m, _, _, _, rfl, same_upd s1 hD _, upd_same, ((hA'.take m).append (All2.one (rx.fr fr ⟨_, hD1⟩))).append (hA'.drop m), asc_insert asc sp hn, fun o ho => ?_, ?_, fun _ e => ?_⟩
        · rcases List.mem_append.mp ho with ho | ho
          · rcases List.mem_append.mp ho with ho | ho
            · exact sub o (List.mem_of_mem_take ho)
            · rw [List.mem_singleton.mp ho]
              exact hmem
          · exact sub o (List.mem_of_mem_drop ho)
        · rw [List.length_append, List.length_append, List.length_take, List.length_drop, List.length_singleton]
          omega
        · have := congrArg List.length e
          rw [List.length_append, List.length_append, List.length_singleton, List.length_nil] at this
          omega
      refine ⟨_, rfl, _, rfl, D, _, rfl, .inl (SqL.of hD1), rfl, _, rfl, ifD (fun g => ifT rfl ?_) (fun g => ?_)⟩
      · have g' := V.int.inj g
        have hn : os[m]? ≠ some one := by rw [List.getElem?_eq_none (by omega)]; exact nofun
        exact ⟨_, rfl, .inl ⟨rfl, _, SqL.of hD1⟩, _, rfl, _, rfl, D, _, _, _, rfl, rfl, hD1, le1000 (by omega), by omega, by omega, put hn⟩
      · have g' : m ≠ us.length := fun e => g (by rw [e])
        have hmo : os[m]? = some os[m] := List.getElem?_eq_getElem (by omega)
        obtain ⟨y, hy, ry⟩ := hA.at hmo
        refine ⟨_, rfl, _, rfl, D, _, _, y, rfl, rfl, SqL.of hD1, at_of (j := m) rfl hy, _, rfl, _, _, ry.dp, rx.dp, sh_dq _, sh_dq _, _, rfl, ?_⟩
        rw [eqv_dq]
        by_cases e : os[m] = one
        · refine ifF (by rw [dT e]; rfl) ⟨us, os, _, _, _, rfl, s1, hD1, hA, asc, sub, by omega, fun _ z => ?_⟩
          have z2 := congrArg List.length z
          rw [List.length_nil] at z2
          omega
        · refine ifT (by rw [dF e]; rfl) ?_
          have hn : os[m]? ≠ some one := by rw [hmo]; exact fun z => e (Option.some.inj z)
          exact ⟨_, rfl, .inl ⟨rfl, _, SqL.of hD1⟩, _, rfl, _, rfl, D, _, _, _, rfl, rfl, hD1, le1000 (by omega), by omega, by omega, put hn⟩
  · rintro σ G ⟨us, os, k1, k2, k3, rfl, s1, hD1, hA, asc, sub, ln, ne⟩
    rw [hq.1] at ln
    refine ⟨_, rfl, z D us os G s1 hD hD1 hA asc sub ln fun e => ne ?_⟩
    rw [hq.1]
    exact List.length_pos_iff.mpr e
end Vk
namespace Vk
open PySem L2 Vm
variable {l : Addr} {P : Program} {w : World} {K : PySem.W.Frag} {mg : Str → Option Value} {base : Heap} {k : Nat} {f f1 f2 f3 f4 f5 f6 f7 f8 f9 : Addr} {fd fd1 fd2 fd3 fd4 fd5 fd6 fd7 fd8 fd9 : FuncData}
theorem tyes {σ : L2.St} {H : Hp} {A B : Hp → Prop} (h : A H) : tYes σ H (fun b H3 => if b = true then A H3 else B H3) := by
  show (if true = true then A H else B H)
  rw [if_pos rfl]
  exact h
abbrev s__law_wide_course : Stmt := top 51
abbrev N__law_wide_course : List Str := ["_law_store_here", "_law_starts", "_law_k", "_law_course_here", "_law_one", "_law_pace_here"]
theorem sc__law_wide_course : FnScope N__law_wide_course ["_law_store_here"] (defScope s__law_wide_course) := ⟨rfl, rfl, rfl, by decide +kernel, rfl, by decide +kernel, by decide +kernel⟩
abbrev ps__law_wide_course : List Str := ["_law_store_here"]
def spWide (K : PySem.W.Frag) (l : Addr) : Sp := fun vs H Q _ => ∃ (s : Addr), vs = [.ref s] ∧ Sto l s H ∧
  ∀ D us c H', Bun (Pq K) l s D H us c H' → 1 ≤ c.length → c.length ≤ 40 → Cok c → Cz 40 40 40 c → Q (.ref D) H'
theorem abs_nf {q : Rat} (h : q.num ≠ 0) : (mkRat (q.num.natAbs : Int) q.den).num = (q.num.natAbs : Int) ∧ (mkRat (q.num.natAbs : Int) q.den).den = q.den := nf q.den_nz (by rw [Int.natAbs_natCast]; exact q.reduced)
theorem ok_wide (T : Bn mg) (F : Fn K mg "_law_wide_course" s__law_wide_course ps__law_wide_course f fd) (d_law_ordered : Def P w K mg base k "_law_ordered" ["_law_fracs"] (spOrdered K) f1 fd1) (d_law_take : Def P w K mg base k "_law_take" ["_law_store_here", "_law_many"] (spTake K l) f2 fd2)
    (d_law_ratio : Def P w K mg base k "_law_ratio" ["_law_store_here", "_law_top"] (spRatio K l) f3 fd3) : Def P w K mg base (k + 1) "_law_wide_course" ps__law_wide_course (spWide K l) f fd := by
  refine ⟨F.F.ok sc__law_wide_course (fun vs H Q E h => ?_) (fun cdv A outer s H vs Q E hr h => ?_), F.m, F.F.kp, F.b⟩
  · obtain ⟨_, rfl, _⟩ := h
    rfl
  obtain ⟨s, rfl, hS, z⟩ := h
  refine ⟨_, (pss_cons (ps_set (i := 1) sc__law_wide_course.nd rfl (Or.inl rfl) (pcall d_law_ordered hr (pa_cons (pe_lc (own := [("_law_k", 2)]) (g := gName 2) (tt := tYes) rfl sc__law_wide_course.nd (pi_range1 (by rfl) T.range_ (pa_cons (pe_op op_add pe_int (pcall d_law_take hr (pa_cons (pv 0) (pa_cons pe_int pa_nil)))) pa_nil)) (blkOk_by (N := N__law_wide_course) (sc := defScope s__law_wide_course) (by decide +kernel)) (fun _ _ _ _ _ => pg_name (i := 2) sc__law_wide_course.nd rfl (Or.inl rfl)) (fun _ _ _ _ _ => pts_nil) (fun _ _ _ _ _ => (pcall d_law_ratio hr (pa_cons (pv 0) (pa_cons (pe_op op_sub (pe_op op_pow pe_int pe_int) pe_int) pa_nil))))) pa_nil)))
      (pss_cons (ps_set (i := 3) sc__law_wide_course.nd rfl (Or.inl rfl) (pe_lst pa_nil))
      (pss_cons (ps_for PassesOwn.never rfl (pi_list (pv 1)) (pg_name (i := 4) sc__law_wide_course.nd rfl (Or.inl rfl))
        (pss_cons (ps_set (i := 5) sc__law_wide_course.nd rfl (Or.inl rfl) (pcall d_law_ratio hr (pa_cons (pv 0) (pa_cons (pe_op op_sub (pe_op op_pow pe_int pe_int) pe_int) pa_nil))))
        (pss_cons (ps_set (i := 5) sc__law_wide_course.nd rfl (Or.inl rfl) (pe_ifExp (pt_cmpR op_ne (pe_ix ix_tup (pv 5) pe_int (fun _ _ => rfl)) pe_int (nomark _)) (pe_tup (pa_cons (pe_callB (call_max2 rfl) (by rfl) T.max_ (by decide +kernel) (pa_cons pe_int (pa_cons (pe_callB call_abs (by rfl) T.abs_ (by decide +kernel) (pa_cons (pe_ix ix_tup (pv 5) pe_int (fun _ _ => rfl)) pa_nil)) pa_nil))) (pa_cons (pe_ix ix_tup (pv 5) pe_int (fun _ _ => rfl)) pa_nil))) (pe_tup (pa_cons pe_int (pa_cons (pe_op op_sub (pe_op op_pow pe_int pe_int) pe_int) pa_nil)))))
        (pss_one (ps_expr (pe_bm PySem.F.plainAttrs_list PySem.F.slot_list_append PySem.F.type_list_append mt_append (pv 3) (pa_cons (pe_tup (pa_cons (pv 4) (pa_cons (pcall d_law_ratio hr (pa_cons (pv 0) (pa_cons (pe_op op_sub (pe_op op_pow pe_int pe_int) pe_int) pa_nil))) (pa_cons (pv 5) pa_nil)))) pa_nil)))))))
      (pss_one (ps_ret (pv 3)))))), ?_⟩
  have p62 : (2 : Int) ^ 62 = 4611686018427387904 := by decide
  have pw : (0 : Int) ≤ 12 ∧ (12 : Int) ≤ 1000000 ∧ (10 : Int).natAbs < 2 ^ 64 := ⟨by decide, by decide, by decide⟩
  have top : ∀ n : Int, n = 10 ^ ((12 : Int).toNat) - 1 → 1 ≤ n ∧ n < 2 ^ 40 := fun n e => by subst e; exact ⟨by decide, by decide⟩
  -- the starts
  refine ⟨_, rfl, s, 3, rfl, hS, by decide, fun r H1 r0 r1 S1 e1 => ⟨_, _, rfl, rfl, ?_⟩⟩
  obtain ⟨n, en⟩ : ∃ n : Nat, (n : Int) = 1 + r := ⟨(1 + r).toNat, by omega⟩
  refine ⟨_, rfl, by omega, by omega, fun D hD => lc_range (lo := 0) (n := (1 + r).toNat) (fun i G => ∃ (us : List V) (qs : List Rat), Bun (Rq K) l s D H us qs G ∧ qs.length = i ∧ ∀ q ∈ qs, Sz 40 q)
    ⟨[], [], Bun.start S1 e1 hD, rfl, nofun⟩ ?_ ?_⟩
  · rintro i G hi ⟨us, qs, B, hl, zq⟩
    have ha : us.length ≤ 1000 := by have := B.len; omega
    refine ⟨rfl, tyes ?_⟩
    refine ⟨_, rfl, _, _, rfl, rfl, pw, _, _, rfl, rfl, s, _, rfl, B.1, (top _ rfl).1, (top _ rfl).2, fun v G1 qv S' e' => ?_⟩
    obtain ⟨q, rq, zq1, _⟩ := qv
    have B1 := B.fr lastsQ e' S'
    refine ⟨us, B1.at, le1000 ha, _, _, B1.app lastsQ rq, by rw [List.length_append, hl]; rfl, fun x hx => ?_⟩
    rcases List.mem_append.mp hx with hx | hx
    · exact zq x hx
    · rw [List.mem_singleton.mp hx]
      exact zq1
  rintro G0 ⟨us, qs, B, hl, zq⟩
  refine ⟨D, us, qs, rfl, SqL.of B.at, B.all, zq, by omega, fun D2 us2 os G1 e2 hD2 hD2' hos asc sub len ne => ?_⟩
  have S1 := B.1.same e2
  have f1 : Fr s H G1 := B.2.1.trans (Fr.of e2)
  have n2s : D2 ≠ s := B.1.ne hD2
  have ln2 := hos.1
  refine ⟨Nat.zero_le _, fun D3 hD3 => ?_⟩
  have s3 := same_new hD3 (.lst [])
  have n23 : D2 ≠ D3 := fun e => by rw [e, hD3] at hD2'; cases hD2'
  refine ⟨_, rfl, D2, rfl, ⟨_, SqL.of (s3 _ _ hD2')⟩, for_list (K := K) (a := D2) (xs := us2) (fun i σ G => ∃ (us3 : List V) (c : List Pc) (k2 k4 k5 : Option V), σ = [some (.ref s), some (.ref D2), k2, some (.ref D3), k4, k5] ∧ Bun (Pq K) l s D3 H us3 c G ∧ G D2 = some (.lst us2) ∧ All2 (Rq K G) us2 os ∧ c.map (·.s) = os.take i ∧ Cok c ∧ Cz 40 40 40 c)
    ⟨[], [], _, _, _, rfl, Bun.start S1 f1 hD3, s3 _ _ hD2', hos.imp fun _ _ h => h.same s3, by rw [List.take_zero]; rfl, ⟨nofun, fun i p q h => by simp at h⟩, nofun⟩ (fun i σ G _ h => by obtain ⟨_, _, _, _, _, _, _, h, _⟩ := h; exact SqL.of h) ?_ ?_⟩
  · rintro i x σ G hxi ⟨us3, c, k2, k4, k5, rfl, B, h2, ho, hm, ok, cz⟩
    have hi : i < os.length := by rw [← ln2]; exact (List.getElem?_eq_some_iff.mp hxi).1
    have hoi : os[i]? = some os[i] := List.getElem?_eq_getElem hi
    have rx := ho.2 i x _ hxi hoi
    have hcl : c.length = i := by have := congrArg List.length hm; rw [List.length_map, List.length_take] at this; omega
    have hul := B.len
    refine ⟨_, rfl, _, _, rfl, rfl, pw, _, _, rfl, rfl, s, _, rfl, B.1, (top _ rfl).1, (top _ rfl).2, fun pv G2 qp S2 e2 => ?_⟩
    have B2 := B.fr lastsP e2 S2
    have h2' := e2 _ _ h2 n2s
    have ho2 := ho.imp fun _ _ h => Rq.fr e2 B.1.some h
    have rx2 := rx.fr e2 B.1.some
    obtain ⟨qp, rp, zp, _⟩ := qp
    dsimp only [gName]
    refine cut (fun σ' G' => ∃ (pv' : V), σ' = [some (.ref s), some (.ref D2), k2, some (.ref D3), some x, some pv'] ∧ Same G2 G' ∧ Qd K 40 posQ G' pv') ?_ ?_
    · rintro σ' G3 ⟨pv', rfl, e3, qp3⟩
      have B3 := B2.same lastsP e3
      refine ⟨_, rfl, .inl ⟨rfl, _, SqL.of B3.at⟩, _, rfl, _, rfl, _, _, rfl, rfl, pw, _, _, rfl, rfl, s, _, rfl, B3.1, (top _ rfl).1, (top _ rfl).2, fun vv G4 qv S4 e4 => ⟨_, rfl, sm3, fun T hT => ?_⟩⟩
      have B4 := B3.fr lastsP e4 S4
      have t5 := same_new hT (.tup [x, vv, pv'])
      have B5 := B4.same lastsP t5
      obtain ⟨q4, r4, z4, p4⟩ := qp3
      obtain ⟨q5, r5, z5, _⟩ := qv
      have rx4 := (rx2.same e3).fr e4 B3.1.some
      have B6 := B5.app lastsP (x := .ref T) (p := ⟨os[i], q5, q4⟩) ⟨T, x, vv, pv', rfl, SqT.of upd_same, rx4.same t5, r5.same t5, (r4.fr e4 B3.1.some).same t5⟩
      have fr6 : Fr D3 (upd G4 T (.tup [x, vv, pv'])) (upd (upd G4 T (.tup [x, vv, pv'])) D3 (.lst (us3 ++ [.ref T]))) := Fr.upd _
      have zo : Sz 40 os[i] := zq _ (sub _ (List.getElem_mem hi))
      refine ⟨D3, _, _, rfl, rfl, B5.at, le1000 (by omega), _, _, _, _, _, rfl, B6, ?_, ?_, ?_, ok.snoc (fun p hp => ?_) p4, cz.snoc ⟨zo, z5, z4⟩⟩
      · rw [upd_ne n23]
        exact t5 _ _ (e4 _ _ (e3 _ _ h2') n2s)
      · exact ho2.imp fun _ _ h => (((h.same e3).fr e4 B3.1.some).same t5).fr fr6 ⟨_, B5.at⟩
      · rw [List.map_append, hm, List.take_add_one, hoi]
        rfl
      · have hp' : p.s ∈ os.take i := by rw [← hm]; exact List.mem_map_of_mem hp
        obtain ⟨t, ht, et⟩ := List.mem_iff_getElem.mp hp'
        rw [List.length_take] at ht
        rw [List.getElem_take] at et
        exact asc_at asc (by rw [← et]; exact List.getElem?_eq_getElem (by omega)) hoi (by omega)
    · intro key
      obtain ⟨t, rfl, ht⟩ := id rp
      refine ⟨_, rfl, t, _, _, _, rfl, rfl, ht, at0 rfl, rfl, _, rfl, ?_⟩
      by_cases g : qp.num = 0
      · refine ifF (by rw [dT (congrArg V.int g)]; rfl) ⟨_, _, rfl, rfl, pw, _, _, rfl, rfl, sz2, fun T hT => ?_⟩
        exact key _ _ ⟨_, rfl, same_new hT _, Qd.new 1 _ (mkRat 1 (10 ^ 12 - 1)) (by decide +kernel) (by decide +kernel) (by decide +kernel) (by decide +kernel)⟩
      · refine ifT (by rw [dF fun e => g (V.int.inj e)]; rfl) ⟨_, rfl, t, _, _, _, rfl, rfl, ht, at0 rfl, _, rfl, _, _, rfl, _, rfl, t, _, _, _, rfl, rfl, ht, at1 rfl, sz2, fun T hT => ?_⟩
        have nfq := abs_nf g
        refine key _ _ ⟨_, rfl, same_new hT _, Qd.new _ _ (mkRat (qp.num.natAbs : Int) qp.den) ?_ ?_ ?_ ?_⟩
        · rw [nfq.1]
          (repeat' split) <;> omega
        · rw [nfq.2]
        · exact ⟨by rw [nfq.1, Int.natAbs_natCast]; exact zp.1, by rw [nfq.2]; exact zp.2⟩
        · exact pos_of_num (by rw [nfq.1]; omega)
  · rintro σ G ⟨us3, c, k2, k4, k5, rfl, B, h2, ho, hm, ok, cz⟩
    rw [ln2, List.take_length] at hm
    have hcl := congrArg List.length hm
    rw [List.length_map] at hcl
    have on := ne (fun e => by rw [e] at hl; simp at hl; omega)
    have := List.length_pos_iff.mpr on
    exact ⟨_, rfl, z D3 us3 c G B (by omega) (by omega) ok cz⟩
end Vk
namespace Vk
open PySem L2 Vm
/-! ### the mathematics of hits -/
theorem cok_lt {c : List Pc} (h : Cok c) : ∀ {j i : Nat} {p q : Pc}, i < j → c[i]? = some p → c[j]? = some q → p.s < q.s
  | 0, i, p, q, hij, _, _ => absurd hij (by omega)
  | j + 1, i, p, q, hij, hp, hq => by
    have hj : j < c.length := by have := (List.getElem?_eq_some_iff.mp hq).1; omega
    have e : c[j]? = some c[j] := List.getElem?_eq_getElem hj
    have h2 := h.2 j _ _ e hq
    by_cases hi : i = j
    · subst hi
      rw [e] at hp
      cases hp
      exact h2
    · exact rlt_trans (cok_lt h (by omega) hp e) h2
theorem hit_some {c : List Pc} {q t : Rat} {k : Nat} (h : hit c q k = some t) : ∃ p, c[k]? = some p ∧ t = tm p q ∧ p.s ≤ t ∧ before c (k + 1) t = true := by
  unfold hit at h
  cases e : c[k]? with
  | none => rw [e] at h; cases h
  | some p =>
    rw [e] at h
    dsimp only at h
    split at h
    · rename_i g
      cases h
      exact ⟨p, rfl, rfl, g.1, g.2⟩
    · cases h
/-- t lies in the k-th stretch -/
def inI (c : List Pc) (k : Nat) (t : Rat) : Bool := (match c[k]? with
  | none => false
  | some p => !decide (t < p.s)) && before c (k + 1) t
theorem before_lt {c : List Pc} {k : Nat} {t : Rat} {p : Pc} (h : before c k t = true) (e : c[k]? = some p) : t < p.s := by
  unfold before at h
  rw [e] at h
  exact of_decide_eq_true h
theorem hit_in {c : List Pc} {q t : Rat} {k : Nat} (h : hit c q k = some t) : inI c k t = true := by
  obtain ⟨p, e, _, h1, h2⟩ := hit_some h
  unfold inI
  rw [e, h2]
  have : ¬ t < p.s := by grind
  simp [this]
theorem hit_out {c : List Pc} (ok : Cok c) {q t : Rat} {k n : Nat} (h : hit c q n = some t) (hk : k ≠ n) : inI c k t = false := by
  obtain ⟨p, e, _, h1, h2⟩ := hit_some h
  unfold inI
  cases e2 : c[k]? with
  | none => rfl
  | some p2 =>
    dsimp only
    by_cases g : k < n
    · have hk1 : k + 1 < c.length := by have := (List.getElem?_eq_some_iff.mp e).1; omega
      have e3 : c[k + 1]? = some c[k + 1] := List.getElem?_eq_getElem hk1
      have : c[k + 1].s ≤ p.s := by
        by_cases g2 : k + 1 = n
        · subst g2
          rw [e3] at e
          cases e
          exact Rat.le_refl
        · have := cok_lt ok (show k + 1 < n by omega) e3 e
          grind
      have nb : before c (k + 1) t = false := by
        unfold before
        rw [e3]
        exact dF (by grind)
      rw [nb, Bool.and_false]
    · have h3 : before c (n + 1) t = true := h2
      have hn1 : n + 1 < c.length := by have := (List.getElem?_eq_some_iff.mp e2).1; omega
      have e3 : c[n + 1]? = some c[n + 1] := List.getElem?_eq_getElem hn1
      have h4 := before_lt h3 e3
      have : c[n + 1].s ≤ p2.s := by
        by_cases g2 : n + 1 = k
        · subst g2
          rw [e3] at e2
          cases e2
          exact Rat.le_refl
        · have := cok_lt ok (show n + 1 < k by omega) e3 e2
          grind
      have : t < p2.s := by grind
      simp [this]
theorem hits_in {c : List Pc} (ok : Cok c) (q : Rat) (k : Nat) : ∀ n, (hits c q n).filter (inI c k) = if k < n then (hit c q k).toList else []
  | 0 => by simp [hits]
  | n + 1 => by
    rw [hits_succ, List.filter_append, hits_in ok q k n]
    cases h : hit c q n with
    | none =>
      simp only [Option.toList, List.filter_nil, List.append_nil]
      by_cases e : k = n
      · subst e
        rw [if_neg (by omega), if_pos (by omega), h]
      · by_cases g : k < n
        · rw [if_pos g, if_pos (by omega)]
        · rw [if_neg g, if_neg (by omega)]
    | some t =>
      simp only [Option.toList]
      by_cases e : k = n
      · subst e
        rw [if_neg (by omega), if_pos (by omega), h, List.nil_append]
        simp [hit_in h]
      · have := hit_out ok h e
        simp only [List.filter_cons, this, Bool.false_eq_true, if_false, List.filter_nil, List.append_nil]
        by_cases g : k < n
        · rw [if_pos g, if_pos (by omega)]
        · rw [if_neg g, if_neg (by omega)]
theorem hits_mem {c : List Pc} {q t : Rat} {n : Nat} (h : t ∈ hits c q n) : ∃ k, k < n ∧ hit c q k = some t := by
  unfold hits at h
  obtain ⟨k, hk, e⟩ := List.mem_filterMap.mp h
  exact ⟨k, List.mem_range.mp hk, e⟩
theorem hits_asc {c : List Pc} (ok : Cok c) (q : Rat) : ∀ n, Asc (hits c q n)
  | 0 => by unfold hits; exact List.Pairwise.nil
  | n + 1 => by
    rw [hits_succ]
    unfold Asc
    rw [List.pairwise_append]
    refine ⟨hits_asc ok q n, ?_, fun a ha b hb => ?_⟩
    · cases hit c q n <;> simp [Option.toList]
    · cases h : hit c q n with
      | none => rw [h] at hb; cases hb
      | some t =>
        rw [h] at hb
        simp only [Option.toList, List.mem_singleton] at hb
        subst hb
        obtain ⟨k, hk, e⟩ := hits_mem ha
        obtain ⟨p, e1, _, g1, g2⟩ := hit_some e
        obtain ⟨p2, e2, _, g3, _⟩ := hit_some h
        have hn := (List.getElem?_eq_some_iff.mp e2).1
        have e3 : c[k + 1]? = some c[k + 1] := List.getElem?_eq_getElem (by omega)
        have g4 := before_lt g2 e3
        have : c[k + 1].s ≤ p2.s := by
          by_cases g5 : k + 1 = n
          · subst g5
            rw [e3] at e2
            cases e2
            exact Rat.le_refl
          · have := cok_lt ok (show k + 1 < n by omega) e3 e2
            grind
        grind
theorem tm_ge {p : Pc} {q : Rat} (r : 0 < p.r) : p.s ≤ tm p q ↔ p.v ≤ q := by
  have h : (q - p.v) / p.r * p.r = q - p.v := Rat.div_mul_cancel (by grind)
  unfold tm
  constructor
  · intro g
    have g1 : 0 ≤ (q - p.v) / p.r := by grind
    have g2 := Rat.mul_nonneg g1 (Rat.le_of_lt r)
    grind
  · intro g
    have g2 : ¬ (q - p.v) / p.r < 0 := fun z => by
      have := (Rat.mul_lt_mul_right r).mpr z
      grind
    grind
theorem tm_lt {p : Pc} {q s : Rat} (r : 0 < p.r) : tm p q < s ↔ q < p.v + p.r * (s - p.s) := by
  have h : (q - p.v) / p.r * p.r = q - p.v := Rat.div_mul_cancel (by grind)
  have e : tm p q < s ↔ (q - p.v) / p.r < s - p.s := by
    unfold tm
    constructor <;> intro g <;> grind
  rw [e, ← Rat.mul_lt_mul_right r, h]
  constructor <;> intro g <;> grind
theorem tm_back {p : Pc} {q : Rat} (r : 0 < p.r) : p.v + p.r * (tm p q - p.s) = q := by
  have h : (q - p.v) / p.r * p.r = q - p.v := Rat.div_mul_cancel (by grind)
  unfold tm
  grind
theorem filter_take {α : Type} (g : α → Bool) : ∀ {c : List α} {m : Nat}, (∀ i x, c[i]? = some x → (g x = true ↔ i < m)) → c.filter g = c.take m
  | [], m, _ => by simp
  | x :: r, 0, h => by
    have h0 := h 0 x rfl
    have : g x = false := by
      cases e : g x with
      | false => rfl
      | true => exact absurd (h0.mp e) (by omega)
    rw [List.filter_cons, this]
    simp only [Bool.false_eq_true, if_false]
    rw [filter_take g (m := 0) fun i y hy => by
      have := h (i + 1) y hy
      constructor
      · intro z; exact absurd (this.mp z) (by omega)
      · intro z; omega]
    simp
  | x :: r, m + 1, h => by
    have h0 := (h 0 x rfl).mpr (by omega)
    rw [List.filter_cons, if_pos h0, List.take_succ_cons, filter_take g (m := m) fun i y hy => by
      have := h (i + 1) y hy
      constructor
      · intro z; have := this.mp z; omega
      · intro z; exact this.mpr (by omega)]
theorem now_hit {c : List Pc} (ok : Cok c) {q t : Rat} {k : Nat} (h : hit c q k = some t) : nowf c t = some q := by
  obtain ⟨p, e, et, h1, h2⟩ := hit_some h
  have hk := (List.getElem?_eq_some_iff.mp e).1
  have ef : c.filter (on t) = c.take (k + 1) := filter_take _ fun i x hx => by
    unfold on
    constructor
    · intro z
      refine Nat.lt_of_not_le fun g => ?_
      have hk1 : k + 1 < c.length := by have := (List.getElem?_eq_some_iff.mp hx).1; omega
      have e3 : c[k + 1]? = some c[k + 1] := List.getElem?_eq_getElem hk1
      have h4 := before_lt h2 e3
      have : c[k + 1].s ≤ x.s := by
        by_cases g5 : k + 1 = i
        · subst g5
          rw [e3] at hx
          cases hx
          exact Rat.le_refl
        · have := cok_lt ok (show k + 1 < i by omega) e3 hx
          grind
      have : t < x.s := by grind
      simp [this] at z
    · intro z
      have : x.s ≤ p.s := by
        by_cases g5 : i = k
        · subst g5
          rw [e] at hx
          cases hx
          exact Rat.le_refl
        · have := cok_lt ok (show i < k by omega) hx e
          grind
      have : ¬ t < x.s := by grind
      simp [this]
  unfold nowf
  rw [ef, List.getLast?_eq_getElem?, List.length_take, List.getElem?_take]
  have e1 : min (k + 1) c.length - 1 = k := by omega
  rw [e1, if_pos (by omega), e]
  show some (p.v + p.r * (t - p.s)) = some q
  rw [et, tm_back (ok.1 p (List.mem_of_getElem? e))]
/-- whether the k-th piece shows the reading -/
theorem due_hit {c : List Pc} (ok : Cok c) {q : Rat} {k : Nat} {p : Pc} (e : c[k]? = some p) : (hit c q k).isSome = (!decide (q < p.v) && (match lim c k with
  | none => true
  | some b => decide (q < b))) := by
  have r := ok.1 p (List.mem_of_getElem? e)
  unfold hit lim
  rw [e]
  dsimp only
  have h1 := tm_ge (p := p) (q := q) r
  cases e2 : c[k + 1]? with
  | none =>
    have hb : before c (k + 1) (tm p q) = true := by unfold before; rw [e2]
    rw [hb]
    dsimp only
    by_cases g : q < p.v
    · have : ¬ p.s ≤ tm p q := fun z => by have := h1.mp z; grind
      simp [this, g]
    · have : p.s ≤ tm p q := h1.mpr (by grind)
      simp [this, g]
  | some p2 =>
    have h2 := tm_lt (p := p) (q := q) (s := p2.s) r
    have hb : before c (k + 1) (tm p q) = decide (tm p q < p2.s) := by unfold before; rw [e2]
    rw [hb]
    dsimp only
    by_cases g : q < p.v
    · have : ¬ p.s ≤ tm p q := fun z => by have := h1.mp z; grind
      simp [this, g]
    · have a1 : p.s ≤ tm p q := h1.mpr (by grind)
      by_cases g2 : tm p q < p2.s
      · have := h2.mp g2
        simp [a1, g, g2, this]
      · have : ¬ q < p.v + p.r * (p2.s - p.s) := fun z => g2 (h2.mpr z)
        simp [a1, g, g2, this]
theorem opt_len {α : Type} (o : Option α) : o.toList.length = if o.isSome = true then 1 else 0 := by cases o <;> rfl
theorem row_last {c : List Pc} (ok : Cok c) {q : Rat} {k : Nat} {p : Pc} (e : c[k]? = some p) (e2 : c[k + 1]? = none) :
    ((hits c q c.length).filter fun t => !decide (t < p.s)).length = if (!decide (q < p.v)) = true then 1 else 0 := by
  have hk := (List.getElem?_eq_some_iff.mp e).1
  have h1 := hits_in ok q k c.length
  rw [if_pos hk] at h1
  have h2 : (fun t => !decide (t < p.s)) = inI c k := by
    funext t
    unfold inI before
    rw [e, e2]
    simp
  have h3 := due_hit ok (q := q) e
  unfold lim at h3
  rw [e, e2] at h3
  dsimp only at h3
  rw [Bool.and_true] at h3
  rw [h2, h1, opt_len, h3]
theorem row_more {c : List Pc} (ok : Cok c) {q : Rat} {k : Nat} {p p2 : Pc} (e : c[k]? = some p) (e2 : c[k + 1]? = some p2) :
    (((hits c q c.length).filter fun t => !decide (t < p.s)).filter fun t => decide (t < p2.s)).length = if (!decide (q < p.v) && decide (q < p.v + p.r * (p2.s - p.s))) = true then 1 else 0 := by
  have hk := (List.getElem?_eq_some_iff.mp e).1
  have h1 := hits_in ok q k c.length
  rw [if_pos hk] at h1
  have h2 : (fun t => decide (t < p2.s) && !decide (t < p.s)) = inI c k := by
    funext t
    unfold inI before
    rw [e, e2]
    exact Bool.and_comm _ _
  have h3 := due_hit ok (q := q) e
  unfold lim at h3
  rw [e, e2] at h3
  dsimp only at h3
  rw [List.filter_filter, h2, h1, opt_len, h3]
end Vk
namespace Vk
open PySem L2 Vm
variable {l : Addr} {P : Program} {w : World} {K : PySem.W.Frag} {mg : Str → Option Value} {base : Heap} {k : Nat} {f f1 f2 f3 f4 f5 f6 f7 f8 f9 : Addr} {fd fd1 fd2 fd3 fd4 fd5 fd6 fd7 fd8 fd9 : FuncData}
theorem sz_hit {i j m n : Nat} {c : List Pc} (ok : Cok c) (cz : Cz i j m c) {q t : Rat} (zq : Sz n q) {k : Nat} (h : hit c q k = some t) : Sz (i + (n + j + 1 + m) + 1) t := by
  obtain ⟨p, e, rfl, _, _⟩ := hit_some h
  have hm := List.mem_of_getElem? e
  obtain ⟨z1, z2, z3⟩ := cz p hm
  exact z1.add ((zq.sub z2).div z3 (ok.1 p hm))
def spTR (K : PySem.W.Frag) : Sp := fun vs H Q _ => ∃ (a b : Addr) (y : V) (us : List V) (c : List Pc) (q : Rat) (i j l m : Nat), vs = [.ref a, y, .ref b] ∧ Cq K H a c ∧ Rq K H y q ∧ SqL K H b us ∧ All2 (Rq K H) us (hits c q c.length) ∧ Cok c ∧ Cz i j l c ∧ Sz m q ∧ c.length ≤ 1000 ∧ i + i + j + j + l + l + m + 20 ≤ 9000 ∧
  ∀ H', Same H H' → Q (.bl true) H'
end Vk
namespace Vk
open PySem PySem.Spec PyProof.Rows L2
section
variable {X : Cx}
/-- xs.count(y), data of any depth -/
def rCountD (K : PySem.W.Frag) : V → List V → Hp → VK → Prop := fun x xs H Q => ∃ (a : Addr) (y : V) (d : PyData) (ds : List PyData), x = V.ref a ∧ xs = [y] ∧ Dp K H (V.ref a) (.list ds) ∧ Dp K H y d ∧
  SeqAt.shaped (.list ds) = true ∧ SeqAt.shaped d = true ∧ Q (.int ((ds.countP fun z => PyData.eqv z d : Nat) : Int)) H
theorem mt_countD (hu : X.A.units + 65 < cLine) : MtR X "list.count" (rCountD X.K) := by
  intro pins s σ H x xs v us Q I rx rxs h
  obtain ⟨a, y, d, ds, rfl, rfl, hl, hy, sl, sd, q⟩ := h
  cases rx
  cases rxs with
  | cons ry rt =>
    rename_i uy ut
    cases rt
    obtain ⟨bs, r1⟩ := Dp.reads I d y uy hy ry
    have hxs : PyData.canLayAll0 ds = true := SeqAt.canLay_of_shaped sl
    have hroom : X.A.units + 1 + min (PyData.depthAll ds) d.depth < cLine := room_in_shaped sd hu
    cases hl with
    | lst hs ha =>
      obtain ⟨its, rv, ⟨⟨cls, dd, data, sls⟩, n, ho, hc, hdn, hdt⟩, hlen⟩ := I.list hs
      simp only at hc hdt
      subst hc hdt
      obtain ⟨as, h4⟩ := Dp.readsAll I ds _ its ha rv
      have hmap : its.map (SeqAt.readOf s.heap) = ds := SeqAt.readsAll_map ds its as hxs h4
      refine call_meets PySem.F.slot_list_count ⟨_, ho, rfl⟩ PySem.F.entry_list_count (PySem.F.args_list_count_2 _ _)
        (SeqAt.list_countAt a its.toArray n dd sls uy (fun u => PyData.eqv (SeqAt.readOf s.heap u) d)) ⟨ho, SeqAt.items_eqAt (vs := its.toArray) (show ReadsAll s.heap its.toArray.toList ds as from h4) r1 hxs (SeqAt.canLay_of_shaped sd) hroom, ?_⟩
      refine ⟨.int ((ds.countP fun z => PyData.eqv z d : Nat) : Int), H, I.tok _, ⟨s.toks, ?_⟩, q⟩
      have e : (its.toArray.toList.countP fun u => PyData.eqv (SeqAt.readOf s.heap u) d) = ds.countP fun z => PyData.eqv z d := by
        rw [← hmap, List.countP_map]
        rfl
      show Value.int ((its.toArray.toList.countP (fun u => PyData.eqv (SeqAt.readOf s.heap u) d) : Nat) : Int) s.toks = _
      rw [e]
end
end Vk
namespace Vk
open PySem L2 Vm
variable {l : Addr} {P : Program} {w : World} {K : PySem.W.Frag} {mg : Str → Option Value} {base : Heap} {k : Nat} {f f1 f2 f3 f4 f5 f6 f7 f8 f9 : Addr} {fd fd1 fd2 fd3 fd4 fd5 fd6 fd7 fd8 fd9 : FuncData}
theorem sm1 : 1 ≤ sizeLine := by decide
theorem Bun.made {α : Type} {R : Hp → V → α → Prop} {s D : Addr} {H0 G : Hp} {us : List V} {c : List α} (S : Sto l s G) (e : Fr s H0 G) (hD : G D = none) (h : All2 (R (upd G D (.lst us))) us c) : Bun R l s D H0 us c (upd G D (.lst us)) := by
  have nD := S.ne hD
  have f := same_new hD (.lst us)
  exact ⟨S.same f, e.trans (Fr.of f), nD, S.nl hD, e.free hD nD, upd_same, h⟩
/-- a tracked list with a course -/
def Ct (K : PySem.W.Frag) (H : Hp) (a : Addr) (xs : List V) (c : List Pc) : Prop := H a = some (.lst xs) ∧ All2 (Pq K H) xs c
theorem Ct.cq {H : Hp} {a : Addr} {xs : List V} {c : List Pc} (h : Ct K H a xs c) : Cq K H a c := ⟨xs, SqL.of h.1, h.2⟩
theorem Ct.same {H H' : Hp} {a : Addr} {xs : List V} {c : List Pc} (e : Same H H') (h : Ct K H a xs c) : Ct K H' a xs c := ⟨e _ _ h.1, h.2.imp fun _ _ h => h.same e⟩
theorem Ct.fr {s : Addr} {H H' : Hp} {a : Addr} {xs : List V} {c : List Pc} (e : Fr s H H') (hs : ∃ ys, H s = some (.lst ys)) (n : a ≠ s) (h : Ct K H a xs c) : Ct K H' a xs c := ⟨e _ _ h.1 n, h.2.imp fun _ _ h => h.fr e hs⟩
theorem all2_3 {α : Type} {R : V → α → Prop} {x y z : V} {a b c : α} (h1 : R x a) (h2 : R y b) (h3 : R z c) : All2 R [x, y, z] [a, b, c] := (((All2.nil.snoc h1).snoc h2).snoc h3 : All2 R ([] ++ [x] ++ [y] ++ [z]) ([] ++ [a] ++ [b] ++ [c]))
def spValues (K : PySem.W.Frag) (l : Addr) : Sp := fun vs H Q _ => ∃ (s a : Addr) (xs : List V) (c : List Pc), vs = [.ref s, .ref a] ∧ Sto l s H ∧ a ≠ s ∧ a ≠ l ∧ Ct K H a xs c ∧ Cz 245 925 5 c ∧ 1 ≤ c.length ∧ c.length ≤ 1000 ∧
  ∀ D us qs H', Bun (Rq K) l s D H us qs H' → (∀ q ∈ qs, Sz 2350 q) → 0 < qs.length → qs.length ≤ 100 → Q (.ref D) H'
end Vk
namespace Vk
open PySem L2 Vm
variable {l : Addr} {P : Program} {w : World} {K : PySem.W.Frag} {mg : Str → Option Value} {base : Heap} {k : Nat} {f f1 f2 f3 f4 f5 f6 f7 f8 f9 f10 f11 f12 f13 f14 : Addr} {fd fd1 fd2 fd3 fd4 fd5 fd6 fd7 fd8 fd9 fd10 fd11 fd12 fd13 fd14 : FuncData}
theorem hu65 {k : Nat} {A : Around} (hr : Room k A) : A.units + 65 < cLine := by have := hr.un; omega
/-- a promise with something left open -/
def exS {α : Type} (sp : α → Sp) : Sp := fun vs H Q E => ∃ x, sp x vs H Q E
theorem Def.ex {α : Type} [Inhabited α] {x : Str} {ps : List Str} {sp : α → Sp} (h : ∀ a, Def P w K mg base k x ps (sp a) f fd) : Def P w K mg base k x ps (exS sp) f fd :=
  ⟨⟨fun vs H Q E ⟨a, z⟩ => (h a).ok.len vs H Q E z, fun A outer s H args us vs Q E hr he hb hv ⟨a, z⟩ => (h a).ok.run A outer s H args us vs Q E hr he hb hv z⟩, (h default).m, (h default).kp, (h default).b⟩
theorem ixN_last {n : Nat} (h : 0 < n) {i : Int} (e : i = (n : Int) - 1) : ixN n i = some (n - 1) := by
  subst e
  unfold ixN
  rw [if_pos (by omega), if_pos (by omega)]
  congr 1
  omega
/-! ### data -/
def dpc (p : Pc) : PyData := .tuple [dq p.s, dq p.v, dq p.r]
theorem Pq.dp {H : Hp} {v : V} {p : Pc} (h : Pq K H v p) : Dp K H v (dpc p) := by
  obtain ⟨a, xs, xv, xr, rfl, h, h1, h2, h3⟩ := h
  exact .tup h (.cons h1.dp (.cons h2.dp (.cons h3.dp .nil)))
theorem dpall_of {α : Type} {R : V → α → Prop} {d : α → PyData} {H : Hp} (g : ∀ v p, R v p → Dp K H v (d p)) : ∀ {xs : List V} {c : List α}, All2 R xs c → DpAll K H xs (c.map d)
  | [], [], _ => .nil
  | [], _ :: _, h => absurd h.1 (by simp)
  | _ :: _, [], h => absurd h.1 (by simp)
  | x :: xs, p :: c, h => .cons (g _ _ (h.2 0 x p rfl rfl)) (dpall_of g ⟨by have := h.1; simp at this; exact this, fun i x p a b => h.2 (i + 1) x p a b⟩)
theorem tree_dpc (n : Nat) (p : Pc) : Tree (n + 2) (dpc p) := .tup (by show 3 ≤ 1000; decide) fun d h => by
  simp only [List.mem_cons, List.mem_nil_iff, or_false] at h
  rcases h with rfl | rfl | rfl <;> exact tree_dq _ _
theorem depth_dqs : ∀ T : List Rat, PyData.depthAll (T.map dq) ≤ 2
  | [] => by simp [PyData.depthAll]
  | t :: T => by
    have := depth_dqs T
    simp only [List.map_cons, PyData.depthAll]
    have : (dq t).depth ≤ 2 := by show PyData.depth (.tuple [.int t.num, .int (t.den : Int)]) ≤ 2; simp [PyData.depth, PyData.depthAll]
    omega
theorem lay_dqs : ∀ T : List Rat, PyData.canLayAll0 (T.map dq) = true
  | [] => rfl
  | t :: T => by
    have := lay_dqs T
    show (PyData.canLay0 (dq t) && PyData.canLayAll0 (T.map dq)) = true
    rw [this]
    rfl
theorem sh_dqs (T : List Rat) : SeqAt.shaped (.list (T.map dq)) = true := by
  have h1 := depth_dqs T
  have h2 := lay_dqs T
  show (PyData.canLay0 (.list (T.map dq)) && decide (PyData.depth (.list (T.map dq)) ≤ 64)) = true
  have h3 : PyData.canLay0 (.list (T.map dq)) = true := h2
  have h4 : PyData.depth (.list (T.map dq)) ≤ 64 := by simp only [PyData.depth]; omega
  rw [h3, decide_eq_true h4]
  rfl
/-! ### the course whose last piece is set -/
theorem hits_set {c : List Pc} (ok : Cok c) (hn : 0 < c.length) {q : Rat} {p : Pc} (hp : c[c.length - 1]? = some p) (hv : p.v = q) : (hits c q c.length).countP (fun t => decide (t = p.s)) = 1 := by
  have r := ok.1 p (List.mem_of_getElem? hp)
  have et : tm p q = p.s := by
    unfold tm
    rw [hv, show q - q = 0 from Rat.sub_self, Rat.div_def, Rat.zero_mul]
    grind
  have eh : hit c q (c.length - 1) = some p.s := by
    unfold hit before
    rw [hp, List.getElem?_eq_none (show c.length ≤ c.length - 1 + 1 by omega)]
    simp only [et, and_true]
    rw [if_pos Rat.le_refl]
  have e1 : c.length = c.length - 1 + 1 := by omega
  have e2 : hits c q c.length = hits c q (c.length - 1) ++ [p.s] := by
    conv => lhs; rw [e1]
    rw [hits_succ, eh]
    rfl
  have z : ∀ t ∈ hits c q (c.length - 1), t < p.s := fun t ht => by
    obtain ⟨j, hj, e⟩ := hits_mem ht
    obtain ⟨p1, g1, _, _, g2⟩ := hit_some e
    have hj1 : j + 1 < c.length := by omega
    have e3 : c[j + 1]? = some c[j + 1] := List.getElem?_eq_getElem hj1
    have g3 := before_lt g2 e3
    by_cases g : j + 1 = c.length - 1
    · rw [← g] at hp
      rw [e3] at hp
      have := Option.some.inj hp
      rw [this] at g3
      exact g3
    · have := cok_lt ok (show j + 1 < c.length - 1 by omega) e3 hp
      grind
  rw [e2, List.countP_append, List.countP_eq_zero.mpr fun t ht => by
    have := z t ht
    have : ¬ t = p.s := by grind
    simp [this]]
  simp
theorem all2_set {α : Type} {R : V → α → Prop} {xs : List V} {c : List α} {x : V} {p : α} (h : All2 R xs c) (n : Nat) (r : R x p) : All2 R (xs.set n x) (c.set n p) := by
  refine ⟨by rw [List.length_set, List.length_set, h.1], fun i y q a b => ?_⟩
  by_cases e : n = i
  · subst e
    rw [List.getElem?_set] at a b
    simp only [if_true] at a b
    split at a
    · split at b
      · cases a
        cases b
        exact r
      · cases b
    · cases a
  · rw [List.getElem?_set_ne e] at a b
    exact h.2 i y q a b
theorem cok_set {c : List Pc} (ok : Cok c) {n : Nat} {p p' : Pc} (hp : c[n]? = some p) (hs : p'.s = p.s) (hr : p'.r = p.r) : Cok (c.set n p') := by
  have key : ∀ (i : Nat) (x : Pc), (c.set n p')[i]? = some x → ∃ y, c[i]? = some y ∧ x.s = y.s ∧ x.r = y.r := fun i x h => by
    by_cases e : n = i
    · subst e
      rw [List.getElem?_set] at h
      simp only [if_true] at h
      split at h
      · cases h
        exact ⟨p, hp, hs, hr⟩
      · cases h
    · rw [List.getElem?_set_ne e] at h
      exact ⟨x, h, rfl, rfl⟩
  refine ⟨fun x hx => ?_, fun i x y hx hy => ?_⟩
  · obtain ⟨i, hi, rfl⟩ := List.mem_iff_getElem.mp hx
    obtain ⟨y, e1, _, e2⟩ := key i _ (List.getElem?_eq_getElem hi)
    rw [e2]
    exact ok.1 y (List.mem_of_getElem? e1)
  · obtain ⟨x1, a1, b1, _⟩ := key i x hx
    obtain ⟨y1, a2, b2, _⟩ := key (i + 1) y hy
    rw [b1, b2]
    exact ok.2 i x1 y1 a1 a2
theorem cz_set {c : List Pc} {i j j' m : Nat} (cz : Cz i j m c) (hj : j ≤ j') {n : Nat} {p' : Pc} (h : Sz i p'.s ∧ Sz j' p'.v ∧ Sz m p'.r) : Cz i j' m (c.set n p') := fun x hx => by
  rcases List.mem_or_eq_of_mem_set hx with hx | rfl
  · obtain ⟨z1, z2, z3⟩ := cz x hx
    exact ⟨z1, z2.mono hj, z3⟩
  · exact h
/-! ### what stands while the law goes on -/
structure St0 (K : PySem.W.Frag) (l s D1 D2 D3 : Addr) (us1 us2 : List V) (c1 c2 : List Pc) (G : Hp) : Prop where
  st : Sto l s G
  a1 : Ct K G D1 us1 c1
  a2 : Ct K G D2 us2 c2
  a3 : Ct K G D3 us1 c1
  n1 : D1 ≠ s
  n2 : D2 ≠ s
  n3 : D3 ≠ s
  m3 : D3 ≠ l
  n31 : D3 ≠ D1
  n32 : D3 ≠ D2
theorem St0.same {s D1 D2 D3 : Addr} {us1 us2 : List V} {c1 c2 : List Pc} {G G' : Hp} (h : St0 K l s D1 D2 D3 us1 us2 c1 c2 G) (e : Same G G') : St0 K l s D1 D2 D3 us1 us2 c1 c2 G' :=
  { h with st := h.st.same e, a1 := h.a1.same e, a2 := h.a2.same e, a3 := h.a3.same e }
theorem St0.fr {s D1 D2 D3 : Addr} {us1 us2 : List V} {c1 c2 : List Pc} {G G' : Hp} (h : St0 K l s D1 D2 D3 us1 us2 c1 c2 G) (e : Fr s G G') (S : Sto l s G') : St0 K l s D1 D2 D3 us1 us2 c1 c2 G' :=
  { h with st := S, a1 := h.a1.fr e h.st.some h.n1, a2 := h.a2.fr e h.st.some h.n2, a3 := h.a3.fr e h.st.some h.n3 }
theorem St0.app {s D1 D2 D3 D : Addr} {us1 us2 ys zs : List V} {c1 c2 : List Pc} {G : Hp} (h : St0 K l s D1 D2 D3 us1 us2 c1 c2 G) (hD : G D = some (.lst ys)) (ns : D ≠ s) (nl : D ≠ l) (k1 : D1 ≠ D) (k2 : D2 ≠ D) (k3 : D3 ≠ D) : St0 K l s D1 D2 D3 us1 us2 c1 c2 (upd G D (.lst zs)) :=
  { h with st := h.st.upd ns nl, a1 := h.a1.fr (Fr.upd _) ⟨_, hD⟩ k1, a2 := h.a2.fr (Fr.upd _) ⟨_, hD⟩ k2, a3 := h.a3.fr (Fr.upd _) ⟨_, hD⟩ k3 }
/-- a list of rationals -/
def Lq (K : PySem.W.Frag) (G : Hp) (D : Addr) (us : List V) (qs : List Rat) : Prop := G D = some (.lst us) ∧ All2 (Rq K G) us qs
theorem Lq.same {G G' : Hp} {D : Addr} {us : List V} {qs : List Rat} (h : Lq K G D us qs) (e : Same G G') : Lq K G' D us qs := ⟨e _ _ h.1, h.2.imp fun _ _ h => h.same e⟩
theorem Lq.fr {s : Addr} {G G' : Hp} {D : Addr} {us : List V} {qs : List Rat} (h : Lq K G D us qs) (e : Fr s G G') (hs : ∃ ys, G s = some (.lst ys)) (n : D ≠ s) : Lq K G' D us qs := ⟨e _ _ h.1 n, h.2.imp fun _ _ h => h.fr e hs⟩
theorem ne_at {G : Hp} {a b : Addr} {o : HO} (h : G a = some o) (n : G b = none) : a ≠ b := fun e => by rw [e, n] at h; cases h
end Vk
namespace Vk
open PySem L2 Vm
/-! ### lines, what stays of a course, jumps -/
def ky (p : Pc) : Rat × Rat := (p.r, p.v - p.r * p.s)
def jmp (k : Rat × Rat) (q : Pc) : Rat := q.v - (k.2 + k.1 * q.s)
def vl (t : Rat) (p : Pc) : Rat := p.v + p.r * (t - p.s)
theorem ky_eq {p q : Pc} : ky q = ky p ↔ q.r = p.r ∧ jmp (ky p) q = 0 := by
  unfold jmp ky
  constructor
  · intro h
    have h1 := congrArg Prod.fst h
    have h2 := congrArg Prod.snd h
    dsimp only at h1 h2 ⊢
    exact ⟨h1, by rw [h1] at h2; grind⟩
  · rintro ⟨h1, h2⟩
    dsimp only at h2
    rw [h1]
    congr 1
    grind
theorem jmp_at (p q : Pc) : q.v - (p.v + p.r * (q.s - p.s)) = jmp (ky p) q := by
  unfold jmp ky
  dsimp only
  grind
theorem vl_ky {p q : Pc} (h : ky q = ky p) (t : Rat) : vl t q = vl t p := by
  have h1 := congrArg Prod.fst h
  have h2 := congrArg Prod.snd h
  unfold ky at h1 h2
  dsimp only at h1 h2
  unfold vl
  grind
def tlG : Rat × Rat → List Pc → List Pc
  | _, [] => []
  | k, q :: c => if ky q = k then tlG k c else q :: tlG (ky q) c
def tl : List Pc → List Pc
  | [] => []
  | p :: c => p :: tlG (ky p) c
def jlG : Rat × Rat → List Pc → List (Rat × Rat)
  | _, [] => []
  | k, q :: c => if jmp k q = 0 then jlG (ky q) c else (q.s, jmp k q) :: jlG (ky q) c
def jl : List Pc → List (Rat × Rat)
  | [] => []
  | p :: c => jlG (ky p) c
theorem jmp0 {k : Rat × Rat} {q : Pc} (h : ky q = k) : jmp k q = 0 := by
  subst h
  unfold jmp ky
  dsimp only
  grind
theorem tlG_snoc (p q : Pc) : ∀ (c : List Pc) (k : Rat × Rat), tlG k (c ++ [p, q]) = tlG k (c ++ [p]) ++ if ky q = ky p then [] else [q]
  | [], k => by
    show tlG k [p, q] = tlG k [p] ++ _
    unfold tlG
    by_cases h : ky p = k
    · rw [if_pos h, if_pos h]
      unfold tlG
      rw [← h]
      by_cases g : ky q = ky p
      · rw [if_pos g, if_pos g]; rfl
      · rw [if_neg g, if_neg g]; rfl
    · rw [if_neg h, if_neg h]
      unfold tlG
      by_cases g : ky q = ky p
      · rw [if_pos g, if_pos g]; rfl
      · rw [if_neg g, if_neg g]; rfl
  | x :: c, k => by
    show tlG k (x :: (c ++ [p, q])) = tlG k (x :: (c ++ [p])) ++ _
    unfold tlG
    by_cases h : ky x = k
    · rw [if_pos h, if_pos h, tlG_snoc p q c k]
    · rw [if_neg h, if_neg h, tlG_snoc p q c (ky x)]
      rfl
theorem jlG_snoc (p q : Pc) : ∀ (c : List Pc) (k : Rat × Rat), jlG k (c ++ [p, q]) = jlG k (c ++ [p]) ++ if jmp (ky p) q = 0 then [] else [(q.s, jmp (ky p) q)]
  | [], k => by
    show jlG k [p, q] = jlG k [p] ++ _
    unfold jlG
    by_cases h : jmp k p = 0
    · rw [if_pos h, if_pos h]
      unfold jlG
      by_cases g : jmp (ky p) q = 0
      · rw [if_pos g, if_pos g]; rfl
      · rw [if_neg g, if_neg g]; rfl
    · rw [if_neg h, if_neg h]
      unfold jlG
      by_cases g : jmp (ky p) q = 0
      · rw [if_pos g, if_pos g]; rfl
      · rw [if_neg g, if_neg g]; rfl
  | x :: c, k => by
    show jlG k (x :: (c ++ [p, q])) = jlG k (x :: (c ++ [p])) ++ _
    unfold jlG
    by_cases h : jmp k x = 0
    · rw [if_pos h, if_pos h, jlG_snoc p q c (ky x)]
    · rw [if_neg h, if_neg h, jlG_snoc p q c (ky x)]
      rfl
theorem take_two {c : List Pc} {i : Nat} {p q : Pc} (e1 : c[i]? = some p) (e2 : c[i + 1]? = some q) : c.take (i + 1) = c.take i ++ [p] ∧ c.take (i + 2) = c.take i ++ [p, q] := by
  have h1 : c.take (i + 1) = c.take i ++ [p] := by rw [List.take_add_one, e1]; rfl
  refine ⟨h1, ?_⟩
  rw [List.take_add_one, h1, e2, List.append_assoc]
  rfl
theorem tl_next {c : List Pc} {i : Nat} {p q : Pc} (e1 : c[i]? = some p) (e2 : c[i + 1]? = some q) : tl (c.take (i + 2)) = tl (c.take (i + 1)) ++ if ky q = ky p then [] else [q] := by
  obtain ⟨h1, h2⟩ := take_two e1 e2
  rw [h1, h2]
  cases h : c.take i with
  | nil =>
    show p :: tlG (ky p) [q] = _
    unfold tlG
    by_cases g : ky q = ky p
    · rw [if_pos g, if_pos g]; rfl
    · rw [if_neg g, if_neg g]; rfl
  | cons x d =>
    show x :: tlG (ky x) (d ++ [p, q]) = x :: tlG (ky x) (d ++ [p]) ++ _
    rw [tlG_snoc]
    rfl
theorem jl_next {c : List Pc} {i : Nat} {p q : Pc} (e1 : c[i]? = some p) (e2 : c[i + 1]? = some q) : jl (c.take (i + 2)) = jl (c.take (i + 1)) ++ if jmp (ky p) q = 0 then [] else [(q.s, jmp (ky p) q)] := by
  obtain ⟨h1, h2⟩ := take_two e1 e2
  rw [h1, h2]
  cases h : c.take i with
  | nil =>
    show jlG (ky p) [q] = _
    unfold jlG
    by_cases g : jmp (ky p) q = 0
    · rw [if_pos g, if_pos g]; rfl
    · rw [if_neg g, if_neg g]; rfl
  | cons x d =>
    show jlG (ky x) (d ++ [p, q]) = jlG (ky x) (d ++ [p]) ++ _
    rw [jlG_snoc]
theorem tlG_tlG : ∀ (c : List Pc) (k : Rat × Rat), tlG k (tlG k c) = tlG k c
  | [], k => rfl
  | q :: c, k => by
    by_cases h : ky q = k
    · have e1 : tlG k (q :: c) = tlG k c := by rw [tlG, if_pos h]
      rw [e1, tlG_tlG c k]
    · have e1 : ∀ d, tlG k (q :: d) = q :: tlG (ky q) d := fun d => by rw [tlG, if_neg h]
      rw [e1, e1, tlG_tlG c (ky q)]
theorem tl_tl (c : List Pc) : tl (tl c) = tl c := by
  cases c with
  | nil => rfl
  | cons p c =>
    show p :: tlG (ky p) (tlG (ky p) c) = _
    rw [tlG_tlG]
    rfl
theorem jlG_tlG : ∀ (c : List Pc) (k : Rat × Rat), jlG k (tlG k c) = jlG k c
  | [], k => rfl
  | q :: c, k => by
    by_cases h : ky q = k
    · have e1 : tlG k (q :: c) = tlG k c := by rw [tlG, if_pos h]
      have e2 : jlG k (q :: c) = jlG (ky q) c := by rw [jlG, if_pos (jmp0 h)]
      rw [e1, e2, h, jlG_tlG c k]
    · have e1 : tlG k (q :: c) = q :: tlG (ky q) c := by rw [tlG, if_neg h]
      rw [e1, jlG, jlG, jlG_tlG c (ky q)]
theorem jl_tl (c : List Pc) : jl (tl c) = jl c := by
  cases c with
  | nil => rfl
  | cons p c => exact jlG_tlG c (ky p)
theorem tlG_mem : ∀ (c : List Pc) (k : Rat × Rat), (tlG k c).Sublist c
  | [], k => List.Sublist.slnil
  | q :: c, k => by
    rw [tlG]
    split
    · exact (tlG_mem c k).cons q
    · exact (tlG_mem c (ky q)).cons₂ q
theorem tl_sub (c : List Pc) : (tl c).Sublist c := by
  cases c with
  | nil => exact List.Sublist.slnil
  | cons p c => exact (tlG_mem c (ky p)).cons₂ p
theorem tl_pos {c : List Pc} (h : 0 < c.length) : 0 < (tl c).length := by
  cases c with
  | nil => exact absurd h (by simp)
  | cons p c => exact Nat.succ_pos _
/-! ### ascending -/
def AscP (c : List Pc) : Prop := c.Pairwise fun p q => p.s < q.s
theorem ascP_of {c : List Pc} (ok : Cok c) : AscP c := by
  unfold AscP
  rw [List.pairwise_iff_getElem]
  intro i j hi hj hij
  exact cok_lt ok hij (List.getElem?_eq_getElem hi) (List.getElem?_eq_getElem hj)
theorem cok_of {c : List Pc} (a : AscP c) (r : ∀ p ∈ c, 0 < p.r) : Cok c := by
  refine ⟨r, fun i p q e1 e2 => ?_⟩
  have h1 := List.getElem?_eq_some_iff.mp e1
  have h2 := List.getElem?_eq_some_iff.mp e2
  have := (List.pairwise_iff_getElem.mp a) i (i + 1) h1.1 h2.1 (by omega)
  rw [h1.2, h2.2] at this
  exact this
theorem cok_tl {c : List Pc} (ok : Cok c) : Cok (tl c) := cok_of ((ascP_of ok).sublist (tl_sub c)) fun p hp => ok.1 p ((tl_sub c).subset hp)
theorem cz_tl {i j m : Nat} {c : List Pc} (z : Cz i j m c) : Cz i j m (tl c) := fun p hp => z p ((tl_sub c).subset hp)
/-! ### what is shown -/
def nG (t : Rat) : Option Rat → List Pc → Option Rat
  | d, [] => d
  | d, q :: c => nG t (if on t q = true then some (vl t q) else d) c
theorem nG_now (t : Rat) : ∀ (c : List Pc) (d : Option Rat), nG t d c = (((c.filter (on t)).getLast?).map (vl t)).or d
  | [], d => rfl
  | q :: c, d => by
    show nG t _ c = _
    rw [nG_now t c, List.filter_cons]
    by_cases h : on t q = true
    · rw [if_pos h, if_pos h, List.getLast?_cons]
      cases (c.filter (on t)).getLast? <;> rfl
    · rw [if_neg h, if_neg h]
theorem now_nG (c : List Pc) (t : Rat) : nowf c t = nG t none c := by
  rw [nG_now, Option.or_none]
  rfl
theorem on_le {t : Rat} {p q : Pc} (h : on t q = true) (l : p.s < q.s) : on t p = true := by
  unfold on at h ⊢
  have : ¬ t < q.s := by simpa using h
  have : ¬ t < p.s := by grind
  simpa using this
theorem nG_tlG (t : Rat) : ∀ (c : List Pc) (p : Pc) (d : Option Rat), AscP (p :: c) → (∀ q ∈ c, on t q = true → d = some (vl t p)) → nG t d (tlG (ky p) c) = nG t d c
  | [], p, d, _, _ => rfl
  | q :: c, p, d, a, h => by
    have a1 : AscP (q :: c) := (List.pairwise_cons.mp a).2
    have a2 : AscP (p :: c) := a.sublist ((List.sublist_cons_self q c).cons₂ p)
    by_cases g : ky q = ky p
    · rw [tlG, if_pos g]
      have e : (if on t q = true then some (vl t q) else d) = d := by
        split
        · rename_i o
          rw [h q (List.mem_cons_self ..) o, vl_ky g]
        · rfl
      show _ = nG t (if on t q = true then some (vl t q) else d) c
      rw [e]
      exact nG_tlG t c p d a2 fun x hx => h x (List.mem_cons_of_mem _ hx)
    · rw [tlG, if_neg g]
      show nG t (if on t q = true then some (vl t q) else d) (tlG (ky q) c) = nG t (if on t q = true then some (vl t q) else d) c
      refine nG_tlG t c q _ a1 fun x hx o => ?_
      rw [if_pos (on_le o ((List.pairwise_cons.mp a1).1 x hx))]
theorem now_tl {c : List Pc} (ok : Cok c) (t : Rat) : nowf (tl c) t = nowf c t := by
  rw [now_nG, now_nG]
  cases c with
  | nil => rfl
  | cons p c =>
    show nG t (if on t p = true then some (vl t p) else none) (tlG (ky p) c) = nG t (if on t p = true then some (vl t p) else none) c
    refine nG_tlG t c p _ (ascP_of ok) fun x hx o => ?_
    rw [if_pos (on_le o ((List.pairwise_cons.mp (ascP_of ok)).1 x hx))]
theorem now_at {c : List Pc} (ok : Cok c) {t : Rat} {k : Nat} {p : Pc} (e : c[k]? = some p) (h1 : ¬ t < p.s) (h2 : ∀ q, c[k + 1]? = some q → t < q.s) : nowf c t = some (vl t p) := by
  have hk := (List.getElem?_eq_some_iff.mp e).1
  have ef : c.filter (on t) = c.take (k + 1) := filter_take _ fun i x hx => by
    unfold on
    constructor
    · intro z
      refine Nat.lt_of_not_le fun g => ?_
      have hk1 : k + 1 < c.length := by have := (List.getElem?_eq_some_iff.mp hx).1; omega
      have e3 : c[k + 1]? = some c[k + 1] := List.getElem?_eq_getElem hk1
      have h4 := h2 _ e3
      have : c[k + 1].s ≤ x.s := by
        by_cases g5 : k + 1 = i
        · subst g5
          rw [e3] at hx
          cases hx
          exact Rat.le_refl
        · have := cok_lt ok (show k + 1 < i by omega) e3 hx
          grind
      have : t < x.s := by grind
      simp [this] at z
    · intro z
      have : x.s ≤ p.s := by
        by_cases g5 : i = k
        · subst g5
          rw [e] at hx
          cases hx
          exact Rat.le_refl
        · have := cok_lt ok (show i < k by omega) hx e
          grind
      have : ¬ t < x.s := by grind
      simp [this]
  unfold nowf
  rw [ef, List.getLast?_eq_getElem?, List.length_take, List.getElem?_take]
  have e1 : min (k + 1) c.length - 1 = k := by omega
  rw [e1, if_pos (by omega), e]
  rfl
/-! ### pieces that continue -/
def goes (c : List Pc) (i : Nat) : Bool := match i with
  | 0 => false
  | j + 1 => match c[j]?, c[j + 1]? with
    | some p, some q => decide (ky q = ky p)
    | _, _ => false
theorem goes_succ (c : List Pc) (j : Nat) : goes c (j + 1) = match c[j]?, c[j + 1]? with
    | some p, some q => decide (ky q = ky p)
    | _, _ => false := rfl
theorem goes_at {c : List Pc} {j : Nat} {p q : Pc} (e1 : c[j]? = some p) (e2 : c[j + 1]? = some q) : goes c (j + 1) = decide (ky q = ky p) := by
  rw [goes_succ, e1, e2]
def gl (c : List Pc) (n : Nat) : List Nat := (List.range n).filter (goes c)
theorem gl_succ (c : List Pc) (n : Nat) : gl c (n + 1) = gl c n ++ if goes c n = true then [n] else [] := by
  unfold gl
  rw [List.range_succ, List.filter_append]
  congr 1
  by_cases h : goes c n = true <;> simp [h]
def Nc : Rat × Rat → List Pc → Prop
  | _, [] => True
  | k, q :: c => ky q ≠ k ∧ Nc (ky q) c
theorem nc_tlG : ∀ (c : List Pc) (k : Rat × Rat), Nc k (tlG k c)
  | [], k => trivial
  | q :: c, k => by
    rw [tlG]
    split
    · exact nc_tlG c k
    · rename_i h
      exact ⟨h, nc_tlG c (ky q)⟩
theorem nc_at : ∀ (c : List Pc) (p : Pc), Nc (ky p) c → ∀ i x y, (p :: c)[i]? = some x → (p :: c)[i + 1]? = some y → ky y ≠ ky x
  | [], p, _, i, x, y, _, e2 => by simp at e2
  | q :: c, p, h, 0, x, y, e1, e2 => by
    simp at e1 e2
    subst e1 e2
    exact h.1
  | q :: c, p, h, i + 1, x, y, e1, e2 => nc_at c q h.2 i x y (by simpa using e1) (by simpa using e2)
theorem goes_tl (c : List Pc) (i : Nat) : goes (tl c) i = false := by
  cases i with
  | zero => rfl
  | succ j =>
    rw [goes_succ]
    cases e1 : (tl c)[j]? with
    | none => rfl
    | some x =>
      cases e2 : (tl c)[j + 1]? with
      | none => rfl
      | some y =>
        cases c with
        | nil => simp [tl] at e1
        | cons p c => exact dF (nc_at _ p (nc_tlG c (ky p)) j x y e1 e2)
theorem gl_tl (c : List Pc) (n : Nat) : gl (tl c) n = [] := by
  unfold gl
  rw [List.filter_eq_nil_iff]
  intro i _
  rw [goes_tl]
  exact Bool.false_ne_true
/-! ### a piece more that continues -/
theorem tlG_ins {p x : Pc} (h : ky x = ky p) : ∀ (a b : List Pc) (k : Rat × Rat), tlG k (a ++ p :: x :: b) = tlG k (a ++ p :: b)
  | [], b, k => by
    show tlG k (p :: x :: b) = tlG k (p :: b)
    by_cases g : ky p = k
    · rw [tlG, if_pos g, tlG, if_pos (h.trans g), tlG, if_pos g]
    · rw [tlG, if_neg g, tlG, if_pos h, tlG, if_neg g]
  | y :: a, b, k => by
    show tlG k (y :: (a ++ p :: x :: b)) = tlG k (y :: (a ++ p :: b))
    by_cases g : ky y = k
    · rw [tlG, if_pos g, tlG, if_pos g, tlG_ins h a b k]
    · rw [tlG, if_neg g, tlG, if_neg g, tlG_ins h a b (ky y)]
theorem tl_ins {p x : Pc} (h : ky x = ky p) (a b : List Pc) : tl (a ++ p :: x :: b) = tl (a ++ p :: b) := by
  cases a with
  | nil =>
    show p :: tlG (ky p) (x :: b) = p :: tlG (ky p) b
    rw [tlG, if_pos h]
  | cons y a =>
    show y :: tlG (ky y) (a ++ p :: x :: b) = y :: tlG (ky y) (a ++ p :: b)
    rw [tlG_ins h]
theorem jlG_ins {p x : Pc} (h : ky x = ky p) : ∀ (a b : List Pc) (k : Rat × Rat), jlG k (a ++ p :: x :: b) = jlG k (a ++ p :: b)
  | [], b, k => by
    show jlG k (p :: x :: b) = jlG k (p :: b)
    rw [jlG, jlG, if_pos (jmp0 h), h, jlG]
  | y :: a, b, k => by
    show jlG k (y :: (a ++ p :: x :: b)) = jlG k (y :: (a ++ p :: b))
    rw [jlG, jlG, jlG_ins h a b (ky y)]
theorem jl_ins {p x : Pc} (h : ky x = ky p) (a b : List Pc) : jl (a ++ p :: x :: b) = jl (a ++ p :: b) := by
  cases a with
  | nil =>
    show jlG (ky p) (x :: b) = jlG (ky p) b
    rw [jlG, if_pos (jmp0 h), h]
  | cons y a =>
    show jlG (ky y) (a ++ p :: x :: b) = jlG (ky y) (a ++ p :: b)
    rw [jlG_ins h]
end Vk
namespace Vk
open PySem L2 Vm
variable {l az : Addr} {P : Program} {w : World} {K : PySem.W.Frag} {mg : Str → Option Value} {base : Heap} {k : Nat} {f f1 f2 f3 f4 f5 f6 f7 f8 f9 : Addr} {fd fd1 fd2 fd3 fd4 fd5 fd6 fd7 fd8 fd9 : FuncData}
/-! ### the program's side -/
structure Zr (K : PySem.W.Frag) (mg : Str → Option Value) (az : Addr) : Prop where
  m : mg "ZERO" = some (.ref az)
  q : ∀ H, Rq K H (.ref az) 0
abbrev s_multiply : Stmt := top 15
abbrev N_multiply : List Str := ["a", "b"]
theorem sc_multiply : FnScope N_multiply ["a", "b"] (defScope s_multiply) := ⟨rfl, rfl, rfl, by decide +kernel, rfl, by decide +kernel, by decide +kernel⟩
abbrev ps_multiply : List Str := ["a", "b"]
theorem ok_multiply (F : Fn K mg "multiply" s_multiply ps_multiply f fd) (drational : Def P w K mg base k "rational" ["n", "d"] (spFrac K) f1 fd1) : Def P w K mg base (k + 1) "multiply" ps_multiply (spOp2 K (· * ·)) f fd := by
  refine ⟨F.F.ok sc_multiply (fun vs H Q E h => ?_) (fun cdv A outer s H vs Q E hr h => ?_), F.m, F.F.kp, F.b⟩
  · obtain ⟨x, y, p, q, m, l, rfl, _⟩ := h
    rfl
  obtain ⟨x, y, p, q, m, l, rfl, ⟨a, rfl, ha⟩, ⟨b, rfl, hb⟩, zp, zq, hm, z⟩ := h
  have m0 := nn zp
  have l0 := nn zq
  refine ⟨_, (pss_one (ps_ret (pcall drational hr (pa_cons (pe_op op_mulW (pe_ix ix_tup (pv 0) pe_int (fun _ _ => rfl)) (pe_ix ix_tup (pv 1) pe_int (fun _ _ => rfl))) (pa_cons (pe_op op_mulW (pe_ix ix_tup (pv 0) pe_int (fun _ _ => rfl)) (pe_ix ix_tup (pv 1) pe_int (fun _ _ => rfl))) pa_nil))))), ?_⟩
  refine ⟨_, rfl, a, _, _, _, rfl, rfl, ha, at0 rfl, _, rfl, b, _, _, _, rfl, rfl, hb, at0 rfl, _, _, rfl, rfl, mulW zp.1 zq.1 m0 l0 (by omega), ?_⟩
  refine ⟨_, rfl, a, _, _, _, rfl, rfl, ha, at1 rfl, _, rfl, b, _, _, _, rfl, rfl, hb, at1 rfl, _, _, rfl, rfl, mulW (dA zp) (dA zq) m0 l0 (by omega), ?_⟩
  refine ⟨_, _, m + l, rfl, dd_pos p q, ab_mul zp.1 zq.1, ab_mul (dA zp) (dA zq), by omega, fun r H' e hr => z r H' e ?_⟩
  rw [mk_mul] at hr
  exact hr
abbrev s__shown_by : Stmt := top 19
abbrev N__shown_by : List Str := ["piece", "t", "start", "shown", "rate"]
theorem sc__shown_by : FnScope N__shown_by ["piece", "t"] (defScope s__shown_by) := ⟨rfl, rfl, rfl, by decide +kernel, rfl, by decide +kernel, by decide +kernel⟩
abbrev ps__shown_by : List Str := ["piece", "t"]
def spShown (K : PySem.W.Frag) : Sp := fun vs H Q _ => ∃ (x y : V) (p : Pc) (t : Rat) (i j l m : Nat), vs = [x, y] ∧ Pq K H x p ∧ Rq K H y t ∧ Sz i p.s ∧ Sz j p.v ∧ Sz l p.r ∧ Sz m t ∧ j + l + m + i + 3 ≤ 9000 ∧
  ∀ r H', Same H H' → Rq K H' r (p.v + p.r * (t - p.s)) → Q r H'
theorem ok_shown_by (F : Fn K mg "_shown_by" s__shown_by ps__shown_by f fd) (dadd : Def P w K mg base k "add" ["a", "b"] (spOp2 K (· + ·)) f1 fd1) (dmultiply : Def P w K mg base k "multiply" ["a", "b"] (spOp2 K (· * ·)) f2 fd2) (dsubtract : Def P w K mg base k "subtract" ["a", "b"] (spOp2 K (· - ·)) f3 fd3) :
    Def P w K mg base (k + 1) "_shown_by" ps__shown_by (spShown K) f fd := by
  refine ⟨F.F.ok sc__shown_by (fun vs H Q E h => ?_) (fun cdv A outer s H vs Q E hr h => ?_), F.m, F.F.kp, F.b⟩
  · obtain ⟨x, y, p, q, i, j, l, m, rfl, _⟩ := h
    rfl
  obtain ⟨x, y, p, t, i, j, l, m, rfl, ⟨a, xs, xv, xr, rfl, ha, hs, hv, hr'⟩, hy, zs, zv, zr, zt, hb, z⟩ := h
  refine ⟨_, (pss_cons (ps_asg (pv 0) (pg_tup rfl (pgs_cons (pg_name (i := 2) sc__shown_by.nd rfl (Or.inl rfl)) (pgs_cons (pg_name (i := 3) sc__shown_by.nd rfl (Or.inl rfl)) (pgs_cons (pg_name (i := 4) sc__shown_by.nd rfl (Or.inl rfl)) pgs_nil)))))
      (pss_one (ps_ret (pcall dadd hr (pa_cons (pv 3) (pa_cons (pcall dmultiply hr (pa_cons (pv 4) (pa_cons (pcall dsubtract hr (pa_cons (pv 1) (pa_cons (pv 2) pa_nil))) pa_nil))) pa_nil)))))), ?_⟩
  refine ⟨_, rfl, a, _, rfl, ha, rfl, _, _, rfl, _, _, rfl, _, _, rfl, rfl, ?_⟩
  refine ⟨_, rfl, _, rfl, _, rfl, _, rfl, _, _, t, p.s, m, i, rfl, hy, hs, zt, zs, by omega, fun r1 H1 e1 h1 => ?_⟩
  refine ⟨_, _, p.r, t - p.s, l, m + i + 1, rfl, hr'.same e1, h1, zr, zt.sub zs, by omega, fun r2 H2 e2 h2 => ?_⟩
  exact ⟨_, _, p.v, p.r * (t - p.s), j, l + (m + i + 1), rfl, hv.same (e1.trans e2), h2, zv, zr.mul (zt.sub zs), by omega, fun r3 H3 e3 h3 => z _ _ (e1.trans (e2.trans e3)) h3⟩
abbrev s__jump_at : Stmt := top 23
abbrev N__jump_at : List Str := ["course", "at", "piece"]
theorem sc__jump_at : FnScope N__jump_at ["course", "at"] (defScope s__jump_at) := ⟨rfl, rfl, rfl, by decide +kernel, rfl, by decide +kernel, by decide +kernel⟩
abbrev ps__jump_at : List Str := ["course", "at"]
def spJumpAt (K : PySem.W.Frag) : Sp := fun vs H Q _ => ∃ (a : Addr) (n : Nat) (c : List Pc) (p q : Pc) (i j l : Nat), vs = [.ref a, .int ((n + 1 : Nat) : Int)] ∧ Cq K H a c ∧ c[n]? = some p ∧ c[n + 1]? = some q ∧ Cz i j l c ∧ j + j + l + i + i + 5 ≤ 9000 ∧
  ∀ r H', Same H H' → Rq K H' r (jmp (ky p) q) → Q r H'
theorem ok_jump_at (F : Fn K mg "_jump_at" s__jump_at ps__jump_at f fd) (dsubtract : Def P w K mg base k "subtract" ["a", "b"] (spOp2 K (· - ·)) f1 fd1) (d_shown_by : Def P w K mg base k "_shown_by" ["piece", "t"] (spShown K) f2 fd2) :
    Def P w K mg base (k + 1) "_jump_at" ps__jump_at (spJumpAt K) f fd := by
  refine ⟨F.F.ok sc__jump_at (fun vs H Q E h => ?_) (fun cdv A outer s H vs Q E hr h => ?_), F.m, F.F.kp, F.b⟩
  · obtain ⟨_, _, _, _, _, _, _, _, rfl, _⟩ := h
    rfl
  obtain ⟨a, n, c, p, q, i, j, l, rfl, ⟨xs, hx, hc⟩, e1, e2, cz, hb, z⟩ := h
  refine ⟨_, (pss_cons (ps_set (i := 2) sc__jump_at.nd rfl (Or.inl rfl) (pe_ix ix_list (pv 0) (pv 1) (fun _ _ => rfl)))
      (pss_one (ps_ret (pcall dsubtract hr (pa_cons (pe_ix ix_tup (pv 2) pe_int (fun _ _ => rfl)) (pa_cons (pcall d_shown_by hr (pa_cons (pe_ix ix_list (pv 0) (pe_op op_sub (pv 1) pe_int) (fun _ _ => rfl)) (pa_cons (pe_ix ix_tup (pv 2) pe_int (fun _ _ => rfl)) pa_nil))) pa_nil)))))), ?_⟩
  obtain ⟨zs1, zv1, zr1⟩ := cz p (List.mem_of_getElem? e1)
  obtain ⟨zs2, zv2, zr2⟩ := cz q (List.mem_of_getElem? e2)
  obtain ⟨x1, hx1, pp⟩ := hc.at e1
  obtain ⟨x2, hx2, pq⟩ := hc.at e2
  obtain ⟨b, bs, bv, br, rfl, hb2, r1, r2, r3⟩ := pq
  refine ⟨_, rfl, _, rfl, a, _, _, _, rfl, rfl, hx, at_of (j := n + 1) rfl hx2, ?_⟩
  refine ⟨_, rfl, b, _, _, _, rfl, rfl, hb2, at1 rfl, _, rfl, _, rfl, _, _, rfl, rfl, a, _, _, _, rfl, rfl, hx, at_of (j := n) (by omega) hx1, _, rfl, b, _, _, _, rfl, rfl, hb2, at0 rfl, ?_⟩
  refine ⟨_, _, p, q.s, i, j, l, i, rfl, pp, r1, zs1, zv1, zr1, zs2, by omega, fun w1 H1 s1 g1 => ?_⟩
  refine ⟨_, _, q.v, _, j, j + (l + (i + i + 1)) + 1, rfl, r2.same s1, g1, zv2, zv1.add (zr1.mul (zs2.sub zs1)), by omega, fun w2 H2 s2 g2 => z _ _ (s1.trans s2) ?_⟩
  rw [← jmp_at]
  exact g2
/-- a start and a jump -/
def Jq (K : PySem.W.Frag) (H : Hp) (x : V) (p : Rat × Rat) : Prop := ∃ a xs xj, x = .ref a ∧ SqT K H a [xs, xj] ∧ Rq K H xs p.1 ∧ Rq K H xj p.2
theorem Jq.same {H H' : Hp} {x : V} {p : Rat × Rat} (e : Same H H') (h : Jq K H x p) : Jq K H' x p := by
  obtain ⟨a, xs, xj, rfl, h, h1, h2⟩ := h
  exact ⟨a, xs, xj, rfl, e.sqt h, h1.same e, h2.same e⟩
theorem Jq.fr {s : Addr} {H H' : Hp} {x : V} {p : Rat × Rat} (e : Fr s H H') (hs : ∃ ys, H s = some (.lst ys)) (h : Jq K H x p) : Jq K H' x p := by
  obtain ⟨a, xs, xj, rfl, h, h1, h2⟩ := h
  exact ⟨a, xs, xj, rfl, sqt_fr e hs h, h1.fr e hs, h2.fr e hs⟩
def djp (p : Rat × Rat) : PyData := .tuple [dq p.1, dq p.2]
theorem Jq.dp {H : Hp} {v : V} {p : Rat × Rat} (h : Jq K H v p) : Dp K H v (djp p) := by
  obtain ⟨a, xs, xj, rfl, h, h1, h2⟩ := h
  exact .tup h (.cons h1.dp (.cons h2.dp .nil))
theorem jl_len (c : List Pc) : (jl c).length ≤ c.length := by
  have g : ∀ (c : List Pc) k, (jlG k c).length ≤ c.length := fun c => by
    induction c with
    | nil => exact fun _ => Nat.le_refl _
    | cons q c ih =>
      intro k
      have := ih (ky q)
      rw [jlG]
      split
      · rw [List.length_cons]; omega
      · rw [List.length_cons, List.length_cons]; omega
  cases c with
  | nil => exact Nat.le_refl _
  | cons p c =>
    have := g c (ky p)
    show (jlG (ky p) c).length ≤ _
    rw [List.length_cons]
    omega
def spJumps (K : PySem.W.Frag) : Sp := fun vs H Q _ => ∃ (a : Addr) (c : List Pc) (i j l : Nat), vs = [.ref a] ∧ Cq K H a c ∧ Cz i j l c ∧ 1 ≤ c.length ∧ c.length ≤ 900 ∧ j + j + l + i + i + 5 ≤ 9000 ∧
  ∀ D us H', Same H H' → H D = none → H' D = some (.lst us) → All2 (Jq K H') us (jl c) → Q (.ref D) H'
abbrev s_tidy : Stmt := top 24
abbrev N_tidy : List Str := ["course", "kept", "at"]
theorem sc_tidy : FnScope N_tidy ["course"] (defScope s_tidy) := ⟨rfl, rfl, rfl, by decide +kernel, rfl, by decide +kernel, by decide +kernel⟩
abbrev ps_tidy : List Str := ["course"]
def spTidy (K : PySem.W.Frag) : Sp := fun vs H Q _ => ∃ (a : Addr) (c : List Pc) (i j l : Nat), vs = [.ref a] ∧ Cq K H a c ∧ Cz i j l c ∧ 1 ≤ c.length ∧ c.length ≤ 900 ∧ j + j + l + i + i + 5 ≤ 9000 ∧
  ∀ D us H', Same H H' → H D = none → Ct K H' D us (tl c) → Q (.ref D) H'
end Vk
namespace Vk
open PySem L2 Vm
variable {l az : Addr} {P : Program} {w : World} {K : PySem.W.Frag} {mg : Str → Option Value} {base : Heap} {k : Nat} {f f1 f2 f3 f4 f5 f6 f7 f8 f9 : Addr} {fd fd1 fd2 fd3 fd4 fd5 fd6 fd7 fd8 fd9 : FuncData}
theorem num0 (q : Rat) : (V.int q.num = V.int 0) ↔ q = 0 := by
  constructor
  · intro h
    exact Rat.num_eq_zero.mp (V.int.inj h)
  · intro h
    rw [h]
    rfl
def spJD (K : PySem.W.Frag) : Sp := fun vs H Q _ => ∃ (a : Addr) (c : List Pc) (i j l : Nat), vs = [.ref a] ∧ Cq K H a c ∧ Cok c ∧ Cz i j l c ∧ 1 ≤ c.length ∧ c.length ≤ 900 ∧ i + j + l ≤ 6000 ∧
  ∀ D us H', Same H H' → H D = none → H' D = some (.lst us) → All2 (Jq K H') us (jl c) → Q (.ref D) H'
def nV (n : Nat) : V := .int (n : Int)
def spCont (K : PySem.W.Frag) : Sp := fun vs H Q _ => ∃ (a : Addr) (c : List Pc) (i j l : Nat), vs = [.ref a] ∧ Cq K H a c ∧ Cok c ∧ Cz i j l c ∧ 1 ≤ c.length ∧ c.length ≤ 900 ∧ i + j + l ≤ 6000 ∧
  ∀ D H', Same H H' → H D = none → H' D = some (.lst ((gl c c.length).map nV)) → Q (.ref D) H'
abbrev s__law_is_course : Stmt := top 53
abbrev N__law_is_course : List Str := ["_law_value", "_law_k", "_law_one"]
theorem sc__law_is_course : FnScope N__law_is_course ["_law_value"] (defScope s__law_is_course) := ⟨rfl, rfl, rfl, by decide +kernel, rfl, by decide +kernel, by decide +kernel⟩
abbrev ps__law_is_course : List Str := ["_law_value"]
def spIsC (K : PySem.W.Frag) : Sp := fun vs H Q _ => ∃ (a : Addr) (c : List Pc) (i j l : Nat), vs = [.ref a] ∧ Cq K H a c ∧ Cok c ∧ Cz i j l c ∧ 1 ≤ c.length ∧ c.length ≤ 900 ∧ i + j + l ≤ 6000 ∧ ∀ H', Same H H' → Q (.bl true) H'
theorem ok_is_course (T : Bn mg) (F : Fn K mg "_law_is_course" s__law_is_course ps__law_is_course f fd) (d_law_is_frac : Def P w K mg base k "_law_is_frac" ["_law_value"] (spIsFrac K) f1 fd1) (d_law_below : Def P w K mg base k "_law_below" ["_law_a", "_law_b"] (spTest2 K fun p q => .bl (decide (p < q))) f2 fd2) :
    Def P w K mg base (k + 1) "_law_is_course" ps__law_is_course (spIsC K) f fd := by
  refine ⟨F.F.ok sc__law_is_course (fun vs H Q E h => ?_) (fun cdv A outer s H vs Q E hr h => ?_), F.m, F.F.kp, F.b⟩
  · obtain ⟨_, _, _, _, _, rfl, _⟩ := h
    rfl
  obtain ⟨a, c, i0, j0, l0, rfl, hC, ok, cz, hp, hl, hb, z⟩ := h
  obtain ⟨xs, hx, hc⟩ := id hC
  have hxl := hc.1
  have ta := sql_ty hx
  refine ⟨_, (pss_cons (ps_if (PW.pt (pw_or (pt_not (pt_val (pe_callB call_isi (by rfl) T.isinstance_ (by decide +kernel) (pa_cons (pv 0) (pa_cons (pe_bltn (v := .ty "list") (by rfl) T.list_ (by decide +kernel) rfl) pa_nil))))) (pw_or1 (pt_cmpR op_eq (pe_callB call_len_seq (by rfl) T.len_ PySem.boot_len (pa_cons (pv 0) pa_nil)) pe_int (nomark _)))))
        (pss_one (ps_ret pe_bl))
        pss_nil)
      (pss_cons (ps_for PassesOwn.never rfl (pi_range1 (by rfl) T.range_ (pa_cons (pe_callB call_len_seq (by rfl) T.len_ PySem.boot_len (pa_cons (pv 0) pa_nil)) pa_nil)) (pg_name (i := 1) sc__law_is_course.nd rfl (Or.inl rfl))
        (pss_cons (ps_if (PW.pt (pw_or (pt_not (pt_val (pe_callB call_isi (by rfl) T.isinstance_ (by decide +kernel) (pa_cons (pe_ix ix_list (pv 0) (pv 1) (fun _ _ => rfl)) (pa_cons (pe_bltn (v := .ty "tuple") (by rfl) T.tuple_ (by decide +kernel) rfl) pa_nil))))) (pw_or1 (pt_cmpR op_ne (pe_callB call_len_seq (by rfl) T.len_ PySem.boot_len (pa_cons (pe_ix ix_list (pv 0) (pv 1) (fun _ _ => rfl)) pa_nil)) pe_int (nomark _)))))
          (pss_one (ps_ret pe_bl))
          pss_nil)
        (pss_cons (ps_if (PW.pt (pw_or (pt_cmpR op_gt (pe_callB call_len_seq (by rfl) T.len_ PySem.boot_len (pa_cons (pe_lc (own := [("_law_one", 2)]) (g := gName 2) rfl sc__law_is_course.nd (pi_tup (pe_ix ix_list (pv 0) (pv 1) (fun _ _ => rfl))) (blkOk_by (N := N__law_is_course) (sc := defScope s__law_is_course) (by decide +kernel)) (fun _ _ _ _ _ => pg_name (i := 2) sc__law_is_course.nd rfl (Or.inl rfl)) (fun _ _ _ _ _ => pts_one (pt_not (pt_val (pcall d_law_is_frac hr (pa_cons (pv 2) pa_nil))))) (fun _ _ _ _ _ => (pv 2))) pa_nil)) pe_int (nomark _)) (pw_or1 (pt_cmpR op_le (pe_ix ix_tup (pe_ix ix_tup (pe_ix ix_list (pv 0) (pv 1) (fun _ _ => rfl)) pe_int (fun _ _ => rfl)) pe_int (fun _ _ => rfl)) pe_int (nomark _)))))
          (pss_one (ps_ret pe_bl))
          pss_nil)
        (pss_one (ps_if (PW.pt (pw_and (pt_cmpR op_gt (pv 1) pe_int (nomark _)) (pw_and1 (pt_not (pt_val (pcall d_law_below hr (pa_cons (pe_ix ix_tup (pe_ix ix_list (pv 0) (pe_op op_sub (pv 1) pe_int) (fun _ _ => rfl)) pe_int (fun _ _ => rfl)) (pa_cons (pe_ix ix_tup (pe_ix ix_list (pv 0) (pv 1) (fun _ _ => rfl)) pe_int (fun _ _ => rfl)) pa_nil))))))))
          (pss_one (ps_ret pe_bl))
          pss_nil)))))
      (pss_one (ps_ret pe_bl)))), ?_⟩
  have p62 : (2 : Int) ^ 62 = 4611686018427387904 := by decide
  refine ⟨_, rfl, _, _, _, _, true, rfl, .ty _, ta, kit_ty (by decide +kernel), _, rfl, ifF rfl ⟨_, rfl, a, _, rfl, .inl hx, rfl, _, rfl, ifF (dF fun e => by have := V.int.inj e; omega) ?_⟩⟩
  refine ⟨_, rfl, a, _, rfl, .inl hx, _, rfl, by omega, by omega, for_range (n := ((xs.length : Nat) : Int).toNat) (fun i σ G => ∃ (k1 : Option V), σ = [some (.ref a), k1, none] ∧ Same H G) ⟨none, rfl, Same.refl _⟩ ?_ ?_⟩
  · rintro i σ G hi ⟨k1, rfl, s1⟩
    have hi' : i < c.length := by omega
    have e1 : c[i]? = some c[i] := List.getElem?_eq_getElem hi'
    obtain ⟨p, ep⟩ : ∃ p, p = c[i] := ⟨_, rfl⟩
    rw [← ep] at e1
    obtain ⟨zs1, zv1, zr1⟩ := cz p (List.mem_of_getElem? e1)
    obtain ⟨x1, hx1, pp⟩ := hc.at e1
    obtain ⟨d1, ds1, dv1, dr1, rfl, hd1, r11, r12, r13⟩ := pp
    have td := sqt_ty (s1.sqt hd1)
    have r0 := ok.1 p (List.mem_of_getElem? e1)
    refine ⟨_, rfl, _, rfl, a, _, _, _, rfl, rfl, s1.seq hx, at_of (j := i) (by omega) hx1, _, _, _, _, true, rfl, .ty _, td, kit_ty (by decide +kernel), _, rfl, ifF rfl ?_⟩
    refine ⟨_, rfl, _, rfl, a, _, _, _, rfl, rfl, s1.seq hx, at_of (j := i) (by omega) hx1, d1, _, rfl, .inr (s1.sqt hd1), rfl, _, rfl, ifF rfl ?_⟩
    refine ⟨_, rfl, _, rfl, a, _, _, _, rfl, rfl, s1.seq hx, at_of (j := i) (by omega) hx1, d1, rfl, ⟨_, s1.sqt hd1⟩, fun D hD => lc_tup (xs := [ds1, dv1, dr1]) (fun n G' => G' D = some (.lst []) ∧ Same G G') ⟨upd_same, same_new hD _⟩ (fun n G' _ h => h.2.sqt (s1.sqt hd1)) ?_ ?_⟩
    · rintro n x G' hxn ⟨hD1, s2⟩
      obtain ⟨q, m, rq, zq, hm⟩ : ∃ (q : Rat) (m : Nat), Rq K H x q ∧ Sz m q ∧ m ≤ 6000 := by
        match n, hxn with
        | 0, h => cases h; exact ⟨_, _, r11, zs1, by omega⟩
        | 1, h => cases h; exact ⟨_, _, r12, zv1, by omega⟩
        | 2, h => cases h; exact ⟨_, _, r13, zr1, by omega⟩
      exact ⟨rfl, _, rfl, x, q, m, rfl, rq.same (s1.trans s2), zq, by omega, fun G2 e2 => ⟨_, rfl, ifF rfl ⟨e2 _ _ hD1, s2.trans e2⟩⟩⟩
    · rintro G' ⟨hD1, s2⟩
      have s3 := s1.trans s2
      obtain ⟨ra, rfl, hra⟩ := id r13
      have np := num_pos r0
      refine ⟨D, _, rfl, .inl (SqL.of hD1), _, _, rfl, rfl, _, rfl, ifF rfl ⟨_, rfl, _, rfl, a, _, _, _, rfl, rfl, s3.seq hx, at_of (j := i) (by omega) hx1, d1, _, _, _, rfl, rfl, s3.sqt hd1, at2 rfl, ra, _, _, _, rfl, rfl, s3.sqt hra, at0 rfl, _, _, rfl, rfl, _, rfl, ifF (dF (by omega)) ?_⟩⟩
      refine ⟨_, rfl, _, _, rfl, rfl, _, rfl, ifD (fun g => ?_) (fun g => ifF rfl ⟨_, rfl, s3⟩)⟩
      have e0 : c[i - 1]? = some c[i - 1] := List.getElem?_eq_getElem (by omega)
      obtain ⟨p0, ep0⟩ : ∃ p, p = c[i - 1] := ⟨_, rfl⟩
      rw [← ep0] at e0
      obtain ⟨zs0, _, _⟩ := cz p0 (List.mem_of_getElem? e0)
      obtain ⟨x0, hx0, d0, ds0, dv0, dr0, rfl, hd0, r01, _, _⟩ := hc.at e0
      have lt := cok_lt ok (show i - 1 < i by omega) e0 e1
      refine ⟨_, rfl, _, rfl, _, _, rfl, rfl, a, _, _, _, rfl, rfl, s3.seq hx, at_of (j := i - 1) (by omega) hx0, d0, _, _, _, rfl, rfl, s3.sqt hd0, at0 rfl, _, rfl, _, rfl, a, _, _, _, rfl, rfl, s3.seq hx, at_of (j := i) (by omega) hx1, d1, _, _, _, rfl, rfl, s3.sqt hd1, at0 rfl, ?_⟩
      exact ⟨_, _, p0.s, p.s, i0, i0, rfl, r01.same s3, r11.same s3, zs0, zs1, by omega, _, rfl, ifF (by rw [dT lt]; rfl) ⟨_, rfl, s3⟩⟩
  · rintro σ G ⟨k1, rfl, s1⟩
    exact z _ s1
end Vk
namespace Vk
open PySem L2 Vm
variable {l az : Addr} {P : Program} {w : World} {K : PySem.W.Frag} {mg : Str → Option Value} {base : Heap} {k : Nat} {f f1 f2 f3 f4 f5 f6 f7 f8 f9 : Addr} {fd fd1 fd2 fd3 fd4 fd5 fd6 fd7 fd8 fd9 : FuncData}
def spOrd8 (K : PySem.W.Frag) : Sp := fun vs H Q _ => ∃ (a : Addr) (xs : List V) (qs : List Rat) (m : Nat), vs = [.ref a] ∧ SqL K H a xs ∧ All2 (Rq K H) xs qs ∧ (∀ q ∈ qs, Sz m q) ∧ m ≤ 4000 ∧ qs.length ≤ 900 ∧
  ∀ D us os H', Same H H' → H D = none → H' D = some (.lst us) → All2 (Rq K H') us os → Asc os → (∀ o ∈ os, o ∈ qs) → os.length ≤ qs.length → (∀ q ∈ qs, q ∈ os) → Q (.ref D) H'
theorem ok_ord8 (T : Bn mg) (F : Fn K mg "_law_ordered" s__law_ordered ps__law_ordered f fd) (d_law_below : Def P w K mg base k "_law_below" ["_law_a", "_law_b"] (spTest2 K fun p q => .bl (decide (p < q))) f1 fd1) :
    Def P w K mg base (k + 1) "_law_ordered" ps__law_ordered (spOrd8 K) f fd := by
  refine ⟨F.F.ok sc__law_ordered (fun vs H Q E h => ?_) (fun cdv A outer s H vs Q E hr h => ?_), F.m, F.F.kp, F.b⟩
  · obtain ⟨_, _, _, _, rfl, _⟩ := h
    rfl
  obtain ⟨a, xs, qs, sz0, rfl, hx, hq, zq, hsz, hl, z⟩ := h
  refine ⟨_, (pss_cons (ps_set (i := 1) sc__law_ordered.nd rfl (Or.inl rfl) (pe_lst pa_nil))
      (pss_cons (ps_for PassesOwn.never rfl (pi_list (pv 0)) (pg_name (i := 2) sc__law_ordered.nd rfl (Or.inl rfl))
        (pss_cons (ps_set (i := 3) sc__law_ordered.nd rfl (Or.inl rfl) pe_int)
        (pss_cons (ps_for PassesOwn.never rfl (pi_range1 (by rfl) T.range_ (pa_cons (pe_callB call_len_seq (by rfl) T.len_ PySem.boot_len (pa_cons (pv 1) pa_nil)) pa_nil)) (pg_name (i := 4) sc__law_ordered.nd rfl (Or.inl rfl))
          (pss_one (ps_if (pt_val (pcall d_law_below hr (pa_cons (pe_ix ix_list (pv 1) (pv 4) (fun _ _ => rfl)) (pa_cons (pv 2) pa_nil))))
            (pss_one (ps_set (i := 3) sc__law_ordered.nd rfl (Or.inl rfl) (pe_op op_add (pv 4) pe_int)))
            pss_nil)))
        (pss_one (ps_if (PW.pt (pw_or (pt_cmpR op_eq (pv 3) (pe_callB call_len_seq (by rfl) T.len_ PySem.boot_len (pa_cons (pv 1) pa_nil)) (nomark _)) (pw_or1 (pt_cmpR (op_neD hr.units) (pe_ix ix_list (pv 1) (pv 3) (fun _ _ => rfl)) (pv 2) (nomark _)))))
          (pss_one (ps_expr (pe_bm PySem.F.plainAttrs_list PySem.F.slot_list_insert PySem.F.type_list_insert mt_insert (pv 1) (pa_cons (pv 3) (pa_cons (pv 2) pa_nil)))))
          pss_nil)))))
      (pss_one (ps_ret (pv 1))))), ?_⟩
  have p62 : (2 : Int) ^ 62 = 4611686018427387904 := by decide
  have p63 : (2 : Int) ^ 63 = 9223372036854775808 := by decide
  refine ⟨Nat.zero_le _, fun D hD => ?_⟩
  refine ⟨_, rfl, a, rfl, ⟨_, (same_new hD _).seq hx⟩, for_list (K := K) (a := a) (xs := xs) (fun i σ G => ∃ (us : List V) (os : List Rat) (k1 k2 k3 : Option V), σ = [some (.ref a), some (.ref D), k1, k2, k3] ∧ Same H G ∧ G D = some (.lst us) ∧ All2 (Rq K G) us os ∧ Asc os ∧ (∀ o ∈ os, o ∈ qs) ∧ os.length ≤ i ∧ (∀ q ∈ qs.take i, q ∈ os))
    ⟨[], [], none, none, none, rfl, same_new hD _, upd_same, All2.nil, List.Pairwise.nil, nofun, Nat.le_refl _, fun q h => by rw [List.take_zero] at h; cases h⟩ (fun i σ G _ h => by obtain ⟨_, _, _, _, _, _, s1, _⟩ := h; exact s1.seq hx) ?_ ?_⟩
  · rintro i x σ G hxi ⟨us, os, k1, k2, k3, rfl, s1, hD1, hA, asc, sub, ln, all⟩
    have hi : i < qs.length := by rw [← hq.1]; exact (List.getElem?_eq_some_iff.mp hxi).1
    have hqi : qs[i]? = some qs[i] := List.getElem?_eq_getElem hi
    have hmem : qs[i] ∈ qs := List.getElem_mem hi
    have rx := (hq.2 i x _ hxi hqi).same s1
    obtain ⟨one, eo⟩ : ∃ o, o = qs[i] := ⟨_, rfl⟩
    rw [← eo] at rx hmem
    have zo := zq one hmem
    have zos : ∀ o ∈ os, Sz sz0 o := fun o ho => zq o (sub o ho)
    have hal := hA.1
    refine ⟨_, rfl, D, _, rfl, .inl (SqL.of hD1), _, rfl, by omega, by omega, for_range (n := ((us.length : Nat) : Int).toNat) (fun j σ G' => ∃ (m : Nat) (k3 : Option V), σ = [some (.ref a), some (.ref D), some x, some (.int m), k3] ∧ G' = G ∧ Spot os one j m)
      ⟨0, k3, rfl, rfl, Nat.le_refl _, fun t o h => absurd h (by omega)⟩ ?_ ?_⟩
    · rintro j σ G' hj ⟨m, k3, rfl, rfl, sp⟩
      have hj' : j < os.length := by omega
      have hoj : os[j]? = some os[j] := List.getElem?_eq_getElem hj'
      obtain ⟨y, hy, ry⟩ := hA.at hoj
      have sn := spot_next asc sp hoj
      refine ⟨_, rfl, _, rfl, D, _, _, y, rfl, rfl, SqL.of hD1, at_of (j := j) (by omega) hy, _, rfl, _, _, os[j], one, sz0, sz0, rfl, ry, rx, zos _ (List.getElem_mem hj'), zo, by omega, _, rfl, ifD (fun g => ?_) (fun g => ?_)⟩
      · rw [if_pos g] at sn
        refine ⟨_, rfl, _, _, rfl, rfl, j + 1, some (.int (0 + (j : Int))), ?_, rfl, sn⟩
        show [some (V.ref a), some (V.ref D), some x, some (V.int (0 + (j : Int) + 1)), some (V.int (0 + (j : Int)))] = _
        rw [show (0 + (j : Int) + 1) = ((j + 1 : Nat) : Int) by omega]
      · rw [if_neg g] at sn
        exact ⟨m, _, rfl, rfl, sn⟩
    · rintro σ G' ⟨m, k3, rfl, rfl, sp⟩
      have sp : Spot os one os.length m := by
        have e : ((us.length : Nat) : Int).toNat = os.length := by omega
        rw [e] at sp
        exact sp
      have hm := sp.1
      have put : os[m]? ≠ some one → ∃ (us' : List V) (os' : List Rat) (k1 k2 k3' : Option V), [some (.ref a), some (.ref D), some x, some (.int m), k3] = [some (.ref a), some (.ref D), k1, k2, k3'] ∧ Same H (upd G' D (.lst (us.take m ++ [x] ++ us.drop m))) ∧ (upd G' D (.lst (us.take m ++ [x] ++ us.drop m))) D = some (.lst us') ∧
          All2 (Rq K (upd G' D (.lst (us.take m ++ [x] ++ us.drop m)))) us' os' ∧ Asc os' ∧ (∀ o ∈ os', o ∈ qs) ∧ os'.length ≤ i + 1 ∧ (∀ q ∈ qs.take (i + 1), q ∈ os') := fun hn => by
        have fr : Fr D G' (upd G' D (.lst (us.take m ++ [x] ++ us.drop m))) := Fr.upd _
        have hA' := hA.imp fun _ _ h => Rq.fr fr ⟨_, hD1⟩ h
        refine ⟨_, os.take m ++ [one] ++ os.drop m, _, _, _, rfl, same_upd s1 hD _, upd_same, ((hA'.take m).append (All2.one (rx.fr fr ⟨_, hD1⟩))).append (hA'.drop m), asc_insert asc sp hn, fun o ho => ?_, ?_, fun q hq => ?_⟩
        · rcases List.mem_append.mp ho with ho | ho
          · rcases List.mem_append.mp ho with ho | ho
            · exact sub o (List.mem_of_mem_take ho)
            · rw [List.mem_singleton.mp ho]
              exact hmem
          · exact sub o (List.mem_of_mem_drop ho)
        · rw [List.length_append, List.length_append, List.length_take, List.length_drop, List.length_singleton]
          omega
        · rw [List.take_add_one, hqi] at hq
          rcases List.mem_append.mp hq with hq | hq
          · have hq := all q hq
            rw [← List.take_append_drop m os] at hq
            rcases List.mem_append.mp hq with hq | hq
            · exact List.mem_append_left _ (List.mem_append_left _ hq)
            · exact List.mem_append_right _ hq
          · have hq : q = one := by rw [eo]; exact List.mem_singleton.mp hq
            rw [hq]
            exact List.mem_append_left _ (List.mem_append_right _ (List.mem_singleton.mpr rfl))
      refine ⟨_, rfl, _, rfl, D, _, rfl, .inl (SqL.of hD1), rfl, _, rfl, ifD (fun g => ifT rfl ?_) (fun g => ?_)⟩
      · have g' := V.int.inj g
        have hn : os[m]? ≠ some one := by rw [List.getElem?_eq_none (by omega)]; exact nofun
        exact ⟨_, rfl, .inl ⟨rfl, _, SqL.of hD1⟩, _, rfl, _, rfl, D, _, _, _, rfl, rfl, hD1, le1000 (by omega), by omega, by omega, put hn⟩
      · have g' : m ≠ us.length := fun e => g (by rw [e])
        have hmo : os[m]? = some os[m] := List.getElem?_eq_getElem (by omega)
        obtain ⟨y, hy, ry⟩ := hA.at hmo
        refine ⟨_, rfl, _, rfl, D, _, _, y, rfl, rfl, SqL.of hD1, at_of (j := m) rfl hy, _, rfl, _, _, ry.dp, rx.dp, sh_dq _, sh_dq _, _, rfl, ?_⟩
        rw [eqv_dq]
        by_cases e : os[m] = one
        · refine ifF (by rw [dT e]; rfl) ⟨us, os, _, _, _, rfl, s1, hD1, hA, asc, sub, by omega, fun q hq => ?_⟩
          rw [List.take_add_one, hqi] at hq
          rcases List.mem_append.mp hq with hq | hq
          · exact all q hq
          · have hq : q = one := by rw [eo]; exact List.mem_singleton.mp hq
            rw [hq, ← e]
            exact List.getElem_mem _
        · refine ifT (by rw [dF e]; rfl) ?_
          have hn : os[m]? ≠ some one := by rw [hmo]; exact fun z => e (Option.some.inj z)
          exact ⟨_, rfl, .inl ⟨rfl, _, SqL.of hD1⟩, _, rfl, _, rfl, D, _, _, _, rfl, rfl, hD1, le1000 (by omega), by omega, by omega, put hn⟩
  · rintro σ G ⟨us, os, k1, k2, k3, rfl, s1, hD1, hA, asc, sub, ln, ne⟩
    rw [hq.1] at ln
    rw [hq.1, List.take_length] at ne
    exact ⟨_, rfl, z D us os G s1 hD hD1 hA asc sub ln ne⟩


/-- a start and None -/
def Sn (K : PySem.W.Frag) (H : Hp) (x : V) (q : Rat) : Prop := ∃ a xs, x = .ref a ∧ SqT K H a [xs, .non] ∧ Rq K H xs q
theorem Sn.same {H H' : Hp} {x : V} {q : Rat} (e : Same H H') (h : Sn K H x q) : Sn K H' x q := by
  obtain ⟨a, xs, rfl, h, h1⟩ := h
  exact ⟨a, xs, rfl, e.sqt h, h1.same e⟩
theorem Sn.fr {s : Addr} {H H' : Hp} {x : V} {q : Rat} (e : Fr s H H') (hs : ∃ ys, H s = some (.lst ys)) (h : Sn K H x q) : Sn K H' x q := by
  obtain ⟨a, xs, rfl, h, h1⟩ := h
  exact ⟨a, xs, rfl, sqt_fr e hs h, h1.fr e hs⟩
def spProbes (K : PySem.W.Frag) : Sp := fun vs H Q _ => ∃ (a : Addr) (xs : List V) (qs : List Rat) (m : Nat), vs = [.ref a] ∧ SqL K H a xs ∧ All2 (Sn K H) xs qs ∧ (∀ q ∈ qs, Sz m q) ∧ m ≤ 500 ∧ 1 ≤ qs.length ∧ qs.length ≤ 100 ∧
  ∀ D us ts H', Same H H' → H D = none → H' D = some (.lst us) → All2 (Rq K H') us ts → (∀ t ∈ ts, Sz (m + m + 4) t) → (∃ t ∈ ts, ∀ q ∈ qs, q < t) → ts.length ≤ 400 → Q (.ref D) H'
end Vk
namespace Vk
open PySem L2 Vm Vs
variable {l az : Addr} {P : Program} {w : World} {K : PySem.W.Frag} {mg : Str → Option Value} {base : Heap} {k : Nat} {f f1 f2 f3 f4 f5 f6 f7 f8 f9 : Addr} {fd fd1 fd2 fd3 fd4 fd5 fd6 fd7 fd8 fd9 : FuncData}
/-! ### ends and spans -/
def OSz (m : Nat) (o : Option Rat) : Prop := ∀ q, o = some q → Sz m q
def SSz (m : Nat) (s : Spn) : Prop := OSz m s.1 ∧ OSz m s.2
theorem optV.same {H H' : Hp} {v : V} {o : Option Rat} (e : Same H H') (h : optV K H v o) : optV K H' v o := by
  cases o with
  | none => exact h
  | some q => exact Rq.same e h
theorem optV.fr {s : Addr} {H H' : Hp} {v : V} {o : Option Rat} (e : Fr s H H') (hs : ∃ ys, H s = some (.lst ys)) (h : optV K H v o) : optV K H' v o := by
  cases o with
  | none => exact h
  | some q => exact Rq.fr e hs h
def Spq (K : PySem.W.Frag) (H : Hp) (x : V) (s : Spn) : Prop := ∃ a u v, x = .ref a ∧ SqT K H a [u, v] ∧ optV K H u s.1 ∧ optV K H v s.2
theorem Spq.same {H H' : Hp} {x : V} {s : Spn} (e : Same H H') (h : Spq K H x s) : Spq K H' x s := by
  obtain ⟨a, u, v, rfl, h, h1, h2⟩ := h
  exact ⟨a, u, v, rfl, e.sqt h, h1.same e, h2.same e⟩
theorem Spq.fr {s : Addr} {H H' : Hp} {x : V} {p : Spn} (e : Fr s H H') (hs : ∃ ys, H s = some (.lst ys)) (h : Spq K H x p) : Spq K H' x p := by
  obtain ⟨a, u, v, rfl, h, h1, h2⟩ := h
  exact ⟨a, u, v, rfl, sqt_fr e hs h, h1.fr e hs, h2.fr e hs⟩
def oSp (K : PySem.W.Frag) (H : Hp) (x : V) : Option Spn → Prop
  | none => x = .non
  | some s => Spq K H x s
theorem oSp.same {H H' : Hp} {x : V} {o : Option Spn} (e : Same H H') (h : oSp K H x o) : oSp K H' x o := by
  cases o with
  | none => exact h
  | some q => exact Spq.same e h
theorem osz_max {m : Nat} {a b : Option Rat} (h : OSz m a) (g : OSz m b) : OSz m (maxO a b) := by
  cases a with
  | none => exact g
  | some p => cases b with
    | none => exact h
    | some q =>
      intro r e
      simp only [maxO] at e
      cases Option.some.inj e
      split
      · exact h _ rfl
      · exact g _ rfl
theorem osz_min {m : Nat} {a b : Option Rat} (h : OSz m a) (g : OSz m b) : OSz m (minO a b) := by
  cases a with
  | none => exact g
  | some p => cases b with
    | none => exact h
    | some q =>
      intro r e
      simp only [minO] at e
      cases Option.some.inj e
      split
      · exact h _ rfl
      · exact g _ rfl
theorem osz_mov {m j : Nat} {o : Option Rat} {d : Rat} (h : OSz m o) (g : Sz j d) : OSz (m + j + 1) (movO o d) := by
  cases o with
  | none => nofun
  | some q => intro r e; cases Option.some.inj e; exact (h _ rfl).add g
theorem osz_neg {m : Nat} {o : Option Rat} (h : OSz m o) : OSz m (negO o) := by
  cases o with
  | none => nofun
  | some q => intro r e; cases Option.some.inj e; exact (h _ rfl).neg
theorem osz_up {m j : Nat} {o : Option Rat} (h : OSz m o) (e : m ≤ j) : OSz j o := fun q g => (h q g).mono e
theorem ssz_meet {m : Nat} {a b s : Spn} (h : SSz m a) (g : SSz m b) (e : meetO a b = some s) : SSz m s := by
  unfold meetO at e
  split at e
  · cases e
  · cases e
    exact ⟨osz_max h.1 g.1, osz_min h.2 g.2⟩
theorem ssz_off {x y : Rat} {i j : Nat} {fo ba s : Spn} (hx : Sz j x) (hy : Sz j y) (h : SSz i fo) (g : SSz i ba) (e : offO x y fo ba = some s) : SSz (i + j + 1) s :=
  ssz_meet ⟨osz_mov (osz_neg h.2) hx, osz_mov (osz_neg h.1) hx⟩ ⟨osz_mov g.1 hy, osz_mov g.2 hy⟩ e
/-- the written half -/
structure Hf (K : PySem.W.Frag) (mg : Str → Option Value) (az : Addr) : Prop where
  m : mg "HALF" = some (.ref az)
  q : ∀ H, Rq K H (.ref az) (1 / 2)
/-! ### the lesser and the greater one -/
def spSel (K : PySem.W.Frag) (g : Rat → Rat → Rat) : Sp := fun vs H Q _ => ∃ (x y : V) (p q : Rat) (m l : Nat), vs = [x, y] ∧ Rq K H x p ∧ Rq K H y q ∧ Sz m p ∧ Sz l q ∧ m + l + 1 ≤ 9000 ∧ ∀ v, Rq K H v (g p q) → Q v H
theorem sg_le {p q : Rat} : sg p q ≤ 0 ↔ p ≤ q := by
  unfold sg
  split
  · rename_i h
    subst h
    simp [Rat.le_refl]
  · split
    · rename_i h1 h2
      exact ⟨fun _ => by grind, fun _ => by omega⟩
    · rename_i h1 h2
      exact ⟨fun h => by omega, fun h => absurd h (by grind)⟩
def spEnd2 (K : PySem.W.Frag) (g : Option Rat → Option Rat → Option Rat) : Sp := fun vs H Q _ => ∃ (x y : V) (p q : Option Rat) (m : Nat), vs = [x, y] ∧ optV K H x p ∧ optV K H y q ∧ OSz m p ∧ OSz m q ∧ m + m + 1 ≤ 9000 ∧ ∀ v, optV K H v (g p q) → Q v H
def spMeet (K : PySem.W.Frag) : Sp := fun vs H Q _ => ∃ (x y : V) (s t : Spn) (m : Nat), vs = [x, y] ∧ Spq K H x s ∧ Spq K H y t ∧ SSz m s ∧ SSz m t ∧ m + m + 1 ≤ 9000 ∧ ∀ v H', Same H H' → oSp K H' v (meetO s t) → Q v H'
theorem sg_gt {p q : Rat} : 0 < sg p q ↔ q < p := by
  have := @sg_le p q
  constructor
  · intro h; exact Rat.not_le.mp fun e => by have := this.mpr e; omega
  · intro h; exact Int.not_le.mp fun e => absurd (this.mp e) (Rat.not_le.mpr h)
end Vk


namespace Vk
open PySem L2 Vm Vl
variable {l aZERO aONE CB CR fB fR : Addr} {P : Program} {w : World} {K : PySem.W.Frag} {mg : Str → Option Value} {base : Heap} {k : Nat} {f f1 f2 f3 f4 f5 f6 f7 f8 f9 : Addr} {fd fd1 fd2 fd3 fd4 fd5 fd6 fd7 fd8 fd9 : FuncData}
/-- a rational of the module -/
structure Cn (K : PySem.W.Frag) (mg : Str → Option Value) (x : Str) (p : Rat) (a : Addr) : Prop where
  m : mg x = some (.ref a)
  q : ∀ H, Rq K H (.ref a) p
theorem zz1 : Sz 1 (0 : Rat) := by decide +kernel
theorem zo1 : Sz 1 (1 : Rat) := by decide +kernel
def spNB (K : PySem.W.Frag) (CB : Addr) : Sp := fun vs H Q E => ∃ (x : V) (q : Rat) (m : Nat), vs = [x] ∧ Rq K H x q ∧ Sz m q ∧ m ≤ 8000 ∧ (0 ≤ q → Q .non H) ∧ (q < 0 → eV E CB H x)
def spSD (K : PySem.W.Frag) (CR : Addr) : Sp := fun vs H Q E => ∃ (x y : V) (s d : Rat) (m : Nat), vs = [x, y] ∧ Rq K H x s ∧ Rq K H y d ∧ Sz m s ∧ Sz m d ∧ m ≤ 4000 ∧
  (0 < s → s < 1 → 0 ≤ d → d < s → Q .non H) ∧ (s ≤ 0 ∨ 1 ≤ s → eV E CR H x) ∧ (0 < s → s < 1 → d < 0 ∨ s ≤ d → eV E CR H y)
theorem sg_le' {p q : Rat} : sg p q ≤ 0 ↔ p ≤ q := by
  have h := @sg_lt p q
  have g := @sg_ge p q
  constructor
  · intro e
    by_cases z : sg p q < 0
    · have := h.mp z; grind
    · have e0 : sg p q = 0 := by omega
      unfold sg at e0
      split at e0
      · rename_i hh; rw [hh]; exact Rat.le_refl
      · split at e0 <;> omega
  · intro e
    by_cases z : p < q
    · have := h.mpr z; omega
    · have e2 : p = q := by grind
      unfold sg
      rw [if_pos e2]
      omega
/-- the five arguments of a lap -/
structure L5 (K : PySem.W.Frag) (H : Hp) (xb xh xl xs xd : V) (x : A6) (m : Nat) : Prop where
  b : Rq K H xb x.b
  h : Rq K H xh x.h
  l : Rq K H xl x.l
  s : Rq K H xs x.s
  d : Rq K H xd x.d
  zb : Sz m x.b
  zh : Sz m x.h
  zl : Sz m x.l
  zs : Sz m x.s
  zd : Sz m x.d
theorem L5.same {H H' : Hp} {xb xh xl xs xd : V} {x : A6} {m : Nat} (h : L5 K H xb xh xl xs xd x m) (e : Same H H') : L5 K H' xb xh xl xs xd x m := { h with b := h.b.same e, h := h.h.same e, l := h.l.same e, s := h.s.same e, d := h.d.same e }
theorem L5.fr {s : Addr} {H H' : Hp} {xb xh xl xs xd : V} {x : A6} {m : Nat} (h : L5 K H xb xh xl xs xd x m) (e : Fr s H H') (hs : ∃ ys, H s = some (.lst ys)) : L5 K H' xb xh xl xs xd x m := { h with b := h.b.fr e hs, h := h.h.fr e hs, l := h.l.fr e hs, s := h.s.fr e hs, d := h.d.fr e hs }
/-- the first wrong argument: what it wishes of an error -/
def Fault (x : A6) (W : Bool → Nat → Prop) : Prop :=
  (x.b < 0 → W true 0) ∧ (0 ≤ x.b → x.h < 0 → W true 1) ∧ (0 ≤ x.b → 0 ≤ x.h → x.l ≤ 0 → W true 2) ∧ (0 ≤ x.b → 0 ≤ x.h → 0 < x.l → x.s ≤ 0 ∨ 1 ≤ x.s → W false 3) ∧
    (0 ≤ x.b → 0 ≤ x.h → 0 < x.l → 0 < x.s → x.s < 1 → x.d < 0 ∨ x.s ≤ x.d → W false 4)
def eF (E : XK) (CB CR : Addr) (H : Hp) (ys : List V) : Bool → Nat → Prop := fun b i => ∀ y, ys[i]? = some y → eV E (if b = true then CB else CR) H y
def spLap (K : PySem.W.Frag) (CB CR : Addr) : Sp := fun vs H Q E => ∃ (xb xh xl xs xd : V) (x : A6) (m : Nat), vs = [xb, xh, xl, xs, xd] ∧ L5 K H xb xh xl xs xd x m ∧ m ≤ 4000 ∧ (Good x → Q .non H) ∧ Fault x (eF E CB CR H [xb, xh, xl, xs, xd])
def spBehind (K : PySem.W.Frag) : Sp := fun vs H Q _ => ∃ (xb xh xl xs xd : V) (x : A6) (m : Nat), vs = [xb, xh, xl, xs, xd] ∧ L5 K H xb xh xl xs xd x m ∧ m ≤ 1500 ∧ ∀ v H', Same H H' → Rq K H' v (nextB x x.b) → Q v H'
def spAfter (K : PySem.W.Frag) (CB CR : Addr) : Sp := fun vs H Q E => ∃ (xb xh xl xs xd : V) (x : A6) (m : Nat), vs = [xb, xh, xl, xs, xd] ∧ L5 K H xb xh xl xs xd x m ∧ m ≤ 1500 ∧ (Good x → ∀ v H', Same H H' → Rq K H' v (nextB x x.b) → Q v H') ∧ Fault x (eF E CB CR H [xb, xh, xl, xs, xd])
end Vk
namespace Vk
open PySem L2 Vm Vl
variable {l aZERO aONE CB CR fB fR : Addr} {P : Program} {w : World} {K : PySem.W.Frag} {mg : Str → Option Value} {base : Heap} {k : Nat} {f f1 f2 f3 f4 f5 f6 f7 f8 f9 : Addr} {fd fd1 fd2 fd3 fd4 fd5 fd6 fd7 fd8 fd9 : FuncData}
/-! ### rates -/
def ab (q : Rat) : Rat := if q < 0 then -q else q
theorem ab_num (q : Rat) : (ab q).num = if q.num < 0 then -q.num else q.num := by
  unfold ab
  have h : q < 0 ↔ q.num < 0 := by rw [← Rat.not_le, ← Rat.num_nonneg]; omega
  by_cases c : q < 0
  · rw [if_pos c, if_pos (h.mp c), Rat.neg_num]
  · rw [if_neg c, if_neg fun e => c (h.mpr e)]
theorem ab_den (q : Rat) : (ab q).den = q.den := by
  unfold ab
  split
  · exact Rat.neg_den q
  · rfl
theorem Sz.ab {m : Nat} {q : Rat} (h : Sz m q) : Sz m (ab q) := by
  unfold Vk.ab
  split
  · exact h.neg
  · exact h
theorem rq_ab {H : Hp} {t : Addr} {q : Rat} : Rq K (upd H t (.tup [.int (if q.num < 0 then -q.num else q.num), .int q.den])) (.ref t) (ab q) := by
  refine ⟨t, rfl, ?_⟩
  rw [ab_num, ab_den]
  exact SqT.of upd_same
def spRates (K : PySem.W.Frag) (CR : Addr) : Sp := fun vs H Q E => ∃ (x y : V) (s d : Rat) (m : Nat), vs = [x, y] ∧ Rq K H x s ∧ Rq K H y d ∧ Sz m s ∧ Sz m d ∧ m ≤ 2000 ∧
  (0 < s → s ≤ d → Q .non H) ∧ (s ≤ 0 → eV E CR H x) ∧ (0 < s → d < s → eV E CR H y)
/-- the drift between two rates -/
def dri (s d : Rat) : Rat := if ab (1 - 1 / s) ≤ ab (1 - 1 / d) then ab (1 - 1 / d) else ab (1 - 1 / s)
def spDrift (K : PySem.W.Frag) (CR : Addr) : Sp := fun vs H Q E => ∃ (x y : V) (s d : Rat) (m : Nat), vs = [x, y] ∧ Rq K H x s ∧ Rq K H y d ∧ Sz m s ∧ Sz m d ∧ m ≤ 2000 ∧
  (0 < s → s ≤ d → ∀ v H', Same H H' → Rq K H' v (dri s d) → Q v H') ∧ (s ≤ 0 → eV E CR H x) ∧ (0 < s → d < s → eV E CR H y)
/-- wrong rates, and which of them is told -/
def Br (K : PySem.W.Frag) (H : Hp) (v : V) : Prop := ∃ r x y t u s d, v = .ref r ∧ SqT K H r [x, y, .ref t] ∧ SqT K H t [.str "BadRate", u] ∧ Rq K H x s ∧ Rq K H y d ∧ Sz 40 s ∧ Sz 40 d ∧ ((s ≤ 0 ∧ u = x) ∨ (0 < s ∧ d < s ∧ u = y))
end Vk
namespace Vk
open PySem L2 Vm Vl
variable {l CB CR CV CE CT fB fR : Addr} {P : Program} {w : World} {K : PySem.W.Frag} {mg : Str → Option Value} {base : Heap} {k : Nat} {f f1 f2 f3 f4 f5 f6 f7 f8 f9 : Addr} {fd fd1 fd2 fd3 fd4 fd5 fd6 fd7 fd8 fd9 : FuncData}
theorem pss_if {X : Cx} {b : List Stmt} {p : Prop} {t : TS} (h : p → PSs X b t) : PSs X b (fun D σ H => p ∧ t D σ H) := ⟨fun pins s σ H D I w => (h w.1).run pins s σ H D I w.2⟩
def cC (CB CR : Addr) (b : Bool) : Addr := if b = true then CB else CR
/-- the classes that the law names, and what isinstance says of them -/
structure CN (K : PySem.W.Frag) (mg : Str → Option Value) (CB CR CV CE CT : Addr) : Prop where
  e : ∀ b, ExcC K (cC CB CR b)
  gB : mg "BadBound" = some (.ref CB)
  gR : mg "BadRate" = some (.ref CR)
  gV : mg "VerdictError" = some (.ref CV)
  gE : mg "EmptySpan" = some (.ref CE)
  gT : mg "TurnsBack" = some (.ref CT)
  rb : PySem.W.exmOne K (.ref CR) (.ref CB) = some false
  kB : ∀ b, PySem.W.kitOne K (.ref (cC CB CR b)) (.ref CB) = some b
  kR : ∀ b, PySem.W.kitOne K (.ref (cC CB CR b)) (.ref CR) = some (!b)
  kE : ∀ b, PySem.W.kitOne K (.ref (cC CB CR b)) (.ref CE) = some false
  kT : ∀ b, PySem.W.kitOne K (.ref (cC CB CR b)) (.ref CT) = some false
  kV : ∀ b, PySem.W.kitOne K (.ref (cC CB CR b)) (.ref CV) = some true
theorem pe_callP2 {X : Cx} {k : Nat} {f : Addr} {fd : FuncData} {ps : List Str} {sp : Addr × Obj → Sp} {sp' : Sp} {p : Addr × Obj} {x : Str} {q pos : Pos} {e : Expr} {es : List Expr} {t : TA} (F : DefP X.prog X.w X.K X.mg X.base k x ps sp f fd) (room : L2H.RoomH k X.A) (hot : L2H.Hot1 X.A p) (hp : p ∈ X.pn)
    (imp : ∀ vs H Q E, sp' vs H Q E → sp p vs H Q E) (ha : PA X (e :: es) t) (hg : Gl X x := by rfl) (hdb : (x == ("__debug__" : Str)) = false := by decide)
    (he : starEach (e :: es) X.env = (false, eval e X.env) :: starEach es X.env := by rfl) (hpl : (backTo pos (starEach es X.env)).any (·.1) = false := by rfl) : PE X (.Call (.Name x q) (e :: es) [] pos) (tCall sp' [] E0 t) := by
  refine ⟨?_⟩
  intro pins s σ H Q I want
  refine wpAny_Call_Name_kw (ld_glob I hg F.m ?_ hdb)
  refine PySem.W.callWith_K (h₀ := X.base) I.ok.mod.kin F.kp (thn (ha.run pos pins s σ H _ I want) ?_) he hpl
  rintro us s1 ⟨vs, H1, I1, r, z⟩
  refine ⟨I1.kIn, ?_⟩
  have z : sp p vs H1 Q E0 := by rw [List.append_nil] at z; exact imp _ _ _ _ z
  have cnt : us.length = ps.length := by rw [← r.length]; exact F.ok.many _ _ _ _ _ z
  have bound := F.b s1 us I1.kIn (by rw [List.append_nil]; exact cnt)
  rw [List.append_nil] at bound
  have at1 := I1.pin p (List.mem_append_left _ hp)
  have pin : L2H.PinOk X.stack H1 s1 p := ⟨at1.1, at1.2.1, fun m => (List.mem_cons.mp (I1.stkSub p.1 m)).elim at1.2.2.1 at1.2.2.2.1, at1.2.2.2.2⟩
  refine wpAny_call (codeAny_mono (F.ok.go X.A X.stack s1 H1 ⟨us, []⟩ us vs Q E0 p room hot pin I1.env0 bound r z) ?_)
  intro res s2 out
  cases res with
  | error _ => exact out.elim
  | ok fl =>
    cases fl with
    | ret u => exact I1.after out
    | next => exact out.elim
    | brk => exact out.elim
    | cont => exact out.elim
end Vk


namespace Vk
open PySem L2 Vm Vl
variable {K : PySem.W.Frag}
/-- a comprehension over a list: what each item gives, if it gives anything -/
theorem lcAll {α β : Type} {R : Hp → V → α → Prop} {R' : Hp → V → β → Prop} (L : Lasts R') (φ : α → Option β) {a : Addr} {xs : List V} {c : List α} {H : Hp} {g : TG} {tt : TT} {te : TE} {vs : List Nat} {σ : L2.St} {Qd : Hp → Prop} {D : Addr} (hD : H D = none)
    (hx : SqL K H a xs) (hc : All2 (R H) xs c) (hl : c.length ≤ 1000)
    (hs : ∀ (i : Nat) x p G, c[i]? = some p → R H x p → Same H G → ∀ (Y : V → Hp → Prop) (N : Hp → Prop), (∀ y G' b, Same G G' → φ p = some b → R' G' y b → Y y G') → (∀ G', φ p = none → Same G G' → N G') →
      g x (wipe σ vs) G fun σ2 H2 => wipe σ2 vs = wipe σ vs ∧ tt σ2 H2 fun b H3 => if b = true then te σ2 H3 Y else N H3)
    (hd : ∀ us H', Same H H' → H' D = some (.lst us) → All2 (R' H') us (c.filterMap φ) → Qd H') :
    ∃ W : Nat → Nat → Hp → Prop, (∃ m, W 0 m (upd H D (.lst []))) ∧ ∀ i m H, W i m H →
      ((Itl K a).stop i H ∧ Qd H) ∨ ((Itl K a).go i H ∧ ∃ Nx : Hp → Prop, (∀ H', Nx H' → ∃ m', m' < m ∧ W (i + 1) m' H') ∧ ∀ x H', (Itl K a).yld i H x H' → g x (wipe σ vs) H' fun σ2 H2 => wipe σ2 vs = wipe σ vs ∧ tt σ2 H2 fun b H3 =>
        if b = true then te σ2 H3 fun y H4 => ∃ acc, H4 D = some (.lst acc) ∧ acc.length < sizeLine ∧ Nx (upd H4 D (.lst (acc ++ [y]))) else Nx H3) := by
  refine lc_list (xs := xs) (fun i G => ∃ acc, G D = some (.lst acc) ∧ Same H G ∧ All2 (R' G) acc ((c.take i).filterMap φ)) ⟨[], upd_same, same_new hD _, by rw [List.take_zero]; exact All2.nil⟩ (fun i G _ h => by obtain ⟨_, _, s1, _⟩ := h; exact s1.seq hx) ?_ ?_
  · rintro i x G hxi ⟨acc, h1, s1, h2⟩
    have hi : i < c.length := by have := (List.getElem?_eq_some_iff.mp hxi).1; rw [hc.1] at this; exact this
    have ec : c[i]? = some c[i] := List.getElem?_eq_getElem hi
    have et : c.take (i + 1) = c.take i ++ [c[i]] := by rw [List.take_add_one, ec]; rfl
    refine hs i x c[i] G ec (hc.2 i x _ hxi ec) s1 _ _ (fun y G' b e1 eb r => ?_) (fun G' eb e1 => ?_)
    · have hD2 := e1 _ _ h1
      have fr : Fr D G' (upd G' D (.lst (acc ++ [y]))) := Fr.upd _
      refine ⟨acc, hD2, ?_, acc ++ [y], upd_same, same_upd (s1.trans e1) hD _, ?_⟩
      · have q := h2.1
        have q2 := List.length_filterMap_le φ (c.take i)
        rw [List.length_take] at q2
        have : sizeLine = 16777216 := sizeLine_eq
        omega
      · rw [et, List.filterMap_append]
        have : [c[i]].filterMap φ = [b] := by simp [List.filterMap, eb]
        rw [this]
        exact (h2.imp fun _ _ q => L fr ⟨_, hD2⟩ (L (Fr.of (s := D) e1) ⟨_, h1⟩ q)).snoc (L fr ⟨_, hD2⟩ r)
    · refine ⟨acc, e1 _ _ h1, s1.trans e1, ?_⟩
      rw [et, List.filterMap_append]
      have : [c[i]].filterMap φ = [] := by simp [List.filterMap, eb]
      rw [this, List.append_nil]
      exact h2.imp fun _ _ q => L (Fr.of (s := D) e1) ⟨_, h1⟩ q
  · rintro G ⟨acc, h1, s1, h2⟩
    rw [List.take_of_length_le (by rw [hc.1]; exact Nat.le_refl _)] at h2
    exact hd acc G s1 h1 h2
/-- a comprehension over a tuple: what each item gives, if it gives anything -/
theorem lcAllT {α β : Type} {R : Hp → V → α → Prop} {R' : Hp → V → β → Prop} (L : Lasts R') (φ : α → Option β) {a : Addr} {xs : List V} {c : List α} {H : Hp} {g : TG} {tt : TT} {te : TE} {vs : List Nat} {σ : L2.St} {Qd : Hp → Prop} {D : Addr} (hD : H D = none)
    (hx : SqT K H a xs) (hc : All2 (R H) xs c) (hl : c.length ≤ 1000)
    (hs : ∀ (i : Nat) x p G, c[i]? = some p → R H x p → Same H G → ∀ (Y : V → Hp → Prop) (N : Hp → Prop), (∀ y G' b, Same G G' → φ p = some b → R' G' y b → Y y G') → (∀ G', φ p = none → Same G G' → N G') →
      g x (wipe σ vs) G fun σ2 H2 => wipe σ2 vs = wipe σ vs ∧ tt σ2 H2 fun b H3 => if b = true then te σ2 H3 Y else N H3)
    (hd : ∀ us H', Same H H' → H' D = some (.lst us) → All2 (R' H') us (c.filterMap φ) → Qd H') :
    ∃ W : Nat → Nat → Hp → Prop, (∃ m, W 0 m (upd H D (.lst []))) ∧ ∀ i m H, W i m H →
      ((Itt K a).stop i H ∧ Qd H) ∨ ((Itt K a).go i H ∧ ∃ Nx : Hp → Prop, (∀ H', Nx H' → ∃ m', m' < m ∧ W (i + 1) m' H') ∧ ∀ x H', (Itt K a).yld i H x H' → g x (wipe σ vs) H' fun σ2 H2 => wipe σ2 vs = wipe σ vs ∧ tt σ2 H2 fun b H3 =>
        if b = true then te σ2 H3 fun y H4 => ∃ acc, H4 D = some (.lst acc) ∧ acc.length < sizeLine ∧ Nx (upd H4 D (.lst (acc ++ [y]))) else Nx H3) := by
  refine lc_tup (xs := xs) (fun i G => ∃ acc, G D = some (.lst acc) ∧ Same H G ∧ All2 (R' G) acc ((c.take i).filterMap φ)) ⟨[], upd_same, same_new hD _, by rw [List.take_zero]; exact All2.nil⟩ (fun i G _ h => by obtain ⟨_, _, s1, _⟩ := h; exact s1.sqt hx) ?_ ?_
  · rintro i x G hxi ⟨acc, h1, s1, h2⟩
    have hi : i < c.length := by have := (List.getElem?_eq_some_iff.mp hxi).1; rw [hc.1] at this; exact this
    have ec : c[i]? = some c[i] := List.getElem?_eq_getElem hi
    have et : c.take (i + 1) = c.take i ++ [c[i]] := by rw [List.take_add_one, ec]; rfl
    refine hs i x c[i] G ec (hc.2 i x _ hxi ec) s1 _ _ (fun y G' b e1 eb r => ?_) (fun G' eb e1 => ?_)
    · have hD2 := e1 _ _ h1
      have fr : Fr D G' (upd G' D (.lst (acc ++ [y]))) := Fr.upd _
      refine ⟨acc, hD2, ?_, acc ++ [y], upd_same, same_upd (s1.trans e1) hD _, ?_⟩
      · have q := h2.1
        have q2 := List.length_filterMap_le φ (c.take i)
        rw [List.length_take] at q2
        have : sizeLine = 16777216 := sizeLine_eq
        omega
      · rw [et, List.filterMap_append]
        have : [c[i]].filterMap φ = [b] := by simp [List.filterMap, eb]
        rw [this]
        exact (h2.imp fun _ _ q => L fr ⟨_, hD2⟩ (L (Fr.of (s := D) e1) ⟨_, h1⟩ q)).snoc (L fr ⟨_, hD2⟩ r)
    · refine ⟨acc, e1 _ _ h1, s1.trans e1, ?_⟩
      rw [et, List.filterMap_append]
      have : [c[i]].filterMap φ = [] := by simp [List.filterMap, eb]
      rw [this, List.append_nil]
      exact h2.imp fun _ _ q => L (Fr.of (s := D) e1) ⟨_, h1⟩ q
  · rintro G ⟨acc, h1, s1, h2⟩
    rw [List.take_of_length_le (by rw [hc.1]; exact Nat.le_refl _)] at h2
    exact hd acc G s1 h1 h2
theorem forL {a : Addr} {xs : List V} {g : TG} {tb : TS} {nx : L2.St → Hp → Prop} {rt : VK} {σ : L2.St} {H : Hp} (Pv : Nat → L2.St → Hp → Prop) (h0 : Pv 0 σ H) (hl : ∀ i σ H, i ≤ xs.length → Pv i σ H → SqL K H a xs) (hs : ∀ i x σ H, xs[i]? = some x → Pv i σ H → g x σ H fun σ2 H2 => tb { nx := Pv (i + 1), rt := rt, bk := nx, ct := Pv (i + 1) } σ2 H2)
    (hd : ∀ σ H, Pv xs.length σ H → nx σ H) :
    ∃ W : Nat → Nat → L2.St → Hp → Prop, (∃ m, W 0 m σ H) ∧ ∀ i m σ H, W i m σ H →
      ((Itl K a).stop i H ∧ nx σ H) ∨ ((Itl K a).go i H ∧ ∃ N : L2.St → Hp → Prop, (∀ σ' H', N σ' H' → ∃ m', m' < m ∧ W (i + 1) m' σ' H') ∧ ∀ x H', (Itl K a).yld i H x H' → g x σ H' fun σ2 H2 => tb { nx := N, rt := rt, bk := nx, ct := N } σ2 H2) :=
  for_list (D := { nx := nx, rt := rt }) Pv h0 hl hs hd
theorem forT {a : Addr} {xs : List V} {g : TG} {tb : TS} {nx : L2.St → Hp → Prop} {rt : VK} {σ : L2.St} {H : Hp} (Pv : Nat → L2.St → Hp → Prop) (h0 : Pv 0 σ H) (hl : ∀ i σ H, i ≤ xs.length → Pv i σ H → SqT K H a xs) (hs : ∀ i x σ H, xs[i]? = some x → Pv i σ H → g x σ H fun σ2 H2 => tb { nx := Pv (i + 1), rt := rt, bk := nx, ct := Pv (i + 1) } σ2 H2)
    (hd : ∀ σ H, Pv xs.length σ H → nx σ H) :
    ∃ W : Nat → Nat → L2.St → Hp → Prop, (∃ m, W 0 m σ H) ∧ ∀ i m σ H, W i m σ H →
      ((Itt K a).stop i H ∧ nx σ H) ∨ ((Itt K a).go i H ∧ ∃ N : L2.St → Hp → Prop, (∀ σ' H', N σ' H' → ∃ m', m' < m ∧ W (i + 1) m' σ' H') ∧ ∀ x H', (Itt K a).yld i H x H' → g x σ H' fun σ2 H2 => tb { nx := N, rt := rt, bk := nx, ct := N } σ2 H2) :=
  for_tup (D := { nx := nx, rt := rt }) Pv h0 hl hs hd
theorem forR {lo : Int} {n : Nat} {g : TG} {tb : TS} {nx : L2.St → Hp → Prop} {rt : VK} {σ : L2.St} {H : Hp} (Pv : Nat → L2.St → Hp → Prop) (h0 : Pv 0 σ H) (hs : ∀ i σ H, i < n → Pv i σ H → g (.int (lo + i)) σ H fun σ2 H2 => tb { nx := Pv (i + 1), rt := rt, bk := nx, ct := Pv (i + 1) } σ2 H2)
    (hd : ∀ σ H, Pv n σ H → nx σ H) :
    ∃ W : Nat → Nat → L2.St → Hp → Prop, (∃ m, W 0 m σ H) ∧ ∀ i m σ H, W i m σ H →
      ((Itr lo n).stop i H ∧ nx σ H) ∨ ((Itr lo n).go i H ∧ ∃ N : L2.St → Hp → Prop, (∀ σ' H', N σ' H' → ∃ m', m' < m ∧ W (i + 1) m' σ' H') ∧ ∀ x H', (Itr lo n).yld i H x H' → g x σ H' fun σ2 H2 => tb { nx := N, rt := rt, bk := nx, ct := N } σ2 H2) :=
  for_range (D := { nx := nx, rt := rt }) Pv h0 hs hd
theorem ifN {p : Prop} [Decidable p] {A B : Prop} (h1 : ¬ p → A) (h2 : p → B) : if (!decide p) = true then A else B := by
  by_cases h : p
  · rw [decide_eq_true h]; exact h2 h
  · rw [decide_eq_false h]; exact h1 h
def odp : Option Rat → PyData
  | none => .none
  | some q => dq q
theorem optV.dp {H : Hp} {v : V} {o : Option Rat} (h : optV K H v o) : Dp K H v (odp o) := by
  cases o with
  | none =>
    have h : v = .non := h
    rw [h]
    exact .non
  | some q => exact Rq.dp h
theorem sh_odp (o : Option Rat) : SeqAt.shaped (odp o) = true := by cases o <;> rfl
theorem eqv_odp (o u : Option Rat) : PyData.eqv (odp o) (odp u) = decide (o = u) := by
  cases o with
  | none =>
    cases u with
    | none => rfl
    | some q => rfl
  | some p =>
    cases u with
    | none => rfl
    | some q =>
      show PyData.eqv (dq p) (dq q) = _
      rw [eqv_dq]
      by_cases h : p = q
      · rw [dT h, dT (congrArg some h)]
      · rw [dF h, dF fun e => h (Option.some.inj e)]
theorem eqv_odq (o : Option Rat) (q : Rat) : PyData.eqv (odp o) (dq q) = decide (o = some q) := eqv_odp o (some q)
theorem treeAll_nil {n : Nat} : ∀ d ∈ ([] : List PyData), Tree n d := nofun
theorem treeAll_cons {n : Nat} {d : PyData} {ds : List PyData} (h : Tree n d) (g : ∀ d ∈ ds, Tree n d) : ∀ e ∈ d :: ds, Tree n e := fun e he => by
  rcases List.mem_cons.mp he with rfl | he
  · exact h
  · exact g e he
theorem ifNT {p : Prop} [Decidable p] {A B : Prop} (h : ¬ p) (hA : A) : if (!decide p) = true then A else B := by rw [decide_eq_false h]; exact hA
theorem ifNF {p : Prop} [Decidable p] {A B : Prop} (h : p) (hB : B) : if (!decide p) = true then A else B := by rw [decide_eq_true h]; exact hB
theorem optV_rq {H : Hp} {v : V} {o : Option Rat} {q : Rat} (h : optV K H v o) (e : o = some q) : Rq K H v q := by subst e; exact h
theorem aQd {l s : Addr} {m : Nat} {ok : Rat → Prop} {H : Hp} {Q : VK} (h : ∀ a q H', Rq K H' (.ref a) q → SqT K H' a [.int q.num, .int (q.den : Int)] → Sz m q → ok q → Sto l s H' → Fr s H H' → Q (.ref a) H') : ∀ v H', Qd K m ok H' v → Sto l s H' → Fr s H H' → Q v H' := fun v H' hq S e => by
  obtain ⟨q, hr, z, o⟩ := hq
  obtain ⟨a, rfl, ha⟩ := id hr
  exact h a q H' hr ha z o S e
structure Hold (p : Prop) : Prop where
  out : p
theorem rl11 {H : Hp} {t : Addr} : Rq K (upd H t (.tup [.int 1, .int 1])) (.ref t) (1) := rq_new 1 1 _ (by decide +kernel) (by decide +kernel)
theorem zl11 : Sz 10 (1 : Rat) := by decide +kernel
theorem rl12 {H : Hp} {t : Addr} : Rq K (upd H t (.tup [.int 1, .int 2])) (.ref t) (mkRat 1 2) := rq_new 1 2 _ (by decide +kernel) (by decide +kernel)
theorem zl12 : Sz 10 (mkRat 1 2 : Rat) := by decide +kernel
theorem rl01 {H : Hp} {t : Addr} : Rq K (upd H t (.tup [.int 0, .int 1])) (.ref t) (0) := rq_new 0 1 _ (by decide +kernel) (by decide +kernel)
theorem zl01 : Sz 10 (0 : Rat) := by decide +kernel
theorem rl1m {H : Hp} {t : Addr} : Rq K (upd H t (.tup [.int 1, .int 1000])) (.ref t) (mkRat 1 1000) := rq_new 1 1000 _ (by decide +kernel) (by decide +kernel)
theorem zl1m : Sz 10 (mkRat 1 1000 : Rat) := by decide +kernel
theorem rlnm {H : Hp} {t : Addr} : Rq K (upd H t (.tup [.int (-1), .int 1000])) (.ref t) (mkRat (-1) 1000) := rq_new (-1) 1000 _ (by decide +kernel) (by decide +kernel)
theorem zlnm : Sz 10 (mkRat (-1) 1000 : Rat) := by decide +kernel
theorem rln1 {H : Hp} {t : Addr} : Rq K (upd H t (.tup [.int (-1), .int 1])) (.ref t) (-1) := rq_new (-1) 1 _ (by decide +kernel) (by decide +kernel)
theorem zln1 : Sz 10 (-1 : Rat) := by decide +kernel
theorem rlh1 {H : Hp} {t : Addr} : Rq K (upd H t (.tup [.int 100, .int 1])) (.ref t) (100) := rq_new 100 1 _ (by decide +kernel) (by decide +kernel)
theorem zlh1 : Sz 10 (100 : Rat) := by decide +kernel
/-- a list that grows -/
structure Gw {α : Type} (R : Hp → V → α → Prop) (H : Hp) (D : Addr) (us : List V) (os : List α) (G : Hp) : Prop where
  fresh : H D = none
  same : Same H G
  at_ : G D = some (.lst us)
  all : All2 (R G) us os
theorem Gw.go {α : Type} {R : Hp → V → α → Prop} {H G G1 : Hp} {D : Addr} {us : List V} {os : List α} (L : Lasts R) (h : Gw R H D us os G) (e : Same G G1) : Gw R H D us os G1 :=
  ⟨h.fresh, h.same.trans e, e _ _ h.at_, h.all.imp fun _ _ q => L (Fr.of (s := D) e) ⟨_, h.at_⟩ q⟩
theorem Gw.app {α : Type} {R : Hp → V → α → Prop} {H G : Hp} {D : Addr} {us : List V} {os : List α} {x : V} {q : α} (L : Lasts R) (h : Gw R H D us os G) (r : R G x q) : Gw R H D (us ++ [x]) (os ++ [q]) (upd G D (.lst (us ++ [x]))) :=
  ⟨h.fresh, same_upd h.same h.fresh _, upd_same, (h.all.imp fun _ _ q => L (Fr.upd _) ⟨_, h.at_⟩ q).snoc (L (Fr.upd _) ⟨_, h.at_⟩ r)⟩
theorem appGw {α : Type} {R : Hp → V → α → Prop} {H G : Hp} {D : Addr} {us : List V} {os : List α} {x : V} {q : α} {C : Addr → List V → V → Prop} (L : Lasts R) (gw : Gw R H D us os G) (r : R G x q) (hl : us.length < sizeLine) (k : Gw R H D (us ++ [x]) (os ++ [q]) (upd G D (.lst (us ++ [x]))) → Fr D G (upd G D (.lst (us ++ [x]))) → C D us x) :
    ∃ (l : Addr) (xs : List V) (y : V), V.ref D = .ref l ∧ [x] = [y] ∧ G l = some (.lst xs) ∧ xs.length < sizeLine ∧ C l xs y := ⟨D, us, x, rfl, rfl, gw.at_, hl, k (gw.app L r) (Fr.upd _)⟩
theorem Gw.start {α : Type} {R : Hp → V → α → Prop} {H G : Hp} {D : Addr} (e : Same H G) (h : G D = none) : Gw R H D [] [] (upd G D (.lst [])) := ⟨sameFree e h, e.trans (same_new h _), upd_same, All2.nil⟩
end Vk

namespace Vk
open PySem L2 Vm Vl
variable {l aZERO aONE CB CR CV fB fR : Addr} {P : Program} {w : World} {K : PySem.W.Frag} {mg : Str → Option Value} {base : Heap} {k : Nat} {f f1 f2 f3 f4 f5 f6 f7 f8 f9 : Addr} {fd fd1 fd2 fd3 fd4 fd5 fd6 fd7 fd8 fd9 : FuncData}
theorem place_cut {c : List Pc} {t : Rat} {i : Nat} {p : Pc} (ok : Cok c) (done : ∀ (j : Nat) (p : Pc), j < i → c[j]? = some p → ¬ t < p.s) (ec : c[i]? = some p) (g : t < p.s) : (c.filter (on t)).length = i := by
  have hi := (List.getElem?_eq_some_iff.mp ec).1
  have e : c.filter (on t) = c.take i := filter_take _ fun j x hx => by
    constructor
    · intro o
      refine Nat.lt_of_not_le fun l => ?_
      have : p.s ≤ x.s := by
        by_cases e : i = j
        · subst e; rw [ec] at hx; cases hx; exact Rat.le_refl
        · have := cok_lt ok (show i < j by omega) ec hx; grind
      simp [on] at o
      grind
    · intro l
      simp [on, done j x l hx]
  rw [e, List.length_take]
  omega
abbrev s__place_at : Stmt := top 20
abbrev N__place_at : List Str := ["course", "t", "place", "start", "shown", "rate"]
theorem sc__place_at : FnScope N__place_at ["course", "t"] (defScope s__place_at) := ⟨rfl, rfl, rfl, by decide +kernel, rfl, by decide +kernel, by decide +kernel⟩
abbrev ps__place_at : List Str := ["course", "t"]
def spPlace (K : PySem.W.Frag) : Sp := fun vs H Q _ => ∃ (a : Addr) (y : V) (c : List Pc) (t : Rat) (i j l m : Nat), vs = [.ref a, y] ∧ Cq K H a c ∧ Rq K H y t ∧ Cz i j l c ∧ Sz m t ∧ Cok c ∧ i + m + 1 ≤ 9000 ∧ Q (.int (((c.filter (on t)).length : Int) - 1)) H
theorem ok_place_at (F : Fn K mg "_place_at" s__place_at ps__place_at f fd) (dcompare : Def P w K mg base k "compare" ["a", "b"] (spTest2 K fun p q => .int (sg p q)) f1 fd1) : Def P w K mg base (k + 1) "_place_at" ps__place_at (spPlace K) f fd := by
  refine ⟨F.F.ok sc__place_at (fun vs H Q E h => ?_) (fun cdv A outer s H vs Q E hr h => ?_), F.m, F.F.kp, F.b⟩
  · obtain ⟨_, _, _, _, _, _, _, _, rfl, _⟩ := h
    rfl
  obtain ⟨a, y, c, t, i0, j0, l0, m, rfl, ⟨xs, hxs, hc⟩, hy, cz, zt, ok, hb, z⟩ := h
  refine ⟨_, (pss_cons (ps_set (i := 2) sc__place_at.nd rfl (Or.inl rfl) (pe_un un_neg pe_int))
      (pss_cons (ps_for PassesOwn.never rfl (pi_list (pv 0)) (pg_tup rfl (pgs_cons (pg_name (i := 3) sc__place_at.nd rfl (Or.inl rfl)) (pgs_cons (pg_name (i := 4) sc__place_at.nd rfl (Or.inl rfl)) (pgs_cons (pg_name (i := 5) sc__place_at.nd rfl (Or.inl rfl)) pgs_nil))))
        (pss_cons (ps_if (pt_cmpR op_gt (pcall dcompare hr (pa_cons (pv 3) (pa_cons (pv 1) pa_nil))) pe_int (nomark _))
          (pss_one ps_break)
          pss_nil)
        (pss_one (ps_aug (i := 2) sc__place_at.nd rfl (Or.inl rfl) pe_int ip_add))))
      (pss_one (ps_ret (pv 2))))), ?_⟩
  (walk_at "vk_vc")
  refine forL (K := K) (a := a) (xs := xs) (fun i σ G => ∃ k3 k4 k5, σ = [some (.ref a), some y, some (.int ((i : Int) - 1)), k3, k4, k5] ∧ G = H ∧ ∀ (j : Nat) (p : Pc), j < i → c[j]? = some p → ¬ t < p.s)
      ⟨none, none, none, rfl, rfl, fun j p h => absurd h (by omega)⟩ (fun i σ G _ h => by obtain ⟨_, _, _, _, rfl, _⟩ := h; exact hxs) ?_ ?_
  · rintro i u σ G hu ⟨k3, k4, k5, rfl, rfl, done⟩
    have hi : i < c.length := by have := (List.getElem?_eq_some_iff.mp hu).1; rw [hc.1] at this; exact this
    have ec : c[i]? = some c[i] := List.getElem?_eq_getElem hi
    obtain ⟨pa, ps, pv, pr, rfl, hpa, r1, r2, r3⟩ := hc.2 i u _ hu ec
    generalize c[i] = p at ec r1 r2 r3
    have zp := (cz p (List.mem_of_getElem? ec)).1
    (walk_at "vk_vc")
    · have e := place_cut ok done ec (sg_gt.mp gc)
      rw [e] at z; exact z
    · show [some (V.ref a), some y, some (V.int ((i : Int) - 1 + 1)), some ps, some pv, some pr] = [some (V.ref a), some y, some (V.int (((i + 1 : Nat) : Int) - 1)), some ps, some pv, some pr]
      rw [show (i : Int) - 1 + 1 = ((i + 1 : Nat) : Int) - 1 by omega]
    · intro j q hj hq
      by_cases e : j = i
      · subst e; rw [ec] at hq; cases hq
        exact fun g => gc (sg_gt.mpr g)
      · exact done j q (by omega) hq
  · rintro σ G ⟨k3, k4, k5, rfl, rfl, done⟩
    have e : (c.filter (on t)) = c := List.filter_eq_self.mpr fun p hp => by
      obtain ⟨j, hj⟩ := List.mem_iff_getElem?.mp hp
      have := done j p (by have := (List.getElem?_eq_some_iff.mp hj).1; rw [hc.1]; exact this) hj
      simp [on, this]
    rw [e, ← hc.1] at z
    (walk_at "vk_vc")
theorem on_take {c : List Pc} (ok : Cok c) (t : Rat) : c.filter (on t) = c.take (c.filter (on t)).length := by
  by_cases h : ∃ i p, c[i]? = some p ∧ t < p.s ∧ ∀ (j : Nat) (q : Pc), j < i → c[j]? = some q → ¬ t < q.s
  · obtain ⟨i, p, ec, g, done⟩ := h
    have e := place_cut ok done ec g
    rw [e]
    refine filter_take _ fun j x hx => ?_
    constructor
    · intro o
      refine Nat.lt_of_not_le fun l => ?_
      have : p.s ≤ x.s := by
        by_cases e : i = j
        · subst e; rw [ec] at hx; cases hx; exact Rat.le_refl
        · have := cok_lt ok (show i < j by omega) ec hx; grind
      simp [on] at o
      grind
    · intro l
      simp [on, done j x l hx]
  · have e : c.filter (on t) = c := List.filter_eq_self.mpr fun p hp => by
      obtain ⟨j, hj⟩ := List.mem_iff_getElem?.mp hp
      have key : ∀ (n : Nat) (q : Pc), c[n]? = some q → ¬ t < q.s := by
        intro n
        induction n using Nat.strongRecOn with
        | ind n ih =>
          intro q hq g
          exact h ⟨n, q, hq, g, fun m r hm hr => ih m hm r hr⟩
      simp [on, key j p hj]
    rw [e, List.take_length]
/-- the piece in force -/
def pcAt (c : List Pc) (t : Rat) : Option Pc := (c.filter (on t)).getLast?
theorem now_pc (c : List Pc) (t : Rat) : nowf c t = (pcAt c t).map (vl t) := rfl
theorem pcAt_at {c : List Pc} {t : Rat} (h : 0 < (c.filter (on t)).length) : ∃ p, p ∈ c ∧ pcAt c t = some p ∧ ∀ ok : Cok c, c[(c.filter (on t)).length - 1]? = some p := by
  obtain ⟨p, hp⟩ : ∃ p, pcAt c t = some p := by
    unfold pcAt
    cases e : (c.filter (on t)).getLast? with
    | none => rw [List.getLast?_eq_none_iff] at e; rw [e] at h; exact absurd h (by simp)
    | some p => exact ⟨p, rfl⟩
  refine ⟨p, (List.mem_filter.mp (List.mem_of_getLast? hp)).1, hp, fun ok => ?_⟩
  have e := on_take ok t
  unfold pcAt at hp
  rw [List.getLast?_eq_getElem?, e, List.getElem?_take, List.length_take] at hp
  have hm : (c.filter (on t)).length ≤ c.length := List.length_filter_le _ _
  rw [Nat.min_eq_left hm] at hp
  rw [if_pos (by omega)] at hp
  exact hp
theorem pcAt_none {c : List Pc} {t : Rat} (h : (c.filter (on t)).length = 0) : pcAt c t = none := by
  unfold pcAt
  rw [List.eq_nil_of_length_eq_zero h]
  rfl
abbrev s__piece_at : Stmt := top 21
abbrev N__piece_at : List Str := ["course", "t", "place"]
theorem sc__piece_at : FnScope N__piece_at ["course", "t"] (defScope s__piece_at) := ⟨rfl, rfl, rfl, by decide +kernel, rfl, by decide +kernel, by decide +kernel⟩
abbrev ps__piece_at : List Str := ["course", "t"]
def spPieceAt (K : PySem.W.Frag) (CB : Addr) : Sp := fun vs H Q E => ∃ (a : Addr) (y : V) (c : List Pc) (t : Rat) (i j l m : Nat), vs = [.ref a, y] ∧ Cq K H a c ∧ Rq K H y t ∧ Cz i j l c ∧ Sz m t ∧ Cok c ∧ i + m + 1 ≤ 9000 ∧ c.length ≤ 900 ∧ (∀ p v, p ∈ c → pcAt c t = some p → Pq K H v p → Q v H) ∧ (pcAt c t = none → eV E CB H y)
theorem ok_piece_at (TBeforeStart : PySem.ValX.ValTxt K mg "BeforeStart" CB fB) (F : Fn K mg "_piece_at" s__piece_at ps__piece_at f fd) (d_place_at : Def P w K mg base k "_place_at" ["course", "t"] (spPlace K) f1 fd1) : DefY P w K mg base (k + 1) "_piece_at" ps__piece_at (spPieceAt K CB) f fd := by
  refine ⟨okY F.F sc__piece_at (fun vs H Q E h => ?_) (fun cdv A outer s H vs Q E hr h => ?_), F.m, F.F.kp, F.b⟩
  · obtain ⟨_, _, _, _, _, _, _, _, rfl, _⟩ := h
    rfl
  obtain ⟨a, y, c, t, i0, j0, l0, m, rfl, hC, hy, cz, zt, ok, hb, hl, z, e⟩ := h
  obtain ⟨xs, hxs, hc⟩ := id hC
  refine ⟨_, (pss_cons (ps_set (i := 2) sc__piece_at.nd rfl (Or.inl rfl) (pcall d_place_at hr (pa_cons (pv 0) (pa_cons (pv 1) pa_nil))))
      (pss_cons (ps_if (pt_cmpR op_lt (pv 2) pe_int (nomark _))
        (pss_one (ps_raiseValN rfl TBeforeStart hr (L2N.takes_of rfl rfl rfl rfl) (pa_cons (pv 1) pa_nil)))
        pss_nil)
      (pss_one (ps_ret (pe_ix ix_list (pv 0) (pv 2) (fun _ _ => rfl)))))), ?_⟩
  by_cases h0 : (c.filter (on t)).length = 0
  · (walk_at "vk_vc")
    · exact e (pcAt_none h0) p np
    all_goals (exfalso; omega)
  · obtain ⟨p, hm, hp, hi⟩ := pcAt_at (c := c) (t := t) (by omega)
    obtain ⟨v, hv, pq⟩ := hc.at (hi ok)
    have ha : atI xs (((c.filter (on t)).length : Int) - 1) = some v := at_of (j := (c.filter (on t)).length - 1) (by omega) hv
    have key := z p v hm hp pq
    (walk_at "vk_vc")
    omega
abbrev s_shown_at : Stmt := top 22
abbrev N_shown_at : List Str := ["course", "t"]
theorem sc_shown_at : FnScope N_shown_at ["course", "t"] (defScope s_shown_at) := ⟨rfl, rfl, rfl, by decide +kernel, rfl, by decide +kernel, by decide +kernel⟩
abbrev ps_shown_at : List Str := ["course", "t"]
def spShownAt (K : PySem.W.Frag) (CB : Addr) : Sp := fun vs H Q E => ∃ (a : Addr) (y : V) (c : List Pc) (t : Rat) (i j l m : Nat), vs = [.ref a, y] ∧ Cq K H a c ∧ Rq K H y t ∧ Cz i j l c ∧ Sz m t ∧ Cok c ∧ j + l + m + i + 3 ≤ 9000 ∧ c.length ≤ 900 ∧ (∀ q a H', nowf c t = some q → Same H H' → Rq K H' (.ref a) q → Q (.ref a) H') ∧ (nowf c t = none → eV E CB H y)
theorem ok_shown_at (F : Fn K mg "shown_at" s_shown_at ps_shown_at f fd) (d_piece_at : DefY P w K mg base k "_piece_at" ["course", "t"] (spPieceAt K CB) f1 fd1) (d_shown_by : Def P w K mg base k "_shown_by" ["piece", "t"] (spShown K) f2 fd2) : DefY P w K mg base (k + 1) "shown_at" ps_shown_at (spShownAt K CB) f fd := by
  refine ⟨okY F.F sc_shown_at (fun vs H Q E h => ?_) (fun cdv A outer s H vs Q E hr h => ?_), F.m, F.F.kp, F.b⟩
  · obtain ⟨_, _, _, _, _, _, _, _, rfl, _⟩ := h
    rfl
  obtain ⟨a, y, c, t, i0, j0, l0, m, rfl, hC, hy, cz, zt, ok, hb, hl, z, e⟩ := h
  refine ⟨_, (pss_one (ps_ret (pcall d_shown_by hr (pa_cons (pcallY d_piece_at hr (L2N.takes_of rfl rfl rfl rfl) (pa_cons (pv 0) (pa_cons (pv 1) pa_nil))) (pa_cons (pv 1) pa_nil))))), ?_⟩
  (walk_at "vk_vc")
  · intro p v hm hp pq
    obtain ⟨z1, z2, z3⟩ := cz p hm
    (walk_at "vk_vc")
    exact z _ _ _ (by rw [now_pc, hp]; rfl) e h
  · intro hn d hd
    refine e ?_ d hd
    rw [now_pc, hn]; rfl
theorem filterMap_if {α : Type} (b : α → Prop) [DecidablePred b] (c : List α) : (c.filterMap fun p => if b p then some p else none) = c.filter fun p => decide (b p) := by
  induction c with
  | nil => rfl
  | cons p c ih =>
    rw [List.filterMap_cons, List.filter_cons]
    by_cases h : b p
    · simp [h, ih]
    · simp [h, ih]
abbrev s__ahead_of : Stmt := top 25
abbrev N__ahead_of : List Str := ["course", "t", "piece"]
theorem sc__ahead_of : FnScope N__ahead_of ["course", "t"] (defScope s__ahead_of) := ⟨rfl, rfl, rfl, by decide +kernel, rfl, by decide +kernel, by decide +kernel⟩
abbrev ps__ahead_of : List Str := ["course", "t"]
def spAhead (K : PySem.W.Frag) : Sp := fun vs H Q _ => ∃ (a : Addr) (y : V) (c : List Pc) (t : Rat) (i j l m : Nat), vs = [.ref a, y] ∧ Cq K H a c ∧ Rq K H y t ∧ Cz i j l c ∧ Sz m t ∧ i + m + 1 ≤ 9000 ∧ c.length ≤ 900 ∧ ∀ D us H', Same H H' → H D = none → Ct K H' D us (c.filter fun p => decide (p.s < t)) → Q (.ref D) H'
theorem ok_ahead_of (F : Fn K mg "_ahead_of" s__ahead_of ps__ahead_of f fd) (dcompare : Def P w K mg base k "compare" ["a", "b"] (spTest2 K fun p q => .int (sg p q)) f1 fd1) : Def P w K mg base (k + 1) "_ahead_of" ps__ahead_of (spAhead K) f fd := by
  refine ⟨F.F.ok sc__ahead_of (fun vs H Q E h => ?_) (fun cdv A outer s H vs Q E hr h => ?_), F.m, F.F.kp, F.b⟩
  · obtain ⟨_, _, _, _, _, _, _, _, rfl, _⟩ := h
    rfl
  obtain ⟨a, y, c, t, i0, j0, l0, m, rfl, hC, hy, cz, zt, hb, hl, z⟩ := h
  obtain ⟨xs, hxs, hc⟩ := id hC
  refine ⟨_, (pss_one (ps_ret (pe_lc (own := [("piece", 2)]) (g := gName 2) rfl sc__ahead_of.nd (pi_list (pv 0)) (blkOk_by (N := N__ahead_of) (sc := defScope s__ahead_of) (by decide +kernel)) (fun _ _ _ _ _ => pg_name (i := 2) sc__ahead_of.nd rfl (Or.inl rfl)) (fun _ _ _ _ _ => pts_one (pt_cmpR op_lt (pcall dcompare hr (pa_cons (pe_ix (show IxR _ (rIxT K) from ix_tup) (pv 2) pe_int (fun _ _ => rfl)) (pa_cons (pv 1) pa_nil))) pe_int (nomark _))) (fun _ _ _ _ _ => (pv 2))))), ?_⟩
  (walk_at "vk_vc")
  refine lcAll (R := Pq K) (R' := Pq K) lastsP (fun p => if p.s < t then some p else none) np hxs hc (by omega) ?_ ?_
  · intro i x p G ec pq s1 Y N hY hN
    obtain ⟨pa, ps, pv, pr, rfl, hpa, r1, r2, r3⟩ := pq.same s1
    have zp := (cz p (List.mem_of_getElem? ec)).1
    (walk_at "vk_vc")
    · exact hY _ _ p (by with_reducible exact Same.refl _) (if_pos (sg_lt.mp gc)) (pq.same s1)
    · exact hN _ (if_neg fun g => gc (sg_lt.mpr g)) (Same.refl _)
  · intro us H' s1 h1 h2
    refine z p us H' s1 np ⟨h1, ?_⟩
    rw [← filterMap_if]
    exact h2
end Vk

namespace Vk
open PySem L2 Vm Vl
variable {l aZERO aONE CB CR CV fB fR : Addr} {P : Program} {w : World} {K : PySem.W.Frag} {mg : Str → Option Value} {base : Heap} {k : Nat} {f f1 f2 f3 f4 f5 f6 f7 f8 f9 : Addr} {fd fd1 fd2 fd3 fd4 fd5 fd6 fd7 fd8 fd9 : FuncData}
theorem ok_tidy (T : Bn mg) (ZZERO : Cn K mg "ZERO" 0 aZERO) (F : Fn K mg "tidy" s_tidy ps_tidy f fd) (d_jump_at : Def P w K mg base k "_jump_at" ["course", "at"] (spJumpAt K) f1 fd1) : Def P w K mg base (k + 1) "tidy" ps_tidy (spTidy K) f fd := by
  refine ⟨F.F.ok sc_tidy (fun vs H Q E h => ?_) (fun cdv A outer s H vs Q E hr h => ?_), F.m, F.F.kp, F.b⟩
  · obtain ⟨_, _, _, _, _, rfl, _⟩ := h
    rfl
  obtain ⟨a, c, i0, j0, l0, rfl, hC, cz, hp, hl, hb, z⟩ := h
  obtain ⟨xs, hx, hc⟩ := id hC
  have hxl := hc.1
  refine ⟨_, (pss_cons (ps_set (i := 1) sc_tidy.nd rfl (Or.inl rfl) (pe_lst (pa_cons (pe_ix ix_list (pv 0) pe_int (fun _ _ => rfl)) pa_nil)))
      (pss_cons (ps_for PassesOwn.never rfl (pi_range2 (by rfl) T.range_ (pa_cons pe_int (pa_cons (pe_callB call_len_seq (by rfl) T.len_ PySem.boot_len (pa_cons (pv 0) pa_nil)) pa_nil))) (pg_name (i := 2) sc_tidy.nd rfl (Or.inl rfl))
        (pss_one (ps_if (PW.pt (pw_or (pt_cmpR (op_neD hr.units) (pe_ix ix_tup (pe_ix ix_list (pv 0) (pv 2) (fun _ _ => rfl)) pe_int (fun _ _ => rfl)) (pe_ix ix_tup (pe_ix ix_list (pv 0) (pe_op op_sub (pv 2) pe_int) (fun _ _ => rfl)) pe_int (fun _ _ => rfl)) (nomark _)) (pw_or1 (pt_cmpR (op_neD hr.units) (pcall d_jump_at hr (pa_cons (pv 0) (pa_cons (pv 2) pa_nil))) (pe_glob (v := .ref aZERO) (u := .ref aZERO) (by rfl) ZZERO.m rfl) (nomark _)))))
          (pss_one (ps_expr (pe_bm PySem.F.plainAttrs_list PySem.F.slot_list_append PySem.F.type_list_append mt_append (pv 1) (pa_cons (pe_ix ix_list (pv 0) (pv 2) (fun _ _ => rfl)) pa_nil))))
          pss_nil)))
      (pss_one (ps_ret (pv 1))))), ?_⟩
  have p62 : (2 : Int) ^ 62 = 4611686018427387904 := by decide
  have e0 : c[0]? = some c[0] := List.getElem?_eq_getElem (by omega)
  obtain ⟨x0, hx0, p0⟩ := hc.at e0
  refine ⟨_, rfl, a, _, _, _, rfl, rfl, hx, at0 hx0, sm1, fun D hD => ?_⟩
  have s0 := same_new hD (.lst [x0])
  refine ⟨_, rfl, a, _, rfl, .inl (s0.seq hx), _, _, rfl, ⟨by omega, by omega, by omega, by omega⟩, for_range (lo := 1) (n := (((xs.length : Nat) : Int) - 1).toNat) (fun i σ G => ∃ (us : List V) (k2 : Option V), σ = [some (.ref a), some (.ref D), k2] ∧ Same H G ∧ Ct K G D us (tl (c.take (i + 1))))
    ⟨[x0], none, rfl, s0, upd_same, ?_⟩ ?_ ?_⟩
  · have : tl (c.take 1) = [c[0]] := by
      cases c with
      | nil => simp at hp
      | cons p c => rfl
    rw [this]
    exact All2.one (p0.same s0)
  · rintro i σ G hi ⟨us, k2, rfl, s1, hD1, hA⟩
    have hi1 : i + 1 < c.length := by omega
    have e1 : c[i]? = some c[i] := List.getElem?_eq_getElem (by omega)
    have e2 : c[i + 1]? = some c[i + 1] := List.getElem?_eq_getElem hi1
    obtain ⟨p, ep⟩ : ∃ p, p = c[i] := ⟨_, rfl⟩
    obtain ⟨q, eq⟩ : ∃ q, q = c[i + 1] := ⟨_, rfl⟩
    rw [← ep] at e1
    rw [← eq] at e2
    have en := tl_next e1 e2
    obtain ⟨x1, hx1, pp⟩ := hc.at e1
    obtain ⟨x2, hx2, pq⟩ := hc.at e2
    obtain ⟨d1, ds1, dv1, dr1, rfl, hd1, r11, r12, r13⟩ := pp.same s1
    obtain ⟨d2, ds2, dv2, dr2, rfl, hd2, r21, r22, r23⟩ := pq.same s1
    have hul := hA.1
    have htl := (tl_sub (c.take (i + 1))).length_le
    rw [List.length_take] at htl
    -- the piece is kept
    have keep : ∀ G1 (f1 : Same G G1), ky q ≠ ky p → ∃ (us' : List V) (k2 : Option V), [some (V.ref a), some (.ref D), some (.int (1 + (i : Int)))] = [some (.ref a), some (.ref D), k2] ∧ Same H (upd G1 D (.lst (us ++ [.ref d2]))) ∧ Ct K (upd G1 D (.lst (us ++ [.ref d2]))) D us' (tl (c.take (i + 1 + 1))) := fun G1 f1 g => by
      have hD2 := f1 _ _ hD1
      have fr : Fr D G1 (upd G1 D (.lst (us ++ [.ref d2]))) := Fr.upd _
      refine ⟨_, _, rfl, same_upd (s1.trans f1) hD _, upd_same, ?_⟩
      rw [en, if_neg g]
      exact (hA.imp fun _ _ h => (h.same f1).fr fr ⟨_, hD2⟩).snoc ((pq.same (s1.trans f1)).fr fr ⟨_, hD2⟩)
    refine ⟨_, rfl, _, rfl, a, _, _, _, rfl, rfl, s1.seq hx, at_of (j := i + 1) (by omega) hx2, d2, _, _, _, rfl, rfl, hd2, at2 rfl, _, rfl, _, rfl, _, _, rfl, rfl, a, _, _, _, rfl, rfl, s1.seq hx, at_of (j := i) (by omega) hx1, d1, _, _, _, rfl, rfl, hd1, at2 rfl, ?_⟩
    refine ⟨_, _, r23.dp, r13.dp, sh_dq _, sh_dq _, _, rfl, ?_⟩
    rw [eqv_dq]
    by_cases g : q.r = p.r
    · refine ifF (by rw [dT g]; rfl) ⟨_, rfl, _, rfl, a, i, c, p, q, i0, j0, l0, by rw [show (1 + (i : Int)) = ((i + 1 : Nat) : Int) by omega]; rfl, hC.same s1, e1, e2, cz, hb, fun jv G1 f1 rj => ?_⟩
      refine ⟨_, _, rj.dp, (ZZERO.q _).dp, sh_dq _, sh_dq _, _, rfl, ?_⟩
      rw [eqv_dq]
      by_cases g2 : jmp (ky p) q = 0
      · refine ifF (by rw [dT g2]; rfl) ⟨us, _, rfl, s1.trans f1, f1 _ _ hD1, ?_⟩
        rw [en, if_pos (ky_eq.mpr ⟨g, g2⟩), List.append_nil]
        exact hA.imp fun _ _ h => h.same f1
      · refine ifT (by rw [dF g2]; rfl) ⟨_, rfl, .inl ⟨rfl, _, SqL.of (f1 _ _ hD1)⟩, _, rfl, _, rfl, a, _, _, _, rfl, rfl, (s1.trans f1).seq hx, at_of (j := i + 1) (by omega) hx2, D, _, _, rfl, rfl, f1 _ _ hD1, le1000 (by omega), keep G1 f1 fun h => g2 (ky_eq.mp h).2⟩
    · refine ifT (by rw [dF g]; rfl) ⟨_, rfl, .inl ⟨rfl, _, SqL.of hD1⟩, _, rfl, _, rfl, a, _, _, _, rfl, rfl, s1.seq hx, at_of (j := i + 1) (by omega) hx2, D, _, _, rfl, rfl, hD1, le1000 (by omega), keep G (Same.refl _) fun h => g (ky_eq.mp h).1⟩
  · rintro σ G ⟨us, k2, rfl, s1, hD1, hA⟩
    rw [List.take_of_length_le (by omega)] at hA
    exact ⟨_, rfl, z D us G s1 hD ⟨hD1, hA⟩⟩
/-- the pieces that start ahead of a time -/
def ahd (c : List Pc) (t : Rat) : List Pc := c.filter fun p => decide (p.s < t)
def slc (c : List Pc) (t v r : Rat) : List Pc := tl (ahd c t ++ [⟨t, v, r⟩])
abbrev s_slewed : Stmt := top 26
abbrev N_slewed : List Str := ["course", "t", "rate", "shown"]
theorem sc_slewed : FnScope N_slewed ["course", "t", "rate"] (defScope s_slewed) := ⟨rfl, rfl, rfl, by decide +kernel, rfl, by decide +kernel, by decide +kernel⟩
abbrev ps_slewed : List Str := ["course", "t", "rate"]
def spSlew (K : PySem.W.Frag) (CB CR : Addr) : Sp := fun vs H Q E => ∃ (a : Addr) (y u : V) (c : List Pc) (t r : Rat) (i j l m n : Nat), vs = [.ref a, y, u] ∧ Cq K H a c ∧ Rq K H y t ∧ Rq K H u r ∧ Cz i j l c ∧ Sz m t ∧ Sz n r ∧ Cok c ∧ c.length ≤ 800 ∧
  (∀ v, nowf c t = some v → ∃ i' j' l', Cz i' j' l' (ahd c t ++ [⟨t, v, r⟩]) ∧ j' + j' + l' + i' + i' + 5 ≤ 9000) ∧ j + l + m + i + 3 ≤ 9000 ∧ n + 2 ≤ 9000 ∧
  (∀ v, nowf c t = some v → 0 < r → ∀ D us H', Same H H' → H D = none → Ct K H' D us (slc c t v r) → Q (.ref D) H') ∧ (nowf c t = none → eV E CB H y) ∧ ((∃ v, nowf c t = some v) → r ≤ 0 → ∀ H', Same H H' → eV E CR H' u)
theorem ok_slewed (ZZERO : Cn K mg "ZERO" 0 aZERO) (TBadRate : PySem.ValX.ValTxt K mg "BadRate" CR fR) (F : Fn K mg "slewed" s_slewed ps_slewed f fd) (dshown_at : DefY P w K mg base k "shown_at" ["course", "t"] (spShownAt K CB) f1 fd1) (dcompare : Def P w K mg base k "compare" ["a", "b"] (spTest2 K fun p q => .int (sg p q)) f2 fd2)
    (d_ahead_of : Def P w K mg base k "_ahead_of" ["course", "t"] (spAhead K) f3 fd3) (dtidy : Def P w K mg base k "tidy" ["course"] (spTidy K) f4 fd4) : DefY P w K mg base (k + 1) "slewed" ps_slewed (spSlew K CB CR) f fd := by
  refine ⟨okY F.F sc_slewed (fun vs H Q E h => ?_) (fun cdv A outer s H vs Q E hr h => ?_), F.m, F.F.kp, F.b⟩
  · obtain ⟨_, _, _, _, _, _, _, _, _, _, _, rfl, _⟩ := h
    rfl
  obtain ⟨a, y, u, c, t, r, i0, j0, l0, m, n, rfl, hC, hy, hu, cz, zt, zr, ok, hl, hz, h9, h9', z, e1, e2⟩ := h
  refine ⟨_, (pss_cons (ps_set (i := 3) sc_slewed.nd rfl (Or.inl rfl) (pcallY dshown_at hr (L2N.takes_of rfl rfl rfl rfl) (pa_cons (pv 0) (pa_cons (pv 1) pa_nil))))
      (pss_cons (ps_if (pt_cmpR op_le (pcall dcompare hr (pa_cons (pv 2) (pa_cons (pe_glob (v := .ref aZERO) (u := .ref aZERO) (by rfl) ZZERO.m rfl) pa_nil))) pe_int (nomark _))
        (pss_one (ps_raiseValN rfl TBadRate hr (L2N.takes_of rfl rfl rfl rfl) (pa_cons (pv 2) pa_nil)))
        pss_nil)
      (pss_one (ps_ret (pcall dtidy hr (pa_cons (pe_op op_cat (pcall d_ahead_of hr (pa_cons (pv 0) (pa_cons (pv 1) pa_nil))) (pe_lst (pa_cons (pe_tup (pa_cons (pv 1) (pa_cons (pv 3) (pa_cons (pv 2) pa_nil)))) pa_nil))) pa_nil)))))), ?_⟩
  have hZ := ZZERO.q H
  (walk_at "vk_vc")
  · intro q b H1 hq s1 hb
    obtain ⟨ba, hba⟩ := id hb
    have hZ1 := ZZERO.q H1
    (walk_at "vk_vc")
    · exact e2 ⟨q, hq⟩ (sg_le'.mp gc) H1 s1 p np
    · intro D us H2 s2 hD hA
      have hA1 := hA.1
      have hul := hA.2.1
      have hfl : (ahd c t).length ≤ c.length := List.length_filter_le _ _
      have hsz : sizeLine = 16777216 := sizeLine_eq
      have s12 := s1.trans s2
      clear cz
      have hy2 := hy.same s12
      have hu2 := hu.same s12
      have hb2 := hb.same s2
      obtain ⟨i', j', l', cz', h9c⟩ := hz q hq
      have hlen : (ahd c t ++ [(⟨t, q, r⟩ : Pc)]).length ≤ 900 := by rw [List.length_append]; show _ + 1 ≤ 900; omega
      have hpos : 1 ≤ (ahd c t ++ [(⟨t, q, r⟩ : Pc)]).length := by rw [List.length_append]; show 1 ≤ _ + 1; omega
      (walk_at "vk_vc")
      · show us.length + 1 ≤ sizeLine
        have : us.length = (ahd c t).length := hul
        omega
      · refine Ct.cq (xs := us ++ [_]) (And.intro upd_same ?_)
        refine All2.snoc (p := (⟨t, q, r⟩ : Pc)) (All2.imp hA.2 fun _ _ h => ?_) ?_
        · (walk_at "vk_vc")
        · unfold Pq; (walk_at "vk_vc")
      · intro D' us' H3 s3 hD' hA'
        exact z q hq (by have := mt sg_le'.mpr gc; grind) D' us' H3 ((s1.trans s2).trans ((same_new3 (by assumption) (by assumption) (by assumption)).trans s3)) (sameFree s12 (sameFree (same_new3 (by assumption) (by assumption) (by assumption)) hD')) hA'
end Vk

set_option maxHeartbeats 4000000
namespace Vk
open PySem L2 Vm Vl
variable {l aZERO aONE CB CR CV fB fR : Addr} {P : Program} {w : World} {K : PySem.W.Frag} {mg : Str → Option Value} {base : Heap} {k : Nat} {f f1 f2 f3 f4 f5 f6 f7 f8 f9 : Addr} {fd fd1 fd2 fd3 fd4 fd5 fd6 fd7 fd8 fd9 : FuncData}
/-- what stands behind a time, with a jump -/
def bhd (c : List Pc) (t j : Rat) : List Pc := c.filterMap fun p => if t < p.s then some ⟨p.s, p.v + j, p.r⟩ else none
def stl (c : List Pc) (t j : Rat) (p : Pc) : List Pc := ahd c t ++ [⟨t, vl t p + j, p.r⟩] ++ bhd c t j
abbrev s_stepped : Stmt := top 27
abbrev N_stepped : List Str := ["course", "t", "jump", "piece", "changed", "start", "shown", "rate"]
theorem sc_stepped : FnScope N_stepped ["course", "t", "jump"] (defScope s_stepped) := ⟨rfl, rfl, rfl, by decide +kernel, rfl, by decide +kernel, by decide +kernel⟩
abbrev ps_stepped : List Str := ["course", "t", "jump"]
def spStep (K : PySem.W.Frag) (CB : Addr) : Sp := fun vs H Q E => ∃ (a : Addr) (y u : V) (c : List Pc) (t q : Rat) (i j l m n : Nat), vs = [.ref a, y, u] ∧ Cq K H a c ∧ Rq K H y t ∧ Rq K H u q ∧ Cz i j l c ∧ Sz m t ∧ Sz n q ∧ Cok c ∧ c.length ≤ 400 ∧
  (∀ p, p ∈ c → pcAt c t = some p → ∃ i' j' l', Cz i' j' l' (stl c t q p) ∧ j' + j' + l' + i' + i' + 5 ≤ 9000) ∧ j + l + m + i + n + 5 ≤ 9000 ∧
  (∀ p, p ∈ c → pcAt c t = some p → ∀ D us H', Same H H' → H D = none → Ct K H' D us (tl (stl c t q p)) → Q (.ref D) H') ∧ (pcAt c t = none → eV E CB H y)
theorem ok_stepped (F : Fn K mg "stepped" s_stepped ps_stepped f fd) (d_piece_at : DefY P w K mg base k "_piece_at" ["course", "t"] (spPieceAt K CB) f1 fd1) (dcompare : Def P w K mg base k "compare" ["a", "b"] (spTest2 K fun p q => .int (sg p q)) f2 fd2)
    (d_ahead_of : Def P w K mg base k "_ahead_of" ["course", "t"] (spAhead K) f3 fd3) (dtidy : Def P w K mg base k "tidy" ["course"] (spTidy K) f4 fd4) (dadd : Def P w K mg base k "add" ["a", "b"] (spOp2 K (· + ·)) f5 fd5) (d_shown_by : Def P w K mg base k "_shown_by" ["piece", "t"] (spShown K) f6 fd6) : DefY P w K mg base (k + 1) "stepped" ps_stepped (spStep K CB) f fd := by
  refine ⟨okY F.F sc_stepped (fun vs H Q E h => ?_) (fun cdv A outer s H vs Q E hr h => ?_), F.m, F.F.kp, F.b⟩
  · obtain ⟨_, _, _, _, _, _, _, _, _, _, _, rfl, _⟩ := h
    rfl
  obtain ⟨ac, y, u, c, t, q, i0, j0, l0, m, n, rfl, hC, hy, hu, cz, zt, zq, ok, hl, hz, h9, z, e1⟩ := h
  obtain ⟨xs, hxs, hc⟩ := id hC
  refine ⟨_, (pss_cons (ps_set (i := 3) sc_stepped.nd rfl (Or.inl rfl) (pcallY d_piece_at hr (L2N.takes_of rfl rfl rfl rfl) (pa_cons (pv 0) (pa_cons (pv 1) pa_nil))))
      (pss_cons (ps_set (i := 4) sc_stepped.nd rfl (Or.inl rfl) (pcall d_ahead_of hr (pa_cons (pv 0) (pa_cons (pv 1) pa_nil))))
      (pss_cons (ps_expr (pe_bm PySem.F.plainAttrs_list PySem.F.slot_list_append PySem.F.type_list_append mt_append (pv 4) (pa_cons (pe_tup (pa_cons (pv 1) (pa_cons (pcall dadd hr (pa_cons (pcall d_shown_by hr (pa_cons (pv 3) (pa_cons (pv 1) pa_nil))) (pa_cons (pv 2) pa_nil))) (pa_cons (pe_ix ix_tup (pv 3) pe_int (fun _ _ => rfl)) pa_nil)))) pa_nil)))
      (pss_cons (psNox (ps_for PassesOwn.never rfl (pi_list (pv 0)) (pg_tup rfl (pgs_cons (pg_name (i := 5) sc_stepped.nd rfl (Or.inl rfl)) (pgs_cons (pg_name (i := 6) sc_stepped.nd rfl (Or.inl rfl)) (pgs_cons (pg_name (i := 7) sc_stepped.nd rfl (Or.inl rfl)) pgs_nil))))
        (pss_one (ps_if (pt_cmpR op_gt (pcall dcompare hr (pa_cons (pv 5) (pa_cons (pv 1) pa_nil))) pe_int (nomark _))
          (pss_one (ps_expr (pe_bm PySem.F.plainAttrs_list PySem.F.slot_list_append PySem.F.type_list_append mt_append (pv 4) (pa_cons (pe_tup (pa_cons (pv 5) (pa_cons (pcall dadd hr (pa_cons (pv 6) (pa_cons (pv 2) pa_nil))) (pa_cons (pv 7) pa_nil)))) pa_nil))))
          pss_nil))))
      (pss_one (ps_ret (pcall dtidy hr (pa_cons (pv 4) pa_nil)))))))), ?_⟩
  (walk_at "vk_va")
  · intro pc v hm hp pq
    obtain ⟨z1, z2, z3⟩ := cz pc hm
    obtain ⟨pa, ps, pv, pr, rfl, hpa, r1, r2, r3⟩ := id pq
    have z := z pc hm hp
    obtain ⟨i', j', l', cz', h9c⟩ := hz pc hm hp
    (walk_at "vk_va")
    intro D us H2 s2 hD hA
    have hA1 := hA.1
    have hul : us.length = (ahd c t).length := hA.2.1
    have hty : ∀ KK : PySem.W.Frag, tyV KK "list" (.ref D) H2 := fun KK => .inl ⟨rfl, _, SqL.of hA1⟩
    have hfl : (ahd c t).length ≤ c.length := List.length_filter_le _ _
    have hsz : sizeLine = 16777216 := sizeLine_eq
    have hy2 := hy.same s2
    have hu2 := hu.same s2
    have r32 := r3.same s2
    (walk_at "vk_va")
    obtain ⟨G, eG⟩ : ∃ G, G = upd H' p (HO.tup [y, V.ref a, pr]) := ⟨_, rfl⟩
    have sG : Same H2 G := by rw [eG]; exact (by (walk_at "vk_same"))
    have hDG : G D = some (.lst us) := sG _ _ hA1
    have fr6 : Fr D G (upd G D (HO.lst (us ++ [V.ref p]))) := Fr.upd _
    have new : Pq K G (.ref p) ⟨t, vl t pc + q, pc.r⟩ := by
      rw [eG]; unfold Pq; (walk_at "vk_va")
      all_goals exact Rq.same (same_new np _) h
    rw [← eG]
    have s6 : Same H (upd G D (HO.lst (us ++ [V.ref p]))) := same_upd (s2.trans sG) hD _
    have d6 : (upd G D (HO.lst (us ++ [V.ref p]))) D = some (HO.lst (us ++ [V.ref p])) := upd_same
    have all6 : All2 (Pq K (upd G D (HO.lst (us ++ [V.ref p])))) (us ++ [V.ref p]) (ahd c t ++ [⟨t, vl t pc + q, pc.r⟩]) :=
      ((All2.imp hA.2 fun _ _ h => Pq.same sG h).snoc new).imp fun _ _ h => h.fr fr6 ⟨_, hDG⟩
    generalize upd G D (HO.lst (us ++ [V.ref p])) = G6 at s6 d6 all6 ⊢
    have hxs6 := s6.seq hxs
    (walk_at "vk_va")
    refine forL (K := K) (a := ac) (xs := xs) (fun i σ G => ∃ vs k5 k6 k7, σ = [some (.ref ac), some y, some u, some (.ref pa), some (.ref D), k5, k6, k7] ∧ Same H G ∧ G D = some (.lst vs) ∧ All2 (Pq K G) vs (ahd c t ++ [⟨t, vl t pc + q, pc.r⟩] ++ bhd (c.take i) t q))
      ⟨_, none, none, none, rfl, s6, d6, by rw [show bhd (c.take 0) t q = [] by rw [List.take_zero]; rfl, List.append_nil]; exact all6⟩ (fun i σ G _ h => by obtain ⟨_, _, _, _, _, s1, _⟩ := h; exact s1.seq hxs) ?_ ?_
    · rintro i x σ G hx ⟨vs, k5, k6, k7, rfl, sg, hD1, hA6⟩
      have hi : i < c.length := by have := (List.getElem?_eq_some_iff.mp hx).1; rw [hc.1] at this; exact this
      have ec : c[i]? = some c[i] := List.getElem?_eq_getElem hi
      obtain ⟨qa, qs, qv, qr, rfl, hqa, g1, g2, g3⟩ := (hc.2 i x _ hx ec).same sg
      have et : bhd (c.take (i + 1)) t q = bhd (c.take i) t q ++ (if t < c[i].s then [⟨c[i].s, c[i].v + q, c[i].r⟩] else []) := by
        unfold bhd
        rw [List.take_add_one, ec, List.filterMap_append]
        by_cases g : t < c[i].s <;> simp [g]
      generalize c[i] = x at ec g1 g2 g3 et
      obtain ⟨y1, y2, y3⟩ := cz x (List.mem_of_getElem? ec)
      have hyg := hy.same sg
      have hug := hu.same sg
      have hvl := hA6.1
      have hbl : (bhd (c.take i) t q).length ≤ i := by
        have := List.length_filterMap_le (fun p : Pc => if t < p.s then some (⟨p.s, p.v + q, p.r⟩ : Pc) else none) (c.take i)
        rw [List.length_take] at this
        unfold bhd
        omega
      have hvl2 : vs.length ≤ 900 := by
        rw [hvl, List.length_append, List.length_append]
        show _ + 1 + _ ≤ 900
        omega
      have hty : ∀ KK : PySem.W.Frag, tyV KK "list" (.ref D) G := fun KK => .inl ⟨rfl, _, SqL.of hD1⟩
      (walk_at "vk_va")
      · rw [et, if_pos (sg_gt.mp gc), ← List.append_assoc]
        refine All2.snoc (All2.imp (All2.imp hA6 fun _ _ h => Pq.same (Same.trans e (same_new np _)) h) fun _ _ h => Pq.fr (Fr.upd _) ⟨_, by (walk_at "vk_va")⟩ h) ?_
        unfold Pq
        (walk_at "vk_va")
      · rw [et, if_neg (fun g => gc (sg_gt.mpr g)), List.append_nil]
        exact hA6
    · rintro σ G ⟨vs, k5, k6, k7, rfl, sg, hD1, hA6⟩
      rw [List.take_of_length_le (by rw [hc.1]; exact Nat.le_refl _)] at hA6
      have hq : Cq K G D (stl c t q pc) := Ct.cq ⟨hD1, hA6⟩
      clear cz
      have l1 : 1 ≤ (stl c t q pc).length := by unfold stl; rw [List.length_append, List.length_append]; show 1 ≤ _ + 1 + _; omega
      have l2 : (stl c t q pc).length ≤ 900 := by
        have := List.length_filterMap_le (fun p : Pc => if t < p.s then some (⟨p.s, p.v + q, p.r⟩ : Pc) else none) c
        unfold stl bhd
        rw [List.length_append, List.length_append]
        show _ + 1 + _ ≤ 900
        omega
      (walk_at "vk_va")
      exact fun D' us' H3 f3 hD' hA' => z D' us' H3 (sg.trans f3) (sameFree sg hD') hA'
end Vk

set_option maxHeartbeats 4000000
namespace Vk
open PySem L2 Vm Vl

variable {cBeforeStart cBadRate cBadBound cTurnsBack cEmptySpan cOutsideSpan cZeroDivisor cVerdictError l aZERO CR CB fR fB : Addr} {P : Program} {w : World} {K : PySem.W.Frag} {mg : Str → Option Value} {base : Heap} {k : Nat} {f f1 f2 f3 f4 f5 f6 f7 f8 f9 : Addr} {fd fd1 fd2 fd3 fd4 fd5 fd6 fd7 fd8 fd9 : FuncData}
/-- what isinstance says of an error of one of the two classes -/
structure CA (K : PySem.W.Frag) (mg : Str → Option Value) (cBeforeStart cBadRate cBadBound cTurnsBack cEmptySpan cOutsideSpan cZeroDivisor cVerdictError : Addr) : Prop where
  e : ∀ b, ExcC K (cC cBeforeStart cBadRate b)
  gBeforeStart : mg "BeforeStart" = some (.ref cBeforeStart)
  kBeforeStart : ∀ b, PySem.W.kitOne K (.ref (cC cBeforeStart cBadRate b)) (.ref cBeforeStart) = some b
  gBadRate : mg "BadRate" = some (.ref cBadRate)
  kBadRate : ∀ b, PySem.W.kitOne K (.ref (cC cBeforeStart cBadRate b)) (.ref cBadRate) = some (!b)
  gBadBound : mg "BadBound" = some (.ref cBadBound)
  kBadBound : ∀ b, PySem.W.kitOne K (.ref (cC cBeforeStart cBadRate b)) (.ref cBadBound) = some false
  gTurnsBack : mg "TurnsBack" = some (.ref cTurnsBack)
  kTurnsBack : ∀ b, PySem.W.kitOne K (.ref (cC cBeforeStart cBadRate b)) (.ref cTurnsBack) = some false
  gEmptySpan : mg "EmptySpan" = some (.ref cEmptySpan)
  kEmptySpan : ∀ b, PySem.W.kitOne K (.ref (cC cBeforeStart cBadRate b)) (.ref cEmptySpan) = some false
  gOutsideSpan : mg "OutsideSpan" = some (.ref cOutsideSpan)
  kOutsideSpan : ∀ b, PySem.W.kitOne K (.ref (cC cBeforeStart cBadRate b)) (.ref cOutsideSpan) = some false
  gZeroDivisor : mg "ZeroDivisor" = some (.ref cZeroDivisor)
  kZeroDivisor : ∀ b, PySem.W.kitOne K (.ref (cC cBeforeStart cBadRate b)) (.ref cZeroDivisor) = some false
  gV : mg "VerdictError" = some (.ref cVerdictError)
  mV : mg "ValueError" = none
  kV : ∀ b, PySem.W.kitOne K (.ref (cC cBeforeStart cBadRate b)) (.type "ValueError") = some true
  xV : ∀ b, PySem.W.exmOne K (.ref (cC cBeforeStart cBadRate b)) (.ref cVerdictError) = some true
abbrev s__law_alone : Stmt := top 50
abbrev N__law_alone : List Str := ["_law_e", "_law_kinds"]
theorem sc__law_alone : FnScope N__law_alone ["_law_e"] (defScope s__law_alone) := ⟨rfl, rfl, rfl, by decide +kernel, rfl, by decide +kernel, by decide +kernel⟩
abbrev ps__law_alone : List Str := ["_law_e"]
def spAlone (CB CR : Addr) (p : Addr × Obj) : Sp := fun vs H Q _ => ∃ (b : Bool) (d : Addr) (y : V), vs = [.ref p.1] ∧ Zc (.ref (cC CB CR b)) (some d) p.2 ∧ (∃ fv, p.2.data = .fields fv) ∧ H d = some (.xd [(("value" : Str), y)]) ∧ ∀ H', Same H H' → Q (.bl true) H'
theorem ok_alone (T : Bn mg) (C : CA K mg cBeforeStart cBadRate cBadBound cTurnsBack cEmptySpan cOutsideSpan cZeroDivisor cVerdictError) (F : Fn K mg "_law_alone" s__law_alone ps__law_alone f fd) : DefP P w K mg base (k + 1) "_law_alone" ps__law_alone (spAlone cBeforeStart cBadRate) f fd := by
  refine ⟨okP F.F sc__law_alone (fun p vs H Q E h => ?_) (fun cdv A outer s H vs Q E p hot hr h => ?_), F.m, F.F.kp, F.b⟩
  · obtain ⟨_, _, _, rfl, _⟩ := h
    rfl
  obtain ⟨b, d, y, rfl, hz, hf, hd, z⟩ := h
  obtain ⟨pa, po⟩ := p
  refine ⟨_, (pss_cons (ps_set (i := 1) sc__law_alone.nd rfl (Or.inl rfl) (pe_lst (pa_cons (pe_callB (call_isP (C.e b) hz hf List.mem_cons_self) (by rfl) T.isinstance_ (by decide +kernel) (pa_cons (pv 0) (pa_cons (pe_glob (v := .ref cBeforeStart) (u := .ref cBeforeStart) (by rfl) C.gBeforeStart rfl) pa_nil))) (pa_cons (pe_callB (call_isP (C.e b) hz hf List.mem_cons_self) (by rfl) T.isinstance_ (by decide +kernel) (pa_cons (pv 0) (pa_cons (pe_glob (v := .ref cBadRate) (u := .ref cBadRate) (by rfl) C.gBadRate rfl) pa_nil))) (pa_cons (pe_callB (call_isP (C.e b) hz hf List.mem_cons_self) (by rfl) T.isinstance_ (by decide +kernel) (pa_cons (pv 0) (pa_cons (pe_glob (v := .ref cBadBound) (u := .ref cBadBound) (by rfl) C.gBadBound rfl) pa_nil))) (pa_cons (pe_callB (call_isP (C.e b) hz hf List.mem_cons_self) (by rfl) T.isinstance_ (by decide +kernel) (pa_cons (pv 0) (pa_cons (pe_glob (v := .ref cTurnsBack) (u := .ref cTurnsBack) (by rfl) C.gTurnsBack rfl) pa_nil))) pa_nil))))))
      (pss_cons (ps_set (i := 1) sc__law_alone.nd rfl (Or.inl rfl) (pe_op op_cat (pv 1) (pe_lst (pa_cons (pe_callB (call_isP (C.e b) hz hf List.mem_cons_self) (by rfl) T.isinstance_ (by decide +kernel) (pa_cons (pv 0) (pa_cons (pe_glob (v := .ref cEmptySpan) (u := .ref cEmptySpan) (by rfl) C.gEmptySpan rfl) pa_nil))) (pa_cons (pe_callB (call_isP (C.e b) hz hf List.mem_cons_self) (by rfl) T.isinstance_ (by decide +kernel) (pa_cons (pv 0) (pa_cons (pe_glob (v := .ref cOutsideSpan) (u := .ref cOutsideSpan) (by rfl) C.gOutsideSpan rfl) pa_nil))) (pa_cons (pe_callB (call_isP (C.e b) hz hf List.mem_cons_self) (by rfl) T.isinstance_ (by decide +kernel) (pa_cons (pv 0) (pa_cons (pe_glob (v := .ref cZeroDivisor) (u := .ref cZeroDivisor) (by rfl) C.gZeroDivisor rfl) pa_nil))) pa_nil))))))
      (pss_one (ps_ret (pe_and (pe_callB (call_isP (C.e b) hz hf List.mem_cons_self) (by rfl) T.isinstance_ (by decide +kernel) (pa_cons (pv 0) (pa_cons (pe_bltn (v := .ty "ValueError") (u := .type "ValueError") (by rfl) C.mV (by rfl) rfl) pa_nil))) (pe_one (pe_cmpR op_eq (pe_bm PySem.F.plainAttrs_list PySem.F.slot_list_count PySem.F.type_list_count (mt_countD (Nat.lt_of_le_of_lt (Nat.add_le_add (Nat.le_add_right _ (16 * k)) (show 65 ≤ 200 by decide)) hr.un)) (pv 1) (pa_cons pe_bl pa_nil)) pe_int (nomark _)))))))), ?_⟩
  refine ⟨_, rfl, .ref cBeforeStart, .ref cBeforeStart, b, rfl, .own _, .inr ⟨d, _, rfl, hd⟩, C.kBeforeStart b, ?_⟩
  refine ⟨_, rfl, .ref cBadRate, .ref cBadRate, (!b), rfl, .own _, .inr ⟨d, _, rfl, hd⟩, C.kBadRate b, ?_⟩
  refine ⟨_, rfl, .ref cBadBound, .ref cBadBound, false, rfl, .own _, .inr ⟨d, _, rfl, hd⟩, C.kBadBound b, ?_⟩
  refine ⟨_, rfl, .ref cTurnsBack, .ref cTurnsBack, false, rfl, .own _, .inr ⟨d, _, rfl, hd⟩, C.kTurnsBack b, ?_⟩
  refine ⟨by show 4 ≤ sizeLine; decide, fun D hD => ?_⟩
  have c0 := same_new hD (.lst ([.bl b, .bl (!b), .bl false, .bl false] : List V))
  have hD2 : (upd H D (.lst ([.bl b, .bl (!b), .bl false, .bl false] : List V))) D = some (.lst [.bl b, .bl (!b), .bl false, .bl false]) := upd_same
  have hd2 := c0 _ _ hd
  generalize upd H D (.lst ([.bl b, .bl (!b), .bl false, .bl false] : List V)) = H1 at c0 hD2 hd2 ⊢
  refine ⟨_, rfl, ?_⟩
  refine ⟨_, rfl, .ref cEmptySpan, .ref cEmptySpan, false, rfl, .own _, .inr ⟨d, _, rfl, hd2⟩, C.kEmptySpan b, ?_⟩
  refine ⟨_, rfl, .ref cOutsideSpan, .ref cOutsideSpan, false, rfl, .own _, .inr ⟨d, _, rfl, hd2⟩, C.kOutsideSpan b, ?_⟩
  refine ⟨_, rfl, .ref cZeroDivisor, .ref cZeroDivisor, false, rfl, .own _, .inr ⟨d, _, rfl, hd2⟩, C.kZeroDivisor b, ?_⟩
  refine ⟨by show 3 ≤ sizeLine; decide, fun D' hD' => ?_⟩
  have c1 := same_new hD' (.lst ([.bl false, .bl false, .bl false] : List V))
  have hD3 : (upd H1 D' (.lst ([.bl false, .bl false, .bl false] : List V))) D' = some (.lst [.bl false, .bl false, .bl false]) := upd_same
  have hd3 := c1 _ _ hd2
  have hD4 := c1 _ _ hD2
  generalize upd H1 D' (.lst ([.bl false, .bl false, .bl false] : List V)) = H2 at c1 hD3 hd3 hD4 ⊢
  refine ⟨D, D', _, _, rfl, rfl, hD4, hD3, (by decide : 4 + 3 ≤ sizeLine), fun D5 hD5 => ?_⟩
  have c2 := same_new hD5 (.lst ([.bl b, .bl (!b), .bl false, .bl false] ++ [.bl false, .bl false, .bl false] : List V))
  have hD6 : (upd H2 D5 (.lst ([.bl b, .bl (!b), .bl false, .bl false] ++ [.bl false, .bl false, .bl false] : List V))) D5 = some (.lst [.bl b, .bl (!b), .bl false, .bl false, .bl false, .bl false, .bl false]) := upd_same
  have hd4 := c2 _ _ hd3
  generalize upd H2 D5 (.lst ([.bl b, .bl (!b), .bl false, .bl false] ++ [.bl false, .bl false, .bl false] : List V)) = H3 at c2 hD6 hd4 ⊢
  refine ⟨_, rfl, .ty "ValueError", .type "ValueError", true, rfl, .ty _, .inr ⟨d, _, rfl, hd4⟩, C.kV b, true, rfl, ifT rfl ?_⟩
  refine ⟨_, rfl, .inl ⟨rfl, _, SqL.of hD6⟩, D5, .bl true, PyData.bool true, [PyData.bool b, PyData.bool !b, PyData.bool false, PyData.bool false, PyData.bool false, PyData.bool false, PyData.bool false], rfl, rfl, .lst (SqL.of hD6) (.cons (.bl _) (.cons (.bl _) (.cons (.bl _) (.cons (.bl _) (.cons (.bl _) (.cons (.bl _) (.cons (.bl _) .nil))))))), .bl _, by cases b <;> decide +kernel, by decide +kernel, ?_⟩
  refine ⟨by cases b <;> rfl, ?_⟩
  have key := z H3 (c0.trans (c1.trans c2))
  cases b <;> exact key

end Vk

set_option maxHeartbeats 4000000
namespace Vk
open PySem L2 Vm Vl
variable {l aZERO aONE CB CR CV fB fR : Addr} {P : Program} {w : World} {K : PySem.W.Frag} {mg : Str → Option Value} {base : Heap} {k : Nat} {f f1 f2 f3 f4 f5 f6 f7 f8 f9 : Addr} {fd fd1 fd2 fd3 fd4 fd5 fd6 fd7 fd8 fd9 : FuncData}
theorem pss_or {X : Cx} {st : List Stmt} {t u : TS} (h : PSs X st t) (g : PSs X st u) : PSs X st (fun D σ H => t D σ H ∨ u D σ H) := ⟨fun pins s σ H D I w => w.elim (h.run pins s σ H D I) (g.run pins s σ H D I)⟩
def spAl (a : Addr) (d : Option Addr) : Sp := fun vs H Q _ => ∃ (dd : Addr) (y : V), d = some dd ∧ vs = [.ref a] ∧ H dd = some (.xd [(("value" : Str), y)]) ∧ ∀ H', Same H H' → Q (.bl true) H'
theorem spAl_imp {a : Addr} {oe : Obj} {d : Option Addr} (b : Bool) (hz : Zc (.ref (cC CB CR b)) d oe) (hf : ∃ fv, oe.data = .fields fv) : ∀ vs H Q E, spAl a d vs H Q E → spAlone CB CR (a, oe) vs H Q E := by
  rintro vs H Q E ⟨dd, y, rfl, rfl, h, q⟩
  exact ⟨b, dd, y, rfl, hz, hf, h, q⟩
def tAsk (K : PySem.W.Frag) (C D : Addr) (nm : Str) : Addr → Option Addr → TS := fun a d =>
  tIfS (tAnd (tB (tCB (rIsG K C a d) (tCons (tVar 4) (tCons (tC (.ref D)) tNil)))) (tB (tCall (spAl a d) [] E0 (tCons (tVar 4) tNil)))) (tRet (tTup (tCons (tC (.str nm)) (tCons (tByVal C a (.ref C) d (tVar 4)) tNil)))) tNext
def tBody (K : PySem.W.Frag) (CB CR C : Addr) : Addr → Option Addr → TS := fun a d => tSeq (tAsk K C CB "BeforeStart" a d) (tSeq (tAsk K C CR "BadRate" a d) (tRet (tTup (tCons (tC (.str "raised")) (tCons (tC .non) tNil)))))
def tSuT (K : PySem.W.Frag) (CB CR : Addr) : Addr → Value → Option Addr → TS := fun a cls d D σ H => (cls = .ref CB ∧ tBody K CB CR CB a d D σ H) ∨ (cls = .ref CR ∧ tBody K CB CR CR a d D σ H)
/-- what a change makes of a course, ahead of tidying -/
def chL (sl : Bool) (c : List Pc) (t q : Rat) (p : Pc) : List Pc := if sl = true then ahd c t ++ [⟨t, vl t p, q⟩] else stl c t q p
abbrev s__law_told : Stmt := top 55
abbrev N__law_told : List Str := ["_law_course_here", "_law_t", "_law_by", "_law_slews", "_law_e"]
theorem sc__law_told : FnScope N__law_told ["_law_course_here", "_law_t", "_law_by", "_law_slews"] (defScope s__law_told) := ⟨rfl, rfl, rfl, by decide +kernel, rfl, by decide +kernel, by decide +kernel⟩
abbrev ps__law_told : List Str := ["_law_course_here", "_law_t", "_law_by", "_law_slews"]
def spTold (K : PySem.W.Frag) : Sp := fun vs H Q _ => ∃ (ac : Addr) (y u : V) (sl : Bool) (c : List Pc) (t q : Rat) (i j l m n : Nat), vs = [.ref ac, y, u, .bl sl] ∧ Cq K H ac c ∧ Rq K H y t ∧ Rq K H u q ∧ Cz i j l c ∧ Sz m t ∧ Sz n q ∧ Cok c ∧ c.length ≤ 400 ∧
  (∀ p, p ∈ c → pcAt c t = some p → ∃ i' j' l', Cz i' j' l' (chL sl c t q p) ∧ j' + j' + l' + i' + i' + 5 ≤ 9000) ∧ j + l + m + i + n + 5 ≤ 9000 ∧
  (∀ p, p ∈ c → pcAt c t = some p → (sl = true → 0 < q) → ∀ tt D us H', Same H H' → H D = none → H' tt = some (.tup [.str "is", .ref D]) → Ct K H' D us (tl (chL sl c t q p)) → Q (.ref tt) H') ∧
  (pcAt c t = none → ∀ tt H', Same H H' → SqT K H' tt [.str "BeforeStart", y] → Q (.ref tt) H') ∧ (∀ p, p ∈ c → pcAt c t = some p → sl = true → q ≤ 0 → ∀ tt H', Same H H' → SqT K H' tt [.str "BadRate", u] → Q (.ref tt) H')
theorem pcAt_mem {c : List Pc} {t : Rat} {p : Pc} (h : pcAt c t = some p) : p ∈ c := (List.mem_filter.mp (List.mem_of_getLast? h)).1
theorem ok_told (T : Bn mg) (gV : mg "VerdictError" = some (.ref CV)) (eB : ExcC K CB) (eR : ExcC K CR) (kBB : PySem.W.kitOne K (.ref CB) (.ref CB) = some true) (kRR : PySem.W.kitOne K (.ref CR) (.ref CR) = some true) (kRB : PySem.W.kitOne K (.ref CR) (.ref CB) = some false)
    (xB : PySem.W.exmOne K (.ref CB) (.ref CV) = some true) (xR : PySem.W.exmOne K (.ref CR) (.ref CV) = some true) (TB : PySem.ValX.ValTxt K mg "BeforeStart" CB fB) (TR : PySem.ValX.ValTxt K mg "BadRate" CR fR) (F : Fn K mg "_law_told" s__law_told ps__law_told f fd)
    (dslewed : DefY P w K mg base k "slewed" ["course", "t", "rate"] (spSlew K CB CR) f1 fd1) (dstepped : DefY P w K mg base k "stepped" ["course", "t", "jump"] (spStep K CB) f2 fd2) (d_law_alone : DefP P w K mg base k "_law_alone" ["_law_e"] (spAlone CB CR) f3 fd3) :
    Def P w K mg base (k + 1) "_law_told" ps__law_told (spTold K) f fd := by
  refine ⟨F.F.ok sc__law_told (fun vs H Q E h => ?_) (fun cdv A outer s H vs Q E hr h => ?_), F.m, F.F.kp, F.b⟩
  · obtain ⟨_, _, _, _, _, _, _, _, _, _, _, _, rfl, _⟩ := h
    rfl
  obtain ⟨ac, y, u, sl, c, t, q, i0, j0, l0, m, n, rfl, hC, hy, hu, cz, zt, zq, ok, hl, hz, h9, z1, z2, z3⟩ := h
  refine ⟨_, (pss_one (L2N.ps_try_ases (W0 := fun _ _ _ _ => False) rfl rfl sc__law_told.nd takes0Y
          (fun W pn xe tk _ => pss_one (ps_ret (pe_tup (pa_cons pe_str (pa_cons (pe_ifExp (pt_val (pv 3)) (pcallY dslewed hr tk (pa_cons (pv 0) (pa_cons (pv 1) (pa_cons (pv 2) pa_nil)))) (pcallY dstepped hr tk (pa_cons (pv 0) (pa_cons (pv 1) (pa_cons (pv 2) pa_nil))))) pa_nil)))))
          (L2N.AsOk.cons (i := 4) (ts := tSuT K CB CR) ⟨rfl, by decide, Or.inl gV⟩ rfl rfl (fun a oe cls dd pn hz hf => pss_or
              (pss_if (p := cls = .ref CB) fun e => by
                subst e
                exact pss_cons (ps_if (PW.pt (pw_and (pt_val (pe_callB (call_isG eB hz.zc hf) (by rfl) T.isinstance_ (by decide +kernel) (pa_cons (pv 4) (pa_cons (pe_glob (v := .ref CB) (u := .ref CB) (by rfl) TB.gC rfl) pa_nil))))
                    (pw_and1 (pt_val (pe_callP2 d_law_alone ⟨hr.dp, hr.un⟩ ⟨rfl, hf.elim fun vs ev => ⟨vs, ev, hz.2.2 vs ev⟩⟩ List.mem_cons_self (spAl_imp true hz.zc hf) (pa_cons (pv 4) pa_nil))))))
                  (pss_one (ps_ret (pe_tup (pa_cons pe_str (pa_cons (pe_byVal TB hz.zc hf (pv 4)) pa_nil)))))
                  pss_nil)
                  (pss_cons (ps_if (PW.pt (pw_and (pt_val (pe_callB (call_isG eB hz.zc hf) (by rfl) T.isinstance_ (by decide +kernel) (pa_cons (pv 4) (pa_cons (pe_glob (v := .ref CR) (u := .ref CR) (by rfl) TR.gC rfl) pa_nil))))
                    (pw_and1 (pt_val (pe_callP2 d_law_alone ⟨hr.dp, hr.un⟩ ⟨rfl, hf.elim fun vs ev => ⟨vs, ev, hz.2.2 vs ev⟩⟩ List.mem_cons_self (spAl_imp true hz.zc hf) (pa_cons (pv 4) pa_nil))))))
                  (pss_one (ps_ret (pe_tup (pa_cons pe_str (pa_cons (pe_byVal TB hz.zc hf (pv 4)) pa_nil)))))
                  pss_nil)
                  (pss_one (ps_ret (pe_tup (pa_cons pe_str (pa_cons pe_non pa_nil)))))))
              (pss_if (p := cls = .ref CR) fun e => by
                subst e
                exact pss_cons (ps_if (PW.pt (pw_and (pt_val (pe_callB (call_isG eR hz.zc hf) (by rfl) T.isinstance_ (by decide +kernel) (pa_cons (pv 4) (pa_cons (pe_glob (v := .ref CB) (u := .ref CB) (by rfl) TB.gC rfl) pa_nil))))
                    (pw_and1 (pt_val (pe_callP2 d_law_alone ⟨hr.dp, hr.un⟩ ⟨rfl, hf.elim fun vs ev => ⟨vs, ev, hz.2.2 vs ev⟩⟩ List.mem_cons_self (spAl_imp false hz.zc hf) (pa_cons (pv 4) pa_nil))))))
                  (pss_one (ps_ret (pe_tup (pa_cons pe_str (pa_cons (pe_byVal TR hz.zc hf (pv 4)) pa_nil)))))
                  pss_nil)
                  (pss_cons (ps_if (PW.pt (pw_and (pt_val (pe_callB (call_isG eR hz.zc hf) (by rfl) T.isinstance_ (by decide +kernel) (pa_cons (pv 4) (pa_cons (pe_glob (v := .ref CR) (u := .ref CR) (by rfl) TR.gC rfl) pa_nil))))
                    (pw_and1 (pt_val (pe_callP2 d_law_alone ⟨hr.dp, hr.un⟩ ⟨rfl, hf.elim fun vs ev => ⟨vs, ev, hz.2.2 vs ev⟩⟩ List.mem_cons_self (spAl_imp false hz.zc hf) (pa_cons (pv 4) pa_nil))))))
                  (pss_one (ps_ret (pe_tup (pa_cons pe_str (pa_cons (pe_byVal TR hz.zc hf (pv 4)) pa_nil)))))
                  pss_nil)
                  (pss_one (ps_ret (pe_tup (pa_cons pe_str (pa_cons pe_non pa_nil))))))))
          L2N.AsOk.nil))), ?_⟩
  have faultB : (∀ t H', Same H H' → SqT K H' t [.str "BeforeStart", y] → Q (.ref t) H') → ∀ dd, H dd = none → wAses K (fun _ _ _ _ => False) { nx := fun _ H' => Q .non H', rt := Q } [(.ref CV, 4, tSuT K CB CR)] (.ref CB) (some dd) [some (.ref ac), some y, some u, some (.bl sl), none] (upd H dd (.xd [(("value" : Str), y)])) := by
    intro hq dd hdd
    have cd := same_new hdd (.xd [(("value" : Str), y)])
    have hdat : (upd H dd (.xd [(("value" : Str), y)])) dd = some (.xd [(("value" : Str), y)]) := upd_same
    generalize upd H dd (.xd [(("value" : Str), y)]) = H2 at cd hdat ⊢
    refine ⟨true, xB, fun _ e he => Or.inl ⟨rfl, ?_⟩, nofun⟩
    refine ⟨_, rfl, .ref CB, .ref CB, true, rfl, .own _, .inr ⟨dd, _, rfl, hdat⟩, kBB, _, rfl, ifT rfl ?_⟩
    refine ⟨_, rfl, dd, y, rfl, rfl, hdat, fun H3 s3 => ⟨_, rfl, ifT rfl ?_⟩⟩
    refine ⟨_, rfl, rfl, rfl, dd, y, rfl, s3 _ _ hdat, sz2, fun t ht => ?_⟩
    have st := same_new ht (.tup [.str "BeforeStart", y])
    exact hq t _ (cd.trans (s3.trans st)) (SqT.of upd_same)
  have faultR : ∀ H1, Same H H1 → (∀ t H', Same H H' → SqT K H' t [.str "BadRate", u] → Q (.ref t) H') → ∀ dd, H1 dd = none → wAses K (fun _ _ _ _ => False) { nx := fun _ H' => Q .non H', rt := Q } [(.ref CV, 4, tSuT K CB CR)] (.ref CR) (some dd) [some (.ref ac), some y, some u, some (.bl sl), none] (upd H1 dd (.xd [(("value" : Str), u)])) := by
    intro H1 f1 hq dd hdd
    have cd := same_new hdd (.xd [(("value" : Str), u)])
    have hdat : (upd H1 dd (.xd [(("value" : Str), u)])) dd = some (.xd [(("value" : Str), u)]) := upd_same
    generalize upd H1 dd (.xd [(("value" : Str), u)]) = H2 at cd hdat ⊢
    refine ⟨true, xR, fun _ e he => Or.inr ⟨rfl, ?_⟩, nofun⟩
    refine ⟨_, rfl, .ref CB, .ref CB, false, rfl, .own _, .inr ⟨dd, _, rfl, hdat⟩, kRB, _, rfl, ifF rfl (ifF rfl ?_)⟩
    refine ⟨_, rfl, .ref CR, .ref CR, true, rfl, .own _, .inr ⟨dd, _, rfl, hdat⟩, kRR, _, rfl, ifT rfl ?_⟩
    refine ⟨_, rfl, dd, u, rfl, rfl, hdat, fun H3 s3 => ⟨_, rfl, ifT rfl ?_⟩⟩
    refine ⟨_, rfl, rfl, rfl, dd, u, rfl, s3 _ _ hdat, sz2, fun t ht => ?_⟩
    have st := same_new ht (.tup [.str "BadRate", u])
    exact hq t _ (f1.trans (cd.trans (s3.trans st))) (SqT.of upd_same)
  refine ⟨_, rfl, sl, rfl, ?_⟩
  cases sl with
  | true =>
    refine ifT rfl ?_
    have get : ∀ v, nowf c t = some v → ∃ pc, pcAt c t = some pc ∧ vl t pc = v := fun v hv => by rw [now_pc] at hv; exact Option.map_eq_some_iff.mp hv
    (walk_at "vk_vc")
    · intro v hv
      obtain ⟨pc, hp, rfl⟩ := get v hv
      exact hz pc (pcAt_mem hp) hp
    · intro v hv hq D us H' s1 hD hA
      obtain ⟨pc, hp, rfl⟩ := get v hv
      refine ⟨sz2, fun tt ht => ?_⟩
      exact z1 pc (pcAt_mem hp) hp (fun _ => hq) tt D us _ (s1.trans (same_new ht _)) hD upd_same (Ct.same (same_new ht _) hA)
    · intro hn
      refine fun d hd => faultB (z2 ?_) d hd
      rw [now_pc] at hn
      exact Option.map_eq_none_iff.mp hn
    · rintro ⟨v, hv⟩ hq H' f1
      obtain ⟨pc, hp, rfl⟩ := get v hv
      exact fun d hd => faultR H' f1 (z3 pc (pcAt_mem hp) hp rfl hq) d hd
  | false =>
    refine ifF rfl ?_
    (walk_at "vk_vc")
    · exact hz
    · intro pc hm hp D us H' s1 hD hA
      refine ⟨sz2, fun tt ht => ?_⟩
      exact z1 pc hm hp nofun tt D us _ (s1.trans (same_new ht _)) hD upd_same (Ct.same (same_new ht _) hA)
    · intro hn
      exact fun d hd => faultB (z2 hn) d hd
end Vk

set_option maxHeartbeats 4000000
namespace Vk
open PySem L2 Vm Vl
variable {l aZERO aONE CB CR CV fB fR : Addr} {P : Program} {w : World} {K : PySem.W.Frag} {mg : Str → Option Value} {base : Heap} {k : Nat} {f f1 f2 f3 f4 f5 f6 f7 f8 f9 : Addr} {fd fd1 fd2 fd3 fd4 fd5 fd6 fd7 fd8 fd9 : FuncData}
def spOrdN (K : PySem.W.Frag) : Sp := fun vs H Q _ => ∃ (a : Addr) (xs : List V) (qs : List Rat), vs = [.ref a] ∧ SqL K H a xs ∧ All2 (Rq K H) xs qs ∧ (∀ q ∈ qs, Sz 3000 q) ∧ qs.length ≤ 900 ∧
  ∀ D us os H', Same H H' → H D = none → H' D = some (.lst us) → All2 (Rq K H') us os → Asc os → (∀ o ∈ os, o ∈ qs) → os.length ≤ qs.length → (qs ≠ [] → os ≠ []) → Q (.ref D) H'
theorem ok_ordN (T : Bn mg) (F : Fn K mg "_law_ordered" s__law_ordered ps__law_ordered f fd) (d_law_below : Def P w K mg base k "_law_below" ["_law_a", "_law_b"] (spTest2 K fun p q => .bl (decide (p < q))) f1 fd1) :
    Def P w K mg base (k + 1) "_law_ordered" ps__law_ordered (spOrdN K) f fd := by
  refine ⟨F.F.ok sc__law_ordered (fun vs H Q E h => ?_) (fun cdv A outer s H vs Q E hr h => ?_), F.m, F.F.kp, F.b⟩
  · obtain ⟨_, _, _, rfl, _⟩ := h
    rfl
  obtain ⟨a, xs, qs, rfl, hx, hq, zq, hl, z⟩ := h
  refine ⟨_, (pss_cons (ps_set (i := 1) sc__law_ordered.nd rfl (Or.inl rfl) (pe_lst pa_nil))
      (pss_cons (ps_for PassesOwn.never rfl (pi_list (pv 0)) (pg_name (i := 2) sc__law_ordered.nd rfl (Or.inl rfl))
        (pss_cons (ps_set (i := 3) sc__law_ordered.nd rfl (Or.inl rfl) pe_int)
        (pss_cons (ps_for PassesOwn.never rfl (pi_range1 (by rfl) T.range_ (pa_cons (pe_callB call_len_seq (by rfl) T.len_ PySem.boot_len (pa_cons (pv 1) pa_nil)) pa_nil)) (pg_name (i := 4) sc__law_ordered.nd rfl (Or.inl rfl))
          (pss_one (ps_if (pt_val (pcall d_law_below hr (pa_cons (pe_ix ix_list (pv 1) (pv 4) (fun _ _ => rfl)) (pa_cons (pv 2) pa_nil))))
            (pss_one (ps_set (i := 3) sc__law_ordered.nd rfl (Or.inl rfl) (pe_op op_add (pv 4) pe_int)))
            pss_nil)))
        (pss_one (ps_if (PW.pt (pw_or (pt_cmpR op_eq (pv 3) (pe_callB call_len_seq (by rfl) T.len_ PySem.boot_len (pa_cons (pv 1) pa_nil)) (nomark _)) (pw_or1 (pt_cmpR (op_neD hr.units) (pe_ix ix_list (pv 1) (pv 3) (fun _ _ => rfl)) (pv 2) (nomark _)))))
          (pss_one (ps_expr (pe_bm PySem.F.plainAttrs_list PySem.F.slot_list_insert PySem.F.type_list_insert mt_insert (pv 1) (pa_cons (pv 3) (pa_cons (pv 2) pa_nil)))))
          pss_nil)))))
      (pss_one (ps_ret (pv 1))))), ?_⟩
  have p62 : (2 : Int) ^ 62 = 4611686018427387904 := by decide
  have p63 : (2 : Int) ^ 63 = 9223372036854775808 := by decide
  refine ⟨Nat.zero_le _, fun D hD => ?_⟩
  refine ⟨_, rfl, a, rfl, ⟨_, (same_new hD _).seq hx⟩, for_list (K := K) (a := a) (xs := xs) (fun i σ G => ∃ (us : List V) (os : List Rat) (k1 k2 k3 : Option V), σ = [some (.ref a), some (.ref D), k1, k2, k3] ∧ Same H G ∧ G D = some (.lst us) ∧ All2 (Rq K G) us os ∧ Asc os ∧ (∀ o ∈ os, o ∈ qs) ∧ os.length ≤ i ∧ (0 < i → os ≠ []))
    ⟨[], [], none, none, none, rfl, same_new hD _, upd_same, All2.nil, List.Pairwise.nil, nofun, Nat.le_refl _, fun h => absurd h (by omega)⟩ (fun i σ G _ h => by obtain ⟨_, _, _, _, _, _, s1, _⟩ := h; exact s1.seq hx) ?_ ?_⟩
  · rintro i x σ G hxi ⟨us, os, k1, k2, k3, rfl, s1, hD1, hA, asc, sub, ln, _⟩
    have hi : i < qs.length := by rw [← hq.1]; exact (List.getElem?_eq_some_iff.mp hxi).1
    have hqi : qs[i]? = some qs[i] := List.getElem?_eq_getElem hi
    have hmem : qs[i] ∈ qs := List.getElem_mem hi
    have rx := (hq.2 i x _ hxi hqi).same s1
    obtain ⟨one, eo⟩ : ∃ o, o = qs[i] := ⟨_, rfl⟩
    rw [← eo] at rx hmem
    have zo := zq one hmem
    have zos : ∀ o ∈ os, Sz 3000 o := fun o ho => zq o (sub o ho)
    have hal := hA.1
    refine ⟨_, rfl, D, _, rfl, .inl (SqL.of hD1), _, rfl, by omega, by omega, for_range (n := ((us.length : Nat) : Int).toNat) (fun j σ G' => ∃ (m : Nat) (k3 : Option V), σ = [some (.ref a), some (.ref D), some x, some (.int m), k3] ∧ G' = G ∧ Spot os one j m)
      ⟨0, k3, rfl, rfl, Nat.le_refl _, fun t o h => absurd h (by omega)⟩ ?_ ?_⟩
    · rintro j σ G' hj ⟨m, k3, rfl, rfl, sp⟩
      have hj' : j < os.length := by omega
      have hoj : os[j]? = some os[j] := List.getElem?_eq_getElem hj'
      obtain ⟨y, hy, ry⟩ := hA.at hoj
      have sn := spot_next asc sp hoj
      refine ⟨_, rfl, _, rfl, D, _, _, y, rfl, rfl, SqL.of hD1, at_of (j := j) (by omega) hy, _, rfl, _, _, os[j], one, 3000, 3000, rfl, ry, rx, zos _ (List.getElem_mem hj'), zo, by decide, _, rfl, ifD (fun g => ?_) (fun g => ?_)⟩
      · rw [if_pos g] at sn
        refine ⟨_, rfl, _, _, rfl, rfl, j + 1, some (.int (0 + (j : Int))), ?_, rfl, sn⟩
        show [some (V.ref a), some (V.ref D), some x, some (V.int (0 + (j : Int) + 1)), some (V.int (0 + (j : Int)))] = _
        rw [show (0 + (j : Int) + 1) = ((j + 1 : Nat) : Int) by omega]
      · rw [if_neg g] at sn
        exact ⟨m, _, rfl, rfl, sn⟩
    · rintro σ G' ⟨m, k3, rfl, rfl, sp⟩
      have sp : Spot os one os.length m := by
        have e : ((us.length : Nat) : Int).toNat = os.length := by omega
        rw [e] at sp
        exact sp
      have hm := sp.1
      have put : os[m]? ≠ some one → ∃ (us' : List V) (os' : List Rat) (k1 k2 k3' : Option V), [some (.ref a), some (.ref D), some x, some (.int m), k3] = [some (.ref a), some (.ref D), k1, k2, k3'] ∧ Same H (upd G' D (.lst (us.take m ++ [x] ++ us.drop m))) ∧ (upd G' D (.lst (us.take m ++ [x] ++ us.drop m))) D = some (.lst us') ∧
          All2 (Rq K (upd G' D (.lst (us.take m ++ [x] ++ us.drop m)))) us' os' ∧ Asc os' ∧ (∀ o ∈ os', o ∈ qs) ∧ os'.length ≤ i + 1 ∧ (0 < i + 1 → os' ≠ []) := fun hn => by
        have fr : Fr D G' (upd G' D (.lst (us.take m ++ [x] ++ us.drop m))) := Fr.upd _
        have hA' := hA.imp fun _ _ h => Rq.fr fr ⟨_, hD1⟩ h
        refine ⟨_, os.take m ++ [one] ++ os.drop m, _, _, _, rfl, same_upd s1 hD _, upd_same, ((hA'.take m).append (All2.one (rx.fr fr ⟨_, hD1⟩))).append (hA'.drop m), asc_insert asc sp hn, fun o ho => ?_, ?_, fun _ e => ?_⟩
        · rcases List.mem_append.mp ho with ho | ho
          · rcases List.mem_append.mp ho with ho | ho
            · exact sub o (List.mem_of_mem_take ho)
            · rw [List.mem_singleton.mp ho]
              exact hmem
          · exact sub o (List.mem_of_mem_drop ho)
        · rw [List.length_append, List.length_append, List.length_take, List.length_drop, List.length_singleton]
          omega
        · have := congrArg List.length e
          rw [List.length_append, List.length_append, List.length_singleton, List.length_nil] at this
          omega
      refine ⟨_, rfl, _, rfl, D, _, rfl, .inl (SqL.of hD1), rfl, _, rfl, ifD (fun g => ifT rfl ?_) (fun g => ?_)⟩
      · have g' := V.int.inj g
        have hn : os[m]? ≠ some one := by rw [List.getElem?_eq_none (by omega)]; exact nofun
        exact ⟨_, rfl, .inl ⟨rfl, _, SqL.of hD1⟩, _, rfl, _, rfl, D, _, _, _, rfl, rfl, hD1, le1000 (by omega), by omega, by omega, put hn⟩
      · have g' : m ≠ us.length := fun e => g (by rw [e])
        have hmo : os[m]? = some os[m] := List.getElem?_eq_getElem (by omega)
        obtain ⟨y, hy, ry⟩ := hA.at hmo
        refine ⟨_, rfl, _, rfl, D, _, _, y, rfl, rfl, SqL.of hD1, at_of (j := m) rfl hy, _, rfl, _, _, ry.dp, rx.dp, sh_dq _, sh_dq _, _, rfl, ?_⟩
        rw [eqv_dq]
        by_cases e : os[m] = one
        · refine ifF (by rw [dT e]; rfl) ⟨us, os, _, _, _, rfl, s1, hD1, hA, asc, sub, by omega, fun _ z => ?_⟩
          have z2 := congrArg List.length z
          rw [List.length_nil] at z2
          omega
        · refine ifT (by rw [dF e]; rfl) ?_
          have hn : os[m]? ≠ some one := by rw [hmo]; exact fun z => e (Option.some.inj z)
          exact ⟨_, rfl, .inl ⟨rfl, _, SqL.of hD1⟩, _, rfl, _, rfl, D, _, _, _, rfl, rfl, hD1, le1000 (by omega), by omega, by omega, put hn⟩
  · rintro σ G ⟨us, os, k1, k2, k3, rfl, s1, hD1, hA, asc, sub, ln, ne⟩
    rw [hq.1] at ln
    refine ⟨_, rfl, z D us os G s1 hD hD1 hA asc sub ln fun e => ne ?_⟩
    rw [hq.1]
    exact List.length_pos_iff.mpr e
/-- a span with two ends -/
def Tq (K : PySem.W.Frag) (H : Hp) (x : V) (p : Rat × Rat) : Prop := ∃ a u v, x = .ref a ∧ SqT K H a [u, v] ∧ Rq K H u p.1 ∧ Rq K H v p.2
theorem Tq.same {H H' : Hp} {x : V} {p : Rat × Rat} (e : Same H H') (h : Tq K H x p) : Tq K H' x p := by
  obtain ⟨a, u, v, rfl, h1, h2, h3⟩ := h
  exact ⟨a, u, v, rfl, e.sqt h1, h2.same e, h3.same e⟩
theorem lastsT : Lasts (Tq K) := fun e hs ⟨a, u, v, h0, h1, h2, h3⟩ => ⟨a, u, v, h0, sqt_fr e hs h1, h2.fr e hs, h3.fr e hs⟩
abbrev s__law_probes : Stmt := top 47
abbrev N__law_probes : List Str := ["_law_spans", "_law_ends", "_law_span", "_law_one", "_law_row", "_law_k"]
theorem sc__law_probes : FnScope N__law_probes ["_law_spans"] (defScope s__law_probes) := ⟨rfl, rfl, rfl, by decide +kernel, rfl, by decide +kernel, by decide +kernel⟩
abbrev ps__law_probes : List Str := ["_law_spans"]
def spPrb (K : PySem.W.Frag) : Sp := fun vs H Q _ => ∃ (a : Addr) (xs : List V) (ps : List (Rat × Rat)), vs = [.ref a] ∧ SqL K H a xs ∧ All2 (Tq K H) xs ps ∧ (∀ p ∈ ps, Sz 1500 p.1 ∧ Sz 1500 p.2) ∧ 1 ≤ ps.length ∧ ps.length ≤ 200 ∧
  ∀ D us os H', Same H H' → H D = none → H' D = some (.lst us) → All2 (Rq K H') us os → (∀ o ∈ os, Sz 3010 o) → Q (.ref D) H'
theorem ok_prb (T : Bn mg) (F : Fn K mg "_law_probes" s__law_probes ps__law_probes f fd) (d_law_ordered : Def P w K mg base k "_law_ordered" ["_law_fracs"] (spOrdN K) f1 fd1) (d_law_minus : Def P w K mg base k "_law_minus" ["_law_a", "_law_b"] (spOp2 K (· - ·)) f2 fd2)
    (d_law_plus : Def P w K mg base k "_law_plus" ["_law_a", "_law_b"] (spOp2 K (· + ·)) f3 fd3) (d_law_times : Def P w K mg base k "_law_times" ["_law_a", "_law_b"] (spOp2 K (· * ·)) f4 fd4) : Def P w K mg base (k + 1) "_law_probes" ps__law_probes (spPrb K) f fd := by
  refine ⟨F.F.ok sc__law_probes (fun vs H Q E h => ?_) (fun cdv A outer s H vs Q E hr h => ?_), F.m, F.F.kp, F.b⟩
  · obtain ⟨_, _, _, rfl, _⟩ := h
    rfl
  obtain ⟨ac, xs, ps, rfl, hx, hq, zq, l1, l2, z⟩ := h
  refine ⟨_, (pss_cons (ps_set (i := 1) sc__law_probes.nd rfl (Or.inl rfl) (pe_lst pa_nil))
      (pss_cons (ps_for PassesOwn.never rfl (pi_list (pv 0)) (pg_name (i := 2) sc__law_probes.nd rfl (Or.inl rfl))
        (pss_one (ps_set (i := 1) sc__law_probes.nd rfl (Or.inl rfl) (pe_op op_cat (pv 1) (pe_lc (own := [("_law_one", 3)]) (g := gName 3) rfl sc__law_probes.nd (pi_tup (pv 2)) (blkOk_by (N := N__law_probes) (sc := defScope s__law_probes) (by decide +kernel)) (fun _ _ _ _ _ => pg_name (i := 3) sc__law_probes.nd rfl (Or.inl rfl)) (fun _ _ _ _ _ => pts_one (pt_cmpR op_notN (pv 3) pe_non (nomark _))) (fun _ _ _ _ _ => (pv 3)))))))
      (pss_cons (ps_set (i := 1) sc__law_probes.nd rfl (Or.inl rfl) (pcall d_law_ordered hr (pa_cons (pv 1) pa_nil)))
      (pss_cons (ps_if (pt_cmpR op_eq (pe_callB call_len_seq (by rfl) T.len_ PySem.boot_len (pa_cons (pv 1) pa_nil)) pe_int (nomark _))
        (pss_one (ps_ret (pe_lst (pa_cons (pe_tup (pa_cons pe_int (pa_cons pe_int pa_nil))) pa_nil))))
        pss_nil)
      (pss_cons (ps_set (i := 4) sc__law_probes.nd rfl (Or.inl rfl) (pe_lst (pa_cons (pcall d_law_minus hr (pa_cons (pe_ix ix_list (pv 1) pe_int (fun _ _ => rfl)) (pa_cons (pe_tup (pa_cons pe_int (pa_cons pe_int pa_nil))) pa_nil))) pa_nil)))
      (pss_cons (ps_for PassesOwn.never rfl (pi_range1 (by rfl) T.range_ (pa_cons (pe_callB call_len_seq (by rfl) T.len_ PySem.boot_len (pa_cons (pv 1) pa_nil)) pa_nil)) (pg_name (i := 5) sc__law_probes.nd rfl (Or.inl rfl))
        (pss_cons (ps_expr (pe_bm PySem.F.plainAttrs_list PySem.F.slot_list_append PySem.F.type_list_append mt_append (pv 4) (pa_cons (pe_ix ix_list (pv 1) (pv 5) (fun _ _ => rfl)) pa_nil)))
        (pss_one (ps_if (pt_cmpR op_lt (pe_op op_add (pv 5) pe_int) (pe_callB call_len_seq (by rfl) T.len_ PySem.boot_len (pa_cons (pv 1) pa_nil)) (nomark _))
          (pss_one (ps_expr (pe_bm PySem.F.plainAttrs_list PySem.F.slot_list_append PySem.F.type_list_append mt_append (pv 4) (pa_cons (pcall d_law_times hr (pa_cons (pcall d_law_plus hr (pa_cons (pe_ix ix_list (pv 1) (pv 5) (fun _ _ => rfl)) (pa_cons (pe_ix ix_list (pv 1) (pe_op op_add (pv 5) pe_int) (fun _ _ => rfl)) pa_nil))) (pa_cons (pe_tup (pa_cons pe_int (pa_cons pe_int pa_nil))) pa_nil))) pa_nil))))
          pss_nil))))
      (pss_one (ps_ret (pe_op op_cat (pv 4) (pe_lst (pa_cons (pcall d_law_plus hr (pa_cons (pe_ix ix_list (pv 1) (pe_op op_sub (pe_callB call_len_seq (by rfl) T.len_ PySem.boot_len (pa_cons (pv 1) pa_nil)) pe_int) (fun _ _ => rfl)) (pa_cons (pe_tup (pa_cons pe_int (pa_cons pe_int pa_nil))) pa_nil))) pa_nil))))))))))), ?_⟩
  (walk_at "vk_vc")
  have hsz : sizeLine = 16777216 := sizeLine_eq
  have s0 : Same H (upd H p (.lst [])) := same_new np _
  have h0 : (upd H p (.lst [])) p = some (.lst []) := upd_same
  refine forL (K := K) (a := ac) (xs := xs) (fun i σ G => Hold (∃ Ea es os k2 k3, σ = [some (.ref ac), some (.ref Ea), k2, k3, none, none] ∧ Same H G ∧ G Ea = some (.lst es) ∧ All2 (Rq K G) es os ∧ (∀ o ∈ os, Sz 1500 o) ∧ os.length = 2 * i))
    ⟨p, [], [], none, none, rfl, s0, h0, All2.nil, nofun, rfl⟩ (fun i σ G _ h => by obtain ⟨_, _, _, _, _, _, s1, _⟩ := h; exact s1.seq hx) ?_ ?_
  · rintro i x σ G hxi ⟨Ea, es, os, k2, k3, rfl, s1, hE, hA, zo, ln⟩
    have hi : i < ps.length := by have := (List.getElem?_eq_some_iff.mp hxi).1; rw [hq.1] at this; exact this
    have ec : ps[i]? = some ps[i] := List.getElem?_eq_getElem hi
    obtain ⟨z1, z2⟩ := zq _ (List.getElem_mem hi)
    obtain ⟨ta, tu, tv, rfl, ht, hu, hv⟩ := (hq.2 i x _ hxi ec).same s1
    generalize ps[i] = pr at ec z1 z2 hu hv
    obtain ⟨tua, rfl, htu⟩ := id hu
    obtain ⟨tva, rfl, htv⟩ := id hv
    (walk_at "vk_vc")
    refine lcAllT (R := fun G v (q : Rat) => Rq K G v q) (R' := fun G v (q : Rat) => Rq K G v q) lastsQ some np ht (c := [pr.1, pr.2]) ((All2.one (p := pr.1) hu).append (All2.one (p := pr.2) hv)) (by show 2 ≤ 1000; decide) ?_ ?_
    · intro j y q G1 ej rq f1 Y N hY hN
      obtain ⟨ya, rfl, hya⟩ := id rq
      (walk_at "vk_vc")
      exact hY _ _ q (Same.refl _) rfl (rq.same f1)
    · intro us G1 f1 hD2 hA2
      have hD2 : G1 p = some (.lst us) := hD2
      have lu : us.length = 2 := hA2.1
      have le : es.length = os.length := hA.1
      have key : ∀ p' G2, G1 p' = none → G2 = upd G1 p' (.lst (es ++ us)) → Hold (∃ Ea es os k2' k3', [some (V.ref ac), some (.ref p'), some (.ref ta), k3, none, none] = [some (.ref ac), some (.ref Ea), k2', k3', none, none] ∧ Same H G2 ∧ G2 Ea = some (.lst es) ∧ All2 (Rq K G2) es os ∧ (∀ o ∈ os, Sz 1500 o) ∧ os.length = 2 * (i + 1)) := by
        rintro p' G2 np' rfl
        have f2 := same_new np' (.lst (es ++ us))
        refine ⟨p', es ++ us, os ++ [pr.1, pr.2], some (.ref ta), k3, rfl, s1.trans (f1.trans f2), upd_same, (hA.imp fun _ _ h => h.same (f1.trans f2)).append ((show All2 (fun v (q : Rat) => Rq K G1 v q) us [pr.1, pr.2] from hA2).imp fun _ _ h => Rq.same f2 h), fun o ho => ?_, by rw [List.length_append, ln]; rfl⟩
        rcases List.mem_append.mp ho with ho | ho
        · exact zo o ho
        · rcases List.mem_cons.mp ho with rfl | ho
          · exact z1
          · rw [List.mem_singleton.mp ho]; exact z2
      have big : es.length + us.length ≤ sizeLine := by omega
      (walk_at "vk_vc")
      exact key _ _ np rfl
  · rintro σ G ⟨Ea, es, os, k2, k3, rfl, s1, hE, hA, zo, ln⟩
    have lq : os.length ≤ 900 := by rw [ln, hq.1]; omega
    have zo3 : ∀ o ∈ os, Sz 3000 o := fun o ho => (zo o ho).mono (by decide)
    have ne : os ≠ [] := fun g => by rw [g] at ln; rw [hq.1] at ln; simp at ln; omega
    (walk_at "vk_vc")
    intro Da ds qs G1 f1 hDa hD1 hA1 asc sub ln2 ne2
    have ld := hA1.1
    have lp : 0 < qs.length := List.length_pos_iff.mpr (ne2 ne)
    have zd : ∀ o ∈ qs, Sz 1500 o := fun o ho => zo o (sub o ho)
    have item : ∀ j, j < qs.length → ∃ va, atI ds (j : Int) = some (.ref va) ∧ Rq K G1 (.ref va) (qs[j]?.getD 0) ∧ Sz 1500 (qs[j]?.getD 0) := fun j hj => by
      have ej : qs[j]? = some qs[j] := List.getElem?_eq_getElem hj
      obtain ⟨v, hv, rv⟩ := hA1.at ej
      obtain ⟨va, rfl, _⟩ := id rv
      rw [ej]
      exact ⟨va, atI_nat hv, rv, zd _ (List.getElem_mem hj)⟩
    obtain ⟨v0, i0, r0, zv0⟩ := item 0 lp
    obtain ⟨v9, i9, r9, zv9⟩ := item (qs.length - 1) (by omega)
    have i0' : atI ds 0 = some (.ref v0) := i0
    have i9' : atI ds ((ds.length : Int) - 1) = some (.ref v9) := by rw [show ((ds.length : Int) - 1) = ((qs.length - 1 : Nat) : Int) by omega]; exact i9
    have p62 : (2 : Int) ^ 62 = 4611686018427387904 := by decide
    have l62 : (ds.length : Int) < 2 ^ 62 := by omega
    (walk_at "vk_vc")
    · exact absurd (V.int.inj gc) (by omega)
    rename Addr => Dr
    obtain ⟨G, eG⟩ : ∃ G, G = upd H' Dr (.lst [.ref a]) := ⟨_, rfl⟩
    rw [← eG]
    have gw0 : Gw (Rq K) H Dr [.ref a] [(qs[0]?.getD 0 - 1)] G := by
      have hh : Rq K H' (.ref a) (qs[0]?.getD 0 - 1) := h
      rw [eG]
      refine ⟨sameFree ?_ np, ?_, upd_same, All2.one (hh.same (same_new np _))⟩
      all_goals (walk_at "vk_vc")
    have sG : Same G1 G := by rw [eG]; (walk_at "vk_vc")
    have hDG := sG _ _ hD1
    have hfp : G1 Dr = none := sameFree (by (walk_at "vk_same")) np
    have hne : Da ≠ Dr := fun g => by rw [g, hfp] at hD1; cases hD1
    clear eG
    refine forR (lo := 0) (n := ds.length) (fun i σ G => Hold (∃ us os k2 k3 k5, σ = [some (.ref ac), some (.ref Da), k2, k3, some (.ref Dr), k5] ∧ Gw (Rq K) H Dr us os G ∧ Same G1 G ∧ us.length ≤ 2 * i + 1 ∧ ∀ o ∈ os, Sz 3010 o))
      ⟨_, _, _, _, _, rfl, gw0, sG, by show 1 ≤ 1; omega, fun o ho => by rw [List.mem_singleton.mp ho]; exact (zv0.sub zo1).mono (by decide)⟩ ?_ ?_
    · rintro i σ G hi ⟨us, os, k2, k3, k5, rfl, gw, sg, lu, zs⟩
      obtain ⟨va, iva, rva, zva⟩ := item i (by omega)
      have iva' : atI ds (0 + (i : Int)) = some (.ref va) := by rw [Int.zero_add]; exact iva
      have hgD := gw.at_
      have hgDa := sg _ _ hD1
      have rvG := rva.same sg
      have lus : us.length < sizeLine := by omega
      have mk : ∀ us2 os2 G2 k2 k3 k5, Gw (Rq K) H Dr us2 os2 G2 → Same G1 G2 → us2.length ≤ 2 * (i + 1) + 1 → (∀ o ∈ os2, Sz 3010 o) → Hold (∃ us os k2' k3' k5', [some (V.ref ac), some (V.ref Da), k2, k3, some (V.ref Dr), k5] = [some (V.ref ac), some (V.ref Da), k2', k3', some (V.ref Dr), k5'] ∧ Gw (Rq K) H Dr us os G2 ∧ Same G1 G2 ∧ us.length ≤ 2 * (i + 1) + 1 ∧ ∀ o ∈ os, Sz 3010 o) := fun us2 os2 G2 k2 k3 k5 a b c d => ⟨⟨us2, os2, k2, k3, k5, rfl, a, b, c, d⟩⟩
      have zq : Sz 3010 (qs[i]?.getD 0) := zva.mono (by decide)
      (walk_at "vk_vc")
      refine appGw (R := Rq K) lastsQ gw rvG lus fun gw2 fr2 => ?_
      generalize upd G Dr (HO.lst (us ++ [V.ref va])) = G2 at gw2 fr2 ⊢
      have sg2 : Same G1 G2 := fun b o hb => fr2 b o (sg b o hb) (fun g => by rw [g, hfp] at hb; cases hb)
      have hgDa2 := sg2 _ _ hD1
      have rv2 := rva.same sg2
      have l2 : (us ++ [V.ref va]).length ≤ 2 * i + 2 := by rw [List.length_append]; show _ + 1 ≤ _; omega
      have zs2 : ∀ o ∈ os ++ [qs[i]?.getD 0], Sz 3010 o := fun o ho => by
        rcases List.mem_append.mp ho with ho | ho
        · exact zs o ho
        · rw [List.mem_singleton.mp ho]; exact zq
      have hgD2 := gw2.at_
      by_cases gl : i + 1 < qs.length
      · obtain ⟨vb, ivb, rvb, zvb⟩ := item (i + 1) gl
        have ivb' : atI ds (0 + (i : Int) + 1) = some (.ref vb) := by rw [Int.zero_add]; exact ivb
        have rvb2 := rvb.same sg2
        (walk_at "vk_vc")
        · have hh : Rq K H' (.ref a) ((qs[i]?.getD 0 + qs[i + 1]?.getD 0) * mkRat 1 2) := h
          have z3 : Sz 3010 ((qs[i]?.getD 0 + qs[i + 1]?.getD 0) * mkRat 1 2) := ((zva.add zvb).mul (by decide +kernel : Sz 2 (mkRat 1 2))).mono (by decide)
          have s3 : Same G2 H' := (by (walk_at "vk_same"))
          refine appGw (R := Rq K) lastsQ (gw2.go lastsQ s3) hh (by omega) fun gw3 fr3 => ?_
          have sg3 : Same G1 (upd H' Dr (HO.lst (us ++ [V.ref va] ++ [V.ref a]))) := fun b o hb => fr3 b o ((sg2.trans s3) b o hb) (fun g => by rw [g, hfp] at hb; cases hb)
          generalize upd H' Dr (HO.lst (us ++ [V.ref va] ++ [V.ref a])) = G3 at gw3 fr3 sg3 ⊢
          refine mk _ _ G3 _ _ _ gw3 sg3 (by rw [List.length_append]; show _ + 1 ≤ _; omega) fun o ho => ?_
          rcases List.mem_append.mp ho with ho | ho
          · exact zs2 o ho
          · rw [List.mem_singleton.mp ho]; exact z3
        all_goals (exfalso; omega)
      · (walk_at "vk_vc")
        all_goals first | (exfalso; omega) | exact mk _ _ G2 _ _ _ gw2 sg2 (by omega) zs2
    · rintro σ G ⟨us, os, k2, k3, k5, rfl, gw, sg, lu, zs⟩
      have hgD := gw.at_
      have hgDa := sg _ _ hD1
      have r9G := r9.same sg
      have lus : us.length + 1 ≤ sizeLine := by omega
      have sgg := gw.same
      (walk_at "vk_vc")
      have hh : Rq K H' (.ref a) (qs[qs.length - 1]?.getD 0 + 1) := h
      have z3 : Sz 3010 (qs[qs.length - 1]?.getD 0 + 1) := (zv9.add zo1).mono (by decide)
      have s3 : Same G H' := (by (walk_at "vk_same"))
      refine z _ _ (os ++ [qs[qs.length - 1]?.getD 0 + 1]) _ ?_ ?_ upd_same (All2.snoc (All2.imp gw.all fun _ _ q => ?_) ?_) fun o ho => ?_
      · (walk_at "vk_vc")
      · exact sameFree ((gw.same.trans s3).trans (same_new (by with_reducible assumption) _)) (by with_reducible assumption)
      · (walk_at "vk_vc")
      · (walk_at "vk_vc")
      · rcases List.mem_append.mp ho with ho | ho
        · exact zs o ho
        · rw [List.mem_singleton.mp ho]; exact z3
end Vk

set_option maxHeartbeats 4000000
namespace Vk
open PySem L2 Vm Vl
/-! ### what a change makes of a course -/
theorem pcAt_first {c : List Pc} (ok : Cok c) {p : Pc} (e : c[0]? = some p) {t : Rat} : pcAt c t = none ↔ t < p.s := by
  constructor
  · intro h
    unfold pcAt at h
    rw [List.getLast?_eq_none_iff] at h
    have := List.filter_eq_nil_iff.mp h p (List.mem_of_getElem? e)
    simpa [on] using this
  · intro g
    exact pcAt_none (place_cut ok (i := 0) (fun j _ h => absurd h (Nat.not_lt_zero j)) e g)
theorem num_le0 {q : Rat} : q.num ≤ 0 ↔ q ≤ 0 := by
  rw [← Rat.not_lt, ← Int.not_lt]
  exact not_congr ⟨pos_of_num, num_pos⟩

theorem split_on {c : List Pc} (ok : Cok c) (t : Rat) : ∃ a b, c = a ++ b ∧ a = c.filter (on t) ∧ (∀ p ∈ a, p.s ≤ t) ∧ (∀ p ∈ b, t < p.s) := by
  refine ⟨c.take (c.filter (on t)).length, c.drop (c.filter (on t)).length, (List.take_append_drop _ _).symm, (on_take ok t).symm, fun p hp => ?_, fun p hp => ?_⟩
  · rw [← on_take ok t] at hp
    have := (List.mem_filter.mp hp).2
    simp [on] at this
    grind
  · refine Rat.not_le.mp fun g => ?_
    obtain ⟨i, hi⟩ := List.mem_iff_getElem?.mp hp
    rw [List.getElem?_drop] at hi
    have e : c.filter (on t) = c.take (c.filter (on t)).length := on_take ok t
    have lt := (List.getElem?_eq_some_iff.mp hi).1
    -- all up to this one are on
    have key : ∀ j q, j < (c.filter (on t)).length + i + 1 → c[j]? = some q → ¬ t < q.s := by
      intro j q hj hq g2
      have : q.s ≤ p.s := by
        by_cases e2 : j = (c.filter (on t)).length + i
        · subst e2; rw [hi] at hq; cases hq; exact Rat.le_refl
        · have := cok_lt ok (show j < (c.filter (on t)).length + i by omega) hq hi; grind
      grind
    have h2 : ((c.take ((c.filter (on t)).length + i + 1)).filter (on t)) = c.take ((c.filter (on t)).length + i + 1) := List.filter_eq_self.mpr fun q hq => by
      obtain ⟨j, hj⟩ := List.mem_iff_getElem?.mp hq
      rw [List.getElem?_take] at hj
      split at hj
      · simp [on, key j q (by assumption) hj]
      · cases hj
    have h3 : ((c.take ((c.filter (on t)).length + i + 1)).filter (on t)).length ≤ (c.filter (on t)).length := ((List.take_sublist _ _).filter _).length_le
    rw [h2, List.length_take] at h3
    omega
theorem ahd_mem {c : List Pc} {t : Rat} {p : Pc} : p ∈ ahd c t ↔ p ∈ c ∧ p.s < t := by
  unfold ahd
  rw [List.mem_filter]
  simp
theorem bhd_mem {c : List Pc} {t q : Rat} {x : Pc} (h : x ∈ bhd c t q) : ∃ p ∈ c, t < p.s ∧ x = ⟨p.s, p.v + q, p.r⟩ := by
  unfold bhd at h
  obtain ⟨p, hp, e⟩ := List.mem_filterMap.mp h
  split at e
  · exact ⟨p, hp, by assumption, (Option.some.inj e).symm⟩
  · cases e
theorem bhd_drop {a b : List Pc} {t q : Rat} (h1 : ∀ p ∈ a, p.s ≤ t) (h2 : ∀ p ∈ b, t < p.s) : bhd (a ++ b) t q = b.map fun p => ⟨p.s, p.v + q, p.r⟩ := by
  unfold bhd
  rw [List.filterMap_append]
  have e1 : a.filterMap (fun p => if t < p.s then some (⟨p.s, p.v + q, p.r⟩ : Pc) else none) = [] := List.filterMap_eq_nil_iff.mpr fun p hp => if_neg (Rat.not_lt.mpr (h1 p hp))
  rw [e1, List.nil_append]
  clear e1
  induction b with
  | nil => rfl
  | cons p b ih =>
    rw [List.filterMap_cons, if_pos (h2 p List.mem_cons_self), ih fun z hz => h2 z (List.mem_cons_of_mem _ hz)]
    rfl
theorem asc_ahd {c : List Pc} (ok : Cok c) (t : Rat) : AscP (ahd c t) := (ascP_of ok).sublist List.filter_sublist
theorem cok_ch {c : List Pc} {t q : Rat} {p : Pc} {sl : Bool} (ok : Cok c) (hp : pcAt c t = some p) (hq : sl = true → 0 < q) : Cok (chL sl c t q p) := by
  have hm := pcAt_mem hp
  cases sl with
  | true =>
    refine cok_of ?_ fun x hx => ?_
    · show AscP (ahd c t ++ [⟨t, vl t p, q⟩])
      refine List.pairwise_append.mpr ⟨asc_ahd ok t, List.pairwise_singleton _ _, fun x hx y hy => ?_⟩
      rw [List.mem_singleton.mp hy]
      exact (ahd_mem.mp hx).2
    · rcases List.mem_append.mp (show x ∈ ahd c t ++ [⟨t, vl t p, q⟩] from hx) with hx | hx
      · exact ok.1 x (ahd_mem.mp hx).1
      · rw [List.mem_singleton.mp hx]; exact hq rfl
  | false =>
    refine cok_of ?_ fun x hx => ?_
    · show AscP (ahd c t ++ [⟨t, vl t p + q, p.r⟩] ++ bhd c t q)
      refine List.pairwise_append.mpr ⟨List.pairwise_append.mpr ⟨asc_ahd ok t, List.pairwise_singleton _ _, fun x hx y hy => ?_⟩, ?_, fun x hx y hy => ?_⟩
      · rw [List.mem_singleton.mp hy]
        exact (ahd_mem.mp hx).2
      · unfold bhd
        refine List.Pairwise.filterMap _ (fun a a' h b hb b' hb' => ?_) (ascP_of ok)
        split at hb
        · split at hb'
          · cases hb; cases hb'; exact h
          · cases hb'
        · cases hb
      · obtain ⟨z, hz, g, rfl⟩ := bhd_mem hy
        rcases List.mem_append.mp hx with hx | hx
        · have := (ahd_mem.mp hx).2
          show x.s < z.s
          grind
        · rw [List.mem_singleton.mp hx]; exact g
    · rcases List.mem_append.mp (show x ∈ ahd c t ++ [⟨t, vl t p + q, p.r⟩] ++ bhd c t q from hx) with hx | hx
      · rcases List.mem_append.mp hx with hx | hx
        · exact ok.1 x (ahd_mem.mp hx).1
        · rw [List.mem_singleton.mp hx]; exact ok.1 p hm
      · obtain ⟨z, hz, g, rfl⟩ := bhd_mem hx
        exact ok.1 z hz
theorem ahd_on {c : List Pc} {t x : Rat} (h : x < t) : (ahd c t).filter (on x) = c.filter (on x) := by
  unfold ahd
  rw [List.filter_filter]
  refine List.filter_congr fun p _ => ?_
  unfold on
  by_cases g : x < p.s
  · simp [g]
  · have : p.s < t := by grind
    simp [g, this]
theorem ahd_all {c : List Pc} {t x : Rat} (h : t ≤ x) : (ahd c t).filter (on x) = ahd c t := List.filter_eq_self.mpr fun p hp => by
  have := (ahd_mem.mp hp).2
  have : ¬ x < p.s := by grind
  simp [on, this]
theorem off {x t v r : Rat} (h : x < t) : on x ⟨t, v, r⟩ = false := by simp [on, h]
theorem on_ {x t v r : Rat} (h : t ≤ x) : on x ⟨t, v, r⟩ = true := by
  have : ¬ x < t := by grind
  simp [on, this]
/-- what a change shows ahead of its time -/
theorem now_ch_before {c : List Pc} {t q x : Rat} {p : Pc} {sl : Bool} (h : x < t) : nowf (chL sl c t q p) x = nowf c x := by
  unfold nowf
  congr 2
  cases sl with
  | true =>
    show (ahd c t ++ [(⟨t, vl t p, q⟩ : Pc)]).filter (on x) = _
    rw [List.filter_append, ahd_on h, List.filter_cons, off h]
    simp
  | false =>
    show (ahd c t ++ [(⟨t, vl t p + q, p.r⟩ : Pc)] ++ bhd c t q).filter (on x) = _
    rw [List.filter_append, List.filter_append, ahd_on h, List.filter_cons, off h]
    have : (bhd c t q).filter (on x) = [] := List.filter_eq_nil_iff.mpr fun y hy => by
      obtain ⟨z, hz, g, rfl⟩ := bhd_mem hy
      have : x < z.s := by grind
      simp [on, this]
    rw [this]
    simp
/-- a slewed course from its time on -/
theorem now_slew {c : List Pc} {t q x : Rat} {p : Pc} (h : t ≤ x) : nowf (chL true c t q p) x = some (vl t p + q * (x - t)) := by
  unfold nowf
  show ((ahd c t ++ [(⟨t, vl t p, q⟩ : Pc)]).filter (on x)).getLast?.map _ = _
  rw [List.filter_append, List.filter_cons, on_ h]
  simp
/-- a stepped course from its time on -/
theorem now_step {c : List Pc} {t q x : Rat} {p : Pc} (ok : Cok c) (hp : pcAt c t = some p) (h : t ≤ x) : nowf (chL false c t q p) x = (nowf c x).map (· + q) := by
  obtain ⟨a, b, rfl, ea, ha, hb⟩ := split_on ok t
  have eb : bhd (a ++ b) t q = b.map fun p => ⟨p.s, p.v + q, p.r⟩ := bhd_drop ha hb
  have hl : a.getLast? = some p := by rw [ea]; exact hp
  have ex : (a ++ b).filter (on x) = a ++ b.filter (on x) := by
    rw [List.filter_append]
    congr 1
    exact List.filter_eq_self.mpr fun z hz => by
      have := ha z hz
      have : ¬ x < z.s := by grind
      simp [on, this]
  unfold nowf
  show ((ahd (a ++ b) t ++ [(⟨t, vl t p + q, p.r⟩ : Pc)] ++ bhd (a ++ b) t q).filter (on x)).getLast?.map _ = _
  rw [List.filter_append, List.filter_append, ahd_all h, List.filter_cons, on_ h, eb, ex]
  have em : (b.map fun p => (⟨p.s, p.v + q, p.r⟩ : Pc)).filter (on x) = (b.filter (on x)).map fun p => ⟨p.s, p.v + q, p.r⟩ := by
    rw [List.filter_map]
    rfl
  rw [em]
  cases e : (b.filter (on x)).getLast? with
  | none =>
    rw [List.getLast?_eq_none_iff] at e
    rw [e]
    simp [hl, vl]
    grind
  | some z =>
    have e1 : ((b.filter (on x)).map fun p => (⟨p.s, p.v + q, p.r⟩ : Pc)).getLast? = some ⟨z.s, z.v + q, z.r⟩ := by rw [List.getLast?_map, e]; rfl
    have e2 : (a ++ b.filter (on x)).getLast? = some z := by rw [List.getLast?_append, e]; rfl
    rw [e2, List.getLast?_append, e1]
    simp
    grind
theorem first_ch {c : List Pc} {t q : Rat} {p pf : Pc} {sl : Bool} (ok : Cok c) (e0 : c[0]? = some pf) (hp : pcAt c t = some p) : ∃ r, (tl (chL sl c t q p))[0]? = some r ∧ r.s = pf.s := by
  have hd : ∀ L : List Pc, (tl L)[0]? = L[0]? := fun L => by cases L <;> rfl
  rw [hd]
  have nlt : ¬ t < pf.s := fun g => by rw [(pcAt_first ok e0).mpr g] at hp; cases hp
  have hs : ∀ (v r : Rat) (d : List Pc), ∃ x, (ahd c t ++ [⟨t, v, r⟩] ++ d)[0]? = some x ∧ x.s = pf.s := fun v r d => by
    cases c with
    | nil => simp at e0
    | cons p0 c =>
      simp at e0
      subst e0
      by_cases g : p0.s < t
      · refine ⟨p0, ?_, rfl⟩
        unfold ahd
        rw [List.filter_cons, if_pos (by simp [g])]
        rfl
      · have : ahd (p0 :: c) t = [] := List.filter_eq_nil_iff.mpr fun z hz => by
          have : p0.s ≤ z.s := by
            rcases List.mem_cons.mp hz with rfl | hz
            · exact Rat.le_refl
            · have := (List.pairwise_cons.mp (ascP_of ok)).1 z hz; grind
          have : ¬ z.s < t := by grind
          simp [this]
        rw [this]
        exact ⟨_, rfl, by show t = p0.s; grind⟩
  cases sl with
  | true => have := hs (vl t p) q []; rw [List.append_nil] at this; exact this
  | false => exact hs _ _ _
theorem len_ch {c : List Pc} {t q : Rat} {p : Pc} {sl : Bool} : 1 ≤ (chL sl c t q p).length ∧ (chL sl c t q p).length ≤ 2 * c.length + 1 := by
  have h1 : (ahd c t).length ≤ c.length := List.length_filter_le _ _
  have h2 : (bhd c t q).length ≤ c.length := List.length_filterMap_le _ _
  cases sl with
  | true => show 1 ≤ (ahd c t ++ [_]).length ∧ (ahd c t ++ [_]).length ≤ _; rw [List.length_append]; show 1 ≤ _ + 1 ∧ _ + 1 ≤ _; omega
  | false => show 1 ≤ (ahd c t ++ [_] ++ bhd c t q).length ∧ (ahd c t ++ [_] ++ bhd c t q).length ≤ _; rw [List.length_append, List.length_append]; show 1 ≤ _ + 1 + _ ∧ _ + 1 + _ ≤ _; omega
theorem last_slew {c : List Pc} {t q : Rat} {p x : Pc} (h : x ∈ chL true c t q p) : x.s ≤ t := by
  rcases List.mem_append.mp (show x ∈ ahd c t ++ [⟨t, vl t p, q⟩] from h) with h | h
  · have := (ahd_mem.mp h).2; grind
  · rw [List.mem_singleton.mp h]; exact Rat.le_refl
end Vk

set_option maxHeartbeats 4000000
namespace Vk
open PySem L2 Vm Vl
variable {l aZERO aONE CB CR CV fB fR : Addr} {P : Program} {w : World} {K : PySem.W.Frag} {mg : Str → Option Value} {base : Heap} {k : Nat} {f f1 f2 f3 f4 f5 f6 f7 f8 f9 : Addr} {fd fd1 fd2 fd3 fd4 fd5 fd6 fd7 fd8 fd9 : FuncData}
abbrev s__law_is_tidy : Stmt := top 54
abbrev N__law_is_tidy : List Str := ["_law_course_here", "_law_k", "_law_before", "_law_coming"]
theorem sc__law_is_tidy : FnScope N__law_is_tidy ["_law_course_here"] (defScope s__law_is_tidy) := ⟨rfl, rfl, rfl, by decide +kernel, rfl, by decide +kernel, by decide +kernel⟩
abbrev ps__law_is_tidy : List Str := ["_law_course_here"]
def spIsT (K : PySem.W.Frag) : Sp := fun vs H Q _ => ∃ (ac : Addr) (c : List Pc) (i j l : Nat), vs = [.ref ac] ∧ Cq K H ac c ∧ Cz i j l c ∧ c.length ≤ 900 ∧ i + i + j + l + 5 ≤ 8000 ∧ (∀ (n : Nat) (p q : Pc), c[n]? = some p → c[n + 1]? = some q → ky q ≠ ky p) ∧ ∀ H', Same H H' → Q (.bl true) H'
theorem ok_is_tidy (T : Bn mg) (F : Fn K mg "_law_is_tidy" s__law_is_tidy ps__law_is_tidy f fd) (d_law_plus : Def P w K mg base k "_law_plus" ["_law_a", "_law_b"] (spOp2 K (· + ·)) f1 fd1) (d_law_times : Def P w K mg base k "_law_times" ["_law_a", "_law_b"] (spOp2 K (· * ·)) f2 fd2) (d_law_minus : Def P w K mg base k "_law_minus" ["_law_a", "_law_b"] (spOp2 K (· - ·)) f3 fd3) :
    Def P w K mg base (k + 1) "_law_is_tidy" ps__law_is_tidy (spIsT K) f fd := by
  refine ⟨F.F.ok sc__law_is_tidy (fun vs H Q E h => ?_) (fun cdv A outer s H vs Q E hr h => ?_), F.m, F.F.kp, F.b⟩
  · obtain ⟨_, _, _, _, _, rfl, _⟩ := h
    rfl
  obtain ⟨ac, c, i0, j0, l0, rfl, hC, cz, hl, hb, ht, z⟩ := h
  obtain ⟨xs, hxs, hc⟩ := id hC
  have hxl := hc.1
  refine ⟨_, (pss_cons (ps_for PassesOwn.never rfl (pi_range2 (by rfl) T.range_ (pa_cons pe_int (pa_cons (pe_callB call_len_seq (by rfl) T.len_ PySem.boot_len (pa_cons (pv 0) pa_nil)) pa_nil))) (pg_name (i := 1) sc__law_is_tidy.nd rfl (Or.inl rfl))
        (pss_cons (ps_set (i := 2) sc__law_is_tidy.nd rfl (Or.inl rfl) (pe_ix ix_list (pv 0) (pe_op op_sub (pv 1) pe_int) (fun _ _ => rfl)))
        (pss_cons (ps_set (i := 3) sc__law_is_tidy.nd rfl (Or.inl rfl) (pcall d_law_plus hr (pa_cons (pe_ix ix_tup (pv 2) pe_int (fun _ _ => rfl)) (pa_cons (pcall d_law_times hr (pa_cons (pe_ix ix_tup (pv 2) pe_int (fun _ _ => rfl)) (pa_cons (pcall d_law_minus hr (pa_cons (pe_ix ix_tup (pe_ix ix_list (pv 0) (pv 1) (fun _ _ => rfl)) pe_int (fun _ _ => rfl)) (pa_cons (pe_ix ix_tup (pv 2) pe_int (fun _ _ => rfl)) pa_nil))) pa_nil))) pa_nil))))
        (pss_one (ps_if (PW.pt (pw_and (pt_cmpR (op_eqD hr.units) (pe_ix ix_tup (pe_ix ix_list (pv 0) (pv 1) (fun _ _ => rfl)) pe_int (fun _ _ => rfl)) (pe_ix ix_tup (pv 2) pe_int (fun _ _ => rfl)) (nomark _)) (pw_and1 (pt_cmpR (op_eqD hr.units) (pv 3) (pe_ix ix_tup (pe_ix ix_list (pv 0) (pv 1) (fun _ _ => rfl)) pe_int (fun _ _ => rfl)) (nomark _)))))
          (pss_one (ps_ret pe_bl))
          pss_nil)))))
      (pss_one (ps_ret pe_bl))), ?_⟩
  have p62 : (2 : Int) ^ 62 = 4611686018427387904 := by decide
  (walk_at "vk_vc")
  refine forR (lo := 1) (n := (((xs.length : Nat) : Int) - 1).toNat) (fun i σ G => Hold (∃ k1 k2 k3, σ = [some (.ref ac), k1, k2, k3] ∧ Same H G)) ⟨none, none, none, rfl, Same.refl _⟩ ?_ ?_
  · rintro i σ G hi ⟨k1, k2, k3, rfl, sg⟩
    have hi1 : i + 1 < c.length := by omega
    have ep : c[i]? = some c[i] := List.getElem?_eq_getElem (by omega)
    have eq : c[i + 1]? = some c[i + 1] := List.getElem?_eq_getElem hi1
    have nk := ht i _ _ ep eq
    obtain ⟨x1, hx1, pp⟩ := hc.at ep
    obtain ⟨x2, hx2, pq⟩ := hc.at eq
    obtain ⟨zs1, zv1, zr1⟩ := cz _ (List.mem_of_getElem? ep)
    obtain ⟨zs2, zv2, zr2⟩ := cz _ (List.mem_of_getElem? eq)
    obtain ⟨d1, ds1, dv1, dr1, rfl, hd1, r11, r12, r13⟩ := pp.same sg
    obtain ⟨d2, ds2, dv2, dr2, rfl, hd2, r21, r22, r23⟩ := pq.same sg
    generalize c[i] = pa at ep nk r11 r12 r13 zs1 zv1 zr1
    generalize c[i + 1] = pb at eq nk r21 r22 r23 zs2 zv2 zr2
    have hxg := sg.seq hxs
    have i1 : atI xs (1 + (i : Int) - 1) = some (.ref d1) := at_of (j := i) (by omega) hx1
    have i2 : atI xs (1 + (i : Int)) = some (.ref d2) := at_of (j := i + 1) (by omega) hx2
    (walk_at "vk_vc")
    · exfalso
      rename pb.r = pa.r => g1
      refine nk (ky_eq.mpr ⟨g1, ?_⟩)
      rw [← jmp_at]
      grind
    all_goals exact ⟨⟨_, _, _, rfl, (by (walk_at "vk_same"))⟩⟩
  · rintro σ G ⟨k1, k2, k3, rfl, sg⟩
    exact z _ sg
/-- the sizes that the law's courses keep -/
structure Bd (i j l m n : Nat) : Prop where
  i : i ≤ 300
  j : j ≤ 3000
  l : l ≤ 45
  m : m ≤ 300
  n : n ≤ 2500
theorem sz_nowf' {c : List Pc} {i j l m : Nat} {x a : Rat} (cz : Cz i j l c) (zx : Sz m x) (h : nowf c x = some a) (b1 : i ≤ 300) (b2 : j ≤ 3000) (b3 : l ≤ 45) : Sz (m + 3360) a := by
  unfold nowf at h
  obtain ⟨p, hp, rfl⟩ := Option.map_eq_some_iff.mp h
  have hm := (List.mem_filter.mp (List.mem_of_getLast? hp)).1
  obtain ⟨z1, z2, z3⟩ := cz p hm
  exact (z2.add (z3.mul (zx.sub z1))).mono (by omega)
theorem sz_nowf {c : List Pc} {i j l : Nat} {x a : Rat} (cz : Cz i j l c) (zx : Sz 300 x) (h : nowf c x = some a) (b1 : i ≤ 300) (b2 : j ≤ 3000) (b3 : l ≤ 45) : Sz 3700 a := (sz_nowf' cz zx h b1 b2 b3).mono (by omega)
abbrev s__law_right : Stmt := top 56
abbrev N__law_right : List Str := ["_law_course_here", "_law_t", "_law_by", "_law_slews", "_law_told_here", "_law_there", "_law_one", "_law_piece", "_law_due"]
theorem sc__law_right : FnScope N__law_right ["_law_course_here", "_law_t", "_law_by", "_law_slews", "_law_told_here"] (defScope s__law_right) := ⟨rfl, rfl, rfl, by decide +kernel, rfl, by decide +kernel, by decide +kernel⟩
abbrev ps__law_right : List Str := ["_law_course_here", "_law_t", "_law_by", "_law_slews", "_law_told_here"]
def spRight (K : PySem.W.Frag) : Sp := fun vs H Q _ => ∃ (ac : Addr) (y u : V) (sl : Bool) (tt : Addr) (xs : List V) (c : List Pc) (t q : Rat) (i j l m n : Nat), vs = [.ref ac, y, u, .bl sl, .ref tt] ∧ Ct K H ac xs c ∧ Rq K H y t ∧ Rq K H u q ∧ Cz i j l c ∧ Sz m t ∧ Sz n q ∧ Bd i j l m n ∧ (sl = true → n ≤ 1900) ∧ Cok c ∧ 1 ≤ c.length ∧ c.length ≤ 60 ∧
  ((pcAt c t = none ∧ SqT K H tt [.str "BeforeStart", y]) ∨ ((∃ p, pcAt c t = some p) ∧ sl = true ∧ q ≤ 0 ∧ SqT K H tt [.str "BadRate", u]) ∨
    (∃ (p : Pc) (D : Addr) (us : List V) (i' j' l' : Nat), pcAt c t = some p ∧ (sl = true → 0 < q) ∧ SqT K H tt [.str "is", .ref D] ∧ Ct K H D us (tl (chL sl c t q p)) ∧ Cz i' j' l' (chL sl c t q p) ∧ i' ≤ 300 ∧ j' ≤ 4500 ∧ l' ≤ 45)) ∧
  ∀ H', Same H H' → Q (.bl true) H'
theorem ok_right (T : Bn mg) (F : Fn K mg "_law_right" s__law_right ps__law_right f fd) (d_law_below : Def P w K mg base k "_law_below" ["_law_a", "_law_b"] (spTest2 K fun p q => .bl (decide (p < q))) f1 fd1) (d_law_same : Def P w K mg base k "_law_same" ["_law_value", "_law_due"] (spSame K 2) f2 fd2)
    (d_law_is_course : Def P w K mg base k "_law_is_course" ["_law_value"] (spIsC K) f3 fd3) (d_law_is_tidy : Def P w K mg base k "_law_is_tidy" ["_law_course_here"] (spIsT K) f4 fd4) (d_law_now : Def P w K mg base k "_law_now" ["_law_course_here", "_law_t"] (spNow K) f5 fd5) (d_law_probes : Def P w K mg base k "_law_probes" ["_law_spans"] (spPrb K) f6 fd6)
    (d_law_plus : Def P w K mg base k "_law_plus" ["_law_a", "_law_b"] (spOp2 K (· + ·)) f7 fd7) (d_law_times : Def P w K mg base k "_law_times" ["_law_a", "_law_b"] (spOp2 K (· * ·)) f8 fd8) (d_law_minus : Def P w K mg base k "_law_minus" ["_law_a", "_law_b"] (spOp2 K (· - ·)) f9 fd9) :
    Def P w K mg base (k + 1) "_law_right" ps__law_right (spRight K) f fd := by
  refine ⟨F.F.ok sc__law_right (fun vs H Q E h => ?_) (fun cdv A outer s H vs Q E hr h => ?_), F.m, F.F.kp, F.b⟩
  · obtain ⟨_, _, _, _, _, _, _, _, _, _, _, _, _, _, rfl, _⟩ := h
    rfl
  obtain ⟨ac, y, u, sl, tt, xs, c, t, q, i0, j0, l0, m, n, rfl, hT, hy, hu, cz, zt, zq, bd, bn, ok, l1, l2, cs, z⟩ := h
  have hraw := hT.1
  have hc := hT.2
  have hxs : SqL K H ac xs := SqL.of hraw
  have hC : Cq K H ac c := hT.cq
  obtain ⟨ya, rfl, hya⟩ := id hy
  obtain ⟨ua, rfl, hua⟩ := id hu
  have e0 : c[0]? = some c[0] := List.getElem?_eq_getElem (by omega)
  obtain ⟨x0, hx0, p0⟩ := hc.at e0
  obtain ⟨d0, ds0, dv0, dr0, rfl, hd0, r01, r02, r03⟩ := id p0
  obtain ⟨zs0, zv0, zr0⟩ := cz _ (List.mem_of_getElem? e0)
  have first := pcAt_first ok e0 (t := t)
  generalize c[0] = pf at e0 p0 r01 r02 r03 zs0 zv0 zr0 first
  have i0x : atI xs 0 = some (.ref d0) := at0 hx0
  obtain ⟨b1, b2, b3, b4, b5⟩ := bd
  have nz : q.num ≤ 0 ↔ q ≤ 0 := num_le0
  refine ⟨_, (pss_cons (ps_if (pt_val (pcall d_law_below hr (pa_cons (pv 1) (pa_cons (pe_ix ix_tup (pe_ix ix_list (pv 0) pe_int (fun _ _ => rfl)) pe_int (fun _ _ => rfl)) pa_nil))))
        (pss_one (ps_ret (pcall d_law_same hr (pa_cons (pv 4) (pa_cons (pe_tup (pa_cons pe_str (pa_cons (pv 1) pa_nil))) pa_nil)))))
        pss_nil)
      (pss_cons (ps_if (PW.pt (pw_and (pt_val (pv 3)) (pw_and1 (pt_cmpR op_le (pe_ix ix_tup (pv 2) pe_int (fun _ _ => rfl)) pe_int (nomark _)))))
        (pss_one (ps_ret (pcall d_law_same hr (pa_cons (pv 4) (pa_cons (pe_tup (pa_cons pe_str (pa_cons (pv 2) pa_nil))) pa_nil)))))
        pss_nil)
      (pss_cons (ps_if (PW.pt (pw_or (pt_cmpR (op_neD hr.units) (pe_ix ix_tup (pv 4) pe_int (fun _ _ => rfl)) pe_str (nomark _)) (pw_or (pt_not (pt_val (pcall d_law_is_course hr (pa_cons (pe_ix ix_tup (pv 4) pe_int (fun _ _ => rfl)) pa_nil)))) (pw_or1 (pt_not (pt_val (pcall d_law_is_tidy hr (pa_cons (pe_ix ix_tup (pv 4) pe_int (fun _ _ => rfl)) pa_nil))))))))
        (pss_one (ps_ret pe_bl))
        pss_nil)
      (pss_cons (ps_if (PW.pt (pw_or (pt_cmpR (op_neD hr.units) (pe_ix ix_tup (pe_ix ix_list (pe_ix ix_tup (pv 4) pe_int (fun _ _ => rfl)) pe_int (fun _ _ => rfl)) pe_int (fun _ _ => rfl)) (pe_ix ix_tup (pe_ix ix_list (pv 0) pe_int (fun _ _ => rfl)) pe_int (fun _ _ => rfl)) (nomark _)) (pw_or1 (PW.pt (pw_and (pt_val (pv 3)) (pw_and1 (pt_val (pcall d_law_below hr (pa_cons (pv 1) (pa_cons (pe_ix ix_tup (pe_ix ix_list (pe_ix ix_tup (pv 4) pe_int (fun _ _ => rfl)) (pe_op op_sub (pe_callB call_len_seq (by rfl) T.len_ PySem.boot_len (pa_cons (pe_ix ix_tup (pv 4) pe_int (fun _ _ => rfl)) pa_nil)) pe_int) (fun _ _ => rfl)) pe_int (fun _ _ => rfl)) pa_nil))))))))))
        (pss_one (ps_ret pe_bl))
        pss_nil)
      (pss_cons (ps_set (i := 5) sc__law_right.nd rfl (Or.inl rfl) (pcall d_law_now hr (pa_cons (pv 0) (pa_cons (pv 1) pa_nil))))
      (pss_cons (ps_for PassesOwn.never rfl (pi_list (pcall d_law_probes hr (pa_cons (pe_lc (own := [("_law_piece", 7)]) (g := gName 7) (tt := tYes) rfl sc__law_right.nd (pi_list (pe_op op_cat (pv 0) (pe_ix ix_tup (pv 4) pe_int (fun _ _ => rfl)))) (blkOk_by (N := N__law_right) (sc := defScope s__law_right) (by decide +kernel)) (fun _ _ _ _ _ => pg_name (i := 7) sc__law_right.nd rfl (Or.inl rfl)) (fun _ _ _ _ _ => pts_nil) (fun _ _ _ _ _ => (pe_tup (pa_cons (pe_ix (show IxR _ (rIxT K) from ix_tup) (pv 7) pe_int (fun _ _ => rfl)) (pa_cons (pv 1) pa_nil))))) pa_nil))) (pg_name (i := 6) sc__law_right.nd rfl (Or.inl rfl))
        (pss_cons (ps_set (i := 8) sc__law_right.nd rfl (Or.inl rfl) (pcall d_law_now hr (pa_cons (pv 0) (pa_cons (pv 6) pa_nil))))
        (pss_cons (ps_if (pt_not (pt_val (pcall d_law_below hr (pa_cons (pv 6) (pa_cons (pv 1) pa_nil)))))
          (pss_one (ps_set (i := 8) sc__law_right.nd rfl (Or.inl rfl) (pe_ifExp (pt_val (pv 3)) (pcall d_law_plus hr (pa_cons (pv 5) (pa_cons (pcall d_law_times hr (pa_cons (pv 2) (pa_cons (pcall d_law_minus hr (pa_cons (pv 6) (pa_cons (pv 1) pa_nil))) pa_nil))) pa_nil))) (pcall d_law_plus hr (pa_cons (pv 8) (pa_cons (pv 2) pa_nil))))))
          pss_nil)
        (pss_one (ps_if (pt_cmpR (op_neD hr.units) (pcall d_law_now hr (pa_cons (pe_ix ix_tup (pv 4) pe_int (fun _ _ => rfl)) (pa_cons (pv 6) pa_nil))) (pv 8) (nomark _))
          (pss_one (ps_ret pe_bl))
          pss_nil)))))
      (pss_one (ps_ret pe_bl)))))))), ?_⟩
  rcases cs with ⟨hn, htt⟩ | ⟨⟨p, hp⟩, rfl, hq, htt⟩ | ⟨pcx, D, us, i', j', l', hp, hq, htt, hD, cz', c1, c2, c3⟩
  · have lt : t < pf.s := first.mp hn
    (walk_at "vk_vc")
    exact z _ (by (walk_at "vk_same"))
  · have nlt : ¬ t < pf.s := fun g => by rw [first.mpr g] at hp; cases hp
    have nq := nz.mpr hq
    (walk_at "vk_vc")
    exact z _ (by (walk_at "vk_same"))
  · have nlt : ¬ t < pf.s := fun g => by rw [first.mpr g] at hp; cases hp
    have okL : Cok (chL sl c t q pcx) := cok_ch ok hp hq
    have okT := cok_tl okL
    have czT : Cz i' j' l' (tl (chL sl c t q pcx)) := cz_tl cz'
    have ln := len_ch (c := c) (t := t) (q := q) (p := pcx) (sl := sl)
    have lnT : 1 ≤ (tl (chL sl c t q pcx)).length := tl_pos (by omega)
    have lnU : (tl (chL sl c t q pcx)).length ≤ 121 := by have := (tl_sub (chL sl c t q pcx)).length_le; omega
    have hDq : Cq K H D (tl (chL sl c t q pcx)) := hD.cq
    have hDr := hD.1
    have hDc := hD.2
    have hDx : SqL K H D us := SqL.of hDr
    have hDl : us.length = (tl (chL sl c t q pcx)).length := hDc.1
    have tidyT : ∀ (n : Nat) (p' q' : Pc), (tl (chL sl c t q pcx))[n]? = some p' → (tl (chL sl c t q pcx))[n + 1]? = some q' → ky q' ≠ ky p' := fun n p' q' h1 h2 g => by
      have := goes_tl (chL sl c t q pcx) (n + 1)
      rw [goes_at h1 h2, decide_eq_true g] at this
      cases this
    obtain ⟨r, hr0, hrs⟩ := first_ch (sl := sl) (q := q) ok e0 hp
    obtain ⟨y0, hy0, py0⟩ := hDc.at hr0
    obtain ⟨dr, drs, drv, drr, rfl, hdr, q01, q02, q03⟩ := id py0
    have i0u : atI us 0 = some (.ref dr) := at0 hy0
    have lastx : ∃ (dl dls dlv dlr : V) (x : Pc), True := ⟨.non, .non, .non, .non, pf, trivial⟩
    have hll : (tl (chL sl c t q pcx)).length - 1 < (tl (chL sl c t q pcx)).length := by omega
    obtain ⟨xl, hxl⟩ : ∃ xl, (tl (chL sl c t q pcx))[(tl (chL sl c t q pcx)).length - 1]? = some xl := ⟨_, List.getElem?_eq_getElem hll⟩
    obtain ⟨yl, hyl, pyl⟩ := hDc.at hxl
    obtain ⟨dl, dls, dlv, dlr, rfl, hdl, s01, s02, s03⟩ := id pyl
    have ilu : atI us ((us.length : Int) - 1) = some (.ref dl) := at_of (j := (tl (chL sl c t q pcx)).length - 1) (by omega) hyl
    obtain ⟨zl1, zl2, zl3⟩ := czT xl (List.mem_of_getElem? hxl)
    have zqn : sl = true → ¬ q.num ≤ 0 := fun g h => by have := hq g; have := nz.mp h; grind
    have lastle : sl = true → ¬ t < xl.s := fun g => by
      subst g
      have := last_slew ((tl_sub _).subset (List.mem_of_getElem? hxl))
      grind
    have hth : nowf c t = some (vl t pcx) := by rw [now_pc, hp]; rfl
    have hxt : ∀ x, ¬ x < t → nowf (tl (chL sl c t q pcx)) x = if sl = true then some (vl t pcx + q * (x - t)) else (nowf c x).map (· + q) := fun x hx => by
      rw [now_tl okL]
      cases sl with
      | true => exact now_slew (by grind)
      | false => exact now_step ok hp (by grind)
    have hxb : ∀ x, x < t → nowf (tl (chL sl c t q pcx)) x = nowf c x := fun x hx => by
      rw [now_tl okL]
      exact now_ch_before hx
    have hcl := hc.1
    have hsz : sizeLine = 16777216 := sizeLine_eq
    have szL : xs.length + us.length ≤ sizeLine := by omega
    generalize tl (chL sl c t q pcx) = L at *
    have zps : ∀ s ∈ (c ++ L).filterMap (fun p => some (p.s, t)), Sz 1500 s.1 ∧ Sz 1500 s.2 := fun s hs => by
      obtain ⟨z, hz, e⟩ := List.mem_filterMap.mp hs
      cases e
      refine ⟨?_, zt.mono (by omega)⟩
      rcases List.mem_append.mp hz with hz | hz
      · exact (cz z hz).1.mono (by omega)
      · exact (czT z hz).1.mono (by omega)
    have lps : ((c ++ L).filterMap (fun p => some (p.s, t))).length = c.length + L.length := by
      have : ∀ l : List Pc, (l.filterMap (fun p => some (p.s, t))).length = l.length := fun l => by induction l with
        | nil => rfl
        | cons a l ih => rw [List.filterMap_cons]; simp [ih]
      rw [this, List.length_append]
    have sm : ∀ x, ¬ x < t → ∃ w, nowf c x = some w := fun x hx => by
      cases g : nowf c x with
      | some w => exact ⟨w, rfl⟩
      | none =>
        rw [now_pc] at g
        have := (pcAt_first ok e0 (t := x)).mp (Option.map_eq_none_iff.mp g)
        grind
    cases sl with
    | true =>
      have nq := zqn rfl
      have bn' := bn rfl
      have nlast := lastle rfl
      (walk_at "vk_vc")
      refine lcAll (R := Pq K) (R' := Tq K) lastsT (fun p => some (p.s, t)) np (SqL.of upd_same) (c := c ++ L) (All2.append (All2.imp hc fun _ _ q => ?_) (All2.imp hDc fun _ _ q => ?_)) (by rw [List.length_append]; omega) ?_ ?_
      · (walk_at "vk_vc")
      · (walk_at "vk_vc")
      · intro j y pp G ec pq s1 Y N hY hN
        obtain ⟨qa, qs, qv, qr, rfl, hqa, g1, g2, g3⟩ := pq.same s1
        obtain ⟨qsa, rfl, hqsa⟩ := id g1
        (walk_at "vk_vc")
        refine hY _ _ (pp.s, t) (same_new np _) rfl ?_
        unfold Tq
        (walk_at "vk_vc")
      · intro ts G s1 hG hA
        have hA' : All2 (Tq K G) ts ((c ++ L).filterMap fun p => some (p.s, t)) := hA
        have hGx : SqL K G _ ts := SqL.of hG
        have lts : 1 ≤ ((c ++ L).filterMap fun p => some (p.s, t)).length := by omega
        have lts2 : ((c ++ L).filterMap fun p => some (p.s, t)).length ≤ 200 := by omega
        clear cz'
        (walk_at "vk_vc")
        intro Ea es os G2 f2 hE hEr hA2 zo
        have hEx : SqL K G2 Ea es := SqL.of hEr
        (walk_at "vk_vc")
        refine forL (K := K) (a := Ea) (xs := es) (fun i σ G' => Hold (∃ k6 k7 k8, σ = [some (.ref ac), some (.ref ya), some (.ref ua), some (.bl true), some (.ref tt), some v, k6, k7, k8] ∧ Same G2 G')) ⟨_, _, _, rfl, Same.refl _⟩ (fun i σ G' _ h => by obtain ⟨_, _, _, _, s1⟩ := h; exact s1.seq hEx) ?_ ?_
        · rintro i x σ G3 hx ⟨k6, k7, k8, rfl, f3⟩
          have hi : i < os.length := by have := (List.getElem?_eq_some_iff.mp hx).1; rw [hA2.1] at this; exact this
          have eo : os[i]? = some os[i] := List.getElem?_eq_getElem hi
          have zx := zo _ (List.getElem_mem hi)
          have rx := (hA2.2 i x _ hx eo).same f3
          generalize os[i] = o at eo zx rx
          obtain ⟨xa, rfl, hxa⟩ := id rx
          by_cases gx : o < t
          · have eqx := hxb o gx
            (walk_at "vk_vc")
            all_goals first | exact ⟨⟨_, _, _, rfl, (by (walk_at "vk_same"))⟩⟩
          · obtain ⟨w0, hw0⟩ := sm o gx
            have eqx : nowf L o = some (vl t pcx + q * (o - t)) := hxt o gx
            have zth : Sz 3700 (vl t pcx) := sz_nowf cz (zt.mono (by omega : m ≤ 300)) hth b1 b2 b3
            (walk_at "vk_vc")
            all_goals first | exact ⟨⟨_, _, _, rfl, (by (walk_at "vk_same"))⟩⟩
        · rintro σ G3 ⟨k6, k7, k8, rfl, f3⟩
          exact z _ (Same.trans (by (walk_at "vk_same")) f3)
    | false =>
      (walk_at "vk_vc")
      refine lcAll (R := Pq K) (R' := Tq K) lastsT (fun p => some (p.s, t)) np (SqL.of upd_same) (c := c ++ L) (All2.append (All2.imp hc fun _ _ q => ?_) (All2.imp hDc fun _ _ q => ?_)) (by rw [List.length_append]; omega) ?_ ?_
      · (walk_at "vk_vc")
      · (walk_at "vk_vc")
      · intro j y pp G ec pq s1 Y N hY hN
        obtain ⟨qa, qs, qv, qr, rfl, hqa, g1, g2, g3⟩ := pq.same s1
        obtain ⟨qsa, rfl, hqsa⟩ := id g1
        (walk_at "vk_vc")
        refine hY _ _ (pp.s, t) (same_new np _) rfl ?_
        unfold Tq
        (walk_at "vk_vc")
      · intro ts G s1 hG hA
        have hA' : All2 (Tq K G) ts ((c ++ L).filterMap fun p => some (p.s, t)) := hA
        have hGx : SqL K G _ ts := SqL.of hG
        have lts : 1 ≤ ((c ++ L).filterMap fun p => some (p.s, t)).length := by omega
        have lts2 : ((c ++ L).filterMap fun p => some (p.s, t)).length ≤ 200 := by omega
        clear cz'
        (walk_at "vk_vc")
        intro Ea es os G2 f2 hE hEr hA2 zo
        have hEx : SqL K G2 Ea es := SqL.of hEr
        (walk_at "vk_vc")
        refine forL (K := K) (a := Ea) (xs := es) (fun i σ G' => Hold (∃ k6 k7 k8, σ = [some (.ref ac), some (.ref ya), some (.ref ua), some (.bl false), some (.ref tt), some v, k6, k7, k8] ∧ Same G2 G')) ⟨_, _, _, rfl, Same.refl _⟩ (fun i σ G' _ h => by obtain ⟨_, _, _, _, s1⟩ := h; exact s1.seq hEx) ?_ ?_
        · rintro i x σ G3 hx ⟨k6, k7, k8, rfl, f3⟩
          have hi : i < os.length := by have := (List.getElem?_eq_some_iff.mp hx).1; rw [hA2.1] at this; exact this
          have eo : os[i]? = some os[i] := List.getElem?_eq_getElem hi
          have zx := zo _ (List.getElem_mem hi)
          have rx := (hA2.2 i x _ hx eo).same f3
          generalize os[i] = o at eo zx rx
          obtain ⟨xa, rfl, hxa⟩ := id rx
          by_cases gx : o < t
          · have eqx := hxb o gx
            (walk_at "vk_vc")
            all_goals first | exact ⟨⟨_, _, _, rfl, (by (walk_at "vk_same"))⟩⟩
          · obtain ⟨w0, hw0⟩ := sm o gx
            have eqx : nowf L o = some (w0 + q) := by have := hxt o gx; rw [hw0] at this; exact this
            have zw0 : Sz 6380 w0 := (sz_nowf' cz zx hw0 b1 b2 b3).mono (by omega)
            (walk_at "vk_vc")
            all_goals first | exact ⟨⟨_, _, _, rfl, (by (walk_at "vk_same"))⟩⟩
        · rintro σ G3 ⟨k6, k7, k8, rfl, f3⟩
          exact z _ (Same.trans (by (walk_at "vk_same")) f3)
end Vk

set_option maxHeartbeats 4000000
namespace Vk
open PySem L2 Vm Vl
variable {l aZERO aONE CB CR CV fB fR : Addr} {P : Program} {w : World} {K : PySem.W.Frag} {mg : Str → Option Value} {base : Heap} {k : Nat} {f f1 f2 f3 f4 f5 f6 f7 f8 f9 : Addr} {fd fd1 fd2 fd3 fd4 fd5 fd6 fd7 fd8 fd9 : FuncData}
/-- a piece out of a course that is left alone -/
theorem pick_pc {H : Hp} {xs : List V} {c : List Pc} {v : V} (hc : All2 (Pq K H) xs c) (hv : v ∈ xs) : ∃ p, p ∈ c ∧ Pq K H v p := by
  obtain ⟨i, hi⟩ := List.mem_iff_getElem?.mp hv
  have lt := (List.getElem?_eq_some_iff.mp hi).1
  have ec : c[i]? = some (c[i]'(hc.1 ▸ lt)) := List.getElem?_eq_getElem _
  exact ⟨_, List.mem_of_getElem? ec, hc.2 i v _ hi ec⟩
abbrev s__law_when : Stmt := top 57
abbrev N__law_when : List Str := ["_law_store_here", "_law_course_here", "_law_wide", "_law_sort"]
theorem sc__law_when : FnScope N__law_when ["_law_store_here", "_law_course_here", "_law_wide"] (defScope s__law_when) := ⟨rfl, rfl, rfl, by decide +kernel, rfl, by decide +kernel, by decide +kernel⟩
abbrev ps__law_when : List Str := ["_law_store_here", "_law_course_here", "_law_wide"]
def spWhen (K : PySem.W.Frag) (l : Addr) : Sp := fun vs H Q _ => ∃ (s ac : Addr) (b : Bool) (xs : List V) (c : List Pc) (i j l' : Nat), vs = [.ref s, .ref ac, .bl b] ∧ Sto l s H ∧ ac ≠ s ∧ Ct K H ac xs c ∧ Cz i j l' c ∧ 40 ≤ i ∧ i ≤ 289 ∧ 1 ≤ c.length ∧ c.length ≤ 900 ∧
  ∀ a q H', Rq K H' (.ref a) q → Sz (i + 11) q → Sto l s H' → Fr s H H' → Q (.ref a) H'
theorem ok_when (T : Bn mg) (F : Fn K mg "_law_when" s__law_when ps__law_when f fd) (d_law_take : Def P w K mg base k "_law_take" ["_law_store_here", "_law_many"] (spTake K l) f1 fd1) (d_law_minus : Def P w K mg base k "_law_minus" ["_law_a", "_law_b"] (spOp2 K (· - ·)) f2 fd2)
    (d_law_ratio : Def P w K mg base k "_law_ratio" ["_law_store_here", "_law_top"] (spRatio K l) f3 fd3) (d_law_pick : Def P w K mg base k "_law_pick" ["_law_store_here", "_law_things"] (spPick K l) f4 fd4) (d_law_part : Def P w K mg base k "_law_part" ["_law_store_here"] (spDraw K l 5 anyQ) f5 fd5) (d_law_plus : Def P w K mg base k "_law_plus" ["_law_a", "_law_b"] (spOp2 K (· + ·)) f6 fd6) :
    Def P w K mg base (k + 1) "_law_when" ps__law_when (spWhen K l) f fd := by
  refine ⟨F.F.ok sc__law_when (fun vs H Q E h => ?_) (fun cdv A outer s H vs Q E hr h => ?_), F.m, F.F.kp, F.b⟩
  · obtain ⟨_, _, _, _, _, _, _, _, rfl, _⟩ := h
    rfl
  obtain ⟨s, ac, b, xs, c, i0, j0, l0, rfl, hS, hne, hT, cz, n1, n2, l1, l2, z⟩ := h
  have hraw := hT.1
  have hc := hT.2
  have hxs : SqL K H ac xs := SqL.of hraw
  have hlx := hc.1
  have e0 : c[0]? = some c[0] := List.getElem?_eq_getElem (by omega)
  obtain ⟨x0, hx0, p0⟩ := hc.at e0
  obtain ⟨d0, ds0, dv0, dr0, rfl, hd0, r01, r02, r03⟩ := id p0
  obtain ⟨zs0, zv0, zr0⟩ := cz _ (List.mem_of_getElem? e0)
  have i0x : atI xs 0 = some (.ref d0) := at0 hx0
  obtain ⟨dsa, rfl, hdsa⟩ := id r01
  refine ⟨_, (pss_cons (ps_set (i := 3) sc__law_when.nd rfl (Or.inl rfl) (pcall d_law_take hr (pa_cons (pv 0) (pa_cons pe_int pa_nil))))
      (pss_cons (ps_if (pt_cmpR op_eq (pv 3) pe_int (nomark _))
        (pss_one (ps_ret (pe_ix ix_tup (pe_ix ix_list (pv 1) pe_int (fun _ _ => rfl)) pe_int (fun _ _ => rfl))))
        pss_nil)
      (pss_cons (ps_if (PW.pt (pw_and (pt_cmpR op_eq (pv 3) pe_int (nomark _)) (pw_and1 (pt_not (pt_val (pv 2))))))
        (pss_one (ps_ret (pcall d_law_minus hr (pa_cons (pe_ix ix_tup (pe_ix ix_list (pv 1) pe_int (fun _ _ => rfl)) pe_int (fun _ _ => rfl)) (pa_cons (pe_tup (pa_cons pe_int (pa_cons pe_int pa_nil))) pa_nil)))))
        pss_nil)
      (pss_cons (ps_if (pt_cmpR op_eq (pv 3) pe_int (nomark _))
        (pss_one (ps_ret (pcall d_law_ratio hr (pa_cons (pv 0) (pa_cons (pe_op op_sub (pe_op op_pow pe_int pe_int) pe_int) pa_nil)))))
        pss_nil)
      (pss_cons (ps_if (PW.pt (pw_or (pt_cmpR op_lt (pv 3) pe_int (nomark _)) (pw_or1 (pt_val (pv 2)))))
        (pss_one (ps_ret (pe_ix ix_tup (pcall d_law_pick hr (pa_cons (pv 0) (pa_cons (pv 1) pa_nil))) pe_int (fun _ _ => rfl))))
        pss_nil)
      (pss_cons (ps_if (pt_cmpR op_eq (pv 3) pe_int (nomark _))
        (pss_one (ps_ret (pcall d_law_part hr (pa_cons (pv 0) pa_nil))))
        pss_nil)
      (pss_one (ps_ret (pcall d_law_plus hr (pa_cons (pe_ix ix_tup (pcall d_law_pick hr (pa_cons (pv 0) (pa_cons (pv 1) pa_nil))) pe_int (fun _ _ => rfl)) (pa_cons (pcall d_law_pick hr (pa_cons (pv 0) (pa_cons (pe_lst (pa_cons (pe_tup (pa_cons pe_int (pa_cons pe_int pa_nil))) (pa_cons (pe_tup (pa_cons (pe_un un_neg pe_int) (pa_cons pe_int pa_nil))) (pa_cons (pe_tup (pa_cons pe_int (pa_cons pe_int pa_nil))) (pa_cons (pe_tup (pa_cons pe_int (pa_cons pe_int pa_nil))) pa_nil))))) pa_nil))) pa_nil))))))))))), ?_⟩
  have t12 : (1 : Int) ≤ 10 ^ Int.toNat 12 - 1 := by decide
  have t13 : (10 : Int) ^ Int.toNat 12 - 1 < 2 ^ 40 := by decide
  have x32 : xs.length < 2 ^ 32 := by omega
  have x0 : 0 < xs.length := by omega
  have fin : ∀ a q H' m, Rq K H' (.ref a) q → Sz m q → m ≤ i0 + 11 → Sto l s H' → Fr s H H' → Q (.ref a) H' := fun a q H' m h1 h2 h3 h4 h5 => z a q H' h1 (h2.mono h3) h4 h5
  have got : ∀ v G, v ∈ xs → Fr s H G → ∃ (pa psa : Addr) (pv pr : V) (pp : Pc), v = .ref pa ∧ SqT K G pa [.ref psa, pv, pr] ∧ Rq K G (.ref psa) pp.s ∧ SqT K G psa [.int pp.s.num, .int (pp.s.den : Int)] ∧ Sz i0 pp.s := fun v G hv e => by
    obtain ⟨pp, hm, pq⟩ := pick_pc hc hv
    obtain ⟨pa, ps, pv, pr, rfl, h1, h2, h3, h4⟩ := pq.fr e hS.some
    obtain ⟨psa, rfl, h5⟩ := id h2
    exact ⟨pa, psa, pv, pr, pp, rfl, h1, h2, h5, (cz pp hm).1⟩
  have zs1 : Sz (i0 + 10 + 1) (c[0].s - mkRat 1 1000) := zs0.sub zl1m
  cases b with
  | true =>
    (walk_at "vk_vc")
    all_goals first
      | (focus (refine' fin _ _ _ _ ?_ ?_ ?_ ?_ ?_; (walk_at "vk_vc"); done))
      | (intro v G hv S e
         obtain ⟨pa, psa, pv, pr, pp, rfl, g1, g2, g3, g4⟩ := got v G hv (by focus (walk_at "vk_fr"))
         (walk_at "vk_vc")
         all_goals first
          | (focus (refine' fin _ _ _ _ ?_ ?_ ?_ ?_ ?_; (walk_at "vk_vc"); done)))
  | false =>
    (walk_at "vk_vc")
    all_goals first
      | (focus (refine' fin _ _ _ _ ?_ ?_ ?_ ?_ ?_; (walk_at "vk_vc"); done))
      | (intro v G hv S e
         obtain ⟨pa, psa, pv, pr, pp, rfl, g1, g2, g3, g4⟩ := got v G hv (by focus (walk_at "vk_fr"))
         (walk_at "vk_vc")
         all_goals first
          | (focus (refine' fin _ _ _ _ ?_ ?_ ?_ ?_ ?_; (walk_at "vk_vc"); done))
          | (intro v2 G2 hv2 S2 e2
             have : ∃ q, Rq K G2 v2 q ∧ Sz 10 q := by
               simp only [List.mem_cons, List.not_mem_nil, or_false] at hv2
               rcases hv2 with rfl | rfl | rfl | rfl <;> (apply Exists.intro; apply And.intro; (walk_at "vk_vc"); all_goals first | exact zl1m | exact zlnm | exact zl12 | exact zl11)
             obtain ⟨q2, rq2, zq2⟩ := this
             obtain ⟨q2a, rfl, hq2a⟩ := id rq2
             have zz2 : Sz (i0 + 10 + 1) (pp.s + q2) := g4.add zq2
             (walk_at "vk_vc")
             all_goals first
              | (focus (refine' fin _ _ _ _ ?_ ?_ ?_ ?_ ?_; (walk_at "vk_vc"); done))))
end Vk

set_option maxHeartbeats 4000000
namespace Vk
open PySem L2 Vm Vl
variable {l aZERO aONE CB CR CV fB fR : Addr} {P : Program} {w : World} {K : PySem.W.Frag} {mg : Str → Option Value} {base : Heap} {k : Nat} {f f1 f2 f3 f4 f5 f6 f7 f8 f9 : Addr} {fd fd1 fd2 fd3 fd4 fd5 fd6 fd7 fd8 fd9 : FuncData}
abbrev s__law_some_rate : Stmt := top 58
abbrev N__law_some_rate : List Str := ["_law_store_here", "_law_course_here", "_law_sort"]
theorem sc__law_some_rate : FnScope N__law_some_rate ["_law_store_here", "_law_course_here"] (defScope s__law_some_rate) := ⟨rfl, rfl, rfl, by decide +kernel, rfl, by decide +kernel, by decide +kernel⟩
abbrev ps__law_some_rate : List Str := ["_law_store_here", "_law_course_here"]
def spSR (K : PySem.W.Frag) (l : Addr) : Sp := fun vs H Q _ => ∃ (s ac : Addr) (xs : List V) (c : List Pc) (i j l' : Nat), vs = [.ref s, .ref ac] ∧ Sto l s H ∧ ac ≠ s ∧ Ct K H ac xs c ∧ Cz i j l' c ∧ l' ≤ 45 ∧ 1 ≤ c.length ∧ c.length ≤ 900 ∧
  ∀ a q H', Rq K H' (.ref a) q → Sz 45 q → Sto l s H' → Fr s H H' → Q (.ref a) H'
theorem ok_some_rate (T : Bn mg) (F : Fn K mg "_law_some_rate" s__law_some_rate ps__law_some_rate f fd) (d_law_take : Def P w K mg base k "_law_take" ["_law_store_here", "_law_many"] (spTake K l) f1 fd1)
    (d_law_pick : Def P w K mg base k "_law_pick" ["_law_store_here", "_law_things"] (spPick K l) f4 fd4) (d_law_pace : Def P w K mg base k "_law_pace" ["_law_store_here"] (spDraw K l 5 posQ) f5 fd5) :
    Def P w K mg base (k + 1) "_law_some_rate" ps__law_some_rate (spSR K l) f fd := by
  refine ⟨F.F.ok sc__law_some_rate (fun vs H Q E h => ?_) (fun cdv A outer s H vs Q E hr h => ?_), F.m, F.F.kp, F.b⟩
  · obtain ⟨_, _, _, _, _, _, _, rfl, _⟩ := h
    rfl
  obtain ⟨s, ac, xs, c, i0, j0, l0, rfl, hS, hne, hT, cz, n1, l1, l2, z⟩ := h
  have hraw := hT.1
  have hc := hT.2
  have hxs : SqL K H ac xs := SqL.of hraw
  have hlx := hc.1
  refine ⟨_, (pss_cons (ps_set (i := 2) sc__law_some_rate.nd rfl (Or.inl rfl) (pcall d_law_take hr (pa_cons (pv 0) (pa_cons pe_int pa_nil))))
      (pss_cons (ps_if (pt_cmpR op_eq (pv 2) pe_int (nomark _))
        (pss_one (ps_ret (pe_ix ix_tup (pcall d_law_pick hr (pa_cons (pv 0) (pa_cons (pv 1) pa_nil))) pe_int (fun _ _ => rfl))))
        pss_nil)
      (pss_cons (ps_if (pt_cmpR op_eq (pv 2) pe_int (nomark _))
        (pss_one (ps_ret (pcall d_law_pick hr (pa_cons (pv 0) (pa_cons (pe_lst (pa_cons (pe_tup (pa_cons pe_int (pa_cons pe_int pa_nil))) (pa_cons (pe_tup (pa_cons pe_int (pa_cons pe_int pa_nil))) (pa_cons (pe_tup (pa_cons (pe_un un_neg pe_int) (pa_cons pe_int pa_nil))) (pa_cons (pe_tup (pa_cons (pe_un un_neg pe_int) (pa_cons pe_int pa_nil))) pa_nil))))) pa_nil)))))
        pss_nil)
      (pss_one (ps_ret (pcall d_law_pace hr (pa_cons (pv 0) pa_nil))))))), ?_⟩
  have x32 : xs.length < 2 ^ 32 := by omega
  have x0 : 0 < xs.length := by omega
  have fin : ∀ a q H' m, Rq K H' (.ref a) q → Sz m q → m ≤ 45 → Sto l s H' → Fr s H H' → Q (.ref a) H' := fun a q H' m h1 h2 h3 h4 h5 => z a q H' h1 (h2.mono h3) h4 h5
  have got : ∀ v G, v ∈ xs → Fr s H G → ∃ (pa pra : Addr) (ps pv : V) (pp : Pc), v = .ref pa ∧ SqT K G pa [ps, pv, .ref pra] ∧ Rq K G (.ref pra) pp.r ∧ SqT K G pra [.int pp.r.num, .int (pp.r.den : Int)] ∧ Sz l0 pp.r := fun v G hv e => by
    obtain ⟨pp, hm, pq⟩ := pick_pc hc hv
    obtain ⟨pa, ps, pv, pr, rfl, h1, h2, h3, h4⟩ := pq.fr e hS.some
    obtain ⟨pra, rfl, h5⟩ := id h4
    exact ⟨pa, pra, ps, pv, pp, rfl, h1, h4, h5, (cz pp hm).2.2⟩
  (walk_at "vk_vc")
  all_goals first
    | (focus (refine' fin _ _ _ _ ?_ ?_ ?_ ?_ ?_; (walk_at "vk_vc"); done))
    | (intro v2 G2 hv2 S2 e2
       have : ∃ q, Rq K G2 v2 q ∧ Sz 10 q := by
         simp only [List.mem_cons, List.not_mem_nil, or_false] at hv2
         rcases hv2 with rfl | rfl | rfl | rfl <;> (apply Exists.intro; apply And.intro; (walk_at "vk_vc"); all_goals first | exact zl01 | exact zln1 | exact zlnm)
       obtain ⟨q2, rq2, zq2⟩ := this
       obtain ⟨q2a, rfl, hq2a⟩ := id rq2
       (walk_at "vk_vc")
       all_goals first
        | (focus (refine' fin _ _ _ _ ?_ ?_ ?_ ?_ ?_; (walk_at "vk_vc"); done)))
    | (intro v G hv S e
       obtain ⟨pa, pra, ps, pv, pp, rfl, g1, g2, g3, g4⟩ := got v G hv (by focus (walk_at "vk_fr"))
       (walk_at "vk_vc")
       all_goals first
        | (focus (refine' fin _ _ _ _ ?_ ?_ ?_ ?_ ?_; (walk_at "vk_vc"); done)))
end Vk

set_option maxHeartbeats 4000000
namespace Vk
open PySem L2 Vm Vl
variable {l aZERO aONE CB CR CV fB fR : Addr} {P : Program} {w : World} {K : PySem.W.Frag} {mg : Str → Option Value} {base : Heap} {k : Nat} {f f1 f2 f3 f4 f5 f6 f7 f8 f9 : Addr} {fd fd1 fd2 fd3 fd4 fd5 fd6 fd7 fd8 fd9 : FuncData}
abbrev s__law_some_jump : Stmt := top 59
abbrev N__law_some_jump : List Str := ["_law_store_here", "_law_course_here", "_law_t", "_law_k", "_law_before", "_law_coming"]
theorem sc__law_some_jump : FnScope N__law_some_jump ["_law_store_here", "_law_course_here", "_law_t"] (defScope s__law_some_jump) := ⟨rfl, rfl, rfl, by decide +kernel, rfl, by decide +kernel, by decide +kernel⟩
abbrev ps__law_some_jump : List Str := ["_law_store_here", "_law_course_here", "_law_t"]
def spSJ (K : PySem.W.Frag) (l : Addr) : Sp := fun vs H Q _ => ∃ (s ac : Addr) (y : V) (xs : List V) (c : List Pc) (t : Rat), vs = [.ref s, .ref ac, y] ∧ Sto l s H ∧ ac ≠ s ∧ Ct K H ac xs c ∧ Rq K H y t ∧ Cz 245 925 5 c ∧ Sz 256 t ∧ 1 ≤ c.length ∧ c.length ≤ 900 ∧
  ∀ a q H', Rq K H' (.ref a) q → Sz 2400 q → Sto l s H' → Fr s H H' → Q (.ref a) H'
theorem ok_some_jump (T : Bn mg) (F : Fn K mg "_law_some_jump" s__law_some_jump ps__law_some_jump f fd) (d_law_take : Def P w K mg base k "_law_take" ["_law_store_here", "_law_many"] (spTake K l) f1 fd1) (d_law_plus : Def P w K mg base k "_law_plus" ["_law_a", "_law_b"] (spOp2 K (· + ·)) f2 fd2)
    (d_law_times : Def P w K mg base k "_law_times" ["_law_a", "_law_b"] (spOp2 K (· * ·)) f3 fd3) (d_law_minus : Def P w K mg base k "_law_minus" ["_law_a", "_law_b"] (spOp2 K (· - ·)) f4 fd4) (d_law_pick : Def P w K mg base k "_law_pick" ["_law_store_here", "_law_things"] (spPick K l) f5 fd5)
    (d_law_part : Def P w K mg base k "_law_part" ["_law_store_here"] (spDraw K l 5 anyQ) f6 fd6) (d_law_ratio : Def P w K mg base k "_law_ratio" ["_law_store_here", "_law_top"] (spRatio K l) f7 fd7) :
    Def P w K mg base (k + 1) "_law_some_jump" ps__law_some_jump (spSJ K l) f fd := by
  refine ⟨F.F.ok sc__law_some_jump (fun vs H Q E h => ?_) (fun cdv A outer s H vs Q E hr h => ?_), F.m, F.F.kp, F.b⟩
  · obtain ⟨_, _, _, _, _, _, rfl, _⟩ := h
    rfl
  obtain ⟨s, ac, y, xs, c, t, rfl, hS, hne, hT, hy, cz, zt, l1, l2, z⟩ := h
  have hraw := hT.1
  have hc := hT.2
  have hxs : SqL K H ac xs := SqL.of hraw
  have hlx := hc.1
  obtain ⟨ya, rfl, hya⟩ := id hy
  refine ⟨_, (pss_cons (ps_for PassesOwn.never rfl (pi_range2 (by rfl) T.range_ (pa_cons pe_int (pa_cons (pe_callB call_len_seq (by rfl) T.len_ PySem.boot_len (pa_cons (pv 1) pa_nil)) pa_nil))) (pg_name (i := 3) sc__law_some_jump.nd rfl (Or.inl rfl))
        (pss_one (ps_if (PW.pt (pw_and (pt_cmpR (op_eqD hr.units) (pe_ix ix_tup (pe_ix ix_list (pv 1) (pv 3) (fun _ _ => rfl)) pe_int (fun _ _ => rfl)) (pv 2) (nomark _)) (pw_and1 (pt_cmpR op_eq (pcall d_law_take hr (pa_cons (pv 0) (pa_cons pe_int pa_nil))) pe_int (nomark _)))))
          (pss_cons (ps_set (i := 4) sc__law_some_jump.nd rfl (Or.inl rfl) (pe_ix ix_list (pv 1) (pe_op op_sub (pv 3) pe_int) (fun _ _ => rfl)))
          (pss_cons (ps_set (i := 5) sc__law_some_jump.nd rfl (Or.inl rfl) (pcall d_law_plus hr (pa_cons (pe_ix ix_tup (pv 4) pe_int (fun _ _ => rfl)) (pa_cons (pcall d_law_times hr (pa_cons (pe_ix ix_tup (pv 4) pe_int (fun _ _ => rfl)) (pa_cons (pcall d_law_minus hr (pa_cons (pv 2) (pa_cons (pe_ix ix_tup (pv 4) pe_int (fun _ _ => rfl)) pa_nil))) pa_nil))) pa_nil))))
          (pss_one (ps_ret (pcall d_law_minus hr (pa_cons (pv 5) (pa_cons (pe_ix ix_tup (pe_ix ix_list (pv 1) (pv 3) (fun _ _ => rfl)) pe_int (fun _ _ => rfl)) pa_nil)))))))
          pss_nil)))
      (pss_one (ps_ret (pcall d_law_pick hr (pa_cons (pv 0) (pa_cons (pe_lst (pa_cons (pe_tup (pa_cons pe_int (pa_cons pe_int pa_nil))) (pa_cons (pcall d_law_part hr (pa_cons (pv 0) pa_nil)) (pa_cons (pcall d_law_part hr (pa_cons (pv 0) pa_nil)) (pa_cons (pcall d_law_ratio hr (pa_cons (pv 0) (pa_cons (pe_op op_sub (pe_op op_pow pe_int pe_int) pe_int) pa_nil))) pa_nil))))) pa_nil)))))), ?_⟩
  have t12 : (1 : Int) ≤ 10 ^ Int.toNat 12 - 1 := by decide
  have t13 : (10 : Int) ^ Int.toNat 12 - 1 < 2 ^ 40 := by decide
  have t2 : (2 : Int) < 2 ^ 64 := by decide
  have fin : ∀ a q H' m, Rq K H' (.ref a) q → Sz m q → m ≤ 2400 → Sto l s H' → Fr s H H' → Q (.ref a) H' := fun a q H' m h1 h2 h3 h4 h5 => z a q H' h1 (h2.mono h3) h4 h5
  (walk_at "vk_vc")
  refine forR (lo := 1) (n := (((xs.length : Nat) : Int) - 1).toNat) (fun i σ G => Hold (∃ k1 k2 k3, σ = [some (.ref s), some (.ref ac), some (.ref ya), k1, k2, k3] ∧ Sto l s G ∧ Fr s H G)) ⟨none, none, none, rfl, hS, Fr.refl _ _⟩ ?_ ?_
  · rintro i σ G hi ⟨k1, k2, k3, rfl, SG, fg⟩
    have hi1 : i + 1 < c.length := by omega
    have ep : c[i]? = some c[i] := List.getElem?_eq_getElem (by omega)
    have eq : c[i + 1]? = some c[i + 1] := List.getElem?_eq_getElem hi1
    obtain ⟨x1, hx1, pp⟩ := hc.at ep
    obtain ⟨x2, hx2, pq⟩ := hc.at eq
    obtain ⟨zs1, zv1, zr1⟩ := cz _ (List.mem_of_getElem? ep)
    obtain ⟨zs2, zv2, zr2⟩ := cz _ (List.mem_of_getElem? eq)
    obtain ⟨d1, ds1, dv1, dr1, rfl, hd1, r11, r12, r13⟩ := pp.fr fg hS.some
    obtain ⟨d2, ds2, dv2, dr2, rfl, hd2, r21, r22, r23⟩ := pq.fr fg hS.some
    generalize c[i] = pa at ep r11 r12 r13 zs1 zv1 zr1
    generalize c[i + 1] = pb at eq r21 r22 r23 zs2 zv2 zr2
    have hrg := fg _ _ hraw hne
    have hxg : SqL K G ac xs := SqL.of hrg
    have hyg : Rq K G (.ref ya) t := hy.fr fg hS.some
    have i1 : atI xs (1 + (i : Int) - 1) = some (.ref d1) := at_of (j := i) (by omega) hx1
    have i2 : atI xs (1 + (i : Int)) = some (.ref d2) := at_of (j := i + 1) (by omega) hx2
    have zd : Sz (256 + 245 + 1) (t - pa.s) := zt.sub zs1
    have zm := zr1.mul zd
    have za := zv1.add zm
    have zz := za.sub zv2
    (walk_at "vk_vc")
    all_goals first
      | (focus (refine' fin _ _ _ _ ?_ ?_ ?_ ?_ ?_; (walk_at "vk_vc"); done))
      | (refine ⟨⟨_, _, _, rfl, ?_, ?_⟩⟩ <;> ((walk_at "vk_vc"); done))
  · rintro σ G ⟨k1, k2, k3, rfl, SG, fg⟩
    (walk_at "vk_vc")
    all_goals first
      | (intro v2 G2 hv2 S2 e2
         have : ∃ q, Rq K G2 v2 q ∧ Sz 40 q := by
           simp only [List.mem_cons, List.not_mem_nil, or_false] at hv2
           rcases hv2 with rfl | rfl | rfl | rfl <;> (apply Exists.intro; apply And.intro; (walk_at "vk_vc"); all_goals first | exact zl01.mono (by decide) | assumption | (refine Sz.mono (by assumption) (by decide)))
         obtain ⟨q2, rq2, zq2⟩ := this
         obtain ⟨q2a, rfl, hq2a⟩ := id rq2
         (walk_at "vk_vc")
         all_goals first
          | (focus (refine' fin _ _ _ _ ?_ ?_ ?_ ?_ ?_; (walk_at "vk_vc"); done)))
end Vk

set_option maxHeartbeats 4000000
namespace Vk
open PySem L2 Vm Vl
variable {l aZERO aONE CB CR CV fB fR : Addr} {P : Program} {w : World} {K : PySem.W.Frag} {mg : Str → Option Value} {base : Heap} {k : Nat} {f f1 f2 f3 f4 f5 f6 f7 f8 f9 : Addr} {fd fd1 fd2 fd3 fd4 fd5 fd6 fd7 fd8 fd9 : FuncData}
/-! ### a change: its sizes, its length, its outcome -/
theorem cz_ch {c : List Pc} {i j l m n i' j' l' : Nat} {t q : Rat} {p : Pc} {sl : Bool} (cz : Cz i j l c) (zt : Sz m t) (zq : Sz n q) (hp : p ∈ c) (h1 : i ≤ i') (h2 : m ≤ i') (h3 : j + l + m + i + n + 3 ≤ j') (h4 : l ≤ l') (h5 : sl = true → n ≤ l') : Cz i' j' l' (chL sl c t q p) := by
  have hv : Sz (j + (l + (m + i + 1)) + 1) (vl t p) := by
    obtain ⟨a, b, d⟩ := cz p hp
    exact b.add (d.mul (zt.sub a))
  have ha : ∀ x ∈ ahd c t, Sz i' x.s ∧ Sz j' x.v ∧ Sz l' x.r := fun x hx => by
    obtain ⟨a, b, d⟩ := cz x (ahd_mem.mp hx).1
    exact ⟨a.mono h1, b.mono (by omega), d.mono h4⟩
  intro x hx
  cases sl with
  | true =>
    rcases List.mem_append.mp (show x ∈ ahd c t ++ [⟨t, vl t p, q⟩] from hx) with hx | hx
    · exact ha x hx
    · rw [List.mem_singleton.mp hx]
      exact ⟨zt.mono h2, hv.mono (by omega), zq.mono (h5 rfl)⟩
  | false =>
    rcases List.mem_append.mp (show x ∈ (ahd c t ++ [⟨t, vl t p + q, p.r⟩]) ++ bhd c t q from hx) with hx | hx
    · rcases List.mem_append.mp hx with hx | hx
      · exact ha x hx
      · rw [List.mem_singleton.mp hx]
        exact ⟨zt.mono h2, (hv.add zq).mono (by omega), (cz p hp).2.2.mono h4⟩
    · obtain ⟨y, hy, _, rfl⟩ := bhd_mem hx
      obtain ⟨a, b, d⟩ := cz y hy
      exact ⟨a.mono h1, (b.add zq).mono (by omega), d.mono h4⟩
theorem len_ab (c : List Pc) (t q : Rat) : (ahd c t).length + (bhd c t q).length ≤ c.length := by
  induction c with
  | nil => simp [ahd, bhd]
  | cons a c ih =>
    unfold ahd bhd at *
    rw [List.filter_cons, List.filterMap_cons]
    by_cases h : a.s < t
    · have h2 : ¬ t < a.s := by grind
      simp [h, h2]; omega
    · by_cases h2 : t < a.s <;> simp [h, h2] <;> omega
theorem len_ch1 {c : List Pc} {t q : Rat} {p : Pc} {sl : Bool} : (chL sl c t q p).length ≤ c.length + 1 := by
  have := len_ab c t q
  cases sl with
  | true => show (ahd c t ++ [_]).length ≤ _; rw [List.length_append]; show _ + 1 ≤ _; omega
  | false => show ((ahd c t ++ [_]) ++ bhd c t q).length ≤ _; rw [List.length_append, List.length_append]; show _ + 1 + _ ≤ _; omega
theorem Def.imp {x : Str} {ps : List Str} {sp1 sp2 : Sp} (h : Def P w K mg base k x ps sp1 f fd) (g : ∀ vs H Q E, sp2 vs H Q E → sp1 vs H Q E) : Def P w K mg base k x ps sp2 f fd :=
  ⟨⟨fun vs H Q E q => h.ok.len vs H Q E (g _ _ _ _ q), fun A outer s H args us vs Q E hr he hb hv q => h.ok.run A outer s H args us vs Q E hr he hb hv (g _ _ _ _ q)⟩, h.m, h.kp, h.b⟩
/-- what a change tells -/
def Rt (K : PySem.W.Frag) (H H' : Hp) (y u : V) (sl : Bool) (c : List Pc) (t q : Rat) (i j l : Nat) (tt : Addr) : Prop :=
  (pcAt c t = none ∧ SqT K H' tt [.str "BeforeStart", y]) ∨ ((∃ p, pcAt c t = some p) ∧ sl = true ∧ q ≤ 0 ∧ SqT K H' tt [.str "BadRate", u]) ∨
  (∃ (p : Pc) (D : Addr) (us : List V), pcAt c t = some p ∧ (sl = true → 0 < q) ∧ H D = none ∧ SqT K H' tt [.str "is", .ref D] ∧ Ct K H' D us (tl (chL sl c t q p)) ∧ Cz i j l (chL sl c t q p))
def spTold2 (K : PySem.W.Frag) : Sp := fun vs H Q _ => ∃ (ac : Addr) (y u : V) (sl : Bool) (c : List Pc) (t q : Rat) (i j l m n i' j' l' : Nat), vs = [.ref ac, y, u, .bl sl] ∧ Cq K H ac c ∧ Rq K H y t ∧ Rq K H u q ∧ Cz i j l c ∧ Sz m t ∧ Sz n q ∧ Cok c ∧ c.length ≤ 400 ∧
  i ≤ i' ∧ m ≤ i' ∧ j + l + m + i + n + 3 ≤ j' ∧ l ≤ l' ∧ (sl = true → n ≤ l') ∧ i' ≤ 300 ∧ j' ≤ 4150 ∧ l' ≤ 45 ∧
  (∀ tt H', Same H H' → Rt K H H' y u sl c t q i' j' l' tt → Q (.ref tt) H')
theorem ok_told2 {x : Str} {ps : List Str} (h : Def P w K mg base k x ps (spTold K) f fd) : Def P w K mg base k x ps (spTold2 K) f fd := h.imp fun vs H Q E h => by
  obtain ⟨ac, y, u, sl, c, t, q, i, j, l, m, n, i', j', l', rfl, hC, hy, hu, cz, zt, zq, ok, hl, b1, b2, b3, b4, b5, b6, b7, b8, z⟩ := h
  refine ⟨ac, y, u, sl, c, t, q, i, j, l, m, n, rfl, hC, hy, hu, cz, zt, zq, ok, hl, fun p hp _ => ⟨i', j', l', cz_ch cz zt zq hp b1 b2 b3 b4 b5, by omega⟩, by omega, fun p hp ep hq tt D us H' e hD ht hA => ?_, fun hn tt H' e ht => ?_, fun p hp ep hs hq tt H' e ht => ?_⟩
  · exact z tt H' e (.inr (.inr ⟨p, D, us, ep, hq, hD, SqT.of ht, hA, cz_ch cz zt zq hp b1 b2 b3 b4 b5⟩))
  · exact z tt H' e (.inl ⟨hn, ht⟩)
  · exact z tt H' e (.inr (.inl ⟨⟨p, ep⟩, hs, hq, ht⟩))
def spRight2 (K : PySem.W.Frag) : Sp := fun vs H Q _ => ∃ (ac : Addr) (y u : V) (sl : Bool) (tt : Addr) (xs : List V) (c : List Pc) (t q : Rat) (i j l m n i' j' l' : Nat) (H0 : Hp), vs = [.ref ac, y, u, .bl sl, .ref tt] ∧ Rt K H0 H y u sl c t q i' j' l' tt ∧ Ct K H ac xs c ∧ Rq K H y t ∧ Rq K H u q ∧ Cz i j l c ∧ Sz m t ∧ Sz n q ∧ i ≤ 300 ∧ j ≤ 3000 ∧ l ≤ 45 ∧ m ≤ 300 ∧ n ≤ 2500 ∧ (sl = true → n ≤ l') ∧ Cok c ∧ 1 ≤ c.length ∧ c.length ≤ 60 ∧ i' ≤ 300 ∧ j' ≤ 4500 ∧ l' ≤ 45 ∧
  ∀ H', Same H H' → Q (.bl true) H'
theorem ok_right2 {x : Str} {ps : List Str} (h : Def P w K mg base k x ps (spRight K) f fd) : Def P w K mg base k x ps (spRight2 K) f fd := h.imp fun vs H Q E h => by
  obtain ⟨ac, y, u, sl, tt, xs, c, t, q, i, j, l, m, n, i', j', l', H0, rfl, rt, hT, hy, hu, cz, zt, zq, b1, b2, b3, b4, b5, b6, ok, l1, l2, c1, c2, c3, z⟩ := h
  refine ⟨ac, y, u, sl, tt, xs, c, t, q, i, j, l, m, n, rfl, hT, hy, hu, cz, zt, zq, ⟨b1, b2, b3, b4, b5⟩, fun h => by have := b6 h; omega, ok, l1, l2, ?_, z⟩
  rcases rt with h | h | ⟨p, D, us, h1, h2, _, h4, h5, h6⟩
  · exact .inl h
  · exact .inr (.inl h)
  · exact .inr (.inr ⟨p, D, us, i', j', l', h1, h2, h4, h5, h6, c1, c2, c3⟩)
/-! ### data of courses -/
def cdat (c : List Pc) : PyData := .list (c.map dpc)
theorem Ct.dd {H : Hp} {a : Addr} {xs : List V} {c : List Pc} (h : Ct K H a xs c) : Dp K H (.ref a) (cdat c) := .lst (SqL.of h.1) (dpall_of (fun _ _ h => h.dp) h.2)
theorem tree_c (n : Nat) {c : List Pc} (h : c.length ≤ 900) : Tree (n + 3) (cdat c) := .lst (by rw [List.length_map]; omega) fun d hd => by
  obtain ⟨p, _, rfl⟩ := List.mem_map.mp hd
  exact tree_dpc n p
theorem Ct.copyq {H : Hp} {a p : Addr} {xs : List V} {c : List Pc} (n : H p = none) (h : Ct K H a xs c) : Cq K (upd H p (.lst xs)) p c := Ct.cq ⟨upd_same, h.2.imp fun _ _ h => h.same (same_new n _)⟩
theorem Ct.copy {H : Hp} {a p : Addr} {xs : List V} {c : List Pc} (n : H p = none) (h : Ct K H a xs c) : Ct K (upd H p (.lst xs)) p xs c := ⟨upd_same, h.2.imp fun _ _ h => h.same (same_new n _)⟩
def dErr (x : Str) (q : Rat) : PyData := .tuple [.str x, dq q]
theorem tree_err {x : Str} (n : Nat) (hx : Tree (n + 1) (.str x)) (q : Rat) : Tree (n + 2) (dErr x q) := .tup (by show 2 ≤ 1000; decide) fun d hd => by
  simp only [List.mem_cons, List.mem_nil_iff, or_false] at hd
  rcases hd with rfl | rfl
  · exact hx
  · exact tree_dq n q
theorem dp_err {H : Hp} {t : Addr} {y : V} {q : Rat} {x : Str} (ht : SqT K H t [.str x, y]) (hy : Rq K H y q) : Dp K H (.ref t) (dErr x q) := .tup ht (.cons (.str _) (.cons hy.dp .nil))
def dIs (c : List Pc) : PyData := .tuple [.str "is", cdat c]
theorem tree_is (n : Nat) {c : List Pc} (h : c.length ≤ 900) : Tree (n + 4) (dIs c) := .tup (by show 2 ≤ 1000; decide) fun d hd => by
  simp only [List.mem_cons, List.mem_nil_iff, or_false] at hd
  rcases hd with rfl | rfl
  · exact .str (by decide +kernel)
  · exact tree_c n h
theorem dp_is {H : Hp} {t D : Addr} {us : List V} {c : List Pc} (ht : SqT K H t [.str "is", .ref D]) (hD : Ct K H D us c) : Dp K H (.ref t) (dIs c) := .tup ht (.cons (.str _) (.cons hD.dd .nil))
abbrev s__law_both_right : Stmt := top 60
abbrev N__law_both_right : List Str := ["_law_course_here", "_law_t", "_law_pace_here", "_law_jump", "_law_row", "_law_slews", "_law_by", "_law_told_here", "_law_kept"]
theorem sc__law_both_right : FnScope N__law_both_right ["_law_course_here", "_law_t", "_law_pace_here", "_law_jump"] (defScope s__law_both_right) := ⟨rfl, rfl, rfl, by decide +kernel, rfl, by decide +kernel, by decide +kernel⟩
abbrev ps__law_both_right : List Str := ["_law_course_here", "_law_t", "_law_pace_here", "_law_jump"]
def spBoth (K : PySem.W.Frag) : Sp := fun vs H Q _ => ∃ (ac : Addr) (y u v : V) (xs : List V) (c : List Pc) (t o q : Rat) (i j l m : Nat), vs = [.ref ac, y, u, v] ∧ Ct K H ac xs c ∧ Rq K H y t ∧ Rq K H u o ∧ Rq K H v q ∧ Cz i j l c ∧ Sz m t ∧ Sz 45 o ∧ Sz 2400 q ∧ i ≤ 300 ∧ m ≤ 300 ∧ j ≤ 1000 ∧ l ≤ 45 ∧ Cok c ∧ 1 ≤ c.length ∧ c.length ≤ 40 ∧ ∀ H', Same H H' → Q (.bl true) H'
theorem ok_both (T : Bn mg) (F : Fn K mg "_law_both_right" s__law_both_right ps__law_both_right f fd) (d_law_told : Def P w K mg base k "_law_told" ["_law_course_here", "_law_t", "_law_by", "_law_slews"] (spTold2 K) f1 fd1)
    (d_law_right : Def P w K mg base k "_law_right" ["_law_course_here", "_law_t", "_law_by", "_law_slews", "_law_told_here"] (spRight2 K) f2 fd2) (d_law_same : Def P w K mg base k "_law_same" ["_law_value", "_law_due"] (spSame K 4) f3 fd3) :
    Def P w K mg base (k + 1) "_law_both_right" ps__law_both_right (spBoth K) f fd := by
  refine ⟨F.F.ok sc__law_both_right (fun vs H Q E h => ?_) (fun cdv A outer s H vs Q E hr h => ?_), F.m, F.F.kp, F.b⟩
  · obtain ⟨_, _, _, _, _, _, _, _, _, _, _, _, _, rfl, _⟩ := h
    rfl
  obtain ⟨ac, y, u, v, xs, c, t, o, q, i0, j0, l0, m, rfl, hT, hy, hu, hv, cz, zt, zo, zq, b1, b2, b3, b4, ok, l1, l2, z⟩ := h
  have hraw := hT.1
  have hc := hT.2
  have hxs : SqL K H ac xs := SqL.of hraw
  have hlx := hc.1
  refine ⟨_, (pss_cons (ps_set (i := 4) sc__law_both_right.nd rfl (Or.inl rfl) (pe_callTy call_list_of (by rfl) T.list_ (by decide +kernel) (pa_cons (pv 0) pa_nil)))
      (pss_cons (ps_for PassesOwn.never rfl (pi_list (pe_lst (pa_cons pe_bl (pa_cons pe_bl pa_nil)))) (pg_name (i := 5) sc__law_both_right.nd rfl (Or.inl rfl))
        (pss_cons (ps_set (i := 6) sc__law_both_right.nd rfl (Or.inl rfl) (pe_ifExp (pt_val (pv 5)) (pv 2) (pv 3)))
        (pss_cons (ps_set (i := 7) sc__law_both_right.nd rfl (Or.inl rfl) (pcall d_law_told hr (pa_cons (pv 4) (pa_cons (pv 1) (pa_cons (pv 6) (pa_cons (pv 5) pa_nil))))))
        (pss_cons (ps_if (PW.pt (pw_or (pt_not (pt_val (pcall d_law_right hr (pa_cons (pv 0) (pa_cons (pv 1) (pa_cons (pv 6) (pa_cons (pv 5) (pa_cons (pv 7) pa_nil)))))))) (pw_or1 (pt_not (pt_val (pcall d_law_same hr (pa_cons (pv 4) (pa_cons (pv 0) pa_nil))))))))
          (pss_one (ps_ret pe_bl))
          pss_nil)
        (pss_cons (ps_if (pt_cmpR (op_eqD hr.units) (pe_ix ix_tup (pv 7) pe_int (fun _ _ => rfl)) pe_str (nomark _))
          (pss_cons (ps_set (i := 8) sc__law_both_right.nd rfl (Or.inl rfl) (pe_callTy call_list_of (by rfl) T.list_ (by decide +kernel) (pa_cons (pe_ix ix_tup (pv 7) pe_int (fun _ _ => rfl)) pa_nil)))
          (pss_cons (ps_expr (pe_bm PySem.F.plainAttrs_list PySem.F.slot_list_append PySem.F.type_list_append mt_append (pe_ix ix_tup (pv 7) pe_int (fun _ _ => rfl)) (pa_cons (pe_tup (pa_cons (pv 1) (pa_cons (pv 1) (pa_cons (pv 1) pa_nil)))) pa_nil)))
          (pss_one (ps_set (i := 7) sc__law_both_right.nd rfl (Or.inl rfl) (pe_tup (pa_cons pe_str (pa_cons (pv 8) pa_nil)))))))
          pss_nil)
        (pss_one (ps_if (pt_not (pt_val (pcall d_law_same hr (pa_cons (pcall d_law_told hr (pa_cons (pv 4) (pa_cons (pv 1) (pa_cons (pv 6) (pa_cons (pv 5) pa_nil))))) (pa_cons (pv 7) pa_nil)))))
          (pss_one (ps_ret pe_bl))
          pss_nil)))))))
      (pss_one (ps_ret pe_bl)))), ?_⟩
  have hsz : sizeLine = 16777216 := sizeLine_eq
  (walk_at "vk_vc")
  rename_i R nR
  have sR : Same H (upd H R (.lst xs)) := same_new nR _
  have hR : (upd H R (.lst xs)) R = some (.lst xs) := upd_same
  generalize upd H R (.lst xs) = H1 at sR hR np ⊢
  have sL : Same H1 (upd H1 p (.lst [.bl true, .bl false])) := same_new np _
  have hL : (upd H1 p (.lst [.bl true, .bl false])) p = some (.lst [.bl true, .bl false]) := upd_same
  have hR1 := sL _ _ hR
  have sH := sR.trans sL
  generalize upd H1 p (.lst [.bl true, .bl false]) = H2 at sL hL hR1 sH ⊢
  have hT2 := hT.same sH
  have hy2 := hy.same sH
  have hu2 := hu.same sH
  have hv2 := hv.same sH
  clear hR np sL sR nR hT hy hu hv hxs hraw hc
  have hTR : Ct K H2 R xs c := ⟨hR1, hT2.2⟩
  have hCR : Cq K H2 R c := hTR.cq
  refine forL (K := K) (a := p) (xs := [.bl true, .bl false]) (fun i σ G => Hold (∃ k5 k6 k7 k8, σ = [some (.ref ac), some y, some u, some v, some (.ref R), k5, k6, k7, k8] ∧ Same H2 G)) ⟨none, none, none, none, rfl, Same.refl _⟩ (fun i σ G _ h => by obtain ⟨_, _, _, _, _, s1⟩ := h; exact SqL.of (s1 _ _ hL)) ?_ ?_
  · rintro i x σ G hx ⟨k5, k6, k7, k8, rfl, sg⟩
    obtain ⟨sl, rfl⟩ : ∃ sl, x = .bl sl := by
      have := List.mem_of_getElem? hx
      simp only [List.mem_cons, List.not_mem_nil, or_false] at this
      rcases this with rfl | rfl <;> exact ⟨_, rfl⟩
    have hTg := hT2.same sg
    have hTRg := hTR.same sg
    have hCRg := hCR.same sg
    have hyg := hy2.same sg
    have hug := hu2.same sg
    have hvg := hv2.same sg
    cases sl with
    | true =>
      have bj : j0 + l0 + m + i0 + 45 + 3 ≤ 4150 := by omega
      have bl : true = true → 45 ≤ 45 := fun _ => Nat.le_refl _
      (walk_at "vk_vc")
      intro tt G1 e1 rt
      have hTg1 := hTg.same e1
      have hTRg1 := hTRg.same e1
      have hxg1 := hTRg1.1
      have tC := tree_c 1 (c := c) (by omega)
      have rt' := rt
      rcases rt with ⟨hn, ht⟩ | ⟨hp, hs, hq, ht⟩ | ⟨pp, D, us, hp, hq, nD, ht, hD, czL⟩
      · (walk_at "vk_vc")
        intro tt2 G2 e2 rt2
        rcases rt2 with ⟨_, ht2⟩ | ⟨⟨_, hp2⟩, _⟩ | ⟨_, _, _, hp2, _⟩
        · (walk_at "vk_vc")
          all_goals first | exact ⟨⟨_, _, _, _, rfl, (by (walk_at "vk_same"))⟩⟩
        · rw [hn] at hp2; cases hp2
        · rw [hn] at hp2; cases hp2
      · (walk_at "vk_vc")
        intro tt2 G2 e2 rt2
        rcases rt2 with ⟨hn2, _⟩ | ⟨_, _, _, ht2⟩ | ⟨_, _, _, _, hq2, _⟩
        · obtain ⟨_, hp⟩ := hp; rw [hn2] at hp; cases hp
        · (walk_at "vk_vc")
          all_goals first | exact ⟨⟨_, _, _, _, rfl, (by (walk_at "vk_same"))⟩⟩
        · exfalso; have := hq2 rfl; grind
      · have hDr := hD.1
        have hDx : SqL K G1 D us := SqL.of hDr
        have nDG : G D = none := nD
        (walk_at "vk_vc")
        rename_i kp nkp
        have e3 := e.trans (same_new nkp (.lst us))
        have hk3 : (upd H' kp (.lst us)) kp = some (.lst us) := upd_same
        have nkD : kp ≠ D := fun h => by rw [h, e _ _ hDr] at nkp; cases nkp
        generalize upd H' kp (.lst us) = H3 at e3 hk3 np ⊢
        have e4 := e3.trans (same_new np (.tup [y, y, y]))
        have hk4 := (same_new np (.tup [y, y, y])) _ _ hk3
        generalize upd H3 p (.tup [y, y, y]) = H4 at e4 hk4 ⊢
        have hD4 := e4 _ _ hDr
        have hDl : us.length < sizeLine := by
          have h1 := hD.2.1
          have h2 := (tl_sub (chL true c t o pp)).length_le
          have h3 := len_ch1 (c := c) (t := t) (q := o) (p := pp) (sl := true)
          omega
        refine ⟨D, us, .ref p, rfl, rfl, hD4, hDl, ?_⟩
        have s5 : Same G (upd H4 D (.lst (us ++ [.ref p]))) := same_upd (e1.trans e4) nDG _
        have hk5 : Ct K (upd H4 D (.lst (us ++ [.ref p]))) kp us (tl (chL true c t o pp)) :=
          ⟨(Fr.upd (s := D) _) _ _ hk4 nkD, (hD.2.imp fun _ _ h => Pq.same e4 h).imp fun _ _ h => Pq.fr (Fr.upd _) ⟨_, hD4⟩ h⟩
        have tL := tree_c 0 (c := tl (chL true c t o pp)) (by have h2 := (tl_sub (chL true c t o pp)).length_le; have h3 := len_ch1 (c := c) (t := t) (q := o) (p := pp) (sl := true); omega)
        clear e3 e4 e1 e ht hD hDx hDr hTg1 hTRg1 hxg1 rt'
        generalize upd H4 D (.lst (us ++ [.ref p])) = G5 at s5 hk5 ⊢
        (walk_at "vk_vc")
        intro tt2 G2 e2 rt2
        rcases rt2 with ⟨hn2, _⟩ | ⟨_, hs2, hq2, _⟩ | ⟨pp2, D2, us2, hp2, _, _, ht2, hD2, _⟩
        · rw [hn2] at hp; cases hp
        · exfalso; have := hq hs2; grind
        · have epp : pp2 = pp := by rw [hp] at hp2; cases hp2; rfl
          subst epp
          (walk_at "vk_vc")
          all_goals first | exact ⟨⟨_, _, _, _, rfl, (by (walk_at "vk_same"))⟩⟩
    | false =>
      have bj : j0 + l0 + m + i0 + 2400 + 3 ≤ 4150 := by omega
      have bl : false = true → 2400 ≤ 45 := nofun
      (walk_at "vk_vc")
      intro tt G1 e1 rt
      have hTg1 := hTg.same e1
      have hTRg1 := hTRg.same e1
      have hxg1 := hTRg1.1
      have tC := tree_c 1 (c := c) (by omega)
      have rt' := rt
      rcases rt with ⟨hn, ht⟩ | ⟨hp, hs, hq, ht⟩ | ⟨pp, D, us, hp, hq, nD, ht, hD, czL⟩
      · (walk_at "vk_vc")
        intro tt2 G2 e2 rt2
        rcases rt2 with ⟨_, ht2⟩ | ⟨⟨_, hp2⟩, _⟩ | ⟨_, _, _, hp2, _⟩
        · (walk_at "vk_vc")
          all_goals first | exact ⟨⟨_, _, _, _, rfl, (by (walk_at "vk_same"))⟩⟩
        · rw [hn] at hp2; cases hp2
        · rw [hn] at hp2; cases hp2
      · cases hs
      · have hDr := hD.1
        have hDx : SqL K G1 D us := SqL.of hDr
        have nDG : G D = none := nD
        (walk_at "vk_vc")
        rename_i kp nkp
        have e3 := e.trans (same_new nkp (.lst us))
        have hk3 : (upd H' kp (.lst us)) kp = some (.lst us) := upd_same
        have nkD : kp ≠ D := fun h => by rw [h, e _ _ hDr] at nkp; cases nkp
        generalize upd H' kp (.lst us) = H3 at e3 hk3 np ⊢
        have e4 := e3.trans (same_new np (.tup [y, y, y]))
        have hk4 := (same_new np (.tup [y, y, y])) _ _ hk3
        generalize upd H3 p (.tup [y, y, y]) = H4 at e4 hk4 ⊢
        have hD4 := e4 _ _ hDr
        have hDl : us.length < sizeLine := by
          have h1 := hD.2.1
          have h2 := (tl_sub (chL false c t q pp)).length_le
          have h3 := len_ch1 (c := c) (t := t) (q := q) (p := pp) (sl := false)
          omega
        refine ⟨D, us, .ref p, rfl, rfl, hD4, hDl, ?_⟩
        have s5 : Same G (upd H4 D (.lst (us ++ [.ref p]))) := same_upd (e1.trans e4) nDG _
        have hk5 : Ct K (upd H4 D (.lst (us ++ [.ref p]))) kp us (tl (chL false c t q pp)) :=
          ⟨(Fr.upd (s := D) _) _ _ hk4 nkD, (hD.2.imp fun _ _ h => Pq.same e4 h).imp fun _ _ h => Pq.fr (Fr.upd _) ⟨_, hD4⟩ h⟩
        have tL := tree_c 0 (c := tl (chL false c t q pp)) (by have h2 := (tl_sub (chL false c t q pp)).length_le; have h3 := len_ch1 (c := c) (t := t) (q := q) (p := pp) (sl := false); omega)
        clear e3 e4 e1 e ht hD hDx hDr hTg1 hTRg1 hxg1 rt'
        generalize upd H4 D (.lst (us ++ [.ref p])) = G5 at s5 hk5 ⊢
        (walk_at "vk_vc")
        intro tt2 G2 e2 rt2
        rcases rt2 with ⟨hn2, _⟩ | ⟨_, hs2, hq2, _⟩ | ⟨pp2, D2, us2, hp2, _, _, ht2, hD2, _⟩
        · rw [hn2] at hp; cases hp
        · exfalso; have := hq hs2; grind
        · have epp : pp2 = pp := by rw [hp] at hp2; cases hp2; rfl
          subst epp
          (walk_at "vk_vc")
          all_goals first | exact ⟨⟨_, _, _, _, rfl, (by (walk_at "vk_same"))⟩⟩
  · rintro σ G ⟨k5, k6, k7, k8, rfl, sg⟩
    exact z _ (sH.trans sg)
end Vk

set_option maxHeartbeats 4000000
namespace Vk
open PySem L2 Vm Vl
variable {l aZERO aONE CB CR CV fB fR : Addr} {P : Program} {w : World} {K : PySem.W.Frag} {mg : Str → Option Value} {base : Heap} {k : Nat} {f f1 f2 f3 f4 f5 f6 f7 f8 f9 : Addr} {fd fd1 fd2 fd3 fd4 fd5 fd6 fd7 fd8 fd9 : FuncData}
theorem cutV_take {xs : List V} {n : Nat} (h : n ≤ xs.length) : cutV xs none (some (n : Int)) = xs.take n := by
  unfold cutV
  rw [HT.sIx_none, HT.sIx_nat, Nat.min_eq_left h]
  simp
theorem cutV_drop {xs : List V} {n : Nat} (h : n ≤ xs.length) : cutV xs (some (n : Int)) none = xs.drop n := by
  unfold cutV
  rw [HT.sIx_none, HT.sIx_nat, Nat.min_eq_left h, List.take_of_length_le]
  rw [List.length_drop]
  exact Nat.le_refl _
abbrev s__law_long_right : Stmt := top 61
abbrev N__law_long_right : List Str := ["_law_store_here", "_law_course_here", "_law_slews", "_law_by", "_law_spot", "_law_t", "_law_row"]
theorem sc__law_long_right : FnScope N__law_long_right ["_law_store_here"] (defScope s__law_long_right) := ⟨rfl, rfl, rfl, by decide +kernel, rfl, by decide +kernel, by decide +kernel⟩
abbrev ps__law_long_right : List Str := ["_law_store_here"]
def spLong (K : PySem.W.Frag) (l : Addr) : Sp := fun vs H Q _ => ∃ (s : Addr), vs = [.ref s] ∧ Sto l s H ∧ ∀ H', Sto l s H' → Fr s H H' → Q (.bl true) H'
theorem ok_long (T : Bn mg) (F : Fn K mg "_law_long_right" s__law_long_right ps__law_long_right f fd) (d_law_course : Def P w K mg base k "_law_course" ["_law_store_here", "_law_many", "_law_fall"] (spCourse K l) f1 fd1) (d_law_take : Def P w K mg base k "_law_take" ["_law_store_here", "_law_many"] (spTake K l) f2 fd2)
    (d_law_pace : Def P w K mg base k "_law_pace" ["_law_store_here"] (spDraw K l 5 posQ) f3 fd3) (d_law_part : Def P w K mg base k "_law_part" ["_law_store_here"] (spDraw K l 5 anyQ) f4 fd4) (d_law_pick : Def P w K mg base k "_law_pick" ["_law_store_here", "_law_things"] (spPick K l) f5 fd5)
    (d_law_plus : Def P w K mg base k "_law_plus" ["_law_a", "_law_b"] (spOp2 K (· + ·)) f6 fd6) (d_law_told : Def P w K mg base k "_law_told" ["_law_course_here", "_law_t", "_law_by", "_law_slews"] (spTold2 K) f7 fd7)
    (d_law_right : Def P w K mg base k "_law_right" ["_law_course_here", "_law_t", "_law_by", "_law_slews", "_law_told_here"] (spRight2 K) f8 fd8) (d_law_same : Def P w K mg base k "_law_same" ["_law_value", "_law_due"] (spSame K 4) f9 fd9) :
    Def P w K mg base (k + 1) "_law_long_right" ps__law_long_right (spLong K l) f fd := by
  refine ⟨F.F.ok sc__law_long_right (fun vs H Q E h => ?_) (fun cdv A outer s H vs Q E hr h => ?_), F.m, F.F.kp, F.b⟩
  · obtain ⟨_, rfl, _⟩ := h
    rfl
  obtain ⟨s, rfl, hS, z⟩ := h
  refine ⟨_, (pss_cons (ps_set (i := 1) sc__law_long_right.nd rfl (Or.inl rfl) (pcall d_law_course hr (pa_cons (pv 0) (pa_cons pe_int (pa_cons pe_bl pa_nil)))))
      (pss_cons (ps_set (i := 2) sc__law_long_right.nd rfl (Or.inl rfl) (pe_cmpR op_eq (pcall d_law_take hr (pa_cons (pv 0) (pa_cons pe_int pa_nil))) pe_int (nomark _)))
      (pss_cons (ps_set (i := 3) sc__law_long_right.nd rfl (Or.inl rfl) (pe_ifExp (pt_val (pv 2)) (pcall d_law_pace hr (pa_cons (pv 0) pa_nil)) (pcall d_law_part hr (pa_cons (pv 0) pa_nil))))
      (pss_cons (ps_set (i := 4) sc__law_long_right.nd rfl (Or.inl rfl) (pe_ix ix_tup (pcall d_law_pick hr (pa_cons (pv 0) (pa_cons (pe_ifExp (pt_val (pv 2)) (pe_slice sl_list (pv 1) (po_some pe_int) po_none) (pe_slice sl_list (pv 1) po_none (po_some pe_int))) pa_nil))) pe_int (fun _ _ => rfl)))
      (pss_cons (ps_set (i := 5) sc__law_long_right.nd rfl (Or.inl rfl) (pcall d_law_plus hr (pa_cons (pv 4) (pa_cons (pcall d_law_pick hr (pa_cons (pv 0) (pa_cons (pe_lst (pa_cons (pe_tup (pa_cons pe_int (pa_cons pe_int pa_nil))) (pa_cons (pe_tup (pa_cons pe_int (pa_cons pe_int pa_nil))) pa_nil))) pa_nil))) pa_nil))))
      (pss_cons (ps_set (i := 6) sc__law_long_right.nd rfl (Or.inl rfl) (pe_callTy call_list_of (by rfl) T.list_ (by decide +kernel) (pa_cons (pv 1) pa_nil)))
      (pss_one (ps_ret (pe_and (pcall d_law_right hr (pa_cons (pv 1) (pa_cons (pv 5) (pa_cons (pv 3) (pa_cons (pv 2) (pa_cons (pcall d_law_told hr (pa_cons (pv 6) (pa_cons (pv 5) (pa_cons (pv 3) (pa_cons (pv 2) pa_nil))))) pa_nil)))))) (pe_one (pcall d_law_same hr (pa_cons (pv 6) (pa_cons (pv 1) pa_nil))))))))))))), ?_⟩
  have t2 : (2 : Int) < 2 ^ 64 := by decide
  (walk_at "vk_vc")
  · exact Nat.le_refl _
  intro D us c H1 B hl ok cz
  have S1 := B.1
  have f1 := B.2.1
  have nDs := B.2.2.1
  have hT : Ct K H1 D us c := ⟨B.at, B.2.2.2.2.2.2⟩
  have hul := B.len
  replace hl : c.length = 40 := hl
  have hraw := hT.1
  have hD : SqL K H1 D us := SqL.of hraw
  clear B
  have eA : cutV us (some 37) none = us.drop 37 := cutV_drop (n := 37) (by omega)
  have eB : cutV us none (some 3) = us.take 3 := cutV_take (n := 3) (by omega)
  have lA0 : 0 < (cutV us (some 37) none).length := by rw [eA, List.length_drop]; omega
  have lA1 : (cutV us (some 37) none).length < 2 ^ 32 := by rw [eA, List.length_drop]; omega
  have lB0 : 0 < (cutV us none (some 3)).length := by rw [eB, List.length_take]; omega
  have lB1 : (cutV us none (some 3)).length < 2 ^ 32 := by rw [eB, List.length_take]; omega
  have mA : ∀ v, v ∈ cutV us (some 37) none → v ∈ us := fun v h => by rw [eA] at h; exact List.mem_of_mem_drop h
  have mB : ∀ v, v ∈ cutV us none (some 3) → v ∈ us := fun v h => by rw [eB] at h; exact List.mem_of_mem_take h
  clear eA eB
  have got : ∀ v G, v ∈ us → Fr s H1 G → ∃ (pa psa : Addr) (pv pr : V) (pp : Pc), v = .ref pa ∧ SqT K G pa [.ref psa, pv, pr] ∧ Rq K G (.ref psa) pp.s ∧ SqT K G psa [.int pp.s.num, .int (pp.s.den : Int)] ∧ Sz 245 pp.s := fun v G hv e => by
    obtain ⟨pp, hm, pq⟩ := pick_pc hT.2 hv
    obtain ⟨pa, ps, pv, pr, rfl, h1, h2, h3, h4⟩ := pq.fr e S1.some
    obtain ⟨psa, rfl, h5⟩ := id h2
    exact ⟨pa, psa, pv, pr, pp, rfl, h1, h2, h5, (cz pp hm).1⟩
  have tC := tree_c 1 (c := c) (by omega)
  have bl : true = true → 5 ≤ 45 := fun _ => by decide
  have bl' : false = true → 5 ≤ 45 := nofun
  have bi : (245 : Nat) ≤ 300 := by decide
  have b5 : (5 : Nat) ≤ 45 := by decide
  have bj : 925 + 5 + 256 + 245 + 5 + 3 ≤ 4150 := by decide
  have bm : (256 : Nat) ≤ 300 := by decide
  (walk_at "vk_vc")
  all_goals (
    intro v G hv S e
    obtain ⟨pa, psa, pv, pr, pp, rfl, g1, g2, g3, g4⟩ := got v G (by first | exact mA _ hv | exact mB _ hv) (by focus (walk_at "vk_fr"))
    first | rw [decide_eq_true gc] | rw [decide_eq_false gc]
    (walk_at "vk_vc")
    intro v2 G2 hv2 S2 e2
    have : ∃ q, Rq K G2 v2 q ∧ Sz 10 q := by
      simp only [List.mem_cons, List.not_mem_nil, or_false] at hv2
      rcases hv2 with rfl | rfl <;> (apply Exists.intro; apply And.intro; (walk_at "vk_vc"); all_goals first | exact zl01 | exact zl1m)
    obtain ⟨q2, rq2, zq2⟩ := this
    obtain ⟨q2a, rfl, hq2a⟩ := id rq2
    have zz2 : Sz (245 + 10 + 1) (pp.s + q2) := g4.add zq2
    (walk_at "vk_vc"))
  all_goals (
    intro tt G3 e3 rt
    have rt' := rt
    (walk_at "vk_vc"))
  all_goals (refine z _ ?_ ?_ <;> ((walk_at "vk_vc"); done))
end Vk

set_option maxHeartbeats 4000000
namespace Vk
open PySem L2 Vm Vl
variable {l aZERO aONE CB CR CV fB fR : Addr} {P : Program} {w : World} {K : PySem.W.Frag} {mg : Str → Option Value} {base : Heap} {k : Nat} {f f1 f2 f3 f4 f5 f6 f7 f8 f9 f10 f11 f12 f13 f14 f15 f16 f17 : Addr} {fd fd1 fd2 fd3 fd4 fd5 fd6 fd7 fd8 fd9 fd10 fd11 fd12 fd13 fd14 fd15 fd16 fd17 : FuncData}
/-! ### a jump of nothing at a piece's start -/
theorem stl_self {a b : List Pc} {p : Pc} (asc : AscP (a ++ p :: b)) : pcAt (a ++ p :: b) p.s = some p ∧ stl (a ++ p :: b) p.s 0 p = a ++ p :: b := by
  obtain ⟨_, h2, h3⟩ := List.pairwise_append.mp asc
  have ha : ∀ x ∈ a, x.s < p.s := fun x hx => h3 x hx p List.mem_cons_self
  have hb : ∀ x ∈ b, p.s < x.s := (List.pairwise_cons.mp h2).1
  constructor
  · unfold pcAt
    have gb : b.filter (on p.s) = [] := List.filter_eq_nil_iff.mpr fun x hx => by have := hb x hx; simp [on, this]
    rw [List.filter_append, List.filter_cons_of_pos (by simp [on, Rat.lt_irrefl]), gb]
    simp
  · have e1 : ahd (a ++ p :: b) p.s = a := by
      unfold ahd
      have ga : a.filter (fun x => decide (x.s < p.s)) = a := List.filter_eq_self.mpr fun x hx => decide_eq_true (ha x hx)
      have gb : b.filter (fun x => decide (x.s < p.s)) = [] := List.filter_eq_nil_iff.mpr fun x hx => by have := hb x hx; simp; grind
      rw [List.filter_append, List.filter_cons_of_neg (by simp [Rat.lt_irrefl]), ga, gb]
      simp
    have e2 : bhd (a ++ p :: b) p.s 0 = b := by
      unfold bhd
      rw [List.filterMap_append, List.filterMap_cons, if_neg Rat.lt_irrefl]
      have g1 : a.filterMap (fun x : Pc => if p.s < x.s then some (⟨x.s, x.v + 0, x.r⟩ : Pc) else none) = [] := List.filterMap_eq_nil_iff.mpr fun x hx => by rw [if_neg (by have := ha x hx; grind)]
      have g2 : b.filterMap (fun x : Pc => if p.s < x.s then some (⟨x.s, x.v + 0, x.r⟩ : Pc) else none) = b := by
        clear asc h2 h3 e1
        induction b with
        | nil => rfl
        | cons x b ih =>
          rw [List.filterMap_cons, if_pos (hb x List.mem_cons_self), ih fun y hy => hb y (List.mem_cons_of_mem _ hy), Rat.add_zero]
      rw [g1, g2]
      rfl
    unfold stl
    rw [e1, e2]
    have : vl p.s p + 0 = p.v := by unfold vl; grind
    rw [this]
    simp
theorem stl_at {c : List Pc} {n : Nat} {p : Pc} (ok : Cok c) (h : c[n]? = some p) : pcAt c p.s = some p ∧ stl c p.s 0 p = c := by
  have lt := (List.getElem?_eq_some_iff.mp h).1
  have e : c = c.take n ++ p :: c.drop (n + 1) := by
    have := List.take_append_drop n c
    rw [List.drop_eq_getElem_cons lt, (List.getElem?_eq_some_iff.mp h).2] at this
    exact this.symm
  have asc := ascP_of ok
  rw [e] at asc ⊢
  exact stl_self asc
def spLaw (K : PySem.W.Frag) : Sp := fun vs H Q _ => ∃ (a : Addr) (ns : List Int), vs = [.ref a] ∧ SqL K H a (ns.map V.int) ∧ ns.length ≤ 63 ∧ ∀ H', Q (.bl true) H'
/-- the course that is changed, and its bounds -/
structure Wf (K : PySem.W.Frag) (l s : Addr) (i j n : Nat) (D : Addr) (us : List V) (c : List Pc) (H : Hp) : Prop where
  S : Sto l s H
  ne : D ≠ s
  t : Ct K H D us c
  ok : Cok c
  cz : Cz i j 5 c
  l1 : 1 ≤ c.length
  l2 : c.length ≤ n
abbrev s_law : Stmt := top 62
abbrev N_law : List Str := ["_law_script", "_law_store_here", "_law_many", "_law_first", "_law_second", "_law_t", "_law_pace_here", "_law_other", "_law_slews", "_law_by", "_law_told_here"]
theorem sc_law : FnScope N_law ["_law_script"] (defScope s_law) := ⟨rfl, rfl, rfl, by decide +kernel, rfl, by decide +kernel, by decide +kernel⟩
abbrev ps_law : List Str := ["_law_script"]
theorem ok_law (T : Bn mg) (F : Fn K mg "law" s_law ps_law f fd) (d_law_store : Def P w K mg base k "_law_store" ["_law_script"] (spStore K) f1 fd1) (d_law_take : ∀ l, Def P w K mg base k "_law_take" ["_law_store_here", "_law_many"] (spTake K l) f2 fd2) (d_law_size : ∀ l, Def P w K mg base k "_law_size" ["_law_store_here", "_law_least", "_law_top"] (spSize K l) f3 fd3)
    (d_law_course : ∀ l, Def P w K mg base k "_law_course" ["_law_store_here", "_law_many", "_law_fall"] (spCourse K l) f4 fd4) (d_law_wide_course : ∀ l, Def P w K mg base k "_law_wide_course" ["_law_store_here"] (spWide K l) f5 fd5) (d_law_when : ∀ l, Def P w K mg base k "_law_when" ["_law_store_here", "_law_course_here", "_law_wide"] (spWhen K l) f6 fd6)
    (d_law_some_rate : ∀ l, Def P w K mg base k "_law_some_rate" ["_law_store_here", "_law_course_here"] (spSR K l) f7 fd7) (d_law_both_right : Def P w K mg base k "_law_both_right" ["_law_course_here", "_law_t", "_law_pace_here", "_law_jump"] (spBoth K) f8 fd8) (d_law_some_jump : ∀ l, Def P w K mg base k "_law_some_jump" ["_law_store_here", "_law_course_here", "_law_t"] (spSJ K l) f9 fd9)
    (d_law_part : ∀ l, Def P w K mg base k "_law_part" ["_law_store_here"] (spDraw K l 5 anyQ) f10 fd10) (d_law_above : ∀ l, Def P w K mg base k "_law_above" ["_law_store_here"] (spDraw K l 5 posQ) f11 fd11) (d_law_told : Def P w K mg base k "_law_told" ["_law_course_here", "_law_t", "_law_by", "_law_slews"] (spTold2 K) f12 fd12)
    (d_law_right : Def P w K mg base k "_law_right" ["_law_course_here", "_law_t", "_law_by", "_law_slews", "_law_told_here"] (spRight2 K) f13 fd13) (d_law_same : Def P w K mg base k "_law_same" ["_law_value", "_law_due"] (spSame K 4) f14 fd14) (dstepped : DefY P w K mg base k "stepped" ["course", "t", "jump"] (spStep K CB) f15 fd15)
    (d_law_long_right : ∀ l, Def P w K mg base k "_law_long_right" ["_law_store_here"] (spLong K l) f16 fd16) : Def P w K mg base (k + 1) "law" ps_law (spLaw K) f fd := by
  have d_law_take := Def.ex d_law_take
  have d_law_size := Def.ex d_law_size
  have d_law_course := Def.ex d_law_course
  have d_law_wide_course := Def.ex d_law_wide_course
  have d_law_when := Def.ex d_law_when
  have d_law_some_rate := Def.ex d_law_some_rate
  have d_law_some_jump := Def.ex d_law_some_jump
  have d_law_part := Def.ex d_law_part
  have d_law_above := Def.ex d_law_above
  have d_law_long_right := Def.ex d_law_long_right
  refine ⟨F.F.ok sc_law (fun vs H Q E h => ?_) (fun cdv A outer s H vs Q E hr h => ?_), F.m, F.F.kp, F.b⟩
  · obtain ⟨_, _, rfl, _⟩ := h
    rfl
  obtain ⟨sa, ns, rfl, hS, hl, z⟩ := h
  refine ⟨_, (pss_cons (ps_set (i := 1) sc_law.nd rfl (Or.inl rfl) (pcall d_law_store hr (pa_cons (pv 0) pa_nil)))
      (pss_cons (ps_set (i := 2) sc_law.nd rfl (Or.inl rfl) (pe_op op_add pe_int (pcall d_law_take hr (pa_cons (pv 1) (pa_cons pe_int pa_nil)))))
      (pss_cons (ps_if (pt_cmpR op_eq (pcall d_law_take hr (pa_cons (pv 1) (pa_cons pe_int pa_nil))) pe_int (nomark _))
        (pss_one (ps_set (i := 2) sc_law.nd rfl (Or.inl rfl) (pcall d_law_size hr (pa_cons (pv 1) (pa_cons pe_int (pa_cons pe_int pa_nil))))))
        pss_nil)
      (pss_cons (ps_set (i := 3) sc_law.nd rfl (Or.inl rfl) (pcall d_law_course hr (pa_cons (pv 1) (pa_cons (pv 2) (pa_cons pe_bl pa_nil)))))
      (pss_cons (ps_set (i := 4) sc_law.nd rfl (Or.inl rfl) (pcall d_law_wide_course hr (pa_cons (pv 1) pa_nil)))
      (pss_cons (ps_set (i := 5) sc_law.nd rfl (Or.inl rfl) (pcall d_law_when hr (pa_cons (pv 1) (pa_cons (pv 3) (pa_cons pe_bl pa_nil)))))
      (pss_cons (ps_set (i := 6) sc_law.nd rfl (Or.inl rfl) (pcall d_law_some_rate hr (pa_cons (pv 1) (pa_cons (pv 3) pa_nil))))
      (pss_cons (ps_if (pt_not (pt_val (pcall d_law_both_right hr (pa_cons (pv 3) (pa_cons (pv 5) (pa_cons (pv 6) (pa_cons (pcall d_law_some_jump hr (pa_cons (pv 1) (pa_cons (pv 3) (pa_cons (pv 5) pa_nil)))) pa_nil)))))))
        (pss_one (ps_ret pe_bl))
        pss_nil)
      (pss_cons (ps_set (i := 7) sc_law.nd rfl (Or.inl rfl) (pcall d_law_when hr (pa_cons (pv 1) (pa_cons (pv 4) (pa_cons pe_bl pa_nil)))))
      (pss_cons (ps_if (pt_not (pt_val (pcall d_law_both_right hr (pa_cons (pv 4) (pa_cons (pv 7) (pa_cons (pcall d_law_some_rate hr (pa_cons (pv 1) (pa_cons (pv 4) pa_nil))) (pa_cons (pcall d_law_part hr (pa_cons (pv 1) pa_nil)) pa_nil)))))))
        (pss_one (ps_ret pe_bl))
        pss_nil)
      (pss_cons (ps_for PassesOwn.never rfl (pi_list (pe_lst (pa_cons pe_bl (pa_cons pe_bl (pa_cons pe_bl pa_nil))))) (pg_name (i := 8) sc_law.nd rfl (Or.inl rfl))
        (pss_cons (ps_set (i := 9) sc_law.nd rfl (Or.inl rfl) (pe_ifExp (pt_val (pv 8)) (pcall d_law_above hr (pa_cons (pv 1) pa_nil)) (pcall d_law_part hr (pa_cons (pv 1) pa_nil))))
        (pss_cons (ps_set (i := 5) sc_law.nd rfl (Or.inl rfl) (pcall d_law_when hr (pa_cons (pv 1) (pa_cons (pv 3) (pa_cons pe_bl pa_nil)))))
        (pss_cons (ps_if (pt_cmpR op_ge (pe_callB (call_max2 rfl) (by rfl) T.max_ (by decide +kernel) (pa_cons (pe_callB call_abs (by rfl) T.abs_ (by decide +kernel) (pa_cons (pe_ix ix_tup (pv 5) pe_int (fun _ _ => rfl)) pa_nil)) (pa_cons (pe_ix ix_tup (pv 5) pe_int (fun _ _ => rfl)) pa_nil))) (pe_op op_pow pe_int pe_int) (nomark _))
          (pss_one (ps_set (i := 5) sc_law.nd rfl (Or.inl rfl) (pe_ix ix_tup (pe_ix ix_list (pv 3) pe_int (fun _ _ => rfl)) pe_int (fun _ _ => rfl))))
          pss_nil)
        (pss_cons (ps_set (i := 10) sc_law.nd rfl (Or.inl rfl) (pcall d_law_told hr (pa_cons (pv 3) (pa_cons (pv 5) (pa_cons (pv 9) (pa_cons (pv 8) pa_nil))))))
        (pss_cons (ps_if (pt_not (pt_val (pcall d_law_right hr (pa_cons (pv 3) (pa_cons (pv 5) (pa_cons (pv 9) (pa_cons (pv 8) (pa_cons (pv 10) pa_nil))))))))
          (pss_one (ps_ret pe_bl))
          pss_nil)
        (pss_one (ps_if (pt_cmpR (op_eqD hr.units) (pe_ix ix_tup (pv 10) pe_int (fun _ _ => rfl)) pe_str (nomark _))
          (pss_one (ps_set (i := 3) sc_law.nd rfl (Or.inl rfl) (pe_ix ix_tup (pv 10) pe_int (fun _ _ => rfl))))
          pss_nil))))))))
      (pss_cons (ps_if (pt_not (pt_val (pcall d_law_same hr (pa_cons (pcallYL dstepped hr (pa_cons (pv 3) (pa_cons (pe_ix ix_tup (pe_ix ix_list (pv 3) pe_int (fun _ _ => rfl)) pe_int (fun _ _ => rfl)) (pa_cons (pe_tup (pa_cons pe_int (pa_cons pe_int pa_nil))) pa_nil)))) (pa_cons (pcallYL dstepped hr (pa_cons (pv 3) (pa_cons (pe_ix ix_tup (pe_ix ix_list (pv 3) (pe_op op_sub (pe_callB call_len_seq (by rfl) T.len_ PySem.boot_len (pa_cons (pv 3) pa_nil)) pe_int) (fun _ _ => rfl)) pe_int (fun _ _ => rfl)) (pa_cons (pe_tup (pa_cons pe_int (pa_cons pe_int pa_nil))) pa_nil)))) pa_nil)))))
        (pss_one (ps_ret pe_bl))
        pss_nil)
      (pss_one (ps_ret (pe_or (pe_cmpR op_eq (pcall d_law_take hr (pa_cons (pv 1) (pa_cons pe_int pa_nil))) pe_int (nomark _)) (pe_one (pcall d_law_long_right hr (pa_cons (pv 1) pa_nil)))))))))))))))))), ?_⟩
  have t5 : (5 : Int) < 2 ^ 64 := by decide
  have t8 : (8 : Int) < 2 ^ 64 := by decide
  have t2 : (2 : Int) < 2 ^ 64 := by decide
  have t712 : (12 : Int) - 7 < 2 ^ 32 := by decide
  (walk_at "vk_vc")
  intro s l H1 e1 _ S1
  refine ⟨_, rfl, l, s, 5, rfl, S1, by decide, fun r5 H2 r50 r51 S2 e2 => ⟨_, _, rfl, rfl, ?_⟩⟩
  dsimp only [gName]
  refine cut (fun σ' G => ∃ m : Nat, σ' = [some (.ref sa), some (.ref s), some (.int m), none, none, none, none, none, none, none, none] ∧ 1 ≤ m ∧ m ≤ 12 ∧ Sto l s G) ?_ ?_
  · rintro σ H3 ⟨m, rfl, m1, m2, S3⟩
    have m40 : m ≤ 40 := by omega
    (walk_at "vk_vc")
    intro D us c H4 B hlc ok cz
    have S4 := B.1
    have nDs := B.2.2.1
    have hT : Ct K H4 D us c := ⟨B.at, B.2.2.2.2.2.2⟩
    clear B
    (walk_at "vk_vc")
    intro D2 us2 c2 H5 B2 h21 h22 ok2 cz2
    have S5 := B2.1
    have e5 := B2.2.1
    have nD2s := B2.2.2.1
    have hT2 : Ct K H5 D2 us2 c2 := ⟨B2.at, B2.2.2.2.2.2.2⟩
    clear B2
    replace hT := hT.fr e5 S4.some nDs
    clear e5 e1 S1 S2 S3 S4 e2
    have l1 : 1 ≤ c.length := by omega
    have l2 : c.length ≤ 40 := by omega
    have l3 : c.length ≤ 900 := by omega
    have l4 : c2.length ≤ 900 := by omega
    (walk_at "vk_vc")
    intro ta t H6 ht zt S6 e6
    replace hT := hT.fr e6 S5.some nDs
    replace hT2 := hT2.fr e6 S5.some nD2s
    clear S5 e6
    (walk_at "vk_vc")
    intro pa pq H7 hp zp S7 e7
    replace hT := hT.fr e7 S6.some nDs
    replace hT2 := hT2.fr e7 S6.some nD2s
    replace ht := ht.fr e7 S6.some
    clear S6 e7
    (walk_at "vk_vc")
    intro ja jq H8 hj zj S8 e8
    replace hT := hT.fr e8 S7.some nDs
    replace hT2 := hT2.fr e8 S7.some nD2s
    replace ht := ht.fr e8 S7.some
    replace hp := hp.fr e8 S7.some
    clear S7 e8
    (walk_at "vk_vc")
    replace hT := hT.same e
    replace hT2 := hT2.same e
    replace S8 := S8.same e
    clear e ht hp hj
    intro oa oq H9 ho zo S9 e9
    replace hT := hT.fr e9 S8.some nDs
    replace hT2 := hT2.fr e9 S8.some nD2s
    clear S8 e9
    (walk_at "vk_vc")
    intro ra rq H10 hr2 zr S10 e10
    replace hT := hT.fr e10 S9.some nDs
    replace hT2 := hT2.fr e10 S9.some nD2s
    replace ho := ho.fr e10 S9.some
    clear S9 e10
    (walk_at "vk_vc")
    have SL := (S.same e).same (same_new np (.lst [.bl false, .bl true, .bl false]))
    have hT0 : Ct K H' D us c := by focus (walk_at "vk_cl")
    have hTL := hT0.same (same_new np (.lst [.bl false, .bl true, .bl false]))
    have hL : (upd H' p (.lst [.bl false, .bl true, .bl false])) p = some (.lst [.bl false, .bl true, .bl false]) := upd_same
    have nps := (S.same e).ne np
    have i0 : Wf K l s 245 925 12 D us c (upd H' p (.lst [.bl false, .bl true, .bl false])) := ⟨SL, nDs, hTL, ok, cz, l1, by omega⟩
    generalize upd H' p (.lst [.bl false, .bl true, .bl false]) = H11 at hL i0 ⊢
    clear SL hT0 hTL np S e h h' hr2 ho hT hT2 S10 ok cz l1 l2 l3 hlc cz2 ok2 nDs nD2s
    clear e
    refine forL (K := K) (a := p) (xs := [.bl false, .bl true, .bl false]) (fun i σ G => Hold (∃ D us c k2 k4 k5 k6 k7 k8 k9 k10, σ = [some (.ref sa), some (.ref s), k2, some (.ref D), k4, k5, k6, k7, k8, k9, k10] ∧ Wf K l s (245 + 11 * i) (925 + 560 * i) (12 + i) D us c G ∧ G p = some (.lst [.bl false, .bl true, .bl false])))
      ⟨D, us, c, _, _, _, _, _, _, _, _, rfl, i0, hL⟩ (fun i σ G _ h => by obtain ⟨_, _, _, _, _, _, _, _, _, _, _, _, _, h⟩ := h; exact SqL.of h) ?_ ?_
    · rintro i x σ G hx ⟨D, us, c, k2, k4, k5, k6, k7, k8, k9, k10, rfl, W, hp⟩
      have hi : i < 3 := (List.getElem?_eq_some_iff.mp hx).1
      obtain ⟨sl, rfl⟩ : ∃ sl, x = .bl sl := by
        have := List.mem_of_getElem? hx
        simp only [List.mem_cons, List.not_mem_nil, or_false] at this
        rcases this with rfl | rfl | rfl <;> exact ⟨_, rfl⟩
      clear hx
      have gi : 245 + 11 * i ≤ 267 := by omega
      have gi40 : 40 ≤ 245 + 11 * i := by omega
      have gj : 925 + 560 * i ≤ 2045 := by omega
      have gL : 12 + i ≤ 14 := by omega
      have nI : 245 + 11 * (i + 1) = 245 + 11 * i + 11 := by omega
      have nJ : 925 + 560 * (i + 1) = 925 + 560 * i + 560 := by omega
      have nL : 12 + (i + 1) = 12 + i + 1 := by omega
      rw [nI, nJ, nL]
      clear nI nJ nL hi
      generalize 245 + 11 * i = i0 at W gi gi40 ⊢
      generalize 925 + 560 * i = j0 at W gj ⊢
      generalize 12 + i = n0 at W gL ⊢
      obtain ⟨S, nD, hT, ok, cz, l1, l2⟩ := W
      have hnp : p ≠ s := nps
      have bi : i0 ≤ i0 + 11 := by omega
      have bm : i0 + 11 ≤ i0 + 11 := Nat.le_refl _
      have bj : j0 + 5 + (i0 + 11) + i0 + 5 + 3 ≤ j0 + 560 := by omega
      have b5 : (5 : Nat) ≤ 5 := Nat.le_refl _
      have bl : sl = true → 5 ≤ 5 := fun _ => Nat.le_refl _
      have bI : i0 + 11 ≤ 300 := by omega
      have bJ : j0 + 560 ≤ 4150 := by omega
      have l900 : c.length ≤ 900 := by omega
      have hs := S.some
      have i289 : i0 ≤ 289 := by omega
      cases sl with
      | true =>
        (walk_at "vk_vc")
        intro ta2 t2 H12 ht2 zt2 S12 e12
        have hs' := S.some
        have e02 := e.trans e12
        replace hT := hT.fr e02 hs nD
        replace hp := e02 _ _ hp hnp
        have hb := h.fr e12 hs'
        obtain ⟨_, e', hta⟩ := id ht2
        cases e'
        have hc := hT.2
        have e0 : c[0]? = some c[0] := List.getElem?_eq_getElem (by omega)
        obtain ⟨x0, hx0, p0⟩ := hc.at e0
        obtain ⟨d0, ds0, dv0, dr0, rfl, hd0, r01, r02, r03⟩ := id p0
        have zf : Sz (i0 + 11) c[0].s := (cz _ (List.mem_of_getElem? e0)).1.mono (by omega)
        have i0x : atI us 0 = some (.ref d0) := at0 hx0
        have hxs : SqL K H12 D us := SqL.of hT.1
        obtain ⟨dsa, rfl, hdsa⟩ := id r01
        generalize c[0] = pf at e0 p0 r01 r02 r03 zf hdsa
        clear S e h h' e12 e02 hs' i289 gi gi40
        have fin1 : ∀ G', Same H12 G' → Wf K l s (i0 + 11) (j0 + 560) (n0 + 1) D us c G' := fun G' e' => ⟨S12.same e', nD, hT.same e', ok, fun x hx => ⟨(cz x hx).1.mono (by omega), (cz x hx).2.1.mono (by omega), (cz x hx).2.2⟩, l1, by omega⟩
        have fin2 : ∀ (G1 G' : Hp) (tq : Rat) (pp : Pc) (D' : Addr) (us' : List V), H12 D' = none → Same H12 G' → pcAt c tq = some pp → (true = true → 0 < q) → Ct K G1 D' us' (tl (chL true c tq q pp)) → Same G1 G' → Cz (i0 + 11) (j0 + 560) 5 (chL true c tq q pp) → Wf K l s (i0 + 11) (j0 + 560) (n0 + 1) D' us' (tl (chL true c tq q pp)) G' := fun G1 G' tq pp D' us' g1 g2 g3 g4 g5 g6 g7 =>
          ⟨S12.same g2, S12.ne g1, g5.same g6, cok_tl (cok_ch ok g3 g4), cz_tl g7, tl_pos (by have := (len_ch (c := c) (t := tq) (q := q) (p := pp) (sl := true)).1; omega), by have h2 := (tl_sub (chL true c tq q pp)).length_le; have h3 := len_ch1 (c := c) (t := tq) (q := q) (p := pp) (sl := true); omega⟩
        (walk_at "vk_vc")
        all_goals (
          intro tt G2 e2 rt
          have rt' := rt
          rcases rt with ⟨hn, ht⟩ | ⟨_, _, hq, ht⟩ | ⟨pp, D', us', hp', hq, nD', ht, hD', czL⟩
          · (walk_at "vk_vc")
            all_goals first | exact ⟨⟨_, _, _, _, _, _, _, _, _, _, _, rfl, fin1 _ (by (walk_at "vk_same")), by (walk_at "vk_raw")⟩⟩
          · (walk_at "vk_vc")
            all_goals first | exact ⟨⟨_, _, _, _, _, _, _, _, _, _, _, rfl, fin1 _ (by (walk_at "vk_same")), by (walk_at "vk_raw")⟩⟩
          · (walk_at "vk_vc")
            all_goals first | exact ⟨⟨_, _, _, _, _, _, _, _, _, _, _, rfl, fin2 _ _ _ _ _ _ nD' (by (walk_at "vk_same")) hp' hq hD' (by (walk_at "vk_same")) czL, by (walk_at "vk_raw")⟩⟩)
      | false =>
        (walk_at "vk_vc")
        intro ta2 t2 H12 ht2 zt2 S12 e12
        have hs' := S.some
        have e02 := e.trans e12
        replace hT := hT.fr e02 hs nD
        replace hp := e02 _ _ hp hnp
        have hb := h.fr e12 hs'
        obtain ⟨_, e', hta⟩ := id ht2
        cases e'
        have hc := hT.2
        have e0 : c[0]? = some c[0] := List.getElem?_eq_getElem (by omega)
        obtain ⟨x0, hx0, p0⟩ := hc.at e0
        obtain ⟨d0, ds0, dv0, dr0, rfl, hd0, r01, r02, r03⟩ := id p0
        have zf : Sz (i0 + 11) c[0].s := (cz _ (List.mem_of_getElem? e0)).1.mono (by omega)
        have i0x : atI us 0 = some (.ref d0) := at0 hx0
        have hxs : SqL K H12 D us := SqL.of hT.1
        obtain ⟨dsa, rfl, hdsa⟩ := id r01
        generalize c[0] = pf at e0 p0 r01 r02 r03 zf hdsa
        clear S e h h' e12 e02 hs' i289 gi gi40
        have fin1 : ∀ G', Same H12 G' → Wf K l s (i0 + 11) (j0 + 560) (n0 + 1) D us c G' := fun G' e' => ⟨S12.same e', nD, hT.same e', ok, fun x hx => ⟨(cz x hx).1.mono (by omega), (cz x hx).2.1.mono (by omega), (cz x hx).2.2⟩, l1, by omega⟩
        have fin2 : ∀ (G1 G' : Hp) (tq : Rat) (pp : Pc) (D' : Addr) (us' : List V), H12 D' = none → Same H12 G' → pcAt c tq = some pp → (false = true → 0 < q) → Ct K G1 D' us' (tl (chL false c tq q pp)) → Same G1 G' → Cz (i0 + 11) (j0 + 560) 5 (chL false c tq q pp) → Wf K l s (i0 + 11) (j0 + 560) (n0 + 1) D' us' (tl (chL false c tq q pp)) G' := fun G1 G' tq pp D' us' g1 g2 g3 g4 g5 g6 g7 =>
          ⟨S12.same g2, S12.ne g1, g5.same g6, cok_tl (cok_ch ok g3 g4), cz_tl g7, tl_pos (by have := (len_ch (c := c) (t := tq) (q := q) (p := pp) (sl := false)).1; omega), by have h2 := (tl_sub (chL false c tq q pp)).length_le; have h3 := len_ch1 (c := c) (t := tq) (q := q) (p := pp) (sl := false); omega⟩
        (walk_at "vk_vc")
        all_goals (
          intro tt G2 e2 rt
          have rt' := rt
          rcases rt with ⟨hn, ht⟩ | ⟨_, _, hq, ht⟩ | ⟨pp, D', us', hp', hq, nD', ht, hD', czL⟩
          · (walk_at "vk_vc")
            all_goals first | exact ⟨⟨_, _, _, _, _, _, _, _, _, _, _, rfl, fin1 _ (by (walk_at "vk_same")), by (walk_at "vk_raw")⟩⟩
          · (walk_at "vk_vc")
            all_goals first | exact ⟨⟨_, _, _, _, _, _, _, _, _, _, _, rfl, fin1 _ (by (walk_at "vk_same")), by (walk_at "vk_raw")⟩⟩
          · (walk_at "vk_vc")
            all_goals first | exact ⟨⟨_, _, _, _, _, _, _, _, _, _, _, rfl, fin2 _ _ _ _ _ _ nD' (by (walk_at "vk_same")) hp' hq hD' (by (walk_at "vk_same")) czL, by (walk_at "vk_raw")⟩⟩)
    · rintro σ G ⟨D, us, c, k2, k4, k5, k6, k7, k8, k9, k10, rfl, W, hp⟩
      obtain ⟨S, nD, hT, ok, cz, l1, l2⟩ := W
      replace cz : Cz 300 2700 5 c := fun x hx => ⟨(cz x hx).1.mono (by show 245 + 11 * 3 ≤ 300; decide), (cz x hx).2.1.mono (by show 925 + 560 * 3 ≤ 2700; decide), (cz x hx).2.2⟩
      replace l2 : c.length ≤ 15 := l2
      have hc := hT.2
      have hlx : us.length = c.length := hc.1
      have hxs : SqL K G D us := SqL.of hT.1
      have e0 : c[0]? = some c[0] := List.getElem?_eq_getElem (by omega)
      obtain ⟨x0, hx0, p0⟩ := hc.at e0
      obtain ⟨d0, ds0, dv0, dr0, rfl, hd0, r01, r02, r03⟩ := id p0
      have zf := (cz _ (List.mem_of_getElem? e0)).1
      have i0x : atI us 0 = some (.ref d0) := at0 hx0
      obtain ⟨dsa, rfl, hdsa⟩ := id r01
      generalize c[0] = pf at e0 p0 r01 r02 r03 zf hdsa
      have en : c[c.length - 1]? = some c[c.length - 1] := List.getElem?_eq_getElem (by omega)
      obtain ⟨xn, hxn, pn⟩ := hc.at en
      obtain ⟨dn, dsn, dvn, drn, rfl, hdn, rn1, rn2, rn3⟩ := id pn
      have zn := (cz _ (List.mem_of_getElem? en)).1
      have inx : atI us ((us.length : Int) - 1) = some (.ref dn) := at_of (j := c.length - 1) (by omega) hxn
      obtain ⟨dna, rfl, hdna⟩ := id rn1
      generalize c[c.length - 1] = pl at en pn rn1 rn2 rn3 zn hdna
      obtain ⟨sf1, sf2⟩ := stl_at ok e0
      obtain ⟨sn1, sn2⟩ := stl_at ok en
      have zc : (2700 + 5 + 300 + 300 + 10 + 5 : Nat) ≤ 9000 := by decide
      have l400 : c.length ≤ 400 := by omega
      have tC := tree_c 1 (c := tl c) (by have := (tl_sub c).length_le; omega)
      have zst : ∀ t p', (pcAt c t = some p' → stl c t 0 p' = c) → pcAt c t = some p' → ∃ i' j' l', Cz i' j' l' (stl c t 0 p') ∧ j' + j' + l' + i' + i' + 5 ≤ 9000 := fun t p' g h => ⟨300, 2700, 5, by rw [g h]; exact cz, by decide⟩
      (walk_at "vk_vc")
      · exact fun p' _ h => zst _ p' (fun h => by rw [sf1] at h; cases h; exact sf2) h
      · intro p' _ hpp D1 us1 H1 s1 n1 ct1
        rw [sf1] at hpp
        cases hpp
        rw [sf2] at ct1
        (walk_at "vk_vc")
        · exact fun p' _ h => zst _ p' (fun h => by rw [sn1] at h; cases h; exact sn2) h
        · intro p' _ hpp D3 us3 H3 s3 n3 ct3
          rw [sn1] at hpp
          cases hpp
          rw [sn2] at ct3
          (walk_at "vk_vc")
          · exact z _
          · exact fun H9 _ _ => z H9
        · intro h
          rw [sn1] at h
          cases h
      · intro h
        rw [sf1] at h
        cases h
  · intro key
    refine ⟨_, rfl, l, s, 8, rfl, S2, by decide, fun r8 H3 _ _ S3 e3 => ⟨rfl, _, rfl, ifD (fun _ => ?_) (fun _ => ?_)⟩⟩
    · refine ⟨_, rfl, l, s, 7, 12, rfl, S3, by decide, by decide, fun r H4 r7 r12 S4 e4 => ?_⟩
      obtain ⟨n, rfl⟩ : ∃ n : Nat, r = (n : Int) := ⟨r.toNat, by omega⟩
      exact key _ _ ⟨n, rfl, by omega, by omega, S4⟩
    · refine key _ _ ⟨(1 + r5).toNat, ?_, by omega, by omega, S3⟩
      rw [show (((1 + r5).toNat : Nat) : Int) = 1 + r5 by omega]
      rfl
end Vk

namespace Vk
open PySem L2 Vm Vl
variable {K : PySem.W.Frag} {mg : Str → Option Value}
abbrev CnZERO (K : PySem.W.Frag) (mg : Str → Option Value) (a : Addr) := Cn K mg "ZERO" 0 a
theorem cnZERO {a : Addr} (m : mg "ZERO" = some (.ref a)) (h : ∀ H, SqT K H a [.int 0, .int 1]) : CnZERO K mg a := ⟨m, fun H => ⟨a, rfl, by rw [show (0 : Rat).num = 0 by decide +kernel, show ((0 : Rat).den : Int) = 1 by decide +kernel]; exact h H⟩⟩
theorem kit_self {C : Addr} : PySem.W.kitOne K (.ref C) (.ref C) = some true := by
  unfold PySem.W.kitOne
  rw [if_pos (beq_self_eq_true _)]
theorem kit_ty2 {C : Addr} {T : String} (m : PySem.W.kitMeta T = true) (h : PySem.W.subIn K (.ref C) (.type T) = some true) : PySem.W.kitOne K (.ref C) (.type T) = some true := by
  have e : (Value.ref C == Value.type T) = false := beq_false_of_ne nofun
  unfold PySem.W.kitOne PySem.W.kitCls
  rw [e, if_neg Bool.false_ne_true]
  dsimp only
  rw [if_pos m]
  exact h
end Vk

namespace Vk
open PySem PySem.Calls PySem.HandSPX L2 Vm Vl

theorem law_ok {P : Program} {w : World} {K : PySem.W.Frag} {mg : Str → Option Value} {base : Heap} {f_rational : Addr} {fd_rational : FuncData} {f_add : Addr} {fd_add : FuncData} {f_subtract : Addr} {fd_subtract : FuncData} {f_multiply : Addr} {fd_multiply : FuncData} {f_negate : Addr} {fd_negate : FuncData} {f_compare : Addr} {fd_compare : FuncData} {f__shown_by : Addr} {fd__shown_by : FuncData} {f__place_at : Addr} {fd__place_at : FuncData} {f__piece_at : Addr} {fd__piece_at : FuncData} {f_shown_at : Addr} {fd_shown_at : FuncData} {f__jump_at : Addr} {fd__jump_at : FuncData} {f_tidy : Addr} {fd_tidy : FuncData} {f__ahead_of : Addr} {fd__ahead_of : FuncData} {f_slewed : Addr} {fd_slewed : FuncData} {f_stepped : Addr} {fd_stepped : FuncData} {f__law_store : Addr} {fd__law_store : FuncData} {f__law_feed : Addr} {fd__law_feed : FuncData} {f__law_mixed : Addr} {fd__law_mixed : FuncData} {f__law_take : Addr} {fd__law_take : FuncData} {f__law_pick : Addr} {fd__law_pick : FuncData} {f__law_size : Addr} {fd__law_size : FuncData} {f__law_is_int : Addr} {fd__law_is_int : FuncData} {f__law_same : Addr} {fd__law_same : FuncData} {f__law_frac : Addr} {fd__law_frac : FuncData} {f__law_plus : Addr} {fd__law_plus : FuncData} {f__law_minus : Addr} {fd__law_minus : FuncData} {f__law_times : Addr} {fd__law_times : FuncData} {f__law_below : Addr} {fd__law_below : FuncData} {f__law_is_frac : Addr} {fd__law_is_frac : FuncData} {f__law_ratio : Addr} {fd__law_ratio : FuncData} {f__law_part : Addr} {fd__law_part : FuncData} {f__law_above : Addr} {fd__law_above : FuncData} {f__law_ordered : Addr} {fd__law_ordered : FuncData} {f__law_probes : Addr} {fd__law_probes : FuncData} {f__law_pace : Addr} {fd__law_pace : FuncData} {f__law_course : Addr} {fd__law_course : FuncData} {f__law_alone : Addr} {fd__law_alone : FuncData} {f__law_wide_course : Addr} {fd__law_wide_course : FuncData} {f__law_now : Addr} {fd__law_now : FuncData} {f__law_is_course : Addr} {fd__law_is_course : FuncData} {f__law_is_tidy : Addr} {fd__law_is_tidy : FuncData} {f__law_told : Addr} {fd__law_told : FuncData} {f__law_right : Addr} {fd__law_right : FuncData} {f__law_when : Addr} {fd__law_when : FuncData} {f__law_some_rate : Addr} {fd__law_some_rate : FuncData} {f__law_some_jump : Addr} {fd__law_some_jump : FuncData} {f__law_both_right : Addr} {fd__law_both_right : FuncData} {f__law_long_right : Addr} {fd__law_long_right : FuncData} {f_law : Addr} {fd_law : FuncData} (T : Bn mg) {aZERO : Addr} (ZZERO : CnZERO K mg aZERO)
    (h_rational : FunA K "rational" "rational" s_rational f_rational fd_rational) (m_rational : mg "rational" = some (.ref f_rational)) (b_rational : Binds K fd_rational ps_rational [])
    {C_BeforeStart fi_BeforeStart : Addr}
    {C_BadRate fi_BadRate : Addr}
    {C_VerdictError : Addr}
    {C_BadBound : Addr}
    {C_TurnsBack : Addr}
    {C_EmptySpan : Addr}
    {C_OutsideSpan : Addr}
    {C_ZeroDivisor : Addr}
    (TBeforeStart : PySem.ValX.ValTxt K mg "BeforeStart" C_BeforeStart fi_BeforeStart)
    (TBadRate : PySem.ValX.ValTxt K mg "BadRate" C_BadRate fi_BadRate)
    (EBeforeStart : ExcC K C_BeforeStart)
    (EBadRate : ExcC K C_BadRate)
    (GVerdictError : mg "VerdictError" = some (.ref C_VerdictError))
    (GBadBound : mg "BadBound" = some (.ref C_BadBound))
    (GTurnsBack : mg "TurnsBack" = some (.ref C_TurnsBack))
    (GEmptySpan : mg "EmptySpan" = some (.ref C_EmptySpan))
    (GOutsideSpan : mg "OutsideSpan" = some (.ref C_OutsideSpan))
    (GZeroDivisor : mg "ZeroDivisor" = some (.ref C_ZeroDivisor))
    (Ie_BeforeStart_VerdictError : PySem.W.exmOne K (.ref C_BeforeStart) (.ref C_VerdictError) = some true)
    (Ie_BadRate_VerdictError : PySem.W.exmOne K (.ref C_BadRate) (.ref C_VerdictError) = some true)
    (Ik_BeforeStart_BadRate : PySem.W.kitOne K (.ref C_BeforeStart) (.ref C_BadRate) = some false)
    (Ik_BadRate_BeforeStart : PySem.W.kitOne K (.ref C_BadRate) (.ref C_BeforeStart) = some false)
    (Ik_BeforeStart_BadBound : PySem.W.kitOne K (.ref C_BeforeStart) (.ref C_BadBound) = some false)
    (Ik_BeforeStart_TurnsBack : PySem.W.kitOne K (.ref C_BeforeStart) (.ref C_TurnsBack) = some false)
    (Ik_BeforeStart_EmptySpan : PySem.W.kitOne K (.ref C_BeforeStart) (.ref C_EmptySpan) = some false)
    (Ik_BeforeStart_OutsideSpan : PySem.W.kitOne K (.ref C_BeforeStart) (.ref C_OutsideSpan) = some false)
    (Ik_BeforeStart_ZeroDivisor : PySem.W.kitOne K (.ref C_BeforeStart) (.ref C_ZeroDivisor) = some false)
    (Ik_BadRate_BadBound : PySem.W.kitOne K (.ref C_BadRate) (.ref C_BadBound) = some false)
    (Ik_BadRate_TurnsBack : PySem.W.kitOne K (.ref C_BadRate) (.ref C_TurnsBack) = some false)
    (Ik_BadRate_EmptySpan : PySem.W.kitOne K (.ref C_BadRate) (.ref C_EmptySpan) = some false)
    (Ik_BadRate_OutsideSpan : PySem.W.kitOne K (.ref C_BadRate) (.ref C_OutsideSpan) = some false)
    (Ik_BadRate_ZeroDivisor : PySem.W.kitOne K (.ref C_BadRate) (.ref C_ZeroDivisor) = some false)
    (h_add : Fn K mg "add" s_add ps_add f_add fd_add)
    (h_subtract : Fn K mg "subtract" s_subtract ps_subtract f_subtract fd_subtract)
    (h_multiply : Fn K mg "multiply" s_multiply ps_multiply f_multiply fd_multiply)
    (h_negate : Fn K mg "negate" s_negate ps_negate f_negate fd_negate)
    (h_compare : Fn K mg "compare" s_compare ps_compare f_compare fd_compare)
    (h__shown_by : Fn K mg "_shown_by" s__shown_by ps__shown_by f__shown_by fd__shown_by)
    (h__place_at : Fn K mg "_place_at" s__place_at ps__place_at f__place_at fd__place_at)
    (h__piece_at : Fn K mg "_piece_at" s__piece_at ps__piece_at f__piece_at fd__piece_at)
    (h_shown_at : Fn K mg "shown_at" s_shown_at ps_shown_at f_shown_at fd_shown_at)
    (h__jump_at : Fn K mg "_jump_at" s__jump_at ps__jump_at f__jump_at fd__jump_at)
    (h_tidy : Fn K mg "tidy" s_tidy ps_tidy f_tidy fd_tidy)
    (h__ahead_of : Fn K mg "_ahead_of" s__ahead_of ps__ahead_of f__ahead_of fd__ahead_of)
    (h_slewed : Fn K mg "slewed" s_slewed ps_slewed f_slewed fd_slewed)
    (h_stepped : Fn K mg "stepped" s_stepped ps_stepped f_stepped fd_stepped)
    (h__law_store : Fn K mg "_law_store" s__law_store ps__law_store f__law_store fd__law_store)
    (h__law_feed : Fn K mg "_law_feed" s__law_feed ps__law_feed f__law_feed fd__law_feed)
    (h__law_mixed : Fn K mg "_law_mixed" s__law_mixed ps__law_mixed f__law_mixed fd__law_mixed)
    (h__law_take : Fn K mg "_law_take" s__law_take ps__law_take f__law_take fd__law_take)
    (h__law_pick : Fn K mg "_law_pick" s__law_pick ps__law_pick f__law_pick fd__law_pick)
    (h__law_size : Fn K mg "_law_size" s__law_size ps__law_size f__law_size fd__law_size)
    (h__law_is_int : Fn K mg "_law_is_int" s__law_is_int ps__law_is_int f__law_is_int fd__law_is_int)
    (h__law_same : Fn K mg "_law_same" s__law_same ps__law_same f__law_same fd__law_same)
    (h__law_frac : Fn K mg "_law_frac" s__law_frac ps__law_frac f__law_frac fd__law_frac)
    (h__law_plus : Fn K mg "_law_plus" s__law_plus ps__law_plus f__law_plus fd__law_plus)
    (h__law_minus : Fn K mg "_law_minus" s__law_minus ps__law_minus f__law_minus fd__law_minus)
    (h__law_times : Fn K mg "_law_times" s__law_times ps__law_times f__law_times fd__law_times)
    (h__law_below : Fn K mg "_law_below" s__law_below ps__law_below f__law_below fd__law_below)
    (h__law_is_frac : Fn K mg "_law_is_frac" s__law_is_frac ps__law_is_frac f__law_is_frac fd__law_is_frac)
    (h__law_ratio : Fn K mg "_law_ratio" s__law_ratio ps__law_ratio f__law_ratio fd__law_ratio)
    (h__law_part : Fn K mg "_law_part" s__law_part ps__law_part f__law_part fd__law_part)
    (h__law_above : Fn K mg "_law_above" s__law_above ps__law_above f__law_above fd__law_above)
    (h__law_ordered : Fn K mg "_law_ordered" s__law_ordered ps__law_ordered f__law_ordered fd__law_ordered)
    (h__law_probes : Fn K mg "_law_probes" s__law_probes ps__law_probes f__law_probes fd__law_probes)
    (h__law_pace : Fn K mg "_law_pace" s__law_pace ps__law_pace f__law_pace fd__law_pace)
    (h__law_course : Fn K mg "_law_course" s__law_course ps__law_course f__law_course fd__law_course)
    (h__law_alone : Fn K mg "_law_alone" s__law_alone ps__law_alone f__law_alone fd__law_alone)
    (h__law_wide_course : Fn K mg "_law_wide_course" s__law_wide_course ps__law_wide_course f__law_wide_course fd__law_wide_course)
    (h__law_now : Fn K mg "_law_now" s__law_now ps__law_now f__law_now fd__law_now)
    (h__law_is_course : Fn K mg "_law_is_course" s__law_is_course ps__law_is_course f__law_is_course fd__law_is_course)
    (h__law_is_tidy : Fn K mg "_law_is_tidy" s__law_is_tidy ps__law_is_tidy f__law_is_tidy fd__law_is_tidy)
    (h__law_told : Fn K mg "_law_told" s__law_told ps__law_told f__law_told fd__law_told)
    (h__law_right : Fn K mg "_law_right" s__law_right ps__law_right f__law_right fd__law_right)
    (h__law_when : Fn K mg "_law_when" s__law_when ps__law_when f__law_when fd__law_when)
    (h__law_some_rate : Fn K mg "_law_some_rate" s__law_some_rate ps__law_some_rate f__law_some_rate fd__law_some_rate)
    (h__law_some_jump : Fn K mg "_law_some_jump" s__law_some_jump ps__law_some_jump f__law_some_jump fd__law_some_jump)
    (h__law_both_right : Fn K mg "_law_both_right" s__law_both_right ps__law_both_right f__law_both_right fd__law_both_right)
    (h__law_long_right : Fn K mg "_law_long_right" s__law_long_right ps__law_long_right f__law_long_right fd__law_long_right)
    (h_law : Fn K mg "law" s_law ps_law f_law fd_law)
    (XV : mg "ValueError" = none) (XKB : PySem.W.kitOne K (.ref C_BeforeStart) (.type "ValueError") = some true) (XKR : PySem.W.kitOne K (.ref C_BadRate) (.type "ValueError") = some true)
    : FnOk P w K mg base CX0 9 f_law fd_law ps_law (spLaw K) := by
  have CL : CA K mg C_BeforeStart C_BadRate C_BadBound C_TurnsBack C_EmptySpan C_OutsideSpan C_ZeroDivisor C_VerdictError := ⟨fun b => by cases b; exact EBadRate; exact EBeforeStart, TBeforeStart.gC, fun b => by cases b; exact Ik_BadRate_BeforeStart; exact kit_self, TBadRate.gC, fun b => by cases b; exact kit_self; exact Ik_BeforeStart_BadRate,
    GBadBound, fun b => by cases b; exact Ik_BadRate_BadBound; exact Ik_BeforeStart_BadBound, GTurnsBack, fun b => by cases b; exact Ik_BadRate_TurnsBack; exact Ik_BeforeStart_TurnsBack, GEmptySpan, fun b => by cases b; exact Ik_BadRate_EmptySpan; exact Ik_BeforeStart_EmptySpan,
    GOutsideSpan, fun b => by cases b; exact Ik_BadRate_OutsideSpan; exact Ik_BeforeStart_OutsideSpan, GZeroDivisor, fun b => by cases b; exact Ik_BadRate_ZeroDivisor; exact Ik_BeforeStart_ZeroDivisor, GVerdictError, XV, fun b => by cases b; exact XKR; exact XKB, fun b => by cases b; exact Ie_BadRate_VerdictError; exact Ie_BeforeStart_VerdictError⟩
  have rational := ok_rational (P := P) (w := w) (base := base) (k := 0) T h_rational m_rational b_rational
  have add := ok_add (P := P) (w := w) (base := base) (k := 0) T h_add
  have negate := ok_negate (P := P) (w := w) (base := base) (k := 0) h_negate
  have compare := ok_compare (P := P) (w := w) (base := base) (k := 0) h_compare
  have subtract := ok_subtract h_subtract add negate
  have multiply := ok_multiply h_multiply rational
  have shown := ok_shown_by h__shown_by (add.up (by decide)) multiply subtract
  have jat := ok_jump_at h__jump_at (subtract.up (by decide)) shown
  have tidy := ok_tidy T ZZERO h_tidy jat
  have place := ok_place_at h__place_at compare
  have piece := ok_piece_at TBeforeStart h__piece_at place
  have shownat := ok_shown_at h_shown_at piece shown
  have ahead := ok_ahead_of h__ahead_of compare
  have slewed := ok_slewed (k := 5) ZZERO TBadRate h_slewed (shownat.up (by decide)) (compare.up (by decide)) (ahead.up (by decide)) tidy
  have stepped := ok_stepped (k := 5) h_stepped (piece.up (by decide)) (compare.up (by decide)) (ahead.up (by decide)) tidy (add.up (by decide)) (shown.up (by decide))
  have alone := ok_alone (P := P) (w := w) (base := base) (k := 5) T CL h__law_alone
  have told := ok_told2 (ok_told (k := 6) T GVerdictError EBeforeStart EBadRate kit_self kit_self Ik_BadRate_BeforeStart Ie_BeforeStart_VerdictError Ie_BadRate_VerdictError TBeforeStart TBadRate h__law_told slewed stepped alone)
  have store := ok_store (P := P) (w := w) (base := base) (k := 0) T h__law_store
  have mixed := fun l => ok_mixed (l := l) (P := P) (w := w) (base := base) (k := 0) T h__law_mixed
  have feed := fun l => ok_feed (l := l) (P := P) (w := w) (base := base) (k := 0) T h__law_feed
  have take := fun l => ok_take T h__law_take (feed l) (mixed l)
  have pick := fun l => ok_pick T h__law_pick (take l)
  have size := fun l => ok_size h__law_size (take l)
  have is_int := ok_is_int (P := P) (w := w) (base := base) (k := 0) T h__law_is_int
  have same := ok_same T h__law_same is_int 2
  have same4 := ok_same T h__law_same is_int 4
  have frac := ok_frac (P := P) (w := w) (base := base) (k := 0) T h__law_frac
  have plus := ok_plus h__law_plus frac
  have minus := ok_minus h__law_minus frac
  have times := ok_times h__law_times frac
  have below := ok_below (P := P) (w := w) (base := base) (k := 0) h__law_below
  have is_frac := ok_is_frac T h__law_is_frac is_int frac
  have ratio := fun l => ok_ratio h__law_ratio ((take l).up (by decide)) (pick l) (frac.up (by decide))
  have part := fun l => ok_part h__law_part ((take l).up (by decide)) (pick l) (frac.up (by decide))
  have above := fun l => ok_above h__law_above (take l) (frac.up (by decide))
  have pace := fun l => ok_pace h__law_pace ((take l).up (by decide)) (pick l) (frac.up (by decide))
  have course := fun l => ok_course T h__law_course (part l) (pace l) ((above l).up (by decide)) (plus.up (by decide)) (times.up (by decide)) (minus.up (by decide)) ((take l).up (by decide))
  have ordered := ok_ordered T h__law_ordered below
  have ordN := ok_ordN T h__law_ordered below
  have probes := ok_prb T h__law_probes ordN minus plus times
  have wide := fun l => ok_wide T h__law_wide_course (ordered.up (by decide)) ((take l).up (by decide)) (ratio l)
  have now := ok_now T h__law_now (below.up (by decide)) plus times minus
  have is_course := ok_is_course T h__law_is_course is_frac (below.up (by decide))
  have is_tidy := ok_is_tidy T h__law_is_tidy plus times minus
  have right := ok_right2 (ok_right (k := 6) T h__law_right (below.up (by decide)) (same.up (by decide)) (is_course.up (by decide)) (is_tidy.up (by decide)) (now.up (by decide)) (probes.up (by decide)) (plus.up (by decide)) (times.up (by decide)) (minus.up (by decide)))
  have when := fun l => ok_when T h__law_when ((take l).up (by decide)) (minus.up (by decide)) (ratio l) ((pick l).up (by decide)) (part l) (plus.up (by decide))
  have some_rate := fun l => ok_some_rate T h__law_some_rate ((take l).up (by decide)) ((pick l).up (by decide)) (pace l)
  have some_jump := fun l => ok_some_jump T h__law_some_jump ((take l).up (by decide)) (plus.up (by decide)) (times.up (by decide)) (minus.up (by decide)) ((pick l).up (by decide)) (part l) (ratio l)
  have both := ok_both (k := 7) T h__law_both_right told right (same4.up (by decide))
  have long := fun l => ok_long (k := 7) T h__law_long_right ((course l).up (by decide)) ((take l).up (by decide)) ((pace l).up (by decide)) ((part l).up (by decide)) ((pick l).up (by decide)) (plus.up (by decide)) told right (same4.up (by decide))
  exact (ok_law (k := 8) T h_law (store.up (by decide)) (fun l => (take l).up (by decide)) (fun l => (size l).up (by decide)) (fun l => (course l).up (by decide)) (fun l => (wide l).up (by decide)) (fun l => (when l).up (by decide)) (fun l => (some_rate l).up (by decide)) both (fun l => (some_jump l).up (by decide)) (fun l => (part l).up (by decide)) (fun l => (above l).up (by decide)) (told.up (by decide)) (right.up (by decide)) (same4.up (by decide)) (stepped.up (by decide)) long).ok
set_option maxHeartbeats 0 in
theorem all_mk {l : PySem.W.OpenLaw} {w : World} {K : PySem.W.Frag} {h : Heap} {mg : Str → Option Value} {fa : Addr} (X : K.In h) (G : h.Ns mainGlobals mg) (hfa : mg "law" = some (.ref fa))
    {f_rational : Addr} {od_rational an_rational : Option Addr} {sl_rational : Array (Option Value)} {oc_rational kV_rational dc_rational pm_rational cd_rational ct_rational : Value}
    {f_add : Addr} {od_add an_add : Option Addr} {sl_add : Array (Option Value)} {oc_add kV_add dc_add pm_add cd_add ct_add : Value}
    {f_subtract : Addr} {od_subtract an_subtract : Option Addr} {sl_subtract : Array (Option Value)} {oc_subtract kV_subtract dc_subtract pm_subtract cd_subtract ct_subtract : Value}
    {f_multiply : Addr} {od_multiply an_multiply : Option Addr} {sl_multiply : Array (Option Value)} {oc_multiply kV_multiply dc_multiply pm_multiply cd_multiply ct_multiply : Value}
    {f_negate : Addr} {od_negate an_negate : Option Addr} {sl_negate : Array (Option Value)} {oc_negate kV_negate dc_negate pm_negate cd_negate ct_negate : Value}
    {f_compare : Addr} {od_compare an_compare : Option Addr} {sl_compare : Array (Option Value)} {oc_compare kV_compare dc_compare pm_compare cd_compare ct_compare : Value}
    {f__shown_by : Addr} {od__shown_by an__shown_by : Option Addr} {sl__shown_by : Array (Option Value)} {oc__shown_by kV__shown_by dc__shown_by pm__shown_by cd__shown_by ct__shown_by : Value}
    {f__place_at : Addr} {od__place_at an__place_at : Option Addr} {sl__place_at : Array (Option Value)} {oc__place_at kV__place_at dc__place_at pm__place_at cd__place_at ct__place_at : Value}
    {f__piece_at : Addr} {od__piece_at an__piece_at : Option Addr} {sl__piece_at : Array (Option Value)} {oc__piece_at kV__piece_at dc__piece_at pm__piece_at cd__piece_at ct__piece_at : Value}
    {f_shown_at : Addr} {od_shown_at an_shown_at : Option Addr} {sl_shown_at : Array (Option Value)} {oc_shown_at kV_shown_at dc_shown_at pm_shown_at cd_shown_at ct_shown_at : Value}
    {f__jump_at : Addr} {od__jump_at an__jump_at : Option Addr} {sl__jump_at : Array (Option Value)} {oc__jump_at kV__jump_at dc__jump_at pm__jump_at cd__jump_at ct__jump_at : Value}
    {f_tidy : Addr} {od_tidy an_tidy : Option Addr} {sl_tidy : Array (Option Value)} {oc_tidy kV_tidy dc_tidy pm_tidy cd_tidy ct_tidy : Value}
    {f__ahead_of : Addr} {od__ahead_of an__ahead_of : Option Addr} {sl__ahead_of : Array (Option Value)} {oc__ahead_of kV__ahead_of dc__ahead_of pm__ahead_of cd__ahead_of ct__ahead_of : Value}
    {f_slewed : Addr} {od_slewed an_slewed : Option Addr} {sl_slewed : Array (Option Value)} {oc_slewed kV_slewed dc_slewed pm_slewed cd_slewed ct_slewed : Value}
    {f_stepped : Addr} {od_stepped an_stepped : Option Addr} {sl_stepped : Array (Option Value)} {oc_stepped kV_stepped dc_stepped pm_stepped cd_stepped ct_stepped : Value}
    {f__law_store : Addr} {od__law_store an__law_store : Option Addr} {sl__law_store : Array (Option Value)} {oc__law_store kV__law_store dc__law_store pm__law_store cd__law_store ct__law_store : Value}
    {f__law_feed : Addr} {od__law_feed an__law_feed : Option Addr} {sl__law_feed : Array (Option Value)} {oc__law_feed kV__law_feed dc__law_feed pm__law_feed cd__law_feed ct__law_feed : Value}
    {f__law_mixed : Addr} {od__law_mixed an__law_mixed : Option Addr} {sl__law_mixed : Array (Option Value)} {oc__law_mixed kV__law_mixed dc__law_mixed pm__law_mixed cd__law_mixed ct__law_mixed : Value}
    {f__law_take : Addr} {od__law_take an__law_take : Option Addr} {sl__law_take : Array (Option Value)} {oc__law_take kV__law_take dc__law_take pm__law_take cd__law_take ct__law_take : Value}
    {f__law_pick : Addr} {od__law_pick an__law_pick : Option Addr} {sl__law_pick : Array (Option Value)} {oc__law_pick kV__law_pick dc__law_pick pm__law_pick cd__law_pick ct__law_pick : Value}
    {f__law_size : Addr} {od__law_size an__law_size : Option Addr} {sl__law_size : Array (Option Value)} {oc__law_size kV__law_size dc__law_size pm__law_size cd__law_size ct__law_size : Value}
    {f__law_is_int : Addr} {od__law_is_int an__law_is_int : Option Addr} {sl__law_is_int : Array (Option Value)} {oc__law_is_int kV__law_is_int dc__law_is_int pm__law_is_int cd__law_is_int ct__law_is_int : Value}
    {f__law_same : Addr} {od__law_same an__law_same : Option Addr} {sl__law_same : Array (Option Value)} {oc__law_same kV__law_same dc__law_same pm__law_same cd__law_same ct__law_same : Value}
    {f__law_frac : Addr} {od__law_frac an__law_frac : Option Addr} {sl__law_frac : Array (Option Value)} {oc__law_frac kV__law_frac dc__law_frac pm__law_frac cd__law_frac ct__law_frac : Value}
    {f__law_plus : Addr} {od__law_plus an__law_plus : Option Addr} {sl__law_plus : Array (Option Value)} {oc__law_plus kV__law_plus dc__law_plus pm__law_plus cd__law_plus ct__law_plus : Value}
    {f__law_minus : Addr} {od__law_minus an__law_minus : Option Addr} {sl__law_minus : Array (Option Value)} {oc__law_minus kV__law_minus dc__law_minus pm__law_minus cd__law_minus ct__law_minus : Value}
    {f__law_times : Addr} {od__law_times an__law_times : Option Addr} {sl__law_times : Array (Option Value)} {oc__law_times kV__law_times dc__law_times pm__law_times cd__law_times ct__law_times : Value}
    {f__law_below : Addr} {od__law_below an__law_below : Option Addr} {sl__law_below : Array (Option Value)} {oc__law_below kV__law_below dc__law_below pm__law_below cd__law_below ct__law_below : Value}
    {f__law_is_frac : Addr} {od__law_is_frac an__law_is_frac : Option Addr} {sl__law_is_frac : Array (Option Value)} {oc__law_is_frac kV__law_is_frac dc__law_is_frac pm__law_is_frac cd__law_is_frac ct__law_is_frac : Value}
    {f__law_ratio : Addr} {od__law_ratio an__law_ratio : Option Addr} {sl__law_ratio : Array (Option Value)} {oc__law_ratio kV__law_ratio dc__law_ratio pm__law_ratio cd__law_ratio ct__law_ratio : Value}
    {f__law_part : Addr} {od__law_part an__law_part : Option Addr} {sl__law_part : Array (Option Value)} {oc__law_part kV__law_part dc__law_part pm__law_part cd__law_part ct__law_part : Value}
    {f__law_above : Addr} {od__law_above an__law_above : Option Addr} {sl__law_above : Array (Option Value)} {oc__law_above kV__law_above dc__law_above pm__law_above cd__law_above ct__law_above : Value}
    {f__law_ordered : Addr} {od__law_ordered an__law_ordered : Option Addr} {sl__law_ordered : Array (Option Value)} {oc__law_ordered kV__law_ordered dc__law_ordered pm__law_ordered cd__law_ordered ct__law_ordered : Value}
    {f__law_probes : Addr} {od__law_probes an__law_probes : Option Addr} {sl__law_probes : Array (Option Value)} {oc__law_probes kV__law_probes dc__law_probes pm__law_probes cd__law_probes ct__law_probes : Value}
    {f__law_pace : Addr} {od__law_pace an__law_pace : Option Addr} {sl__law_pace : Array (Option Value)} {oc__law_pace kV__law_pace dc__law_pace pm__law_pace cd__law_pace ct__law_pace : Value}
    {f__law_course : Addr} {od__law_course an__law_course : Option Addr} {sl__law_course : Array (Option Value)} {oc__law_course kV__law_course dc__law_course pm__law_course cd__law_course ct__law_course : Value}
    {f__law_alone : Addr} {od__law_alone an__law_alone : Option Addr} {sl__law_alone : Array (Option Value)} {oc__law_alone kV__law_alone dc__law_alone pm__law_alone cd__law_alone ct__law_alone : Value}
    {f__law_wide_course : Addr} {od__law_wide_course an__law_wide_course : Option Addr} {sl__law_wide_course : Array (Option Value)} {oc__law_wide_course kV__law_wide_course dc__law_wide_course pm__law_wide_course cd__law_wide_course ct__law_wide_course : Value}
    {f__law_now : Addr} {od__law_now an__law_now : Option Addr} {sl__law_now : Array (Option Value)} {oc__law_now kV__law_now dc__law_now pm__law_now cd__law_now ct__law_now : Value}
    {f__law_is_course : Addr} {od__law_is_course an__law_is_course : Option Addr} {sl__law_is_course : Array (Option Value)} {oc__law_is_course kV__law_is_course dc__law_is_course pm__law_is_course cd__law_is_course ct__law_is_course : Value}
    {f__law_is_tidy : Addr} {od__law_is_tidy an__law_is_tidy : Option Addr} {sl__law_is_tidy : Array (Option Value)} {oc__law_is_tidy kV__law_is_tidy dc__law_is_tidy pm__law_is_tidy cd__law_is_tidy ct__law_is_tidy : Value}
    {f__law_told : Addr} {od__law_told an__law_told : Option Addr} {sl__law_told : Array (Option Value)} {oc__law_told kV__law_told dc__law_told pm__law_told cd__law_told ct__law_told : Value}
    {f__law_right : Addr} {od__law_right an__law_right : Option Addr} {sl__law_right : Array (Option Value)} {oc__law_right kV__law_right dc__law_right pm__law_right cd__law_right ct__law_right : Value}
    {f__law_when : Addr} {od__law_when an__law_when : Option Addr} {sl__law_when : Array (Option Value)} {oc__law_when kV__law_when dc__law_when pm__law_when cd__law_when ct__law_when : Value}
    {f__law_some_rate : Addr} {od__law_some_rate an__law_some_rate : Option Addr} {sl__law_some_rate : Array (Option Value)} {oc__law_some_rate kV__law_some_rate dc__law_some_rate pm__law_some_rate cd__law_some_rate ct__law_some_rate : Value}
    {f__law_some_jump : Addr} {od__law_some_jump an__law_some_jump : Option Addr} {sl__law_some_jump : Array (Option Value)} {oc__law_some_jump kV__law_some_jump dc__law_some_jump pm__law_some_jump cd__law_some_jump ct__law_some_jump : Value}
    {f__law_both_right : Addr} {od__law_both_right an__law_both_right : Option Addr} {sl__law_both_right : Array (Option Value)} {oc__law_both_right kV__law_both_right dc__law_both_right pm__law_both_right cd__law_both_right ct__law_both_right : Value}
    {f__law_long_right : Addr} {od__law_long_right an__law_long_right : Option Addr} {sl__law_long_right : Array (Option Value)} {oc__law_long_right kV__law_long_right dc__law_long_right pm__law_long_right cd__law_long_right ct__law_long_right : Value}
    {f_law : Addr} {od_law an_law : Option Addr} {sl_law : Array (Option Value)} {oc_law kV_law dc_law pm_law cd_law ct_law : Value}
    {dV_rational : Addr} {dcls_rational : Value} {ddd_rational : Option Addr} {dtk_rational : Tok} {dn_rational : Nat} {dsl_rational : Array (Option Value)} (ldf_rational : K.lookup dV_rational = some ⟨dcls_rational, ddd_rational, .seq #[.int 1 dtk_rational] dn_rational, dsl_rational⟩)
    {aZERO : Addr} {addZERO : Option Addr} {tZERO0 tZERO1 : Tok} {znZERO : Nat} {zslZERO : Array (Option Value)} (a0ZERO : PySem.W.nsIn K mainGlobals "ZERO" = some (some (.ref aZERO))) (l0ZERO : K.lookup aZERO = some ⟨.type "tuple", addZERO, .seq #[.int 0 tZERO0, .int 1 tZERO1] znZERO, zslZERO⟩)
    {C_BeforeStart fi_BeforeStart : Addr} {nm_BeforeStart q_BeforeStart iq_BeforeStart : Str} {N_BeforeStart : Addr} {bs_BeforeStart bm_BeforeStart sub_BeforeStart : List Value} {sn_BeforeStart : List Str} {ab_BeforeStart : Bool} {col_BeforeStart : Option Bool} {dd_BeforeStart : Option Addr} {m0_BeforeStart m1_BeforeStart m2_BeforeStart m3_BeforeStart m5_BeforeStart : Option Value} {iod_BeforeStart ian_BeforeStart : Option Addr} {isl_BeforeStart : Array (Option Value)} {ioc_BeforeStart idc_BeforeStart ipm_BeforeStart icd_BeforeStart ict_BeforeStart : Value} {p1_BeforeStart p2_BeforeStart q1_BeforeStart q2_BeforeStart q3_BeforeStart q4_BeforeStart : Pos}
    (aC_BeforeStart : PySem.W.nsIn K mainGlobals "BeforeStart" = some (some (.ref C_BeforeStart))) (xL_BeforeStart : K.lookup C_BeforeStart = some (excClassObj nm_BeforeStart q_BeforeStart C_BeforeStart N_BeforeStart bs_BeforeStart bm_BeforeStart true sn_BeforeStart sub_BeforeStart ab_BeforeStart col_BeforeStart dd_BeforeStart m0_BeforeStart m1_BeforeStart m2_BeforeStart m3_BeforeStart m5_BeforeStart "ValueError.__new__")) (rv_BeforeStart : refsVE bm_BeforeStart = true)
    (sa_BeforeStart : PySem.W.findIn K (.ref C_BeforeStart) "__setattr__" = some (some (.builtin "object.__setattr__"))) (ga_BeforeStart : PySem.W.findIn K (.ref C_BeforeStart) "__getattribute__" = some (some (.builtin "BaseException.__getattribute__"))) (gg_BeforeStart : PySem.W.findIn K (.ref C_BeforeStart) "__getattr__" = some none) (nb_BeforeStart : PySem.W.findIn K (.ref C_BeforeStart) "value" = some none)
    (a1_BeforeStart : PySem.W.findIn K (.ref C_BeforeStart) "__init__" = some (some (.ref fi_BeforeStart))) (t1_BeforeStart : PySem.W.typeIn K (.ref fi_BeforeStart) = some (.type "function"))
    (l1_BeforeStart : K.lookup fi_BeforeStart = some ⟨ioc_BeforeStart, iod_BeforeStart, .func (PySem.W.fnOf "__init__" iq_BeforeStart (PySem.ValX.iA p1_BeforeStart p2_BeforeStart) (PySem.ValX.iB q1_BeforeStart q2_BeforeStart q3_BeforeStart q4_BeforeStart) PySem.ValX.iS .none .none idc_BeforeStart ipm_BeforeStart ian_BeforeStart icd_BeforeStart ict_BeforeStart), isl_BeforeStart⟩) (c1_BeforeStart : PySem.W.codeIn K icd_BeforeStart iq_BeforeStart = true)
    (kC_BeforeStart : PySem.W.keepIn K (.ref C_BeforeStart) = true) (eC_BeforeStart : PySem.W.subIn K (.ref C_BeforeStart) (.type "BaseException") = some true) (tC_BeforeStart : PySem.W.typeIn K (.ref C_BeforeStart) = some (.type "type")) (hC_BeforeStart : PySem.W.hasDictIn K C_BeforeStart = true) (iC_BeforeStart : PySem.W.isClsIn K C_BeforeStart = true) (sC_BeforeStart : PySem.W.subIn K (.ref C_BeforeStart) (.ref C_BeforeStart) = some true)
    {C_BadRate fi_BadRate : Addr} {nm_BadRate q_BadRate iq_BadRate : Str} {N_BadRate : Addr} {bs_BadRate bm_BadRate sub_BadRate : List Value} {sn_BadRate : List Str} {ab_BadRate : Bool} {col_BadRate : Option Bool} {dd_BadRate : Option Addr} {m0_BadRate m1_BadRate m2_BadRate m3_BadRate m5_BadRate : Option Value} {iod_BadRate ian_BadRate : Option Addr} {isl_BadRate : Array (Option Value)} {ioc_BadRate idc_BadRate ipm_BadRate icd_BadRate ict_BadRate : Value} {p1_BadRate p2_BadRate q1_BadRate q2_BadRate q3_BadRate q4_BadRate : Pos}
    (aC_BadRate : PySem.W.nsIn K mainGlobals "BadRate" = some (some (.ref C_BadRate))) (xL_BadRate : K.lookup C_BadRate = some (excClassObj nm_BadRate q_BadRate C_BadRate N_BadRate bs_BadRate bm_BadRate true sn_BadRate sub_BadRate ab_BadRate col_BadRate dd_BadRate m0_BadRate m1_BadRate m2_BadRate m3_BadRate m5_BadRate "ValueError.__new__")) (rv_BadRate : refsVE bm_BadRate = true)
    (sa_BadRate : PySem.W.findIn K (.ref C_BadRate) "__setattr__" = some (some (.builtin "object.__setattr__"))) (ga_BadRate : PySem.W.findIn K (.ref C_BadRate) "__getattribute__" = some (some (.builtin "BaseException.__getattribute__"))) (gg_BadRate : PySem.W.findIn K (.ref C_BadRate) "__getattr__" = some none) (nb_BadRate : PySem.W.findIn K (.ref C_BadRate) "value" = some none)
    (a1_BadRate : PySem.W.findIn K (.ref C_BadRate) "__init__" = some (some (.ref fi_BadRate))) (t1_BadRate : PySem.W.typeIn K (.ref fi_BadRate) = some (.type "function"))
    (l1_BadRate : K.lookup fi_BadRate = some ⟨ioc_BadRate, iod_BadRate, .func (PySem.W.fnOf "__init__" iq_BadRate (PySem.ValX.iA p1_BadRate p2_BadRate) (PySem.ValX.iB q1_BadRate q2_BadRate q3_BadRate q4_BadRate) PySem.ValX.iS .none .none idc_BadRate ipm_BadRate ian_BadRate icd_BadRate ict_BadRate), isl_BadRate⟩) (c1_BadRate : PySem.W.codeIn K icd_BadRate iq_BadRate = true)
    (kC_BadRate : PySem.W.keepIn K (.ref C_BadRate) = true) (eC_BadRate : PySem.W.subIn K (.ref C_BadRate) (.type "BaseException") = some true) (tC_BadRate : PySem.W.typeIn K (.ref C_BadRate) = some (.type "type")) (hC_BadRate : PySem.W.hasDictIn K C_BadRate = true) (iC_BadRate : PySem.W.isClsIn K C_BadRate = true) (sC_BadRate : PySem.W.subIn K (.ref C_BadRate) (.ref C_BadRate) = some true)
    (xa_BeforeStart : PySem.W.findIn K (.ref C_BeforeStart) "__class__" = some (some (.builtin "object.__class__"))) (xm_BeforeStart : PySem.W.mroIn K C_BeforeStart (.type "object") = some true)
    (xa_BadRate : PySem.W.findIn K (.ref C_BadRate) "__class__" = some (some (.builtin "object.__class__"))) (xm_BadRate : PySem.W.mroIn K C_BadRate (.type "object") = some true)
    (xn : PySem.W.specialIn K (.builtin "object.__class__") "__get__" = some (some (.builtin "getset_descriptor.__get__"))) (xt : PySem.W.takesIn K (.builtin "object.__class__") = some true)
    {C_VerdictError : Addr} (aC_VerdictError : PySem.W.nsIn K mainGlobals "VerdictError" = some (some (.ref C_VerdictError))) (tC_VerdictError : PySem.W.typeIn K (.ref C_VerdictError) = some (.type "type")) (iC_VerdictError : PySem.W.isClsIn K C_VerdictError = true)
    {C_BadBound : Addr} (aC_BadBound : PySem.W.nsIn K mainGlobals "BadBound" = some (some (.ref C_BadBound))) (tC_BadBound : PySem.W.typeIn K (.ref C_BadBound) = some (.type "type")) (iC_BadBound : PySem.W.isClsIn K C_BadBound = true)
    {C_TurnsBack : Addr} (aC_TurnsBack : PySem.W.nsIn K mainGlobals "TurnsBack" = some (some (.ref C_TurnsBack))) (tC_TurnsBack : PySem.W.typeIn K (.ref C_TurnsBack) = some (.type "type")) (iC_TurnsBack : PySem.W.isClsIn K C_TurnsBack = true)
    {C_EmptySpan : Addr} (aC_EmptySpan : PySem.W.nsIn K mainGlobals "EmptySpan" = some (some (.ref C_EmptySpan))) (tC_EmptySpan : PySem.W.typeIn K (.ref C_EmptySpan) = some (.type "type")) (iC_EmptySpan : PySem.W.isClsIn K C_EmptySpan = true)
    {C_OutsideSpan : Addr} (aC_OutsideSpan : PySem.W.nsIn K mainGlobals "OutsideSpan" = some (some (.ref C_OutsideSpan))) (tC_OutsideSpan : PySem.W.typeIn K (.ref C_OutsideSpan) = some (.type "type")) (iC_OutsideSpan : PySem.W.isClsIn K C_OutsideSpan = true)
    {C_ZeroDivisor : Addr} (aC_ZeroDivisor : PySem.W.nsIn K mainGlobals "ZeroDivisor" = some (some (.ref C_ZeroDivisor))) (tC_ZeroDivisor : PySem.W.typeIn K (.ref C_ZeroDivisor) = some (.type "type")) (iC_ZeroDivisor : PySem.W.isClsIn K C_ZeroDivisor = true)
    (je_BeforeStart_VerdictError : PySem.W.subIn K (.ref C_BeforeStart) (.ref C_VerdictError) = some true) (ne_BeforeStart_VerdictError : (C_BeforeStart == C_VerdictError) = false)
    (je_BadRate_VerdictError : PySem.W.subIn K (.ref C_BadRate) (.ref C_VerdictError) = some true) (ne_BadRate_VerdictError : (C_BadRate == C_VerdictError) = false)
    (jk_BeforeStart_BadRate : PySem.W.subIn K (.ref C_BeforeStart) (.ref C_BadRate) = some false) (nk_BeforeStart_BadRate : (C_BeforeStart == C_BadRate) = false)
    (jk_BadRate_BeforeStart : PySem.W.subIn K (.ref C_BadRate) (.ref C_BeforeStart) = some false) (nk_BadRate_BeforeStart : (C_BadRate == C_BeforeStart) = false)
    (jk_BeforeStart_BadBound : PySem.W.subIn K (.ref C_BeforeStart) (.ref C_BadBound) = some false) (nk_BeforeStart_BadBound : (C_BeforeStart == C_BadBound) = false)
    (jk_BeforeStart_TurnsBack : PySem.W.subIn K (.ref C_BeforeStart) (.ref C_TurnsBack) = some false) (nk_BeforeStart_TurnsBack : (C_BeforeStart == C_TurnsBack) = false)
    (jk_BeforeStart_EmptySpan : PySem.W.subIn K (.ref C_BeforeStart) (.ref C_EmptySpan) = some false) (nk_BeforeStart_EmptySpan : (C_BeforeStart == C_EmptySpan) = false)
    (jk_BeforeStart_OutsideSpan : PySem.W.subIn K (.ref C_BeforeStart) (.ref C_OutsideSpan) = some false) (nk_BeforeStart_OutsideSpan : (C_BeforeStart == C_OutsideSpan) = false)
    (jk_BeforeStart_ZeroDivisor : PySem.W.subIn K (.ref C_BeforeStart) (.ref C_ZeroDivisor) = some false) (nk_BeforeStart_ZeroDivisor : (C_BeforeStart == C_ZeroDivisor) = false)
    (jk_BadRate_BadBound : PySem.W.subIn K (.ref C_BadRate) (.ref C_BadBound) = some false) (nk_BadRate_BadBound : (C_BadRate == C_BadBound) = false)
    (jk_BadRate_TurnsBack : PySem.W.subIn K (.ref C_BadRate) (.ref C_TurnsBack) = some false) (nk_BadRate_TurnsBack : (C_BadRate == C_TurnsBack) = false)
    (jk_BadRate_EmptySpan : PySem.W.subIn K (.ref C_BadRate) (.ref C_EmptySpan) = some false) (nk_BadRate_EmptySpan : (C_BadRate == C_EmptySpan) = false)
    (jk_BadRate_OutsideSpan : PySem.W.subIn K (.ref C_BadRate) (.ref C_OutsideSpan) = some false) (nk_BadRate_OutsideSpan : (C_BadRate == C_OutsideSpan) = false)
    (jk_BadRate_ZeroDivisor : PySem.W.subIn K (.ref C_BadRate) (.ref C_ZeroDivisor) = some false) (nk_BadRate_ZeroDivisor : (C_BadRate == C_ZeroDivisor) = false)
    (a_rational : PySem.W.nsIn K mainGlobals "rational" = some (some (.ref f_rational))) (l_rational : K.lookup f_rational = some ⟨oc_rational, od_rational, .func (PySem.W.fnOf "rational" "rational" (defArgs s_rational) (defBody s_rational) (defScope s_rational) (.ref dV_rational) kV_rational dc_rational pm_rational an_rational cd_rational ct_rational), sl_rational⟩) (c_rational : PySem.W.codeIn K cd_rational "rational" = true) (k_rational : PySem.W.keepIn K (.ref f_rational) = true)
    (a_add : PySem.W.nsIn K mainGlobals "add" = some (some (.ref f_add))) (l_add : K.lookup f_add = some ⟨oc_add, od_add, .func (PySem.W.fnOf "add" "add" (defArgs s_add) (defBody s_add) (defScope s_add) .none kV_add dc_add pm_add an_add cd_add ct_add), sl_add⟩) (c_add : PySem.W.codeIn K cd_add "add" = true) (k_add : PySem.W.keepIn K (.ref f_add) = true)
    (a_subtract : PySem.W.nsIn K mainGlobals "subtract" = some (some (.ref f_subtract))) (l_subtract : K.lookup f_subtract = some ⟨oc_subtract, od_subtract, .func (PySem.W.fnOf "subtract" "subtract" (defArgs s_subtract) (defBody s_subtract) (defScope s_subtract) .none kV_subtract dc_subtract pm_subtract an_subtract cd_subtract ct_subtract), sl_subtract⟩) (c_subtract : PySem.W.codeIn K cd_subtract "subtract" = true) (k_subtract : PySem.W.keepIn K (.ref f_subtract) = true)
    (a_multiply : PySem.W.nsIn K mainGlobals "multiply" = some (some (.ref f_multiply))) (l_multiply : K.lookup f_multiply = some ⟨oc_multiply, od_multiply, .func (PySem.W.fnOf "multiply" "multiply" (defArgs s_multiply) (defBody s_multiply) (defScope s_multiply) .none kV_multiply dc_multiply pm_multiply an_multiply cd_multiply ct_multiply), sl_multiply⟩) (c_multiply : PySem.W.codeIn K cd_multiply "multiply" = true) (k_multiply : PySem.W.keepIn K (.ref f_multiply) = true)
    (a_negate : PySem.W.nsIn K mainGlobals "negate" = some (some (.ref f_negate))) (l_negate : K.lookup f_negate = some ⟨oc_negate, od_negate, .func (PySem.W.fnOf "negate" "negate" (defArgs s_negate) (defBody s_negate) (defScope s_negate) .none kV_negate dc_negate pm_negate an_negate cd_negate ct_negate), sl_negate⟩) (c_negate : PySem.W.codeIn K cd_negate "negate" = true) (k_negate : PySem.W.keepIn K (.ref f_negate) = true)
    (a_compare : PySem.W.nsIn K mainGlobals "compare" = some (some (.ref f_compare))) (l_compare : K.lookup f_compare = some ⟨oc_compare, od_compare, .func (PySem.W.fnOf "compare" "compare" (defArgs s_compare) (defBody s_compare) (defScope s_compare) .none kV_compare dc_compare pm_compare an_compare cd_compare ct_compare), sl_compare⟩) (c_compare : PySem.W.codeIn K cd_compare "compare" = true) (k_compare : PySem.W.keepIn K (.ref f_compare) = true)
    (a__shown_by : PySem.W.nsIn K mainGlobals "_shown_by" = some (some (.ref f__shown_by))) (l__shown_by : K.lookup f__shown_by = some ⟨oc__shown_by, od__shown_by, .func (PySem.W.fnOf "_shown_by" "_shown_by" (defArgs s__shown_by) (defBody s__shown_by) (defScope s__shown_by) .none kV__shown_by dc__shown_by pm__shown_by an__shown_by cd__shown_by ct__shown_by), sl__shown_by⟩) (c__shown_by : PySem.W.codeIn K cd__shown_by "_shown_by" = true) (k__shown_by : PySem.W.keepIn K (.ref f__shown_by) = true)
    (a__place_at : PySem.W.nsIn K mainGlobals "_place_at" = some (some (.ref f__place_at))) (l__place_at : K.lookup f__place_at = some ⟨oc__place_at, od__place_at, .func (PySem.W.fnOf "_place_at" "_place_at" (defArgs s__place_at) (defBody s__place_at) (defScope s__place_at) .none kV__place_at dc__place_at pm__place_at an__place_at cd__place_at ct__place_at), sl__place_at⟩) (c__place_at : PySem.W.codeIn K cd__place_at "_place_at" = true) (k__place_at : PySem.W.keepIn K (.ref f__place_at) = true)
    (a__piece_at : PySem.W.nsIn K mainGlobals "_piece_at" = some (some (.ref f__piece_at))) (l__piece_at : K.lookup f__piece_at = some ⟨oc__piece_at, od__piece_at, .func (PySem.W.fnOf "_piece_at" "_piece_at" (defArgs s__piece_at) (defBody s__piece_at) (defScope s__piece_at) .none kV__piece_at dc__piece_at pm__piece_at an__piece_at cd__piece_at ct__piece_at), sl__piece_at⟩) (c__piece_at : PySem.W.codeIn K cd__piece_at "_piece_at" = true) (k__piece_at : PySem.W.keepIn K (.ref f__piece_at) = true)
    (a_shown_at : PySem.W.nsIn K mainGlobals "shown_at" = some (some (.ref f_shown_at))) (l_shown_at : K.lookup f_shown_at = some ⟨oc_shown_at, od_shown_at, .func (PySem.W.fnOf "shown_at" "shown_at" (defArgs s_shown_at) (defBody s_shown_at) (defScope s_shown_at) .none kV_shown_at dc_shown_at pm_shown_at an_shown_at cd_shown_at ct_shown_at), sl_shown_at⟩) (c_shown_at : PySem.W.codeIn K cd_shown_at "shown_at" = true) (k_shown_at : PySem.W.keepIn K (.ref f_shown_at) = true)
    (a__jump_at : PySem.W.nsIn K mainGlobals "_jump_at" = some (some (.ref f__jump_at))) (l__jump_at : K.lookup f__jump_at = some ⟨oc__jump_at, od__jump_at, .func (PySem.W.fnOf "_jump_at" "_jump_at" (defArgs s__jump_at) (defBody s__jump_at) (defScope s__jump_at) .none kV__jump_at dc__jump_at pm__jump_at an__jump_at cd__jump_at ct__jump_at), sl__jump_at⟩) (c__jump_at : PySem.W.codeIn K cd__jump_at "_jump_at" = true) (k__jump_at : PySem.W.keepIn K (.ref f__jump_at) = true)
    (a_tidy : PySem.W.nsIn K mainGlobals "tidy" = some (some (.ref f_tidy))) (l_tidy : K.lookup f_tidy = some ⟨oc_tidy, od_tidy, .func (PySem.W.fnOf "tidy" "tidy" (defArgs s_tidy) (defBody s_tidy) (defScope s_tidy) .none kV_tidy dc_tidy pm_tidy an_tidy cd_tidy ct_tidy), sl_tidy⟩) (c_tidy : PySem.W.codeIn K cd_tidy "tidy" = true) (k_tidy : PySem.W.keepIn K (.ref f_tidy) = true)
    (a__ahead_of : PySem.W.nsIn K mainGlobals "_ahead_of" = some (some (.ref f__ahead_of))) (l__ahead_of : K.lookup f__ahead_of = some ⟨oc__ahead_of, od__ahead_of, .func (PySem.W.fnOf "_ahead_of" "_ahead_of" (defArgs s__ahead_of) (defBody s__ahead_of) (defScope s__ahead_of) .none kV__ahead_of dc__ahead_of pm__ahead_of an__ahead_of cd__ahead_of ct__ahead_of), sl__ahead_of⟩) (c__ahead_of : PySem.W.codeIn K cd__ahead_of "_ahead_of" = true) (k__ahead_of : PySem.W.keepIn K (.ref f__ahead_of) = true)
    (a_slewed : PySem.W.nsIn K mainGlobals "slewed" = some (some (.ref f_slewed))) (l_slewed : K.lookup f_slewed = some ⟨oc_slewed, od_slewed, .func (PySem.W.fnOf "slewed" "slewed" (defArgs s_slewed) (defBody s_slewed) (defScope s_slewed) .none kV_slewed dc_slewed pm_slewed an_slewed cd_slewed ct_slewed), sl_slewed⟩) (c_slewed : PySem.W.codeIn K cd_slewed "slewed" = true) (k_slewed : PySem.W.keepIn K (.ref f_slewed) = true)
    (a_stepped : PySem.W.nsIn K mainGlobals "stepped" = some (some (.ref f_stepped))) (l_stepped : K.lookup f_stepped = some ⟨oc_stepped, od_stepped, .func (PySem.W.fnOf "stepped" "stepped" (defArgs s_stepped) (defBody s_stepped) (defScope s_stepped) .none kV_stepped dc_stepped pm_stepped an_stepped cd_stepped ct_stepped), sl_stepped⟩) (c_stepped : PySem.W.codeIn K cd_stepped "stepped" = true) (k_stepped : PySem.W.keepIn K (.ref f_stepped) = true)
    (a__law_store : PySem.W.nsIn K mainGlobals "_law_store" = some (some (.ref f__law_store))) (l__law_store : K.lookup f__law_store = some ⟨oc__law_store, od__law_store, .func (PySem.W.fnOf "_law_store" "_law_store" (defArgs s__law_store) (defBody s__law_store) (defScope s__law_store) .none kV__law_store dc__law_store pm__law_store an__law_store cd__law_store ct__law_store), sl__law_store⟩) (c__law_store : PySem.W.codeIn K cd__law_store "_law_store" = true) (k__law_store : PySem.W.keepIn K (.ref f__law_store) = true)
    (a__law_feed : PySem.W.nsIn K mainGlobals "_law_feed" = some (some (.ref f__law_feed))) (l__law_feed : K.lookup f__law_feed = some ⟨oc__law_feed, od__law_feed, .func (PySem.W.fnOf "_law_feed" "_law_feed" (defArgs s__law_feed) (defBody s__law_feed) (defScope s__law_feed) .none kV__law_feed dc__law_feed pm__law_feed an__law_feed cd__law_feed ct__law_feed), sl__law_feed⟩) (c__law_feed : PySem.W.codeIn K cd__law_feed "_law_feed" = true) (k__law_feed : PySem.W.keepIn K (.ref f__law_feed) = true)
    (a__law_mixed : PySem.W.nsIn K mainGlobals "_law_mixed" = some (some (.ref f__law_mixed))) (l__law_mixed : K.lookup f__law_mixed = some ⟨oc__law_mixed, od__law_mixed, .func (PySem.W.fnOf "_law_mixed" "_law_mixed" (defArgs s__law_mixed) (defBody s__law_mixed) (defScope s__law_mixed) .none kV__law_mixed dc__law_mixed pm__law_mixed an__law_mixed cd__law_mixed ct__law_mixed), sl__law_mixed⟩) (c__law_mixed : PySem.W.codeIn K cd__law_mixed "_law_mixed" = true) (k__law_mixed : PySem.W.keepIn K (.ref f__law_mixed) = true)
    (a__law_take : PySem.W.nsIn K mainGlobals "_law_take" = some (some (.ref f__law_take))) (l__law_take : K.lookup f__law_take = some ⟨oc__law_take, od__law_take, .func (PySem.W.fnOf "_law_take" "_law_take" (defArgs s__law_take) (defBody s__law_take) (defScope s__law_take) .none kV__law_take dc__law_take pm__law_take an__law_take cd__law_take ct__law_take), sl__law_take⟩) (c__law_take : PySem.W.codeIn K cd__law_take "_law_take" = true) (k__law_take : PySem.W.keepIn K (.ref f__law_take) = true)
    (a__law_pick : PySem.W.nsIn K mainGlobals "_law_pick" = some (some (.ref f__law_pick))) (l__law_pick : K.lookup f__law_pick = some ⟨oc__law_pick, od__law_pick, .func (PySem.W.fnOf "_law_pick" "_law_pick" (defArgs s__law_pick) (defBody s__law_pick) (defScope s__law_pick) .none kV__law_pick dc__law_pick pm__law_pick an__law_pick cd__law_pick ct__law_pick), sl__law_pick⟩) (c__law_pick : PySem.W.codeIn K cd__law_pick "_law_pick" = true) (k__law_pick : PySem.W.keepIn K (.ref f__law_pick) = true)
    (a__law_size : PySem.W.nsIn K mainGlobals "_law_size" = some (some (.ref f__law_size))) (l__law_size : K.lookup f__law_size = some ⟨oc__law_size, od__law_size, .func (PySem.W.fnOf "_law_size" "_law_size" (defArgs s__law_size) (defBody s__law_size) (defScope s__law_size) .none kV__law_size dc__law_size pm__law_size an__law_size cd__law_size ct__law_size), sl__law_size⟩) (c__law_size : PySem.W.codeIn K cd__law_size "_law_size" = true) (k__law_size : PySem.W.keepIn K (.ref f__law_size) = true)
    (a__law_is_int : PySem.W.nsIn K mainGlobals "_law_is_int" = some (some (.ref f__law_is_int))) (l__law_is_int : K.lookup f__law_is_int = some ⟨oc__law_is_int, od__law_is_int, .func (PySem.W.fnOf "_law_is_int" "_law_is_int" (defArgs s__law_is_int) (defBody s__law_is_int) (defScope s__law_is_int) .none kV__law_is_int dc__law_is_int pm__law_is_int an__law_is_int cd__law_is_int ct__law_is_int), sl__law_is_int⟩) (c__law_is_int : PySem.W.codeIn K cd__law_is_int "_law_is_int" = true) (k__law_is_int : PySem.W.keepIn K (.ref f__law_is_int) = true)
    (a__law_same : PySem.W.nsIn K mainGlobals "_law_same" = some (some (.ref f__law_same))) (l__law_same : K.lookup f__law_same = some ⟨oc__law_same, od__law_same, .func (PySem.W.fnOf "_law_same" "_law_same" (defArgs s__law_same) (defBody s__law_same) (defScope s__law_same) .none kV__law_same dc__law_same pm__law_same an__law_same cd__law_same ct__law_same), sl__law_same⟩) (c__law_same : PySem.W.codeIn K cd__law_same "_law_same" = true) (k__law_same : PySem.W.keepIn K (.ref f__law_same) = true)
    (a__law_frac : PySem.W.nsIn K mainGlobals "_law_frac" = some (some (.ref f__law_frac))) (l__law_frac : K.lookup f__law_frac = some ⟨oc__law_frac, od__law_frac, .func (PySem.W.fnOf "_law_frac" "_law_frac" (defArgs s__law_frac) (defBody s__law_frac) (defScope s__law_frac) .none kV__law_frac dc__law_frac pm__law_frac an__law_frac cd__law_frac ct__law_frac), sl__law_frac⟩) (c__law_frac : PySem.W.codeIn K cd__law_frac "_law_frac" = true) (k__law_frac : PySem.W.keepIn K (.ref f__law_frac) = true)
    (a__law_plus : PySem.W.nsIn K mainGlobals "_law_plus" = some (some (.ref f__law_plus))) (l__law_plus : K.lookup f__law_plus = some ⟨oc__law_plus, od__law_plus, .func (PySem.W.fnOf "_law_plus" "_law_plus" (defArgs s__law_plus) (defBody s__law_plus) (defScope s__law_plus) .none kV__law_plus dc__law_plus pm__law_plus an__law_plus cd__law_plus ct__law_plus), sl__law_plus⟩) (c__law_plus : PySem.W.codeIn K cd__law_plus "_law_plus" = true) (k__law_plus : PySem.W.keepIn K (.ref f__law_plus) = true)
    (a__law_minus : PySem.W.nsIn K mainGlobals "_law_minus" = some (some (.ref f__law_minus))) (l__law_minus : K.lookup f__law_minus = some ⟨oc__law_minus, od__law_minus, .func (PySem.W.fnOf "_law_minus" "_law_minus" (defArgs s__law_minus) (defBody s__law_minus) (defScope s__law_minus) .none kV__law_minus dc__law_minus pm__law_minus an__law_minus cd__law_minus ct__law_minus), sl__law_minus⟩) (c__law_minus : PySem.W.codeIn K cd__law_minus "_law_minus" = true) (k__law_minus : PySem.W.keepIn K (.ref f__law_minus) = true)
    (a__law_times : PySem.W.nsIn K mainGlobals "_law_times" = some (some (.ref f__law_times))) (l__law_times : K.lookup f__law_times = some ⟨oc__law_times, od__law_times, .func (PySem.W.fnOf "_law_times" "_law_times" (defArgs s__law_times) (defBody s__law_times) (defScope s__law_times) .none kV__law_times dc__law_times pm__law_times an__law_times cd__law_times ct__law_times), sl__law_times⟩) (c__law_times : PySem.W.codeIn K cd__law_times "_law_times" = true) (k__law_times : PySem.W.keepIn K (.ref f__law_times) = true)
    (a__law_below : PySem.W.nsIn K mainGlobals "_law_below" = some (some (.ref f__law_below))) (l__law_below : K.lookup f__law_below = some ⟨oc__law_below, od__law_below, .func (PySem.W.fnOf "_law_below" "_law_below" (defArgs s__law_below) (defBody s__law_below) (defScope s__law_below) .none kV__law_below dc__law_below pm__law_below an__law_below cd__law_below ct__law_below), sl__law_below⟩) (c__law_below : PySem.W.codeIn K cd__law_below "_law_below" = true) (k__law_below : PySem.W.keepIn K (.ref f__law_below) = true)
    (a__law_is_frac : PySem.W.nsIn K mainGlobals "_law_is_frac" = some (some (.ref f__law_is_frac))) (l__law_is_frac : K.lookup f__law_is_frac = some ⟨oc__law_is_frac, od__law_is_frac, .func (PySem.W.fnOf "_law_is_frac" "_law_is_frac" (defArgs s__law_is_frac) (defBody s__law_is_frac) (defScope s__law_is_frac) .none kV__law_is_frac dc__law_is_frac pm__law_is_frac an__law_is_frac cd__law_is_frac ct__law_is_frac), sl__law_is_frac⟩) (c__law_is_frac : PySem.W.codeIn K cd__law_is_frac "_law_is_frac" = true) (k__law_is_frac : PySem.W.keepIn K (.ref f__law_is_frac) = true)
    (a__law_ratio : PySem.W.nsIn K mainGlobals "_law_ratio" = some (some (.ref f__law_ratio))) (l__law_ratio : K.lookup f__law_ratio = some ⟨oc__law_ratio, od__law_ratio, .func (PySem.W.fnOf "_law_ratio" "_law_ratio" (defArgs s__law_ratio) (defBody s__law_ratio) (defScope s__law_ratio) .none kV__law_ratio dc__law_ratio pm__law_ratio an__law_ratio cd__law_ratio ct__law_ratio), sl__law_ratio⟩) (c__law_ratio : PySem.W.codeIn K cd__law_ratio "_law_ratio" = true) (k__law_ratio : PySem.W.keepIn K (.ref f__law_ratio) = true)
    (a__law_part : PySem.W.nsIn K mainGlobals "_law_part" = some (some (.ref f__law_part))) (l__law_part : K.lookup f__law_part = some ⟨oc__law_part, od__law_part, .func (PySem.W.fnOf "_law_part" "_law_part" (defArgs s__law_part) (defBody s__law_part) (defScope s__law_part) .none kV__law_part dc__law_part pm__law_part an__law_part cd__law_part ct__law_part), sl__law_part⟩) (c__law_part : PySem.W.codeIn K cd__law_part "_law_part" = true) (k__law_part : PySem.W.keepIn K (.ref f__law_part) = true)
    (a__law_above : PySem.W.nsIn K mainGlobals "_law_above" = some (some (.ref f__law_above))) (l__law_above : K.lookup f__law_above = some ⟨oc__law_above, od__law_above, .func (PySem.W.fnOf "_law_above" "_law_above" (defArgs s__law_above) (defBody s__law_above) (defScope s__law_above) .none kV__law_above dc__law_above pm__law_above an__law_above cd__law_above ct__law_above), sl__law_above⟩) (c__law_above : PySem.W.codeIn K cd__law_above "_law_above" = true) (k__law_above : PySem.W.keepIn K (.ref f__law_above) = true)
    (a__law_ordered : PySem.W.nsIn K mainGlobals "_law_ordered" = some (some (.ref f__law_ordered))) (l__law_ordered : K.lookup f__law_ordered = some ⟨oc__law_ordered, od__law_ordered, .func (PySem.W.fnOf "_law_ordered" "_law_ordered" (defArgs s__law_ordered) (defBody s__law_ordered) (defScope s__law_ordered) .none kV__law_ordered dc__law_ordered pm__law_ordered an__law_ordered cd__law_ordered ct__law_ordered), sl__law_ordered⟩) (c__law_ordered : PySem.W.codeIn K cd__law_ordered "_law_ordered" = true) (k__law_ordered : PySem.W.keepIn K (.ref f__law_ordered) = true)
    (a__law_probes : PySem.W.nsIn K mainGlobals "_law_probes" = some (some (.ref f__law_probes))) (l__law_probes : K.lookup f__law_probes = some ⟨oc__law_probes, od__law_probes, .func (PySem.W.fnOf "_law_probes" "_law_probes" (defArgs s__law_probes) (defBody s__law_probes) (defScope s__law_probes) .none kV__law_probes dc__law_probes pm__law_probes an__law_probes cd__law_probes ct__law_probes), sl__law_probes⟩) (c__law_probes : PySem.W.codeIn K cd__law_probes "_law_probes" = true) (k__law_probes : PySem.W.keepIn K (.ref f__law_probes) = true)
    (a__law_pace : PySem.W.nsIn K mainGlobals "_law_pace" = some (some (.ref f__law_pace))) (l__law_pace : K.lookup f__law_pace = some ⟨oc__law_pace, od__law_pace, .func (PySem.W.fnOf "_law_pace" "_law_pace" (defArgs s__law_pace) (defBody s__law_pace) (defScope s__law_pace) .none kV__law_pace dc__law_pace pm__law_pace an__law_pace cd__law_pace ct__law_pace), sl__law_pace⟩) (c__law_pace : PySem.W.codeIn K cd__law_pace "_law_pace" = true) (k__law_pace : PySem.W.keepIn K (.ref f__law_pace) = true)
    (a__law_course : PySem.W.nsIn K mainGlobals "_law_course" = some (some (.ref f__law_course))) (l__law_course : K.lookup f__law_course = some ⟨oc__law_course, od__law_course, .func (PySem.W.fnOf "_law_course" "_law_course" (defArgs s__law_course) (defBody s__law_course) (defScope s__law_course) .none kV__law_course dc__law_course pm__law_course an__law_course cd__law_course ct__law_course), sl__law_course⟩) (c__law_course : PySem.W.codeIn K cd__law_course "_law_course" = true) (k__law_course : PySem.W.keepIn K (.ref f__law_course) = true)
    (a__law_alone : PySem.W.nsIn K mainGlobals "_law_alone" = some (some (.ref f__law_alone))) (l__law_alone : K.lookup f__law_alone = some ⟨oc__law_alone, od__law_alone, .func (PySem.W.fnOf "_law_alone" "_law_alone" (defArgs s__law_alone) (defBody s__law_alone) (defScope s__law_alone) .none kV__law_alone dc__law_alone pm__law_alone an__law_alone cd__law_alone ct__law_alone), sl__law_alone⟩) (c__law_alone : PySem.W.codeIn K cd__law_alone "_law_alone" = true) (k__law_alone : PySem.W.keepIn K (.ref f__law_alone) = true)
    (a__law_wide_course : PySem.W.nsIn K mainGlobals "_law_wide_course" = some (some (.ref f__law_wide_course))) (l__law_wide_course : K.lookup f__law_wide_course = some ⟨oc__law_wide_course, od__law_wide_course, .func (PySem.W.fnOf "_law_wide_course" "_law_wide_course" (defArgs s__law_wide_course) (defBody s__law_wide_course) (defScope s__law_wide_course) .none kV__law_wide_course dc__law_wide_course pm__law_wide_course an__law_wide_course cd__law_wide_course ct__law_wide_course), sl__law_wide_course⟩) (c__law_wide_course : PySem.W.codeIn K cd__law_wide_course "_law_wide_course" = true) (k__law_wide_course : PySem.W.keepIn K (.ref f__law_wide_course) = true)
    (a__law_now : PySem.W.nsIn K mainGlobals "_law_now" = some (some (.ref f__law_now))) (l__law_now : K.lookup f__law_now = some ⟨oc__law_now, od__law_now, .func (PySem.W.fnOf "_law_now" "_law_now" (defArgs s__law_now) (defBody s__law_now) (defScope s__law_now) .none kV__law_now dc__law_now pm__law_now an__law_now cd__law_now ct__law_now), sl__law_now⟩) (c__law_now : PySem.W.codeIn K cd__law_now "_law_now" = true) (k__law_now : PySem.W.keepIn K (.ref f__law_now) = true)
    (a__law_is_course : PySem.W.nsIn K mainGlobals "_law_is_course" = some (some (.ref f__law_is_course))) (l__law_is_course : K.lookup f__law_is_course = some ⟨oc__law_is_course, od__law_is_course, .func (PySem.W.fnOf "_law_is_course" "_law_is_course" (defArgs s__law_is_course) (defBody s__law_is_course) (defScope s__law_is_course) .none kV__law_is_course dc__law_is_course pm__law_is_course an__law_is_course cd__law_is_course ct__law_is_course), sl__law_is_course⟩) (c__law_is_course : PySem.W.codeIn K cd__law_is_course "_law_is_course" = true) (k__law_is_course : PySem.W.keepIn K (.ref f__law_is_course) = true)
    (a__law_is_tidy : PySem.W.nsIn K mainGlobals "_law_is_tidy" = some (some (.ref f__law_is_tidy))) (l__law_is_tidy : K.lookup f__law_is_tidy = some ⟨oc__law_is_tidy, od__law_is_tidy, .func (PySem.W.fnOf "_law_is_tidy" "_law_is_tidy" (defArgs s__law_is_tidy) (defBody s__law_is_tidy) (defScope s__law_is_tidy) .none kV__law_is_tidy dc__law_is_tidy pm__law_is_tidy an__law_is_tidy cd__law_is_tidy ct__law_is_tidy), sl__law_is_tidy⟩) (c__law_is_tidy : PySem.W.codeIn K cd__law_is_tidy "_law_is_tidy" = true) (k__law_is_tidy : PySem.W.keepIn K (.ref f__law_is_tidy) = true)
    (a__law_told : PySem.W.nsIn K mainGlobals "_law_told" = some (some (.ref f__law_told))) (l__law_told : K.lookup f__law_told = some ⟨oc__law_told, od__law_told, .func (PySem.W.fnOf "_law_told" "_law_told" (defArgs s__law_told) (defBody s__law_told) (defScope s__law_told) .none kV__law_told dc__law_told pm__law_told an__law_told cd__law_told ct__law_told), sl__law_told⟩) (c__law_told : PySem.W.codeIn K cd__law_told "_law_told" = true) (k__law_told : PySem.W.keepIn K (.ref f__law_told) = true)
    (a__law_right : PySem.W.nsIn K mainGlobals "_law_right" = some (some (.ref f__law_right))) (l__law_right : K.lookup f__law_right = some ⟨oc__law_right, od__law_right, .func (PySem.W.fnOf "_law_right" "_law_right" (defArgs s__law_right) (defBody s__law_right) (defScope s__law_right) .none kV__law_right dc__law_right pm__law_right an__law_right cd__law_right ct__law_right), sl__law_right⟩) (c__law_right : PySem.W.codeIn K cd__law_right "_law_right" = true) (k__law_right : PySem.W.keepIn K (.ref f__law_right) = true)
    (a__law_when : PySem.W.nsIn K mainGlobals "_law_when" = some (some (.ref f__law_when))) (l__law_when : K.lookup f__law_when = some ⟨oc__law_when, od__law_when, .func (PySem.W.fnOf "_law_when" "_law_when" (defArgs s__law_when) (defBody s__law_when) (defScope s__law_when) .none kV__law_when dc__law_when pm__law_when an__law_when cd__law_when ct__law_when), sl__law_when⟩) (c__law_when : PySem.W.codeIn K cd__law_when "_law_when" = true) (k__law_when : PySem.W.keepIn K (.ref f__law_when) = true)
    (a__law_some_rate : PySem.W.nsIn K mainGlobals "_law_some_rate" = some (some (.ref f__law_some_rate))) (l__law_some_rate : K.lookup f__law_some_rate = some ⟨oc__law_some_rate, od__law_some_rate, .func (PySem.W.fnOf "_law_some_rate" "_law_some_rate" (defArgs s__law_some_rate) (defBody s__law_some_rate) (defScope s__law_some_rate) .none kV__law_some_rate dc__law_some_rate pm__law_some_rate an__law_some_rate cd__law_some_rate ct__law_some_rate), sl__law_some_rate⟩) (c__law_some_rate : PySem.W.codeIn K cd__law_some_rate "_law_some_rate" = true) (k__law_some_rate : PySem.W.keepIn K (.ref f__law_some_rate) = true)
    (a__law_some_jump : PySem.W.nsIn K mainGlobals "_law_some_jump" = some (some (.ref f__law_some_jump))) (l__law_some_jump : K.lookup f__law_some_jump = some ⟨oc__law_some_jump, od__law_some_jump, .func (PySem.W.fnOf "_law_some_jump" "_law_some_jump" (defArgs s__law_some_jump) (defBody s__law_some_jump) (defScope s__law_some_jump) .none kV__law_some_jump dc__law_some_jump pm__law_some_jump an__law_some_jump cd__law_some_jump ct__law_some_jump), sl__law_some_jump⟩) (c__law_some_jump : PySem.W.codeIn K cd__law_some_jump "_law_some_jump" = true) (k__law_some_jump : PySem.W.keepIn K (.ref f__law_some_jump) = true)
    (a__law_both_right : PySem.W.nsIn K mainGlobals "_law_both_right" = some (some (.ref f__law_both_right))) (l__law_both_right : K.lookup f__law_both_right = some ⟨oc__law_both_right, od__law_both_right, .func (PySem.W.fnOf "_law_both_right" "_law_both_right" (defArgs s__law_both_right) (defBody s__law_both_right) (defScope s__law_both_right) .none kV__law_both_right dc__law_both_right pm__law_both_right an__law_both_right cd__law_both_right ct__law_both_right), sl__law_both_right⟩) (c__law_both_right : PySem.W.codeIn K cd__law_both_right "_law_both_right" = true) (k__law_both_right : PySem.W.keepIn K (.ref f__law_both_right) = true)
    (a__law_long_right : PySem.W.nsIn K mainGlobals "_law_long_right" = some (some (.ref f__law_long_right))) (l__law_long_right : K.lookup f__law_long_right = some ⟨oc__law_long_right, od__law_long_right, .func (PySem.W.fnOf "_law_long_right" "_law_long_right" (defArgs s__law_long_right) (defBody s__law_long_right) (defScope s__law_long_right) .none kV__law_long_right dc__law_long_right pm__law_long_right an__law_long_right cd__law_long_right ct__law_long_right), sl__law_long_right⟩) (c__law_long_right : PySem.W.codeIn K cd__law_long_right "_law_long_right" = true) (k__law_long_right : PySem.W.keepIn K (.ref f__law_long_right) = true)
    (a_law : PySem.W.nsIn K mainGlobals "law" = some (some (.ref f_law))) (l_law : K.lookup f_law = some ⟨oc_law, od_law, .func (PySem.W.fnOf "law" "law" (defArgs s_law) (defBody s_law) (defScope s_law) .none kV_law dc_law pm_law an_law cd_law ct_law), sl_law⟩) (c_law : PySem.W.codeIn K cd_law "law" = true) (k_law : PySem.W.keepIn K (.ref f_law) = true)
    (zgcd : PySem.W.nsIn K mainGlobals "gcd" = some (some (.builtin "math.gcd")))
    (zlen : PySem.W.nsIn K mainGlobals "len" = some none)
    (zabs : PySem.W.nsIn K mainGlobals "abs" = some none)
    (zmax : PySem.W.nsIn K mainGlobals "max" = some none)
    (zint : PySem.W.nsIn K mainGlobals "int" = some none)
    (zisinstance : PySem.W.nsIn K mainGlobals "isinstance" = some none)
    (zrange : PySem.W.nsIn K mainGlobals "range" = some none)
    (zenumerate : PySem.W.nsIn K mainGlobals "enumerate" = some none)
    (zlist : PySem.W.nsIn K mainGlobals "list" = some none)
    (ztuple : PySem.W.nsIn K mainGlobals "tuple" = some none)
    (zstr : PySem.W.nsIn K mainGlobals "str" = some none)
    (zbool : PySem.W.nsIn K mainGlobals "bool" = some none)
    (zdict : PySem.W.nsIn K mainGlobals "dict" = some none)
    (zVE : PySem.W.nsIn K mainGlobals "ValueError" = some none) (sVEB : PySem.W.subIn K (.ref C_BeforeStart) (.type "ValueError") = some true) (sVER : PySem.W.subIn K (.ref C_BadRate) (.type "ValueError") = some true) (eC_VerdictError : PySem.W.subIn K (.ref C_VerdictError) (.type "BaseException") = some true)
    : ∃ fd : FuncData, (∀ (s : Shared) (v : Value), BindsTo s fd ⟨[v], []⟩ [("_law_script", v)]) ∧ ∀ base : Heap, K.In base → base.Ns mainGlobals mg → FnOk l.prog w K mg base CX0 9 fa fd ["_law_script"] (spLaw K) := by
  have e := hfa.symm.trans (PySem.W.mg_of X G a_law)
  cases e
  have T : Bn mg := ⟨PySem.W.mg_of X G zgcd, PySem.W.mg_none_of X G zlen, PySem.W.mg_none_of X G zabs, PySem.W.mg_none_of X G zmax, PySem.W.mg_none_of X G zint, PySem.W.mg_none_of X G zisinstance, PySem.W.mg_none_of X G zrange, PySem.W.mg_none_of X G zenumerate, PySem.W.mg_none_of X G zlist, PySem.W.mg_none_of X G ztuple, PySem.W.mg_none_of X G zstr, PySem.W.mg_none_of X G zbool, PySem.W.mg_none_of X G zdict⟩
  have hR_rational : FunD K "rational" "rational" (defArgs s_rational) (defBody s_rational) (defScope s_rational) [.int 1] [] f_rational _ := ⟨⟨_, _, _, _, _, _, _, _, _, _, rfl, l_rational, c_rational, .inr ⟨nofun, dV_rational, _, [.int 1 dtk_rational], dn_rational, rfl, ldf_rational, rfl, .cons ⟨dtk_rational, rfl⟩ .nil⟩, .inl rfl⟩, k_rational⟩
  obtain ⟨ds_rational, rds_rational, bR_rational⟩ := hR_rational.binds1 (ps := ["n", "d"]) 2 1 nofun rfl fun T kV doc pm an cdv ct us its hu hi => match us, its, hu, hi with | [_, _], [_], _, _ => ⟨_, rfl, rfl⟩
  cases rds_rational
  have F_add := fun_mk (st := s_add) l_add c_add k_add
  have B_add := F_add.binds (ps := ["a", "b"]) fun _ _ _ _ _ _ us hl => match us, hl with | [_, _], _ => rfl
  have F_subtract := fun_mk (st := s_subtract) l_subtract c_subtract k_subtract
  have B_subtract := F_subtract.binds (ps := ["a", "b"]) fun _ _ _ _ _ _ us hl => match us, hl with | [_, _], _ => rfl
  have F_multiply := fun_mk (st := s_multiply) l_multiply c_multiply k_multiply
  have B_multiply := F_multiply.binds (ps := ["a", "b"]) fun _ _ _ _ _ _ us hl => match us, hl with | [_, _], _ => rfl
  have F_negate := fun_mk (st := s_negate) l_negate c_negate k_negate
  have B_negate := F_negate.binds (ps := ["a"]) fun _ _ _ _ _ _ us hl => match us, hl with | [_], _ => rfl
  have F_compare := fun_mk (st := s_compare) l_compare c_compare k_compare
  have B_compare := F_compare.binds (ps := ["a", "b"]) fun _ _ _ _ _ _ us hl => match us, hl with | [_, _], _ => rfl
  have F__shown_by := fun_mk (st := s__shown_by) l__shown_by c__shown_by k__shown_by
  have B__shown_by := F__shown_by.binds (ps := ["piece", "t"]) fun _ _ _ _ _ _ us hl => match us, hl with | [_, _], _ => rfl
  have F__place_at := fun_mk (st := s__place_at) l__place_at c__place_at k__place_at
  have B__place_at := F__place_at.binds (ps := ["course", "t"]) fun _ _ _ _ _ _ us hl => match us, hl with | [_, _], _ => rfl
  have F__piece_at := fun_mk (st := s__piece_at) l__piece_at c__piece_at k__piece_at
  have B__piece_at := F__piece_at.binds (ps := ["course", "t"]) fun _ _ _ _ _ _ us hl => match us, hl with | [_, _], _ => rfl
  have F_shown_at := fun_mk (st := s_shown_at) l_shown_at c_shown_at k_shown_at
  have B_shown_at := F_shown_at.binds (ps := ["course", "t"]) fun _ _ _ _ _ _ us hl => match us, hl with | [_, _], _ => rfl
  have F__jump_at := fun_mk (st := s__jump_at) l__jump_at c__jump_at k__jump_at
  have B__jump_at := F__jump_at.binds (ps := ["course", "at"]) fun _ _ _ _ _ _ us hl => match us, hl with | [_, _], _ => rfl
  have F_tidy := fun_mk (st := s_tidy) l_tidy c_tidy k_tidy
  have B_tidy := F_tidy.binds (ps := ["course"]) fun _ _ _ _ _ _ us hl => match us, hl with | [_], _ => rfl
  have F__ahead_of := fun_mk (st := s__ahead_of) l__ahead_of c__ahead_of k__ahead_of
  have B__ahead_of := F__ahead_of.binds (ps := ["course", "t"]) fun _ _ _ _ _ _ us hl => match us, hl with | [_, _], _ => rfl
  have F_slewed := fun_mk (st := s_slewed) l_slewed c_slewed k_slewed
  have B_slewed := F_slewed.binds (ps := ["course", "t", "rate"]) fun _ _ _ _ _ _ us hl => match us, hl with | [_, _, _], _ => rfl
  have F_stepped := fun_mk (st := s_stepped) l_stepped c_stepped k_stepped
  have B_stepped := F_stepped.binds (ps := ["course", "t", "jump"]) fun _ _ _ _ _ _ us hl => match us, hl with | [_, _, _], _ => rfl
  have F__law_store := fun_mk (st := s__law_store) l__law_store c__law_store k__law_store
  have B__law_store := F__law_store.binds (ps := ["_law_script"]) fun _ _ _ _ _ _ us hl => match us, hl with | [_], _ => rfl
  have F__law_feed := fun_mk (st := s__law_feed) l__law_feed c__law_feed k__law_feed
  have B__law_feed := F__law_feed.binds (ps := ["_law_store_here"]) fun _ _ _ _ _ _ us hl => match us, hl with | [_], _ => rfl
  have F__law_mixed := fun_mk (st := s__law_mixed) l__law_mixed c__law_mixed k__law_mixed
  have B__law_mixed := F__law_mixed.binds (ps := ["_law_store_here"]) fun _ _ _ _ _ _ us hl => match us, hl with | [_], _ => rfl
  have F__law_take := fun_mk (st := s__law_take) l__law_take c__law_take k__law_take
  have B__law_take := F__law_take.binds (ps := ["_law_store_here", "_law_many"]) fun _ _ _ _ _ _ us hl => match us, hl with | [_, _], _ => rfl
  have F__law_pick := fun_mk (st := s__law_pick) l__law_pick c__law_pick k__law_pick
  have B__law_pick := F__law_pick.binds (ps := ["_law_store_here", "_law_things"]) fun _ _ _ _ _ _ us hl => match us, hl with | [_, _], _ => rfl
  have F__law_size := fun_mk (st := s__law_size) l__law_size c__law_size k__law_size
  have B__law_size := F__law_size.binds (ps := ["_law_store_here", "_law_least", "_law_top"]) fun _ _ _ _ _ _ us hl => match us, hl with | [_, _, _], _ => rfl
  have F__law_is_int := fun_mk (st := s__law_is_int) l__law_is_int c__law_is_int k__law_is_int
  have B__law_is_int := F__law_is_int.binds (ps := ["_law_value"]) fun _ _ _ _ _ _ us hl => match us, hl with | [_], _ => rfl
  have F__law_same := fun_mk (st := s__law_same) l__law_same c__law_same k__law_same
  have B__law_same := F__law_same.binds (ps := ["_law_value", "_law_due"]) fun _ _ _ _ _ _ us hl => match us, hl with | [_, _], _ => rfl
  have F__law_frac := fun_mk (st := s__law_frac) l__law_frac c__law_frac k__law_frac
  have B__law_frac := F__law_frac.binds (ps := ["_law_n", "_law_d"]) fun _ _ _ _ _ _ us hl => match us, hl with | [_, _], _ => rfl
  have F__law_plus := fun_mk (st := s__law_plus) l__law_plus c__law_plus k__law_plus
  have B__law_plus := F__law_plus.binds (ps := ["_law_a", "_law_b"]) fun _ _ _ _ _ _ us hl => match us, hl with | [_, _], _ => rfl
  have F__law_minus := fun_mk (st := s__law_minus) l__law_minus c__law_minus k__law_minus
  have B__law_minus := F__law_minus.binds (ps := ["_law_a", "_law_b"]) fun _ _ _ _ _ _ us hl => match us, hl with | [_, _], _ => rfl
  have F__law_times := fun_mk (st := s__law_times) l__law_times c__law_times k__law_times
  have B__law_times := F__law_times.binds (ps := ["_law_a", "_law_b"]) fun _ _ _ _ _ _ us hl => match us, hl with | [_, _], _ => rfl
  have F__law_below := fun_mk (st := s__law_below) l__law_below c__law_below k__law_below
  have B__law_below := F__law_below.binds (ps := ["_law_a", "_law_b"]) fun _ _ _ _ _ _ us hl => match us, hl with | [_, _], _ => rfl
  have F__law_is_frac := fun_mk (st := s__law_is_frac) l__law_is_frac c__law_is_frac k__law_is_frac
  have B__law_is_frac := F__law_is_frac.binds (ps := ["_law_value"]) fun _ _ _ _ _ _ us hl => match us, hl with | [_], _ => rfl
  have F__law_ratio := fun_mk (st := s__law_ratio) l__law_ratio c__law_ratio k__law_ratio
  have B__law_ratio := F__law_ratio.binds (ps := ["_law_store_here", "_law_top"]) fun _ _ _ _ _ _ us hl => match us, hl with | [_, _], _ => rfl
  have F__law_part := fun_mk (st := s__law_part) l__law_part c__law_part k__law_part
  have B__law_part := F__law_part.binds (ps := ["_law_store_here"]) fun _ _ _ _ _ _ us hl => match us, hl with | [_], _ => rfl
  have F__law_above := fun_mk (st := s__law_above) l__law_above c__law_above k__law_above
  have B__law_above := F__law_above.binds (ps := ["_law_store_here"]) fun _ _ _ _ _ _ us hl => match us, hl with | [_], _ => rfl
  have F__law_ordered := fun_mk (st := s__law_ordered) l__law_ordered c__law_ordered k__law_ordered
  have B__law_ordered := F__law_ordered.binds (ps := ["_law_fracs"]) fun _ _ _ _ _ _ us hl => match us, hl with | [_], _ => rfl
  have F__law_probes := fun_mk (st := s__law_probes) l__law_probes c__law_probes k__law_probes
  have B__law_probes := F__law_probes.binds (ps := ["_law_spans"]) fun _ _ _ _ _ _ us hl => match us, hl with | [_], _ => rfl
  have F__law_pace := fun_mk (st := s__law_pace) l__law_pace c__law_pace k__law_pace
  have B__law_pace := F__law_pace.binds (ps := ["_law_store_here"]) fun _ _ _ _ _ _ us hl => match us, hl with | [_], _ => rfl
  have F__law_course := fun_mk (st := s__law_course) l__law_course c__law_course k__law_course
  have B__law_course := F__law_course.binds (ps := ["_law_store_here", "_law_many", "_law_fall"]) fun _ _ _ _ _ _ us hl => match us, hl with | [_, _, _], _ => rfl
  have F__law_alone := fun_mk (st := s__law_alone) l__law_alone c__law_alone k__law_alone
  have B__law_alone := F__law_alone.binds (ps := ["_law_e"]) fun _ _ _ _ _ _ us hl => match us, hl with | [_], _ => rfl
  have F__law_wide_course := fun_mk (st := s__law_wide_course) l__law_wide_course c__law_wide_course k__law_wide_course
  have B__law_wide_course := F__law_wide_course.binds (ps := ["_law_store_here"]) fun _ _ _ _ _ _ us hl => match us, hl with | [_], _ => rfl
  have F__law_now := fun_mk (st := s__law_now) l__law_now c__law_now k__law_now
  have B__law_now := F__law_now.binds (ps := ["_law_course_here", "_law_t"]) fun _ _ _ _ _ _ us hl => match us, hl with | [_, _], _ => rfl
  have F__law_is_course := fun_mk (st := s__law_is_course) l__law_is_course c__law_is_course k__law_is_course
  have B__law_is_course := F__law_is_course.binds (ps := ["_law_value"]) fun _ _ _ _ _ _ us hl => match us, hl with | [_], _ => rfl
  have F__law_is_tidy := fun_mk (st := s__law_is_tidy) l__law_is_tidy c__law_is_tidy k__law_is_tidy
  have B__law_is_tidy := F__law_is_tidy.binds (ps := ["_law_course_here"]) fun _ _ _ _ _ _ us hl => match us, hl with | [_], _ => rfl
  have F__law_told := fun_mk (st := s__law_told) l__law_told c__law_told k__law_told
  have B__law_told := F__law_told.binds (ps := ["_law_course_here", "_law_t", "_law_by", "_law_slews"]) fun _ _ _ _ _ _ us hl => match us, hl with | [_, _, _, _], _ => rfl
  have F__law_right := fun_mk (st := s__law_right) l__law_right c__law_right k__law_right
  have B__law_right := F__law_right.binds (ps := ["_law_course_here", "_law_t", "_law_by", "_law_slews", "_law_told_here"]) fun _ _ _ _ _ _ us hl => match us, hl with | [_, _, _, _, _], _ => rfl
  have F__law_when := fun_mk (st := s__law_when) l__law_when c__law_when k__law_when
  have B__law_when := F__law_when.binds (ps := ["_law_store_here", "_law_course_here", "_law_wide"]) fun _ _ _ _ _ _ us hl => match us, hl with | [_, _, _], _ => rfl
  have F__law_some_rate := fun_mk (st := s__law_some_rate) l__law_some_rate c__law_some_rate k__law_some_rate
  have B__law_some_rate := F__law_some_rate.binds (ps := ["_law_store_here", "_law_course_here"]) fun _ _ _ _ _ _ us hl => match us, hl with | [_, _], _ => rfl
  have F__law_some_jump := fun_mk (st := s__law_some_jump) l__law_some_jump c__law_some_jump k__law_some_jump
  have B__law_some_jump := F__law_some_jump.binds (ps := ["_law_store_here", "_law_course_here", "_law_t"]) fun _ _ _ _ _ _ us hl => match us, hl with | [_, _, _], _ => rfl
  have F__law_both_right := fun_mk (st := s__law_both_right) l__law_both_right c__law_both_right k__law_both_right
  have B__law_both_right := F__law_both_right.binds (ps := ["_law_course_here", "_law_t", "_law_pace_here", "_law_jump"]) fun _ _ _ _ _ _ us hl => match us, hl with | [_, _, _, _], _ => rfl
  have F__law_long_right := fun_mk (st := s__law_long_right) l__law_long_right c__law_long_right k__law_long_right
  have B__law_long_right := F__law_long_right.binds (ps := ["_law_store_here"]) fun _ _ _ _ _ _ us hl => match us, hl with | [_], _ => rfl
  have F_law := fun_mk (st := s_law) l_law c_law k_law
  have B_law := F_law.binds (ps := ["_law_script"]) fun _ _ _ _ _ _ us hl => match us, hl with | [_], _ => rfl
  refine ⟨PySem.W.fnOf "law" "law" (defArgs s_law) (defBody s_law) (defScope s_law) .none kV_law dc_law pm_law an_law cd_law ct_law, fun s v => .of_eq rfl, fun base _ _ => ?_⟩
  have ZZERO : CnZERO K mg aZERO := cnZERO (PySem.W.mg_of X G a0ZERO) fun H => .inr ⟨_, _, _, l0ZERO, rfl, rfl, (by show 2 ≤ sizeLine; decide), (.cons ⟨tZERO0, rfl⟩ (.cons ⟨tZERO1, rfl⟩ .nil))⟩
  exact law_ok T ZZERO ⟨⟨_, _, _, _, _, _, _, _, _, _, rfl, l_rational, c_rational⟩, k_rational⟩ (PySem.W.mg_of X G a_rational) bR_rational
    (errTxt (PySem.W.mg_of X G aC_BeforeStart) xL_BeforeStart rv_BeforeStart sa_BeforeStart ga_BeforeStart gg_BeforeStart nb_BeforeStart a1_BeforeStart t1_BeforeStart l1_BeforeStart c1_BeforeStart kC_BeforeStart eC_BeforeStart tC_BeforeStart hC_BeforeStart (exm_of eC_BeforeStart iC_BeforeStart tC_BeforeStart sC_BeforeStart))
    (errTxt (PySem.W.mg_of X G aC_BadRate) xL_BadRate rv_BadRate sa_BadRate ga_BadRate gg_BadRate nb_BadRate a1_BadRate t1_BadRate l1_BadRate c1_BadRate kC_BadRate eC_BadRate tC_BadRate hC_BadRate (exm_of eC_BadRate iC_BadRate tC_BadRate sC_BadRate))
    ⟨ga_BeforeStart, gg_BeforeStart, eC_BeforeStart, hC_BeforeStart, xa_BeforeStart, xn, xt, xm_BeforeStart⟩
    ⟨ga_BadRate, gg_BadRate, eC_BadRate, hC_BadRate, xa_BadRate, xn, xt, xm_BadRate⟩
    (PySem.W.mg_of X G aC_VerdictError)
    (PySem.W.mg_of X G aC_BadBound)
    (PySem.W.mg_of X G aC_TurnsBack)
    (PySem.W.mg_of X G aC_EmptySpan)
    (PySem.W.mg_of X G aC_OutsideSpan)
    (PySem.W.mg_of X G aC_ZeroDivisor)
    (exm_of eC_VerdictError iC_VerdictError tC_VerdictError je_BeforeStart_VerdictError)
    (exm_of eC_VerdictError iC_VerdictError tC_VerdictError je_BadRate_VerdictError)
    (kit_of1 nk_BeforeStart_BadRate iC_BadRate tC_BadRate jk_BeforeStart_BadRate)
    (kit_of1 nk_BadRate_BeforeStart iC_BeforeStart tC_BeforeStart jk_BadRate_BeforeStart)
    (kit_of1 nk_BeforeStart_BadBound iC_BadBound tC_BadBound jk_BeforeStart_BadBound)
    (kit_of1 nk_BeforeStart_TurnsBack iC_TurnsBack tC_TurnsBack jk_BeforeStart_TurnsBack)
    (kit_of1 nk_BeforeStart_EmptySpan iC_EmptySpan tC_EmptySpan jk_BeforeStart_EmptySpan)
    (kit_of1 nk_BeforeStart_OutsideSpan iC_OutsideSpan tC_OutsideSpan jk_BeforeStart_OutsideSpan)
    (kit_of1 nk_BeforeStart_ZeroDivisor iC_ZeroDivisor tC_ZeroDivisor jk_BeforeStart_ZeroDivisor)
    (kit_of1 nk_BadRate_BadBound iC_BadBound tC_BadBound jk_BadRate_BadBound)
    (kit_of1 nk_BadRate_TurnsBack iC_TurnsBack tC_TurnsBack jk_BadRate_TurnsBack)
    (kit_of1 nk_BadRate_EmptySpan iC_EmptySpan tC_EmptySpan jk_BadRate_EmptySpan)
    (kit_of1 nk_BadRate_OutsideSpan iC_OutsideSpan tC_OutsideSpan jk_BadRate_OutsideSpan)
    (kit_of1 nk_BadRate_ZeroDivisor iC_ZeroDivisor tC_ZeroDivisor jk_BadRate_ZeroDivisor)
    ⟨F_add, PySem.W.mg_of X G a_add, B_add⟩
    ⟨F_subtract, PySem.W.mg_of X G a_subtract, B_subtract⟩
    ⟨F_multiply, PySem.W.mg_of X G a_multiply, B_multiply⟩
    ⟨F_negate, PySem.W.mg_of X G a_negate, B_negate⟩
    ⟨F_compare, PySem.W.mg_of X G a_compare, B_compare⟩
    ⟨F__shown_by, PySem.W.mg_of X G a__shown_by, B__shown_by⟩
    ⟨F__place_at, PySem.W.mg_of X G a__place_at, B__place_at⟩
    ⟨F__piece_at, PySem.W.mg_of X G a__piece_at, B__piece_at⟩
    ⟨F_shown_at, PySem.W.mg_of X G a_shown_at, B_shown_at⟩
    ⟨F__jump_at, PySem.W.mg_of X G a__jump_at, B__jump_at⟩
    ⟨F_tidy, PySem.W.mg_of X G a_tidy, B_tidy⟩
    ⟨F__ahead_of, PySem.W.mg_of X G a__ahead_of, B__ahead_of⟩
    ⟨F_slewed, PySem.W.mg_of X G a_slewed, B_slewed⟩
    ⟨F_stepped, PySem.W.mg_of X G a_stepped, B_stepped⟩
    ⟨F__law_store, PySem.W.mg_of X G a__law_store, B__law_store⟩
    ⟨F__law_feed, PySem.W.mg_of X G a__law_feed, B__law_feed⟩
    ⟨F__law_mixed, PySem.W.mg_of X G a__law_mixed, B__law_mixed⟩
    ⟨F__law_take, PySem.W.mg_of X G a__law_take, B__law_take⟩
    ⟨F__law_pick, PySem.W.mg_of X G a__law_pick, B__law_pick⟩
    ⟨F__law_size, PySem.W.mg_of X G a__law_size, B__law_size⟩
    ⟨F__law_is_int, PySem.W.mg_of X G a__law_is_int, B__law_is_int⟩
    ⟨F__law_same, PySem.W.mg_of X G a__law_same, B__law_same⟩
    ⟨F__law_frac, PySem.W.mg_of X G a__law_frac, B__law_frac⟩
    ⟨F__law_plus, PySem.W.mg_of X G a__law_plus, B__law_plus⟩
    ⟨F__law_minus, PySem.W.mg_of X G a__law_minus, B__law_minus⟩
    ⟨F__law_times, PySem.W.mg_of X G a__law_times, B__law_times⟩
    ⟨F__law_below, PySem.W.mg_of X G a__law_below, B__law_below⟩
    ⟨F__law_is_frac, PySem.W.mg_of X G a__law_is_frac, B__law_is_frac⟩
    ⟨F__law_ratio, PySem.W.mg_of X G a__law_ratio, B__law_ratio⟩
    ⟨F__law_part, PySem.W.mg_of X G a__law_part, B__law_part⟩
    ⟨F__law_above, PySem.W.mg_of X G a__law_above, B__law_above⟩
    ⟨F__law_ordered, PySem.W.mg_of X G a__law_ordered, B__law_ordered⟩
    ⟨F__law_probes, PySem.W.mg_of X G a__law_probes, B__law_probes⟩
    ⟨F__law_pace, PySem.W.mg_of X G a__law_pace, B__law_pace⟩
    ⟨F__law_course, PySem.W.mg_of X G a__law_course, B__law_course⟩
    ⟨F__law_alone, PySem.W.mg_of X G a__law_alone, B__law_alone⟩
    ⟨F__law_wide_course, PySem.W.mg_of X G a__law_wide_course, B__law_wide_course⟩
    ⟨F__law_now, PySem.W.mg_of X G a__law_now, B__law_now⟩
    ⟨F__law_is_course, PySem.W.mg_of X G a__law_is_course, B__law_is_course⟩
    ⟨F__law_is_tidy, PySem.W.mg_of X G a__law_is_tidy, B__law_is_tidy⟩
    ⟨F__law_told, PySem.W.mg_of X G a__law_told, B__law_told⟩
    ⟨F__law_right, PySem.W.mg_of X G a__law_right, B__law_right⟩
    ⟨F__law_when, PySem.W.mg_of X G a__law_when, B__law_when⟩
    ⟨F__law_some_rate, PySem.W.mg_of X G a__law_some_rate, B__law_some_rate⟩
    ⟨F__law_some_jump, PySem.W.mg_of X G a__law_some_jump, B__law_some_jump⟩
    ⟨F__law_both_right, PySem.W.mg_of X G a__law_both_right, B__law_both_right⟩
    ⟨F__law_long_right, PySem.W.mg_of X G a__law_long_right, B__law_long_right⟩
    ⟨F_law, PySem.W.mg_of X G a_law, B_law⟩
    (PySem.W.mg_none_of X G zVE) (kit_ty2 (by decide +kernel) sVEB) (kit_ty2 (by decide +kernel) sVER)
theorem walk {l : PySem.W.OpenLaw} {q : Program} {loose : List Str} {XP : (Str → Option Value) → Heap → Prop} {YP : World → Heap → Prop} {d : DefRec} {K : Params → PySem.W.Frag} (hn : l.most = some 63) (hdf : d.params.defaults = [])
    (hY : ∀ (w : World) (h : Heap), YP w h → (K w.params).In h)
    (F : ∀ (w : World) (mg : Str → Option Value) (fa : Addr) (h : Heap), (K w.params).In h → h.Ns mainGlobals mg → mg d.name = some (.ref fa) →
      ∃ fd : FuncData, (∀ (s : Shared) (u : Value), BindsTo s fd ⟨[u], []⟩ [("_law_script", u)]) ∧ ∀ base : Heap, (K w.params).In base → base.Ns mainGlobals mg → FnOk l.prog w (K w.params) mg base CX0 9 fa fd ["_law_script"] (spLaw (K w.params))) :
    PySem.W.WalkO q loose XP YP l.row.toRowW d [] (fun f vs => PySem.call f vs) :=
  L2.walk_of (n := 63) (k := 9) (x := "_law_script") (CX := fun _ => CX0) (sp := fun w => spLaw (K w.params)) hn (by decide) hdf ⟨rfl, by decide, by decide⟩ hY F (fun _ _ a ns hl _ hS => ⟨a, ns, rfl, hS, hl, fun _ => rfl⟩) fun _ _ _ _ _ z => z
end Vk
open PySem PySem.W PyProof.Rows
set_option maxRecDepth 100000 in
set_option maxHeartbeats 0 in
theorem PySem.Challenge.cw_clockverdict_k09_slewed_and_stepped_holds : PySem.Challenge.rw_clockverdict_k09_slewed_and_stepped.Holds := by
  w_on; o_law; k_head; (case hw => w_witness2)
  k_fill
  refine Vk.walk (l := PySem.Challenge.rw_clockverdict_k09_slewed_and_stepped) rfl rfl (fun w h Y => PySem.W.kIn_of Y) ?F
  case F =>
    intro w mg fa h KX G hmg
    refine' Vk.all_mk KX G hmg ?ldf_rational ?a0ZERO ?l0ZERO ?aC_BeforeStart ?xL_BeforeStart ?rv_BeforeStart ?sa_BeforeStart ?ga_BeforeStart ?gg_BeforeStart ?nb_BeforeStart ?a1_BeforeStart ?t1_BeforeStart ?l1_BeforeStart ?c1_BeforeStart ?kC_BeforeStart ?eC_BeforeStart ?tC_BeforeStart ?hC_BeforeStart ?iC_BeforeStart ?sC_BeforeStart ?aC_BadRate ?xL_BadRate ?rv_BadRate ?sa_BadRate ?ga_BadRate ?gg_BadRate ?nb_BadRate ?a1_BadRate ?t1_BadRate ?l1_BadRate ?c1_BadRate ?kC_BadRate ?eC_BadRate ?tC_BadRate ?hC_BadRate ?iC_BadRate ?sC_BadRate ?xa_BeforeStart ?xm_BeforeStart ?xa_BadRate ?xm_BadRate ?xn ?xt ?aC_VerdictError ?tC_VerdictError ?iC_VerdictError ?aC_BadBound ?tC_BadBound ?iC_BadBound ?aC_TurnsBack ?tC_TurnsBack ?iC_TurnsBack ?aC_EmptySpan ?tC_EmptySpan ?iC_EmptySpan ?aC_OutsideSpan ?tC_OutsideSpan ?iC_OutsideSpan ?aC_ZeroDivisor ?tC_ZeroDivisor ?iC_ZeroDivisor ?je_BeforeStart_VerdictError ?ne_BeforeStart_VerdictError ?je_BadRate_VerdictError ?ne_BadRate_VerdictError ?jk_BeforeStart_BadRate ?nk_BeforeStart_BadRate ?jk_BadRate_BeforeStart ?nk_BadRate_BeforeStart ?jk_BeforeStart_BadBound ?nk_BeforeStart_BadBound ?jk_BeforeStart_TurnsBack ?nk_BeforeStart_TurnsBack ?jk_BeforeStart_EmptySpan ?nk_BeforeStart_EmptySpan ?jk_BeforeStart_OutsideSpan ?nk_BeforeStart_OutsideSpan ?jk_BeforeStart_ZeroDivisor ?nk_BeforeStart_ZeroDivisor ?jk_BadRate_BadBound ?nk_BadRate_BadBound ?jk_BadRate_TurnsBack ?nk_BadRate_TurnsBack ?jk_BadRate_EmptySpan ?nk_BadRate_EmptySpan ?jk_BadRate_OutsideSpan ?nk_BadRate_OutsideSpan ?jk_BadRate_ZeroDivisor ?nk_BadRate_ZeroDivisor ?a_rational ?l_rational ?c_rational ?k_rational ?a_add ?l_add ?c_add ?k_add ?a_subtract ?l_subtract ?c_subtract ?k_subtract ?a_multiply ?l_multiply ?c_multiply ?k_multiply ?a_negate ?l_negate ?c_negate ?k_negate ?a_compare ?l_compare ?c_compare ?k_compare ?a__shown_by ?l__shown_by ?c__shown_by ?k__shown_by ?a__place_at ?l__place_at ?c__place_at ?k__place_at ?a__piece_at ?l__piece_at ?c__piece_at ?k__piece_at ?a_shown_at ?l_shown_at ?c_shown_at ?k_shown_at ?a__jump_at ?l__jump_at ?c__jump_at ?k__jump_at ?a_tidy ?l_tidy ?c_tidy ?k_tidy ?a__ahead_of ?l__ahead_of ?c__ahead_of ?k__ahead_of ?a_slewed ?l_slewed ?c_slewed ?k_slewed ?a_stepped ?l_stepped ?c_stepped ?k_stepped ?a__law_store ?l__law_store ?c__law_store ?k__law_store ?a__law_feed ?l__law_feed ?c__law_feed ?k__law_feed ?a__law_mixed ?l__law_mixed ?c__law_mixed ?k__law_mixed ?a__law_take ?l__law_take ?c__law_take ?k__law_take ?a__law_pick ?l__law_pick ?c__law_pick ?k__law_pick ?a__law_size ?l__law_size ?c__law_size ?k__law_size ?a__law_is_int ?l__law_is_int ?c__law_is_int ?k__law_is_int ?a__law_same ?l__law_same ?c__law_same ?k__law_same ?a__law_frac ?l__law_frac ?c__law_frac ?k__law_frac ?a__law_plus ?l__law_plus ?c__law_plus ?k__law_plus ?a__law_minus ?l__law_minus ?c__law_minus ?k__law_minus ?a__law_times ?l__law_times ?c__law_times ?k__law_times ?a__law_below ?l__law_below ?c__law_below ?k__law_below ?a__law_is_frac ?l__law_is_frac ?c__law_is_frac ?k__law_is_frac ?a__law_ratio ?l__law_ratio ?c__law_ratio ?k__law_ratio ?a__law_part ?l__law_part ?c__law_part ?k__law_part ?a__law_above ?l__law_above ?c__law_above ?k__law_above ?a__law_ordered ?l__law_ordered ?c__law_ordered ?k__law_ordered ?a__law_probes ?l__law_probes ?c__law_probes ?k__law_probes ?a__law_pace ?l__law_pace ?c__law_pace ?k__law_pace ?a__law_course ?l__law_course ?c__law_course ?k__law_course ?a__law_alone ?l__law_alone ?c__law_alone ?k__law_alone ?a__law_wide_course ?l__law_wide_course ?c__law_wide_course ?k__law_wide_course ?a__law_now ?l__law_now ?c__law_now ?k__law_now ?a__law_is_course ?l__law_is_course ?c__law_is_course ?k__law_is_course ?a__law_is_tidy ?l__law_is_tidy ?c__law_is_tidy ?k__law_is_tidy ?a__law_told ?l__law_told ?c__law_told ?k__law_told ?a__law_right ?l__law_right ?c__law_right ?k__law_right ?a__law_when ?l__law_when ?c__law_when ?k__law_when ?a__law_some_rate ?l__law_some_rate ?c__law_some_rate ?k__law_some_rate ?a__law_some_jump ?l__law_some_jump ?c__law_some_jump ?k__law_some_jump ?a__law_both_right ?l__law_both_right ?c__law_both_right ?k__law_both_right ?a__law_long_right ?l__law_long_right ?c__law_long_right ?k__law_long_right ?a_law ?l_law ?c_law ?k_law ?zgcd ?zlen ?zabs ?zmax ?zint ?zisinstance ?zrange ?zenumerate ?zlist ?ztuple ?zstr ?zbool ?zdict ?zVE ?sVEB ?sVER ?eC_VerdictError
    (case a_rational => k_is); (case l_rational => k_is); (case c_rational => k_is); (case k_rational => k_is)
    (case a_add => k_is); (case l_add => k_is); (case c_add => k_is); (case k_add => k_is)
    (case a_subtract => k_is); (case l_subtract => k_is); (case c_subtract => k_is); (case k_subtract => k_is)
    (case a_multiply => k_is); (case l_multiply => k_is); (case c_multiply => k_is); (case k_multiply => k_is)
    (case a_negate => k_is); (case l_negate => k_is); (case c_negate => k_is); (case k_negate => k_is)
    (case a_compare => k_is); (case l_compare => k_is); (case c_compare => k_is); (case k_compare => k_is)
    (case a__shown_by => k_is); (case l__shown_by => k_is); (case c__shown_by => k_is); (case k__shown_by => k_is)
    (case a__place_at => k_is); (case l__place_at => k_is); (case c__place_at => k_is); (case k__place_at => k_is)
    (case a__piece_at => k_is); (case l__piece_at => k_is); (case c__piece_at => k_is); (case k__piece_at => k_is)
    (case a_shown_at => k_is); (case l_shown_at => k_is); (case c_shown_at => k_is); (case k_shown_at => k_is)
    (case a__jump_at => k_is); (case l__jump_at => k_is); (case c__jump_at => k_is); (case k__jump_at => k_is)
    (case a_tidy => k_is); (case l_tidy => k_is); (case c_tidy => k_is); (case k_tidy => k_is)
    (case a__ahead_of => k_is); (case l__ahead_of => k_is); (case c__ahead_of => k_is); (case k__ahead_of => k_is)
    (case a_slewed => k_is); (case l_slewed => k_is); (case c_slewed => k_is); (case k_slewed => k_is)
    (case a_stepped => k_is); (case l_stepped => k_is); (case c_stepped => k_is); (case k_stepped => k_is)
    (case a__law_store => k_is); (case l__law_store => k_is); (case c__law_store => k_is); (case k__law_store => k_is)
    (case a__law_feed => k_is); (case l__law_feed => k_is); (case c__law_feed => k_is); (case k__law_feed => k_is)
    (case a__law_mixed => k_is); (case l__law_mixed => k_is); (case c__law_mixed => k_is); (case k__law_mixed => k_is)
    (case a__law_take => k_is); (case l__law_take => k_is); (case c__law_take => k_is); (case k__law_take => k_is)
    (case a__law_pick => k_is); (case l__law_pick => k_is); (case c__law_pick => k_is); (case k__law_pick => k_is)
    (case a__law_size => k_is); (case l__law_size => k_is); (case c__law_size => k_is); (case k__law_size => k_is)
    (case a__law_is_int => k_is); (case l__law_is_int => k_is); (case c__law_is_int => k_is); (case k__law_is_int => k_is)
    (case a__law_same => k_is); (case l__law_same => k_is); (case c__law_same => k_is); (case k__law_same => k_is)
    (case a__law_frac => k_is); (case l__law_frac => k_is); (case c__law_frac => k_is); (case k__law_frac => k_is)
    (case a__law_plus => k_is); (case l__law_plus => k_is); (case c__law_plus => k_is); (case k__law_plus => k_is)
    (case a__law_minus => k_is); (case l__law_minus => k_is); (case c__law_minus => k_is); (case k__law_minus => k_is)
    (case a__law_times => k_is); (case l__law_times => k_is); (case c__law_times => k_is); (case k__law_times => k_is)
    (case a__law_below => k_is); (case l__law_below => k_is); (case c__law_below => k_is); (case k__law_below => k_is)
    (case a__law_is_frac => k_is); (case l__law_is_frac => k_is); (case c__law_is_frac => k_is); (case k__law_is_frac => k_is)
    (case a__law_ratio => k_is); (case l__law_ratio => k_is); (case c__law_ratio => k_is); (case k__law_ratio => k_is)
    (case a__law_part => k_is); (case l__law_part => k_is); (case c__law_part => k_is); (case k__law_part => k_is)
    (case a__law_above => k_is); (case l__law_above => k_is); (case c__law_above => k_is); (case k__law_above => k_is)
    (case a__law_ordered => k_is); (case l__law_ordered => k_is); (case c__law_ordered => k_is); (case k__law_ordered => k_is)
    (case a__law_probes => k_is); (case l__law_probes => k_is); (case c__law_probes => k_is); (case k__law_probes => k_is)
    (case a__law_pace => k_is); (case l__law_pace => k_is); (case c__law_pace => k_is); (case k__law_pace => k_is)
    (case a__law_course => k_is); (case l__law_course => k_is); (case c__law_course => k_is); (case k__law_course => k_is)
    (case a__law_alone => k_is); (case l__law_alone => k_is); (case c__law_alone => k_is); (case k__law_alone => k_is)
    (case a__law_wide_course => k_is); (case l__law_wide_course => k_is); (case c__law_wide_course => k_is); (case k__law_wide_course => k_is)
    (case a__law_now => k_is); (case l__law_now => k_is); (case c__law_now => k_is); (case k__law_now => k_is)
    (case a__law_is_course => k_is); (case l__law_is_course => k_is); (case c__law_is_course => k_is); (case k__law_is_course => k_is)
    (case a__law_is_tidy => k_is); (case l__law_is_tidy => k_is); (case c__law_is_tidy => k_is); (case k__law_is_tidy => k_is)
    (case a__law_told => k_is); (case l__law_told => k_is); (case c__law_told => k_is); (case k__law_told => k_is)
    (case a__law_right => k_is); (case l__law_right => k_is); (case c__law_right => k_is); (case k__law_right => k_is)
    (case a__law_when => k_is); (case l__law_when => k_is); (case c__law_when => k_is); (case k__law_when => k_is)
    (case a__law_some_rate => k_is); (case l__law_some_rate => k_is); (case c__law_some_rate => k_is); (case k__law_some_rate => k_is)
    (case a__law_some_jump => k_is); (case l__law_some_jump => k_is); (case c__law_some_jump => k_is); (case k__law_some_jump => k_is)
    (case a__law_both_right => k_is); (case l__law_both_right => k_is); (case c__law_both_right => k_is); (case k__law_both_right => k_is)
    (case a__law_long_right => k_is); (case l__law_long_right => k_is); (case c__law_long_right => k_is); (case k__law_long_right => k_is)
    (case a_law => k_is); (case l_law => k_is); (case c_law => k_is); (case k_law => k_is)
    (case ldf_rational => k_is)
    (case a0ZERO => k_is); (case l0ZERO => k_is)
    (case aC_BeforeStart => first | k_is | rfl | decide +kernel | decide)
    (case xL_BeforeStart => first | k_is | rfl | decide +kernel | decide)
    (case rv_BeforeStart => first | k_is | rfl | decide +kernel | decide)
    (case sa_BeforeStart => first | k_is | rfl | decide +kernel | decide)
    (case ga_BeforeStart => first | k_is | rfl | decide +kernel | decide)
    (case gg_BeforeStart => first | k_is | rfl | decide +kernel | decide)
    (case nb_BeforeStart => first | k_is | rfl | decide +kernel | decide)
    (case a1_BeforeStart => first | k_is | rfl | decide +kernel | decide)
    (case t1_BeforeStart => first | k_is | rfl | decide +kernel | decide)
    (case l1_BeforeStart => first | k_is | rfl | decide +kernel | decide)
    (case c1_BeforeStart => first | k_is | rfl | decide +kernel | decide)
    (case kC_BeforeStart => first | k_is | rfl | decide +kernel | decide)
    (case eC_BeforeStart => first | k_is | rfl | decide +kernel | decide)
    (case tC_BeforeStart => first | k_is | rfl | decide +kernel | decide)
    (case hC_BeforeStart => first | k_is | rfl | decide +kernel | decide)
    (case iC_BeforeStart => first | k_is | rfl | decide +kernel | decide)
    (case sC_BeforeStart => first | k_is | rfl | decide +kernel | decide)
    (case aC_BadRate => first | k_is | rfl | decide +kernel | decide)
    (case xL_BadRate => first | k_is | rfl | decide +kernel | decide)
    (case rv_BadRate => first | k_is | rfl | decide +kernel | decide)
    (case sa_BadRate => first | k_is | rfl | decide +kernel | decide)
    (case ga_BadRate => first | k_is | rfl | decide +kernel | decide)
    (case gg_BadRate => first | k_is | rfl | decide +kernel | decide)
    (case nb_BadRate => first | k_is | rfl | decide +kernel | decide)
    (case a1_BadRate => first | k_is | rfl | decide +kernel | decide)
    (case t1_BadRate => first | k_is | rfl | decide +kernel | decide)
    (case l1_BadRate => first | k_is | rfl | decide +kernel | decide)
    (case c1_BadRate => first | k_is | rfl | decide +kernel | decide)
    (case kC_BadRate => first | k_is | rfl | decide +kernel | decide)
    (case eC_BadRate => first | k_is | rfl | decide +kernel | decide)
    (case tC_BadRate => first | k_is | rfl | decide +kernel | decide)
    (case hC_BadRate => first | k_is | rfl | decide +kernel | decide)
    (case iC_BadRate => first | k_is | rfl | decide +kernel | decide)
    (case sC_BadRate => first | k_is | rfl | decide +kernel | decide)
    (case xa_BeforeStart => first | k_is | rfl | decide +kernel | decide)
    (case xm_BeforeStart => first | k_is | rfl | decide +kernel | decide)
    (case xa_BadRate => first | k_is | rfl | decide +kernel | decide)
    (case xm_BadRate => first | k_is | rfl | decide +kernel | decide)
    (case xn => first | k_is | rfl | decide +kernel | decide)
    (case xt => first | k_is | rfl | decide +kernel | decide)
    (case aC_VerdictError => first | k_is | rfl | decide +kernel | decide)
    (case tC_VerdictError => first | k_is | rfl | decide +kernel | decide)
    (case iC_VerdictError => first | k_is | rfl | decide +kernel | decide)
    (case aC_BadBound => first | k_is | rfl | decide +kernel | decide)
    (case tC_BadBound => first | k_is | rfl | decide +kernel | decide)
    (case iC_BadBound => first | k_is | rfl | decide +kernel | decide)
    (case aC_TurnsBack => first | k_is | rfl | decide +kernel | decide)
    (case tC_TurnsBack => first | k_is | rfl | decide +kernel | decide)
    (case iC_TurnsBack => first | k_is | rfl | decide +kernel | decide)
    (case aC_EmptySpan => first | k_is | rfl | decide +kernel | decide)
    (case tC_EmptySpan => first | k_is | rfl | decide +kernel | decide)
    (case iC_EmptySpan => first | k_is | rfl | decide +kernel | decide)
    (case aC_OutsideSpan => first | k_is | rfl | decide +kernel | decide)
    (case tC_OutsideSpan => first | k_is | rfl | decide +kernel | decide)
    (case iC_OutsideSpan => first | k_is | rfl | decide +kernel | decide)
    (case aC_ZeroDivisor => first | k_is | rfl | decide +kernel | decide)
    (case tC_ZeroDivisor => first | k_is | rfl | decide +kernel | decide)
    (case iC_ZeroDivisor => first | k_is | rfl | decide +kernel | decide)
    (case je_BeforeStart_VerdictError => first | k_is | rfl | decide +kernel | decide)
    (case ne_BeforeStart_VerdictError => first | k_is | rfl | decide +kernel | decide)
    (case je_BadRate_VerdictError => first | k_is | rfl | decide +kernel | decide)
    (case ne_BadRate_VerdictError => first | k_is | rfl | decide +kernel | decide)
    (case jk_BeforeStart_BadRate => first | k_is | rfl | decide +kernel | decide)
    (case nk_BeforeStart_BadRate => first | k_is | rfl | decide +kernel | decide)
    (case jk_BadRate_BeforeStart => first | k_is | rfl | decide +kernel | decide)
    (case nk_BadRate_BeforeStart => first | k_is | rfl | decide +kernel | decide)
    (case jk_BeforeStart_BadBound => first | k_is | rfl | decide +kernel | decide)
    (case nk_BeforeStart_BadBound => first | k_is | rfl | decide +kernel | decide)
    (case jk_BeforeStart_TurnsBack => first | k_is | rfl | decide +kernel | decide)
    (case nk_BeforeStart_TurnsBack => first | k_is | rfl | decide +kernel | decide)
    (case jk_BeforeStart_EmptySpan => first | k_is | rfl | decide +kernel | decide)
    (case nk_BeforeStart_EmptySpan => first | k_is | rfl | decide +kernel | decide)
    (case jk_BeforeStart_OutsideSpan => first | k_is | rfl | decide +kernel | decide)
    (case nk_BeforeStart_OutsideSpan => first | k_is | rfl | decide +kernel | decide)
    (case jk_BeforeStart_ZeroDivisor => first | k_is | rfl | decide +kernel | decide)
    (case nk_BeforeStart_ZeroDivisor => first | k_is | rfl | decide +kernel | decide)
    (case jk_BadRate_BadBound => first | k_is | rfl | decide +kernel | decide)
    (case nk_BadRate_BadBound => first | k_is | rfl | decide +kernel | decide)
    (case jk_BadRate_TurnsBack => first | k_is | rfl | decide +kernel | decide)
    (case nk_BadRate_TurnsBack => first | k_is | rfl | decide +kernel | decide)
    (case jk_BadRate_EmptySpan => first | k_is | rfl | decide +kernel | decide)
    (case nk_BadRate_EmptySpan => first | k_is | rfl | decide +kernel | decide)
    (case jk_BadRate_OutsideSpan => first | k_is | rfl | decide +kernel | decide)
    (case nk_BadRate_OutsideSpan => first | k_is | rfl | decide +kernel | decide)
    (case jk_BadRate_ZeroDivisor => first | k_is | rfl | decide +kernel | decide)
    (case nk_BadRate_ZeroDivisor => first | k_is | rfl | decide +kernel | decide)
    (case zgcd => k_is)
    (case zlen => k_is)
    (case zabs => k_is)
    (case zmax => k_is)
    (case zint => k_is)
    (case zisinstance => k_is)
    (case zrange => k_is)
    (case zenumerate => k_is)
    (case zlist => k_is)
    (case ztuple => k_is)
    (case zstr => k_is)
    (case zbool => k_is)
    (case zdict => k_is)
    (case zVE => first | k_is | rfl | decide +kernel | decide)
    (case sVEB => first | k_is | rfl | decide +kernel | decide)
    (case sVER => first | k_is | rfl | decide +kernel | decide)
    (case eC_VerdictError => first | k_is | rfl | decide +kernel | decide)

