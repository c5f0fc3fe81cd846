import PyProof.Rows.All
import Wide.All
import OpenK.AllK
import Wide.FinOn
import HandS.ForMost
import HandS.Wide
import HandS.Gcd
import HandS.IsInst
import HandS.Deep
import HandS.Flow
import HandS.More
import HandS.SetFor
import HandS.Defaults
import PyProof.EqAt
import PyProof.EqKinds
import PyProof.TupleCall
import Open.SpecLaws
import KE.OsGo
import HandS.ForSpec
import HandS.ExcCtx
import HandS.ExcInit
import HandS.ForExc
import HandS.TryMany
import HandS.ExcIs
import HandS.ExcField
import HandS.Base
import HandS.Call
import HandS.Exc
import HandS.ExcOwn
import HandS.WordsExc
import HandS.HotCalls
import PySem.Challenge.RW_clockverdict_k62_chained_courses
set_option Elab.async false
set_option linter.all false
set_option maxRecDepth 100000
set_option hygiene false in
local macro_rules | `(tactic| walk_at "vk_raw") => `(tactic| ((focus ((repeat first | with_reducible assumption | with_reducible exact upd_same | (with_reducible refine' (upd_ne ?_).trans ?_; with_reducible assumption) | (with_reducible apply sameAt; first | with_reducible assumption | with_reducible exact same_new (by with_reducible assumption) _) | (with_reducible apply Vk.frAt; with_reducible assumption; with_reducible assumption)); done))))
set_option hygiene false in
local macro_rules | `(tactic| walk_at "vk_same") => `(tactic| ((focus ((repeat first | with_reducible assumption | with_reducible exact Same.refl _ | (refine' Same.trans ?_ (same_new (by with_reducible assumption) _)) | (with_reducible refine' same_upd ?_ (by with_reducible assumption) _) | (refine' Same.trans ?_ (by with_reducible assumption))); done))))
set_option hygiene false in
local macro_rules | `(tactic| walk_at "vk_up") => `(tactic| ((first | with_reducible assumption | with_reducible exact same_new (by with_reducible assumption) _)))
set_option hygiene false in
local macro_rules | `(tactic| walk_at "vk_upd") => `(tactic| ((with_reducible refine' same_upd ?_ (by with_reducible assumption) _; (walk_at "vk_same"))))
set_option hygiene false in
local macro_rules | `(tactic| walk_at "vk_sto") => `(tactic| ((focus ((repeat first | with_reducible assumption | (with_reducible apply Sto.same; (walk_at "vk_up"))); done))))
set_option hygiene false in
local macro_rules | `(tactic| walk_at "vk_some") => `(tactic| ((first | with_reducible exact ⟨_, by (walk_at "vk_raw")⟩ | with_reducible exact Sto.some (by (walk_at "vk_sto")))))
set_option hygiene false in
local macro_rules | `(tactic| walk_at "vk_cl") => `(tactic| ((focus ((repeat first | with_reducible assumption | with_reducible exact SqT.of upd_same | with_reducible exact SqL.of upd_same | with_reducible exact optV_rq (by with_reducible assumption) (by with_reducible assumption) | with_reducible exact Ct.cq (by with_reducible assumption) | with_reducible exact rq_ab | (with_reducible apply Vk.Ct.copyq; with_reducible assumption) | (with_reducible apply Vk.Ct.copy; with_reducible assumption) | with_reducible exact rl11 | with_reducible exact rl12 | with_reducible exact rl01 | with_reducible exact rl1m | with_reducible exact rlnm | with_reducible exact rln1 | with_reducible exact rlh1 | with_reducible exact rl910 | with_reducible exact rl1110 | with_reducible exact rl21 | with_reducible exact rln12 | with_reducible exact rln31 | (with_reducible apply Rq.same; (walk_at "vk_up")) | (with_reducible apply Rq.fr; (first | with_reducible exact Fr.upd _ | with_reducible assumption); (walk_at "vk_some")) | (with_reducible apply Rq.same; (walk_at "vk_upd")) | (with_reducible apply L2.Same.sqt; (walk_at "vk_up")) | (with_reducible apply sqt_fr; (first | with_reducible exact Fr.upd _ | with_reducible assumption); (walk_at "vk_some")) | (with_reducible apply L2.Same.sqt; (walk_at "vk_upd")) | (with_reducible apply L2.Same.seq; (walk_at "vk_up")) | (with_reducible apply seq_fr; (first | with_reducible exact Fr.upd _ | with_reducible assumption); with_reducible assumption) | (with_reducible apply L2.Same.seq; (walk_at "vk_upd")) | (with_reducible apply Pq.same; (walk_at "vk_up")) | (with_reducible apply Pq.fr; (first | with_reducible exact Fr.upd _ | with_reducible assumption); (walk_at "vk_some")) | (with_reducible apply Pq.same; (walk_at "vk_upd")) | (with_reducible apply Cq.same; (walk_at "vk_up")) | (with_reducible apply Cq.fr; (first | with_reducible exact Fr.upd _ | with_reducible assumption); (walk_at "vk_some"); with_reducible assumption) | (with_reducible apply Cq.same; (walk_at "vk_upd")) | (with_reducible apply Ct.same; (walk_at "vk_up")) | (with_reducible apply Ct.fr; (first | with_reducible exact Fr.upd _ | with_reducible assumption); (walk_at "vk_some"); with_reducible assumption) | (with_reducible apply Ct.same; (walk_at "vk_upd")) | (with_reducible apply optV.same; (walk_at "vk_up")) | (with_reducible apply optV.same; (walk_at "vk_upd"))); done))))
set_option hygiene false in
local macro_rules | `(tactic| walk_at "vk_sql") => `(tactic| ((first | (walk_at "vk_cl") | (focus (with_reducible apply L2.SqL.of; (walk_at "vk_raw"))))))
set_option hygiene false in
local macro_rules | `(tactic| walk_at "vk_atom") => `(tactic| ((first | with_reducible show Rq _ _ _ _ | with_reducible show SqT _ _ _ _ | with_reducible show SqL _ _ _ _ | with_reducible show Pq _ _ _ _ | with_reducible show Cq _ _ _ _ | with_reducible show Ct _ _ _ _ _ | with_reducible show Cz _ _ _ _ | with_reducible show Cok _ | with_reducible show Sz _ _ | with_reducible show Sto _ _ _ | with_reducible show Fr _ _ _ | with_reducible show Same _ _ | with_reducible show tyV _ _ _ _ | with_reducible show All2 _ _ _ | with_reducible show Gw _ _ _ _ _ _ | with_reducible show L2.Dp _ _ _ _ | with_reducible show L2.DpAll _ _ _ _ | with_reducible show Tree _ _ | with_reducible show optV _ _ _ _)))
set_option hygiene false in
local macro_rules | `(tactic| walk_at "vk_formsa") => `(tactic| ((first | with_reducible apply And.intro | ((fail_if_success first | with_reducible show ∃ _ : Nat → Nat → L2.St → Hp → Prop, _ | with_reducible show ∃ _ : Nat → Nat → Hp → Prop, _ | with_reducible show ∃ _ : Nat → L2.St → Hp → Prop, _); with_reducible apply Exists.intro) | (with_reducible refine ifT rfl ?_) | (with_reducible refine ifF rfl ?_) | (with_reducible refine ifT (dT (by with_reducible assumption)) ?_) | (with_reducible refine ifF (dF (by with_reducible assumption)) ?_) | (with_reducible refine ifD (fun gc => ?_) (fun gc => ?_)) | (with_reducible refine ifNF (by first | with_reducible assumption | with_reducible exact rfl) ?_) | (with_reducible refine ifNT (by with_reducible assumption) ?_) | (with_reducible refine ifN (fun gc => ?_) (fun gc => ?_)) | (with_reducible refine ifNF (by first | with_reducible assumption | with_reducible exact rfl) ?_) | ((first | rw [eqv_odp] | rw [eqv_odq]); first | (with_reducible refine ifT (dT (by with_reducible assumption)) ?_) | (with_reducible refine ifNF (by first | with_reducible assumption | with_reducible exact rfl) ?_) | (with_reducible refine ifD (fun gc => ?_) (fun gc => ?_)) | (with_reducible refine ifN (fun gc => ?_) (fun gc => ?_))) | (rw [eqv_dq]; first | (with_reducible refine ifT (dT (by with_reducible assumption)) ?_) | (with_reducible refine ifNF (by first | with_reducible assumption | with_reducible exact rfl) ?_) | (with_reducible refine ifD (fun gc => ?_) (fun gc => ?_)) | (with_reducible refine ifN (fun gc => ?_) (fun gc => ?_))) | (with_reducible refine ifT (by with_reducible assumption) ?_) | (with_reducible refine ifF (by with_reducible assumption) ?_) | (with_reducible refine ifT (by decide +kernel) ?_) | (with_reducible refine ifF (by decide +kernel) ?_) | ((with_reducible show ∀ p : Addr, _ = none → _); intro p np) | ((with_reducible show ∀ r : Int, ∀ H' : Hp, 0 ≤ r → _ → Sto _ _ H' → _ → _); intro r H' r0 r1 S e) | ((with_reducible show ∀ v : V, ∀ H' : Hp, Qd _ _ _ H' v → _ → _ → _); refine aQd (K := K) fun a q H' h h' zq okq S e => ?_) | ((with_reducible show ∀ H' : Hp, Same _ H' → _); intro H' e) | ((with_reducible show ∀ v : V, ∀ H' : Hp, Same _ H' → optV _ _ _ _ → _); intro v H' e h) | ((with_reducible show ∀ _ : V, ∀ _ : Hp, _ → _); refine aRq (K := K) fun a H' e h h' => ?_) | ((with_reducible show ∀ v : V, Rq _ _ v _ → _); refine aRq0 (K := K) fun a h h' => ?_))))
set_option hygiene false in
local macro_rules | `(tactic| walk_at "vk_forms") => `(tactic| ((first | with_reducible apply And.intro | ((fail_if_success first | with_reducible show ∃ l : Addr, ∃ xs : List V, ∃ y : V, _ = V.ref l ∧ _ = [y] ∧ _ = some (HO.lst xs) ∧ _ | with_reducible show ∃ _ : Nat → Nat → L2.St → Hp → Prop, _ | with_reducible show ∃ _ : Nat → Nat → Hp → Prop, _ | with_reducible show ∃ _ : Nat → L2.St → Hp → Prop, _); with_reducible apply Exists.intro) | (with_reducible refine ifT rfl ?_) | (with_reducible refine ifF rfl ?_) | (with_reducible refine ifT (dT (by with_reducible assumption)) ?_) | (with_reducible refine ifF (dF (by with_reducible assumption)) ?_) | (with_reducible refine ifD (fun gc => ?_) (fun gc => ?_)) | (with_reducible refine ifNF (by first | with_reducible assumption | with_reducible exact rfl) ?_) | (with_reducible refine ifNT (by with_reducible assumption) ?_) | (with_reducible refine ifN (fun gc => ?_) (fun gc => ?_)) | (with_reducible refine ifNF (by first | with_reducible assumption | with_reducible exact rfl) ?_) | ((first | rw [eqv_odp] | rw [eqv_odq]); first | (with_reducible refine ifT (dT (by with_reducible assumption)) ?_) | (with_reducible refine ifNF (by first | with_reducible assumption | with_reducible exact rfl) ?_) | (with_reducible refine ifD (fun gc => ?_) (fun gc => ?_)) | (with_reducible refine ifN (fun gc => ?_) (fun gc => ?_))) | (rw [eqv_dq]; first | (with_reducible refine ifT (dT (by with_reducible assumption)) ?_) | (with_reducible refine ifNF (by first | with_reducible assumption | with_reducible exact rfl) ?_) | (with_reducible refine ifD (fun gc => ?_) (fun gc => ?_)) | (with_reducible refine ifN (fun gc => ?_) (fun gc => ?_))) | (with_reducible refine ifT (by with_reducible assumption) ?_) | (with_reducible refine ifF (by with_reducible assumption) ?_) | (with_reducible refine ifT (by decide +kernel) ?_) | (with_reducible refine ifF (by decide +kernel) ?_) | ((with_reducible show ∀ p : Addr, _ = none → _); intro p np) | ((with_reducible show ∀ r : Int, ∀ H' : Hp, 0 ≤ r → _ → Sto _ _ H' → _ → _); intro r H' r0 r1 S e) | ((with_reducible show ∀ v : V, ∀ H' : Hp, Qd _ _ _ H' v → _ → _ → _); refine aQd (K := K) fun a q H' h h' zq okq S e => ?_) | ((with_reducible show ∀ H' : Hp, Same _ H' → _); intro H' e) | ((with_reducible show ∀ v : V, ∀ H' : Hp, Same _ H' → optV _ _ _ _ → _); intro v H' e h) | ((with_reducible show ∀ _ : V, ∀ _ : Hp, _ → _); refine aRq (K := K) fun a H' e h h' => ?_) | ((with_reducible show ∀ v : V, Rq _ _ v _ → _); refine aRq0 (K := K) fun a h h' => ?_))))
set_option hygiene false in
local macro_rules | `(tactic| walk_at "vk_va") => `(tactic| (((try dsimp only [cxOf_K, Cx.nox, Cx.wish]); repeat' (show (_ : Prop); first | with_reducible exact rfl | with_reducible assumption | (walk_at "vk_formsa") | ((with_reducible show ∀ d ∈ _, Tree _ d); first | exact treeAll_nil | refine treeAll_cons ?_ ?_) | ((with_reducible show SeqAt.shaped _ = true); first | with_reducible exact sh_dq _ | with_reducible exact sh_odp _ | decide +kernel) | ((with_reducible show _ = _); first | exact at0 rfl | exact at1 rfl | exact at2 rfl | exact rfl | (walk_at "vk_raw") | assumption) | ((with_reducible show (_ : Addr) ≠ _); (refine' Sto.ne (l := l) ?_ (by with_reducible assumption); (walk_at "vk_sto"))) | ((with_reducible show 0 < List.length _); first | omega | exact Nat.succ_pos _) | ((with_reducible show List.length _ < 2 ^ 32); first | omega | exact Nat.le_of_ble_eq_true rfl) | ((with_reducible show List.length _ ≤ sizeLine); first | exact Nat.zero_le _ | exact sz1 | exact sz2 | exact sz3 | exact sz4 | exact sm5 | exact sm6) | ((with_reducible show List.length _ < sizeLine); exact le1000 (by omega)) | ((with_reducible show _ ≤ _); omega) | ((with_reducible show (_ : Nat) < _); omega) | ((with_reducible show (_ : Int) < _); omega) | ((walk_at "vk_atom"); first | (walk_at "vk_cl") | (focus (with_reducible apply L2.SqL.of; (walk_at "vk_raw"))) | ((with_reducible show tyV _ _ _ _); apply Or.inl; apply And.intro rfl; apply Exists.intro; (walk_at "vk_sql")) | with_reducible exact L2.Dp.str _ | with_reducible exact L2.Dp.int _ | with_reducible exact L2.Dp.non | with_reducible exact L2.Dp.bl _ | (with_reducible apply Rq.dp; (walk_at "vk_cl")) | (with_reducible apply optV.dp; (walk_at "vk_cl")) | (with_reducible apply Vk.Ct.dd; (walk_at "vk_cl")) | (with_reducible apply L2.Dp.tup; (walk_at "vk_cl")) | (with_reducible apply L2.Dp.lst; (walk_at "vk_sql")) | exact tree_dq _ _ | exact Tree.str (by decide +kernel) | exact Tree.int _ | exact Tree.non | (refine Tree.tup (Nat.le_of_ble_eq_true rfl) ?_) | with_reducible apply L2.DpAll.cons | with_reducible exact L2.DpAll.nil | with_reducible exact zz1 | with_reducible exact zo1 | with_reducible exact zl12 | with_reducible exact zl1m | with_reducible exact zlnm | with_reducible exact zln1 | with_reducible exact zlh1 | (with_reducible show Sz _ _; refine Sz.mono (by with_reducible assumption) (Nat.le_of_ble_eq_true rfl)) | with_reducible apply Sz.add | with_reducible apply Sz.sub | with_reducible apply Sz.mul | with_reducible apply Sz.neg | ((with_reducible show Sto _ _ _); (focus ((repeat first | with_reducible assumption | (with_reducible apply Sto.same; (walk_at "vk_up"))); done))) | ((with_reducible show Fr _ _ _); (focus ((repeat first | with_reducible assumption | with_reducible exact Fr.refl _ _ | (refine' Fr.trans ?_ (Fr.of (same_new (by with_reducible assumption) _))) | (refine' Fr.trans ?_ (by with_reducible assumption)) | (refine' Fr.trans ?_ (Fr.of (by with_reducible assumption)))); done))) | ((with_reducible show Same _ _); (walk_at "vk_same")) | assumption) | ((with_reducible show L2.SqL _ _ _ _ ∨ L2.SqT _ _ _ _); first | (apply Or.inl; (walk_at "vk_sql")) | (apply Or.inr; (walk_at "vk_cl"))) | ((fail_if_success (walk_at "vk_atom")); (fail_if_success with_reducible show rAppend _ _ _ _); (conv => whnf); first | (walk_at "vk_formsa") | with_reducible exact rfl | with_reducible assumption | ((with_reducible show _ = _); exact rfl)) ))))
set_option hygiene false in
local macro_rules | `(tactic| walk_at "vk_vc") => `(tactic| (((try dsimp only [cxOf_K, Cx.nox, Cx.wish]); repeat' (show (_ : Prop); first | with_reducible exact rfl | with_reducible assumption | (walk_at "vk_forms") | ((with_reducible show ∀ d ∈ _, Tree _ d); first | exact treeAll_nil | refine treeAll_cons ?_ ?_) | ((with_reducible show SeqAt.shaped _ = true); first | with_reducible exact sh_dq _ | with_reducible exact sh_odp _ | decide +kernel) | ((with_reducible show _ = _); first | exact at0 rfl | exact at1 rfl | exact at2 rfl | exact rfl | (walk_at "vk_raw") | assumption) | ((with_reducible show (_ : Addr) ≠ _); (refine' Sto.ne (l := l) ?_ (by with_reducible assumption); (walk_at "vk_sto"))) | ((with_reducible show 0 < List.length _); first | omega | exact Nat.succ_pos _) | ((with_reducible show List.length _ < 2 ^ 32); first | omega | exact Nat.le_of_ble_eq_true rfl) | ((with_reducible show List.length _ ≤ sizeLine); first | exact Nat.zero_le _ | exact sz1 | exact sz2 | exact sz3 | exact sz4 | exact sm5 | exact sm6) | ((with_reducible show List.length _ < sizeLine); exact le1000 (by omega)) | ((with_reducible show _ ≤ _); omega) | ((with_reducible show (_ : Nat) < _); omega) | ((with_reducible show (_ : Int) < _); omega) | ((walk_at "vk_atom"); first | (walk_at "vk_cl") | (focus (with_reducible apply L2.SqL.of; (walk_at "vk_raw"))) | ((with_reducible show tyV _ _ _ _); apply Or.inl; apply And.intro rfl; apply Exists.intro; (walk_at "vk_sql")) | with_reducible exact L2.Dp.str _ | with_reducible exact L2.Dp.int _ | with_reducible exact L2.Dp.non | with_reducible exact L2.Dp.bl _ | (with_reducible apply Rq.dp; (walk_at "vk_cl")) | (with_reducible apply optV.dp; (walk_at "vk_cl")) | (with_reducible apply Vk.Ct.dd; (walk_at "vk_cl")) | (with_reducible apply L2.Dp.tup; (walk_at "vk_cl")) | (with_reducible apply L2.Dp.lst; (walk_at "vk_sql")) | exact tree_dq _ _ | exact Tree.str (by decide +kernel) | exact Tree.int _ | exact Tree.non | (refine Tree.tup (Nat.le_of_ble_eq_true rfl) ?_) | with_reducible apply L2.DpAll.cons | with_reducible exact L2.DpAll.nil | with_reducible exact zz1 | with_reducible exact zo1 | with_reducible exact zl12 | with_reducible exact zl1m | with_reducible exact zlnm | with_reducible exact zln1 | with_reducible exact zlh1 | (with_reducible show Sz _ _; refine Sz.mono (by with_reducible assumption) (Nat.le_of_ble_eq_true rfl)) | with_reducible apply Sz.add | with_reducible apply Sz.sub | with_reducible apply Sz.mul | with_reducible apply Sz.neg | ((with_reducible show Sto _ _ _); (focus ((repeat first | with_reducible assumption | (with_reducible apply Sto.same; (walk_at "vk_up"))); done))) | ((with_reducible show Fr _ _ _); (focus ((repeat first | with_reducible assumption | with_reducible exact Fr.refl _ _ | (refine' Fr.trans ?_ (Fr.of (same_new (by with_reducible assumption) _))) | (refine' Fr.trans ?_ (by with_reducible assumption)) | (refine' Fr.trans ?_ (Fr.of (by with_reducible assumption)))); done))) | ((with_reducible show Same _ _); (walk_at "vk_same")) | assumption) | ((with_reducible show L2.SqL _ _ _ _ ∨ L2.SqT _ _ _ _); first | (apply Or.inl; (walk_at "vk_sql")) | (apply Or.inr; (walk_at "vk_cl"))) | ((fail_if_success (walk_at "vk_atom")); (fail_if_success with_reducible show rAppend _ _ _ _); (conv => whnf); first | (walk_at "vk_forms") | with_reducible exact rfl | with_reducible assumption | ((with_reducible show _ = _); exact rfl)) ))))
set_option hygiene false in
local macro_rules | `(tactic| walk_at "vk_fr") => `(tactic| ((focus ((repeat first | with_reducible assumption | with_reducible exact Fr.refl _ _ | (refine' Fr.trans ?_ (Fr.of (same_new (by with_reducible assumption) _))) | (refine' Fr.trans ?_ (by with_reducible assumption)) | (refine' Fr.trans ?_ (Fr.of (by with_reducible assumption)))); done))))
namespace Vm
/-! ### sizes of rationals -/
def Sz (k : Nat) (q : Rat) : Prop := q.num.natAbs < 2 ^ k ∧ q.den < 2 ^ k
theorem Sz.mono {a b : Nat} {q : Rat} (h : Sz a q) (l : a ≤ b) : Sz b q :=
  ⟨Nat.lt_of_lt_of_le h.1 (Nat.pow_le_pow_right (by decide) l), Nat.lt_of_lt_of_le h.2 (Nat.pow_le_pow_right (by decide) l)⟩
theorem mk_num (n : Int) {d : Nat} (hd : d ≠ 0) : (mkRat n d).num = n / ((Nat.gcd n.natAbs d : Nat) : Int) := by
  rw [Rat.num_mkRat, if_neg hd, Nat.gcd_comm]
theorem mk_den (n : Int) {d : Nat} (hd : d ≠ 0) : (mkRat n d).den = d / Nat.gcd n.natAbs d := by
  rw [Rat.den_mkRat, if_neg hd, Nat.gcd_comm]
theorem sz_mk {n : Int} {d k : Nat} (h : d ≠ 0) (hn : n.natAbs < 2 ^ k) (hd : d < 2 ^ k) : Sz k (mkRat n d) := by
  have e : ∀ (z : Int) (g : Nat), (z / (g : Int)).natAbs ≤ z.natAbs := fun z g => Int.natAbs_ediv_le_natAbs z g
  exact ⟨by rw [mk_num n h]; exact Nat.lt_of_le_of_lt (e _ _) hn, by rw [mk_den n h]; exact Nat.lt_of_le_of_lt (Nat.div_le_self _ _) hd⟩
theorem lt_mul {a b i j : Nat} (h : a < 2 ^ i) (l : b < 2 ^ j) : a * b < 2 ^ (i + j) := by
  rw [Nat.pow_add]
  exact Nat.mul_lt_mul'' h l
theorem Sz.add {a b : Nat} {p q : Rat} (h : Sz a p) (l : Sz b q) : Sz (a + b + 1) (p + q) := by
  rw [Rat.add_def']
  have h1 := lt_mul h.1 l.2
  have h2 := lt_mul l.1 h.2
  have h3 := lt_mul h.2 l.2
  rw [Nat.add_comm b a] at h2
  refine sz_mk (Nat.ne_of_gt (Nat.mul_pos p.den_pos q.den_pos)) ?_ ?_
  · rw [Nat.pow_succ]
    have q1 := Int.natAbs_add_le (p.num * q.den) (q.num * p.den)
    rw [Int.natAbs_mul, Int.natAbs_mul, Int.natAbs_natCast, Int.natAbs_natCast] at q1
    omega
  · rw [Nat.pow_succ]
    omega
theorem Sz.neg {a : Nat} {p : Rat} (h : Sz a p) : Sz a (-p) := ⟨by rw [Rat.neg_num, Int.natAbs_neg]; exact h.1, h.2⟩
theorem Sz.sub {a b : Nat} {p q : Rat} (h : Sz a p) (l : Sz b q) : Sz (a + b + 1) (p - q) := by
  rw [Rat.sub_eq_add_neg]
  exact h.add l.neg
theorem Sz.mul {a b : Nat} {p q : Rat} (h : Sz a p) (l : Sz b q) : Sz (a + b) (p * q) := by
  rw [Rat.mul_def']
  refine sz_mk (Nat.ne_of_gt (Nat.mul_pos p.den_pos q.den_pos)) ?_ (lt_mul h.2 l.2)
  rw [Int.natAbs_mul]
  exact lt_mul h.1 l.1
theorem num_pos {q : Rat} (h : 0 < q) : 0 < q.num := by
  have z := (Rat.lt_iff 0 q).mp h
  simp at z
  exact z
theorem pos_of_num {q : Rat} (h : 0 < q.num) : 0 < q := by
  rw [Rat.lt_iff]
  simp
  exact h
theorem Sz.inv {a : Nat} {q : Rat} (h : Sz a q) (hq : 0 < q) : Sz a q⁻¹ := by
  have hn := num_pos hq
  refine ⟨?_, ?_⟩
  · rw [Rat.num_inv, Int.sign_eq_one_of_pos hn, Int.one_mul, Int.natAbs_natCast]
    exact h.2
  · rw [Rat.den_inv, if_neg (by omega)]
    exact h.1
theorem Sz.div {a b : Nat} {p q : Rat} (h : Sz a p) (l : Sz b q) (hq : 0 < q) : Sz (a + b) (p / q) := by
  rw [Rat.div_def]
  exact h.mul (l.inv hq)
/-! ### normal forms -/
theorem nf {n : Int} {d : Nat} (hd : d ≠ 0) (hc : Nat.gcd n.natAbs d = 1) : (mkRat n d).num = n ∧ (mkRat n d).den = d := by
  rw [mk_num n hd, mk_den n hd, hc]
  simp
theorem div_mk (p q : Rat) (hq : 0 < q) : p / q = mkRat (p.num * q.den) (p.den * q.num.toNat) := by
  have hn := num_pos hq
  rw [Rat.div_def, Rat.mul_def', Rat.num_inv, Rat.den_inv, if_neg (by omega), Int.sign_eq_one_of_pos hn, Int.one_mul]
  congr 2
  omega
/-- the sum by the divisors of the denominators alone -/
theorem add_parts (a b : Rat) (g f : Nat) (n : Int) (r : Nat) (hg : g = Nat.gcd a.den b.den) (hf : f = b.den / g) (hn : n = a.num * f + b.num * ((a.den / g : Nat) : Int)) (hr : r = Nat.gcd n.natAbs g) :
    (a + b).num = n / (r : Int) ∧ (a + b).den = a.den / r * f := by
  have gp : 0 < g := by rw [hg]; exact Nat.gcd_pos_of_pos_left _ a.den_pos
  obtain ⟨u, hu⟩ : g ∣ a.den := by rw [hg]; exact Nat.gcd_dvd_left _ _
  obtain ⟨v, hv⟩ : g ∣ b.den := by rw [hg]; exact Nat.gcd_dvd_right _ _
  have eu : a.den / g = u := by rw [hu]; exact Nat.mul_div_cancel_left _ gp
  have ev : f = v := by rw [hf, hv]; exact Nat.mul_div_cancel_left _ gp
  subst ev
  rw [eu] at hn
  have up : 0 < u := Nat.pos_of_ne_zero fun z => by rw [z, Nat.mul_zero] at hu; exact absurd hu (Nat.ne_of_gt a.den_pos)
  have fp : 0 < f := Nat.pos_of_ne_zero fun z => by rw [z, Nat.mul_zero] at hv; exact absurd hv (Nat.ne_of_gt b.den_pos)
  have cuf : Nat.Coprime u f := by
    have z : g * Nat.gcd u f = g := by rw [← Nat.gcd_mul_left, ← hu, ← hv, ← hg]
    exact Nat.eq_of_mul_eq_mul_left gp (by rw [z, Nat.mul_one])
  have ca : Nat.Coprime a.num.natAbs u := (Nat.Coprime.coprime_dvd_right ⟨g, by rw [hu, Nat.mul_comm]⟩ a.reduced)
  have cb : Nat.Coprime b.num.natAbs f := (Nat.Coprime.coprime_dvd_right ⟨g, by rw [hv, Nat.mul_comm]⟩ b.reduced)
  have key : ∀ (x y z : Int) (m : Nat), x = y + z * m → Nat.gcd x.natAbs m = Nat.gcd y.natAbs m := by
    intro x y z m h
    have e : ∀ t : Int, Nat.gcd t.natAbs m = Int.gcd t m := fun t => by rw [Int.gcd]; simp
    rw [e, e, h, Int.gcd_add_mul_right_left]
  have cnu : Nat.Coprime n.natAbs u := by
    have z := key n (a.num * f) b.num u hn
    unfold Nat.Coprime
    rw [z, Int.natAbs_mul, Int.natAbs_natCast]
    exact Nat.Coprime.mul_left ca cuf.symm
  have cnf : Nat.Coprime n.natAbs f := by
    have z := key n (b.num * u) a.num f (by rw [hn, Int.add_comm])
    unfold Nat.Coprime
    rw [z, Int.natAbs_mul, Int.natAbs_natCast]
    exact Nat.Coprime.mul_left cb cuf
  have cn : Nat.Coprime n.natAbs (u * f) := Nat.Coprime.mul_right cnu cnf
  have er : Nat.gcd n.natAbs (g * (u * f)) = r := by
    rw [hr]
    exact Nat.Coprime.gcd_mul_right_cancel_right g cn.symm
  have es : a + b = mkRat n (g * (u * f)) := by
    rw [Rat.add_def', hu, hv, hn]
    have z := Rat.mkRat_mul_left (n := a.num * f + b.num * u) (d := g * (u * f)) (a := g) (by omega)
    rw [← z]
    congr 1
    · push_cast
      grind
    · grind
  have dn : g * (u * f) ≠ 0 := Nat.ne_of_gt (Nat.mul_pos gp (Nat.mul_pos up fp))
  have rg : r ∣ g := by rw [hr]; exact Nat.gcd_dvd_right _ _
  refine ⟨by rw [es, mk_num n dn, er], ?_⟩
  rw [es, mk_den n dn, er, hu]
  obtain ⟨w, hw⟩ := rg
  have rp : 0 < r := Nat.pos_of_ne_zero fun z => by rw [z, Nat.zero_mul] at hw; omega
  rw [hw, Nat.mul_assoc, Nat.mul_div_cancel_left _ rp, Nat.mul_assoc, Nat.mul_div_cancel_left _ rp, Nat.mul_assoc]
/-! ### what the cross products make -/
theorem tn (a b : Nat) : ((a : Int) * (b : Int)).toNat = a * b := by
  rw [← Int.natCast_mul]
  rfl
theorem mk_add (p q : Rat) : mkRat (p.num * (q.den : Int) + q.num * (p.den : Int)) ((p.den : Int) * (q.den : Int)).toNat = p + q := by rw [tn, Rat.add_def']
theorem mk_sub (p q : Rat) : mkRat (p.num * (q.den : Int) - q.num * (p.den : Int)) ((p.den : Int) * (q.den : Int)).toNat = p - q := by rw [tn, Rat.sub_def']
theorem mk_mul (p q : Rat) : mkRat (p.num * q.num) ((p.den : Int) * (q.den : Int)).toNat = p * q := by rw [tn, Rat.mul_def']
theorem dd_pos (p q : Rat) : 0 < (p.den : Int) * (q.den : Int) := Int.mul_pos (by have := p.den_pos; omega) (by have := q.den_pos; omega)
theorem ab_mul {i j : Int} {a b : Nat} (h : i.natAbs < 2 ^ a) (l : j.natAbs < 2 ^ b) : (i * j).natAbs < 2 ^ (a + b) := by
  rw [Int.natAbs_mul]
  exact lt_mul h l
theorem ab_add {i j : Int} {a : Nat} (h : i.natAbs < 2 ^ a) (l : j.natAbs < 2 ^ a) : (i + j).natAbs < 2 ^ (a + 1) := by
  rw [Nat.pow_succ]
  omega
theorem ab_sub {i j : Int} {a : Nat} (h : i.natAbs < 2 ^ a) (l : j.natAbs < 2 ^ a) : (i - j).natAbs < 2 ^ (a + 1) := by
  rw [Nat.pow_succ]
  omega
theorem ab_up {i : Int} {a b : Nat} (h : i.natAbs < 2 ^ a) (l : a ≤ b) : i.natAbs < 2 ^ b := Nat.lt_of_lt_of_le h (Nat.pow_le_pow_right (by decide) l)
theorem ab_le {i j : Int} {a : Nat} (h : i.natAbs < 2 ^ a) (l : j.natAbs ≤ i.natAbs) : j.natAbs < 2 ^ a := Nat.lt_of_le_of_lt l h
theorem nn {m : Nat} {p : Rat} (h : Sz m p) : 0 < m := by
  cases m with
  | zero => have := h.2; have := p.den_pos; simp at *; omega
  | succ m => exact Nat.succ_pos _
theorem dA {m : Nat} {p : Rat} (h : Sz m p) : ((p.den : Nat) : Int).natAbs < 2 ^ m := h.2
theorem lt_num {p q : Rat} : p < q ↔ p.num * (q.den : Int) < q.num * (p.den : Int) := Rat.lt_iff p q
theorem eq_num {p q : Rat} : p = q ↔ p.num * (q.den : Int) = q.num * (p.den : Int) := Rat.eq_iff_mul_eq_mul
end Vm

namespace Vk
open PySem L2
/-! ### defs as they stand, and with a promise -/
structure Fn (K : PySem.W.Frag) (mg : Str → Option Value) (x : Str) (st : Stmt) (ps : List Str) (f : Addr) (fd : FuncData) : Prop where
  F : Fun K x x st f fd
  m : mg x = some (.ref f)
  b : Binds K fd ps []
structure Def (P : Program) (w : World) (K : PySem.W.Frag) (mg : Str → Option Value) (base : Heap) (k : Nat) (x : Str) (ps : List Str) (sp : Sp) (f : Addr) (fd : FuncData) : Prop where
  ok : FnOk P w K mg base CX0 k f fd ps sp
  m : mg x = some (.ref f)
  kp : PySem.W.keepIn K (.ref f) = true
  b : Binds K fd ps []
theorem Def.up {P : Program} {w : World} {K : PySem.W.Frag} {mg : Str → Option Value} {base : Heap} {j k : Nat} {x : Str} {ps : List Str} {sp : Sp} {f : Addr} {fd : FuncData} (d : Def P w K mg base j x ps sp f fd) (h : j ≤ k) : Def P w K mg base k x ps sp f fd := ⟨d.ok.mono h, d.m, d.kp, d.b⟩
theorem pcall {X : Cx} {k : Nat} {f : Addr} {fd : FuncData} {ps : List Str} {sp : Sp} {x : Str} {p pos : Pos} {e : Expr} {es : List Expr} {t : TA} (D : Def X.prog X.w X.K X.mg X.base k x ps sp f fd) (hr : Room k X.A) (ha : PA X (e :: es) t)
    (hg : Gl X x := by rfl) (hdb : (x == ("__debug__" : Str)) = false := by decide) (he : starEach (e :: es) X.env = (false, eval e X.env) :: starEach es X.env := by rfl) (hpl : (backTo pos (starEach es X.env)).any (·.1) = false := by rfl) :
    PE X (.Call (.Name x p) (e :: es) [] pos) (tCall sp [] E0 t) := pe_call D.ok hr hg D.m D.kp D.b .nil pass0 ha hdb he hpl
/-- a def as it stands, whatever its defaults are -/
structure FunA (K : PySem.W.Frag) (x qual : Str) (st : Stmt) (f : Addr) (fd : FuncData) : Prop where
  ex : ∃ (oc : Value) (od : Option Addr) (dV kV doc pm : Value) (an : Option Addr) (cdv ct : Value) (osl : Array (Option Value)),
    fd = PySem.W.fnOf x qual (defArgs st) (defBody st) (defScope st) dV kV doc pm an cdv ct ∧ K.lookup f = some ⟨oc, od, .func fd, osl⟩ ∧ PySem.W.codeIn K cdv qual = true
  kp : PySem.W.keepIn K (.ref f) = true
theorem FunA.ok {P : Program} {w : World} {K : PySem.W.Frag} {mg : Str → Option Value} {base : Heap} {x qual : Str} {st : Stmt} {f : Addr} {fd : FuncData} {N ps : List Str} {k : Nat} {sp : Sp} (F : FunA K x qual st f fd) (S : FnScope N ps (defScope st)) (len : ∀ vs H Q E, sp vs H Q E → vs.length = ps.length)
    (hbody : ∀ (cdv : Value) (A : Around) (outer : List Env) (s : Shared) (H : Hp) (vs : List V) (Q : VK) (E : XK), Room k (A.deeper (PyProof.Rows.envOfC qual (defScope st) s.heap.objs.size f cdv)) → sp vs H Q E →
      ∃ t, PSs (cxOf CX0 P w K mg base N qual (defScope st) f cdv A outer s H E).nox (defBody st) t ∧ t { nx := fun _ H' => Q .non H', rt := Q } (start N vs) H) : FnOk P w K mg base CX0 (k + 1) f fd ps sp := by
  obtain ⟨oc, od, dV, kV, doc, pm, an, cdv, ct, osl, rfl, lk, hcd⟩ := F.ex
  refine fn_of lk hcd S len fun A outer s H vs Q E hr hsp => ?_
  obtain ⟨t, h, q⟩ := hbody cdv A outer s H vs Q E hr hsp
  exact ⟨t, h.nox, q⟩
/-- the built-in names as the top leaves them -/
structure Bn (mg : Str → Option Value) : Prop where
  gcd_ : mg "gcd" = some (.builtin "math.gcd")
  len_ : mg "len" = none
  abs_ : mg "abs" = none
  max_ : mg "max" = none
  int_ : mg "int" = none
  isinstance_ : mg "isinstance" = none
  range_ : mg "range" = none
  enumerate_ : mg "enumerate" = none
  list_ : mg "list" = none
  tuple_ : mg "tuple" = none
  str_ : mg "str" = none
  bool_ : mg "bool" = none
  dict_ : mg "dict" = none
/-! ### heaps -/
theorem _root_.L2.Same.sqt {K : PySem.W.Frag} {H H' : Hp} {a : Addr} {xs : List V} (e : Same H H') (h : SqT K H a xs) : SqT K H' a xs := by
  rcases h with (h | ⟨o, h⟩) | h
  · exact .inl (.inl (e _ _ h))
  · exact .inl (.inr ⟨o, e _ _ h⟩)
  · exact .inr h
theorem same_new {H : Hp} {p : Addr} (h : H p = none) (o : HO) : Same H (upd H p o) := fun b u q => by rw [upd_ne (ne_of_none q h)]; exact q
/-- a pair of ints that stands for q -/
def Rq (K : PySem.W.Frag) (H : Hp) (v : V) (q : Rat) : Prop := ∃ a, v = .ref a ∧ SqT K H a [.int q.num, .int (q.den : Int)]
theorem Rq.same {K : PySem.W.Frag} {H H' : Hp} {v : V} {q : Rat} (e : Same H H') (h : Rq K H v q) : Rq K H' v q := by
  obtain ⟨a, rfl, h⟩ := h
  exact ⟨a, rfl, e.sqt h⟩
theorem sz2 : 2 ≤ sizeLine := by decide
theorem at0 {xs : List V} {v : V} (h : xs[0]? = some v) : atI xs 0 = some v := atI_nat (j := 0) h
theorem at1 {xs : List V} {v : V} (h : xs[1]? = some v) : atI xs 1 = some v := atI_nat (j := 1) h
theorem at2 {xs : List V} {v : V} (h : xs[2]? = some v) : atI xs 2 = some v := atI_nat (j := 2) h
theorem ifT {c : Bool} {A B : Prop} (hc : c = true) (h : A) : if c = true then A else B := by
  rw [if_pos hc]
  exact h
theorem ifF {c : Bool} {A B : Prop} (hc : c = false) (h : B) : if c = true then A else B := by
  rw [hc, if_neg Bool.false_ne_true]
  exact h
theorem dF {p : Prop} [Decidable p] (h : ¬ p) : decide p = false := decide_eq_false h
theorem dT {p : Prop} [Decidable p] (h : p) : decide p = true := decide_eq_true h
theorem ifD {p : Prop} [Decidable p] {A B : Prop} (h1 : p → A) (h2 : ¬ p → B) : if decide p = true then A else B := by
  by_cases h : p
  · exact ifT (decide_eq_true h) (h1 h)
  · exact ifF (decide_eq_false h) (h2 h)
theorem fmod_nat (x m : Nat) : (x : Int).fmod (m : Int) = ((x % m : Nat) : Int) := by
  rw [Int.fmod_eq_emod_of_nonneg _ (by omega)]
  rfl
/-- what stands behind a statement, said once for all its ways -/
theorem cut {t u : TS} {D : Ends} {σ : L2.St} {H : Hp} (mid : L2.St → Hp → Prop) (key : ∀ σ' H', mid σ' H' → u D σ' H') (h : (∀ σ' H', mid σ' H' → u D σ' H') → tSeq t u D σ H) : tSeq t u D σ H := h key
/-! ### the store of draws -/
/-- at s stands a store: the script's list at l, five counters -/
def Sto (l s : Addr) (H : Hp) : Prop := ∃ (ns : List Int) (pos num seed hold cnt : Int), H s = some (.lst [.ref l, .int pos, .int num, .int seed, .int hold, .int cnt]) ∧ l ≠ s ∧ H l = some (.lst (ns.map V.int)) ∧ ns.length ≤ 63 ∧ 0 ≤ pos ∧ 0 ≤ num ∧ 0 ≤ seed ∧ seed < 1000000007
/-- all but what stands at s is as it was -/
def Fr (s : Addr) (H H' : Hp) : Prop := ∀ b o, H b = some o → b ≠ s → H' b = some o
theorem Fr.refl (s : Addr) (H : Hp) : Fr s H H := fun _ _ h _ => h
theorem Fr.trans {s : Addr} {H H1 H2 : Hp} (a : Fr s H H1) (b : Fr s H1 H2) : Fr s H H2 := fun c o h n => b c o (a c o h n) n
theorem Fr.of {s : Addr} {H H' : Hp} (e : Same H H') : Fr s H H' := fun b o h _ => e b o h
theorem Fr.upd {s : Addr} {H : Hp} (o : HO) : Fr s H (upd H s o) := fun b u h n => by rw [upd_ne n]; exact h
theorem Fr.free {s : Addr} {H H' : Hp} (e : Fr s H H') {p : Addr} (h : H' p = none) (n : p ≠ s) : H p = none := by
  cases q : H p with
  | none => rfl
  | some o =>
    rw [e p o q n] at h
    cases h
theorem Sto.some {l s : Addr} {H : Hp} (h : Sto l s H) : ∃ xs, H s = some (.lst xs) := by
  obtain ⟨_, _, _, _, _, _, h, _⟩ := h
  exact ⟨_, h⟩
theorem Sto.ne {l s : Addr} {H : Hp} (h : Sto l s H) {p : Addr} (n : H p = none) : p ≠ s := by
  obtain ⟨xs, h⟩ := h.some
  exact fun z => by rw [z, h] at n; cases n
theorem Sto.nl {l s : Addr} {H : Hp} (h : Sto l s H) {p : Addr} (n : H p = none) : p ≠ l := by
  obtain ⟨_, _, _, _, _, _, _, _, h, _⟩ := h
  exact fun z => by rw [z, h] at n; cases n
theorem Sto.same {l s : Addr} {H H' : Hp} (e : Same H H') (h : Sto l s H) : Sto l s H' := by
  obtain ⟨ns, pos, num, seed, hold, cnt, h1, h2, h3, r⟩ := h
  exact ⟨ns, pos, num, seed, hold, cnt, e _ _ h1, h2, e _ _ h3, r⟩
/-- what becomes of another list does not matter -/
theorem Sto.upd {l s D : Addr} {H : Hp} {o : HO} (h : Sto l s H) (n1 : D ≠ s) (n2 : D ≠ l) : Sto l s (upd H D o) := by
  obtain ⟨ns, pos, num, seed, hold, cnt, h1, h2, h3, r⟩ := h
  exact ⟨ns, pos, num, seed, hold, cnt, by rw [upd_ne (Ne.symm n1)]; exact h1, h2, by rw [upd_ne (Ne.symm n2)]; exact h3, r⟩
/-- a tuple outlives what becomes of a list -/
theorem sqt_fr {K : PySem.W.Frag} {s a : Addr} {H H' : Hp} {xs : List V} (e : Fr s H H') (hs : ∃ ys, H s = some (.lst ys)) (h : SqT K H a xs) : SqT K H' a xs := by
  obtain ⟨ys, hs⟩ := hs
  have n : ∀ {o : HO}, H a = some o → (∀ ys, o ≠ .lst ys) → a ≠ s := fun {o} h1 h2 z => by
    rw [z, hs] at h1
    exact h2 ys (Option.some.inj h1).symm
  rcases h with (h | ⟨o, h⟩) | h
  · exact .inl (.inl (e _ _ h (n h fun _ z => by cases z)))
  · exact .inl (.inr ⟨o, e _ _ h (n h fun _ z => by cases z)⟩)
  · exact .inr h
theorem Rq.fr {K : PySem.W.Frag} {s : Addr} {H H' : Hp} {v : V} {q : Rat} (e : Fr s H H') (hs : ∃ ys, H s = some (.lst ys)) (h : Rq K H v q) : Rq K H' v q := by
  obtain ⟨a, rfl, h⟩ := h
  exact ⟨a, rfl, sqt_fr e hs h⟩
theorem seq_fr {K : PySem.W.Frag} {s a : Addr} {H H' : Hp} {xs : List V} (e : Fr s H H') (n : a ≠ s) (h : SqL K H a xs) : SqL K H' a xs := by
  rcases h with (h | ⟨o, h⟩) | h
  · exact .inl (.inl (e _ _ h n))
  · exact .inl (.inr ⟨o, e _ _ h n⟩)
  · exact .inr h
theorem sm6 : 6 ≤ sizeLine := by decide
theorem sm4 : 4 ≤ sizeLine := by decide
theorem sm3 : 3 ≤ sizeLine := by decide
theorem sm5 : 5 ≤ sizeLine := by decide
end Vk

namespace Vk
open PySem L2 Vm
/-! ### what a question asks, said so that it is answered by looks at the context -/
variable {K : PySem.W.Frag}
theorem aTup {H : Hp} {xs : List V} {Q : VK} (h : ∀ p H', H p = none → Same H H' → SqT K H' p xs → Q (.ref p) H') : ∀ p, H p = none → Q (.ref p) (upd H p (.tup xs)) := fun p hp => h p _ hp (same_new hp _) (SqT.of upd_same)
theorem aLst {H : Hp} {xs : List V} {Q : VK} (h : ∀ p H', H p = none → Same H H' → H' p = some (.lst xs) → Q (.ref p) H') : ∀ p, H p = none → Q (.ref p) (upd H p (.lst xs)) := fun p hp => h p _ hp (same_new hp _) upd_same
theorem aRq {H : Hp} {q : Rat} {Q : VK} (h : ∀ a H', Same H H' → Rq K H' (.ref a) q → SqT K H' a [.int q.num, .int (q.den : Int)] → Q (.ref a) H') : ∀ r H', Same H H' → Rq K H' r q → Q r H' := fun r H' e hr => by
  obtain ⟨a, rfl, ha⟩ := id hr
  exact h a H' e hr ha
theorem same_new2 {H : Hp} {p q : Addr} {o u : HO} (h : H p = none) (g : upd H p o q = none) : Same H (upd (upd H p o) q u) := (same_new h o).trans (same_new g u)
theorem same_new3 {H : Hp} {p q r : Addr} {o u x : HO} (h : H p = none) (g : upd H p o q = none) (f : upd (upd H p o) q u r = none) : Same H (upd (upd (upd H p o) q u) r x) := (same_new2 h g).trans (same_new f x)
theorem sameFree {H H' : Hp} {p : Addr} (e : Same H H') (h : H' p = none) : H p = none := by
  cases q : H p with
  | none => rfl
  | some o => rw [e _ _ q] at h; cases h
theorem sameAt {H H' : Hp} {a : Addr} {o : HO} (e : Same H H') (h : H a = some o) : H' a = some o := e _ _ h
theorem psNox {X : Cx} {s : Stmt} {t : TS} (h : PS X.nox s t) : PS X s t := ⟨fun pins st σ H D I hw => PySem.wpAny_mono (h.run pins st σ H D (I.wish _) hw) (fun _ _ q => q.unwish) fun _ _ z => False.elim z⟩
theorem cxOf_K {CX : CXT} {P : Program} {w : World} {K : PySem.W.Frag} {mg : Str → Option Value} {base : Heap} {N : List Str} {q : Str} {sc : Scope} {f : Addr} {cdv : Value} {A : Around} {outer : List Env} {s : Shared} {H : Hp} {E : XK} : (cxOf CX P w K mg base N q sc f cdv A outer s H E).K = K := rfl
theorem cxOf_noxK {CX : CXT} {P : Program} {w : World} {K : PySem.W.Frag} {mg : Str → Option Value} {base : Heap} {N : List Str} {q : Str} {sc : Scope} {f : Addr} {cdv : Value} {A : Around} {outer : List Env} {s : Shared} {H : Hp} {E : XK} : (cxOf CX P w K mg base N q sc f cdv A outer s H E).nox.K = K := rfl
theorem sz3 : 3 ≤ sizeLine := by decide
theorem sz1 : 1 ≤ sizeLine := by decide
theorem sz4 : 4 ≤ sizeLine := by decide
end Vk

set_option maxHeartbeats 2000000
namespace PySem
namespace ValX
open PySem.W PySem.Calls PyProof.Rows PySem.HandSPX
/-! ### the text of __init__ -/
def iA (p1 p2 : Pos) : Arguments := { posonlyargs := [], args := [{ arg := "self", annotation := none, pos := p1 }, { arg := "value", annotation := none, pos := p2 }], vararg := none, kwonlyargs := [], kw_defaults := [], kwarg := none, defaults := [] }
def iB (q1 q2 q3 q4 : Pos) : List Stmt := [.Assign [.Attribute (.Name "self" q1) "value" q2] (.Name "value" q3) q4]
def iS : Scope := { kind := .function, names := [(PySem.Str.ofString "self", .local), (PySem.Str.ofString "value", .local)], isGenerator := false, isCoroutine := false, more := [] }
/-- what the written part says of the class, at C, and of its __init__, at fI -/
structure ValTxt (K : Frag) (mg : Str → Option Value) (nm : Str) (C fI : Addr) : Prop where
  gC : mg nm = some (.ref C)
  cls : ∃ nm q N bs bm sn sub ab col dd k0 k1 k2 k3 k5, K.lookup C = some (excClassObj nm q C N bs bm true sn sub ab col dd k0 k1 k2 k3 k5 "ValueError.__new__") ∧ refsVE bm = true
  sa : findIn K (.ref C) "__setattr__" = some (some (.builtin "object.__setattr__"))
  ga : findIn K (.ref C) "__getattribute__" = some (some (.builtin "BaseException.__getattribute__"))
  gg : findIn K (.ref C) "__getattr__" = some none
  noN : findIn K (.ref C) "value" = some none
  iC : findIn K (.ref C) "__init__" = some (some (.ref fI))
  tC : typeIn K (.ref fI) = some (.type "function")
  kC : keepIn K (.ref C) = true
  exC : subIn K (.ref C) (.type "BaseException") = some true
  tyC : typeIn K (.ref C) = some (.type "type")
  hdC : hasDictIn K C = true
  te : exmOne K (.ref C) (.ref C) = some true
  fn : ∃ (q : Str) (oc : Value) (od : Option Addr) (doc pm : Value) (an : Option Addr) (cdv ct : Value) (osl : Array (Option Value)) (p1 p2 q1 q2 q3 q4 : Pos),
    K.lookup fI = some ⟨oc, od, .func (fnOf "__init__" q (iA p1 p2) (iB q1 q2 q3 q4) iS .none .none doc pm an cdv ct), osl⟩ ∧ codeIn K cdv q = true
theorem one_size (v : Value) : [v].length ≤ sizeLine := by
  rw [sizeLine_eq]
  exact (by decide : 1 ≤ 16777216)
theorem kept_but {K : Frag} {h h' : Heap} {x : Addr} (X : K.In h) (hx : K.lookup x = none) (k : ∀ b o, b ≠ x → h.get? b = some o → h'.get? b = some o) : K.In h' := fun a o e =>
  k a o (fun z => by rw [z, hx] at e; cases e) (X a o e)
theorem ldC {M : Model} {s : Shared} {name : Str} {scope : Scope} {L a : Addr} {cd : Value} {m : Str → Option Value} {x : Str} {pos : Pos} {v : Value} {Q : Value → Shared → Prop} {A : Around} {E : Value → Shared → Prop} (hn : s.heap.Ns L m) (hv : m x = some v) (h : Q v s)
    (hk : scope.kind = .function := by rfl) (hl : (envOfC name scope L a cd).kindOf x = some .local := by rfl) (hd : (x == ("__debug__" : Str)) = false := by decide) :
    wpAny M A (eval (.Name x pos) (envOfC name scope L a cd)) Q E s := wpAny_Name (wpAny_loadName_local hk hl hn hv h) hd
/-- what __init__ leaves of a fresh exception at x -/
structure InitEnd (h h' : Heap) (x C dx t1 : Addr) (v : Value) : Prop where
  keep : ∀ b o, b ≠ x → h.get? b = some o → h'.get? b = some o
  obj : h'.get? x = some { cls := .ref C, dict := some dx, data := .fields #[.ref t1, .none, .none, .none, .bool false, .none] }
  dbig : h.objs.size ≤ dx
  dne : dx ≠ x
  ns : h'.Ns1 dx (fun y => if y = "value" then some v else none)
/-- a made error -/
structure OwnMade (h h' : Heap) (e C d : Addr) (v : Value) : Prop where
  keep : ∀ b o, h.get? b = some o → h'.get? b = some o
  new : h.objs.size ≤ e
  obj : ∃ oe vs, h'.get? e = some oe ∧ oe.cls = .ref C ∧ oe.dict = some d ∧ oe.data = .fields vs ∧ vs[1]? = some .none ∧ vs[2]? = some .none
  dbig : h.objs.size ≤ d
  dne : d ≠ e
  ns : h'.Ns1 d (fun y => if y = "value" then some v else none)
section
variable {prog : Program} {w : World} {A : Around} {E : Value → Shared → Prop} {R : Result → Shared → Prop} {s : Shared} {K : Frag} {mg : Str → Option Value} {nm : Str} {C fI : Addr}
theorem val_init (T : ValTxt K mg nm C fI) {x t0 : Addr} {v : Value} (X : K.In s.heap) (hlim : s.heap.NoLimit) (hx : s.heap.get? x = some (excO C t0)) (hnx : K.lookup x = none) (hroom : A.depth < recursionLimit)
    (hq : ∀ h' tk dx, InitEnd s.heap h' x C dx t0 v → R (.ok (.ret .none)) { s with heap := h', toks := tk }) :
    codeAny (model prog w) A (.call (.ref fI) ⟨[.ref x, v], []⟩) R s := by
  obtain ⟨qn, oc, od, doc, pm, an, cdv, ct, osl, p1, p2, q1, q2, q3, q4, ho, hcd⟩ := T.fn
  obtain ⟨cnm, q, N, bs, bm, sn, sub, ab, col, dd, k0, k1, k2, k3, k5, hC, hbm⟩ := T.cls
  have hcl : clsIn K C = some { name := cnm, bases := bs, mro := .ref C :: bm, ns := N, qualname := q, hasDict := true, slotNames := sn, subclasses := sub, abstract := ab, collection := col, hasDel := false } := by unfold clsIn; rw [hC] <;> rfl
  refine Att.call_fn (binds := [("self", .ref x), ("value", v)]) X hlim ho hcd hroom (BindsTo.of_eq (by first | rfl | with_unfolding_all rfl)) (by first | rfl | decide | with_unfolding_all rfl) (fun s₁ IC => ?_) rfl rfl rfl
  obtain ⟨h₁, tk₁, rfl⟩ := IC.toInCall.same
  have k : ∀ b o, s.heap.get? b = some o → h₁.get? b = some o := IC.toInCall.keep
  have hn := IC.toInCall.ns
  have hxL : s.heap.objs.size ≠ x := Nat.ne_of_gt (Heap.lt_size hx)
  have X₁ : K.In h₁ := X.keeps k
  have hx₁ := k _ _ hx
  -- self.by = by
  show wpAny _ _ (execs _ _) _ _ _
  refine wpAny_execs_cons (plainObj_wpAny_Assign_Attribute ?_)
  refine ldC (v := v) hn (by first | rfl | with_unfolding_all rfl | kernel_rfl) (ldC (v := .ref x) hn (by first | rfl | with_unfolding_all rfl | kernel_rfl) ?_)
  refine set_plain X₁ (ox := excO C t0) (od := none) ⟨hx₁, rfl, rfl, trivial⟩ T.sa ?_
  refine exc_osa X₁ hx₁ hcl (show refsVE (.ref C :: bm) = true from hbm) rfl T.noN (fun h₃ tk₃ dx k₃ dn dne hx₃ hn₃ => ?_)
  show wpAny _ _ (execs _ _) _ _ _
  have z : s.heap.objs.size < h₁.objs.size := hn.lt
  exact wpAny_execs_nil (hq h₃ tk₃ dx ⟨fun b o hb e => k₃ b o hb (k b o e), hx₃, Nat.le_of_lt (Nat.lt_of_lt_of_le z dn), dne, hn₃⟩)
theorem val_made (T : ValTxt K mg nm C fI) {v : Value} (X : K.In s.heap) (hlim : s.heap.NoLimit) (hroom : A.depth + 1 < recursionLimit)
    (hq : ∀ h' tk e d, OwnMade s.heap h' e C d v → R (.ok (.ret (.ref e))) { s with heap := h', toks := tk }) :
    codeAny (model prog w) A (.call (.ref C) ⟨[v], []⟩) R s := by
  obtain ⟨cnm, q, N, bs, bm, sn, sub, ab, col, dd, k0, k1, k2, k3, k5, hC, hbm⟩ := T.cls
  obtain ⟨hp, g, dr, tk, os⟩ := s
  have k : ∀ b o, hp.get? b = some o → ((hp.push (kdv_tup [v])).push (excO C hp.objs.size)).get? b = some o := fun b o e => Heap.get?_push_of_some _ (Heap.get?_push_of_some _ e)
  have hget : ((hp.push (kdv_tup [v])).push (excO C hp.objs.size)).get? (hp.objs.size + 1) = some (excO C hp.objs.size) := by heap_get
  have hnx : K.lookup (hp.objs.size + 1) = none := by
    cases e : K.lookup (hp.objs.size + 1) with
    | none => rfl
    | some o =>
      have z : hp.get? (hp.objs.size + 1) = some o := X _ _ e
      exact absurd (Nat.lt_of_succ_lt (Heap.lt_size z)) (Nat.lt_irrefl _)
  refine call_own F.excBase_ValueError (fun X => refsVE_contains X bm hbm) (X _ _ hC) (looks_findIn X T.iC) (fun self => bind_fn X self T.tC) (one_size v) ?_
  refine val_init (s := ⟨(hp.push (kdv_tup [v])).push (excO C hp.objs.size), g, dr, tk, os⟩) T (X.keeps k) (hlim.keeps k) hget hnx ?_ fun h' tk' dx ⟨k', hx, dn, dne, hns⟩ => ?_
  · show A.depth + 1 < recursionLimit
    exact hroom
  · have old : ∀ b o, hp.get? b = some o → h'.get? b = some o := fun b o e => k' b o (Nat.ne_of_lt (Nat.lt_succ_of_lt (Heap.lt_size e))) (k b o e)
    have z : hp.objs.size + 1 + 1 ≤ dx := by
      first
        | (simpa only [Heap.size_push] using dn)
        | exact dn
        | (have q := dn; rw [Heap.size_push, Heap.size_push] at q; exact q)
    exact ⟨rfl, hq h' tk' (hp.objs.size + 1) dx ⟨old, Nat.le_succ _, ⟨_, _, hx, rfl, rfl, rfl, rfl, rfl⟩, Nat.le_trans (Nat.le_trans (Nat.le_succ _) (Nat.le_succ _)) z, dne, hns⟩⟩
end
end ValX
end PySem
namespace L2
open PySem PySem.Spec PyProof.Rows
theorem relO_val {v : V} {v' : Value} (r : RelV v v') (f : Str) : RelO (List.lookup f [(("value" : Str), v)]) (if f = "value" then some v' else none) := by
  by_cases hw : f = "value"
  · subst hw
    rw [if_pos rfl]
    have q : List.lookup ("value" : Str) [(("value" : Str), v)] = some v := by simp [List.lookup]
    rw [q]
    exact r
  · rw [if_neg hw]
    have qw : (f == ("value" : Str)) = false := by simpa using hw
    have q2 : List.lookup f [(("value" : Str), v)] = none := by simp [List.lookup, qw]
    rw [q2]
    trivial
section
variable {X : Cx} {nm : Str} {C fI : Addr}
/-- X(e) -/
def tMkVal (C : Addr) (ta : TA) : St → Hp → XK → Prop := fun σ H Q => ta σ H fun vs H1 => ∃ v, vs = [v] ∧ ∀ d, H1 d = none → Q (.ref C) (some d) (upd H1 d (.xd [(("value" : Str), v)]))
theorem pmk_val {a : Expr} {ta : TA} {p pos : Pos} {k : Nat} (T : PySem.ValX.ValTxt X.K X.mg nm C fI) (hr : Room k X.A) (ha : PA X [a] ta) (hg : Gl X nm := by rfl) (hdb : (nm == ("__debug__" : Str)) = false := by decide)
    (he : starEach (a :: []) X.env = (false, eval a X.env) :: starEach [] X.env := by rfl) (hpl : (backTo pos (starEach [] X.env)).any (·.1) = false := by rfl) :
    PMk X (.Call (.Name nm p) [a] [] pos) (tMkVal C ta) := by
  intro pins s σ H Q I h
  refine wpAny_Call_Name_kw (ld_glob I hg T.gC ?_ hdb)
  refine PySem.W.callWith_K (h₀ := X.base) I.ok.mod.kin T.kC (thn (ha.run pos pins s σ H _ I h) fun us s1 hh => ?_) he hpl
  obtain ⟨vs, H1, I1, r1, v, ev, q1⟩ := hh
  subst ev
  refine ⟨I1.kIn, ?_⟩
  cases r1 with
  | cons rv rn =>
    rename_i v' us'
    cases rn
    show wpAny _ _ (call (.ref C) [v']) _ _ _
    have hlim := I1.nolimit
    obtain ⟨hp, g, dr, tk, os⟩ := s1
    refine wpAny_call (PySem.ValX.val_made T I1.kIn hlim (by have := hr.dp; omega) fun h' tk' e d M => ?_)
    show MkP X pins σ Q (.ref e) ⟨h', g, dr, tk', os⟩
    obtain ⟨oe, fv, hoe, hc, hd, hdat, h1, h2⟩ := M.obj
    have hns := M.ns
    obtain ⟨G', g1, g2⟩ := restrict h' fun b => decide (b ≠ e)
    have gk : ∀ b, b ≠ e → G'.get? b = h'.get? b := fun b hb => g1 b (decide_eq_true hb)
    have ge : G'.get? e = none := g2 e (by simp)
    have old : ∀ b o, hp.get? b = some o → G'.get? b = some o := fun b o q => (gk b (Nat.ne_of_lt (Nat.lt_of_lt_of_le (Heap.lt_size q) M.new))).trans (M.keep b o q)
    have ob : ObjOk X.prog X.w (upd H1 d (.xd [(("value" : Str), v)])) G' d (.xd [(("value" : Str), v)]) :=
      ⟨_, hns.at (fun o q => (gk d M.dne).trans q), fun f => relO_val rv f⟩
    have J : Inv X pins σ (upd H1 d (.xd [(("value" : Str), v)])) ⟨G', g, dr, tk', os⟩ := I1.laid (t' := tk') old M.dbig ob
    refine ⟨e, oe, fv, ⟨G', g, dr, tk', os⟩, _, .ref C, some d, rfl, J, fun b o q => ?_, ge, hoe, ⟨hc, hd⟩, hdat, h1, ?_, rfl, I1.bare, raises_own T.exC T.tyC, q1 d (I1.hok.fresh M.dbig)⟩
    · by_cases hb : b = e
      · have q' : G'.get? b = some o := q
        rw [hb, ge] at q'; cases q'
      · exact (gk b hb).symm.trans q
    · rw [upd_ne (Ne.symm M.dne)]
      exact I1.hok.fresh M.new
/-- raise X(e) -/
def tRaiseVal (C : Addr) (W : WX) (ta : TA) : TS := fun _ σ H => tMkVal C ta σ H fun cls d H' => W cls d σ H'
theorem ps_raiseVal {a : Expr} {ta : TA} {W : WX} {p pos pos2 : Pos} {k : Nat} (hc : X.calm = true) (T : PySem.ValX.ValTxt X.K X.mg nm C fI) (hr : Room k X.A) (tk : Takes X W) (ha : PA X [a] ta) (hg : Gl X nm := by rfl) (hdb : (nm == ("__debug__" : Str)) = false := by decide)
    (he : starEach (a :: []) X.env = (false, eval a X.env) :: starEach [] X.env := by rfl) (hpl : (backTo pos (starEach [] X.env)).any (·.1) = false := by rfl) :
    PS X (.Raise (some (.Call (.Name nm p) [a] [] pos)) none pos2) (tRaiseVal C W ta) := ps_raise hc tk (pmk_val T hr ha hg hdb he hpl)
theorem pmk_valN {a : Expr} {ta : TA} {p pos : Pos} {k : Nat} (T : PySem.ValX.ValTxt X.K X.mg nm C fI) (hr : Room k X.A) (ha : PA X [a] ta) (hg : Gl X nm := by rfl) (hdb : (nm == ("__debug__" : Str)) = false := by decide)
    (he : starEach (a :: []) X.env = (false, eval a X.env) :: starEach [] X.env := by rfl) (hpl : (backTo pos (starEach [] X.env)).any (·.1) = false := by rfl) :
    L2N.PMk X (.Call (.Name nm p) [a] [] pos) (tMkVal C ta) := by
  intro pins s σ H Q I h
  refine wpAny_Call_Name_kw (ld_glob I hg T.gC ?_ hdb)
  refine PySem.W.callWith_K (h₀ := X.base) I.ok.mod.kin T.kC (thn (ha.run pos pins s σ H _ I h) fun us s1 hh => ?_) he hpl
  obtain ⟨vs, H1, I1, r1, v, ev, q1⟩ := hh
  subst ev
  refine ⟨I1.kIn, ?_⟩
  cases r1 with
  | cons rv rn =>
    rename_i v' us'
    cases rn
    show wpAny _ _ (call (.ref C) [v']) _ _ _
    have hlim := I1.nolimit
    obtain ⟨hp, g, dr, tk, os⟩ := s1
    refine wpAny_call (PySem.ValX.val_made T I1.kIn hlim (by have := hr.dp; omega) fun h' tk' e d M => ?_)
    show L2N.MkP X pins σ Q (.ref e) ⟨h', g, dr, tk', os⟩
    obtain ⟨oe, fv, hoe, hc, hd, hdat, h1, h2⟩ := M.obj
    have hns := M.ns
    obtain ⟨G', g1, g2⟩ := restrict h' fun b => decide (b ≠ e)
    have gk : ∀ b, b ≠ e → G'.get? b = h'.get? b := fun b hb => g1 b (decide_eq_true hb)
    have ge : G'.get? e = none := g2 e (by simp)
    have old : ∀ b o, hp.get? b = some o → G'.get? b = some o := fun b o q => (gk b (Nat.ne_of_lt (Nat.lt_of_lt_of_le (Heap.lt_size q) M.new))).trans (M.keep b o q)
    have ob : ObjOk X.prog X.w (upd H1 d (.xd [(("value" : Str), v)])) G' d (.xd [(("value" : Str), v)]) :=
      ⟨_, hns.at (fun o q => (gk d M.dne).trans q), fun f => relO_val rv f⟩
    have J : Inv X pins σ (upd H1 d (.xd [(("value" : Str), v)])) ⟨G', g, dr, tk', os⟩ := I1.laid (t' := tk') old M.dbig ob
    refine ⟨e, oe, fv, ⟨G', g, dr, tk', os⟩, _, .ref C, some d, rfl, J, fun b o q => ?_, ge, hoe, ⟨hc, hd, fun vs ev => by rw [hdat] at ev; cases ev; exact h2⟩, hdat, h1, ?_, rfl, I1.bare, raises_own T.exC T.tyC, q1 d (I1.hok.fresh M.dbig)⟩
    · by_cases hb : b = e
      · have q' : G'.get? b = some o := q
        rw [hb, ge] at q'; cases q'
      · exact (gk b hb).symm.trans q
    · rw [upd_ne (Ne.symm M.dne)]
      exact I1.hok.fresh M.new
/-- raise X(e), where the context of exceptions is told, too -/
theorem ps_raiseValN {a : Expr} {ta : TA} {W : WX} {p pos pos2 : Pos} {k : Nat} (hc : X.calm = true) (T : PySem.ValX.ValTxt X.K X.mg nm C fI) (hr : Room k X.A) (tk : L2N.Takes X W) (ha : PA X [a] ta) (hg : Gl X nm := by rfl) (hdb : (nm == ("__debug__" : Str)) = false := by decide)
    (he : starEach (a :: []) X.env = (false, eval a X.env) :: starEach [] X.env := by rfl) (hpl : (backTo pos (starEach [] X.env)).any (·.1) = false := by rfl) :
    PS X (.Raise (some (.Call (.Name nm p) [a] [] pos)) none pos2) (tRaiseVal C W ta) := L2N.ps_raise hc tk (pmk_valN T hr ha hg hdb he hpl)
/-- e.value, e the exception that the suite holds (at a; its class cls, its dict d) -/
def tByVal (C : Addr) (a : Addr) (cls : Value) (d : Option Addr) (te : TE) : TE := fun σ H Q => te σ H fun x H1 => x = .ref a ∧ cls = .ref C ∧ ∃ (dd : Addr) (v : V), d = some dd ∧ H1 dd = some (.xd [(("value" : Str), v)]) ∧ Q v H1
theorem pe_byVal {a : Addr} {oe : Obj} {cls : Value} {d : Option Addr} {pn : List (Addr × Obj)} {e : Expr} {te : TE} {pos : Pos} (T : PySem.ValX.ValTxt X.K X.mg nm C fI) (hz : Zc cls d oe) (hf : ∃ vs, oe.data = .fields vs) (he : PE (X.suite a ((a, oe) :: pn)) e te)
    (hb : attributeBase e "value" X.env (eval e X.env) = eval e X.env := by rfl) :
    PE (X.suite a ((a, oe) :: pn)) (.Attribute e "value" pos) (tByVal C a cls d te) := by
  refine ⟨fun pins s σ H Q I h => ?_⟩
  refine attr_of hb (thn (he.run pins s σ H _ I h) fun u s1 hh => ?_)
  obtain ⟨x, H1, I1, rx, ex, ec, dd, v, ed, ea, q⟩ := hh
  subst ex
  obtain rfl : u = Value.ref a := rx
  subst ec
  subst ed
  obtain ⟨ha, _⟩ := I1.pin (a, oe) (List.mem_append_left _ List.mem_cons_self)
  obtain ⟨vs, hd⟩ := hf
  have hx : ObjOk X.prog X.w H1 s1.heap dd (.xd [(("value" : Str), v)]) := I1.hok dd _ ea
  obtain ⟨mA, hns, hr⟩ := hx
  obtain ⟨od, ho, hl⟩ := lookIn_ns hns
  have l : List.lookup ("value" : Str) [(("value" : Str), v)] = some v := by simp [List.lookup]
  obtain ⟨u, hu, ru⟩ := RelO.some_of (v := v) (o := mA "value") (by rw [← l]; exact hr "value")
  have J : PySem.W.InstAt s1.heap a oe C (some od) := ⟨ha, hz.1, by unfold PySem.W.notCls; rw [hd] <;> rfl, by rw [hz.2]; exact ho⟩
  exact HandSPX.exc_get I1.kIn J T.ga T.gg T.exC (PySem.W.findObj_own T.hdC T.noN rfl (by rw [hl, hu])) (handed_of ru) ⟨v, H1, I1.tok _, ru, q⟩
end
end L2

set_option maxHeartbeats 2000000
/-! a class whose __init__ stores its two arguments as self.low and self.high -/
namespace PySem
namespace Val2
open PySem.W PySem.Calls PyProof.Rows PySem.HandSPX PySem.ValX
def iA (p1 p2 p3 : Pos) : Arguments := { posonlyargs := [], args := [{ arg := "self", annotation := none, pos := p1 }, { arg := "low", annotation := none, pos := p2 }, { arg := "high", annotation := none, pos := p3 }], vararg := none, kwonlyargs := [], kw_defaults := [], kwarg := none, defaults := [] }
def iB (q1 q2 q3 q4 r1 r2 r3 r4 : Pos) : List Stmt := [.Assign [.Attribute (.Name "self" q1) "low" q2] (.Name "low" q3) q4, .Assign [.Attribute (.Name "self" r1) "high" r2] (.Name "high" r3) r4]
def iS : Scope := { kind := .function, names := [(PySem.Str.ofString "self", .local), (PySem.Str.ofString "low", .local), (PySem.Str.ofString "high", .local)], isGenerator := false, isCoroutine := false, more := [] }
structure Txt (K : Frag) (mg : Str → Option Value) (nm : Str) (C fI : Addr) : Prop where
  gC : mg nm = some (.ref C)
  cls : ∃ nm q N bs bm sn sub ab col dd k0 k1 k2 k3 k5, K.lookup C = some (excClassObj nm q C N bs bm true sn sub ab col dd k0 k1 k2 k3 k5 "ValueError.__new__") ∧ refsVE bm = true
  sa : findIn K (.ref C) "__setattr__" = some (some (.builtin "object.__setattr__"))
  ga : findIn K (.ref C) "__getattribute__" = some (some (.builtin "BaseException.__getattribute__"))
  gg : findIn K (.ref C) "__getattr__" = some none
  noL : findIn K (.ref C) "low" = some none
  noH : findIn K (.ref C) "high" = some none
  iC : findIn K (.ref C) "__init__" = some (some (.ref fI))
  tC : typeIn K (.ref fI) = some (.type "function")
  kC : keepIn K (.ref C) = true
  exC : subIn K (.ref C) (.type "BaseException") = some true
  tyC : typeIn K (.ref C) = some (.type "type")
  hdC : hasDictIn K C = true
  te : exmOne K (.ref C) (.ref C) = some true
  fn : ∃ (q : Str) (oc : Value) (od : Option Addr) (doc pm : Value) (an : Option Addr) (cdv ct : Value) (osl : Array (Option Value)) (p1 p2 p3 q1 q2 q3 q4 r1 r2 r3 r4 : Pos),
    K.lookup fI = some ⟨oc, od, .func (fnOf "__init__" q (iA p1 p2 p3) (iB q1 q2 q3 q4 r1 r2 r3 r4) iS .none .none doc pm an cdv ct), osl⟩ ∧ codeIn K cdv q = true
theorem two_size (u v : Value) : [u, v].length ≤ sizeLine := by
  rw [sizeLine_eq]
  exact (by decide : 2 ≤ 16777216)
abbrev m2 (u v : Value) : Str → Option Value := fun y => if y = "high" then some v else if y = "low" then some u else none
structure InitEnd (h h' : Heap) (x C dx t1 : Addr) (u v : Value) : Prop where
  keep : ∀ b o, b ≠ x → h.get? b = some o → h'.get? b = some o
  obj : h'.get? x = some { cls := .ref C, dict := some dx, data := .fields #[.ref t1, .none, .none, .none, .bool false, .none] }
  dbig : h.objs.size ≤ dx
  dne : dx ≠ x
  ns : h'.Ns1 dx (m2 u v)
structure OwnMade (h h' : Heap) (e C d : Addr) (u v : Value) : Prop where
  keep : ∀ b o, h.get? b = some o → h'.get? b = some o
  new : h.objs.size ≤ e
  obj : ∃ oe vs, h'.get? e = some oe ∧ oe.cls = .ref C ∧ oe.dict = some d ∧ oe.data = .fields vs ∧ vs[1]? = some .none ∧ vs[2]? = some .none
  dbig : h.objs.size ≤ d
  dne : d ≠ e
  ns : h'.Ns1 d (m2 u v)
section
variable {prog : Program} {w : World} {A : Around} {E : Value → Shared → Prop} {R : Result → Shared → Prop} {s : Shared} {K : Frag} {mg : Str → Option Value} {nm : Str} {C fI : Addr}
theorem val_init (T : Txt K mg nm C fI) {x t0 : Addr} {u v : Value} (X : K.In s.heap) (hlim : s.heap.NoLimit) (hx : s.heap.get? x = some (excO C t0)) (hnx : K.lookup x = none) (hroom : A.depth < recursionLimit)
    (hq : ∀ h' tk dx, InitEnd s.heap h' x C dx t0 u v → R (.ok (.ret .none)) { s with heap := h', toks := tk }) :
    codeAny (model prog w) A (.call (.ref fI) ⟨[.ref x, u, v], []⟩) R s := by
  obtain ⟨qn, oc, od, doc, pm, an, cdv, ct, osl, p1, p2, p3, q1, q2, q3, q4, r1, r2, r3, r4, ho, hcd⟩ := T.fn
  obtain ⟨cnm, q, N, bs, bm, sn, sub, ab, col, dd, k0, k1, k2, k3, k5, hC, hbm⟩ := T.cls
  have hcl : clsIn K C = some { name := cnm, bases := bs, mro := .ref C :: bm, ns := N, qualname := q, hasDict := true, slotNames := sn, subclasses := sub, abstract := ab, collection := col, hasDel := false } := by unfold clsIn; rw [hC] <;> rfl
  refine Att.call_fn (binds := [("self", .ref x), ("low", u), ("high", v)]) X hlim ho hcd hroom (BindsTo.of_eq (by first | rfl | with_unfolding_all rfl)) (by first | rfl | decide | with_unfolding_all rfl) (fun s₁ IC => ?_) rfl rfl rfl
  obtain ⟨h₁, tk₁, rfl⟩ := IC.toInCall.same
  have k : ∀ b o, s.heap.get? b = some o → h₁.get? b = some o := IC.toInCall.keep
  have hn := IC.toInCall.ns
  have hxL : s.heap.objs.size ≠ x := Nat.ne_of_gt (Heap.lt_size hx)
  have X₁ : K.In h₁ := X.keeps k
  have hx₁ := k _ _ hx
  show wpAny _ _ (execs _ _) _ _ _
  refine wpAny_execs_cons (plainObj_wpAny_Assign_Attribute ?_)
  refine ldC (v := u) hn (by first | rfl | with_unfolding_all rfl | kernel_rfl) (ldC (v := .ref x) hn (by first | rfl | with_unfolding_all rfl | kernel_rfl) ?_)
  refine set_plain X₁ (ox := excO C t0) (od := none) ⟨hx₁, rfl, rfl, trivial⟩ T.sa ?_
  refine exc_osa X₁ hx₁ hcl (show refsVE (.ref C :: bm) = true from hbm) rfl T.noL (fun h₃ tk₃ dx k₃ dn dne hx₃ hn₃ => ?_)
  have z : s.heap.objs.size < h₁.objs.size := hn.lt
  have X₃ : K.In h₃ := kept_but X₁ hnx k₃
  have dL : dx ≠ s.heap.objs.size := fun e => absurd (Nat.lt_of_lt_of_le z dn) (by rw [e]; exact Nat.lt_irrefl _)
  have hnL : h₃.Ns s.heap.objs.size _ := hn.at fun o e => k₃ _ o hxL e
  show wpAny _ _ (execs _ _) _ _ _
  refine wpAny_execs_cons (plainObj_wpAny_Assign_Attribute ?_)
  refine ldC (v := v) hnL (by first | rfl | with_unfolding_all rfl | kernel_rfl) (ldC (v := .ref x) hnL (by first | rfl | with_unfolding_all rfl | kernel_rfl) ?_)
  have hw : Within (fun y => if y = "low" then some u else none) ["low"] := fun y hy => by
    by_cases e : y = "low"
    · rw [e]; exact List.mem_cons_self
    · exact absurd (if_neg e) hy
  obtain ⟨oD, _, _, hoD, _, _⟩ := hn₃.count hw
  refine set_plain X₃ (ox := { cls := .ref C, dict := some dx, data := .fields #[.ref t0, .none, .none, .none, .bool false, .none] }) (od := some oD) ⟨hx₃, rfl, rfl, hoD⟩ T.sa ?_
  refine PySem.OEX.osa_old X₃ hx₃ hn₃ hw (by decide) hcl (show refsVE (.ref C :: bm) = true from hbm) rfl T.noH (fun h₄ tk₄ k₄ hn₄ => ?_)
  show wpAny _ _ (execs _ _) _ _ _
  have old : ∀ b o, b ≠ x → s.heap.get? b = some o → h₄.get? b = some o := fun b o hb e =>
    k₄ b o (Nat.ne_of_lt (Nat.lt_of_lt_of_le (Nat.lt_trans (Heap.lt_size e) z) dn)) (k₃ b o hb (k b o e))
  exact wpAny_execs_nil (hq h₄ tk₄ dx ⟨old, k₄ _ _ (Ne.symm dne) hx₃, Nat.le_of_lt (Nat.lt_of_lt_of_le z dn), dne, hn₄⟩)
theorem val_made (T : Txt K mg nm C fI) {u v : Value} (X : K.In s.heap) (hlim : s.heap.NoLimit) (hroom : A.depth + 1 < recursionLimit)
    (hq : ∀ h' tk e d, OwnMade s.heap h' e C d u v → R (.ok (.ret (.ref e))) { s with heap := h', toks := tk }) :
    codeAny (model prog w) A (.call (.ref C) ⟨[u, v], []⟩) R s := by
  obtain ⟨cnm, q, N, bs, bm, sn, sub, ab, col, dd, k0, k1, k2, k3, k5, hC, hbm⟩ := T.cls
  obtain ⟨hp, g, dr, tk, os⟩ := s
  have k : ∀ b o, hp.get? b = some o → ((hp.push (kdv_tup [u, v])).push (excO C hp.objs.size)).get? b = some o := fun b o e => Heap.get?_push_of_some _ (Heap.get?_push_of_some _ e)
  have hget : ((hp.push (kdv_tup [u, v])).push (excO C hp.objs.size)).get? (hp.objs.size + 1) = some (excO C hp.objs.size) := by heap_get
  have hnx : K.lookup (hp.objs.size + 1) = none := by
    cases e : K.lookup (hp.objs.size + 1) with
    | none => rfl
    | some o =>
      have z : hp.get? (hp.objs.size + 1) = some o := X _ _ e
      exact absurd (Nat.lt_of_succ_lt (Heap.lt_size z)) (Nat.lt_irrefl _)
  refine call_own F.excBase_ValueError (fun X => refsVE_contains X bm hbm) (X _ _ hC) (looks_findIn X T.iC) (fun self => bind_fn X self T.tC) (two_size u v) ?_
  refine val_init (s := ⟨(hp.push (kdv_tup [u, v])).push (excO C hp.objs.size), g, dr, tk, os⟩) T (X.keeps k) (hlim.keeps k) hget hnx ?_ fun h' tk' dx ⟨k', hx, dn, dne, hns⟩ => ?_
  · show A.depth + 1 < recursionLimit
    exact hroom
  · have old : ∀ b o, hp.get? b = some o → h'.get? b = some o := fun b o e => k' b o (Nat.ne_of_lt (Nat.lt_succ_of_lt (Heap.lt_size e))) (k b o e)
    have z : hp.objs.size + 1 + 1 ≤ dx := by
      first
        | (simpa only [Heap.size_push] using dn)
        | exact dn
        | (have q := dn; rw [Heap.size_push, Heap.size_push] at q; exact q)
    exact ⟨rfl, hq h' tk' (hp.objs.size + 1) dx ⟨old, Nat.le_succ _, ⟨_, _, hx, rfl, rfl, rfl, rfl, rfl⟩, Nat.le_trans (Nat.le_trans (Nat.le_succ _) (Nat.le_succ _)) z, dne, hns⟩⟩
end
end Val2
end PySem
namespace L2
open PySem PySem.Spec PyProof.Rows
/-- the two fields -/
abbrev xd2 (u v : V) : HO := .xd [(("high" : Str), v), (("low" : Str), u)]
theorem relO_nil (f : Str) : RelO (List.lookup f ([] : List (Str × V))) (none : Option Value) := trivial
section
variable {X : Cx} {nm : Str} {C fI : Addr}
def tMk2 (C : Addr) (ta : TA) : St → Hp → XK → Prop := fun σ H Q => ta σ H fun vs H1 => ∃ u v, vs = [u, v] ∧ ∀ d, H1 d = none → Q (.ref C) (some d) (upd H1 d (xd2 u v))
theorem relO_2 {u v : V} {u' v' : Value} (ru : RelV u u') (rv : RelV v v') (f : Str) : RelO (List.lookup f [(("high" : Str), v), (("low" : Str), u)]) (PySem.Val2.m2 u' v' f) := by
  have r := relO_put (f := ("high" : Str)) rv (relO_put (f := ("low" : Str)) ru relO_nil) f
  exact r
theorem pmk_2N {a b : Expr} {ta : TA} {p pos : Pos} {k : Nat} (T : PySem.Val2.Txt X.K X.mg nm C fI) (hr : Room k X.A) (ha : PA X [a, b] ta) (hg : Gl X nm := by rfl) (hdb : (nm == ("__debug__" : Str)) = false := by decide)
    (he : starEach (a :: [b]) X.env = (false, eval a X.env) :: starEach [b] X.env := by rfl) (hpl : (backTo pos (starEach [b] X.env)).any (·.1) = false := by rfl) :
    L2N.PMk X (.Call (.Name nm p) [a, b] [] pos) (tMk2 C ta) := by
  intro pins s σ H Q I h
  refine wpAny_Call_Name_kw (ld_glob I hg T.gC ?_ hdb)
  refine PySem.W.callWith_K (h₀ := X.base) I.ok.mod.kin T.kC (thn (ha.run pos pins s σ H _ I h) fun us s1 hh => ?_) he hpl
  obtain ⟨vs, H1, I1, r1, u, v, ev, q1⟩ := hh
  subst ev
  refine ⟨I1.kIn, ?_⟩
  obtain ⟨u', v', rfl, ru, rv⟩ := vals2 r1
  show wpAny _ _ (call (.ref C) [u', v']) _ _ _
  have hlim := I1.nolimit
  obtain ⟨hp, g, dr, tk, os⟩ := s1
  refine wpAny_call (PySem.Val2.val_made T I1.kIn hlim (by have := hr.dp; omega) fun h' tk' e d M => ?_)
  show L2N.MkP X pins σ Q (.ref e) ⟨h', g, dr, tk', os⟩
  obtain ⟨oe, fv, hoe, hc, hd, hdat, h1, h2⟩ := M.obj
  have hns := M.ns
  obtain ⟨G', g1, g2⟩ := restrict h' fun b => decide (b ≠ e)
  have gk : ∀ b, b ≠ e → G'.get? b = h'.get? b := fun b hb => g1 b (decide_eq_true hb)
  have ge : G'.get? e = none := g2 e (by simp)
  have old : ∀ b o, hp.get? b = some o → G'.get? b = some o := fun b o q => (gk b (Nat.ne_of_lt (Nat.lt_of_lt_of_le (Heap.lt_size q) M.new))).trans (M.keep b o q)
  have ob : ObjOk X.prog X.w (upd H1 d (xd2 u v)) G' d (xd2 u v) :=
    ⟨_, hns.at (fun o q => (gk d M.dne).trans q), fun f => relO_2 ru rv f⟩
  have J : Inv X pins σ (upd H1 d (xd2 u v)) ⟨G', g, dr, tk', os⟩ := I1.laid (t' := tk') old M.dbig ob
  refine ⟨e, oe, fv, ⟨G', g, dr, tk', os⟩, _, .ref C, some d, rfl, J, fun b o q => ?_, ge, hoe, ⟨hc, hd, fun vs ev => by rw [hdat] at ev; cases ev; exact h2⟩, hdat, h1, ?_, rfl, I1.bare, raises_own T.exC T.tyC, q1 d (I1.hok.fresh M.dbig)⟩
  · by_cases hb : b = e
    · have q' : G'.get? b = some o := q
      rw [hb, ge] at q'; cases q'
    · exact (gk b hb).symm.trans q
  · rw [upd_ne (Ne.symm M.dne)]
    exact I1.hok.fresh M.new
def tRaise2 (C : Addr) (W : WX) (ta : TA) : TS := fun _ σ H => tMk2 C ta σ H fun cls d H' => W cls d σ H'
theorem ps_raise2N {a b : Expr} {ta : TA} {W : WX} {p pos pos2 : Pos} {k : Nat} (hc : X.calm = true) (T : PySem.Val2.Txt X.K X.mg nm C fI) (hr : Room k X.A) (tk : L2N.Takes X W) (ha : PA X [a, b] ta) (hg : Gl X nm := by rfl) (hdb : (nm == ("__debug__" : Str)) = false := by decide)
    (he : starEach (a :: [b]) X.env = (false, eval a X.env) :: starEach [b] X.env := by rfl) (hpl : (backTo pos (starEach [b] X.env)).any (·.1) = false := by rfl) :
    PS X (.Raise (some (.Call (.Name nm p) [a, b] [] pos)) none pos2) (tRaise2 C W ta) := L2N.ps_raise hc tk (pmk_2N T hr ha hg hdb he hpl)
end
end L2

set_option maxHeartbeats 4000000
/-! isinstance of a caught error of an own class that has a dict of its own -/
namespace Vk
open PySem PySem.W PySem.Spec PySem.Calls PyProof.Rows
section
variable {prog : Program} {w : World} {A : Around} {E : Value → Shared → Prop} {s : Shared} {K : Frag} {x D : Addr} {ox : Obj} {od : Option Obj}
theorem found_data {C : Addr} {name : Str} {a g : Value} (hc : (clsIn K C).isSome = true) (ha : findIn K (.ref C) name = some (some a)) (hg : specialIn K a "__get__" = some (some g)) (ht : takesIn K a = some true) : findObj K C od name = some (.bind g a) := by
  obtain ⟨cd, hc⟩ := Option.isSome_iff_exists.mp hc
  simp only [findObj, hc, ha, Option.bind_some, hg, ht]
/-- what the class must say -/
abbrev Ec (K : Frag) (D : Addr) : Prop := L2.ExcC K D
theorem class_asked {Q : Option Value → Shared → Prop} (C : Ec K D) (X : K.In s.heap) (I : InstAt s.heap x ox D od) (h : Q (some (.ref D)) { s with toks := s.toks + 1 }) : wpAny (model prog w) A (getAttr? (.ref x) "__class__") Q E s := by
  have isC : (clsIn K D).isSome = true := by
    obtain ⟨cd, e, _⟩ := any_some C.hd
    rw [e]
    rfl
  obtain ⟨hp, g, d, t, os⟩ := s
  have T0 := I.type (M := model prog w)
  have F1 := looks_findIn (M := model prog w) X C.hg
  have F2 := looks_findIn (M := model prog w) X C.hk
  have F3 := looks_find (M := model prog w) X I (found_data isC C.ha C.hn C.ht)
  have below : Looks (model prog w) hp (isInstance (.ref x) (.type "BaseException")) true := T0.andThen (looks_subIn X C.hs)
  have q1 : (Value.builtin "BaseException.__getattribute__" == Value.builtin "object.__getattribute__") = false := by decide +kernel
  have q2 : (onTheHeap (Value.ref D) && Value.builtin "BaseException.__getattribute__" == Value.builtin "object.__getattribute__") = false := by rw [q1]; rfl
  unfold getAttr? getAttrBy? getAttrBy
  refine wpAny_bind (wpAny_mkText (wpAny_bind (wpAny_attempt (wpAny_holding (wpAny_bind (T0.at (wpAny_bind (F1.at ?_))))))))
  show wpAny _ _ (if (onTheHeap (Value.ref D) && Value.builtin "BaseException.__getattribute__" == Value.builtin "object.__getattribute__") = true then _ else _) _ _ _
  rw [q2, if_neg Bool.false_ne_true]
  unfold getAttrByItsOwn hookBefore
  refine wpAny_bind ?_
  rw [if_pos (show onTheHeap (Value.ref D) = true from rfl)]
  refine F2.at (wpAny_bind (wpAny_attempt (wpAny_holding ?_)))
  unfold callGetattribute
  rw [show (false && onTheHeap (Value.builtin "BaseException.__getattribute__")) = false from rfl, if_neg Bool.false_ne_true]
  unfold boundAndCalled
  rw [PySem.F.excAttr_ValueError.ga.bind (.ref x)]
  refine wpAny_bind (wpAny_pure ?_)
  show wpAny _ _ (call (.builtin "BaseException.__getattribute__") [.ref x, .str "__class__" t]) _ _ _
  refine wpAny_call (codeAny_call_builtin PySem.F.excAttr_ValueError.ga.plain PySem.F.entry_bexc_ga ?_)
  refine @check_slot (model prog w) _ _ ⟨hp, g, d, t + 1, os⟩ "BaseException.__getattribute__" "BaseException" "__getattribute__" (.ref x) [.str "__class__" t] [] _ (by decide +kernel) (by decide +kernel) below (PySem.F.args_bexc_ga (.ref x) (.str "__class__" t)) ?_
  unfold Builtin.«object.__getattribute__»
  refine wpAny_bind (wpAny_of_eq (a := ((Value.ref x : Value), [Value.str "__class__" t])) (by first | rfl | (simp only [slotArgs]; rfl)) ?_)
  refine wpAny_bind (wpAny_pure (wpAny_bind (T0.at (wpAny_bind (F3.at ?_)))))
  show wpAny _ _ (holding [Value.builtin "object.__class__"] (call (.builtin "getset_descriptor.__get__") [.builtin "object.__class__", .ref x, .ref D]) >>= ret) _ _ _
  refine wpAny_bind (wpAny_holding (wpAny_call (class_get (s := ⟨hp, g, d, t + 1, os⟩) (ox := ox) (od := od) X I C.hm ?_)))
  refine wpAny_pure ?_
  show wpAny _ _ (handedOut (.ref D)) _ _ _
  rw [handedOut_of (v := .ref D) rfl]
  first
    | exact wpAny_pure (wpAny_pure h)
    | exact wpAny_pure h
    | exact wpAny_pure (wpAny_bind (wpAny_pure (wpAny_pure h)))
theorem kit_exc (C : Ec K D) : KitX K (.ref x) (.ref D) (fun h => InstAt h x ox D od) where
  ty := fun _ _ _ I => I.type
  it := fun _ _ X _ => by
    obtain ⟨cdD, hcD, _⟩ := any_some C.hd
    unfold clsIn at hcD
    split at hcD
    · rename_i c' d' cd' sl' ho
      intro A' Q' E' s' k q
      unfold isType loadHead
      exact wpAny_bind (wpAny_loadPart (k _ _ (X _ _ ho)) (wpAny_pure q))
    · cases hcD
  ne := fun h tp dd its n sl X htp => by
    obtain ⟨cdD, hcD, _⟩ := any_some C.hd
    unfold clsIn at hcD
    split at hcD
    · rename_i c' d' cd' sl' ho
      refine Bool.eq_false_iff.mpr fun q => ?_
      have e : D = tp := Value.ref.inj (beq_iff_eq.mp q)
      rw [← e] at htp
      cases (X _ _ ho).symm.trans htp
    · cases hcD
  ca := fun X I k => class_asked C X I k
end
end Vk
namespace Vk
open PySem PySem.Spec PyProof.Rows L2
/-- isinstance(e, c), e the exception that the suite holds, its dict tracked (or none) -/
def rIsG (K : PySem.W.Frag) (D a : Addr) (d : Option Addr) : List V → Hp → VK → Prop := fun xs H Q => ∃ (c : V) (cv : Value) (b : Bool), xs = [.ref a, c] ∧ ClsV c cv ∧ (d = none ∨ ∃ dd fs, d = some dd ∧ H dd = some (.xd fs)) ∧ PySem.W.kitOne K (.ref D) cv = some b ∧ Q (.bl b) H
theorem call_isG {X : Cx} {a D : Addr} {oe : Obj} {d : Option Addr} {pn : List (Addr × Obj)} (C : ExcC X.K D) (hz : Zc (.ref D) d oe) (hf : ∃ vs, oe.data = .fields vs) : CallR (X.suite a ((a, oe) :: pn)) (.builtin "isinstance") (rIsG X.K D a d) := by
  intro pins s σ H xs us Q I r h
  obtain ⟨c, cv, b, rfl, hcv, hd, e, q⟩ := h
  obtain ⟨u1, u2, rfl, r1, r2⟩ := vals2 r
  obtain rfl : u1 = Value.ref a := r1
  have ec := hcv.eq r2
  subst ec
  obtain ⟨hget, _⟩ := I.pin (a, oe) (List.mem_append_left _ List.mem_cons_self)
  obtain ⟨vs, hv⟩ := hf
  obtain ⟨od, J⟩ : ∃ od, PySem.W.InstAt s.heap a oe D od := by
    have no : PySem.W.notCls oe = true := by unfold PySem.W.notCls; rw [hv] <;> rfl
    rcases hd with rfl | ⟨dd, fs, rfl, hdd⟩
    · exact ⟨none, hget, hz.1, no, by rw [hz.2]; trivial⟩
    · have hx : ObjOk X.prog X.w H s.heap dd (.xd fs) := I.hok dd _ hdd
      obtain ⟨mA, hns, _⟩ := hx
      obtain ⟨o, ho, _⟩ := lookIn_ns hns
      exact ⟨some o, hget, hz.1, no, by rw [hz.2]; exact ho⟩
  exact PySem.W.kia_one (kit_exc C) I.kIn J e (fun z => nomatch z) fun tk => ⟨.bl b, H, I.kept (t' := tk) fun _ _ z => z, rfl, q⟩
end Vk

set_option maxHeartbeats 2000000
/-! several clauses «except X as n» behind one try -/
namespace L2
open PySem PySem.Spec PyProof.Rows
abbrev Clause := Value × Nat × (Addr → Value → Option Addr → TS)
/-- behind a suite its name is gone -/
def Ends.off (i : Nat) (D : Ends) : Ends := ⟨fun τ G => D.nx (τ.set i none) G, D.rt, fun τ G => D.bk (τ.set i none) G, fun τ G => D.ct (τ.set i none) G⟩
def wAses (K : PySem.W.Frag) (W0 : WX) (D : Ends) : List Clause → WX
  | [] => W0
  | q :: more => fun k dd τ G => ∃ hit, PySem.W.exmOne K k q.1 = some hit ∧ (hit = true → ∀ z, G z = none → q.2.2 z k dd (D.off q.2.1) (τ.set q.2.1 (some (.ref z))) G) ∧ (hit = false → wAses K W0 D more k dd τ G)
inductive AsOk (X : Cx) : List ExceptHandler → List Clause → Prop
  | nil : AsOk X [] []
  | cons {x n : Str} {c : Value} {i : Nat} {ts : Addr → Value → Option Addr → TS} {b0 : Stmt} {bs : List Stmt} {p1 p2 : Pos} {es : List ExceptHandler} {qs : List Clause} (hc : Names X x c) (hi : X.N[i]? = some n) (hk : X.env.kindOf n = some .local)
      (hsu : ∀ (z : Addr) (oz : Obj) (k : Value) (dd : Option Addr) (pn : List (Addr × Obj)), Zc k dd oz → (∃ vs, oz.data = .fields vs) → PSs (X.suite z ((z, oz) :: pn)) (b0 :: bs) (ts z k dd)) (more : AsOk X es qs) :
      AsOk X (.ExceptHandler (some (.Name x p1)) (some n) (b0 :: bs) p2 :: es) ((c, i, ts) :: qs)
section
variable {X : Cx} {body : List Stmt} {e0 : ExceptHandler} {es : List ExceptHandler} {qs : List Clause} {pos : Pos} {tb : WX → TS} {W0 : WX}
theorem ps_try_ases (hst : X.stack = X.env :: X.outer) (hfr : X.env.frame = some X.env.locals) (hnd : X.N.Nodup) (tk : Takes X W0)
    (hb : ∀ (W : WX) (pn : List (Addr × Obj)) (xe : Value → Shared → Prop), Takes (X.tr pn xe) W → PassesOwn (model X.prog X.w) X.A X.env xe → PSs (X.tr pn xe) body (tb W))
    (hh : AsOk X (e0 :: es) qs) : PS X (.Try body (e0 :: es) [] [] pos) (fun D τ G => tb (wAses X.K W0 D qs) D τ G) := by
  refine ⟨fun pins s τ0 G0 D inv0 wish => ?_⟩
  have okk := inv0.ok
  have frm : X.A.frames = some (X.env :: X.outer) := okk.frames.trans (congrArg some hst)
  refine wpAny_Try_except (wpAny_mono ((hb (wAses X.K W0 D qs) (X.pn ++ pins) (fun u t1 => wpAny (model X.prog X.w) X.A (noteFrame u X.env) (fun _ t2 => wpAny (model X.prog X.w) X.A (setFlight u none) (fun _ t3 =>
    wpAny (model X.prog X.w) X.A (handleBy u X.env (e0 :: es)) (SP X pins D) X.xe t3) X.xe t2) X.xe t1) (fun u t raised => ?caught) PassesOwn.looking).run [] s τ0 G0 D (inv0.toTry _) wish) (fun fl t got => ?through) (fun _ _ y => y))
  case through =>
    cases fl with
    | next => obtain ⟨τ, G, J, q⟩ := got; exact wpAny_execs_nil ⟨τ, G, J.ofTry okk, q⟩
    | brk => obtain ⟨τ, G, J, q⟩ := got; exact ⟨τ, G, J.ofTry okk, q⟩
    | cont => obtain ⟨τ, G, J, q⟩ := got; exact ⟨τ, G, J.ofTry okk, q⟩
    | ret u => obtain ⟨v, τ, G, J, r, q⟩ := got; exact ⟨v, τ, G, J.ofTry okk, r, q⟩
  case caught =>
    obtain ⟨z, B, sB, pins1, τ, G, k, dd, rfl, jT, bare, upB, inSky, zfree, os1, same1, wants⟩ := raised
    have j0 : Inv X pins τ G sB := jT.ofTry okk
    have inSky1 : Sky B (X.env :: X.outer) z (Zc k dd) X.env.locals t.heap := hst ▸ inSky
    show wpAny (model X.prog X.w) X.A (noteFrame (.ref z) X.env) _ _ _
    refine Sky.land Zc.steady frm hfr inSky1 fun hA flA upA => ?_
    have jA : Inv X pins τ G { t with heap := hA } := j0.landed bare flA.1 (upB.trans upA) os1 same1
    obtain ⟨oA, vA, getA, zcA, datA⟩ := flA.there
    have notF : z ∉ frs (X.env :: X.outer) := by
      intro hm
      obtain ⟨_, o', e', hnf⟩ := flA.2.2.1.mem hm
      rw [getA] at e'
      cases e'
      exact hnf _ datA
    have zL : z ≠ X.env.locals := fun y => notF (List.mem_filterMap.mpr ⟨X.env, List.mem_cons_self, hfr.trans (congrArg some y.symm)⟩)
    have zF : z ∉ X.fs := fun hm => by
      obtain ⟨en, hen, y⟩ := List.mem_filterMap.mp hm
      exact notF (List.mem_filterMap.mpr ⟨en, List.mem_cons_of_mem _ hen, y⟩)
    have jS := jA.suite getA datA zfree zL zF
    have turn : ∀ {es1 : List ExceptHandler} {qs1 : List Clause}, AsOk X es1 qs1 → wAses X.K W0 D qs1 k dd τ G → wpAny (model X.prog X.w) X.A (handleBy (.ref z) X.env es1) (SP X pins D) X.xe { t with heap := hA } := by
      intro es1 qs1 kk
      induction kk with
      | nil =>
        intro out
        refine wpAny_handleBy_nil ?_
        obtain ⟨_, _, _, oz, vs, Tr, oTr, tsr, geto, zco, dato, one, _⟩ := id flA
        unfold PySem.passOn
        refine wpAny_bind (wpAny_field geto dato one ?_)
        rw [if_neg (by simp : ¬ ((Value.ref Tr == Value.none) = true))]
        have away : wpAny (model X.prog X.w) X.A (setFlight (.ref z) X.env.frame) (fun _ t4 => wpAny (model X.prog X.w) X.A (throw (.ref z) : Sem Flow) (SP X pins D) X.xe t4) X.xe { t with heap := hA } := by
          rw [hfr]
          exact HandSPX.setFlight_upZ flA fun h4 sk4 up4 => wpAny_throw (tk _ _ ⟨z, B, sB, pins, τ, G, k, dd, rfl, j0, bare, (upB.trans upA).trans up4, .inr (.inr (hst.symm ▸ sk4)), zfree, os1, same1, out⟩)
        first | exact wpAny_bind (wpAny_pure (wpAny_bind away)) | exact wpAny_bind away
      | @cons x n c i ts b0 bs p1 p2 es2 qs2 hc hi hk hsu more ih =>
        rintro ⟨hit, isHit, onHit, offHit⟩
        refine wpAny_handleBy_cons (codeAny_handlers_test ?_) (by intro y; cases y)
        have looksT : PySem.W.Looks (model X.prog X.w) hA (typeOf (.ref z)) k := fun A Q E s kp y => wpAny_typeOf_ref (kp _ _ getA) (by rw [zcA.1]; exact y)
        have looksM := PySem.W.exm_one (M := model X.prog X.w) jA.kIn looksT isHit
        have named : ∀ {Q : Value → Shared → Prop} {E : Value → Shared → Prop}, Q c { t with heap := hA } → wpAny (model X.prog X.w) (X.A.mark (some (.ref z))) (eval (.Name x p1) X.env) Q E { t with heap := hA } := fun {Q E} y =>
          match hc with
          | ⟨hg, hdb, .inl hm⟩ => ld_glob (X := X.suite z ((z, oA) :: (X.pn ++ pins))) jS hg hm y hdb
          | ⟨hg, hdb, .inr ⟨hm, hv, hnn⟩⟩ => ld_blt (X := X.suite z ((z, oA) :: (X.pn ++ pins))) jS hg hm hv y hnn hdb
        refine named (looksM.here ?_)
        cases hit with
        | false => exact ih (offHit rfl)
        | true =>
          refine codeAny_handlers_suite_as (HandSPX.lands_againZ flA fun hB flB upB2 => ?_)
          have jB : Inv X pins τ G { t with heap := hB } := j0.landed bare flB.1 ((upB.trans upA).trans upB2) os1 same1
          obtain ⟨oB, vB, getB, zcB, datB⟩ := flB.there
          have jSB := jB.suite getB datB zfree zL zF
          refine store_ok (X := X.suite z ((z, oB) :: (X.pn ++ pins))) (v := .ref z) jSB hnd hi (.inl hk) rfl (fun t5 S5 => ?_) (.inr hk)
          refine wpAny_mono ((hsu z oB k dd (X.pn ++ pins) zcB ⟨_, datB⟩).run [] t5 _ G _ S5 (onHit rfl z zfree)) (fun fl t6 got => ?_) (fun _ _ y => y.elim)
          have fin : ∀ {τ6 : St} {G6 : Hp} {Q : Shared → Prop}, Inv (X.suite z ((z, oB) :: (X.pn ++ pins))) [] τ6 G6 t6 → (∀ t7, Inv X pins (τ6.set i none) G6 t7 → Q t7) →
              wpAny (model X.prog X.w) X.A (do bindName X.env n .none; unbindBehindTheSuite X.env n p2) (fun _ t7 => Q t7) X.xe t6 := fun S6 hq => gone_ok (S6.unsuite okk) hnd hi hk hq
          cases fl with
          | next => obtain ⟨_, _, S6, q6⟩ := got; exact fin S6 fun _ J7 => ⟨_, _, J7, q6⟩
          | brk => obtain ⟨_, _, S6, q6⟩ := got; exact fin S6 fun _ J7 => ⟨_, _, J7, q6⟩
          | cont => obtain ⟨_, _, S6, q6⟩ := got; exact fin S6 fun _ J7 => ⟨_, _, J7, q6⟩
          | ret u => obtain ⟨_, _, _, S6, r6, q6⟩ := got; exact fin S6 fun _ J7 => ⟨_, _, _, J7, r6, q6⟩
    exact turn hh wants
end
end L2

/-! defs that may raise, and calls with keywords -/
namespace Vk
open PySem L2 PyProof.Rows
/-- a def that may raise: its promise says when -/
structure DefX (P : Program) (w : World) (K : PySem.W.Frag) (mg : Str → Option Value) (base : Heap) (k : Nat) (x : Str) (ps : List Str) (sp : Sp) (f : Addr) (fd : FuncData) : Prop where
  ok : FnOk P w K mg base (L2.CX P w) k f fd ps sp
  m : mg x = some (.ref f)
  kp : PySem.W.keepIn K (.ref f) = true
  b : Binds K fd ps []
theorem DefX.up {P : Program} {w : World} {K : PySem.W.Frag} {mg : Str → Option Value} {base : Heap} {j k : Nat} {x : Str} {ps : List Str} {sp : Sp} {f : Addr} {fd : FuncData} (d : DefX P w K mg base j x ps sp f fd) (h : j ≤ k) : DefX P w K mg base k x ps sp f fd := ⟨d.ok.mono h, d.m, d.kp, d.b⟩
/-- with n values by place and keywords ks -/
structure DefXN (P : Program) (w : World) (K : PySem.W.Frag) (mg : Str → Option Value) (base : Heap) (k : Nat) (x : Str) (ps : List Str) (n : Nat) (ks : List Str) (sp : Sp) (f : Addr) (fd : FuncData) : Prop where
  ok : FnOk P w K mg base (L2.CX P w) k f fd ps sp
  m : mg x = some (.ref f)
  kp : PySem.W.keepIn K (.ref f) = true
  b : KBn K fd ps n ks (fun us ws => us ++ ws) (fun vs zs => vs ++ zs)
theorem DefXN.up {P : Program} {w : World} {K : PySem.W.Frag} {mg : Str → Option Value} {base : Heap} {j k n : Nat} {x : Str} {ps ks : List Str} {sp : Sp} {f : Addr} {fd : FuncData} (d : DefXN P w K mg base j x ps n ks sp f fd) (h : j ≤ k) : DefXN P w K mg base k x ps n ks sp f fd := ⟨d.ok.mono h, d.m, d.kp, d.b⟩
theorem vals_app : ∀ {vs : List V} {us : List Value} {zs : List V} {ws : List Value}, Vals vs us → Vals zs ws → Vals (vs ++ zs) (us ++ ws)
  | _, _, _, _, .nil, h => h
  | _, _, _, _, .cons r t, h => .cons r (vals_app t h)
/-- keyword-only parameters without defaults, all given -/
theorem kbn_of {K : PySem.W.Frag} {x qual : Str} {st : Stmt} {f : Addr} {fd : FuncData} {ps ks : List Str} {n : Nat} (F : Fun K x qual st f fd)
    (h : ∀ (kV doc pm : Value) (an : Option Addr) (cdv ct : Value) (us ws : List Value), us.length = n → ws.length = ks.length → bindArgs (PySem.W.fnOf x qual (defArgs st) (defBody st) (defScope st) .none kV doc pm an cdv ct) ⟨us, ks.zip ws⟩ = pure (ps.zip (us ++ ws))) :
    KBn K fd ps n ks (fun us ws => us ++ ws) (fun vs zs => vs ++ zs) := by
  obtain ⟨oc, od, kV, doc, pm, an, cdv, ct, osl, rfl, lk, hcd⟩ := F.ex
  exact ⟨fun s us ws _ l1 l2 => BindsTo.of_eq (h kV doc pm an cdv ct us ws l1 l2), vals_app⟩
section
variable {X : Cx} {k n : Nat} {f : Addr} {fd : FuncData} {ps ks : List Str} {sp : Sp} {x : Str} {p pos : Pos} {e : Expr} {es : List Expr} {kws : List Keyword} {t tkw : TA} {W : WX}
/-- called where nothing is let out -/
theorem pcallL (D : DefX X.prog X.w X.K X.mg X.base k x ps sp f fd) (hr : Room k X.A) (ha : PA X (e :: es) t)
    (hg : Gl X x := by rfl) (hdb : (x == ("__debug__" : Str)) = false := by decide) (he : starEach (e :: es) X.env = (false, eval e X.env) :: starEach es X.env := by rfl) (hpl : (backTo pos (starEach es X.env)).any (·.1) = false := by rfl) :
    PE X (.Call (.Name x p) (e :: es) [] pos) (tCall sp [] E0 t) := pe_call D.ok hr hg D.m D.kp D.b .nil passL ha hdb he hpl
/-- called where the wish W takes what it raises -/
theorem pcallX (D : DefX X.prog X.w X.K X.mg X.base k x ps sp f fd) (hr : Room k X.A) (tk : Takes X W) (ha : PA X (e :: es) t)
    (hg : Gl X x := by rfl) (hdb : (x == ("__debug__" : Str)) = false := by decide) (he : starEach (e :: es) X.env = (false, eval e X.env) :: starEach es X.env := by rfl) (hpl : (backTo pos (starEach es X.env)).any (·.1) = false := by rfl) :
    PE X (.Call (.Name x p) (e :: es) [] pos) (tCallS sp (WE W) t) := pe_callS D.ok hr hg D.m D.kp D.b (fun σ => passAt tk σ) ha hdb he hpl
theorem pcallLN (D : DefXN X.prog X.w X.K X.mg X.base k x ps n ks sp f fd) (hr : Room k X.A) (ha : PA X (e :: es) t) (hkw : PK X kws tkw)
    (hg : Gl X x := by rfl) (hall : (backToKw pos (keywordEach kws X.env)).all (·.1.isSome) = true := by rfl) (hks : (backToKw pos (keywordEach kws X.env)).filterMap (·.1) = ks := by rfl)
    (hdb : (x == ("__debug__" : Str)) = false := by decide) (he : starEach (e :: es) X.env = (false, eval e X.env) :: starEach es X.env := by rfl)
    (hpl : ((backTo pos (starEach (e :: es) X.env)).any (·.1) || (backToKw pos (keywordEach kws X.env)).any (·.1.isNone)) = false := by rfl) :
    PE X (.Call (.Name x p) (e :: es) kws pos) (tCallN n ks.length sp (fun vs zs => vs ++ zs) E0 t tkw) := pe_callN D.ok hr hg D.m D.kp D.b passL ha hkw hall hks hdb he hpl
def tCallNS (n m : Nat) (sp : Sp) (E : L2.St → XK) (t tkw : TA) : TE := fun σ H Q => t σ H fun vs H1 => tkw σ H1 fun zs H2 => vs.length = n ∧ zs.length = m ∧ sp (vs ++ zs) H2 Q (E σ)
theorem pcallXN (D : DefXN X.prog X.w X.K X.mg X.base k x ps n ks sp f fd) (hr : Room k X.A) (tk : Takes X W) (ha : PA X (e :: es) t) (hkw : PK X kws tkw)
    (hg : Gl X x := by rfl) (hall : (backToKw pos (keywordEach kws X.env)).all (·.1.isSome) = true := by rfl) (hks : (backToKw pos (keywordEach kws X.env)).filterMap (·.1) = ks := by rfl)
    (hdb : (x == ("__debug__" : Str)) = false := by decide) (he : starEach (e :: es) X.env = (false, eval e X.env) :: starEach es X.env := by rfl)
    (hpl : ((backTo pos (starEach (e :: es) X.env)).any (·.1) || (backToKw pos (keywordEach kws X.env)).any (·.1.isNone)) = false := by rfl) :
    PE X (.Call (.Name x p) (e :: es) kws pos) (tCallNS n ks.length sp (WE W) t tkw) := by
  refine ⟨fun pins s σ H Q I wish => wpAny_Call_Name_kw (ld_glob I hg D.m ?_ hdb)⟩
  refine PySem.W.callWith_KW (h₀ := X.base) I.ok.mod.kin D.kp hall (thn (ha.run pos pins s σ H _ I wish) fun us s1 ⟨vs, H1, I1, r1, q1⟩ => ?_) hpl he
  refine thn (hkw.run pos pins s1 σ H1 _ I1 q1) fun ws s2 ⟨zs, H2, I2, r2, l1, l2, q2⟩ => ⟨I2.kIn, ?_⟩
  rw [hks]
  refine wpAny_call (codeAny_mono (D.ok.run X.A X.stack s2 H2 ⟨us, ks.zip ws⟩ (us ++ ws) (vs ++ zs) Q _ hr I2.env0 (D.b.to s2 us ws I2.kIn (r1.length.symm.trans l1) (r2.length.symm.trans l2)) (D.b.rel r1 r2) q2) fun r s' hq => ?_)
  match r with
  | .error u => exact passAt tk σ pins H2 s2 u s' I2 hq
  | .ok (.ret u) => exact I2.after hq
  | .ok .next => exact hq.elim
  | .ok .brk => exact hq.elim
  | .ok .cont => exact hq.elim
end
/-- a def with keyword-only parameters, as it stands -/
structure FnK (K : PySem.W.Frag) (mg : Str → Option Value) (x : Str) (st : Stmt) (f : Addr) (fd : FuncData) : Prop where
  F : Fun K x x st f fd
  m : mg x = some (.ref f)
/-- what a raised error of the class C with this value wishes -/
def eV (E : XK) (C : Addr) (H : Hp) (v : V) : Prop := ∀ d, H d = none → E (.ref C) (some d) (upd H d (.xd [(("value" : Str), v)]))
end Vk

set_option maxHeartbeats 4000000
/-! A def that a caught error is passed to, from within the suite that holds it. -/
namespace Vk
open PySem PySem.Spec PyProof.Rows L2 L2H
/-- a def's promise about the error at hand -/
structure FnP (P : Program) (w : World) (K : PySem.W.Frag) (mg : Str → Option Value) (base : Heap) (k : Nat) (f : Addr) (fd : FuncData) (ps : List Str) (sp : Addr × Obj → Sp) : Prop where
  many : ∀ p vs H Q E, sp p vs H Q E → vs.length = ps.length
  go : ∀ (A : Around) (outer : List Env) (s : Shared) (H : Hp) (args : Args) (us : List Value) (vs : List V) (Q : VK) (E : XK) (p : Addr × Obj), RoomH k A → Hot1 A p → PinOk outer H s p →
    Env0 P w K mg base A outer s H → BindsTo s fd args (ps.zip us) → Vals vs us → sp p vs H Q E → codeAny (model P w) A (.call (.ref f) args) (CR CX0 outer P w H s Q E) s
theorem fnp_mk {P : Program} {w : World} {K : PySem.W.Frag} {mg : Str → Option Value} {base : Heap} {k : Nat} {f : Addr} {nm qual : Str} {pars : Arguments} {bod : List Stmt} {sco : Scope} {dV kV doc pm cdv ct oc : Value} {an od : Option Addr} {osl : Array (Option Value)} {N ps : List Str}
    {sp : Addr × Obj → Sp} (at_ : K.lookup f = some ⟨oc, od, .func (PySem.W.fnOf nm qual pars bod sco dV kV doc pm an cdv ct), osl⟩) (code : PySem.W.codeIn K cdv qual = true) (S : FnScope N ps sco) (many : ∀ p vs H Q E, sp p vs H Q E → vs.length = ps.length)
    (runs : ∀ (A : Around) (outer : List Env) (s : Shared) (H : Hp) (vs : List V) (Q : VK) (E : XK) (p : Addr × Obj), Hot1 A p → RoomH k (A.deeper (envOfC qual sco s.heap.objs.size f cdv)) → sp p vs H Q E →
      ∃ t, PSs (cxH CX0 P w K mg base N qual sco f cdv A outer s H E p) bod t ∧ t { nx := fun _ G => Q .non G, rt := Q } (L2.start N vs) H) : FnP P w K mg base (k + 1) f (PySem.W.fnOf nm qual pars bod sco dV kV doc pm an cdv ct) ps sp := by
  refine ⟨many, ?_⟩
  intro A outer s H args us vs Q E p room hot pin e0 bound rel want
  have cnt := many _ _ _ _ _ want
  have old : ∀ b o, base.get? b = some o → s.heap.get? b = some o := fun b o e => (e0.bs b o e).1
  have kin := e0.mod.kin.keeps old
  have nol := e0.mod.nolimit.keeps old
  have kinds : ∀ y ∈ ps.zip us, sco.names.lookup y.1 = some .local ∨ (sco.names.lookup y.1 = some .cell ∧ ((cellsFrom (s.heap.objs.size + 1) sco.names []).lookup y.1).isSome = true) := by
    rintro ⟨n, v⟩ hy
    rcases S.par n (List.of_mem_zip hy).1 with c | c
    · exact Or.inl c
    · exact Or.inr ⟨c, PySem.W.cellsFrom_some _ _ _ (.inl c)⟩
  refine codeAny_call_function room.depth (kin _ _ at_) rfl S.co S.gen rfl (PySem.W.codeRec_of kin code) (bound _ _ _ _ ?_)
  refine wpAny_newFunctionEnv_cells S.kind kinds fun env eenv s1 inC => ?_
  subst eenv
  refine ⟨nol.keeps inC.toInCall.keep, codeAny_func ?_⟩
  obtain ⟨t, ht, q⟩ := runs A outer s H vs Q E p hot (room.deeper _) want
  have I := inv_startH (CX := CX0) (E := E) S pin e0 cnt rel inC
  refine wpAny_mono (ht.run [] s1 (L2.start N vs) H _ I q) (fun fl s2 hs => ?_) fun _ _ h => h
  have out : ∀ {σ2 : L2.St} {G : Hp} {v : V} {u : Value}, Inv (cxH CX0 P w K mg base N qual sco f cdv A outer s H E p) [] σ2 G s2 → RelV v u → Q v G → CE outer P w H s Q u s2 := by
    intro σ2 G v u J r z
    exact ⟨v, G, J.os, J.bare, J.base, J.hok, r, z⟩
  cases fl with
  | ret u =>
    obtain ⟨v, _, _, J, r, z⟩ := hs
    exact out J r z
  | next =>
    obtain ⟨_, _, J, z⟩ := hs
    exact out (v := V.non) (u := Value.none) J rfl z
  | brk =>
    obtain ⟨_, _, _, z⟩ := hs
    exact z.elim
  | cont =>
    obtain ⟨_, _, _, z⟩ := hs
    exact z.elim
/-- f(e), e the error that is at hand -/
theorem pe_callP {X : Cx} {k : Nat} {f : Addr} {fd : FuncData} {ps : List Str} {sp : Addr × Obj → Sp} {p : Addr × Obj} {x : Str} {q pos : Pos} {e : Expr} {es : List Expr} {t : TA} (F : FnP X.prog X.w X.K X.mg X.base k f fd ps sp) (room : RoomH k X.A) (hot : Hot1 X.A p) (hp : p ∈ X.pn)
    (hg : Gl X x) (hm : X.mg x = some (.ref f)) (kp : PySem.W.keepIn X.K (.ref f) = true) (hb : Binds X.K fd ps []) (ha : PA X (e :: es) t) (hdb : (x == ("__debug__" : Str)) = false := by decide)
    (he : starEach (e :: es) X.env = (false, eval e X.env) :: starEach es X.env := by rfl) (hpl : (backTo pos (starEach es X.env)).any (·.1) = false := by rfl) : PE X (.Call (.Name x q) (e :: es) [] pos) (tCall (sp p) [] E0 t) := by
  refine ⟨?_⟩
  intro pins s σ H Q I want
  refine wpAny_Call_Name_kw (ld_glob I hg hm ?_ hdb)
  refine PySem.W.callWith_K (h₀ := X.base) I.ok.mod.kin kp (thn (ha.run pos pins s σ H _ I want) ?_) he hpl
  rintro us s1 ⟨vs, H1, I1, r, z⟩
  refine ⟨I1.kIn, ?_⟩
  have z : sp p vs H1 Q E0 := by rw [List.append_nil] at z; exact z
  have cnt : us.length = ps.length := by rw [← r.length]; exact F.many _ _ _ _ _ z
  have bound := hb s1 us I1.kIn (by rw [List.append_nil]; exact cnt)
  rw [List.append_nil] at bound
  have at1 := I1.pin p (List.mem_append_left _ hp)
  have pin : PinOk X.stack H1 s1 p := ⟨at1.1, at1.2.1, fun m => (List.mem_cons.mp (I1.stkSub p.1 m)).elim at1.2.2.1 at1.2.2.2.1, at1.2.2.2.2⟩
  refine wpAny_call (codeAny_mono (F.go X.A X.stack s1 H1 ⟨us, []⟩ us vs Q E0 p room hot pin I1.env0 bound r z) ?_)
  intro res s2 out
  cases res with
  | error _ => exact out.elim
  | ok fl =>
    cases fl with
    | ret u => exact I1.after out
    | next => exact out.elim
    | brk => exact out.elim
    | cont => exact out.elim
/-- isinstance of an error that the context holds -/
theorem call_isP {X : Cx} {a D : Addr} {oe : Obj} {d : Option Addr} (C : ExcC X.K D) (hz : Zc (.ref D) d oe) (hf : ∃ vs, oe.data = .fields vs) (hp : (a, oe) ∈ X.pn) : CallR X (.builtin "isinstance") (rIsG X.K D a d) := by
  intro pins s σ H xs us Q I r h
  obtain ⟨c, cv, b, rfl, hcv, hd, e, q⟩ := h
  obtain ⟨u1, u2, rfl, r1, r2⟩ := vals2 r
  obtain rfl : u1 = Value.ref a := r1
  have ec := hcv.eq r2
  subst ec
  obtain ⟨hget, _⟩ := I.pin (a, oe) (List.mem_append_left _ hp)
  obtain ⟨vs, hv⟩ := hf
  obtain ⟨od, J⟩ : ∃ od, PySem.W.InstAt s.heap a oe D od := by
    have no : PySem.W.notCls oe = true := by unfold PySem.W.notCls; rw [hv] <;> rfl
    rcases hd with rfl | ⟨dd, fs, rfl, hdd⟩
    · exact ⟨none, hget, hz.1, no, by rw [hz.2]; trivial⟩
    · have hx : ObjOk X.prog X.w H s.heap dd (.xd fs) := I.hok dd _ hdd
      obtain ⟨mA, hns, _⟩ := hx
      obtain ⟨o, ho, _⟩ := lookIn_ns hns
      exact ⟨some o, hget, hz.1, no, by rw [hz.2]; exact ho⟩
  exact PySem.W.kia_one (kit_exc C) I.kIn J e (fun z => nomatch z) fun tk => ⟨.bl b, H, I.kept (t' := tk) fun _ _ z => z, rfl, q⟩
end Vk

set_option maxHeartbeats 2000000
/-! several clauses «except X as n» behind one try -/
namespace L2N
open PySem PySem.Spec PyProof.Rows L2
inductive AsOk (X : Cx) : List ExceptHandler → List Clause → Prop
  | nil : AsOk X [] []
  | cons {x n : Str} {c : Value} {i : Nat} {ts : Addr → Value → Option Addr → TS} {b0 : Stmt} {bs : List Stmt} {p1 p2 : Pos} {es : List ExceptHandler} {qs : List Clause} (hc : Names X x c) (hi : X.N[i]? = some n) (hk : X.env.kindOf n = some .local)
      (hsu : ∀ (z : Addr) (oz : Obj) (k : Value) (dd : Option Addr) (pn : List (Addr × Obj)), Zn k dd oz → (∃ vs, oz.data = .fields vs) → PSs (X.suite z ((z, oz) :: pn)) (b0 :: bs) (ts z k dd)) (more : AsOk X es qs) :
      AsOk X (.ExceptHandler (some (.Name x p1)) (some n) (b0 :: bs) p2 :: es) ((c, i, ts) :: qs)
section
variable {X : Cx} {body : List Stmt} {e0 : ExceptHandler} {es : List ExceptHandler} {qs : List Clause} {pos : Pos} {tb : WX → TS} {W0 : WX}
theorem ps_try_ases (hst : X.stack = X.env :: X.outer) (hfr : X.env.frame = some X.env.locals) (hnd : X.N.Nodup) (tk : Takes X W0)
    (hb : ∀ (W : WX) (pn : List (Addr × Obj)) (xe : Value → Shared → Prop), Takes (X.tr pn xe) W → PassesOwn (model X.prog X.w) X.A X.env xe → PSs (X.tr pn xe) body (tb W))
    (hh : AsOk X (e0 :: es) qs) : PS X (.Try body (e0 :: es) [] [] pos) (fun D τ G => tb (wAses X.K W0 D qs) D τ G) := by
  refine ⟨fun pins s τ0 G0 D inv0 wish => ?_⟩
  have okk := inv0.ok
  have frm : X.A.frames = some (X.env :: X.outer) := okk.frames.trans (congrArg some hst)
  refine wpAny_Try_except (wpAny_mono ((hb (wAses X.K W0 D qs) (X.pn ++ pins) (fun u t1 => wpAny (model X.prog X.w) X.A (noteFrame u X.env) (fun _ t2 => wpAny (model X.prog X.w) X.A (setFlight u none) (fun _ t3 =>
    wpAny (model X.prog X.w) X.A (handleBy u X.env (e0 :: es)) (SP X pins D) X.xe t3) X.xe t2) X.xe t1) (fun u t raised => ?caught) PassesOwn.looking).run [] s τ0 G0 D (inv0.toTry _) wish) (fun fl t got => ?through) (fun _ _ y => y))
  case through =>
    cases fl with
    | next => obtain ⟨τ, G, J, q⟩ := got; exact wpAny_execs_nil ⟨τ, G, J.ofTry okk, q⟩
    | brk => obtain ⟨τ, G, J, q⟩ := got; exact ⟨τ, G, J.ofTry okk, q⟩
    | cont => obtain ⟨τ, G, J, q⟩ := got; exact ⟨τ, G, J.ofTry okk, q⟩
    | ret u => obtain ⟨v, τ, G, J, r, q⟩ := got; exact ⟨v, τ, G, J.ofTry okk, r, q⟩
  case caught =>
    obtain ⟨z, B, sB, pins1, τ, G, k, dd, rfl, jT, bare, upB, inSky, zfree, os1, same1, wants⟩ := raised
    have j0 : Inv X pins τ G sB := jT.ofTry okk
    have inSky1 : Sky B (X.env :: X.outer) z (Zn k dd) X.env.locals t.heap := hst ▸ inSky
    show wpAny (model X.prog X.w) X.A (noteFrame (.ref z) X.env) _ _ _
    refine Sky.land Zn.steady frm hfr inSky1 fun hA flA upA => ?_
    have jA : Inv X pins τ G { t with heap := hA } := j0.landed bare flA.1 (upB.trans upA) os1 same1
    obtain ⟨oA, vA, getA, zcA, datA⟩ := flA.there
    have notF : z ∉ frs (X.env :: X.outer) := by
      intro hm
      obtain ⟨_, o', e', hnf⟩ := flA.2.2.1.mem hm
      rw [getA] at e'
      cases e'
      exact hnf _ datA
    have zL : z ≠ X.env.locals := fun y => notF (List.mem_filterMap.mpr ⟨X.env, List.mem_cons_self, hfr.trans (congrArg some y.symm)⟩)
    have zF : z ∉ X.fs := fun hm => by
      obtain ⟨en, hen, y⟩ := List.mem_filterMap.mp hm
      exact notF (List.mem_filterMap.mpr ⟨en, List.mem_cons_of_mem _ hen, y⟩)
    have jS := jA.suite getA datA zfree zL zF
    have turn : ∀ {es1 : List ExceptHandler} {qs1 : List Clause}, AsOk X es1 qs1 → wAses X.K W0 D qs1 k dd τ G → wpAny (model X.prog X.w) X.A (handleBy (.ref z) X.env es1) (SP X pins D) X.xe { t with heap := hA } := by
      intro es1 qs1 kk
      induction kk with
      | nil =>
        intro out
        refine wpAny_handleBy_nil ?_
        obtain ⟨_, _, _, oz, vs, Tr, oTr, tsr, geto, zco, dato, one, _⟩ := id flA
        unfold PySem.passOn
        refine wpAny_bind (wpAny_field geto dato one ?_)
        rw [if_neg (by simp : ¬ ((Value.ref Tr == Value.none) = true))]
        have away : wpAny (model X.prog X.w) X.A (setFlight (.ref z) X.env.frame) (fun _ t4 => wpAny (model X.prog X.w) X.A (throw (.ref z) : Sem Flow) (SP X pins D) X.xe t4) X.xe { t with heap := hA } := by
          rw [hfr]
          exact HandSPX.setFlight_upZ flA fun h4 sk4 up4 => wpAny_throw (tk _ _ ⟨z, B, sB, pins, τ, G, k, dd, rfl, j0, bare, (upB.trans upA).trans up4, .inr (.inr (hst.symm ▸ sk4)), zfree, os1, same1, out⟩)
        first | exact wpAny_bind (wpAny_pure (wpAny_bind away)) | exact wpAny_bind away
      | @cons x n c i ts b0 bs p1 p2 es2 qs2 hc hi hk hsu more ih =>
        rintro ⟨hit, isHit, onHit, offHit⟩
        refine wpAny_handleBy_cons (codeAny_handlers_test ?_) (by intro y; cases y)
        have looksT : PySem.W.Looks (model X.prog X.w) hA (typeOf (.ref z)) k := fun A Q E s kp y => wpAny_typeOf_ref (kp _ _ getA) (by rw [zcA.1]; exact y)
        have looksM := PySem.W.exm_one (M := model X.prog X.w) jA.kIn looksT isHit
        have named : ∀ {Q : Value → Shared → Prop} {E : Value → Shared → Prop}, Q c { t with heap := hA } → wpAny (model X.prog X.w) (X.A.mark (some (.ref z))) (eval (.Name x p1) X.env) Q E { t with heap := hA } := fun {Q E} y =>
          match hc with
          | ⟨hg, hdb, .inl hm⟩ => ld_glob (X := X.suite z ((z, oA) :: (X.pn ++ pins))) jS hg hm y hdb
          | ⟨hg, hdb, .inr ⟨hm, hv, hnn⟩⟩ => ld_blt (X := X.suite z ((z, oA) :: (X.pn ++ pins))) jS hg hm hv y hnn hdb
        refine named (looksM.here ?_)
        cases hit with
        | false => exact ih (offHit rfl)
        | true =>
          refine codeAny_handlers_suite_as (HandSPX.lands_againZ flA fun hB flB upB2 => ?_)
          have jB : Inv X pins τ G { t with heap := hB } := j0.landed bare flB.1 ((upB.trans upA).trans upB2) os1 same1
          obtain ⟨oB, vB, getB, zcB, datB⟩ := flB.there
          have jSB := jB.suite getB datB zfree zL zF
          refine store_ok (X := X.suite z ((z, oB) :: (X.pn ++ pins))) (v := .ref z) jSB hnd hi (.inl hk) rfl (fun t5 S5 => ?_) (.inr hk)
          refine wpAny_mono ((hsu z oB k dd (X.pn ++ pins) zcB ⟨_, datB⟩).run [] t5 _ G _ S5 (onHit rfl z zfree)) (fun fl t6 got => ?_) (fun _ _ y => y.elim)
          have fin : ∀ {τ6 : St} {G6 : Hp} {Q : Shared → Prop}, Inv (X.suite z ((z, oB) :: (X.pn ++ pins))) [] τ6 G6 t6 → (∀ t7, Inv X pins (τ6.set i none) G6 t7 → Q t7) →
              wpAny (model X.prog X.w) X.A (do bindName X.env n .none; unbindBehindTheSuite X.env n p2) (fun _ t7 => Q t7) X.xe t6 := fun S6 hq => gone_ok (S6.unsuite okk) hnd hi hk hq
          cases fl with
          | next => obtain ⟨_, _, S6, q6⟩ := got; exact fin S6 fun _ J7 => ⟨_, _, J7, q6⟩
          | brk => obtain ⟨_, _, S6, q6⟩ := got; exact fin S6 fun _ J7 => ⟨_, _, J7, q6⟩
          | cont => obtain ⟨_, _, S6, q6⟩ := got; exact fin S6 fun _ J7 => ⟨_, _, J7, q6⟩
          | ret u => obtain ⟨_, _, _, S6, r6, q6⟩ := got; exact fin S6 fun _ J7 => ⟨_, _, _, J7, r6, q6⟩
    exact turn hh wants
end
end L2N

/-! defs that may raise, where the context of exceptions is told, too -/
namespace Vk
open PySem L2 PyProof.Rows
theorem passLY {X : Cx} : Passes (L2N.CX X.prog X.w) X E0 := fun _ _ _ _ _ _ _ h => by
  obtain ⟨_, _, _, _, _, _, _, _, _, _, _, _, z⟩ := h
  exact z.elim
theorem takes0Y {X : Cx} : L2N.Takes X (fun _ _ _ _ => False) := fun _ _ x => by
  obtain ⟨_, _, _, _, _, _, _, _, _, _, _, _, _, _, _, _, z⟩ := x
  exact z.elim
structure DefY (P : Program) (w : World) (K : PySem.W.Frag) (mg : Str → Option Value) (base : Heap) (k : Nat) (x : Str) (ps : List Str) (sp : Sp) (f : Addr) (fd : FuncData) : Prop where
  ok : FnOk P w K mg base (L2N.CX P w) k f fd ps sp
  m : mg x = some (.ref f)
  kp : PySem.W.keepIn K (.ref f) = true
  b : Binds K fd ps []
theorem DefY.up {P : Program} {w : World} {K : PySem.W.Frag} {mg : Str → Option Value} {base : Heap} {j k : Nat} {x : Str} {ps : List Str} {sp : Sp} {f : Addr} {fd : FuncData} (d : DefY P w K mg base j x ps sp f fd) (h : j ≤ k) : DefY P w K mg base k x ps sp f fd := ⟨d.ok.mono h, d.m, d.kp, d.b⟩
structure DefYN (P : Program) (w : World) (K : PySem.W.Frag) (mg : Str → Option Value) (base : Heap) (k : Nat) (x : Str) (ps : List Str) (n : Nat) (ks : List Str) (sp : Sp) (f : Addr) (fd : FuncData) : Prop where
  ok : FnOk P w K mg base (L2N.CX P w) k f fd ps sp
  m : mg x = some (.ref f)
  kp : PySem.W.keepIn K (.ref f) = true
  b : KBn K fd ps n ks (fun us ws => us ++ ws) (fun vs zs => vs ++ zs)
theorem DefYN.up {P : Program} {w : World} {K : PySem.W.Frag} {mg : Str → Option Value} {base : Heap} {j k n : Nat} {x : Str} {ps ks : List Str} {sp : Sp} {f : Addr} {fd : FuncData} (d : DefYN P w K mg base j x ps n ks sp f fd) (h : j ≤ k) : DefYN P w K mg base k x ps n ks sp f fd := ⟨d.ok.mono h, d.m, d.kp, d.b⟩
/-- a def that an error at hand is passed to -/
structure DefP (P : Program) (w : World) (K : PySem.W.Frag) (mg : Str → Option Value) (base : Heap) (k : Nat) (x : Str) (ps : List Str) (sp : Addr × Obj → Sp) (f : Addr) (fd : FuncData) : Prop where
  ok : FnP P w K mg base k f fd ps sp
  m : mg x = some (.ref f)
  kp : PySem.W.keepIn K (.ref f) = true
  b : Binds K fd ps []
section
variable {X : Cx} {k n : Nat} {f : Addr} {fd : FuncData} {ps ks : List Str} {sp : Sp} {x : Str} {p pos : Pos} {e : Expr} {es : List Expr} {kws : List Keyword} {t tkw : TA} {W : WX}
theorem pcallYL (D : DefY X.prog X.w X.K X.mg X.base k x ps sp f fd) (hr : Room k X.A) (ha : PA X (e :: es) t)
    (hg : Gl X x := by rfl) (hdb : (x == ("__debug__" : Str)) = false := by decide) (he : starEach (e :: es) X.env = (false, eval e X.env) :: starEach es X.env := by rfl) (hpl : (backTo pos (starEach es X.env)).any (·.1) = false := by rfl) :
    PE X (.Call (.Name x p) (e :: es) [] pos) (tCall sp [] E0 t) := pe_call D.ok hr hg D.m D.kp D.b .nil passLY ha hdb he hpl
theorem pcallY (D : DefY X.prog X.w X.K X.mg X.base k x ps sp f fd) (hr : Room k X.A) (tk : L2N.Takes X W) (ha : PA X (e :: es) t)
    (hg : Gl X x := by rfl) (hdb : (x == ("__debug__" : Str)) = false := by decide) (he : starEach (e :: es) X.env = (false, eval e X.env) :: starEach es X.env := by rfl) (hpl : (backTo pos (starEach es X.env)).any (·.1) = false := by rfl) :
    PE X (.Call (.Name x p) (e :: es) [] pos) (tCallS sp (WE W) t) := pe_callS D.ok hr hg D.m D.kp D.b (fun σ => L2N.passAt tk σ) ha hdb he hpl
theorem pcallYLN (D : DefYN X.prog X.w X.K X.mg X.base k x ps n ks sp f fd) (hr : Room k X.A) (ha : PA X (e :: es) t) (hkw : PK X kws tkw)
    (hg : Gl X x := by rfl) (hall : (backToKw pos (keywordEach kws X.env)).all (·.1.isSome) = true := by rfl) (hks : (backToKw pos (keywordEach kws X.env)).filterMap (·.1) = ks := by rfl)
    (hdb : (x == ("__debug__" : Str)) = false := by decide) (he : starEach (e :: es) X.env = (false, eval e X.env) :: starEach es X.env := by rfl)
    (hpl : ((backTo pos (starEach (e :: es) X.env)).any (·.1) || (backToKw pos (keywordEach kws X.env)).any (·.1.isNone)) = false := by rfl) :
    PE X (.Call (.Name x p) (e :: es) kws pos) (tCallN n ks.length sp (fun vs zs => vs ++ zs) E0 t tkw) := pe_callN D.ok hr hg D.m D.kp D.b passLY ha hkw hall hks hdb he hpl
theorem pcallYN (D : DefYN X.prog X.w X.K X.mg X.base k x ps n ks sp f fd) (hr : Room k X.A) (tk : L2N.Takes X W) (ha : PA X (e :: es) t) (hkw : PK X kws tkw)
    (hg : Gl X x := by rfl) (hall : (backToKw pos (keywordEach kws X.env)).all (·.1.isSome) = true := by rfl) (hks : (backToKw pos (keywordEach kws X.env)).filterMap (·.1) = ks := by rfl)
    (hdb : (x == ("__debug__" : Str)) = false := by decide) (he : starEach (e :: es) X.env = (false, eval e X.env) :: starEach es X.env := by rfl)
    (hpl : ((backTo pos (starEach (e :: es) X.env)).any (·.1) || (backToKw pos (keywordEach kws X.env)).any (·.1.isNone)) = false := by rfl) :
    PE X (.Call (.Name x p) (e :: es) kws pos) (tCallNS n ks.length sp (WE W) t tkw) := by
  refine ⟨fun pins s σ H Q I wish => wpAny_Call_Name_kw (ld_glob I hg D.m ?_ hdb)⟩
  refine PySem.W.callWith_KW (h₀ := X.base) I.ok.mod.kin D.kp hall (thn (ha.run pos pins s σ H _ I wish) fun us s1 ⟨vs, H1, I1, r1, q1⟩ => ?_) hpl he
  refine thn (hkw.run pos pins s1 σ H1 _ I1 q1) fun ws s2 ⟨zs, H2, I2, r2, l1, l2, q2⟩ => ⟨I2.kIn, ?_⟩
  rw [hks]
  refine wpAny_call (codeAny_mono (D.ok.run X.A X.stack s2 H2 ⟨us, ks.zip ws⟩ (us ++ ws) (vs ++ zs) Q _ hr I2.env0 (D.b.to s2 us ws I2.kIn (r1.length.symm.trans l1) (r2.length.symm.trans l2)) (D.b.rel r1 r2) q2) fun r s' hq => ?_)
  match r with
  | .error u => exact L2N.passAt tk σ pins H2 s2 u s' I2 hq
  | .ok (.ret u) => exact I2.after hq
  | .ok .next => exact hq.elim
  | .ok .brk => exact hq.elim
  | .ok .cont => exact hq.elim
end
section
variable {P : Program} {w : World} {K : PySem.W.Frag} {mg : Str → Option Value} {base : Heap}
theorem okY {x qual : Str} {st : Stmt} {f : Addr} {fd : FuncData} {N ps : List Str} {k : Nat} {sp : Sp} (F : Fun K x qual st f fd) (S : FnScope N ps (defScope st)) (len : ∀ vs H Q E, sp vs H Q E → vs.length = ps.length)
    (hbody : ∀ (cdv : Value) (A : Around) (outer : List Env) (s : Shared) (H : Hp) (vs : List V) (Q : VK) (E : XK), Room k (A.deeper (envOfC qual (defScope st) s.heap.objs.size f cdv)) → sp vs H Q E →
      ∃ t, PSs (cxOf (L2N.CX P w) P w K mg base N qual (defScope st) f cdv A outer s H E) (defBody st) t ∧ t { nx := fun _ H' => Q .non H', rt := Q } (start N vs) H) : FnOk P w K mg base (L2N.CX P w) (k + 1) f fd ps sp := by
  obtain ⟨oc, od, kV, doc, pm, an, cdv, ct, osl, rfl, lk, hcd⟩ := F.ex
  exact fn_of lk hcd S len fun A outer s H vs Q E hr hsp => hbody cdv A outer s H vs Q E hr hsp
theorem okP {x qual : Str} {st : Stmt} {f : Addr} {fd : FuncData} {N ps : List Str} {k : Nat} {sp : Addr × Obj → Sp} (F : Fun K x qual st f fd) (S : FnScope N ps (defScope st)) (len : ∀ p vs H Q E, sp p vs H Q E → vs.length = ps.length)
    (hbody : ∀ (cdv : Value) (A : Around) (outer : List Env) (s : Shared) (H : Hp) (vs : List V) (Q : VK) (E : XK) (p : Addr × Obj), L2H.Hot1 A p → L2H.RoomH k (A.deeper (envOfC qual (defScope st) s.heap.objs.size f cdv)) → sp p vs H Q E →
      ∃ t, PSs (L2H.cxH CX0 P w K mg base N qual (defScope st) f cdv A outer s H E p) (defBody st) t ∧ t { nx := fun _ H' => Q .non H', rt := Q } (start N vs) H) : FnP P w K mg base (k + 1) f fd ps sp := by
  obtain ⟨oc, od, kV, doc, pm, an, cdv, ct, osl, rfl, lk, hcd⟩ := F.ex
  exact fnp_mk lk hcd S len fun A outer s H vs Q E p hot hr hsp => hbody cdv A outer s H vs Q E p hot hr hsp
end
end Vk

/-! what the written part says of classes of errors -/
namespace Vk
open PySem PySem.W PySem.Calls PySem.HandSPX L2
theorem cls_both {K : Frag} {C : Addr} (h2 : isClsIn K C = true) (h3 : typeIn K (.ref C) = some (.type "type")) : ((clsIn K C).isSome && typeIn K (.ref C) == some (.type "type")) = true := by
  have h2' : (clsIn K C).isSome = true := h2
  rw [h2', h3]
  rfl
theorem exm_of {K : Frag} {S C : Addr} {b : Bool} (h1 : subIn K (.ref C) (.type "BaseException") = some true) (h2 : isClsIn K C = true) (h3 : typeIn K (.ref C) = some (.type "type")) (h4 : subIn K (.ref S) (.ref C) = some b) : exmOne K (.ref S) (.ref C) = some b := by
  have e1 : (subIn K (.ref C) (.type "BaseException") == some true) = true := by rw [h1]; rfl
  unfold exmOne kitCls
  rw [if_pos e1]
  dsimp only
  rw [if_pos (cls_both h2 h3)]
  exact h4
theorem kit_of1 {K : Frag} {S C : Addr} {b : Bool} (n : (S == C) = false) (h2 : isClsIn K C = true) (h3 : typeIn K (.ref C) = some (.type "type")) (h4 : subIn K (.ref S) (.ref C) = some b) : kitOne K (.ref S) (.ref C) = some b := by
  have e1 : (Value.ref S == Value.ref C) = false := beq_false_of_ne fun e => by
    have := Value.ref.inj e
    rw [this, beq_self_eq_true] at n
    cases n
  unfold kitOne kitCls
  rw [e1, if_neg Bool.false_ne_true]
  dsimp only
  rw [if_pos (cls_both h2 h3)]
  exact h4
theorem errTxt {K : Frag} {mg : Str → Option Value} {x nm q iq : Str} {C fi N : Addr} {bs bm sub : List Value} {sn : List Str} {ab : Bool} {col : Option Bool} {dd : Option Addr} {m0 m1 m2 m3 m5 : Option Value} {iod ian : Option Addr} {isl : Array (Option Value)} {ioc idc ipm icd ict : Value} {p1 p2 q1 q2 q3 q4 : Pos}
    (aC : mg x = some (.ref C)) (xL : K.lookup C = some (excClassObj nm q C N bs bm true sn sub ab col dd m0 m1 m2 m3 m5 "ValueError.__new__")) (rv : refsVE bm = true)
    (sa : findIn K (.ref C) "__setattr__" = some (some (.builtin "object.__setattr__"))) (ga : findIn K (.ref C) "__getattribute__" = some (some (.builtin "BaseException.__getattribute__"))) (gg : findIn K (.ref C) "__getattr__" = some none) (nb : findIn K (.ref C) "value" = some none)
    (a1 : findIn K (.ref C) "__init__" = some (some (.ref fi))) (t1 : typeIn K (.ref fi) = some (.type "function"))
    (l1 : K.lookup fi = some ⟨ioc, iod, .func (fnOf "__init__" iq (PySem.ValX.iA p1 p2) (PySem.ValX.iB q1 q2 q3 q4) PySem.ValX.iS .none .none idc ipm ian icd ict), isl⟩) (c1 : codeIn K icd iq = true)
    (kC : keepIn K (.ref C) = true) (eC : subIn K (.ref C) (.type "BaseException") = some true) (tC : typeIn K (.ref C) = some (.type "type")) (hC : hasDictIn K C = true) (te : exmOne K (.ref C) (.ref C) = some true) : PySem.ValX.ValTxt K mg x C fi :=
  { gC := aC, cls := ⟨nm, q, N, bs, bm, sn, sub, ab, col, dd, m0, m1, m2, m3, m5, xL, rv⟩, sa := sa, ga := ga, gg := gg, noN := nb, iC := a1, tC := t1, kC := kC, exC := eC, tyC := tC, hdC := hC, te := te, fn := ⟨iq, ioc, iod, idc, ipm, ian, icd, ict, isl, p1, p2, q1, q2, q3, q4, l1, c1⟩ }
end Vk

namespace Vs
/-! ### spans of offsets -/
abbrev Spn := Option Rat × Option Rat
def maxO : Option Rat → Option Rat → Option Rat
  | none, b => b
  | some p, none => some p
  | some p, some q => some (if q ≤ p then p else q)
def minO : Option Rat → Option Rat → Option Rat
  | none, b => b
  | some p, none => some p
  | some p, some q => some (if p ≤ q then p else q)
def crossed : Option Rat → Option Rat → Bool
  | some l, some h => decide (h < l)
  | _, _ => false
def meetO (a b : Spn) : Option Spn := if crossed (maxO a.1 b.1) (minO a.2 b.2) = true then none else some (maxO a.1 b.1, minO a.2 b.2)
def aboveO (o : Option Rat) (t : Rat) : Bool := match o with | none => true | some l => !decide (t < l)
def belowO (o : Option Rat) (t : Rat) : Bool := match o with | none => true | some h => !decide (h < t)
def inS (s : Spn) (t : Rat) : Bool := aboveO s.1 t && belowO s.2 t
def movO (o : Option Rat) (d : Rat) : Option Rat := match o with | none => none | some q => some (q + d)
def negO (o : Option Rat) : Option Rat := match o with | none => none | some q => some (-q)
def shO (s : Spn) (d : Rat) : Spn := (movO s.1 d, movO s.2 d)
def offO (x y : Rat) (fo ba : Spn) : Option Spn := meetO (shO (negO fo.2, negO fo.1) x) (shO ba y)
theorem above_max (a b : Option Rat) (t : Rat) : aboveO (maxO a b) t = (aboveO a t && aboveO b t) := by
  cases a with
  | none => simp [maxO, aboveO]
  | some p => cases b with
    | none => simp [maxO, aboveO]
    | some q =>
      simp only [maxO, aboveO]
      split <;> by_cases h1 : t < p <;> by_cases h2 : t < q <;> simp [h1, h2] <;> grind
theorem below_min (a b : Option Rat) (t : Rat) : belowO (minO a b) t = (belowO a t && belowO b t) := by
  cases a with
  | none => simp [minO, belowO]
  | some p => cases b with
    | none => simp [minO, belowO]
    | some q =>
      simp only [minO, belowO]
      split <;> by_cases h1 : p < t <;> by_cases h2 : q < t <;> simp [h1, h2] <;> grind
theorem crossed_in {l h : Option Rat} (c : crossed l h = true) (t : Rat) : (aboveO l t && belowO h t) = false := by
  cases l with
  | none => simp [crossed] at c
  | some p => cases h with
    | none => simp [crossed] at c
    | some q =>
      simp only [crossed, decide_eq_true_eq] at c
      simp only [aboveO, belowO]
      by_cases h1 : t < p <;> by_cases h2 : q < t <;> simp [h1, h2] <;> grind
theorem meet_in (a b : Spn) (t : Rat) : (inS a t && inS b t) = (match meetO a b with | none => false | some s => inS s t) := by
  have e : (inS a t && inS b t) = (aboveO (maxO a.1 b.1) t && belowO (minO a.2 b.2) t) := by
    rw [above_max, below_min]
    unfold inS
    cases aboveO a.1 t <;> cases aboveO b.1 t <;> cases belowO a.2 t <;> cases belowO b.2 t <;> rfl
  rw [e]
  unfold meetO
  by_cases c : crossed (maxO a.1 b.1) (minO a.2 b.2) = true
  · rw [if_pos c]
    exact crossed_in c t
  · rw [if_neg c]
    rfl
theorem above_mov (o : Option Rat) (x f : Rat) : aboveO (movO (negO o) x) f = belowO o (x - f) := by
  cases o with
  | none => rfl
  | some q =>
    simp only [negO, movO, aboveO, belowO]
    congr 1
    exact decide_eq_decide.mpr (by grind)
theorem below_mov (o : Option Rat) (x f : Rat) : belowO (movO (negO o) x) f = aboveO o (x - f) := by
  cases o with
  | none => rfl
  | some q =>
    simp only [negO, movO, aboveO, belowO]
    congr 1
    exact decide_eq_decide.mpr (by grind)
theorem above_mov2 (o : Option Rat) {y z : Rat} (f : Rat) (h : y = -z) : aboveO (movO o y) f = aboveO o (z + f) := by
  cases o with
  | none => rfl
  | some q =>
    simp only [movO, aboveO]
    congr 1
    exact decide_eq_decide.mpr (by grind)
theorem below_mov2 (o : Option Rat) {y z : Rat} (f : Rat) (h : y = -z) : belowO (movO o y) f = belowO o (z + f) := by
  cases o with
  | none => rfl
  | some q =>
    simp only [movO, belowO]
    congr 1
    exact decide_eq_decide.mpr (by grind)
theorem off_in (x y z : Rat) (fo ba : Spn) (f : Rat) (h : y = -z) : (inS fo (x - f) && inS ba (z + f)) = (match offO x y fo ba with | none => false | some s => inS s f) := by
  unfold offO
  rw [← meet_in]
  unfold inS shO
  simp only [above_mov, below_mov, above_mov2 _ f h, below_mov2 _ f h]
  cases aboveO fo.1 (x - f) <;> cases belowO fo.2 (x - f) <;> cases aboveO ba.1 (z + f) <;> cases belowO ba.2 (z + f) <;> rfl
theorem off_ok {x y : Rat} {fo ba s : Spn} (h : offO x y fo ba = some s) : crossed s.1 s.2 = false := by
  unfold offO meetO at h
  split at h
  · cases h
  · rename_i c
    cases h
    simpa using c
/-- both ends known: no end is farther from the plain offset than half the width -/
theorem off_half {x y lo hi : Rat} {s : Spn} (h : offO x y (some lo, some hi) (some lo, some hi) = some s) :
    ∃ l u, s = (some l, some u) ∧ ∀ f, f = l ∨ f = u → ¬ (hi - lo < 2 * ((x + y) / 2 - f)) ∧ ¬ (hi - lo < 2 * (f - (x + y) / 2)) := by
  have c := off_ok h
  unfold offO meetO at h
  split at h
  · cases h
  · simp only [shO, negO, movO, maxO, minO] at h
    obtain rfl := (Option.some.inj h).symm
    refine ⟨_, _, rfl, fun f hf => ?_⟩
    simp only [crossed, decide_eq_false_iff_not] at c
    have e2 : (x + y) / 2 + (x + y) / 2 = x + y := by grind
    generalize (x + y) / 2 = p at e2
    have e3 : ∀ q : Rat, 2 * q = q + q := fun q => by grind
    rw [e3, e3]
    split at hf <;> split at hf <;> rename_i h1 h2 <;> simp only [h1, h2, if_true, if_false] at c <;> rcases hf with rfl | rfl <;> constructor <;> grind
/-! ### sizes and items -/
def itemsO : Spn → List Rat := fun s => s.1.toList ++ s.2.toList
end Vs

namespace Vl
/-! ### laps -/
/-- the six numbers: bound, half, lap, slew, drift, goal -/
structure A6 where
  b : Rat
  h : Rat
  l : Rat
  s : Rat
  d : Rat
def ahead (x : A6) : Rat := x.h + x.d * x.l
def gain (x : A6) : Rat := (x.s - x.d) * x.l
structure Good (x : A6) : Prop where
  b0 : 0 ≤ x.b
  h0 : 0 ≤ x.h
  l0 : 0 < x.l
  s0 : 0 < x.s
  s1 : x.s < 1
  d0 : 0 ≤ x.d
  ds : x.d < x.s
theorem mul_pos' {a b : Rat} (ha : 0 < a) (hb : 0 < b) : 0 < a * b := Rat.mul_pos ha hb
theorem mul_nn {a b : Rat} (ha : 0 ≤ a) (hb : 0 ≤ b) : 0 ≤ a * b := Rat.mul_nonneg ha hb
theorem Good.gp {x : A6} (g : Good x) : 0 < gain x := mul_pos' (by have := g.ds; grind) g.l0
theorem Good.an {x : A6} (g : Good x) : 0 ≤ ahead x := by
  have h1 := g.h0
  have h2 : 0 ≤ x.d * x.l := mul_nn g.d0 (by have := g.l0; grind)
  unfold ahead
  grind
def lapsP (x : A6) (g : Rat) : Option Int := if x.b ≤ g then some 0 else if g < ahead x then none else some (-((g - x.b) / gain x).floor)
def mx (a b : Rat) : Rat := if a < b then b else a
def after (x : A6) (k : Int) : Rat := if k = 0 then x.b else mx (x.b + (k : Rat) * ((x.d - x.s) * x.l)) (ahead x)
def LapsOk (x : A6) (g : Rat) : Option Int → Prop
  | none => g < x.b ∧ g < ahead x
  | some k => 0 ≤ k ∧ k ≤ 1000 ∧ ¬ g < after x k ∧ (0 < k → g < x.b) ∧ (2 ≤ k → g < after x (k - 1))
theorem neg_gain (x : A6) (k : Rat) : k * ((x.d - x.s) * x.l) = - (k * gain x) := by unfold gain; grind
theorem laps_ok {x : A6} {g : Rat} (G : Good x) (top : x.b - g ≤ 1000 * gain x ∨ x.b = 0) : LapsOk x g (lapsP x g) := by
  have gp := G.gp
  have an := G.an
  unfold lapsP
  split
  · rename_i h
    refine ⟨by decide, by decide, ?_, fun z => absurd z (by decide), fun z => absurd z (by decide)⟩
    unfold after
    rw [if_pos rfl]
    exact Rat.not_lt.mpr h
  · rename_i h1
    split
    · rename_i h2
      exact ⟨Rat.not_le.mp h1, h2⟩
    · rename_i h2
      have h1 : g < x.b := Rat.not_le.mp h1
      have h2 : ahead x ≤ g := Rat.not_lt.mp h2
      have top : x.b - g ≤ 1000 * gain x := by
        rcases top with h | h
        · exact h
        · exfalso; grind
      obtain ⟨t, ht⟩ : ∃ t, t = (g - x.b) / gain x := ⟨_, rfl⟩
      have te : t * gain x = g - x.b := by
        rw [ht]
        exact Rat.div_mul_cancel (by grind)
      rw [← ht]
      have f1 := Rat.floor_le t
      have f2 := Rat.lt_floor_add_one t
      obtain ⟨k, hk⟩ : ∃ k : Int, k = -t.floor := ⟨_, rfl⟩
      have ek : ((t.floor : Int) : Rat) = -(k : Rat) := by rw [hk]; push_cast; grind
      have ek1 : ((t.floor + 1 : Int) : Rat) = -(k : Rat) + 1 := by rw [hk]; push_cast; grind
      rw [ek] at f1
      rw [ek1] at f2
      rw [← hk]
      -- k gain between
      have m1 : -(k : Rat) * gain x ≤ t * gain x := Rat.mul_le_mul_of_nonneg_right f1 (by grind)
      have m2 : t * gain x < (-(k : Rat) + 1) * gain x := Rat.mul_lt_mul_of_pos_right f2 gp
      have tneg : t < 0 := by
        by_cases z : t < 0
        · exact z
        · exfalso
          have := mul_nn (Rat.not_lt.mp z) (show (0 : Rat) ≤ gain x by grind)
          grind
      have t1000 : -1000 ≤ t := by
        by_cases z : -1000 ≤ t
        · exact z
        · exfalso
          have := Rat.mul_lt_mul_of_pos_right (Rat.not_le.mp z) gp
          grind
      have k1 : 0 < k := by
        have : (0 : Rat) < (k : Rat) := by grind
        exact_mod_cast this
      have k2 : k ≤ 1000 := by
        have : (k : Rat) < ((1001 : Int) : Rat) := by
          have e : ((1001 : Int) : Rat) = 1001 := rfl
          rw [e]
          grind
        have := Rat.intCast_lt_intCast.mp this
        omega
      have key : x.b - (k : Rat) * gain x ≤ g := by grind
      refine ⟨by omega, k2, ?_, fun _ => h1, fun k3 => ?_⟩
      · unfold after mx
        rw [if_neg (by omega), neg_gain]
        split <;> grind
      · unfold after mx
        rw [if_neg (by omega), neg_gain]
        have e : ((k - 1 : Int) : Rat) = (k : Rat) - 1 := by push_cast; rfl
        rw [e]
        split <;> grind
/-- one lap -/
def nextB (x : A6) (b : Rat) : Rat := x.d * x.l + (if x.h ≤ b - x.s * x.l then b - x.s * x.l else x.h)
theorem next_eq (x : A6) (b : Rat) : nextB x b = mx (b + (1 : Rat) * ((x.d - x.s) * x.l)) (ahead x) := by
  rw [neg_gain]
  unfold nextB mx ahead gain
  split <;> split <;> grind
theorem after_next {x : A6} (G : Good x) (b : Rat) (i : Int) (hi : 0 ≤ i) : nextB x (after { x with b := b } i) = after { x with b := b } (i + 1) := by
  rw [next_eq, neg_gain]
  have gp := G.gp
  have e1 : ahead { x with b := b } = ahead x := rfl
  have e2 : gain { x with b := b } = gain x := rfl
  unfold after
  rw [if_neg (show ¬ i + 1 = 0 by omega)]
  rw [neg_gain, e2, e1]
  have e3 : ((i + 1 : Int) : Rat) = (i : Rat) + 1 := by push_cast; rfl
  rw [e3]
  split
  · rename_i h
    subst h
    simp only [Rat.intCast_zero]
    congr 1
    have := neg_gain x 1
    grind
  · rw [neg_gain, e2]
    unfold mx
    split <;> split <;> split <;> grind
theorem after_le {x : A6} {g : Rat} (G : Good x) (b : Rat) (hb : b ≤ g) (ha : ahead x ≤ g) (i : Int) (hi : 0 ≤ i) : ¬ g < after { x with b := b } i := by
  have gp := G.gp
  have e1 : ahead { x with b := b } = ahead x := rfl
  have e2 : gain { x with b := b } = gain x := rfl
  unfold after mx
  split
  · exact Rat.not_lt.mpr hb
  · rw [neg_gain, e2, e1]
    have : (0 : Rat) ≤ (i : Rat) * gain x := mul_nn (by exact_mod_cast hi) (by grind)
    split <;> grind
theorem after_nn {x : A6} (G : Good x) (k : Int) : 0 ≤ after x k := by
  have := G.an
  have := G.b0
  unfold after mx
  split
  · exact G.b0
  · split <;> grind
end Vl

namespace Vk
open PySem L2 Vm
def top (i : Nat) : Stmt := PySem.Challenge.pw_clockverdict_k62_chained_courses.main.body.getD i (.Pass ⟨0, 0, 0, 0⟩)
variable {P : Program} {w : World} {K : PySem.W.Frag} {mg : Str → Option Value} {base : Heap} {k : Nat} {f f1 f2 f3 f4 f5 f6 f7 f8 f9 : Addr} {fd fd1 fd2 fd3 fd4 fd5 fd6 fd7 fd8 fd9 : FuncData}
/-! ### the law's own rationals -/
def spFrac (K : PySem.W.Frag) : Sp := fun vs H Q _ => ∃ (n d : Int) (b : Nat), vs = [.int n, .int d] ∧ 0 < d ∧ n.natAbs < 2 ^ b ∧ d.natAbs < 2 ^ b ∧ b ≤ 9000 ∧
  ∀ r H', Same H H' → Rq K H' r (mkRat n d.toNat) → Q r H'
abbrev s__law_frac : Stmt := top 36
abbrev N__law_frac : List Str := ["_law_n", "_law_d", "_law_a", "_law_b"]
theorem sc__law_frac : FnScope N__law_frac ["_law_n", "_law_d"] (defScope s__law_frac) := ⟨rfl, rfl, rfl, by decide +kernel, rfl, by decide +kernel, by decide +kernel⟩
abbrev ps__law_frac : List Str := ["_law_n", "_law_d"]
theorem ok_frac (T : Bn mg) (F : Fn K mg "_law_frac" s__law_frac ps__law_frac f fd) : Def P w K mg base (k + 1) "_law_frac" ps__law_frac (spFrac K) f fd := by
  refine ⟨F.F.ok sc__law_frac (fun vs H Q E h => ?_) (fun cdv A outer s H vs Q E hr h => ?_), F.m, F.F.kp, F.b⟩
  · obtain ⟨n, d, b, rfl, _⟩ := h
    rfl
  obtain ⟨n, d, b, rfl, hd, hn, hdb, hb, q⟩ := h
  refine ⟨_, (pss_cons (ps_if (pt_cmpR op_eq (pv 1) pe_int (nomark _))
        (pss_one (ps_ret (pe_tup (pa_cons pe_int (pa_cons pe_int pa_nil)))))
        pss_nil)
      (pss_cons (ps_set (i := 2) sc__law_frac.nd rfl (Or.inl rfl) (pe_callB call_abs (by rfl) T.abs_ (by decide +kernel) (pa_cons (pv 0) pa_nil)))
      (pss_cons (ps_set (i := 3) sc__law_frac.nd rfl (Or.inl rfl) (pe_callB call_abs (by rfl) T.abs_ (by decide +kernel) (pa_cons (pv 1) pa_nil)))
      (pss_cons (ps_while PassesOwn.never (pt_cmpR op_gt (pv 3) pe_int (nomark _))
        (pss_one (ps_par (i := 2) (j := 3) (by rfl) sc__law_frac.nd rfl rfl (by decide) rfl rfl (pa_cons (pv 3) (pa_cons (pe_op op_modN (pe_callTy call_int1 (by rfl) T.int_ (by decide +kernel) (pa_cons (pv 2) pa_nil)) (pv 3)) pa_nil)) (by rfl))))
      (pss_cons (ps_if (pt_cmpR op_lt (pv 1) pe_int (nomark _))
        (pss_one (ps_set (i := 2) sc__law_frac.nd rfl (Or.inl rfl) (pe_op op_sub pe_int (pv 2))))
        pss_nil)
      (pss_one (ps_ret (pe_tup (pa_cons (pe_op op_fdivW (pv 0) (pv 2)) (pa_cons (pe_op op_fdivW (pv 1) (pv 2)) pa_nil)))))))))), ?_⟩
  have b0 : 0 < b := by
    cases b with
    | zero => simp at hdb; omega
    | succ b => exact Nat.succ_pos _
  -- if _law_d == 0
  refine ⟨_, rfl, rfl, _, rfl, ifF (dF fun c => by cases c; omega) ?_⟩
  have ea : ∀ z : Int, (if z < 0 then -z else z) = (z.natAbs : Int) := fun z => by split <;> omega
  refine ⟨_, rfl, _, rfl, _, rfl, _, rfl, (fun m σ H' => ∃ x y : Nat, m = y ∧ σ = [some (.int n), some (.int d), some (.int x), some (.int y)] ∧ H' = H ∧ Nat.gcd x y = Nat.gcd n.natAbs d.natAbs),
    ⟨_, n.natAbs, d.natAbs, rfl, by rw [ea, ea]; rfl, rfl, rfl⟩, ?_⟩
  rintro m σ H' ⟨x, y, em, rfl, rfl, hg⟩
  subst em
  -- while _law_b > 0
  refine ⟨_, rfl, _, _, rfl, rfl, _, rfl, ifD (fun c => ?_) (fun c => ?_)⟩
  · refine ⟨_, fun _ _ z => z, _, rfl, _, rfl, .inl ⟨_, rfl, _, rfl, _, _, rfl, rfl, by omega, _, _, rfl, ?_⟩⟩
    refine ⟨x % m, Nat.mod_lt _ (by omega), m, x % m, rfl, ?_, rfl, ?_⟩
    · show [some (V.int n), some (V.int d), some (V.int (m : Int)), some (V.int ((x : Int).fmod (m : Int)))] = _
      rw [fmod_nat]
    · rw [← hg, Nat.gcd_comm x m, Nat.gcd_rec m x, Nat.gcd_comm]
  have y0 : m = 0 := by omega
  subst y0
  rw [Nat.gcd_zero_right] at hg
  subst hg
  have dn : d.toNat ≠ 0 := by omega
  have gp : 0 < Nat.gcd n.natAbs d.natAbs := Nat.gcd_pos_of_pos_right _ (by omega)
  have gb : (((Nat.gcd n.natAbs d.natAbs : Nat) : Int)).natAbs < 2 ^ b := by
    rw [Int.natAbs_natCast]
    exact Nat.lt_of_le_of_lt (Nat.gcd_le_right _ (by omega)) hdb
  have w : CDivW n ((Nat.gcd n.natAbs d.natAbs : Nat) : Int) := wide_div (by omega) gb b0 (by omega)
  have w2 : CDivW d ((Nat.gcd n.natAbs d.natAbs : Nat) : Int) := wide_div (by omega) gb b0 (by omega)
  have ed : d.toNat = d.natAbs := by omega
  refine ⟨_, rfl, _, _, rfl, rfl, _, rfl, ifF (dF (by omega)) ?_⟩
  refine ⟨_, rfl, _, rfl, _, _, rfl, rfl, w, _, rfl, _, rfl, _, _, rfl, rfl, w2, sz2, fun p hp => ?_⟩
  refine q _ _ (same_new hp _) ⟨p, rfl, SqT.of ?_⟩
  rw [upd_same, mk_num n dn, mk_den n dn, ed]
  congr 4
  have e : d = (d.natAbs : Int) := by omega
  rw [show (((d.natAbs / Nat.gcd n.natAbs d.natAbs : Nat)) : Int) = (d.natAbs : Int) / ((Nat.gcd n.natAbs d.natAbs : Nat) : Int) from Int.natCast_ediv _ _]
  rw [← e]
/-- two rationals in, their f out -/
def spOp2 (K : PySem.W.Frag) (g : Rat → Rat → Rat) : Sp := fun vs H Q _ => ∃ (x y : V) (p q : Rat) (m l : Nat), vs = [x, y] ∧ Rq K H x p ∧ Rq K H y q ∧ Sz m p ∧ Sz l q ∧ m + l + 1 ≤ 9000 ∧
  ∀ r H', Same H H' → Rq K H' r (g p q) → Q r H'
/-- two rationals in, a test of them out -/
def spTest2 (K : PySem.W.Frag) (g : Rat → Rat → V) : Sp := fun vs H Q _ => ∃ (x y : V) (p q : Rat) (m l : Nat), vs = [x, y] ∧ Rq K H x p ∧ Rq K H y q ∧ Sz m p ∧ Sz l q ∧ m + l + 1 ≤ 900000 ∧ Q (g p q) H
theorem mulW {m l : Nat} {i j : Int} (hi : i.natAbs < 2 ^ m) (hj : j.natAbs < 2 ^ l) (h0 : 0 < m) (h1 : 0 < l) (h : m + l ≤ 900000) : CMulW i j := wide_mul hi hj h0 h1 (by omega)
abbrev s__law_plus : Stmt := top 37
abbrev N__law_plus : List Str := ["_law_a", "_law_b"]
theorem sc__law_plus : FnScope N__law_plus ["_law_a", "_law_b"] (defScope s__law_plus) := ⟨rfl, rfl, rfl, by decide +kernel, rfl, by decide +kernel, by decide +kernel⟩
abbrev ps__law_plus : List Str := ["_law_a", "_law_b"]
theorem ok_plus (F : Fn K mg "_law_plus" s__law_plus ps__law_plus f fd) (d_law_frac : Def P w K mg base k "_law_frac" ["_law_n", "_law_d"] (spFrac K) f1 fd1) : Def P w K mg base (k + 1) "_law_plus" ps__law_plus (spOp2 K (· + ·)) f fd := by
  refine ⟨F.F.ok sc__law_plus (fun vs H Q E h => ?_) (fun cdv A outer s H vs Q E hr h => ?_), F.m, F.F.kp, F.b⟩
  · obtain ⟨x, y, p, q, m, l, rfl, _⟩ := h
    rfl
  obtain ⟨x, y, p, q, m, l, rfl, ⟨a, rfl, ha⟩, ⟨b, rfl, hb⟩, zp, zq, hm, z⟩ := h
  have m0 := nn zp
  have l0 := nn zq
  refine ⟨_, (pss_one (ps_ret (pcall d_law_frac hr (pa_cons (pe_op op_add (pe_op op_mulW (pe_ix ix_tup (pv 0) pe_int (fun _ _ => rfl)) (pe_ix ix_tup (pv 1) pe_int (fun _ _ => rfl))) (pe_op op_mulW (pe_ix ix_tup (pv 1) pe_int (fun _ _ => rfl)) (pe_ix ix_tup (pv 0) pe_int (fun _ _ => rfl)))) (pa_cons (pe_op op_mulW (pe_ix ix_tup (pv 0) pe_int (fun _ _ => rfl)) (pe_ix ix_tup (pv 1) pe_int (fun _ _ => rfl))) pa_nil))))), ?_⟩
  refine ⟨_, rfl, a, _, _, _, rfl, rfl, ha, at0 rfl, _, rfl, b, _, _, _, rfl, rfl, hb, at1 rfl, _, _, rfl, rfl, mulW zp.1 (dA zq) m0 l0 (by omega), ?_⟩
  refine ⟨_, rfl, b, _, _, _, rfl, rfl, hb, at0 rfl, _, rfl, a, _, _, _, rfl, rfl, ha, at1 rfl, _, _, rfl, rfl, mulW zq.1 (dA zp) l0 m0 (by omega), _, _, rfl, rfl, ?_⟩
  refine ⟨_, rfl, a, _, _, _, rfl, rfl, ha, at1 rfl, _, rfl, b, _, _, _, rfl, rfl, hb, at1 rfl, _, _, rfl, rfl, mulW (dA zp) (dA zq) m0 l0 (by omega), ?_⟩
  refine ⟨_, _, m + l + 1, rfl, dd_pos p q, ab_add (ab_mul zp.1 (dA zq)) (ab_up (ab_mul zq.1 (dA zp)) (by omega)), ab_up (ab_mul (dA zp) (dA zq)) (by omega), by omega, fun r H' e hr => z r H' e ?_⟩
  rw [mk_add] at hr
  exact hr
abbrev s__law_minus : Stmt := top 38
abbrev N__law_minus : List Str := ["_law_a", "_law_b"]
theorem sc__law_minus : FnScope N__law_minus ["_law_a", "_law_b"] (defScope s__law_minus) := ⟨rfl, rfl, rfl, by decide +kernel, rfl, by decide +kernel, by decide +kernel⟩
abbrev ps__law_minus : List Str := ["_law_a", "_law_b"]
theorem ok_minus (F : Fn K mg "_law_minus" s__law_minus ps__law_minus f fd) (d_law_frac : Def P w K mg base k "_law_frac" ["_law_n", "_law_d"] (spFrac K) f1 fd1) : Def P w K mg base (k + 1) "_law_minus" ps__law_minus (spOp2 K (· - ·)) f fd := by
  refine ⟨F.F.ok sc__law_minus (fun vs H Q E h => ?_) (fun cdv A outer s H vs Q E hr h => ?_), F.m, F.F.kp, F.b⟩
  · obtain ⟨x, y, p, q, m, l, rfl, _⟩ := h
    rfl
  obtain ⟨x, y, p, q, m, l, rfl, ⟨a, rfl, ha⟩, ⟨b, rfl, hb⟩, zp, zq, hm, z⟩ := h
  have m0 := nn zp
  have l0 := nn zq
  refine ⟨_, (pss_one (ps_ret (pcall d_law_frac hr (pa_cons (pe_op op_sub (pe_op op_mulW (pe_ix ix_tup (pv 0) pe_int (fun _ _ => rfl)) (pe_ix ix_tup (pv 1) pe_int (fun _ _ => rfl))) (pe_op op_mulW (pe_ix ix_tup (pv 1) pe_int (fun _ _ => rfl)) (pe_ix ix_tup (pv 0) pe_int (fun _ _ => rfl)))) (pa_cons (pe_op op_mulW (pe_ix ix_tup (pv 0) pe_int (fun _ _ => rfl)) (pe_ix ix_tup (pv 1) pe_int (fun _ _ => rfl))) pa_nil))))), ?_⟩
  refine ⟨_, rfl, a, _, _, _, rfl, rfl, ha, at0 rfl, _, rfl, b, _, _, _, rfl, rfl, hb, at1 rfl, _, _, rfl, rfl, mulW zp.1 (dA zq) m0 l0 (by omega), ?_⟩
  refine ⟨_, rfl, b, _, _, _, rfl, rfl, hb, at0 rfl, _, rfl, a, _, _, _, rfl, rfl, ha, at1 rfl, _, _, rfl, rfl, mulW zq.1 (dA zp) l0 m0 (by omega), _, _, rfl, rfl, ?_⟩
  refine ⟨_, rfl, a, _, _, _, rfl, rfl, ha, at1 rfl, _, rfl, b, _, _, _, rfl, rfl, hb, at1 rfl, _, _, rfl, rfl, mulW (dA zp) (dA zq) m0 l0 (by omega), ?_⟩
  refine ⟨_, _, m + l + 1, rfl, dd_pos p q, ab_sub (ab_mul zp.1 (dA zq)) (ab_up (ab_mul zq.1 (dA zp)) (by omega)), ab_up (ab_mul (dA zp) (dA zq)) (by omega), by omega, fun r H' e hr => z r H' e ?_⟩
  rw [mk_sub] at hr
  exact hr
abbrev s__law_times : Stmt := top 39
abbrev N__law_times : List Str := ["_law_a", "_law_b"]
theorem sc__law_times : FnScope N__law_times ["_law_a", "_law_b"] (defScope s__law_times) := ⟨rfl, rfl, rfl, by decide +kernel, rfl, by decide +kernel, by decide +kernel⟩
abbrev ps__law_times : List Str := ["_law_a", "_law_b"]
theorem ok_times (F : Fn K mg "_law_times" s__law_times ps__law_times f fd) (d_law_frac : Def P w K mg base k "_law_frac" ["_law_n", "_law_d"] (spFrac K) f1 fd1) : Def P w K mg base (k + 1) "_law_times" ps__law_times (spOp2 K (· * ·)) f fd := by
  refine ⟨F.F.ok sc__law_times (fun vs H Q E h => ?_) (fun cdv A outer s H vs Q E hr h => ?_), F.m, F.F.kp, F.b⟩
  · obtain ⟨x, y, p, q, m, l, rfl, _⟩ := h
    rfl
  obtain ⟨x, y, p, q, m, l, rfl, ⟨a, rfl, ha⟩, ⟨b, rfl, hb⟩, zp, zq, hm, z⟩ := h
  have m0 := nn zp
  have l0 := nn zq
  refine ⟨_, (pss_one (ps_ret (pcall d_law_frac hr (pa_cons (pe_op op_mulW (pe_ix ix_tup (pv 0) pe_int (fun _ _ => rfl)) (pe_ix ix_tup (pv 1) pe_int (fun _ _ => rfl))) (pa_cons (pe_op op_mulW (pe_ix ix_tup (pv 0) pe_int (fun _ _ => rfl)) (pe_ix ix_tup (pv 1) pe_int (fun _ _ => rfl))) pa_nil))))), ?_⟩
  refine ⟨_, rfl, a, _, _, _, rfl, rfl, ha, at0 rfl, _, rfl, b, _, _, _, rfl, rfl, hb, at0 rfl, _, _, rfl, rfl, mulW zp.1 zq.1 m0 l0 (by omega), ?_⟩
  refine ⟨_, rfl, a, _, _, _, rfl, rfl, ha, at1 rfl, _, rfl, b, _, _, _, rfl, rfl, hb, at1 rfl, _, _, rfl, rfl, mulW (dA zp) (dA zq) m0 l0 (by omega), ?_⟩
  refine ⟨_, _, m + l + 1, rfl, dd_pos p q, ab_up (ab_mul zp.1 zq.1) (by omega), ab_up (ab_mul (dA zp) (dA zq)) (by omega), by omega, fun r H' e hr => z r H' e ?_⟩
  rw [mk_mul] at hr
  exact hr
abbrev s__law_below : Stmt := top 41
abbrev N__law_below : List Str := ["_law_a", "_law_b"]
theorem sc__law_below : FnScope N__law_below ["_law_a", "_law_b"] (defScope s__law_below) := ⟨rfl, rfl, rfl, by decide +kernel, rfl, by decide +kernel, by decide +kernel⟩
abbrev ps__law_below : List Str := ["_law_a", "_law_b"]
theorem ok_below (F : Fn K mg "_law_below" s__law_below ps__law_below f fd) : Def P w K mg base (k + 1) "_law_below" ps__law_below (spTest2 K fun p q => .bl (decide (p < q))) f fd := by
  refine ⟨F.F.ok sc__law_below (fun vs H Q E h => ?_) (fun cdv A outer s H vs Q E hr h => ?_), F.m, F.F.kp, F.b⟩
  · obtain ⟨x, y, p, q, m, l, rfl, _⟩ := h
    rfl
  obtain ⟨x, y, p, q, m, l, rfl, ⟨a, rfl, ha⟩, ⟨b, rfl, hb⟩, zp, zq, hm, z⟩ := h
  have m0 := nn zp
  have l0 := nn zq
  refine ⟨_, (pss_one (ps_ret (pe_cmpR op_lt (pe_op op_mulW (pe_ix ix_tup (pv 0) pe_int (fun _ _ => rfl)) (pe_ix ix_tup (pv 1) pe_int (fun _ _ => rfl))) (pe_op op_mulW (pe_ix ix_tup (pv 1) pe_int (fun _ _ => rfl)) (pe_ix ix_tup (pv 0) pe_int (fun _ _ => rfl))) (nomark _)))), ?_⟩
  refine ⟨_, rfl, a, _, _, _, rfl, rfl, ha, at0 rfl, _, rfl, b, _, _, _, rfl, rfl, hb, at1 rfl, _, _, rfl, rfl, mulW zp.1 (dA zq) m0 l0 (by omega), ?_⟩
  refine ⟨_, rfl, b, _, _, _, rfl, rfl, hb, at0 rfl, _, rfl, a, _, _, _, rfl, rfl, ha, at1 rfl, _, _, rfl, rfl, mulW zq.1 (dA zp) l0 m0 (by omega), _, _, rfl, rfl, ?_⟩
  show Q (.bl (decide (p.num * (q.den : Int) < q.num * (p.den : Int)))) H
  rw [decide_eq_decide.mpr (lt_num (p := p) (q := q)).symm]
  exact z
/-! ### the program's rationals -/
def sg (p q : Rat) : Int := if p = q then 0 else if p < q then -1 else 1
abbrev s_compare : Stmt := top 14
abbrev N_compare : List Str := ["a", "b", "left", "right"]
theorem sc_compare : FnScope N_compare ["a", "b"] (defScope s_compare) := ⟨rfl, rfl, rfl, by decide +kernel, rfl, by decide +kernel, by decide +kernel⟩
abbrev ps_compare : List Str := ["a", "b"]
theorem ok_compare (F : Fn K mg "compare" s_compare ps_compare f fd) : Def P w K mg base (k + 1) "compare" ps_compare (spTest2 K fun p q => .int (sg p q)) f fd := by
  refine ⟨F.F.ok sc_compare (fun vs H Q E h => ?_) (fun cdv A outer s H vs Q E hr h => ?_), F.m, F.F.kp, F.b⟩
  · obtain ⟨x, y, p, q, m, l, rfl, _⟩ := h
    rfl
  obtain ⟨x, y, p, q, m, l, rfl, ⟨a, rfl, ha⟩, ⟨b, rfl, hb⟩, zp, zq, hm, z⟩ := h
  have m0 := nn zp
  have l0 := nn zq
  refine ⟨_, (pss_cons (ps_set (i := 2) sc_compare.nd rfl (Or.inl rfl) (pe_op op_mulW (pe_ix ix_tup (pv 0) pe_int (fun _ _ => rfl)) (pe_ix ix_tup (pv 1) pe_int (fun _ _ => rfl))))
      (pss_cons (ps_set (i := 3) sc_compare.nd rfl (Or.inl rfl) (pe_op op_mulW (pe_ix ix_tup (pv 1) pe_int (fun _ _ => rfl)) (pe_ix ix_tup (pv 0) pe_int (fun _ _ => rfl))))
      (pss_cons (ps_if (pt_cmpR op_eq (pv 2) (pv 3) (nomark _))
        (pss_one (ps_ret pe_int))
        pss_nil)
      (pss_one (ps_ret (pe_ifExp (pt_cmpR op_lt (pv 2) (pv 3) (nomark _)) (pe_un un_neg pe_int) pe_int)))))), ?_⟩
  refine ⟨_, rfl, a, _, _, _, rfl, rfl, ha, at0 rfl, _, rfl, b, _, _, _, rfl, rfl, hb, at1 rfl, _, _, rfl, rfl, mulW zp.1 (dA zq) m0 l0 (by omega), ?_⟩
  refine ⟨_, rfl, b, _, _, _, rfl, rfl, hb, at0 rfl, _, rfl, a, _, _, _, rfl, rfl, ha, at1 rfl, _, _, rfl, rfl, mulW zq.1 (dA zp) l0 m0 (by omega), ?_⟩
  refine ⟨_, rfl, _, rfl, rfl, _, rfl, ifD (fun c => ?_) (fun c => ?_)⟩
  · have e : p = q := eq_num.mpr (V.int.inj c)
    have z' : Q (.int (sg p q)) H := z
    unfold sg at z'
    rw [if_pos e] at z'
    exact z'
  · have e : ¬ p = q := fun e => c (congrArg V.int (eq_num.mp e))
    have z' : Q (.int (sg p q)) H := z
    unfold sg at z'
    rw [if_neg e] at z'
    refine ⟨_, rfl, _, rfl, _, _, rfl, rfl, _, rfl, ifD (fun c => ?_) (fun c => ?_)⟩
    · rw [if_pos (lt_num.mpr c)] at z'
      exact ⟨_, rfl, z'⟩
    · rw [if_neg (fun e => c (lt_num.mp e))] at z'
      exact z'
abbrev s_negate : Stmt := top 12
abbrev N_negate : List Str := ["a"]
theorem sc_negate : FnScope N_negate ["a"] (defScope s_negate) := ⟨rfl, rfl, rfl, by decide +kernel, rfl, by decide +kernel, by decide +kernel⟩
abbrev ps_negate : List Str := ["a"]
def spOp1 (K : PySem.W.Frag) (g : Rat → Rat) : Sp := fun vs H Q _ => ∃ (x : V) (p : Rat), vs = [x] ∧ Rq K H x p ∧ ∀ r H', Same H H' → Rq K H' r (g p) → Q r H'
theorem ok_negate (F : Fn K mg "negate" s_negate ps_negate f fd) : Def P w K mg base (k + 1) "negate" ps_negate (spOp1 K fun p => -p) f fd := by
  refine ⟨F.F.ok sc_negate (fun vs H Q E h => ?_) (fun cdv A outer s H vs Q E hr h => ?_), F.m, F.F.kp, F.b⟩
  · obtain ⟨x, p, rfl, _⟩ := h
    rfl
  obtain ⟨x, p, rfl, ⟨a, rfl, ha⟩, z⟩ := h
  refine ⟨_, (pss_one (ps_ret (pe_tup (pa_cons (pe_un un_neg (pe_ix ix_tup (pv 0) pe_int (fun _ _ => rfl))) (pa_cons (pe_ix ix_tup (pv 0) pe_int (fun _ _ => rfl)) pa_nil))))), ?_⟩
  refine ⟨_, rfl, a, _, _, _, rfl, rfl, ha, at0 rfl, _, rfl, _, rfl, a, _, _, _, rfl, rfl, ha, at1 rfl, sz2, fun r hr' => ?_⟩
  exact z _ _ (same_new hr' _) ⟨r, rfl, SqT.of upd_same⟩
abbrev s_add : Stmt := top 9
abbrev N_add : List Str := ["a", "b", "common", "factor", "n", "rest"]
theorem sc_add : FnScope N_add ["a", "b"] (defScope s_add) := ⟨rfl, rfl, rfl, by decide +kernel, rfl, by decide +kernel, by decide +kernel⟩
abbrev ps_add : List Str := ["a", "b"]
theorem ok_add (T : Bn mg) (F : Fn K mg "add" s_add ps_add f fd) : Def P w K mg base (k + 1) "add" ps_add (spOp2 K (· + ·)) f fd := by
  refine ⟨F.F.ok sc_add (fun vs H Q E h => ?_) (fun cdv A outer s H vs Q E hr h => ?_), F.m, F.F.kp, F.b⟩
  · obtain ⟨x, y, p, q, m, l, rfl, _⟩ := h
    rfl
  obtain ⟨x, y, p, q, m, l, rfl, ⟨a, rfl, ha⟩, ⟨b, rfl, hb⟩, zp, zq, hm, z⟩ := h
  have m0 := nn zp
  have l0 := nn zq
  refine ⟨_, (pss_cons (ps_set (i := 2) sc_add.nd rfl (Or.inl rfl) (pe_callBfun cr_gcd (by rfl) T.gcd_ (pa_cons (pe_ix ix_tup (pv 0) pe_int (fun _ _ => rfl)) (pa_cons (pe_ix ix_tup (pv 1) pe_int (fun _ _ => rfl)) pa_nil))))
      (pss_cons (ps_set (i := 3) sc_add.nd rfl (Or.inl rfl) (pe_op op_fdivW (pe_ix ix_tup (pv 1) pe_int (fun _ _ => rfl)) (pv 2)))
      (pss_cons (ps_set (i := 4) sc_add.nd rfl (Or.inl rfl) (pe_op op_add (pe_op op_mulW (pe_ix ix_tup (pv 0) pe_int (fun _ _ => rfl)) (pv 3)) (pe_op op_mulW (pe_ix ix_tup (pv 1) pe_int (fun _ _ => rfl)) (pe_op op_fdivW (pe_ix ix_tup (pv 0) pe_int (fun _ _ => rfl)) (pv 2)))))
      (pss_cons (ps_set (i := 5) sc_add.nd rfl (Or.inl rfl) (pe_callBfun cr_gcd (by rfl) T.gcd_ (pa_cons (pv 4) (pa_cons (pv 2) pa_nil))))
      (pss_one (ps_ret (pe_tup (pa_cons (pe_op op_fdivW (pv 4) (pv 5)) (pa_cons (pe_op op_mulW (pe_op op_fdivW (pe_ix ix_tup (pv 0) pe_int (fun _ _ => rfl)) (pv 5)) (pv 3)) pa_nil))))))))), ?_⟩
  have gp : 0 < Nat.gcd p.den q.den := Nat.gcd_pos_of_pos_left _ p.den_pos
  have gb : (((Nat.gcd p.den q.den : Nat) : Int)).natAbs < 2 ^ m := Nat.lt_of_le_of_lt (Nat.gcd_le_left _ p.den_pos) zp.2
  have wg : ∀ x : Int, CDivW x ((Nat.gcd p.den q.den : Nat) : Int) := fun x => wide_div (by omega) gb m0 (by omega)
  have fb : (((q.den / Nat.gcd p.den q.den : Nat)) : Int).natAbs < 2 ^ l := Nat.lt_of_le_of_lt (Nat.div_le_self _ _) zq.2
  have hb' : (((p.den / Nat.gcd p.den q.den : Nat)) : Int).natAbs < 2 ^ m := Nat.lt_of_le_of_lt (Nat.div_le_self _ _) zp.2
  refine ⟨_, rfl, a, _, _, _, rfl, rfl, ha, at1 rfl, _, rfl, b, _, _, _, rfl, rfl, hb, at1 rfl, _, _, rfl, ?_⟩
  -- factor; n
  refine ⟨_, rfl, b, _, _, _, rfl, rfl, hb, at1 rfl, _, rfl, _, _, rfl, rfl, wg _, ?_⟩
  refine ⟨_, rfl, a, _, _, _, rfl, rfl, ha, at0 rfl, _, rfl, _, _, rfl, rfl, mulW zp.1 fb m0 l0 (by omega), ?_⟩
  refine ⟨_, rfl, b, _, _, _, rfl, rfl, hb, at0 rfl, _, rfl, a, _, _, _, rfl, rfl, ha, at1 rfl, _, rfl, _, _, rfl, rfl, wg _, _, _, rfl, rfl, mulW zq.1 hb' l0 m0 (by omega), _, _, rfl, rfl, ?_⟩
  -- rest
  refine ⟨_, rfl, _, rfl, _, _, rfl, ?_⟩
  obtain ⟨n, en⟩ : ∃ n : Int, n = p.num * ((q.den / Nat.gcd p.den q.den : Nat) : Int) + q.num * ((p.den / Nat.gcd p.den q.den : Nat) : Int) := ⟨_, rfl⟩
  obtain ⟨r, er⟩ : ∃ r : Nat, r = Nat.gcd n.natAbs (Nat.gcd p.den q.den) := ⟨_, rfl⟩
  have A := add_parts p q _ _ n r rfl rfl en er
  have rp : 0 < r := by rw [er]; exact Nat.gcd_pos_of_pos_right _ gp
  have rb : ((r : Nat) : Int).natAbs < 2 ^ m := by rw [er]; exact Nat.lt_of_le_of_lt (Nat.gcd_le_right _ gp) gb
  have wr : ∀ x : Int, CDivW x (r : Int) := fun x => wide_div (by omega) rb m0 (by omega)
  have db : (((p.den / r : Nat)) : Int).natAbs < 2 ^ m := Nat.lt_of_le_of_lt (Nat.div_le_self _ _) zp.2
  have en' : (fun i j : Int => i + j) ((fun i j : Int => i * j) p.num ((q.den : Int) / ((Nat.gcd p.den q.den : Nat) : Int))) ((fun i j : Int => i * j) q.num ((p.den : Int) / ((Nat.gcd p.den q.den : Nat) : Int))) = n := en.symm
  suffices hz : ∀ n' : Int, n' = n → ∀ r' : Int, r' = (r : Int) → tRet (tTup (tCons (tOp (rI CDivW fun i j => V.int (i / j)) (tVar 4) (tVar 5)) (tCons (tOp (rI CMulW fun i j => V.int (i * j)) (tOp (rI CDivW fun i j => V.int (i / j)) (tOp (rIxT K) (tVar 0) (tC (V.int 1))) (tVar 5)) (tVar 3)) tNil)))
      { nx := fun _ H' => Q V.non H', rt := Q } [some (.ref a), some (.ref b), some (.int ((Nat.gcd p.den q.den : Nat) : Int)), some (.int ((q.den / Nat.gcd p.den q.den : Nat) : Int)), some (.int n'), some (.int r')] H from hz _ en' _ (by rw [er, ← en']; rfl)
  rintro n' e1 r' e2
  subst e1 e2
  refine ⟨_, rfl, _, rfl, _, _, rfl, rfl, wr _, _, rfl, a, _, _, _, rfl, rfl, ha, at1 rfl, _, rfl, _, _, rfl, rfl, wr _, _, rfl, _, _, rfl, rfl, mulW db fb m0 l0 (by omega), sz2, fun t ht => ?_⟩
  refine z _ _ (same_new ht _) ⟨t, rfl, SqT.of ?_⟩
  rw [upd_same]
  show some (HO.tup [V.int (n' / (r : Int)), V.int (((p.den / r : Nat) : Int) * ((q.den / Nat.gcd p.den q.den : Nat) : Int))]) = some (HO.tup [V.int (p + q).num, V.int ((p + q).den : Int)])
  rw [A.1, A.2]
  rfl
abbrev s_subtract : Stmt := top 10
abbrev N_subtract : List Str := ["a", "b"]
theorem sc_subtract : FnScope N_subtract ["a", "b"] (defScope s_subtract) := ⟨rfl, rfl, rfl, by decide +kernel, rfl, by decide +kernel, by decide +kernel⟩
abbrev ps_subtract : List Str := ["a", "b"]
theorem ok_subtract (F : Fn K mg "subtract" s_subtract ps_subtract f fd) (dadd : Def P w K mg base k "add" ["a", "b"] (spOp2 K (· + ·)) f1 fd1) (dnegate : Def P w K mg base k "negate" ["a"] (spOp1 K fun p => -p) f2 fd2) :
    Def P w K mg base (k + 1) "subtract" ps_subtract (spOp2 K (· - ·)) f fd := by
  refine ⟨F.F.ok sc_subtract (fun vs H Q E h => ?_) (fun cdv A outer s H vs Q E hr h => ?_), F.m, F.F.kp, F.b⟩
  · obtain ⟨x, y, p, q, m, l, rfl, _⟩ := h
    rfl
  obtain ⟨x, y, p, q, m, l, rfl, ha, hb, zp, zq, hm, z⟩ := h
  refine ⟨_, (pss_one (ps_ret (pcall dadd hr (pa_cons (pv 0) (pa_cons (pcall dnegate hr (pa_cons (pv 1) pa_nil)) pa_nil))))), ?_⟩
  refine ⟨_, rfl, _, rfl, _, q, rfl, hb, fun r H' e hr' => ?_⟩
  refine ⟨_, _, p, -q, m, l, rfl, ha.same e, hr', zp, zq.neg, hm, fun r2 H2 e2 hr2 => z _ _ (e.trans e2) ?_⟩
  show Rq K H2 r2 (p - q)
  rw [Rat.sub_eq_add_neg]
  exact hr2
/-- rational(n, d) where d is above zero; its second argument is always written -/
abbrev s_rational : Stmt := top 8
abbrev N_rational : List Str := ["n", "d", "common"]
theorem sc_rational : FnScope N_rational ["n", "d"] (defScope s_rational) := ⟨rfl, rfl, rfl, by decide +kernel, rfl, by decide +kernel, by decide +kernel⟩
abbrev ps_rational : List Str := ["n", "d"]
theorem ok_rational (T : Bn mg) (F : FunA K "rational" "rational" s_rational f fd) (hm : mg "rational" = some (.ref f)) (hb : Binds K fd ps_rational []) : Def P w K mg base (k + 1) "rational" ps_rational (spFrac K) f fd := by
  refine ⟨F.ok sc_rational (fun vs H Q E h => ?_) (fun cdv A outer s H vs Q E hr h => ?_), hm, F.kp, hb⟩
  · obtain ⟨n, d, b, rfl, _⟩ := h
    rfl
  obtain ⟨n, d, b, rfl, hd, hn, hdb, hb, q⟩ := h
  refine ⟨_, (pss_cons (ps_if (pt_cmpR op_eq (pv 1) pe_int (nomark _))
        (pss_one ps_never)
        pss_nil)
      (pss_cons (ps_set (i := 2) sc_rational.nd rfl (Or.inl rfl) (pe_callBfun cr_gcd (by rfl) T.gcd_ (pa_cons (pv 0) (pa_cons (pv 1) pa_nil))))
      (pss_cons (ps_if (pt_cmpR op_lt (pv 1) pe_int (nomark _))
        (pss_one (ps_set (i := 2) sc_rational.nd rfl (Or.inl rfl) (pe_un un_neg (pv 2))))
        pss_nil)
      (pss_one (ps_ret (pe_tup (pa_cons (pe_op op_fdivW (pv 0) (pv 2)) (pa_cons (pe_op op_fdivW (pv 1) (pv 2)) pa_nil)))))))), ?_⟩
  have b0 : 0 < b := by
    cases b with
    | zero => simp at hdb; omega
    | succ b => exact Nat.succ_pos _
  have dn : d.toNat ≠ 0 := by omega
  have gp : 0 < Nat.gcd n.natAbs d.natAbs := Nat.gcd_pos_of_pos_right _ (by omega)
  have gb : (((Nat.gcd n.natAbs d.natAbs : Nat) : Int)).natAbs < 2 ^ b := by
    rw [Int.natAbs_natCast]
    exact Nat.lt_of_le_of_lt (Nat.gcd_le_right _ (by omega)) hdb
  have w : ∀ x : Int, CDivW x ((Nat.gcd n.natAbs d.natAbs : Nat) : Int) := fun x => wide_div (by omega) gb b0 (by omega)
  have ed : d.toNat = d.natAbs := by omega
  refine ⟨_, rfl, rfl, _, rfl, ifF (dF fun c => by cases c; omega) ?_⟩
  refine ⟨_, rfl, _, rfl, _, _, rfl, ?_⟩
  refine ⟨_, rfl, _, _, rfl, rfl, _, rfl, ifF (dF (by omega)) ?_⟩
  refine ⟨_, rfl, _, rfl, _, _, rfl, rfl, w _, _, rfl, _, rfl, _, _, rfl, rfl, w _, sz2, fun p hp => ?_⟩
  refine q _ _ (same_new hp _) ⟨p, rfl, SqT.of ?_⟩
  rw [upd_same, mk_num n dn, mk_den n dn, ed]
  congr 4
  have e : d = (d.natAbs : Int) := by omega
  rw [show (((d.natAbs / Nat.gcd n.natAbs d.natAbs : Nat)) : Int) = (d.natAbs : Int) / ((Nat.gcd n.natAbs d.natAbs : Nat) : Int) from Int.natCast_ediv _ _]
  rw [← e]
abbrev s_divide : Stmt := top 13
abbrev N_divide : List Str := ["a", "b"]
theorem sc_divide : FnScope N_divide ["a", "b"] (defScope s_divide) := ⟨rfl, rfl, rfl, by decide +kernel, rfl, by decide +kernel, by decide +kernel⟩
abbrev ps_divide : List Str := ["a", "b"]
def spDiv (K : PySem.W.Frag) : Sp := fun vs H Q _ => ∃ (x y : V) (p q : Rat) (m l : Nat), vs = [x, y] ∧ Rq K H x p ∧ Rq K H y q ∧ Sz m p ∧ Sz l q ∧ m + l + 1 ≤ 9000 ∧ 0 < q ∧ ∀ r H', Same H H' → Rq K H' r (p / q) → Q r H'
theorem ok_divide (F : Fn K mg "divide" s_divide ps_divide f fd) (drational : Def P w K mg base k "rational" ["n", "d"] (spFrac K) f1 fd1) : Def P w K mg base (k + 1) "divide" ps_divide (spDiv K) f fd := by
  refine ⟨F.F.ok sc_divide (fun vs H Q E h => ?_) (fun cdv A outer s H vs Q E hr h => ?_), F.m, F.F.kp, F.b⟩
  · obtain ⟨x, y, p, q, m, l, rfl, _⟩ := h
    rfl
  obtain ⟨x, y, p, q, m, l, rfl, ⟨a, rfl, ha⟩, ⟨b, rfl, hb⟩, zp, zq, hm, q0, z⟩ := h
  have m0 := nn zp
  have l0 := nn zq
  have hn := num_pos q0
  refine ⟨_, (pss_one (ps_ret (pcall drational hr (pa_cons (pe_op op_mulW (pe_ix ix_tup (pv 0) pe_int (fun _ _ => rfl)) (pe_ix ix_tup (pv 1) pe_int (fun _ _ => rfl))) (pa_cons (pe_op op_mulW (pe_ix ix_tup (pv 0) pe_int (fun _ _ => rfl)) (pe_ix ix_tup (pv 1) pe_int (fun _ _ => rfl))) pa_nil))))), ?_⟩
  refine ⟨_, rfl, a, _, _, _, rfl, rfl, ha, at0 rfl, _, rfl, b, _, _, _, rfl, rfl, hb, at1 rfl, _, _, rfl, rfl, mulW zp.1 (dA zq) m0 l0 (by omega), ?_⟩
  refine ⟨_, rfl, a, _, _, _, rfl, rfl, ha, at1 rfl, _, rfl, b, _, _, _, rfl, rfl, hb, at0 rfl, _, _, rfl, rfl, mulW (dA zp) zq.1 m0 l0 (by omega), ?_⟩
  refine ⟨_, _, m + l, rfl, Int.mul_pos (by have := p.den_pos; omega) hn, ab_mul zp.1 (dA zq), ab_mul (dA zp) zq.1, by omega, fun r H' e hr => z r H' e ?_⟩
  have e2 : ((p.den : Int) * q.num).toNat = p.den * q.num.toNat := by
    have e3 : q.num = (q.num.toNat : Int) := by omega
    rw [e3, tn]
    rfl
  rw [e2, ← div_mk p q q0] at hr
  exact hr
end Vk
namespace Vk
open PySem L2 Vm
variable {l : Addr} {P : Program} {w : World} {K : PySem.W.Frag} {mg : Str → Option Value} {base : Heap} {k : Nat} {f f1 f2 f3 f4 f5 f6 f7 f8 f9 : Addr} {fd fd1 fd2 fd3 fd4 fd5 fd6 fd7 fd8 fd9 : FuncData}
abbrev s__law_store : Stmt := top 29
abbrev N__law_store : List Str := ["_law_script"]
theorem sc__law_store : FnScope N__law_store ["_law_script"] (defScope s__law_store) := ⟨rfl, rfl, rfl, by decide +kernel, rfl, by decide +kernel, by decide +kernel⟩
abbrev ps__law_store : List Str := ["_law_script"]
def spStore (K : PySem.W.Frag) : Sp := fun vs H Q _ => ∃ (a : Addr) (ns : List Int), vs = [.ref a] ∧ SqL K H a (ns.map V.int) ∧ ns.length ≤ 63 ∧ ∀ (s l : Addr) H', Same H H' → H s = none → Sto l s H' → Q (.ref s) H'
theorem ok_store (T : Bn mg) (F : Fn K mg "_law_store" s__law_store ps__law_store f fd) : Def P w K mg base (k + 1) "_law_store" ps__law_store (spStore K) f fd := by
  refine ⟨F.F.ok sc__law_store (fun vs H Q E h => ?_) (fun cdv A outer s H vs Q E hr h => ?_), F.m, F.F.kp, F.b⟩
  · obtain ⟨a, ns, rfl, _⟩ := h
    rfl
  obtain ⟨a, ns, rfl, ha, hl, z⟩ := h
  refine ⟨_, (pss_one (ps_ret (pe_lst (pa_cons (pe_callTy call_list_of (by rfl) T.list_ (by decide +kernel) (pa_cons (pv 0) pa_nil)) (pa_cons pe_int (pa_cons pe_int (pa_cons pe_int (pa_cons pe_int (pa_cons pe_int pa_nil))))))))), ?_⟩
  refine ⟨_, rfl, a, _, rfl, .inl ha, fun l l0 => ?_⟩
  refine ⟨sm6, fun p p0 => ?_⟩
  have lp : l ≠ p := fun e => by rw [e, upd_same] at p0; cases p0
  have e1 : Same H (upd H l (.lst (ns.map V.int))) := same_new l0 _
  refine z _ l _ (e1.trans (same_new p0 _)) (e1.free p0) ⟨ns, 0, 0, 1, 0, 0, upd_same, lp, ?_, hl, by omega, by omega, by omega, by omega⟩
  rw [upd_ne lp, upd_same]
abbrev s__law_mixed : Stmt := top 31
abbrev N__law_mixed : List Str := ["_law_store_here"]
theorem sc__law_mixed : FnScope N__law_mixed ["_law_store_here"] (defScope s__law_mixed) := ⟨rfl, rfl, rfl, by decide +kernel, rfl, by decide +kernel, by decide +kernel⟩
abbrev ps__law_mixed : List Str := ["_law_store_here"]
def spMixed (K : PySem.W.Frag) (l : Addr) : Sp := fun vs H Q _ => ∃ (s : Addr), vs = [.ref s] ∧ Sto l s H ∧ ∀ (r : Int) H', 0 ≤ r → r < 1000000009 → Sto l s H' → Fr s H H' → Q (.int r) H'
theorem ok_mixed (T : Bn mg) (F : Fn K mg "_law_mixed" s__law_mixed ps__law_mixed f fd) : Def P w K mg base (k + 1) "_law_mixed" ps__law_mixed (spMixed K l) f fd := by
  refine ⟨F.F.ok sc__law_mixed (fun vs H Q E h => ?_) (fun cdv A outer s H vs Q E hr h => ?_), F.m, F.F.kp, F.b⟩
  · obtain ⟨a, rfl, _⟩ := h
    rfl
  obtain ⟨s, rfl, ⟨ns, pos, num, seed, hold, cnt, h1, h2, h3, h4, h5, h6, h7, h8⟩, z⟩ := h
  refine ⟨_, (pss_cons (ps_asg (pe_op op_add (pe_ix ix_list (pv 0) pe_int (fun _ _ => rfl)) pe_int) (pg_sub (pv 0) pe_int set_list))
      (pss_cons (ps_asg (pe_op op_mod (pe_callTy call_int1 (by rfl) T.int_ (by decide +kernel) (pa_cons (pe_op op_add (pe_op op_add (pe_op op_mul (pe_ix ix_list (pv 0) pe_int (fun _ _ => rfl)) pe_int) (pe_op op_mul (pe_ix ix_list (pv 0) pe_int (fun _ _ => rfl)) pe_int)) pe_int) pa_nil)) pe_int) (pg_sub (pv 0) pe_int set_list))
      (pss_one (ps_ret (pe_op op_mod (pe_callTy call_int1 (by rfl) T.int_ (by decide +kernel) (pa_cons (pe_op op_add (pe_op op_mul (pe_ix ix_list (pv 0) pe_int (fun _ _ => rfl)) pe_int) (pe_op op_fdiv (pe_ix ix_list (pv 0) pe_int (fun _ _ => rfl)) pe_int)) pa_nil)) pe_int))))), ?_⟩
  refine ⟨_, rfl, s, _, _, _, rfl, rfl, SqL.of h1, atI_nat (j := 5) rfl, _, _, rfl, rfl, _, rfl, s, _, _, _, rfl, rfl, h1, rfl, ?_⟩
  refine ⟨_, rfl, s, _, _, _, rfl, rfl, SqL.of upd_same, atI_nat (j := 3) rfl, _, _, rfl, rfl, .inr ⟨by decide, by decide⟩, ?_⟩
  refine ⟨_, rfl, s, _, _, _, rfl, rfl, SqL.of upd_same, atI_nat (j := 5) rfl, _, _, rfl, rfl, .inr ⟨by decide, by decide⟩, _, _, rfl, rfl, ?_⟩
  refine ⟨_, _, rfl, rfl, .inl ⟨_, rfl, _, _, rfl, rfl, (by show (0 : Int) < 1000000007; decide), _, rfl, s, _, _, _, rfl, rfl, upd_same, rfl, ?_⟩⟩
  refine ⟨_, rfl, s, _, _, _, rfl, rfl, SqL.of upd_same, atI_nat (j := 3) rfl, _, _, rfl, rfl, .inr ⟨by decide, by decide⟩, ?_⟩
  refine ⟨_, rfl, s, _, _, _, rfl, rfl, SqL.of upd_same, atI_nat (j := 3) rfl, _, _, rfl, rfl, ⟨by decide, by decide⟩, _, _, rfl, rfl, .inl ⟨_, rfl, _, _, rfl, rfl, (by show (0 : Int) < 1000000009; decide), ?_⟩⟩
  have e2 : ∀ o1 o2, Fr s H (upd (upd H s o1) s o2) := fun _ _ => (Fr.upd _).trans (Fr.upd _)
  exact z _ _ (Int.emod_nonneg _ (by decide)) (Int.emod_lt_of_pos _ (by decide)) ⟨ns, pos, num, _, hold, _, upd_same, h2, (e2 _ _) _ _ h3 h2, h4, h5, h6, Int.emod_nonneg _ (by decide), Int.emod_lt_of_pos _ (by decide)⟩ (e2 _ _)
abbrev s__law_feed : Stmt := top 30
abbrev N__law_feed : List Str := ["_law_store_here", "_law_cell"]
theorem sc__law_feed : FnScope N__law_feed ["_law_store_here"] (defScope s__law_feed) := ⟨rfl, rfl, rfl, by decide +kernel, rfl, by decide +kernel, by decide +kernel⟩
abbrev ps__law_feed : List Str := ["_law_store_here"]
def spFeed (K : PySem.W.Frag) (l : Addr) : Sp := fun vs H Q _ => ∃ (s : Addr) (ns : List Int) (pos num seed hold cnt : Int), vs = [.ref s] ∧ H s = some (.lst [.ref l, .int pos, .int num, .int seed, .int hold, .int cnt]) ∧ l ≠ s ∧ H l = some (.lst (ns.map V.int)) ∧ ns.length ≤ 63 ∧ 0 ≤ pos ∧ 0 ≤ num ∧ 0 ≤ seed ∧ seed < 1000000007 ∧ pos < (ns.length : Int) ∧
  ∀ H', Sto l s H' → Fr s H H' → Q .non H'
theorem ok_feed (T : Bn mg) (F : Fn K mg "_law_feed" s__law_feed ps__law_feed f fd) : Def P w K mg base (k + 1) "_law_feed" ps__law_feed (spFeed K l) f fd := by
  refine ⟨F.F.ok sc__law_feed (fun vs H Q E h => ?_) (fun cdv A outer s H vs Q E hr h => ?_), F.m, F.F.kp, F.b⟩
  · obtain ⟨_, _, _, _, _, _, _, rfl, _⟩ := h
    rfl
  obtain ⟨s, ns, pos, num, seed, hold, cnt, rfl, h1, h2, h3, h4, h5, h6, h7, h8, h9, z⟩ := h
  refine ⟨_, (pss_cons (ps_set (i := 1) sc__law_feed.nd rfl (Or.inl rfl) (pe_callTy call_int1 (by rfl) T.int_ (by decide +kernel) (pa_cons (pe_ix ix_list (pe_ix ix_list (pv 0) pe_int (fun _ _ => rfl)) (pe_ix ix_list (pv 0) pe_int (fun _ _ => rfl)) (fun _ _ => rfl)) pa_nil)))
      (pss_cons (ps_asg (pe_op op_add (pe_ix ix_list (pv 0) pe_int (fun _ _ => rfl)) pe_int) (pg_sub (pv 0) pe_int set_list))
      (pss_cons (ps_asg (pe_op op_mod (pe_callTy call_int1 (by rfl) T.int_ (by decide +kernel) (pa_cons (pe_op op_add (pe_op op_mul (pe_ix ix_list (pv 0) pe_int (fun _ _ => rfl)) pe_int) (pv 1)) pa_nil)) pe_int) (pg_sub (pv 0) pe_int set_list))
      (pss_one (ps_if (PW.pt (pw_or (pt_cmpR op_ge (pv 1) (pe_op op_pow pe_int pe_int) (nomark _)) (pw_or1 (pt_cmpR op_le (pv 1) (pe_op op_sub pe_int (pe_op op_pow pe_int pe_int)) (nomark _)))))
        (pss_one (ps_asg (pe_callB call_abs (by rfl) T.abs_ (by decide +kernel) (pa_cons (pv 1) pa_nil)) (pg_sub (pv 0) pe_int set_list)))
        (pss_one (ps_asg pe_int (pg_sub (pv 0) pe_int set_list)))))))), ?_⟩
  have hp : pos.toNat < ns.length := by omega
  have ea : atI (ns.map V.int) pos = some (.int ns[pos.toNat]) := at_of (j := pos.toNat) (by omega) (by rw [List.getElem?_map, List.getElem?_eq_getElem hp]; rfl)
  obtain ⟨c, hc⟩ : ∃ c, c = ns[pos.toNat] := ⟨_, rfl⟩
  rw [← hc] at ea
  refine ⟨_, rfl, s, _, _, _, rfl, rfl, SqL.of h1, at0 rfl, _, rfl, s, _, _, _, rfl, rfl, SqL.of h1, at1 rfl, l, _, _, _, rfl, rfl, SqL.of h3, ea, .inl ⟨_, rfl, ?_⟩⟩
  refine ⟨_, rfl, s, _, _, _, rfl, rfl, SqL.of h1, at1 rfl, _, _, rfl, rfl, _, rfl, s, _, _, _, rfl, rfl, h1, rfl, ?_⟩
  refine ⟨_, rfl, s, _, _, _, rfl, rfl, SqL.of upd_same, atI_nat (j := 3) rfl, _, _, rfl, rfl, .inr ⟨by decide, by decide⟩, _, rfl, _, _, rfl, rfl, .inl ⟨_, rfl, _, _, rfl, rfl, (by show (0 : Int) < 1000000007; decide), _, rfl, s, _, _, _, rfl, rfl, upd_same, rfl, ?_⟩⟩
  have e2 : ∀ o1 o2, Fr s H (upd (upd H s o1) s o2) := fun _ _ => (Fr.upd _).trans (Fr.upd _)
  have e3 : ∀ o1 o2 o3, Fr s H (upd (upd (upd H s o1) s o2) s o3) := fun _ _ _ => (e2 _ _).trans (Fr.upd _)
  have pw : (0 : Int) ≤ 18 ∧ (18 : Int) ≤ 1000000 ∧ (10 : Int).natAbs < 2 ^ 64 := ⟨by decide, by decide, by decide⟩
  have big : ∀ H', H' s = _ → Fr s H H' → Q .non H' := fun H' (e : H' s = some (.lst [.ref l, .int (pos + 1), .int (if c < 0 then -c else c), .int ((seed * 30011 + c) % 1000000007), .int hold, .int cnt])) e' =>
    z H' ⟨ns, pos + 1, _, _, hold, cnt, e, h2, e' _ _ h3 h2, h4, by omega, by split <;> omega, Int.emod_nonneg _ (by decide), Int.emod_lt_of_pos _ (by decide)⟩ e'
  refine ⟨_, rfl, _, _, rfl, rfl, pw, _, _, rfl, rfl, _, rfl, ifD (fun _ => ?_) (fun _ => ⟨_, rfl, _, _, rfl, rfl, pw, _, _, rfl, rfl, _, _, rfl, rfl, _, rfl, ifD (fun _ => ?_) (fun _ => ?_)⟩)⟩
  · exact ⟨_, rfl, _, rfl, _, rfl, s, _, _, _, rfl, rfl, upd_same, rfl, big _ upd_same (e3 _ _ _)⟩
  · exact ⟨_, rfl, _, rfl, _, rfl, s, _, _, _, rfl, rfl, upd_same, rfl, big _ upd_same (e3 _ _ _)⟩
  · exact ⟨_, rfl, s, _, _, _, rfl, rfl, upd_same, rfl, z _ ⟨ns, pos + 1, num, _, 3, cnt, upd_same, h2, (e3 _ _ _) _ _ h3 h2, h4, by omega, h6, Int.emod_nonneg _ (by decide), Int.emod_lt_of_pos _ (by decide)⟩ (e3 _ _ _)⟩
abbrev s__law_take : Stmt := top 32
abbrev N__law_take : List Str := ["_law_store_here", "_law_many", "_law_number"]
theorem sc__law_take : FnScope N__law_take ["_law_store_here", "_law_many"] (defScope s__law_take) := ⟨rfl, rfl, rfl, by decide +kernel, rfl, by decide +kernel, by decide +kernel⟩
abbrev ps__law_take : List Str := ["_law_store_here", "_law_many"]
def spTake (K : PySem.W.Frag) (l : Addr) : Sp := fun vs H Q _ => ∃ (s : Addr) (many : Int), vs = [.ref s, .int many] ∧ Sto l s H ∧ many < 2 ^ 64 ∧ ∀ (r : Int) H', 0 ≤ r → (r < many ∨ r = 0) → Sto l s H' → Fr s H H' → Q (.int r) H'
theorem ok_take (T : Bn mg) (F : Fn K mg "_law_take" s__law_take ps__law_take f fd) (d_law_feed : Def P w K mg base k "_law_feed" ["_law_store_here"] (spFeed K l) f1 fd1) (d_law_mixed : Def P w K mg base k "_law_mixed" ["_law_store_here"] (spMixed K l) f2 fd2) :
    Def P w K mg base (k + 1) "_law_take" ps__law_take (spTake K l) f fd := by
  refine ⟨F.F.ok sc__law_take (fun vs H Q E h => ?_) (fun cdv A outer s H vs Q E hr h => ?_), F.m, F.F.kp, F.b⟩
  · obtain ⟨_, _, rfl, _⟩ := h
    rfl
  obtain ⟨s, many, rfl, hS, hm, z⟩ := h
  refine ⟨_, (pss_cons (ps_set (i := 1) sc__law_take.nd rfl (Or.inl rfl) (pe_callB (call_max2 rfl) (by rfl) T.max_ (by decide +kernel) (pa_cons pe_int (pa_cons (pv 1) pa_nil))))
      (pss_cons (ps_if (PW.pt (pw_and (pt_cmpR op_eq (pe_ix ix_list (pv 0) pe_int (fun _ _ => rfl)) pe_int (nomark _)) (pw_and (pt_cmpR op_eq (pe_ix ix_list (pv 0) pe_int (fun _ _ => rfl)) pe_int (nomark _)) (pw_and1 (pt_cmpR op_lt (pe_ix ix_list (pv 0) pe_int (fun _ _ => rfl)) (pe_callB call_len_seq (by rfl) T.len_ PySem.boot_len (pa_cons (pe_ix ix_list (pv 0) pe_int (fun _ _ => rfl)) pa_nil)) (nomark _))))))
        (pss_one (ps_expr (pcall d_law_feed hr (pa_cons (pv 0) pa_nil))))
        pss_nil)
      (pss_cons (ps_if (pt_cmpR op_gt (pe_ix ix_list (pv 0) pe_int (fun _ _ => rfl)) pe_int (nomark _))
        (pss_cons (ps_set (i := 2) sc__law_take.nd rfl (Or.inl rfl) (pe_ix ix_list (pv 0) pe_int (fun _ _ => rfl)))
        (pss_cons (ps_asg (pe_op op_fdivW (pv 2) (pv 1)) (pg_sub (pv 0) pe_int set_list))
        (pss_one (ps_ret (pe_op op_mod (pe_callTy call_int1 (by rfl) T.int_ (by decide +kernel) (pa_cons (pv 2) pa_nil)) (pv 1))))))
        pss_nil)
      (pss_cons (ps_asg (pe_callB (call_max2 rfl) (by rfl) T.max_ (by decide +kernel) (pa_cons pe_int (pa_cons (pe_op op_sub (pe_ix ix_list (pv 0) pe_int (fun _ _ => rfl)) pe_int) pa_nil))) (pg_sub (pv 0) pe_int set_list))
      (pss_cons (ps_set (i := 2) sc__law_take.nd rfl (Or.inl rfl) (pcall d_law_mixed hr (pa_cons (pv 0) pa_nil)))
      (pss_cons (ps_if (pt_cmpR op_gt (pv 1) pe_int (nomark _))
        (pss_one (ps_set (i := 2) sc__law_take.nd rfl (Or.inl rfl) (pe_op op_add (pv 2) (pe_op op_mul (pcall d_law_mixed hr (pa_cons (pv 0) pa_nil)) pe_int))))
        pss_nil)
      (pss_one (ps_ret (pe_op op_mod (pe_callTy call_int1 (by rfl) T.int_ (by decide +kernel) (pa_cons (pv 2) pa_nil)) (pv 1)))))))))), ?_⟩
  refine ⟨_, rfl, _, _, rfl, ?_⟩
  obtain ⟨M, eM⟩ : ∃ M : Int, M = if many > 1 then many else 1 := ⟨_, rfl⟩
  have M1 : 1 ≤ M := by rw [eM]; split <;> omega
  have M2 : M.natAbs < 2 ^ 64 := by
    have : (2 : Nat) ^ 64 = 18446744073709551616 := by decide
    have : (2 : Int) ^ 64 = 18446744073709551616 := by decide
    rw [eM]; split <;> omega
  have hz : ∀ (r : Int) H', 0 ≤ r → r < M → Sto l s H' → Fr s H H' → Q (.int r) H' := fun r H' a b => z r H' a (by rw [eM] at b; split at b <;> omega)
  rw [← eM]
  dsimp only [gName]
  refine cut (fun σ' H' => σ' = [some (.ref s), some (.int M), none] ∧ Sto l s H' ∧ Fr s H H') ?_ ?_
  · rintro σ H1 ⟨rfl, hS1, e1⟩
    obtain ⟨ns, pos, num, seed, hold, cnt, h1, h2, h3, h4, h5, h6, h7, h8⟩ := id hS1
    refine ⟨_, rfl, s, _, _, _, rfl, rfl, SqL.of h1, at2 rfl, _, _, rfl, rfl, _, rfl, ifD (fun c => ?_) (fun c => ?_)⟩
    · refine ⟨_, rfl, s, _, _, _, rfl, rfl, SqL.of h1, at2 rfl, ?_⟩
      refine ⟨_, rfl, _, rfl, _, _, rfl, rfl, wide_div (by omega) M2 (by decide) (by decide), _, rfl, s, _, _, _, rfl, rfl, h1, rfl, ?_⟩
      refine ⟨_, rfl, .inl ⟨_, rfl, _, rfl, _, _, rfl, rfl, (by show 0 < M; omega), ?_⟩⟩
      have e2 : ∀ o, Fr s H1 (upd H1 s o) := fun _ => Fr.upd _
      exact hz _ _ (Int.emod_nonneg _ (by omega)) (Int.emod_lt_of_pos _ (by omega)) ⟨ns, pos, num / M, seed, hold, cnt, upd_same, h2, (e2 _) _ _ h3 h2, h4, h5, Int.ediv_nonneg (by omega) (by omega), h7, h8⟩ (e1.trans (e2 _))
    refine ⟨_, rfl, s, _, _, _, rfl, rfl, SqL.of h1, atI_nat (j := 4) rfl, _, _, rfl, rfl, _, _, rfl, _, rfl, s, _, _, _, rfl, rfl, h1, rfl, ?_⟩
    have e2 : ∀ o, Fr s H1 (upd H1 s o) := fun _ => Fr.upd _
    refine ⟨_, rfl, s, rfl, ⟨ns, pos, num, seed, _, cnt, upd_same, h2, (e2 _) _ _ h3 h2, h4, h5, h6, h7, h8⟩, fun r H2 r0 r1 S2 e3 => ?_⟩
    refine ⟨_, rfl, _, _, rfl, rfl, _, rfl, ifD (fun c => ?_) (fun c => ?_)⟩
    · refine ⟨_, rfl, _, rfl, s, rfl, S2, fun r' H3 _ _ S3 e4 => ⟨_, _, rfl, rfl, .inr ⟨by decide, by decide⟩, _, _, rfl, rfl, ?_⟩⟩
      refine ⟨_, rfl, .inl ⟨_, rfl, _, rfl, _, _, rfl, rfl, (by show 0 < M; omega), ?_⟩⟩
      exact hz _ _ (Int.emod_nonneg _ (by omega)) (Int.emod_lt_of_pos _ (by omega)) S3 (e1.trans ((e2 _).trans (e3.trans e4)))
    · refine ⟨_, rfl, .inl ⟨_, rfl, _, rfl, _, _, rfl, rfl, (by show 0 < M; omega), ?_⟩⟩
      exact hz _ _ (Int.emod_nonneg _ (by omega)) (Int.emod_lt_of_pos _ (by omega)) S2 (e1.trans ((e2 _).trans e3))
  · intro key
    obtain ⟨ns, pos, num, seed, hold, cnt, h1, h2, h3, h4, h5, h6, h7, h8⟩ := id hS
    refine ⟨_, rfl, s, _, _, _, rfl, rfl, SqL.of h1, at2 rfl, rfl, _, rfl, ifD (fun _ => ?_) (fun _ => ifF rfl (key _ _ ⟨rfl, hS, Fr.refl _ _⟩))⟩
    refine ⟨_, rfl, s, _, _, _, rfl, rfl, SqL.of h1, atI_nat (j := 4) rfl, rfl, _, rfl, ifD (fun _ => ?_) (fun _ => ifF rfl (key _ _ ⟨rfl, hS, Fr.refl _ _⟩))⟩
    refine ⟨_, rfl, s, _, _, _, rfl, rfl, SqL.of h1, at1 rfl, _, rfl, s, _, _, _, rfl, rfl, SqL.of h1, at0 rfl, l, _, rfl, .inl (SqL.of h3), _, _, rfl, rfl, _, rfl, ifD (fun c => ?_) (fun _ => key _ _ ⟨rfl, hS, Fr.refl _ _⟩)⟩
    rw [List.length_map] at c
    exact ⟨_, rfl, s, ns, pos, num, seed, hold, cnt, rfl, h1, h2, h3, h4, h5, h6, h7, h8, c, fun H' S' e' => key _ _ ⟨rfl, S', e'⟩⟩
abbrev s__law_pick : Stmt := top 33
abbrev N__law_pick : List Str := ["_law_store_here", "_law_things"]
theorem sc__law_pick : FnScope N__law_pick ["_law_store_here", "_law_things"] (defScope s__law_pick) := ⟨rfl, rfl, rfl, by decide +kernel, rfl, by decide +kernel, by decide +kernel⟩
abbrev ps__law_pick : List Str := ["_law_store_here", "_law_things"]
/-- a list that is not the store; one of its things is handed back -/
def spPick (K : PySem.W.Frag) (l : Addr) : Sp := fun vs H Q _ => ∃ (s a : Addr) (xs : List V), vs = [.ref s, .ref a] ∧ Sto l s H ∧ a ≠ s ∧ SqL K H a xs ∧ 0 < xs.length ∧ xs.length < 2 ^ 32 ∧ ∀ (v : V) H', v ∈ xs → Sto l s H' → Fr s H H' → Q v H'
theorem ok_pick (T : Bn mg) (F : Fn K mg "_law_pick" s__law_pick ps__law_pick f fd) (d_law_take : Def P w K mg base k "_law_take" ["_law_store_here", "_law_many"] (spTake K l) f1 fd1) : Def P w K mg base (k + 1) "_law_pick" ps__law_pick (spPick K l) f fd := by
  refine ⟨F.F.ok sc__law_pick (fun vs H Q E h => ?_) (fun cdv A outer s H vs Q E hr h => ?_), F.m, F.F.kp, F.b⟩
  · obtain ⟨_, _, _, rfl, _⟩ := h
    rfl
  obtain ⟨s, a, xs, rfl, hS, n, ha, h0, hl, z⟩ := h
  refine ⟨_, (pss_one (ps_ret (pe_ix ix_list (pv 1) (pcall d_law_take hr (pa_cons (pv 0) (pa_cons (pe_callB call_len_seq (by rfl) T.len_ PySem.boot_len (pa_cons (pv 1) pa_nil)) pa_nil))) (fun _ _ => rfl)))), ?_⟩
  have p32 : (2 : Nat) ^ 32 = 4294967296 := by decide
  have p64 : (2 : Int) ^ 64 = 18446744073709551616 := by decide
  refine ⟨_, rfl, _, rfl, _, rfl, a, _, rfl, .inl ha, s, _, rfl, hS, by omega, fun r H' r0 r1 S' e => ?_⟩
  have hr : r.toNat < xs.length := by omega
  refine ⟨a, _, _, xs[r.toNat], rfl, rfl, seq_fr e n ha, at_of (j := r.toNat) (by omega) (List.getElem?_eq_getElem hr), z _ _ (List.getElem_mem hr) S' e⟩
end Vk
namespace Vk
open PySem L2 Vm
variable {l : Addr} {P : Program} {w : World} {K : PySem.W.Frag} {mg : Str → Option Value} {base : Heap} {k : Nat} {f f1 f2 f3 f4 f5 f6 f7 f8 f9 : Addr} {fd fd1 fd2 fd3 fd4 fd5 fd6 fd7 fd8 fd9 : FuncData}
/-! ### data -/
def dq (q : Rat) : PyData := .tuple [.int q.num, .int (q.den : Int)]
theorem Rq.dp {H : Hp} {v : V} {q : Rat} (h : Rq K H v q) : Dp K H v (dq q) := by
  obtain ⟨a, rfl, h⟩ := h
  exact .tup h (.cons (.int _) (.cons (.int _) .nil))
theorem sh_dq (q : Rat) : SeqAt.shaped (dq q) = true := rfl
theorem eqv_dq (p q : Rat) : PyData.eqv (dq p) (dq q) = decide (p = q) := by
  show ((p.num == q.num) && (((p.den : Int) == (q.den : Int)) && true)) = decide (p = q)
  by_cases h : p = q
  · subst h
    simp
  · rw [decide_eq_false h]
    by_cases h1 : p.num = q.num
    · by_cases h2 : p.den = q.den
      · exact absurd (Rat.ext h1 h2) h
      · have : ((p.den : Int) == (q.den : Int)) = false := beq_false_of_ne (by omega)
        rw [this]
        simp
    · have : (p.num == q.num) = false := by simpa using h1
      rw [this]
      simp
inductive Tree : Nat → PyData → Prop
  | int {n} (i : Int) : Tree n (.int i)
  | non {n} : Tree n .none
  | str {n} {s : Str} (h : SeqAt.shaped (.str s) = true) : Tree n (.str s)
  | tup {n} {ds : List PyData} : ds.length ≤ 1000 → (∀ d ∈ ds, Tree n d) → Tree (n + 1) (.tuple ds)
  | lst {n} {ds : List PyData} : ds.length ≤ 1000 → (∀ d ∈ ds, Tree n d) → Tree (n + 1) (.list ds)
theorem tree_dq (n : Nat) (q : Rat) : Tree (n + 1) (dq q) := .tup (by show 2 ≤ 1000; decide) fun d h => by
  rcases List.mem_cons.mp h with rfl | h
  · exact .int _
  · rcases List.mem_cons.mp h with rfl | h
    · exact .int _
    · cases h
theorem sql_ty {H : Hp} {a : Addr} {xs : List V} (h : SqL K H a xs) : TyX K H (.ref a) (.type "list") := by
  rcases h with (h | ⟨o, h⟩) | ⟨o, its, n, h, c, _⟩
  · exact .base (.lst h)
  · exact .base (.frz h)
  · exact .kList h c
theorem sqt_ty {H : Hp} {a : Addr} {xs : List V} (h : SqT K H a xs) : TyX K H (.ref a) (.type "tuple") := by
  rcases h with (h | ⟨o, h⟩) | ⟨o, its, n, h, c, _⟩
  · exact .base (.tup h)
  · exact .fTuple h
  · exact .kTuple h c
theorem dpall_len {H : Hp} : ∀ {vs : List V} {ds : List PyData}, DpAll K H vs ds → vs.length = ds.length
  | _, _, .nil => rfl
  | _, _, .cons _ t => by simp [dpall_len t]
theorem dpall_at {H : Hp} : ∀ {vs : List V} {ds : List PyData}, DpAll K H vs ds → ∀ {i : Nat} {d : PyData}, ds[i]? = some d → ∃ v, vs[i]? = some v ∧ Dp K H v d
  | _, _, .nil, i, d, h => by simp at h
  | _, _, .cons r t, 0, d, h => ⟨_, rfl, by rw [← Option.some.inj h]; exact r⟩
  | _, _, .cons r t, i + 1, d, h => dpall_at t h
abbrev s__law_is_int : Stmt := top 34
abbrev N__law_is_int : List Str := ["_law_value"]
theorem sc__law_is_int : FnScope N__law_is_int ["_law_value"] (defScope s__law_is_int) := ⟨rfl, rfl, rfl, by decide +kernel, rfl, by decide +kernel, by decide +kernel⟩
abbrev ps__law_is_int : List Str := ["_law_value"]
def spIsInt (K : PySem.W.Frag) : Sp := fun vs H Q _ => ∃ i : Int, vs = [.int i] ∧ Q (.bl true) H
theorem ok_is_int (T : Bn mg) (F : Fn K mg "_law_is_int" s__law_is_int ps__law_is_int f fd) : Def P w K mg base (k + 1) "_law_is_int" ps__law_is_int (spIsInt K) f fd := by
  refine ⟨F.F.ok sc__law_is_int (fun vs H Q E h => ?_) (fun cdv A outer s H vs Q E hr h => ?_), F.m, F.F.kp, F.b⟩
  · obtain ⟨i, rfl, _⟩ := h
    rfl
  obtain ⟨i, rfl, z⟩ := h
  refine ⟨_, (pss_one (ps_ret (pe_and (pe_callB call_isi (by rfl) T.isinstance_ (by decide +kernel) (pa_cons (pv 0) (pa_cons (pe_bltn (v := .ty "int") (by rfl) T.int_ (by decide +kernel) rfl) pa_nil))) (pe_one (pe_not (pe_callB call_isi (by rfl) T.isinstance_ (by decide +kernel) (pa_cons (pv 0) (pa_cons (pe_bltn (v := .ty "bool") (by rfl) T.bool_ (by decide +kernel) rfl) pa_nil)))))))), ?_⟩
  exact ⟨_, rfl, _, _, _, _, true, rfl, .ty _, (.base (.int i)), kit_ty (by decide +kernel), _, rfl, ifT rfl ⟨_, rfl, _, _, _, _, false, rfl, .ty _, (.base (.int i)), kit_ty (by decide +kernel), _, rfl, z⟩⟩
def spSame (K : PySem.W.Frag) (n : Nat) : Sp := fun vs H Q _ => ∃ (v u : V) (d : PyData), vs = [v, u] ∧ Dp K H v d ∧ Dp K H u d ∧ Tree n d ∧ Q (.bl true) H
def spSize (K : PySem.W.Frag) (l : Addr) : Sp := fun vs H Q _ => ∃ (s : Addr) (lo hi : Int), vs = [.ref s, .int lo, .int hi] ∧ Sto l s H ∧ lo ≤ hi ∧ hi - lo < 2 ^ 32 ∧ ∀ (r : Int) H', lo ≤ r → r ≤ hi → Sto l s H' → Fr s H H' → Q (.int r) H'
end Vk
namespace Vk
open PySem L2 Vm
variable {l : Addr} {P : Program} {w : World} {K : PySem.W.Frag} {mg : Str → Option Value} {base : Heap} {k : Nat} {f f1 f2 f3 f4 f5 f6 f7 f8 f9 : Addr} {fd fd1 fd2 fd3 fd4 fd5 fd6 fd7 fd8 fd9 : FuncData}
/-! ### drawn rationals -/
def Qd (K : PySem.W.Frag) (m : Nat) (ok : Rat → Prop) (H : Hp) (v : V) : Prop := ∃ q, Rq K H v q ∧ Sz m q ∧ ok q
theorem Qd.same {m : Nat} {ok : Rat → Prop} {H H' : Hp} {v : V} (e : Same H H') (h : Qd K m ok H v) : Qd K m ok H' v := by
  obtain ⟨q, h, r⟩ := h
  exact ⟨q, h.same e, r⟩
theorem Qd.fr {m : Nat} {ok : Rat → Prop} {s : Addr} {H H' : Hp} {v : V} (e : Fr s H H') (hs : Sto l s H) (h : Qd K m ok H v) : Qd K m ok H' v := by
  obtain ⟨q, h, r⟩ := h
  exact ⟨q, h.fr e hs.some, r⟩
theorem Qd.new {m : Nat} {ok : Rat → Prop} {H : Hp} {t : Addr} (n d : Int) (q : Rat) (en : q.num = n) (ed : (q.den : Int) = d) (z : Sz m q) (o : ok q) : Qd K m ok (upd H t (.tup [.int n, .int d])) (.ref t) :=
  ⟨q, ⟨t, rfl, SqT.of (by rw [upd_same, en, ed])⟩, z, o⟩
theorem rq_new {H : Hp} {t : Addr} (n d : Int) (q : Rat) (en : q.num = n) (ed : (q.den : Int) = d) : Rq K (upd H t (.tup [.int n, .int d])) (.ref t) q := ⟨t, rfl, SqT.of (by rw [upd_same, en, ed])⟩
instance (k : Nat) (q : Rat) : Decidable (Sz k q) := inferInstanceAs (Decidable (_ ∧ _))
/-- a written pair: from then on a drawn rational -/
theorem newq {m : Nat} {ok : Rat → Prop} {H : Hp} {Q : V → Hp → Prop} (n d : Int) (q : Rat) (en : q.num = n) (ed : (q.den : Int) = d) (z : Sz m q) (o : ok q) (h : ∀ v H', Same H H' → Qd K m ok H' v → Q v H') : ∀ t, H t = none → Q (.ref t) (upd H t (.tup [.int n, .int d])) :=
  fun t ht => h _ _ (same_new ht _) (Qd.new n d q en ed z o)
def anyQ : Rat → Prop := fun _ => True
def posQ : Rat → Prop := fun q => 0 < q
instance (q : Rat) : Decidable (posQ q) := inferInstanceAs (Decidable (0 < q))
/-- a rational is drawn -/
def spDraw (K : PySem.W.Frag) (l : Addr) (m : Nat) (ok : Rat → Prop) : Sp := fun vs H Q _ => ∃ (s : Addr), vs = [.ref s] ∧ Sto l s H ∧ ∀ (v : V) H', Qd K m ok H' v → Sto l s H' → Fr s H H' → Q v H'
theorem mk_pos {n d : Int} (hn : 0 < n) (hd : 0 < d) : 0 < mkRat n d.toNat := by
  refine pos_of_num ?_
  have dn : d.toNat ≠ 0 := by omega
  rw [mk_num n dn]
  have g := Nat.gcd_le_left d.toNat (show 0 < n.natAbs by omega)
  have gp : 0 < Nat.gcd n.natAbs d.toNat := Nat.gcd_pos_of_pos_left _ (by omega)
  exact Int.ediv_pos_of_pos_of_dvd hn (by omega) (by
    have := Nat.gcd_dvd_left n.natAbs d.toNat
    have e : n = (n.natAbs : Int) := by omega
    rw [e]
    exact Int.natCast_dvd_natCast.mpr (by rw [Int.natAbs_natCast]; exact this))
theorem lt2 {i : Int} {b : Nat} (c : Nat) (h : i.natAbs < c) (e : c ≤ 2 ^ b) : i.natAbs < 2 ^ b := Nat.lt_of_lt_of_le h e
abbrev s__law_part : Stmt := top 43
abbrev N__law_part : List Str := ["_law_store_here", "_law_sort"]
theorem sc__law_part : FnScope N__law_part ["_law_store_here"] (defScope s__law_part) := ⟨rfl, rfl, rfl, by decide +kernel, rfl, by decide +kernel, by decide +kernel⟩
abbrev ps__law_part : List Str := ["_law_store_here"]
theorem ok_part (F : Fn K mg "_law_part" s__law_part ps__law_part f fd) (d_law_take : Def P w K mg base k "_law_take" ["_law_store_here", "_law_many"] (spTake K l) f1 fd1) (d_law_pick : Def P w K mg base k "_law_pick" ["_law_store_here", "_law_things"] (spPick K l) f2 fd2)
    (d_law_frac : Def P w K mg base k "_law_frac" ["_law_n", "_law_d"] (spFrac K) f3 fd3) : Def P w K mg base (k + 1) "_law_part" ps__law_part (spDraw K l 5 anyQ) f fd := by
  refine ⟨F.F.ok sc__law_part (fun vs H Q E h => ?_) (fun cdv A outer s H vs Q E hr h => ?_), F.m, F.F.kp, F.b⟩
  · obtain ⟨_, rfl, _⟩ := h
    rfl
  obtain ⟨s, rfl, hS, z⟩ := h
  refine ⟨_, (pss_cons (ps_set (i := 1) sc__law_part.nd rfl (Or.inl rfl) (pcall d_law_take hr (pa_cons (pv 0) (pa_cons pe_int pa_nil))))
      (pss_cons (ps_if (pt_cmpR op_lt (pv 1) pe_int (nomark _))
        (pss_one (ps_ret (pcall d_law_pick hr (pa_cons (pv 0) (pa_cons (pe_lst (pa_cons (pe_tup (pa_cons pe_int (pa_cons pe_int pa_nil))) (pa_cons (pe_tup (pa_cons pe_int (pa_cons pe_int pa_nil))) (pa_cons (pe_tup (pa_cons pe_int (pa_cons pe_int pa_nil))) (pa_cons (pe_tup (pa_cons (pe_un un_neg pe_int) (pa_cons pe_int pa_nil))) (pa_cons (pe_tup (pa_cons pe_int (pa_cons pe_int pa_nil))) (pa_cons (pe_tup (pa_cons (pe_un un_neg pe_int) (pa_cons pe_int pa_nil))) pa_nil))))))) pa_nil)))))
        pss_nil)
      (pss_one (ps_ret (pcall d_law_frac hr (pa_cons (pe_op op_sub (pcall d_law_take hr (pa_cons (pv 0) (pa_cons pe_int pa_nil))) pe_int) (pa_cons (pe_op op_add pe_int (pcall d_law_take hr (pa_cons (pv 0) (pa_cons pe_int pa_nil)))) pa_nil))))))), ?_⟩
  refine ⟨_, rfl, s, 6, rfl, hS, by decide, fun r H1 r0 r1 S1 e1 => ?_⟩
  refine ⟨_, rfl, _, _, rfl, rfl, _, rfl, ifD (fun _ => ?_) (fun _ => ?_)⟩
  · refine ⟨_, rfl, sz2, fun t1 h1 => ?_⟩
    have c1 := same_new h1 (.tup [.int 0, .int 1]); have q1 := Qd.new (K := K) (m := 5) (ok := anyQ) (H := H1) (t := t1) 0 1 (0) (by decide) (by decide) (by decide) trivial; generalize upd H1 t1 (.tup [.int 0, .int 1]) = G1 at c1 q1 ⊢
    refine ⟨sz2, fun t2 h2 => ?_⟩
    have c2 := same_new h2 (.tup [.int 0, .int 1]); have q2 := Qd.new (K := K) (m := 5) (ok := anyQ) (H := G1) (t := t2) 0 1 (0) (by decide) (by decide) (by decide) trivial; generalize upd G1 t2 (.tup [.int 0, .int 1]) = G2 at c2 q2 ⊢
    refine ⟨sz2, fun t3 h3 => ?_⟩
    have c3 := same_new h3 (.tup [.int 1, .int 1]); have q3 := Qd.new (K := K) (m := 5) (ok := anyQ) (H := G2) (t := t3) 1 1 (1) (by decide) (by decide) (by decide) trivial; generalize upd G2 t3 (.tup [.int 1, .int 1]) = G3 at c3 q3 ⊢
    refine ⟨_, rfl, sz2, fun t4 h4 => ?_⟩
    have c4 := same_new h4 (.tup [.int (-1), .int 1]); have q4 := Qd.new (K := K) (m := 5) (ok := anyQ) (H := G3) (t := t4) (-1) 1 (-1) (by decide) (by decide) (by decide) trivial; generalize upd G3 t4 (.tup [.int (-1), .int 1]) = G4 at c4 q4 ⊢
    refine ⟨sz2, fun t5 h5 => ?_⟩
    have c5 := same_new h5 (.tup [.int 1, .int 2]); have q5 := Qd.new (K := K) (m := 5) (ok := anyQ) (H := G4) (t := t5) 1 2 (mkRat 1 2) (by decide) (by decide) (by decide) trivial; generalize upd G4 t5 (.tup [.int 1, .int 2]) = G5 at c5 q5 ⊢
    refine ⟨_, rfl, sz2, fun t6 h6 => ?_⟩
    have c6 := same_new h6 (.tup [.int (-1), .int 2]); have q6 := Qd.new (K := K) (m := 5) (ok := anyQ) (H := G5) (t := t6) (-1) 2 (mkRat (-1) 2) (by decide) (by decide) (by decide) trivial; generalize upd G5 t6 (.tup [.int (-1), .int 2]) = G6 at c6 q6 ⊢
    refine ⟨sm6, fun p h7 => ?_⟩
    have c7 := same_new h7 (.lst [.ref t1, .ref t2, .ref t3, .ref t4, .ref t5, .ref t6])
    have d6 := c6.trans c7; have d5 := c5.trans d6; have d4 := c4.trans d5; have d3 := c3.trans d4; have d2 := c2.trans d3; have d1 := c1.trans d2
    have S7 := S1.same d1
    have q1 := q1.same d2; have q2 := q2.same d3; have q3 := q3.same d4; have q4 := q4.same d5; have q5 := q5.same d6; have q6 := q6.same c7
    refine ⟨s, p, _, rfl, S7, (S1.same (c1.trans (c2.trans (c3.trans (c4.trans (c5.trans c6)))))).ne h7, SqL.of upd_same, (by show 0 < 6; decide), (by show 6 < 2 ^ 32; decide), fun v H' hv S' e' => z _ _ ?_ S' (e1.trans ((Fr.of d1).trans e'))⟩
    refine Qd.fr e' S7 ?_
    simp only [List.mem_cons, List.mem_nil_iff, or_false] at hv
    rcases hv with rfl | rfl | rfl | rfl | rfl | rfl <;> assumption
  · refine ⟨_, rfl, s, 49, rfl, S1, by decide, fun r2 H2 r3 r4 S2 e2 => ⟨_, _, rfl, rfl, ?_⟩⟩
    refine ⟨_, rfl, s, 6, rfl, S2, by decide, fun r5 H3 r6 r7 S3 e3 => ⟨_, _, rfl, rfl, ?_⟩⟩
    refine ⟨_, _, 5, rfl, by omega, lt2 25 (by omega) (by decide), lt2 7 (by omega) (by decide), by decide, fun v H' e hv => z _ _ ⟨_, hv, sz_mk (by omega) ?_ ?_, trivial⟩ (S3.same e) (e1.trans (e2.trans (e3.trans (Fr.of e))))⟩
    · exact lt2 25 (by omega) (by decide)
    · have : (2 : Nat) ^ 5 = 32 := by decide
      omega
abbrev s__law_above : Stmt := top 45
abbrev N__law_above : List Str := ["_law_store_here"]
theorem sc__law_above : FnScope N__law_above ["_law_store_here"] (defScope s__law_above) := ⟨rfl, rfl, rfl, by decide +kernel, rfl, by decide +kernel, by decide +kernel⟩
abbrev ps__law_above : List Str := ["_law_store_here"]
theorem ok_above (F : Fn K mg "_law_above" s__law_above ps__law_above f fd) (d_law_take : Def P w K mg base k "_law_take" ["_law_store_here", "_law_many"] (spTake K l) f1 fd1) (d_law_frac : Def P w K mg base k "_law_frac" ["_law_n", "_law_d"] (spFrac K) f3 fd3) : Def P w K mg base (k + 1) "_law_above" ps__law_above (spDraw K l 5 posQ) f fd := by
  refine ⟨F.F.ok sc__law_above (fun vs H Q E h => ?_) (fun cdv A outer s H vs Q E hr h => ?_), F.m, F.F.kp, F.b⟩
  · obtain ⟨_, rfl, _⟩ := h
    rfl
  obtain ⟨s, rfl, hS, z⟩ := h
  refine ⟨_, (pss_cons (ps_if (pt_cmpR op_eq (pcall d_law_take hr (pa_cons (pv 0) (pa_cons pe_int pa_nil))) pe_int (nomark _))
        (pss_one (ps_ret (pe_tup (pa_cons pe_int (pa_cons pe_int pa_nil)))))
        pss_nil)
      (pss_one (ps_ret (pcall d_law_frac hr (pa_cons (pe_op op_add pe_int (pcall d_law_take hr (pa_cons (pv 0) (pa_cons pe_int pa_nil)))) (pa_cons (pe_op op_add pe_int (pcall d_law_take hr (pa_cons (pv 0) (pa_cons pe_int pa_nil)))) pa_nil)))))), ?_⟩
  refine ⟨_, rfl, s, 4, rfl, hS, by decide, fun r H1 r0 r1 S1 e1 => ?_⟩
  refine ⟨rfl, _, rfl, ifD (fun _ => ?_) (fun _ => ?_)⟩
  · exact ⟨sz2, fun t ht => z _ _ (Qd.new 1 1 1 rfl rfl (by decide) (by decide)) (S1.same (same_new ht _)) (e1.trans (Fr.of (same_new ht _)))⟩
  refine ⟨_, rfl, s, 24, rfl, S1, by decide, fun r2 H2 r3 r4 S2 e2 => ⟨_, _, rfl, rfl, ?_⟩⟩
  refine ⟨_, rfl, s, 6, rfl, S2, by decide, fun r5 H3 r6 r7 S3 e3 => ⟨_, _, rfl, rfl, ?_⟩⟩
  refine ⟨_, _, 5, rfl, by omega, lt2 25 (by omega) (by decide), lt2 7 (by omega) (by decide), by decide, fun v H' e hv => z _ _ ⟨_, hv, sz_mk (by omega) ?_ ?_, mk_pos (by omega) (by omega)⟩ (S3.same e) (e1.trans (e2.trans (e3.trans (Fr.of e))))⟩
  · exact lt2 25 (by omega) (by decide)
  · have : (2 : Nat) ^ 5 = 32 := by decide
    omega
abbrev s__law_pace : Stmt := top 47
abbrev N__law_pace : List Str := ["_law_store_here"]
theorem sc__law_pace : FnScope N__law_pace ["_law_store_here"] (defScope s__law_pace) := ⟨rfl, rfl, rfl, by decide +kernel, rfl, by decide +kernel, by decide +kernel⟩
abbrev ps__law_pace : List Str := ["_law_store_here"]
theorem ok_pace (F : Fn K mg "_law_pace" s__law_pace ps__law_pace f fd) (d_law_take : Def P w K mg base k "_law_take" ["_law_store_here", "_law_many"] (spTake K l) f1 fd1) (d_law_pick : Def P w K mg base k "_law_pick" ["_law_store_here", "_law_things"] (spPick K l) f2 fd2) (d_law_frac : Def P w K mg base k "_law_frac" ["_law_n", "_law_d"] (spFrac K) f3 fd3) : Def P w K mg base (k + 1) "_law_pace" ps__law_pace (spDraw K l 5 posQ) f fd := by
  refine ⟨F.F.ok sc__law_pace (fun vs H Q E h => ?_) (fun cdv A outer s H vs Q E hr h => ?_), F.m, F.F.kp, F.b⟩
  · obtain ⟨_, rfl, _⟩ := h
    rfl
  obtain ⟨s, rfl, hS, z⟩ := h
  refine ⟨_, (pss_cons (ps_if (pt_cmpR op_eq (pcall d_law_take hr (pa_cons (pv 0) (pa_cons pe_int pa_nil))) pe_int (nomark _))
        (pss_one (ps_ret (pcall d_law_pick hr (pa_cons (pv 0) (pa_cons (pe_lst (pa_cons (pe_tup (pa_cons pe_int (pa_cons pe_int pa_nil))) (pa_cons (pe_tup (pa_cons pe_int (pa_cons pe_int pa_nil))) (pa_cons (pe_tup (pa_cons pe_int (pa_cons pe_int pa_nil))) (pa_cons (pe_tup (pa_cons pe_int (pa_cons pe_int pa_nil))) (pa_cons (pe_tup (pa_cons pe_int (pa_cons pe_int pa_nil))) (pa_cons (pe_tup (pa_cons pe_int (pa_cons pe_int pa_nil))) pa_nil))))))) pa_nil)))))
        pss_nil)
      (pss_one (ps_ret (pcall d_law_frac hr (pa_cons (pe_op op_add pe_int (pcall d_law_take hr (pa_cons (pv 0) (pa_cons pe_int pa_nil)))) (pa_cons (pe_op op_add pe_int (pcall d_law_take hr (pa_cons (pv 0) (pa_cons pe_int pa_nil)))) pa_nil)))))), ?_⟩
  refine ⟨_, rfl, s, 2, rfl, hS, by decide, fun r H1 r0 r1 S1 e1 => ?_⟩
  refine ⟨rfl, _, rfl, ifD (fun _ => ?_) (fun _ => ?_)⟩
  · refine ⟨_, rfl, sz2, fun t1 h1 => ?_⟩
    have c1 := same_new h1 (.tup [.int 1, .int 1]); have q1 := Qd.new (K := K) (m := 5) (ok := posQ) (H := H1) (t := t1) 1 1 (1) (by decide) (by decide) (by decide) (by decide); generalize upd H1 t1 (.tup [.int 1, .int 1]) = G1 at c1 q1 ⊢
    refine ⟨sz2, fun t2 h2 => ?_⟩
    have c2 := same_new h2 (.tup [.int 1, .int 1]); have q2 := Qd.new (K := K) (m := 5) (ok := posQ) (H := G1) (t := t2) 1 1 (1) (by decide) (by decide) (by decide) (by decide); generalize upd G1 t2 (.tup [.int 1, .int 1]) = G2 at c2 q2 ⊢
    refine ⟨sz2, fun t3 h3 => ?_⟩
    have c3 := same_new h3 (.tup [.int 1, .int 2]); have q3 := Qd.new (K := K) (m := 5) (ok := posQ) (H := G2) (t := t3) 1 2 (mkRat 1 2) (by decide) (by decide) (by decide) (by decide); generalize upd G2 t3 (.tup [.int 1, .int 2]) = G3 at c3 q3 ⊢
    refine ⟨sz2, fun t4 h4 => ?_⟩
    have c4 := same_new h4 (.tup [.int 2, .int 1]); have q4 := Qd.new (K := K) (m := 5) (ok := posQ) (H := G3) (t := t4) 2 1 (2) (by decide) (by decide) (by decide) (by decide); generalize upd G3 t4 (.tup [.int 2, .int 1]) = G4 at c4 q4 ⊢
    refine ⟨sz2, fun t5 h5 => ?_⟩
    have c5 := same_new h5 (.tup [.int 9, .int 10]); have q5 := Qd.new (K := K) (m := 5) (ok := posQ) (H := G4) (t := t5) 9 10 (mkRat 9 10) (by decide) (by decide) (by decide) (by decide); generalize upd G4 t5 (.tup [.int 9, .int 10]) = G5 at c5 q5 ⊢
    refine ⟨sz2, fun t6 h6 => ?_⟩
    have c6 := same_new h6 (.tup [.int 11, .int 10]); have q6 := Qd.new (K := K) (m := 5) (ok := posQ) (H := G5) (t := t6) 11 10 (mkRat 11 10) (by decide) (by decide) (by decide) (by decide); generalize upd G5 t6 (.tup [.int 11, .int 10]) = G6 at c6 q6 ⊢
    refine ⟨sm6, fun p hp => ?_⟩
    have cp := same_new hp (.lst [.ref t1, .ref t2, .ref t3, .ref t4, .ref t5, .ref t6])
    have d6 := c6.trans cp
    have d5 := c5.trans d6
    have d4 := c4.trans d5
    have d3 := c3.trans d4
    have d2 := c2.trans d3
    have d1 := c1.trans d2
    have Sp := S1.same d1
    have np := (S1.same (c1.trans (c2.trans (c3.trans (c4.trans (c5.trans c6)))))).ne hp
    have q1 := q1.same d2
    have q2 := q2.same d3
    have q3 := q3.same d4
    have q4 := q4.same d5
    have q5 := q5.same d6
    have q6 := q6.same cp
    refine ⟨s, p, _, rfl, Sp, np, SqL.of upd_same, (by show 0 < 6; decide), (by show 6 < 2 ^ 32; decide), fun v H' hv S' e' => ?_⟩
    have qv : Qd K 5 posQ H' v := by
      refine Qd.fr e' Sp ?_
      simp only [List.mem_cons, List.mem_nil_iff, or_false] at hv
      rcases hv with rfl | rfl | rfl | rfl | rfl | rfl <;> assumption
    exact z _ _ qv S' (e1.trans ((Fr.of d1).trans e'))
  refine ⟨_, rfl, s, 30, rfl, S1, by decide, fun r2 H2 r3 r4 S2 e2 => ⟨_, _, rfl, rfl, ?_⟩⟩
  refine ⟨_, rfl, s, 12, rfl, S2, by decide, fun r5 H3 r6 r7 S3 e3 => ⟨_, _, rfl, rfl, ?_⟩⟩
  refine ⟨_, _, 5, rfl, by omega, lt2 31 (by omega) (by decide), lt2 13 (by omega) (by decide), by decide, fun v H' e hv => z _ _ ⟨_, hv, sz_mk (by omega) ?_ ?_, mk_pos (by omega) (by omega)⟩ (S3.same e) (e1.trans (e2.trans (e3.trans (Fr.of e))))⟩
  · exact lt2 31 (by omega) (by decide)
  · have : (2 : Nat) ^ 5 = 32 := by decide
    omega
/-- one rational in, one near it out -/
def spNear (K : PySem.W.Frag) (l : Addr) : Sp := fun vs H Q _ => ∃ (s : Addr) (x : V) (m : Nat), vs = [.ref s, x] ∧ Sto l s H ∧ m + 11 ≤ 9000 ∧ Qd K m anyQ H x ∧ ∀ (v : V) H', Qd K (m + 11) anyQ H' v → Sto l s H' → Fr s H H' → Q v H'
end Vk
namespace Vk
open PySem L2 Vm
variable {P : Program} {w : World} {K : PySem.W.Frag} {mg : Str → Option Value} {base : Heap} {k : Nat} {f f1 f2 f3 f4 f5 f6 f7 f8 f9 : Addr} {fd fd1 fd2 fd3 fd4 fd5 fd6 fd7 fd8 fd9 : FuncData}
/-! ### courses -/
structure Pc where
  s : Rat
  v : Rat
  r : Rat
def Pq (K : PySem.W.Frag) (H : Hp) (x : V) (p : Pc) : Prop := ∃ a xs xv xr, x = .ref a ∧ SqT K H a [xs, xv, xr] ∧ Rq K H xs p.s ∧ Rq K H xv p.v ∧ Rq K H xr p.r
theorem Pq.same {H H' : Hp} {x : V} {p : Pc} (e : Same H H') (h : Pq K H x p) : Pq K H' x p := by
  obtain ⟨a, xs, xv, xr, rfl, h, h1, h2, h3⟩ := h
  exact ⟨a, xs, xv, xr, rfl, e.sqt h, h1.same e, h2.same e, h3.same e⟩
theorem Pq.fr {s : Addr} {H H' : Hp} {x : V} {p : Pc} (e : Fr s H H') (hs : ∃ ys, H s = some (.lst ys)) (h : Pq K H x p) : Pq K H' x p := by
  obtain ⟨a, xs, xv, xr, rfl, h, h1, h2, h3⟩ := h
  exact ⟨a, xs, xv, xr, rfl, sqt_fr e hs h, h1.fr e hs, h2.fr e hs, h3.fr e hs⟩
def All2 {α : Type} (R : V → α → Prop) (xs : List V) (c : List α) : Prop := xs.length = c.length ∧ ∀ (i : Nat) x p, xs[i]? = some x → c[i]? = some p → R x p
theorem All2.nil {α : Type} {R : V → α → Prop} : All2 R [] [] := ⟨rfl, fun i x p h => by simp at h⟩
theorem All2.imp {α : Type} {R R' : V → α → Prop} {xs : List V} {c : List α} (h : All2 R xs c) (g : ∀ x p, R x p → R' x p) : All2 R' xs c := ⟨h.1, fun i x p a b => g _ _ (h.2 i x p a b)⟩
theorem All2.snoc {α : Type} {R : V → α → Prop} {xs : List V} {c : List α} {x : V} {p : α} (h : All2 R xs c) (r : R x p) : All2 R (xs ++ [x]) (c ++ [p]) := by
  refine ⟨by simp [h.1], fun i y q a b => ?_⟩
  by_cases hi : i < xs.length
  · rw [List.getElem?_append_left hi] at a
    rw [List.getElem?_append_left (by rw [← h.1]; exact hi)] at b
    exact h.2 i y q a b
  · rw [List.getElem?_append_right (by omega)] at a
    rw [List.getElem?_append_right (by rw [← h.1]; omega)] at b
    have e : i - xs.length = 0 := by
      have := (List.getElem?_eq_some_iff.mp a).1
      simp at this
      omega
    rw [e] at a
    rw [← h.1, e] at b
    cases a
    cases b
    exact r
theorem All2.at {α : Type} {R : V → α → Prop} {xs : List V} {c : List α} (h : All2 R xs c) {i : Nat} {p : α} (e : c[i]? = some p) : ∃ x, xs[i]? = some x ∧ R x p := by
  have hi := (List.getElem?_eq_some_iff.mp e).1
  rw [← h.1] at hi
  exact ⟨xs[i], List.getElem?_eq_getElem hi, h.2 i _ _ (List.getElem?_eq_getElem hi) e⟩
/-- a list at a holds the course c -/
def Cq (K : PySem.W.Frag) (H : Hp) (a : Addr) (c : List Pc) : Prop := ∃ xs, SqL K H a xs ∧ All2 (Pq K H) xs c
theorem Cq.same {H H' : Hp} {a : Addr} {c : List Pc} (e : Same H H') (h : Cq K H a c) : Cq K H' a c := by
  obtain ⟨xs, h, g⟩ := h
  exact ⟨xs, e.seq h, g.imp fun _ _ h => h.same e⟩
theorem Cq.fr {s : Addr} {H H' : Hp} {a : Addr} {c : List Pc} (e : Fr s H H') (hs : ∃ ys, H s = some (.lst ys)) (n : a ≠ s) (h : Cq K H a c) : Cq K H' a c := by
  obtain ⟨xs, h, g⟩ := h
  exact ⟨xs, seq_fr e n h, g.imp fun _ _ h => h.fr e hs⟩
/-- sizes: starts, values, rates -/
def Cz (i j l : Nat) (c : List Pc) : Prop := ∀ p ∈ c, Sz i p.s ∧ Sz j p.v ∧ Sz l p.r
/-- a course's form -/
def Cok (c : List Pc) : Prop := (∀ p ∈ c, 0 < p.r) ∧ ∀ (i : Nat) p q, c[i]? = some p → c[i + 1]? = some q → p.s < q.s
def tm (p : Pc) (y : Rat) : Rat := p.s + (y - p.v) / p.r
def before (c : List Pc) (k : Nat) (t : Rat) : Bool := match c[k]? with
  | none => true
  | some q => decide (t < q.s)
def hit (c : List Pc) (y : Rat) (k : Nat) : Option Rat := match c[k]? with
  | none => none
  | some p => if p.s ≤ tm p y ∧ before c (k + 1) (tm p y) = true then some (tm p y) else none
def hits (c : List Pc) (y : Rat) (n : Nat) : List Rat := (List.range n).filterMap (hit c y)
theorem hits_succ (c : List Pc) (y : Rat) (n : Nat) : hits c y (n + 1) = hits c y n ++ (hit c y n).toList := by
  unfold hits
  rw [List.range_succ, List.filterMap_append]
  cases h : hit c y n <;> simp [h]
abbrev s__law_is_frac : Stmt := top 42
abbrev N__law_is_frac : List Str := ["_law_value"]
theorem sc__law_is_frac : FnScope N__law_is_frac ["_law_value"] (defScope s__law_is_frac) := ⟨rfl, rfl, rfl, by decide +kernel, rfl, by decide +kernel, by decide +kernel⟩
abbrev ps__law_is_frac : List Str := ["_law_value"]
def spIsFrac (K : PySem.W.Frag) : Sp := fun vs H Q _ => ∃ (x : V) (q : Rat) (m : Nat), vs = [x] ∧ Rq K H x q ∧ Sz m q ∧ m ≤ 9000 ∧ ∀ H', Same H H' → Q (.bl true) H'
theorem ok_is_frac (T : Bn mg) (F : Fn K mg "_law_is_frac" s__law_is_frac ps__law_is_frac f fd) (d_law_is_int : Def P w K mg base k "_law_is_int" ["_law_value"] (spIsInt K) f1 fd1) (d_law_frac : Def P w K mg base k "_law_frac" ["_law_n", "_law_d"] (spFrac K) f2 fd2) :
    Def P w K mg base (k + 1) "_law_is_frac" ps__law_is_frac (spIsFrac K) f fd := by
  refine ⟨F.F.ok sc__law_is_frac (fun vs H Q E h => ?_) (fun cdv A outer s H vs Q E hr h => ?_), F.m, F.F.kp, F.b⟩
  · obtain ⟨x, q, m, rfl, _⟩ := h
    rfl
  obtain ⟨x, q, m, rfl, hx, zq, hm, z⟩ := h
  obtain ⟨a, rfl, ha⟩ := id hx
  refine ⟨_, (pss_cons (ps_if (PW.pt (pw_or (pt_not (pt_val (pe_callB call_isi (by rfl) T.isinstance_ (by decide +kernel) (pa_cons (pv 0) (pa_cons (pe_bltn (v := .ty "tuple") (by rfl) T.tuple_ (by decide +kernel) rfl) pa_nil))))) (pw_or1 (pt_cmpR op_ne (pe_callB call_len_seq (by rfl) T.len_ PySem.boot_len (pa_cons (pv 0) pa_nil)) pe_int (nomark _)))))
        (pss_one (ps_ret pe_bl))
        pss_nil)
      (pss_cons (ps_if (PW.pt (pw_or (pt_not (pt_val (pcall d_law_is_int hr (pa_cons (pe_ix ix_tup (pv 0) pe_int (fun _ _ => rfl)) pa_nil)))) (pw_or (pt_not (pt_val (pcall d_law_is_int hr (pa_cons (pe_ix ix_tup (pv 0) pe_int (fun _ _ => rfl)) pa_nil)))) (pw_or1 (pt_cmpR op_lt (pe_ix ix_tup (pv 0) pe_int (fun _ _ => rfl)) pe_int (nomark _))))))
        (pss_one (ps_ret pe_bl))
        pss_nil)
      (pss_one (ps_ret (pe_cmpR (op_eqD hr.units) (pcall d_law_frac hr (pa_cons (pe_ix ix_tup (pv 0) pe_int (fun _ _ => rfl)) (pa_cons (pe_ix ix_tup (pv 0) pe_int (fun _ _ => rfl)) pa_nil))) (pv 0) (nomark _)))))), ?_⟩
  have ta := sqt_ty ha
  have dp := q.den_pos
  refine ⟨_, rfl, _, _, _, _, true, rfl, .ty _, ta, kit_ty (by decide +kernel), _, rfl, ifF rfl ⟨_, rfl, a, _, rfl, .inr ha, rfl, _, rfl, ifF rfl ?_⟩⟩
  refine ⟨_, rfl, a, _, _, _, rfl, rfl, ha, at0 rfl, _, rfl, _, rfl, ifF rfl ⟨_, rfl, a, _, _, _, rfl, rfl, ha, at1 rfl, _, rfl, _, rfl, ifF rfl ⟨_, rfl, a, _, _, _, rfl, rfl, ha, at1 rfl, _, _, rfl, rfl, _, rfl, ifF (dF (by omega)) ?_⟩⟩⟩
  refine ⟨_, rfl, a, _, _, _, rfl, rfl, ha, at0 rfl, _, rfl, a, _, _, _, rfl, rfl, ha, at1 rfl, _, _, m, rfl, by omega, zq.1, dA zq, hm, fun r H' e hr => ?_⟩
  have er : mkRat q.num ((q.den : Int)).toNat = q := Rat.mkRat_self q
  rw [er] at hr
  refine ⟨_, rfl, _, _, hr.dp, (hx.same e).dp, sh_dq _, sh_dq _, ?_⟩
  rw [eqv_dq, dT rfl]
  exact z _ e
abbrev s__time_of : Stmt := top 17
abbrev N__time_of : List Str := ["piece", "reading", "start", "shown", "rate"]
theorem sc__time_of : FnScope N__time_of ["piece", "reading"] (defScope s__time_of) := ⟨rfl, rfl, rfl, by decide +kernel, rfl, by decide +kernel, by decide +kernel⟩
abbrev ps__time_of : List Str := ["piece", "reading"]
def spTimeOf (K : PySem.W.Frag) : Sp := fun vs H Q _ => ∃ (x y : V) (p : Pc) (q : Rat) (i j l m : Nat), vs = [x, y] ∧ Pq K H x p ∧ Rq K H y q ∧ Sz i p.s ∧ Sz j p.v ∧ Sz l p.r ∧ Sz m q ∧ 0 < p.r ∧ m + j + l + i + 3 ≤ 9000 ∧
  ∀ r H', Same H H' → Rq K H' r (tm p q) → Q r H'
theorem ok_time_of (F : Fn K mg "_time_of" s__time_of ps__time_of f fd) (dadd : Def P w K mg base k "add" ["a", "b"] (spOp2 K (· + ·)) f1 fd1) (ddivide : Def P w K mg base k "divide" ["a", "b"] (spDiv K) f2 fd2) (dsubtract : Def P w K mg base k "subtract" ["a", "b"] (spOp2 K (· - ·)) f3 fd3) :
    Def P w K mg base (k + 1) "_time_of" ps__time_of (spTimeOf K) f fd := by
  refine ⟨F.F.ok sc__time_of (fun vs H Q E h => ?_) (fun cdv A outer s H vs Q E hr h => ?_), F.m, F.F.kp, F.b⟩
  · obtain ⟨x, y, p, q, i, j, l, m, rfl, _⟩ := h
    rfl
  obtain ⟨x, y, p, q, i, j, l, m, rfl, ⟨a, xs, xv, xr, rfl, ha, hs, hv, hr'⟩, hy, zs, zv, zr, zq, r0, hb, z⟩ := h
  refine ⟨_, (pss_cons (ps_asg (pv 0) (pg_tup rfl (pgs_cons (pg_name (i := 2) sc__time_of.nd rfl (Or.inl rfl)) (pgs_cons (pg_name (i := 3) sc__time_of.nd rfl (Or.inl rfl)) (pgs_cons (pg_name (i := 4) sc__time_of.nd rfl (Or.inl rfl)) pgs_nil)))))
      (pss_one (ps_ret (pcall dadd hr (pa_cons (pv 2) (pa_cons (pcall ddivide hr (pa_cons (pcall dsubtract hr (pa_cons (pv 1) (pa_cons (pv 3) pa_nil))) (pa_cons (pv 4) pa_nil))) pa_nil)))))), ?_⟩
  refine ⟨_, rfl, a, _, rfl, ha, rfl, _, _, rfl, _, _, rfl, _, _, rfl, rfl, ?_⟩
  have m0 := nn zq
  refine ⟨_, rfl, _, rfl, _, rfl, _, _, q, p.v, m, j, rfl, hy, hv, zq, zv, by omega, fun r1 H1 e1 h1 => ?_⟩
  refine ⟨_, rfl, _, _, q - p.v, p.r, m + j + 1, l, rfl, h1, hr'.same e1, zq.sub zv, zr, by omega, r0, fun r2 H2 e2 h2 => ?_⟩
  exact ⟨_, _, p.s, (q - p.v) / p.r, i, m + j + 1 + l, rfl, hs.same (e1.trans e2), h2, zs, (zq.sub zv).div zr r0, by omega, fun r3 H3 e3 h3 => z _ _ (e1.trans (e2.trans e3)) h3⟩
abbrev s__end_of : Stmt := top 18
abbrev N__end_of : List Str := ["course", "at"]
theorem sc__end_of : FnScope N__end_of ["course", "at"] (defScope s__end_of) := ⟨rfl, rfl, rfl, by decide +kernel, rfl, by decide +kernel, by decide +kernel⟩
abbrev ps__end_of : List Str := ["course", "at"]
def endV (K : PySem.W.Frag) (H : Hp) (c : List Pc) (n : Nat) (v : V) : Prop := match c[n]? with
  | none => v = .non
  | some p => Rq K H v p.s
def spEndOf (K : PySem.W.Frag) : Sp := fun vs H Q _ => ∃ (a : Addr) (n : Nat) (c : List Pc), vs = [.ref a, .int n] ∧ Cq K H a c ∧ ∀ v, endV K H c (n + 1) v → Q v H
theorem ok_end_of (T : Bn mg) (F : Fn K mg "_end_of" s__end_of ps__end_of f fd) : Def P w K mg base (k + 1) "_end_of" ps__end_of (spEndOf K) f fd := by
  refine ⟨F.F.ok sc__end_of (fun vs H Q E h => ?_) (fun cdv A outer s H vs Q E hr h => ?_), F.m, F.F.kp, F.b⟩
  · obtain ⟨a, n, c, rfl, _⟩ := h
    rfl
  obtain ⟨a, n, c, rfl, ⟨xs, ha, hc⟩, z⟩ := h
  refine ⟨_, (pss_one (ps_ret (pe_ifExp (pt_cmpR op_lt (pe_op op_add (pv 1) pe_int) (pe_callB call_len_seq (by rfl) T.len_ PySem.boot_len (pa_cons (pv 0) pa_nil)) (nomark _)) (pe_ix ix_tup (pe_ix ix_list (pv 0) (pe_op op_add (pv 1) pe_int) (fun _ _ => rfl)) pe_int (fun _ _ => rfl)) pe_non))), ?_⟩
  have hl := hc.1
  refine ⟨_, rfl, _, _, rfl, rfl, _, rfl, a, _, rfl, .inl ha, _, _, rfl, rfl, _, rfl, ifD (fun g => ?_) (fun g => ?_)⟩
  · have hn : n + 1 < c.length := by omega
    obtain ⟨x, hx, b, vs, vv, vr, rfl, hb, hs, _⟩ := hc.at (List.getElem?_eq_getElem hn)
    refine ⟨_, rfl, _, rfl, _, _, rfl, rfl, a, _, _, _, rfl, rfl, ha, at_of (j := n + 1) (by omega) hx, b, _, _, _, rfl, rfl, hb, at0 rfl, z _ ?_⟩
    unfold endV
    rw [List.getElem?_eq_getElem hn]
    exact hs
  · refine z _ ?_
    unfold endV
    rw [List.getElem?_eq_none (by omega)]
end Vk
namespace Vk
open PySem L2 Vm
variable {P : Program} {w : World} {K : PySem.W.Frag} {mg : Str → Option Value} {base : Heap} {k : Nat} {f f1 f2 f3 f4 f5 f6 f7 f8 f9 : Addr} {fd fd1 fd2 fd3 fd4 fd5 fd6 fd7 fd8 fd9 : FuncData}
theorem for_enum {K : PySem.W.Frag} {a : Addr} {xs : List V} {g : TG} {tb : TS} {D : Ends} {σ : L2.St} {H : Hp} (Pv : Nat → L2.St → Hp → Prop) (h0 : Pv 0 σ H) (hq : ∀ i σ H, Pv i σ H → SqL K H a xs)
    (hs : ∀ (i : Nat) (x : V) (T : Addr) (σ : L2.St) (H : Hp), xs[i]? = some x → Pv i σ H → H T = none → g (.ref T) σ (upd H T (.tup [.int (i : Nat), x])) fun σ2 H2 => tb { D with nx := Pv (i + 1), ct := Pv (i + 1), bk := D.nx } σ2 H2) (hd : ∀ σ H, Pv xs.length σ H → D.nx σ H) :
    ∃ W : Nat → Nat → L2.St → Hp → Prop, (∃ m, W 0 m σ H) ∧ ∀ i m σ H, W i m σ H →
      ((Ite K a).stop i H ∧ D.nx σ H) ∨ ((Ite K a).go i H ∧ ∃ N : L2.St → Hp → Prop, (∀ σ' H', N σ' H' → ∃ m', m' < m ∧ W (i + 1) m' σ' H') ∧ ∀ v H', (Ite K a).yld i H v H' → g v σ H' fun σ2 H2 => tb { D with nx := N, ct := N, bk := D.nx } σ2 H2) := by
  refine ⟨fun i m σ H => m = xs.length - i ∧ i ≤ xs.length ∧ Pv i σ H, ⟨xs.length, rfl, Nat.zero_le _, h0⟩, ?_⟩
  rintro i m σ H ⟨rfl, hi, p⟩
  have qx := hq i σ H p
  by_cases hlt : i < xs.length
  · have hx : xs[i]? = some xs[i] := List.getElem?_eq_getElem hlt
    refine .inr ⟨⟨xs, _, qx, hx⟩, Pv (i + 1), fun σ' H' p' => ⟨xs.length - (i + 1), by omega, rfl, hlt, p'⟩, fun v H' y => ?_⟩
    obtain ⟨T, x', rfl, hT, rfl, f1⟩ := y
    exact hs i x' T σ H (f1 xs qx) p hT
  · have e : i = xs.length := by omega
    subst e
    exact .inl ⟨⟨xs, qx, Nat.le_refl _⟩, hd σ H p⟩
theorem sg_ge {p q : Rat} : 0 ≤ sg p q ↔ q ≤ p := by
  unfold sg
  split
  · rename_i h
    subst h
    simp [Rat.le_refl]
  · split
    · rename_i h1 h2
      constructor
      · intro h; omega
      · intro h; exact absurd (Rat.not_lt.mpr h) (fun g => g h2)
    · rename_i h1 h2
      constructor
      · intro _; exact Rat.not_lt.mp h2
      · intro _; omega
theorem sg_lt {p q : Rat} : sg p q < 0 ↔ p < q := by
  unfold sg
  split
  · rename_i h
    subst h
    constructor
    · intro h; omega
    · intro h; exact absurd h Rat.lt_irrefl
  · split
    · rename_i h1 h2
      exact ⟨fun _ => h2, fun _ => by omega⟩
    · rename_i h1 h2
      exact ⟨fun h => by omega, fun h => absurd h h2⟩
theorem same_upd {H H' : Hp} {D : Addr} (e : Same H H') (h : H D = none) (o : HO) : Same H (upd H' D o) := fun b u q => by rw [upd_ne (ne_of_none q h)]; exact e b u q
theorem hits_len (c : List Pc) (y : Rat) (n : Nat) : (hits c y n).length ≤ n := by
  have := List.length_filterMap_le (hit c y) (List.range n)
  rw [List.length_range] at this
  exact this
theorem le1000 {n : Nat} (h : n ≤ 1000) : n < sizeLine := Nat.lt_of_le_of_lt h (by decide)
def spTimes (K : PySem.W.Frag) : Sp := fun vs H Q _ => ∃ (a : Addr) (y : V) (c : List Pc) (q : Rat) (i j l m : Nat), vs = [.ref a, y] ∧ Cq K H a c ∧ Rq K H y q ∧ Cz i j l c ∧ Sz m q ∧ (∀ p ∈ c, 0 < p.r) ∧ c.length ≤ 1000 ∧ m + j + l + i + i + 4 ≤ 9000 ∧
  ∀ D us H', Same H H' → H D = none → H' D = some (.lst us) → All2 (Rq K H') us (hits c q c.length) → Q (.ref D) H'
end Vk
namespace Vk
open PySem L2 Vm
variable {P : Program} {w : World} {K : PySem.W.Frag} {mg : Str → Option Value} {base : Heap} {k : Nat} {f f1 f2 f3 f4 f5 f6 f7 f8 f9 : Addr} {fd fd1 fd2 fd3 fd4 fd5 fd6 fd7 fd8 fd9 : FuncData}
def optV (K : PySem.W.Frag) (H : Hp) (v : V) : Option Rat → Prop
  | none => v = .non
  | some q => Rq K H v q
def lim (c : List Pc) (n : Nat) : Option Rat := match c[n]? with
  | none => none
  | some p => match c[n + 1]? with
    | none => none
    | some q => some (p.v + p.r * (q.s - p.s))
def spLimit (K : PySem.W.Frag) : Sp := fun vs H Q _ => ∃ (a : Addr) (n : Nat) (c : List Pc) (i j l : Nat), vs = [.ref a, .int n] ∧ Cq K H a c ∧ n < c.length ∧ Cz i j l c ∧ i + i + l + j + 3 ≤ 9000 ∧ ∀ v H', Same H H' → optV K H' v (lim c n) → Q v H'
def on (t : Rat) (p : Pc) : Bool := !decide (t < p.s)
def nowf (c : List Pc) (t : Rat) : Option Rat := ((c.filter (on t)).getLast?).map fun p => p.v + p.r * (t - p.s)
theorem filter_more {α : Type} {c : List α} {i : Nat} {p : α} (g : α → Bool) (h : c[i]? = some p) : (c.take (i + 1)).filter g = (c.take i).filter g ++ (if g p = true then [p] else []) := by
  rw [List.take_add_one, h, List.filter_append]
  congr 1
  simp only [Option.toList]
  cases e : g p <;> simp [e]
def spNow (K : PySem.W.Frag) : Sp := fun vs H Q _ => ∃ (a : Addr) (y : V) (c : List Pc) (t : Rat) (i j l m : Nat), vs = [.ref a, y] ∧ Cq K H a c ∧ Rq K H y t ∧ Cz i j l c ∧ Sz m t ∧ c.length ≤ 1000 ∧ m + i + l + j + 3 ≤ 9000 ∧ ∀ v H', Same H H' → optV K H' v (nowf c t) → Q v H'
end Vk
namespace Vk
open PySem L2 Vm
variable {l : Addr} {P : Program} {w : World} {K : PySem.W.Frag} {mg : Str → Option Value} {base : Heap} {k : Nat} {f f1 f2 f3 f4 f5 f6 f7 f8 f9 : Addr} {fd fd1 fd2 fd3 fd4 fd5 fd6 fd7 fd8 fd9 : FuncData}
def spRatio (K : PySem.W.Frag) (l : Addr) : Sp := fun vs H Q _ => ∃ (s : Addr) (top : Int), vs = [.ref s, .int top] ∧ Sto l s H ∧ 1 ≤ top ∧ top < 2 ^ 40 ∧ ∀ (v : V) H', Qd K 40 anyQ H' v → Sto l s H' → Fr s H H' → Q v H'
theorem int_q {H : Hp} {t : Addr} (n : Int) (h : n.natAbs < 2 ^ 40) : Qd K 40 anyQ (upd H t (.tup [.int n, .int 1])) (.ref t) := Qd.new n 1 (n : Rat) rfl rfl ⟨h, by show 1 < 2 ^ 40; decide⟩ trivial
end Vk
namespace Vk
open PySem L2 Vm
variable {l : Addr} {P : Program} {w : World} {K : PySem.W.Frag} {mg : Str → Option Value} {base : Heap} {k : Nat} {f f1 f2 f3 f4 f5 f6 f7 f8 f9 : Addr} {fd fd1 fd2 fd3 fd4 fd5 fd6 fd7 fd8 fd9 : FuncData}
/-- while a list of things is being made at D -/
def Bun {α : Type} (R : Hp → V → α → Prop) (l s D : Addr) (H0 : Hp) (us : List V) (c : List α) (G : Hp) : Prop := Sto l s G ∧ Fr s H0 G ∧ D ≠ s ∧ D ≠ l ∧ H0 D = none ∧ G D = some (.lst us) ∧ All2 (R G) us c
section
variable {α : Type} {R : Hp → V → α → Prop} {s D : Addr} {H0 G G' : Hp} {us : List V} {c : List α}
/-- what R says outlives what becomes of a list -/
def Lasts (R : Hp → V → α → Prop) : Prop := ∀ {s : Addr} {H H' : Hp} {x : V} {p : α}, Fr s H H' → (∃ ys, H s = some (.lst ys)) → R H x p → R H' x p
theorem Bun.fr (h : Bun R l s D H0 us c G) (L : Lasts R) (e : Fr s G G') (S : Sto l s G') : Bun R l s D H0 us c G' := by
  obtain ⟨h1, h2, h3, h4, h5, h6, h7⟩ := h
  exact ⟨S, h2.trans e, h3, h4, h5, e _ _ h6 h3, h7.imp fun _ _ r => L e h1.some r⟩
theorem Bun.same (h : Bun R l s D H0 us c G) (L : Lasts R) (e : Same G G') : Bun R l s D H0 us c G' := h.fr L (Fr.of e) (h.1.same e)
theorem Bun.app {x : V} {p : α} (h : Bun R l s D H0 us c G) (L : Lasts R) (r : R G x p) : Bun R l s D H0 (us ++ [x]) (c ++ [p]) (upd G D (.lst (us ++ [x]))) := by
  obtain ⟨h1, h2, h3, h4, h5, h6, h7⟩ := h
  have fr : Fr D G (upd G D (.lst (us ++ [x]))) := Fr.upd _
  refine ⟨h1.upd h3 h4, fun b o hb hn => ?_, h3, h4, h5, upd_same, (h7.imp fun _ _ r => L fr ⟨_, h6⟩ r).snoc (L fr ⟨_, h6⟩ r)⟩
  rw [upd_ne (ne_of_none hb h5)]
  exact h2 b o hb hn
theorem Bun.start (S : Sto l s G) (e : Fr s H0 G) (hD : G D = none) : Bun R l s D H0 [] [] (upd G D (.lst [])) := by
  have nD := S.ne hD
  have f := same_new hD (.lst [])
  exact ⟨S.same f, e.trans (Fr.of f), nD, S.nl hD, e.free hD nD, upd_same, All2.nil⟩
end
theorem Bun.at {α : Type} {R : Hp → V → α → Prop} {s D : Addr} {H0 G : Hp} {us : List V} {c : List α} (h : Bun R l s D H0 us c G) : G D = some (.lst us) := h.2.2.2.2.2.1
theorem Bun.len {α : Type} {R : Hp → V → α → Prop} {s D : Addr} {H0 G : Hp} {us : List V} {c : List α} (h : Bun R l s D H0 us c G) : us.length = c.length := h.2.2.2.2.2.2.1
theorem Bun.all {α : Type} {R : Hp → V → α → Prop} {s D : Addr} {H0 G : Hp} {us : List V} {c : List α} (h : Bun R l s D H0 us c G) : All2 (R G) us c := h.2.2.2.2.2.2
theorem lastsP : Lasts (Pq K) := fun e hs h => h.fr e hs
theorem lastsQ : Lasts (Rq K) := fun e hs h => h.fr e hs
theorem Cok.snoc {c : List Pc} {x : Pc} (h : Cok c) (hx : ∀ p ∈ c, p.s < x.s) (r : 0 < x.r) : Cok (c ++ [x]) := by
  refine ⟨fun p hp => ?_, fun i p q e1 e2 => ?_⟩
  · rcases List.mem_append.mp hp with hp | hp
    · exact h.1 p hp
    · rw [List.mem_singleton.mp hp]
      exact r
  · by_cases hi : i + 1 < c.length
    · rw [List.getElem?_append_left (by omega)] at e1
      rw [List.getElem?_append_left hi] at e2
      exact h.2 i p q e1 e2
    · have hl := (List.getElem?_eq_some_iff.mp e2).1
      rw [List.length_append, List.length_singleton] at hl
      rw [List.getElem?_append_left (by omega)] at e1
      rw [List.getElem?_append_right (by omega)] at e2
      have e0 : i + 1 - c.length = 0 := by omega
      rw [e0] at e2
      cases e2
      exact hx p (List.mem_of_getElem? e1)
theorem Cz.snoc {i j m : Nat} {c : List Pc} {x : Pc} (h : Cz i j m c) (z : Sz i x.s ∧ Sz j x.v ∧ Sz m x.r) : Cz i j m (c ++ [x]) := fun p hp => by
  rcases List.mem_append.mp hp with hp | hp
  · exact h p hp
  · rw [List.mem_singleton.mp hp]
    exact z
theorem lt_add_pos {a b : Rat} (h : 0 < b) : a < a + b := by grind
abbrev s__law_course : Stmt := top 48
abbrev N__law_course : List Str := ["_law_store_here", "_law_many", "_law_fall", "_law_when", "_law_told", "_law_pace_here", "_law_course_here", "_law_k", "_law_step", "_law_sort"]
theorem sc__law_course : FnScope N__law_course ["_law_store_here", "_law_many", "_law_fall"] (defScope s__law_course) := ⟨rfl, rfl, rfl, by decide +kernel, rfl, by decide +kernel, by decide +kernel⟩
abbrev ps__law_course : List Str := ["_law_store_here", "_law_many", "_law_fall"]
def spCourse (K : PySem.W.Frag) (l : Addr) : Sp := fun vs H Q _ => ∃ (s : Addr) (many : Nat) (fall : Bool), vs = [.ref s, .int many, .bl fall] ∧ Sto l s H ∧ many ≤ 40 ∧
  ∀ D us c H', Bun (Pq K) l s D H us c H' → c.length = many → Cok c → Cz 245 925 5 c → Q (.ref D) H'
theorem ok_course (T : Bn mg) (F : Fn K mg "_law_course" s__law_course ps__law_course f fd) (d_law_part : Def P w K mg base k "_law_part" ["_law_store_here"] (spDraw K l 5 anyQ) f1 fd1) (d_law_pace : Def P w K mg base k "_law_pace" ["_law_store_here"] (spDraw K l 5 posQ) f2 fd2)
    (d_law_above : Def P w K mg base k "_law_above" ["_law_store_here"] (spDraw K l 5 posQ) f3 fd3) (d_law_plus : Def P w K mg base k "_law_plus" ["_law_a", "_law_b"] (spOp2 K (· + ·)) f4 fd4) (d_law_times : Def P w K mg base k "_law_times" ["_law_a", "_law_b"] (spOp2 K (· * ·)) f5 fd5)
    (d_law_minus : Def P w K mg base k "_law_minus" ["_law_a", "_law_b"] (spOp2 K (· - ·)) f6 fd6) (d_law_take : Def P w K mg base k "_law_take" ["_law_store_here", "_law_many"] (spTake K l) f7 fd7) :
    Def P w K mg base (k + 1) "_law_course" ps__law_course (spCourse K l) f fd := by
  refine ⟨F.F.ok sc__law_course (fun vs H Q E h => ?_) (fun cdv A outer s H vs Q E hr h => ?_), F.m, F.F.kp, F.b⟩
  · obtain ⟨_, _, _, rfl, _⟩ := h
    rfl
  obtain ⟨s, many, fall, rfl, hS, hm, z⟩ := h
  refine ⟨_, (pss_cons (ps_set (i := 3) sc__law_course.nd rfl (Or.inl rfl) (pcall d_law_part hr (pa_cons (pv 0) pa_nil)))
      (pss_cons (ps_set (i := 4) sc__law_course.nd rfl (Or.inl rfl) (pcall d_law_part hr (pa_cons (pv 0) pa_nil)))
      (pss_cons (ps_set (i := 5) sc__law_course.nd rfl (Or.inl rfl) (pcall d_law_pace hr (pa_cons (pv 0) pa_nil)))
      (pss_cons (ps_set (i := 6) sc__law_course.nd rfl (Or.inl rfl) (pe_lst pa_nil))
      (pss_cons (ps_for PassesOwn.never rfl (pi_range1 (by rfl) T.range_ (pa_cons (pv 1) pa_nil)) (pg_name (i := 7) sc__law_course.nd rfl (Or.inl rfl))
        (pss_cons (ps_expr (pe_bm PySem.F.plainAttrs_list PySem.F.slot_list_append PySem.F.type_list_append mt_append (pv 6) (pa_cons (pe_tup (pa_cons (pv 3) (pa_cons (pv 4) (pa_cons (pv 5) pa_nil)))) pa_nil)))
        (pss_cons (ps_set (i := 8) sc__law_course.nd rfl (Or.inl rfl) (pcall d_law_above hr (pa_cons (pv 0) pa_nil)))
        (pss_cons (ps_set (i := 3) sc__law_course.nd rfl (Or.inl rfl) (pcall d_law_plus hr (pa_cons (pv 3) (pa_cons (pv 8) pa_nil))))
        (pss_cons (ps_set (i := 4) sc__law_course.nd rfl (Or.inl rfl) (pcall d_law_plus hr (pa_cons (pv 4) (pa_cons (pcall d_law_times hr (pa_cons (pv 5) (pa_cons (pv 8) pa_nil))) pa_nil))))
        (pss_cons (ps_set (i := 9) sc__law_course.nd rfl (Or.inl rfl) (pcall d_law_take hr (pa_cons (pv 0) (pa_cons pe_int pa_nil))))
        (pss_cons (ps_if (PW.pt (pw_or (pt_cmpR op_eq (pv 9) pe_int (nomark _)) (pw_or1 (pt_cmpR op_eq (pv 9) pe_int (nomark _)))))
          (pss_one (ps_set (i := 4) sc__law_course.nd rfl (Or.inl rfl) (pcall d_law_plus hr (pa_cons (pv 4) (pa_cons (pcall d_law_above hr (pa_cons (pv 0) pa_nil)) pa_nil)))))
          pss_nil)
        (pss_cons (ps_if (PW.pt (pw_and (pt_cmpR op_eq (pv 9) pe_int (nomark _)) (pw_and1 (pt_val (pv 2)))))
          (pss_one (ps_set (i := 4) sc__law_course.nd rfl (Or.inl rfl) (pcall d_law_minus hr (pa_cons (pv 4) (pa_cons (pcall d_law_above hr (pa_cons (pv 0) pa_nil)) pa_nil)))))
          pss_nil)
        (pss_one (ps_if (PW.pt (pw_and (pt_cmpR op_ne (pv 9) pe_int (nomark _)) (pw_and1 (pt_cmpR op_ne (pv 9) pe_int (nomark _)))))
          (pss_one (ps_set (i := 5) sc__law_course.nd rfl (Or.inl rfl) (pcall d_law_pace hr (pa_cons (pv 0) pa_nil))))
          pss_nil))))))))))
      (pss_one (ps_ret (pv 6)))))))), ?_⟩
  refine ⟨_, rfl, s, rfl, hS, fun wv G1 qw S1 e1 => ?_⟩
  refine ⟨_, rfl, s, rfl, S1, fun tv G2 qt S2 e2 => ?_⟩
  refine ⟨_, rfl, s, rfl, S2, fun pv G3 qp S3 e3 => ?_⟩
  refine ⟨Nat.zero_le _, fun D hD => ?_⟩
  have p62 : (2 : Int) ^ 62 = 4611686018427387904 := by decide
  have B0 : Bun (Pq K) l s D H [] [] (upd G3 D (.lst [])) := Bun.start S3 (e1.trans (e2.trans e3)) hD
  have s4 := same_new hD (.lst [])
  obtain ⟨qw0, rw0, zw0, _⟩ := ((qw.fr e2 S1).fr e3 S2).same s4
  obtain ⟨qt0, rt0, zt0, _⟩ := (qt.fr e3 S2).same s4
  obtain ⟨qp0, rp0, zp0, pp0⟩ := qp.same s4
  refine ⟨_, rfl, _, rfl, by omega, by omega, for_range (n := ((many : Nat) : Int).toNat) (fun i σ G => ∃ (us : List V) (c : List Pc) (wv tv pv : V) (k1 k2 k3 : Option V) (qw qt qp : Rat), σ = [some (.ref s), some (.int many), some (.bl fall), some wv, some tv, some pv, some (.ref D), k1, k2, k3] ∧
      Bun (Pq K) l s D H us c G ∧ Rq K G wv qw ∧ Rq K G tv qt ∧ Rq K G pv qp ∧ Sz (5 + 6 * i) qw ∧ Sz (5 + 23 * i) qt ∧ Sz 5 qp ∧ 0 < qp ∧ c.length = i ∧ (∀ p ∈ c, p.s < qw) ∧ Cok c ∧ Cz 245 925 5 c)
    ⟨[], [], _, _, _, _, _, _, qw0, qt0, qp0, rfl, B0, rw0, rt0, rp0, zw0, zt0, zp0, pp0, rfl, nofun, ⟨nofun, fun i p q h => by simp at h⟩, nofun⟩ ?_ ?_⟩
  · rintro i σ G hi ⟨us, c, wv, tv, pv, k1, k2, k3, qw, qto, qp, rfl, B, rw1, rt1, rp1, zw, zt, zp, pp, hc, hlt, ok, cz⟩
    have hi' : i < 40 := by omega
    have hul : us.length ≤ 1000 := by have := B.len; omega
    -- the piece
    refine ⟨_, rfl, .inl ⟨rfl, _, SqL.of B.at⟩, _, rfl, _, rfl, _, rfl, sm3, fun T hT => ?_⟩
    have t1 := same_new hT (.tup [wv, tv, pv])
    have B1 := B.same lastsP t1
    refine ⟨D, _, _, rfl, rfl, B1.at, le1000 hul, ?_⟩
    have B2 := B1.app lastsP (x := .ref T) (p := ⟨qw, qto, qp⟩) ⟨T, wv, tv, pv, rfl, SqT.of upd_same, rw1.same t1, rt1.same t1, rp1.same t1⟩
    have f2 : Fr D (upd G T (.tup [wv, tv, pv])) (upd (upd G T (.tup [wv, tv, pv])) D (.lst (us ++ [.ref T]))) := Fr.upd _
    have rw2 := (rw1.same t1).fr f2 ⟨_, B1.at⟩
    have rt2 := (rt1.same t1).fr f2 ⟨_, B1.at⟩
    have rp2 := (rp1.same t1).fr f2 ⟨_, B1.at⟩
    -- the step; when; told
    refine ⟨_, rfl, s, rfl, B2.1, fun sv G3 qs0 S3 e3 => ?_⟩
    have B3 := B2.fr lastsP e3 S3
    obtain ⟨qs, rs, zs, ps⟩ := qs0
    have ps : 0 < qs := ps
    have rw3 := rw2.fr e3 B2.1.some
    have rt3 := rt2.fr e3 B2.1.some
    have rp3 := rp2.fr e3 B2.1.some
    refine ⟨_, rfl, _, rfl, _, _, qw, qs, _, 5, rfl, rw3, rs, zw, zs, by omega, fun wv' G4 e4 rw4 => ?_⟩
    refine ⟨_, rfl, _, rfl, _, rfl, _, _, qp, qs, 5, 5, rfl, rp3.same e4, rs.same e4, zp, zs, by omega, fun xv G5 e5 rx => ?_⟩
    refine ⟨_, _, qto, qp * qs, _, 10, rfl, rt3.same (e4.trans e5), rx, zt, zp.mul zs, by omega, fun tv' G6 e6 rt6 => ?_⟩
    have B6 := B3.same lastsP (e4.trans (e5.trans e6))
    refine ⟨_, rfl, s, 6, rfl, B6.1, by decide, fun so G7 so0 so1 S7 e7 => ?_⟩
    have B7 := B6.fr lastsP e7 S7
    have rw7 := (rw4.same (e5.trans e6)).fr e7 B6.1.some
    have rt7 := rt6.fr e7 B6.1.some
    have rp7 := (rp3.same (e4.trans (e5.trans e6))).fr e7 B6.1.some
    have zw7 : Sz (5 + 6 * (i + 1)) (qw + qs) := (zw.add zs).mono (by omega)
    have zt7 : Sz (16 + 23 * i) (qto + qp * qs) := (zt.add (zp.mul zs)).mono (by omega)
    have lw : qw < qw + qs := lt_add_pos ps
    dsimp only [gName]
    refine cut (fun σ' G' => ∃ (tv : V) (qt : Rat), σ' = [some (.ref s), some (.int many), some (.bl fall), some wv', some tv, some pv, some (.ref D), some (.int (0 + (i : Int))), some sv, some (.int so)] ∧ Bun (Pq K) l s D H (us ++ [.ref T]) (c ++ [⟨qw, qto, qp⟩]) G' ∧ Rq K G' wv' (qw + qs) ∧ Rq K G' tv qt ∧ Rq K G' pv qp ∧ Sz (22 + 23 * i) qt) ?_ ?_
    · rintro σ' G8 ⟨tv8, qt8, rfl, B8, rw8, rt8, rp8, zt8⟩
      refine cut (fun σ' G' => ∃ (tv : V) (qt : Rat), σ' = [some (.ref s), some (.int many), some (.bl fall), some wv', some tv, some pv, some (.ref D), some (.int (0 + (i : Int))), some sv, some (.int so)] ∧ Bun (Pq K) l s D H (us ++ [.ref T]) (c ++ [⟨qw, qto, qp⟩]) G' ∧ Rq K G' wv' (qw + qs) ∧ Rq K G' tv qt ∧ Rq K G' pv qp ∧ Sz (28 + 23 * i) qt) ?_ ?_
      · rintro σ' G9 ⟨tv9, qt9, rfl, B9, rw9, rt9, rp9, zt9⟩
        -- the last if
        have okc : Cok (c ++ [⟨qw, qto, qp⟩]) := ok.snoc hlt pp
        have czc : Cz 245 925 5 (c ++ [⟨qw, qto, qp⟩]) := cz.snoc ⟨zw.mono (by omega), zt.mono (by omega), zp⟩
        have ltc : ∀ p ∈ c ++ [(⟨qw, qto, qp⟩ : Pc)], p.s < qw + qs := fun p hp => by
          rcases List.mem_append.mp hp with hp | hp
          · have h1 := hlt p hp; grind
          · rw [List.mem_singleton.mp hp]
            exact lw
        have lenc : (c ++ [(⟨qw, qto, qp⟩ : Pc)]).length = i + 1 := by rw [List.length_append, hc]; rfl
        have stay : ∃ (us' : List V) (c : List Pc) (wv tv pv' : V) (k1 k2 k3 : Option V) (qw qt qp : Rat), [some (.ref s), some (.int many), some (.bl fall), some wv', some tv9, some pv, some (.ref D), some (.int (0 + (i : Int))), some sv, some (.int so)] = [some (.ref s), some (.int many), some (.bl fall), some wv, some tv, some pv', some (.ref D), k1, k2, k3] ∧
            Bun (Pq K) l s D H us' c G9 ∧ Rq K G9 wv qw ∧ Rq K G9 tv qt ∧ Rq K G9 pv' qp ∧ Sz (5 + 6 * (i + 1)) qw ∧ Sz (5 + 23 * (i + 1)) qt ∧ Sz 5 qp ∧ 0 < qp ∧ c.length = i + 1 ∧ (∀ p ∈ c, p.s < qw) ∧ Cok c ∧ Cz 245 925 5 c :=
          ⟨_, _, _, _, _, _, _, _, _, _, _, rfl, B9, rw9, rt9, rp9, zw7, zt9.mono (by omega), zp, pp, lenc, ltc, okc, czc⟩
        refine ⟨_, rfl, rfl, _, rfl, ?_⟩
        by_cases g1 : so = 0
        · refine ifF (by rw [dT (congrArg V.int g1)]; rfl) (ifF rfl stay)
        refine ifT (by rw [dF fun e => g1 (V.int.inj e)]; rfl) ⟨_, rfl, rfl, _, rfl, ?_⟩
        by_cases g2 : so = 4
        · exact ifF (by rw [dT (congrArg V.int g2)]; rfl) stay
        refine ifT (by rw [dF fun e => g2 (V.int.inj e)]; rfl) ⟨_, rfl, s, rfl, B9.1, fun pv' G10 qn S10 e10 => ?_⟩
        obtain ⟨qn, rn, zn, pn⟩ := qn
        exact ⟨_, _, _, _, _, _, _, _, _, _, _, rfl, B9.fr lastsP e10 S10, rw9.fr e10 B9.1.some, rt9.fr e10 B9.1.some, rn, zw7, zt9.mono (by omega), zn, pn, lenc, ltc, okc, czc⟩
      · intro key
        refine ⟨_, rfl, rfl, _, rfl, ?_⟩
        have skip := key _ _ ⟨tv8, qt8, rfl, B8, rw8, rt8, rp8, zt8.mono (by omega)⟩
        by_cases g1 : so = 4
        · refine ifT (dT (congrArg V.int g1)) ⟨_, rfl, _, rfl, ?_⟩
          cases fall with
          | false => exact ifF rfl skip
          | true =>
            refine ifT rfl ⟨_, rfl, _, rfl, s, rfl, B8.1, fun av G9 qa S9 e9 => ?_⟩
            obtain ⟨qa, ra, za, _⟩ := qa
            have B9 := B8.fr lastsP e9 S9
            refine ⟨_, _, qt8, qa, _, 5, rfl, rt8.fr e9 B8.1.some, ra, zt8, za, by omega, fun tv9 G10 e10 rt10 => ?_⟩
            exact key _ _ ⟨tv9, _, rfl, B9.same lastsP e10, (rw8.fr e9 B8.1.some).same e10, rt10, (rp8.fr e9 B8.1.some).same e10, (zt8.sub za).mono (by omega)⟩
        · exact ifF (dF fun e => g1 (V.int.inj e)) (ifF rfl skip)
    · intro key
      have skip := key _ _ ⟨tv', _, rfl, B7, rw7, rt7, rp7, zt7.mono (by omega)⟩
      have doit : ∀ (Qx : Prop), True → Qx → Qx := fun _ _ h => h
      refine ⟨_, rfl, rfl, _, rfl, ?_⟩
      by_cases g1 : so = 2
      · refine ifT (dT (congrArg V.int g1)) (ifT rfl ⟨_, rfl, _, rfl, s, rfl, B7.1, fun av G8 qa S8 e8 => ?_⟩)
        obtain ⟨qa, ra, za, _⟩ := qa
        refine ⟨_, _, _, qa, _, 5, rfl, rt7.fr e8 B7.1.some, ra, zt7, za, by omega, fun tv8 G9 e9 rt9 => ?_⟩
        exact key _ _ ⟨tv8, _, rfl, (B7.fr lastsP e8 S8).same lastsP e9, (rw7.fr e8 B7.1.some).same e9, rt9, (rp7.fr e8 B7.1.some).same e9, (zt7.add za).mono (by omega)⟩
      refine ifF (dF fun e => g1 (V.int.inj e)) ⟨_, rfl, rfl, _, rfl, ?_⟩
      by_cases g2 : so = 3
      · refine ifT (dT (congrArg V.int g2)) ⟨_, rfl, _, rfl, s, rfl, B7.1, fun av G8 qa S8 e8 => ?_⟩
        obtain ⟨qa, ra, za, _⟩ := qa
        refine ⟨_, _, _, qa, _, 5, rfl, rt7.fr e8 B7.1.some, ra, zt7, za, by omega, fun tv8 G9 e9 rt9 => ?_⟩
        exact key _ _ ⟨tv8, _, rfl, (B7.fr lastsP e8 S8).same lastsP e9, (rw7.fr e8 B7.1.some).same e9, rt9, (rp7.fr e8 B7.1.some).same e9, (zt7.add za).mono (by omega)⟩
      · exact ifF (dF fun e => g2 (V.int.inj e)) skip
  · rintro σ G ⟨us, c, wv, tv, pv, k1, k2, k3, qw, qt, qp, rfl, B, rw1, rt1, rp1, zw, zt, zp, pp, hc, hlt, ok, cz⟩
    exact ⟨_, rfl, z D us c G B (by omega) ok cz⟩
end Vk
namespace Vk
open PySem L2 Vm
variable {l : Addr} {P : Program} {w : World} {K : PySem.W.Frag} {mg : Str → Option Value} {base : Heap} {k : Nat} {f f1 f2 f3 f4 f5 f6 f7 f8 f9 : Addr} {fd fd1 fd2 fd3 fd4 fd5 fd6 fd7 fd8 fd9 : FuncData}
theorem All2.append {α : Type} {R : V → α → Prop} {xs ys : List V} {c d : List α} (h : All2 R xs c) (g : All2 R ys d) : All2 R (xs ++ ys) (c ++ d) := by
  refine ⟨by rw [List.length_append, List.length_append, h.1, g.1], fun i x p a b => ?_⟩
  have hl := h.1
  by_cases hi : i < xs.length
  · rw [List.getElem?_append_left hi] at a
    rw [List.getElem?_append_left (by omega)] at b
    exact h.2 i x p a b
  · rw [List.getElem?_append_right (by omega)] at a
    rw [List.getElem?_append_right (by omega), ← hl] at b
    exact g.2 _ x p a b
theorem All2.take {α : Type} {R : V → α → Prop} {xs : List V} {c : List α} (h : All2 R xs c) (m : Nat) : All2 R (xs.take m) (c.take m) := by
  refine ⟨by rw [List.length_take, List.length_take, h.1], fun i x p a b => ?_⟩
  rw [List.getElem?_take] at a b
  split at a
  · rename_i hi
    rw [if_pos hi] at b
    exact h.2 i x p a b
  · cases a
theorem All2.drop {α : Type} {R : V → α → Prop} {xs : List V} {c : List α} (h : All2 R xs c) (m : Nat) : All2 R (xs.drop m) (c.drop m) := by
  refine ⟨by rw [List.length_drop, List.length_drop, h.1], fun i x p a b => ?_⟩
  rw [List.getElem?_drop] at a b
  exact h.2 _ x p a b
theorem All2.one {α : Type} {R : V → α → Prop} {x : V} {p : α} (r : R x p) : All2 R [x] [p] := by
  have h : All2 R ([] ++ [x]) ([] ++ [p]) := All2.nil.snoc r
  exact h
def Asc (os : List Rat) : Prop := os.Pairwise (· < ·)
theorem asc_at {os : List Rat} (h : Asc os) {i j : Nat} {a b : Rat} (ha : os[i]? = some a) (hb : os[j]? = some b) (hij : i < j) : a < b := by
  obtain ⟨h1, rfl⟩ := List.getElem?_eq_some_iff.mp ha
  obtain ⟨h2, rfl⟩ := List.getElem?_eq_some_iff.mp hb
  exact List.pairwise_iff_getElem.mp h i j h1 h2 hij
/-- the place of one among os -/
def Spot (os : List Rat) (one : Rat) (j m : Nat) : Prop := m ≤ j ∧ ∀ (t : Nat) o, t < j → os[t]? = some o → (o < one ↔ t < m)
theorem rlt_trans {a b c : Rat} (h : a < b) (g : b < c) : a < c := by grind
theorem spot_next {os : List Rat} {one o : Rat} {j m : Nat} (ha : Asc os) (h : Spot os one j m) (ho : os[j]? = some o) : Spot os one (j + 1) (if o < one then j + 1 else m) := by
  split
  · rename_i g
    refine ⟨Nat.le_refl _, fun t x ht hx => ⟨fun _ => ht, fun _ => ?_⟩⟩
    by_cases e : t = j
    · subst e
      rw [ho] at hx
      cases hx
      exact g
    · exact rlt_trans (asc_at ha hx ho (by omega)) g
  · rename_i g
    refine ⟨by have := h.1; omega, fun t x ht hx => ?_⟩
    by_cases e : t = j
    · subst e
      rw [ho] at hx
      cases hx
      exact ⟨fun z => absurd z g, fun z => absurd z (by have := h.1; omega)⟩
    · exact h.2 t x (by omega) hx
theorem asc_insert {os : List Rat} {one : Rat} {m : Nat} (ha : Asc os) (h : Spot os one os.length m) (hn : os[m]? ≠ some one) : Asc (os.take m ++ [one] ++ os.drop m) := by
  have hlt : ∀ o ∈ os.take m, o < one := fun o ho => by
    obtain ⟨t, ht, rfl⟩ := List.mem_iff_getElem.mp ho
    rw [List.length_take] at ht
    have e : os[t]? = some (os.take m)[t] := by
      rw [List.getElem_take]
      exact List.getElem?_eq_getElem (by omega)
    exact (h.2 t _ (by omega) e).mpr (by omega)
  have hgt : ∀ o ∈ os.drop m, one < o := fun o ho => by
    obtain ⟨t, ht, rfl⟩ := List.mem_iff_getElem.mp ho
    rw [List.length_drop] at ht
    have e : os[m + t]? = some (os.drop m)[t] := by
      rw [List.getElem_drop]
      exact List.getElem?_eq_getElem (by omega)
    have h1 : ¬ (os.drop m)[t] < one := fun z => absurd ((h.2 (m + t) _ (by omega) e).mp z) (by omega)
    by_cases t0 : t = 0
    · have h2 : (os.drop m)[t] ≠ one := fun z => hn (by rw [← z, ← e, t0, Nat.add_zero])
      grind
    · have hm : m < os.length := by omega
      have h3 := asc_at ha (List.getElem?_eq_getElem hm) e (by omega)
      have h4 : ¬ os[m] < one := fun z => absurd ((h.2 m _ hm (List.getElem?_eq_getElem hm)).mp z) (by omega)
      grind
  unfold Asc
  rw [List.append_assoc, List.pairwise_append]
  refine ⟨ha.sublist (List.take_sublist _ _), ?_, fun a h1 b h2 => ?_⟩
  · rw [List.singleton_append, List.pairwise_cons]
    exact ⟨hgt, ha.sublist (List.drop_sublist _ _)⟩
  · rw [List.singleton_append] at h2
    rcases List.mem_cons.mp h2 with rfl | h2
    · exact hlt a h1
    · exact rlt_trans (hlt a h1) (hgt b h2)
abbrev s__law_ordered : Stmt := top 46
abbrev N__law_ordered : List Str := ["_law_fracs", "_law_row", "_law_one", "_law_spot", "_law_k"]
theorem sc__law_ordered : FnScope N__law_ordered ["_law_fracs"] (defScope s__law_ordered) := ⟨rfl, rfl, rfl, by decide +kernel, rfl, by decide +kernel, by decide +kernel⟩
abbrev ps__law_ordered : List Str := ["_law_fracs"]
def spOrdered (K : PySem.W.Frag) : Sp := fun vs H Q _ => ∃ (a : Addr) (xs : List V) (qs : List Rat), vs = [.ref a] ∧ SqL K H a xs ∧ All2 (Rq K H) xs qs ∧ (∀ q ∈ qs, Sz 40 q) ∧ qs.length ≤ 900 ∧
  ∀ D us os H', Same H H' → H D = none → H' D = some (.lst us) → All2 (Rq K H') us os → Asc os → (∀ o ∈ os, o ∈ qs) → os.length ≤ qs.length → (qs ≠ [] → os ≠ []) → Q (.ref D) H'
theorem ok_ordered (T : Bn mg) (F : Fn K mg "_law_ordered" s__law_ordered ps__law_ordered f fd) (d_law_below : Def P w K mg base k "_law_below" ["_law_a", "_law_b"] (spTest2 K fun p q => .bl (decide (p < q))) f1 fd1) :
    Def P w K mg base (k + 1) "_law_ordered" ps__law_ordered (spOrdered K) f fd := by
  refine ⟨F.F.ok sc__law_ordered (fun vs H Q E h => ?_) (fun cdv A outer s H vs Q E hr h => ?_), F.m, F.F.kp, F.b⟩
  · obtain ⟨_, _, _, rfl, _⟩ := h
    rfl
  obtain ⟨a, xs, qs, rfl, hx, hq, zq, hl, z⟩ := h
  refine ⟨_, (pss_cons (ps_set (i := 1) sc__law_ordered.nd rfl (Or.inl rfl) (pe_lst pa_nil))
      (pss_cons (ps_for PassesOwn.never rfl (pi_list (pv 0)) (pg_name (i := 2) sc__law_ordered.nd rfl (Or.inl rfl))
        (pss_cons (ps_set (i := 3) sc__law_ordered.nd rfl (Or.inl rfl) pe_int)
        (pss_cons (ps_for PassesOwn.never rfl (pi_range1 (by rfl) T.range_ (pa_cons (pe_callB call_len_seq (by rfl) T.len_ PySem.boot_len (pa_cons (pv 1) pa_nil)) pa_nil)) (pg_name (i := 4) sc__law_ordered.nd rfl (Or.inl rfl))
          (pss_one (ps_if (pt_val (pcall d_law_below hr (pa_cons (pe_ix ix_list (pv 1) (pv 4) (fun _ _ => rfl)) (pa_cons (pv 2) pa_nil))))
            (pss_one (ps_set (i := 3) sc__law_ordered.nd rfl (Or.inl rfl) (pe_op op_add (pv 4) pe_int)))
            pss_nil)))
        (pss_one (ps_if (PW.pt (pw_or (pt_cmpR op_eq (pv 3) (pe_callB call_len_seq (by rfl) T.len_ PySem.boot_len (pa_cons (pv 1) pa_nil)) (nomark _)) (pw_or1 (pt_cmpR (op_neD hr.units) (pe_ix ix_list (pv 1) (pv 3) (fun _ _ => rfl)) (pv 2) (nomark _)))))
          (pss_one (ps_expr (pe_bm PySem.F.plainAttrs_list PySem.F.slot_list_insert PySem.F.type_list_insert mt_insert (pv 1) (pa_cons (pv 3) (pa_cons (pv 2) pa_nil)))))
          pss_nil)))))
      (pss_one (ps_ret (pv 1))))), ?_⟩
  have p62 : (2 : Int) ^ 62 = 4611686018427387904 := by decide
  have p63 : (2 : Int) ^ 63 = 9223372036854775808 := by decide
  refine ⟨Nat.zero_le _, fun D hD => ?_⟩
  refine ⟨_, rfl, a, rfl, ⟨_, (same_new hD _).seq hx⟩, for_list (K := K) (a := a) (xs := xs) (fun i σ G => ∃ (us : List V) (os : List Rat) (k1 k2 k3 : Option V), σ = [some (.ref a), some (.ref D), k1, k2, k3] ∧ Same H G ∧ G D = some (.lst us) ∧ All2 (Rq K G) us os ∧ Asc os ∧ (∀ o ∈ os, o ∈ qs) ∧ os.length ≤ i ∧ (0 < i → os ≠ []))
    ⟨[], [], none, none, none, rfl, same_new hD _, upd_same, All2.nil, List.Pairwise.nil, nofun, Nat.le_refl _, fun h => absurd h (by omega)⟩ (fun i σ G _ h => by obtain ⟨_, _, _, _, _, _, s1, _⟩ := h; exact s1.seq hx) ?_ ?_⟩
  · rintro i x σ G hxi ⟨us, os, k1, k2, k3, rfl, s1, hD1, hA, asc, sub, ln, _⟩
    have hi : i < qs.length := by rw [← hq.1]; exact (List.getElem?_eq_some_iff.mp hxi).1
    have hqi : qs[i]? = some qs[i] := List.getElem?_eq_getElem hi
    have hmem : qs[i] ∈ qs := List.getElem_mem hi
    have rx := (hq.2 i x _ hxi hqi).same s1
    obtain ⟨one, eo⟩ : ∃ o, o = qs[i] := ⟨_, rfl⟩
    rw [← eo] at rx hmem
    have zo := zq one hmem
    have zos : ∀ o ∈ os, Sz 40 o := fun o ho => zq o (sub o ho)
    have hal := hA.1
    refine ⟨_, rfl, D, _, rfl, .inl (SqL.of hD1), _, rfl, by omega, by omega, for_range (n := ((us.length : Nat) : Int).toNat) (fun j σ G' => ∃ (m : Nat) (k3 : Option V), σ = [some (.ref a), some (.ref D), some x, some (.int m), k3] ∧ G' = G ∧ Spot os one j m)
      ⟨0, k3, rfl, rfl, Nat.le_refl _, fun t o h => absurd h (by omega)⟩ ?_ ?_⟩
    · rintro j σ G' hj ⟨m, k3, rfl, rfl, sp⟩
      have hj' : j < os.length := by omega
      have hoj : os[j]? = some os[j] := List.getElem?_eq_getElem hj'
      obtain ⟨y, hy, ry⟩ := hA.at hoj
      have sn := spot_next asc sp hoj
      refine ⟨_, rfl, _, rfl, D, _, _, y, rfl, rfl, SqL.of hD1, at_of (j := j) (by omega) hy, _, rfl, _, _, os[j], one, 40, 40, rfl, ry, rx, zos _ (List.getElem_mem hj'), zo, by decide, _, rfl, ifD (fun g => ?_) (fun g => ?_)⟩
      · rw [if_pos g] at sn
        refine ⟨_, rfl, _, _, rfl, rfl, j + 1, some (.int (0 + (j : Int))), ?_, rfl, sn⟩
        show [some (V.ref a), some (V.ref D), some x, some (V.int (0 + (j : Int) + 1)), some (V.int (0 + (j : Int)))] = _
        rw [show (0 + (j : Int) + 1) = ((j + 1 : Nat) : Int) by omega]
      · rw [if_neg g] at sn
        exact ⟨m, _, rfl, rfl, sn⟩
    · rintro σ G' ⟨m, k3, rfl, rfl, sp⟩
      have sp : Spot os one os.length m := by
        have e : ((us.length : Nat) : Int).toNat = os.length := by omega
        rw [e] at sp
        exact sp
      have hm := sp.1
      have put : os[m]? ≠ some one → ∃ (us' : List V) (os' : List Rat) (k1 k2 k3' : Option V), [some (.ref a), some (.ref D), some x, some (.int m), k3] = [some (.ref a), some (.ref D), k1, k2, k3'] ∧ Same H (upd G' D (.lst (us.take m ++ [x] ++ us.drop m))) ∧ (upd G' D (.lst (us.take m ++ [x] ++ us.drop m))) D = some (.lst us') ∧
          All2 (Rq K (upd G' D (.lst (us.take m ++ [x] ++ us.drop m)))) us' os' ∧ Asc os' ∧ (∀ o ∈ os', o ∈ qs) ∧ os'.length ≤ i + 1 ∧ (0 < i + 1 → os' ≠ []) := fun hn => by
        have fr : Fr D G' (upd G' D (.lst (us.take m ++ [x] ++ us.drop m))) := Fr.upd _
        have hA' := hA.imp fun _ _ h => Rq.fr fr ⟨_, hD1⟩ h
        refine ⟨_, os.take m ++ [one] ++ os.drop m, _, _, _, rfl, same_upd s1 hD _, upd_same, ((hA'.take m).append (All2.one (rx.fr fr ⟨_, hD1⟩))).append (hA'.drop m), asc_insert asc sp hn, fun o ho => ?_, ?_, fun _ e => ?_⟩
        · rcases List.mem_append.mp ho with ho | ho
          · rcases List.mem_append.mp ho with ho | ho
            · exact sub o (List.mem_of_mem_take ho)
            · rw [List.mem_singleton.mp ho]
              exact hmem
          · exact sub o (List.mem_of_mem_drop ho)
        · rw [List.length_append, List.length_append, List.length_take, List.length_drop, List.length_singleton]
          omega
        · have := congrArg List.length e
          rw [List.length_append, List.length_append, List.length_singleton, List.length_nil] at this
          omega
      refine ⟨_, rfl, _, rfl, D, _, rfl, .inl (SqL.of hD1), rfl, _, rfl, ifD (fun g => ifT rfl ?_) (fun g => ?_)⟩
      · have g' := V.int.inj g
        have hn : os[m]? ≠ some one := by rw [List.getElem?_eq_none (by omega)]; exact nofun
        exact ⟨_, rfl, .inl ⟨rfl, _, SqL.of hD1⟩, _, rfl, _, rfl, D, _, _, _, rfl, rfl, hD1, le1000 (by omega), by omega, by omega, put hn⟩
      · have g' : m ≠ us.length := fun e => g (by rw [e])
        have hmo : os[m]? = some os[m] := List.getElem?_eq_getElem (by omega)
        obtain ⟨y, hy, ry⟩ := hA.at hmo
        refine ⟨_, rfl, _, rfl, D, _, _, y, rfl, rfl, SqL.of hD1, at_of (j := m) rfl hy, _, rfl, _, _, ry.dp, rx.dp, sh_dq _, sh_dq _, _, rfl, ?_⟩
        rw [eqv_dq]
        by_cases e : os[m] = one
        · refine ifF (by rw [dT e]; rfl) ⟨us, os, _, _, _, rfl, s1, hD1, hA, asc, sub, by omega, fun _ z => ?_⟩
          have z2 := congrArg List.length z
          rw [List.length_nil] at z2
          omega
        · refine ifT (by rw [dF e]; rfl) ?_
          have hn : os[m]? ≠ some one := by rw [hmo]; exact fun z => e (Option.some.inj z)
          exact ⟨_, rfl, .inl ⟨rfl, _, SqL.of hD1⟩, _, rfl, _, rfl, D, _, _, _, rfl, rfl, hD1, le1000 (by omega), by omega, by omega, put hn⟩
  · rintro σ G ⟨us, os, k1, k2, k3, rfl, s1, hD1, hA, asc, sub, ln, ne⟩
    rw [hq.1] at ln
    refine ⟨_, rfl, z D us os G s1 hD hD1 hA asc sub ln fun e => ne ?_⟩
    rw [hq.1]
    exact List.length_pos_iff.mpr e
end Vk
namespace Vk
open PySem L2 Vm
variable {l : Addr} {P : Program} {w : World} {K : PySem.W.Frag} {mg : Str → Option Value} {base : Heap} {k : Nat} {f f1 f2 f3 f4 f5 f6 f7 f8 f9 : Addr} {fd fd1 fd2 fd3 fd4 fd5 fd6 fd7 fd8 fd9 : FuncData}
theorem tyes {σ : L2.St} {H : Hp} {A B : Hp → Prop} (h : A H) : tYes σ H (fun b H3 => if b = true then A H3 else B H3) := by
  show (if true = true then A H else B H)
  rw [if_pos rfl]
  exact h
def spWide (K : PySem.W.Frag) (l : Addr) : Sp := fun vs H Q _ => ∃ (s : Addr), vs = [.ref s] ∧ Sto l s H ∧
  ∀ D us c H', Bun (Pq K) l s D H us c H' → 1 ≤ c.length → c.length ≤ 40 → Cok c → Cz 40 40 40 c → Q (.ref D) H'
theorem abs_nf {q : Rat} (h : q.num ≠ 0) : (mkRat (q.num.natAbs : Int) q.den).num = (q.num.natAbs : Int) ∧ (mkRat (q.num.natAbs : Int) q.den).den = q.den := nf q.den_nz (by rw [Int.natAbs_natCast]; exact q.reduced)
end Vk
namespace Vk
open PySem L2 Vm
/-! ### the mathematics of hits -/
theorem cok_lt {c : List Pc} (h : Cok c) : ∀ {j i : Nat} {p q : Pc}, i < j → c[i]? = some p → c[j]? = some q → p.s < q.s
  | 0, i, p, q, hij, _, _ => absurd hij (by omega)
  | j + 1, i, p, q, hij, hp, hq => by
    have hj : j < c.length := by have := (List.getElem?_eq_some_iff.mp hq).1; omega
    have e : c[j]? = some c[j] := List.getElem?_eq_getElem hj
    have h2 := h.2 j _ _ e hq
    by_cases hi : i = j
    · subst hi
      rw [e] at hp
      cases hp
      exact h2
    · exact rlt_trans (cok_lt h (by omega) hp e) h2
theorem hit_some {c : List Pc} {q t : Rat} {k : Nat} (h : hit c q k = some t) : ∃ p, c[k]? = some p ∧ t = tm p q ∧ p.s ≤ t ∧ before c (k + 1) t = true := by
  unfold hit at h
  cases e : c[k]? with
  | none => rw [e] at h; cases h
  | some p =>
    rw [e] at h
    dsimp only at h
    split at h
    · rename_i g
      cases h
      exact ⟨p, rfl, rfl, g.1, g.2⟩
    · cases h
/-- t lies in the k-th stretch -/
def inI (c : List Pc) (k : Nat) (t : Rat) : Bool := (match c[k]? with
  | none => false
  | some p => !decide (t < p.s)) && before c (k + 1) t
theorem before_lt {c : List Pc} {k : Nat} {t : Rat} {p : Pc} (h : before c k t = true) (e : c[k]? = some p) : t < p.s := by
  unfold before at h
  rw [e] at h
  exact of_decide_eq_true h
theorem hit_in {c : List Pc} {q t : Rat} {k : Nat} (h : hit c q k = some t) : inI c k t = true := by
  obtain ⟨p, e, _, h1, h2⟩ := hit_some h
  unfold inI
  rw [e, h2]
  have : ¬ t < p.s := by grind
  simp [this]
theorem hit_out {c : List Pc} (ok : Cok c) {q t : Rat} {k n : Nat} (h : hit c q n = some t) (hk : k ≠ n) : inI c k t = false := by
  obtain ⟨p, e, _, h1, h2⟩ := hit_some h
  unfold inI
  cases e2 : c[k]? with
  | none => rfl
  | some p2 =>
    dsimp only
    by_cases g : k < n
    · have hk1 : k + 1 < c.length := by have := (List.getElem?_eq_some_iff.mp e).1; omega
      have e3 : c[k + 1]? = some c[k + 1] := List.getElem?_eq_getElem hk1
      have : c[k + 1].s ≤ p.s := by
        by_cases g2 : k + 1 = n
        · subst g2
          rw [e3] at e
          cases e
          exact Rat.le_refl
        · have := cok_lt ok (show k + 1 < n by omega) e3 e
          grind
      have nb : before c (k + 1) t = false := by
        unfold before
        rw [e3]
        exact dF (by grind)
      rw [nb, Bool.and_false]
    · have h3 : before c (n + 1) t = true := h2
      have hn1 : n + 1 < c.length := by have := (List.getElem?_eq_some_iff.mp e2).1; omega
      have e3 : c[n + 1]? = some c[n + 1] := List.getElem?_eq_getElem hn1
      have h4 := before_lt h3 e3
      have : c[n + 1].s ≤ p2.s := by
        by_cases g2 : n + 1 = k
        · subst g2
          rw [e3] at e2
          cases e2
          exact Rat.le_refl
        · have := cok_lt ok (show n + 1 < k by omega) e3 e2
          grind
      have : t < p2.s := by grind
      simp [this]
theorem hits_in {c : List Pc} (ok : Cok c) (q : Rat) (k : Nat) : ∀ n, (hits c q n).filter (inI c k) = if k < n then (hit c q k).toList else []
  | 0 => by simp [hits]
  | n + 1 => by
    rw [hits_succ, List.filter_append, hits_in ok q k n]
    cases h : hit c q n with
    | none =>
      simp only [Option.toList, List.filter_nil, List.append_nil]
      by_cases e : k = n
      · subst e
        rw [if_neg (by omega), if_pos (by omega), h]
      · by_cases g : k < n
        · rw [if_pos g, if_pos (by omega)]
        · rw [if_neg g, if_neg (by omega)]
    | some t =>
      simp only [Option.toList]
      by_cases e : k = n
      · subst e
        rw [if_neg (by omega), if_pos (by omega), h, List.nil_append]
        simp [hit_in h]
      · have := hit_out ok h e
        simp only [List.filter_cons, this, Bool.false_eq_true, if_false, List.filter_nil, List.append_nil]
        by_cases g : k < n
        · rw [if_pos g, if_pos (by omega)]
        · rw [if_neg g, if_neg (by omega)]
theorem hits_mem {c : List Pc} {q t : Rat} {n : Nat} (h : t ∈ hits c q n) : ∃ k, k < n ∧ hit c q k = some t := by
  unfold hits at h
  obtain ⟨k, hk, e⟩ := List.mem_filterMap.mp h
  exact ⟨k, List.mem_range.mp hk, e⟩
theorem hits_asc {c : List Pc} (ok : Cok c) (q : Rat) : ∀ n, Asc (hits c q n)
  | 0 => by unfold hits; exact List.Pairwise.nil
  | n + 1 => by
    rw [hits_succ]
    unfold Asc
    rw [List.pairwise_append]
    refine ⟨hits_asc ok q n, ?_, fun a ha b hb => ?_⟩
    · cases hit c q n <;> simp [Option.toList]
    · cases h : hit c q n with
      | none => rw [h] at hb; cases hb
      | some t =>
        rw [h] at hb
        simp only [Option.toList, List.mem_singleton] at hb
        subst hb
        obtain ⟨k, hk, e⟩ := hits_mem ha
        obtain ⟨p, e1, _, g1, g2⟩ := hit_some e
        obtain ⟨p2, e2, _, g3, _⟩ := hit_some h
        have hn := (List.getElem?_eq_some_iff.mp e2).1
        have e3 : c[k + 1]? = some c[k + 1] := List.getElem?_eq_getElem (by omega)
        have g4 := before_lt g2 e3
        have : c[k + 1].s ≤ p2.s := by
          by_cases g5 : k + 1 = n
          · subst g5
            rw [e3] at e2
            cases e2
            exact Rat.le_refl
          · have := cok_lt ok (show k + 1 < n by omega) e3 e2
            grind
        grind
theorem tm_ge {p : Pc} {q : Rat} (r : 0 < p.r) : p.s ≤ tm p q ↔ p.v ≤ q := by
  have h : (q - p.v) / p.r * p.r = q - p.v := Rat.div_mul_cancel (by grind)
  unfold tm
  constructor
  · intro g
    have g1 : 0 ≤ (q - p.v) / p.r := by grind
    have g2 := Rat.mul_nonneg g1 (Rat.le_of_lt r)
    grind
  · intro g
    have g2 : ¬ (q - p.v) / p.r < 0 := fun z => by
      have := (Rat.mul_lt_mul_right r).mpr z
      grind
    grind
theorem tm_lt {p : Pc} {q s : Rat} (r : 0 < p.r) : tm p q < s ↔ q < p.v + p.r * (s - p.s) := by
  have h : (q - p.v) / p.r * p.r = q - p.v := Rat.div_mul_cancel (by grind)
  have e : tm p q < s ↔ (q - p.v) / p.r < s - p.s := by
    unfold tm
    constructor <;> intro g <;> grind
  rw [e, ← Rat.mul_lt_mul_right r, h]
  constructor <;> intro g <;> grind
theorem tm_back {p : Pc} {q : Rat} (r : 0 < p.r) : p.v + p.r * (tm p q - p.s) = q := by
  have h : (q - p.v) / p.r * p.r = q - p.v := Rat.div_mul_cancel (by grind)
  unfold tm
  grind
theorem filter_take {α : Type} (g : α → Bool) : ∀ {c : List α} {m : Nat}, (∀ i x, c[i]? = some x → (g x = true ↔ i < m)) → c.filter g = c.take m
  | [], m, _ => by simp
  | x :: r, 0, h => by
    have h0 := h 0 x rfl
    have : g x = false := by
      cases e : g x with
      | false => rfl
      | true => exact absurd (h0.mp e) (by omega)
    rw [List.filter_cons, this]
    simp only [Bool.false_eq_true, if_false]
    rw [filter_take g (m := 0) fun i y hy => by
      have := h (i + 1) y hy
      constructor
      · intro z; exact absurd (this.mp z) (by omega)
      · intro z; omega]
    simp
  | x :: r, m + 1, h => by
    have h0 := (h 0 x rfl).mpr (by omega)
    rw [List.filter_cons, if_pos h0, List.take_succ_cons, filter_take g (m := m) fun i y hy => by
      have := h (i + 1) y hy
      constructor
      · intro z; have := this.mp z; omega
      · intro z; exact this.mpr (by omega)]
theorem now_hit {c : List Pc} (ok : Cok c) {q t : Rat} {k : Nat} (h : hit c q k = some t) : nowf c t = some q := by
  obtain ⟨p, e, et, h1, h2⟩ := hit_some h
  have hk := (List.getElem?_eq_some_iff.mp e).1
  have ef : c.filter (on t) = c.take (k + 1) := filter_take _ fun i x hx => by
    unfold on
    constructor
    · intro z
      refine Nat.lt_of_not_le fun g => ?_
      have hk1 : k + 1 < c.length := by have := (List.getElem?_eq_some_iff.mp hx).1; omega
      have e3 : c[k + 1]? = some c[k + 1] := List.getElem?_eq_getElem hk1
      have h4 := before_lt h2 e3
      have : c[k + 1].s ≤ x.s := by
        by_cases g5 : k + 1 = i
        · subst g5
          rw [e3] at hx
          cases hx
          exact Rat.le_refl
        · have := cok_lt ok (show k + 1 < i by omega) e3 hx
          grind
      have : t < x.s := by grind
      simp [this] at z
    · intro z
      have : x.s ≤ p.s := by
        by_cases g5 : i = k
        · subst g5
          rw [e] at hx
          cases hx
          exact Rat.le_refl
        · have := cok_lt ok (show i < k by omega) hx e
          grind
      have : ¬ t < x.s := by grind
      simp [this]
  unfold nowf
  rw [ef, List.getLast?_eq_getElem?, List.length_take, List.getElem?_take]
  have e1 : min (k + 1) c.length - 1 = k := by omega
  rw [e1, if_pos (by omega), e]
  show some (p.v + p.r * (t - p.s)) = some q
  rw [et, tm_back (ok.1 p (List.mem_of_getElem? e))]
/-- whether the k-th piece shows the reading -/
theorem due_hit {c : List Pc} (ok : Cok c) {q : Rat} {k : Nat} {p : Pc} (e : c[k]? = some p) : (hit c q k).isSome = (!decide (q < p.v) && (match lim c k with
  | none => true
  | some b => decide (q < b))) := by
  have r := ok.1 p (List.mem_of_getElem? e)
  unfold hit lim
  rw [e]
  dsimp only
  have h1 := tm_ge (p := p) (q := q) r
  cases e2 : c[k + 1]? with
  | none =>
    have hb : before c (k + 1) (tm p q) = true := by unfold before; rw [e2]
    rw [hb]
    dsimp only
    by_cases g : q < p.v
    · have : ¬ p.s ≤ tm p q := fun z => by have := h1.mp z; grind
      simp [this, g]
    · have : p.s ≤ tm p q := h1.mpr (by grind)
      simp [this, g]
  | some p2 =>
    have h2 := tm_lt (p := p) (q := q) (s := p2.s) r
    have hb : before c (k + 1) (tm p q) = decide (tm p q < p2.s) := by unfold before; rw [e2]
    rw [hb]
    dsimp only
    by_cases g : q < p.v
    · have : ¬ p.s ≤ tm p q := fun z => by have := h1.mp z; grind
      simp [this, g]
    · have a1 : p.s ≤ tm p q := h1.mpr (by grind)
      by_cases g2 : tm p q < p2.s
      · have := h2.mp g2
        simp [a1, g, g2, this]
      · have : ¬ q < p.v + p.r * (p2.s - p.s) := fun z => g2 (h2.mpr z)
        simp [a1, g, g2, this]
theorem opt_len {α : Type} (o : Option α) : o.toList.length = if o.isSome = true then 1 else 0 := by cases o <;> rfl
theorem row_last {c : List Pc} (ok : Cok c) {q : Rat} {k : Nat} {p : Pc} (e : c[k]? = some p) (e2 : c[k + 1]? = none) :
    ((hits c q c.length).filter fun t => !decide (t < p.s)).length = if (!decide (q < p.v)) = true then 1 else 0 := by
  have hk := (List.getElem?_eq_some_iff.mp e).1
  have h1 := hits_in ok q k c.length
  rw [if_pos hk] at h1
  have h2 : (fun t => !decide (t < p.s)) = inI c k := by
    funext t
    unfold inI before
    rw [e, e2]
    simp
  have h3 := due_hit ok (q := q) e
  unfold lim at h3
  rw [e, e2] at h3
  dsimp only at h3
  rw [Bool.and_true] at h3
  rw [h2, h1, opt_len, h3]
theorem row_more {c : List Pc} (ok : Cok c) {q : Rat} {k : Nat} {p p2 : Pc} (e : c[k]? = some p) (e2 : c[k + 1]? = some p2) :
    (((hits c q c.length).filter fun t => !decide (t < p.s)).filter fun t => decide (t < p2.s)).length = if (!decide (q < p.v) && decide (q < p.v + p.r * (p2.s - p.s))) = true then 1 else 0 := by
  have hk := (List.getElem?_eq_some_iff.mp e).1
  have h1 := hits_in ok q k c.length
  rw [if_pos hk] at h1
  have h2 : (fun t => decide (t < p2.s) && !decide (t < p.s)) = inI c k := by
    funext t
    unfold inI before
    rw [e, e2]
    exact Bool.and_comm _ _
  have h3 := due_hit ok (q := q) e
  unfold lim at h3
  rw [e, e2] at h3
  dsimp only at h3
  rw [List.filter_filter, h2, h1, opt_len, h3]
end Vk
namespace Vk
open PySem L2 Vm
variable {l : Addr} {P : Program} {w : World} {K : PySem.W.Frag} {mg : Str → Option Value} {base : Heap} {k : Nat} {f f1 f2 f3 f4 f5 f6 f7 f8 f9 : Addr} {fd fd1 fd2 fd3 fd4 fd5 fd6 fd7 fd8 fd9 : FuncData}
theorem sz_hit {i j m n : Nat} {c : List Pc} (ok : Cok c) (cz : Cz i j m c) {q t : Rat} (zq : Sz n q) {k : Nat} (h : hit c q k = some t) : Sz (i + (n + j + 1 + m) + 1) t := by
  obtain ⟨p, e, rfl, _, _⟩ := hit_some h
  have hm := List.mem_of_getElem? e
  obtain ⟨z1, z2, z3⟩ := cz p hm
  exact z1.add ((zq.sub z2).div z3 (ok.1 p hm))
def spTR (K : PySem.W.Frag) : Sp := fun vs H Q _ => ∃ (a b : Addr) (y : V) (us : List V) (c : List Pc) (q : Rat) (i j l m : Nat), vs = [.ref a, y, .ref b] ∧ Cq K H a c ∧ Rq K H y q ∧ SqL K H b us ∧ All2 (Rq K H) us (hits c q c.length) ∧ Cok c ∧ Cz i j l c ∧ Sz m q ∧ c.length ≤ 1000 ∧ i + i + j + j + l + l + m + 20 ≤ 9000 ∧
  ∀ H', Same H H' → Q (.bl true) H'
end Vk
namespace Vk
open PySem PySem.Spec PyProof.Rows L2
section
variable {X : Cx}
/-- xs.count(y), data of any depth -/
def rCountD (K : PySem.W.Frag) : V → List V → Hp → VK → Prop := fun x xs H Q => ∃ (a : Addr) (y : V) (d : PyData) (ds : List PyData), x = V.ref a ∧ xs = [y] ∧ Dp K H (V.ref a) (.list ds) ∧ Dp K H y d ∧
  SeqAt.shaped (.list ds) = true ∧ SeqAt.shaped d = true ∧ Q (.int ((ds.countP fun z => PyData.eqv z d : Nat) : Int)) H
theorem mt_countD (hu : X.A.units + 65 < cLine) : MtR X "list.count" (rCountD X.K) := by
  intro pins s σ H x xs v us Q I rx rxs h
  obtain ⟨a, y, d, ds, rfl, rfl, hl, hy, sl, sd, q⟩ := h
  cases rx
  cases rxs with
  | cons ry rt =>
    rename_i uy ut
    cases rt
    obtain ⟨bs, r1⟩ := Dp.reads I d y uy hy ry
    have hxs : PyData.canLayAll0 ds = true := SeqAt.canLay_of_shaped sl
    have hroom : X.A.units + 1 + min (PyData.depthAll ds) d.depth < cLine := room_in_shaped sd hu
    cases hl with
    | lst hs ha =>
      obtain ⟨its, rv, ⟨⟨cls, dd, data, sls⟩, n, ho, hc, hdn, hdt⟩, hlen⟩ := I.list hs
      simp only at hc hdt
      subst hc hdt
      obtain ⟨as, h4⟩ := Dp.readsAll I ds _ its ha rv
      have hmap : its.map (SeqAt.readOf s.heap) = ds := SeqAt.readsAll_map ds its as hxs h4
      refine call_meets PySem.F.slot_list_count ⟨_, ho, rfl⟩ PySem.F.entry_list_count (PySem.F.args_list_count_2 _ _)
        (SeqAt.list_countAt a its.toArray n dd sls uy (fun u => PyData.eqv (SeqAt.readOf s.heap u) d)) ⟨ho, SeqAt.items_eqAt (vs := its.toArray) (show ReadsAll s.heap its.toArray.toList ds as from h4) r1 hxs (SeqAt.canLay_of_shaped sd) hroom, ?_⟩
      refine ⟨.int ((ds.countP fun z => PyData.eqv z d : Nat) : Int), H, I.tok _, ⟨s.toks, ?_⟩, q⟩
      have e : (its.toArray.toList.countP fun u => PyData.eqv (SeqAt.readOf s.heap u) d) = ds.countP fun z => PyData.eqv z d := by
        rw [← hmap, List.countP_map]
        rfl
      show Value.int ((its.toArray.toList.countP (fun u => PyData.eqv (SeqAt.readOf s.heap u) d) : Nat) : Int) s.toks = _
      rw [e]
end
end Vk
namespace Vk
open PySem L2 Vm
variable {l : Addr} {P : Program} {w : World} {K : PySem.W.Frag} {mg : Str → Option Value} {base : Heap} {k : Nat} {f f1 f2 f3 f4 f5 f6 f7 f8 f9 : Addr} {fd fd1 fd2 fd3 fd4 fd5 fd6 fd7 fd8 fd9 : FuncData}
theorem sm1 : 1 ≤ sizeLine := by decide
theorem Bun.made {α : Type} {R : Hp → V → α → Prop} {s D : Addr} {H0 G : Hp} {us : List V} {c : List α} (S : Sto l s G) (e : Fr s H0 G) (hD : G D = none) (h : All2 (R (upd G D (.lst us))) us c) : Bun R l s D H0 us c (upd G D (.lst us)) := by
  have nD := S.ne hD
  have f := same_new hD (.lst us)
  exact ⟨S.same f, e.trans (Fr.of f), nD, S.nl hD, e.free hD nD, upd_same, h⟩
/-- a tracked list with a course -/
def Ct (K : PySem.W.Frag) (H : Hp) (a : Addr) (xs : List V) (c : List Pc) : Prop := H a = some (.lst xs) ∧ All2 (Pq K H) xs c
theorem Ct.cq {H : Hp} {a : Addr} {xs : List V} {c : List Pc} (h : Ct K H a xs c) : Cq K H a c := ⟨xs, SqL.of h.1, h.2⟩
theorem Ct.same {H H' : Hp} {a : Addr} {xs : List V} {c : List Pc} (e : Same H H') (h : Ct K H a xs c) : Ct K H' a xs c := ⟨e _ _ h.1, h.2.imp fun _ _ h => h.same e⟩
theorem Ct.fr {s : Addr} {H H' : Hp} {a : Addr} {xs : List V} {c : List Pc} (e : Fr s H H') (hs : ∃ ys, H s = some (.lst ys)) (n : a ≠ s) (h : Ct K H a xs c) : Ct K H' a xs c := ⟨e _ _ h.1 n, h.2.imp fun _ _ h => h.fr e hs⟩
theorem all2_3 {α : Type} {R : V → α → Prop} {x y z : V} {a b c : α} (h1 : R x a) (h2 : R y b) (h3 : R z c) : All2 R [x, y, z] [a, b, c] := (((All2.nil.snoc h1).snoc h2).snoc h3 : All2 R ([] ++ [x] ++ [y] ++ [z]) ([] ++ [a] ++ [b] ++ [c]))
def spValues (K : PySem.W.Frag) (l : Addr) : Sp := fun vs H Q _ => ∃ (s a : Addr) (xs : List V) (c : List Pc), vs = [.ref s, .ref a] ∧ Sto l s H ∧ a ≠ s ∧ a ≠ l ∧ Ct K H a xs c ∧ Cz 245 925 5 c ∧ 1 ≤ c.length ∧ c.length ≤ 1000 ∧
  ∀ D us qs H', Bun (Rq K) l s D H us qs H' → (∀ q ∈ qs, Sz 2350 q) → 0 < qs.length → qs.length ≤ 100 → Q (.ref D) H'
end Vk
namespace Vk
open PySem L2 Vm
variable {l : Addr} {P : Program} {w : World} {K : PySem.W.Frag} {mg : Str → Option Value} {base : Heap} {k : Nat} {f f1 f2 f3 f4 f5 f6 f7 f8 f9 f10 f11 f12 f13 f14 : Addr} {fd fd1 fd2 fd3 fd4 fd5 fd6 fd7 fd8 fd9 fd10 fd11 fd12 fd13 fd14 : FuncData}
theorem hu65 {k : Nat} {A : Around} (hr : Room k A) : A.units + 65 < cLine := by have := hr.un; omega
/-- a promise with something left open -/
def exS {α : Type} (sp : α → Sp) : Sp := fun vs H Q E => ∃ x, sp x vs H Q E
theorem Def.ex {α : Type} [Inhabited α] {x : Str} {ps : List Str} {sp : α → Sp} (h : ∀ a, Def P w K mg base k x ps (sp a) f fd) : Def P w K mg base k x ps (exS sp) f fd :=
  ⟨⟨fun vs H Q E ⟨a, z⟩ => (h a).ok.len vs H Q E z, fun A outer s H args us vs Q E hr he hb hv ⟨a, z⟩ => (h a).ok.run A outer s H args us vs Q E hr he hb hv z⟩, (h default).m, (h default).kp, (h default).b⟩
theorem ixN_last {n : Nat} (h : 0 < n) {i : Int} (e : i = (n : Int) - 1) : ixN n i = some (n - 1) := by
  subst e
  unfold ixN
  rw [if_pos (by omega), if_pos (by omega)]
  congr 1
  omega
/-! ### data -/
def dpc (p : Pc) : PyData := .tuple [dq p.s, dq p.v, dq p.r]
theorem Pq.dp {H : Hp} {v : V} {p : Pc} (h : Pq K H v p) : Dp K H v (dpc p) := by
  obtain ⟨a, xs, xv, xr, rfl, h, h1, h2, h3⟩ := h
  exact .tup h (.cons h1.dp (.cons h2.dp (.cons h3.dp .nil)))
theorem dpall_of {α : Type} {R : V → α → Prop} {d : α → PyData} {H : Hp} (g : ∀ v p, R v p → Dp K H v (d p)) : ∀ {xs : List V} {c : List α}, All2 R xs c → DpAll K H xs (c.map d)
  | [], [], _ => .nil
  | [], _ :: _, h => absurd h.1 (by simp)
  | _ :: _, [], h => absurd h.1 (by simp)
  | x :: xs, p :: c, h => .cons (g _ _ (h.2 0 x p rfl rfl)) (dpall_of g ⟨by have := h.1; simp at this; exact this, fun i x p a b => h.2 (i + 1) x p a b⟩)
theorem tree_dpc (n : Nat) (p : Pc) : Tree (n + 2) (dpc p) := .tup (by show 3 ≤ 1000; decide) fun d h => by
  simp only [List.mem_cons, List.mem_nil_iff, or_false] at h
  rcases h with rfl | rfl | rfl <;> exact tree_dq _ _
theorem depth_dqs : ∀ T : List Rat, PyData.depthAll (T.map dq) ≤ 2
  | [] => by simp [PyData.depthAll]
  | t :: T => by
    have := depth_dqs T
    simp only [List.map_cons, PyData.depthAll]
    have : (dq t).depth ≤ 2 := by show PyData.depth (.tuple [.int t.num, .int (t.den : Int)]) ≤ 2; simp [PyData.depth, PyData.depthAll]
    omega
theorem lay_dqs : ∀ T : List Rat, PyData.canLayAll0 (T.map dq) = true
  | [] => rfl
  | t :: T => by
    have := lay_dqs T
    show (PyData.canLay0 (dq t) && PyData.canLayAll0 (T.map dq)) = true
    rw [this]
    rfl
theorem sh_dqs (T : List Rat) : SeqAt.shaped (.list (T.map dq)) = true := by
  have h1 := depth_dqs T
  have h2 := lay_dqs T
  show (PyData.canLay0 (.list (T.map dq)) && decide (PyData.depth (.list (T.map dq)) ≤ 64)) = true
  have h3 : PyData.canLay0 (.list (T.map dq)) = true := h2
  have h4 : PyData.depth (.list (T.map dq)) ≤ 64 := by simp only [PyData.depth]; omega
  rw [h3, decide_eq_true h4]
  rfl
/-! ### the course whose last piece is set -/
theorem hits_set {c : List Pc} (ok : Cok c) (hn : 0 < c.length) {q : Rat} {p : Pc} (hp : c[c.length - 1]? = some p) (hv : p.v = q) : (hits c q c.length).countP (fun t => decide (t = p.s)) = 1 := by
  have r := ok.1 p (List.mem_of_getElem? hp)
  have et : tm p q = p.s := by
    unfold tm
    rw [hv, show q - q = 0 from Rat.sub_self, Rat.div_def, Rat.zero_mul]
    grind
  have eh : hit c q (c.length - 1) = some p.s := by
    unfold hit before
    rw [hp, List.getElem?_eq_none (show c.length ≤ c.length - 1 + 1 by omega)]
    simp only [et, and_true]
    rw [if_pos Rat.le_refl]
  have e1 : c.length = c.length - 1 + 1 := by omega
  have e2 : hits c q c.length = hits c q (c.length - 1) ++ [p.s] := by
    conv => lhs; rw [e1]
    rw [hits_succ, eh]
    rfl
  have z : ∀ t ∈ hits c q (c.length - 1), t < p.s := fun t ht => by
    obtain ⟨j, hj, e⟩ := hits_mem ht
    obtain ⟨p1, g1, _, _, g2⟩ := hit_some e
    have hj1 : j + 1 < c.length := by omega
    have e3 : c[j + 1]? = some c[j + 1] := List.getElem?_eq_getElem hj1
    have g3 := before_lt g2 e3
    by_cases g : j + 1 = c.length - 1
    · rw [← g] at hp
      rw [e3] at hp
      have := Option.some.inj hp
      rw [this] at g3
      exact g3
    · have := cok_lt ok (show j + 1 < c.length - 1 by omega) e3 hp
      grind
  rw [e2, List.countP_append, List.countP_eq_zero.mpr fun t ht => by
    have := z t ht
    have : ¬ t = p.s := by grind
    simp [this]]
  simp
theorem all2_set {α : Type} {R : V → α → Prop} {xs : List V} {c : List α} {x : V} {p : α} (h : All2 R xs c) (n : Nat) (r : R x p) : All2 R (xs.set n x) (c.set n p) := by
  refine ⟨by rw [List.length_set, List.length_set, h.1], fun i y q a b => ?_⟩
  by_cases e : n = i
  · subst e
    rw [List.getElem?_set] at a b
    simp only [if_true] at a b
    split at a
    · split at b
      · cases a
        cases b
        exact r
      · cases b
    · cases a
  · rw [List.getElem?_set_ne e] at a b
    exact h.2 i y q a b
theorem cok_set {c : List Pc} (ok : Cok c) {n : Nat} {p p' : Pc} (hp : c[n]? = some p) (hs : p'.s = p.s) (hr : p'.r = p.r) : Cok (c.set n p') := by
  have key : ∀ (i : Nat) (x : Pc), (c.set n p')[i]? = some x → ∃ y, c[i]? = some y ∧ x.s = y.s ∧ x.r = y.r := fun i x h => by
    by_cases e : n = i
    · subst e
      rw [List.getElem?_set] at h
      simp only [if_true] at h
      split at h
      · cases h
        exact ⟨p, hp, hs, hr⟩
      · cases h
    · rw [List.getElem?_set_ne e] at h
      exact ⟨x, h, rfl, rfl⟩
  refine ⟨fun x hx => ?_, fun i x y hx hy => ?_⟩
  · obtain ⟨i, hi, rfl⟩ := List.mem_iff_getElem.mp hx
    obtain ⟨y, e1, _, e2⟩ := key i _ (List.getElem?_eq_getElem hi)
    rw [e2]
    exact ok.1 y (List.mem_of_getElem? e1)
  · obtain ⟨x1, a1, b1, _⟩ := key i x hx
    obtain ⟨y1, a2, b2, _⟩ := key (i + 1) y hy
    rw [b1, b2]
    exact ok.2 i x1 y1 a1 a2
theorem cz_set {c : List Pc} {i j j' m : Nat} (cz : Cz i j m c) (hj : j ≤ j') {n : Nat} {p' : Pc} (h : Sz i p'.s ∧ Sz j' p'.v ∧ Sz m p'.r) : Cz i j' m (c.set n p') := fun x hx => by
  rcases List.mem_or_eq_of_mem_set hx with hx | rfl
  · obtain ⟨z1, z2, z3⟩ := cz x hx
    exact ⟨z1, z2.mono hj, z3⟩
  · exact h
/-! ### what stands while the law goes on -/
structure St0 (K : PySem.W.Frag) (l s D1 D2 D3 : Addr) (us1 us2 : List V) (c1 c2 : List Pc) (G : Hp) : Prop where
  st : Sto l s G
  a1 : Ct K G D1 us1 c1
  a2 : Ct K G D2 us2 c2
  a3 : Ct K G D3 us1 c1
  n1 : D1 ≠ s
  n2 : D2 ≠ s
  n3 : D3 ≠ s
  m3 : D3 ≠ l
  n31 : D3 ≠ D1
  n32 : D3 ≠ D2
theorem St0.same {s D1 D2 D3 : Addr} {us1 us2 : List V} {c1 c2 : List Pc} {G G' : Hp} (h : St0 K l s D1 D2 D3 us1 us2 c1 c2 G) (e : Same G G') : St0 K l s D1 D2 D3 us1 us2 c1 c2 G' :=
  { h with st := h.st.same e, a1 := h.a1.same e, a2 := h.a2.same e, a3 := h.a3.same e }
theorem St0.fr {s D1 D2 D3 : Addr} {us1 us2 : List V} {c1 c2 : List Pc} {G G' : Hp} (h : St0 K l s D1 D2 D3 us1 us2 c1 c2 G) (e : Fr s G G') (S : Sto l s G') : St0 K l s D1 D2 D3 us1 us2 c1 c2 G' :=
  { h with st := S, a1 := h.a1.fr e h.st.some h.n1, a2 := h.a2.fr e h.st.some h.n2, a3 := h.a3.fr e h.st.some h.n3 }
theorem St0.app {s D1 D2 D3 D : Addr} {us1 us2 ys zs : List V} {c1 c2 : List Pc} {G : Hp} (h : St0 K l s D1 D2 D3 us1 us2 c1 c2 G) (hD : G D = some (.lst ys)) (ns : D ≠ s) (nl : D ≠ l) (k1 : D1 ≠ D) (k2 : D2 ≠ D) (k3 : D3 ≠ D) : St0 K l s D1 D2 D3 us1 us2 c1 c2 (upd G D (.lst zs)) :=
  { h with st := h.st.upd ns nl, a1 := h.a1.fr (Fr.upd _) ⟨_, hD⟩ k1, a2 := h.a2.fr (Fr.upd _) ⟨_, hD⟩ k2, a3 := h.a3.fr (Fr.upd _) ⟨_, hD⟩ k3 }
/-- a list of rationals -/
def Lq (K : PySem.W.Frag) (G : Hp) (D : Addr) (us : List V) (qs : List Rat) : Prop := G D = some (.lst us) ∧ All2 (Rq K G) us qs
theorem Lq.same {G G' : Hp} {D : Addr} {us : List V} {qs : List Rat} (h : Lq K G D us qs) (e : Same G G') : Lq K G' D us qs := ⟨e _ _ h.1, h.2.imp fun _ _ h => h.same e⟩
theorem Lq.fr {s : Addr} {G G' : Hp} {D : Addr} {us : List V} {qs : List Rat} (h : Lq K G D us qs) (e : Fr s G G') (hs : ∃ ys, G s = some (.lst ys)) (n : D ≠ s) : Lq K G' D us qs := ⟨e _ _ h.1 n, h.2.imp fun _ _ h => h.fr e hs⟩
theorem ne_at {G : Hp} {a b : Addr} {o : HO} (h : G a = some o) (n : G b = none) : a ≠ b := fun e => by rw [e, n] at h; cases h
end Vk
namespace Vk
open PySem L2 Vm
/-! ### lines, what stays of a course, jumps -/
def ky (p : Pc) : Rat × Rat := (p.r, p.v - p.r * p.s)
def jmp (k : Rat × Rat) (q : Pc) : Rat := q.v - (k.2 + k.1 * q.s)
def vl (t : Rat) (p : Pc) : Rat := p.v + p.r * (t - p.s)
theorem ky_eq {p q : Pc} : ky q = ky p ↔ q.r = p.r ∧ jmp (ky p) q = 0 := by
  unfold jmp ky
  constructor
  · intro h
    have h1 := congrArg Prod.fst h
    have h2 := congrArg Prod.snd h
    dsimp only at h1 h2 ⊢
    exact ⟨h1, by rw [h1] at h2; grind⟩
  · rintro ⟨h1, h2⟩
    dsimp only at h2
    rw [h1]
    congr 1
    grind
theorem jmp_at (p q : Pc) : q.v - (p.v + p.r * (q.s - p.s)) = jmp (ky p) q := by
  unfold jmp ky
  dsimp only
  grind
theorem vl_ky {p q : Pc} (h : ky q = ky p) (t : Rat) : vl t q = vl t p := by
  have h1 := congrArg Prod.fst h
  have h2 := congrArg Prod.snd h
  unfold ky at h1 h2
  dsimp only at h1 h2
  unfold vl
  grind
def tlG : Rat × Rat → List Pc → List Pc
  | _, [] => []
  | k, q :: c => if ky q = k then tlG k c else q :: tlG (ky q) c
def tl : List Pc → List Pc
  | [] => []
  | p :: c => p :: tlG (ky p) c
def jlG : Rat × Rat → List Pc → List (Rat × Rat)
  | _, [] => []
  | k, q :: c => if jmp k q = 0 then jlG (ky q) c else (q.s, jmp k q) :: jlG (ky q) c
def jl : List Pc → List (Rat × Rat)
  | [] => []
  | p :: c => jlG (ky p) c
theorem jmp0 {k : Rat × Rat} {q : Pc} (h : ky q = k) : jmp k q = 0 := by
  subst h
  unfold jmp ky
  dsimp only
  grind
theorem tlG_snoc (p q : Pc) : ∀ (c : List Pc) (k : Rat × Rat), tlG k (c ++ [p, q]) = tlG k (c ++ [p]) ++ if ky q = ky p then [] else [q]
  | [], k => by
    show tlG k [p, q] = tlG k [p] ++ _
    unfold tlG
    by_cases h : ky p = k
    · rw [if_pos h, if_pos h]
      unfold tlG
      rw [← h]
      by_cases g : ky q = ky p
      · rw [if_pos g, if_pos g]; rfl
      · rw [if_neg g, if_neg g]; rfl
    · rw [if_neg h, if_neg h]
      unfold tlG
      by_cases g : ky q = ky p
      · rw [if_pos g, if_pos g]; rfl
      · rw [if_neg g, if_neg g]; rfl
  | x :: c, k => by
    show tlG k (x :: (c ++ [p, q])) = tlG k (x :: (c ++ [p])) ++ _
    unfold tlG
    by_cases h : ky x = k
    · rw [if_pos h, if_pos h, tlG_snoc p q c k]
    · rw [if_neg h, if_neg h, tlG_snoc p q c (ky x)]
      rfl
theorem jlG_snoc (p q : Pc) : ∀ (c : List Pc) (k : Rat × Rat), jlG k (c ++ [p, q]) = jlG k (c ++ [p]) ++ if jmp (ky p) q = 0 then [] else [(q.s, jmp (ky p) q)]
  | [], k => by
    show jlG k [p, q] = jlG k [p] ++ _
    unfold jlG
    by_cases h : jmp k p = 0
    · rw [if_pos h, if_pos h]
      unfold jlG
      by_cases g : jmp (ky p) q = 0
      · rw [if_pos g, if_pos g]; rfl
      · rw [if_neg g, if_neg g]; rfl
    · rw [if_neg h, if_neg h]
      unfold jlG
      by_cases g : jmp (ky p) q = 0
      · rw [if_pos g, if_pos g]; rfl
      · rw [if_neg g, if_neg g]; rfl
  | x :: c, k => by
    show jlG k (x :: (c ++ [p, q])) = jlG k (x :: (c ++ [p])) ++ _
    unfold jlG
    by_cases h : jmp k x = 0
    · rw [if_pos h, if_pos h, jlG_snoc p q c (ky x)]
    · rw [if_neg h, if_neg h, jlG_snoc p q c (ky x)]
      rfl
theorem take_two {c : List Pc} {i : Nat} {p q : Pc} (e1 : c[i]? = some p) (e2 : c[i + 1]? = some q) : c.take (i + 1) = c.take i ++ [p] ∧ c.take (i + 2) = c.take i ++ [p, q] := by
  have h1 : c.take (i + 1) = c.take i ++ [p] := by rw [List.take_add_one, e1]; rfl
  refine ⟨h1, ?_⟩
  rw [List.take_add_one, h1, e2, List.append_assoc]
  rfl
theorem tl_next {c : List Pc} {i : Nat} {p q : Pc} (e1 : c[i]? = some p) (e2 : c[i + 1]? = some q) : tl (c.take (i + 2)) = tl (c.take (i + 1)) ++ if ky q = ky p then [] else [q] := by
  obtain ⟨h1, h2⟩ := take_two e1 e2
  rw [h1, h2]
  cases h : c.take i with
  | nil =>
    show p :: tlG (ky p) [q] = _
    unfold tlG
    by_cases g : ky q = ky p
    · rw [if_pos g, if_pos g]; rfl
    · rw [if_neg g, if_neg g]; rfl
  | cons x d =>
    show x :: tlG (ky x) (d ++ [p, q]) = x :: tlG (ky x) (d ++ [p]) ++ _
    rw [tlG_snoc]
    rfl
theorem jl_next {c : List Pc} {i : Nat} {p q : Pc} (e1 : c[i]? = some p) (e2 : c[i + 1]? = some q) : jl (c.take (i + 2)) = jl (c.take (i + 1)) ++ if jmp (ky p) q = 0 then [] else [(q.s, jmp (ky p) q)] := by
  obtain ⟨h1, h2⟩ := take_two e1 e2
  rw [h1, h2]
  cases h : c.take i with
  | nil =>
    show jlG (ky p) [q] = _
    unfold jlG
    by_cases g : jmp (ky p) q = 0
    · rw [if_pos g, if_pos g]; rfl
    · rw [if_neg g, if_neg g]; rfl
  | cons x d =>
    show jlG (ky x) (d ++ [p, q]) = jlG (ky x) (d ++ [p]) ++ _
    rw [jlG_snoc]
theorem tlG_tlG : ∀ (c : List Pc) (k : Rat × Rat), tlG k (tlG k c) = tlG k c
  | [], k => rfl
  | q :: c, k => by
    by_cases h : ky q = k
    · have e1 : tlG k (q :: c) = tlG k c := by rw [tlG, if_pos h]
      rw [e1, tlG_tlG c k]
    · have e1 : ∀ d, tlG k (q :: d) = q :: tlG (ky q) d := fun d => by rw [tlG, if_neg h]
      rw [e1, e1, tlG_tlG c (ky q)]
theorem tl_tl (c : List Pc) : tl (tl c) = tl c := by
  cases c with
  | nil => rfl
  | cons p c =>
    show p :: tlG (ky p) (tlG (ky p) c) = _
    rw [tlG_tlG]
    rfl
theorem jlG_tlG : ∀ (c : List Pc) (k : Rat × Rat), jlG k (tlG k c) = jlG k c
  | [], k => rfl
  | q :: c, k => by
    by_cases h : ky q = k
    · have e1 : tlG k (q :: c) = tlG k c := by rw [tlG, if_pos h]
      have e2 : jlG k (q :: c) = jlG (ky q) c := by rw [jlG, if_pos (jmp0 h)]
      rw [e1, e2, h, jlG_tlG c k]
    · have e1 : tlG k (q :: c) = q :: tlG (ky q) c := by rw [tlG, if_neg h]
      rw [e1, jlG, jlG, jlG_tlG c (ky q)]
theorem jl_tl (c : List Pc) : jl (tl c) = jl c := by
  cases c with
  | nil => rfl
  | cons p c => exact jlG_tlG c (ky p)
theorem tlG_mem : ∀ (c : List Pc) (k : Rat × Rat), (tlG k c).Sublist c
  | [], k => List.Sublist.slnil
  | q :: c, k => by
    rw [tlG]
    split
    · exact (tlG_mem c k).cons q
    · exact (tlG_mem c (ky q)).cons₂ q
theorem tl_sub (c : List Pc) : (tl c).Sublist c := by
  cases c with
  | nil => exact List.Sublist.slnil
  | cons p c => exact (tlG_mem c (ky p)).cons₂ p
theorem tl_pos {c : List Pc} (h : 0 < c.length) : 0 < (tl c).length := by
  cases c with
  | nil => exact absurd h (by simp)
  | cons p c => exact Nat.succ_pos _
/-! ### ascending -/
def AscP (c : List Pc) : Prop := c.Pairwise fun p q => p.s < q.s
theorem ascP_of {c : List Pc} (ok : Cok c) : AscP c := by
  unfold AscP
  rw [List.pairwise_iff_getElem]
  intro i j hi hj hij
  exact cok_lt ok hij (List.getElem?_eq_getElem hi) (List.getElem?_eq_getElem hj)
theorem cok_of {c : List Pc} (a : AscP c) (r : ∀ p ∈ c, 0 < p.r) : Cok c := by
  refine ⟨r, fun i p q e1 e2 => ?_⟩
  have h1 := List.getElem?_eq_some_iff.mp e1
  have h2 := List.getElem?_eq_some_iff.mp e2
  have := (List.pairwise_iff_getElem.mp a) i (i + 1) h1.1 h2.1 (by omega)
  rw [h1.2, h2.2] at this
  exact this
theorem cok_tl {c : List Pc} (ok : Cok c) : Cok (tl c) := cok_of ((ascP_of ok).sublist (tl_sub c)) fun p hp => ok.1 p ((tl_sub c).subset hp)
theorem cz_tl {i j m : Nat} {c : List Pc} (z : Cz i j m c) : Cz i j m (tl c) := fun p hp => z p ((tl_sub c).subset hp)
/-! ### what is shown -/
def nG (t : Rat) : Option Rat → List Pc → Option Rat
  | d, [] => d
  | d, q :: c => nG t (if on t q = true then some (vl t q) else d) c
theorem nG_now (t : Rat) : ∀ (c : List Pc) (d : Option Rat), nG t d c = (((c.filter (on t)).getLast?).map (vl t)).or d
  | [], d => rfl
  | q :: c, d => by
    show nG t _ c = _
    rw [nG_now t c, List.filter_cons]
    by_cases h : on t q = true
    · rw [if_pos h, if_pos h, List.getLast?_cons]
      cases (c.filter (on t)).getLast? <;> rfl
    · rw [if_neg h, if_neg h]
theorem now_nG (c : List Pc) (t : Rat) : nowf c t = nG t none c := by
  rw [nG_now, Option.or_none]
  rfl
theorem on_le {t : Rat} {p q : Pc} (h : on t q = true) (l : p.s < q.s) : on t p = true := by
  unfold on at h ⊢
  have : ¬ t < q.s := by simpa using h
  have : ¬ t < p.s := by grind
  simpa using this
theorem nG_tlG (t : Rat) : ∀ (c : List Pc) (p : Pc) (d : Option Rat), AscP (p :: c) → (∀ q ∈ c, on t q = true → d = some (vl t p)) → nG t d (tlG (ky p) c) = nG t d c
  | [], p, d, _, _ => rfl
  | q :: c, p, d, a, h => by
    have a1 : AscP (q :: c) := (List.pairwise_cons.mp a).2
    have a2 : AscP (p :: c) := a.sublist ((List.sublist_cons_self q c).cons₂ p)
    by_cases g : ky q = ky p
    · rw [tlG, if_pos g]
      have e : (if on t q = true then some (vl t q) else d) = d := by
        split
        · rename_i o
          rw [h q (List.mem_cons_self ..) o, vl_ky g]
        · rfl
      show _ = nG t (if on t q = true then some (vl t q) else d) c
      rw [e]
      exact nG_tlG t c p d a2 fun x hx => h x (List.mem_cons_of_mem _ hx)
    · rw [tlG, if_neg g]
      show nG t (if on t q = true then some (vl t q) else d) (tlG (ky q) c) = nG t (if on t q = true then some (vl t q) else d) c
      refine nG_tlG t c q _ a1 fun x hx o => ?_
      rw [if_pos (on_le o ((List.pairwise_cons.mp a1).1 x hx))]
theorem now_tl {c : List Pc} (ok : Cok c) (t : Rat) : nowf (tl c) t = nowf c t := by
  rw [now_nG, now_nG]
  cases c with
  | nil => rfl
  | cons p c =>
    show nG t (if on t p = true then some (vl t p) else none) (tlG (ky p) c) = nG t (if on t p = true then some (vl t p) else none) c
    refine nG_tlG t c p _ (ascP_of ok) fun x hx o => ?_
    rw [if_pos (on_le o ((List.pairwise_cons.mp (ascP_of ok)).1 x hx))]
theorem now_at {c : List Pc} (ok : Cok c) {t : Rat} {k : Nat} {p : Pc} (e : c[k]? = some p) (h1 : ¬ t < p.s) (h2 : ∀ q, c[k + 1]? = some q → t < q.s) : nowf c t = some (vl t p) := by
  have hk := (List.getElem?_eq_some_iff.mp e).1
  have ef : c.filter (on t) = c.take (k + 1) := filter_take _ fun i x hx => by
    unfold on
    constructor
    · intro z
      refine Nat.lt_of_not_le fun g => ?_
      have hk1 : k + 1 < c.length := by have := (List.getElem?_eq_some_iff.mp hx).1; omega
      have e3 : c[k + 1]? = some c[k + 1] := List.getElem?_eq_getElem hk1
      have h4 := h2 _ e3
      have : c[k + 1].s ≤ x.s := by
        by_cases g5 : k + 1 = i
        · subst g5
          rw [e3] at hx
          cases hx
          exact Rat.le_refl
        · have := cok_lt ok (show k + 1 < i by omega) e3 hx
          grind
      have : t < x.s := by grind
      simp [this] at z
    · intro z
      have : x.s ≤ p.s := by
        by_cases g5 : i = k
        · subst g5
          rw [e] at hx
          cases hx
          exact Rat.le_refl
        · have := cok_lt ok (show i < k by omega) hx e
          grind
      have : ¬ t < x.s := by grind
      simp [this]
  unfold nowf
  rw [ef, List.getLast?_eq_getElem?, List.length_take, List.getElem?_take]
  have e1 : min (k + 1) c.length - 1 = k := by omega
  rw [e1, if_pos (by omega), e]
  rfl
/-! ### pieces that continue -/
def goes (c : List Pc) (i : Nat) : Bool := match i with
  | 0 => false
  | j + 1 => match c[j]?, c[j + 1]? with
    | some p, some q => decide (ky q = ky p)
    | _, _ => false
theorem goes_succ (c : List Pc) (j : Nat) : goes c (j + 1) = match c[j]?, c[j + 1]? with
    | some p, some q => decide (ky q = ky p)
    | _, _ => false := rfl
theorem goes_at {c : List Pc} {j : Nat} {p q : Pc} (e1 : c[j]? = some p) (e2 : c[j + 1]? = some q) : goes c (j + 1) = decide (ky q = ky p) := by
  rw [goes_succ, e1, e2]
def gl (c : List Pc) (n : Nat) : List Nat := (List.range n).filter (goes c)
theorem gl_succ (c : List Pc) (n : Nat) : gl c (n + 1) = gl c n ++ if goes c n = true then [n] else [] := by
  unfold gl
  rw [List.range_succ, List.filter_append]
  congr 1
  by_cases h : goes c n = true <;> simp [h]
def Nc : Rat × Rat → List Pc → Prop
  | _, [] => True
  | k, q :: c => ky q ≠ k ∧ Nc (ky q) c
theorem nc_tlG : ∀ (c : List Pc) (k : Rat × Rat), Nc k (tlG k c)
  | [], k => trivial
  | q :: c, k => by
    rw [tlG]
    split
    · exact nc_tlG c k
    · rename_i h
      exact ⟨h, nc_tlG c (ky q)⟩
theorem nc_at : ∀ (c : List Pc) (p : Pc), Nc (ky p) c → ∀ i x y, (p :: c)[i]? = some x → (p :: c)[i + 1]? = some y → ky y ≠ ky x
  | [], p, _, i, x, y, _, e2 => by simp at e2
  | q :: c, p, h, 0, x, y, e1, e2 => by
    simp at e1 e2
    subst e1 e2
    exact h.1
  | q :: c, p, h, i + 1, x, y, e1, e2 => nc_at c q h.2 i x y (by simpa using e1) (by simpa using e2)
theorem goes_tl (c : List Pc) (i : Nat) : goes (tl c) i = false := by
  cases i with
  | zero => rfl
  | succ j =>
    rw [goes_succ]
    cases e1 : (tl c)[j]? with
    | none => rfl
    | some x =>
      cases e2 : (tl c)[j + 1]? with
      | none => rfl
      | some y =>
        cases c with
        | nil => simp [tl] at e1
        | cons p c => exact dF (nc_at _ p (nc_tlG c (ky p)) j x y e1 e2)
theorem gl_tl (c : List Pc) (n : Nat) : gl (tl c) n = [] := by
  unfold gl
  rw [List.filter_eq_nil_iff]
  intro i _
  rw [goes_tl]
  exact Bool.false_ne_true
/-! ### a piece more that continues -/
theorem tlG_ins {p x : Pc} (h : ky x = ky p) : ∀ (a b : List Pc) (k : Rat × Rat), tlG k (a ++ p :: x :: b) = tlG k (a ++ p :: b)
  | [], b, k => by
    show tlG k (p :: x :: b) = tlG k (p :: b)
    by_cases g : ky p = k
    · rw [tlG, if_pos g, tlG, if_pos (h.trans g), tlG, if_pos g]
    · rw [tlG, if_neg g, tlG, if_pos h, tlG, if_neg g]
  | y :: a, b, k => by
    show tlG k (y :: (a ++ p :: x :: b)) = tlG k (y :: (a ++ p :: b))
    by_cases g : ky y = k
    · rw [tlG, if_pos g, tlG, if_pos g, tlG_ins h a b k]
    · rw [tlG, if_neg g, tlG, if_neg g, tlG_ins h a b (ky y)]
theorem tl_ins {p x : Pc} (h : ky x = ky p) (a b : List Pc) : tl (a ++ p :: x :: b) = tl (a ++ p :: b) := by
  cases a with
  | nil =>
    show p :: tlG (ky p) (x :: b) = p :: tlG (ky p) b
    rw [tlG, if_pos h]
  | cons y a =>
    show y :: tlG (ky y) (a ++ p :: x :: b) = y :: tlG (ky y) (a ++ p :: b)
    rw [tlG_ins h]
theorem jlG_ins {p x : Pc} (h : ky x = ky p) : ∀ (a b : List Pc) (k : Rat × Rat), jlG k (a ++ p :: x :: b) = jlG k (a ++ p :: b)
  | [], b, k => by
    show jlG k (p :: x :: b) = jlG k (p :: b)
    rw [jlG, jlG, if_pos (jmp0 h), h, jlG]
  | y :: a, b, k => by
    show jlG k (y :: (a ++ p :: x :: b)) = jlG k (y :: (a ++ p :: b))
    rw [jlG, jlG, jlG_ins h a b (ky y)]
theorem jl_ins {p x : Pc} (h : ky x = ky p) (a b : List Pc) : jl (a ++ p :: x :: b) = jl (a ++ p :: b) := by
  cases a with
  | nil =>
    show jlG (ky p) (x :: b) = jlG (ky p) b
    rw [jlG, if_pos (jmp0 h), h]
  | cons y a =>
    show jlG (ky y) (a ++ p :: x :: b) = jlG (ky y) (a ++ p :: b)
    rw [jlG_ins h]
end Vk
namespace Vk
open PySem L2 Vm
variable {l az : Addr} {P : Program} {w : World} {K : PySem.W.Frag} {mg : Str → Option Value} {base : Heap} {k : Nat} {f f1 f2 f3 f4 f5 f6 f7 f8 f9 : Addr} {fd fd1 fd2 fd3 fd4 fd5 fd6 fd7 fd8 fd9 : FuncData}
/-! ### the program's side -/
structure Zr (K : PySem.W.Frag) (mg : Str → Option Value) (az : Addr) : Prop where
  m : mg "ZERO" = some (.ref az)
  q : ∀ H, Rq K H (.ref az) 0
abbrev s_multiply : Stmt := top 11
abbrev N_multiply : List Str := ["a", "b"]
theorem sc_multiply : FnScope N_multiply ["a", "b"] (defScope s_multiply) := ⟨rfl, rfl, rfl, by decide +kernel, rfl, by decide +kernel, by decide +kernel⟩
abbrev ps_multiply : List Str := ["a", "b"]
theorem ok_multiply (F : Fn K mg "multiply" s_multiply ps_multiply f fd) (drational : Def P w K mg base k "rational" ["n", "d"] (spFrac K) f1 fd1) : Def P w K mg base (k + 1) "multiply" ps_multiply (spOp2 K (· * ·)) f fd := by
  refine ⟨F.F.ok sc_multiply (fun vs H Q E h => ?_) (fun cdv A outer s H vs Q E hr h => ?_), F.m, F.F.kp, F.b⟩
  · obtain ⟨x, y, p, q, m, l, rfl, _⟩ := h
    rfl
  obtain ⟨x, y, p, q, m, l, rfl, ⟨a, rfl, ha⟩, ⟨b, rfl, hb⟩, zp, zq, hm, z⟩ := h
  have m0 := nn zp
  have l0 := nn zq
  refine ⟨_, (pss_one (ps_ret (pcall drational hr (pa_cons (pe_op op_mulW (pe_ix ix_tup (pv 0) pe_int (fun _ _ => rfl)) (pe_ix ix_tup (pv 1) pe_int (fun _ _ => rfl))) (pa_cons (pe_op op_mulW (pe_ix ix_tup (pv 0) pe_int (fun _ _ => rfl)) (pe_ix ix_tup (pv 1) pe_int (fun _ _ => rfl))) pa_nil))))), ?_⟩
  refine ⟨_, rfl, a, _, _, _, rfl, rfl, ha, at0 rfl, _, rfl, b, _, _, _, rfl, rfl, hb, at0 rfl, _, _, rfl, rfl, mulW zp.1 zq.1 m0 l0 (by omega), ?_⟩
  refine ⟨_, rfl, a, _, _, _, rfl, rfl, ha, at1 rfl, _, rfl, b, _, _, _, rfl, rfl, hb, at1 rfl, _, _, rfl, rfl, mulW (dA zp) (dA zq) m0 l0 (by omega), ?_⟩
  refine ⟨_, _, m + l, rfl, dd_pos p q, ab_mul zp.1 zq.1, ab_mul (dA zp) (dA zq), by omega, fun r H' e hr => z r H' e ?_⟩
  rw [mk_mul] at hr
  exact hr
abbrev s__shown_by : Stmt := top 16
abbrev N__shown_by : List Str := ["piece", "t", "start", "shown", "rate"]
theorem sc__shown_by : FnScope N__shown_by ["piece", "t"] (defScope s__shown_by) := ⟨rfl, rfl, rfl, by decide +kernel, rfl, by decide +kernel, by decide +kernel⟩
abbrev ps__shown_by : List Str := ["piece", "t"]
def spShown (K : PySem.W.Frag) : Sp := fun vs H Q _ => ∃ (x y : V) (p : Pc) (t : Rat) (i j l m : Nat), vs = [x, y] ∧ Pq K H x p ∧ Rq K H y t ∧ Sz i p.s ∧ Sz j p.v ∧ Sz l p.r ∧ Sz m t ∧ j + l + m + i + 3 ≤ 9000 ∧
  ∀ r H', Same H H' → Rq K H' r (p.v + p.r * (t - p.s)) → Q r H'
theorem ok_shown_by (F : Fn K mg "_shown_by" s__shown_by ps__shown_by f fd) (dadd : Def P w K mg base k "add" ["a", "b"] (spOp2 K (· + ·)) f1 fd1) (dmultiply : Def P w K mg base k "multiply" ["a", "b"] (spOp2 K (· * ·)) f2 fd2) (dsubtract : Def P w K mg base k "subtract" ["a", "b"] (spOp2 K (· - ·)) f3 fd3) :
    Def P w K mg base (k + 1) "_shown_by" ps__shown_by (spShown K) f fd := by
  refine ⟨F.F.ok sc__shown_by (fun vs H Q E h => ?_) (fun cdv A outer s H vs Q E hr h => ?_), F.m, F.F.kp, F.b⟩
  · obtain ⟨x, y, p, q, i, j, l, m, rfl, _⟩ := h
    rfl
  obtain ⟨x, y, p, t, i, j, l, m, rfl, ⟨a, xs, xv, xr, rfl, ha, hs, hv, hr'⟩, hy, zs, zv, zr, zt, hb, z⟩ := h
  refine ⟨_, (pss_cons (ps_asg (pv 0) (pg_tup rfl (pgs_cons (pg_name (i := 2) sc__shown_by.nd rfl (Or.inl rfl)) (pgs_cons (pg_name (i := 3) sc__shown_by.nd rfl (Or.inl rfl)) (pgs_cons (pg_name (i := 4) sc__shown_by.nd rfl (Or.inl rfl)) pgs_nil)))))
      (pss_one (ps_ret (pcall dadd hr (pa_cons (pv 3) (pa_cons (pcall dmultiply hr (pa_cons (pv 4) (pa_cons (pcall dsubtract hr (pa_cons (pv 1) (pa_cons (pv 2) pa_nil))) pa_nil))) pa_nil)))))), ?_⟩
  refine ⟨_, rfl, a, _, rfl, ha, rfl, _, _, rfl, _, _, rfl, _, _, rfl, rfl, ?_⟩
  refine ⟨_, rfl, _, rfl, _, rfl, _, rfl, _, _, t, p.s, m, i, rfl, hy, hs, zt, zs, by omega, fun r1 H1 e1 h1 => ?_⟩
  refine ⟨_, _, p.r, t - p.s, l, m + i + 1, rfl, hr'.same e1, h1, zr, zt.sub zs, by omega, fun r2 H2 e2 h2 => ?_⟩
  exact ⟨_, _, p.v, p.r * (t - p.s), j, l + (m + i + 1), rfl, hv.same (e1.trans e2), h2, zv, zr.mul (zt.sub zs), by omega, fun r3 H3 e3 h3 => z _ _ (e1.trans (e2.trans e3)) h3⟩
abbrev s__jump_at : Stmt := top 22
abbrev N__jump_at : List Str := ["course", "at", "piece"]
theorem sc__jump_at : FnScope N__jump_at ["course", "at"] (defScope s__jump_at) := ⟨rfl, rfl, rfl, by decide +kernel, rfl, by decide +kernel, by decide +kernel⟩
abbrev ps__jump_at : List Str := ["course", "at"]
def spJumpAt (K : PySem.W.Frag) : Sp := fun vs H Q _ => ∃ (a : Addr) (n : Nat) (c : List Pc) (p q : Pc) (i j l : Nat), vs = [.ref a, .int ((n + 1 : Nat) : Int)] ∧ Cq K H a c ∧ c[n]? = some p ∧ c[n + 1]? = some q ∧ Cz i j l c ∧ j + j + l + i + i + 5 ≤ 9000 ∧
  ∀ r H', Same H H' → Rq K H' r (jmp (ky p) q) → Q r H'
theorem ok_jump_at (F : Fn K mg "_jump_at" s__jump_at ps__jump_at f fd) (dsubtract : Def P w K mg base k "subtract" ["a", "b"] (spOp2 K (· - ·)) f1 fd1) (d_shown_by : Def P w K mg base k "_shown_by" ["piece", "t"] (spShown K) f2 fd2) :
    Def P w K mg base (k + 1) "_jump_at" ps__jump_at (spJumpAt K) f fd := by
  refine ⟨F.F.ok sc__jump_at (fun vs H Q E h => ?_) (fun cdv A outer s H vs Q E hr h => ?_), F.m, F.F.kp, F.b⟩
  · obtain ⟨_, _, _, _, _, _, _, _, rfl, _⟩ := h
    rfl
  obtain ⟨a, n, c, p, q, i, j, l, rfl, ⟨xs, hx, hc⟩, e1, e2, cz, hb, z⟩ := h
  refine ⟨_, (pss_cons (ps_set (i := 2) sc__jump_at.nd rfl (Or.inl rfl) (pe_ix ix_list (pv 0) (pv 1) (fun _ _ => rfl)))
      (pss_one (ps_ret (pcall dsubtract hr (pa_cons (pe_ix ix_tup (pv 2) pe_int (fun _ _ => rfl)) (pa_cons (pcall d_shown_by hr (pa_cons (pe_ix ix_list (pv 0) (pe_op op_sub (pv 1) pe_int) (fun _ _ => rfl)) (pa_cons (pe_ix ix_tup (pv 2) pe_int (fun _ _ => rfl)) pa_nil))) pa_nil)))))), ?_⟩
  obtain ⟨zs1, zv1, zr1⟩ := cz p (List.mem_of_getElem? e1)
  obtain ⟨zs2, zv2, zr2⟩ := cz q (List.mem_of_getElem? e2)
  obtain ⟨x1, hx1, pp⟩ := hc.at e1
  obtain ⟨x2, hx2, pq⟩ := hc.at e2
  obtain ⟨b, bs, bv, br, rfl, hb2, r1, r2, r3⟩ := pq
  refine ⟨_, rfl, _, rfl, a, _, _, _, rfl, rfl, hx, at_of (j := n + 1) rfl hx2, ?_⟩
  refine ⟨_, rfl, b, _, _, _, rfl, rfl, hb2, at1 rfl, _, rfl, _, rfl, _, _, rfl, rfl, a, _, _, _, rfl, rfl, hx, at_of (j := n) (by omega) hx1, _, rfl, b, _, _, _, rfl, rfl, hb2, at0 rfl, ?_⟩
  refine ⟨_, _, p, q.s, i, j, l, i, rfl, pp, r1, zs1, zv1, zr1, zs2, by omega, fun w1 H1 s1 g1 => ?_⟩
  refine ⟨_, _, q.v, _, j, j + (l + (i + i + 1)) + 1, rfl, r2.same s1, g1, zv2, zv1.add (zr1.mul (zs2.sub zs1)), by omega, fun w2 H2 s2 g2 => z _ _ (s1.trans s2) ?_⟩
  rw [← jmp_at]
  exact g2
/-- a start and a jump -/
def Jq (K : PySem.W.Frag) (H : Hp) (x : V) (p : Rat × Rat) : Prop := ∃ a xs xj, x = .ref a ∧ SqT K H a [xs, xj] ∧ Rq K H xs p.1 ∧ Rq K H xj p.2
theorem Jq.same {H H' : Hp} {x : V} {p : Rat × Rat} (e : Same H H') (h : Jq K H x p) : Jq K H' x p := by
  obtain ⟨a, xs, xj, rfl, h, h1, h2⟩ := h
  exact ⟨a, xs, xj, rfl, e.sqt h, h1.same e, h2.same e⟩
theorem Jq.fr {s : Addr} {H H' : Hp} {x : V} {p : Rat × Rat} (e : Fr s H H') (hs : ∃ ys, H s = some (.lst ys)) (h : Jq K H x p) : Jq K H' x p := by
  obtain ⟨a, xs, xj, rfl, h, h1, h2⟩ := h
  exact ⟨a, xs, xj, rfl, sqt_fr e hs h, h1.fr e hs, h2.fr e hs⟩
def djp (p : Rat × Rat) : PyData := .tuple [dq p.1, dq p.2]
theorem Jq.dp {H : Hp} {v : V} {p : Rat × Rat} (h : Jq K H v p) : Dp K H v (djp p) := by
  obtain ⟨a, xs, xj, rfl, h, h1, h2⟩ := h
  exact .tup h (.cons h1.dp (.cons h2.dp .nil))
theorem jl_len (c : List Pc) : (jl c).length ≤ c.length := by
  have g : ∀ (c : List Pc) k, (jlG k c).length ≤ c.length := fun c => by
    induction c with
    | nil => exact fun _ => Nat.le_refl _
    | cons q c ih =>
      intro k
      have := ih (ky q)
      rw [jlG]
      split
      · rw [List.length_cons]; omega
      · rw [List.length_cons, List.length_cons]; omega
  cases c with
  | nil => exact Nat.le_refl _
  | cons p c =>
    have := g c (ky p)
    show (jlG (ky p) c).length ≤ _
    rw [List.length_cons]
    omega
abbrev s_jumps : Stmt := top 23
abbrev N_jumps : List Str := ["course", "found", "at", "jump"]
theorem sc_jumps : FnScope N_jumps ["course"] (defScope s_jumps) := ⟨rfl, rfl, rfl, by decide +kernel, rfl, by decide +kernel, by decide +kernel⟩
abbrev ps_jumps : List Str := ["course"]
def spJumps (K : PySem.W.Frag) : Sp := fun vs H Q _ => ∃ (a : Addr) (c : List Pc) (i j l : Nat), vs = [.ref a] ∧ Cq K H a c ∧ Cz i j l c ∧ 1 ≤ c.length ∧ c.length ≤ 900 ∧ j + j + l + i + i + 5 ≤ 9000 ∧
  ∀ D us H', Same H H' → H D = none → H' D = some (.lst us) → All2 (Jq K H') us (jl c) → Q (.ref D) H'
abbrev s_tidy : Stmt := top 24
abbrev N_tidy : List Str := ["course", "kept", "at"]
theorem sc_tidy : FnScope N_tidy ["course"] (defScope s_tidy) := ⟨rfl, rfl, rfl, by decide +kernel, rfl, by decide +kernel, by decide +kernel⟩
abbrev ps_tidy : List Str := ["course"]
def spTidy (K : PySem.W.Frag) : Sp := fun vs H Q _ => ∃ (a : Addr) (c : List Pc) (i j l : Nat), vs = [.ref a] ∧ Cq K H a c ∧ Cz i j l c ∧ 1 ≤ c.length ∧ c.length ≤ 900 ∧ j + j + l + i + i + 5 ≤ 9000 ∧
  ∀ D us H', Same H H' → H D = none → Ct K H' D us (tl c) → Q (.ref D) H'
end Vk
namespace Vk
open PySem L2 Vm
variable {l az : Addr} {P : Program} {w : World} {K : PySem.W.Frag} {mg : Str → Option Value} {base : Heap} {k : Nat} {f f1 f2 f3 f4 f5 f6 f7 f8 f9 : Addr} {fd fd1 fd2 fd3 fd4 fd5 fd6 fd7 fd8 fd9 : FuncData}
theorem num0 (q : Rat) : (V.int q.num = V.int 0) ↔ q = 0 := by
  constructor
  · intro h
    exact Rat.num_eq_zero.mp (V.int.inj h)
  · intro h
    rw [h]
    rfl
def spJD (K : PySem.W.Frag) : Sp := fun vs H Q _ => ∃ (a : Addr) (c : List Pc) (i j l : Nat), vs = [.ref a] ∧ Cq K H a c ∧ Cok c ∧ Cz i j l c ∧ 1 ≤ c.length ∧ c.length ≤ 900 ∧ i + j + l ≤ 500 ∧
  ∀ D us H', Same H H' → H D = none → H' D = some (.lst us) → All2 (Jq K H') us (jl c) → Q (.ref D) H'
def nV (n : Nat) : V := .int (n : Int)
def spCont (K : PySem.W.Frag) : Sp := fun vs H Q _ => ∃ (a : Addr) (c : List Pc) (i j l : Nat), vs = [.ref a] ∧ Cq K H a c ∧ Cok c ∧ Cz i j l c ∧ 1 ≤ c.length ∧ c.length ≤ 900 ∧ i + j + l ≤ 500 ∧
  ∀ D H', Same H H' → H D = none → H' D = some (.lst ((gl c c.length).map nV)) → Q (.ref D) H'
def spIsC (K : PySem.W.Frag) : Sp := fun vs H Q _ => ∃ (a : Addr) (c : List Pc) (i j l : Nat), vs = [.ref a] ∧ Cq K H a c ∧ Cok c ∧ Cz i j l c ∧ 1 ≤ c.length ∧ c.length ≤ 900 ∧ i + j + l ≤ 500 ∧ ∀ H', Same H H' → Q (.bl true) H'
end Vk
namespace Vk
open PySem L2 Vm
variable {l az : Addr} {P : Program} {w : World} {K : PySem.W.Frag} {mg : Str → Option Value} {base : Heap} {k : Nat} {f f1 f2 f3 f4 f5 f6 f7 f8 f9 : Addr} {fd fd1 fd2 fd3 fd4 fd5 fd6 fd7 fd8 fd9 : FuncData}
def spOrd8 (K : PySem.W.Frag) : Sp := fun vs H Q _ => ∃ (a : Addr) (xs : List V) (qs : List Rat) (m : Nat), vs = [.ref a] ∧ SqL K H a xs ∧ All2 (Rq K H) xs qs ∧ (∀ q ∈ qs, Sz m q) ∧ m ≤ 4000 ∧ qs.length ≤ 900 ∧
  ∀ D us os H', Same H H' → H D = none → H' D = some (.lst us) → All2 (Rq K H') us os → Asc os → (∀ o ∈ os, o ∈ qs) → os.length ≤ qs.length → (∀ q ∈ qs, q ∈ os) → Q (.ref D) H'
theorem ok_ord8 (T : Bn mg) (F : Fn K mg "_law_ordered" s__law_ordered ps__law_ordered f fd) (d_law_below : Def P w K mg base k "_law_below" ["_law_a", "_law_b"] (spTest2 K fun p q => .bl (decide (p < q))) f1 fd1) :
    Def P w K mg base (k + 1) "_law_ordered" ps__law_ordered (spOrd8 K) f fd := by
  refine ⟨F.F.ok sc__law_ordered (fun vs H Q E h => ?_) (fun cdv A outer s H vs Q E hr h => ?_), F.m, F.F.kp, F.b⟩
  · obtain ⟨_, _, _, _, rfl, _⟩ := h
    rfl
  obtain ⟨a, xs, qs, sz0, rfl, hx, hq, zq, hsz, hl, z⟩ := h
  refine ⟨_, (pss_cons (ps_set (i := 1) sc__law_ordered.nd rfl (Or.inl rfl) (pe_lst pa_nil))
      (pss_cons (ps_for PassesOwn.never rfl (pi_list (pv 0)) (pg_name (i := 2) sc__law_ordered.nd rfl (Or.inl rfl))
        (pss_cons (ps_set (i := 3) sc__law_ordered.nd rfl (Or.inl rfl) pe_int)
        (pss_cons (ps_for PassesOwn.never rfl (pi_range1 (by rfl) T.range_ (pa_cons (pe_callB call_len_seq (by rfl) T.len_ PySem.boot_len (pa_cons (pv 1) pa_nil)) pa_nil)) (pg_name (i := 4) sc__law_ordered.nd rfl (Or.inl rfl))
          (pss_one (ps_if (pt_val (pcall d_law_below hr (pa_cons (pe_ix ix_list (pv 1) (pv 4) (fun _ _ => rfl)) (pa_cons (pv 2) pa_nil))))
            (pss_one (ps_set (i := 3) sc__law_ordered.nd rfl (Or.inl rfl) (pe_op op_add (pv 4) pe_int)))
            pss_nil)))
        (pss_one (ps_if (PW.pt (pw_or (pt_cmpR op_eq (pv 3) (pe_callB call_len_seq (by rfl) T.len_ PySem.boot_len (pa_cons (pv 1) pa_nil)) (nomark _)) (pw_or1 (pt_cmpR (op_neD hr.units) (pe_ix ix_list (pv 1) (pv 3) (fun _ _ => rfl)) (pv 2) (nomark _)))))
          (pss_one (ps_expr (pe_bm PySem.F.plainAttrs_list PySem.F.slot_list_insert PySem.F.type_list_insert mt_insert (pv 1) (pa_cons (pv 3) (pa_cons (pv 2) pa_nil)))))
          pss_nil)))))
      (pss_one (ps_ret (pv 1))))), ?_⟩
  have p62 : (2 : Int) ^ 62 = 4611686018427387904 := by decide
  have p63 : (2 : Int) ^ 63 = 9223372036854775808 := by decide
  refine ⟨Nat.zero_le _, fun D hD => ?_⟩
  refine ⟨_, rfl, a, rfl, ⟨_, (same_new hD _).seq hx⟩, for_list (K := K) (a := a) (xs := xs) (fun i σ G => ∃ (us : List V) (os : List Rat) (k1 k2 k3 : Option V), σ = [some (.ref a), some (.ref D), k1, k2, k3] ∧ Same H G ∧ G D = some (.lst us) ∧ All2 (Rq K G) us os ∧ Asc os ∧ (∀ o ∈ os, o ∈ qs) ∧ os.length ≤ i ∧ (∀ q ∈ qs.take i, q ∈ os))
    ⟨[], [], none, none, none, rfl, same_new hD _, upd_same, All2.nil, List.Pairwise.nil, nofun, Nat.le_refl _, fun q h => by rw [List.take_zero] at h; cases h⟩ (fun i σ G _ h => by obtain ⟨_, _, _, _, _, _, s1, _⟩ := h; exact s1.seq hx) ?_ ?_⟩
  · rintro i x σ G hxi ⟨us, os, k1, k2, k3, rfl, s1, hD1, hA, asc, sub, ln, all⟩
    have hi : i < qs.length := by rw [← hq.1]; exact (List.getElem?_eq_some_iff.mp hxi).1
    have hqi : qs[i]? = some qs[i] := List.getElem?_eq_getElem hi
    have hmem : qs[i] ∈ qs := List.getElem_mem hi
    have rx := (hq.2 i x _ hxi hqi).same s1
    obtain ⟨one, eo⟩ : ∃ o, o = qs[i] := ⟨_, rfl⟩
    rw [← eo] at rx hmem
    have zo := zq one hmem
    have zos : ∀ o ∈ os, Sz sz0 o := fun o ho => zq o (sub o ho)
    have hal := hA.1
    refine ⟨_, rfl, D, _, rfl, .inl (SqL.of hD1), _, rfl, by omega, by omega, for_range (n := ((us.length : Nat) : Int).toNat) (fun j σ G' => ∃ (m : Nat) (k3 : Option V), σ = [some (.ref a), some (.ref D), some x, some (.int m), k3] ∧ G' = G ∧ Spot os one j m)
      ⟨0, k3, rfl, rfl, Nat.le_refl _, fun t o h => absurd h (by omega)⟩ ?_ ?_⟩
    · rintro j σ G' hj ⟨m, k3, rfl, rfl, sp⟩
      have hj' : j < os.length := by omega
      have hoj : os[j]? = some os[j] := List.getElem?_eq_getElem hj'
      obtain ⟨y, hy, ry⟩ := hA.at hoj
      have sn := spot_next asc sp hoj
      refine ⟨_, rfl, _, rfl, D, _, _, y, rfl, rfl, SqL.of hD1, at_of (j := j) (by omega) hy, _, rfl, _, _, os[j], one, sz0, sz0, rfl, ry, rx, zos _ (List.getElem_mem hj'), zo, by omega, _, rfl, ifD (fun g => ?_) (fun g => ?_)⟩
      · rw [if_pos g] at sn
        refine ⟨_, rfl, _, _, rfl, rfl, j + 1, some (.int (0 + (j : Int))), ?_, rfl, sn⟩
        show [some (V.ref a), some (V.ref D), some x, some (V.int (0 + (j : Int) + 1)), some (V.int (0 + (j : Int)))] = _
        rw [show (0 + (j : Int) + 1) = ((j + 1 : Nat) : Int) by omega]
      · rw [if_neg g] at sn
        exact ⟨m, _, rfl, rfl, sn⟩
    · rintro σ G' ⟨m, k3, rfl, rfl, sp⟩
      have sp : Spot os one os.length m := by
        have e : ((us.length : Nat) : Int).toNat = os.length := by omega
        rw [e] at sp
        exact sp
      have hm := sp.1
      have put : os[m]? ≠ some one → ∃ (us' : List V) (os' : List Rat) (k1 k2 k3' : Option V), [some (.ref a), some (.ref D), some x, some (.int m), k3] = [some (.ref a), some (.ref D), k1, k2, k3'] ∧ Same H (upd G' D (.lst (us.take m ++ [x] ++ us.drop m))) ∧ (upd G' D (.lst (us.take m ++ [x] ++ us.drop m))) D = some (.lst us') ∧
          All2 (Rq K (upd G' D (.lst (us.take m ++ [x] ++ us.drop m)))) us' os' ∧ Asc os' ∧ (∀ o ∈ os', o ∈ qs) ∧ os'.length ≤ i + 1 ∧ (∀ q ∈ qs.take (i + 1), q ∈ os') := fun hn => by
        have fr : Fr D G' (upd G' D (.lst (us.take m ++ [x] ++ us.drop m))) := Fr.upd _
        have hA' := hA.imp fun _ _ h => Rq.fr fr ⟨_, hD1⟩ h
        refine ⟨_, os.take m ++ [one] ++ os.drop m, _, _, _, rfl, same_upd s1 hD _, upd_same, ((hA'.take m).append (All2.one (rx.fr fr ⟨_, hD1⟩))).append (hA'.drop m), asc_insert asc sp hn, fun o ho => ?_, ?_, fun q hq => ?_⟩
        · rcases List.mem_append.mp ho with ho | ho
          · rcases List.mem_append.mp ho with ho | ho
            · exact sub o (List.mem_of_mem_take ho)
            · rw [List.mem_singleton.mp ho]
              exact hmem
          · exact sub o (List.mem_of_mem_drop ho)
        · rw [List.length_append, List.length_append, List.length_take, List.length_drop, List.length_singleton]
          omega
        · rw [List.take_add_one, hqi] at hq
          rcases List.mem_append.mp hq with hq | hq
          · have hq := all q hq
            rw [← List.take_append_drop m os] at hq
            rcases List.mem_append.mp hq with hq | hq
            · exact List.mem_append_left _ (List.mem_append_left _ hq)
            · exact List.mem_append_right _ hq
          · have hq : q = one := by rw [eo]; exact List.mem_singleton.mp hq
            rw [hq]
            exact List.mem_append_left _ (List.mem_append_right _ (List.mem_singleton.mpr rfl))
      refine ⟨_, rfl, _, rfl, D, _, rfl, .inl (SqL.of hD1), rfl, _, rfl, ifD (fun g => ifT rfl ?_) (fun g => ?_)⟩
      · have g' := V.int.inj g
        have hn : os[m]? ≠ some one := by rw [List.getElem?_eq_none (by omega)]; exact nofun
        exact ⟨_, rfl, .inl ⟨rfl, _, SqL.of hD1⟩, _, rfl, _, rfl, D, _, _, _, rfl, rfl, hD1, le1000 (by omega), by omega, by omega, put hn⟩
      · have g' : m ≠ us.length := fun e => g (by rw [e])
        have hmo : os[m]? = some os[m] := List.getElem?_eq_getElem (by omega)
        obtain ⟨y, hy, ry⟩ := hA.at hmo
        refine ⟨_, rfl, _, rfl, D, _, _, y, rfl, rfl, SqL.of hD1, at_of (j := m) rfl hy, _, rfl, _, _, ry.dp, rx.dp, sh_dq _, sh_dq _, _, rfl, ?_⟩
        rw [eqv_dq]
        by_cases e : os[m] = one
        · refine ifF (by rw [dT e]; rfl) ⟨us, os, _, _, _, rfl, s1, hD1, hA, asc, sub, by omega, fun q hq => ?_⟩
          rw [List.take_add_one, hqi] at hq
          rcases List.mem_append.mp hq with hq | hq
          · exact all q hq
          · have hq : q = one := by rw [eo]; exact List.mem_singleton.mp hq
            rw [hq, ← e]
            exact List.getElem_mem _
        · refine ifT (by rw [dF e]; rfl) ?_
          have hn : os[m]? ≠ some one := by rw [hmo]; exact fun z => e (Option.some.inj z)
          exact ⟨_, rfl, .inl ⟨rfl, _, SqL.of hD1⟩, _, rfl, _, rfl, D, _, _, _, rfl, rfl, hD1, le1000 (by omega), by omega, by omega, put hn⟩
  · rintro σ G ⟨us, os, k1, k2, k3, rfl, s1, hD1, hA, asc, sub, ln, ne⟩
    rw [hq.1] at ln
    rw [hq.1, List.take_length] at ne
    exact ⟨_, rfl, z D us os G s1 hD hD1 hA asc sub ln ne⟩


/-- a start and None -/
def Sn (K : PySem.W.Frag) (H : Hp) (x : V) (q : Rat) : Prop := ∃ a xs, x = .ref a ∧ SqT K H a [xs, .non] ∧ Rq K H xs q
theorem Sn.same {H H' : Hp} {x : V} {q : Rat} (e : Same H H') (h : Sn K H x q) : Sn K H' x q := by
  obtain ⟨a, xs, rfl, h, h1⟩ := h
  exact ⟨a, xs, rfl, e.sqt h, h1.same e⟩
theorem Sn.fr {s : Addr} {H H' : Hp} {x : V} {q : Rat} (e : Fr s H H') (hs : ∃ ys, H s = some (.lst ys)) (h : Sn K H x q) : Sn K H' x q := by
  obtain ⟨a, xs, rfl, h, h1⟩ := h
  exact ⟨a, xs, rfl, sqt_fr e hs h, h1.fr e hs⟩
def spProbes (K : PySem.W.Frag) : Sp := fun vs H Q _ => ∃ (a : Addr) (xs : List V) (qs : List Rat) (m : Nat), vs = [.ref a] ∧ SqL K H a xs ∧ All2 (Sn K H) xs qs ∧ (∀ q ∈ qs, Sz m q) ∧ m ≤ 500 ∧ 1 ≤ qs.length ∧ qs.length ≤ 100 ∧
  ∀ D us ts H', Same H H' → H D = none → H' D = some (.lst us) → All2 (Rq K H') us ts → (∀ t ∈ ts, Sz (m + m + 4) t) → (∃ t ∈ ts, ∀ q ∈ qs, q < t) → ts.length ≤ 400 → Q (.ref D) H'
end Vk
namespace Vk
open PySem L2 Vm Vs
variable {l az : Addr} {P : Program} {w : World} {K : PySem.W.Frag} {mg : Str → Option Value} {base : Heap} {k : Nat} {f f1 f2 f3 f4 f5 f6 f7 f8 f9 : Addr} {fd fd1 fd2 fd3 fd4 fd5 fd6 fd7 fd8 fd9 : FuncData}
/-! ### ends and spans -/
def OSz (m : Nat) (o : Option Rat) : Prop := ∀ q, o = some q → Sz m q
def SSz (m : Nat) (s : Spn) : Prop := OSz m s.1 ∧ OSz m s.2
theorem optV.same {H H' : Hp} {v : V} {o : Option Rat} (e : Same H H') (h : optV K H v o) : optV K H' v o := by
  cases o with
  | none => exact h
  | some q => exact Rq.same e h
theorem optV.fr {s : Addr} {H H' : Hp} {v : V} {o : Option Rat} (e : Fr s H H') (hs : ∃ ys, H s = some (.lst ys)) (h : optV K H v o) : optV K H' v o := by
  cases o with
  | none => exact h
  | some q => exact Rq.fr e hs h
def Spq (K : PySem.W.Frag) (H : Hp) (x : V) (s : Spn) : Prop := ∃ a u v, x = .ref a ∧ SqT K H a [u, v] ∧ optV K H u s.1 ∧ optV K H v s.2
theorem Spq.same {H H' : Hp} {x : V} {s : Spn} (e : Same H H') (h : Spq K H x s) : Spq K H' x s := by
  obtain ⟨a, u, v, rfl, h, h1, h2⟩ := h
  exact ⟨a, u, v, rfl, e.sqt h, h1.same e, h2.same e⟩
theorem Spq.fr {s : Addr} {H H' : Hp} {x : V} {p : Spn} (e : Fr s H H') (hs : ∃ ys, H s = some (.lst ys)) (h : Spq K H x p) : Spq K H' x p := by
  obtain ⟨a, u, v, rfl, h, h1, h2⟩ := h
  exact ⟨a, u, v, rfl, sqt_fr e hs h, h1.fr e hs, h2.fr e hs⟩
def oSp (K : PySem.W.Frag) (H : Hp) (x : V) : Option Spn → Prop
  | none => x = .non
  | some s => Spq K H x s
theorem oSp.same {H H' : Hp} {x : V} {o : Option Spn} (e : Same H H') (h : oSp K H x o) : oSp K H' x o := by
  cases o with
  | none => exact h
  | some q => exact Spq.same e h
theorem osz_max {m : Nat} {a b : Option Rat} (h : OSz m a) (g : OSz m b) : OSz m (maxO a b) := by
  cases a with
  | none => exact g
  | some p => cases b with
    | none => exact h
    | some q =>
      intro r e
      simp only [maxO] at e
      cases Option.some.inj e
      split
      · exact h _ rfl
      · exact g _ rfl
theorem osz_min {m : Nat} {a b : Option Rat} (h : OSz m a) (g : OSz m b) : OSz m (minO a b) := by
  cases a with
  | none => exact g
  | some p => cases b with
    | none => exact h
    | some q =>
      intro r e
      simp only [minO] at e
      cases Option.some.inj e
      split
      · exact h _ rfl
      · exact g _ rfl
theorem osz_mov {m j : Nat} {o : Option Rat} {d : Rat} (h : OSz m o) (g : Sz j d) : OSz (m + j + 1) (movO o d) := by
  cases o with
  | none => nofun
  | some q => intro r e; cases Option.some.inj e; exact (h _ rfl).add g
theorem osz_neg {m : Nat} {o : Option Rat} (h : OSz m o) : OSz m (negO o) := by
  cases o with
  | none => nofun
  | some q => intro r e; cases Option.some.inj e; exact (h _ rfl).neg
theorem osz_up {m j : Nat} {o : Option Rat} (h : OSz m o) (e : m ≤ j) : OSz j o := fun q g => (h q g).mono e
theorem ssz_meet {m : Nat} {a b s : Spn} (h : SSz m a) (g : SSz m b) (e : meetO a b = some s) : SSz m s := by
  unfold meetO at e
  split at e
  · cases e
  · cases e
    exact ⟨osz_max h.1 g.1, osz_min h.2 g.2⟩
theorem ssz_off {x y : Rat} {i j : Nat} {fo ba s : Spn} (hx : Sz j x) (hy : Sz j y) (h : SSz i fo) (g : SSz i ba) (e : offO x y fo ba = some s) : SSz (i + j + 1) s :=
  ssz_meet ⟨osz_mov (osz_neg h.2) hx, osz_mov (osz_neg h.1) hx⟩ ⟨osz_mov g.1 hy, osz_mov g.2 hy⟩ e
/-- the written half -/
structure Hf (K : PySem.W.Frag) (mg : Str → Option Value) (az : Addr) : Prop where
  m : mg "HALF" = some (.ref az)
  q : ∀ H, Rq K H (.ref az) (1 / 2)
/-! ### the lesser and the greater one -/
def spSel (K : PySem.W.Frag) (g : Rat → Rat → Rat) : Sp := fun vs H Q _ => ∃ (x y : V) (p q : Rat) (m l : Nat), vs = [x, y] ∧ Rq K H x p ∧ Rq K H y q ∧ Sz m p ∧ Sz l q ∧ m + l + 1 ≤ 9000 ∧ ∀ v, Rq K H v (g p q) → Q v H
theorem sg_le {p q : Rat} : sg p q ≤ 0 ↔ p ≤ q := by
  unfold sg
  split
  · rename_i h
    subst h
    simp [Rat.le_refl]
  · split
    · rename_i h1 h2
      exact ⟨fun _ => by grind, fun _ => by omega⟩
    · rename_i h1 h2
      exact ⟨fun h => by omega, fun h => absurd h (by grind)⟩
def spEnd2 (K : PySem.W.Frag) (g : Option Rat → Option Rat → Option Rat) : Sp := fun vs H Q _ => ∃ (x y : V) (p q : Option Rat) (m : Nat), vs = [x, y] ∧ optV K H x p ∧ optV K H y q ∧ OSz m p ∧ OSz m q ∧ m + m + 1 ≤ 9000 ∧ ∀ v, optV K H v (g p q) → Q v H
def spMeet (K : PySem.W.Frag) : Sp := fun vs H Q _ => ∃ (x y : V) (s t : Spn) (m : Nat), vs = [x, y] ∧ Spq K H x s ∧ Spq K H y t ∧ SSz m s ∧ SSz m t ∧ m + m + 1 ≤ 9000 ∧ ∀ v H', Same H H' → oSp K H' v (meetO s t) → Q v H'
theorem sg_gt {p q : Rat} : 0 < sg p q ↔ q < p := by
  have := @sg_le p q
  constructor
  · intro h; exact Rat.not_le.mp fun e => by have := this.mpr e; omega
  · intro h; exact Int.not_le.mp fun e => absurd (this.mp e) (Rat.not_le.mpr h)
end Vk


namespace Vk
open PySem L2 Vm Vl
variable {l aZERO aONE CB CR fB fR : Addr} {P : Program} {w : World} {K : PySem.W.Frag} {mg : Str → Option Value} {base : Heap} {k : Nat} {f f1 f2 f3 f4 f5 f6 f7 f8 f9 : Addr} {fd fd1 fd2 fd3 fd4 fd5 fd6 fd7 fd8 fd9 : FuncData}
/-- a rational of the module -/
structure Cn (K : PySem.W.Frag) (mg : Str → Option Value) (x : Str) (p : Rat) (a : Addr) : Prop where
  m : mg x = some (.ref a)
  q : ∀ H, Rq K H (.ref a) p
theorem zz1 : Sz 1 (0 : Rat) := by decide +kernel
theorem zo1 : Sz 1 (1 : Rat) := by decide +kernel
def spNB (K : PySem.W.Frag) (CB : Addr) : Sp := fun vs H Q E => ∃ (x : V) (q : Rat) (m : Nat), vs = [x] ∧ Rq K H x q ∧ Sz m q ∧ m ≤ 8000 ∧ (0 ≤ q → Q .non H) ∧ (q < 0 → eV E CB H x)
def spSD (K : PySem.W.Frag) (CR : Addr) : Sp := fun vs H Q E => ∃ (x y : V) (s d : Rat) (m : Nat), vs = [x, y] ∧ Rq K H x s ∧ Rq K H y d ∧ Sz m s ∧ Sz m d ∧ m ≤ 4000 ∧
  (0 < s → s < 1 → 0 ≤ d → d < s → Q .non H) ∧ (s ≤ 0 ∨ 1 ≤ s → eV E CR H x) ∧ (0 < s → s < 1 → d < 0 ∨ s ≤ d → eV E CR H y)
theorem sg_le' {p q : Rat} : sg p q ≤ 0 ↔ p ≤ q := by
  have h := @sg_lt p q
  have g := @sg_ge p q
  constructor
  · intro e
    by_cases z : sg p q < 0
    · have := h.mp z; grind
    · have e0 : sg p q = 0 := by omega
      unfold sg at e0
      split at e0
      · rename_i hh; rw [hh]; exact Rat.le_refl
      · split at e0 <;> omega
  · intro e
    by_cases z : p < q
    · have := h.mpr z; omega
    · have e2 : p = q := by grind
      unfold sg
      rw [if_pos e2]
      omega
/-- the five arguments of a lap -/
structure L5 (K : PySem.W.Frag) (H : Hp) (xb xh xl xs xd : V) (x : A6) (m : Nat) : Prop where
  b : Rq K H xb x.b
  h : Rq K H xh x.h
  l : Rq K H xl x.l
  s : Rq K H xs x.s
  d : Rq K H xd x.d
  zb : Sz m x.b
  zh : Sz m x.h
  zl : Sz m x.l
  zs : Sz m x.s
  zd : Sz m x.d
theorem L5.same {H H' : Hp} {xb xh xl xs xd : V} {x : A6} {m : Nat} (h : L5 K H xb xh xl xs xd x m) (e : Same H H') : L5 K H' xb xh xl xs xd x m := { h with b := h.b.same e, h := h.h.same e, l := h.l.same e, s := h.s.same e, d := h.d.same e }
theorem L5.fr {s : Addr} {H H' : Hp} {xb xh xl xs xd : V} {x : A6} {m : Nat} (h : L5 K H xb xh xl xs xd x m) (e : Fr s H H') (hs : ∃ ys, H s = some (.lst ys)) : L5 K H' xb xh xl xs xd x m := { h with b := h.b.fr e hs, h := h.h.fr e hs, l := h.l.fr e hs, s := h.s.fr e hs, d := h.d.fr e hs }
/-- the first wrong argument: what it wishes of an error -/
def Fault (x : A6) (W : Bool → Nat → Prop) : Prop :=
  (x.b < 0 → W true 0) ∧ (0 ≤ x.b → x.h < 0 → W true 1) ∧ (0 ≤ x.b → 0 ≤ x.h → x.l ≤ 0 → W true 2) ∧ (0 ≤ x.b → 0 ≤ x.h → 0 < x.l → x.s ≤ 0 ∨ 1 ≤ x.s → W false 3) ∧
    (0 ≤ x.b → 0 ≤ x.h → 0 < x.l → 0 < x.s → x.s < 1 → x.d < 0 ∨ x.s ≤ x.d → W false 4)
def eF (E : XK) (CB CR : Addr) (H : Hp) (ys : List V) : Bool → Nat → Prop := fun b i => ∀ y, ys[i]? = some y → eV E (if b = true then CB else CR) H y
def spLap (K : PySem.W.Frag) (CB CR : Addr) : Sp := fun vs H Q E => ∃ (xb xh xl xs xd : V) (x : A6) (m : Nat), vs = [xb, xh, xl, xs, xd] ∧ L5 K H xb xh xl xs xd x m ∧ m ≤ 4000 ∧ (Good x → Q .non H) ∧ Fault x (eF E CB CR H [xb, xh, xl, xs, xd])
def spBehind (K : PySem.W.Frag) : Sp := fun vs H Q _ => ∃ (xb xh xl xs xd : V) (x : A6) (m : Nat), vs = [xb, xh, xl, xs, xd] ∧ L5 K H xb xh xl xs xd x m ∧ m ≤ 1500 ∧ ∀ v H', Same H H' → Rq K H' v (nextB x x.b) → Q v H'
def spAfter (K : PySem.W.Frag) (CB CR : Addr) : Sp := fun vs H Q E => ∃ (xb xh xl xs xd : V) (x : A6) (m : Nat), vs = [xb, xh, xl, xs, xd] ∧ L5 K H xb xh xl xs xd x m ∧ m ≤ 1500 ∧ (Good x → ∀ v H', Same H H' → Rq K H' v (nextB x x.b) → Q v H') ∧ Fault x (eF E CB CR H [xb, xh, xl, xs, xd])
end Vk
namespace Vk
open PySem L2 Vm Vl
variable {l aZERO aONE CB CR fB fR : Addr} {P : Program} {w : World} {K : PySem.W.Frag} {mg : Str → Option Value} {base : Heap} {k : Nat} {f f1 f2 f3 f4 f5 f6 f7 f8 f9 : Addr} {fd fd1 fd2 fd3 fd4 fd5 fd6 fd7 fd8 fd9 : FuncData}
/-! ### rates -/
def ab (q : Rat) : Rat := if q < 0 then -q else q
theorem ab_num (q : Rat) : (ab q).num = if q.num < 0 then -q.num else q.num := by
  unfold ab
  have h : q < 0 ↔ q.num < 0 := by rw [← Rat.not_le, ← Rat.num_nonneg]; omega
  by_cases c : q < 0
  · rw [if_pos c, if_pos (h.mp c), Rat.neg_num]
  · rw [if_neg c, if_neg fun e => c (h.mpr e)]
theorem ab_den (q : Rat) : (ab q).den = q.den := by
  unfold ab
  split
  · exact Rat.neg_den q
  · rfl
theorem Sz.ab {m : Nat} {q : Rat} (h : Sz m q) : Sz m (ab q) := by
  unfold Vk.ab
  split
  · exact h.neg
  · exact h
theorem rq_ab {H : Hp} {t : Addr} {q : Rat} : Rq K (upd H t (.tup [.int (if q.num < 0 then -q.num else q.num), .int q.den])) (.ref t) (ab q) := by
  refine ⟨t, rfl, ?_⟩
  rw [ab_num, ab_den]
  exact SqT.of upd_same
def spRates (K : PySem.W.Frag) (CR : Addr) : Sp := fun vs H Q E => ∃ (x y : V) (s d : Rat) (m : Nat), vs = [x, y] ∧ Rq K H x s ∧ Rq K H y d ∧ Sz m s ∧ Sz m d ∧ m ≤ 2000 ∧
  (0 < s → s ≤ d → Q .non H) ∧ (s ≤ 0 → eV E CR H x) ∧ (0 < s → d < s → eV E CR H y)
/-- the drift between two rates -/
def dri (s d : Rat) : Rat := if ab (1 - 1 / s) ≤ ab (1 - 1 / d) then ab (1 - 1 / d) else ab (1 - 1 / s)
def spDrift (K : PySem.W.Frag) (CR : Addr) : Sp := fun vs H Q E => ∃ (x y : V) (s d : Rat) (m : Nat), vs = [x, y] ∧ Rq K H x s ∧ Rq K H y d ∧ Sz m s ∧ Sz m d ∧ m ≤ 2000 ∧
  (0 < s → s ≤ d → ∀ v H', Same H H' → Rq K H' v (dri s d) → Q v H') ∧ (s ≤ 0 → eV E CR H x) ∧ (0 < s → d < s → eV E CR H y)
abbrev s__law_over : Stmt := top 40
abbrev N__law_over : List Str := ["_law_a", "_law_b"]
theorem sc__law_over : FnScope N__law_over ["_law_a", "_law_b"] (defScope s__law_over) := ⟨rfl, rfl, rfl, by decide +kernel, rfl, by decide +kernel, by decide +kernel⟩
abbrev ps__law_over : List Str := ["_law_a", "_law_b"]
theorem ok_over (F : Fn K mg "_law_over" s__law_over ps__law_over f fd) (d_law_frac : Def P w K mg base k "_law_frac" ["_law_n", "_law_d"] (spFrac K) f1 fd1) : Def P w K mg base (k + 1) "_law_over" ps__law_over (spDiv K) f fd := by
  refine ⟨F.F.ok sc__law_over (fun vs H Q E h => ?_) (fun cdv A outer s H vs Q E hr h => ?_), F.m, F.F.kp, F.b⟩
  · obtain ⟨x, y, p, q, m, l, rfl, _⟩ := h
    rfl
  obtain ⟨x, y, p, q, m, l, rfl, ⟨a, rfl, ha⟩, ⟨b, rfl, hb⟩, zp, zq, hm, q0, z⟩ := h
  have m0 := nn zp
  have l0 := nn zq
  have hn := num_pos q0
  refine ⟨_, (pss_one (ps_ret (pcall d_law_frac hr (pa_cons (pe_op op_mulW (pe_ix ix_tup (pv 0) pe_int (fun _ _ => rfl)) (pe_ix ix_tup (pv 1) pe_int (fun _ _ => rfl))) (pa_cons (pe_op op_mulW (pe_ix ix_tup (pv 0) pe_int (fun _ _ => rfl)) (pe_ix ix_tup (pv 1) pe_int (fun _ _ => rfl))) pa_nil))))), ?_⟩
  refine ⟨_, rfl, a, _, _, _, rfl, rfl, ha, at0 rfl, _, rfl, b, _, _, _, rfl, rfl, hb, at1 rfl, _, _, rfl, rfl, mulW zp.1 (dA zq) m0 l0 (by omega), ?_⟩
  refine ⟨_, rfl, a, _, _, _, rfl, rfl, ha, at1 rfl, _, rfl, b, _, _, _, rfl, rfl, hb, at0 rfl, _, _, rfl, rfl, mulW (dA zp) zq.1 m0 l0 (by omega), ?_⟩
  refine ⟨_, _, m + l, rfl, Int.mul_pos (by have := p.den_pos; omega) hn, ab_mul zp.1 (dA zq), ab_mul (dA zp) zq.1, by omega, fun r H' e hr => z r H' e ?_⟩
  have e2 : ((p.den : Int) * q.num).toNat = p.den * q.num.toNat := by
    have e3 : q.num = (q.num.toNat : Int) := by omega
    rw [e3, tn]
    rfl
  rw [e2, ← div_mk p q q0] at hr
  exact hr
/-- wrong rates, and which of them is told -/
def Br (K : PySem.W.Frag) (H : Hp) (v : V) : Prop := ∃ r x y t u s d, v = .ref r ∧ SqT K H r [x, y, .ref t] ∧ SqT K H t [.str "BadRate", u] ∧ Rq K H x s ∧ Rq K H y d ∧ Sz 40 s ∧ Sz 40 d ∧ ((s ≤ 0 ∧ u = x) ∨ (0 < s ∧ d < s ∧ u = y))
end Vk
namespace Vk
open PySem L2 Vm Vl
variable {l CB CR CV CE CT fB fR : Addr} {P : Program} {w : World} {K : PySem.W.Frag} {mg : Str → Option Value} {base : Heap} {k : Nat} {f f1 f2 f3 f4 f5 f6 f7 f8 f9 : Addr} {fd fd1 fd2 fd3 fd4 fd5 fd6 fd7 fd8 fd9 : FuncData}
theorem pss_if {X : Cx} {b : List Stmt} {p : Prop} {t : TS} (h : p → PSs X b t) : PSs X b (fun D σ H => p ∧ t D σ H) := ⟨fun pins s σ H D I w => (h w.1).run pins s σ H D I w.2⟩
def cC (CB CR : Addr) (b : Bool) : Addr := if b = true then CB else CR
/-- the classes that the law names, and what isinstance says of them -/
structure CN (K : PySem.W.Frag) (mg : Str → Option Value) (CB CR CV CE CT : Addr) : Prop where
  e : ∀ b, ExcC K (cC CB CR b)
  gB : mg "BadBound" = some (.ref CB)
  gR : mg "BadRate" = some (.ref CR)
  gV : mg "VerdictError" = some (.ref CV)
  gE : mg "EmptySpan" = some (.ref CE)
  gT : mg "TurnsBack" = some (.ref CT)
  rb : PySem.W.exmOne K (.ref CR) (.ref CB) = some false
  kB : ∀ b, PySem.W.kitOne K (.ref (cC CB CR b)) (.ref CB) = some b
  kR : ∀ b, PySem.W.kitOne K (.ref (cC CB CR b)) (.ref CR) = some (!b)
  kE : ∀ b, PySem.W.kitOne K (.ref (cC CB CR b)) (.ref CE) = some false
  kT : ∀ b, PySem.W.kitOne K (.ref (cC CB CR b)) (.ref CT) = some false
  kV : ∀ b, PySem.W.kitOne K (.ref (cC CB CR b)) (.ref CV) = some true
theorem pe_callP2 {X : Cx} {k : Nat} {f : Addr} {fd : FuncData} {ps : List Str} {sp : Addr × Obj → Sp} {sp' : Sp} {p : Addr × Obj} {x : Str} {q pos : Pos} {e : Expr} {es : List Expr} {t : TA} (F : DefP X.prog X.w X.K X.mg X.base k x ps sp f fd) (room : L2H.RoomH k X.A) (hot : L2H.Hot1 X.A p) (hp : p ∈ X.pn)
    (imp : ∀ vs H Q E, sp' vs H Q E → sp p vs H Q E) (ha : PA X (e :: es) t) (hg : Gl X x := by rfl) (hdb : (x == ("__debug__" : Str)) = false := by decide)
    (he : starEach (e :: es) X.env = (false, eval e X.env) :: starEach es X.env := by rfl) (hpl : (backTo pos (starEach es X.env)).any (·.1) = false := by rfl) : PE X (.Call (.Name x q) (e :: es) [] pos) (tCall sp' [] E0 t) := by
  refine ⟨?_⟩
  intro pins s σ H Q I want
  refine wpAny_Call_Name_kw (ld_glob I hg F.m ?_ hdb)
  refine PySem.W.callWith_K (h₀ := X.base) I.ok.mod.kin F.kp (thn (ha.run pos pins s σ H _ I want) ?_) he hpl
  rintro us s1 ⟨vs, H1, I1, r, z⟩
  refine ⟨I1.kIn, ?_⟩
  have z : sp p vs H1 Q E0 := by rw [List.append_nil] at z; exact imp _ _ _ _ z
  have cnt : us.length = ps.length := by rw [← r.length]; exact F.ok.many _ _ _ _ _ z
  have bound := F.b s1 us I1.kIn (by rw [List.append_nil]; exact cnt)
  rw [List.append_nil] at bound
  have at1 := I1.pin p (List.mem_append_left _ hp)
  have pin : L2H.PinOk X.stack H1 s1 p := ⟨at1.1, at1.2.1, fun m => (List.mem_cons.mp (I1.stkSub p.1 m)).elim at1.2.2.1 at1.2.2.2.1, at1.2.2.2.2⟩
  refine wpAny_call (codeAny_mono (F.ok.go X.A X.stack s1 H1 ⟨us, []⟩ us vs Q E0 p room hot pin I1.env0 bound r z) ?_)
  intro res s2 out
  cases res with
  | error _ => exact out.elim
  | ok fl =>
    cases fl with
    | ret u => exact I1.after out
    | next => exact out.elim
    | brk => exact out.elim
    | cont => exact out.elim
end Vk


namespace Vk
open PySem L2 Vm Vl
variable {K : PySem.W.Frag}
/-- a comprehension over a list: what each item gives, if it gives anything -/
theorem lcAll {α β : Type} {R : Hp → V → α → Prop} {R' : Hp → V → β → Prop} (L : Lasts R') (φ : α → Option β) {a : Addr} {xs : List V} {c : List α} {H : Hp} {g : TG} {tt : TT} {te : TE} {vs : List Nat} {σ : L2.St} {Qd : Hp → Prop} {D : Addr} (hD : H D = none)
    (hx : SqL K H a xs) (hc : All2 (R H) xs c) (hl : c.length ≤ 1000)
    (hs : ∀ (i : Nat) x p G, c[i]? = some p → R H x p → Same H G → ∀ (Y : V → Hp → Prop) (N : Hp → Prop), (∀ y G' b, Same G G' → φ p = some b → R' G' y b → Y y G') → (∀ G', φ p = none → Same G G' → N G') →
      g x (wipe σ vs) G fun σ2 H2 => wipe σ2 vs = wipe σ vs ∧ tt σ2 H2 fun b H3 => if b = true then te σ2 H3 Y else N H3)
    (hd : ∀ us H', Same H H' → H' D = some (.lst us) → All2 (R' H') us (c.filterMap φ) → Qd H') :
    ∃ W : Nat → Nat → Hp → Prop, (∃ m, W 0 m (upd H D (.lst []))) ∧ ∀ i m H, W i m H →
      ((Itl K a).stop i H ∧ Qd H) ∨ ((Itl K a).go i H ∧ ∃ Nx : Hp → Prop, (∀ H', Nx H' → ∃ m', m' < m ∧ W (i + 1) m' H') ∧ ∀ x H', (Itl K a).yld i H x H' → g x (wipe σ vs) H' fun σ2 H2 => wipe σ2 vs = wipe σ vs ∧ tt σ2 H2 fun b H3 =>
        if b = true then te σ2 H3 fun y H4 => ∃ acc, H4 D = some (.lst acc) ∧ acc.length < sizeLine ∧ Nx (upd H4 D (.lst (acc ++ [y]))) else Nx H3) := by
  refine lc_list (xs := xs) (fun i G => ∃ acc, G D = some (.lst acc) ∧ Same H G ∧ All2 (R' G) acc ((c.take i).filterMap φ)) ⟨[], upd_same, same_new hD _, by rw [List.take_zero]; exact All2.nil⟩ (fun i G _ h => by obtain ⟨_, _, s1, _⟩ := h; exact s1.seq hx) ?_ ?_
  · rintro i x G hxi ⟨acc, h1, s1, h2⟩
    have hi : i < c.length := by have := (List.getElem?_eq_some_iff.mp hxi).1; rw [hc.1] at this; exact this
    have ec : c[i]? = some c[i] := List.getElem?_eq_getElem hi
    have et : c.take (i + 1) = c.take i ++ [c[i]] := by rw [List.take_add_one, ec]; rfl
    refine hs i x c[i] G ec (hc.2 i x _ hxi ec) s1 _ _ (fun y G' b e1 eb r => ?_) (fun G' eb e1 => ?_)
    · have hD2 := e1 _ _ h1
      have fr : Fr D G' (upd G' D (.lst (acc ++ [y]))) := Fr.upd _
      refine ⟨acc, hD2, ?_, acc ++ [y], upd_same, same_upd (s1.trans e1) hD _, ?_⟩
      · have q := h2.1
        have q2 := List.length_filterMap_le φ (c.take i)
        rw [List.length_take] at q2
        have : sizeLine = 16777216 := sizeLine_eq
        omega
      · rw [et, List.filterMap_append]
        have : [c[i]].filterMap φ = [b] := by simp [List.filterMap, eb]
        rw [this]
        exact (h2.imp fun _ _ q => L fr ⟨_, hD2⟩ (L (Fr.of (s := D) e1) ⟨_, h1⟩ q)).snoc (L fr ⟨_, hD2⟩ r)
    · refine ⟨acc, e1 _ _ h1, s1.trans e1, ?_⟩
      rw [et, List.filterMap_append]
      have : [c[i]].filterMap φ = [] := by simp [List.filterMap, eb]
      rw [this, List.append_nil]
      exact h2.imp fun _ _ q => L (Fr.of (s := D) e1) ⟨_, h1⟩ q
  · rintro G ⟨acc, h1, s1, h2⟩
    rw [List.take_of_length_le (by rw [hc.1]; exact Nat.le_refl _)] at h2
    exact hd acc G s1 h1 h2
/-- a comprehension over a tuple: what each item gives, if it gives anything -/
theorem lcAllT {α β : Type} {R : Hp → V → α → Prop} {R' : Hp → V → β → Prop} (L : Lasts R') (φ : α → Option β) {a : Addr} {xs : List V} {c : List α} {H : Hp} {g : TG} {tt : TT} {te : TE} {vs : List Nat} {σ : L2.St} {Qd : Hp → Prop} {D : Addr} (hD : H D = none)
    (hx : SqT K H a xs) (hc : All2 (R H) xs c) (hl : c.length ≤ 1000)
    (hs : ∀ (i : Nat) x p G, c[i]? = some p → R H x p → Same H G → ∀ (Y : V → Hp → Prop) (N : Hp → Prop), (∀ y G' b, Same G G' → φ p = some b → R' G' y b → Y y G') → (∀ G', φ p = none → Same G G' → N G') →
      g x (wipe σ vs) G fun σ2 H2 => wipe σ2 vs = wipe σ vs ∧ tt σ2 H2 fun b H3 => if b = true then te σ2 H3 Y else N H3)
    (hd : ∀ us H', Same H H' → H' D = some (.lst us) → All2 (R' H') us (c.filterMap φ) → Qd H') :
    ∃ W : Nat → Nat → Hp → Prop, (∃ m, W 0 m (upd H D (.lst []))) ∧ ∀ i m H, W i m H →
      ((Itt K a).stop i H ∧ Qd H) ∨ ((Itt K a).go i H ∧ ∃ Nx : Hp → Prop, (∀ H', Nx H' → ∃ m', m' < m ∧ W (i + 1) m' H') ∧ ∀ x H', (Itt K a).yld i H x H' → g x (wipe σ vs) H' fun σ2 H2 => wipe σ2 vs = wipe σ vs ∧ tt σ2 H2 fun b H3 =>
        if b = true then te σ2 H3 fun y H4 => ∃ acc, H4 D = some (.lst acc) ∧ acc.length < sizeLine ∧ Nx (upd H4 D (.lst (acc ++ [y]))) else Nx H3) := by
  refine lc_tup (xs := xs) (fun i G => ∃ acc, G D = some (.lst acc) ∧ Same H G ∧ All2 (R' G) acc ((c.take i).filterMap φ)) ⟨[], upd_same, same_new hD _, by rw [List.take_zero]; exact All2.nil⟩ (fun i G _ h => by obtain ⟨_, _, s1, _⟩ := h; exact s1.sqt hx) ?_ ?_
  · rintro i x G hxi ⟨acc, h1, s1, h2⟩
    have hi : i < c.length := by have := (List.getElem?_eq_some_iff.mp hxi).1; rw [hc.1] at this; exact this
    have ec : c[i]? = some c[i] := List.getElem?_eq_getElem hi
    have et : c.take (i + 1) = c.take i ++ [c[i]] := by rw [List.take_add_one, ec]; rfl
    refine hs i x c[i] G ec (hc.2 i x _ hxi ec) s1 _ _ (fun y G' b e1 eb r => ?_) (fun G' eb e1 => ?_)
    · have hD2 := e1 _ _ h1
      have fr : Fr D G' (upd G' D (.lst (acc ++ [y]))) := Fr.upd _
      refine ⟨acc, hD2, ?_, acc ++ [y], upd_same, same_upd (s1.trans e1) hD _, ?_⟩
      · have q := h2.1
        have q2 := List.length_filterMap_le φ (c.take i)
        rw [List.length_take] at q2
        have : sizeLine = 16777216 := sizeLine_eq
        omega
      · rw [et, List.filterMap_append]
        have : [c[i]].filterMap φ = [b] := by simp [List.filterMap, eb]
        rw [this]
        exact (h2.imp fun _ _ q => L fr ⟨_, hD2⟩ (L (Fr.of (s := D) e1) ⟨_, h1⟩ q)).snoc (L fr ⟨_, hD2⟩ r)
    · refine ⟨acc, e1 _ _ h1, s1.trans e1, ?_⟩
      rw [et, List.filterMap_append]
      have : [c[i]].filterMap φ = [] := by simp [List.filterMap, eb]
      rw [this, List.append_nil]
      exact h2.imp fun _ _ q => L (Fr.of (s := D) e1) ⟨_, h1⟩ q
  · rintro G ⟨acc, h1, s1, h2⟩
    rw [List.take_of_length_le (by rw [hc.1]; exact Nat.le_refl _)] at h2
    exact hd acc G s1 h1 h2
theorem forL {a : Addr} {xs : List V} {g : TG} {tb : TS} {nx : L2.St → Hp → Prop} {rt : VK} {σ : L2.St} {H : Hp} (Pv : Nat → L2.St → Hp → Prop) (h0 : Pv 0 σ H) (hl : ∀ i σ H, i ≤ xs.length → Pv i σ H → SqL K H a xs) (hs : ∀ i x σ H, xs[i]? = some x → Pv i σ H → g x σ H fun σ2 H2 => tb { nx := Pv (i + 1), rt := rt, bk := nx, ct := Pv (i + 1) } σ2 H2)
    (hd : ∀ σ H, Pv xs.length σ H → nx σ H) :
    ∃ W : Nat → Nat → L2.St → Hp → Prop, (∃ m, W 0 m σ H) ∧ ∀ i m σ H, W i m σ H →
      ((Itl K a).stop i H ∧ nx σ H) ∨ ((Itl K a).go i H ∧ ∃ N : L2.St → Hp → Prop, (∀ σ' H', N σ' H' → ∃ m', m' < m ∧ W (i + 1) m' σ' H') ∧ ∀ x H', (Itl K a).yld i H x H' → g x σ H' fun σ2 H2 => tb { nx := N, rt := rt, bk := nx, ct := N } σ2 H2) :=
  for_list (D := { nx := nx, rt := rt }) Pv h0 hl hs hd
theorem forT {a : Addr} {xs : List V} {g : TG} {tb : TS} {nx : L2.St → Hp → Prop} {rt : VK} {σ : L2.St} {H : Hp} (Pv : Nat → L2.St → Hp → Prop) (h0 : Pv 0 σ H) (hl : ∀ i σ H, i ≤ xs.length → Pv i σ H → SqT K H a xs) (hs : ∀ i x σ H, xs[i]? = some x → Pv i σ H → g x σ H fun σ2 H2 => tb { nx := Pv (i + 1), rt := rt, bk := nx, ct := Pv (i + 1) } σ2 H2)
    (hd : ∀ σ H, Pv xs.length σ H → nx σ H) :
    ∃ W : Nat → Nat → L2.St → Hp → Prop, (∃ m, W 0 m σ H) ∧ ∀ i m σ H, W i m σ H →
      ((Itt K a).stop i H ∧ nx σ H) ∨ ((Itt K a).go i H ∧ ∃ N : L2.St → Hp → Prop, (∀ σ' H', N σ' H' → ∃ m', m' < m ∧ W (i + 1) m' σ' H') ∧ ∀ x H', (Itt K a).yld i H x H' → g x σ H' fun σ2 H2 => tb { nx := N, rt := rt, bk := nx, ct := N } σ2 H2) :=
  for_tup (D := { nx := nx, rt := rt }) Pv h0 hl hs hd
theorem forR {lo : Int} {n : Nat} {g : TG} {tb : TS} {nx : L2.St → Hp → Prop} {rt : VK} {σ : L2.St} {H : Hp} (Pv : Nat → L2.St → Hp → Prop) (h0 : Pv 0 σ H) (hs : ∀ i σ H, i < n → Pv i σ H → g (.int (lo + i)) σ H fun σ2 H2 => tb { nx := Pv (i + 1), rt := rt, bk := nx, ct := Pv (i + 1) } σ2 H2)
    (hd : ∀ σ H, Pv n σ H → nx σ H) :
    ∃ W : Nat → Nat → L2.St → Hp → Prop, (∃ m, W 0 m σ H) ∧ ∀ i m σ H, W i m σ H →
      ((Itr lo n).stop i H ∧ nx σ H) ∨ ((Itr lo n).go i H ∧ ∃ N : L2.St → Hp → Prop, (∀ σ' H', N σ' H' → ∃ m', m' < m ∧ W (i + 1) m' σ' H') ∧ ∀ x H', (Itr lo n).yld i H x H' → g x σ H' fun σ2 H2 => tb { nx := N, rt := rt, bk := nx, ct := N } σ2 H2) :=
  for_range (D := { nx := nx, rt := rt }) Pv h0 hs hd
theorem forE {a : Addr} {xs : List V} {g : TG} {tb : TS} {nx : L2.St → Hp → Prop} {rt : VK} {σ : L2.St} {H : Hp} (Pv : Nat → L2.St → Hp → Prop) (h0 : Pv 0 σ H) (hq : ∀ i σ H, Pv i σ H → SqL K H a xs) (hs : ∀ (i : Nat) (x : V) (T : Addr) (σ : L2.St) (H : Hp), xs[i]? = some x → Pv i σ H → H T = none → g (.ref T) σ (upd H T (.tup [.int (i : Nat), x])) fun σ2 H2 => tb { nx := Pv (i + 1), rt := rt, bk := nx, ct := Pv (i + 1) } σ2 H2)
    (hd : ∀ σ H, Pv xs.length σ H → nx σ H) :
    ∃ W : Nat → Nat → L2.St → Hp → Prop, (∃ m, W 0 m σ H) ∧ ∀ i m σ H, W i m σ H →
      ((Ite K a).stop i H ∧ nx σ H) ∨ ((Ite K a).go i H ∧ ∃ N : L2.St → Hp → Prop, (∀ σ' H', N σ' H' → ∃ m', m' < m ∧ W (i + 1) m' σ' H') ∧ ∀ v H', (Ite K a).yld i H v H' → g v σ H' fun σ2 H2 => tb { nx := N, rt := rt, bk := nx, ct := N } σ2 H2) :=
  for_enum (D := { nx := nx, rt := rt }) Pv h0 hq hs hd
theorem ifN {p : Prop} [Decidable p] {A B : Prop} (h1 : ¬ p → A) (h2 : p → B) : if (!decide p) = true then A else B := by
  by_cases h : p
  · rw [decide_eq_true h]; exact h2 h
  · rw [decide_eq_false h]; exact h1 h
def odp : Option Rat → PyData
  | none => .none
  | some q => dq q
theorem optV.dp {H : Hp} {v : V} {o : Option Rat} (h : optV K H v o) : Dp K H v (odp o) := by
  cases o with
  | none =>
    have h : v = .non := h
    rw [h]
    exact .non
  | some q => exact Rq.dp h
theorem sh_odp (o : Option Rat) : SeqAt.shaped (odp o) = true := by cases o <;> rfl
theorem eqv_odp (o u : Option Rat) : PyData.eqv (odp o) (odp u) = decide (o = u) := by
  cases o with
  | none =>
    cases u with
    | none => rfl
    | some q => rfl
  | some p =>
    cases u with
    | none => rfl
    | some q =>
      show PyData.eqv (dq p) (dq q) = _
      rw [eqv_dq]
      by_cases h : p = q
      · rw [dT h, dT (congrArg some h)]
      · rw [dF h, dF fun e => h (Option.some.inj e)]
theorem eqv_odq (o : Option Rat) (q : Rat) : PyData.eqv (odp o) (dq q) = decide (o = some q) := eqv_odp o (some q)
theorem treeAll_nil {n : Nat} : ∀ d ∈ ([] : List PyData), Tree n d := nofun
theorem treeAll_cons {n : Nat} {d : PyData} {ds : List PyData} (h : Tree n d) (g : ∀ d ∈ ds, Tree n d) : ∀ e ∈ d :: ds, Tree n e := fun e he => by
  rcases List.mem_cons.mp he with rfl | he
  · exact h
  · exact g e he
theorem ifNT {p : Prop} [Decidable p] {A B : Prop} (h : ¬ p) (hA : A) : if (!decide p) = true then A else B := by rw [decide_eq_false h]; exact hA
theorem ifNF {p : Prop} [Decidable p] {A B : Prop} (h : p) (hB : B) : if (!decide p) = true then A else B := by rw [decide_eq_true h]; exact hB
theorem optV_rq {H : Hp} {v : V} {o : Option Rat} {q : Rat} (h : optV K H v o) (e : o = some q) : Rq K H v q := by subst e; exact h
theorem aQd {l s : Addr} {m : Nat} {ok : Rat → Prop} {H : Hp} {Q : VK} (h : ∀ a q H', Rq K H' (.ref a) q → SqT K H' a [.int q.num, .int (q.den : Int)] → Sz m q → ok q → Sto l s H' → Fr s H H' → Q (.ref a) H') : ∀ v H', Qd K m ok H' v → Sto l s H' → Fr s H H' → Q v H' := fun v H' hq S e => by
  obtain ⟨q, hr, z, o⟩ := hq
  obtain ⟨a, rfl, ha⟩ := id hr
  exact h a q H' hr ha z o S e
theorem aRq0 {q : Rat} {H : Hp} {Q : VK} (h : ∀ a, Rq K H (.ref a) q → SqT K H a [.int q.num, .int (q.den : Int)] → Q (.ref a) H) : ∀ v, Rq K H v q → Q v H := fun v hq => by
  obtain ⟨a, rfl, ha⟩ := id hq
  exact h a hq ha
structure Hold (p : Prop) : Prop where
  out : p
theorem rl11 {H : Hp} {t : Addr} : Rq K (upd H t (.tup [.int 1, .int 1])) (.ref t) (1) := rq_new 1 1 _ (by decide +kernel) (by decide +kernel)
theorem zl11 : Sz 10 (1 : Rat) := by decide +kernel
theorem rl12 {H : Hp} {t : Addr} : Rq K (upd H t (.tup [.int 1, .int 2])) (.ref t) (mkRat 1 2) := rq_new 1 2 _ (by decide +kernel) (by decide +kernel)
theorem zl12 : Sz 10 (mkRat 1 2 : Rat) := by decide +kernel
theorem rl01 {H : Hp} {t : Addr} : Rq K (upd H t (.tup [.int 0, .int 1])) (.ref t) (0) := rq_new 0 1 _ (by decide +kernel) (by decide +kernel)
theorem zl01 : Sz 10 (0 : Rat) := by decide +kernel
theorem rl1m {H : Hp} {t : Addr} : Rq K (upd H t (.tup [.int 1, .int 1000])) (.ref t) (mkRat 1 1000) := rq_new 1 1000 _ (by decide +kernel) (by decide +kernel)
theorem zl1m : Sz 10 (mkRat 1 1000 : Rat) := by decide +kernel
theorem rlnm {H : Hp} {t : Addr} : Rq K (upd H t (.tup [.int (-1), .int 1000])) (.ref t) (mkRat (-1) 1000) := rq_new (-1) 1000 _ (by decide +kernel) (by decide +kernel)
theorem zlnm : Sz 10 (mkRat (-1) 1000 : Rat) := by decide +kernel
theorem rln1 {H : Hp} {t : Addr} : Rq K (upd H t (.tup [.int (-1), .int 1])) (.ref t) (-1) := rq_new (-1) 1 _ (by decide +kernel) (by decide +kernel)
theorem zln1 : Sz 10 (-1 : Rat) := by decide +kernel
theorem rlh1 {H : Hp} {t : Addr} : Rq K (upd H t (.tup [.int 100, .int 1])) (.ref t) (100) := rq_new 100 1 _ (by decide +kernel) (by decide +kernel)
theorem zlh1 : Sz 10 (100 : Rat) := by decide +kernel
/-- a list that grows -/
structure Gw {α : Type} (R : Hp → V → α → Prop) (H : Hp) (D : Addr) (us : List V) (os : List α) (G : Hp) : Prop where
  fresh : H D = none
  same : Same H G
  at_ : G D = some (.lst us)
  all : All2 (R G) us os
theorem Gw.go {α : Type} {R : Hp → V → α → Prop} {H G G1 : Hp} {D : Addr} {us : List V} {os : List α} (L : Lasts R) (h : Gw R H D us os G) (e : Same G G1) : Gw R H D us os G1 :=
  ⟨h.fresh, h.same.trans e, e _ _ h.at_, h.all.imp fun _ _ q => L (Fr.of (s := D) e) ⟨_, h.at_⟩ q⟩
theorem Gw.app {α : Type} {R : Hp → V → α → Prop} {H G : Hp} {D : Addr} {us : List V} {os : List α} {x : V} {q : α} (L : Lasts R) (h : Gw R H D us os G) (r : R G x q) : Gw R H D (us ++ [x]) (os ++ [q]) (upd G D (.lst (us ++ [x]))) :=
  ⟨h.fresh, same_upd h.same h.fresh _, upd_same, (h.all.imp fun _ _ q => L (Fr.upd _) ⟨_, h.at_⟩ q).snoc (L (Fr.upd _) ⟨_, h.at_⟩ r)⟩
theorem appGw {α : Type} {R : Hp → V → α → Prop} {H G : Hp} {D : Addr} {us : List V} {os : List α} {x : V} {q : α} {C : Addr → List V → V → Prop} (L : Lasts R) (gw : Gw R H D us os G) (r : R G x q) (hl : us.length < sizeLine) (k : Gw R H D (us ++ [x]) (os ++ [q]) (upd G D (.lst (us ++ [x]))) → Fr D G (upd G D (.lst (us ++ [x]))) → C D us x) :
    ∃ (l : Addr) (xs : List V) (y : V), V.ref D = .ref l ∧ [x] = [y] ∧ G l = some (.lst xs) ∧ xs.length < sizeLine ∧ C l xs y := ⟨D, us, x, rfl, rfl, gw.at_, hl, k (gw.app L r) (Fr.upd _)⟩
theorem Gw.start {α : Type} {R : Hp → V → α → Prop} {H G : Hp} {D : Addr} (e : Same H G) (h : G D = none) : Gw R H D [] [] (upd G D (.lst [])) := ⟨sameFree e h, e.trans (same_new h _), upd_same, All2.nil⟩
end Vk

set_option maxHeartbeats 4000000
namespace Vk
open PySem L2 Vm Vl
theorem place_cut {c : List Pc} {t : Rat} {i : Nat} {p : Pc} (ok : Cok c) (done : ∀ (j : Nat) (p : Pc), j < i → c[j]? = some p → ¬ t < p.s) (ec : c[i]? = some p) (g : t < p.s) : (c.filter (on t)).length = i := by
  have hi := (List.getElem?_eq_some_iff.mp ec).1
  have e : c.filter (on t) = c.take i := filter_take _ fun j x hx => by
    constructor
    · intro o
      refine Nat.lt_of_not_le fun l => ?_
      have : p.s ≤ x.s := by
        by_cases e : i = j
        · subst e; rw [ec] at hx; cases hx; exact Rat.le_refl
        · have := cok_lt ok (show i < j by omega) ec hx; grind
      simp [on] at o
      grind
    · intro l
      simp [on, done j x l hx]
  rw [e, List.length_take]
  omega
theorem on_take {c : List Pc} (ok : Cok c) (t : Rat) : c.filter (on t) = c.take (c.filter (on t)).length := by
  by_cases h : ∃ i p, c[i]? = some p ∧ t < p.s ∧ ∀ (j : Nat) (q : Pc), j < i → c[j]? = some q → ¬ t < q.s
  · obtain ⟨i, p, ec, g, done⟩ := h
    have e := place_cut ok done ec g
    rw [e]
    refine filter_take _ fun j x hx => ?_
    constructor
    · intro o
      refine Nat.lt_of_not_le fun l => ?_
      have : p.s ≤ x.s := by
        by_cases e : i = j
        · subst e; rw [ec] at hx; cases hx; exact Rat.le_refl
        · have := cok_lt ok (show i < j by omega) ec hx; grind
      simp [on] at o
      grind
    · intro l
      simp [on, done j x l hx]
  · have e : c.filter (on t) = c := List.filter_eq_self.mpr fun p hp => by
      obtain ⟨j, hj⟩ := List.mem_iff_getElem?.mp hp
      have key : ∀ (n : Nat) (q : Pc), c[n]? = some q → ¬ t < q.s := by
        intro n
        induction n using Nat.strongRecOn with
        | ind n ih =>
          intro q hq g
          exact h ⟨n, q, hq, g, fun m r hm hr => ih m hm r hr⟩
      simp [on, key j p hj]
    rw [e, List.take_length]
/-- the piece in force -/
def pcAt (c : List Pc) (t : Rat) : Option Pc := (c.filter (on t)).getLast?
theorem now_pc (c : List Pc) (t : Rat) : nowf c t = (pcAt c t).map (vl t) := rfl
theorem pcAt_at {c : List Pc} {t : Rat} (h : 0 < (c.filter (on t)).length) : ∃ p, p ∈ c ∧ pcAt c t = some p ∧ ∀ ok : Cok c, c[(c.filter (on t)).length - 1]? = some p := by
  obtain ⟨p, hp⟩ : ∃ p, pcAt c t = some p := by
    unfold pcAt
    cases e : (c.filter (on t)).getLast? with
    | none => rw [List.getLast?_eq_none_iff] at e; rw [e] at h; exact absurd h (by simp)
    | some p => exact ⟨p, rfl⟩
  refine ⟨p, (List.mem_filter.mp (List.mem_of_getLast? hp)).1, hp, fun ok => ?_⟩
  have e := on_take ok t
  unfold pcAt at hp
  rw [List.getLast?_eq_getElem?, e, List.getElem?_take, List.length_take] at hp
  have hm : (c.filter (on t)).length ≤ c.length := List.length_filter_le _ _
  rw [Nat.min_eq_left hm] at hp
  rw [if_pos (by omega)] at hp
  exact hp
theorem pcAt_none {c : List Pc} {t : Rat} (h : (c.filter (on t)).length = 0) : pcAt c t = none := by
  unfold pcAt
  rw [List.eq_nil_of_length_eq_zero h]
  rfl
theorem pcAt_first {c : List Pc} (ok : Cok c) {p : Pc} (e : c[0]? = some p) {t : Rat} : pcAt c t = none ↔ t < p.s := by
  constructor
  · intro h
    unfold pcAt at h
    rw [List.getLast?_eq_none_iff] at h
    have := List.filter_eq_nil_iff.mp h p (List.mem_of_getElem? e)
    simpa [on] using this
  · intro g
    exact pcAt_none (place_cut ok (i := 0) (fun j _ h => absurd h (Nat.not_lt_zero j)) e g)
theorem split_on {c : List Pc} (ok : Cok c) (t : Rat) : ∃ a b, c = a ++ b ∧ a = c.filter (on t) ∧ (∀ p ∈ a, p.s ≤ t) ∧ (∀ p ∈ b, t < p.s) := by
  refine ⟨c.take (c.filter (on t)).length, c.drop (c.filter (on t)).length, (List.take_append_drop _ _).symm, (on_take ok t).symm, fun p hp => ?_, fun p hp => ?_⟩
  · rw [← on_take ok t] at hp
    have := (List.mem_filter.mp hp).2
    simp [on] at this
    grind
  · refine Rat.not_le.mp fun g => ?_
    obtain ⟨i, hi⟩ := List.mem_iff_getElem?.mp hp
    rw [List.getElem?_drop] at hi
    have e : c.filter (on t) = c.take (c.filter (on t)).length := on_take ok t
    have lt := (List.getElem?_eq_some_iff.mp hi).1
    -- all up to this one are on
    have key : ∀ j q, j < (c.filter (on t)).length + i + 1 → c[j]? = some q → ¬ t < q.s := by
      intro j q hj hq g2
      have : q.s ≤ p.s := by
        by_cases e2 : j = (c.filter (on t)).length + i
        · subst e2; rw [hi] at hq; cases hq; exact Rat.le_refl
        · have := cok_lt ok (show j < (c.filter (on t)).length + i by omega) hq hi; grind
      grind
    have h2 : ((c.take ((c.filter (on t)).length + i + 1)).filter (on t)) = c.take ((c.filter (on t)).length + i + 1) := List.filter_eq_self.mpr fun q hq => by
      obtain ⟨j, hj⟩ := List.mem_iff_getElem?.mp hq
      rw [List.getElem?_take] at hj
      split at hj
      · simp [on, key j q (by assumption) hj]
      · cases hj
    have h3 : ((c.take ((c.filter (on t)).length + i + 1)).filter (on t)).length ≤ (c.filter (on t)).length := ((List.take_sublist _ _).filter _).length_le
    rw [h2, List.length_take] at h3
    omega
/-- the piece in force, by its place -/
theorem now_piece {c : List Pc} (ok : Cok c) {t y : Rat} (h : nowf c t = some y) : ∃ i p, c[i]? = some p ∧ p.s ≤ t ∧ (∀ n, c[i + 1]? = some n → t < n.s) ∧ y = vl t p := by
  obtain ⟨a, b, e, ea, h1, h2⟩ := split_on ok t
  unfold nowf at h
  obtain ⟨p, hp, rfl⟩ := Option.map_eq_some_iff.mp h
  rw [← ea] at hp
  rw [List.getLast?_eq_getElem?] at hp
  have hl := (List.getElem?_eq_some_iff.mp hp).1
  refine ⟨a.length - 1, p, ?_, h1 p (List.mem_of_getElem? hp), fun n hn => ?_, rfl⟩
  · rw [e, List.getElem?_append_left hl]
    exact hp
  · rw [e, List.getElem?_append_right (by omega)] at hn
    exact h2 n (List.mem_of_getElem? hn)
/-! ### a course shown by another one -/
theorem now_off {a b : List Pc} {t : Rat} (h : ∀ q ∈ b, t < q.s) : nowf (a ++ b) t = nowf a t := by
  have gb : b.filter (on t) = [] := List.filter_eq_nil_iff.mpr fun x hx => by have := h x hx; simp [on, this]
  unfold nowf
  rw [List.filter_append, gb, List.append_nil]
theorem now_last {a : List Pc} {q : Pc} {t : Rat} (h : ¬ t < q.s) : nowf (a ++ [q]) t = some (vl t q) := by
  unfold nowf
  rw [List.filter_append, List.filter_cons_of_pos (by simp [on, h]), List.filter_nil]
  simp [vl]
theorem now_right {a b : List Pc} {t y : Rat} (h : nowf b t = some y) : nowf (a ++ b) t = some y := by
  unfold nowf at *
  rw [List.filter_append]
  obtain ⟨p, hp, rfl⟩ := Option.map_eq_some_iff.mp h
  rw [List.getLast?_append, hp]
  rfl
theorem tm_le {p : Pc} {x t : Rat} (r : 0 < p.r) : tm p x ≤ t ↔ x ≤ vl t p := by
  have e : vl (tm p x) p = x := by
    unfold vl tm
    have : p.r ≠ 0 := by grind
    have h2 : p.r * ((x - p.v) / p.r) = x - p.v := by
      rw [Rat.mul_comm, Rat.div_mul_cancel this]
    grind
  have d : vl t p - vl (tm p x) p = p.r * (t - tm p x) := by unfold vl; grind
  constructor
  · intro h
    have := Rat.mul_nonneg (Rat.le_of_lt r) (show 0 ≤ t - tm p x by grind)
    grind
  · intro h
    refine Rat.not_lt.mp fun g => ?_
    have := Rat.mul_pos r (show 0 < tm p x - t by grind)
    have d2 : p.r * (tm p x - t) = - (p.r * (t - tm p x)) := by grind
    grind
theorem tm_vl {p : Pc} {x : Rat} (r : 0 < p.r) : vl (tm p x) p = x := by
  unfold vl tm
  have : p.r ≠ 0 := by grind
  have h2 : p.r * ((x - p.v) / p.r) = x - p.v := by rw [Rat.mul_comm, Rat.div_mul_cancel this]
  grind
theorem tm_lt2 {p : Pc} {x y : Rat} (r : 0 < p.r) (h : x < y) : tm p x < tm p y := by
  refine Rat.not_le.mp fun g => ?_
  have := (tm_le (x := y) r).mp g
  rw [tm_vl r] at this
  grind
/-- the pieces that one piece makes behind its first -/
def chM (p : Pc) (g : Pc) : Pc := ⟨tm p g.s, g.v, p.r * g.r⟩
def chP (p : Pc) (e : Option Rat) (g : Pc) : Bool := decide (p.v < g.s) && (match e with
  | none => true
  | some x => decide (tm p g.s < x))
def ch1 (o : List Pc) (p : Pc) (e : Option Rat) (f : Pc) : List Pc := ⟨p.s, vl p.v f, p.r * f.r⟩ :: (o.filter (chP p e)).map (chM p)
theorem chM_vl {p g : Pc} {t : Rat} (r : 0 < p.r) : vl t (chM p g) = vl (vl t p) g := by
  have e := tm_vl (p := p) (x := g.s) r
  unfold vl chM at *
  dsimp only at *
  grind
theorem now_ch1 {o : List Pc} {p f : Pc} {e : Option Rat} {t y : Rat} (ok : Cok o) (r : 0 < p.r) (hf : nowf o p.v = some (vl p.v f) ∧ pcAt o p.v = some f) (h1 : p.s ≤ t) (h2 : ∀ x, e = some x → t < x) (h : nowf o (vl t p) = some y) : nowf (ch1 o p e f) t = some y := by
  obtain ⟨i, g, hg, g1, g2, rfl⟩ := now_piece ok h
  have up : p.v ≤ vl t p := by
    have := Rat.mul_nonneg (Rat.le_of_lt r) (show 0 ≤ t - p.s by grind)
    unfold vl
    grind
  have e0 : o = o.take i ++ g :: o.drop (i + 1) := by
    have lt := (List.getElem?_eq_some_iff.mp hg).1
    have := List.take_append_drop i o
    rw [List.drop_eq_getElem_cons lt, (List.getElem?_eq_some_iff.mp hg).2] at this
    exact this.symm
  have after : ∀ q ∈ o.drop (i + 1), vl t p < q.s := fun q hq => by
    obtain ⟨j, hj⟩ := List.mem_iff_getElem?.mp hq
    rw [List.getElem?_drop] at hj
    have l1 : i + 1 < o.length := by have := (List.getElem?_eq_some_iff.mp hj).1; omega
    have hn : o[i + 1]? = some o[i + 1] := List.getElem?_eq_getElem l1
    have := g2 _ hn
    by_cases z : j = 0
    · subst z; rw [Nat.add_zero, hn] at hj; cases hj; exact this
    · have := cok_lt ok (show i + 1 < i + 1 + j by omega) hn hj; grind
  have before : ∀ q ∈ o.take i, q.s < g.s := fun q hq => by
    obtain ⟨j, hj⟩ := List.mem_iff_getElem?.mp hq
    rw [List.getElem?_take] at hj
    split at hj
    · exact cok_lt ok (by assumption) hj hg
    · cases hj
  have offA : ∀ q ∈ ((o.drop (i + 1)).filter (chP p e)).map (chM p), t < q.s := fun q hq => by
    obtain ⟨x, hx, rfl⟩ := List.mem_map.mp hq
    have := after x (List.mem_filter.mp hx).1
    show t < tm p x.s
    refine Rat.not_le.mp fun z => ?_
    have := (tm_le (x := x.s) r).mp z
    grind
  unfold ch1
  by_cases c : p.v < g.s
  · have on_g : chP p e g = true := by
      unfold chP
      rw [decide_eq_true c, Bool.true_and]
      have le := (tm_le (x := g.s) (t := t) r).mpr g1
      cases e with
      | none => rfl
      | some x =>
        have := h2 x rfl
        exact decide_eq_true (by grind)
    rw [e0, List.filter_append, List.filter_cons_of_pos on_g, List.map_append, List.map_cons, ← List.cons_append, show ∀ (a : List Pc) (q : Pc) (b : List Pc), a ++ q :: b = (a ++ [q]) ++ b by simp, now_off offA, now_last (by
      have le := (tm_le (x := g.s) (t := t) r).mpr g1
      show ¬ t < tm p g.s
      grind), chM_vl r]
  · have eg : pcAt o p.v = some g := by
      have gb : (o.drop (i + 1)).filter (on p.v) = [] := List.filter_eq_nil_iff.mpr fun q hq => by have := after q hq; simp [on]; grind
      unfold pcAt
      rw [e0, List.filter_append, List.filter_cons_of_pos (by simp [on, c]), gb]
      simp
    have ef : f = g := by rw [hf.2] at eg; exact Option.some.inj eg
    subst ef
    have e2 : (o.filter (chP p e)).map (chM p) = ((o.drop (i + 1)).filter (chP p e)).map (chM p) := by
      have e3 : o.filter (chP p e) = (o.drop (i + 1)).filter (chP p e) := by
        have ga : (o.take i).filter (chP p e) = [] := List.filter_eq_nil_iff.mpr fun q hq => by
          have := before q hq
          have z : ¬ p.v < q.s := by grind
          unfold chP
          rw [decide_eq_false z]
          simp
        rw [show o.filter (chP p e) = (o.take i ++ f :: o.drop (i + 1)).filter (chP p e) by rw [← e0], List.filter_append, List.filter_cons_of_neg (by unfold chP; simp [c]), ga]
        rfl
      rw [e3]
    rw [e2]
    have := now_off (a := [(⟨p.s, vl p.v f, p.r * f.r⟩ : Pc)]) offA
    rw [List.singleton_append] at this
    rw [this]
    have := now_last (a := []) (q := (⟨p.s, vl p.v f, p.r * f.r⟩ : Pc)) (t := t) (by show ¬ t < p.s; grind)
    rw [List.nil_append] at this
    rw [this]
    congr 1
    unfold vl
    grind
end Vk

set_option maxHeartbeats 4000000
namespace Vk
open PySem L2 Vm Vl
/-! ### a whole course shown by another one -/
def nxt (c : List Pc) : Option Rat := c.head?.map (·.s)
def ch (o : List Pc) : List Pc → List Pc
  | [] => []
  | p :: c => (match pcAt o p.v with
    | some f => ch1 o p (nxt c) f
    | none => []) ++ ch o c
/-- what is shown never goes back -/
def NB (c : List Pc) : Prop := ∀ (i : Nat) (p q : Pc), c[i]? = some p → c[i + 1]? = some q → vl q.s p ≤ q.v
theorem NB.tail {p : Pc} {c : List Pc} (h : NB (p :: c)) : NB c := fun i x y hx hy => h (i + 1) x y (by simpa using hx) (by simpa using hy)
theorem cok_tail {p : Pc} {c : List Pc} (h : Cok (p :: c)) : Cok c := ⟨fun x hx => h.1 x (List.mem_cons_of_mem _ hx), fun i x y hx hy => h.2 (i + 1) x y (by simpa using hx) (by simpa using hy)⟩
theorem cok_head {p : Pc} {c : List Pc} (h : Cok (p :: c)) : ∀ x ∈ c, p.s < x.s := (List.pairwise_cons.mp (ascP_of h)).1
theorem tm_gt {p : Pc} {x : Rat} (r : 0 < p.r) (h : p.v < x) : p.s < tm p x := by
  refine Rat.not_le.mp fun g => ?_
  have := (tm_le (x := x) r).mp g
  unfold vl at this
  grind
theorem ch1_mem {o : List Pc} {p f x : Pc} {e : Option Rat} (h : x ∈ ch1 o p e f) : x = ⟨p.s, vl p.v f, p.r * f.r⟩ ∨ ∃ g ∈ o, p.v < g.s ∧ (∀ y, e = some y → tm p g.s < y) ∧ x = chM p g := by
  unfold ch1 at h
  rcases List.mem_cons.mp h with h | h
  · exact .inl h
  · obtain ⟨g, hg, rfl⟩ := List.mem_map.mp h
    obtain ⟨h1, h2⟩ := List.mem_filter.mp hg
    unfold chP at h2
    obtain ⟨h3, h4⟩ := Bool.and_eq_true_iff.mp h2
    refine .inr ⟨g, h1, of_decide_eq_true h3, fun y hy => ?_, rfl⟩
    subst hy
    exact of_decide_eq_true h4
theorem ch_ge {o : List Pc} : ∀ {c : List Pc} {t : Rat}, Cok c → (∀ p ∈ c, t ≤ p.s) → ∀ x ∈ ch o c, t ≤ x.s
  | [], _, _, _, x, hx => by cases hx
  | p :: c, t, ok, h, x, hx => by
    unfold ch at hx
    rcases List.mem_append.mp hx with hx | hx
    · cases hf : pcAt o p.v with
      | none => rw [hf] at hx; cases hx
      | some f =>
        rw [hf] at hx
        have hp := h p List.mem_cons_self
        rcases ch1_mem hx with rfl | ⟨g, hg, h1, h2, rfl⟩
        · exact hp
        · have := tm_gt (ok.1 p List.mem_cons_self) h1
          show t ≤ tm p g.s
          grind
    · exact ch_ge (cok_tail ok) (fun q hq => h q (List.mem_cons_of_mem _ hq)) x hx
theorem nb_up {p q : Pc} {c : List Pc} (ok : Cok (p :: q :: c)) (nb : NB (p :: q :: c)) : p.v ≤ q.v := by
  have h := nb 0 p q rfl rfl
  have lt := cok_head ok q List.mem_cons_self
  have := Rat.mul_nonneg (Rat.le_of_lt (ok.1 p List.mem_cons_self)) (show 0 ≤ q.s - p.s by grind)
  unfold vl at h
  grind
theorem pcAt_up {o : List Pc} (ok : Cok o) {x y : Rat} {f : Pc} (h : pcAt o x = some f) (le : x ≤ y) : ∃ g, pcAt o y = some g := by
  cases e : pcAt o y with
  | some g => exact ⟨g, rfl⟩
  | none =>
    cases o with
    | nil => cases h
    | cons a b =>
      have h1 := (pcAt_first ok (p := a) rfl).mp e
      have h2 : x < a.s := by grind
      rw [(pcAt_first ok (p := a) rfl).mpr h2] at h
      cases h
theorem now_ch {o : List Pc} (oko : Cok o) : ∀ {c : List Pc} {p0 f0 : Pc} {t : Rat}, Cok c → NB c → c[0]? = some p0 → pcAt o p0.v = some f0 → p0.s ≤ t → ∃ x y, nowf c t = some x ∧ nowf o x = some y ∧ nowf (ch o c) t = some y ∧ p0.v ≤ x
  | [], _, _, _, _, _, h, _, _ => by cases h
  | p :: c, p0, f0, t, ok, nb, h0, hf, ht => by
    cases h0
    have r := ok.1 p List.mem_cons_self
    have up : p.v ≤ vl t p := by
      have := Rat.mul_nonneg (Rat.le_of_lt r) (show 0 ≤ t - p.s by grind)
      unfold vl
      grind
    have one : (∀ q ∈ c, t < q.s) → ∃ x y, nowf (p :: c) t = some x ∧ nowf o x = some y ∧ nowf (ch o (p :: c)) t = some y ∧ p.v ≤ x := fun hc => by
      have n1 : nowf (p :: c) t = some (vl t p) := by
        have := now_off (a := [p]) hc
        rw [List.singleton_append] at this
        rw [this]
        have := now_last (a := []) (q := p) (t := t) (by grind)
        rw [List.nil_append] at this
        exact this
      obtain ⟨g, hg⟩ := pcAt_up oko hf up
      have n2 : nowf o (vl t p) = some (vl (vl t p) g) := by rw [now_pc, hg]; rfl
      refine ⟨_, _, n1, n2, ?_, up⟩
      unfold ch
      rw [hf]
      have off : ∀ q ∈ ch o c, t < q.s := fun q hq => by
        cases c with
        | nil => cases hq
        | cons a b =>
          have h1 := hc a List.mem_cons_self
          have h2 := ch_ge (o := o) (t := a.s) (cok_tail ok) (fun x hx => by
            rcases List.mem_cons.mp hx with rfl | hx
            · exact Rat.le_refl
            · exact Rat.le_of_lt (cok_head (cok_tail ok) x hx)) q hq
          grind
      rw [now_off off]
      refine now_ch1 oko r ⟨by rw [now_pc, hf]; rfl, hf⟩ ht (fun x hx => ?_) n2
      cases c with
      | nil => cases hx
      | cons a b => cases hx; exact hc a List.mem_cons_self
    cases c with
    | nil => exact one (fun q hq => by cases hq)
    | cons a b =>
      by_cases g : t < a.s
      · refine one fun q hq => ?_
        rcases List.mem_cons.mp hq with rfl | hq
        · exact g
        · have := cok_head (cok_tail ok) q hq; grind
      · have le := nb_up ok nb
        obtain ⟨f1, hf1⟩ := pcAt_up oko hf le
        obtain ⟨x, y, h1, h2, h3, h4⟩ := now_ch oko (cok_tail ok) nb.tail (p0 := a) rfl hf1 (by grind : a.s ≤ t)
        refine ⟨x, y, ?_, h2, ?_, by grind⟩
        · have := now_right (a := [p]) h1
          rwa [List.singleton_append] at this
        · unfold ch
          exact now_right h3
theorem asc_ch1 {o : List Pc} {p f : Pc} {e : Option Rat} (ok : Cok o) (r : 0 < p.r) : AscP (ch1 o p e f) := by
  unfold ch1 AscP
  rw [List.pairwise_cons]
  refine ⟨fun x hx => ?_, ?_⟩
  · obtain ⟨g, hg, rfl⟩ := List.mem_map.mp hx
    have h := (List.mem_filter.mp hg).2
    unfold chP at h
    exact tm_gt r (of_decide_eq_true (Bool.and_eq_true_iff.mp h).1)
  · rw [List.pairwise_map]
    exact ((ascP_of ok).sublist List.filter_sublist).imp fun h => tm_lt2 r h
theorem cok_ch {o : List Pc} (oko : Cok o) : ∀ {c : List Pc}, Cok c → Cok (ch o c) := fun {c} ok => by
  refine cok_of ?_ ?_
  · induction c with
    | nil => exact List.Pairwise.nil
    | cons p c ih =>
      unfold ch
      refine List.pairwise_append.mpr ⟨?_, ih (cok_tail ok), fun x hx y hy => ?_⟩
      · cases hf : pcAt o p.v with
        | none => exact List.Pairwise.nil
        | some f => exact asc_ch1 oko (ok.1 p List.mem_cons_self)
      · cases hf : pcAt o p.v with
        | none => rw [hf] at hx; cases hx
        | some f =>
          rw [hf] at hx
          cases c with
          | nil => cases hy
          | cons a b =>
            have h1 := cok_head ok a List.mem_cons_self
            have h2 := ch_ge (o := o) (t := a.s) (cok_tail ok) (fun x hx => by
              rcases List.mem_cons.mp hx with rfl | hx
              · exact Rat.le_refl
              · exact Rat.le_of_lt (cok_head (cok_tail ok) x hx)) y hy
            rcases ch1_mem hx with rfl | ⟨g, hg, g1, g2, rfl⟩
            · show p.s < y.s
              grind
            · have := g2 a.s rfl
              show tm p g.s < y.s
              grind
  · induction c with
    | nil => exact fun x hx => by cases hx
    | cons p c ih =>
      intro x hx
      unfold ch at hx
      rcases List.mem_append.mp hx with hx | hx
      · cases hf : pcAt o p.v with
        | none => rw [hf] at hx; cases hx
        | some f =>
          rw [hf] at hx
          have r := ok.1 p List.mem_cons_self
          rcases ch1_mem hx with rfl | ⟨g, hg, g1, g2, rfl⟩
          · exact Rat.mul_pos r (oko.1 f (List.mem_filter.mp (List.mem_of_getLast? hf)).1)
          · exact Rat.mul_pos r (oko.1 g hg)
      · exact ih (cok_tail ok) x hx
theorem ch_first {o : List Pc} {p f : Pc} {c : List Pc} (hf : pcAt o p.v = some f) : (ch o (p :: c))[0]? = some ⟨p.s, vl p.v f, p.r * f.r⟩ := by
  unfold ch
  rw [hf]
  rfl
theorem len_ch {o : List Pc} : ∀ (c : List Pc), (ch o c).length ≤ c.length * (o.length + 1)
  | [] => Nat.zero_le _
  | p :: c => by
    have ih := len_ch (o := o) c
    unfold ch
    rw [List.length_append, List.length_cons, Nat.succ_mul]
    have : (match pcAt o p.v with
      | some f => ch1 o p (nxt c) f
      | none => []).length ≤ o.length + 1 := by
      cases pcAt o p.v with
      | none => exact Nat.zero_le _
      | some f =>
        show (ch1 o p (nxt c) f).length ≤ _
        unfold ch1
        rw [List.length_cons, List.length_map]
        have := List.length_filter_le (chP p (nxt c)) o
        omega
    omega
end Vk

set_option maxHeartbeats 4000000
namespace Vk
open PySem L2 Vm Vl
variable {P : Program} {w : World} {K : PySem.W.Frag} {mg : Str → Option Value} {base : Heap} {k : Nat} {f f1 f2 f3 f4 f5 f6 f7 f8 f9 : Addr} {fd fd1 fd2 fd3 fd4 fd5 fd6 fd7 fd8 fd9 : FuncData}
abbrev s__law_same : Stmt := top 35
abbrev N__law_same : List Str := ["_law_value", "_law_due_here", "_law_keys", "_law_name", "_law_k"]
theorem sc__law_same : FnScope N__law_same ["_law_value", "_law_due_here"] (defScope s__law_same) := ⟨rfl, rfl, rfl, by decide +kernel, rfl, by decide +kernel, by decide +kernel⟩
abbrev ps__law_same : List Str := ["_law_value", "_law_due_here"]
theorem ok_same1 (T : Bn mg) (n : Nat) (F : Fn K mg "_law_same" s__law_same ps__law_same f fd) (d_law_is_int : Def P w K mg base (k + n) "_law_is_int" ["_law_value"] (spIsInt K) f1 fd1)
    (d_law_same : Def P w K mg base (k + n) "_law_same" ["_law_value", "_law_due_here"] (fun vs H Q E => ∃ m, m + 1 = n ∧ spSame K m vs H Q E) f fd) : Def P w K mg base (k + n + 1) "_law_same" ps__law_same (spSame K n) f fd := by
  refine ⟨F.F.ok sc__law_same (fun vs H Q E h => ?_) (fun cdv A outer s H vs Q E hr h => ?_), F.m, F.F.kp, F.b⟩
  · obtain ⟨v, u, d, rfl, _⟩ := h
    rfl
  obtain ⟨v, u, d, rfl, hv, hu, ht, z⟩ := h
  refine ⟨_, (pss_cons (ps_if (pt_cmpR op_isN (pv 1) pe_non (nomark _))
        (pss_one (ps_ret (pe_cmpR op_isN (pv 0) pe_non (nomark _))))
        pss_nil)
      (pss_cons (ps_if (pt_val (pe_callB call_isi (by rfl) T.isinstance_ (by decide +kernel) (pa_cons (pv 1) (pa_cons (pe_bltn (v := .ty "bool") (by rfl) T.bool_ (by decide +kernel) rfl) pa_nil))))
        (pss_one (ps_ret (pe_and (pe_callB call_isi (by rfl) T.isinstance_ (by decide +kernel) (pa_cons (pv 0) (pa_cons (pe_bltn (v := .ty "bool") (by rfl) T.bool_ (by decide +kernel) rfl) pa_nil))) (pe_one (pe_cmpR (op_eqD hr.units) (pv 0) (pv 1) (nomark _))))))
        pss_nil)
      (pss_cons (ps_if (pt_val (pe_callB call_isi (by rfl) T.isinstance_ (by decide +kernel) (pa_cons (pv 1) (pa_cons (pe_bltn (v := .ty "int") (by rfl) T.int_ (by decide +kernel) rfl) pa_nil))))
        (pss_one (ps_ret (pe_and (pcall d_law_is_int hr (pa_cons (pv 0) pa_nil)) (pe_one (pe_cmpR (op_eqD hr.units) (pv 0) (pv 1) (nomark _))))))
        pss_nil)
      (pss_cons (ps_if (pt_val (pe_callB call_isi (by rfl) T.isinstance_ (by decide +kernel) (pa_cons (pv 1) (pa_cons (pe_bltn (v := .ty "str") (by rfl) T.str_ (by decide +kernel) rfl) pa_nil))))
        (pss_one (ps_ret (pe_and (pe_callB call_isi (by rfl) T.isinstance_ (by decide +kernel) (pa_cons (pv 0) (pa_cons (pe_bltn (v := .ty "str") (by rfl) T.str_ (by decide +kernel) rfl) pa_nil))) (pe_one (pe_cmpR (op_eqD hr.units) (pv 0) (pv 1) (nomark _))))))
        pss_nil)
      (pss_cons (ps_if (pt_val (pe_callB call_isi (by rfl) T.isinstance_ (by decide +kernel) (pa_cons (pv 1) (pa_cons (pe_bltn (v := .ty "dict") (by rfl) T.dict_ (by decide +kernel) rfl) pa_nil))))
        pss_never
        pss_nil)
      (pss_cons (ps_if (PW.pt (pw_and (pt_val (pe_callB call_isi (by rfl) T.isinstance_ (by decide +kernel) (pa_cons (pv 1) (pa_cons (pe_bltn (v := .ty "list") (by rfl) T.list_ (by decide +kernel) rfl) pa_nil)))) (pw_and1 (pt_not (pt_val (pe_callB call_isi (by rfl) T.isinstance_ (by decide +kernel) (pa_cons (pv 0) (pa_cons (pe_bltn (v := .ty "list") (by rfl) T.list_ (by decide +kernel) rfl) pa_nil))))))))
        (pss_one (ps_ret pe_bl))
        pss_nil)
      (pss_cons (ps_if (PW.pt (pw_and (pt_val (pe_callB call_isi (by rfl) T.isinstance_ (by decide +kernel) (pa_cons (pv 1) (pa_cons (pe_bltn (v := .ty "tuple") (by rfl) T.tuple_ (by decide +kernel) rfl) pa_nil)))) (pw_and1 (pt_not (pt_val (pe_callB call_isi (by rfl) T.isinstance_ (by decide +kernel) (pa_cons (pv 0) (pa_cons (pe_bltn (v := .ty "tuple") (by rfl) T.tuple_ (by decide +kernel) rfl) pa_nil))))))))
        (pss_one (ps_ret pe_bl))
        pss_nil)
      (pss_cons (ps_if (pt_cmpR op_ne (pe_callB call_len_seq (by rfl) T.len_ PySem.boot_len (pa_cons (pv 0) pa_nil)) (pe_callB call_len_seq (by rfl) T.len_ PySem.boot_len (pa_cons (pv 1) pa_nil)) (nomark _))
        (pss_one (ps_ret pe_bl))
        pss_nil)
      (pss_cons (ps_for PassesOwn.never rfl (pi_range1 (by rfl) T.range_ (pa_cons (pe_callB call_len_seq (by rfl) T.len_ PySem.boot_len (pa_cons (pv 1) pa_nil)) pa_nil)) (pg_name (i := 4) sc__law_same.nd rfl (Or.inl rfl))
        (pss_one (ps_if (pt_not (pt_val (pcall d_law_same hr (pa_cons (pe_ix ix_seq (pv 0) (pv 4) (fun _ _ => rfl)) (pa_cons (pe_ix ix_seq (pv 1) (pv 4) (fun _ _ => rfl)) pa_nil)))))
          (pss_one (ps_ret pe_bl))
          pss_nil)))
      (pss_one (ps_ret pe_bl))))))))))), ?_⟩
  cases ht with
  | int i =>
    cases hv
    cases hu
    refine ⟨_, rfl, rfl, _, rfl, ifF (dF nofun) ⟨_, rfl, _, _, _, _, false, rfl, .ty _, (.base (.int i)), kit_ty (by decide +kernel), _, rfl, ifF rfl ⟨_, rfl, _, _, _, _, true, rfl, .ty _, (.base (.int i)), kit_ty (by decide +kernel), _, rfl, ifT rfl ?_⟩⟩⟩
    refine ⟨_, rfl, i, rfl, _, rfl, ifT rfl ⟨_, rfl, _, rfl, _, _, .int i, .int i, rfl, rfl, ?_⟩⟩
    rw [show PyData.eqv (.int i) (.int i) = true from beq_self_eq_true i]
    exact z
  | non =>
    cases hv
    cases hu
    exact ⟨_, rfl, rfl, _, rfl, ifT (dT rfl) ⟨_, rfl, rfl, z⟩⟩
  | @str _ s hs =>
    cases hv
    cases hu
    refine ⟨_, rfl, rfl, _, rfl, ifF (dF nofun) ⟨_, rfl, _, _, _, _, false, rfl, .ty _, (.base (.str s)), kit_ty (by decide +kernel), _, rfl, ifF rfl ⟨_, rfl, _, _, _, _, false, rfl, .ty _, (.base (.str s)), kit_ty (by decide +kernel), _, rfl, ifF rfl ⟨_, rfl, _, _, _, _, true, rfl, .ty _, (.base (.str s)), kit_ty (by decide +kernel), _, rfl, ifT rfl ?_⟩⟩⟩⟩
    refine ⟨_, rfl, _, _, _, _, true, rfl, .ty _, (.base (.str s)), kit_ty (by decide +kernel), _, rfl, ifT rfl ⟨_, rfl, _, rfl, _, _, .str s, .str s, hs, hs, ?_⟩⟩
    rw [show PyData.eqv (.str s) (.str s) = true from beq_self_eq_true s]
    exact z
  | tup hl hall =>
    rename_i m ds
    cases hv with
    | tup ha da =>
    rename_i a xs
    cases hu with
    | tup hb db =>
    rename_i b ys
    have lx := dpall_len da
    have ly := dpall_len db
    have ta := sqt_ty ha
    have tb := sqt_ty hb
    refine ⟨_, rfl, rfl, _, rfl, ifF (dF nofun) ⟨_, rfl, _, _, _, _, false, rfl, .ty _, tb, kit_ty (by decide +kernel), _, rfl, ifF rfl ⟨_, rfl, _, _, _, _, false, rfl, .ty _, tb, kit_ty (by decide +kernel), _, rfl, ifF rfl ⟨_, rfl, _, _, _, _, false, rfl, .ty _, tb, kit_ty (by decide +kernel), _, rfl, ifF rfl ⟨_, rfl, _, _, _, _, false, rfl, .ty _, tb, kit_ty (by decide +kernel), _, rfl, ifF rfl ?_⟩⟩⟩⟩⟩
    refine ⟨_, rfl, _, _, _, _, false, rfl, .ty _, tb, kit_ty (by decide +kernel), _, rfl, ifF rfl (ifF rfl ⟨_, rfl, _, _, _, _, true, rfl, .ty _, tb, kit_ty (by decide +kernel), _, rfl, ifT rfl ⟨_, rfl, _, _, _, _, true, rfl, .ty _, ta, kit_ty (by decide +kernel), _, rfl, ifF rfl ?_⟩⟩)⟩
    refine ⟨_, rfl, a, _, rfl, .inr ha, _, rfl, b, _, rfl, .inr hb, rfl, _, rfl, ifF ?_ ?_⟩
    · rw [lx, ly]
      simp
    have p62 : (2 : Int) ^ 62 = 4611686018427387904 := by decide
    refine ⟨_, rfl, b, _, rfl, .inr hb, _, rfl, by omega, by omega, for_range (n := ((ys.length : Nat) : Int).toNat) (fun i σ H' => ∃ kk, σ = [some (.ref a), some (.ref b), none, none, kk] ∧ H' = H) ⟨none, rfl, rfl⟩ ?_ ?_⟩
    · rintro i σ H' hi ⟨kk, rfl, rfl⟩
      have hi' : i < ds.length := by omega
      obtain ⟨v, hv, dv⟩ := dpall_at da (List.getElem?_eq_getElem hi')
      obtain ⟨u, hu, du⟩ := dpall_at db (List.getElem?_eq_getElem hi')
      refine ⟨_, rfl, _, rfl, .inr (.inl ⟨a, _, _, v, rfl, rfl, ha, at_of (j := i) (by omega) hv, _, rfl, _, rfl, .inr (.inl ⟨b, _, _, u, rfl, rfl, hb, at_of (j := i) (by omega) hu, m, rfl, v, u, _, rfl, dv, du, hall _ (List.getElem_mem hi'), ?_⟩)⟩)⟩
      exact ⟨_, rfl, ifF rfl ⟨_, rfl, rfl⟩⟩
    · rintro σ H' ⟨kk, rfl, rfl⟩
      exact z
  | lst hl hall =>
    rename_i m ds
    cases hv with
    | lst ha da =>
    rename_i a xs
    cases hu with
    | lst hb db =>
    rename_i b ys
    have lx := dpall_len da
    have ly := dpall_len db
    have ta := sql_ty ha
    have tb := sql_ty hb
    refine ⟨_, rfl, rfl, _, rfl, ifF (dF nofun) ⟨_, rfl, _, _, _, _, false, rfl, .ty _, tb, kit_ty (by decide +kernel), _, rfl, ifF rfl ⟨_, rfl, _, _, _, _, false, rfl, .ty _, tb, kit_ty (by decide +kernel), _, rfl, ifF rfl ⟨_, rfl, _, _, _, _, false, rfl, .ty _, tb, kit_ty (by decide +kernel), _, rfl, ifF rfl ⟨_, rfl, _, _, _, _, false, rfl, .ty _, tb, kit_ty (by decide +kernel), _, rfl, ifF rfl ?_⟩⟩⟩⟩⟩
    refine ⟨_, rfl, _, _, _, _, true, rfl, .ty _, tb, kit_ty (by decide +kernel), _, rfl, ifT rfl ⟨_, rfl, _, _, _, _, true, rfl, .ty _, ta, kit_ty (by decide +kernel), _, rfl, ifF rfl ⟨_, rfl, _, _, _, _, false, rfl, .ty _, tb, kit_ty (by decide +kernel), _, rfl, ifF rfl (ifF rfl ?_)⟩⟩⟩
    refine ⟨_, rfl, a, _, rfl, .inl ha, _, rfl, b, _, rfl, .inl hb, rfl, _, rfl, ifF ?_ ?_⟩
    · rw [lx, ly]
      simp
    have p62 : (2 : Int) ^ 62 = 4611686018427387904 := by decide
    refine ⟨_, rfl, b, _, rfl, .inl hb, _, rfl, by omega, by omega, for_range (n := ((ys.length : Nat) : Int).toNat) (fun i σ H' => ∃ kk, σ = [some (.ref a), some (.ref b), none, none, kk] ∧ H' = H) ⟨none, rfl, rfl⟩ ?_ ?_⟩
    · rintro i σ H' hi ⟨kk, rfl, rfl⟩
      have hi' : i < ds.length := by omega
      obtain ⟨v, hv, dv⟩ := dpall_at da (List.getElem?_eq_getElem hi')
      obtain ⟨u, hu, du⟩ := dpall_at db (List.getElem?_eq_getElem hi')
      refine ⟨_, rfl, _, rfl, .inl ⟨a, _, _, v, rfl, rfl, ha, at_of (j := i) (by omega) hv, _, rfl, _, rfl, .inl ⟨b, _, _, u, rfl, rfl, hb, at_of (j := i) (by omega) hu, m, rfl, v, u, _, rfl, dv, du, hall _ (List.getElem_mem hi'), ?_⟩⟩⟩
      exact ⟨_, rfl, ifF rfl ⟨_, rfl, rfl⟩⟩
    · rintro σ H' ⟨kk, rfl, rfl⟩
      exact z
theorem ok_same (T : Bn mg) (F : Fn K mg "_law_same" s__law_same ps__law_same f fd) (d_law_is_int : Def P w K mg base k "_law_is_int" ["_law_value"] (spIsInt K) f1 fd1) : ∀ n, Def P w K mg base (k + n + 1) "_law_same" ps__law_same (spSame K n) f fd
  | 0 => ok_same1 T 0 F (d_law_is_int.up (Nat.le_refl _)) ⟨⟨fun vs H Q E h => by obtain ⟨m, h, _⟩ := h; omega, fun A outer s H args us vs Q E _ _ _ _ h => by obtain ⟨m, h, _⟩ := h; omega⟩, F.m, F.F.kp, F.b⟩
  | n + 1 => by
    have ih := ok_same T F d_law_is_int n
    exact ok_same1 T (n + 1) F (d_law_is_int.up (by omega)) ⟨ih.ok.imp fun vs H Q E h => by
      obtain ⟨m, h, q⟩ := h
      have e : m = n := by omega
      subst e
      exact q, F.m, F.F.kp, F.b⟩
end Vk

set_option maxHeartbeats 4000000
namespace Vk
open PySem L2 Vm Vl
variable {l aZERO aONE CB CR CT CV fB fR fT : Addr} {P : Program} {w : World} {K : PySem.W.Frag} {mg : Str → Option Value} {base : Heap} {k : Nat} {f f1 f2 f3 f4 f5 f6 f7 f8 f9 : Addr} {fd fd1 fd2 fd3 fd4 fd5 fd6 fd7 fd8 fd9 : FuncData}
abbrev s__place_at : Stmt := top 19
abbrev N__place_at : List Str := ["course", "t", "place", "start", "shown", "rate"]
theorem sc__place_at : FnScope N__place_at ["course", "t"] (defScope s__place_at) := ⟨rfl, rfl, rfl, by decide +kernel, rfl, by decide +kernel, by decide +kernel⟩
abbrev ps__place_at : List Str := ["course", "t"]
def spPlace (K : PySem.W.Frag) : Sp := fun vs H Q _ => ∃ (a : Addr) (y : V) (c : List Pc) (t : Rat) (i j l m : Nat), vs = [.ref a, y] ∧ Cq K H a c ∧ Rq K H y t ∧ Cz i j l c ∧ Sz m t ∧ Cok c ∧ i + m + 1 ≤ 9000 ∧ Q (.int (((c.filter (on t)).length : Int) - 1)) H
theorem ok_place_at (F : Fn K mg "_place_at" s__place_at ps__place_at f fd) (dcompare : Def P w K mg base k "compare" ["a", "b"] (spTest2 K fun p q => .int (sg p q)) f1 fd1) : Def P w K mg base (k + 1) "_place_at" ps__place_at (spPlace K) f fd := by
  refine ⟨F.F.ok sc__place_at (fun vs H Q E h => ?_) (fun cdv A outer s H vs Q E hr h => ?_), F.m, F.F.kp, F.b⟩
  · obtain ⟨_, _, _, _, _, _, _, _, rfl, _⟩ := h
    rfl
  obtain ⟨a, y, c, t, i0, j0, l0, m, rfl, ⟨xs, hxs, hc⟩, hy, cz, zt, ok, hb, z⟩ := h
  refine ⟨_, (pss_cons (ps_set (i := 2) sc__place_at.nd rfl (Or.inl rfl) (pe_un un_neg pe_int))
      (pss_cons (ps_for PassesOwn.never rfl (pi_list (pv 0)) (pg_tup rfl (pgs_cons (pg_name (i := 3) sc__place_at.nd rfl (Or.inl rfl)) (pgs_cons (pg_name (i := 4) sc__place_at.nd rfl (Or.inl rfl)) (pgs_cons (pg_name (i := 5) sc__place_at.nd rfl (Or.inl rfl)) pgs_nil))))
        (pss_cons (ps_if (pt_cmpR op_gt (pcall dcompare hr (pa_cons (pv 3) (pa_cons (pv 1) pa_nil))) pe_int (nomark _))
          (pss_one ps_break)
          pss_nil)
        (pss_one (ps_aug (i := 2) sc__place_at.nd rfl (Or.inl rfl) pe_int ip_add))))
      (pss_one (ps_ret (pv 2))))), ?_⟩
  (walk_at "vk_vc")
  refine forL (K := K) (a := a) (xs := xs) (fun i σ G => ∃ k3 k4 k5, σ = [some (.ref a), some y, some (.int ((i : Int) - 1)), k3, k4, k5] ∧ G = H ∧ ∀ (j : Nat) (p : Pc), j < i → c[j]? = some p → ¬ t < p.s)
      ⟨none, none, none, rfl, rfl, fun j p h => absurd h (by omega)⟩ (fun i σ G _ h => by obtain ⟨_, _, _, _, rfl, _⟩ := h; exact hxs) ?_ ?_
  · rintro i u σ G hu ⟨k3, k4, k5, rfl, rfl, done⟩
    have hi : i < c.length := by have := (List.getElem?_eq_some_iff.mp hu).1; rw [hc.1] at this; exact this
    have ec : c[i]? = some c[i] := List.getElem?_eq_getElem hi
    obtain ⟨pa, ps, pv, pr, rfl, hpa, r1, r2, r3⟩ := hc.2 i u _ hu ec
    generalize c[i] = p at ec r1 r2 r3
    have zp := (cz p (List.mem_of_getElem? ec)).1
    (walk_at "vk_vc")
    · have e := place_cut ok done ec (sg_gt.mp gc)
      rw [e] at z; exact z
    · show [some (V.ref a), some y, some (V.int ((i : Int) - 1 + 1)), some ps, some pv, some pr] = [some (V.ref a), some y, some (V.int (((i + 1 : Nat) : Int) - 1)), some ps, some pv, some pr]
      rw [show (i : Int) - 1 + 1 = ((i + 1 : Nat) : Int) - 1 by omega]
    · intro j q hj hq
      by_cases e : j = i
      · subst e; rw [ec] at hq; cases hq
        exact fun g => gc (sg_gt.mpr g)
      · exact done j q (by omega) hq
  · rintro σ G ⟨k3, k4, k5, rfl, rfl, done⟩
    have e : (c.filter (on t)) = c := List.filter_eq_self.mpr fun p hp => by
      obtain ⟨j, hj⟩ := List.mem_iff_getElem?.mp hp
      have := done j p (by have := (List.getElem?_eq_some_iff.mp hj).1; rw [hc.1]; exact this) hj
      simp [on, this]
    rw [e, ← hc.1] at z
    (walk_at "vk_vc")
abbrev s__piece_at : Stmt := top 20
abbrev N__piece_at : List Str := ["course", "t", "place"]
theorem sc__piece_at : FnScope N__piece_at ["course", "t"] (defScope s__piece_at) := ⟨rfl, rfl, rfl, by decide +kernel, rfl, by decide +kernel, by decide +kernel⟩
abbrev ps__piece_at : List Str := ["course", "t"]
def spPieceAt (K : PySem.W.Frag) (CB : Addr) : Sp := fun vs H Q E => ∃ (a : Addr) (y : V) (c : List Pc) (t : Rat) (i j l m : Nat), vs = [.ref a, y] ∧ Cq K H a c ∧ Rq K H y t ∧ Cz i j l c ∧ Sz m t ∧ Cok c ∧ i + m + 1 ≤ 9000 ∧ c.length ≤ 900 ∧ (∀ p v, p ∈ c → pcAt c t = some p → Pq K H v p → Q v H) ∧ (pcAt c t = none → eV E CB H y)
theorem ok_piece_at (TBeforeStart : PySem.ValX.ValTxt K mg "BeforeStart" CB fB) (F : Fn K mg "_piece_at" s__piece_at ps__piece_at f fd) (d_place_at : Def P w K mg base k "_place_at" ["course", "t"] (spPlace K) f1 fd1) : DefY P w K mg base (k + 1) "_piece_at" ps__piece_at (spPieceAt K CB) f fd := by
  refine ⟨okY F.F sc__piece_at (fun vs H Q E h => ?_) (fun cdv A outer s H vs Q E hr h => ?_), F.m, F.F.kp, F.b⟩
  · obtain ⟨_, _, _, _, _, _, _, _, rfl, _⟩ := h
    rfl
  obtain ⟨a, y, c, t, i0, j0, l0, m, rfl, hC, hy, cz, zt, ok, hb, hl, z, e⟩ := h
  obtain ⟨xs, hxs, hc⟩ := id hC
  refine ⟨_, (pss_cons (ps_set (i := 2) sc__piece_at.nd rfl (Or.inl rfl) (pcall d_place_at hr (pa_cons (pv 0) (pa_cons (pv 1) pa_nil))))
      (pss_cons (ps_if (pt_cmpR op_lt (pv 2) pe_int (nomark _))
        (pss_one (ps_raiseValN rfl TBeforeStart hr (L2N.takes_of rfl rfl rfl rfl) (pa_cons (pv 1) pa_nil)))
        pss_nil)
      (pss_one (ps_ret (pe_ix ix_list (pv 0) (pv 2) (fun _ _ => rfl)))))), ?_⟩
  by_cases h0 : (c.filter (on t)).length = 0
  · (walk_at "vk_vc")
    · exact e (pcAt_none h0) p np
    all_goals (exfalso; omega)
  · obtain ⟨p, hm, hp, hi⟩ := pcAt_at (c := c) (t := t) (by omega)
    obtain ⟨v, hv, pq⟩ := hc.at (hi ok)
    have ha : atI xs (((c.filter (on t)).length : Int) - 1) = some v := at_of (j := (c.filter (on t)).length - 1) (by omega) hv
    have key := z p v hm hp pq
    (walk_at "vk_vc")
    omega
abbrev s_shown_at : Stmt := top 21
abbrev N_shown_at : List Str := ["course", "t"]
theorem sc_shown_at : FnScope N_shown_at ["course", "t"] (defScope s_shown_at) := ⟨rfl, rfl, rfl, by decide +kernel, rfl, by decide +kernel, by decide +kernel⟩
abbrev ps_shown_at : List Str := ["course", "t"]
def spShownAt (K : PySem.W.Frag) (CB : Addr) : Sp := fun vs H Q E => ∃ (a : Addr) (y : V) (c : List Pc) (t : Rat) (i j l m : Nat), vs = [.ref a, y] ∧ Cq K H a c ∧ Rq K H y t ∧ Cz i j l c ∧ Sz m t ∧ Cok c ∧ j + l + m + i + 3 ≤ 9000 ∧ c.length ≤ 900 ∧ (∀ q a H', nowf c t = some q → Same H H' → Rq K H' (.ref a) q → Q (.ref a) H') ∧ (nowf c t = none → eV E CB H y)
theorem ok_shown_at (F : Fn K mg "shown_at" s_shown_at ps_shown_at f fd) (d_piece_at : DefY P w K mg base k "_piece_at" ["course", "t"] (spPieceAt K CB) f1 fd1) (d_shown_by : Def P w K mg base k "_shown_by" ["piece", "t"] (spShown K) f2 fd2) : DefY P w K mg base (k + 1) "shown_at" ps_shown_at (spShownAt K CB) f fd := by
  refine ⟨okY F.F sc_shown_at (fun vs H Q E h => ?_) (fun cdv A outer s H vs Q E hr h => ?_), F.m, F.F.kp, F.b⟩
  · obtain ⟨_, _, _, _, _, _, _, _, rfl, _⟩ := h
    rfl
  obtain ⟨a, y, c, t, i0, j0, l0, m, rfl, hC, hy, cz, zt, ok, hb, hl, z, e⟩ := h
  refine ⟨_, (pss_one (ps_ret (pcall d_shown_by hr (pa_cons (pcallY d_piece_at hr (L2N.takes_of rfl rfl rfl rfl) (pa_cons (pv 0) (pa_cons (pv 1) pa_nil))) (pa_cons (pv 1) pa_nil))))), ?_⟩
  (walk_at "vk_vc")
  · intro p v hm hp pq
    obtain ⟨z1, z2, z3⟩ := cz p hm
    (walk_at "vk_vc")
    exact z _ _ _ (by rw [now_pc, hp]; rfl) e h
  · intro hn d hd
    refine e ?_ d hd
    rw [now_pc, hn]; rfl
theorem ok_tidy (T : Bn mg) (ZZERO : Cn K mg "ZERO" 0 aZERO) (F : Fn K mg "tidy" s_tidy ps_tidy f fd) (d_jump_at : Def P w K mg base k "_jump_at" ["course", "at"] (spJumpAt K) f1 fd1) : Def P w K mg base (k + 1) "tidy" ps_tidy (spTidy K) f fd := by
  refine ⟨F.F.ok sc_tidy (fun vs H Q E h => ?_) (fun cdv A outer s H vs Q E hr h => ?_), F.m, F.F.kp, F.b⟩
  · obtain ⟨_, _, _, _, _, rfl, _⟩ := h
    rfl
  obtain ⟨a, c, i0, j0, l0, rfl, hC, cz, hp, hl, hb, z⟩ := h
  obtain ⟨xs, hx, hc⟩ := id hC
  have hxl := hc.1
  refine ⟨_, (pss_cons (ps_set (i := 1) sc_tidy.nd rfl (Or.inl rfl) (pe_lst (pa_cons (pe_ix ix_list (pv 0) pe_int (fun _ _ => rfl)) pa_nil)))
      (pss_cons (ps_for PassesOwn.never rfl (pi_range2 (by rfl) T.range_ (pa_cons pe_int (pa_cons (pe_callB call_len_seq (by rfl) T.len_ PySem.boot_len (pa_cons (pv 0) pa_nil)) pa_nil))) (pg_name (i := 2) sc_tidy.nd rfl (Or.inl rfl))
        (pss_one (ps_if (PW.pt (pw_or (pt_cmpR (op_neD hr.units) (pe_ix ix_tup (pe_ix ix_list (pv 0) (pv 2) (fun _ _ => rfl)) pe_int (fun _ _ => rfl)) (pe_ix ix_tup (pe_ix ix_list (pv 0) (pe_op op_sub (pv 2) pe_int) (fun _ _ => rfl)) pe_int (fun _ _ => rfl)) (nomark _)) (pw_or1 (pt_cmpR (op_neD hr.units) (pcall d_jump_at hr (pa_cons (pv 0) (pa_cons (pv 2) pa_nil))) (pe_glob (v := .ref aZERO) (u := .ref aZERO) (by rfl) ZZERO.m rfl) (nomark _)))))
          (pss_one (ps_expr (pe_bm PySem.F.plainAttrs_list PySem.F.slot_list_append PySem.F.type_list_append mt_append (pv 1) (pa_cons (pe_ix ix_list (pv 0) (pv 2) (fun _ _ => rfl)) pa_nil))))
          pss_nil)))
      (pss_one (ps_ret (pv 1))))), ?_⟩
  have p62 : (2 : Int) ^ 62 = 4611686018427387904 := by decide
  have e0 : c[0]? = some c[0] := List.getElem?_eq_getElem (by omega)
  obtain ⟨x0, hx0, p0⟩ := hc.at e0
  refine ⟨_, rfl, a, _, _, _, rfl, rfl, hx, at0 hx0, sm1, fun D hD => ?_⟩
  have s0 := same_new hD (.lst [x0])
  refine ⟨_, rfl, a, _, rfl, .inl (s0.seq hx), _, _, rfl, ⟨by omega, by omega, by omega, by omega⟩, for_range (lo := 1) (n := (((xs.length : Nat) : Int) - 1).toNat) (fun i σ G => ∃ (us : List V) (k2 : Option V), σ = [some (.ref a), some (.ref D), k2] ∧ Same H G ∧ Ct K G D us (tl (c.take (i + 1))))
    ⟨[x0], none, rfl, s0, upd_same, ?_⟩ ?_ ?_⟩
  · have : tl (c.take 1) = [c[0]] := by
      cases c with
      | nil => simp at hp
      | cons p c => rfl
    rw [this]
    exact All2.one (p0.same s0)
  · rintro i σ G hi ⟨us, k2, rfl, s1, hD1, hA⟩
    have hi1 : i + 1 < c.length := by omega
    have e1 : c[i]? = some c[i] := List.getElem?_eq_getElem (by omega)
    have e2 : c[i + 1]? = some c[i + 1] := List.getElem?_eq_getElem hi1
    obtain ⟨p, ep⟩ : ∃ p, p = c[i] := ⟨_, rfl⟩
    obtain ⟨q, eq⟩ : ∃ q, q = c[i + 1] := ⟨_, rfl⟩
    rw [← ep] at e1
    rw [← eq] at e2
    have en := tl_next e1 e2
    obtain ⟨x1, hx1, pp⟩ := hc.at e1
    obtain ⟨x2, hx2, pq⟩ := hc.at e2
    obtain ⟨d1, ds1, dv1, dr1, rfl, hd1, r11, r12, r13⟩ := pp.same s1
    obtain ⟨d2, ds2, dv2, dr2, rfl, hd2, r21, r22, r23⟩ := pq.same s1
    have hul := hA.1
    have htl := (tl_sub (c.take (i + 1))).length_le
    rw [List.length_take] at htl
    -- the piece is kept
    have keep : ∀ G1 (f1 : Same G G1), ky q ≠ ky p → ∃ (us' : List V) (k2 : Option V), [some (V.ref a), some (.ref D), some (.int (1 + (i : Int)))] = [some (.ref a), some (.ref D), k2] ∧ Same H (upd G1 D (.lst (us ++ [.ref d2]))) ∧ Ct K (upd G1 D (.lst (us ++ [.ref d2]))) D us' (tl (c.take (i + 1 + 1))) := fun G1 f1 g => by
      have hD2 := f1 _ _ hD1
      have fr : Fr D G1 (upd G1 D (.lst (us ++ [.ref d2]))) := Fr.upd _
      refine ⟨_, _, rfl, same_upd (s1.trans f1) hD _, upd_same, ?_⟩
      rw [en, if_neg g]
      exact (hA.imp fun _ _ h => (h.same f1).fr fr ⟨_, hD2⟩).snoc ((pq.same (s1.trans f1)).fr fr ⟨_, hD2⟩)
    refine ⟨_, rfl, _, rfl, a, _, _, _, rfl, rfl, s1.seq hx, at_of (j := i + 1) (by omega) hx2, d2, _, _, _, rfl, rfl, hd2, at2 rfl, _, rfl, _, rfl, _, _, rfl, rfl, a, _, _, _, rfl, rfl, s1.seq hx, at_of (j := i) (by omega) hx1, d1, _, _, _, rfl, rfl, hd1, at2 rfl, ?_⟩
    refine ⟨_, _, r23.dp, r13.dp, sh_dq _, sh_dq _, _, rfl, ?_⟩
    rw [eqv_dq]
    by_cases g : q.r = p.r
    · refine ifF (by rw [dT g]; rfl) ⟨_, rfl, _, rfl, a, i, c, p, q, i0, j0, l0, by rw [show (1 + (i : Int)) = ((i + 1 : Nat) : Int) by omega]; rfl, hC.same s1, e1, e2, cz, hb, fun jv G1 f1 rj => ?_⟩
      refine ⟨_, _, rj.dp, (ZZERO.q _).dp, sh_dq _, sh_dq _, _, rfl, ?_⟩
      rw [eqv_dq]
      by_cases g2 : jmp (ky p) q = 0
      · refine ifF (by rw [dT g2]; rfl) ⟨us, _, rfl, s1.trans f1, f1 _ _ hD1, ?_⟩
        rw [en, if_pos (ky_eq.mpr ⟨g, g2⟩), List.append_nil]
        exact hA.imp fun _ _ h => h.same f1
      · refine ifT (by rw [dF g2]; rfl) ⟨_, rfl, .inl ⟨rfl, _, SqL.of (f1 _ _ hD1)⟩, _, rfl, _, rfl, a, _, _, _, rfl, rfl, (s1.trans f1).seq hx, at_of (j := i + 1) (by omega) hx2, D, _, _, rfl, rfl, f1 _ _ hD1, le1000 (by omega), keep G1 f1 fun h => g2 (ky_eq.mp h).2⟩
    · refine ifT (by rw [dF g]; rfl) ⟨_, rfl, .inl ⟨rfl, _, SqL.of hD1⟩, _, rfl, _, rfl, a, _, _, _, rfl, rfl, s1.seq hx, at_of (j := i + 1) (by omega) hx2, D, _, _, rfl, rfl, hD1, le1000 (by omega), keep G (Same.refl _) fun h => g (ky_eq.mp h).1⟩
  · rintro σ G ⟨us, k2, rfl, s1, hD1, hA⟩
    rw [List.take_of_length_le (by omega)] at hA
    exact ⟨_, rfl, z D us G s1 hD ⟨hD1, hA⟩⟩
/-- the pieces that start ahead of a time -/
theorem ok_jumps (T : Bn mg) (ZZERO : Cn K mg "ZERO" 0 aZERO) (F : Fn K mg "jumps" s_jumps ps_jumps f fd) (d_jump_at : Def P w K mg base k "_jump_at" ["course", "at"] (spJumpAt K) f1 fd1) : Def P w K mg base (k + 1) "jumps" ps_jumps (spJumps K) f fd := by
  refine ⟨F.F.ok sc_jumps (fun vs H Q E h => ?_) (fun cdv A outer s H vs Q E hr h => ?_), F.m, F.F.kp, F.b⟩
  · obtain ⟨_, _, _, _, _, rfl, _⟩ := h
    rfl
  obtain ⟨a, c, i0, j0, l0, rfl, hC, cz, hp, hl, hb, z⟩ := h
  obtain ⟨xs, hx, hc⟩ := id hC
  have hxl := hc.1
  refine ⟨_, (pss_cons (ps_set (i := 1) sc_jumps.nd rfl (Or.inl rfl) (pe_lst pa_nil))
      (pss_cons (ps_for PassesOwn.never rfl (pi_range2 (by rfl) T.range_ (pa_cons pe_int (pa_cons (pe_callB call_len_seq (by rfl) T.len_ PySem.boot_len (pa_cons (pv 0) pa_nil)) pa_nil))) (pg_name (i := 2) sc_jumps.nd rfl (Or.inl rfl))
        (pss_cons (ps_set (i := 3) sc_jumps.nd rfl (Or.inl rfl) (pcall d_jump_at hr (pa_cons (pv 0) (pa_cons (pv 2) pa_nil))))
        (pss_one (ps_if (pt_cmpR (op_neD hr.units) (pv 3) (pe_glob (v := .ref aZERO) (u := .ref aZERO) (by rfl) ZZERO.m rfl) (nomark _))
          (pss_one (ps_expr (pe_bm PySem.F.plainAttrs_list PySem.F.slot_list_append PySem.F.type_list_append mt_append (pv 1) (pa_cons (pe_tup (pa_cons (pe_ix ix_tup (pe_ix ix_list (pv 0) (pv 2) (fun _ _ => rfl)) pe_int (fun _ _ => rfl)) (pa_cons (pv 3) pa_nil))) pa_nil))))
          pss_nil))))
      (pss_one (ps_ret (pv 1))))), ?_⟩
  have p62 : (2 : Int) ^ 62 = 4611686018427387904 := by decide
  refine ⟨Nat.zero_le _, fun D hD => ?_⟩
  have s0 := same_new hD (.lst [])
  refine ⟨_, rfl, a, _, rfl, .inl (s0.seq hx), _, _, rfl, ⟨by omega, by omega, by omega, by omega⟩, for_range (lo := 1) (n := (((xs.length : Nat) : Int) - 1).toNat) (fun i σ G => ∃ (us : List V) (k2 k3 : Option V), σ = [some (.ref a), some (.ref D), k2, k3] ∧ Same H G ∧ G D = some (.lst us) ∧ All2 (Jq K G) us (jl (c.take (i + 1))))
    ⟨[], none, none, rfl, s0, upd_same, ?_⟩ ?_ ?_⟩
  · cases c with
    | nil => simp at hp
    | cons p c => exact All2.nil
  · rintro i σ G hi ⟨us, k2, k3, rfl, s1, hD1, hA⟩
    have hi1 : i + 1 < c.length := by omega
    have e1 : c[i]? = some c[i] := List.getElem?_eq_getElem (by omega)
    have e2 : c[i + 1]? = some c[i + 1] := List.getElem?_eq_getElem hi1
    obtain ⟨p, ep⟩ : ∃ p, p = c[i] := ⟨_, rfl⟩
    obtain ⟨q, eq⟩ : ∃ q, q = c[i + 1] := ⟨_, rfl⟩
    rw [← ep] at e1
    rw [← eq] at e2
    refine ⟨_, rfl, _, rfl, a, i, c, p, q, i0, j0, l0, by rw [show (1 + (i : Int)) = ((i + 1 : Nat) : Int) by omega]; rfl, hC.same s1, e1, e2, cz, hb, fun jv G1 f1 rj => ?_⟩
    have s2 := s1.trans f1
    have hD2 : G1 D = some (.lst us) := f1 _ _ hD1
    have hA2 := hA.imp fun _ _ h => h.same f1
    have en := jl_next e1 e2
    refine ⟨_, rfl, _, _, rj.dp, (ZZERO.q _).dp, sh_dq _, sh_dq _, _, rfl, ?_⟩
    rw [eqv_dq]
    by_cases g : jmp (ky p) q = 0
    · refine ifF (by rw [dT g]; rfl) ⟨us, _, _, rfl, s2, hD2, ?_⟩
      rw [en, if_pos g, List.append_nil]
      exact hA2
    · refine ifT (by rw [dF g]; rfl) ?_
      obtain ⟨x2, hx2, pq⟩ := hc.at e2
      obtain ⟨b, bs, bv, br, rfl, hb2, r1, r2, r3⟩ := pq.same s2
      have hul := hA.1
      have hjl := jl_len (c.take (i + 1))
      rw [List.length_take] at hjl
      refine ⟨_, rfl, .inl ⟨rfl, _, SqL.of hD2⟩, _, rfl, _, rfl, a, _, _, _, rfl, rfl, s2.seq hx, at_of (j := i + 1) (by omega) hx2, b, _, _, _, rfl, rfl, hb2, at0 rfl, _, rfl, sz2, fun T1 h1 => ?_⟩
      have t1 := same_new h1 (.tup [bs, jv])
      have nD : D ≠ T1 := ne_at hD2 h1
      have hD3 := t1 _ _ hD2
      refine ⟨D, _, _, rfl, rfl, hD3, le1000 (by omega), _, _, _, rfl, same_upd (s2.trans t1) hD _, upd_same, ?_⟩
      have fr : Fr D _ _ := Fr.upd (s := D) (H := upd G1 T1 (.tup [bs, jv])) (.lst (us ++ [.ref T1]))
      rw [en, if_neg g]
      have jn : Jq K (upd G1 T1 (.tup [bs, jv])) (.ref T1) (q.s, jmp (ky p) q) := ⟨T1, bs, jv, rfl, SqT.of upd_same, r1.same t1, rj.same t1⟩
      exact (hA2.imp fun _ _ h => (h.same t1).fr fr ⟨_, hD3⟩).snoc (jn.fr fr ⟨_, hD3⟩)
  · rintro σ G ⟨us, k2, k3, rfl, s1, hD1, hA⟩
    rw [List.take_of_length_le (by omega)] at hA
    exact ⟨_, rfl, z D us G s1 hD hD1 hA⟩
end Vk

set_option maxHeartbeats 4000000
namespace Vk
open PySem L2 Vm Vl
variable {l aZERO CB CR CT CV fB fR fT : Addr} {P : Program} {w : World} {K : PySem.W.Frag} {mg : Str → Option Value} {base : Heap} {k : Nat} {f f1 f2 f3 f4 f5 f6 f7 f8 f9 : Addr} {fd fd1 fd2 fd3 fd4 fd5 fd6 fd7 fd8 fd9 : FuncData}
/-! ### the first way back -/
/-- at k + 1 what is shown goes back, for the first time -/
def Fb (c : List Pc) (k : Nat) (p q : Pc) : Prop := c[k]? = some p ∧ c[k + 1]? = some q ∧ q.v < vl q.s p ∧ ∀ (m : Nat) (x y : Pc), m < k → c[m]? = some x → c[m + 1]? = some y → vl y.s x ≤ y.v
theorem jmp_vl {p q : Pc} : jmp (ky p) q = q.v - vl q.s p := by unfold jmp ky vl; dsimp only; grind
theorem jl_nb : ∀ (c : List Pc) (p : Pc), (∀ x ∈ jlG (ky p) c, ¬ x.2 < 0) → NB (p :: c)
  | [], p, _ => fun i x y hx hy => by simp at hy
  | q :: c, p, h => by
    have hq : ¬ jmp (ky p) q < 0 ∧ ∀ x ∈ jlG (ky q) c, ¬ x.2 < 0 := by
      unfold jlG at h
      split at h
      · rename_i e
        exact ⟨by rw [e]; exact Rat.lt_irrefl, h⟩
      · exact ⟨h (q.s, jmp (ky p) q) List.mem_cons_self, fun x hx => h x (List.mem_cons_of_mem _ hx)⟩
    have ih := jl_nb c q hq.2
    intro i x y hx hy
    cases i with
    | zero =>
      cases hx
      cases hy
      have := hq.1
      rw [jmp_vl] at this
      grind
    | succ i => exact ih i x y (by simpa using hx) (by simpa using hy)
theorem jl_fb : ∀ (c : List Pc) (p : Pc) (n : Nat) (x : Rat × Rat), (jlG (ky p) c)[n]? = some x → x.2 < 0 → (∀ (m : Nat) (y : Rat × Rat), m < n → (jlG (ky p) c)[m]? = some y → ¬ y.2 < 0) → ∃ k a b, Fb (p :: c) k a b ∧ x.1 = b.s
  | [], p, n, x, h, _, _ => by simp [jlG] at h
  | q :: c, p, n, x, h, hx, hm => by
    unfold jlG at h hm
    split at h
    · rename_i e
      rw [if_pos e] at hm
      obtain ⟨k, a, b, ⟨f1, f2, f3, f4⟩, f5⟩ := jl_fb c q n x h hx hm
      refine ⟨k + 1, a, b, ⟨by simpa using f1, by simpa using f2, f3, fun m x y hm hx hy => ?_⟩, f5⟩
      cases m with
      | zero =>
        cases hx
        cases hy
        have : jmp (ky p) q = 0 := e
        rw [jmp_vl] at this
        grind
      | succ m => exact f4 m x y (by omega) (by simpa using hx) (by simpa using hy)
    · rename_i e
      rw [if_neg e] at hm
      cases n with
      | zero =>
        have h : (q.s, jmp (ky p) q) = x := Option.some.inj h
        subst h
        have hx : jmp (ky p) q < 0 := hx
        rw [jmp_vl] at hx
        exact ⟨0, p, q, ⟨rfl, rfl, by grind, fun m _ _ hm => absurd hm (Nat.not_lt_zero _)⟩, rfl⟩
      | succ n =>
        have h0 := hm 0 _ (Nat.succ_pos _) rfl
        have h0 : ¬ jmp (ky p) q < 0 := h0
        rw [jmp_vl] at h0
        obtain ⟨k, a, b, ⟨f1, f2, f3, f4⟩, f5⟩ := jl_fb c q n x (by simpa using h) hx (fun m y hy e => hm (m + 1) y (by omega) (by simpa using e))
        refine ⟨k + 1, a, b, ⟨by simpa using f1, by simpa using f2, f3, fun m x y hm hx hy => ?_⟩, f5⟩
        cases m with
        | zero =>
          cases hx
          cases hy
          grind
        | succ m => exact f4 m x y (by omega) (by simpa using hx) (by simpa using hy)
theorem sz_jl {c : List Pc} {i j l : Nat} : ∀ (p : Pc), Sz i p.s → Sz j p.v → Sz l p.r → Cz i j l c → ∀ x ∈ jlG (ky p) c, Sz i x.1 ∧ Sz (j + (j + (l + (i + i + 1)) + 1) + 1) x.2 := by
  induction c with
  | nil => exact fun p _ _ _ _ x hx => by simp [jlG] at hx
  | cons q c ih =>
    intro p h1 h2 h3 cz x hx
    obtain ⟨z1, z2, z3⟩ := cz q List.mem_cons_self
    have rest := ih q z1 z2 z3 fun y hy => cz y (List.mem_cons_of_mem _ hy)
    unfold jlG at hx
    split at hx
    · exact rest x hx
    · rcases List.mem_cons.mp hx with rfl | hx
      · refine ⟨z1, ?_⟩
        rw [jmp_vl]
        exact z2.sub (h2.add (h3.mul (z1.sub h1)))
      · exact rest x hx
abbrev s__require_no_way_back : Stmt := top 25
abbrev N__require_no_way_back : List Str := ["course", "start", "jump"]
theorem sc__require_no_way_back : FnScope N__require_no_way_back ["course"] (defScope s__require_no_way_back) := ⟨rfl, rfl, rfl, by decide +kernel, rfl, by decide +kernel, by decide +kernel⟩
abbrev ps__require_no_way_back : List Str := ["course"]
def spNoBack (K : PySem.W.Frag) (CT : Addr) : Sp := fun vs H Q E => ∃ (a : Addr) (c : List Pc) (i j l : Nat), vs = [.ref a] ∧ Cq K H a c ∧ Cz i j l c ∧ 1 ≤ c.length ∧ c.length ≤ 900 ∧ j + j + l + i + i + 5 ≤ 9000 ∧ (NB c → ∀ H', Same H H' → Q .non H') ∧ ∀ k p q, Fb c k p q → ∀ y H', Same H H' → Rq K H' y q.s → eV E CT H' y
theorem ok_noback (T : Bn mg) (ZZERO : Cn K mg "ZERO" 0 aZERO) (TTurnsBack : PySem.ValX.ValTxt K mg "TurnsBack" CT fT) (F : Fn K mg "_require_no_way_back" s__require_no_way_back ps__require_no_way_back f fd) (djumps : Def P w K mg base k "jumps" ["course"] (spJumps K) f1 fd1)
    (dcompare : Def P w K mg base k "compare" ["a", "b"] (spTest2 K fun p q => .int (sg p q)) f2 fd2) : DefY P w K mg base (k + 1) "_require_no_way_back" ps__require_no_way_back (spNoBack K CT) f fd := by
  refine ⟨okY F.F sc__require_no_way_back (fun vs H Q E h => ?_) (fun cdv A outer s H vs Q E hr h => ?_), F.m, F.F.kp, F.b⟩
  · obtain ⟨_, _, _, _, _, rfl, _⟩ := h
    rfl
  obtain ⟨ac, c, i0, j0, l0, rfl, hC, cz, l1, l2, hb, z1, z2⟩ := h
  obtain ⟨p0, c', rfl⟩ : ∃ p0 c', c = p0 :: c' := by
    cases c with
    | nil => exact absurd l1 (by simp)
    | cons a b => exact ⟨a, b, rfl⟩
  have zj := sz_jl p0 (cz p0 List.mem_cons_self).1 (cz p0 List.mem_cons_self).2.1 (cz p0 List.mem_cons_self).2.2 (fun x hx => cz x (List.mem_cons_of_mem _ hx) : Cz i0 j0 l0 c')
  refine ⟨_, (pss_one ((ps_for (passes_of rfl) rfl (pi_list (pcall djumps hr (pa_cons (pv 0) pa_nil))) (pg_tup rfl (pgs_cons (pg_name (i := 1) sc__require_no_way_back.nd rfl (Or.inl rfl)) (pgs_cons (pg_name (i := 2) sc__require_no_way_back.nd rfl (Or.inl rfl)) pgs_nil)))
        (pss_one (ps_if (pt_cmpR op_lt (pcall dcompare hr (pa_cons (pv 2) (pa_cons (pe_glob (v := .ref aZERO) (u := .ref aZERO) (by rfl) ZZERO.m rfl) pa_nil))) pe_int (nomark _))
          (pss_one (ps_raiseValN rfl TTurnsBack hr (L2N.takes_of rfl rfl rfl rfl) (pa_cons (pv 1) pa_nil)))
          pss_nil))))), ?_⟩
  (walk_at "vk_vc")
  intro D us G e1 _ hD hA
  have hA : All2 (Jq K G) us (jlG (ky p0) c') := hA
  have hDx : SqL K G D us := SqL.of hD
  (walk_at "vk_vc")
  refine forL (K := K) (a := D) (xs := us) (fun i σ G' => Hold (∃ k1 k2, σ = [some (.ref ac), k1, k2] ∧ Same G G' ∧ ∀ (m : Nat) (x : Rat × Rat), m < i → (jlG (ky p0) c')[m]? = some x → ¬ x.2 < 0)) ⟨none, none, rfl, Same.refl _, fun m x h => absurd h (Nat.not_lt_zero _)⟩ (fun i σ G' _ h => by obtain ⟨_, _, _, s1, _⟩ := h; exact s1.seq hDx) ?_ ?_
  · rintro i x σ G1 hx ⟨k1, k2, rfl, s1, before⟩
    have hi : i < (jlG (ky p0) c').length := by have := (List.getElem?_eq_some_iff.mp hx).1; rw [hA.1] at this; exact this
    have ej : (jlG (ky p0) c')[i]? = some (jlG (ky p0) c')[i] := List.getElem?_eq_getElem hi
    obtain ⟨zx1, zx2⟩ := zj _ (List.getElem_mem hi)
    obtain ⟨a, ys, yj, rfl, ha, g1, g2⟩ := (hA.2 i x _ hx ej).same s1
    generalize (jlG (ky p0) c')[i] = jp at ej g1 g2 zx1 zx2
    have zr := ZZERO.q G1
    have zz := zz1
    (walk_at "vk_vc")
    · obtain ⟨k, a', b', fb, ex⟩ := jl_fb c' p0 i jp ej (sg_lt.mp gc) before
      rw [ex] at g1
      exact z2 k a' b' fb ys G1 (e1.trans s1) g1 _ np
    · refine ⟨⟨_, _, rfl, s1, fun m y hm hy => ?_⟩⟩
      by_cases g : m = i
      · subst g
        rw [ej] at hy
        cases hy
        exact fun h => gc (sg_lt.mpr h)
      · exact before m y (by omega) hy
  · rintro σ G1 ⟨k1, k2, rfl, s1, before⟩
    refine z1 (jl_nb c' p0 fun x hx => ?_) _ (e1.trans s1)
    obtain ⟨m, hm⟩ := List.mem_iff_getElem?.mp hx
    exact before m x (by have := (List.getElem?_eq_some_iff.mp hm).1; rw [hA.1]; exact this) hm
end Vk

set_option maxHeartbeats 4000000
namespace Vk
open PySem L2 Vm Vl
variable {l aZERO CB CR CT CV fB fR fT : Addr} {P : Program} {w : World} {K : PySem.W.Frag} {mg : Str → Option Value} {base : Heap} {k : Nat} {f f1 f2 f3 f4 f5 f6 f7 f8 f9 : Addr} {fd fd1 fd2 fd3 fd4 fd5 fd6 fd7 fd8 fd9 : FuncData}
theorem cutV_drop {xs : List V} {n : Nat} (h : n ≤ xs.length) : cutV xs (some (n : Int)) none = xs.drop n := by
  unfold cutV
  rw [HT.sIx_none, HT.sIx_nat, Nat.min_eq_left h, List.take_of_length_le]
  rw [List.length_drop]
  exact Nat.le_refl _
theorem lastsPq : Lasts (Pq K) := fun e hs h => h.fr e hs
/-- the pieces behind the first: as many as come ahead of the end -/
theorem chP_take {o : List Pc} {p : Pc} {e : Option Rat} {m i : Nat} (ok : Cok o) (r : 0 < p.r) (hm : (o.filter (on p.v)).length = m) (lo : ∀ j g x, j < i → (o.drop m)[j]? = some g → e = some x → tm p g.s < x) (hi : ∀ g, (o.drop m)[i]? = some g → ∃ x, e = some x ∧ x ≤ tm p g.s) : o.filter (chP p e) = (o.drop m).take i := by
  have e1 : o = o.take m ++ o.drop m := (List.take_append_drop m o).symm
  have h1 : ∀ g ∈ o.take m, chP p e g = false := fun g hg => by
    rw [← hm, ← on_take ok] at hg
    have := (List.mem_filter.mp hg).2
    have z : ¬ p.v < g.s := by simpa [on] using this
    unfold chP
    rw [decide_eq_false z]
    rfl
  obtain ⟨a, b, e2, e3, h2, h3⟩ := split_on ok p.v
  have eb : b = o.drop m := by
    rw [← hm, ← e3, e2]
    simp
  have off : (o.take m).filter (chP p e) = [] := List.filter_eq_nil_iff.mpr fun g hg => by rw [h1 g hg]; simp
  rw [show o.filter (chP p e) = (o.take m ++ o.drop m).filter (chP p e) by rw [← e1], List.filter_append, off, List.nil_append]
  have asc := (ascP_of ok).sublist (List.drop_sublist m o)
  refine filter_take _ fun j x hx => ?_
  have pv : p.v < x.s := h3 x (by rw [eb]; exact List.mem_of_getElem? hx)
  unfold chP
  rw [decide_eq_true pv, Bool.true_and]
  constructor
  · intro h
    refine Nat.lt_of_not_le fun le => ?_
    have lj := (List.getElem?_eq_some_iff.mp hx).1
    have hg : (o.drop m)[i]? = some (o.drop m)[i] := List.getElem?_eq_getElem (by omega)
    obtain ⟨y, rfl, hy⟩ := hi _ hg
    have h : tm p x.s < y := of_decide_eq_true h
    by_cases z : i = j
    · subst z
      rw [hg] at hx
      cases hx
      grind
    · have lt : (o.drop m)[i].s < x.s := by
        have := List.pairwise_iff_getElem.mp asc i j (by omega) lj (by omega)
        rw [(List.getElem?_eq_some_iff.mp hx).2] at this
        exact this
      have := tm_lt2 r lt
      grind
  · intro h
    cases e with
    | none => rfl
    | some y => exact decide_eq_true (lo j x y h hx rfl)
abbrev s__chained_piece : Stmt := top 26
abbrev N__chained_piece : List Str := ["piece", "end", "outer", "start", "shown", "rate", "first", "found", "goal", "told", "outer_rate", "t"]
theorem sc__chained_piece : FnScope N__chained_piece ["piece", "end", "outer"] (defScope s__chained_piece) := ⟨rfl, rfl, rfl, by decide +kernel, rfl, by decide +kernel, by decide +kernel⟩
abbrev ps__chained_piece : List Str := ["piece", "end", "outer"]
def spCP (K : PySem.W.Frag) : Sp := fun vs H Q _ => ∃ (x ev : V) (a : Addr) (p f : Pc) (e : Option Rat) (o : List Pc) (i j l i' j' l' : Nat), vs = [x, ev, .ref a] ∧ Pq K H x p ∧ optV K H ev e ∧ Cq K H a o ∧ Cok o ∧ 0 < p.r ∧ pcAt o p.v = some f ∧ Sz i p.s ∧ Sz j p.v ∧ Sz l p.r ∧ Cz i' j' l' o ∧ (∀ y, e = some y → Sz i y) ∧ o.length ≤ 400 ∧ i + i' + j + j' + l + l' + 10 ≤ 4000 ∧
  ∀ D us H', Same H H' → H D = none → H' D = some (.lst us) → All2 (Pq K H') us (ch1 o p e f) → Q (.ref D) H'
theorem ok_chained_piece (T : Bn mg) (F : Fn K mg "_chained_piece" s__chained_piece ps__chained_piece f fd) (d_place_at : Def P w K mg base k "_place_at" ["course", "t"] (spPlace K) f1 fd1) (d_shown_by : Def P w K mg base k "_shown_by" ["piece", "t"] (spShown K) f2 fd2) (dmultiply : Def P w K mg base k "multiply" ["a", "b"] (spOp2 K (· * ·)) f3 fd3)
    (d_time_of : Def P w K mg base k "_time_of" ["piece", "reading"] (spTimeOf K) f4 fd4) (dcompare : Def P w K mg base k "compare" ["a", "b"] (spTest2 K fun p q => .int (sg p q)) f5 fd5) : Def P w K mg base (k + 1) "_chained_piece" ps__chained_piece (spCP K) f fd := by
  refine ⟨F.F.ok sc__chained_piece (fun vs H Q E h => ?_) (fun cdv A outer s H vs Q E hr h => ?_), F.m, F.F.kp, F.b⟩
  · obtain ⟨_, _, _, _, _, _, _, _, _, _, _, _, _, rfl, _⟩ := h
    rfl
  obtain ⟨x, ev, ao, pc, gf, oe, o, i, j, l', i', j', l'', rfl, hp, he, hC, ok, r, hf, z1, z2, z3, cz, ze, lo, hb, z⟩ := h
  obtain ⟨xs, hxs, hc⟩ := id hC
  have hlx := hc.1
  obtain ⟨d, ds, dv, dr, rfl, hd, r1, r2, r3⟩ := id hp
  obtain ⟨dsa, rfl, hdsa⟩ := id r1
  obtain ⟨dva, rfl, hdva⟩ := id r2
  obtain ⟨dra, rfl, hdra⟩ := id r3
  have hm0 : 0 < (o.filter (on pc.v)).length := Nat.pos_of_ne_zero fun h => by rw [pcAt_none h] at hf; cases hf
  obtain ⟨g', hg', eg, ei⟩ := pcAt_at hm0
  rw [hf] at eg
  cases eg
  have ei := ei ok
  have hml : (o.filter (on pc.v)).length ≤ o.length := List.length_filter_le _ _
  obtain ⟨y, hy, pg⟩ := hc.at ei
  obtain ⟨q1, q2, q3⟩ := cz gf hg'
  obtain ⟨e1, es, evv, er, rfl, he1, s1, s2, s3⟩ := id pg
  obtain ⟨era, rfl, hera⟩ := id s3
  have i0x : atI xs (((o.filter (on pc.v)).length : Int) - 1) = some (.ref e1) := at_of (j := (o.filter (on pc.v)).length - 1) (by omega) hy
  have eA : cutV xs (some (((o.filter (on pc.v)).length : Int) - 1 + 1)) none = xs.drop (o.filter (on pc.v)).length := by
    rw [show ((o.filter (on pc.v)).length : Int) - 1 + 1 = ((o.filter (on pc.v)).length : Int) by omega]
    exact cutV_drop (by omega)
  have czs : i' + j + 1 ≤ 9000 := by omega
  refine ⟨_, (pss_cons (ps_asg (pv 0) (pg_tup rfl (pgs_cons (pg_name (i := 3) sc__chained_piece.nd rfl (Or.inl rfl)) (pgs_cons (pg_name (i := 4) sc__chained_piece.nd rfl (Or.inl rfl)) (pgs_cons (pg_name (i := 5) sc__chained_piece.nd rfl (Or.inl rfl)) pgs_nil)))))
      (pss_cons (ps_set (i := 6) sc__chained_piece.nd rfl (Or.inl rfl) (pcall d_place_at hr (pa_cons (pv 2) (pa_cons (pv 4) pa_nil))))
      (pss_cons (ps_set (i := 7) sc__chained_piece.nd rfl (Or.inl rfl) (pe_lst (pa_cons (pe_tup (pa_cons (pv 3) (pa_cons (pcall d_shown_by hr (pa_cons (pe_ix ix_list (pv 2) (pv 6) (fun _ _ => rfl)) (pa_cons (pv 4) pa_nil))) (pa_cons (pcall dmultiply hr (pa_cons (pv 5) (pa_cons (pe_ix ix_tup (pe_ix ix_list (pv 2) (pv 6) (fun _ _ => rfl)) pe_int (fun _ _ => rfl)) pa_nil))) pa_nil)))) pa_nil)))
      (pss_cons (ps_for PassesOwn.never rfl (pi_list (pe_slice sl_list (pv 2) (po_some (pe_op op_add (pv 6) pe_int)) po_none)) (pg_tup rfl (pgs_cons (pg_name (i := 8) sc__chained_piece.nd rfl (Or.inl rfl)) (pgs_cons (pg_name (i := 9) sc__chained_piece.nd rfl (Or.inl rfl)) (pgs_cons (pg_name (i := 10) sc__chained_piece.nd rfl (Or.inl rfl)) pgs_nil))))
        (pss_cons (ps_set (i := 11) sc__chained_piece.nd rfl (Or.inl rfl) (pcall d_time_of hr (pa_cons (pv 0) (pa_cons (pv 8) pa_nil))))
        (pss_cons (ps_if (PW.pt (pw_and (pt_cmpR op_notN (pv 1) pe_non (nomark _)) (pw_and1 (pt_cmpR op_ge (pcall dcompare hr (pa_cons (pv 11) (pa_cons (pv 1) pa_nil))) pe_int (nomark _)))))
          (pss_one ps_break)
          pss_nil)
        (pss_one (ps_expr (pe_bm PySem.F.plainAttrs_list PySem.F.slot_list_append PySem.F.type_list_append mt_append (pv 7) (pa_cons (pe_tup (pa_cons (pv 11) (pa_cons (pv 9) (pa_cons (pcall dmultiply hr (pa_cons (pv 5) (pa_cons (pv 10) pa_nil))) pa_nil)))) pa_nil)))))))
      (pss_one (ps_ret (pv 7))))))), ?_⟩
  (walk_at "vk_vc")
  rename_i a1 H1 ee h1 h1x tp ntp D nD
  rw [eA]
  obtain ⟨m, hm⟩ : ∃ m, (o.filter (on pc.v)).length = m := ⟨_, rfl⟩
  rw [hm] at ei hml ⊢
  obtain ⟨fst, hfst⟩ : ∃ q : Pc, q = ⟨pc.s, gf.v + gf.r * (pc.v - gf.s), pc.r * gf.r⟩ := ⟨_, rfl⟩
  obtain ⟨G0, hG0⟩ : ∃ G0, G0 = upd (upd (upd H' tp (.tup [.ref dsa, .ref a1, .ref a])) D (.lst [.ref tp])) p (.lst (xs.drop m)) := ⟨_, rfl⟩
  have sF : Same H G0 := by rw [hG0]; exact (by (walk_at "vk_same"))
  have hDf : H D = none := sameFree ((by (walk_at "vk_same")) : Same H (upd H' tp (.tup [.ref dsa, .ref a1, .ref a]))) nD
  have new : Pq K G0 (.ref tp) fst := by rw [hG0, hfst]; unfold Pq; (walk_at "vk_vc")
  have at0 : G0 D = some (.lst [.ref tp]) := by rw [hG0]; (walk_at "vk_raw")
  have gw0 : Gw (Pq K) H D [.ref tp] [fst] G0 := ⟨hDf, sF, at0, All2.one new⟩
  have hSl : SqL K G0 p (xs.drop m) := by rw [hG0]; exact SqL.of upd_same
  have npD : p ≠ D := fun g => by rw [g] at np; rw [upd_same] at np; cases np
  rw [← hG0]
  have fin : ∀ (G : Hp) (us : List V) (n : Nat), Gw (Pq K) H D us (fst :: ((o.drop m).take n).map (chM pc)) G → (∀ j g x, j < n → (o.drop m)[j]? = some g → oe = some x → tm pc g.s < x) → (∀ g, (o.drop m)[n]? = some g → ∃ x, oe = some x ∧ x ≤ tm pc g.s) → Q (.ref D) G := fun G us n gw lo' hi => by
    refine z D us G gw.same gw.fresh gw.at_ ?_
    unfold ch1
    rw [chP_take ok r hm lo' hi]
    show All2 _ us ((⟨pc.s, gf.v + gf.r * (pc.v - gf.s), pc.r * gf.r⟩ : Pc) :: _)
    rw [← hfst]
    exact gw.all
  clear hG0 np nD ntp ee h1 h1x e h h' at0 new sF hDf i0x eA s1 s2 s3 he1 hera pg hy hg' z hdsa
  have ldr : (xs.drop m).length = (o.drop m).length := by rw [List.length_drop, List.length_drop]; omega
  refine forL (K := K) (a := p) (xs := xs.drop m) (fun n σ G => Hold (∃ us k8 k9 k10 k11, σ = [some (.ref d), some ev, some (.ref ao), some (.ref dsa), some (.ref dva), some (.ref dra), some (.int ((m : Int) - 1)), some (.ref D), k8, k9, k10, k11] ∧ Gw (Pq K) H D us (fst :: ((o.drop m).take n).map (chM pc)) G ∧ Fr D G0 G ∧ ∀ j g x, j < n → (o.drop m)[j]? = some g → oe = some x → tm pc g.s < x))
    ⟨_, none, none, none, none, rfl, by rw [List.take_zero]; exact gw0, Fr.refl _ _, fun j g x h => absurd h (Nat.not_lt_zero _)⟩ (fun n σ G _ h => by obtain ⟨_, _, _, _, _, _, _, h, _⟩ := h; exact seq_fr h npD hSl) ?_ ?_
  · rintro n x σ G hx ⟨us, k8, k9, k10, k11, rfl, gw, fr, lo'⟩
    have hn : n < (o.drop m).length := by have := (List.getElem?_eq_some_iff.mp hx).1; omega
    have eg : (o.drop m)[n]? = some (o.drop m)[n] := List.getElem?_eq_getElem hn
    generalize (o.drop m)[n] = gn at eg
    have eo : o[m + n]? = some gn := by rw [← List.getElem?_drop]; exact eg
    rw [List.getElem?_drop] at hx
    obtain ⟨w1, w2, w3⟩ := cz gn (List.mem_of_getElem? eo)
    obtain ⟨b, bs, bv, br, rfl, hb', t1, t2, t3⟩ := (hc.2 (m + n) x _ hx eo).same gw.same
    obtain ⟨bra, rfl, hbra⟩ := id t3
    have hpg := hp.same gw.same
    have heg : optV K G ev oe := he.same gw.same
    have hdrg := r3.same gw.same
    have hul := gw.all.1
    have hul2 : us.length ≤ 500 := by
      rw [List.length_cons, List.length_map, List.length_take] at hul
      have : (o.drop m).length ≤ o.length := by rw [List.length_drop]; omega
      omega
    have tyD : tyV K "list" (.ref D) G := .inl ⟨rfl, _, SqL.of gw.at_⟩
    have hraw := gw.at_
    have ts : ((o.drop m).take (n + 1)).map (chM pc) = ((o.drop m).take n).map (chM pc) ++ [chM pc gn] := by rw [List.take_add_one, eg, List.map_append]; rfl
    have zt : Sz (i + (i' + j + 1 + l') + 1) (tm pc gn.s) := z1.add ((w1.sub z2).div z3 r)
    have app : ∀ (G1 : Hp) (px : Addr) (σ' : L2.St), Same G G1 → Pq K G1 (.ref px) (chM pc gn) → (∀ x, oe = some x → tm pc gn.s < x) → ∀ C : Addr → List V → V → Prop, (∀ G2, Gw (Pq K) H D (us ++ [.ref px]) (fst :: ((o.drop m).take (n + 1)).map (chM pc)) G2 → Fr D G0 G2 → (∀ j g x, j < n + 1 → (o.drop m)[j]? = some g → oe = some x → tm pc g.s < x) → G2 = upd G1 D (.lst (us ++ [.ref px])) → C D us (.ref px)) →
        ∃ (l : Addr) (xs : List V) (y : V), V.ref D = .ref l ∧ [V.ref px] = [y] ∧ G1 l = some (.lst xs) ∧ xs.length < sizeLine ∧ C l xs y := fun G1 px σ' s1 hpx lt C hC => by
      refine appGw (R := Pq K) (q := chM pc gn) lastsPq (gw.go lastsPq s1) hpx (le1000 (by omega)) fun gw2 fr2 => ?_
      refine hC _ (by rw [ts, ← List.cons_append]; exact gw2) ((fr.trans (Fr.of s1)).trans fr2) (fun j g x' hj hg hxe => ?_) rfl
      by_cases z : j = n
      · subst z
        rw [eg] at hg
        cases hg
        exact lt x' hxe
      · exact lo' j g x' (by omega) hg hxe
    cases oe with
    | none =>
      have : ev = .non := heg
      subst this
      (walk_at "vk_vc")
      exact app _ _ [] (by (walk_at "vk_same")) (by unfold Pq chM; (walk_at "vk_vc")) (fun x hx => by cases hx) _ (fun G2 gw2 f2 lo2 e2 => by subst e2; exact ⟨⟨_, _, _, _, _, rfl, gw2, f2, lo2⟩⟩)
    | some y =>
      have heg : Rq K G ev y := heg
      have zy := ze y rfl
      obtain ⟨eva, rfl, heva⟩ := id heg
      (walk_at "vk_vc")
      · exact fin _ us n (gw.go lastsPq e) lo' (fun g hg => by rw [eg] at hg; cases hg; exact ⟨y, rfl, sg_ge.mp gc⟩)
      · exact app _ _ [] (by (walk_at "vk_same")) (by unfold Pq chM; (walk_at "vk_vc")) (fun x hx => by cases hx; exact Rat.not_le.mp fun z => absurd (sg_ge.mpr z) (by assumption)) _ (fun G2 gw2 f2 lo2 e2 => by subst e2; exact ⟨⟨_, _, _, _, _, rfl, gw2, f2, lo2⟩⟩)
  · rintro σ G ⟨us, k8, k9, k10, k11, rfl, gw, fr, lo'⟩
    refine ⟨_, rfl, fin G us _ gw lo' fun g hg => ?_⟩
    rw [ldr, List.getElem?_eq_none (Nat.le_refl _)] at hg
    cases hg
end Vk

set_option maxHeartbeats 4000000
namespace Vk
open PySem L2 Vm Vl
variable {l aZERO CB CR CT CV fB fR fT : Addr} {P : Program} {w : World} {K : PySem.W.Frag} {mg : Str → Option Value} {base : Heap} {k : Nat} {f f1 f2 f3 f4 f5 f6 f7 f8 f9 : Addr} {fd fd1 fd2 fd3 fd4 fd5 fd6 fd7 fd8 fd9 : FuncData}
/-- what the n-th piece makes -/
def chAt (o : List Pc) (p : Pc) (e : Option Rat) : List Pc := match pcAt o p.v with
  | some f => ch1 o p e f
  | none => []
def chN (o c : List Pc) : Nat → List Pc
  | 0 => []
  | n + 1 => chN o c n ++ (match c[n]? with
    | some p => chAt o p (c[n + 1]?.map (·.s))
    | none => [])
theorem chN_shift {o c : List Pc} {p : Pc} : ∀ n, chN o (p :: c) (n + 1) = chAt o p (nxt c) ++ chN o c n
  | 0 => by
    show [] ++ chAt o p ((p :: c)[1]?.map (·.s)) = _
    have : (p :: c)[1]?.map (·.s) = nxt c := by cases c <;> rfl
    rw [this]
    simp [chN]
  | n + 1 => by
    have ih := chN_shift (o := o) (c := c) (p := p) n
    show chN o (p :: c) (n + 1) ++ _ = _
    rw [ih, List.append_assoc]
    show _ = chAt o p (nxt c) ++ (chN o c n ++ _)
    congr 1
theorem chN_all {o : List Pc} : ∀ c : List Pc, chN o c c.length = ch o c
  | [] => rfl
  | p :: c => by
    rw [List.length_cons, chN_shift, chN_all c]
    rfl
theorem nb_ge {c : List Pc} {p0 : Pc} (ok : Cok c) (nb : NB c) (h0 : c[0]? = some p0) : ∀ (i : Nat) (p : Pc), c[i]? = some p → p0.v ≤ p.v
  | 0, p, h => by rw [h0] at h; cases h; exact Rat.le_refl
  | i + 1, q, h => by
    have lt := (List.getElem?_eq_some_iff.mp h).1
    have e : c[i]? = some c[i] := List.getElem?_eq_getElem (by omega)
    have ih := nb_ge ok nb h0 i _ e
    have h1 := nb i _ q e h
    have h2 := ok.2 i _ q e h
    have := Rat.mul_nonneg (Rat.le_of_lt (ok.1 _ (List.mem_of_getElem? e))) (show 0 ≤ q.s - c[i].s by grind)
    unfold vl at h1
    grind
theorem cz_at {o : List Pc} {p : Pc} {e : Option Rat} {i j m i' j' m' : Nat} (r : 0 < p.r) (h1 : Sz i p.s) (h2 : Sz j p.v) (h3 : Sz m p.r) (cz : Cz i' j' m' o) : Cz (i + (i' + j + 1 + m) + 1) (j' + (m' + (j + i' + 1)) + 1) (m + m') (chAt o p e) := fun x hx => by
  unfold chAt at hx
  cases hf : pcAt o p.v with
  | none => rw [hf] at hx; cases hx
  | some f =>
    rw [hf] at hx
    rcases ch1_mem hx with rfl | ⟨g, hg, _, _, rfl⟩
    · obtain ⟨z1, z2, z3⟩ := cz f (List.mem_filter.mp (List.mem_of_getLast? hf)).1
      exact ⟨h1.mono (by omega), z2.add (z3.mul (h2.sub z1)), h3.mul z3⟩
    · obtain ⟨z1, z2, z3⟩ := cz g hg
      exact ⟨h1.add ((z1.sub h2).div h3 r), z2.mono (by omega), h3.mul z3⟩
theorem cz_chN {o c : List Pc} {i j m i' j' m' : Nat} (ok : Cok c) (cc : Cz i j m c) (cz : Cz i' j' m' o) : ∀ n, Cz (i + (i' + j + 1 + m) + 1) (j' + (m' + (j + i' + 1)) + 1) (m + m') (chN o c n)
  | 0 => fun x hx => by cases hx
  | n + 1 => fun x hx => by
    rcases List.mem_append.mp (show x ∈ chN o c n ++ _ from hx) with hx | hx
    · exact cz_chN ok cc cz n x hx
    · cases e : c[n]? with
      | none => rw [e] at hx; cases hx
      | some p =>
        rw [e] at hx
        have hm := List.mem_of_getElem? e
        exact cz_at (ok.1 p hm) (cc p hm).1 (cc p hm).2.1 (cc p hm).2.2 cz x hx
theorem len_at {o : List Pc} {p : Pc} {e : Option Rat} : (chAt o p e).length ≤ o.length + 1 := by
  unfold chAt
  cases pcAt o p.v with
  | none => exact Nat.zero_le _
  | some f =>
    show (ch1 o p e f).length ≤ _
    unfold ch1
    rw [List.length_cons, List.length_map]
    have := List.length_filter_le (chP p e) o
    omega
theorem len_chN {o c : List Pc} : ∀ n, (chN o c n).length ≤ n * (o.length + 1)
  | 0 => Nat.zero_le _
  | n + 1 => by
    have ih := len_chN (o := o) (c := c) n
    show (chN o c n ++ _).length ≤ _
    rw [List.length_append, Nat.succ_mul]
    cases c[n]? with
    | none => show _ + 0 ≤ _; omega
    | some p => have := len_at (o := o) (p := p) (e := c[n + 1]?.map (·.s)); show _ + (chAt o p _).length ≤ _; omega
theorem Gw.ext {α : Type} {R : Hp → V → α → Prop} {H G : Hp} {D : Addr} {us zs : List V} {os qs : List α} (L : Lasts R) (h : Gw R H D us os G) (r : All2 (R G) zs qs) : Gw R H D (us ++ zs) (os ++ qs) (upd G D (.lst (us ++ zs))) :=
  ⟨h.fresh, same_upd h.same h.fresh _, upd_same, All2.append (h.all.imp fun _ _ q => L (Fr.upd _) ⟨_, h.at_⟩ q) (r.imp fun _ _ q => L (Fr.upd _) ⟨_, h.at_⟩ q)⟩
abbrev s_chained : Stmt := top 27
abbrev N_chained : List Str := ["inner", "outer", "first_shown", "pieces", "at", "piece"]
theorem sc_chained : FnScope N_chained ["inner", "outer"] (defScope s_chained) := ⟨rfl, rfl, rfl, by decide +kernel, rfl, by decide +kernel, by decide +kernel⟩
abbrev ps_chained : List Str := ["inner", "outer"]
def spChained (K : PySem.W.Frag) (CB CT : Addr) : Sp := fun vs H Q E => ∃ (a b : Addr) (c o : List Pc) (p0 : Pc) (i j m i' j' m' : Nat), vs = [.ref a, .ref b] ∧ Cq K H a c ∧ Cq K H b o ∧ Cok c ∧ Cok o ∧ Cz i j m c ∧ Cz i' j' m' o ∧ c[0]? = some p0 ∧ 1 ≤ o.length ∧ c.length * (o.length + 1) ≤ 800 ∧ c.length ≤ 400 ∧ o.length ≤ 400 ∧ i + i' + j + j' + m + m' + 10 ≤ 1800 ∧
  (∀ k p q, Fb c k p q → ∀ y H', Same H H' → Rq K H' y q.s → eV E CT H' y) ∧ (NB c → pcAt o p0.v = none → ∀ y H', Same H H' → Rq K H' y p0.v → eV E CB H' y) ∧
  (NB c → (∃ f, pcAt o p0.v = some f) → ∀ D us H', Same H H' → H D = none → Ct K H' D us (tl (ch o c)) → Q (.ref D) H')
theorem ok_chained (T : Bn mg) (TBeforeStart : PySem.ValX.ValTxt K mg "BeforeStart" CB fB) (F : Fn K mg "chained" s_chained ps_chained f fd) (d_require_no_way_back : DefY P w K mg base k "_require_no_way_back" ["course"] (spNoBack K CT) f1 fd1) (dcompare : Def P w K mg base k "compare" ["a", "b"] (spTest2 K fun p q => .int (sg p q)) f2 fd2)
    (d_chained_piece : Def P w K mg base k "_chained_piece" ["piece", "end", "outer"] (spCP K) f3 fd3) (d_end_of : Def P w K mg base k "_end_of" ["course", "at"] (spEndOf K) f4 fd4) (dtidy : Def P w K mg base k "tidy" ["course"] (spTidy K) f5 fd5) : DefY P w K mg base (k + 1) "chained" ps_chained (spChained K CB CT) f fd := by
  refine ⟨okY F.F sc_chained (fun vs H Q E h => ?_) (fun cdv A outer s H vs Q E hr h => ?_), F.m, F.F.kp, F.b⟩
  · obtain ⟨_, _, _, _, _, _, _, _, _, _, _, rfl, _⟩ := h
    rfl
  obtain ⟨ac, ao, c, o, p0, i, j, m, i', j', m', rfl, hC, hO, okc, oko, cz, co, e0, lo1, lp, lc, lo, hb, z1, z2, z3⟩ := h
  obtain ⟨xs, hxs, hc⟩ := id hC
  obtain ⟨os, hos, ho⟩ := id hO
  have hlx := hc.1
  have hlo := ho.1
  have lc1 : 1 ≤ c.length := by have := (List.getElem?_eq_some_iff.mp e0).1; omega
  obtain ⟨x0, hx0, pq0⟩ := hc.at e0
  obtain ⟨d0, ds0, dv0, dr0, rfl, hd0, r01, r02, r03⟩ := id pq0
  obtain ⟨zs0, zv0, zr0⟩ := cz _ (List.mem_of_getElem? e0)
  have i0x : atI xs 0 = some (.ref d0) := at0 hx0
  obtain ⟨dva, rfl, hdva⟩ := id r02
  have f0 : o[0]? = some o[0] := List.getElem?_eq_getElem (by omega)
  obtain ⟨y0, hy0, po0⟩ := ho.at f0
  obtain ⟨g0, gs0, gv0, gr0, rfl, hg0, s01, s02, s03⟩ := id po0
  obtain ⟨zt0, zw0, zq0⟩ := co _ (List.mem_of_getElem? f0)
  have i0y : atI os 0 = some (.ref g0) := at0 hy0
  obtain ⟨gsa, rfl, hgsa⟩ := id s01
  have first := pcAt_first oko f0 (t := p0.v)
  generalize o[0] = q0 at f0 po0 s01 s02 s03 zt0 zw0 zq0 hgsa first
  refine ⟨_, (pss_cons (ps_expr (pcallY d_require_no_way_back hr (L2N.takes_of rfl rfl rfl rfl) (pa_cons (pv 0) pa_nil)))
      (pss_cons (ps_set (i := 2) sc_chained.nd rfl (Or.inl rfl) (pe_ix ix_tup (pe_ix ix_list (pv 0) pe_int (fun _ _ => rfl)) pe_int (fun _ _ => rfl)))
      (pss_cons (ps_if (pt_cmpR op_lt (pcall dcompare hr (pa_cons (pv 2) (pa_cons (pe_ix ix_tup (pe_ix ix_list (pv 1) pe_int (fun _ _ => rfl)) pe_int (fun _ _ => rfl)) pa_nil))) pe_int (nomark _))
        (pss_one (ps_raiseValN rfl TBeforeStart hr (L2N.takes_of rfl rfl rfl rfl) (pa_cons (pv 2) pa_nil)))
        pss_nil)
      (pss_cons (ps_set (i := 3) sc_chained.nd rfl (Or.inl rfl) (pe_lst pa_nil))
      (pss_cons (psNox (ps_for PassesOwn.never rfl (pi_enum (by rfl) T.enumerate_ (pa_cons (pv 0) pa_nil)) (pg_tup rfl (pgs_cons (pg_name (i := 4) sc_chained.nd rfl (Or.inl rfl)) (pgs_cons (pg_name (i := 5) sc_chained.nd rfl (Or.inl rfl)) pgs_nil)))
        (pss_one (ps_expr (pe_bm PySem.F.plainAttrs_list PySem.F.slot_list_extend PySem.F.type_list_extend mt_extend (pv 3) (pa_cons (pcall d_chained_piece hr (pa_cons (pv 5) (pa_cons (pcall d_end_of hr (pa_cons (pv 0) (pa_cons (pv 4) pa_nil))) (pa_cons (pv 1) pa_nil)))) pa_nil))))))
      (pss_one (ps_ret (pcall dtidy hr (pa_cons (pv 3) pa_nil))))))))), ?_⟩
  have hsz : sizeLine = 16777216 := sizeLine_eq
  have bsz : j + j + m + i + i + 5 ≤ 9000 := by omega
  (walk_at "vk_vc")
  intro nb H1 e1
  have l900 : c.length ≤ 900 := by omega
  have hx1 := e1.seq hxs
  have hy1 := e1.seq hos
  have hd1 := e1.sqt hd0
  have hg1 := e1.sqt hg0
  have r1 := r02.same e1
  have s1 := s01.same e1
  have hC1 := hC.same e1
  (walk_at "vk_vc")
  · exact z2 nb (first.mpr (sg_lt.mp gc)) (.ref dva) H1 e1 r1 _ np
  have hf : ∃ f, pcAt o p0.v = some f := by
    cases e : pcAt o p0.v with
    | some f => exact ⟨f, rfl⟩
    | none => exact absurd (sg_lt.mpr (first.mp e)) gc
  have z3 := z3 nb hf
  obtain ⟨f0', hf0⟩ := hf
  rename Addr => D
  have gw0 : Gw (Pq K) H D [] [] (upd H1 D (.lst [])) := Gw.start e1 np
  generalize upd H1 D (.lst []) = G0 at gw0 ⊢
  clear z1 z2 hx1 hy1 hd1 hg1 r1 s1 hC1 np e1
  have cch := cz_chN okc cz co
  refine forE (K := K) (a := ac) (xs := xs) (fun n σ G => Hold (∃ us k4 k5, σ = [some (.ref ac), some (.ref ao), some (.ref dva), some (.ref D), k4, k5] ∧ Gw (Pq K) H D us (chN o c n) G)) ⟨[], none, none, rfl, gw0⟩ (fun n σ G h => by obtain ⟨_, _, _, _, gw⟩ := h; exact gw.same.seq hxs) ?_ ?_
  · rintro n x T1 σ G hx ⟨us, k4, k5, rfl, gw⟩ hT1
    have hn : n < c.length := by have := (List.getElem?_eq_some_iff.mp hx).1; omega
    have ep : c[n]? = some c[n] := List.getElem?_eq_getElem hn
    obtain ⟨zs1, zv1, zr1⟩ := cz _ (List.mem_of_getElem? ep)
    have rp := okc.1 _ (List.mem_of_getElem? ep)
    obtain ⟨fp, hfp⟩ := pcAt_up oko hf0 (nb_ge okc nb e0 n _ ep)
    have hnext : chN o c (n + 1) = chN o c n ++ ch1 o c[n] (c[n + 1]?.map (·.s)) fp := by
      show chN o c n ++ _ = _
      rw [ep]
      show chN o c n ++ chAt o c[n] _ = _
      unfold chAt
      rw [hfp]
    have lch := len_chN (o := o) (c := c) n
    have lch2 : n * (o.length + 1) ≤ c.length * (o.length + 1) := Nat.mul_le_mul_right _ (by omega)
    have lat := len_at (o := o) (p := c[n]) (e := c[n + 1]?.map (·.s))
    unfold chAt at lat
    rw [hfp] at lat
    have lat : (ch1 o c[n] (c[n + 1]?.map (·.s)) fp).length ≤ o.length + 1 := lat
    obtain ⟨d1, ds1, dv1, dr1, rfl, hd1, r11, r12, r13⟩ := (hc.2 n x _ hx ep).same gw.same
    have pq1 : Pq K G (.ref d1) c[n] := ⟨d1, ds1, dv1, dr1, rfl, hd1, r11, r12, r13⟩
    have zend : ∀ y, c[n + 1]?.map (·.s) = some y → Sz i y := fun y hy => by
      obtain ⟨q, hq, rfl⟩ := Option.map_eq_some_iff.mp hy
      exact (cz q (List.mem_of_getElem? hq)).1
    generalize c[n] = pa at ep zs1 zv1 zr1 rp hfp hnext lat r11 r12 r13 pq1
    have hul := gw.all.1
    have cT1 := same_new hT1 (.tup [.int (n : Nat), .ref d1])
    have hT1a : (upd G T1 (.tup [.int (n : Nat), .ref d1])) T1 = some (.tup [.int (n : Nat), .ref d1]) := upd_same
    have gw1 : Gw (Pq K) H D us (chN o c n) (upd G T1 (.tup [.int (n : Nat), .ref d1])) := gw.go lastsPq cT1
    have pq2 := pq1.same cT1
    generalize upd G T1 (.tup [.int (n : Nat), .ref d1]) = G1 at cT1 hT1a gw1 pq2 ⊢
    have hT1t : SqT K G1 T1 [.int (n : Nat), .ref d1] := SqT.of hT1a
    have hC2 := hC.same gw1.same
    have hO2 := hO.same gw1.same
    have hraw := gw1.at_
    have tyD : tyV K "list" (.ref D) G1 := .inl ⟨rfl, _, SqL.of hraw⟩
    clear gw cT1 hT1 hT1a pq1 r11 r12 r13 hd1
    (walk_at "vk_vc")
    intro stp hst
    have hopt : optV K G1 stp (c[n + 1]?.map (·.s)) := by
      unfold endV at hst
      cases q : c[n + 1]? with
      | none => rw [q] at hst; exact hst
      | some y => rw [q] at hst; exact hst
    (walk_at "vk_vc")
    intro D2 us2 G2 e2 nD2 hD2 hA2
    have hl2 := hA2.1
    (walk_at "vk_vc")
    have gw2 : Gw (Pq K) H D us (chN o c n) G2 := gw1.go lastsPq e2
    exact ⟨⟨_, _, _, rfl, by rw [hnext]; exact Gw.ext lastsPq gw2 hA2⟩⟩
  · rintro σ G ⟨us, k4, k5, rfl, gw⟩
    rw [hlx, chN_all] at gw
    have hCD : Cq K G D (ch o c) := Ct.cq ⟨gw.at_, gw.all⟩
    have ccA := cch c.length
    have lA := len_chN (o := o) (c := c) c.length
    rw [chN_all] at ccA lA
    have lA1 : 1 ≤ (ch o c).length := by
      cases c with
      | nil => cases e0
      | cons a b =>
        cases e0
        have := (List.getElem?_eq_some_iff.mp (ch_first (c := b) hf0)).1
        omega
    have lA2 : (ch o c).length ≤ 900 := by omega
    clear cz cch
    (walk_at "vk_vc")
    exact fun D2 us2 H3 s3 n3 ct3 => z3 D2 us2 H3 (gw.same.trans s3) (sameFree gw.same n3) ct3
end Vk

set_option maxHeartbeats 4000000
namespace Vk
open PySem L2 Vm Vl
variable {l aZERO CB CR CT CV fB fR fT : Addr} {P : Program} {w : World} {K : PySem.W.Frag} {mg : Str → Option Value} {base : Heap} {k : Nat} {f f1 f2 f3 f4 f5 f6 f7 f8 f9 : Addr} {fd fd1 fd2 fd3 fd4 fd5 fd6 fd7 fd8 fd9 : FuncData}
theorem take_on {c : List Pc} {t : Rat} {i : Nat} {p : Pc} (ok : Cok c) (e : c[i]? = some p) (h : ¬ t < p.s) : ((c.take i).filter (on t)).length = i := by
  have lt := (List.getElem?_eq_some_iff.mp e).1
  rw [List.filter_eq_self.mpr fun x hx => ?_, List.length_take]
  · omega
  · obtain ⟨j, hj⟩ := List.mem_iff_getElem?.mp hx
    rw [List.getElem?_take] at hj
    split at hj
    · have := cok_lt ok (by assumption) hj e
      simp [on]
      grind
    · cases hj
abbrev s__law_place : Stmt := top 49
abbrev N__law_place : List Str := ["_law_course_here", "_law_t", "_law_found", "_law_k"]
theorem sc__law_place : FnScope N__law_place ["_law_course_here", "_law_t"] (defScope s__law_place) := ⟨rfl, rfl, rfl, by decide +kernel, rfl, by decide +kernel, by decide +kernel⟩
abbrev ps__law_place : List Str := ["_law_course_here", "_law_t"]
def spLP (K : PySem.W.Frag) : Sp := fun vs H Q _ => ∃ (a : Addr) (y : V) (c : List Pc) (t : Rat) (i j l m : Nat), vs = [.ref a, y] ∧ Cq K H a c ∧ Rq K H y t ∧ Cz i j l c ∧ Sz m t ∧ Cok c ∧ i + m + 1 ≤ 9000 ∧ c.length ≤ 900 ∧ Q (.int (((c.filter (on t)).length : Int) - 1)) H
theorem ok_law_place (T : Bn mg) (F : Fn K mg "_law_place" s__law_place ps__law_place f fd) (d_law_below : Def P w K mg base k "_law_below" ["_law_a", "_law_b"] (spTest2 K fun p q => .bl (decide (p < q))) f1 fd1) : Def P w K mg base (k + 1) "_law_place" ps__law_place (spLP K) f fd := by
  refine ⟨F.F.ok sc__law_place (fun vs H Q E h => ?_) (fun cdv A outer s H vs Q E hr h => ?_), F.m, F.F.kp, F.b⟩
  · obtain ⟨_, _, _, _, _, _, _, _, rfl, _⟩ := h
    rfl
  obtain ⟨ac, y, c, t, i, j, l', m, rfl, hC, hy, cz, zt, ok, hb, l9, z⟩ := h
  obtain ⟨xs, hxs, hc⟩ := id hC
  have hlx := hc.1
  refine ⟨_, (pss_cons (ps_set (i := 2) sc__law_place.nd rfl (Or.inl rfl) (pe_op op_sub pe_int pe_int))
      (pss_cons (ps_for PassesOwn.never rfl (pi_range1 (by rfl) T.range_ (pa_cons (pe_callB call_len_seq (by rfl) T.len_ PySem.boot_len (pa_cons (pv 0) pa_nil)) pa_nil)) (pg_name (i := 3) sc__law_place.nd rfl (Or.inl rfl))
        (pss_one (ps_if (pt_not (pt_val (pcall d_law_below hr (pa_cons (pv 1) (pa_cons (pe_ix ix_tup (pe_ix ix_list (pv 0) (pv 3) (fun _ _ => rfl)) pe_int (fun _ _ => rfl)) pa_nil)))))
          (pss_one (ps_set (i := 2) sc__law_place.nd rfl (Or.inl rfl) (pv 3)))
          pss_nil)))
      (pss_one (ps_ret (pv 2))))), ?_⟩
  have p62 : (2 : Int) ^ 62 = 4611686018427387904 := by decide
  have x62 : ((xs.length : Nat) : Int) < 2 ^ 62 := by omega
  (walk_at "vk_vc")
  refine forR (lo := 0) (n := ((xs.length : Nat) : Int).toNat) (fun i σ G => Hold (∃ k3, σ = [some (.ref ac), some y, some (.int ((((c.take i).filter (on t)).length : Int) - 1)), k3] ∧ G = H)) ⟨none, rfl, rfl⟩ ?_ ?_
  · rintro i σ G hi ⟨k3, rfl, rfl⟩
    have hi1 : i < c.length := by omega
    have ep : c[i]? = some c[i] := List.getElem?_eq_getElem hi1
    obtain ⟨x1, hx1, pp⟩ := hc.at ep
    obtain ⟨zs1, zv1, zr1⟩ := cz _ (List.mem_of_getElem? ep)
    obtain ⟨d1, ds1, dv1, dr1, rfl, hd1, r11, r12, r13⟩ := pp
    have more := filter_more (on t) ep
    have ton := fun h => take_on (t := t) ok ep h
    generalize c[i] = pa at ep r11 r12 r13 zs1 zv1 zr1 more ton
    have i1 : atI xs (0 + (i : Int)) = some (.ref d1) := at_of (j := i) (by omega) hx1
    (walk_at "vk_vc")
    · refine ⟨⟨some (V.int (0 + (i : Int))), ?_, rfl⟩⟩
      have h : ¬ t < pa.s := by assumption
      have e2 : on t pa = true := by simp [on, h]
      rw [more, if_pos e2, List.length_append, ton h]
      show [_, _, some (V.int (0 + (i : Int))), some (V.int (0 + (i : Int)))] = [_, _, some (V.int (((i + 1 : Nat) : Int) - 1)), _]
      rw [show ((i + 1 : Nat) : Int) - 1 = 0 + (i : Int) by omega]
    · refine ⟨⟨some (V.int (0 + (i : Int))), ?_, rfl⟩⟩
      have h : t < pa.s := by assumption
      have e2 : on t pa = false := by simp [on, h]
      rw [more, e2]
      simp
  · rintro σ G ⟨k3, rfl, rfl⟩
    refine ⟨_, rfl, ?_⟩
    rw [show ((xs.length : Nat) : Int).toNat = c.length by omega, List.take_length]
    exact z
abbrev s__law_line : Stmt := top 50
abbrev N__law_line : List Str := ["_law_piece", "_law_t"]
theorem sc__law_line : FnScope N__law_line ["_law_piece", "_law_t"] (defScope s__law_line) := ⟨rfl, rfl, rfl, by decide +kernel, rfl, by decide +kernel, by decide +kernel⟩
abbrev ps__law_line : List Str := ["_law_piece", "_law_t"]
theorem ok_line (F : Fn K mg "_law_line" s__law_line ps__law_line f fd) (d_law_plus : Def P w K mg base k "_law_plus" ["_law_a", "_law_b"] (spOp2 K (· + ·)) f1 fd1) (d_law_times : Def P w K mg base k "_law_times" ["_law_a", "_law_b"] (spOp2 K (· * ·)) f2 fd2)
    (d_law_minus : Def P w K mg base k "_law_minus" ["_law_a", "_law_b"] (spOp2 K (· - ·)) f3 fd3) : Def P w K mg base (k + 1) "_law_line" ps__law_line (spShown K) f fd := by
  refine ⟨F.F.ok sc__law_line (fun vs H Q E h => ?_) (fun cdv A outer s H vs Q E hr h => ?_), F.m, F.F.kp, F.b⟩
  · obtain ⟨_, _, _, _, _, _, _, _, rfl, _⟩ := h
    rfl
  obtain ⟨x, y, p, t, i, j, l', m, rfl, hp, hy, z1, z2, z3, zt, hb, z⟩ := h
  obtain ⟨d, ds, dv, dr, rfl, hd, r1, r2, r3⟩ := id hp
  have zd := zt.sub z1
  have zm := z3.mul zd
  refine ⟨_, (pss_one (ps_ret (pcall d_law_plus hr (pa_cons (pe_ix ix_tup (pv 0) pe_int (fun _ _ => rfl)) (pa_cons (pcall d_law_times hr (pa_cons (pe_ix ix_tup (pv 0) pe_int (fun _ _ => rfl)) (pa_cons (pcall d_law_minus hr (pa_cons (pv 1) (pa_cons (pe_ix ix_tup (pv 0) pe_int (fun _ _ => rfl)) pa_nil))) pa_nil))) pa_nil))))), ?_⟩
  (walk_at "vk_vc")
  exact z _ _ (by (walk_at "vk_same")) h
end Vk

set_option maxHeartbeats 4000000
namespace Vk
open PySem L2 Vm Vl
variable {l aZERO CB CR CT CV fB fR fT : Addr} {P : Program} {w : World} {K : PySem.W.Frag} {mg : Str → Option Value} {base : Heap} {k : Nat} {f f1 f2 f3 f4 f5 f6 f7 f8 f9 : Addr} {fd fd1 fd2 fd3 fd4 fd5 fd6 fd7 fd8 fd9 : FuncData}
abbrev s__law_is_tidy : Stmt := top 51
abbrev N__law_is_tidy : List Str := ["_law_value", "_law_k", "_law_piece", "_law_one"]
theorem sc__law_is_tidy : FnScope N__law_is_tidy ["_law_value"] (defScope s__law_is_tidy) := ⟨rfl, rfl, rfl, by decide +kernel, rfl, by decide +kernel, by decide +kernel⟩
abbrev ps__law_is_tidy : List Str := ["_law_value"]
def spIsT2 (K : PySem.W.Frag) : Sp := fun vs H Q _ => ∃ (a : Addr) (c : List Pc) (i j l : Nat), vs = [.ref a] ∧ Cq K H a c ∧ Cok c ∧ Cz i j l c ∧ 1 ≤ c.length ∧ c.length ≤ 900 ∧ i + i + j + l + 5 ≤ 6000 ∧ (∀ (n : Nat) (p q : Pc), c[n]? = some p → c[n + 1]? = some q → ky q ≠ ky p) ∧ ∀ H', Same H H' → Q (.bl true) H'
theorem ok_is_tidy (T : Bn mg) (F : Fn K mg "_law_is_tidy" s__law_is_tidy ps__law_is_tidy f fd) (d_law_is_frac : Def P w K mg base k "_law_is_frac" ["_law_value"] (spIsFrac K) f1 fd1) (d_law_below : Def P w K mg base k "_law_below" ["_law_a", "_law_b"] (spTest2 K fun p q => .bl (decide (p < q))) f2 fd2)
    (d_law_line : Def P w K mg base k "_law_line" ["_law_piece", "_law_t"] (spShown K) f3 fd3) : Def P w K mg base (k + 1) "_law_is_tidy" ps__law_is_tidy (spIsT2 K) f fd := by
  refine ⟨F.F.ok sc__law_is_tidy (fun vs H Q E h => ?_) (fun cdv A outer s H vs Q E hr h => ?_), F.m, F.F.kp, F.b⟩
  · obtain ⟨_, _, _, _, _, rfl, _⟩ := h
    rfl
  obtain ⟨a, c, i0, j0, l0, rfl, hC, ok, cz, hp, hl, hb, ht, z⟩ := h
  obtain ⟨xs, hx, hc⟩ := id hC
  have hxl := hc.1
  have ta := sql_ty hx
  refine ⟨_, (pss_cons (ps_if (PW.pt (pw_or (pt_not (pt_val (pe_callB call_isi (by rfl) T.isinstance_ (by decide +kernel) (pa_cons (pv 0) (pa_cons (pe_bltn (v := .ty "list") (by rfl) T.list_ (by decide +kernel) rfl) pa_nil))))) (pw_or1 (pt_cmpR op_eq (pe_callB call_len_seq (by rfl) T.len_ PySem.boot_len (pa_cons (pv 0) pa_nil)) pe_int (nomark _)))))
        (pss_one (ps_ret pe_bl))
        pss_nil)
      (pss_cons (ps_for PassesOwn.never rfl (pi_range1 (by rfl) T.range_ (pa_cons (pe_callB call_len_seq (by rfl) T.len_ PySem.boot_len (pa_cons (pv 0) pa_nil)) pa_nil)) (pg_name (i := 1) sc__law_is_tidy.nd rfl (Or.inl rfl))
        (pss_cons (ps_set (i := 2) sc__law_is_tidy.nd rfl (Or.inl rfl) (pe_ix ix_list (pv 0) (pv 1) (fun _ _ => rfl)))
        (pss_cons (ps_if (PW.pt (pw_or (pt_not (pt_val (pe_callB call_isi (by rfl) T.isinstance_ (by decide +kernel) (pa_cons (pv 2) (pa_cons (pe_bltn (v := .ty "tuple") (by rfl) T.tuple_ (by decide +kernel) rfl) pa_nil))))) (pw_or (pt_cmpR op_ne (pe_callB call_len_seq (by rfl) T.len_ PySem.boot_len (pa_cons (pv 2) pa_nil)) pe_int (nomark _)) (pw_or1 (pt_cmpR op_in_seq pe_bl (pe_lc (own := [("_law_one", 3)]) (g := gName 3) (tt := tYes) rfl sc__law_is_tidy.nd (pi_tup (pv 2)) (blkOk_by (N := N__law_is_tidy) (sc := defScope s__law_is_tidy) (by decide +kernel)) (fun _ _ _ _ _ => pg_name (i := 3) sc__law_is_tidy.nd rfl (Or.inl rfl)) (fun _ _ _ _ _ => pts_nil) (fun _ _ _ _ _ => (pcall d_law_is_frac hr (pa_cons (pv 3) pa_nil)))) rfl)))))
          (pss_one (ps_ret pe_bl))
          pss_nil)
        (pss_cons (ps_if (PW.pt (pw_or (pt_cmpR op_lt (pe_ix ix_tup (pe_ix ix_tup (pv 2) pe_int (fun _ _ => rfl)) pe_int (fun _ _ => rfl)) pe_int (nomark _)) (pw_or1 (PW.pt (pw_and (pt_cmpR op_gt (pv 1) pe_int (nomark _)) (pw_and1 (pt_not (pt_val (pcall d_law_below hr (pa_cons (pe_ix ix_tup (pe_ix ix_list (pv 0) (pe_op op_sub (pv 1) pe_int) (fun _ _ => rfl)) pe_int (fun _ _ => rfl)) (pa_cons (pe_ix ix_tup (pv 2) pe_int (fun _ _ => rfl)) pa_nil)))))))))))
          (pss_one (ps_ret pe_bl))
          pss_nil)
        (pss_one (ps_if (PW.pt (pw_and (pt_cmpR op_gt (pv 1) pe_int (nomark _)) (pw_and (pt_cmpR (op_eqD hr.units) (pe_ix ix_tup (pv 2) pe_int (fun _ _ => rfl)) (pe_ix ix_tup (pe_ix ix_list (pv 0) (pe_op op_sub (pv 1) pe_int) (fun _ _ => rfl)) pe_int (fun _ _ => rfl)) (nomark _)) (pw_and1 (pt_cmpR (op_eqD hr.units) (pe_ix ix_tup (pv 2) pe_int (fun _ _ => rfl)) (pcall d_law_line hr (pa_cons (pe_ix ix_list (pv 0) (pe_op op_sub (pv 1) pe_int) (fun _ _ => rfl)) (pa_cons (pe_ix ix_tup (pv 2) pe_int (fun _ _ => rfl)) pa_nil))) (nomark _))))))
          (pss_one (ps_ret pe_bl))
          pss_nil))))))
      (pss_one (ps_ret pe_bl)))), ?_⟩
  have p62 : (2 : Int) ^ 62 = 4611686018427387904 := by decide
  have x62 : ((xs.length : Nat) : Int) < 2 ^ 62 := by omega
  refine ⟨_, rfl, _, _, _, _, true, rfl, .ty _, ta, kit_ty (by decide +kernel), _, rfl, ifF rfl ⟨_, rfl, a, _, rfl, .inl hx, rfl, _, rfl, ifF (dF fun e => by have := V.int.inj e; omega) ?_⟩⟩
  (walk_at "vk_vc")
  refine forR (lo := 0) (n := ((xs.length : Nat) : Int).toNat) (fun i σ G => Hold (∃ k1 k2, σ = [some (.ref a), k1, k2, none] ∧ Same H G)) ⟨none, none, rfl, Same.refl _⟩ ?_ ?_
  · rintro i σ G hi ⟨k1, k2, rfl, s1⟩
    have hi' : i < c.length := by omega
    have e1 : c[i]? = some c[i] := List.getElem?_eq_getElem hi'
    obtain ⟨zs1, zv1, zr1⟩ := cz _ (List.mem_of_getElem? e1)
    obtain ⟨x1, hx1, pp⟩ := hc.at e1
    obtain ⟨d1, ds1, dv1, dr1, rfl, hd1, r11, r12, r13⟩ := pp.same s1
    have td := sqt_ty hd1
    have r0 := ok.1 _ (List.mem_of_getElem? e1)
    generalize c[i] = p at e1 pp r11 r12 r13 zs1 zv1 zr1 r0
    have hxg := s1.seq hx
    have i1 : atI xs (0 + (i : Int)) = some (.ref d1) := at_of (j := i) (by omega) hx1
    refine ⟨_, rfl, _, rfl, a, _, _, _, rfl, rfl, hxg, i1, ?_⟩
    refine ⟨_, rfl, _, _, _, _, true, rfl, .ty _, td, kit_ty (by decide +kernel), _, rfl, ifF rfl ?_⟩
    refine ⟨_, rfl, d1, _, rfl, .inr hd1, rfl, _, rfl, ifF rfl ?_⟩
    refine ⟨_, rfl, d1, rfl, ⟨_, hd1⟩, fun D hD => lcAllT (R := fun G v (q : Rat) => Rq K G v q) (R' := fun _ v (_ : Rat) => v = V.bl true) (fun _ _ h => h) some hD hd1 (c := [p.s, p.v, p.r]) (((All2.one r11).snoc r12).snoc r13) (by show 3 ≤ 1000; decide) ?_ ?_⟩
    · intro n x q G' ec rq s2 Y N hY hN
      have zq : Sz 6000 q := by
        match n, ec with
        | 0, h => cases h; exact zs1.mono (by omega)
        | 1, h => cases h; exact zv1.mono (by omega)
        | 2, h => cases h; exact zr1.mono (by omega)
      have rq2 := rq.same s2
      obtain ⟨xa, rfl, hxa⟩ := id rq2
      (walk_at "vk_vc")
      exact hY _ _ q e rfl rfl
    · intro us G2 s2 hD2 hA2
      have hus : us = [.bl true, .bl true, .bl true] := by
        have hA3 : All2 (fun v (_ : Rat) => v = V.bl true) us [p.s, p.v, p.r] := hA2
        have l3 := hA3.1
        match us, l3, hA3 with
        | [u1, u2, u3], _, h =>
          have h1 := h.2 0 u1 p.s rfl rfl
          have h2 := h.2 1 u2 p.v rfl rfl
          have h3 := h.2 2 u3 p.r rfl rfl
          rw [h1, h2, h3]
      subst hus
      have s3 := s1.trans s2
      replace hd1 := s2.sqt hd1
      replace r11 := r11.same s2
      replace r12 := r12.same s2
      replace r13 := r13.same s2
      replace hxg := s2.seq hxg
      obtain ⟨ra, rfl, hra⟩ := id r13
      have np := num_pos r0
      have nr : ¬ p.r.num < 1 := by omega
      have hDx : SqL K G2 D [.bl true, .bl true, .bl true] := SqL.of hD2
      refine ⟨D, _, rfl, .inl hDx, rfl, rfl, _, rfl, ifF rfl ?_⟩
      cases i with
      | zero =>
        (walk_at "vk_vc")
        all_goals first | exact ⟨⟨_, _, rfl, s3⟩⟩
      | succ j =>
        have e0 : c[j]? = some c[j] := List.getElem?_eq_getElem (by omega)
        obtain ⟨zs0, zv0, zr0⟩ := cz _ (List.mem_of_getElem? e0)
        obtain ⟨x0, hx0, pp0⟩ := hc.at e0
        obtain ⟨d0, ds0, dv0, dr0, rfl, hd0, r01, r02, r03⟩ := pp0.same s3
        have lt := ok.2 j _ _ e0 e1
        have nk := ht j _ _ e0 e1
        have pq0 := pp0.same s3
        generalize c[j] = p0 at e0 pp0 r01 r02 r03 zs0 zv0 zr0 lt nk pq0
        have i2 : atI xs (0 + ((j + 1 : Nat) : Int) - 1) = some (.ref d0) := at_of (j := j) (by omega) hx0
        have hk : 0 < 0 + ((j + 1 : Nat) : Int) := by omega
        (walk_at "vk_vc")
        all_goals first | exact ⟨⟨_, _, rfl, Same.trans s3 (by (walk_at "vk_same"))⟩⟩ | exact ⟨⟨_, _, rfl, s3⟩⟩ | (exfalso; refine nk (ky_eq.mpr ⟨by assumption, ?_⟩); rw [jmp_vl]; unfold vl; grind)
  · rintro σ G ⟨k1, k2, rfl, s1⟩
    (walk_at "vk_vc")
    exact z _ s1
end Vk

set_option maxHeartbeats 4000000
namespace Vk
open PySem L2 Vm Vl
variable {l aZERO CB CR CT CV fB fR fT : Addr} {P : Program} {w : World} {K : PySem.W.Frag} {mg : Str → Option Value} {base : Heap} {k : Nat} {f f1 f2 f3 f4 f5 f6 f7 f8 f9 : Addr} {fd fd1 fd2 fd3 fd4 fd5 fd6 fd7 fd8 fd9 : FuncData}
theorem Fb.uniq {c : List Pc} {k k' : Nat} {p q p' q' : Pc} (h : Fb c k p q) (g : Fb c k' p' q') : q = q' := by
  obtain ⟨a1, a2, a3, a4⟩ := h
  obtain ⟨b1, b2, b3, b4⟩ := g
  rcases Nat.lt_trichotomy k k' with lt | rfl | lt
  · have := b4 k p q lt a1 a2; grind
  · rw [a2] at b2; cases b2; rfl
  · have := a4 k' p' q' lt b1 b2; grind
theorem Fb.not {c : List Pc} {k : Nat} {p q : Pc} (h : Fb c k p q) : ¬ NB c := fun nb => by
  have := nb k p q h.1 h.2.1
  have := h.2.2.1
  grind
/-- what is due of a chain -/
def Du (K : PySem.W.Frag) (H : Hp) (c o : List Pc) (p0 : Pc) (tt : Addr) : Prop := (∃ k p q y, Fb c k p q ∧ SqT K H tt [.str "TurnsBack", y] ∧ Rq K H y q.s) ∨ (NB c ∧ pcAt o p0.v = none ∧ ∃ y, SqT K H tt [.str "BeforeStart", y] ∧ Rq K H y p0.v) ∨ (NB c ∧ (∃ g, pcAt o p0.v = some g) ∧ SqT K H tt [])
abbrev s__law_due : Stmt := top 52
abbrev N__law_due : List Str := ["_law_inner", "_law_outer", "_law_k"]
theorem sc__law_due : FnScope N__law_due ["_law_inner", "_law_outer"] (defScope s__law_due) := ⟨rfl, rfl, rfl, by decide +kernel, rfl, by decide +kernel, by decide +kernel⟩
abbrev ps__law_due : List Str := ["_law_inner", "_law_outer"]
def spDue (K : PySem.W.Frag) : Sp := fun vs H Q _ => ∃ (a b : Addr) (c o : List Pc) (p0 : Pc) (i j m i' j' m' : Nat), vs = [.ref a, .ref b] ∧ Cq K H a c ∧ Cq K H b o ∧ Cok o ∧ Cz i j m c ∧ Cz i' j' m' o ∧ c[0]? = some p0 ∧ 1 ≤ o.length ∧ c.length ≤ 400 ∧ i + i' + j + j' + m + m' + 10 ≤ 1800 ∧
  ∀ tt H', Same H H' → Du K H' c o p0 tt → Q (.ref tt) H'
theorem ok_due (T : Bn mg) (F : Fn K mg "_law_due" s__law_due ps__law_due f fd) (d_law_below : Def P w K mg base k "_law_below" ["_law_a", "_law_b"] (spTest2 K fun p q => .bl (decide (p < q))) f2 fd2) (d_law_line : Def P w K mg base k "_law_line" ["_law_piece", "_law_t"] (spShown K) f3 fd3) :
    Def P w K mg base (k + 1) "_law_due" ps__law_due (spDue K) f fd := by
  refine ⟨F.F.ok sc__law_due (fun vs H Q E h => ?_) (fun cdv A outer s H vs Q E hr h => ?_), F.m, F.F.kp, F.b⟩
  · obtain ⟨_, _, _, _, _, _, _, _, _, _, _, rfl, _⟩ := h
    rfl
  obtain ⟨ac, ao, c, o, p0, i, j, m, i', j', m', rfl, hC, hO, oko, cz, co, e0, lo1, lc, hb, z⟩ := h
  obtain ⟨xs, hxs, hc⟩ := id hC
  obtain ⟨os, hos, ho⟩ := id hO
  have hlx := hc.1
  have hlo := ho.1
  have lc1 : 1 ≤ c.length := by have := (List.getElem?_eq_some_iff.mp e0).1; omega
  obtain ⟨x0, hx0, pq0⟩ := hc.at e0
  obtain ⟨zs0, zv0, zr0⟩ := cz _ (List.mem_of_getElem? e0)
  have i0x : atI xs 0 = some x0 := at0 hx0
  have f0 : o[0]? = some o[0] := List.getElem?_eq_getElem (by omega)
  obtain ⟨y0, hy0, po0⟩ := ho.at f0
  obtain ⟨zt0, zw0, zq0⟩ := co _ (List.mem_of_getElem? f0)
  have i0y : atI os 0 = some y0 := at0 hy0
  have first := pcAt_first oko f0 (t := p0.v)
  generalize o[0] = q0 at f0 po0 zt0 zw0 zq0 first
  refine ⟨_, (pss_cons (ps_for PassesOwn.never rfl (pi_range2 (by rfl) T.range_ (pa_cons pe_int (pa_cons (pe_callB call_len_seq (by rfl) T.len_ PySem.boot_len (pa_cons (pv 0) pa_nil)) pa_nil))) (pg_name (i := 2) sc__law_due.nd rfl (Or.inl rfl))
        (pss_one (ps_if (pt_val (pcall d_law_below hr (pa_cons (pe_ix ix_tup (pe_ix ix_list (pv 0) (pv 2) (fun _ _ => rfl)) pe_int (fun _ _ => rfl)) (pa_cons (pcall d_law_line hr (pa_cons (pe_ix ix_list (pv 0) (pe_op op_sub (pv 2) pe_int) (fun _ _ => rfl)) (pa_cons (pe_ix ix_tup (pe_ix ix_list (pv 0) (pv 2) (fun _ _ => rfl)) pe_int (fun _ _ => rfl)) pa_nil))) pa_nil))))
          (pss_one (ps_ret (pe_tup (pa_cons pe_str (pa_cons (pe_ix ix_tup (pe_ix ix_list (pv 0) (pv 2) (fun _ _ => rfl)) pe_int (fun _ _ => rfl)) pa_nil)))))
          pss_nil)))
      (pss_cons (ps_if (pt_val (pcall d_law_below hr (pa_cons (pe_ix ix_tup (pe_ix ix_list (pv 0) pe_int (fun _ _ => rfl)) pe_int (fun _ _ => rfl)) (pa_cons (pe_ix ix_tup (pe_ix ix_list (pv 1) pe_int (fun _ _ => rfl)) pe_int (fun _ _ => rfl)) pa_nil))))
        (pss_one (ps_ret (pe_tup (pa_cons pe_str (pa_cons (pe_ix ix_tup (pe_ix ix_list (pv 0) pe_int (fun _ _ => rfl)) pe_int (fun _ _ => rfl)) pa_nil)))))
        pss_nil)
      (pss_one (ps_ret (pe_tup pa_nil))))), ?_⟩
  have p62 : (2 : Int) ^ 62 = 4611686018427387904 := by decide
  (walk_at "vk_vc")
  refine forR (lo := 1) (n := (((xs.length : Nat) : Int) - 1).toNat) (fun i σ G => Hold (∃ k2, σ = [some (.ref ac), some (.ref ao), k2] ∧ Same H G ∧ ∀ (m : Nat) (x y : Pc), m < i → c[m]? = some x → c[m + 1]? = some y → vl y.s x ≤ y.v)) ⟨none, rfl, Same.refl _, fun m _ _ h => absurd h (Nat.not_lt_zero _)⟩ ?_ ?_
  · rintro n σ G hi ⟨k2, rfl, s1, before⟩
    have hi1 : n + 1 < c.length := by omega
    have ep : c[n]? = some c[n] := List.getElem?_eq_getElem (by omega)
    have eq : c[n + 1]? = some c[n + 1] := List.getElem?_eq_getElem hi1
    obtain ⟨x1, hx1, pp⟩ := hc.at ep
    obtain ⟨x2, hx2, pq⟩ := hc.at eq
    obtain ⟨zs1, zv1, zr1⟩ := cz _ (List.mem_of_getElem? ep)
    obtain ⟨zs2, zv2, zr2⟩ := cz _ (List.mem_of_getElem? eq)
    have pp1 := pp.same s1
    obtain ⟨d1, ds1, dv1, dr1, rfl, hd1, r11, r12, r13⟩ := id pp1
    obtain ⟨d2, ds2, dv2, dr2, rfl, hd2, r21, r22, r23⟩ := pq.same s1
    generalize c[n] = pa at ep pp r11 r12 r13 zs1 zv1 zr1 pp1
    generalize c[n + 1] = pb at eq r21 r22 r23 zs2 zv2 zr2
    have hxg : SqL K G ac xs := s1.seq hxs
    have i1 : atI xs (1 + (n : Int) - 1) = some (.ref d1) := at_of (j := n) (by omega) hx1
    have i2 : atI xs (1 + (n : Int)) = some (.ref d2) := at_of (j := n + 1) (by omega) hx2
    have zl : Sz (j + (m + (i + i + 1)) + 1) (pa.v + pa.r * (pb.s - pa.s)) := zv1.add (zr1.mul (zs2.sub zs1))
    (walk_at "vk_vc")
    · exact z _ _ (Same.trans s1 (by (walk_at "vk_same"))) (.inl ⟨n, pa, pb, ds2, ⟨ep, eq, (by assumption : pb.v < pa.v + pa.r * (pb.s - pa.s)), before⟩, SqT.of upd_same, by (walk_at "vk_cl")⟩)
    · refine ⟨⟨_, rfl, Same.trans s1 (by (walk_at "vk_same")), fun m x y hm hx hy => ?_⟩⟩
      by_cases g : m = n
      · subst g
        rw [ep] at hx
        rw [eq] at hy
        cases hx
        cases hy
        have h : ¬ pb.v < pa.v + pa.r * (pb.s - pa.s) := by assumption
        unfold vl
        grind
      · exact before m x y (by omega) hx hy
  · rintro σ G ⟨k2, rfl, s1, before⟩
    have nb : NB c := fun n x y hx hy => before n x y (by have := (List.getElem?_eq_some_iff.mp hy).1; omega) hx hy
    obtain ⟨d0, ds0, dv0, dr0, rfl, hd0, r01, r02, r03⟩ := pq0.same s1
    obtain ⟨g0, gs0, gv0, gr0, rfl, hg0, s01, s02, s03⟩ := po0.same s1
    have hxg := s1.seq hxs
    have hyg := s1.seq hos
    (walk_at "vk_vc")
    · exact z _ _ (Same.trans s1 (by (walk_at "vk_same"))) (.inr (.inl ⟨nb, first.mpr (by assumption), dv0, SqT.of upd_same, by (walk_at "vk_cl")⟩))
    · refine z _ _ (Same.trans s1 (by (walk_at "vk_same"))) (.inr (.inr ⟨nb, ?_, SqT.of upd_same⟩))
      cases e : pcAt o p0.v with
      | some g => exact ⟨g, rfl⟩
      | none => exact absurd (first.mp e) (by assumption)
end Vk

set_option maxHeartbeats 4000000
namespace Vk
open PySem L2 Vm Vl
variable {l aZERO CB CR CT CV fB fR fT : Addr} {P : Program} {w : World} {K : PySem.W.Frag} {mg : Str → Option Value} {base : Heap} {k : Nat} {f f1 f2 f3 f4 f5 f6 f7 f8 f9 : Addr} {fd fd1 fd2 fd3 fd4 fd5 fd6 fd7 fd8 fd9 : FuncData}
theorem lastsRq : Lasts (Rq K) := fun e hs h => h.fr e hs
abbrev s__law_bends : Stmt := top 53
abbrev N__law_bends : List Str := ["_law_inner", "_law_outer", "_law_times_here", "_law_piece", "_law_k", "_law_t"]
theorem sc__law_bends : FnScope N__law_bends ["_law_inner", "_law_outer"] (defScope s__law_bends) := ⟨rfl, rfl, rfl, by decide +kernel, rfl, by decide +kernel, by decide +kernel⟩
abbrev ps__law_bends : List Str := ["_law_inner", "_law_outer"]
def spBends (K : PySem.W.Frag) : Sp := fun vs H Q _ => ∃ (a b : Addr) (c o : List Pc) (p0 : Pc) (i j m i' j' m' B : Nat), vs = [.ref a, .ref b] ∧ Cq K H a c ∧ Cq K H b o ∧ Cok c ∧ Cz i j m c ∧ Cz i' j' m' o ∧ c[0]? = some p0 ∧ c.length ≤ 400 ∧ c.length * (o.length + 1) ≤ 800 ∧ i + i' + j + j' + m + m' + 10 ≤ 1800 ∧ i + i' + j + m + 2 ≤ B ∧
  ∀ D us os H', Same H H' → H D = none → H' D = some (.lst us) → All2 (Rq K H') us os → (∀ t ∈ os, ¬ t < p0.s ∧ Sz B t) → 1 ≤ os.length → os.length ≤ c.length * (o.length + 1) → Q (.ref D) H'
theorem ok_bends (T : Bn mg) (F : Fn K mg "_law_bends" s__law_bends ps__law_bends f fd) (d_law_plus : Def P w K mg base k "_law_plus" ["_law_a", "_law_b"] (spOp2 K (· + ·)) f1 fd1) (d_law_over : Def P w K mg base k "_law_over" ["_law_a", "_law_b"] (spDiv K) f2 fd2)
    (d_law_minus : Def P w K mg base k "_law_minus" ["_law_a", "_law_b"] (spOp2 K (· - ·)) f3 fd3) (d_law_place : Def P w K mg base k "_law_place" ["_law_course_here", "_law_t"] (spLP K) f4 fd4) : Def P w K mg base (k + 1) "_law_bends" ps__law_bends (spBends K) f fd := by
  refine ⟨F.F.ok sc__law_bends (fun vs H Q E h => ?_) (fun cdv A outer s H vs Q E hr h => ?_), F.m, F.F.kp, F.b⟩
  · obtain ⟨_, _, _, _, _, _, _, _, _, _, _, _, rfl, _⟩ := h
    rfl
  obtain ⟨ac, ao, c, o, p0, i, j, m, i', j', m', B, rfl, hC, hO, okc, cz, co, e0, lc, lp, hb, hB, z⟩ := h
  obtain ⟨xs, hxs, hc⟩ := id hC
  obtain ⟨os, hos, ho⟩ := id hO
  have hlx := hc.1
  have hlo := ho.1
  have lc1 : 1 ≤ c.length := by have := (List.getElem?_eq_some_iff.mp e0).1; omega
  refine ⟨_, (pss_cons (ps_setLc (i := 2) (own := [("_law_piece", 3)]) (g := gName 3) (tt := tYes) rfl sc__law_bends.nd rfl rfl (sw_true rfl rfl rfl (by decide +kernel)) (pi_list (pv 0)) (blkOk_by (N := N__law_bends) (sc := defScope s__law_bends) (by decide +kernel)) (fun _ _ _ _ _ => pg_name (i := 3) sc__law_bends.nd rfl (Or.inl rfl)) (fun _ _ _ _ _ => pts_nil) (fun _ _ _ _ _ => (pe_ix (show IxR _ (rIxT K) from ix_tup) (pv 3) pe_int (fun _ _ => rfl))))
      (pss_cons (ps_for PassesOwn.never rfl (pi_range1 (by rfl) T.range_ (pa_cons (pe_callB call_len_seq (by rfl) T.len_ PySem.boot_len (pa_cons (pv 0) pa_nil)) pa_nil)) (pg_name (i := 4) sc__law_bends.nd rfl (Or.inl rfl))
        (pss_one (ps_for PassesOwn.never rfl (pi_list (pv 1)) (pg_name (i := 3) sc__law_bends.nd rfl (Or.inl rfl))
          (pss_cons (ps_set (i := 5) sc__law_bends.nd rfl (Or.inl rfl) (pcall d_law_plus hr (pa_cons (pe_ix ix_tup (pe_ix ix_list (pv 0) (pv 4) (fun _ _ => rfl)) pe_int (fun _ _ => rfl)) (pa_cons (pcall d_law_over hr (pa_cons (pcall d_law_minus hr (pa_cons (pe_ix ix_tup (pv 3) pe_int (fun _ _ => rfl)) (pa_cons (pe_ix ix_tup (pe_ix ix_list (pv 0) (pv 4) (fun _ _ => rfl)) pe_int (fun _ _ => rfl)) pa_nil))) (pa_cons (pe_ix ix_tup (pe_ix ix_list (pv 0) (pv 4) (fun _ _ => rfl)) pe_int (fun _ _ => rfl)) pa_nil))) pa_nil))))
          (pss_one (ps_if (pt_cmpR op_eq (pcall d_law_place hr (pa_cons (pv 0) (pa_cons (pv 5) pa_nil))) (pv 4) (nomark _))
            (pss_one (ps_expr (pe_bm PySem.F.plainAttrs_list PySem.F.slot_list_append PySem.F.type_list_append mt_append (pv 2) (pa_cons (pv 5) pa_nil))))
            pss_nil))))))
      (pss_one (ps_ret (pv 2))))), ?_⟩
  have p62 : (2 : Int) ^ 62 = 4611686018427387904 := by decide
  have x62 : ((xs.length : Nat) : Int) < 2 ^ 62 := by omega
  (walk_at "vk_vc")
  rename Addr => D
  rename H D = none => nD
  refine lcAll (R := Pq K) (R' := Rq K) lastsRq (fun p => some p.s) nD hxs hc (by omega) ?_ ?_
  · intro n y p G ec pq s1 Y N hY hN
    obtain ⟨d, ds, dv, dr, rfl, hd, r1, r2, r3⟩ := pq.same s1
    (walk_at "vk_vc")
    exact hY _ _ p.s (Same.refl _) rfl r1
  · intro us0 G0 s0 hD0 hA0
    have ee : ∀ c : List Pc, c.filterMap (fun p => some p.s) = c.map (·.s) := fun c => by
      induction c with
      | nil => rfl
      | cons a c ih => rw [List.filterMap_cons, ih]; rfl
    rw [ee] at hA0
    have gw0 : Gw (Rq K) H D us0 (c.map (·.s)) G0 := ⟨nD, s0, hD0, hA0⟩
    have all0 : ∀ t ∈ c.map (·.s), ¬ t < p0.s ∧ Sz B t := fun t ht => by
      obtain ⟨p, hp, rfl⟩ := List.mem_map.mp ht
      refine ⟨?_, (cz p hp).1.mono (by omega)⟩
      obtain ⟨n, hn⟩ := List.mem_iff_getElem?.mp hp
      by_cases g : n = 0
      · subst g; rw [e0] at hn; cases hn; exact Rat.lt_irrefl
      · have := cok_lt okc (show 0 < n by omega) e0 hn; grind
    have hC0 := hC.same s0
    have hx0 := s0.seq hxs
    (walk_at "vk_vc")
    refine forR (lo := 0) (n := ((xs.length : Nat) : Int).toNat) (fun n σ G => Hold (∃ us ts k3 k4 k5, σ = [some (.ref ac), some (.ref ao), some (.ref D), k3, k4, k5] ∧ Gw (Rq K) H D us ts G ∧ (∀ t ∈ ts, ¬ t < p0.s ∧ Sz B t) ∧ 1 ≤ ts.length ∧ ts.length ≤ c.length + n * o.length)) ⟨us0, _, _, _, _, rfl, gw0, all0, by rw [List.length_map]; exact lc1, by rw [List.length_map]; omega⟩ ?_ ?_
    · rintro n σ G hi ⟨us, ts, k3, k4, k5, rfl, gw, all, t1, t2⟩
      have hn : n < c.length := by omega
      have ep : c[n]? = some c[n] := List.getElem?_eq_getElem hn
      obtain ⟨zs1, zv1, zr1⟩ := cz _ (List.mem_of_getElem? ep)
      have rp := okc.1 _ (List.mem_of_getElem? ep)
      obtain ⟨x1, hx1, pp⟩ := hc.at ep
      generalize c[n] = pa at ep pp zs1 zv1 zr1 rp
      have i1 : atI xs (0 + (n : Int)) = some x1 := at_of (j := n) (by omega) hx1
      have hyg := gw.same.seq hos
      (walk_at "vk_vc")
      refine forL (K := K) (a := ao) (xs := os) (fun q σ G => Hold (∃ us ts k3 k5, σ = [some (.ref ac), some (.ref ao), some (.ref D), k3, some (.int (0 + (n : Int))), k5] ∧ Gw (Rq K) H D us ts G ∧ (∀ t ∈ ts, ¬ t < p0.s ∧ Sz B t) ∧ 1 ≤ ts.length ∧ ts.length ≤ c.length + n * o.length + q)) ⟨us, ts, k3, k5, rfl, gw, all, t1, t2⟩ (fun q σ G _ h => by obtain ⟨_, _, _, _, _, gw, _⟩ := h; exact gw.same.seq hos) ?_ ?_
      · rintro q x σ G hx ⟨us, ts, k3, k5, rfl, gw, all, t1, t2⟩
        have hq : q < o.length := by have := (List.getElem?_eq_some_iff.mp hx).1; omega
        have eo : o[q]? = some o[q] := List.getElem?_eq_getElem hq
        obtain ⟨zt1, zw1, zq1⟩ := co _ (List.mem_of_getElem? eo)
        obtain ⟨g1, gs, gv, gr, rfl, hg1, s11, s12, s13⟩ := (ho.2 q x _ hx eo).same gw.same
        obtain ⟨d1, ds1, dv1, dr1, rfl, hd1, r11, r12, r13⟩ := pp.same gw.same
        generalize o[q] = pb at eo zt1 zw1 zq1 s11 s12 s13
        have hxg := gw.same.seq hxs
        have hCg := hC.same gw.same
        have hraw := gw.at_
        have tyD : tyV K "list" (.ref D) G := .inl ⟨rfl, _, SqL.of hraw⟩
        have zd : Sz (i' + j + 1 + m) ((pb.s - pa.v) / pa.r) := (zt1.sub zv1).div zr1 rp
        have zt : Sz (i + (i' + j + 1 + m) + 1) (pa.s + (pb.s - pa.v) / pa.r) := zs1.add zd
        have hul := gw.all.1
        have m1 : n * o.length + o.length ≤ c.length * (o.length + 1) := by
          have : (n + 1) * o.length ≤ c.length * (o.length + 1) := Nat.mul_le_mul (by omega) (by omega)
          rw [Nat.succ_mul] at this
          exact this
        (walk_at "vk_vc")
        · have hlen : 0 < (c.filter (on (pa.s + (pb.s - pa.v) / pa.r))).length := by
            have e9 : V.int (((c.filter (on (pa.s + (pb.s - pa.v) / pa.r))).length : Int) - 1) = V.int (0 + (n : Int)) := by assumption
            have := V.int.inj e9
            omega
          have nlt : ¬ pa.s + (pb.s - pa.v) / pa.r < p0.s := fun lt => by
            obtain ⟨g, _, hg, _⟩ := pcAt_at hlen
            rw [(pcAt_first okc e0).mpr lt] at hg
            cases hg
          refine appGw (R := Rq K) (q := pa.s + (pb.s - pa.v) / pa.r) lastsRq (gw.go lastsRq (by (walk_at "vk_same"))) (by (walk_at "vk_cl")) (by have : sizeLine = 16777216 := sizeLine_eq; omega) fun gw2 fr2 => ?_
          refine ⟨⟨_, _, _, _, rfl, gw2, fun t ht => ?_, by rw [List.length_append]; omega, by rw [List.length_append]; show ts.length + 1 ≤ _; omega⟩⟩
          rcases List.mem_append.mp ht with ht | ht
          · exact all t ht
          · rw [List.mem_singleton.mp ht]
            exact ⟨nlt, zt.mono (by omega)⟩
        · exact ⟨⟨us, ts, _, _, rfl, gw.go lastsRq (by (walk_at "vk_same")), all, t1, by omega⟩⟩
      · rintro σ G ⟨us, ts, k3, k5, rfl, gw, all, t1, t2⟩
        refine ⟨⟨us, ts, _, _, _, rfl, gw, all, t1, by rw [Nat.succ_mul]; omega⟩⟩
    · rintro σ G ⟨us, ts, k3, k4, k5, rfl, gw, all, t1, t2⟩
      have m1 : c.length + c.length * o.length ≤ 800 := by rw [Nat.mul_add, Nat.mul_one] at lp; omega
      rw [show ((xs.length : Nat) : Int).toNat = c.length by omega] at t2
      exact ⟨_, rfl, z D us ts G gw.same gw.fresh gw.at_ gw.all all t1 (by rw [Nat.mul_add, Nat.mul_one]; omega)⟩
end Vk

set_option maxHeartbeats 4000000
namespace Vk
open PySem L2 Vm Vl
variable {l aZERO CB CR CT CV fB fR fT : Addr} {P : Program} {w : World} {K : PySem.W.Frag} {mg : Str → Option Value} {base : Heap} {k : Nat} {f f1 f2 f3 f4 f5 f6 f7 f8 f9 : Addr} {fd fd1 fd2 fd3 fd4 fd5 fd6 fd7 fd8 fd9 : FuncData}
def spOrdN (K : PySem.W.Frag) : Sp := fun vs H Q _ => ∃ (a : Addr) (xs : List V) (qs : List Rat), vs = [.ref a] ∧ SqL K H a xs ∧ All2 (Rq K H) xs qs ∧ (∀ q ∈ qs, Sz 3000 q) ∧ qs.length ≤ 900 ∧
  ∀ D us os H', Same H H' → H D = none → H' D = some (.lst us) → All2 (Rq K H') us os → Asc os → (∀ o ∈ os, o ∈ qs) → os.length ≤ qs.length → (qs ≠ [] → os ≠ []) → Q (.ref D) H'
theorem ok_ordN (T : Bn mg) (F : Fn K mg "_law_ordered" s__law_ordered ps__law_ordered f fd) (d_law_below : Def P w K mg base k "_law_below" ["_law_a", "_law_b"] (spTest2 K fun p q => .bl (decide (p < q))) f1 fd1) :
    Def P w K mg base (k + 1) "_law_ordered" ps__law_ordered (spOrdN K) f fd := by
  refine ⟨F.F.ok sc__law_ordered (fun vs H Q E h => ?_) (fun cdv A outer s H vs Q E hr h => ?_), F.m, F.F.kp, F.b⟩
  · obtain ⟨_, _, _, rfl, _⟩ := h
    rfl
  obtain ⟨a, xs, qs, rfl, hx, hq, zq, hl, z⟩ := h
  refine ⟨_, (pss_cons (ps_set (i := 1) sc__law_ordered.nd rfl (Or.inl rfl) (pe_lst pa_nil))
      (pss_cons (ps_for PassesOwn.never rfl (pi_list (pv 0)) (pg_name (i := 2) sc__law_ordered.nd rfl (Or.inl rfl))
        (pss_cons (ps_set (i := 3) sc__law_ordered.nd rfl (Or.inl rfl) pe_int)
        (pss_cons (ps_for PassesOwn.never rfl (pi_range1 (by rfl) T.range_ (pa_cons (pe_callB call_len_seq (by rfl) T.len_ PySem.boot_len (pa_cons (pv 1) pa_nil)) pa_nil)) (pg_name (i := 4) sc__law_ordered.nd rfl (Or.inl rfl))
          (pss_one (ps_if (pt_val (pcall d_law_below hr (pa_cons (pe_ix ix_list (pv 1) (pv 4) (fun _ _ => rfl)) (pa_cons (pv 2) pa_nil))))
            (pss_one (ps_set (i := 3) sc__law_ordered.nd rfl (Or.inl rfl) (pe_op op_add (pv 4) pe_int)))
            pss_nil)))
        (pss_one (ps_if (PW.pt (pw_or (pt_cmpR op_eq (pv 3) (pe_callB call_len_seq (by rfl) T.len_ PySem.boot_len (pa_cons (pv 1) pa_nil)) (nomark _)) (pw_or1 (pt_cmpR (op_neD hr.units) (pe_ix ix_list (pv 1) (pv 3) (fun _ _ => rfl)) (pv 2) (nomark _)))))
          (pss_one (ps_expr (pe_bm PySem.F.plainAttrs_list PySem.F.slot_list_insert PySem.F.type_list_insert mt_insert (pv 1) (pa_cons (pv 3) (pa_cons (pv 2) pa_nil)))))
          pss_nil)))))
      (pss_one (ps_ret (pv 1))))), ?_⟩
  have p62 : (2 : Int) ^ 62 = 4611686018427387904 := by decide
  have p63 : (2 : Int) ^ 63 = 9223372036854775808 := by decide
  refine ⟨Nat.zero_le _, fun D hD => ?_⟩
  refine ⟨_, rfl, a, rfl, ⟨_, (same_new hD _).seq hx⟩, for_list (K := K) (a := a) (xs := xs) (fun i σ G => ∃ (us : List V) (os : List Rat) (k1 k2 k3 : Option V), σ = [some (.ref a), some (.ref D), k1, k2, k3] ∧ Same H G ∧ G D = some (.lst us) ∧ All2 (Rq K G) us os ∧ Asc os ∧ (∀ o ∈ os, o ∈ qs) ∧ os.length ≤ i ∧ (0 < i → os ≠ []))
    ⟨[], [], none, none, none, rfl, same_new hD _, upd_same, All2.nil, List.Pairwise.nil, nofun, Nat.le_refl _, fun h => absurd h (by omega)⟩ (fun i σ G _ h => by obtain ⟨_, _, _, _, _, _, s1, _⟩ := h; exact s1.seq hx) ?_ ?_⟩
  · rintro i x σ G hxi ⟨us, os, k1, k2, k3, rfl, s1, hD1, hA, asc, sub, ln, _⟩
    have hi : i < qs.length := by rw [← hq.1]; exact (List.getElem?_eq_some_iff.mp hxi).1
    have hqi : qs[i]? = some qs[i] := List.getElem?_eq_getElem hi
    have hmem : qs[i] ∈ qs := List.getElem_mem hi
    have rx := (hq.2 i x _ hxi hqi).same s1
    obtain ⟨one, eo⟩ : ∃ o, o = qs[i] := ⟨_, rfl⟩
    rw [← eo] at rx hmem
    have zo := zq one hmem
    have zos : ∀ o ∈ os, Sz 3000 o := fun o ho => zq o (sub o ho)
    have hal := hA.1
    refine ⟨_, rfl, D, _, rfl, .inl (SqL.of hD1), _, rfl, by omega, by omega, for_range (n := ((us.length : Nat) : Int).toNat) (fun j σ G' => ∃ (m : Nat) (k3 : Option V), σ = [some (.ref a), some (.ref D), some x, some (.int m), k3] ∧ G' = G ∧ Spot os one j m)
      ⟨0, k3, rfl, rfl, Nat.le_refl _, fun t o h => absurd h (by omega)⟩ ?_ ?_⟩
    · rintro j σ G' hj ⟨m, k3, rfl, rfl, sp⟩
      have hj' : j < os.length := by omega
      have hoj : os[j]? = some os[j] := List.getElem?_eq_getElem hj'
      obtain ⟨y, hy, ry⟩ := hA.at hoj
      have sn := spot_next asc sp hoj
      refine ⟨_, rfl, _, rfl, D, _, _, y, rfl, rfl, SqL.of hD1, at_of (j := j) (by omega) hy, _, rfl, _, _, os[j], one, 3000, 3000, rfl, ry, rx, zos _ (List.getElem_mem hj'), zo, by decide, _, rfl, ifD (fun g => ?_) (fun g => ?_)⟩
      · rw [if_pos g] at sn
        refine ⟨_, rfl, _, _, rfl, rfl, j + 1, some (.int (0 + (j : Int))), ?_, rfl, sn⟩
        show [some (V.ref a), some (V.ref D), some x, some (V.int (0 + (j : Int) + 1)), some (V.int (0 + (j : Int)))] = _
        rw [show (0 + (j : Int) + 1) = ((j + 1 : Nat) : Int) by omega]
      · rw [if_neg g] at sn
        exact ⟨m, _, rfl, rfl, sn⟩
    · rintro σ G' ⟨m, k3, rfl, rfl, sp⟩
      have sp : Spot os one os.length m := by
        have e : ((us.length : Nat) : Int).toNat = os.length := by omega
        rw [e] at sp
        exact sp
      have hm := sp.1
      have put : os[m]? ≠ some one → ∃ (us' : List V) (os' : List Rat) (k1 k2 k3' : Option V), [some (.ref a), some (.ref D), some x, some (.int m), k3] = [some (.ref a), some (.ref D), k1, k2, k3'] ∧ Same H (upd G' D (.lst (us.take m ++ [x] ++ us.drop m))) ∧ (upd G' D (.lst (us.take m ++ [x] ++ us.drop m))) D = some (.lst us') ∧
          All2 (Rq K (upd G' D (.lst (us.take m ++ [x] ++ us.drop m)))) us' os' ∧ Asc os' ∧ (∀ o ∈ os', o ∈ qs) ∧ os'.length ≤ i + 1 ∧ (0 < i + 1 → os' ≠ []) := fun hn => by
        have fr : Fr D G' (upd G' D (.lst (us.take m ++ [x] ++ us.drop m))) := Fr.upd _
        have hA' := hA.imp fun _ _ h => Rq.fr fr ⟨_, hD1⟩ h
        refine ⟨_, os.take m ++ [one] ++ os.drop m, _, _, _, rfl, same_upd s1 hD _, upd_same, ((hA'.take m).append (All2.one (rx.fr fr ⟨_, hD1⟩))).append (hA'.drop m), asc_insert asc sp hn, fun o ho => ?_, ?_, fun _ e => ?_⟩
        · rcases List.mem_append.mp ho with ho | ho
          · rcases List.mem_append.mp ho with ho | ho
            · exact sub o (List.mem_of_mem_take ho)
            · rw [List.mem_singleton.mp ho]
              exact hmem
          · exact sub o (List.mem_of_mem_drop ho)
        · rw [List.length_append, List.length_append, List.length_take, List.length_drop, List.length_singleton]
          omega
        · have := congrArg List.length e
          rw [List.length_append, List.length_append, List.length_singleton, List.length_nil] at this
          omega
      refine ⟨_, rfl, _, rfl, D, _, rfl, .inl (SqL.of hD1), rfl, _, rfl, ifD (fun g => ifT rfl ?_) (fun g => ?_)⟩
      · have g' := V.int.inj g
        have hn : os[m]? ≠ some one := by rw [List.getElem?_eq_none (by omega)]; exact nofun
        exact ⟨_, rfl, .inl ⟨rfl, _, SqL.of hD1⟩, _, rfl, _, rfl, D, _, _, _, rfl, rfl, hD1, le1000 (by omega), by omega, by omega, put hn⟩
      · have g' : m ≠ us.length := fun e => g (by rw [e])
        have hmo : os[m]? = some os[m] := List.getElem?_eq_getElem (by omega)
        obtain ⟨y, hy, ry⟩ := hA.at hmo
        refine ⟨_, rfl, _, rfl, D, _, _, y, rfl, rfl, SqL.of hD1, at_of (j := m) rfl hy, _, rfl, _, _, ry.dp, rx.dp, sh_dq _, sh_dq _, _, rfl, ?_⟩
        rw [eqv_dq]
        by_cases e : os[m] = one
        · refine ifF (by rw [dT e]; rfl) ⟨us, os, _, _, _, rfl, s1, hD1, hA, asc, sub, by omega, fun _ z => ?_⟩
          have z2 := congrArg List.length z
          rw [List.length_nil] at z2
          omega
        · refine ifT (by rw [dF e]; rfl) ?_
          have hn : os[m]? ≠ some one := by rw [hmo]; exact fun z => e (Option.some.inj z)
          exact ⟨_, rfl, .inl ⟨rfl, _, SqL.of hD1⟩, _, rfl, _, rfl, D, _, _, _, rfl, rfl, hD1, le1000 (by omega), by omega, by omega, put hn⟩
  · rintro σ G ⟨us, os, k1, k2, k3, rfl, s1, hD1, hA, asc, sub, ln, ne⟩
    rw [hq.1] at ln
    refine ⟨_, rfl, z D us os G s1 hD hD1 hA asc sub ln fun e => ne ?_⟩
    rw [hq.1]
    exact List.length_pos_iff.mpr e
/-- the place in a course, its piece, its line -/
theorem at_place {H : Hp} {xs : List V} {c : List Pc} {t y : Rat} (hc : All2 (Pq K H) xs c) (ok : Cok c) (h : nowf c t = some y) : ∃ x p, atI xs (((c.filter (on t)).length : Int) - 1) = some x ∧ Pq K H x p ∧ p ∈ c ∧ vl t p = y := by
  unfold nowf at h
  obtain ⟨p, hp, rfl⟩ := Option.map_eq_some_iff.mp h
  have hl : 0 < (c.filter (on t)).length := List.length_pos_of_mem (List.mem_of_getLast? hp)
  obtain ⟨p', hm, e, ei⟩ := pcAt_at hl
  have e2 : pcAt c t = some p := hp
  rw [e2] at e
  cases e
  obtain ⟨x, hx, pq⟩ := hc.at (ei ok)
  exact ⟨x, p, at_of (j := (c.filter (on t)).length - 1) (by omega) hx, pq, hm, rfl⟩
abbrev s__law_chain_ok : Stmt := top 54
abbrev N__law_chain_ok : List Str := ["_law_told", "_law_inner", "_law_outer", "_law_times_here", "_law_piece", "_law_k", "_law_beyond", "_law_t", "_law_value", "_law_due_here"]
theorem sc__law_chain_ok : FnScope N__law_chain_ok ["_law_told", "_law_inner", "_law_outer"] (defScope s__law_chain_ok) := ⟨rfl, rfl, rfl, by decide +kernel, rfl, by decide +kernel, by decide +kernel⟩
abbrev ps__law_chain_ok : List Str := ["_law_told", "_law_inner", "_law_outer"]
def spChainOk (K : PySem.W.Frag) : Sp := fun vs H Q _ => ∃ (d a b : Addr) (us : List V) (c o : List Pc) (p0 : Pc) (i j m i' j' m' n1 n2 n3 : Nat), vs = [.ref d, .ref a, .ref b] ∧ Ct K H d us (tl (ch o c)) ∧ Cq K H a c ∧ Cq K H b o ∧ Cok c ∧ Cok o ∧ NB c ∧ (∃ g, pcAt o p0.v = some g) ∧ Cz i j m c ∧ Cz i' j' m' o ∧ Cz n1 n2 n3 (ch o c) ∧ c[0]? = some p0 ∧ c.length ≤ 400 ∧ o.length ≤ 400 ∧ c.length * (o.length + 1) ≤ 400 ∧
  i + i' + j + m + 2 ≤ 1720 ∧ n1 ≤ 1720 ∧ n2 ≤ 1720 ∧ n3 ≤ 100 ∧ i ≤ 400 ∧ j ≤ 1450 ∧ m ≤ 50 ∧ i' ≤ 700 ∧ j' ≤ 1000 ∧ m' ≤ 50 ∧ i + i' + j + j' + m + m' + 10 ≤ 1800 ∧ ∀ H', Same H H' → Q (.bl true) H'
theorem ok_chain_ok (T : Bn mg) (F : Fn K mg "_law_chain_ok" s__law_chain_ok ps__law_chain_ok f fd) (d_law_is_tidy : Def P w K mg base k "_law_is_tidy" ["_law_value"] (spIsT2 K) f1 fd1) (d_law_ordered : Def P w K mg base k "_law_ordered" ["_law_fracs"] (spOrdN K) f2 fd2)
    (d_law_bends : Def P w K mg base k "_law_bends" ["_law_inner", "_law_outer"] (spBends K) f3 fd3) (d_law_below : Def P w K mg base k "_law_below" ["_law_a", "_law_b"] (spTest2 K fun p q => .bl (decide (p < q))) f4 fd4) (d_law_plus : Def P w K mg base k "_law_plus" ["_law_a", "_law_b"] (spOp2 K (· + ·)) f5 fd5)
    (d_law_times : Def P w K mg base k "_law_times" ["_law_a", "_law_b"] (spOp2 K (· * ·)) f6 fd6) (d_law_line : Def P w K mg base k "_law_line" ["_law_piece", "_law_t"] (spShown K) f7 fd7) (d_law_place : Def P w K mg base k "_law_place" ["_law_course_here", "_law_t"] (spLP K) f8 fd8) :
    Def P w K mg base (k + 1) "_law_chain_ok" ps__law_chain_ok (spChainOk K) f fd := by
  refine ⟨F.F.ok sc__law_chain_ok (fun vs H Q E h => ?_) (fun cdv A outer s H vs Q E hr h => ?_), F.m, F.F.kp, F.b⟩
  · obtain ⟨_, _, _, _, _, _, _, _, _, _, _, _, _, _, _, _, rfl, _⟩ := h
    rfl
  obtain ⟨ad, ac, ao, us, c, o, p0, i, j, m, i', j', m', n1, n2, n3, rfl, hT, hC, hO, okc, oko, nb, ⟨g0, hg0⟩, cz, co, cn, e0, lc, lo, lp, b1, b2, b3, b4, b5, b6, b7, b8, b9, b10, b11, z⟩ := h
  have hCT := hT.cq
  have okT := cok_tl (cok_ch oko okc : Cok (ch o c))
  have czT : Cz n1 n2 n3 (tl (ch o c)) := cz_tl cn
  obtain ⟨r, hr0, hrs⟩ : ∃ r, (tl (ch o c))[0]? = some r ∧ r.s = p0.s := by
    cases c with
    | nil => cases e0
    | cons a b =>
      cases e0
      have e1 := ch_first (c := b) hg0
      cases h : ch o (p0 :: b) with
      | nil => rw [h] at e1; cases e1
      | cons x y =>
        rw [h] at e1
        cases e1
        exact ⟨_, rfl, rfl⟩
  have lT1 : 1 ≤ (tl (ch o c)).length := by have := (List.getElem?_eq_some_iff.mp hr0).1; omega
  have lT2 : (tl (ch o c)).length ≤ 400 := by
    have h1 := (tl_sub (ch o c)).length_le
    have h2 := len_chN (o := o) (c := c) c.length
    rw [chN_all] at h2
    omega
  have tidyT : ∀ (n : Nat) (p' q' : Pc), (tl (ch o c))[n]? = some p' → (tl (ch o c))[n + 1]? = some q' → ky q' ≠ ky p' := fun n p' q' h1 h2 g => by
    have := goes_tl (ch o c) (n + 1)
    rw [goes_at h1 h2, decide_eq_true g] at this
    cases this
  have shown : ∀ t, ¬ t < p0.s → ∃ x y, nowf c t = some x ∧ nowf o x = some y ∧ nowf (tl (ch o c)) t = some y := fun t ht => by
    obtain ⟨x, y, h1, h2, h3, _⟩ := now_ch oko okc nb e0 hg0 (show p0.s ≤ t by grind)
    exact ⟨x, y, h1, h2, by rw [now_tl (cok_ch oko okc)]; exact h3⟩
  have startT : ∀ p ∈ tl (ch o c), ¬ p.s < p0.s := fun p hp => by
    have := ch_ge (o := o) (t := p0.s) okc (fun x hx => by
      obtain ⟨n, hn⟩ := List.mem_iff_getElem?.mp hx
      by_cases g : n = 0
      · subst g; rw [e0] at hn; cases hn; exact Rat.le_refl
      · have := cok_lt okc (show 0 < n by omega) e0 hn; grind) p ((tl_sub _).subset hp)
    grind
  generalize tl (ch o c) = L at hT hCT okT czT hr0 lT1 lT2 tidyT shown startT
  have hTr := hT.1
  have hTc := hT.2
  have hTx : SqL K H ad us := SqL.of hTr
  have hlu := hTc.1
  obtain ⟨xs, hxs, hc⟩ := id hC
  obtain ⟨os, hos, ho⟩ := id hO
  have hlx := hc.1
  obtain ⟨x0, hx0, pq0⟩ := hc.at e0
  obtain ⟨d0, ds0, dv0, dr0, rfl, hd0, r01, r02, r03⟩ := id pq0
  obtain ⟨zs0, zv0, zr0⟩ := cz _ (List.mem_of_getElem? e0)
  have i0x : atI xs 0 = some (.ref d0) := at0 hx0
  obtain ⟨y0, hy0, pr0⟩ := hTc.at hr0
  obtain ⟨f0', fs0, fv0, fr0, rfl, hf0, q01, q02, q03⟩ := id pr0
  have i0u : atI us 0 = some (.ref f0') := at0 hy0
  have l900a : c.length ≤ 900 := by omega
  have l900b : o.length ≤ 900 := by omega
  have l900c : L.length ≤ 900 := by omega
  have hsz : sizeLine = 16777216 := sizeLine_eq
  have bnd : n1 + n1 + n2 + n3 + 5 ≤ 6000 := by omega
  have lp8 : c.length * (o.length + 1) ≤ 800 := by omega
  refine ⟨_, (pss_cons (ps_if (PW.pt (pw_or (pt_not (pt_val (pcall d_law_is_tidy hr (pa_cons (pv 0) pa_nil)))) (pw_or1 (pt_cmpR (op_neD hr.units) (pe_ix ix_tup (pe_ix ix_list (pv 0) pe_int (fun _ _ => rfl)) pe_int (fun _ _ => rfl)) (pe_ix ix_tup (pe_ix ix_list (pv 1) pe_int (fun _ _ => rfl)) pe_int (fun _ _ => rfl)) (nomark _)))))
        (pss_one (ps_ret pe_bl))
        pss_nil)
      (pss_cons (ps_set (i := 3) sc__law_chain_ok.nd rfl (Or.inl rfl) (pcall d_law_ordered hr (pa_cons (pe_op op_cat (pcall d_law_bends hr (pa_cons (pv 1) (pa_cons (pv 2) pa_nil))) (pe_lc (own := [("_law_piece", 4)]) (g := gName 4) (tt := tYes) rfl sc__law_chain_ok.nd (pi_list (pv 0)) (blkOk_by (N := N__law_chain_ok) (sc := defScope s__law_chain_ok) (by decide +kernel)) (fun _ _ _ _ _ => pg_name (i := 4) sc__law_chain_ok.nd rfl (Or.inl rfl)) (fun _ _ _ _ _ => pts_nil) (fun _ _ _ _ _ => (pe_ix (show IxR _ (rIxT K) from ix_tup) (pv 4) pe_int (fun _ _ => rfl))))) pa_nil)))
      (pss_cons (ps_if (pt_val (pcall d_law_below hr (pa_cons (pe_ix ix_list (pv 3) pe_int (fun _ _ => rfl)) (pa_cons (pe_ix ix_tup (pe_ix ix_list (pv 1) pe_int (fun _ _ => rfl)) pe_int (fun _ _ => rfl)) pa_nil))))
        (pss_one (ps_ret pe_bl))
        pss_nil)
      (pss_cons (ps_for PassesOwn.never rfl (pi_range1 (by rfl) T.range_ (pa_cons (pe_callB call_len_seq (by rfl) T.len_ PySem.boot_len (pa_cons (pv 3) pa_nil)) pa_nil)) (pg_name (i := 5) sc__law_chain_ok.nd rfl (Or.inl rfl))
        (pss_cons (ps_set (i := 6) sc__law_chain_ok.nd rfl (Or.inl rfl) (pcall d_law_plus hr (pa_cons (pe_ix ix_list (pv 3) (pv 5) (fun _ _ => rfl)) (pa_cons (pe_tup (pa_cons pe_int (pa_cons pe_int pa_nil))) pa_nil))))
        (pss_cons (ps_if (pt_cmpR op_lt (pe_op op_add (pv 5) pe_int) (pe_callB call_len_seq (by rfl) T.len_ PySem.boot_len (pa_cons (pv 3) pa_nil)) (nomark _))
          (pss_one (ps_set (i := 6) sc__law_chain_ok.nd rfl (Or.inl rfl) (pcall d_law_times hr (pa_cons (pcall d_law_plus hr (pa_cons (pe_ix ix_list (pv 3) (pv 5) (fun _ _ => rfl)) (pa_cons (pe_ix ix_list (pv 3) (pe_op op_add (pv 5) pe_int) (fun _ _ => rfl)) pa_nil))) (pa_cons (pe_tup (pa_cons pe_int (pa_cons pe_int pa_nil))) pa_nil)))))
          pss_nil)
        (pss_one (ps_for PassesOwn.never rfl (pi_list (pe_lst (pa_cons (pe_ix ix_list (pv 3) (pv 5) (fun _ _ => rfl)) (pa_cons (pv 6) pa_nil)))) (pg_name (i := 7) sc__law_chain_ok.nd rfl (Or.inl rfl))
          (pss_cons (ps_set (i := 8) sc__law_chain_ok.nd rfl (Or.inl rfl) (pcall d_law_line hr (pa_cons (pe_ix ix_list (pv 1) (pcall d_law_place hr (pa_cons (pv 1) (pa_cons (pv 7) pa_nil))) (fun _ _ => rfl)) (pa_cons (pv 7) pa_nil))))
          (pss_cons (ps_set (i := 9) sc__law_chain_ok.nd rfl (Or.inl rfl) (pcall d_law_line hr (pa_cons (pe_ix ix_list (pv 2) (pcall d_law_place hr (pa_cons (pv 2) (pa_cons (pv 8) pa_nil))) (fun _ _ => rfl)) (pa_cons (pv 8) pa_nil))))
          (pss_one (ps_if (pt_cmpR (op_neD hr.units) (pcall d_law_line hr (pa_cons (pe_ix ix_list (pv 0) (pcall d_law_place hr (pa_cons (pv 0) (pa_cons (pv 7) pa_nil))) (fun _ _ => rfl)) (pa_cons (pv 7) pa_nil))) (pv 9) (nomark _))
            (pss_one (ps_ret pe_bl))
            pss_nil)))))))))
      (pss_one (ps_ret pe_bl)))))), ?_⟩
  (walk_at "vk_vc")
  intro D us2 ts G1 e1 nD hD hA hts t1 t2
  have eG := e.trans e1
  have hT1 := hT.same eG
  have hTx1 := eG.seq hTx
  clear e e1
  (walk_at "vk_vc")
  refine lcAll (R := Pq K) (R' := Rq K) lastsRq (fun p => some p.s) np hTx1 hT1.2 (by omega) ?_ ?_
  · intro n y p G ec pq s1 Y N hY hN
    obtain ⟨d, ds, dv, dr, rfl, hd, r1, r2, r3⟩ := pq.same s1
    (walk_at "vk_vc")
    exact hY _ _ p.s (Same.refl _) rfl r1
  · intro us3 G2 s2 hD3 hA3
    have ee : ∀ c : List Pc, c.filterMap (fun p => some p.s) = c.map (·.s) := fun c => by
      induction c with
      | nil => rfl
      | cons a c ih => rw [List.filterMap_cons, ih]; rfl
    rw [ee] at hA3
    have hD2 := s2 _ _ hD
    have hA2 := hA.imp fun _ _ h => h.same s2
    have eG2 := eG.trans s2
    have l3 := hA3.1
    rw [List.length_map] at l3
    have l2 := hA2.1
    have allq : ∀ t ∈ ts ++ L.map (·.s), ¬ t < p0.s ∧ Sz 1720 t := fun t ht => by
      rcases List.mem_append.mp ht with ht | ht
      · exact hts t ht
      · obtain ⟨p, hp, rfl⟩ := List.mem_map.mp ht
        exact ⟨startT p hp, (czT p hp).1.mono (by omega)⟩
    clear hD hA hts s2 eG hT1 hTx1 nD
    (walk_at "vk_vc")
    · exact All2.append (All2.imp hA2 fun _ _ h => Rq.same (same_new np _) h) (All2.imp hA3 fun _ _ h => Rq.same (same_new np _) h)
    · exact fun q hq => (allq q hq).2.mono (by decide)
    · rw [List.length_append, List.length_map]; omega
    intro D4 us4 qs G4 e4 nD4 hD4 hA4 asc mem len4 ne4
    have sG4 : Same H G4 := eG2.trans (Same.trans (same_new np _) e4)
    have hq : ∀ t ∈ qs, ¬ t < p0.s ∧ Sz 1720 t := fun t ht => allq t (mem t ht)
    have l4 : 1 ≤ qs.length := by
      have : ts ++ L.map (·.s) ≠ [] := fun h => by
        have e9 := congrArg List.length h
        rw [List.length_append, List.length_map] at e9
        have e9 : ts.length + L.length = 0 := e9
        omega
      have := ne4 this
      exact List.length_pos_iff.mpr this
    have l4b : qs.length ≤ 900 := by
      have h := len4
      rw [List.length_append, List.length_map] at h
      omega
    clear hD2 hA2 hA3 hD3 np e4 eG2 asc mem len4 ne4 allq
    have hx4 : SqL K G4 D4 us4 := SqL.of hD4
    have l5 := hA4.1
    have g0e : qs[0]? = some qs[0] := List.getElem?_eq_getElem (by omega)
    obtain ⟨v0, hv0, rv0⟩ := hA4.at g0e
    obtain ⟨nlt0, zq0⟩ := hq _ (List.getElem_mem (show 0 < qs.length by omega))
    have iq0 : atI us4 0 = some v0 := at0 hv0
    have hxg := sG4.seq hxs
    have hd0g := sG4.sqt hd0
    have r01g := r01.same sG4
    have p62 : (2 : Int) ^ 62 = 4611686018427387904 := by decide
    have x62 : ((us4.length : Nat) : Int) < 2 ^ 62 := by omega
    (walk_at "vk_vc")
    clear rv0 hv0 iq0 g0e hxg hd0g r01g nlt0 zq0
    refine forR (lo := 0) (n := ((us4.length : Nat) : Int).toNat) (fun n σ G => Hold (∃ k5 k6 k7 k8 k9, σ = [some (.ref ad), some (.ref ac), some (.ref ao), some (.ref D4), none, k5, k6, k7, k8, k9] ∧ Same G4 G)) ⟨none, none, none, none, none, rfl, Same.refl _⟩ ?_ ?_
    · rintro n σ G hi ⟨k5, k6, k7, k8, k9, rfl, s5⟩
      have hn : n < qs.length := by omega
      have en : qs[n]? = some qs[n] := List.getElem?_eq_getElem hn
      obtain ⟨nlt, zt⟩ := hq _ (List.getElem_mem hn)
      obtain ⟨v1, hv1, rv1⟩ := hA4.at en
      replace rv1 := rv1.same s5
      generalize qs[n] = t1 at en nlt zt rv1
      obtain ⟨va1, rfl, hva1⟩ := id rv1
      have in1 : atI us4 (0 + (n : Int)) = some (.ref va1) := at_of (j := n) (by omega) hv1
      have hx5 := s5.seq hx4
      have sG5 := sG4.trans s5
      obtain ⟨t2, v2, hsecond⟩ : ∃ (t2 : Rat) (v2 : V), 0 + (n : Int) + 1 < (us4.length : Int) → atI us4 (0 + (n : Int) + 1) = some v2 ∧ Rq K G v2 t2 ∧ Sz 1720 t2 ∧ ¬ t2 < p0.s := by
        by_cases g : 0 + (n : Int) + 1 < (us4.length : Int)
        · have hn2 : n + 1 < qs.length := by omega
          have en2 : qs[n + 1]? = some qs[n + 1] := List.getElem?_eq_getElem hn2
          obtain ⟨nlt2, zt2⟩ := hq _ (List.getElem_mem hn2)
          obtain ⟨v2, hv2, rv2⟩ := hA4.at en2
          exact ⟨_, v2, fun _ => ⟨at_of (j := n + 1) (by omega) hv2, rv2.same s5, zt2, nlt2⟩⟩
        · exact ⟨0, .non, fun h => absurd h g⟩
      have z11 := zl11
      by_cases gk : 0 + (n : Int) + 1 < (us4.length : Int)
      · obtain ⟨in2, rv2, zt2, nlt2⟩ := hsecond gk
        have zs12 := (zt.add zt2).mul zl12
        (walk_at "vk_vc")
        have hh : ∃ t3, Rq K H' (.ref a) t3 ∧ Sz 3460 t3 ∧ ¬ t3 < p0.s := ⟨_, h, zs12.mono (by omega), by
          have e12 : (mkRat 1 2 : Rat) = 1 / 2 := by decide +kernel
          rw [e12]
          grind⟩
        obtain ⟨t3, r3, z3, nlt3⟩ := hh
        have rt3 : Rq K H' (.ref va1) t1 := by (walk_at "vk_cl")
        have sG6 : Same G4 H' := (by (walk_at "vk_same"))
        clear h h' hx5 hsecond
        have sG7 : Same G4 (upd H' p (.lst [.ref va1, .ref a])) := sG6.trans (same_new np _)
        have items : ∀ x ∈ [V.ref va1, V.ref a], ∃ t, Rq K (upd H' p (.lst [.ref va1, .ref a])) x t ∧ Sz 3460 t ∧ ¬ t < p0.s := fun x hx => by
          rcases List.mem_cons.mp hx with rfl | hx
          · exact ⟨t1, rt3.same (same_new np _), zt.mono (by omega), nlt⟩
          · rw [List.mem_singleton.mp hx]
            exact ⟨t3, r3.same (same_new np _), z3, nlt3⟩
        have hl : SqL K (upd H' p (.lst [.ref va1, .ref a])) p [.ref va1, .ref a] := SqL.of upd_same
        generalize upd H' p (.lst [.ref va1, .ref a]) = G7 at sG7 items hl ⊢
        have sG8 := sG4.trans sG7
        refine forL (K := K) (a := p) (xs := [V.ref va1, V.ref a]) (fun q σ G' => Hold (∃ k5 k6 k7 k8 k9, σ = [some (.ref ad), some (.ref ac), some (.ref ao), some (.ref D4), none, k5, k6, k7, k8, k9] ∧ Same G7 G')) ⟨_, _, _, _, _, rfl, Same.refl _⟩ (fun q σ G _ h => by obtain ⟨_, _, _, _, _, _, s⟩ := h; exact s.seq hl) ?_ ?_
        · clear r3 z3 nlt3 rt3 sG6 zt nlt en in1 rv1 np
          rintro q x σ G' hx ⟨k5, k6, k7, k8, k9, rfl, s6⟩
          obtain ⟨t, rt', zt, nlt⟩ := items x (List.mem_of_getElem? hx)
          replace rt' := rt'.same s6
          obtain ⟨y1, y2, w1, w2, w3⟩ := shown t nlt
          have sG9 := sG8.trans s6
          have hC9 := hC.same sG9
          have hO9 := hO.same sG9
          have hT9 := hCT.same sG9
          have hxs9 := sG9.seq hxs
          have hos9 := sG9.seq hos
          have hTx9 := sG9.seq hTx
          obtain ⟨v1, pa, ia, qa, ma, rfl⟩ := at_place hc okc w1
          obtain ⟨v2, pb, ib, qb, mb, rfl⟩ := at_place ho oko w2
          obtain ⟨v3, pd, id', qd, md, ed⟩ := at_place hTc okT w3
          replace qa := qa.same sG9
          replace qb := qb.same sG9
          replace qd := qd.same sG9
          obtain ⟨za1, za2, za3⟩ := cz _ ma
          obtain ⟨zb1, zb2, zb3⟩ := co _ mb
          obtain ⟨zd1, zd2, zd3⟩ := czT _ md
          have zy : Sz (i + j + m + 3462) (vl t pa) := ((za2.add (za3.mul (zt.sub za1))).mono (by omega))
          (walk_at "vk_vc")
          · exact absurd ed (by assumption)
          · exact ⟨⟨_, _, _, _, _, rfl, s6.trans (by (walk_at "vk_same"))⟩⟩
        · rintro σ G' ⟨k5, k6, k7, k8, k9, rfl, s6⟩
          exact ⟨⟨_, _, _, _, _, rfl, sG7.trans s6⟩⟩
      · have zs1 := zt.add zl11
        (walk_at "vk_vc")
        have hh : ∃ t3, Rq K H' (.ref a) t3 ∧ Sz 3460 t3 ∧ ¬ t3 < p0.s := ⟨_, h, zs1.mono (by omega), by grind⟩
        obtain ⟨t3, r3, z3, nlt3⟩ := hh
        have rt3 : Rq K H' (.ref va1) t1 := by (walk_at "vk_cl")
        have sG6 : Same G4 H' := (by (walk_at "vk_same"))
        clear h h' hx5 hsecond
        have sG7 : Same G4 (upd H' p (.lst [.ref va1, .ref a])) := sG6.trans (same_new np _)
        have items : ∀ x ∈ [V.ref va1, V.ref a], ∃ t, Rq K (upd H' p (.lst [.ref va1, .ref a])) x t ∧ Sz 3460 t ∧ ¬ t < p0.s := fun x hx => by
          rcases List.mem_cons.mp hx with rfl | hx
          · exact ⟨t1, rt3.same (same_new np _), zt.mono (by omega), nlt⟩
          · rw [List.mem_singleton.mp hx]
            exact ⟨t3, r3.same (same_new np _), z3, nlt3⟩
        have hl : SqL K (upd H' p (.lst [.ref va1, .ref a])) p [.ref va1, .ref a] := SqL.of upd_same
        generalize upd H' p (.lst [.ref va1, .ref a]) = G7 at sG7 items hl ⊢
        have sG8 := sG4.trans sG7
        refine forL (K := K) (a := p) (xs := [V.ref va1, V.ref a]) (fun q σ G' => Hold (∃ k5 k6 k7 k8 k9, σ = [some (.ref ad), some (.ref ac), some (.ref ao), some (.ref D4), none, k5, k6, k7, k8, k9] ∧ Same G7 G')) ⟨_, _, _, _, _, rfl, Same.refl _⟩ (fun q σ G _ h => by obtain ⟨_, _, _, _, _, _, s⟩ := h; exact s.seq hl) ?_ ?_
        · clear r3 z3 nlt3 rt3 sG6 zt nlt en in1 rv1 np
          rintro q x σ G' hx ⟨k5, k6, k7, k8, k9, rfl, s6⟩
          obtain ⟨t, rt', zt, nlt⟩ := items x (List.mem_of_getElem? hx)
          replace rt' := rt'.same s6
          obtain ⟨y1, y2, w1, w2, w3⟩ := shown t nlt
          have sG9 := sG8.trans s6
          have hC9 := hC.same sG9
          have hO9 := hO.same sG9
          have hT9 := hCT.same sG9
          have hxs9 := sG9.seq hxs
          have hos9 := sG9.seq hos
          have hTx9 := sG9.seq hTx
          obtain ⟨v1, pa, ia, qa, ma, rfl⟩ := at_place hc okc w1
          obtain ⟨v2, pb, ib, qb, mb, rfl⟩ := at_place ho oko w2
          obtain ⟨v3, pd, id', qd, md, ed⟩ := at_place hTc okT w3
          replace qa := qa.same sG9
          replace qb := qb.same sG9
          replace qd := qd.same sG9
          obtain ⟨za1, za2, za3⟩ := cz _ ma
          obtain ⟨zb1, zb2, zb3⟩ := co _ mb
          obtain ⟨zd1, zd2, zd3⟩ := czT _ md
          have zy : Sz (i + j + m + 3462) (vl t pa) := ((za2.add (za3.mul (zt.sub za1))).mono (by omega))
          (walk_at "vk_vc")
          · exact absurd ed (by assumption)
          · exact ⟨⟨_, _, _, _, _, rfl, s6.trans (by (walk_at "vk_same"))⟩⟩
        · rintro σ G' ⟨k5, k6, k7, k8, k9, rfl, s6⟩
          exact ⟨⟨_, _, _, _, _, rfl, sG7.trans s6⟩⟩
    · rintro σ G ⟨k5, k6, k7, k8, k9, rfl, s5⟩
      exact z _ (sG4.trans s5)
end Vk

set_option maxHeartbeats 4000000
namespace Vk
open PySem L2 Vm Vl
variable {l aZERO CB CR CT CV fB fR fT : Addr} {P : Program} {w : World} {K : PySem.W.Frag} {mg : Str → Option Value} {base : Heap} {k : Nat} {f f1 f2 f3 f4 f5 f6 f7 f8 f9 : Addr} {fd fd1 fd2 fd3 fd4 fd5 fd6 fd7 fd8 fd9 : FuncData}
instance pcDec : DecidableEq Pc := fun p q => decidable_of_decidable_of_iff (p := p.s = q.s ∧ p.v = q.v ∧ p.r = q.r) ⟨fun h => by
    obtain ⟨a, b, c⟩ := p
    obtain ⟨d, e, f⟩ := q
    obtain ⟨h1, h2, h3⟩ := h
    dsimp only at h1 h2 h3
    rw [h1, h2, h3], fun h => by
    rw [h]
    exact ⟨rfl, rfl, rfl⟩⟩
def cdat (c : List Pc) : PyData := .list (c.map dpc)
theorem depth_cs : ∀ c : List Pc, PyData.depthAll (c.map dpc) ≤ 3
  | [] => by simp [PyData.depthAll]
  | p :: c => by
    have := depth_cs c
    simp only [List.map_cons, PyData.depthAll]
    have : (dpc p).depth ≤ 3 := by simp [dpc, dq, PyData.depth, PyData.depthAll]
    omega
theorem lay_cs : ∀ c : List Pc, PyData.canLayAll0 (c.map dpc) = true
  | [] => rfl
  | p :: c => by
    have := lay_cs c
    show (PyData.canLay0 (dpc p) && PyData.canLayAll0 (c.map dpc)) = true
    rw [this]
    rfl
theorem sh_c (c : List Pc) : SeqAt.shaped (cdat c) = true := by
  have h1 := depth_cs c
  have h2 := lay_cs c
  show (PyData.canLay0 (.list (c.map dpc)) && decide (PyData.depth (.list (c.map dpc)) ≤ 64)) = true
  have h3 : PyData.canLay0 (.list (c.map dpc)) = true := h2
  have h4 : PyData.depth (.list (c.map dpc)) ≤ 64 := by simp only [PyData.depth]; omega
  rw [h3, decide_eq_true h4]
  rfl
theorem eqv_dpc (p q : Pc) : PyData.eqv (dpc p) (dpc q) = decide (p = q) := by
  show (PyData.eqv (dq p.s) (dq q.s) && (PyData.eqv (dq p.v) (dq q.v) && (PyData.eqv (dq p.r) (dq q.r) && true))) = decide (p = q)
  rw [eqv_dq, eqv_dq, eqv_dq]
  by_cases h : p = q
  · subst h
    simp
  · rw [dF h]
    obtain ⟨s, v, r⟩ := p
    obtain ⟨s', v', r'⟩ := q
    dsimp only
    by_cases h1 : s = s'
    · by_cases h2 : v = v'
      · by_cases h3 : r = r'
        · exact absurd (by rw [h1, h2, h3]) h
        · rw [dF h3]; simp
      · rw [dF h2]; simp
    · rw [dF h1]; simp
theorem eqv_c : ∀ c d : List Pc, PyData.eqv (cdat c) (cdat d) = decide (c = d)
  | [], [] => rfl
  | [], _ :: _ => rfl
  | _ :: _, [] => rfl
  | p :: c, q :: d => by
    have ih : PyData.eqv (cdat c) (cdat d) = decide (c = d) := eqv_c c d
    show (PyData.eqv (dpc p) (dpc q) && PyData.eqv (cdat c) (cdat d)) = _
    rw [ih, eqv_dpc]
    by_cases h1 : p = q
    · by_cases h2 : c = d
      · rw [dT h1, dT h2, dT (by rw [h1, h2])]; rfl
      · rw [dT h1, dF h2, dF fun e => h2 (List.cons.inj e).2]; rfl
    · rw [dF h1, dF fun e => h1 (List.cons.inj e).1]; rfl
theorem Cq.dd {H : Hp} {a : Addr} {c : List Pc} (h : Cq K H a c) : Dp K H (.ref a) (cdat c) := by
  obtain ⟨xs, hx, hc⟩ := h
  exact .lst hx (dpall_of (fun _ _ h => h.dp) hc)
theorem eqv_cc (c : List Pc) : PyData.eqv (cdat c) (cdat c) = true := by rw [eqv_c]; exact dT rfl
theorem pss_none {X : Cx} {st : List Stmt} : PSs X st (fun _ _ _ => False) := ⟨fun _ _ _ _ _ _ w => w.elim⟩
theorem pss_or {X : Cx} {st : List Stmt} {t u : TS} (h : PSs X st t) (g : PSs X st u) : PSs X st (fun D σ H => t D σ H ∨ u D σ H) := ⟨fun pins s σ H D I w => w.elim (h.run pins s σ H D I) (g.run pins s σ H D I)⟩
/-- the classes that the law asks after -/
structure Co (K : PySem.W.Frag) (mg : Str → Option Value) (CB CT CV : Addr) : Prop where
  gV : mg "VerdictError" = some (.ref CV)
  mV : mg "ValueError" = none
  eB : ExcC K CB
  eT : ExcC K CT
  xB : PySem.W.exmOne K (.ref CB) (.ref CV) = some true
  xT : PySem.W.exmOne K (.ref CT) (.ref CV) = some true
  kBB : PySem.W.kitOne K (.ref CB) (.ref CB) = some true
  kBT : PySem.W.kitOne K (.ref CB) (.ref CT) = some false
  kBV : PySem.W.kitOne K (.ref CB) (.type "ValueError") = some true
  kTB : PySem.W.kitOne K (.ref CT) (.ref CB) = some false
  kTT : PySem.W.kitOne K (.ref CT) (.ref CT) = some true
  kTV : PySem.W.kitOne K (.ref CT) (.type "ValueError") = some true
def tIsG (K : PySem.W.Frag) (C D a : Addr) (d : Option Addr) : TE := tCB (rIsG K C a d) (tCons (tVar 5) (tCons (tC (.ref D)) tNil))
def tSuO (K : PySem.W.Frag) (CB CT C : Addr) : Addr → Option Addr → TS := fun a d =>
  tSeq (tAsg (tTup (tCons (tC (.str "mixed")) tNil)) (gName 4))
  (tSeq (tAsg (tLst (tCons (tIsG K C CT a d) (tCons (tIsG K C CB a d) (tCons (tCB (rIsG K C a d) (tCons (tVar 5) (tCons (tC (.ty "ValueError")) tNil))) tNil)))) (gName 6))
  (tSeq (tIfS (tTest (tOp (rEqD K) (tVar 6) (tLst (tCons (tC (.bl true)) (tCons (tC (.bl false)) (tCons (tC (.bl true)) tNil)))))) (tAsg (tTup (tCons (tC (.str "TurnsBack")) (tCons (tByVal C a (.ref C) d (tVar 5)) tNil))) (gName 4)) tNext)
  (tIfS (tTest (tOp (rEqD K) (tVar 6) (tLst (tCons (tC (.bl false)) (tCons (tC (.bl true)) (tCons (tC (.bl true)) tNil)))))) (tAsg (tTup (tCons (tC (.str "BeforeStart")) (tCons (tByVal C a (.ref C) d (tVar 5)) tNil))) (gName 4)) tNext)))
def tSuA (K : PySem.W.Frag) (CB CT : Addr) : Addr → Value → Option Addr → TS := fun a cls d D σ H => (cls = .ref CB ∧ tSuO K CB CT CB a d D σ H) ∨ (cls = .ref CT ∧ tSuO K CB CT CT a d D σ H)
abbrev s__law_asked : Stmt := top 55
abbrev N__law_asked : List Str := ["_law_inner", "_law_outer", "_law_passed", "_law_other", "_law_told", "e", "_law_kinds"]
theorem sc__law_asked : FnScope N__law_asked ["_law_inner", "_law_outer"] (defScope s__law_asked) := ⟨rfl, rfl, rfl, by decide +kernel, rfl, by decide +kernel, by decide +kernel⟩
abbrev ps__law_asked : List Str := ["_law_inner", "_law_outer"]
/-- what was told -/
def Ask (K : PySem.W.Frag) (H0 H : Hp) (c o : List Pc) (p0 : Pc) (tt : Addr) : Prop := (∃ k p q y, Fb c k p q ∧ SqT K H tt [.str "TurnsBack", y] ∧ Rq K H y q.s) ∨ (NB c ∧ pcAt o p0.v = none ∧ ∃ y, SqT K H tt [.str "BeforeStart", y] ∧ Rq K H y p0.v) ∨
  (NB c ∧ (∃ g, pcAt o p0.v = some g) ∧ ∃ D us, SqT K H tt [.str "told", .ref D] ∧ H0 D = none ∧ Ct K H D us (tl (ch o c)))
def spAsked (K : PySem.W.Frag) : Sp := fun vs H Q _ => ∃ (a b : Addr) (c o : List Pc) (p0 : Pc) (i j m i' j' m' : Nat), vs = [.ref a, .ref b] ∧ Cq K H a c ∧ Cq K H b o ∧ Cok c ∧ Cok o ∧ Cz i j m c ∧ Cz i' j' m' o ∧ c[0]? = some p0 ∧ 1 ≤ o.length ∧ c.length * (o.length + 1) ≤ 800 ∧ c.length ≤ 400 ∧ o.length ≤ 400 ∧ i + i' + j + j' + m + m' + 10 ≤ 1800 ∧
  ∀ tt H', Same H H' → Ask K H H' c o p0 tt → Q (.ref tt) H'
theorem ok_asked (T : Bn mg) (C : Co K mg CB CT CV) (TB : PySem.ValX.ValTxt K mg "BeforeStart" CB fB) (TT : PySem.ValX.ValTxt K mg "TurnsBack" CT fT) (F : Fn K mg "_law_asked" s__law_asked ps__law_asked f fd) (dchained : DefY P w K mg base k "chained" ["inner", "outer"] (spChained K CB CT) f1 fd1) :
    Def P w K mg base (k + 1) "_law_asked" ps__law_asked (spAsked K) f fd := by
  refine ⟨F.F.ok sc__law_asked (fun vs H Q E h => ?_) (fun cdv A outer s H vs Q E hr h => ?_), F.m, F.F.kp, F.b⟩
  · obtain ⟨_, _, _, _, _, _, _, _, _, _, _, rfl, _⟩ := h
    rfl
  obtain ⟨ac, ao, c, o, p0, i, j, m, i', j', m', rfl, hC, hO, okc, oko, cz, co, e0, lo1, lp, lc, lo, hb, z⟩ := h
  obtain ⟨xs, hxs, hc⟩ := id hC
  obtain ⟨os, hos, ho⟩ := id hO
  refine ⟨_, (pss_cons (ps_set (i := 2) sc__law_asked.nd rfl (Or.inl rfl) (pe_callTy call_list_of (by rfl) T.list_ (by decide +kernel) (pa_cons (pv 0) pa_nil)))
      (pss_cons (ps_set (i := 3) sc__law_asked.nd rfl (Or.inl rfl) (pe_callTy call_list_of (by rfl) T.list_ (by decide +kernel) (pa_cons (pv 1) pa_nil)))
      (pss_cons (L2N.ps_try_ases (W0 := fun _ _ _ _ => False) rfl rfl sc__law_asked.nd takes0Y
          (fun W pn xe tk _ => pss_one (ps_set (i := 4) sc__law_asked.nd rfl (Or.inl rfl) (pe_tup (pa_cons pe_str (pa_cons (pcallY dchained hr tk (pa_cons (pv 2) (pa_cons (pv 3) pa_nil))) pa_nil)))))
          (L2N.AsOk.cons (i := 5) (ts := tSuA K CB CT) ⟨rfl, by decide, Or.inl C.gV⟩ rfl rfl (fun a oe cls dd pn hz hf => pss_or
              (pss_if (p := cls = .ref CB) fun e => by
                subst e
                exact pss_cons (ps_set (i := 4) sc__law_asked.nd rfl (Or.inl rfl) (pe_tup (pa_cons pe_str pa_nil)))
                  (pss_cons (ps_set (i := 6) sc__law_asked.nd rfl (Or.inl rfl) (pe_lst (pa_cons (pe_callB (call_isG C.eB hz.zc hf) (by rfl) T.isinstance_ (by decide +kernel) (pa_cons (pv 5) (pa_cons (pe_glob (v := .ref CT) (u := .ref CT) (by rfl) TT.gC rfl) pa_nil))) (pa_cons (pe_callB (call_isG C.eB hz.zc hf) (by rfl) T.isinstance_ (by decide +kernel) (pa_cons (pv 5) (pa_cons (pe_glob (v := .ref CB) (u := .ref CB) (by rfl) TB.gC rfl) pa_nil))) (pa_cons (pe_callB (call_isG C.eB hz.zc hf) (by rfl) T.isinstance_ (by decide +kernel) (pa_cons (pv 5) (pa_cons (pe_bltn (v := .ty "ValueError") (u := .type "ValueError") (by rfl) C.mV (by rfl) rfl) pa_nil))) pa_nil)))))
                  (pss_cons (ps_if (pt_cmpR (op_eqD hr.units) (pv 6) (pe_lst (pa_cons pe_bl (pa_cons pe_bl (pa_cons pe_bl pa_nil)))) (nomark _))
                  (pss_one (ps_set (i := 4) sc__law_asked.nd rfl (Or.inl rfl) (pe_tup (pa_cons pe_str (pa_cons (pe_byVal TB hz.zc hf (pv 5)) pa_nil)))))
                  pss_nil)
                  (pss_one (ps_if (pt_cmpR (op_eqD hr.units) (pv 6) (pe_lst (pa_cons pe_bl (pa_cons pe_bl (pa_cons pe_bl pa_nil)))) (nomark _))
                  (pss_one (ps_set (i := 4) sc__law_asked.nd rfl (Or.inl rfl) (pe_tup (pa_cons pe_str (pa_cons (pe_byVal TB hz.zc hf (pv 5)) pa_nil)))))
                  pss_nil)))))
              (pss_if (p := cls = .ref CT) fun e => by
                subst e
                exact pss_cons (ps_set (i := 4) sc__law_asked.nd rfl (Or.inl rfl) (pe_tup (pa_cons pe_str pa_nil)))
                  (pss_cons (ps_set (i := 6) sc__law_asked.nd rfl (Or.inl rfl) (pe_lst (pa_cons (pe_callB (call_isG C.eT hz.zc hf) (by rfl) T.isinstance_ (by decide +kernel) (pa_cons (pv 5) (pa_cons (pe_glob (v := .ref CT) (u := .ref CT) (by rfl) TT.gC rfl) pa_nil))) (pa_cons (pe_callB (call_isG C.eT hz.zc hf) (by rfl) T.isinstance_ (by decide +kernel) (pa_cons (pv 5) (pa_cons (pe_glob (v := .ref CB) (u := .ref CB) (by rfl) TB.gC rfl) pa_nil))) (pa_cons (pe_callB (call_isG C.eT hz.zc hf) (by rfl) T.isinstance_ (by decide +kernel) (pa_cons (pv 5) (pa_cons (pe_bltn (v := .ty "ValueError") (u := .type "ValueError") (by rfl) C.mV (by rfl) rfl) pa_nil))) pa_nil)))))
                  (pss_cons (ps_if (pt_cmpR (op_eqD hr.units) (pv 6) (pe_lst (pa_cons pe_bl (pa_cons pe_bl (pa_cons pe_bl pa_nil)))) (nomark _))
                  (pss_one (ps_set (i := 4) sc__law_asked.nd rfl (Or.inl rfl) (pe_tup (pa_cons pe_str (pa_cons (pe_byVal TT hz.zc hf (pv 5)) pa_nil)))))
                  pss_nil)
                  (pss_one (ps_if (pt_cmpR (op_eqD hr.units) (pv 6) (pe_lst (pa_cons pe_bl (pa_cons pe_bl (pa_cons pe_bl pa_nil)))) (nomark _))
                  (pss_one (ps_set (i := 4) sc__law_asked.nd rfl (Or.inl rfl) (pe_tup (pa_cons pe_str (pa_cons (pe_byVal TT hz.zc hf (pv 5)) pa_nil)))))
                  pss_nil))))))
          L2N.AsOk.nil))
      (pss_one (ps_ret (pe_ifExp (PW.pt (pw_and (pt_cmpR (op_eqD hr.units) (pv 2) (pv 0) (nomark _)) (pw_and1 (pt_cmpR (op_eqD hr.units) (pv 3) (pv 1) (nomark _))))) (pv 4) (pe_tup (pa_cons pe_str pa_nil)))))))), ?_⟩
  refine ⟨_, rfl, ac, xs, rfl, .inl hxs, fun p1 h1 => ?_⟩
  have s1 := same_new h1 (.lst xs)
  have hP : Cq K (upd H p1 (.lst xs)) p1 c := ⟨xs, SqL.of upd_same, hc.imp fun _ _ h => h.same s1⟩
  generalize upd H p1 (.lst xs) = G1 at s1 hP ⊢
  refine ⟨_, rfl, ao, os, rfl, .inl (s1.seq hos), fun p2 h2 => ?_⟩
  have s2 := same_new h2 (.lst os)
  have hO2 : Cq K (upd G1 p2 (.lst os)) p2 o := ⟨os, SqL.of upd_same, ho.imp fun _ _ h => (h.same s1).same s2⟩
  have hP2 := hP.same s2
  have s3 := s1.trans s2
  generalize upd G1 p2 (.lst os) = G at s2 s3 hO2 hP2 ⊢
  clear hP s1 s2 h1 h2 hc ho hxs hos
  have hC3 := hC.same s3
  have hO3 := hO.same s3
  have fin : ∀ (tt : Addr) (k5 k6 : Option V) (G' : Hp), Same G G' → Ask K H G' c o p0 tt → tRet (tIf (tAnd (tTest (tOp (rEqD K) (tVar 2) (tVar 0))) (tTest (tOp (rEqD K) (tVar 3) (tVar 1)))) (tVar 4) (tTup (tCons (tC (V.str "changed")) tNil))) { nx := fun x H' => Q V.non H', rt := Q } [some (.ref ac), some (.ref ao), some (.ref p1), some (.ref p2), some (.ref tt), k5, k6] G' := by
    intro tt k5 k6 G' s4 ask
    have d1 := (hC3.same s4).dd
    have d2 := (hP2.same s4).dd
    have d3 := (hO3.same s4).dd
    have d4 := (hO2.same s4).dd
    refine ⟨_, rfl, _, rfl, _, _, d2, d1, sh_c _, sh_c _, _, rfl, ifT (eqv_cc c) ⟨_, rfl, _, rfl, _, _, d4, d3, sh_c _, sh_c _, _, rfl, ifT (eqv_cc o) ?_⟩⟩
    exact ⟨_, rfl, z tt _ (s3.trans s4) ask⟩
  have zs : (1 : Nat) ≤ sizeLine ∧ 3 ≤ sizeLine := by rw [sizeLine_eq]; decide
  have fault : ∀ (CC : Addr) (b : Bool) (nm : Str) (y : V) (H1 : Hp), (nm = if b then "TurnsBack" else "BeforeStart") → PySem.W.kitOne K (.ref CC) (.ref CT) = some b → PySem.W.kitOne K (.ref CC) (.ref CB) = some (!b) → PySem.W.kitOne K (.ref CC) (.type "ValueError") = some true →
      (∀ tt H', Same H1 H' → SqT K H' tt [.str nm, y] → Ask K H H' c o p0 tt) → Same G H1 → ∀ d e, H1 d = none → tSuO K CB CT CC e (some d) { nx := fun σ G' => tRet (tIf (tAnd (tTest (tOp (rEqD K) (tVar 2) (tVar 0))) (tTest (tOp (rEqD K) (tVar 3) (tVar 1)))) (tVar 4) (tTup (tCons (tC (V.str "changed")) tNil))) { nx := fun x H' => Q V.non H', rt := Q } (σ.set 5 none) G', rt := Q } [some (.ref ac), some (.ref ao), some (.ref p1), some (.ref p2), none, some (.ref e), none] (upd H1 d (.xd [(("value" : Str), y)])) := by
    intro CC b nm y H1 enm kT kB kV ask s4 d e hd
    have cd := same_new hd (.xd [(("value" : Str), y)])
    have hdat : (upd H1 d (.xd [(("value" : Str), y)])) d = some (.xd [(("value" : Str), y)]) := upd_same
    generalize upd H1 d (.xd [(("value" : Str), y)]) = H2 at cd hdat ⊢
    refine ⟨sz1, fun t0 h0 => ?_⟩
    have s5 := same_new h0 (.tup [V.str "mixed"])
    have hd2 := s5 _ _ hdat
    have s6 := cd.trans s5
    generalize upd H2 t0 (.tup [V.str "mixed"]) = H3 at s5 hd2 s6 ⊢
    refine ⟨_, rfl, .ref CT, .ref CT, b, rfl, .own _, .inr ⟨d, _, rfl, hd2⟩, kT, _, rfl, .ref CB, .ref CB, !b, rfl, .own _, .inr ⟨d, _, rfl, hd2⟩, kB, _, rfl, .ty "ValueError", .type "ValueError", true, rfl, .ty _, .inr ⟨d, _, rfl, hd2⟩, kV, sz3, fun D h1 => ?_⟩
    have s7 := same_new h1 (.lst [V.bl b, V.bl !b, V.bl true])
    have hd3 := s7 _ _ hd2
    have s8 := s6.trans s7
    have bd : ∀ {G1 : Hp} {p : Addr} {b1 b2 b3 : Bool}, SqL K G1 p [V.bl b1, V.bl b2, V.bl b3] → Dp K G1 (.ref p) (.list [.bool b1, .bool b2, .bool b3]) := fun h => .lst h (.cons (.bl _) (.cons (.bl _) (.cons (.bl _) .nil)))
    have dl : SqL K (upd H3 D (.lst [V.bl b, V.bl !b, V.bl true])) D [V.bl b, V.bl !b, V.bl true] := SqL.of upd_same
    generalize upd H3 D (.lst [V.bl b, V.bl !b, V.bl true]) = H4 at s7 hd3 s8 dl ⊢
    have lit : ∀ (G1 : Hp) (p : Addr) (b1 b2 b3 : Bool), G1 p = none → Dp K (upd G1 p (.lst [V.bl b1, V.bl b2, V.bl b3])) (.ref p) (.list [.bool b1, .bool b2, .bool b3]) := fun G1 p b1 b2 b3 _ => .lst (SqL.of upd_same) (.cons (.bl _) (.cons (.bl _) (.cons (.bl _) .nil)))
    cases b with
    | true =>
      have enm : nm = "TurnsBack" := enm
      subst enm
      refine ⟨_, rfl, sz3, fun p3 h3 => ?_⟩
      have s9 := same_new h3 (.lst [V.bl true, V.bl false, V.bl true])
      have dq3 := lit H4 p3 true false true h3
      have dl3 := s9.seq dl
      have hd4 := s9 _ _ hd3
      have s10 := s8.trans s9
      generalize upd H4 p3 (.lst [V.bl true, V.bl false, V.bl true]) = H5 at s9 dq3 dl3 hd4 s10 ⊢
      refine ⟨_, _, bd dl3, dq3, rfl, rfl, _, rfl, ifT rfl ?_⟩
      refine ⟨_, rfl, rfl, rfl, d, y, rfl, hd4, sz2, fun t1 h4 => ?_⟩
      have s11 := same_new h4 (.tup [V.str "TurnsBack", y])
      have ht : SqT K (upd H5 t1 (.tup [V.str "TurnsBack", y])) t1 [V.str "TurnsBack", y] := SqT.of upd_same
      have dl4 := s11.seq dl3
      have s12 := s10.trans s11
      generalize upd H5 t1 (.tup [V.str "TurnsBack", y]) = H6 at s11 ht dl4 s12 ⊢
      refine ⟨_, rfl, sz3, fun p4 h5 => ?_⟩
      have s13 := same_new h5 (.lst [V.bl false, V.bl true, V.bl true])
      refine ⟨_, _, bd (s13.seq dl4), lit H6 p4 false true true h5, rfl, rfl, _, rfl, ifF rfl ?_⟩
      exact fin t1 _ _ _ (s4.trans (s12.trans s13)) (ask t1 _ (s12.trans s13) (s13.sqt ht))
    | false =>
      have enm : nm = "BeforeStart" := enm
      subst enm
      refine ⟨_, rfl, sz3, fun p3 h3 => ?_⟩
      have s9 := same_new h3 (.lst [V.bl true, V.bl false, V.bl true])
      have dq3 := lit H4 p3 true false true h3
      have dl3 := s9.seq dl
      have hd4 := s9 _ _ hd3
      have s10 := s8.trans s9
      generalize upd H4 p3 (.lst [V.bl true, V.bl false, V.bl true]) = H5 at s9 dq3 dl3 hd4 s10 ⊢
      refine ⟨_, _, bd dl3, dq3, rfl, rfl, _, rfl, ifF rfl ?_⟩
      refine ⟨_, rfl, sz3, fun p4 h5 => ?_⟩
      have s13 := same_new h5 (.lst [V.bl false, V.bl true, V.bl true])
      have hd5 := s13 _ _ hd4
      have dl4 := s13.seq dl3
      have dq4 := lit H5 p4 false true true h5
      have s14 := s10.trans s13
      generalize upd H5 p4 (.lst [V.bl false, V.bl true, V.bl true]) = H6 at s13 hd5 dl4 dq4 s14 ⊢
      refine ⟨_, _, bd dl4, dq4, rfl, rfl, _, rfl, ifT rfl ?_⟩
      refine ⟨_, rfl, rfl, rfl, d, y, rfl, hd5, sz2, fun t1 h4 => ?_⟩
      have s11 := same_new h4 (.tup [V.str "BeforeStart", y])
      have ht : SqT K (upd H6 t1 (.tup [V.str "BeforeStart", y])) t1 [V.str "BeforeStart", y] := SqT.of upd_same
      exact fin t1 _ _ _ (s4.trans (s14.trans s11)) (ask t1 _ (s14.trans s11) ht)
  (walk_at "vk_vc")
  · intro k0 p q fb y H1 s4 ry d hd
    refine ⟨true, C.xT, fun _ e he => Or.inr ⟨rfl, ?_⟩, nofun⟩
    exact fault CT true "TurnsBack" y H1 rfl C.kTT C.kTB C.kTV (fun tt H' s ht => .inl ⟨k0, p, q, y, fb, ht, ry.same s⟩) s4 d _ hd
  · intro nb hn y H1 s4 ry d hd
    refine ⟨true, C.xB, fun _ e he => Or.inl ⟨rfl, ?_⟩, nofun⟩
    exact fault CB false "BeforeStart" y H1 rfl C.kBT C.kBB C.kBV (fun tt H' s ht => .inr (.inl ⟨nb, hn, y, ht, ry.same s⟩)) s4 d _ hd
  · intro nb hf D us H1 s4 hD hA
    refine ⟨sz2, fun t1 h4 => ?_⟩
    have s11 := same_new h4 (.tup [V.str "told", .ref D])
    refine fin t1 _ _ _ (s4.trans s11) (.inr (.inr ⟨nb, hf, D, us, SqT.of upd_same, ?_, hA.same s11⟩))
    cases h : H D with
    | none => rfl
    | some o => rw [s3 _ _ h] at hD; cases hD
end Vk

set_option maxHeartbeats 4000000
namespace Vk
open PySem L2 Vm Vl
variable {l aZERO CB CR CT CV fB fR fT : Addr} {P : Program} {w : World} {K : PySem.W.Frag} {mg : Str → Option Value} {base : Heap} {k : Nat} {f f1 f2 f3 f4 f5 f6 f7 f8 f9 : Addr} {fd fd1 fd2 fd3 fd4 fd5 fd6 fd7 fd8 fd9 : FuncData}
theorem now_start {c : List Pc} (ok : Cok c) {n : Nat} {p : Pc} (e : c[n]? = some p) : nowf c p.s = some p.v := by
  rw [now_at ok e Rat.lt_irrefl fun q hq => ok.2 n p q e hq]
  show some (p.v + p.r * (p.s - p.s)) = _
  rw [show p.s - p.s = 0 from Rat.sub_self, Rat.mul_zero]
  congr 1
  grind
theorem ge_start {c : List Pc} (ok : Cok c) {p0 p : Pc} {n : Nat} (e0 : c[0]? = some p0) (e : c[n]? = some p) : p0.s ≤ p.s := by
  by_cases g : n = 0
  · subst g; rw [e0] at e; cases e; exact Rat.le_refl
  · exact Rat.le_of_lt (cok_lt ok (show 0 < n by omega) e0 e)
def tSuB (CB : Addr) : Addr → Value → Option Addr → TS := fun a cls d D σ H => cls = .ref CB ∧ tAsg (tLst (tCons (tByVal CB a (.ref CB) d (tVar 7)) tNil)) (gName 6) D σ H
abbrev s__law_shown_ok : Stmt := top 57
abbrev N__law_shown_ok : List Str := ["_law_course_here", "_law_inner", "_law_outer", "_law_piece", "_law_value", "_law_early", "_law_told", "e"]
theorem sc__law_shown_ok : FnScope N__law_shown_ok ["_law_course_here", "_law_inner", "_law_outer"] (defScope s__law_shown_ok) := ⟨rfl, rfl, rfl, by decide +kernel, rfl, by decide +kernel, by decide +kernel⟩
abbrev ps__law_shown_ok : List Str := ["_law_course_here", "_law_inner", "_law_outer"]
def spShownOk (K : PySem.W.Frag) : Sp := fun vs H Q _ => ∃ (d a b : Addr) (c o : List Pc) (p0 : Pc) (i j m i' j' m' n1 n2 n3 : Nat), vs = [.ref d, .ref a, .ref b] ∧ Cq K H d (tl (ch o c)) ∧ Cq K H a c ∧ Cq K H b o ∧ Cok c ∧ Cok o ∧ NB c ∧ (∃ g, pcAt o p0.v = some g) ∧ Cz i j m c ∧ Cz i' j' m' o ∧ Cz n1 n2 n3 (ch o c) ∧ c[0]? = some p0 ∧ c.length ≤ 400 ∧ o.length ≤ 400 ∧ c.length * (o.length + 1) ≤ 400 ∧
  i + i' + j + j' + m + m' + 10 ≤ 1800 ∧ n1 + n1 + n2 + n3 ≤ 6000 ∧ ∀ H', Same H H' → Q (.bl true) H'
theorem ok_shown_ok (T : Bn mg) (TB : PySem.ValX.ValTxt K mg "BeforeStart" CB fB) (xBB : PySem.W.exmOne K (.ref CB) (.ref CB) = some true) (F : Fn K mg "_law_shown_ok" s__law_shown_ok ps__law_shown_ok f fd) (dshown_at : DefY P w K mg base k "shown_at" ["course", "t"] (spShownAt K CB) f1 fd1)
    (d_law_same : Def P w K mg base k "_law_same" ["_law_value", "_law_due_here"] (spSame K 4) f2 fd2) (d_law_minus : Def P w K mg base k "_law_minus" ["_law_a", "_law_b"] (spOp2 K (· - ·)) f3 fd3) :
    Def P w K mg base (k + 1) "_law_shown_ok" ps__law_shown_ok (spShownOk K) f fd := by
  refine ⟨F.F.ok sc__law_shown_ok (fun vs H Q E h => ?_) (fun cdv A outer s H vs Q E hr h => ?_), F.m, F.F.kp, F.b⟩
  · obtain ⟨_, _, _, _, _, _, _, _, _, _, _, _, _, _, _, rfl, _⟩ := h
    rfl
  obtain ⟨ad, ac, ao, c, o, p0, i, j, m, i', j', m', n1, n2, n3, rfl, hT, hC, hO, okc, oko, nb, ⟨g0, hg0⟩, cz, co, cn, e0, lc, lo, lp, b1, b2, z⟩ := h
  have okT := cok_tl (cok_ch oko okc : Cok (ch o c))
  have czT : Cz n1 n2 n3 (tl (ch o c)) := cz_tl cn
  obtain ⟨r, hr0, hrs⟩ : ∃ r, (tl (ch o c))[0]? = some r ∧ r.s = p0.s := by
    cases c with
    | nil => cases e0
    | cons a b =>
      cases e0
      have e1 := ch_first (c := b) hg0
      cases h : ch o (p0 :: b) with
      | nil => rw [h] at e1; cases e1
      | cons x y =>
        rw [h] at e1
        cases e1
        exact ⟨_, rfl, rfl⟩
  have lT2 : (tl (ch o c)).length ≤ 400 := by
    have h1 := (tl_sub (ch o c)).length_le
    have h2 := len_chN (o := o) (c := c) c.length
    rw [chN_all] at h2
    omega
  have shown : ∀ (n : Nat) (p : Pc), c[n]? = some p → nowf c p.s = some p.v ∧ ∃ y, nowf o p.v = some y ∧ nowf (tl (ch o c)) p.s = some y := fun n p e => by
    have h0 := now_start okc e
    obtain ⟨x, y, h1, h2, h3, _⟩ := now_ch oko okc nb e0 hg0 (ge_start okc e0 e)
    rw [h0] at h1
    cases h1
    exact ⟨h0, y, h2, by rw [now_tl (cok_ch oko okc)]; exact h3⟩
  have early : nowf (tl (ch o c)) (p0.s - mkRat 1 1000) = none := by
    rw [now_pc, (pcAt_first okT hr0).mpr (by rw [hrs, show (mkRat 1 1000 : Rat) = 1 / 1000 by decide +kernel]; grind)]
    rfl
  generalize tl (ch o c) = L at hT okT czT hr0 lT2 shown early
  obtain ⟨xs, hxs, hc⟩ := id hC
  have hlx := hc.1
  obtain ⟨x0, hx0, pq0⟩ := hc.at e0
  obtain ⟨d0, ds0, dv0, dr0, rfl, hd0, r01, r02, r03⟩ := id pq0
  obtain ⟨zs0, zv0, zr0⟩ := cz _ (List.mem_of_getElem? e0)
  have i0x : atI xs 0 = some (.ref d0) := at0 hx0
  have l900a : c.length ≤ 900 := by omega
  have l900b : o.length ≤ 900 := by omega
  have l900c : L.length ≤ 900 := by omega
  refine ⟨_, (pss_cons (ps_for PassesOwn.never rfl (pi_list (pv 1)) (pg_name (i := 3) sc__law_shown_ok.nd rfl (Or.inl rfl))
        (pss_cons (ps_set (i := 4) sc__law_shown_ok.nd rfl (Or.inl rfl) (pcallYL dshown_at hr (pa_cons (pv 1) (pa_cons (pe_ix ix_tup (pv 3) pe_int (fun _ _ => rfl)) pa_nil))))
        (pss_one (ps_if (PW.pt (pw_or (pt_not (pt_val (pcall d_law_same hr (pa_cons (pv 4) (pa_cons (pe_ix ix_tup (pv 3) pe_int (fun _ _ => rfl)) pa_nil))))) (pw_or1 (pt_not (pt_val (pcall d_law_same hr (pa_cons (pcallYL dshown_at hr (pa_cons (pv 0) (pa_cons (pe_ix ix_tup (pv 3) pe_int (fun _ _ => rfl)) pa_nil))) (pa_cons (pcallYL dshown_at hr (pa_cons (pv 2) (pa_cons (pv 4) pa_nil))) pa_nil))))))))
          (pss_one (ps_ret pe_bl))
          pss_nil))))
      (pss_cons (ps_set (i := 5) sc__law_shown_ok.nd rfl (Or.inl rfl) (pcall d_law_minus hr (pa_cons (pe_ix ix_tup (pe_ix ix_list (pv 1) pe_int (fun _ _ => rfl)) pe_int (fun _ _ => rfl)) (pa_cons (pe_tup (pa_cons pe_int (pa_cons pe_int pa_nil))) pa_nil))))
      (pss_cons (ps_set (i := 6) sc__law_shown_ok.nd rfl (Or.inl rfl) (pe_lst pa_nil))
      (pss_cons (L2N.ps_try_ases (W0 := fun _ _ _ _ => False) rfl rfl sc__law_shown_ok.nd takes0Y
          (fun W pn xe tk _ => pss_one (ps_expr (pcallY dshown_at hr tk (pa_cons (pv 0) (pa_cons (pv 5) pa_nil)))))
          (L2N.AsOk.cons (i := 7) (ts := tSuB CB) ⟨rfl, by decide, Or.inl TB.gC⟩ rfl rfl (fun a oe cls dd pn hz hf => pss_if (p := cls = .ref CB) fun e => by
                subst e
                exact pss_one (ps_set (i := 6) sc__law_shown_ok.nd rfl (Or.inl rfl) (pe_lst (pa_cons (pe_byVal TB hz.zc hf (pv 7)) pa_nil))))
          L2N.AsOk.nil))
      (pss_one (ps_ret (pcall d_law_same hr (pa_cons (pv 6) (pa_cons (pe_lst (pa_cons (pv 5) pa_nil)) pa_nil))))))))), ?_⟩
  (walk_at "vk_vc")
  refine forL (K := K) (a := ac) (xs := xs) (fun n σ G => Hold (∃ k3 k4, σ = [some (.ref ad), some (.ref ac), some (.ref ao), k3, k4, none, none, none] ∧ Same H G)) ⟨none, none, rfl, Same.refl _⟩ (fun n σ G _ h => by obtain ⟨_, _, _, s1⟩ := h; exact s1.seq hxs) ?_ ?_
  · rintro n x σ G hx ⟨k3, k4, rfl, s1⟩
    have hn : n < c.length := by have := (List.getElem?_eq_some_iff.mp hx).1; omega
    have ep : c[n]? = some c[n] := List.getElem?_eq_getElem hn
    obtain ⟨w1, y, w2, w3⟩ := shown n _ ep
    obtain ⟨zs1, zv1, zr1⟩ := cz _ (List.mem_of_getElem? ep)
    obtain ⟨d1, ds1, dv1, dr1, rfl, hd1, r11, r12, r13⟩ := (hc.2 n x _ hx ep).same s1
    generalize c[n] = pa at ep r11 r12 r13 zs1 zv1 zr1 w1 w2 w3
    have hC1 := hC.same s1
    have hO1 := hO.same s1
    have hT1 := hT.same s1
    have t4 : ∀ q, Tree 4 (dq q) := fun q => tree_dq _ _
    (walk_at "vk_vc")
    · intro q ya H2 hq e2 ry
      rw [w1] at hq
      cases hq
      have hT2 := hT1.same e2
      have hO2 := hO1.same e2
      (walk_at "vk_vc")
      · intro q2 yb H3 hq2 e3 ry2
        rw [w3] at hq2
        cases hq2
        have hO3 := hO2.same e3
        (walk_at "vk_vc")
        · intro q3 yc H4 hq3 e4 ry3
          rw [w2] at hq3
          cases hq3
          (walk_at "vk_vc")
          exact ⟨⟨_, _, rfl, Same.trans s1 (by (walk_at "vk_same"))⟩⟩
        · intro hn; rw [w2] at hn; cases hn
      · intro hn; rw [w3] at hn; cases hn
    · intro hn; rw [w1] at hn; cases hn
  · rintro σ G ⟨k3, k4, rfl, s1⟩
    have hT1 := hT.same s1
    have hx1 := s1.seq hxs
    have hd1 := s1.sqt hd0
    have r1 := r01.same s1
    (walk_at "vk_vc")
    · intro q ya H2 hq
      have hq : nowf L (p0.s - mkRat 1 1000) = some q := hq
      rw [early] at hq; cases hq
    · rename Addr => pz
      intro _ dd hdd
      refine ⟨true, xBB, fun _ e9 he => ⟨rfl, ?_⟩, nofun⟩
      refine ⟨_, rfl, rfl, rfl, dd, V.ref a, rfl, upd_same, sz1, fun t1 h1 => ?_⟩
      have tr : Tree 4 (PyData.list [dq (p0.s - mkRat 1 1000)]) := .lst (by show 1 ≤ 1000; decide) fun d hd => by
        rw [List.mem_singleton.mp hd]; exact tree_dq _ _
      have hsm := (same_new hdd (HO.xd [(("value" : Str), V.ref a)])).trans (same_new h1 (HO.lst [V.ref a]))
      have np : H' pz = none := by assumption
      have hra := (h.same (same_new np (HO.lst []))).same hsm
      have hl1 : SqL K (upd (upd (upd H' pz (HO.lst [])) dd (HO.xd [(("value" : Str), V.ref a)])) t1 (HO.lst [V.ref a])) t1 [V.ref a] := SqL.of upd_same
      have sG : Same H (upd (upd (upd H' pz (HO.lst [])) dd (HO.xd [(("value" : Str), V.ref a)])) t1 (HO.lst [V.ref a])) := ((s1.trans (by (walk_at "vk_same"))).trans (same_new np (HO.lst []))).trans hsm
      generalize upd (upd (upd H' pz (HO.lst [])) dd (HO.xd [(("value" : Str), V.ref a)])) t1 (HO.lst [V.ref a]) = G5 at hra hl1 sG ⊢
      clear hsm hdd h1 h h' e
      (walk_at "vk_vc")
      exact z _ (sG.trans (same_new ‹_› _))
end Vk

set_option maxHeartbeats 4000000
namespace Vk
open PySem L2 Vm Vl
variable {l aZERO CB CR CT CV fB fR fT : Addr} {P : Program} {w : World} {K : PySem.W.Frag} {mg : Str → Option Value} {base : Heap} {k : Nat} {f f1 f2 f3 f4 f5 f6 f7 f8 f9 : Addr} {fd fd1 fd2 fd3 fd4 fd5 fd6 fd7 fd8 fd9 : FuncData}
def dfa (n : Str) (q : Rat) : PyData := .tuple [.str n, dq q]
theorem dfa_dp {H : Hp} {t : Addr} {n : Str} {y : V} {q : Rat} (h : SqT K H t [.str n, y]) (r : Rq K H y q) : Dp K H (.ref t) (dfa n q) := .tup h (.cons (.str _) (.cons r.dp .nil))
theorem dfa_tree {n : Str} {q : Rat} (h : SeqAt.shaped (.str n) = true) : Tree 4 (dfa n q) := .tup (by show 2 ≤ 1000; decide) fun d hd => by
  simp only [List.mem_cons, List.mem_nil_iff, or_false] at hd
  rcases hd with rfl | rfl
  · exact .str h
  · exact tree_dq _ _
abbrev s__law_answer_ok : Stmt := top 56
abbrev N__law_answer_ok : List Str := ["_law_inner", "_law_outer", "_law_spoil", "_law_due_here", "_law_told"]
theorem sc__law_answer_ok : FnScope N__law_answer_ok ["_law_inner", "_law_outer", "_law_spoil"] (defScope s__law_answer_ok) := ⟨rfl, rfl, rfl, by decide +kernel, rfl, by decide +kernel, by decide +kernel⟩
abbrev ps__law_answer_ok : List Str := ["_law_inner", "_law_outer", "_law_spoil"]
/-- sizes that the answer can do with -/
structure Bz (i j m i' j' m' : Nat) : Prop where
  sum : i + i' + j + j' + m + m' + 10 ≤ 1800
  a : i + i' + j + m + 2 ≤ 1720
  b : j' + m' + j + i' + 2 ≤ 1720
  i_ : i ≤ 400
  j_ : j ≤ 1450
  m_ : m ≤ 50
  i'_ : i' ≤ 700
  j'_ : j' ≤ 1000
  m'_ : m' ≤ 50
def spAns (K : PySem.W.Frag) : Sp := fun vs H Q _ => ∃ (a b : Addr) (sp : Bool) (c o : List Pc) (p0 : Pc) (i j m i' j' m' : Nat), vs = [.ref a, .ref b, .bl sp] ∧ Cq K H a c ∧ Cq K H b o ∧ Cok c ∧ Cok o ∧ Cz i j m c ∧ Cz i' j' m' o ∧ c[0]? = some p0 ∧ 1 ≤ o.length ∧ c.length ≤ 400 ∧ o.length ≤ 400 ∧ c.length * (o.length + 1) ≤ 400 ∧ Bz i j m i' j' m' ∧
  ∀ H', Same H H' → Q (.bl true) H'
theorem ok_answer_ok (T : Bn mg) (F : Fn K mg "_law_answer_ok" s__law_answer_ok ps__law_answer_ok f fd) (d_law_due : Def P w K mg base k "_law_due" ["_law_inner", "_law_outer"] (spDue K) f1 fd1) (d_law_asked : Def P w K mg base k "_law_asked" ["_law_inner", "_law_outer"] (spAsked K) f2 fd2)
    (d_law_same : Def P w K mg base k "_law_same" ["_law_value", "_law_due_here"] (spSame K 4) f3 fd3) (d_law_chain_ok : Def P w K mg base k "_law_chain_ok" ["_law_told", "_law_inner", "_law_outer"] (spChainOk K) f4 fd4) (d_law_shown_ok : Def P w K mg base k "_law_shown_ok" ["_law_course_here", "_law_inner", "_law_outer"] (spShownOk K) f5 fd5) :
    Def P w K mg base (k + 1) "_law_answer_ok" ps__law_answer_ok (spAns K) f fd := by
  refine ⟨F.F.ok sc__law_answer_ok (fun vs H Q E h => ?_) (fun cdv A outer s H vs Q E hr h => ?_), F.m, F.F.kp, F.b⟩
  · obtain ⟨_, _, _, _, _, _, _, _, _, _, _, _, rfl, _⟩ := h
    rfl
  obtain ⟨ac, ao, sp, c, o, p0, i, j, m, i', j', m', rfl, hC, hO, okc, oko, cz, co, e0, lo1, lc, lo, lp, ⟨b1, b2, b3, b4, b5, b6, b7, b8, b9⟩, z⟩ := h
  have cn : Cz (i + (i' + j + 1 + m) + 1) (j' + (m' + (j + i' + 1)) + 1) (m + m') (ch o c) := by
    have := cz_chN okc cz co c.length
    rwa [chN_all] at this
  have lp8 : c.length * (o.length + 1) ≤ 800 := by omega
  refine ⟨_, (pss_cons (ps_set (i := 3) sc__law_answer_ok.nd rfl (Or.inl rfl) (pcall d_law_due hr (pa_cons (pv 0) (pa_cons (pv 1) pa_nil))))
      (pss_cons (ps_set (i := 4) sc__law_answer_ok.nd rfl (Or.inl rfl) (pcall d_law_asked hr (pa_cons (pv 0) (pa_cons (pv 1) pa_nil))))
      (pss_cons (ps_if (PW.pt (pw_or (pt_cmpR op_gt (pe_callB call_len_seq (by rfl) T.len_ PySem.boot_len (pa_cons (pv 3) pa_nil)) pe_int (nomark _)) (pw_or1 (pt_cmpR (op_neD hr.units) (pe_ix ix_tup (pv 4) pe_int (fun _ _ => rfl)) pe_str (nomark _)))))
        (pss_one (ps_ret (pcall d_law_same hr (pa_cons (pv 4) (pa_cons (pv 3) pa_nil)))))
        pss_nil)
      (pss_cons (ps_if (pt_not (pt_val (pcall d_law_chain_ok hr (pa_cons (pe_ix ix_tup (pv 4) pe_int (fun _ _ => rfl)) (pa_cons (pv 0) (pa_cons (pv 1) pa_nil))))))
        (pss_one (ps_ret pe_bl))
        pss_nil)
      (pss_cons (ps_if (pt_val (pv 2))
        (pss_cons (ps_expr (pe_bm0 PySem.F.plainAttrs_list PySem.F.slot_list_clear PySem.F.type_list_clear mt_clear (pe_ix ix_tup (pv 4) pe_int (fun _ _ => rfl))))
        (pss_one (ps_ret pe_bl)))
        pss_nil)
      (pss_one (ps_ret (pcall d_law_shown_ok hr (pa_cons (pe_ix ix_tup (pv 4) pe_int (fun _ _ => rfl)) (pa_cons (pv 0) (pa_cons (pv 1) pa_nil))))))))))), ?_⟩
  (walk_at "vk_vc")
  intro td H1 e1 du
  (walk_at "vk_vc")
  intro ta H2 e2 ask
  have s2 := e1.trans e2
  have hC2 := hC.same s2
  have hO2 := hO.same s2
  clear hC hO
  rcases du with ⟨k1, p, q, y, fb, ht, ry⟩ | ⟨nb, hn, y, ht, ry⟩ | ⟨nb, hg, ht⟩
  · rcases ask with ⟨k2, p', q', y', fb', ht', ry'⟩ | ⟨nb, _⟩ | ⟨nb, _⟩
    · have e := fb.uniq fb'
      subst e
      have da := dfa_dp ht' ry'
      have db := dfa_dp (e2.sqt ht) (ry.same e2)
      have tr : Tree 4 (dfa "TurnsBack" q.s) := dfa_tree (by decide +kernel)
      replace ht := e2.sqt ht
      clear ry ry'
      (walk_at "vk_vc")
      exact z _ s2
    · exact absurd nb fb.not
    · exact absurd nb fb.not
  · rcases ask with ⟨k2, p', q', y', fb', ht', ry'⟩ | ⟨nb', hn', y', ht', ry'⟩ | ⟨nb', ⟨g, hg⟩, _⟩
    · exact absurd nb fb'.not
    · have da := dfa_dp ht' ry'
      have db := dfa_dp (e2.sqt ht) (ry.same e2)
      have tr : Tree 4 (dfa "BeforeStart" p0.v) := dfa_tree (by decide +kernel)
      replace ht := e2.sqt ht
      clear ry ry'
      (walk_at "vk_vc")
      exact z _ s2
    · rw [hn] at hg; cases hg
  · rcases ask with ⟨k2, p', q', y', fb', ht', ry'⟩ | ⟨nb', hn', y', ht', ry'⟩ | ⟨nb', hg', D, us, ht', nD, hD⟩
    · exact absurd nb fb'.not
    · obtain ⟨g, hg⟩ := hg
      rw [hn'] at hg; cases hg
    · replace ht := e2.sqt ht
      have nD0 : H D = none := sameFree e1 nD
      have hraw := hD.1
      cases sp with
      | true =>
        (walk_at "vk_vc")
        exact z _ (same_upd (s2.trans e) nD0 _)
      | false =>
        (walk_at "vk_vc")
        exact z _ (s2.trans (by (walk_at "vk_same")))
end Vk

set_option maxHeartbeats 4000000
namespace Vk
open PySem L2 Vm Vl
variable {l aZERO CB CR CT CV fB fR fT : Addr} {P : Program} {w : World} {K : PySem.W.Frag} {mg : Str → Option Value} {base : Heap} {k : Nat} {f f1 f2 f3 f4 f5 f6 f7 f8 f9 : Addr} {fd fd1 fd2 fd3 fd4 fd5 fd6 fd7 fd8 fd9 : FuncData}
abbrev s__law_spare : Stmt := top 44
abbrev N__law_spare : List Str := ["_law_store_here"]
theorem sc__law_spare : FnScope N__law_spare ["_law_store_here"] (defScope s__law_spare) := ⟨rfl, rfl, rfl, by decide +kernel, rfl, by decide +kernel, by decide +kernel⟩
abbrev ps__law_spare : List Str := ["_law_store_here"]
theorem ok_spare (F : Fn K mg "_law_spare" s__law_spare ps__law_spare f fd) (d_law_take : Def P w K mg base k "_law_take" ["_law_store_here", "_law_many"] (spTake K l) f1 fd1) (d_law_frac : Def P w K mg base k "_law_frac" ["_law_n", "_law_d"] (spFrac K) f3 fd3) : Def P w K mg base (k + 1) "_law_spare" ps__law_spare (spDraw K l 5 anyQ) f fd := by
  refine ⟨F.F.ok sc__law_spare (fun vs H Q E h => ?_) (fun cdv A outer s H vs Q E hr h => ?_), F.m, F.F.kp, F.b⟩
  · obtain ⟨_, rfl, _⟩ := h
    rfl
  obtain ⟨s, rfl, hS, z⟩ := h
  refine ⟨_, (pss_cons (ps_if (pt_cmpR op_eq (pcall d_law_take hr (pa_cons (pv 0) (pa_cons pe_int pa_nil))) pe_int (nomark _))
        (pss_one (ps_ret (pe_tup (pa_cons pe_int (pa_cons pe_int pa_nil)))))
        pss_nil)
      (pss_one (ps_ret (pcall d_law_frac hr (pa_cons (pcall d_law_take hr (pa_cons (pv 0) (pa_cons pe_int pa_nil))) (pa_cons (pe_op op_add pe_int (pcall d_law_take hr (pa_cons (pv 0) (pa_cons pe_int pa_nil)))) pa_nil)))))), ?_⟩
  refine ⟨_, rfl, s, 4, rfl, hS, by decide, fun r H1 r0 r1 S1 e1 => ?_⟩
  refine ⟨rfl, _, rfl, ifD (fun _ => ?_) (fun _ => ?_)⟩
  · exact ⟨sz2, fun t ht => z _ _ (Qd.new 0 1 0 rfl rfl (by decide) trivial) (S1.same (same_new ht _)) (e1.trans (Fr.of (same_new ht _)))⟩
  refine ⟨_, rfl, s, 25, rfl, S1, by decide, fun r2 H2 r3 r4 S2 e2 => ?_⟩
  refine ⟨_, rfl, s, 6, rfl, S2, by decide, fun r5 H3 r6 r7 S3 e3 => ⟨_, _, rfl, rfl, ?_⟩⟩
  refine ⟨_, _, 5, rfl, by omega, lt2 25 (by omega) (by decide), lt2 7 (by omega) (by decide), by decide, fun v H' e hv => z _ _ ⟨_, hv, sz_mk (by omega) ?_ ?_, trivial⟩ (S3.same e) (e1.trans (e2.trans (e3.trans (Fr.of e))))⟩
  · exact lt2 25 (by omega) (by decide)
  · have : (2 : Nat) ^ 5 = 32 := by decide
    omega
def spCourseN (K : PySem.W.Frag) (l : Addr) : Sp := fun vs H Q _ => ∃ (s : Addr) (many : Nat) (fall : Bool), vs = [.ref s, .int many, .bl fall] ∧ Sto l s H ∧ many ≤ 40 ∧
  ∀ D us c H', Bun (Pq K) l s D H us c H' → c.length = many → Cok c → Cz (5 + 6 * many) (5 + 23 * many) 5 c → (∀ p, c[0]? = some p → Sz 5 p.v) → Q (.ref D) H'
theorem ok_courseN (T : Bn mg) (F : Fn K mg "_law_course" s__law_course ps__law_course f fd) (d_law_part : Def P w K mg base k "_law_part" ["_law_store_here"] (spDraw K l 5 anyQ) f1 fd1) (d_law_pace : Def P w K mg base k "_law_pace" ["_law_store_here"] (spDraw K l 5 posQ) f2 fd2)
    (d_law_above : Def P w K mg base k "_law_above" ["_law_store_here"] (spDraw K l 5 posQ) f3 fd3) (d_law_plus : Def P w K mg base k "_law_plus" ["_law_a", "_law_b"] (spOp2 K (· + ·)) f4 fd4) (d_law_times : Def P w K mg base k "_law_times" ["_law_a", "_law_b"] (spOp2 K (· * ·)) f5 fd5)
    (d_law_minus : Def P w K mg base k "_law_minus" ["_law_a", "_law_b"] (spOp2 K (· - ·)) f6 fd6) (d_law_take : Def P w K mg base k "_law_take" ["_law_store_here", "_law_many"] (spTake K l) f7 fd7) :
    Def P w K mg base (k + 1) "_law_course" ps__law_course (spCourseN K l) f fd := by
  refine ⟨F.F.ok sc__law_course (fun vs H Q E h => ?_) (fun cdv A outer s H vs Q E hr h => ?_), F.m, F.F.kp, F.b⟩
  · obtain ⟨_, _, _, rfl, _⟩ := h
    rfl
  obtain ⟨s, many, fall, rfl, hS, hm, z⟩ := h
  refine ⟨_, (pss_cons (ps_set (i := 3) sc__law_course.nd rfl (Or.inl rfl) (pcall d_law_part hr (pa_cons (pv 0) pa_nil)))
      (pss_cons (ps_set (i := 4) sc__law_course.nd rfl (Or.inl rfl) (pcall d_law_part hr (pa_cons (pv 0) pa_nil)))
      (pss_cons (ps_set (i := 5) sc__law_course.nd rfl (Or.inl rfl) (pcall d_law_pace hr (pa_cons (pv 0) pa_nil)))
      (pss_cons (ps_set (i := 6) sc__law_course.nd rfl (Or.inl rfl) (pe_lst pa_nil))
      (pss_cons (ps_for PassesOwn.never rfl (pi_range1 (by rfl) T.range_ (pa_cons (pv 1) pa_nil)) (pg_name (i := 7) sc__law_course.nd rfl (Or.inl rfl))
        (pss_cons (ps_expr (pe_bm PySem.F.plainAttrs_list PySem.F.slot_list_append PySem.F.type_list_append mt_append (pv 6) (pa_cons (pe_tup (pa_cons (pv 3) (pa_cons (pv 4) (pa_cons (pv 5) pa_nil)))) pa_nil)))
        (pss_cons (ps_set (i := 8) sc__law_course.nd rfl (Or.inl rfl) (pcall d_law_above hr (pa_cons (pv 0) pa_nil)))
        (pss_cons (ps_set (i := 3) sc__law_course.nd rfl (Or.inl rfl) (pcall d_law_plus hr (pa_cons (pv 3) (pa_cons (pv 8) pa_nil))))
        (pss_cons (ps_set (i := 4) sc__law_course.nd rfl (Or.inl rfl) (pcall d_law_plus hr (pa_cons (pv 4) (pa_cons (pcall d_law_times hr (pa_cons (pv 5) (pa_cons (pv 8) pa_nil))) pa_nil))))
        (pss_cons (ps_set (i := 9) sc__law_course.nd rfl (Or.inl rfl) (pcall d_law_take hr (pa_cons (pv 0) (pa_cons pe_int pa_nil))))
        (pss_cons (ps_if (PW.pt (pw_or (pt_cmpR op_eq (pv 9) pe_int (nomark _)) (pw_or1 (pt_cmpR op_eq (pv 9) pe_int (nomark _)))))
          (pss_one (ps_set (i := 4) sc__law_course.nd rfl (Or.inl rfl) (pcall d_law_plus hr (pa_cons (pv 4) (pa_cons (pcall d_law_above hr (pa_cons (pv 0) pa_nil)) pa_nil)))))
          pss_nil)
        (pss_cons (ps_if (PW.pt (pw_and (pt_cmpR op_eq (pv 9) pe_int (nomark _)) (pw_and1 (pt_val (pv 2)))))
          (pss_one (ps_set (i := 4) sc__law_course.nd rfl (Or.inl rfl) (pcall d_law_minus hr (pa_cons (pv 4) (pa_cons (pcall d_law_above hr (pa_cons (pv 0) pa_nil)) pa_nil)))))
          pss_nil)
        (pss_one (ps_if (PW.pt (pw_and (pt_cmpR op_ne (pv 9) pe_int (nomark _)) (pw_and1 (pt_cmpR op_ne (pv 9) pe_int (nomark _)))))
          (pss_one (ps_set (i := 5) sc__law_course.nd rfl (Or.inl rfl) (pcall d_law_pace hr (pa_cons (pv 0) pa_nil))))
          pss_nil))))))))))
      (pss_one (ps_ret (pv 6)))))))), ?_⟩
  refine ⟨_, rfl, s, rfl, hS, fun wv G1 qw S1 e1 => ?_⟩
  refine ⟨_, rfl, s, rfl, S1, fun tv G2 qt S2 e2 => ?_⟩
  refine ⟨_, rfl, s, rfl, S2, fun pv G3 qp S3 e3 => ?_⟩
  refine ⟨Nat.zero_le _, fun D hD => ?_⟩
  have p62 : (2 : Int) ^ 62 = 4611686018427387904 := by decide
  have B0 : Bun (Pq K) l s D H [] [] (upd G3 D (.lst [])) := Bun.start S3 (e1.trans (e2.trans e3)) hD
  have s4 := same_new hD (.lst [])
  obtain ⟨qw0, rw0, zw0, _⟩ := ((qw.fr e2 S1).fr e3 S2).same s4
  obtain ⟨qt0, rt0, zt0, _⟩ := (qt.fr e3 S2).same s4
  obtain ⟨qp0, rp0, zp0, pp0⟩ := qp.same s4
  refine ⟨_, rfl, _, rfl, by omega, by omega, for_range (n := ((many : Nat) : Int).toNat) (fun i σ G => ∃ (us : List V) (c : List Pc) (wv tv pv : V) (k1 k2 k3 : Option V) (qw qt qp : Rat), σ = [some (.ref s), some (.int many), some (.bl fall), some wv, some tv, some pv, some (.ref D), k1, k2, k3] ∧
      Bun (Pq K) l s D H us c G ∧ Rq K G wv qw ∧ Rq K G tv qt ∧ Rq K G pv qp ∧ Sz (5 + 6 * i) qw ∧ Sz (5 + 23 * i) qt ∧ Sz 5 qp ∧ 0 < qp ∧ c.length = i ∧ (∀ p ∈ c, p.s < qw) ∧ Cok c ∧ Cz (5 + 6 * many) (5 + 23 * many) 5 c ∧ (∀ p, c[0]? = some p → Sz 5 p.v))
    ⟨[], [], _, _, _, _, _, _, qw0, qt0, qp0, rfl, B0, rw0, rt0, rp0, zw0, zt0, zp0, pp0, rfl, nofun, ⟨nofun, fun i p q h => by simp at h⟩, nofun, nofun⟩ ?_ ?_⟩
  · rintro i σ G hi ⟨us, c, wv, tv, pv, k1, k2, k3, qw, qto, qp, rfl, B, rw1, rt1, rp1, zw, zt, zp, pp, hc, hlt, ok, cz, fz⟩
    have hi' : i < 40 := by omega
    have him : i < many := by omega
    have hul : us.length ≤ 1000 := by have := B.len; omega
    -- the piece
    refine ⟨_, rfl, .inl ⟨rfl, _, SqL.of B.at⟩, _, rfl, _, rfl, _, rfl, sm3, fun T hT => ?_⟩
    have t1 := same_new hT (.tup [wv, tv, pv])
    have B1 := B.same lastsP t1
    refine ⟨D, _, _, rfl, rfl, B1.at, le1000 hul, ?_⟩
    have B2 := B1.app lastsP (x := .ref T) (p := ⟨qw, qto, qp⟩) ⟨T, wv, tv, pv, rfl, SqT.of upd_same, rw1.same t1, rt1.same t1, rp1.same t1⟩
    have f2 : Fr D (upd G T (.tup [wv, tv, pv])) (upd (upd G T (.tup [wv, tv, pv])) D (.lst (us ++ [.ref T]))) := Fr.upd _
    have rw2 := (rw1.same t1).fr f2 ⟨_, B1.at⟩
    have rt2 := (rt1.same t1).fr f2 ⟨_, B1.at⟩
    have rp2 := (rp1.same t1).fr f2 ⟨_, B1.at⟩
    -- the step; when; told
    refine ⟨_, rfl, s, rfl, B2.1, fun sv G3 qs0 S3 e3 => ?_⟩
    have B3 := B2.fr lastsP e3 S3
    obtain ⟨qs, rs, zs, ps⟩ := qs0
    have ps : 0 < qs := ps
    have rw3 := rw2.fr e3 B2.1.some
    have rt3 := rt2.fr e3 B2.1.some
    have rp3 := rp2.fr e3 B2.1.some
    refine ⟨_, rfl, _, rfl, _, _, qw, qs, _, 5, rfl, rw3, rs, zw, zs, by omega, fun wv' G4 e4 rw4 => ?_⟩
    refine ⟨_, rfl, _, rfl, _, rfl, _, _, qp, qs, 5, 5, rfl, rp3.same e4, rs.same e4, zp, zs, by omega, fun xv G5 e5 rx => ?_⟩
    refine ⟨_, _, qto, qp * qs, _, 10, rfl, rt3.same (e4.trans e5), rx, zt, zp.mul zs, by omega, fun tv' G6 e6 rt6 => ?_⟩
    have B6 := B3.same lastsP (e4.trans (e5.trans e6))
    refine ⟨_, rfl, s, 6, rfl, B6.1, by decide, fun so G7 so0 so1 S7 e7 => ?_⟩
    have B7 := B6.fr lastsP e7 S7
    have rw7 := (rw4.same (e5.trans e6)).fr e7 B6.1.some
    have rt7 := rt6.fr e7 B6.1.some
    have rp7 := (rp3.same (e4.trans (e5.trans e6))).fr e7 B6.1.some
    have zw7 : Sz (5 + 6 * (i + 1)) (qw + qs) := (zw.add zs).mono (by omega)
    have zt7 : Sz (16 + 23 * i) (qto + qp * qs) := (zt.add (zp.mul zs)).mono (by omega)
    have lw : qw < qw + qs := lt_add_pos ps
    dsimp only [gName]
    refine cut (fun σ' G' => ∃ (tv : V) (qt : Rat), σ' = [some (.ref s), some (.int many), some (.bl fall), some wv', some tv, some pv, some (.ref D), some (.int (0 + (i : Int))), some sv, some (.int so)] ∧ Bun (Pq K) l s D H (us ++ [.ref T]) (c ++ [⟨qw, qto, qp⟩]) G' ∧ Rq K G' wv' (qw + qs) ∧ Rq K G' tv qt ∧ Rq K G' pv qp ∧ Sz (22 + 23 * i) qt) ?_ ?_
    · rintro σ' G8 ⟨tv8, qt8, rfl, B8, rw8, rt8, rp8, zt8⟩
      refine cut (fun σ' G' => ∃ (tv : V) (qt : Rat), σ' = [some (.ref s), some (.int many), some (.bl fall), some wv', some tv, some pv, some (.ref D), some (.int (0 + (i : Int))), some sv, some (.int so)] ∧ Bun (Pq K) l s D H (us ++ [.ref T]) (c ++ [⟨qw, qto, qp⟩]) G' ∧ Rq K G' wv' (qw + qs) ∧ Rq K G' tv qt ∧ Rq K G' pv qp ∧ Sz (28 + 23 * i) qt) ?_ ?_
      · rintro σ' G9 ⟨tv9, qt9, rfl, B9, rw9, rt9, rp9, zt9⟩
        -- the last if
        have okc : Cok (c ++ [⟨qw, qto, qp⟩]) := ok.snoc hlt pp
        have czc : Cz (5 + 6 * many) (5 + 23 * many) 5 (c ++ [⟨qw, qto, qp⟩]) := cz.snoc ⟨zw.mono (by omega), zt.mono (by omega), zp⟩
        have fzc : ∀ p, (c ++ [(⟨qw, qto, qp⟩ : Pc)])[0]? = some p → Sz 5 p.v := fun p hp => by
          by_cases g : i = 0
          · subst g
            have : c = [] := List.eq_nil_of_length_eq_zero hc
            subst this
            cases hp
            exact zt.mono (by omega)
          · rw [List.getElem?_append_left (by omega)] at hp
            exact fz p hp
        have ltc : ∀ p ∈ c ++ [(⟨qw, qto, qp⟩ : Pc)], p.s < qw + qs := fun p hp => by
          rcases List.mem_append.mp hp with hp | hp
          · have h1 := hlt p hp; grind
          · rw [List.mem_singleton.mp hp]
            exact lw
        have lenc : (c ++ [(⟨qw, qto, qp⟩ : Pc)]).length = i + 1 := by rw [List.length_append, hc]; rfl
        have stay : ∃ (us' : List V) (c : List Pc) (wv tv pv' : V) (k1 k2 k3 : Option V) (qw qt qp : Rat), [some (.ref s), some (.int many), some (.bl fall), some wv', some tv9, some pv, some (.ref D), some (.int (0 + (i : Int))), some sv, some (.int so)] = [some (.ref s), some (.int many), some (.bl fall), some wv, some tv, some pv', some (.ref D), k1, k2, k3] ∧
            Bun (Pq K) l s D H us' c G9 ∧ Rq K G9 wv qw ∧ Rq K G9 tv qt ∧ Rq K G9 pv' qp ∧ Sz (5 + 6 * (i + 1)) qw ∧ Sz (5 + 23 * (i + 1)) qt ∧ Sz 5 qp ∧ 0 < qp ∧ c.length = i + 1 ∧ (∀ p ∈ c, p.s < qw) ∧ Cok c ∧ Cz (5 + 6 * many) (5 + 23 * many) 5 c ∧ (∀ p, c[0]? = some p → Sz 5 p.v) :=
          ⟨_, _, _, _, _, _, _, _, _, _, _, rfl, B9, rw9, rt9, rp9, zw7, zt9.mono (by omega), zp, pp, lenc, ltc, okc, czc, fzc⟩
        refine ⟨_, rfl, rfl, _, rfl, ?_⟩
        by_cases g1 : so = 0
        · refine ifF (by rw [dT (congrArg V.int g1)]; rfl) (ifF rfl stay)
        refine ifT (by rw [dF fun e => g1 (V.int.inj e)]; rfl) ⟨_, rfl, rfl, _, rfl, ?_⟩
        by_cases g2 : so = 4
        · exact ifF (by rw [dT (congrArg V.int g2)]; rfl) stay
        refine ifT (by rw [dF fun e => g2 (V.int.inj e)]; rfl) ⟨_, rfl, s, rfl, B9.1, fun pv' G10 qn S10 e10 => ?_⟩
        obtain ⟨qn, rn, zn, pn⟩ := qn
        exact ⟨_, _, _, _, _, _, _, _, _, _, _, rfl, B9.fr lastsP e10 S10, rw9.fr e10 B9.1.some, rt9.fr e10 B9.1.some, rn, zw7, zt9.mono (by omega), zn, pn, lenc, ltc, okc, czc, fzc⟩
      · intro key
        refine ⟨_, rfl, rfl, _, rfl, ?_⟩
        have skip := key _ _ ⟨tv8, qt8, rfl, B8, rw8, rt8, rp8, zt8.mono (by omega)⟩
        by_cases g1 : so = 4
        · refine ifT (dT (congrArg V.int g1)) ⟨_, rfl, _, rfl, ?_⟩
          cases fall with
          | false => exact ifF rfl skip
          | true =>
            refine ifT rfl ⟨_, rfl, _, rfl, s, rfl, B8.1, fun av G9 qa S9 e9 => ?_⟩
            obtain ⟨qa, ra, za, _⟩ := qa
            have B9 := B8.fr lastsP e9 S9
            refine ⟨_, _, qt8, qa, _, 5, rfl, rt8.fr e9 B8.1.some, ra, zt8, za, by omega, fun tv9 G10 e10 rt10 => ?_⟩
            exact key _ _ ⟨tv9, _, rfl, B9.same lastsP e10, (rw8.fr e9 B8.1.some).same e10, rt10, (rp8.fr e9 B8.1.some).same e10, (zt8.sub za).mono (by omega)⟩
        · exact ifF (dF fun e => g1 (V.int.inj e)) (ifF rfl skip)
    · intro key
      have skip := key _ _ ⟨tv', _, rfl, B7, rw7, rt7, rp7, zt7.mono (by omega)⟩
      have doit : ∀ (Qx : Prop), True → Qx → Qx := fun _ _ h => h
      refine ⟨_, rfl, rfl, _, rfl, ?_⟩
      by_cases g1 : so = 2
      · refine ifT (dT (congrArg V.int g1)) (ifT rfl ⟨_, rfl, _, rfl, s, rfl, B7.1, fun av G8 qa S8 e8 => ?_⟩)
        obtain ⟨qa, ra, za, _⟩ := qa
        refine ⟨_, _, _, qa, _, 5, rfl, rt7.fr e8 B7.1.some, ra, zt7, za, by omega, fun tv8 G9 e9 rt9 => ?_⟩
        exact key _ _ ⟨tv8, _, rfl, (B7.fr lastsP e8 S8).same lastsP e9, (rw7.fr e8 B7.1.some).same e9, rt9, (rp7.fr e8 B7.1.some).same e9, (zt7.add za).mono (by omega)⟩
      refine ifF (dF fun e => g1 (V.int.inj e)) ⟨_, rfl, rfl, _, rfl, ?_⟩
      by_cases g2 : so = 3
      · refine ifT (dT (congrArg V.int g2)) ⟨_, rfl, _, rfl, s, rfl, B7.1, fun av G8 qa S8 e8 => ?_⟩
        obtain ⟨qa, ra, za, _⟩ := qa
        refine ⟨_, _, _, qa, _, 5, rfl, rt7.fr e8 B7.1.some, ra, zt7, za, by omega, fun tv8 G9 e9 rt9 => ?_⟩
        exact key _ _ ⟨tv8, _, rfl, (B7.fr lastsP e8 S8).same lastsP e9, (rw7.fr e8 B7.1.some).same e9, rt9, (rp7.fr e8 B7.1.some).same e9, (zt7.add za).mono (by omega)⟩
      · exact ifF (dF fun e => g2 (V.int.inj e)) skip
  · rintro σ G ⟨us, c, wv, tv, pv, k1, k2, k3, qw, qt, qp, rfl, B, rw1, rt1, rp1, zw, zt, zp, pp, hc, hlt, ok, cz, fz⟩
    exact ⟨_, rfl, z D us c G B (by omega) ok cz fz⟩
end Vk

set_option maxHeartbeats 4000000
namespace Vk
open PySem L2 Vm Vl
variable {l aZERO CB CR CT CV fB fR fT : Addr} {P : Program} {w : World} {K : PySem.W.Frag} {mg : Str → Option Value} {base : Heap} {k : Nat} {f f1 f2 f3 f4 f5 f6 f7 f8 f9 : Addr} {fd fd1 fd2 fd3 fd4 fd5 fd6 fd7 fd8 fd9 : FuncData}
theorem cutG {t u : TS} {D : Ends} {σ : L2.St} {H : Hp} (mid : L2.St → Hp → Prop) (key : ∀ σ' H', mid σ' H' → u D σ' H') (h : ∀ u' : TS, (∀ σ' H', mid σ' H' → u' D σ' H') → tSeq t u' D σ H) : tSeq t u D σ H := h u key
theorem pick_pc {H : Hp} {xs : List V} {c : List Pc} {v : V} (hc : All2 (Pq K H) xs c) (hv : v ∈ xs) : ∃ p, p ∈ c ∧ Pq K H v p := by
  obtain ⟨i, hi⟩ := List.mem_iff_getElem?.mp hv
  have lt := (List.getElem?_eq_some_iff.mp hi).1
  have ec : c[i]? = some (c[i]'(hc.1 ▸ lt)) := List.getElem?_eq_getElem _
  exact ⟨_, List.mem_of_getElem? ec, hc.2 i v _ hi ec⟩
def mv (x : Rat) (p : Pc) : Pc := ⟨p.s + x, p.v, p.r⟩
theorem cok_mv {c : List Pc} (ok : Cok c) (x : Rat) : Cok (c.map (mv x)) := by
  refine ⟨fun p hp => ?_, fun i p q ep eq => ?_⟩
  · obtain ⟨p0, h, rfl⟩ := List.mem_map.mp hp
    exact ok.1 p0 h
  · rw [List.getElem?_map] at ep eq
    obtain ⟨p0, h1, rfl⟩ := Option.map_eq_some_iff.mp ep
    obtain ⟨q0, h2, rfl⟩ := Option.map_eq_some_iff.mp eq
    have := ok.2 i p0 q0 h1 h2
    show p0.s + x < q0.s + x
    grind
theorem cz_mv {c : List Pc} {i j m n : Nat} {x : Rat} (cz : Cz i j m c) (h : Sz n x) : Cz (i + n + 1) j m (c.map (mv x)) := fun p hp => by
  obtain ⟨p0, h1, rfl⟩ := List.mem_map.mp hp
  obtain ⟨z1, z2, z3⟩ := cz p0 h1
  exact ⟨z1.add h, z2, z3⟩
abbrev s__law_moved : Stmt := top 58
abbrev N__law_moved : List Str := ["_law_store_here", "_law_inner", "_law_outer", "_law_goal", "_law_sort", "_law_by", "_law_piece"]
theorem sc__law_moved : FnScope N__law_moved ["_law_store_here", "_law_inner", "_law_outer"] (defScope s__law_moved) := ⟨rfl, rfl, rfl, by decide +kernel, rfl, by decide +kernel, by decide +kernel⟩
abbrev ps__law_moved : List Str := ["_law_store_here", "_law_inner", "_law_outer"]
def spMoved (K : PySem.W.Frag) (l : Addr) : Sp := fun vs H Q _ => ∃ (s a b : Addr) (xs os : List V) (c o : List Pc), vs = [.ref s, .ref a, .ref b] ∧ Sto l s H ∧ a ≠ s ∧ b ≠ s ∧ Ct K H a xs c ∧ Ct K H b os o ∧ Cz 80 300 5 c ∧ Cz 80 300 5 o ∧ 1 ≤ c.length ∧ 1 ≤ o.length ∧ c.length ≤ 40 ∧ o.length ≤ 40 ∧
  ∀ D us x H', Sto l s H' → Fr s H H' → H D = none → D ≠ s → Ct K H' D us (o.map (mv x)) → Sz 550 x → Q (.ref D) H'
theorem ok_moved (T : Bn mg) (F : Fn K mg "_law_moved" s__law_moved ps__law_moved f fd) (d_law_take : Def P w K mg base k "_law_take" ["_law_store_here", "_law_many"] (spTake K l) f1 fd1) (d_law_plus : Def P w K mg base k "_law_plus" ["_law_a", "_law_b"] (spOp2 K (· + ·)) f2 fd2) (d_law_minus : Def P w K mg base k "_law_minus" ["_law_a", "_law_b"] (spOp2 K (· - ·)) f3 fd3)
    (d_law_pick : Def P w K mg base k "_law_pick" ["_law_store_here", "_law_things"] (spPick K l) f4 fd4) (d_law_spare : Def P w K mg base k "_law_spare" ["_law_store_here"] (spDraw K l 5 anyQ) f5 fd5) :
    Def P w K mg base (k + 1) "_law_moved" ps__law_moved (spMoved K l) f fd := by
  refine ⟨F.F.ok sc__law_moved (fun vs H Q E h => ?_) (fun cdv A outer s H vs Q E hr h => ?_), F.m, F.F.kp, F.b⟩
  · obtain ⟨_, _, _, _, _, _, _, rfl, _⟩ := h
    rfl
  obtain ⟨s, ac, ao, xs, os, c, o, rfl, hS, n1, n2, hC, hO, cz, co, lc1, lo1, lc, lo, z⟩ := h
  have hc := hC.2
  have hlx := hc.1
  have ho := hO.2
  have hlo := ho.1
  have e0 : c[0]? = some c[0] := List.getElem?_eq_getElem (by omega)
  obtain ⟨x0, hx0, pq0⟩ := hc.at e0
  obtain ⟨d0, ds0, dv0, dr0, rfl, hd0, r01, r02, r03⟩ := id pq0
  obtain ⟨zs0, zv0, zr0⟩ := cz _ (List.mem_of_getElem? e0)
  have i0x : atI xs 0 = some (.ref d0) := at0 hx0
  obtain ⟨dva, rfl, hdva⟩ := id r02
  generalize c[0] = p0 at e0 pq0 r01 r02 r03 zs0 zv0 zr0 hdva
  have f0 : o[0]? = some o[0] := List.getElem?_eq_getElem (by omega)
  obtain ⟨y0, hy0, po0⟩ := ho.at f0
  obtain ⟨g0, gs0, gv0, gr0, rfl, hg0, s01, s02, s03⟩ := id po0
  obtain ⟨zt0, zw0, zq0⟩ := co _ (List.mem_of_getElem? f0)
  have i0y : atI os 0 = some (.ref g0) := at0 hy0
  obtain ⟨gsa, rfl, hgsa⟩ := id s01
  generalize o[0] = q0 at f0 po0 s01 s02 s03 zt0 zw0 zq0 hgsa
  have hxs : SqL K H ac xs := SqL.of hC.1
  have hos : SqL K H ao os := SqL.of hO.1
  have x32 : xs.length < 2 ^ 32 := by omega
  have x0' : 0 < xs.length := by omega
  have y32 : os.length < 2 ^ 32 := by omega
  have y0' : 0 < os.length := by omega
  refine ⟨_, (pss_cons (ps_set (i := 3) sc__law_moved.nd rfl (Or.inl rfl) (pe_ix ix_tup (pe_ix ix_list (pv 1) pe_int (fun _ _ => rfl)) pe_int (fun _ _ => rfl)))
      (pss_cons (ps_set (i := 4) sc__law_moved.nd rfl (Or.inl rfl) (pcall d_law_take hr (pa_cons (pv 0) (pa_cons pe_int pa_nil))))
      (pss_cons (ps_if (pt_cmpR op_eq (pv 4) pe_int (nomark _))
        (pss_one (ps_set (i := 3) sc__law_moved.nd rfl (Or.inl rfl) (pcall d_law_plus hr (pa_cons (pv 3) (pa_cons (pcall d_law_pick hr (pa_cons (pv 0) (pa_cons (pe_lst (pa_cons (pe_tup (pa_cons pe_int (pa_cons pe_int pa_nil))) (pa_cons (pe_tup (pa_cons pe_int (pa_cons pe_int pa_nil))) pa_nil))) pa_nil))) pa_nil)))))
        (pss_one (ps_if (pt_cmpR op_eq (pv 4) pe_int (nomark _))
          (pss_cons (ps_set (i := 3) sc__law_moved.nd rfl (Or.inl rfl) (pcall d_law_minus hr (pa_cons (pe_ix ix_tup (pcall d_law_pick hr (pa_cons (pv 0) (pa_cons (pv 1) pa_nil))) pe_int (fun _ _ => rfl)) (pa_cons (pe_ix ix_tup (pcall d_law_pick hr (pa_cons (pv 0) (pa_cons (pv 2) pa_nil))) pe_int (fun _ _ => rfl)) pa_nil))))
          (pss_one (ps_set (i := 3) sc__law_moved.nd rfl (Or.inl rfl) (pcall d_law_plus hr (pa_cons (pv 3) (pa_cons (pe_ix ix_tup (pe_ix ix_list (pv 2) pe_int (fun _ _ => rfl)) pe_int (fun _ _ => rfl)) pa_nil))))))
          (pss_one (ps_if (pt_cmpR op_gt (pv 4) pe_int (nomark _))
            (pss_one (ps_set (i := 3) sc__law_moved.nd rfl (Or.inl rfl) (pcall d_law_minus hr (pa_cons (pv 3) (pa_cons (pcall d_law_spare hr (pa_cons (pv 0) pa_nil)) pa_nil)))))
            pss_nil)))))
      (pss_cons (ps_set (i := 5) sc__law_moved.nd rfl (Or.inr rfl) (pcall d_law_minus hr (pa_cons (pv 3) (pa_cons (pe_ix ix_tup (pe_ix ix_list (pv 2) pe_int (fun _ _ => rfl)) pe_int (fun _ _ => rfl)) pa_nil))))
      (pss_one (ps_ret (pe_lc (own := [("_law_piece", 6)]) (g := gName 6) (tt := tYes) rfl sc__law_moved.nd (pi_list (pv 2)) (blkOk_by (N := N__law_moved) (sc := defScope s__law_moved) (by decide +kernel)) (fun _ _ _ _ _ => pg_name (i := 6) sc__law_moved.nd rfl (Or.inl rfl)) (fun _ _ _ _ _ => pts_nil) (fun _ _ _ _ _ => (pe_tup (pa_cons (pcall d_law_plus hr (pa_cons (pe_ix (show IxR _ (rIxT K) from ix_tup) (pv 6) pe_int (fun _ _ => rfl)) (pa_cons (pv 5) pa_nil))) (pa_cons (pe_ix (show IxR _ (rIxT K) from ix_tup) (pv 6) pe_int (fun _ _ => rfl)) (pa_cons (pe_ix (show IxR _ (rIxT K) from ix_tup) (pv 6) pe_int (fun _ _ => rfl)) pa_nil)))))))))))), ?_⟩
  refine ⟨_, rfl, ac, xs, _, _, rfl, rfl, hxs, i0x, d0, _, _, _, rfl, rfl, hd0, at1 rfl, ?_⟩
  refine ⟨_, rfl, s, 6, rfl, hS, by decide, fun r H1 r0 r1 S1 e1 => ?_⟩
  have q1 := r02.fr e1 hS.some
  have hdva1 := sqt_fr e1 hS.some hdva
  have hC1 := hC.fr e1 hS.some n1
  have hO1 := hO.fr e1 hS.some n2
  have hg1 := sqt_fr e1 hS.some hg0
  have hgs1 := s01.fr e1 hS.some
  dsimp only [gName]
  refine cutG (fun σ' G => ∃ (va : Addr) (q : Rat) (k4 : Option V), σ' = [some (.ref s), some (.ref ac), some (.ref ao), some (.ref va), k4, none, none] ∧ Rq K G (.ref va) q ∧ Sz 465 q ∧ Sto l s G ∧ Fr s H G) ?_ ?_
  · rintro σ G ⟨va, q, k4, rfl, ra, za, SG, eG⟩
    have hOg := hO.fr eG hS.some n2
    have hgg := sqt_fr eG hS.some hg0
    have hgsg := s01.fr eG hS.some
    have hoyg : SqL K G ao os := SqL.of hOg.1
    clear hC1 hO1 hg1 hgs1 q1 hdva1 e1 S1
    (walk_at "vk_vc")
    rename Addr => D
    have np : H' D = none := by assumption
    have hO2 := hOg.same e
    have hx2 : SqL K H' ao os := SqL.of hO2.1
    have zx : Sz 550 (q - q0.s) := (za.sub zt0).mono (by decide)
    have hD0 : H D = none := by
      have h1 : G D = none := sameFree e np
      exact eG.free h1 (SG.ne h1)
    refine lcAll (R := Pq K) (R' := Pq K) lastsPq (fun p => some (mv (q - q0.s) p)) np hx2 hO2.2 (by omega) ?_ ?_
    · intro n y p G2 ec pq s1 Y N hY hN
      obtain ⟨d, ds, dv, dr, rfl, hd, r1, r2, r3⟩ := pq.same s1
      obtain ⟨zp1, zp2, zp3⟩ := co p (List.mem_of_getElem? ec)
      have h2 := h.same s1
      clear h h'
      (walk_at "vk_vc")
      exact hY _ _ _ (e.trans (same_new np _)) rfl ⟨_, _, _, _, rfl, SqT.of upd_same, h.same (same_new np _), (r2.same e).same (same_new np _), (r3.same e).same (same_new np _)⟩
    · intro us G2 s2 hD2 hA2
      have ee : ∀ c : List Pc, c.filterMap (fun p => some (mv (q - q0.s) p)) = c.map (mv (q - q0.s)) := fun c => by
        induction c with
        | nil => rfl
        | cons a c ih => rw [List.filterMap_cons, ih]; rfl
      rw [ee] at hA2
      exact z D us (q - q0.s) G2 (SG.same (e.trans s2)) (eG.trans (Fr.of (e.trans s2))) hD0 (SG.ne (sameFree e np)) ⟨hD2, hA2⟩ zx
  · intro u' key
    have hxs1 : SqL K H1 ac xs := SqL.of hC1.1
    have hos1 : SqL K H1 ao os := SqL.of hO1.1
    have fin : ∀ a q H' m k4, Rq K H' (.ref a) q → Sz m q → m ≤ 465 → Sto l s H' → Fr s H H' → u' { nx := fun _ H' => Q .non H', rt := Q } [some (.ref s), some (.ref ac), some (.ref ao), some (.ref a), some (.int k4), none, none] H' := fun a q H' m k4 h1 h2 h3 h4 h5 => key _ _ ⟨a, q, _, rfl, h1, h2.mono h3, h4, h5⟩
    have gotc : ∀ v G', v ∈ xs → Fr s H1 G' → ∃ (pa pva : Addr) (ps pr : V) (pp : Pc), v = .ref pa ∧ SqT K G' pa [ps, .ref pva, pr] ∧ Rq K G' (.ref pva) pp.v ∧ Sz 300 pp.v := fun v G' hv e => by
      obtain ⟨pp, hm, pq⟩ := pick_pc hC1.2 hv
      obtain ⟨pa, ps, pv, pr, rfl, h1, h2, h3, h4⟩ := pq.fr e S1.some
      obtain ⟨pva, rfl, h5⟩ := id h3
      exact ⟨pa, pva, ps, pr, pp, rfl, h1, h3, (cz pp hm).2.1⟩
    have goto : ∀ v G', v ∈ os → Fr s H1 G' → ∃ (pa psa : Addr) (pv pr : V) (pp : Pc), v = .ref pa ∧ SqT K G' pa [.ref psa, pv, pr] ∧ Rq K G' (.ref psa) pp.s ∧ Sz 80 pp.s := fun v G' hv e => by
      obtain ⟨pp, hm, pq⟩ := pick_pc hO1.2 hv
      obtain ⟨pa, ps, pv, pr, rfl, h1, h2, h3, h4⟩ := pq.fr e S1.some
      obtain ⟨psa, rfl, h5⟩ := id h2
      exact ⟨pa, psa, pv, pr, pp, rfl, h1, h2, (co pp hm).1⟩
    have zm1 : Sz (300 + 10 + 1) p0.v := zv0.mono (by decide)
    (walk_at "vk_vc")
    · intro v G2 hv S2 e2
      have : ∃ q, Rq K G2 v q ∧ Sz 10 q := by
        simp only [List.mem_cons, List.not_mem_nil, or_false] at hv
        rcases hv with rfl | rfl <;> (apply Exists.intro; apply And.intro; (walk_at "vk_vc"); all_goals decide +kernel)
      obtain ⟨q2, rq2, zq2⟩ := this
      obtain ⟨va2, rfl, hva2⟩ := id rq2
      have zz2 := zv0.add zq2
      (walk_at "vk_vc")
      refine' fin _ _ _ _ _ h zz2 ?_ ?_ ?_ <;> ((walk_at "vk_vc"); done)
    · intro v G2 hv S2 e2
      obtain ⟨pa, pva, ps, pr, pp, rfl, g1, g2, g3⟩ := gotc v G2 hv e2
      (walk_at "vk_vc")
      intro v G3 hv3 S3 e3
      obtain ⟨pb, psb, pv2, pr2, pq, rfl, k1, k2, k3⟩ := goto v G3 hv3 (by focus (walk_at "vk_fr"))
      have zz2 := g3.sub k3
      have zz3 := zz2.add zt0
      (walk_at "vk_vc")
      refine' fin _ _ _ _ _ h zz3 ?_ ?_ ?_ <;> ((walk_at "vk_vc"); done)
    · refine' fin _ _ _ _ _ h (zv0.sub zq) ?_ ?_ ?_ <;> ((walk_at "vk_vc"); done)
    · exact fin _ _ _ _ _ q1 zv0 (by decide) S1 e1
end Vk

set_option maxHeartbeats 4000000
namespace Vk
open PySem L2 Vm Vl
variable {l aZERO CB CR CT CV fB fR fT : Addr} {P : Program} {w : World} {K : PySem.W.Frag} {mg : Str → Option Value} {base : Heap} {k : Nat} {f f1 f2 f3 f4 f5 f6 f7 f8 f9 : Addr} {fd fd1 fd2 fd3 fd4 fd5 fd6 fd7 fd8 fd9 : FuncData}
theorem frAt {s b : Addr} {o : HO} {H H' : Hp} (e : Fr s H H') (n : b ≠ s) (h : H b = some o) : H' b = some o := e b o h n
theorem All2.set {α : Type} {R : V → α → Prop} {xs : List V} {c : List α} {x : V} {p : α} (h : All2 R xs c) (r : R x p) (j : Nat) : All2 R (xs.set j x) (c.set j p) := by
  refine ⟨by rw [List.length_set, List.length_set]; exact h.1, fun i y q hy hq => ?_⟩
  rw [List.getElem?_set] at hy hq
  by_cases e : j = i
  · rw [if_pos e] at hy hq
    split at hy
    · split at hq
      · cases Option.some.inj hy; cases Option.some.inj hq; exact r
      · cases hq
    · cases hy
  · rw [if_neg e] at hy hq
    exact h.2 i y q hy hq
theorem Bun.set {α : Type} {R : Hp → V → α → Prop} {s D : Addr} {H0 G : Hp} {us : List V} {c : List α} {x : V} {p : α} (h : Bun R l s D H0 us c G) (L : Lasts R) (r : R G x p) (j : Nat) : Bun R l s D H0 (us.set j x) (c.set j p) (upd G D (.lst (us.set j x))) := by
  obtain ⟨h1, h2, h3, h4, h5, h6, h7⟩ := h
  have fr : Fr D G (upd G D (.lst (us.set j x))) := Fr.upd _
  refine ⟨h1.upd h3 h4, fun b o hb hn => ?_, h3, h4, h5, upd_same, (h7.imp fun _ _ r => L fr ⟨_, h6⟩ r).set (L fr ⟨_, h6⟩ r) j⟩
  rw [upd_ne (ne_of_none hb h5)]
  exact h2 b o hb hn
theorem Cok.set {c : List Pc} {n : Nat} {p q : Pc} (ok : Cok c) (e : c[n]? = some p) (h1 : q.s = p.s) (h2 : q.r = p.r) : Cok (c.set n q) := cok_set ok e h1 h2
abbrev s__law_long_ok : Stmt := top 59
abbrev N__law_long_ok : List Str := ["_law_store_here", "_law_inner", "_law_value", "_law_outer"]
theorem sc__law_long_ok : FnScope N__law_long_ok ["_law_store_here"] (defScope s__law_long_ok) := ⟨rfl, rfl, rfl, by decide +kernel, rfl, by decide +kernel, by decide +kernel⟩
abbrev ps__law_long_ok : List Str := ["_law_store_here"]
def spLong (K : PySem.W.Frag) (l : Addr) : Sp := fun vs H Q _ => ∃ (s : Addr), vs = [.ref s] ∧ Sto l s H ∧ ∀ H', Sto l s H' → Fr s H H' → Q (.bl true) H'
theorem ok_long (T : Bn mg) (F : Fn K mg "_law_long_ok" s__law_long_ok ps__law_long_ok f fd) (d_law_course : Def P w K mg base k "_law_course" ["_law_store_here", "_law_many", "_law_fall"] (spCourseN K l) f1 fd1) (d_law_line : Def P w K mg base k "_law_line" ["_law_piece", "_law_t"] (spShown K) f2 fd2) (d_law_minus : Def P w K mg base k "_law_minus" ["_law_a", "_law_b"] (spOp2 K (· - ·)) f3 fd3)
    (d_law_pick : Def P w K mg base k "_law_pick" ["_law_store_here", "_law_things"] (spPick K l) f4 fd4) (d_law_spare : Def P w K mg base k "_law_spare" ["_law_store_here"] (spDraw K l 5 anyQ) f5 fd5) (d_law_part : Def P w K mg base k "_law_part" ["_law_store_here"] (spDraw K l 5 anyQ) f6 fd6) (d_law_pace : Def P w K mg base k "_law_pace" ["_law_store_here"] (spDraw K l 5 posQ) f7 fd7)
    (d_law_answer_ok : Def P w K mg base k "_law_answer_ok" ["_law_inner", "_law_outer", "_law_spoil"] (spAns K) f8 fd8) : Def P w K mg base (k + 1) "_law_long_ok" ps__law_long_ok (spLong K l) f fd := by
  refine ⟨F.F.ok sc__law_long_ok (fun vs H Q E h => ?_) (fun cdv A outer s H vs Q E hr h => ?_), F.m, F.F.kp, F.b⟩
  · obtain ⟨_, rfl, _⟩ := h
    rfl
  obtain ⟨s, rfl, hS, z⟩ := h
  refine ⟨_, (pss_cons (ps_set (i := 1) sc__law_long_ok.nd rfl (Or.inl rfl) (pcall d_law_course hr (pa_cons (pv 0) (pa_cons pe_int (pa_cons pe_bl pa_nil)))))
      (pss_cons (ps_set (i := 2) sc__law_long_ok.nd rfl (Or.inl rfl) (pcall d_law_line hr (pa_cons (pe_ix ix_list (pv 1) pe_int (fun _ _ => rfl)) (pa_cons (pe_ix ix_tup (pe_ix ix_list (pv 1) pe_int (fun _ _ => rfl)) pe_int (fun _ _ => rfl)) pa_nil))))
      (pss_cons (ps_set (i := 2) sc__law_long_ok.nd rfl (Or.inl rfl) (pcall d_law_minus hr (pa_cons (pv 2) (pa_cons (pcall d_law_pick hr (pa_cons (pv 0) (pa_cons (pe_lst (pa_cons (pe_tup (pa_cons pe_int (pa_cons pe_int pa_nil))) (pa_cons (pe_tup (pa_cons pe_int (pa_cons pe_int pa_nil))) (pa_cons (pe_tup (pa_cons pe_int (pa_cons pe_int pa_nil))) (pa_cons (pe_tup (pa_cons pe_int (pa_cons pe_int pa_nil))) pa_nil))))) pa_nil))) pa_nil))))
      (pss_cons (ps_asg (pe_tup (pa_cons (pe_ix ix_tup (pe_ix ix_list (pv 1) pe_int (fun _ _ => rfl)) pe_int (fun _ _ => rfl)) (pa_cons (pv 2) (pa_cons (pe_ix ix_tup (pe_ix ix_list (pv 1) pe_int (fun _ _ => rfl)) pe_int (fun _ _ => rfl)) pa_nil)))) (pg_sub (pv 1) pe_int set_list))
      (pss_cons (ps_set (i := 3) sc__law_long_ok.nd rfl (Or.inl rfl) (pe_lst (pa_cons (pe_tup (pa_cons (pcall d_law_minus hr (pa_cons (pe_ix ix_tup (pe_ix ix_list (pv 1) pe_int (fun _ _ => rfl)) pe_int (fun _ _ => rfl)) (pa_cons (pcall d_law_spare hr (pa_cons (pv 0) pa_nil)) pa_nil))) (pa_cons (pcall d_law_part hr (pa_cons (pv 0) pa_nil)) (pa_cons (pcall d_law_pace hr (pa_cons (pv 0) pa_nil)) pa_nil)))) pa_nil)))
      (pss_one (ps_ret (pcall d_law_answer_ok hr (pa_cons (pv 1) (pa_cons (pv 3) (pa_cons pe_bl pa_nil))))))))))), ?_⟩
  (walk_at "vk_vc")
  · exact Nat.le_refl _
  intro D us c H1 B hl ok cz fz
  replace hl : c.length = 40 := hl
  have hul := B.len
  have S1 := B.1
  have cz : Cz 245 925 5 c := cz
  have e0 : c[0]? = some c[0] := List.getElem?_eq_getElem (by omega)
  obtain ⟨x0, hx0, pq0⟩ := B.2.2.2.2.2.2.at e0
  obtain ⟨d0, ds0, dv0, dr0, rfl, hd0, r01, r02, r03⟩ := id pq0
  have z00 := fz _ e0
  have i0x : atI us 0 = some (.ref d0) := at0 hx0
  generalize c[0] = p0 at e0 pq0 r01 r02 r03 z00
  have e38 : c[38]? = some c[38] := List.getElem?_eq_getElem (by omega)
  obtain ⟨xm, hxm, pm⟩ := B.2.2.2.2.2.2.at e38
  obtain ⟨zs8, zv8, zr8⟩ := cz _ (List.mem_of_getElem? e38)
  have i38 : atI us 38 = some xm := at_of (j := 38) rfl hxm
  generalize c[38] = pm' at e38 pm zs8 zv8 zr8
  have e39 : c[39]? = some c[39] := List.getElem?_eq_getElem (by omega)
  obtain ⟨xn, hxn, pn⟩ := B.2.2.2.2.2.2.at e39
  obtain ⟨dn, dsn, dvn, drn, rfl, hdn, rn1, rn2, rn3⟩ := id pn
  obtain ⟨zs, zv, zr⟩ := cz _ (List.mem_of_getElem? e39)
  have i39 : atI us 39 = some (.ref dn) := at_of (j := 39) rfl hxn
  have hD : SqL K H1 D us := SqL.of B.at
  generalize c[39] = pl at e39 pn rn1 rn2 rn3 zs zv zr
  obtain ⟨dna, rfl, hdna⟩ := id rn1
  have hs := S1.some
  have nDs := B.2.2.1
  have hraw := B.at
  have hix : ixN us.length 39 = some 39 := by rw [hul, hl]; rfl
  have zz : Sz 1422 (pm'.v + pm'.r * (pl.s - pm'.s)) := (zv8.add (zr8.mul (zs.sub zs8))).mono (by decide)
  have f0 := B.2.1
  dsimp only [gName]
  refine cutG (fun σ' G => ∃ va q, σ' = [some (.ref s), some (.ref D), some (.ref va), none] ∧ Rq K G (.ref va) q ∧ Sz 1422 q ∧ Sto l s G ∧ Fr s H1 G) ?_ ?_
  rotate_left
  · intro u' key
    (walk_at "vk_vc")
    exact key _ _ ⟨_, _, rfl, h, zz, S1.same e, Fr.of e⟩
  clear zz zs8 zv8 zr8 e38 i38 hxm pm
  rintro σ G2 ⟨va, q, rfl, ra, zz, S2, f2⟩
  obtain ⟨_, ea, hva⟩ := id ra
  cases ea
  have fq := f0.trans f2
  replace hraw := f2 _ _ hraw nDs
  replace hdn := sqt_fr f2 hs hdn
  replace hd0 := sqt_fr f2 hs hd0
  replace rn1 := rn1.fr f2 hs
  replace rn3 := rn3.fr f2 hs
  replace r02 := r02.fr f2 hs
  replace pq0 := pq0.fr f2 hs
  replace B := B.fr lastsPq f2 S2
  clear hdna pn hxn hD rn2 r01 r03 hs S1 f2
  refine cutG (fun σ' G => ∃ va q, σ' = [some (.ref s), some (.ref D), some (.ref va), none] ∧ Rq K G (.ref va) q ∧ Sz 1433 q ∧ Sto l s G ∧ Fr s G2 G) ?_ ?_
  rotate_left
  · intro u' key
    (walk_at "vk_vc")
    intro v2 G3 hv2 S3 e2
    have : ∃ q, Rq K G3 v2 q ∧ Sz 10 q := by
      simp only [List.mem_cons, List.not_mem_nil, or_false] at hv2
      rcases hv2 with rfl | rfl | rfl | rfl <;> (apply Exists.intro; apply And.intro; (walk_at "vk_vc"); all_goals first | exact zl01 | exact zl1m | exact zl11 | exact zlh1)
    obtain ⟨q2, rq2, zq2⟩ := this
    obtain ⟨q2a, rfl, hq2a⟩ := id rq2
    have zz3 : Sz 1433 (q - q2) := zz.sub zq2
    (walk_at "vk_vc")
    refine key _ _ ⟨_, _, rfl, h, zz3, ?_, ?_⟩ <;> ((walk_at "vk_vc"); done)
  clear ra hva zz q va
  rintro σ G3 ⟨va, q, rfl, ra, zz, S3, f2⟩
  obtain ⟨_, ea, hva⟩ := id ra
  cases ea
  have hs := S2.some
  replace fq := fq.trans f2
  replace hraw := f2 _ _ hraw nDs
  replace hdn := sqt_fr f2 hs hdn
  replace hd0 := sqt_fr f2 hs hd0
  replace rn1 := rn1.fr f2 hs
  replace rn3 := rn3.fr f2 hs
  replace r02 := r02.fr f2 hs
  replace pq0 := pq0.fr f2 hs
  replace B := B.fr lastsPq f2 S3
  clear hs f2 S2
  have hD3 : SqL K G3 D us := SqL.of hraw
  have hs3 := S3.some
  refine cutG (fun σ' G => ∃ us c k2, σ' = [some (.ref s), some (.ref D), k2, none] ∧ Bun (Pq K) l s D H us c G ∧ c.length = 40 ∧ Cok c ∧ Cz 245 1433 5 c ∧ ∃ p0, c[0]? = some p0 ∧ Sz 5 p0.v) ?_ ?_
  rotate_left
  · intro u' key
    (walk_at "vk_vc")
    have Bn : Bun (Pq K) l s D H (us.set 39 (.ref p)) (c.set 39 ⟨pl.s, q, pl.r⟩) (upd (upd G3 p (.tup [.ref dna, .ref va, drn])) D (.lst (us.set 39 (.ref p)))) :=
      Bun.set (p := ⟨pl.s, q, pl.r⟩) (B.same lastsPq (same_new np _)) lastsPq ⟨p, .ref dna, .ref va, drn, rfl, SqT.of upd_same, rn1.same (same_new np _), ra.same (same_new np _), rn3.same (same_new np _)⟩ 39
    refine key _ _ ⟨_, _, _, rfl, Bn, by rw [List.length_set]; exact hl, ok.set e39 rfl rfl, fun x hx => ?_, p0, ?_, z00⟩
    · rcases List.mem_or_eq_of_mem_set hx with hx | rfl
      · exact ⟨(cz x hx).1, (cz x hx).2.1.mono (by decide), (cz x hx).2.2⟩
      · exact ⟨zs, zz, zr⟩
    · rw [List.getElem?_set_ne (by decide)]
      exact e0
  clear B hD3 hraw hdn hd0 rn1 rn3 r02 pq0 e0 e39 cz ok zz ra hva zs zv zr i0x hx0 hul hl hix i39 z00 S3 hs3 fz fq
  rintro σ G4 ⟨us, c, k2, rfl, B, hl, ok, cz, p0, e0, z0⟩
  obtain ⟨x0, hx0, pq0⟩ := B.2.2.2.2.2.2.at e0
  obtain ⟨d0, ds0, dv0, dr0, rfl, hd0, r01, r02, r03⟩ := id pq0
  have i0x : atI us 0 = some (.ref d0) := at0 hx0
  have S4 := B.1
  have hT : Ct K G4 D us c := ⟨B.at, B.2.2.2.2.2.2⟩
  have hD4 : SqL K G4 D us := SqL.of B.at
  have fr4 := B.2.1
  clear B hx0 pq0 r01 r03
  have nDs4 : D ≠ s := nDs
  have hs4 := S4.some
  have fx : Fr s G4 G4 := Fr.refl _ _
  refine cutG (fun σ' G => ∃ D2 po, σ' = [some (.ref s), some (.ref D), k2, some (.ref D2)] ∧ Sto l s G ∧ Fr s G4 G ∧ Cq K G D2 [po] ∧ 0 < po.r ∧ Sz 11 po.s ∧ Sz 5 po.v ∧ Sz 5 po.r) ?_ ?_
  rotate_left
  · intro u' key
    have zz2 : ∀ q, Sz 5 q → Sz 11 (p0.v - q) := fun q hq => z0.sub hq
    (walk_at "vk_vc")
    rename_i aq qm Hm hm hm' zqm okqm Sm em a1 H1' e1 h1 h1' ap qp Hp' hp hp' zqp okqp Sp ep pt npt
    have n1 := same_new npt (HO.tup [.ref a1, .ref ap, .ref a])
    have hpo : Pq K (upd (upd H' pt (HO.tup [.ref a1, .ref ap, .ref a])) p (HO.lst [.ref pt])) (.ref pt) ⟨p0.v - qm, qp, q⟩ :=
      ⟨pt, .ref a1, .ref ap, .ref a, rfl, (same_new np _).sqt (SqT.of upd_same), (by (walk_at "vk_cl")), (by (walk_at "vk_cl")), (by (walk_at "vk_cl"))⟩
    refine key _ _ ⟨_, _, rfl, ?_, ?_, ⟨[_], SqL.of upd_same, All2.one hpo⟩, okq, zz2 _ zqm, zqp, zq⟩ <;> ((walk_at "vk_vc"); done)
  rintro σ G5 ⟨D2, po, rfl, S5, f5, hO, rp, zo1, zo2, zo3⟩
  have hC5 : Cq K G5 D c := (hT.fr f5 hs4 nDs).cq
  have f6 := fr4.trans f5
  have oko : Cok [po] := ⟨fun p hp => by rw [List.mem_singleton.mp hp]; exact rp, fun i p q h1 h2 => by simp at h2⟩
  have coz : Cz 11 5 5 [po] := fun p hp => by rw [List.mem_singleton.mp hp]; exact ⟨zo1, zo2, zo3⟩
  have bz : Bz 245 1433 5 11 5 5 := ⟨by decide, by decide, by decide, by decide, by decide, by decide, by decide, by decide, by decide⟩
  have lo1 : 1 ≤ [po].length := Nat.le_refl _
  have lo4 : [po].length ≤ 400 := by show 1 ≤ 400; decide
  have lcp : c.length * ([po].length + 1) ≤ 400 := by rw [hl]; show 40 * (1 + 1) ≤ 400; decide
  have lc4 : c.length ≤ 400 := by omega
  clear hT hD4 r02 hd0 i0x fx
  (walk_at "vk_vc")
  exact z _ (S5.same e) (f6.trans (Fr.of e))
end Vk

set_option maxHeartbeats 4000000
namespace Vk
open PySem L2 Vm Vl
variable {P : Program} {w : World} {K : PySem.W.Frag} {mg : Str → Option Value} {base : Heap} {k : Nat} {f f1 f2 f3 f4 f5 f6 f7 f8 f9 f10 f11 f12 : Addr} {fd fd1 fd2 fd3 fd4 fd5 fd6 fd7 fd8 fd9 fd10 fd11 fd12 : FuncData}
def spLaw (K : PySem.W.Frag) : Sp := fun vs H Q _ => ∃ (a : Addr) (ns : List Int), vs = [.ref a] ∧ SqL K H a (ns.map V.int) ∧ ns.length ≤ 63 ∧ ∀ H', Q (.bl true) H'
abbrev s_law : Stmt := top 60
abbrev N_law : List Str := ["_law_script", "_law_store_here", "_law_many", "_law_inner", "_law_second", "_law_outer"]
theorem sc_law : FnScope N_law ["_law_script"] (defScope s_law) := ⟨rfl, rfl, rfl, by decide +kernel, rfl, by decide +kernel, by decide +kernel⟩
abbrev ps_law : List Str := ["_law_script"]
theorem ok_law (T : Bn mg) (F : Fn K mg "law" s_law ps_law f fd) (d_law_store : Def P w K mg base k "_law_store" ["_law_script"] (spStore K) f1 fd1) (d_law_take : ∀ l, Def P w K mg base k "_law_take" ["_law_store_here", "_law_many"] (spTake K l) f2 fd2) (d_law_course : ∀ l, Def P w K mg base k "_law_course" ["_law_store_here", "_law_many", "_law_fall"] (spCourseN K l) f3 fd3)
    (d_law_moved : ∀ l, Def P w K mg base k "_law_moved" ["_law_store_here", "_law_inner", "_law_outer"] (spMoved K l) f4 fd4) (d_law_long_ok : ∀ l, Def P w K mg base k "_law_long_ok" ["_law_store_here"] (spLong K l) f5 fd5) (d_law_answer_ok : Def P w K mg base k "_law_answer_ok" ["_law_inner", "_law_outer", "_law_spoil"] (spAns K) f6 fd6) : Def P w K mg base (k + 1) "law" ps_law (spLaw K) f fd := by
  have d_law_take := Def.ex d_law_take
  have d_law_course := Def.ex d_law_course
  have d_law_moved := Def.ex d_law_moved
  have d_law_long_ok := Def.ex d_law_long_ok
  refine ⟨F.F.ok sc_law (fun vs H Q E h => ?_) (fun cdv A outer s H vs Q E hr h => ?_), F.m, F.F.kp, F.b⟩
  · obtain ⟨_, _, rfl, _⟩ := h
    rfl
  obtain ⟨sa, ns, rfl, hS, hl, z⟩ := h
  refine ⟨_, (pss_cons (ps_set (i := 1) sc_law.nd rfl (Or.inl rfl) (pcall d_law_store hr (pa_cons (pv 0) pa_nil)))
      (pss_cons (ps_set (i := 2) sc_law.nd rfl (Or.inl rfl) (pe_ifExp (pt_cmpR op_eq (pcall d_law_take hr (pa_cons (pv 1) (pa_cons pe_int pa_nil))) pe_int (nomark _)) pe_int pe_int))
      (pss_cons (ps_set (i := 3) sc_law.nd rfl (Or.inl rfl) (pcall d_law_course hr (pa_cons (pv 1) (pa_cons (pe_op op_add pe_int (pcall d_law_take hr (pa_cons (pv 1) (pa_cons (pv 2) pa_nil)))) (pa_cons (pe_cmpR op_eq (pcall d_law_take hr (pa_cons (pv 1) (pa_cons pe_int pa_nil))) pe_int (nomark _)) pa_nil)))))
      (pss_cons (ps_set (i := 4) sc_law.nd rfl (Or.inl rfl) (pcall d_law_course hr (pa_cons (pv 1) (pa_cons (pe_op op_add pe_int (pcall d_law_take hr (pa_cons (pv 1) (pa_cons pe_int pa_nil)))) (pa_cons (pe_cmpR op_eq (pcall d_law_take hr (pa_cons (pv 1) (pa_cons pe_int pa_nil))) pe_int (nomark _)) pa_nil)))))
      (pss_cons (ps_set (i := 5) sc_law.nd rfl (Or.inl rfl) (pcall d_law_course hr (pa_cons (pv 1) (pa_cons (pe_op op_add pe_int (pcall d_law_take hr (pa_cons (pv 1) (pa_cons (pv 2) pa_nil)))) (pa_cons (pe_cmpR op_gt (pcall d_law_take hr (pa_cons (pv 1) (pa_cons pe_int pa_nil))) pe_int (nomark _)) pa_nil)))))
      (pss_cons (ps_set (i := 5) sc_law.nd rfl (Or.inl rfl) (pcall d_law_moved hr (pa_cons (pv 1) (pa_cons (pv 3) (pa_cons (pv 5) pa_nil)))))
      (pss_cons (ps_if (PW.pt (pw_and (pt_cmpR op_eq (pcall d_law_take hr (pa_cons (pv 1) (pa_cons pe_int pa_nil))) pe_int (nomark _)) (pw_and1 (pt_not (pt_val (pcall d_law_long_ok hr (pa_cons (pv 1) pa_nil)))))))
        (pss_one (ps_ret pe_bl))
        pss_nil)
      (pss_cons (ps_if (PW.pt (pw_or (pt_not (pt_val (pcall d_law_answer_ok hr (pa_cons (pv 3) (pa_cons (pv 5) (pa_cons pe_bl pa_nil)))))) (pw_or1 (pt_not (pt_val (pcall d_law_answer_ok hr (pa_cons (pv 4) (pa_cons (pv 5) (pa_cons pe_bl pa_nil)))))))))
        (pss_one (ps_ret pe_bl))
        pss_nil)
      (pss_one (ps_ret (pcall d_law_answer_ok hr (pa_cons (pv 3) (pa_cons (pv 5) (pa_cons pe_bl pa_nil)))))))))))))), ?_⟩
  have t2 : (2 : Int) < 2 ^ 64 := by decide
  (walk_at "vk_vc")
  intro s l H1 e1 _ S1
  have hs1 := S1.some
  dsimp only [gName]
  refine cutG (fun σ' G => ∃ m : Nat, σ' = [some (.ref sa), some (.ref s), some (.int m), none, none, none] ∧ (m = 12 ∨ m = 6) ∧ Sto l s G) ?_ ?_
  rotate_left
  · intro u' key
    refine ⟨_, rfl, l, s, 8, rfl, S1, by decide, fun r8 H2 r80 r81 S2 e2 => ⟨rfl, _, rfl, ifD (fun _ => ?_) (fun _ => ?_)⟩⟩
    · exact key _ _ ⟨12, rfl, .inl rfl, S2⟩
    · exact key _ _ ⟨6, rfl, .inr rfl, S2⟩
  clear e1 S1 hs1
  rintro σ H2 ⟨m, rfl, hm, S2⟩
  refine cutG (fun σ' G => ∃ D us c, σ' = [some (.ref sa), some (.ref s), some (.int m), some (.ref D), none, none] ∧ Sto l s G ∧ D ≠ s ∧ Ct K G D us c ∧ Cok c ∧ 1 ≤ c.length ∧ c.length ≤ 12 ∧ Cz 80 300 5 c) ?_ ?_
  rotate_left
  · intro u' key
    refine ⟨_, rfl, _, rfl, _, rfl, l, s, m, rfl, S2, (by omega), fun r Ha r0 r1 Sa ea => ⟨_, _, rfl, rfl, ?_⟩⟩
    obtain ⟨n, rfl⟩ : ∃ n : Nat, r = (n : Int) := ⟨r.toNat, by omega⟩
    refine ⟨_, rfl, l, s, 4, rfl, Sa, by decide, fun r4 Hb _ _ Sb eb => ?_⟩
    refine ⟨rfl, l, s, 1 + n, decide (V.int r4 = V.int 0), ?_, Sb, by omega, fun D us c Hc B hl ok cz _ => ?_⟩
    · rw [show ((1 + n : Nat) : Int) = 1 + (n : Int) by omega]
      rfl
    refine key _ _ ⟨_, _, _, rfl, B.1, B.2.2.1, ⟨B.at, B.2.2.2.2.2.2⟩, ok, by omega, by omega, fun p hp => ⟨(cz p hp).1.mono (by omega), (cz p hp).2.1.mono (by omega), (cz p hp).2.2⟩⟩
  rintro σ H3 ⟨D1, us1, c1, rfl, S3, n1, hT1, ok1, l1, l12, cz1⟩
  refine cutG (fun σ' G => ∃ D us c, σ' = [some (.ref sa), some (.ref s), some (.int m), some (.ref D1), some (.ref D), none] ∧ Sto l s G ∧ Fr s H3 G ∧ D ≠ s ∧ Ct K G D us c ∧ Cok c ∧ 1 ≤ c.length ∧ c.length ≤ 12 ∧ Cz 80 300 5 c) ?_ ?_
  rotate_left
  · intro u' key
    refine ⟨_, rfl, _, rfl, l, s, 3, rfl, S3, (by omega), fun r Ha r0 r1 Sa ea => ⟨_, _, rfl, rfl, ?_⟩⟩
    obtain ⟨n, rfl⟩ : ∃ n : Nat, r = (n : Int) := ⟨r.toNat, by omega⟩
    refine ⟨_, rfl, l, s, 4, rfl, Sa, by decide, fun r4 Hb _ _ Sb eb => ?_⟩
    refine ⟨rfl, l, s, 1 + n, decide (V.int r4 = V.int 0), ?_, Sb, by omega, fun D us c Hc B hl ok cz _ => ?_⟩
    · rw [show ((1 + n : Nat) : Int) = 1 + (n : Int) by omega]
      rfl
    refine key _ _ ⟨_, _, _, rfl, B.1, (ea.trans eb).trans B.2.1, B.2.2.1, ⟨B.at, B.2.2.2.2.2.2⟩, ok, by omega, by omega, fun p hp => ⟨(cz p hp).1.mono (by omega), (cz p hp).2.1.mono (by omega), (cz p hp).2.2⟩⟩
  rintro σ H4 ⟨D2, us2, c2, rfl, S4, e4, n2, hT2, ok2, l2, l22, cz2⟩
  replace hT1 := hT1.fr e4 S3.some n1
  refine cutG (fun σ' G => ∃ D us c, σ' = [some (.ref sa), some (.ref s), some (.int m), some (.ref D1), some (.ref D2), some (.ref D)] ∧ Sto l s G ∧ Fr s H4 G ∧ D ≠ s ∧ Ct K G D us c ∧ Cok c ∧ 1 ≤ c.length ∧ c.length ≤ 12 ∧ Cz 80 300 5 c) ?_ ?_
  rotate_left
  · intro u' key
    refine ⟨_, rfl, _, rfl, _, rfl, l, s, m, rfl, S4, (by omega), fun r Ha r0 r1 Sa ea => ⟨_, _, rfl, rfl, ?_⟩⟩
    obtain ⟨n, rfl⟩ : ∃ n : Nat, r = (n : Int) := ⟨r.toNat, by omega⟩
    refine ⟨_, rfl, l, s, 3, rfl, Sa, by decide, fun r4 Hb _ _ Sb eb => ?_⟩
    refine ⟨_, _, rfl, rfl, l, s, 1 + n, decide (0 < r4), ?_, Sb, by omega, fun D us c Hc B hl ok cz _ => ?_⟩
    · rw [show ((1 + n : Nat) : Int) = 1 + (n : Int) by omega]
      rfl
    refine key _ _ ⟨_, _, _, rfl, B.1, (ea.trans eb).trans B.2.1, B.2.2.1, ⟨B.at, B.2.2.2.2.2.2⟩, ok, by omega, by omega, fun p hp => ⟨(cz p hp).1.mono (by omega), (cz p hp).2.1.mono (by omega), (cz p hp).2.2⟩⟩
  rintro σ H5 ⟨D3, us3, c3, rfl, S5, e5, n3, hT3, ok3, l3, l32, cz3⟩
  replace hT1 := hT1.fr e5 S4.some n1
  replace hT2 := hT2.fr e5 S4.some n2
  clear e4 S3 S4 S2
  refine cutG (fun σ' G => ∃ D us c, σ' = [some (.ref sa), some (.ref s), some (.int m), some (.ref D1), some (.ref D2), some (.ref D)] ∧ Sto l s G ∧ Fr s H5 G ∧ D ≠ s ∧ Ct K G D us c ∧ Cok c ∧ 1 ≤ c.length ∧ c.length ≤ 12 ∧ Cz 650 300 5 c) ?_ ?_
  rotate_left
  · intro u' key
    (walk_at "vk_vc")
    intro D us x H7 S7 e7 _ nD hT zx
    refine key _ _ ⟨_, _, _, rfl, S7, e7, nD, hT, cok_mv ok3 x, by rw [List.length_map]; exact l3, by rw [List.length_map]; exact l32, fun p hp => ?_⟩
    obtain ⟨y1, y2, y3⟩ := cz_mv cz3 zx p hp
    exact ⟨y1.mono (by decide), y2, y3⟩
  rintro σ H6 ⟨D4, us4, c4, rfl, S6, e6, n4, hT4, ok4, l4, l42, cz4⟩
  replace hT1 := hT1.fr e6 S5.some n1
  replace hT2 := hT2.fr e6 S5.some n2
  clear hT3 ok3 l3 l32 cz3 n3 S5
  have e01 : c1[0]? = some c1[0] := List.getElem?_eq_getElem (by omega)
  have e02 : c2[0]? = some c2[0] := List.getElem?_eq_getElem (by omega)
  have bz : Bz 80 300 5 650 300 5 := ⟨by decide, by decide, by decide, by decide, by decide, by decide, by decide, by decide, by decide⟩
  have m1 : c1.length * (c4.length + 1) ≤ 400 := Nat.le_trans (Nat.mul_le_mul l12 (show c4.length + 1 ≤ 13 by omega)) (by decide)
  have m2 : c2.length * (c4.length + 1) ≤ 400 := Nat.le_trans (Nat.mul_le_mul l22 (show c4.length + 1 ≤ 13 by omega)) (by decide)
  (walk_at "vk_vc")
  · intro H7 S7 e7
    have hT1' := hT1.fr (by focus (walk_at "vk_fr") : Fr s H6 H7) S6.some n1
    have hT2' := hT2.fr (by focus (walk_at "vk_fr") : Fr s H6 H7) S6.some n2
    have hT4' := hT4.fr (by focus (walk_at "vk_fr") : Fr s H6 H7) S6.some n4
    (walk_at "vk_vc")
    all_goals exact z _
  all_goals exact z _
end Vk

namespace Vk
open PySem L2 Vm Vl
variable {K : PySem.W.Frag} {mg : Str → Option Value}
abbrev CnZERO (K : PySem.W.Frag) (mg : Str → Option Value) (a : Addr) := Cn K mg "ZERO" 0 a
theorem cnZERO {a : Addr} (m : mg "ZERO" = some (.ref a)) (h : ∀ H, SqT K H a [.int 0, .int 1]) : CnZERO K mg a := ⟨m, fun H => ⟨a, rfl, by rw [show (0 : Rat).num = 0 by decide +kernel, show ((0 : Rat).den : Int) = 1 by decide +kernel]; exact h H⟩⟩
theorem kit_self {C : Addr} : PySem.W.kitOne K (.ref C) (.ref C) = some true := by
  unfold PySem.W.kitOne
  rw [if_pos (beq_self_eq_true _)]
theorem kit_ty2 {C : Addr} {T : String} (m : PySem.W.kitMeta T = true) (h : PySem.W.subIn K (.ref C) (.type T) = some true) : PySem.W.kitOne K (.ref C) (.type T) = some true := by
  have e : (Value.ref C == Value.type T) = false := beq_false_of_ne nofun
  unfold PySem.W.kitOne PySem.W.kitCls
  rw [e, if_neg Bool.false_ne_true]
  dsimp only
  rw [if_pos m]
  exact h
end Vk

namespace Vk
open PySem PySem.Calls PySem.HandSPX L2 Vm Vl

theorem law_ok {P : Program} {w : World} {K : PySem.W.Frag} {mg : Str → Option Value} {base : Heap} {f_rational : Addr} {fd_rational : FuncData} {f_add : Addr} {fd_add : FuncData} {f_subtract : Addr} {fd_subtract : FuncData} {f_multiply : Addr} {fd_multiply : FuncData} {f_negate : Addr} {fd_negate : FuncData} {f_divide : Addr} {fd_divide : FuncData} {f_compare : Addr} {fd_compare : FuncData} {f__shown_by : Addr} {fd__shown_by : FuncData} {f__time_of : Addr} {fd__time_of : FuncData} {f__end_of : Addr} {fd__end_of : FuncData} {f__place_at : Addr} {fd__place_at : FuncData} {f__piece_at : Addr} {fd__piece_at : FuncData} {f_shown_at : Addr} {fd_shown_at : FuncData} {f__jump_at : Addr} {fd__jump_at : FuncData} {f_jumps : Addr} {fd_jumps : FuncData} {f_tidy : Addr} {fd_tidy : FuncData} {f__require_no_way_back : Addr} {fd__require_no_way_back : FuncData} {f__chained_piece : Addr} {fd__chained_piece : FuncData} {f_chained : Addr} {fd_chained : FuncData} {f__law_store : Addr} {fd__law_store : FuncData} {f__law_feed : Addr} {fd__law_feed : FuncData} {f__law_mixed : Addr} {fd__law_mixed : FuncData} {f__law_take : Addr} {fd__law_take : FuncData} {f__law_pick : Addr} {fd__law_pick : FuncData} {f__law_is_int : Addr} {fd__law_is_int : FuncData} {f__law_same : Addr} {fd__law_same : FuncData} {f__law_frac : Addr} {fd__law_frac : FuncData} {f__law_plus : Addr} {fd__law_plus : FuncData} {f__law_minus : Addr} {fd__law_minus : FuncData} {f__law_times : Addr} {fd__law_times : FuncData} {f__law_over : Addr} {fd__law_over : FuncData} {f__law_below : Addr} {fd__law_below : FuncData} {f__law_is_frac : Addr} {fd__law_is_frac : FuncData} {f__law_part : Addr} {fd__law_part : FuncData} {f__law_spare : Addr} {fd__law_spare : FuncData} {f__law_above : Addr} {fd__law_above : FuncData} {f__law_ordered : Addr} {fd__law_ordered : FuncData} {f__law_pace : Addr} {fd__law_pace : FuncData} {f__law_course : Addr} {fd__law_course : FuncData} {f__law_place : Addr} {fd__law_place : FuncData} {f__law_line : Addr} {fd__law_line : FuncData} {f__law_is_tidy : Addr} {fd__law_is_tidy : FuncData} {f__law_due : Addr} {fd__law_due : FuncData} {f__law_bends : Addr} {fd__law_bends : FuncData} {f__law_chain_ok : Addr} {fd__law_chain_ok : FuncData} {f__law_asked : Addr} {fd__law_asked : FuncData} {f__law_answer_ok : Addr} {fd__law_answer_ok : FuncData} {f__law_shown_ok : Addr} {fd__law_shown_ok : FuncData} {f__law_moved : Addr} {fd__law_moved : FuncData} {f__law_long_ok : Addr} {fd__law_long_ok : FuncData} {f_law : Addr} {fd_law : FuncData} (T : Bn mg) {aZERO : Addr} (ZZERO : CnZERO K mg aZERO)
    (h_rational : FunA K "rational" "rational" s_rational f_rational fd_rational) (m_rational : mg "rational" = some (.ref f_rational)) (b_rational : Binds K fd_rational ps_rational [])
    {C_BeforeStart fi_BeforeStart : Addr}
    {C_TurnsBack fi_TurnsBack : Addr}
    {C_VerdictError : Addr}
    (TBeforeStart : PySem.ValX.ValTxt K mg "BeforeStart" C_BeforeStart fi_BeforeStart)
    (TTurnsBack : PySem.ValX.ValTxt K mg "TurnsBack" C_TurnsBack fi_TurnsBack)
    (EBeforeStart : ExcC K C_BeforeStart)
    (ETurnsBack : ExcC K C_TurnsBack)
    (GVerdictError : mg "VerdictError" = some (.ref C_VerdictError))
    (Ie_BeforeStart_VerdictError : PySem.W.exmOne K (.ref C_BeforeStart) (.ref C_VerdictError) = some true)
    (Ie_TurnsBack_VerdictError : PySem.W.exmOne K (.ref C_TurnsBack) (.ref C_VerdictError) = some true)
    (Ik_BeforeStart_TurnsBack : PySem.W.kitOne K (.ref C_BeforeStart) (.ref C_TurnsBack) = some false)
    (Ik_TurnsBack_BeforeStart : PySem.W.kitOne K (.ref C_TurnsBack) (.ref C_BeforeStart) = some false)
    (h_add : Fn K mg "add" s_add ps_add f_add fd_add)
    (h_subtract : Fn K mg "subtract" s_subtract ps_subtract f_subtract fd_subtract)
    (h_multiply : Fn K mg "multiply" s_multiply ps_multiply f_multiply fd_multiply)
    (h_negate : Fn K mg "negate" s_negate ps_negate f_negate fd_negate)
    (h_divide : Fn K mg "divide" s_divide ps_divide f_divide fd_divide)
    (h_compare : Fn K mg "compare" s_compare ps_compare f_compare fd_compare)
    (h__shown_by : Fn K mg "_shown_by" s__shown_by ps__shown_by f__shown_by fd__shown_by)
    (h__time_of : Fn K mg "_time_of" s__time_of ps__time_of f__time_of fd__time_of)
    (h__end_of : Fn K mg "_end_of" s__end_of ps__end_of f__end_of fd__end_of)
    (h__place_at : Fn K mg "_place_at" s__place_at ps__place_at f__place_at fd__place_at)
    (h__piece_at : Fn K mg "_piece_at" s__piece_at ps__piece_at f__piece_at fd__piece_at)
    (h_shown_at : Fn K mg "shown_at" s_shown_at ps_shown_at f_shown_at fd_shown_at)
    (h__jump_at : Fn K mg "_jump_at" s__jump_at ps__jump_at f__jump_at fd__jump_at)
    (h_jumps : Fn K mg "jumps" s_jumps ps_jumps f_jumps fd_jumps)
    (h_tidy : Fn K mg "tidy" s_tidy ps_tidy f_tidy fd_tidy)
    (h__require_no_way_back : Fn K mg "_require_no_way_back" s__require_no_way_back ps__require_no_way_back f__require_no_way_back fd__require_no_way_back)
    (h__chained_piece : Fn K mg "_chained_piece" s__chained_piece ps__chained_piece f__chained_piece fd__chained_piece)
    (h_chained : Fn K mg "chained" s_chained ps_chained f_chained fd_chained)
    (h__law_store : Fn K mg "_law_store" s__law_store ps__law_store f__law_store fd__law_store)
    (h__law_feed : Fn K mg "_law_feed" s__law_feed ps__law_feed f__law_feed fd__law_feed)
    (h__law_mixed : Fn K mg "_law_mixed" s__law_mixed ps__law_mixed f__law_mixed fd__law_mixed)
    (h__law_take : Fn K mg "_law_take" s__law_take ps__law_take f__law_take fd__law_take)
    (h__law_pick : Fn K mg "_law_pick" s__law_pick ps__law_pick f__law_pick fd__law_pick)
    (h__law_is_int : Fn K mg "_law_is_int" s__law_is_int ps__law_is_int f__law_is_int fd__law_is_int)
    (h__law_same : Fn K mg "_law_same" s__law_same ps__law_same f__law_same fd__law_same)
    (h__law_frac : Fn K mg "_law_frac" s__law_frac ps__law_frac f__law_frac fd__law_frac)
    (h__law_plus : Fn K mg "_law_plus" s__law_plus ps__law_plus f__law_plus fd__law_plus)
    (h__law_minus : Fn K mg "_law_minus" s__law_minus ps__law_minus f__law_minus fd__law_minus)
    (h__law_times : Fn K mg "_law_times" s__law_times ps__law_times f__law_times fd__law_times)
    (h__law_over : Fn K mg "_law_over" s__law_over ps__law_over f__law_over fd__law_over)
    (h__law_below : Fn K mg "_law_below" s__law_below ps__law_below f__law_below fd__law_below)
    (h__law_is_frac : Fn K mg "_law_is_frac" s__law_is_frac ps__law_is_frac f__law_is_frac fd__law_is_frac)
    (h__law_part : Fn K mg "_law_part" s__law_part ps__law_part f__law_part fd__law_part)
    (h__law_spare : Fn K mg "_law_spare" s__law_spare ps__law_spare f__law_spare fd__law_spare)
    (h__law_above : Fn K mg "_law_above" s__law_above ps__law_above f__law_above fd__law_above)
    (h__law_ordered : Fn K mg "_law_ordered" s__law_ordered ps__law_ordered f__law_ordered fd__law_ordered)
    (h__law_pace : Fn K mg "_law_pace" s__law_pace ps__law_pace f__law_pace fd__law_pace)
    (h__law_course : Fn K mg "_law_course" s__law_course ps__law_course f__law_course fd__law_course)
    (h__law_place : Fn K mg "_law_place" s__law_place ps__law_place f__law_place fd__law_place)
    (h__law_line : Fn K mg "_law_line" s__law_line ps__law_line f__law_line fd__law_line)
    (h__law_is_tidy : Fn K mg "_law_is_tidy" s__law_is_tidy ps__law_is_tidy f__law_is_tidy fd__law_is_tidy)
    (h__law_due : Fn K mg "_law_due" s__law_due ps__law_due f__law_due fd__law_due)
    (h__law_bends : Fn K mg "_law_bends" s__law_bends ps__law_bends f__law_bends fd__law_bends)
    (h__law_chain_ok : Fn K mg "_law_chain_ok" s__law_chain_ok ps__law_chain_ok f__law_chain_ok fd__law_chain_ok)
    (h__law_asked : Fn K mg "_law_asked" s__law_asked ps__law_asked f__law_asked fd__law_asked)
    (h__law_answer_ok : Fn K mg "_law_answer_ok" s__law_answer_ok ps__law_answer_ok f__law_answer_ok fd__law_answer_ok)
    (h__law_shown_ok : Fn K mg "_law_shown_ok" s__law_shown_ok ps__law_shown_ok f__law_shown_ok fd__law_shown_ok)
    (h__law_moved : Fn K mg "_law_moved" s__law_moved ps__law_moved f__law_moved fd__law_moved)
    (h__law_long_ok : Fn K mg "_law_long_ok" s__law_long_ok ps__law_long_ok f__law_long_ok fd__law_long_ok)
    (h_law : Fn K mg "law" s_law ps_law f_law fd_law)
    (XV : mg "ValueError" = none) (XKB : PySem.W.kitOne K (.ref C_BeforeStart) (.type "ValueError") = some true) (XKT : PySem.W.kitOne K (.ref C_TurnsBack) (.type "ValueError") = some true)
    : FnOk P w K mg base CX0 11 f_law fd_law ps_law (spLaw K) := by
  have CO : Co K mg C_BeforeStart C_TurnsBack C_VerdictError := ⟨GVerdictError, XV, EBeforeStart, ETurnsBack, Ie_BeforeStart_VerdictError, Ie_TurnsBack_VerdictError, kit_self, Ik_BeforeStart_TurnsBack, XKB, Ik_TurnsBack_BeforeStart, kit_self, XKT⟩
  have rational := ok_rational (P := P) (w := w) (base := base) (k := 0) T h_rational m_rational b_rational
  have add := ok_add (P := P) (w := w) (base := base) (k := 0) T h_add
  have negate := ok_negate (P := P) (w := w) (base := base) (k := 0) h_negate
  have compare := ok_compare (P := P) (w := w) (base := base) (k := 0) h_compare
  have subtract := ok_subtract h_subtract add negate
  have multiply := ok_multiply h_multiply rational
  have divide := ok_divide h_divide rational
  have shown := ok_shown_by h__shown_by (add.up (by decide)) multiply subtract
  have time := ok_time_of h__time_of (add.up (by decide)) divide subtract
  have endof := ok_end_of (P := P) (w := w) (base := base) (k := 0) T h__end_of
  have place := ok_place_at h__place_at compare
  have piece := ok_piece_at TBeforeStart h__piece_at place
  have shownat := ok_shown_at h_shown_at piece shown
  have jat := ok_jump_at h__jump_at (subtract.up (by decide)) shown
  have jumps := ok_jumps T ZZERO h_jumps jat
  have tidy := ok_tidy T ZZERO h_tidy jat
  have noback := ok_noback T ZZERO TTurnsBack h__require_no_way_back jumps (compare.up (by decide))
  have chp := ok_chained_piece T h__chained_piece (place.up (by decide)) shown (multiply.up (by decide)) time (compare.up (by decide))
  have chained := ok_chained T TBeforeStart h_chained noback (compare.up (by decide)) (chp.up (by decide)) (endof.up (by decide)) (tidy.up (by decide))
  have asked := ok_asked T CO TBeforeStart TTurnsBack h__law_asked chained
  have store := ok_store (P := P) (w := w) (base := base) (k := 0) T h__law_store
  have mixed := fun l => ok_mixed (l := l) (P := P) (w := w) (base := base) (k := 0) T h__law_mixed
  have feed := fun l => ok_feed (l := l) (P := P) (w := w) (base := base) (k := 0) T h__law_feed
  have take := fun l => ok_take T h__law_take (feed l) (mixed l)
  have pick := fun l => ok_pick T h__law_pick (take l)
  have is_int := ok_is_int (P := P) (w := w) (base := base) (k := 0) T h__law_is_int
  have same4 := ok_same T h__law_same is_int 4
  have frac := ok_frac (P := P) (w := w) (base := base) (k := 0) T h__law_frac
  have plus := ok_plus h__law_plus frac
  have minus := ok_minus h__law_minus frac
  have times := ok_times h__law_times frac
  have over := ok_over h__law_over frac
  have below := ok_below (P := P) (w := w) (base := base) (k := 0) h__law_below
  have is_frac := ok_is_frac T h__law_is_frac is_int frac
  have part := fun l => ok_part h__law_part ((take l).up (by decide)) (pick l) (frac.up (by decide))
  have spare := fun l => ok_spare h__law_spare (take l) (frac.up (by decide))
  have above := fun l => ok_above h__law_above (take l) (frac.up (by decide))
  have pace := fun l => ok_pace h__law_pace ((take l).up (by decide)) (pick l) (frac.up (by decide))
  have course := fun l => ok_courseN T h__law_course (part l) (pace l) ((above l).up (by decide)) (plus.up (by decide)) (times.up (by decide)) (minus.up (by decide)) ((take l).up (by decide))
  have lplace := ok_law_place T h__law_place below
  have line := ok_line h__law_line plus times minus
  have ordN := ok_ordN T h__law_ordered below
  have is_tidy := ok_is_tidy T h__law_is_tidy (is_frac.up (by decide)) (below.up (by decide)) line
  have due := ok_due T h__law_due (below.up (by decide)) line
  have bends := ok_bends T h__law_bends plus over minus lplace
  have chain_ok := ok_chain_ok T h__law_chain_ok is_tidy (ordN.up (by decide)) (bends.up (by decide)) (below.up (by decide)) (plus.up (by decide)) (times.up (by decide)) (line.up (by decide)) (lplace.up (by decide))
  have shown_ok := ok_shown_ok (k := 6) T TBeforeStart TBeforeStart.te h__law_shown_ok (shownat.up (by decide)) (same4.up (by decide)) (minus.up (by decide))
  have answer := ok_answer_ok (k := 8) T h__law_answer_ok (due.up (by decide)) (asked.up (by decide)) (same4.up (by decide)) (chain_ok.up (by decide)) (shown_ok.up (by decide))
  have moved := fun l => ok_moved (k := 4) T h__law_moved ((take l).up (by decide)) (plus.up (by decide)) (minus.up (by decide)) ((pick l).up (by decide)) ((spare l).up (by decide))
  have long := fun l => ok_long (k := 9) T h__law_long_ok ((course l).up (by decide)) (line.up (by decide)) (minus.up (by decide)) ((pick l).up (by decide)) ((spare l).up (by decide)) ((part l).up (by decide)) ((pace l).up (by decide)) (answer.up (by decide))
  exact (ok_law (k := 10) T h_law (store.up (by decide)) (fun l => (take l).up (by decide)) (fun l => (course l).up (by decide)) (fun l => (moved l).up (by decide)) (fun l => (long l).up (by decide)) (answer.up (by decide))).ok
set_option maxHeartbeats 0 in
theorem all_mk {l : PySem.W.OpenLaw} {w : World} {K : PySem.W.Frag} {h : Heap} {mg : Str → Option Value} {fa : Addr} (X : K.In h) (G : h.Ns mainGlobals mg) (hfa : mg "law" = some (.ref fa))
    {f_rational : Addr} {od_rational an_rational : Option Addr} {sl_rational : Array (Option Value)} {oc_rational kV_rational dc_rational pm_rational cd_rational ct_rational : Value}
    {f_add : Addr} {od_add an_add : Option Addr} {sl_add : Array (Option Value)} {oc_add kV_add dc_add pm_add cd_add ct_add : Value}
    {f_subtract : Addr} {od_subtract an_subtract : Option Addr} {sl_subtract : Array (Option Value)} {oc_subtract kV_subtract dc_subtract pm_subtract cd_subtract ct_subtract : Value}
    {f_multiply : Addr} {od_multiply an_multiply : Option Addr} {sl_multiply : Array (Option Value)} {oc_multiply kV_multiply dc_multiply pm_multiply cd_multiply ct_multiply : Value}
    {f_negate : Addr} {od_negate an_negate : Option Addr} {sl_negate : Array (Option Value)} {oc_negate kV_negate dc_negate pm_negate cd_negate ct_negate : Value}
    {f_divide : Addr} {od_divide an_divide : Option Addr} {sl_divide : Array (Option Value)} {oc_divide kV_divide dc_divide pm_divide cd_divide ct_divide : Value}
    {f_compare : Addr} {od_compare an_compare : Option Addr} {sl_compare : Array (Option Value)} {oc_compare kV_compare dc_compare pm_compare cd_compare ct_compare : Value}
    {f__shown_by : Addr} {od__shown_by an__shown_by : Option Addr} {sl__shown_by : Array (Option Value)} {oc__shown_by kV__shown_by dc__shown_by pm__shown_by cd__shown_by ct__shown_by : Value}
    {f__time_of : Addr} {od__time_of an__time_of : Option Addr} {sl__time_of : Array (Option Value)} {oc__time_of kV__time_of dc__time_of pm__time_of cd__time_of ct__time_of : Value}
    {f__end_of : Addr} {od__end_of an__end_of : Option Addr} {sl__end_of : Array (Option Value)} {oc__end_of kV__end_of dc__end_of pm__end_of cd__end_of ct__end_of : Value}
    {f__place_at : Addr} {od__place_at an__place_at : Option Addr} {sl__place_at : Array (Option Value)} {oc__place_at kV__place_at dc__place_at pm__place_at cd__place_at ct__place_at : Value}
    {f__piece_at : Addr} {od__piece_at an__piece_at : Option Addr} {sl__piece_at : Array (Option Value)} {oc__piece_at kV__piece_at dc__piece_at pm__piece_at cd__piece_at ct__piece_at : Value}
    {f_shown_at : Addr} {od_shown_at an_shown_at : Option Addr} {sl_shown_at : Array (Option Value)} {oc_shown_at kV_shown_at dc_shown_at pm_shown_at cd_shown_at ct_shown_at : Value}
    {f__jump_at : Addr} {od__jump_at an__jump_at : Option Addr} {sl__jump_at : Array (Option Value)} {oc__jump_at kV__jump_at dc__jump_at pm__jump_at cd__jump_at ct__jump_at : Value}
    {f_jumps : Addr} {od_jumps an_jumps : Option Addr} {sl_jumps : Array (Option Value)} {oc_jumps kV_jumps dc_jumps pm_jumps cd_jumps ct_jumps : Value}
    {f_tidy : Addr} {od_tidy an_tidy : Option Addr} {sl_tidy : Array (Option Value)} {oc_tidy kV_tidy dc_tidy pm_tidy cd_tidy ct_tidy : Value}
    {f__require_no_way_back : Addr} {od__require_no_way_back an__require_no_way_back : Option Addr} {sl__require_no_way_back : Array (Option Value)} {oc__require_no_way_back kV__require_no_way_back dc__require_no_way_back pm__require_no_way_back cd__require_no_way_back ct__require_no_way_back : Value}
    {f__chained_piece : Addr} {od__chained_piece an__chained_piece : Option Addr} {sl__chained_piece : Array (Option Value)} {oc__chained_piece kV__chained_piece dc__chained_piece pm__chained_piece cd__chained_piece ct__chained_piece : Value}
    {f_chained : Addr} {od_chained an_chained : Option Addr} {sl_chained : Array (Option Value)} {oc_chained kV_chained dc_chained pm_chained cd_chained ct_chained : Value}
    {f__law_store : Addr} {od__law_store an__law_store : Option Addr} {sl__law_store : Array (Option Value)} {oc__law_store kV__law_store dc__law_store pm__law_store cd__law_store ct__law_store : Value}
    {f__law_feed : Addr} {od__law_feed an__law_feed : Option Addr} {sl__law_feed : Array (Option Value)} {oc__law_feed kV__law_feed dc__law_feed pm__law_feed cd__law_feed ct__law_feed : Value}
    {f__law_mixed : Addr} {od__law_mixed an__law_mixed : Option Addr} {sl__law_mixed : Array (Option Value)} {oc__law_mixed kV__law_mixed dc__law_mixed pm__law_mixed cd__law_mixed ct__law_mixed : Value}
    {f__law_take : Addr} {od__law_take an__law_take : Option Addr} {sl__law_take : Array (Option Value)} {oc__law_take kV__law_take dc__law_take pm__law_take cd__law_take ct__law_take : Value}
    {f__law_pick : Addr} {od__law_pick an__law_pick : Option Addr} {sl__law_pick : Array (Option Value)} {oc__law_pick kV__law_pick dc__law_pick pm__law_pick cd__law_pick ct__law_pick : Value}
    {f__law_is_int : Addr} {od__law_is_int an__law_is_int : Option Addr} {sl__law_is_int : Array (Option Value)} {oc__law_is_int kV__law_is_int dc__law_is_int pm__law_is_int cd__law_is_int ct__law_is_int : Value}
    {f__law_same : Addr} {od__law_same an__law_same : Option Addr} {sl__law_same : Array (Option Value)} {oc__law_same kV__law_same dc__law_same pm__law_same cd__law_same ct__law_same : Value}
    {f__law_frac : Addr} {od__law_frac an__law_frac : Option Addr} {sl__law_frac : Array (Option Value)} {oc__law_frac kV__law_frac dc__law_frac pm__law_frac cd__law_frac ct__law_frac : Value}
    {f__law_plus : Addr} {od__law_plus an__law_plus : Option Addr} {sl__law_plus : Array (Option Value)} {oc__law_plus kV__law_plus dc__law_plus pm__law_plus cd__law_plus ct__law_plus : Value}
    {f__law_minus : Addr} {od__law_minus an__law_minus : Option Addr} {sl__law_minus : Array (Option Value)} {oc__law_minus kV__law_minus dc__law_minus pm__law_minus cd__law_minus ct__law_minus : Value}
    {f__law_times : Addr} {od__law_times an__law_times : Option Addr} {sl__law_times : Array (Option Value)} {oc__law_times kV__law_times dc__law_times pm__law_times cd__law_times ct__law_times : Value}
    {f__law_over : Addr} {od__law_over an__law_over : Option Addr} {sl__law_over : Array (Option Value)} {oc__law_over kV__law_over dc__law_over pm__law_over cd__law_over ct__law_over : Value}
    {f__law_below : Addr} {od__law_below an__law_below : Option Addr} {sl__law_below : Array (Option Value)} {oc__law_below kV__law_below dc__law_below pm__law_below cd__law_below ct__law_below : Value}
    {f__law_is_frac : Addr} {od__law_is_frac an__law_is_frac : Option Addr} {sl__law_is_frac : Array (Option Value)} {oc__law_is_frac kV__law_is_frac dc__law_is_frac pm__law_is_frac cd__law_is_frac ct__law_is_frac : Value}
    {f__law_part : Addr} {od__law_part an__law_part : Option Addr} {sl__law_part : Array (Option Value)} {oc__law_part kV__law_part dc__law_part pm__law_part cd__law_part ct__law_part : Value}
    {f__law_spare : Addr} {od__law_spare an__law_spare : Option Addr} {sl__law_spare : Array (Option Value)} {oc__law_spare kV__law_spare dc__law_spare pm__law_spare cd__law_spare ct__law_spare : Value}
    {f__law_above : Addr} {od__law_above an__law_above : Option Addr} {sl__law_above : Array (Option Value)} {oc__law_above kV__law_above dc__law_above pm__law_above cd__law_above ct__law_above : Value}
    {f__law_ordered : Addr} {od__law_ordered an__law_ordered : Option Addr} {sl__law_ordered : Array (Option Value)} {oc__law_ordered kV__law_ordered dc__law_ordered pm__law_ordered cd__law_ordered ct__law_ordered : Value}
    {f__law_pace : Addr} {od__law_pace an__law_pace : Option Addr} {sl__law_pace : Array (Option Value)} {oc__law_pace kV__law_pace dc__law_pace pm__law_pace cd__law_pace ct__law_pace : Value}
    {f__law_course : Addr} {od__law_course an__law_course : Option Addr} {sl__law_course : Array (Option Value)} {oc__law_course kV__law_course dc__law_course pm__law_course cd__law_course ct__law_course : Value}
    {f__law_place : Addr} {od__law_place an__law_place : Option Addr} {sl__law_place : Array (Option Value)} {oc__law_place kV__law_place dc__law_place pm__law_place cd__law_place ct__law_place : Value}
    {f__law_line : Addr} {od__law_line an__law_line : Option Addr} {sl__law_line : Array (Option Value)} {oc__law_line kV__law_line dc__law_line pm__law_line cd__law_line ct__law_line : Value}
    {f__law_is_tidy : Addr} {od__law_is_tidy an__law_is_tidy : Option Addr} {sl__law_is_tidy : Array (Option Value)} {oc__law_is_tidy kV__law_is_tidy dc__law_is_tidy pm__law_is_tidy cd__law_is_tidy ct__law_is_tidy : Value}
    {f__law_due : Addr} {od__law_due an__law_due : Option Addr} {sl__law_due : Array (Option Value)} {oc__law_due kV__law_due dc__law_due pm__law_due cd__law_due ct__law_due : Value}
    {f__law_bends : Addr} {od__law_bends an__law_bends : Option Addr} {sl__law_bends : Array (Option Value)} {oc__law_bends kV__law_bends dc__law_bends pm__law_bends cd__law_bends ct__law_bends : Value}
    {f__law_chain_ok : Addr} {od__law_chain_ok an__law_chain_ok : Option Addr} {sl__law_chain_ok : Array (Option Value)} {oc__law_chain_ok kV__law_chain_ok dc__law_chain_ok pm__law_chain_ok cd__law_chain_ok ct__law_chain_ok : Value}
    {f__law_asked : Addr} {od__law_asked an__law_asked : Option Addr} {sl__law_asked : Array (Option Value)} {oc__law_asked kV__law_asked dc__law_asked pm__law_asked cd__law_asked ct__law_asked : Value}
    {f__law_answer_ok : Addr} {od__law_answer_ok an__law_answer_ok : Option Addr} {sl__law_answer_ok : Array (Option Value)} {oc__law_answer_ok kV__law_answer_ok dc__law_answer_ok pm__law_answer_ok cd__law_answer_ok ct__law_answer_ok : Value}
    {f__law_shown_ok : Addr} {od__law_shown_ok an__law_shown_ok : Option Addr} {sl__law_shown_ok : Array (Option Value)} {oc__law_shown_ok kV__law_shown_ok dc__law_shown_ok pm__law_shown_ok cd__law_shown_ok ct__law_shown_ok : Value}
    {f__law_moved : Addr} {od__law_moved an__law_moved : Option Addr} {sl__law_moved : Array (Option Value)} {oc__law_moved kV__law_moved dc__law_moved pm__law_moved cd__law_moved ct__law_moved : Value}
    {f__law_long_ok : Addr} {od__law_long_ok an__law_long_ok : Option Addr} {sl__law_long_ok : Array (Option Value)} {oc__law_long_ok kV__law_long_ok dc__law_long_ok pm__law_long_ok cd__law_long_ok ct__law_long_ok : Value}
    {f_law : Addr} {od_law an_law : Option Addr} {sl_law : Array (Option Value)} {oc_law kV_law dc_law pm_law cd_law ct_law : Value}
    {dV_rational : Addr} {dcls_rational : Value} {ddd_rational : Option Addr} {dtk_rational : Tok} {dn_rational : Nat} {dsl_rational : Array (Option Value)} (ldf_rational : K.lookup dV_rational = some ⟨dcls_rational, ddd_rational, .seq #[.int 1 dtk_rational] dn_rational, dsl_rational⟩)
    {aZERO : Addr} {addZERO : Option Addr} {tZERO0 tZERO1 : Tok} {znZERO : Nat} {zslZERO : Array (Option Value)} (a0ZERO : PySem.W.nsIn K mainGlobals "ZERO" = some (some (.ref aZERO))) (l0ZERO : K.lookup aZERO = some ⟨.type "tuple", addZERO, .seq #[.int 0 tZERO0, .int 1 tZERO1] znZERO, zslZERO⟩)
    {C_BeforeStart fi_BeforeStart : Addr} {nm_BeforeStart q_BeforeStart iq_BeforeStart : Str} {N_BeforeStart : Addr} {bs_BeforeStart bm_BeforeStart sub_BeforeStart : List Value} {sn_BeforeStart : List Str} {ab_BeforeStart : Bool} {col_BeforeStart : Option Bool} {dd_BeforeStart : Option Addr} {m0_BeforeStart m1_BeforeStart m2_BeforeStart m3_BeforeStart m5_BeforeStart : Option Value} {iod_BeforeStart ian_BeforeStart : Option Addr} {isl_BeforeStart : Array (Option Value)} {ioc_BeforeStart idc_BeforeStart ipm_BeforeStart icd_BeforeStart ict_BeforeStart : Value} {p1_BeforeStart p2_BeforeStart q1_BeforeStart q2_BeforeStart q3_BeforeStart q4_BeforeStart : Pos}
    (aC_BeforeStart : PySem.W.nsIn K mainGlobals "BeforeStart" = some (some (.ref C_BeforeStart))) (xL_BeforeStart : K.lookup C_BeforeStart = some (excClassObj nm_BeforeStart q_BeforeStart C_BeforeStart N_BeforeStart bs_BeforeStart bm_BeforeStart true sn_BeforeStart sub_BeforeStart ab_BeforeStart col_BeforeStart dd_BeforeStart m0_BeforeStart m1_BeforeStart m2_BeforeStart m3_BeforeStart m5_BeforeStart "ValueError.__new__")) (rv_BeforeStart : refsVE bm_BeforeStart = true)
    (sa_BeforeStart : PySem.W.findIn K (.ref C_BeforeStart) "__setattr__" = some (some (.builtin "object.__setattr__"))) (ga_BeforeStart : PySem.W.findIn K (.ref C_BeforeStart) "__getattribute__" = some (some (.builtin "BaseException.__getattribute__"))) (gg_BeforeStart : PySem.W.findIn K (.ref C_BeforeStart) "__getattr__" = some none) (nb_BeforeStart : PySem.W.findIn K (.ref C_BeforeStart) "value" = some none)
    (a1_BeforeStart : PySem.W.findIn K (.ref C_BeforeStart) "__init__" = some (some (.ref fi_BeforeStart))) (t1_BeforeStart : PySem.W.typeIn K (.ref fi_BeforeStart) = some (.type "function"))
    (l1_BeforeStart : K.lookup fi_BeforeStart = some ⟨ioc_BeforeStart, iod_BeforeStart, .func (PySem.W.fnOf "__init__" iq_BeforeStart (PySem.ValX.iA p1_BeforeStart p2_BeforeStart) (PySem.ValX.iB q1_BeforeStart q2_BeforeStart q3_BeforeStart q4_BeforeStart) PySem.ValX.iS .none .none idc_BeforeStart ipm_BeforeStart ian_BeforeStart icd_BeforeStart ict_BeforeStart), isl_BeforeStart⟩) (c1_BeforeStart : PySem.W.codeIn K icd_BeforeStart iq_BeforeStart = true)
    (kC_BeforeStart : PySem.W.keepIn K (.ref C_BeforeStart) = true) (eC_BeforeStart : PySem.W.subIn K (.ref C_BeforeStart) (.type "BaseException") = some true) (tC_BeforeStart : PySem.W.typeIn K (.ref C_BeforeStart) = some (.type "type")) (hC_BeforeStart : PySem.W.hasDictIn K C_BeforeStart = true) (iC_BeforeStart : PySem.W.isClsIn K C_BeforeStart = true) (sC_BeforeStart : PySem.W.subIn K (.ref C_BeforeStart) (.ref C_BeforeStart) = some true)
    {C_TurnsBack fi_TurnsBack : Addr} {nm_TurnsBack q_TurnsBack iq_TurnsBack : Str} {N_TurnsBack : Addr} {bs_TurnsBack bm_TurnsBack sub_TurnsBack : List Value} {sn_TurnsBack : List Str} {ab_TurnsBack : Bool} {col_TurnsBack : Option Bool} {dd_TurnsBack : Option Addr} {m0_TurnsBack m1_TurnsBack m2_TurnsBack m3_TurnsBack m5_TurnsBack : Option Value} {iod_TurnsBack ian_TurnsBack : Option Addr} {isl_TurnsBack : Array (Option Value)} {ioc_TurnsBack idc_TurnsBack ipm_TurnsBack icd_TurnsBack ict_TurnsBack : Value} {p1_TurnsBack p2_TurnsBack q1_TurnsBack q2_TurnsBack q3_TurnsBack q4_TurnsBack : Pos}
    (aC_TurnsBack : PySem.W.nsIn K mainGlobals "TurnsBack" = some (some (.ref C_TurnsBack))) (xL_TurnsBack : K.lookup C_TurnsBack = some (excClassObj nm_TurnsBack q_TurnsBack C_TurnsBack N_TurnsBack bs_TurnsBack bm_TurnsBack true sn_TurnsBack sub_TurnsBack ab_TurnsBack col_TurnsBack dd_TurnsBack m0_TurnsBack m1_TurnsBack m2_TurnsBack m3_TurnsBack m5_TurnsBack "ValueError.__new__")) (rv_TurnsBack : refsVE bm_TurnsBack = true)
    (sa_TurnsBack : PySem.W.findIn K (.ref C_TurnsBack) "__setattr__" = some (some (.builtin "object.__setattr__"))) (ga_TurnsBack : PySem.W.findIn K (.ref C_TurnsBack) "__getattribute__" = some (some (.builtin "BaseException.__getattribute__"))) (gg_TurnsBack : PySem.W.findIn K (.ref C_TurnsBack) "__getattr__" = some none) (nb_TurnsBack : PySem.W.findIn K (.ref C_TurnsBack) "value" = some none)
    (a1_TurnsBack : PySem.W.findIn K (.ref C_TurnsBack) "__init__" = some (some (.ref fi_TurnsBack))) (t1_TurnsBack : PySem.W.typeIn K (.ref fi_TurnsBack) = some (.type "function"))
    (l1_TurnsBack : K.lookup fi_TurnsBack = some ⟨ioc_TurnsBack, iod_TurnsBack, .func (PySem.W.fnOf "__init__" iq_TurnsBack (PySem.ValX.iA p1_TurnsBack p2_TurnsBack) (PySem.ValX.iB q1_TurnsBack q2_TurnsBack q3_TurnsBack q4_TurnsBack) PySem.ValX.iS .none .none idc_TurnsBack ipm_TurnsBack ian_TurnsBack icd_TurnsBack ict_TurnsBack), isl_TurnsBack⟩) (c1_TurnsBack : PySem.W.codeIn K icd_TurnsBack iq_TurnsBack = true)
    (kC_TurnsBack : PySem.W.keepIn K (.ref C_TurnsBack) = true) (eC_TurnsBack : PySem.W.subIn K (.ref C_TurnsBack) (.type "BaseException") = some true) (tC_TurnsBack : PySem.W.typeIn K (.ref C_TurnsBack) = some (.type "type")) (hC_TurnsBack : PySem.W.hasDictIn K C_TurnsBack = true) (iC_TurnsBack : PySem.W.isClsIn K C_TurnsBack = true) (sC_TurnsBack : PySem.W.subIn K (.ref C_TurnsBack) (.ref C_TurnsBack) = some true)
    (xa_BeforeStart : PySem.W.findIn K (.ref C_BeforeStart) "__class__" = some (some (.builtin "object.__class__"))) (xm_BeforeStart : PySem.W.mroIn K C_BeforeStart (.type "object") = some true)
    (xa_TurnsBack : PySem.W.findIn K (.ref C_TurnsBack) "__class__" = some (some (.builtin "object.__class__"))) (xm_TurnsBack : PySem.W.mroIn K C_TurnsBack (.type "object") = some true)
    (xn : PySem.W.specialIn K (.builtin "object.__class__") "__get__" = some (some (.builtin "getset_descriptor.__get__"))) (xt : PySem.W.takesIn K (.builtin "object.__class__") = some true)
    {C_VerdictError : Addr} (aC_VerdictError : PySem.W.nsIn K mainGlobals "VerdictError" = some (some (.ref C_VerdictError))) (tC_VerdictError : PySem.W.typeIn K (.ref C_VerdictError) = some (.type "type")) (iC_VerdictError : PySem.W.isClsIn K C_VerdictError = true)
    (je_BeforeStart_VerdictError : PySem.W.subIn K (.ref C_BeforeStart) (.ref C_VerdictError) = some true) (ne_BeforeStart_VerdictError : (C_BeforeStart == C_VerdictError) = false)
    (je_TurnsBack_VerdictError : PySem.W.subIn K (.ref C_TurnsBack) (.ref C_VerdictError) = some true) (ne_TurnsBack_VerdictError : (C_TurnsBack == C_VerdictError) = false)
    (jk_BeforeStart_TurnsBack : PySem.W.subIn K (.ref C_BeforeStart) (.ref C_TurnsBack) = some false) (nk_BeforeStart_TurnsBack : (C_BeforeStart == C_TurnsBack) = false)
    (jk_TurnsBack_BeforeStart : PySem.W.subIn K (.ref C_TurnsBack) (.ref C_BeforeStart) = some false) (nk_TurnsBack_BeforeStart : (C_TurnsBack == C_BeforeStart) = false)
    (a_rational : PySem.W.nsIn K mainGlobals "rational" = some (some (.ref f_rational))) (l_rational : K.lookup f_rational = some ⟨oc_rational, od_rational, .func (PySem.W.fnOf "rational" "rational" (defArgs s_rational) (defBody s_rational) (defScope s_rational) (.ref dV_rational) kV_rational dc_rational pm_rational an_rational cd_rational ct_rational), sl_rational⟩) (c_rational : PySem.W.codeIn K cd_rational "rational" = true) (k_rational : PySem.W.keepIn K (.ref f_rational) = true)
    (a_add : PySem.W.nsIn K mainGlobals "add" = some (some (.ref f_add))) (l_add : K.lookup f_add = some ⟨oc_add, od_add, .func (PySem.W.fnOf "add" "add" (defArgs s_add) (defBody s_add) (defScope s_add) .none kV_add dc_add pm_add an_add cd_add ct_add), sl_add⟩) (c_add : PySem.W.codeIn K cd_add "add" = true) (k_add : PySem.W.keepIn K (.ref f_add) = true)
    (a_subtract : PySem.W.nsIn K mainGlobals "subtract" = some (some (.ref f_subtract))) (l_subtract : K.lookup f_subtract = some ⟨oc_subtract, od_subtract, .func (PySem.W.fnOf "subtract" "subtract" (defArgs s_subtract) (defBody s_subtract) (defScope s_subtract) .none kV_subtract dc_subtract pm_subtract an_subtract cd_subtract ct_subtract), sl_subtract⟩) (c_subtract : PySem.W.codeIn K cd_subtract "subtract" = true) (k_subtract : PySem.W.keepIn K (.ref f_subtract) = true)
    (a_multiply : PySem.W.nsIn K mainGlobals "multiply" = some (some (.ref f_multiply))) (l_multiply : K.lookup f_multiply = some ⟨oc_multiply, od_multiply, .func (PySem.W.fnOf "multiply" "multiply" (defArgs s_multiply) (defBody s_multiply) (defScope s_multiply) .none kV_multiply dc_multiply pm_multiply an_multiply cd_multiply ct_multiply), sl_multiply⟩) (c_multiply : PySem.W.codeIn K cd_multiply "multiply" = true) (k_multiply : PySem.W.keepIn K (.ref f_multiply) = true)
    (a_negate : PySem.W.nsIn K mainGlobals "negate" = some (some (.ref f_negate))) (l_negate : K.lookup f_negate = some ⟨oc_negate, od_negate, .func (PySem.W.fnOf "negate" "negate" (defArgs s_negate) (defBody s_negate) (defScope s_negate) .none kV_negate dc_negate pm_negate an_negate cd_negate ct_negate), sl_negate⟩) (c_negate : PySem.W.codeIn K cd_negate "negate" = true) (k_negate : PySem.W.keepIn K (.ref f_negate) = true)
    (a_divide : PySem.W.nsIn K mainGlobals "divide" = some (some (.ref f_divide))) (l_divide : K.lookup f_divide = some ⟨oc_divide, od_divide, .func (PySem.W.fnOf "divide" "divide" (defArgs s_divide) (defBody s_divide) (defScope s_divide) .none kV_divide dc_divide pm_divide an_divide cd_divide ct_divide), sl_divide⟩) (c_divide : PySem.W.codeIn K cd_divide "divide" = true) (k_divide : PySem.W.keepIn K (.ref f_divide) = true)
    (a_compare : PySem.W.nsIn K mainGlobals "compare" = some (some (.ref f_compare))) (l_compare : K.lookup f_compare = some ⟨oc_compare, od_compare, .func (PySem.W.fnOf "compare" "compare" (defArgs s_compare) (defBody s_compare) (defScope s_compare) .none kV_compare dc_compare pm_compare an_compare cd_compare ct_compare), sl_compare⟩) (c_compare : PySem.W.codeIn K cd_compare "compare" = true) (k_compare : PySem.W.keepIn K (.ref f_compare) = true)
    (a__shown_by : PySem.W.nsIn K mainGlobals "_shown_by" = some (some (.ref f__shown_by))) (l__shown_by : K.lookup f__shown_by = some ⟨oc__shown_by, od__shown_by, .func (PySem.W.fnOf "_shown_by" "_shown_by" (defArgs s__shown_by) (defBody s__shown_by) (defScope s__shown_by) .none kV__shown_by dc__shown_by pm__shown_by an__shown_by cd__shown_by ct__shown_by), sl__shown_by⟩) (c__shown_by : PySem.W.codeIn K cd__shown_by "_shown_by" = true) (k__shown_by : PySem.W.keepIn K (.ref f__shown_by) = true)
    (a__time_of : PySem.W.nsIn K mainGlobals "_time_of" = some (some (.ref f__time_of))) (l__time_of : K.lookup f__time_of = some ⟨oc__time_of, od__time_of, .func (PySem.W.fnOf "_time_of" "_time_of" (defArgs s__time_of) (defBody s__time_of) (defScope s__time_of) .none kV__time_of dc__time_of pm__time_of an__time_of cd__time_of ct__time_of), sl__time_of⟩) (c__time_of : PySem.W.codeIn K cd__time_of "_time_of" = true) (k__time_of : PySem.W.keepIn K (.ref f__time_of) = true)
    (a__end_of : PySem.W.nsIn K mainGlobals "_end_of" = some (some (.ref f__end_of))) (l__end_of : K.lookup f__end_of = some ⟨oc__end_of, od__end_of, .func (PySem.W.fnOf "_end_of" "_end_of" (defArgs s__end_of) (defBody s__end_of) (defScope s__end_of) .none kV__end_of dc__end_of pm__end_of an__end_of cd__end_of ct__end_of), sl__end_of⟩) (c__end_of : PySem.W.codeIn K cd__end_of "_end_of" = true) (k__end_of : PySem.W.keepIn K (.ref f__end_of) = true)
    (a__place_at : PySem.W.nsIn K mainGlobals "_place_at" = some (some (.ref f__place_at))) (l__place_at : K.lookup f__place_at = some ⟨oc__place_at, od__place_at, .func (PySem.W.fnOf "_place_at" "_place_at" (defArgs s__place_at) (defBody s__place_at) (defScope s__place_at) .none kV__place_at dc__place_at pm__place_at an__place_at cd__place_at ct__place_at), sl__place_at⟩) (c__place_at : PySem.W.codeIn K cd__place_at "_place_at" = true) (k__place_at : PySem.W.keepIn K (.ref f__place_at) = true)
    (a__piece_at : PySem.W.nsIn K mainGlobals "_piece_at" = some (some (.ref f__piece_at))) (l__piece_at : K.lookup f__piece_at = some ⟨oc__piece_at, od__piece_at, .func (PySem.W.fnOf "_piece_at" "_piece_at" (defArgs s__piece_at) (defBody s__piece_at) (defScope s__piece_at) .none kV__piece_at dc__piece_at pm__piece_at an__piece_at cd__piece_at ct__piece_at), sl__piece_at⟩) (c__piece_at : PySem.W.codeIn K cd__piece_at "_piece_at" = true) (k__piece_at : PySem.W.keepIn K (.ref f__piece_at) = true)
    (a_shown_at : PySem.W.nsIn K mainGlobals "shown_at" = some (some (.ref f_shown_at))) (l_shown_at : K.lookup f_shown_at = some ⟨oc_shown_at, od_shown_at, .func (PySem.W.fnOf "shown_at" "shown_at" (defArgs s_shown_at) (defBody s_shown_at) (defScope s_shown_at) .none kV_shown_at dc_shown_at pm_shown_at an_shown_at cd_shown_at ct_shown_at), sl_shown_at⟩) (c_shown_at : PySem.W.codeIn K cd_shown_at "shown_at" = true) (k_shown_at : PySem.W.keepIn K (.ref f_shown_at) = true)
    (a__jump_at : PySem.W.nsIn K mainGlobals "_jump_at" = some (some (.ref f__jump_at))) (l__jump_at : K.lookup f__jump_at = some ⟨oc__jump_at, od__jump_at, .func (PySem.W.fnOf "_jump_at" "_jump_at" (defArgs s__jump_at) (defBody s__jump_at) (defScope s__jump_at) .none kV__jump_at dc__jump_at pm__jump_at an__jump_at cd__jump_at ct__jump_at), sl__jump_at⟩) (c__jump_at : PySem.W.codeIn K cd__jump_at "_jump_at" = true) (k__jump_at : PySem.W.keepIn K (.ref f__jump_at) = true)
    (a_jumps : PySem.W.nsIn K mainGlobals "jumps" = some (some (.ref f_jumps))) (l_jumps : K.lookup f_jumps = some ⟨oc_jumps, od_jumps, .func (PySem.W.fnOf "jumps" "jumps" (defArgs s_jumps) (defBody s_jumps) (defScope s_jumps) .none kV_jumps dc_jumps pm_jumps an_jumps cd_jumps ct_jumps), sl_jumps⟩) (c_jumps : PySem.W.codeIn K cd_jumps "jumps" = true) (k_jumps : PySem.W.keepIn K (.ref f_jumps) = true)
    (a_tidy : PySem.W.nsIn K mainGlobals "tidy" = some (some (.ref f_tidy))) (l_tidy : K.lookup f_tidy = some ⟨oc_tidy, od_tidy, .func (PySem.W.fnOf "tidy" "tidy" (defArgs s_tidy) (defBody s_tidy) (defScope s_tidy) .none kV_tidy dc_tidy pm_tidy an_tidy cd_tidy ct_tidy), sl_tidy⟩) (c_tidy : PySem.W.codeIn K cd_tidy "tidy" = true) (k_tidy : PySem.W.keepIn K (.ref f_tidy) = true)
    (a__require_no_way_back : PySem.W.nsIn K mainGlobals "_require_no_way_back" = some (some (.ref f__require_no_way_back))) (l__require_no_way_back : K.lookup f__require_no_way_back = some ⟨oc__require_no_way_back, od__require_no_way_back, .func (PySem.W.fnOf "_require_no_way_back" "_require_no_way_back" (defArgs s__require_no_way_back) (defBody s__require_no_way_back) (defScope s__require_no_way_back) .none kV__require_no_way_back dc__require_no_way_back pm__require_no_way_back an__require_no_way_back cd__require_no_way_back ct__require_no_way_back), sl__require_no_way_back⟩) (c__require_no_way_back : PySem.W.codeIn K cd__require_no_way_back "_require_no_way_back" = true) (k__require_no_way_back : PySem.W.keepIn K (.ref f__require_no_way_back) = true)
    (a__chained_piece : PySem.W.nsIn K mainGlobals "_chained_piece" = some (some (.ref f__chained_piece))) (l__chained_piece : K.lookup f__chained_piece = some ⟨oc__chained_piece, od__chained_piece, .func (PySem.W.fnOf "_chained_piece" "_chained_piece" (defArgs s__chained_piece) (defBody s__chained_piece) (defScope s__chained_piece) .none kV__chained_piece dc__chained_piece pm__chained_piece an__chained_piece cd__chained_piece ct__chained_piece), sl__chained_piece⟩) (c__chained_piece : PySem.W.codeIn K cd__chained_piece "_chained_piece" = true) (k__chained_piece : PySem.W.keepIn K (.ref f__chained_piece) = true)
    (a_chained : PySem.W.nsIn K mainGlobals "chained" = some (some (.ref f_chained))) (l_chained : K.lookup f_chained = some ⟨oc_chained, od_chained, .func (PySem.W.fnOf "chained" "chained" (defArgs s_chained) (defBody s_chained) (defScope s_chained) .none kV_chained dc_chained pm_chained an_chained cd_chained ct_chained), sl_chained⟩) (c_chained : PySem.W.codeIn K cd_chained "chained" = true) (k_chained : PySem.W.keepIn K (.ref f_chained) = true)
    (a__law_store : PySem.W.nsIn K mainGlobals "_law_store" = some (some (.ref f__law_store))) (l__law_store : K.lookup f__law_store = some ⟨oc__law_store, od__law_store, .func (PySem.W.fnOf "_law_store" "_law_store" (defArgs s__law_store) (defBody s__law_store) (defScope s__law_store) .none kV__law_store dc__law_store pm__law_store an__law_store cd__law_store ct__law_store), sl__law_store⟩) (c__law_store : PySem.W.codeIn K cd__law_store "_law_store" = true) (k__law_store : PySem.W.keepIn K (.ref f__law_store) = true)
    (a__law_feed : PySem.W.nsIn K mainGlobals "_law_feed" = some (some (.ref f__law_feed))) (l__law_feed : K.lookup f__law_feed = some ⟨oc__law_feed, od__law_feed, .func (PySem.W.fnOf "_law_feed" "_law_feed" (defArgs s__law_feed) (defBody s__law_feed) (defScope s__law_feed) .none kV__law_feed dc__law_feed pm__law_feed an__law_feed cd__law_feed ct__law_feed), sl__law_feed⟩) (c__law_feed : PySem.W.codeIn K cd__law_feed "_law_feed" = true) (k__law_feed : PySem.W.keepIn K (.ref f__law_feed) = true)
    (a__law_mixed : PySem.W.nsIn K mainGlobals "_law_mixed" = some (some (.ref f__law_mixed))) (l__law_mixed : K.lookup f__law_mixed = some ⟨oc__law_mixed, od__law_mixed, .func (PySem.W.fnOf "_law_mixed" "_law_mixed" (defArgs s__law_mixed) (defBody s__law_mixed) (defScope s__law_mixed) .none kV__law_mixed dc__law_mixed pm__law_mixed an__law_mixed cd__law_mixed ct__law_mixed), sl__law_mixed⟩) (c__law_mixed : PySem.W.codeIn K cd__law_mixed "_law_mixed" = true) (k__law_mixed : PySem.W.keepIn K (.ref f__law_mixed) = true)
    (a__law_take : PySem.W.nsIn K mainGlobals "_law_take" = some (some (.ref f__law_take))) (l__law_take : K.lookup f__law_take = some ⟨oc__law_take, od__law_take, .func (PySem.W.fnOf "_law_take" "_law_take" (defArgs s__law_take) (defBody s__law_take) (defScope s__law_take) .none kV__law_take dc__law_take pm__law_take an__law_take cd__law_take ct__law_take), sl__law_take⟩) (c__law_take : PySem.W.codeIn K cd__law_take "_law_take" = true) (k__law_take : PySem.W.keepIn K (.ref f__law_take) = true)
    (a__law_pick : PySem.W.nsIn K mainGlobals "_law_pick" = some (some (.ref f__law_pick))) (l__law_pick : K.lookup f__law_pick = some ⟨oc__law_pick, od__law_pick, .func (PySem.W.fnOf "_law_pick" "_law_pick" (defArgs s__law_pick) (defBody s__law_pick) (defScope s__law_pick) .none kV__law_pick dc__law_pick pm__law_pick an__law_pick cd__law_pick ct__law_pick), sl__law_pick⟩) (c__law_pick : PySem.W.codeIn K cd__law_pick "_law_pick" = true) (k__law_pick : PySem.W.keepIn K (.ref f__law_pick) = true)
    (a__law_is_int : PySem.W.nsIn K mainGlobals "_law_is_int" = some (some (.ref f__law_is_int))) (l__law_is_int : K.lookup f__law_is_int = some ⟨oc__law_is_int, od__law_is_int, .func (PySem.W.fnOf "_law_is_int" "_law_is_int" (defArgs s__law_is_int) (defBody s__law_is_int) (defScope s__law_is_int) .none kV__law_is_int dc__law_is_int pm__law_is_int an__law_is_int cd__law_is_int ct__law_is_int), sl__law_is_int⟩) (c__law_is_int : PySem.W.codeIn K cd__law_is_int "_law_is_int" = true) (k__law_is_int : PySem.W.keepIn K (.ref f__law_is_int) = true)
    (a__law_same : PySem.W.nsIn K mainGlobals "_law_same" = some (some (.ref f__law_same))) (l__law_same : K.lookup f__law_same = some ⟨oc__law_same, od__law_same, .func (PySem.W.fnOf "_law_same" "_law_same" (defArgs s__law_same) (defBody s__law_same) (defScope s__law_same) .none kV__law_same dc__law_same pm__law_same an__law_same cd__law_same ct__law_same), sl__law_same⟩) (c__law_same : PySem.W.codeIn K cd__law_same "_law_same" = true) (k__law_same : PySem.W.keepIn K (.ref f__law_same) = true)
    (a__law_frac : PySem.W.nsIn K mainGlobals "_law_frac" = some (some (.ref f__law_frac))) (l__law_frac : K.lookup f__law_frac = some ⟨oc__law_frac, od__law_frac, .func (PySem.W.fnOf "_law_frac" "_law_frac" (defArgs s__law_frac) (defBody s__law_frac) (defScope s__law_frac) .none kV__law_frac dc__law_frac pm__law_frac an__law_frac cd__law_frac ct__law_frac), sl__law_frac⟩) (c__law_frac : PySem.W.codeIn K cd__law_frac "_law_frac" = true) (k__law_frac : PySem.W.keepIn K (.ref f__law_frac) = true)
    (a__law_plus : PySem.W.nsIn K mainGlobals "_law_plus" = some (some (.ref f__law_plus))) (l__law_plus : K.lookup f__law_plus = some ⟨oc__law_plus, od__law_plus, .func (PySem.W.fnOf "_law_plus" "_law_plus" (defArgs s__law_plus) (defBody s__law_plus) (defScope s__law_plus) .none kV__law_plus dc__law_plus pm__law_plus an__law_plus cd__law_plus ct__law_plus), sl__law_plus⟩) (c__law_plus : PySem.W.codeIn K cd__law_plus "_law_plus" = true) (k__law_plus : PySem.W.keepIn K (.ref f__law_plus) = true)
    (a__law_minus : PySem.W.nsIn K mainGlobals "_law_minus" = some (some (.ref f__law_minus))) (l__law_minus : K.lookup f__law_minus = some ⟨oc__law_minus, od__law_minus, .func (PySem.W.fnOf "_law_minus" "_law_minus" (defArgs s__law_minus) (defBody s__law_minus) (defScope s__law_minus) .none kV__law_minus dc__law_minus pm__law_minus an__law_minus cd__law_minus ct__law_minus), sl__law_minus⟩) (c__law_minus : PySem.W.codeIn K cd__law_minus "_law_minus" = true) (k__law_minus : PySem.W.keepIn K (.ref f__law_minus) = true)
    (a__law_times : PySem.W.nsIn K mainGlobals "_law_times" = some (some (.ref f__law_times))) (l__law_times : K.lookup f__law_times = some ⟨oc__law_times, od__law_times, .func (PySem.W.fnOf "_law_times" "_law_times" (defArgs s__law_times) (defBody s__law_times) (defScope s__law_times) .none kV__law_times dc__law_times pm__law_times an__law_times cd__law_times ct__law_times), sl__law_times⟩) (c__law_times : PySem.W.codeIn K cd__law_times "_law_times" = true) (k__law_times : PySem.W.keepIn K (.ref f__law_times) = true)
    (a__law_over : PySem.W.nsIn K mainGlobals "_law_over" = some (some (.ref f__law_over))) (l__law_over : K.lookup f__law_over = some ⟨oc__law_over, od__law_over, .func (PySem.W.fnOf "_law_over" "_law_over" (defArgs s__law_over) (defBody s__law_over) (defScope s__law_over) .none kV__law_over dc__law_over pm__law_over an__law_over cd__law_over ct__law_over), sl__law_over⟩) (c__law_over : PySem.W.codeIn K cd__law_over "_law_over" = true) (k__law_over : PySem.W.keepIn K (.ref f__law_over) = true)
    (a__law_below : PySem.W.nsIn K mainGlobals "_law_below" = some (some (.ref f__law_below))) (l__law_below : K.lookup f__law_below = some ⟨oc__law_below, od__law_below, .func (PySem.W.fnOf "_law_below" "_law_below" (defArgs s__law_below) (defBody s__law_below) (defScope s__law_below) .none kV__law_below dc__law_below pm__law_below an__law_below cd__law_below ct__law_below), sl__law_below⟩) (c__law_below : PySem.W.codeIn K cd__law_below "_law_below" = true) (k__law_below : PySem.W.keepIn K (.ref f__law_below) = true)
    (a__law_is_frac : PySem.W.nsIn K mainGlobals "_law_is_frac" = some (some (.ref f__law_is_frac))) (l__law_is_frac : K.lookup f__law_is_frac = some ⟨oc__law_is_frac, od__law_is_frac, .func (PySem.W.fnOf "_law_is_frac" "_law_is_frac" (defArgs s__law_is_frac) (defBody s__law_is_frac) (defScope s__law_is_frac) .none kV__law_is_frac dc__law_is_frac pm__law_is_frac an__law_is_frac cd__law_is_frac ct__law_is_frac), sl__law_is_frac⟩) (c__law_is_frac : PySem.W.codeIn K cd__law_is_frac "_law_is_frac" = true) (k__law_is_frac : PySem.W.keepIn K (.ref f__law_is_frac) = true)
    (a__law_part : PySem.W.nsIn K mainGlobals "_law_part" = some (some (.ref f__law_part))) (l__law_part : K.lookup f__law_part = some ⟨oc__law_part, od__law_part, .func (PySem.W.fnOf "_law_part" "_law_part" (defArgs s__law_part) (defBody s__law_part) (defScope s__law_part) .none kV__law_part dc__law_part pm__law_part an__law_part cd__law_part ct__law_part), sl__law_part⟩) (c__law_part : PySem.W.codeIn K cd__law_part "_law_part" = true) (k__law_part : PySem.W.keepIn K (.ref f__law_part) = true)
    (a__law_spare : PySem.W.nsIn K mainGlobals "_law_spare" = some (some (.ref f__law_spare))) (l__law_spare : K.lookup f__law_spare = some ⟨oc__law_spare, od__law_spare, .func (PySem.W.fnOf "_law_spare" "_law_spare" (defArgs s__law_spare) (defBody s__law_spare) (defScope s__law_spare) .none kV__law_spare dc__law_spare pm__law_spare an__law_spare cd__law_spare ct__law_spare), sl__law_spare⟩) (c__law_spare : PySem.W.codeIn K cd__law_spare "_law_spare" = true) (k__law_spare : PySem.W.keepIn K (.ref f__law_spare) = true)
    (a__law_above : PySem.W.nsIn K mainGlobals "_law_above" = some (some (.ref f__law_above))) (l__law_above : K.lookup f__law_above = some ⟨oc__law_above, od__law_above, .func (PySem.W.fnOf "_law_above" "_law_above" (defArgs s__law_above) (defBody s__law_above) (defScope s__law_above) .none kV__law_above dc__law_above pm__law_above an__law_above cd__law_above ct__law_above), sl__law_above⟩) (c__law_above : PySem.W.codeIn K cd__law_above "_law_above" = true) (k__law_above : PySem.W.keepIn K (.ref f__law_above) = true)
    (a__law_ordered : PySem.W.nsIn K mainGlobals "_law_ordered" = some (some (.ref f__law_ordered))) (l__law_ordered : K.lookup f__law_ordered = some ⟨oc__law_ordered, od__law_ordered, .func (PySem.W.fnOf "_law_ordered" "_law_ordered" (defArgs s__law_ordered) (defBody s__law_ordered) (defScope s__law_ordered) .none kV__law_ordered dc__law_ordered pm__law_ordered an__law_ordered cd__law_ordered ct__law_ordered), sl__law_ordered⟩) (c__law_ordered : PySem.W.codeIn K cd__law_ordered "_law_ordered" = true) (k__law_ordered : PySem.W.keepIn K (.ref f__law_ordered) = true)
    (a__law_pace : PySem.W.nsIn K mainGlobals "_law_pace" = some (some (.ref f__law_pace))) (l__law_pace : K.lookup f__law_pace = some ⟨oc__law_pace, od__law_pace, .func (PySem.W.fnOf "_law_pace" "_law_pace" (defArgs s__law_pace) (defBody s__law_pace) (defScope s__law_pace) .none kV__law_pace dc__law_pace pm__law_pace an__law_pace cd__law_pace ct__law_pace), sl__law_pace⟩) (c__law_pace : PySem.W.codeIn K cd__law_pace "_law_pace" = true) (k__law_pace : PySem.W.keepIn K (.ref f__law_pace) = true)
    (a__law_course : PySem.W.nsIn K mainGlobals "_law_course" = some (some (.ref f__law_course))) (l__law_course : K.lookup f__law_course = some ⟨oc__law_course, od__law_course, .func (PySem.W.fnOf "_law_course" "_law_course" (defArgs s__law_course) (defBody s__law_course) (defScope s__law_course) .none kV__law_course dc__law_course pm__law_course an__law_course cd__law_course ct__law_course), sl__law_course⟩) (c__law_course : PySem.W.codeIn K cd__law_course "_law_course" = true) (k__law_course : PySem.W.keepIn K (.ref f__law_course) = true)
    (a__law_place : PySem.W.nsIn K mainGlobals "_law_place" = some (some (.ref f__law_place))) (l__law_place : K.lookup f__law_place = some ⟨oc__law_place, od__law_place, .func (PySem.W.fnOf "_law_place" "_law_place" (defArgs s__law_place) (defBody s__law_place) (defScope s__law_place) .none kV__law_place dc__law_place pm__law_place an__law_place cd__law_place ct__law_place), sl__law_place⟩) (c__law_place : PySem.W.codeIn K cd__law_place "_law_place" = true) (k__law_place : PySem.W.keepIn K (.ref f__law_place) = true)
    (a__law_line : PySem.W.nsIn K mainGlobals "_law_line" = some (some (.ref f__law_line))) (l__law_line : K.lookup f__law_line = some ⟨oc__law_line, od__law_line, .func (PySem.W.fnOf "_law_line" "_law_line" (defArgs s__law_line) (defBody s__law_line) (defScope s__law_line) .none kV__law_line dc__law_line pm__law_line an__law_line cd__law_line ct__law_line), sl__law_line⟩) (c__law_line : PySem.W.codeIn K cd__law_line "_law_line" = true) (k__law_line : PySem.W.keepIn K (.ref f__law_line) = true)
    (a__law_is_tidy : PySem.W.nsIn K mainGlobals "_law_is_tidy" = some (some (.ref f__law_is_tidy))) (l__law_is_tidy : K.lookup f__law_is_tidy = some ⟨oc__law_is_tidy, od__law_is_tidy, .func (PySem.W.fnOf "_law_is_tidy" "_law_is_tidy" (defArgs s__law_is_tidy) (defBody s__law_is_tidy) (defScope s__law_is_tidy) .none kV__law_is_tidy dc__law_is_tidy pm__law_is_tidy an__law_is_tidy cd__law_is_tidy ct__law_is_tidy), sl__law_is_tidy⟩) (c__law_is_tidy : PySem.W.codeIn K cd__law_is_tidy "_law_is_tidy" = true) (k__law_is_tidy : PySem.W.keepIn K (.ref f__law_is_tidy) = true)
    (a__law_due : PySem.W.nsIn K mainGlobals "_law_due" = some (some (.ref f__law_due))) (l__law_due : K.lookup f__law_due = some ⟨oc__law_due, od__law_due, .func (PySem.W.fnOf "_law_due" "_law_due" (defArgs s__law_due) (defBody s__law_due) (defScope s__law_due) .none kV__law_due dc__law_due pm__law_due an__law_due cd__law_due ct__law_due), sl__law_due⟩) (c__law_due : PySem.W.codeIn K cd__law_due "_law_due" = true) (k__law_due : PySem.W.keepIn K (.ref f__law_due) = true)
    (a__law_bends : PySem.W.nsIn K mainGlobals "_law_bends" = some (some (.ref f__law_bends))) (l__law_bends : K.lookup f__law_bends = some ⟨oc__law_bends, od__law_bends, .func (PySem.W.fnOf "_law_bends" "_law_bends" (defArgs s__law_bends) (defBody s__law_bends) (defScope s__law_bends) .none kV__law_bends dc__law_bends pm__law_bends an__law_bends cd__law_bends ct__law_bends), sl__law_bends⟩) (c__law_bends : PySem.W.codeIn K cd__law_bends "_law_bends" = true) (k__law_bends : PySem.W.keepIn K (.ref f__law_bends) = true)
    (a__law_chain_ok : PySem.W.nsIn K mainGlobals "_law_chain_ok" = some (some (.ref f__law_chain_ok))) (l__law_chain_ok : K.lookup f__law_chain_ok = some ⟨oc__law_chain_ok, od__law_chain_ok, .func (PySem.W.fnOf "_law_chain_ok" "_law_chain_ok" (defArgs s__law_chain_ok) (defBody s__law_chain_ok) (defScope s__law_chain_ok) .none kV__law_chain_ok dc__law_chain_ok pm__law_chain_ok an__law_chain_ok cd__law_chain_ok ct__law_chain_ok), sl__law_chain_ok⟩) (c__law_chain_ok : PySem.W.codeIn K cd__law_chain_ok "_law_chain_ok" = true) (k__law_chain_ok : PySem.W.keepIn K (.ref f__law_chain_ok) = true)
    (a__law_asked : PySem.W.nsIn K mainGlobals "_law_asked" = some (some (.ref f__law_asked))) (l__law_asked : K.lookup f__law_asked = some ⟨oc__law_asked, od__law_asked, .func (PySem.W.fnOf "_law_asked" "_law_asked" (defArgs s__law_asked) (defBody s__law_asked) (defScope s__law_asked) .none kV__law_asked dc__law_asked pm__law_asked an__law_asked cd__law_asked ct__law_asked), sl__law_asked⟩) (c__law_asked : PySem.W.codeIn K cd__law_asked "_law_asked" = true) (k__law_asked : PySem.W.keepIn K (.ref f__law_asked) = true)
    (a__law_answer_ok : PySem.W.nsIn K mainGlobals "_law_answer_ok" = some (some (.ref f__law_answer_ok))) (l__law_answer_ok : K.lookup f__law_answer_ok = some ⟨oc__law_answer_ok, od__law_answer_ok, .func (PySem.W.fnOf "_law_answer_ok" "_law_answer_ok" (defArgs s__law_answer_ok) (defBody s__law_answer_ok) (defScope s__law_answer_ok) .none kV__law_answer_ok dc__law_answer_ok pm__law_answer_ok an__law_answer_ok cd__law_answer_ok ct__law_answer_ok), sl__law_answer_ok⟩) (c__law_answer_ok : PySem.W.codeIn K cd__law_answer_ok "_law_answer_ok" = true) (k__law_answer_ok : PySem.W.keepIn K (.ref f__law_answer_ok) = true)
    (a__law_shown_ok : PySem.W.nsIn K mainGlobals "_law_shown_ok" = some (some (.ref f__law_shown_ok))) (l__law_shown_ok : K.lookup f__law_shown_ok = some ⟨oc__law_shown_ok, od__law_shown_ok, .func (PySem.W.fnOf "_law_shown_ok" "_law_shown_ok" (defArgs s__law_shown_ok) (defBody s__law_shown_ok) (defScope s__law_shown_ok) .none kV__law_shown_ok dc__law_shown_ok pm__law_shown_ok an__law_shown_ok cd__law_shown_ok ct__law_shown_ok), sl__law_shown_ok⟩) (c__law_shown_ok : PySem.W.codeIn K cd__law_shown_ok "_law_shown_ok" = true) (k__law_shown_ok : PySem.W.keepIn K (.ref f__law_shown_ok) = true)
    (a__law_moved : PySem.W.nsIn K mainGlobals "_law_moved" = some (some (.ref f__law_moved))) (l__law_moved : K.lookup f__law_moved = some ⟨oc__law_moved, od__law_moved, .func (PySem.W.fnOf "_law_moved" "_law_moved" (defArgs s__law_moved) (defBody s__law_moved) (defScope s__law_moved) .none kV__law_moved dc__law_moved pm__law_moved an__law_moved cd__law_moved ct__law_moved), sl__law_moved⟩) (c__law_moved : PySem.W.codeIn K cd__law_moved "_law_moved" = true) (k__law_moved : PySem.W.keepIn K (.ref f__law_moved) = true)
    (a__law_long_ok : PySem.W.nsIn K mainGlobals "_law_long_ok" = some (some (.ref f__law_long_ok))) (l__law_long_ok : K.lookup f__law_long_ok = some ⟨oc__law_long_ok, od__law_long_ok, .func (PySem.W.fnOf "_law_long_ok" "_law_long_ok" (defArgs s__law_long_ok) (defBody s__law_long_ok) (defScope s__law_long_ok) .none kV__law_long_ok dc__law_long_ok pm__law_long_ok an__law_long_ok cd__law_long_ok ct__law_long_ok), sl__law_long_ok⟩) (c__law_long_ok : PySem.W.codeIn K cd__law_long_ok "_law_long_ok" = true) (k__law_long_ok : PySem.W.keepIn K (.ref f__law_long_ok) = true)
    (a_law : PySem.W.nsIn K mainGlobals "law" = some (some (.ref f_law))) (l_law : K.lookup f_law = some ⟨oc_law, od_law, .func (PySem.W.fnOf "law" "law" (defArgs s_law) (defBody s_law) (defScope s_law) .none kV_law dc_law pm_law an_law cd_law ct_law), sl_law⟩) (c_law : PySem.W.codeIn K cd_law "law" = true) (k_law : PySem.W.keepIn K (.ref f_law) = true)
    (zgcd : PySem.W.nsIn K mainGlobals "gcd" = some (some (.builtin "math.gcd")))
    (zlen : PySem.W.nsIn K mainGlobals "len" = some none)
    (zabs : PySem.W.nsIn K mainGlobals "abs" = some none)
    (zmax : PySem.W.nsIn K mainGlobals "max" = some none)
    (zint : PySem.W.nsIn K mainGlobals "int" = some none)
    (zisinstance : PySem.W.nsIn K mainGlobals "isinstance" = some none)
    (zrange : PySem.W.nsIn K mainGlobals "range" = some none)
    (zenumerate : PySem.W.nsIn K mainGlobals "enumerate" = some none)
    (zlist : PySem.W.nsIn K mainGlobals "list" = some none)
    (ztuple : PySem.W.nsIn K mainGlobals "tuple" = some none)
    (zstr : PySem.W.nsIn K mainGlobals "str" = some none)
    (zbool : PySem.W.nsIn K mainGlobals "bool" = some none)
    (zdict : PySem.W.nsIn K mainGlobals "dict" = some none)
    (zVE : PySem.W.nsIn K mainGlobals "ValueError" = some none) (sVEB : PySem.W.subIn K (.ref C_BeforeStart) (.type "ValueError") = some true) (sVET : PySem.W.subIn K (.ref C_TurnsBack) (.type "ValueError") = some true) (eC_VerdictError : PySem.W.subIn K (.ref C_VerdictError) (.type "BaseException") = some true)
    : ∃ fd : FuncData, (∀ (s : Shared) (v : Value), BindsTo s fd ⟨[v], []⟩ [("_law_script", v)]) ∧ ∀ base : Heap, K.In base → base.Ns mainGlobals mg → FnOk l.prog w K mg base CX0 11 fa fd ["_law_script"] (spLaw K) := by
  have e := hfa.symm.trans (PySem.W.mg_of X G a_law)
  cases e
  have T : Bn mg := ⟨PySem.W.mg_of X G zgcd, PySem.W.mg_none_of X G zlen, PySem.W.mg_none_of X G zabs, PySem.W.mg_none_of X G zmax, PySem.W.mg_none_of X G zint, PySem.W.mg_none_of X G zisinstance, PySem.W.mg_none_of X G zrange, PySem.W.mg_none_of X G zenumerate, PySem.W.mg_none_of X G zlist, PySem.W.mg_none_of X G ztuple, PySem.W.mg_none_of X G zstr, PySem.W.mg_none_of X G zbool, PySem.W.mg_none_of X G zdict⟩
  have hR_rational : FunD K "rational" "rational" (defArgs s_rational) (defBody s_rational) (defScope s_rational) [.int 1] [] f_rational _ := ⟨⟨_, _, _, _, _, _, _, _, _, _, rfl, l_rational, c_rational, .inr ⟨nofun, dV_rational, _, [.int 1 dtk_rational], dn_rational, rfl, ldf_rational, rfl, .cons ⟨dtk_rational, rfl⟩ .nil⟩, .inl rfl⟩, k_rational⟩
  obtain ⟨ds_rational, rds_rational, bR_rational⟩ := hR_rational.binds1 (ps := ["n", "d"]) 2 1 nofun rfl fun T kV doc pm an cdv ct us its hu hi => match us, its, hu, hi with | [_, _], [_], _, _ => ⟨_, rfl, rfl⟩
  cases rds_rational
  have F_add := fun_mk (st := s_add) l_add c_add k_add
  have B_add := F_add.binds (ps := ["a", "b"]) fun _ _ _ _ _ _ us hl => match us, hl with | [_, _], _ => rfl
  have F_subtract := fun_mk (st := s_subtract) l_subtract c_subtract k_subtract
  have B_subtract := F_subtract.binds (ps := ["a", "b"]) fun _ _ _ _ _ _ us hl => match us, hl with | [_, _], _ => rfl
  have F_multiply := fun_mk (st := s_multiply) l_multiply c_multiply k_multiply
  have B_multiply := F_multiply.binds (ps := ["a", "b"]) fun _ _ _ _ _ _ us hl => match us, hl with | [_, _], _ => rfl
  have F_negate := fun_mk (st := s_negate) l_negate c_negate k_negate
  have B_negate := F_negate.binds (ps := ["a"]) fun _ _ _ _ _ _ us hl => match us, hl with | [_], _ => rfl
  have F_divide := fun_mk (st := s_divide) l_divide c_divide k_divide
  have B_divide := F_divide.binds (ps := ["a", "b"]) fun _ _ _ _ _ _ us hl => match us, hl with | [_, _], _ => rfl
  have F_compare := fun_mk (st := s_compare) l_compare c_compare k_compare
  have B_compare := F_compare.binds (ps := ["a", "b"]) fun _ _ _ _ _ _ us hl => match us, hl with | [_, _], _ => rfl
  have F__shown_by := fun_mk (st := s__shown_by) l__shown_by c__shown_by k__shown_by
  have B__shown_by := F__shown_by.binds (ps := ["piece", "t"]) fun _ _ _ _ _ _ us hl => match us, hl with | [_, _], _ => rfl
  have F__time_of := fun_mk (st := s__time_of) l__time_of c__time_of k__time_of
  have B__time_of := F__time_of.binds (ps := ["piece", "reading"]) fun _ _ _ _ _ _ us hl => match us, hl with | [_, _], _ => rfl
  have F__end_of := fun_mk (st := s__end_of) l__end_of c__end_of k__end_of
  have B__end_of := F__end_of.binds (ps := ["course", "at"]) fun _ _ _ _ _ _ us hl => match us, hl with | [_, _], _ => rfl
  have F__place_at := fun_mk (st := s__place_at) l__place_at c__place_at k__place_at
  have B__place_at := F__place_at.binds (ps := ["course", "t"]) fun _ _ _ _ _ _ us hl => match us, hl with | [_, _], _ => rfl
  have F__piece_at := fun_mk (st := s__piece_at) l__piece_at c__piece_at k__piece_at
  have B__piece_at := F__piece_at.binds (ps := ["course", "t"]) fun _ _ _ _ _ _ us hl => match us, hl with | [_, _], _ => rfl
  have F_shown_at := fun_mk (st := s_shown_at) l_shown_at c_shown_at k_shown_at
  have B_shown_at := F_shown_at.binds (ps := ["course", "t"]) fun _ _ _ _ _ _ us hl => match us, hl with | [_, _], _ => rfl
  have F__jump_at := fun_mk (st := s__jump_at) l__jump_at c__jump_at k__jump_at
  have B__jump_at := F__jump_at.binds (ps := ["course", "at"]) fun _ _ _ _ _ _ us hl => match us, hl with | [_, _], _ => rfl
  have F_jumps := fun_mk (st := s_jumps) l_jumps c_jumps k_jumps
  have B_jumps := F_jumps.binds (ps := ["course"]) fun _ _ _ _ _ _ us hl => match us, hl with | [_], _ => rfl
  have F_tidy := fun_mk (st := s_tidy) l_tidy c_tidy k_tidy
  have B_tidy := F_tidy.binds (ps := ["course"]) fun _ _ _ _ _ _ us hl => match us, hl with | [_], _ => rfl
  have F__require_no_way_back := fun_mk (st := s__require_no_way_back) l__require_no_way_back c__require_no_way_back k__require_no_way_back
  have B__require_no_way_back := F__require_no_way_back.binds (ps := ["course"]) fun _ _ _ _ _ _ us hl => match us, hl with | [_], _ => rfl
  have F__chained_piece := fun_mk (st := s__chained_piece) l__chained_piece c__chained_piece k__chained_piece
  have B__chained_piece := F__chained_piece.binds (ps := ["piece", "end", "outer"]) fun _ _ _ _ _ _ us hl => match us, hl with | [_, _, _], _ => rfl
  have F_chained := fun_mk (st := s_chained) l_chained c_chained k_chained
  have B_chained := F_chained.binds (ps := ["inner", "outer"]) fun _ _ _ _ _ _ us hl => match us, hl with | [_, _], _ => rfl
  have F__law_store := fun_mk (st := s__law_store) l__law_store c__law_store k__law_store
  have B__law_store := F__law_store.binds (ps := ["_law_script"]) fun _ _ _ _ _ _ us hl => match us, hl with | [_], _ => rfl
  have F__law_feed := fun_mk (st := s__law_feed) l__law_feed c__law_feed k__law_feed
  have B__law_feed := F__law_feed.binds (ps := ["_law_store_here"]) fun _ _ _ _ _ _ us hl => match us, hl with | [_], _ => rfl
  have F__law_mixed := fun_mk (st := s__law_mixed) l__law_mixed c__law_mixed k__law_mixed
  have B__law_mixed := F__law_mixed.binds (ps := ["_law_store_here"]) fun _ _ _ _ _ _ us hl => match us, hl with | [_], _ => rfl
  have F__law_take := fun_mk (st := s__law_take) l__law_take c__law_take k__law_take
  have B__law_take := F__law_take.binds (ps := ["_law_store_here", "_law_many"]) fun _ _ _ _ _ _ us hl => match us, hl with | [_, _], _ => rfl
  have F__law_pick := fun_mk (st := s__law_pick) l__law_pick c__law_pick k__law_pick
  have B__law_pick := F__law_pick.binds (ps := ["_law_store_here", "_law_things"]) fun _ _ _ _ _ _ us hl => match us, hl with | [_, _], _ => rfl
  have F__law_is_int := fun_mk (st := s__law_is_int) l__law_is_int c__law_is_int k__law_is_int
  have B__law_is_int := F__law_is_int.binds (ps := ["_law_value"]) fun _ _ _ _ _ _ us hl => match us, hl with | [_], _ => rfl
  have F__law_same := fun_mk (st := s__law_same) l__law_same c__law_same k__law_same
  have B__law_same := F__law_same.binds (ps := ["_law_value", "_law_due_here"]) fun _ _ _ _ _ _ us hl => match us, hl with | [_, _], _ => rfl
  have F__law_frac := fun_mk (st := s__law_frac) l__law_frac c__law_frac k__law_frac
  have B__law_frac := F__law_frac.binds (ps := ["_law_n", "_law_d"]) fun _ _ _ _ _ _ us hl => match us, hl with | [_, _], _ => rfl
  have F__law_plus := fun_mk (st := s__law_plus) l__law_plus c__law_plus k__law_plus
  have B__law_plus := F__law_plus.binds (ps := ["_law_a", "_law_b"]) fun _ _ _ _ _ _ us hl => match us, hl with | [_, _], _ => rfl
  have F__law_minus := fun_mk (st := s__law_minus) l__law_minus c__law_minus k__law_minus
  have B__law_minus := F__law_minus.binds (ps := ["_law_a", "_law_b"]) fun _ _ _ _ _ _ us hl => match us, hl with | [_, _], _ => rfl
  have F__law_times := fun_mk (st := s__law_times) l__law_times c__law_times k__law_times
  have B__law_times := F__law_times.binds (ps := ["_law_a", "_law_b"]) fun _ _ _ _ _ _ us hl => match us, hl with | [_, _], _ => rfl
  have F__law_over := fun_mk (st := s__law_over) l__law_over c__law_over k__law_over
  have B__law_over := F__law_over.binds (ps := ["_law_a", "_law_b"]) fun _ _ _ _ _ _ us hl => match us, hl with | [_, _], _ => rfl
  have F__law_below := fun_mk (st := s__law_below) l__law_below c__law_below k__law_below
  have B__law_below := F__law_below.binds (ps := ["_law_a", "_law_b"]) fun _ _ _ _ _ _ us hl => match us, hl with | [_, _], _ => rfl
  have F__law_is_frac := fun_mk (st := s__law_is_frac) l__law_is_frac c__law_is_frac k__law_is_frac
  have B__law_is_frac := F__law_is_frac.binds (ps := ["_law_value"]) fun _ _ _ _ _ _ us hl => match us, hl with | [_], _ => rfl
  have F__law_part := fun_mk (st := s__law_part) l__law_part c__law_part k__law_part
  have B__law_part := F__law_part.binds (ps := ["_law_store_here"]) fun _ _ _ _ _ _ us hl => match us, hl with | [_], _ => rfl
  have F__law_spare := fun_mk (st := s__law_spare) l__law_spare c__law_spare k__law_spare
  have B__law_spare := F__law_spare.binds (ps := ["_law_store_here"]) fun _ _ _ _ _ _ us hl => match us, hl with | [_], _ => rfl
  have F__law_above := fun_mk (st := s__law_above) l__law_above c__law_above k__law_above
  have B__law_above := F__law_above.binds (ps := ["_law_store_here"]) fun _ _ _ _ _ _ us hl => match us, hl with | [_], _ => rfl
  have F__law_ordered := fun_mk (st := s__law_ordered) l__law_ordered c__law_ordered k__law_ordered
  have B__law_ordered := F__law_ordered.binds (ps := ["_law_fracs"]) fun _ _ _ _ _ _ us hl => match us, hl with | [_], _ => rfl
  have F__law_pace := fun_mk (st := s__law_pace) l__law_pace c__law_pace k__law_pace
  have B__law_pace := F__law_pace.binds (ps := ["_law_store_here"]) fun _ _ _ _ _ _ us hl => match us, hl with | [_], _ => rfl
  have F__law_course := fun_mk (st := s__law_course) l__law_course c__law_course k__law_course
  have B__law_course := F__law_course.binds (ps := ["_law_store_here", "_law_many", "_law_fall"]) fun _ _ _ _ _ _ us hl => match us, hl with | [_, _, _], _ => rfl
  have F__law_place := fun_mk (st := s__law_place) l__law_place c__law_place k__law_place
  have B__law_place := F__law_place.binds (ps := ["_law_course_here", "_law_t"]) fun _ _ _ _ _ _ us hl => match us, hl with | [_, _], _ => rfl
  have F__law_line := fun_mk (st := s__law_line) l__law_line c__law_line k__law_line
  have B__law_line := F__law_line.binds (ps := ["_law_piece", "_law_t"]) fun _ _ _ _ _ _ us hl => match us, hl with | [_, _], _ => rfl
  have F__law_is_tidy := fun_mk (st := s__law_is_tidy) l__law_is_tidy c__law_is_tidy k__law_is_tidy
  have B__law_is_tidy := F__law_is_tidy.binds (ps := ["_law_value"]) fun _ _ _ _ _ _ us hl => match us, hl with | [_], _ => rfl
  have F__law_due := fun_mk (st := s__law_due) l__law_due c__law_due k__law_due
  have B__law_due := F__law_due.binds (ps := ["_law_inner", "_law_outer"]) fun _ _ _ _ _ _ us hl => match us, hl with | [_, _], _ => rfl
  have F__law_bends := fun_mk (st := s__law_bends) l__law_bends c__law_bends k__law_bends
  have B__law_bends := F__law_bends.binds (ps := ["_law_inner", "_law_outer"]) fun _ _ _ _ _ _ us hl => match us, hl with | [_, _], _ => rfl
  have F__law_chain_ok := fun_mk (st := s__law_chain_ok) l__law_chain_ok c__law_chain_ok k__law_chain_ok
  have B__law_chain_ok := F__law_chain_ok.binds (ps := ["_law_told", "_law_inner", "_law_outer"]) fun _ _ _ _ _ _ us hl => match us, hl with | [_, _, _], _ => rfl
  have F__law_asked := fun_mk (st := s__law_asked) l__law_asked c__law_asked k__law_asked
  have B__law_asked := F__law_asked.binds (ps := ["_law_inner", "_law_outer"]) fun _ _ _ _ _ _ us hl => match us, hl with | [_, _], _ => rfl
  have F__law_answer_ok := fun_mk (st := s__law_answer_ok) l__law_answer_ok c__law_answer_ok k__law_answer_ok
  have B__law_answer_ok := F__law_answer_ok.binds (ps := ["_law_inner", "_law_outer", "_law_spoil"]) fun _ _ _ _ _ _ us hl => match us, hl with | [_, _, _], _ => rfl
  have F__law_shown_ok := fun_mk (st := s__law_shown_ok) l__law_shown_ok c__law_shown_ok k__law_shown_ok
  have B__law_shown_ok := F__law_shown_ok.binds (ps := ["_law_course_here", "_law_inner", "_law_outer"]) fun _ _ _ _ _ _ us hl => match us, hl with | [_, _, _], _ => rfl
  have F__law_moved := fun_mk (st := s__law_moved) l__law_moved c__law_moved k__law_moved
  have B__law_moved := F__law_moved.binds (ps := ["_law_store_here", "_law_inner", "_law_outer"]) fun _ _ _ _ _ _ us hl => match us, hl with | [_, _, _], _ => rfl
  have F__law_long_ok := fun_mk (st := s__law_long_ok) l__law_long_ok c__law_long_ok k__law_long_ok
  have B__law_long_ok := F__law_long_ok.binds (ps := ["_law_store_here"]) fun _ _ _ _ _ _ us hl => match us, hl with | [_], _ => rfl
  have F_law := fun_mk (st := s_law) l_law c_law k_law
  have B_law := F_law.binds (ps := ["_law_script"]) fun _ _ _ _ _ _ us hl => match us, hl with | [_], _ => rfl
  refine ⟨PySem.W.fnOf "law" "law" (defArgs s_law) (defBody s_law) (defScope s_law) .none kV_law dc_law pm_law an_law cd_law ct_law, fun s v => .of_eq rfl, fun base _ _ => ?_⟩
  have ZZERO : CnZERO K mg aZERO := cnZERO (PySem.W.mg_of X G a0ZERO) fun H => .inr ⟨_, _, _, l0ZERO, rfl, rfl, (by show 2 ≤ sizeLine; decide), (.cons ⟨tZERO0, rfl⟩ (.cons ⟨tZERO1, rfl⟩ .nil))⟩
  exact law_ok T ZZERO ⟨⟨_, _, _, _, _, _, _, _, _, _, rfl, l_rational, c_rational⟩, k_rational⟩ (PySem.W.mg_of X G a_rational) bR_rational
    (errTxt (PySem.W.mg_of X G aC_BeforeStart) xL_BeforeStart rv_BeforeStart sa_BeforeStart ga_BeforeStart gg_BeforeStart nb_BeforeStart a1_BeforeStart t1_BeforeStart l1_BeforeStart c1_BeforeStart kC_BeforeStart eC_BeforeStart tC_BeforeStart hC_BeforeStart (exm_of eC_BeforeStart iC_BeforeStart tC_BeforeStart sC_BeforeStart))
    (errTxt (PySem.W.mg_of X G aC_TurnsBack) xL_TurnsBack rv_TurnsBack sa_TurnsBack ga_TurnsBack gg_TurnsBack nb_TurnsBack a1_TurnsBack t1_TurnsBack l1_TurnsBack c1_TurnsBack kC_TurnsBack eC_TurnsBack tC_TurnsBack hC_TurnsBack (exm_of eC_TurnsBack iC_TurnsBack tC_TurnsBack sC_TurnsBack))
    ⟨ga_BeforeStart, gg_BeforeStart, eC_BeforeStart, hC_BeforeStart, xa_BeforeStart, xn, xt, xm_BeforeStart⟩
    ⟨ga_TurnsBack, gg_TurnsBack, eC_TurnsBack, hC_TurnsBack, xa_TurnsBack, xn, xt, xm_TurnsBack⟩
    (PySem.W.mg_of X G aC_VerdictError)
    (exm_of eC_VerdictError iC_VerdictError tC_VerdictError je_BeforeStart_VerdictError)
    (exm_of eC_VerdictError iC_VerdictError tC_VerdictError je_TurnsBack_VerdictError)
    (kit_of1 nk_BeforeStart_TurnsBack iC_TurnsBack tC_TurnsBack jk_BeforeStart_TurnsBack)
    (kit_of1 nk_TurnsBack_BeforeStart iC_BeforeStart tC_BeforeStart jk_TurnsBack_BeforeStart)
    ⟨F_add, PySem.W.mg_of X G a_add, B_add⟩
    ⟨F_subtract, PySem.W.mg_of X G a_subtract, B_subtract⟩
    ⟨F_multiply, PySem.W.mg_of X G a_multiply, B_multiply⟩
    ⟨F_negate, PySem.W.mg_of X G a_negate, B_negate⟩
    ⟨F_divide, PySem.W.mg_of X G a_divide, B_divide⟩
    ⟨F_compare, PySem.W.mg_of X G a_compare, B_compare⟩
    ⟨F__shown_by, PySem.W.mg_of X G a__shown_by, B__shown_by⟩
    ⟨F__time_of, PySem.W.mg_of X G a__time_of, B__time_of⟩
    ⟨F__end_of, PySem.W.mg_of X G a__end_of, B__end_of⟩
    ⟨F__place_at, PySem.W.mg_of X G a__place_at, B__place_at⟩
    ⟨F__piece_at, PySem.W.mg_of X G a__piece_at, B__piece_at⟩
    ⟨F_shown_at, PySem.W.mg_of X G a_shown_at, B_shown_at⟩
    ⟨F__jump_at, PySem.W.mg_of X G a__jump_at, B__jump_at⟩
    ⟨F_jumps, PySem.W.mg_of X G a_jumps, B_jumps⟩
    ⟨F_tidy, PySem.W.mg_of X G a_tidy, B_tidy⟩
    ⟨F__require_no_way_back, PySem.W.mg_of X G a__require_no_way_back, B__require_no_way_back⟩
    ⟨F__chained_piece, PySem.W.mg_of X G a__chained_piece, B__chained_piece⟩
    ⟨F_chained, PySem.W.mg_of X G a_chained, B_chained⟩
    ⟨F__law_store, PySem.W.mg_of X G a__law_store, B__law_store⟩
    ⟨F__law_feed, PySem.W.mg_of X G a__law_feed, B__law_feed⟩
    ⟨F__law_mixed, PySem.W.mg_of X G a__law_mixed, B__law_mixed⟩
    ⟨F__law_take, PySem.W.mg_of X G a__law_take, B__law_take⟩
    ⟨F__law_pick, PySem.W.mg_of X G a__law_pick, B__law_pick⟩
    ⟨F__law_is_int, PySem.W.mg_of X G a__law_is_int, B__law_is_int⟩
    ⟨F__law_same, PySem.W.mg_of X G a__law_same, B__law_same⟩
    ⟨F__law_frac, PySem.W.mg_of X G a__law_frac, B__law_frac⟩
    ⟨F__law_plus, PySem.W.mg_of X G a__law_plus, B__law_plus⟩
    ⟨F__law_minus, PySem.W.mg_of X G a__law_minus, B__law_minus⟩
    ⟨F__law_times, PySem.W.mg_of X G a__law_times, B__law_times⟩
    ⟨F__law_over, PySem.W.mg_of X G a__law_over, B__law_over⟩
    ⟨F__law_below, PySem.W.mg_of X G a__law_below, B__law_below⟩
    ⟨F__law_is_frac, PySem.W.mg_of X G a__law_is_frac, B__law_is_frac⟩
    ⟨F__law_part, PySem.W.mg_of X G a__law_part, B__law_part⟩
    ⟨F__law_spare, PySem.W.mg_of X G a__law_spare, B__law_spare⟩
    ⟨F__law_above, PySem.W.mg_of X G a__law_above, B__law_above⟩
    ⟨F__law_ordered, PySem.W.mg_of X G a__law_ordered, B__law_ordered⟩
    ⟨F__law_pace, PySem.W.mg_of X G a__law_pace, B__law_pace⟩
    ⟨F__law_course, PySem.W.mg_of X G a__law_course, B__law_course⟩
    ⟨F__law_place, PySem.W.mg_of X G a__law_place, B__law_place⟩
    ⟨F__law_line, PySem.W.mg_of X G a__law_line, B__law_line⟩
    ⟨F__law_is_tidy, PySem.W.mg_of X G a__law_is_tidy, B__law_is_tidy⟩
    ⟨F__law_due, PySem.W.mg_of X G a__law_due, B__law_due⟩
    ⟨F__law_bends, PySem.W.mg_of X G a__law_bends, B__law_bends⟩
    ⟨F__law_chain_ok, PySem.W.mg_of X G a__law_chain_ok, B__law_chain_ok⟩
    ⟨F__law_asked, PySem.W.mg_of X G a__law_asked, B__law_asked⟩
    ⟨F__law_answer_ok, PySem.W.mg_of X G a__law_answer_ok, B__law_answer_ok⟩
    ⟨F__law_shown_ok, PySem.W.mg_of X G a__law_shown_ok, B__law_shown_ok⟩
    ⟨F__law_moved, PySem.W.mg_of X G a__law_moved, B__law_moved⟩
    ⟨F__law_long_ok, PySem.W.mg_of X G a__law_long_ok, B__law_long_ok⟩
    ⟨F_law, PySem.W.mg_of X G a_law, B_law⟩
    (PySem.W.mg_none_of X G zVE) (kit_ty2 (by decide +kernel) sVEB) (kit_ty2 (by decide +kernel) sVET)
theorem walk {l : PySem.W.OpenLaw} {q : Program} {loose : List Str} {XP : (Str → Option Value) → Heap → Prop} {YP : World → Heap → Prop} {d : DefRec} {K : Params → PySem.W.Frag} (hn : l.most = some 63) (hdf : d.params.defaults = [])
    (hY : ∀ (w : World) (h : Heap), YP w h → (K w.params).In h)
    (F : ∀ (w : World) (mg : Str → Option Value) (fa : Addr) (h : Heap), (K w.params).In h → h.Ns mainGlobals mg → mg d.name = some (.ref fa) →
      ∃ fd : FuncData, (∀ (s : Shared) (u : Value), BindsTo s fd ⟨[u], []⟩ [("_law_script", u)]) ∧ ∀ base : Heap, (K w.params).In base → base.Ns mainGlobals mg → FnOk l.prog w (K w.params) mg base CX0 11 fa fd ["_law_script"] (spLaw (K w.params))) :
    PySem.W.WalkO q loose XP YP l.row.toRowW d [] (fun f vs => PySem.call f vs) :=
  L2.walk_of (n := 63) (k := 11) (x := "_law_script") (CX := fun _ => CX0) (sp := fun w => spLaw (K w.params)) hn (by decide) hdf ⟨rfl, by decide, by decide⟩ hY F (fun _ _ a ns hl _ hS => ⟨a, ns, rfl, hS, hl, fun _ => rfl⟩) fun _ _ _ _ _ z => z
end Vk
open PySem PySem.W PyProof.Rows
set_option maxRecDepth 100000 in
set_option maxHeartbeats 0 in
theorem PySem.Challenge.cw_clockverdict_k62_chained_courses_holds : PySem.Challenge.rw_clockverdict_k62_chained_courses.Holds := by
  w_on; o_law; k_head; (case hw => w_witness2)
  k_fill
  refine Vk.walk (l := PySem.Challenge.rw_clockverdict_k62_chained_courses) rfl rfl (fun w h Y => PySem.W.kIn_of Y) ?F
  case F =>
    intro w mg fa h KX G hmg
    refine' Vk.all_mk KX G hmg ?ldf_rational ?a0ZERO ?l0ZERO ?aC_BeforeStart ?xL_BeforeStart ?rv_BeforeStart ?sa_BeforeStart ?ga_BeforeStart ?gg_BeforeStart ?nb_BeforeStart ?a1_BeforeStart ?t1_BeforeStart ?l1_BeforeStart ?c1_BeforeStart ?kC_BeforeStart ?eC_BeforeStart ?tC_BeforeStart ?hC_BeforeStart ?iC_BeforeStart ?sC_BeforeStart ?aC_TurnsBack ?xL_TurnsBack ?rv_TurnsBack ?sa_TurnsBack ?ga_TurnsBack ?gg_TurnsBack ?nb_TurnsBack ?a1_TurnsBack ?t1_TurnsBack ?l1_TurnsBack ?c1_TurnsBack ?kC_TurnsBack ?eC_TurnsBack ?tC_TurnsBack ?hC_TurnsBack ?iC_TurnsBack ?sC_TurnsBack ?xa_BeforeStart ?xm_BeforeStart ?xa_TurnsBack ?xm_TurnsBack ?xn ?xt ?aC_VerdictError ?tC_VerdictError ?iC_VerdictError ?je_BeforeStart_VerdictError ?ne_BeforeStart_VerdictError ?je_TurnsBack_VerdictError ?ne_TurnsBack_VerdictError ?jk_BeforeStart_TurnsBack ?nk_BeforeStart_TurnsBack ?jk_TurnsBack_BeforeStart ?nk_TurnsBack_BeforeStart ?a_rational ?l_rational ?c_rational ?k_rational ?a_add ?l_add ?c_add ?k_add ?a_subtract ?l_subtract ?c_subtract ?k_subtract ?a_multiply ?l_multiply ?c_multiply ?k_multiply ?a_negate ?l_negate ?c_negate ?k_negate ?a_divide ?l_divide ?c_divide ?k_divide ?a_compare ?l_compare ?c_compare ?k_compare ?a__shown_by ?l__shown_by ?c__shown_by ?k__shown_by ?a__time_of ?l__time_of ?c__time_of ?k__time_of ?a__end_of ?l__end_of ?c__end_of ?k__end_of ?a__place_at ?l__place_at ?c__place_at ?k__place_at ?a__piece_at ?l__piece_at ?c__piece_at ?k__piece_at ?a_shown_at ?l_shown_at ?c_shown_at ?k_shown_at ?a__jump_at ?l__jump_at ?c__jump_at ?k__jump_at ?a_jumps ?l_jumps ?c_jumps ?k_jumps ?a_tidy ?l_tidy ?c_tidy ?k_tidy ?a__require_no_way_back ?l__require_no_way_back ?c__require_no_way_back ?k__require_no_way_back ?a__chained_piece ?l__chained_piece ?c__chained_piece ?k__chained_piece ?a_chained ?l_chained ?c_chained ?k_chained ?a__law_store ?l__law_store ?c__law_store ?k__law_store ?a__law_feed ?l__law_feed ?c__law_feed ?k__law_feed ?a__law_mixed ?l__law_mixed ?c__law_mixed ?k__law_mixed ?a__law_take ?l__law_take ?c__law_take ?k__law_take ?a__law_pick ?l__law_pick ?c__law_pick ?k__law_pick ?a__law_is_int ?l__law_is_int ?c__law_is_int ?k__law_is_int ?a__law_same ?l__law_same ?c__law_same ?k__law_same ?a__law_frac ?l__law_frac ?c__law_frac ?k__law_frac ?a__law_plus ?l__law_plus ?c__law_plus ?k__law_plus ?a__law_minus ?l__law_minus ?c__law_minus ?k__law_minus ?a__law_times ?l__law_times ?c__law_times ?k__law_times ?a__law_over ?l__law_over ?c__law_over ?k__law_over ?a__law_below ?l__law_below ?c__law_below ?k__law_below ?a__law_is_frac ?l__law_is_frac ?c__law_is_frac ?k__law_is_frac ?a__law_part ?l__law_part ?c__law_part ?k__law_part ?a__law_spare ?l__law_spare ?c__law_spare ?k__law_spare ?a__law_above ?l__law_above ?c__law_above ?k__law_above ?a__law_ordered ?l__law_ordered ?c__law_ordered ?k__law_ordered ?a__law_pace ?l__law_pace ?c__law_pace ?k__law_pace ?a__law_course ?l__law_course ?c__law_course ?k__law_course ?a__law_place ?l__law_place ?c__law_place ?k__law_place ?a__law_line ?l__law_line ?c__law_line ?k__law_line ?a__law_is_tidy ?l__law_is_tidy ?c__law_is_tidy ?k__law_is_tidy ?a__law_due ?l__law_due ?c__law_due ?k__law_due ?a__law_bends ?l__law_bends ?c__law_bends ?k__law_bends ?a__law_chain_ok ?l__law_chain_ok ?c__law_chain_ok ?k__law_chain_ok ?a__law_asked ?l__law_asked ?c__law_asked ?k__law_asked ?a__law_answer_ok ?l__law_answer_ok ?c__law_answer_ok ?k__law_answer_ok ?a__law_shown_ok ?l__law_shown_ok ?c__law_shown_ok ?k__law_shown_ok ?a__law_moved ?l__law_moved ?c__law_moved ?k__law_moved ?a__law_long_ok ?l__law_long_ok ?c__law_long_ok ?k__law_long_ok ?a_law ?l_law ?c_law ?k_law ?zgcd ?zlen ?zabs ?zmax ?zint ?zisinstance ?zrange ?zenumerate ?zlist ?ztuple ?zstr ?zbool ?zdict ?zVE ?sVEB ?sVET ?eC_VerdictError
    (case a_rational => k_is); (case l_rational => k_is); (case c_rational => k_is); (case k_rational => k_is)
    (case a_add => k_is); (case l_add => k_is); (case c_add => k_is); (case k_add => k_is)
    (case a_subtract => k_is); (case l_subtract => k_is); (case c_subtract => k_is); (case k_subtract => k_is)
    (case a_multiply => k_is); (case l_multiply => k_is); (case c_multiply => k_is); (case k_multiply => k_is)
    (case a_negate => k_is); (case l_negate => k_is); (case c_negate => k_is); (case k_negate => k_is)
    (case a_divide => k_is); (case l_divide => k_is); (case c_divide => k_is); (case k_divide => k_is)
    (case a_compare => k_is); (case l_compare => k_is); (case c_compare => k_is); (case k_compare => k_is)
    (case a__shown_by => k_is); (case l__shown_by => k_is); (case c__shown_by => k_is); (case k__shown_by => k_is)
    (case a__time_of => k_is); (case l__time_of => k_is); (case c__time_of => k_is); (case k__time_of => k_is)
    (case a__end_of => k_is); (case l__end_of => k_is); (case c__end_of => k_is); (case k__end_of => k_is)
    (case a__place_at => k_is); (case l__place_at => k_is); (case c__place_at => k_is); (case k__place_at => k_is)
    (case a__piece_at => k_is); (case l__piece_at => k_is); (case c__piece_at => k_is); (case k__piece_at => k_is)
    (case a_shown_at => k_is); (case l_shown_at => k_is); (case c_shown_at => k_is); (case k_shown_at => k_is)
    (case a__jump_at => k_is); (case l__jump_at => k_is); (case c__jump_at => k_is); (case k__jump_at => k_is)
    (case a_jumps => k_is); (case l_jumps => k_is); (case c_jumps => k_is); (case k_jumps => k_is)
    (case a_tidy => k_is); (case l_tidy => k_is); (case c_tidy => k_is); (case k_tidy => k_is)
    (case a__require_no_way_back => k_is); (case l__require_no_way_back => k_is); (case c__require_no_way_back => k_is); (case k__require_no_way_back => k_is)
    (case a__chained_piece => k_is); (case l__chained_piece => k_is); (case c__chained_piece => k_is); (case k__chained_piece => k_is)
    (case a_chained => k_is); (case l_chained => k_is); (case c_chained => k_is); (case k_chained => k_is)
    (case a__law_store => k_is); (case l__law_store => k_is); (case c__law_store => k_is); (case k__law_store => k_is)
    (case a__law_feed => k_is); (case l__law_feed => k_is); (case c__law_feed => k_is); (case k__law_feed => k_is)
    (case a__law_mixed => k_is); (case l__law_mixed => k_is); (case c__law_mixed => k_is); (case k__law_mixed => k_is)
    (case a__law_take => k_is); (case l__law_take => k_is); (case c__law_take => k_is); (case k__law_take => k_is)
    (case a__law_pick => k_is); (case l__law_pick => k_is); (case c__law_pick => k_is); (case k__law_pick => k_is)
    (case a__law_is_int => k_is); (case l__law_is_int => k_is); (case c__law_is_int => k_is); (case k__law_is_int => k_is)
    (case a__law_same => k_is); (case l__law_same => k_is); (case c__law_same => k_is); (case k__law_same => k_is)
    (case a__law_frac => k_is); (case l__law_frac => k_is); (case c__law_frac => k_is); (case k__law_frac => k_is)
    (case a__law_plus => k_is); (case l__law_plus => k_is); (case c__law_plus => k_is); (case k__law_plus => k_is)
    (case a__law_minus => k_is); (case l__law_minus => k_is); (case c__law_minus => k_is); (case k__law_minus => k_is)
    (case a__law_times => k_is); (case l__law_times => k_is); (case c__law_times => k_is); (case k__law_times => k_is)
    (case a__law_over => k_is); (case l__law_over => k_is); (case c__law_over => k_is); (case k__law_over => k_is)
    (case a__law_below => k_is); (case l__law_below => k_is); (case c__law_below => k_is); (case k__law_below => k_is)
    (case a__law_is_frac => k_is); (case l__law_is_frac => k_is); (case c__law_is_frac => k_is); (case k__law_is_frac => k_is)
    (case a__law_part => k_is); (case l__law_part => k_is); (case c__law_part => k_is); (case k__law_part => k_is)
    (case a__law_spare => k_is); (case l__law_spare => k_is); (case c__law_spare => k_is); (case k__law_spare => k_is)
    (case a__law_above => k_is); (case l__law_above => k_is); (case c__law_above => k_is); (case k__law_above => k_is)
    (case a__law_ordered => k_is); (case l__law_ordered => k_is); (case c__law_ordered => k_is); (case k__law_ordered => k_is)
    (case a__law_pace => k_is); (case l__law_pace => k_is); (case c__law_pace => k_is); (case k__law_pace => k_is)
    (case a__law_course => k_is); (case l__law_course => k_is); (case c__law_course => k_is); (case k__law_course => k_is)
    (case a__law_place => k_is); (case l__law_place => k_is); (case c__law_place => k_is); (case k__law_place => k_is)
    (case a__law_line => k_is); (case l__law_line => k_is); (case c__law_line => k_is); (case k__law_line => k_is)
    (case a__law_is_tidy => k_is); (case l__law_is_tidy => k_is); (case c__law_is_tidy => k_is); (case k__law_is_tidy => k_is)
    (case a__law_due => k_is); (case l__law_due => k_is); (case c__law_due => k_is); (case k__law_due => k_is)
    (case a__law_bends => k_is); (case l__law_bends => k_is); (case c__law_bends => k_is); (case k__law_bends => k_is)
    (case a__law_chain_ok => k_is); (case l__law_chain_ok => k_is); (case c__law_chain_ok => k_is); (case k__law_chain_ok => k_is)
    (case a__law_asked => k_is); (case l__law_asked => k_is); (case c__law_asked => k_is); (case k__law_asked => k_is)
    (case a__law_answer_ok => k_is); (case l__law_answer_ok => k_is); (case c__law_answer_ok => k_is); (case k__law_answer_ok => k_is)
    (case a__law_shown_ok => k_is); (case l__law_shown_ok => k_is); (case c__law_shown_ok => k_is); (case k__law_shown_ok => k_is)
    (case a__law_moved => k_is); (case l__law_moved => k_is); (case c__law_moved => k_is); (case k__law_moved => k_is)
    (case a__law_long_ok => k_is); (case l__law_long_ok => k_is); (case c__law_long_ok => k_is); (case k__law_long_ok => k_is)
    (case a_law => k_is); (case l_law => k_is); (case c_law => k_is); (case k_law => k_is)
    (case ldf_rational => k_is)
    (case a0ZERO => k_is); (case l0ZERO => k_is)
    (case aC_BeforeStart => first | k_is | rfl | decide +kernel | decide)
    (case xL_BeforeStart => first | k_is | rfl | decide +kernel | decide)
    (case rv_BeforeStart => first | k_is | rfl | decide +kernel | decide)
    (case sa_BeforeStart => first | k_is | rfl | decide +kernel | decide)
    (case ga_BeforeStart => first | k_is | rfl | decide +kernel | decide)
    (case gg_BeforeStart => first | k_is | rfl | decide +kernel | decide)
    (case nb_BeforeStart => first | k_is | rfl | decide +kernel | decide)
    (case a1_BeforeStart => first | k_is | rfl | decide +kernel | decide)
    (case t1_BeforeStart => first | k_is | rfl | decide +kernel | decide)
    (case l1_BeforeStart => first | k_is | rfl | decide +kernel | decide)
    (case c1_BeforeStart => first | k_is | rfl | decide +kernel | decide)
    (case kC_BeforeStart => first | k_is | rfl | decide +kernel | decide)
    (case eC_BeforeStart => first | k_is | rfl | decide +kernel | decide)
    (case tC_BeforeStart => first | k_is | rfl | decide +kernel | decide)
    (case hC_BeforeStart => first | k_is | rfl | decide +kernel | decide)
    (case iC_BeforeStart => first | k_is | rfl | decide +kernel | decide)
    (case sC_BeforeStart => first | k_is | rfl | decide +kernel | decide)
    (case aC_TurnsBack => first | k_is | rfl | decide +kernel | decide)
    (case xL_TurnsBack => first | k_is | rfl | decide +kernel | decide)
    (case rv_TurnsBack => first | k_is | rfl | decide +kernel | decide)
    (case sa_TurnsBack => first | k_is | rfl | decide +kernel | decide)
    (case ga_TurnsBack => first | k_is | rfl | decide +kernel | decide)
    (case gg_TurnsBack => first | k_is | rfl | decide +kernel | decide)
    (case nb_TurnsBack => first | k_is | rfl | decide +kernel | decide)
    (case a1_TurnsBack => first | k_is | rfl | decide +kernel | decide)
    (case t1_TurnsBack => first | k_is | rfl | decide +kernel | decide)
    (case l1_TurnsBack => first | k_is | rfl | decide +kernel | decide)
    (case c1_TurnsBack => first | k_is | rfl | decide +kernel | decide)
    (case kC_TurnsBack => first | k_is | rfl | decide +kernel | decide)
    (case eC_TurnsBack => first | k_is | rfl | decide +kernel | decide)
    (case tC_TurnsBack => first | k_is | rfl | decide +kernel | decide)
    (case hC_TurnsBack => first | k_is | rfl | decide +kernel | decide)
    (case iC_TurnsBack => first | k_is | rfl | decide +kernel | decide)
    (case sC_TurnsBack => first | k_is | rfl | decide +kernel | decide)
    (case xa_BeforeStart => first | k_is | rfl | decide +kernel | decide)
    (case xm_BeforeStart => first | k_is | rfl | decide +kernel | decide)
    (case xa_TurnsBack => first | k_is | rfl | decide +kernel | decide)
    (case xm_TurnsBack => first | k_is | rfl | decide +kernel | decide)
    (case xn => first | k_is | rfl | decide +kernel | decide)
    (case xt => first | k_is | rfl | decide +kernel | decide)
    (case aC_VerdictError => first | k_is | rfl | decide +kernel | decide)
    (case tC_VerdictError => first | k_is | rfl | decide +kernel | decide)
    (case iC_VerdictError => first | k_is | rfl | decide +kernel | decide)
    (case je_BeforeStart_VerdictError => first | k_is | rfl | decide +kernel | decide)
    (case ne_BeforeStart_VerdictError => first | k_is | rfl | decide +kernel | decide)
    (case je_TurnsBack_VerdictError => first | k_is | rfl | decide +kernel | decide)
    (case ne_TurnsBack_VerdictError => first | k_is | rfl | decide +kernel | decide)
    (case jk_BeforeStart_TurnsBack => first | k_is | rfl | decide +kernel | decide)
    (case nk_BeforeStart_TurnsBack => first | k_is | rfl | decide +kernel | decide)
    (case jk_TurnsBack_BeforeStart => first | k_is | rfl | decide +kernel | decide)
    (case nk_TurnsBack_BeforeStart => first | k_is | rfl | decide +kernel | decide)
    (case zgcd => k_is)
    (case zlen => k_is)
    (case zabs => k_is)
    (case zmax => k_is)
    (case zint => k_is)
    (case zisinstance => k_is)
    (case zrange => k_is)
    (case zenumerate => k_is)
    (case zlist => k_is)
    (case ztuple => k_is)
    (case zstr => k_is)
    (case zbool => k_is)
    (case zdict => k_is)
    (case zVE => first | k_is | rfl | decide +kernel | decide)
    (case sVEB => first | k_is | rfl | decide +kernel | decide)
    (case sVET => first | k_is | rfl | decide +kernel | decide)
    (case eC_VerdictError => first | k_is | rfl | decide +kernel | decide)

