import PyProof.Rows.All
import Wide.All
import OpenK.AllK
import Wide.FinOn
import HandS.ForMost
import HandS.Wide
import HandS.Gcd
import HandS.IsInst
import HandS.Deep
import HandS.Flow
import HandS.More
import HandS.SetFor
import HandS.Defaults
import PyProof.EqAt
import PyProof.EqKinds
import PyProof.TupleCall
import Open.SpecLaws
import KE.OsGo
import HandS.ForSpec
import HandS.ExcCtx
import HandS.ExcInit
import HandS.ForExc
import HandS.TryMany
import HandS.ExcIs
import HandS.ExcField
import HandS.Base
import HandS.Call
import HandS.Exc
import HandS.ExcOwn
import HandS.WordsExc
import HandS.HotCalls
import HandS.Words
import HandS.Head0
import HandS.Head1
import HandS.Head2
import HandS.Head3
import HandS.HeadEnd
import HandS.HeadHook1
import HandS.HeadHook2
import PySem.Challenge.RW_clockverdict_k10_worst_error
set_option Elab.async false
set_option linter.all false
set_option maxRecDepth 100000
set_option hygiene false in
local macro_rules | `(tactic| walk_at "vk_raw") => `(tactic| ((focus ((repeat first | with_reducible assumption | with_reducible exact upd_same | (with_reducible refine' (upd_ne ?_).trans ?_; with_reducible assumption) | (with_reducible apply sameAt; first | with_reducible assumption | with_reducible exact same_new (by with_reducible assumption) _) | (with_reducible apply Vk.frAt; with_reducible assumption; with_reducible assumption)); done))))
set_option hygiene false in
local macro_rules | `(tactic| walk_at "vk_same") => `(tactic| ((focus ((repeat first | with_reducible assumption | with_reducible exact Same.refl _ | (refine' Same.trans ?_ (same_new (by with_reducible assumption) _)) | (with_reducible refine' same_upd ?_ (by with_reducible assumption) _) | (refine' Same.trans ?_ (by with_reducible assumption))); done))))
set_option hygiene false in
local macro_rules | `(tactic| walk_at "vk_up") => `(tactic| ((first | with_reducible assumption | with_reducible exact same_new (by with_reducible assumption) _)))
set_option hygiene false in
local macro_rules | `(tactic| walk_at "vk_upd") => `(tactic| ((with_reducible refine' same_upd ?_ (by with_reducible assumption) _; (walk_at "vk_same"))))
set_option hygiene false in
local macro_rules | `(tactic| walk_at "vk_sto") => `(tactic| ((focus ((repeat first | with_reducible assumption | (with_reducible apply Sto.same; (walk_at "vk_up"))); done))))
set_option hygiene false in
local macro_rules | `(tactic| walk_at "vk_some") => `(tactic| ((first | with_reducible exact ⟨_, by (walk_at "vk_raw")⟩ | with_reducible exact Sto.some (by (walk_at "vk_sto")))))
set_option hygiene false in
local macro_rules | `(tactic| walk_at "vk_cl") => `(tactic| ((focus ((repeat first | with_reducible assumption | with_reducible exact SqT.of upd_same | with_reducible exact SqL.of upd_same | with_reducible exact optV_rq (by with_reducible assumption) (by with_reducible assumption) | with_reducible exact Ct.cq (by with_reducible assumption) | with_reducible exact rq_ab | (with_reducible apply Vk.Ct.copyq; with_reducible assumption) | (with_reducible apply Vk.Ct.copy; with_reducible assumption) | with_reducible exact rl11 | with_reducible exact rl12 | with_reducible exact rl01 | with_reducible exact rl1m | with_reducible exact rlnm | with_reducible exact rln1 | with_reducible exact rlh1 | with_reducible exact rl910 | with_reducible exact rl1110 | with_reducible exact rl21 | with_reducible exact rln12 | with_reducible exact rln31 | (with_reducible apply Rq.same; (walk_at "vk_up")) | (with_reducible apply Rq.fr; (first | with_reducible exact Fr.upd _ | with_reducible assumption); (walk_at "vk_some")) | (with_reducible apply Rq.same; (walk_at "vk_upd")) | (with_reducible apply L2.Same.sqt; (walk_at "vk_up")) | (with_reducible apply sqt_fr; (first | with_reducible exact Fr.upd _ | with_reducible assumption); (walk_at "vk_some")) | (with_reducible apply L2.Same.sqt; (walk_at "vk_upd")) | (with_reducible apply L2.Same.seq; (walk_at "vk_up")) | (with_reducible apply seq_fr; (first | with_reducible exact Fr.upd _ | with_reducible assumption); with_reducible assumption) | (with_reducible apply L2.Same.seq; (walk_at "vk_upd")) | (with_reducible apply Pq.same; (walk_at "vk_up")) | (with_reducible apply Pq.fr; (first | with_reducible exact Fr.upd _ | with_reducible assumption); (walk_at "vk_some")) | (with_reducible apply Pq.same; (walk_at "vk_upd")) | (with_reducible apply Cq.same; (walk_at "vk_up")) | (with_reducible apply Cq.fr; (first | with_reducible exact Fr.upd _ | with_reducible assumption); (walk_at "vk_some"); with_reducible assumption) | (with_reducible apply Cq.same; (walk_at "vk_upd")) | (with_reducible apply Ct.same; (walk_at "vk_up")) | (with_reducible apply Ct.fr; (first | with_reducible exact Fr.upd _ | with_reducible assumption); (walk_at "vk_some"); with_reducible assumption) | (with_reducible apply Ct.same; (walk_at "vk_upd")) | (with_reducible apply optV.same; (walk_at "vk_up")) | (with_reducible apply optV.same; (walk_at "vk_upd"))); done))))
set_option hygiene false in
local macro_rules | `(tactic| walk_at "vk_sql") => `(tactic| ((first | (walk_at "vk_cl") | (focus (with_reducible apply L2.SqL.of; (walk_at "vk_raw"))))))
set_option hygiene false in
local macro_rules | `(tactic| walk_at "vk_atom") => `(tactic| ((first | with_reducible show Rq _ _ _ _ | with_reducible show SqT _ _ _ _ | with_reducible show SqL _ _ _ _ | with_reducible show Pq _ _ _ _ | with_reducible show Cq _ _ _ _ | with_reducible show Ct _ _ _ _ _ | with_reducible show Cz _ _ _ _ | with_reducible show Cok _ | with_reducible show Sz _ _ | with_reducible show Sto _ _ _ | with_reducible show Fr _ _ _ | with_reducible show Same _ _ | with_reducible show tyV _ _ _ _ | with_reducible show All2 _ _ _ | with_reducible show Gw _ _ _ _ _ _ | with_reducible show L2.Dp _ _ _ _ | with_reducible show L2.DpAll _ _ _ _ | with_reducible show Tree _ _ | with_reducible show optV _ _ _ _)))
set_option hygiene false in
local macro_rules | `(tactic| walk_at "vk_formsa") => `(tactic| ((first | with_reducible apply And.intro | ((fail_if_success first | with_reducible show ∃ _ : Nat → Nat → L2.St → Hp → Prop, _ | with_reducible show ∃ _ : Nat → Nat → Hp → Prop, _ | with_reducible show ∃ _ : Nat → L2.St → Hp → Prop, _); with_reducible apply Exists.intro) | (with_reducible refine ifT rfl ?_) | (with_reducible refine ifF rfl ?_) | (with_reducible refine ifT (dT (by with_reducible assumption)) ?_) | (with_reducible refine ifF (dF (by with_reducible assumption)) ?_) | (with_reducible refine ifD (fun gc => ?_) (fun gc => ?_)) | (with_reducible refine ifNF (by first | with_reducible assumption | with_reducible exact rfl) ?_) | (with_reducible refine ifNT (by with_reducible assumption) ?_) | (with_reducible refine ifN (fun gc => ?_) (fun gc => ?_)) | (with_reducible refine ifNF (by first | with_reducible assumption | with_reducible exact rfl) ?_) | ((first | rw [eqv_odp] | rw [eqv_odq]); first | (with_reducible refine ifT (dT (by with_reducible assumption)) ?_) | (with_reducible refine ifNF (by first | with_reducible assumption | with_reducible exact rfl) ?_) | (with_reducible refine ifD (fun gc => ?_) (fun gc => ?_)) | (with_reducible refine ifN (fun gc => ?_) (fun gc => ?_))) | (rw [eqv_dq]; first | (with_reducible refine ifT (dT (by with_reducible assumption)) ?_) | (with_reducible refine ifNF (by first | with_reducible assumption | with_reducible exact rfl) ?_) | (with_reducible refine ifD (fun gc => ?_) (fun gc => ?_)) | (with_reducible refine ifN (fun gc => ?_) (fun gc => ?_))) | (with_reducible refine ifT (by with_reducible assumption) ?_) | (with_reducible refine ifF (by with_reducible assumption) ?_) | (with_reducible refine ifT (by decide +kernel) ?_) | (with_reducible refine ifF (by decide +kernel) ?_) | ((with_reducible show ∀ p : Addr, _ = none → _); intro p np) | ((with_reducible show ∀ r : Int, ∀ H' : Hp, 0 ≤ r → _ → Sto _ _ H' → _ → _); intro r H' r0 r1 S e) | ((with_reducible show ∀ v : V, ∀ H' : Hp, Qd _ _ _ H' v → _ → _ → _); refine aQd (K := K) fun a q H' h h' zq okq S e => ?_) | ((with_reducible show ∀ H' : Hp, Same _ H' → _); intro H' e) | ((with_reducible show ∀ v : V, ∀ H' : Hp, Same _ H' → optV _ _ _ _ → _); intro v H' e h) | ((with_reducible show ∀ _ : V, ∀ _ : Hp, _ → _); refine aRq (K := K) fun a H' e h h' => ?_) | ((with_reducible show ∀ v : V, Rq _ _ v _ → _); refine aRq0 (K := K) fun a h h' => ?_))))
set_option hygiene false in
local macro_rules | `(tactic| walk_at "vk_forms") => `(tactic| ((first | with_reducible apply And.intro | ((fail_if_success first | with_reducible show ∃ l : Addr, ∃ xs : List V, ∃ y : V, _ = V.ref l ∧ _ = [y] ∧ _ = some (HO.lst xs) ∧ _ | with_reducible show ∃ _ : Nat → Nat → L2.St → Hp → Prop, _ | with_reducible show ∃ _ : Nat → Nat → Hp → Prop, _ | with_reducible show ∃ _ : Nat → L2.St → Hp → Prop, _); with_reducible apply Exists.intro) | (with_reducible refine ifT rfl ?_) | (with_reducible refine ifF rfl ?_) | (with_reducible refine ifT (dT (by with_reducible assumption)) ?_) | (with_reducible refine ifF (dF (by with_reducible assumption)) ?_) | (with_reducible refine ifD (fun gc => ?_) (fun gc => ?_)) | (with_reducible refine ifNF (by first | with_reducible assumption | with_reducible exact rfl) ?_) | (with_reducible refine ifNT (by with_reducible assumption) ?_) | (with_reducible refine ifN (fun gc => ?_) (fun gc => ?_)) | (with_reducible refine ifNF (by first | with_reducible assumption | with_reducible exact rfl) ?_) | ((first | rw [eqv_odp] | rw [eqv_odq]); first | (with_reducible refine ifT (dT (by with_reducible assumption)) ?_) | (with_reducible refine ifNF (by first | with_reducible assumption | with_reducible exact rfl) ?_) | (with_reducible refine ifD (fun gc => ?_) (fun gc => ?_)) | (with_reducible refine ifN (fun gc => ?_) (fun gc => ?_))) | (rw [eqv_dq]; first | (with_reducible refine ifT (dT (by with_reducible assumption)) ?_) | (with_reducible refine ifNF (by first | with_reducible assumption | with_reducible exact rfl) ?_) | (with_reducible refine ifD (fun gc => ?_) (fun gc => ?_)) | (with_reducible refine ifN (fun gc => ?_) (fun gc => ?_))) | (with_reducible refine ifT (by with_reducible assumption) ?_) | (with_reducible refine ifF (by with_reducible assumption) ?_) | (with_reducible refine ifT (by decide +kernel) ?_) | (with_reducible refine ifF (by decide +kernel) ?_) | ((with_reducible show ∀ p : Addr, _ = none → _); intro p np) | ((with_reducible show ∀ r : Int, ∀ H' : Hp, 0 ≤ r → _ → Sto _ _ H' → _ → _); intro r H' r0 r1 S e) | ((with_reducible show ∀ v : V, ∀ H' : Hp, Qd _ _ _ H' v → _ → _ → _); refine aQd (K := K) fun a q H' h h' zq okq S e => ?_) | ((with_reducible show ∀ H' : Hp, Same _ H' → _); intro H' e) | ((with_reducible show ∀ v : V, ∀ H' : Hp, Same _ H' → optV _ _ _ _ → _); intro v H' e h) | ((with_reducible show ∀ _ : V, ∀ _ : Hp, _ → _); refine aRq (K := K) fun a H' e h h' => ?_) | ((with_reducible show ∀ v : V, Rq _ _ v _ → _); refine aRq0 (K := K) fun a h h' => ?_))))
set_option hygiene false in
local macro_rules | `(tactic| walk_at "vk_va") => `(tactic| (((try dsimp only [cxOf_K, Cx.nox, Cx.wish]); repeat' (show (_ : Prop); first | with_reducible exact rfl | with_reducible assumption | (walk_at "vk_formsa") | ((with_reducible show ∀ d ∈ _, Tree _ d); first | exact treeAll_nil | refine treeAll_cons ?_ ?_) | ((with_reducible show SeqAt.shaped _ = true); first | with_reducible exact sh_dq _ | with_reducible exact sh_odp _ | decide +kernel) | ((with_reducible show _ = _); first | exact at0 rfl | exact at1 rfl | exact at2 rfl | exact rfl | (walk_at "vk_raw") | assumption) | ((with_reducible show (_ : Addr) ≠ _); (refine' Sto.ne (l := l) ?_ (by with_reducible assumption); (walk_at "vk_sto"))) | ((with_reducible show 0 < List.length _); first | omega | exact Nat.succ_pos _) | ((with_reducible show List.length _ < 2 ^ 32); first | omega | exact Nat.le_of_ble_eq_true rfl) | ((with_reducible show List.length _ ≤ sizeLine); first | exact Nat.zero_le _ | exact sz1 | exact sz2 | exact sz3 | exact sz4 | exact sm5 | exact sm6) | ((with_reducible show List.length _ < sizeLine); exact le1000 (by omega)) | ((with_reducible show _ ≤ _); omega) | ((with_reducible show (_ : Nat) < _); omega) | ((with_reducible show (_ : Int) < _); omega) | ((walk_at "vk_atom"); first | (walk_at "vk_cl") | (focus (with_reducible apply L2.SqL.of; (walk_at "vk_raw"))) | ((with_reducible show tyV _ _ _ _); apply Or.inl; apply And.intro rfl; apply Exists.intro; (walk_at "vk_sql")) | with_reducible exact L2.Dp.str _ | with_reducible exact L2.Dp.int _ | with_reducible exact L2.Dp.non | with_reducible exact L2.Dp.bl _ | (with_reducible apply Rq.dp; (walk_at "vk_cl")) | (with_reducible apply optV.dp; (walk_at "vk_cl")) | (with_reducible apply Vk.Ct.dd; (walk_at "vk_cl")) | (with_reducible apply L2.Dp.tup; (walk_at "vk_cl")) | (with_reducible apply L2.Dp.lst; (walk_at "vk_sql")) | exact tree_dq _ _ | exact Tree.str (by decide +kernel) | exact Tree.int _ | exact Tree.non | (refine Tree.tup (Nat.le_of_ble_eq_true rfl) ?_) | with_reducible apply L2.DpAll.cons | with_reducible exact L2.DpAll.nil | with_reducible exact zz1 | with_reducible exact zo1 | with_reducible exact zl12 | with_reducible exact zl1m | with_reducible exact zlnm | with_reducible exact zln1 | with_reducible exact zlh1 | (with_reducible show Sz _ _; refine Sz.mono (by with_reducible assumption) (Nat.le_of_ble_eq_true rfl)) | with_reducible apply Sz.add | with_reducible apply Sz.sub | with_reducible apply Sz.mul | with_reducible apply Sz.neg | ((with_reducible show Sto _ _ _); (focus ((repeat first | with_reducible assumption | (with_reducible apply Sto.same; (walk_at "vk_up"))); done))) | ((with_reducible show Fr _ _ _); (focus ((repeat first | with_reducible assumption | with_reducible exact Fr.refl _ _ | (refine' Fr.trans ?_ (Fr.of (same_new (by with_reducible assumption) _))) | (refine' Fr.trans ?_ (by with_reducible assumption)) | (refine' Fr.trans ?_ (Fr.of (by with_reducible assumption)))); done))) | ((with_reducible show Same _ _); (walk_at "vk_same")) | assumption) | ((with_reducible show L2.SqL _ _ _ _ ∨ L2.SqT _ _ _ _); first | (apply Or.inl; (walk_at "vk_sql")) | (apply Or.inr; (walk_at "vk_cl"))) | ((fail_if_success (walk_at "vk_atom")); (fail_if_success with_reducible show rAppend _ _ _ _); (conv => whnf); first | (walk_at "vk_formsa") | with_reducible exact rfl | with_reducible assumption | ((with_reducible show _ = _); exact rfl)) ))))
set_option hygiene false in
local macro_rules | `(tactic| walk_at "vk_vc") => `(tactic| (((try dsimp only [cxOf_K, Cx.nox, Cx.wish]); repeat' (show (_ : Prop); first | with_reducible exact rfl | with_reducible assumption | (walk_at "vk_forms") | ((with_reducible show ∀ d ∈ _, Tree _ d); first | exact treeAll_nil | refine treeAll_cons ?_ ?_) | ((with_reducible show SeqAt.shaped _ = true); first | with_reducible exact sh_dq _ | with_reducible exact sh_odp _ | decide +kernel) | ((with_reducible show _ = _); first | exact at0 rfl | exact at1 rfl | exact at2 rfl | exact rfl | (walk_at "vk_raw") | assumption) | ((with_reducible show (_ : Addr) ≠ _); (refine' Sto.ne (l := l) ?_ (by with_reducible assumption); (walk_at "vk_sto"))) | ((with_reducible show 0 < List.length _); first | omega | exact Nat.succ_pos _) | ((with_reducible show List.length _ < 2 ^ 32); first | omega | exact Nat.le_of_ble_eq_true rfl) | ((with_reducible show List.length _ ≤ sizeLine); first | exact Nat.zero_le _ | exact sz1 | exact sz2 | exact sz3 | exact sz4 | exact sm5 | exact sm6) | ((with_reducible show List.length _ < sizeLine); exact le1000 (by omega)) | ((with_reducible show _ ≤ _); omega) | ((with_reducible show (_ : Nat) < _); omega) | ((with_reducible show (_ : Int) < _); omega) | ((walk_at "vk_atom"); first | (walk_at "vk_cl") | (focus (with_reducible apply L2.SqL.of; (walk_at "vk_raw"))) | ((with_reducible show tyV _ _ _ _); apply Or.inl; apply And.intro rfl; apply Exists.intro; (walk_at "vk_sql")) | with_reducible exact L2.Dp.str _ | with_reducible exact L2.Dp.int _ | with_reducible exact L2.Dp.non | with_reducible exact L2.Dp.bl _ | (with_reducible apply Rq.dp; (walk_at "vk_cl")) | (with_reducible apply optV.dp; (walk_at "vk_cl")) | (with_reducible apply Vk.Ct.dd; (walk_at "vk_cl")) | (with_reducible apply L2.Dp.tup; (walk_at "vk_cl")) | (with_reducible apply L2.Dp.lst; (walk_at "vk_sql")) | exact tree_dq _ _ | exact Tree.str (by decide +kernel) | exact Tree.int _ | exact Tree.non | (refine Tree.tup (Nat.le_of_ble_eq_true rfl) ?_) | with_reducible apply L2.DpAll.cons | with_reducible exact L2.DpAll.nil | with_reducible exact zz1 | with_reducible exact zo1 | with_reducible exact zl12 | with_reducible exact zl1m | with_reducible exact zlnm | with_reducible exact zln1 | with_reducible exact zlh1 | (with_reducible show Sz _ _; refine Sz.mono (by with_reducible assumption) (Nat.le_of_ble_eq_true rfl)) | with_reducible apply Sz.add | with_reducible apply Sz.sub | with_reducible apply Sz.mul | with_reducible apply Sz.neg | ((with_reducible show Sto _ _ _); (focus ((repeat first | with_reducible assumption | (with_reducible apply Sto.same; (walk_at "vk_up"))); done))) | ((with_reducible show Fr _ _ _); (focus ((repeat first | with_reducible assumption | with_reducible exact Fr.refl _ _ | (refine' Fr.trans ?_ (Fr.of (same_new (by with_reducible assumption) _))) | (refine' Fr.trans ?_ (by with_reducible assumption)) | (refine' Fr.trans ?_ (Fr.of (by with_reducible assumption)))); done))) | ((with_reducible show Same _ _); (walk_at "vk_same")) | assumption) | ((with_reducible show L2.SqL _ _ _ _ ∨ L2.SqT _ _ _ _); first | (apply Or.inl; (walk_at "vk_sql")) | (apply Or.inr; (walk_at "vk_cl"))) | ((fail_if_success (walk_at "vk_atom")); (fail_if_success with_reducible show rAppend _ _ _ _); (conv => whnf); first | (walk_at "vk_forms") | with_reducible exact rfl | with_reducible assumption | ((with_reducible show _ = _); exact rfl)) ))))
set_option hygiene false in
local macro_rules | `(tactic| walk_at "vk_fr") => `(tactic| ((focus ((repeat first | with_reducible assumption | with_reducible exact Fr.refl _ _ | (refine' Fr.trans ?_ (Fr.of (same_new (by with_reducible assumption) _))) | (refine' Fr.trans ?_ (by with_reducible assumption)) | (refine' Fr.trans ?_ (Fr.of (by with_reducible assumption)))); done))))
namespace Vm
/-! ### sizes of rationals -/
def Sz (k : Nat) (q : Rat) : Prop := q.num.natAbs < 2 ^ k ∧ q.den < 2 ^ k
theorem Sz.mono {a b : Nat} {q : Rat} (h : Sz a q) (l : a ≤ b) : Sz b q :=
  ⟨Nat.lt_of_lt_of_le h.1 (Nat.pow_le_pow_right (by decide) l), Nat.lt_of_lt_of_le h.2 (Nat.pow_le_pow_right (by decide) l)⟩
theorem mk_num (n : Int) {d : Nat} (hd : d ≠ 0) : (mkRat n d).num = n / ((Nat.gcd n.natAbs d : Nat) : Int) := by
  rw [Rat.num_mkRat, if_neg hd, Nat.gcd_comm]
theorem mk_den (n : Int) {d : Nat} (hd : d ≠ 0) : (mkRat n d).den = d / Nat.gcd n.natAbs d := by
  rw [Rat.den_mkRat, if_neg hd, Nat.gcd_comm]
theorem sz_mk {n : Int} {d k : Nat} (h : d ≠ 0) (hn : n.natAbs < 2 ^ k) (hd : d < 2 ^ k) : Sz k (mkRat n d) := by
  have e : ∀ (z : Int) (g : Nat), (z / (g : Int)).natAbs ≤ z.natAbs := fun z g => Int.natAbs_ediv_le_natAbs z g
  exact ⟨by rw [mk_num n h]; exact Nat.lt_of_le_of_lt (e _ _) hn, by rw [mk_den n h]; exact Nat.lt_of_le_of_lt (Nat.div_le_self _ _) hd⟩
theorem lt_mul {a b i j : Nat} (h : a < 2 ^ i) (l : b < 2 ^ j) : a * b < 2 ^ (i + j) := by
  rw [Nat.pow_add]
  exact Nat.mul_lt_mul'' h l
theorem Sz.add {a b : Nat} {p q : Rat} (h : Sz a p) (l : Sz b q) : Sz (a + b + 1) (p + q) := by
  rw [Rat.add_def']
  have h1 := lt_mul h.1 l.2
  have h2 := lt_mul l.1 h.2
  have h3 := lt_mul h.2 l.2
  rw [Nat.add_comm b a] at h2
  refine sz_mk (Nat.ne_of_gt (Nat.mul_pos p.den_pos q.den_pos)) ?_ ?_
  · rw [Nat.pow_succ]
    have q1 := Int.natAbs_add_le (p.num * q.den) (q.num * p.den)
    rw [Int.natAbs_mul, Int.natAbs_mul, Int.natAbs_natCast, Int.natAbs_natCast] at q1
    omega
  · rw [Nat.pow_succ]
    omega
theorem Sz.neg {a : Nat} {p : Rat} (h : Sz a p) : Sz a (-p) := ⟨by rw [Rat.neg_num, Int.natAbs_neg]; exact h.1, h.2⟩
theorem Sz.sub {a b : Nat} {p q : Rat} (h : Sz a p) (l : Sz b q) : Sz (a + b + 1) (p - q) := by
  rw [Rat.sub_eq_add_neg]
  exact h.add l.neg
theorem Sz.mul {a b : Nat} {p q : Rat} (h : Sz a p) (l : Sz b q) : Sz (a + b) (p * q) := by
  rw [Rat.mul_def']
  refine sz_mk (Nat.ne_of_gt (Nat.mul_pos p.den_pos q.den_pos)) ?_ (lt_mul h.2 l.2)
  rw [Int.natAbs_mul]
  exact lt_mul h.1 l.1
theorem num_pos {q : Rat} (h : 0 < q) : 0 < q.num := by
  have z := (Rat.lt_iff 0 q).mp h
  simp at z
  exact z
theorem pos_of_num {q : Rat} (h : 0 < q.num) : 0 < q := by
  rw [Rat.lt_iff]
  simp
  exact h
theorem Sz.inv {a : Nat} {q : Rat} (h : Sz a q) (hq : 0 < q) : Sz a q⁻¹ := by
  have hn := num_pos hq
  refine ⟨?_, ?_⟩
  · rw [Rat.num_inv, Int.sign_eq_one_of_pos hn, Int.one_mul, Int.natAbs_natCast]
    exact h.2
  · rw [Rat.den_inv, if_neg (by omega)]
    exact h.1
theorem Sz.div {a b : Nat} {p q : Rat} (h : Sz a p) (l : Sz b q) (hq : 0 < q) : Sz (a + b) (p / q) := by
  rw [Rat.div_def]
  exact h.mul (l.inv hq)
/-! ### normal forms -/
theorem nf {n : Int} {d : Nat} (hd : d ≠ 0) (hc : Nat.gcd n.natAbs d = 1) : (mkRat n d).num = n ∧ (mkRat n d).den = d := by
  rw [mk_num n hd, mk_den n hd, hc]
  simp
theorem div_mk (p q : Rat) (hq : 0 < q) : p / q = mkRat (p.num * q.den) (p.den * q.num.toNat) := by
  have hn := num_pos hq
  rw [Rat.div_def, Rat.mul_def', Rat.num_inv, Rat.den_inv, if_neg (by omega), Int.sign_eq_one_of_pos hn, Int.one_mul]
  congr 2
  omega
/-- the sum by the divisors of the denominators alone -/
theorem add_parts (a b : Rat) (g f : Nat) (n : Int) (r : Nat) (hg : g = Nat.gcd a.den b.den) (hf : f = b.den / g) (hn : n = a.num * f + b.num * ((a.den / g : Nat) : Int)) (hr : r = Nat.gcd n.natAbs g) :
    (a + b).num = n / (r : Int) ∧ (a + b).den = a.den / r * f := by
  have gp : 0 < g := by rw [hg]; exact Nat.gcd_pos_of_pos_left _ a.den_pos
  obtain ⟨u, hu⟩ : g ∣ a.den := by rw [hg]; exact Nat.gcd_dvd_left _ _
  obtain ⟨v, hv⟩ : g ∣ b.den := by rw [hg]; exact Nat.gcd_dvd_right _ _
  have eu : a.den / g = u := by rw [hu]; exact Nat.mul_div_cancel_left _ gp
  have ev : f = v := by rw [hf, hv]; exact Nat.mul_div_cancel_left _ gp
  subst ev
  rw [eu] at hn
  have up : 0 < u := Nat.pos_of_ne_zero fun z => by rw [z, Nat.mul_zero] at hu; exact absurd hu (Nat.ne_of_gt a.den_pos)
  have fp : 0 < f := Nat.pos_of_ne_zero fun z => by rw [z, Nat.mul_zero] at hv; exact absurd hv (Nat.ne_of_gt b.den_pos)
  have cuf : Nat.Coprime u f := by
    have z : g * Nat.gcd u f = g := by rw [← Nat.gcd_mul_left, ← hu, ← hv, ← hg]
    exact Nat.eq_of_mul_eq_mul_left gp (by rw [z, Nat.mul_one])
  have ca : Nat.Coprime a.num.natAbs u := (Nat.Coprime.coprime_dvd_right ⟨g, by rw [hu, Nat.mul_comm]⟩ a.reduced)
  have cb : Nat.Coprime b.num.natAbs f := (Nat.Coprime.coprime_dvd_right ⟨g, by rw [hv, Nat.mul_comm]⟩ b.reduced)
  have key : ∀ (x y z : Int) (m : Nat), x = y + z * m → Nat.gcd x.natAbs m = Nat.gcd y.natAbs m := by
    intro x y z m h
    have e : ∀ t : Int, Nat.gcd t.natAbs m = Int.gcd t m := fun t => by rw [Int.gcd]; simp
    rw [e, e, h, Int.gcd_add_mul_right_left]
  have cnu : Nat.Coprime n.natAbs u := by
    have z := key n (a.num * f) b.num u hn
    unfold Nat.Coprime
    rw [z, Int.natAbs_mul, Int.natAbs_natCast]
    exact Nat.Coprime.mul_left ca cuf.symm
  have cnf : Nat.Coprime n.natAbs f := by
    have z := key n (b.num * u) a.num f (by rw [hn, Int.add_comm])
    unfold Nat.Coprime
    rw [z, Int.natAbs_mul, Int.natAbs_natCast]
    exact Nat.Coprime.mul_left cb cuf
  have cn : Nat.Coprime n.natAbs (u * f) := Nat.Coprime.mul_right cnu cnf
  have er : Nat.gcd n.natAbs (g * (u * f)) = r := by
    rw [hr]
    exact Nat.Coprime.gcd_mul_right_cancel_right g cn.symm
  have es : a + b = mkRat n (g * (u * f)) := by
    rw [Rat.add_def', hu, hv, hn]
    have z := Rat.mkRat_mul_left (n := a.num * f + b.num * u) (d := g * (u * f)) (a := g) (by omega)
    rw [← z]
    congr 1
    · push_cast
      grind
    · grind
  have dn : g * (u * f) ≠ 0 := Nat.ne_of_gt (Nat.mul_pos gp (Nat.mul_pos up fp))
  have rg : r ∣ g := by rw [hr]; exact Nat.gcd_dvd_right _ _
  refine ⟨by rw [es, mk_num n dn, er], ?_⟩
  rw [es, mk_den n dn, er, hu]
  obtain ⟨w, hw⟩ := rg
  have rp : 0 < r := Nat.pos_of_ne_zero fun z => by rw [z, Nat.zero_mul] at hw; omega
  rw [hw, Nat.mul_assoc, Nat.mul_div_cancel_left _ rp, Nat.mul_assoc, Nat.mul_div_cancel_left _ rp, Nat.mul_assoc]
/-! ### what the cross products make -/
theorem tn (a b : Nat) : ((a : Int) * (b : Int)).toNat = a * b := by
  rw [← Int.natCast_mul]
  rfl
theorem mk_add (p q : Rat) : mkRat (p.num * (q.den : Int) + q.num * (p.den : Int)) ((p.den : Int) * (q.den : Int)).toNat = p + q := by rw [tn, Rat.add_def']
theorem mk_sub (p q : Rat) : mkRat (p.num * (q.den : Int) - q.num * (p.den : Int)) ((p.den : Int) * (q.den : Int)).toNat = p - q := by rw [tn, Rat.sub_def']
theorem mk_mul (p q : Rat) : mkRat (p.num * q.num) ((p.den : Int) * (q.den : Int)).toNat = p * q := by rw [tn, Rat.mul_def']
theorem dd_pos (p q : Rat) : 0 < (p.den : Int) * (q.den : Int) := Int.mul_pos (by have := p.den_pos; omega) (by have := q.den_pos; omega)
theorem ab_mul {i j : Int} {a b : Nat} (h : i.natAbs < 2 ^ a) (l : j.natAbs < 2 ^ b) : (i * j).natAbs < 2 ^ (a + b) := by
  rw [Int.natAbs_mul]
  exact lt_mul h l
theorem ab_add {i j : Int} {a : Nat} (h : i.natAbs < 2 ^ a) (l : j.natAbs < 2 ^ a) : (i + j).natAbs < 2 ^ (a + 1) := by
  rw [Nat.pow_succ]
  omega
theorem ab_sub {i j : Int} {a : Nat} (h : i.natAbs < 2 ^ a) (l : j.natAbs < 2 ^ a) : (i - j).natAbs < 2 ^ (a + 1) := by
  rw [Nat.pow_succ]
  omega
theorem ab_up {i : Int} {a b : Nat} (h : i.natAbs < 2 ^ a) (l : a ≤ b) : i.natAbs < 2 ^ b := Nat.lt_of_lt_of_le h (Nat.pow_le_pow_right (by decide) l)
theorem ab_le {i j : Int} {a : Nat} (h : i.natAbs < 2 ^ a) (l : j.natAbs ≤ i.natAbs) : j.natAbs < 2 ^ a := Nat.lt_of_le_of_lt l h
theorem nn {m : Nat} {p : Rat} (h : Sz m p) : 0 < m := by
  cases m with
  | zero => have := h.2; have := p.den_pos; simp at *; omega
  | succ m => exact Nat.succ_pos _
theorem dA {m : Nat} {p : Rat} (h : Sz m p) : ((p.den : Nat) : Int).natAbs < 2 ^ m := h.2
theorem lt_num {p q : Rat} : p < q ↔ p.num * (q.den : Int) < q.num * (p.den : Int) := Rat.lt_iff p q
theorem eq_num {p q : Rat} : p = q ↔ p.num * (q.den : Int) = q.num * (p.den : Int) := Rat.eq_iff_mul_eq_mul
end Vm

namespace Vk
open PySem L2
/-! ### defs as they stand, and with a promise -/
structure Fn (K : PySem.W.Frag) (mg : Str → Option Value) (x : Str) (st : Stmt) (ps : List Str) (f : Addr) (fd : FuncData) : Prop where
  F : Fun K x x st f fd
  m : mg x = some (.ref f)
  b : Binds K fd ps []
structure Def (P : Program) (w : World) (K : PySem.W.Frag) (mg : Str → Option Value) (base : Heap) (k : Nat) (x : Str) (ps : List Str) (sp : Sp) (f : Addr) (fd : FuncData) : Prop where
  ok : FnOk P w K mg base CX0 k f fd ps sp
  m : mg x = some (.ref f)
  kp : PySem.W.keepIn K (.ref f) = true
  b : Binds K fd ps []
theorem Def.up {P : Program} {w : World} {K : PySem.W.Frag} {mg : Str → Option Value} {base : Heap} {j k : Nat} {x : Str} {ps : List Str} {sp : Sp} {f : Addr} {fd : FuncData} (d : Def P w K mg base j x ps sp f fd) (h : j ≤ k) : Def P w K mg base k x ps sp f fd := ⟨d.ok.mono h, d.m, d.kp, d.b⟩
theorem pcall {X : Cx} {k : Nat} {f : Addr} {fd : FuncData} {ps : List Str} {sp : Sp} {x : Str} {p pos : Pos} {e : Expr} {es : List Expr} {t : TA} (D : Def X.prog X.w X.K X.mg X.base k x ps sp f fd) (hr : Room k X.A) (ha : PA X (e :: es) t)
    (hg : Gl X x := by rfl) (hdb : (x == ("__debug__" : Str)) = false := by decide) (he : starEach (e :: es) X.env = (false, eval e X.env) :: starEach es X.env := by rfl) (hpl : (backTo pos (starEach es X.env)).any (·.1) = false := by rfl) :
    PE X (.Call (.Name x p) (e :: es) [] pos) (tCall sp [] E0 t) := pe_call D.ok hr hg D.m D.kp D.b .nil pass0 ha hdb he hpl
/-- a def as it stands, whatever its defaults are -/
structure FunA (K : PySem.W.Frag) (x qual : Str) (st : Stmt) (f : Addr) (fd : FuncData) : Prop where
  ex : ∃ (oc : Value) (od : Option Addr) (dV kV doc pm : Value) (an : Option Addr) (cdv ct : Value) (osl : Array (Option Value)),
    fd = PySem.W.fnOf x qual (defArgs st) (defBody st) (defScope st) dV kV doc pm an cdv ct ∧ K.lookup f = some ⟨oc, od, .func fd, osl⟩ ∧ PySem.W.codeIn K cdv qual = true
  kp : PySem.W.keepIn K (.ref f) = true
theorem FunA.ok {P : Program} {w : World} {K : PySem.W.Frag} {mg : Str → Option Value} {base : Heap} {x qual : Str} {st : Stmt} {f : Addr} {fd : FuncData} {N ps : List Str} {k : Nat} {sp : Sp} (F : FunA K x qual st f fd) (S : FnScope N ps (defScope st)) (len : ∀ vs H Q E, sp vs H Q E → vs.length = ps.length)
    (hbody : ∀ (cdv : Value) (A : Around) (outer : List Env) (s : Shared) (H : Hp) (vs : List V) (Q : VK) (E : XK), Room k (A.deeper (PyProof.Rows.envOfC qual (defScope st) s.heap.objs.size f cdv)) → sp vs H Q E →
      ∃ t, PSs (cxOf CX0 P w K mg base N qual (defScope st) f cdv A outer s H E).nox (defBody st) t ∧ t { nx := fun _ H' => Q .non H', rt := Q } (start N vs) H) : FnOk P w K mg base CX0 (k + 1) f fd ps sp := by
  obtain ⟨oc, od, dV, kV, doc, pm, an, cdv, ct, osl, rfl, lk, hcd⟩ := F.ex
  refine fn_of lk hcd S len fun A outer s H vs Q E hr hsp => ?_
  obtain ⟨t, h, q⟩ := hbody cdv A outer s H vs Q E hr hsp
  exact ⟨t, h.nox, q⟩
/-- the built-in names as the top leaves them -/
structure Bn (mg : Str → Option Value) : Prop where
  gcd_ : mg "gcd" = some (.builtin "math.gcd")
  len_ : mg "len" = none
  abs_ : mg "abs" = none
  max_ : mg "max" = none
  int_ : mg "int" = none
  isinstance_ : mg "isinstance" = none
  range_ : mg "range" = none
  enumerate_ : mg "enumerate" = none
  list_ : mg "list" = none
  tuple_ : mg "tuple" = none
  str_ : mg "str" = none
  bool_ : mg "bool" = none
  dict_ : mg "dict" = none
/-! ### heaps -/
theorem _root_.L2.Same.sqt {K : PySem.W.Frag} {H H' : Hp} {a : Addr} {xs : List V} (e : Same H H') (h : SqT K H a xs) : SqT K H' a xs := by
  rcases h with (h | ⟨o, h⟩) | h
  · exact .inl (.inl (e _ _ h))
  · exact .inl (.inr ⟨o, e _ _ h⟩)
  · exact .inr h
theorem same_new {H : Hp} {p : Addr} (h : H p = none) (o : HO) : Same H (upd H p o) := fun b u q => by rw [upd_ne (ne_of_none q h)]; exact q
/-- a pair of ints that stands for q -/
def Rq (K : PySem.W.Frag) (H : Hp) (v : V) (q : Rat) : Prop := ∃ a, v = .ref a ∧ SqT K H a [.int q.num, .int (q.den : Int)]
theorem Rq.same {K : PySem.W.Frag} {H H' : Hp} {v : V} {q : Rat} (e : Same H H') (h : Rq K H v q) : Rq K H' v q := by
  obtain ⟨a, rfl, h⟩ := h
  exact ⟨a, rfl, e.sqt h⟩
theorem sz2 : 2 ≤ sizeLine := by decide
theorem at0 {xs : List V} {v : V} (h : xs[0]? = some v) : atI xs 0 = some v := atI_nat (j := 0) h
theorem at1 {xs : List V} {v : V} (h : xs[1]? = some v) : atI xs 1 = some v := atI_nat (j := 1) h
theorem at2 {xs : List V} {v : V} (h : xs[2]? = some v) : atI xs 2 = some v := atI_nat (j := 2) h
theorem ifT {c : Bool} {A B : Prop} (hc : c = true) (h : A) : if c = true then A else B := by
  rw [if_pos hc]
  exact h
theorem ifF {c : Bool} {A B : Prop} (hc : c = false) (h : B) : if c = true then A else B := by
  rw [hc, if_neg Bool.false_ne_true]
  exact h
theorem dF {p : Prop} [Decidable p] (h : ¬ p) : decide p = false := decide_eq_false h
theorem dT {p : Prop} [Decidable p] (h : p) : decide p = true := decide_eq_true h
theorem ifD {p : Prop} [Decidable p] {A B : Prop} (h1 : p → A) (h2 : ¬ p → B) : if decide p = true then A else B := by
  by_cases h : p
  · exact ifT (decide_eq_true h) (h1 h)
  · exact ifF (decide_eq_false h) (h2 h)
theorem fmod_nat (x m : Nat) : (x : Int).fmod (m : Int) = ((x % m : Nat) : Int) := by
  rw [Int.fmod_eq_emod_of_nonneg _ (by omega)]
  rfl
/-- what stands behind a statement, said once for all its ways -/
theorem cut {t u : TS} {D : Ends} {σ : L2.St} {H : Hp} (mid : L2.St → Hp → Prop) (key : ∀ σ' H', mid σ' H' → u D σ' H') (h : (∀ σ' H', mid σ' H' → u D σ' H') → tSeq t u D σ H) : tSeq t u D σ H := h key
/-! ### the store of draws -/
/-- at s stands a store: the script's list at l, five counters -/
def Sto (l s : Addr) (H : Hp) : Prop := ∃ (ns : List Int) (pos num seed hold cnt : Int), H s = some (.lst [.ref l, .int pos, .int num, .int seed, .int hold, .int cnt]) ∧ l ≠ s ∧ H l = some (.lst (ns.map V.int)) ∧ ns.length ≤ 63 ∧ 0 ≤ pos ∧ 0 ≤ num ∧ 0 ≤ seed ∧ seed < 1000000007
/-- all but what stands at s is as it was -/
def Fr (s : Addr) (H H' : Hp) : Prop := ∀ b o, H b = some o → b ≠ s → H' b = some o
theorem Fr.refl (s : Addr) (H : Hp) : Fr s H H := fun _ _ h _ => h
theorem Fr.trans {s : Addr} {H H1 H2 : Hp} (a : Fr s H H1) (b : Fr s H1 H2) : Fr s H H2 := fun c o h n => b c o (a c o h n) n
theorem Fr.of {s : Addr} {H H' : Hp} (e : Same H H') : Fr s H H' := fun b o h _ => e b o h
theorem Fr.upd {s : Addr} {H : Hp} (o : HO) : Fr s H (upd H s o) := fun b u h n => by rw [upd_ne n]; exact h
theorem Fr.free {s : Addr} {H H' : Hp} (e : Fr s H H') {p : Addr} (h : H' p = none) (n : p ≠ s) : H p = none := by
  cases q : H p with
  | none => rfl
  | some o =>
    rw [e p o q n] at h
    cases h
theorem Sto.some {l s : Addr} {H : Hp} (h : Sto l s H) : ∃ xs, H s = some (.lst xs) := by
  obtain ⟨_, _, _, _, _, _, h, _⟩ := h
  exact ⟨_, h⟩
theorem Sto.ne {l s : Addr} {H : Hp} (h : Sto l s H) {p : Addr} (n : H p = none) : p ≠ s := by
  obtain ⟨xs, h⟩ := h.some
  exact fun z => by rw [z, h] at n; cases n
theorem Sto.nl {l s : Addr} {H : Hp} (h : Sto l s H) {p : Addr} (n : H p = none) : p ≠ l := by
  obtain ⟨_, _, _, _, _, _, _, _, h, _⟩ := h
  exact fun z => by rw [z, h] at n; cases n
theorem Sto.same {l s : Addr} {H H' : Hp} (e : Same H H') (h : Sto l s H) : Sto l s H' := by
  obtain ⟨ns, pos, num, seed, hold, cnt, h1, h2, h3, r⟩ := h
  exact ⟨ns, pos, num, seed, hold, cnt, e _ _ h1, h2, e _ _ h3, r⟩
/-- what becomes of another list does not matter -/
theorem Sto.upd {l s D : Addr} {H : Hp} {o : HO} (h : Sto l s H) (n1 : D ≠ s) (n2 : D ≠ l) : Sto l s (upd H D o) := by
  obtain ⟨ns, pos, num, seed, hold, cnt, h1, h2, h3, r⟩ := h
  exact ⟨ns, pos, num, seed, hold, cnt, by rw [upd_ne (Ne.symm n1)]; exact h1, h2, by rw [upd_ne (Ne.symm n2)]; exact h3, r⟩
/-- a tuple outlives what becomes of a list -/
theorem sqt_fr {K : PySem.W.Frag} {s a : Addr} {H H' : Hp} {xs : List V} (e : Fr s H H') (hs : ∃ ys, H s = some (.lst ys)) (h : SqT K H a xs) : SqT K H' a xs := by
  obtain ⟨ys, hs⟩ := hs
  have n : ∀ {o : HO}, H a = some o → (∀ ys, o ≠ .lst ys) → a ≠ s := fun {o} h1 h2 z => by
    rw [z, hs] at h1
    exact h2 ys (Option.some.inj h1).symm
  rcases h with (h | ⟨o, h⟩) | h
  · exact .inl (.inl (e _ _ h (n h fun _ z => by cases z)))
  · exact .inl (.inr ⟨o, e _ _ h (n h fun _ z => by cases z)⟩)
  · exact .inr h
theorem Rq.fr {K : PySem.W.Frag} {s : Addr} {H H' : Hp} {v : V} {q : Rat} (e : Fr s H H') (hs : ∃ ys, H s = some (.lst ys)) (h : Rq K H v q) : Rq K H' v q := by
  obtain ⟨a, rfl, h⟩ := h
  exact ⟨a, rfl, sqt_fr e hs h⟩
theorem seq_fr {K : PySem.W.Frag} {s a : Addr} {H H' : Hp} {xs : List V} (e : Fr s H H') (n : a ≠ s) (h : SqL K H a xs) : SqL K H' a xs := by
  rcases h with (h | ⟨o, h⟩) | h
  · exact .inl (.inl (e _ _ h n))
  · exact .inl (.inr ⟨o, e _ _ h n⟩)
  · exact .inr h
theorem sm6 : 6 ≤ sizeLine := by decide
theorem sm4 : 4 ≤ sizeLine := by decide
theorem sm3 : 3 ≤ sizeLine := by decide
theorem sm5 : 5 ≤ sizeLine := by decide
end Vk

namespace Vk
open PySem L2 Vm
/-! ### what a question asks, said so that it is answered by looks at the context -/
variable {K : PySem.W.Frag}
theorem aTup {H : Hp} {xs : List V} {Q : VK} (h : ∀ p H', H p = none → Same H H' → SqT K H' p xs → Q (.ref p) H') : ∀ p, H p = none → Q (.ref p) (upd H p (.tup xs)) := fun p hp => h p _ hp (same_new hp _) (SqT.of upd_same)
theorem aLst {H : Hp} {xs : List V} {Q : VK} (h : ∀ p H', H p = none → Same H H' → H' p = some (.lst xs) → Q (.ref p) H') : ∀ p, H p = none → Q (.ref p) (upd H p (.lst xs)) := fun p hp => h p _ hp (same_new hp _) upd_same
theorem aRq {H : Hp} {q : Rat} {Q : VK} (h : ∀ a H', Same H H' → Rq K H' (.ref a) q → SqT K H' a [.int q.num, .int (q.den : Int)] → Q (.ref a) H') : ∀ r H', Same H H' → Rq K H' r q → Q r H' := fun r H' e hr => by
  obtain ⟨a, rfl, ha⟩ := id hr
  exact h a H' e hr ha
theorem same_new2 {H : Hp} {p q : Addr} {o u : HO} (h : H p = none) (g : upd H p o q = none) : Same H (upd (upd H p o) q u) := (same_new h o).trans (same_new g u)
theorem same_new3 {H : Hp} {p q r : Addr} {o u x : HO} (h : H p = none) (g : upd H p o q = none) (f : upd (upd H p o) q u r = none) : Same H (upd (upd (upd H p o) q u) r x) := (same_new2 h g).trans (same_new f x)
theorem sameFree {H H' : Hp} {p : Addr} (e : Same H H') (h : H' p = none) : H p = none := by
  cases q : H p with
  | none => rfl
  | some o => rw [e _ _ q] at h; cases h
theorem sameAt {H H' : Hp} {a : Addr} {o : HO} (e : Same H H') (h : H a = some o) : H' a = some o := e _ _ h
theorem psNox {X : Cx} {s : Stmt} {t : TS} (h : PS X.nox s t) : PS X s t := ⟨fun pins st σ H D I hw => PySem.wpAny_mono (h.run pins st σ H D (I.wish _) hw) (fun _ _ q => q.unwish) fun _ _ z => False.elim z⟩
theorem cxOf_K {CX : CXT} {P : Program} {w : World} {K : PySem.W.Frag} {mg : Str → Option Value} {base : Heap} {N : List Str} {q : Str} {sc : Scope} {f : Addr} {cdv : Value} {A : Around} {outer : List Env} {s : Shared} {H : Hp} {E : XK} : (cxOf CX P w K mg base N q sc f cdv A outer s H E).K = K := rfl
theorem cxOf_noxK {CX : CXT} {P : Program} {w : World} {K : PySem.W.Frag} {mg : Str → Option Value} {base : Heap} {N : List Str} {q : Str} {sc : Scope} {f : Addr} {cdv : Value} {A : Around} {outer : List Env} {s : Shared} {H : Hp} {E : XK} : (cxOf CX P w K mg base N q sc f cdv A outer s H E).nox.K = K := rfl
theorem sz3 : 3 ≤ sizeLine := by decide
theorem sz1 : 1 ≤ sizeLine := by decide
theorem sz4 : 4 ≤ sizeLine := by decide
end Vk

set_option maxHeartbeats 2000000
namespace PySem
namespace ValX
open PySem.W PySem.Calls PyProof.Rows PySem.HandSPX
/-! ### the text of __init__ -/
def iA (p1 p2 : Pos) : Arguments := { posonlyargs := [], args := [{ arg := "self", annotation := none, pos := p1 }, { arg := "value", annotation := none, pos := p2 }], vararg := none, kwonlyargs := [], kw_defaults := [], kwarg := none, defaults := [] }
def iB (q1 q2 q3 q4 : Pos) : List Stmt := [.Assign [.Attribute (.Name "self" q1) "value" q2] (.Name "value" q3) q4]
def iS : Scope := { kind := .function, names := [(PySem.Str.ofString "self", .local), (PySem.Str.ofString "value", .local)], isGenerator := false, isCoroutine := false, more := [] }
/-- what the written part says of the class, at C, and of its __init__, at fI -/
structure ValTxt (K : Frag) (mg : Str → Option Value) (nm : Str) (C fI : Addr) : Prop where
  gC : mg nm = some (.ref C)
  cls : ∃ nm q N bs bm sn sub ab col dd k0 k1 k2 k3 k5, K.lookup C = some (excClassObj nm q C N bs bm true sn sub ab col dd k0 k1 k2 k3 k5 "ValueError.__new__") ∧ refsVE bm = true
  sa : findIn K (.ref C) "__setattr__" = some (some (.builtin "object.__setattr__"))
  ga : findIn K (.ref C) "__getattribute__" = some (some (.builtin "BaseException.__getattribute__"))
  gg : findIn K (.ref C) "__getattr__" = some none
  noN : findIn K (.ref C) "value" = some none
  iC : findIn K (.ref C) "__init__" = some (some (.ref fI))
  tC : typeIn K (.ref fI) = some (.type "function")
  kC : keepIn K (.ref C) = true
  exC : subIn K (.ref C) (.type "BaseException") = some true
  tyC : typeIn K (.ref C) = some (.type "type")
  hdC : hasDictIn K C = true
  te : exmOne K (.ref C) (.ref C) = some true
  fn : ∃ (q : Str) (oc : Value) (od : Option Addr) (doc pm : Value) (an : Option Addr) (cdv ct : Value) (osl : Array (Option Value)) (p1 p2 q1 q2 q3 q4 : Pos),
    K.lookup fI = some ⟨oc, od, .func (fnOf "__init__" q (iA p1 p2) (iB q1 q2 q3 q4) iS .none .none doc pm an cdv ct), osl⟩ ∧ codeIn K cdv q = true
theorem one_size (v : Value) : [v].length ≤ sizeLine := by
  rw [sizeLine_eq]
  exact (by decide : 1 ≤ 16777216)
theorem kept_but {K : Frag} {h h' : Heap} {x : Addr} (X : K.In h) (hx : K.lookup x = none) (k : ∀ b o, b ≠ x → h.get? b = some o → h'.get? b = some o) : K.In h' := fun a o e =>
  k a o (fun z => by rw [z, hx] at e; cases e) (X a o e)
theorem ldC {M : Model} {s : Shared} {name : Str} {scope : Scope} {L a : Addr} {cd : Value} {m : Str → Option Value} {x : Str} {pos : Pos} {v : Value} {Q : Value → Shared → Prop} {A : Around} {E : Value → Shared → Prop} (hn : s.heap.Ns L m) (hv : m x = some v) (h : Q v s)
    (hk : scope.kind = .function := by rfl) (hl : (envOfC name scope L a cd).kindOf x = some .local := by rfl) (hd : (x == ("__debug__" : Str)) = false := by decide) :
    wpAny M A (eval (.Name x pos) (envOfC name scope L a cd)) Q E s := wpAny_Name (wpAny_loadName_local hk hl hn hv h) hd
/-- what __init__ leaves of a fresh exception at x -/
structure InitEnd (h h' : Heap) (x C dx t1 : Addr) (v : Value) : Prop where
  keep : ∀ b o, b ≠ x → h.get? b = some o → h'.get? b = some o
  obj : h'.get? x = some { cls := .ref C, dict := some dx, data := .fields #[.ref t1, .none, .none, .none, .bool false, .none] }
  dbig : h.objs.size ≤ dx
  dne : dx ≠ x
  ns : h'.Ns1 dx (fun y => if y = "value" then some v else none)
/-- a made error -/
structure OwnMade (h h' : Heap) (e C d : Addr) (v : Value) : Prop where
  keep : ∀ b o, h.get? b = some o → h'.get? b = some o
  new : h.objs.size ≤ e
  obj : ∃ oe vs, h'.get? e = some oe ∧ oe.cls = .ref C ∧ oe.dict = some d ∧ oe.data = .fields vs ∧ vs[1]? = some .none ∧ vs[2]? = some .none
  dbig : h.objs.size ≤ d
  dne : d ≠ e
  ns : h'.Ns1 d (fun y => if y = "value" then some v else none)
section
variable {prog : Program} {w : World} {A : Around} {E : Value → Shared → Prop} {R : Result → Shared → Prop} {s : Shared} {K : Frag} {mg : Str → Option Value} {nm : Str} {C fI : Addr}
theorem val_init (T : ValTxt K mg nm C fI) {x t0 : Addr} {v : Value} (X : K.In s.heap) (hlim : s.heap.NoLimit) (hx : s.heap.get? x = some (excO C t0)) (hnx : K.lookup x = none) (hroom : A.depth < recursionLimit)
    (hq : ∀ h' tk dx, InitEnd s.heap h' x C dx t0 v → R (.ok (.ret .none)) { s with heap := h', toks := tk }) :
    codeAny (model prog w) A (.call (.ref fI) ⟨[.ref x, v], []⟩) R s := by
  obtain ⟨qn, oc, od, doc, pm, an, cdv, ct, osl, p1, p2, q1, q2, q3, q4, ho, hcd⟩ := T.fn
  obtain ⟨cnm, q, N, bs, bm, sn, sub, ab, col, dd, k0, k1, k2, k3, k5, hC, hbm⟩ := T.cls
  have hcl : clsIn K C = some { name := cnm, bases := bs, mro := .ref C :: bm, ns := N, qualname := q, hasDict := true, slotNames := sn, subclasses := sub, abstract := ab, collection := col, hasDel := false } := by unfold clsIn; rw [hC] <;> rfl
  refine Att.call_fn (binds := [("self", .ref x), ("value", v)]) X hlim ho hcd hroom (BindsTo.of_eq (by first | rfl | with_unfolding_all rfl)) (by first | rfl | decide | with_unfolding_all rfl) (fun s₁ IC => ?_) rfl rfl rfl
  obtain ⟨h₁, tk₁, rfl⟩ := IC.toInCall.same
  have k : ∀ b o, s.heap.get? b = some o → h₁.get? b = some o := IC.toInCall.keep
  have hn := IC.toInCall.ns
  have hxL : s.heap.objs.size ≠ x := Nat.ne_of_gt (Heap.lt_size hx)
  have X₁ : K.In h₁ := X.keeps k
  have hx₁ := k _ _ hx
  -- self.by = by
  show wpAny _ _ (execs _ _) _ _ _
  refine wpAny_execs_cons (plainObj_wpAny_Assign_Attribute ?_)
  refine ldC (v := v) hn (by first | rfl | with_unfolding_all rfl | kernel_rfl) (ldC (v := .ref x) hn (by first | rfl | with_unfolding_all rfl | kernel_rfl) ?_)
  refine set_plain X₁ (ox := excO C t0) (od := none) ⟨hx₁, rfl, rfl, trivial⟩ T.sa ?_
  refine exc_osa X₁ hx₁ hcl (show refsVE (.ref C :: bm) = true from hbm) rfl T.noN (fun h₃ tk₃ dx k₃ dn dne hx₃ hn₃ => ?_)
  show wpAny _ _ (execs _ _) _ _ _
  have z : s.heap.objs.size < h₁.objs.size := hn.lt
  exact wpAny_execs_nil (hq h₃ tk₃ dx ⟨fun b o hb e => k₃ b o hb (k b o e), hx₃, Nat.le_of_lt (Nat.lt_of_lt_of_le z dn), dne, hn₃⟩)
theorem val_made (T : ValTxt K mg nm C fI) {v : Value} (X : K.In s.heap) (hlim : s.heap.NoLimit) (hroom : A.depth + 1 < recursionLimit)
    (hq : ∀ h' tk e d, OwnMade s.heap h' e C d v → R (.ok (.ret (.ref e))) { s with heap := h', toks := tk }) :
    codeAny (model prog w) A (.call (.ref C) ⟨[v], []⟩) R s := by
  obtain ⟨cnm, q, N, bs, bm, sn, sub, ab, col, dd, k0, k1, k2, k3, k5, hC, hbm⟩ := T.cls
  obtain ⟨hp, g, dr, tk, os⟩ := s
  have k : ∀ b o, hp.get? b = some o → ((hp.push (kdv_tup [v])).push (excO C hp.objs.size)).get? b = some o := fun b o e => Heap.get?_push_of_some _ (Heap.get?_push_of_some _ e)
  have hget : ((hp.push (kdv_tup [v])).push (excO C hp.objs.size)).get? (hp.objs.size + 1) = some (excO C hp.objs.size) := by heap_get
  have hnx : K.lookup (hp.objs.size + 1) = none := by
    cases e : K.lookup (hp.objs.size + 1) with
    | none => rfl
    | some o =>
      have z : hp.get? (hp.objs.size + 1) = some o := X _ _ e
      exact absurd (Nat.lt_of_succ_lt (Heap.lt_size z)) (Nat.lt_irrefl _)
  refine call_own F.excBase_ValueError (fun X => refsVE_contains X bm hbm) (X _ _ hC) (looks_findIn X T.iC) (fun self => bind_fn X self T.tC) (one_size v) ?_
  refine val_init (s := ⟨(hp.push (kdv_tup [v])).push (excO C hp.objs.size), g, dr, tk, os⟩) T (X.keeps k) (hlim.keeps k) hget hnx ?_ fun h' tk' dx ⟨k', hx, dn, dne, hns⟩ => ?_
  · show A.depth + 1 < recursionLimit
    exact hroom
  · have old : ∀ b o, hp.get? b = some o → h'.get? b = some o := fun b o e => k' b o (Nat.ne_of_lt (Nat.lt_succ_of_lt (Heap.lt_size e))) (k b o e)
    have z : hp.objs.size + 1 + 1 ≤ dx := by
      first
        | (simpa only [Heap.size_push] using dn)
        | exact dn
        | (have q := dn; rw [Heap.size_push, Heap.size_push] at q; exact q)
    exact ⟨rfl, hq h' tk' (hp.objs.size + 1) dx ⟨old, Nat.le_succ _, ⟨_, _, hx, rfl, rfl, rfl, rfl, rfl⟩, Nat.le_trans (Nat.le_trans (Nat.le_succ _) (Nat.le_succ _)) z, dne, hns⟩⟩
end
end ValX
end PySem
namespace L2
open PySem PySem.Spec PyProof.Rows
theorem relO_val {v : V} {v' : Value} (r : RelV v v') (f : Str) : RelO (List.lookup f [(("value" : Str), v)]) (if f = "value" then some v' else none) := by
  by_cases hw : f = "value"
  · subst hw
    rw [if_pos rfl]
    have q : List.lookup ("value" : Str) [(("value" : Str), v)] = some v := by simp [List.lookup]
    rw [q]
    exact r
  · rw [if_neg hw]
    have qw : (f == ("value" : Str)) = false := by simpa using hw
    have q2 : List.lookup f [(("value" : Str), v)] = none := by simp [List.lookup, qw]
    rw [q2]
    trivial
section
variable {X : Cx} {nm : Str} {C fI : Addr}
/-- X(e) -/
def tMkVal (C : Addr) (ta : TA) : St → Hp → XK → Prop := fun σ H Q => ta σ H fun vs H1 => ∃ v, vs = [v] ∧ ∀ d, H1 d = none → Q (.ref C) (some d) (upd H1 d (.xd [(("value" : Str), v)]))
theorem pmk_val {a : Expr} {ta : TA} {p pos : Pos} {k : Nat} (T : PySem.ValX.ValTxt X.K X.mg nm C fI) (hr : Room k X.A) (ha : PA X [a] ta) (hg : Gl X nm := by rfl) (hdb : (nm == ("__debug__" : Str)) = false := by decide)
    (he : starEach (a :: []) X.env = (false, eval a X.env) :: starEach [] X.env := by rfl) (hpl : (backTo pos (starEach [] X.env)).any (·.1) = false := by rfl) :
    PMk X (.Call (.Name nm p) [a] [] pos) (tMkVal C ta) := by
  intro pins s σ H Q I h
  refine wpAny_Call_Name_kw (ld_glob I hg T.gC ?_ hdb)
  refine PySem.W.callWith_K (h₀ := X.base) I.ok.mod.kin T.kC (thn (ha.run pos pins s σ H _ I h) fun us s1 hh => ?_) he hpl
  obtain ⟨vs, H1, I1, r1, v, ev, q1⟩ := hh
  subst ev
  refine ⟨I1.kIn, ?_⟩
  cases r1 with
  | cons rv rn =>
    rename_i v' us'
    cases rn
    show wpAny _ _ (call (.ref C) [v']) _ _ _
    have hlim := I1.nolimit
    obtain ⟨hp, g, dr, tk, os⟩ := s1
    refine wpAny_call (PySem.ValX.val_made T I1.kIn hlim (by have := hr.dp; omega) fun h' tk' e d M => ?_)
    show MkP X pins σ Q (.ref e) ⟨h', g, dr, tk', os⟩
    obtain ⟨oe, fv, hoe, hc, hd, hdat, h1, h2⟩ := M.obj
    have hns := M.ns
    obtain ⟨G', g1, g2⟩ := restrict h' fun b => decide (b ≠ e)
    have gk : ∀ b, b ≠ e → G'.get? b = h'.get? b := fun b hb => g1 b (decide_eq_true hb)
    have ge : G'.get? e = none := g2 e (by simp)
    have old : ∀ b o, hp.get? b = some o → G'.get? b = some o := fun b o q => (gk b (Nat.ne_of_lt (Nat.lt_of_lt_of_le (Heap.lt_size q) M.new))).trans (M.keep b o q)
    have ob : ObjOk X.prog X.w (upd H1 d (.xd [(("value" : Str), v)])) G' d (.xd [(("value" : Str), v)]) :=
      ⟨_, hns.at (fun o q => (gk d M.dne).trans q), fun f => relO_val rv f⟩
    have J : Inv X pins σ (upd H1 d (.xd [(("value" : Str), v)])) ⟨G', g, dr, tk', os⟩ := I1.laid (t' := tk') old M.dbig ob
    refine ⟨e, oe, fv, ⟨G', g, dr, tk', os⟩, _, .ref C, some d, rfl, J, fun b o q => ?_, ge, hoe, ⟨hc, hd⟩, hdat, h1, ?_, rfl, I1.bare, raises_own T.exC T.tyC, q1 d (I1.hok.fresh M.dbig)⟩
    · by_cases hb : b = e
      · have q' : G'.get? b = some o := q
        rw [hb, ge] at q'; cases q'
      · exact (gk b hb).symm.trans q
    · rw [upd_ne (Ne.symm M.dne)]
      exact I1.hok.fresh M.new
/-- raise X(e) -/
def tRaiseVal (C : Addr) (W : WX) (ta : TA) : TS := fun _ σ H => tMkVal C ta σ H fun cls d H' => W cls d σ H'
theorem ps_raiseVal {a : Expr} {ta : TA} {W : WX} {p pos pos2 : Pos} {k : Nat} (hc : X.calm = true) (T : PySem.ValX.ValTxt X.K X.mg nm C fI) (hr : Room k X.A) (tk : Takes X W) (ha : PA X [a] ta) (hg : Gl X nm := by rfl) (hdb : (nm == ("__debug__" : Str)) = false := by decide)
    (he : starEach (a :: []) X.env = (false, eval a X.env) :: starEach [] X.env := by rfl) (hpl : (backTo pos (starEach [] X.env)).any (·.1) = false := by rfl) :
    PS X (.Raise (some (.Call (.Name nm p) [a] [] pos)) none pos2) (tRaiseVal C W ta) := ps_raise hc tk (pmk_val T hr ha hg hdb he hpl)
theorem pmk_valN {a : Expr} {ta : TA} {p pos : Pos} {k : Nat} (T : PySem.ValX.ValTxt X.K X.mg nm C fI) (hr : Room k X.A) (ha : PA X [a] ta) (hg : Gl X nm := by rfl) (hdb : (nm == ("__debug__" : Str)) = false := by decide)
    (he : starEach (a :: []) X.env = (false, eval a X.env) :: starEach [] X.env := by rfl) (hpl : (backTo pos (starEach [] X.env)).any (·.1) = false := by rfl) :
    L2N.PMk X (.Call (.Name nm p) [a] [] pos) (tMkVal C ta) := by
  intro pins s σ H Q I h
  refine wpAny_Call_Name_kw (ld_glob I hg T.gC ?_ hdb)
  refine PySem.W.callWith_K (h₀ := X.base) I.ok.mod.kin T.kC (thn (ha.run pos pins s σ H _ I h) fun us s1 hh => ?_) he hpl
  obtain ⟨vs, H1, I1, r1, v, ev, q1⟩ := hh
  subst ev
  refine ⟨I1.kIn, ?_⟩
  cases r1 with
  | cons rv rn =>
    rename_i v' us'
    cases rn
    show wpAny _ _ (call (.ref C) [v']) _ _ _
    have hlim := I1.nolimit
    obtain ⟨hp, g, dr, tk, os⟩ := s1
    refine wpAny_call (PySem.ValX.val_made T I1.kIn hlim (by have := hr.dp; omega) fun h' tk' e d M => ?_)
    show L2N.MkP X pins σ Q (.ref e) ⟨h', g, dr, tk', os⟩
    obtain ⟨oe, fv, hoe, hc, hd, hdat, h1, h2⟩ := M.obj
    have hns := M.ns
    obtain ⟨G', g1, g2⟩ := restrict h' fun b => decide (b ≠ e)
    have gk : ∀ b, b ≠ e → G'.get? b = h'.get? b := fun b hb => g1 b (decide_eq_true hb)
    have ge : G'.get? e = none := g2 e (by simp)
    have old : ∀ b o, hp.get? b = some o → G'.get? b = some o := fun b o q => (gk b (Nat.ne_of_lt (Nat.lt_of_lt_of_le (Heap.lt_size q) M.new))).trans (M.keep b o q)
    have ob : ObjOk X.prog X.w (upd H1 d (.xd [(("value" : Str), v)])) G' d (.xd [(("value" : Str), v)]) :=
      ⟨_, hns.at (fun o q => (gk d M.dne).trans q), fun f => relO_val rv f⟩
    have J : Inv X pins σ (upd H1 d (.xd [(("value" : Str), v)])) ⟨G', g, dr, tk', os⟩ := I1.laid (t' := tk') old M.dbig ob
    refine ⟨e, oe, fv, ⟨G', g, dr, tk', os⟩, _, .ref C, some d, rfl, J, fun b o q => ?_, ge, hoe, ⟨hc, hd, fun vs ev => by rw [hdat] at ev; cases ev; exact h2⟩, hdat, h1, ?_, rfl, I1.bare, raises_own T.exC T.tyC, q1 d (I1.hok.fresh M.dbig)⟩
    · by_cases hb : b = e
      · have q' : G'.get? b = some o := q
        rw [hb, ge] at q'; cases q'
      · exact (gk b hb).symm.trans q
    · rw [upd_ne (Ne.symm M.dne)]
      exact I1.hok.fresh M.new
/-- raise X(e), where the context of exceptions is told, too -/
theorem ps_raiseValN {a : Expr} {ta : TA} {W : WX} {p pos pos2 : Pos} {k : Nat} (hc : X.calm = true) (T : PySem.ValX.ValTxt X.K X.mg nm C fI) (hr : Room k X.A) (tk : L2N.Takes X W) (ha : PA X [a] ta) (hg : Gl X nm := by rfl) (hdb : (nm == ("__debug__" : Str)) = false := by decide)
    (he : starEach (a :: []) X.env = (false, eval a X.env) :: starEach [] X.env := by rfl) (hpl : (backTo pos (starEach [] X.env)).any (·.1) = false := by rfl) :
    PS X (.Raise (some (.Call (.Name nm p) [a] [] pos)) none pos2) (tRaiseVal C W ta) := L2N.ps_raise hc tk (pmk_valN T hr ha hg hdb he hpl)
/-- e.value, e the exception that the suite holds (at a; its class cls, its dict d) -/
def tByVal (C : Addr) (a : Addr) (cls : Value) (d : Option Addr) (te : TE) : TE := fun σ H Q => te σ H fun x H1 => x = .ref a ∧ cls = .ref C ∧ ∃ (dd : Addr) (v : V), d = some dd ∧ H1 dd = some (.xd [(("value" : Str), v)]) ∧ Q v H1
theorem pe_byVal {a : Addr} {oe : Obj} {cls : Value} {d : Option Addr} {pn : List (Addr × Obj)} {e : Expr} {te : TE} {pos : Pos} (T : PySem.ValX.ValTxt X.K X.mg nm C fI) (hz : Zc cls d oe) (hf : ∃ vs, oe.data = .fields vs) (he : PE (X.suite a ((a, oe) :: pn)) e te)
    (hb : attributeBase e "value" X.env (eval e X.env) = eval e X.env := by rfl) :
    PE (X.suite a ((a, oe) :: pn)) (.Attribute e "value" pos) (tByVal C a cls d te) := by
  refine ⟨fun pins s σ H Q I h => ?_⟩
  refine attr_of hb (thn (he.run pins s σ H _ I h) fun u s1 hh => ?_)
  obtain ⟨x, H1, I1, rx, ex, ec, dd, v, ed, ea, q⟩ := hh
  subst ex
  obtain rfl : u = Value.ref a := rx
  subst ec
  subst ed
  obtain ⟨ha, _⟩ := I1.pin (a, oe) (List.mem_append_left _ List.mem_cons_self)
  obtain ⟨vs, hd⟩ := hf
  have hx : ObjOk X.prog X.w H1 s1.heap dd (.xd [(("value" : Str), v)]) := I1.hok dd _ ea
  obtain ⟨mA, hns, hr⟩ := hx
  obtain ⟨od, ho, hl⟩ := lookIn_ns hns
  have l : List.lookup ("value" : Str) [(("value" : Str), v)] = some v := by simp [List.lookup]
  obtain ⟨u, hu, ru⟩ := RelO.some_of (v := v) (o := mA "value") (by rw [← l]; exact hr "value")
  have J : PySem.W.InstAt s1.heap a oe C (some od) := ⟨ha, hz.1, by unfold PySem.W.notCls; rw [hd] <;> rfl, by rw [hz.2]; exact ho⟩
  exact HandSPX.exc_get I1.kIn J T.ga T.gg T.exC (PySem.W.findObj_own T.hdC T.noN rfl (by rw [hl, hu])) (handed_of ru) ⟨v, H1, I1.tok _, ru, q⟩
end
end L2

set_option maxHeartbeats 2000000
/-! a class whose __init__ stores its two arguments as self.low and self.high -/
namespace PySem
namespace Val2
open PySem.W PySem.Calls PyProof.Rows PySem.HandSPX PySem.ValX
def iA (p1 p2 p3 : Pos) : Arguments := { posonlyargs := [], args := [{ arg := "self", annotation := none, pos := p1 }, { arg := "low", annotation := none, pos := p2 }, { arg := "high", annotation := none, pos := p3 }], vararg := none, kwonlyargs := [], kw_defaults := [], kwarg := none, defaults := [] }
def iB (q1 q2 q3 q4 r1 r2 r3 r4 : Pos) : List Stmt := [.Assign [.Attribute (.Name "self" q1) "low" q2] (.Name "low" q3) q4, .Assign [.Attribute (.Name "self" r1) "high" r2] (.Name "high" r3) r4]
def iS : Scope := { kind := .function, names := [(PySem.Str.ofString "self", .local), (PySem.Str.ofString "low", .local), (PySem.Str.ofString "high", .local)], isGenerator := false, isCoroutine := false, more := [] }
structure Txt (K : Frag) (mg : Str → Option Value) (nm : Str) (C fI : Addr) : Prop where
  gC : mg nm = some (.ref C)
  cls : ∃ nm q N bs bm sn sub ab col dd k0 k1 k2 k3 k5, K.lookup C = some (excClassObj nm q C N bs bm true sn sub ab col dd k0 k1 k2 k3 k5 "ValueError.__new__") ∧ refsVE bm = true
  sa : findIn K (.ref C) "__setattr__" = some (some (.builtin "object.__setattr__"))
  ga : findIn K (.ref C) "__getattribute__" = some (some (.builtin "BaseException.__getattribute__"))
  gg : findIn K (.ref C) "__getattr__" = some none
  noL : findIn K (.ref C) "low" = some none
  noH : findIn K (.ref C) "high" = some none
  iC : findIn K (.ref C) "__init__" = some (some (.ref fI))
  tC : typeIn K (.ref fI) = some (.type "function")
  kC : keepIn K (.ref C) = true
  exC : subIn K (.ref C) (.type "BaseException") = some true
  tyC : typeIn K (.ref C) = some (.type "type")
  hdC : hasDictIn K C = true
  te : exmOne K (.ref C) (.ref C) = some true
  fn : ∃ (q : Str) (oc : Value) (od : Option Addr) (doc pm : Value) (an : Option Addr) (cdv ct : Value) (osl : Array (Option Value)) (p1 p2 p3 q1 q2 q3 q4 r1 r2 r3 r4 : Pos),
    K.lookup fI = some ⟨oc, od, .func (fnOf "__init__" q (iA p1 p2 p3) (iB q1 q2 q3 q4 r1 r2 r3 r4) iS .none .none doc pm an cdv ct), osl⟩ ∧ codeIn K cdv q = true
theorem two_size (u v : Value) : [u, v].length ≤ sizeLine := by
  rw [sizeLine_eq]
  exact (by decide : 2 ≤ 16777216)
abbrev m2 (u v : Value) : Str → Option Value := fun y => if y = "high" then some v else if y = "low" then some u else none
structure InitEnd (h h' : Heap) (x C dx t1 : Addr) (u v : Value) : Prop where
  keep : ∀ b o, b ≠ x → h.get? b = some o → h'.get? b = some o
  obj : h'.get? x = some { cls := .ref C, dict := some dx, data := .fields #[.ref t1, .none, .none, .none, .bool false, .none] }
  dbig : h.objs.size ≤ dx
  dne : dx ≠ x
  ns : h'.Ns1 dx (m2 u v)
structure OwnMade (h h' : Heap) (e C d : Addr) (u v : Value) : Prop where
  keep : ∀ b o, h.get? b = some o → h'.get? b = some o
  new : h.objs.size ≤ e
  obj : ∃ oe vs, h'.get? e = some oe ∧ oe.cls = .ref C ∧ oe.dict = some d ∧ oe.data = .fields vs ∧ vs[1]? = some .none ∧ vs[2]? = some .none
  dbig : h.objs.size ≤ d
  dne : d ≠ e
  ns : h'.Ns1 d (m2 u v)
section
variable {prog : Program} {w : World} {A : Around} {E : Value → Shared → Prop} {R : Result → Shared → Prop} {s : Shared} {K : Frag} {mg : Str → Option Value} {nm : Str} {C fI : Addr}
theorem val_init (T : Txt K mg nm C fI) {x t0 : Addr} {u v : Value} (X : K.In s.heap) (hlim : s.heap.NoLimit) (hx : s.heap.get? x = some (excO C t0)) (hnx : K.lookup x = none) (hroom : A.depth < recursionLimit)
    (hq : ∀ h' tk dx, InitEnd s.heap h' x C dx t0 u v → R (.ok (.ret .none)) { s with heap := h', toks := tk }) :
    codeAny (model prog w) A (.call (.ref fI) ⟨[.ref x, u, v], []⟩) R s := by
  obtain ⟨qn, oc, od, doc, pm, an, cdv, ct, osl, p1, p2, p3, q1, q2, q3, q4, r1, r2, r3, r4, ho, hcd⟩ := T.fn
  obtain ⟨cnm, q, N, bs, bm, sn, sub, ab, col, dd, k0, k1, k2, k3, k5, hC, hbm⟩ := T.cls
  have hcl : clsIn K C = some { name := cnm, bases := bs, mro := .ref C :: bm, ns := N, qualname := q, hasDict := true, slotNames := sn, subclasses := sub, abstract := ab, collection := col, hasDel := false } := by unfold clsIn; rw [hC] <;> rfl
  refine Att.call_fn (binds := [("self", .ref x), ("low", u), ("high", v)]) X hlim ho hcd hroom (BindsTo.of_eq (by first | rfl | with_unfolding_all rfl)) (by first | rfl | decide | with_unfolding_all rfl) (fun s₁ IC => ?_) rfl rfl rfl
  obtain ⟨h₁, tk₁, rfl⟩ := IC.toInCall.same
  have k : ∀ b o, s.heap.get? b = some o → h₁.get? b = some o := IC.toInCall.keep
  have hn := IC.toInCall.ns
  have hxL : s.heap.objs.size ≠ x := Nat.ne_of_gt (Heap.lt_size hx)
  have X₁ : K.In h₁ := X.keeps k
  have hx₁ := k _ _ hx
  show wpAny _ _ (execs _ _) _ _ _
  refine wpAny_execs_cons (plainObj_wpAny_Assign_Attribute ?_)
  refine ldC (v := u) hn (by first | rfl | with_unfolding_all rfl | kernel_rfl) (ldC (v := .ref x) hn (by first | rfl | with_unfolding_all rfl | kernel_rfl) ?_)
  refine set_plain X₁ (ox := excO C t0) (od := none) ⟨hx₁, rfl, rfl, trivial⟩ T.sa ?_
  refine exc_osa X₁ hx₁ hcl (show refsVE (.ref C :: bm) = true from hbm) rfl T.noL (fun h₃ tk₃ dx k₃ dn dne hx₃ hn₃ => ?_)
  have z : s.heap.objs.size < h₁.objs.size := hn.lt
  have X₃ : K.In h₃ := kept_but X₁ hnx k₃
  have dL : dx ≠ s.heap.objs.size := fun e => absurd (Nat.lt_of_lt_of_le z dn) (by rw [e]; exact Nat.lt_irrefl _)
  have hnL : h₃.Ns s.heap.objs.size _ := hn.at fun o e => k₃ _ o hxL e
  show wpAny _ _ (execs _ _) _ _ _
  refine wpAny_execs_cons (plainObj_wpAny_Assign_Attribute ?_)
  refine ldC (v := v) hnL (by first | rfl | with_unfolding_all rfl | kernel_rfl) (ldC (v := .ref x) hnL (by first | rfl | with_unfolding_all rfl | kernel_rfl) ?_)
  have hw : Within (fun y => if y = "low" then some u else none) ["low"] := fun y hy => by
    by_cases e : y = "low"
    · rw [e]; exact List.mem_cons_self
    · exact absurd (if_neg e) hy
  obtain ⟨oD, _, _, hoD, _, _⟩ := hn₃.count hw
  refine set_plain X₃ (ox := { cls := .ref C, dict := some dx, data := .fields #[.ref t0, .none, .none, .none, .bool false, .none] }) (od := some oD) ⟨hx₃, rfl, rfl, hoD⟩ T.sa ?_
  refine PySem.OEX.osa_old X₃ hx₃ hn₃ hw (by decide) hcl (show refsVE (.ref C :: bm) = true from hbm) rfl T.noH (fun h₄ tk₄ k₄ hn₄ => ?_)
  show wpAny _ _ (execs _ _) _ _ _
  have old : ∀ b o, b ≠ x → s.heap.get? b = some o → h₄.get? b = some o := fun b o hb e =>
    k₄ b o (Nat.ne_of_lt (Nat.lt_of_lt_of_le (Nat.lt_trans (Heap.lt_size e) z) dn)) (k₃ b o hb (k b o e))
  exact wpAny_execs_nil (hq h₄ tk₄ dx ⟨old, k₄ _ _ (Ne.symm dne) hx₃, Nat.le_of_lt (Nat.lt_of_lt_of_le z dn), dne, hn₄⟩)
theorem val_made (T : Txt K mg nm C fI) {u v : Value} (X : K.In s.heap) (hlim : s.heap.NoLimit) (hroom : A.depth + 1 < recursionLimit)
    (hq : ∀ h' tk e d, OwnMade s.heap h' e C d u v → R (.ok (.ret (.ref e))) { s with heap := h', toks := tk }) :
    codeAny (model prog w) A (.call (.ref C) ⟨[u, v], []⟩) R s := by
  obtain ⟨cnm, q, N, bs, bm, sn, sub, ab, col, dd, k0, k1, k2, k3, k5, hC, hbm⟩ := T.cls
  obtain ⟨hp, g, dr, tk, os⟩ := s
  have k : ∀ b o, hp.get? b = some o → ((hp.push (kdv_tup [u, v])).push (excO C hp.objs.size)).get? b = some o := fun b o e => Heap.get?_push_of_some _ (Heap.get?_push_of_some _ e)
  have hget : ((hp.push (kdv_tup [u, v])).push (excO C hp.objs.size)).get? (hp.objs.size + 1) = some (excO C hp.objs.size) := by heap_get
  have hnx : K.lookup (hp.objs.size + 1) = none := by
    cases e : K.lookup (hp.objs.size + 1) with
    | none => rfl
    | some o =>
      have z : hp.get? (hp.objs.size + 1) = some o := X _ _ e
      exact absurd (Nat.lt_of_succ_lt (Heap.lt_size z)) (Nat.lt_irrefl _)
  refine call_own F.excBase_ValueError (fun X => refsVE_contains X bm hbm) (X _ _ hC) (looks_findIn X T.iC) (fun self => bind_fn X self T.tC) (two_size u v) ?_
  refine val_init (s := ⟨(hp.push (kdv_tup [u, v])).push (excO C hp.objs.size), g, dr, tk, os⟩) T (X.keeps k) (hlim.keeps k) hget hnx ?_ fun h' tk' dx ⟨k', hx, dn, dne, hns⟩ => ?_
  · show A.depth + 1 < recursionLimit
    exact hroom
  · have old : ∀ b o, hp.get? b = some o → h'.get? b = some o := fun b o e => k' b o (Nat.ne_of_lt (Nat.lt_succ_of_lt (Heap.lt_size e))) (k b o e)
    have z : hp.objs.size + 1 + 1 ≤ dx := by
      first
        | (simpa only [Heap.size_push] using dn)
        | exact dn
        | (have q := dn; rw [Heap.size_push, Heap.size_push] at q; exact q)
    exact ⟨rfl, hq h' tk' (hp.objs.size + 1) dx ⟨old, Nat.le_succ _, ⟨_, _, hx, rfl, rfl, rfl, rfl, rfl⟩, Nat.le_trans (Nat.le_trans (Nat.le_succ _) (Nat.le_succ _)) z, dne, hns⟩⟩
end
end Val2
end PySem
namespace L2
open PySem PySem.Spec PyProof.Rows
/-- the two fields -/
abbrev xd2 (u v : V) : HO := .xd [(("high" : Str), v), (("low" : Str), u)]
theorem relO_nil (f : Str) : RelO (List.lookup f ([] : List (Str × V))) (none : Option Value) := trivial
section
variable {X : Cx} {nm : Str} {C fI : Addr}
def tMk2 (C : Addr) (ta : TA) : St → Hp → XK → Prop := fun σ H Q => ta σ H fun vs H1 => ∃ u v, vs = [u, v] ∧ ∀ d, H1 d = none → Q (.ref C) (some d) (upd H1 d (xd2 u v))
theorem relO_2 {u v : V} {u' v' : Value} (ru : RelV u u') (rv : RelV v v') (f : Str) : RelO (List.lookup f [(("high" : Str), v), (("low" : Str), u)]) (PySem.Val2.m2 u' v' f) := by
  have r := relO_put (f := ("high" : Str)) rv (relO_put (f := ("low" : Str)) ru relO_nil) f
  exact r
theorem pmk_2N {a b : Expr} {ta : TA} {p pos : Pos} {k : Nat} (T : PySem.Val2.Txt X.K X.mg nm C fI) (hr : Room k X.A) (ha : PA X [a, b] ta) (hg : Gl X nm := by rfl) (hdb : (nm == ("__debug__" : Str)) = false := by decide)
    (he : starEach (a :: [b]) X.env = (false, eval a X.env) :: starEach [b] X.env := by rfl) (hpl : (backTo pos (starEach [b] X.env)).any (·.1) = false := by rfl) :
    L2N.PMk X (.Call (.Name nm p) [a, b] [] pos) (tMk2 C ta) := by
  intro pins s σ H Q I h
  refine wpAny_Call_Name_kw (ld_glob I hg T.gC ?_ hdb)
  refine PySem.W.callWith_K (h₀ := X.base) I.ok.mod.kin T.kC (thn (ha.run pos pins s σ H _ I h) fun us s1 hh => ?_) he hpl
  obtain ⟨vs, H1, I1, r1, u, v, ev, q1⟩ := hh
  subst ev
  refine ⟨I1.kIn, ?_⟩
  obtain ⟨u', v', rfl, ru, rv⟩ := vals2 r1
  show wpAny _ _ (call (.ref C) [u', v']) _ _ _
  have hlim := I1.nolimit
  obtain ⟨hp, g, dr, tk, os⟩ := s1
  refine wpAny_call (PySem.Val2.val_made T I1.kIn hlim (by have := hr.dp; omega) fun h' tk' e d M => ?_)
  show L2N.MkP X pins σ Q (.ref e) ⟨h', g, dr, tk', os⟩
  obtain ⟨oe, fv, hoe, hc, hd, hdat, h1, h2⟩ := M.obj
  have hns := M.ns
  obtain ⟨G', g1, g2⟩ := restrict h' fun b => decide (b ≠ e)
  have gk : ∀ b, b ≠ e → G'.get? b = h'.get? b := fun b hb => g1 b (decide_eq_true hb)
  have ge : G'.get? e = none := g2 e (by simp)
  have old : ∀ b o, hp.get? b = some o → G'.get? b = some o := fun b o q => (gk b (Nat.ne_of_lt (Nat.lt_of_lt_of_le (Heap.lt_size q) M.new))).trans (M.keep b o q)
  have ob : ObjOk X.prog X.w (upd H1 d (xd2 u v)) G' d (xd2 u v) :=
    ⟨_, hns.at (fun o q => (gk d M.dne).trans q), fun f => relO_2 ru rv f⟩
  have J : Inv X pins σ (upd H1 d (xd2 u v)) ⟨G', g, dr, tk', os⟩ := I1.laid (t' := tk') old M.dbig ob
  refine ⟨e, oe, fv, ⟨G', g, dr, tk', os⟩, _, .ref C, some d, rfl, J, fun b o q => ?_, ge, hoe, ⟨hc, hd, fun vs ev => by rw [hdat] at ev; cases ev; exact h2⟩, hdat, h1, ?_, rfl, I1.bare, raises_own T.exC T.tyC, q1 d (I1.hok.fresh M.dbig)⟩
  · by_cases hb : b = e
    · have q' : G'.get? b = some o := q
      rw [hb, ge] at q'; cases q'
    · exact (gk b hb).symm.trans q
  · rw [upd_ne (Ne.symm M.dne)]
    exact I1.hok.fresh M.new
def tRaise2 (C : Addr) (W : WX) (ta : TA) : TS := fun _ σ H => tMk2 C ta σ H fun cls d H' => W cls d σ H'
theorem ps_raise2N {a b : Expr} {ta : TA} {W : WX} {p pos pos2 : Pos} {k : Nat} (hc : X.calm = true) (T : PySem.Val2.Txt X.K X.mg nm C fI) (hr : Room k X.A) (tk : L2N.Takes X W) (ha : PA X [a, b] ta) (hg : Gl X nm := by rfl) (hdb : (nm == ("__debug__" : Str)) = false := by decide)
    (he : starEach (a :: [b]) X.env = (false, eval a X.env) :: starEach [b] X.env := by rfl) (hpl : (backTo pos (starEach [b] X.env)).any (·.1) = false := by rfl) :
    PS X (.Raise (some (.Call (.Name nm p) [a, b] [] pos)) none pos2) (tRaise2 C W ta) := L2N.ps_raise hc tk (pmk_2N T hr ha hg hdb he hpl)
end
end L2

set_option maxHeartbeats 4000000
/-! isinstance of a caught error of an own class that has a dict of its own -/
namespace Vk
open PySem PySem.W PySem.Spec PySem.Calls PyProof.Rows
section
variable {prog : Program} {w : World} {A : Around} {E : Value → Shared → Prop} {s : Shared} {K : Frag} {x D : Addr} {ox : Obj} {od : Option Obj}
theorem found_data {C : Addr} {name : Str} {a g : Value} (hc : (clsIn K C).isSome = true) (ha : findIn K (.ref C) name = some (some a)) (hg : specialIn K a "__get__" = some (some g)) (ht : takesIn K a = some true) : findObj K C od name = some (.bind g a) := by
  obtain ⟨cd, hc⟩ := Option.isSome_iff_exists.mp hc
  simp only [findObj, hc, ha, Option.bind_some, hg, ht]
/-- what the class must say -/
abbrev Ec (K : Frag) (D : Addr) : Prop := L2.ExcC K D
theorem class_asked {Q : Option Value → Shared → Prop} (C : Ec K D) (X : K.In s.heap) (I : InstAt s.heap x ox D od) (h : Q (some (.ref D)) { s with toks := s.toks + 1 }) : wpAny (model prog w) A (getAttr? (.ref x) "__class__") Q E s := by
  have isC : (clsIn K D).isSome = true := by
    obtain ⟨cd, e, _⟩ := any_some C.hd
    rw [e]
    rfl
  obtain ⟨hp, g, d, t, os⟩ := s
  have T0 := I.type (M := model prog w)
  have F1 := looks_findIn (M := model prog w) X C.hg
  have F2 := looks_findIn (M := model prog w) X C.hk
  have F3 := looks_find (M := model prog w) X I (found_data isC C.ha C.hn C.ht)
  have below : Looks (model prog w) hp (isInstance (.ref x) (.type "BaseException")) true := T0.andThen (looks_subIn X C.hs)
  have q1 : (Value.builtin "BaseException.__getattribute__" == Value.builtin "object.__getattribute__") = false := by decide +kernel
  have q2 : (onTheHeap (Value.ref D) && Value.builtin "BaseException.__getattribute__" == Value.builtin "object.__getattribute__") = false := by rw [q1]; rfl
  unfold getAttr? getAttrBy? getAttrBy
  refine wpAny_bind (wpAny_mkText (wpAny_bind (wpAny_attempt (wpAny_holding (wpAny_bind (T0.at (wpAny_bind (F1.at ?_))))))))
  show wpAny _ _ (if (onTheHeap (Value.ref D) && Value.builtin "BaseException.__getattribute__" == Value.builtin "object.__getattribute__") = true then _ else _) _ _ _
  rw [q2, if_neg Bool.false_ne_true]
  unfold getAttrByItsOwn hookBefore
  refine wpAny_bind ?_
  rw [if_pos (show onTheHeap (Value.ref D) = true from rfl)]
  refine F2.at (wpAny_bind (wpAny_attempt (wpAny_holding ?_)))
  unfold callGetattribute
  rw [show (false && onTheHeap (Value.builtin "BaseException.__getattribute__")) = false from rfl, if_neg Bool.false_ne_true]
  unfold boundAndCalled
  rw [PySem.F.excAttr_ValueError.ga.bind (.ref x)]
  refine wpAny_bind (wpAny_pure ?_)
  show wpAny _ _ (call (.builtin "BaseException.__getattribute__") [.ref x, .str "__class__" t]) _ _ _
  refine wpAny_call (codeAny_call_builtin PySem.F.excAttr_ValueError.ga.plain PySem.F.entry_bexc_ga ?_)
  refine @check_slot (model prog w) _ _ ⟨hp, g, d, t + 1, os⟩ "BaseException.__getattribute__" "BaseException" "__getattribute__" (.ref x) [.str "__class__" t] [] _ (by decide +kernel) (by decide +kernel) below (PySem.F.args_bexc_ga (.ref x) (.str "__class__" t)) ?_
  unfold Builtin.«object.__getattribute__»
  refine wpAny_bind (wpAny_of_eq (a := ((Value.ref x : Value), [Value.str "__class__" t])) (by first | rfl | (simp only [slotArgs]; rfl)) ?_)
  refine wpAny_bind (wpAny_pure (wpAny_bind (T0.at (wpAny_bind (F3.at ?_)))))
  show wpAny _ _ (holding [Value.builtin "object.__class__"] (call (.builtin "getset_descriptor.__get__") [.builtin "object.__class__", .ref x, .ref D]) >>= ret) _ _ _
  refine wpAny_bind (wpAny_holding (wpAny_call (class_get (s := ⟨hp, g, d, t + 1, os⟩) (ox := ox) (od := od) X I C.hm ?_)))
  refine wpAny_pure ?_
  show wpAny _ _ (handedOut (.ref D)) _ _ _
  rw [handedOut_of (v := .ref D) rfl]
  first
    | exact wpAny_pure (wpAny_pure h)
    | exact wpAny_pure h
    | exact wpAny_pure (wpAny_bind (wpAny_pure (wpAny_pure h)))
theorem kit_exc (C : Ec K D) : KitX K (.ref x) (.ref D) (fun h => InstAt h x ox D od) where
  ty := fun _ _ _ I => I.type
  it := fun _ _ X _ => by
    obtain ⟨cdD, hcD, _⟩ := any_some C.hd
    unfold clsIn at hcD
    split at hcD
    · rename_i c' d' cd' sl' ho
      intro A' Q' E' s' k q
      unfold isType loadHead
      exact wpAny_bind (wpAny_loadPart (k _ _ (X _ _ ho)) (wpAny_pure q))
    · cases hcD
  ne := fun h tp dd its n sl X htp => by
    obtain ⟨cdD, hcD, _⟩ := any_some C.hd
    unfold clsIn at hcD
    split at hcD
    · rename_i c' d' cd' sl' ho
      refine Bool.eq_false_iff.mpr fun q => ?_
      have e : D = tp := Value.ref.inj (beq_iff_eq.mp q)
      rw [← e] at htp
      cases (X _ _ ho).symm.trans htp
    · cases hcD
  ca := fun X I k => class_asked C X I k
end
end Vk
namespace Vk
open PySem PySem.Spec PyProof.Rows L2
/-- isinstance(e, c), e the exception that the suite holds, its dict tracked (or none) -/
def rIsG (K : PySem.W.Frag) (D a : Addr) (d : Option Addr) : List V → Hp → VK → Prop := fun xs H Q => ∃ (c : V) (cv : Value) (b : Bool), xs = [.ref a, c] ∧ ClsV c cv ∧ (d = none ∨ ∃ dd fs, d = some dd ∧ H dd = some (.xd fs)) ∧ PySem.W.kitOne K (.ref D) cv = some b ∧ Q (.bl b) H
theorem call_isG {X : Cx} {a D : Addr} {oe : Obj} {d : Option Addr} {pn : List (Addr × Obj)} (C : ExcC X.K D) (hz : Zc (.ref D) d oe) (hf : ∃ vs, oe.data = .fields vs) : CallR (X.suite a ((a, oe) :: pn)) (.builtin "isinstance") (rIsG X.K D a d) := by
  intro pins s σ H xs us Q I r h
  obtain ⟨c, cv, b, rfl, hcv, hd, e, q⟩ := h
  obtain ⟨u1, u2, rfl, r1, r2⟩ := vals2 r
  obtain rfl : u1 = Value.ref a := r1
  have ec := hcv.eq r2
  subst ec
  obtain ⟨hget, _⟩ := I.pin (a, oe) (List.mem_append_left _ List.mem_cons_self)
  obtain ⟨vs, hv⟩ := hf
  obtain ⟨od, J⟩ : ∃ od, PySem.W.InstAt s.heap a oe D od := by
    have no : PySem.W.notCls oe = true := by unfold PySem.W.notCls; rw [hv] <;> rfl
    rcases hd with rfl | ⟨dd, fs, rfl, hdd⟩
    · exact ⟨none, hget, hz.1, no, by rw [hz.2]; trivial⟩
    · have hx : ObjOk X.prog X.w H s.heap dd (.xd fs) := I.hok dd _ hdd
      obtain ⟨mA, hns, _⟩ := hx
      obtain ⟨o, ho, _⟩ := lookIn_ns hns
      exact ⟨some o, hget, hz.1, no, by rw [hz.2]; exact ho⟩
  exact PySem.W.kia_one (kit_exc C) I.kIn J e (fun z => nomatch z) fun tk => ⟨.bl b, H, I.kept (t' := tk) fun _ _ z => z, rfl, q⟩
end Vk

set_option maxHeartbeats 2000000
/-! several clauses «except X as n» behind one try -/
namespace L2
open PySem PySem.Spec PyProof.Rows
abbrev Clause := Value × Nat × (Addr → Value → Option Addr → TS)
/-- behind a suite its name is gone -/
def Ends.off (i : Nat) (D : Ends) : Ends := ⟨fun τ G => D.nx (τ.set i none) G, D.rt, fun τ G => D.bk (τ.set i none) G, fun τ G => D.ct (τ.set i none) G⟩
def wAses (K : PySem.W.Frag) (W0 : WX) (D : Ends) : List Clause → WX
  | [] => W0
  | q :: more => fun k dd τ G => ∃ hit, PySem.W.exmOne K k q.1 = some hit ∧ (hit = true → ∀ z, G z = none → q.2.2 z k dd (D.off q.2.1) (τ.set q.2.1 (some (.ref z))) G) ∧ (hit = false → wAses K W0 D more k dd τ G)
inductive AsOk (X : Cx) : List ExceptHandler → List Clause → Prop
  | nil : AsOk X [] []
  | cons {x n : Str} {c : Value} {i : Nat} {ts : Addr → Value → Option Addr → TS} {b0 : Stmt} {bs : List Stmt} {p1 p2 : Pos} {es : List ExceptHandler} {qs : List Clause} (hc : Names X x c) (hi : X.N[i]? = some n) (hk : X.env.kindOf n = some .local)
      (hsu : ∀ (z : Addr) (oz : Obj) (k : Value) (dd : Option Addr) (pn : List (Addr × Obj)), Zc k dd oz → (∃ vs, oz.data = .fields vs) → PSs (X.suite z ((z, oz) :: pn)) (b0 :: bs) (ts z k dd)) (more : AsOk X es qs) :
      AsOk X (.ExceptHandler (some (.Name x p1)) (some n) (b0 :: bs) p2 :: es) ((c, i, ts) :: qs)
section
variable {X : Cx} {body : List Stmt} {e0 : ExceptHandler} {es : List ExceptHandler} {qs : List Clause} {pos : Pos} {tb : WX → TS} {W0 : WX}
theorem ps_try_ases (hst : X.stack = X.env :: X.outer) (hfr : X.env.frame = some X.env.locals) (hnd : X.N.Nodup) (tk : Takes X W0)
    (hb : ∀ (W : WX) (pn : List (Addr × Obj)) (xe : Value → Shared → Prop), Takes (X.tr pn xe) W → PassesOwn (model X.prog X.w) X.A X.env xe → PSs (X.tr pn xe) body (tb W))
    (hh : AsOk X (e0 :: es) qs) : PS X (.Try body (e0 :: es) [] [] pos) (fun D τ G => tb (wAses X.K W0 D qs) D τ G) := by
  refine ⟨fun pins s τ0 G0 D inv0 wish => ?_⟩
  have okk := inv0.ok
  have frm : X.A.frames = some (X.env :: X.outer) := okk.frames.trans (congrArg some hst)
  refine wpAny_Try_except (wpAny_mono ((hb (wAses X.K W0 D qs) (X.pn ++ pins) (fun u t1 => wpAny (model X.prog X.w) X.A (noteFrame u X.env) (fun _ t2 => wpAny (model X.prog X.w) X.A (setFlight u none) (fun _ t3 =>
    wpAny (model X.prog X.w) X.A (handleBy u X.env (e0 :: es)) (SP X pins D) X.xe t3) X.xe t2) X.xe t1) (fun u t raised => ?caught) PassesOwn.looking).run [] s τ0 G0 D (inv0.toTry _) wish) (fun fl t got => ?through) (fun _ _ y => y))
  case through =>
    cases fl with
    | next => obtain ⟨τ, G, J, q⟩ := got; exact wpAny_execs_nil ⟨τ, G, J.ofTry okk, q⟩
    | brk => obtain ⟨τ, G, J, q⟩ := got; exact ⟨τ, G, J.ofTry okk, q⟩
    | cont => obtain ⟨τ, G, J, q⟩ := got; exact ⟨τ, G, J.ofTry okk, q⟩
    | ret u => obtain ⟨v, τ, G, J, r, q⟩ := got; exact ⟨v, τ, G, J.ofTry okk, r, q⟩
  case caught =>
    obtain ⟨z, B, sB, pins1, τ, G, k, dd, rfl, jT, bare, upB, inSky, zfree, os1, same1, wants⟩ := raised
    have j0 : Inv X pins τ G sB := jT.ofTry okk
    have inSky1 : Sky B (X.env :: X.outer) z (Zc k dd) X.env.locals t.heap := hst ▸ inSky
    show wpAny (model X.prog X.w) X.A (noteFrame (.ref z) X.env) _ _ _
    refine Sky.land Zc.steady frm hfr inSky1 fun hA flA upA => ?_
    have jA : Inv X pins τ G { t with heap := hA } := j0.landed bare flA.1 (upB.trans upA) os1 same1
    obtain ⟨oA, vA, getA, zcA, datA⟩ := flA.there
    have notF : z ∉ frs (X.env :: X.outer) := by
      intro hm
      obtain ⟨_, o', e', hnf⟩ := flA.2.2.1.mem hm
      rw [getA] at e'
      cases e'
      exact hnf _ datA
    have zL : z ≠ X.env.locals := fun y => notF (List.mem_filterMap.mpr ⟨X.env, List.mem_cons_self, hfr.trans (congrArg some y.symm)⟩)
    have zF : z ∉ X.fs := fun hm => by
      obtain ⟨en, hen, y⟩ := List.mem_filterMap.mp hm
      exact notF (List.mem_filterMap.mpr ⟨en, List.mem_cons_of_mem _ hen, y⟩)
    have jS := jA.suite getA datA zfree zL zF
    have turn : ∀ {es1 : List ExceptHandler} {qs1 : List Clause}, AsOk X es1 qs1 → wAses X.K W0 D qs1 k dd τ G → wpAny (model X.prog X.w) X.A (handleBy (.ref z) X.env es1) (SP X pins D) X.xe { t with heap := hA } := by
      intro es1 qs1 kk
      induction kk with
      | nil =>
        intro out
        refine wpAny_handleBy_nil ?_
        obtain ⟨_, _, _, oz, vs, Tr, oTr, tsr, geto, zco, dato, one, _⟩ := id flA
        unfold PySem.passOn
        refine wpAny_bind (wpAny_field geto dato one ?_)
        rw [if_neg (by simp : ¬ ((Value.ref Tr == Value.none) = true))]
        have away : wpAny (model X.prog X.w) X.A (setFlight (.ref z) X.env.frame) (fun _ t4 => wpAny (model X.prog X.w) X.A (throw (.ref z) : Sem Flow) (SP X pins D) X.xe t4) X.xe { t with heap := hA } := by
          rw [hfr]
          exact HandSPX.setFlight_upZ flA fun h4 sk4 up4 => wpAny_throw (tk _ _ ⟨z, B, sB, pins, τ, G, k, dd, rfl, j0, bare, (upB.trans upA).trans up4, .inr (.inr (hst.symm ▸ sk4)), zfree, os1, same1, out⟩)
        first | exact wpAny_bind (wpAny_pure (wpAny_bind away)) | exact wpAny_bind away
      | @cons x n c i ts b0 bs p1 p2 es2 qs2 hc hi hk hsu more ih =>
        rintro ⟨hit, isHit, onHit, offHit⟩
        refine wpAny_handleBy_cons (codeAny_handlers_test ?_) (by intro y; cases y)
        have looksT : PySem.W.Looks (model X.prog X.w) hA (typeOf (.ref z)) k := fun A Q E s kp y => wpAny_typeOf_ref (kp _ _ getA) (by rw [zcA.1]; exact y)
        have looksM := PySem.W.exm_one (M := model X.prog X.w) jA.kIn looksT isHit
        have named : ∀ {Q : Value → Shared → Prop} {E : Value → Shared → Prop}, Q c { t with heap := hA } → wpAny (model X.prog X.w) (X.A.mark (some (.ref z))) (eval (.Name x p1) X.env) Q E { t with heap := hA } := fun {Q E} y =>
          match hc with
          | ⟨hg, hdb, .inl hm⟩ => ld_glob (X := X.suite z ((z, oA) :: (X.pn ++ pins))) jS hg hm y hdb
          | ⟨hg, hdb, .inr ⟨hm, hv, hnn⟩⟩ => ld_blt (X := X.suite z ((z, oA) :: (X.pn ++ pins))) jS hg hm hv y hnn hdb
        refine named (looksM.here ?_)
        cases hit with
        | false => exact ih (offHit rfl)
        | true =>
          refine codeAny_handlers_suite_as (HandSPX.lands_againZ flA fun hB flB upB2 => ?_)
          have jB : Inv X pins τ G { t with heap := hB } := j0.landed bare flB.1 ((upB.trans upA).trans upB2) os1 same1
          obtain ⟨oB, vB, getB, zcB, datB⟩ := flB.there
          have jSB := jB.suite getB datB zfree zL zF
          refine store_ok (X := X.suite z ((z, oB) :: (X.pn ++ pins))) (v := .ref z) jSB hnd hi (.inl hk) rfl (fun t5 S5 => ?_) (.inr hk)
          refine wpAny_mono ((hsu z oB k dd (X.pn ++ pins) zcB ⟨_, datB⟩).run [] t5 _ G _ S5 (onHit rfl z zfree)) (fun fl t6 got => ?_) (fun _ _ y => y.elim)
          have fin : ∀ {τ6 : St} {G6 : Hp} {Q : Shared → Prop}, Inv (X.suite z ((z, oB) :: (X.pn ++ pins))) [] τ6 G6 t6 → (∀ t7, Inv X pins (τ6.set i none) G6 t7 → Q t7) →
              wpAny (model X.prog X.w) X.A (do bindName X.env n .none; unbindBehindTheSuite X.env n p2) (fun _ t7 => Q t7) X.xe t6 := fun S6 hq => gone_ok (S6.unsuite okk) hnd hi hk hq
          cases fl with
          | next => obtain ⟨_, _, S6, q6⟩ := got; exact fin S6 fun _ J7 => ⟨_, _, J7, q6⟩
          | brk => obtain ⟨_, _, S6, q6⟩ := got; exact fin S6 fun _ J7 => ⟨_, _, J7, q6⟩
          | cont => obtain ⟨_, _, S6, q6⟩ := got; exact fin S6 fun _ J7 => ⟨_, _, J7, q6⟩
          | ret u => obtain ⟨_, _, _, S6, r6, q6⟩ := got; exact fin S6 fun _ J7 => ⟨_, _, _, J7, r6, q6⟩
    exact turn hh wants
end
end L2

/-! defs that may raise, and calls with keywords -/
namespace Vk
open PySem L2 PyProof.Rows
/-- a def that may raise: its promise says when -/
structure DefX (P : Program) (w : World) (K : PySem.W.Frag) (mg : Str → Option Value) (base : Heap) (k : Nat) (x : Str) (ps : List Str) (sp : Sp) (f : Addr) (fd : FuncData) : Prop where
  ok : FnOk P w K mg base (L2.CX P w) k f fd ps sp
  m : mg x = some (.ref f)
  kp : PySem.W.keepIn K (.ref f) = true
  b : Binds K fd ps []
theorem DefX.up {P : Program} {w : World} {K : PySem.W.Frag} {mg : Str → Option Value} {base : Heap} {j k : Nat} {x : Str} {ps : List Str} {sp : Sp} {f : Addr} {fd : FuncData} (d : DefX P w K mg base j x ps sp f fd) (h : j ≤ k) : DefX P w K mg base k x ps sp f fd := ⟨d.ok.mono h, d.m, d.kp, d.b⟩
/-- with n values by place and keywords ks -/
structure DefXN (P : Program) (w : World) (K : PySem.W.Frag) (mg : Str → Option Value) (base : Heap) (k : Nat) (x : Str) (ps : List Str) (n : Nat) (ks : List Str) (sp : Sp) (f : Addr) (fd : FuncData) : Prop where
  ok : FnOk P w K mg base (L2.CX P w) k f fd ps sp
  m : mg x = some (.ref f)
  kp : PySem.W.keepIn K (.ref f) = true
  b : KBn K fd ps n ks (fun us ws => us ++ ws) (fun vs zs => vs ++ zs)
theorem DefXN.up {P : Program} {w : World} {K : PySem.W.Frag} {mg : Str → Option Value} {base : Heap} {j k n : Nat} {x : Str} {ps ks : List Str} {sp : Sp} {f : Addr} {fd : FuncData} (d : DefXN P w K mg base j x ps n ks sp f fd) (h : j ≤ k) : DefXN P w K mg base k x ps n ks sp f fd := ⟨d.ok.mono h, d.m, d.kp, d.b⟩
theorem vals_app : ∀ {vs : List V} {us : List Value} {zs : List V} {ws : List Value}, Vals vs us → Vals zs ws → Vals (vs ++ zs) (us ++ ws)
  | _, _, _, _, .nil, h => h
  | _, _, _, _, .cons r t, h => .cons r (vals_app t h)
/-- keyword-only parameters without defaults, all given -/
theorem kbn_of {K : PySem.W.Frag} {x qual : Str} {st : Stmt} {f : Addr} {fd : FuncData} {ps ks : List Str} {n : Nat} (F : Fun K x qual st f fd)
    (h : ∀ (kV doc pm : Value) (an : Option Addr) (cdv ct : Value) (us ws : List Value), us.length = n → ws.length = ks.length → bindArgs (PySem.W.fnOf x qual (defArgs st) (defBody st) (defScope st) .none kV doc pm an cdv ct) ⟨us, ks.zip ws⟩ = pure (ps.zip (us ++ ws))) :
    KBn K fd ps n ks (fun us ws => us ++ ws) (fun vs zs => vs ++ zs) := by
  obtain ⟨oc, od, kV, doc, pm, an, cdv, ct, osl, rfl, lk, hcd⟩ := F.ex
  exact ⟨fun s us ws _ l1 l2 => BindsTo.of_eq (h kV doc pm an cdv ct us ws l1 l2), vals_app⟩
section
variable {X : Cx} {k n : Nat} {f : Addr} {fd : FuncData} {ps ks : List Str} {sp : Sp} {x : Str} {p pos : Pos} {e : Expr} {es : List Expr} {kws : List Keyword} {t tkw : TA} {W : WX}
/-- called where nothing is let out -/
theorem pcallL (D : DefX X.prog X.w X.K X.mg X.base k x ps sp f fd) (hr : Room k X.A) (ha : PA X (e :: es) t)
    (hg : Gl X x := by rfl) (hdb : (x == ("__debug__" : Str)) = false := by decide) (he : starEach (e :: es) X.env = (false, eval e X.env) :: starEach es X.env := by rfl) (hpl : (backTo pos (starEach es X.env)).any (·.1) = false := by rfl) :
    PE X (.Call (.Name x p) (e :: es) [] pos) (tCall sp [] E0 t) := pe_call D.ok hr hg D.m D.kp D.b .nil passL ha hdb he hpl
/-- called where the wish W takes what it raises -/
theorem pcallX (D : DefX X.prog X.w X.K X.mg X.base k x ps sp f fd) (hr : Room k X.A) (tk : Takes X W) (ha : PA X (e :: es) t)
    (hg : Gl X x := by rfl) (hdb : (x == ("__debug__" : Str)) = false := by decide) (he : starEach (e :: es) X.env = (false, eval e X.env) :: starEach es X.env := by rfl) (hpl : (backTo pos (starEach es X.env)).any (·.1) = false := by rfl) :
    PE X (.Call (.Name x p) (e :: es) [] pos) (tCallS sp (WE W) t) := pe_callS D.ok hr hg D.m D.kp D.b (fun σ => passAt tk σ) ha hdb he hpl
theorem pcallLN (D : DefXN X.prog X.w X.K X.mg X.base k x ps n ks sp f fd) (hr : Room k X.A) (ha : PA X (e :: es) t) (hkw : PK X kws tkw)
    (hg : Gl X x := by rfl) (hall : (backToKw pos (keywordEach kws X.env)).all (·.1.isSome) = true := by rfl) (hks : (backToKw pos (keywordEach kws X.env)).filterMap (·.1) = ks := by rfl)
    (hdb : (x == ("__debug__" : Str)) = false := by decide) (he : starEach (e :: es) X.env = (false, eval e X.env) :: starEach es X.env := by rfl)
    (hpl : ((backTo pos (starEach (e :: es) X.env)).any (·.1) || (backToKw pos (keywordEach kws X.env)).any (·.1.isNone)) = false := by rfl) :
    PE X (.Call (.Name x p) (e :: es) kws pos) (tCallN n ks.length sp (fun vs zs => vs ++ zs) E0 t tkw) := pe_callN D.ok hr hg D.m D.kp D.b passL ha hkw hall hks hdb he hpl
def tCallNS (n m : Nat) (sp : Sp) (E : L2.St → XK) (t tkw : TA) : TE := fun σ H Q => t σ H fun vs H1 => tkw σ H1 fun zs H2 => vs.length = n ∧ zs.length = m ∧ sp (vs ++ zs) H2 Q (E σ)
theorem pcallXN (D : DefXN X.prog X.w X.K X.mg X.base k x ps n ks sp f fd) (hr : Room k X.A) (tk : Takes X W) (ha : PA X (e :: es) t) (hkw : PK X kws tkw)
    (hg : Gl X x := by rfl) (hall : (backToKw pos (keywordEach kws X.env)).all (·.1.isSome) = true := by rfl) (hks : (backToKw pos (keywordEach kws X.env)).filterMap (·.1) = ks := by rfl)
    (hdb : (x == ("__debug__" : Str)) = false := by decide) (he : starEach (e :: es) X.env = (false, eval e X.env) :: starEach es X.env := by rfl)
    (hpl : ((backTo pos (starEach (e :: es) X.env)).any (·.1) || (backToKw pos (keywordEach kws X.env)).any (·.1.isNone)) = false := by rfl) :
    PE X (.Call (.Name x p) (e :: es) kws pos) (tCallNS n ks.length sp (WE W) t tkw) := by
  refine ⟨fun pins s σ H Q I wish => wpAny_Call_Name_kw (ld_glob I hg D.m ?_ hdb)⟩
  refine PySem.W.callWith_KW (h₀ := X.base) I.ok.mod.kin D.kp hall (thn (ha.run pos pins s σ H _ I wish) fun us s1 ⟨vs, H1, I1, r1, q1⟩ => ?_) hpl he
  refine thn (hkw.run pos pins s1 σ H1 _ I1 q1) fun ws s2 ⟨zs, H2, I2, r2, l1, l2, q2⟩ => ⟨I2.kIn, ?_⟩
  rw [hks]
  refine wpAny_call (codeAny_mono (D.ok.run X.A X.stack s2 H2 ⟨us, ks.zip ws⟩ (us ++ ws) (vs ++ zs) Q _ hr I2.env0 (D.b.to s2 us ws I2.kIn (r1.length.symm.trans l1) (r2.length.symm.trans l2)) (D.b.rel r1 r2) q2) fun r s' hq => ?_)
  match r with
  | .error u => exact passAt tk σ pins H2 s2 u s' I2 hq
  | .ok (.ret u) => exact I2.after hq
  | .ok .next => exact hq.elim
  | .ok .brk => exact hq.elim
  | .ok .cont => exact hq.elim
end
/-- a def with keyword-only parameters, as it stands -/
structure FnK (K : PySem.W.Frag) (mg : Str → Option Value) (x : Str) (st : Stmt) (f : Addr) (fd : FuncData) : Prop where
  F : Fun K x x st f fd
  m : mg x = some (.ref f)
/-- what a raised error of the class C with this value wishes -/
def eV (E : XK) (C : Addr) (H : Hp) (v : V) : Prop := ∀ d, H d = none → E (.ref C) (some d) (upd H d (.xd [(("value" : Str), v)]))
end Vk

set_option maxHeartbeats 4000000
/-! A def that a caught error is passed to, from within the suite that holds it. -/
namespace Vk
open PySem PySem.Spec PyProof.Rows L2 L2H
/-- a def's promise about the error at hand -/
structure FnP (P : Program) (w : World) (K : PySem.W.Frag) (mg : Str → Option Value) (base : Heap) (k : Nat) (f : Addr) (fd : FuncData) (ps : List Str) (sp : Addr × Obj → Sp) : Prop where
  many : ∀ p vs H Q E, sp p vs H Q E → vs.length = ps.length
  go : ∀ (A : Around) (outer : List Env) (s : Shared) (H : Hp) (args : Args) (us : List Value) (vs : List V) (Q : VK) (E : XK) (p : Addr × Obj), RoomH k A → Hot1 A p → PinOk outer H s p →
    Env0 P w K mg base A outer s H → BindsTo s fd args (ps.zip us) → Vals vs us → sp p vs H Q E → codeAny (model P w) A (.call (.ref f) args) (CR CX0 outer P w H s Q E) s
theorem fnp_mk {P : Program} {w : World} {K : PySem.W.Frag} {mg : Str → Option Value} {base : Heap} {k : Nat} {f : Addr} {nm qual : Str} {pars : Arguments} {bod : List Stmt} {sco : Scope} {dV kV doc pm cdv ct oc : Value} {an od : Option Addr} {osl : Array (Option Value)} {N ps : List Str}
    {sp : Addr × Obj → Sp} (at_ : K.lookup f = some ⟨oc, od, .func (PySem.W.fnOf nm qual pars bod sco dV kV doc pm an cdv ct), osl⟩) (code : PySem.W.codeIn K cdv qual = true) (S : FnScope N ps sco) (many : ∀ p vs H Q E, sp p vs H Q E → vs.length = ps.length)
    (runs : ∀ (A : Around) (outer : List Env) (s : Shared) (H : Hp) (vs : List V) (Q : VK) (E : XK) (p : Addr × Obj), Hot1 A p → RoomH k (A.deeper (envOfC qual sco s.heap.objs.size f cdv)) → sp p vs H Q E →
      ∃ t, PSs (cxH CX0 P w K mg base N qual sco f cdv A outer s H E p) bod t ∧ t { nx := fun _ G => Q .non G, rt := Q } (L2.start N vs) H) : FnP P w K mg base (k + 1) f (PySem.W.fnOf nm qual pars bod sco dV kV doc pm an cdv ct) ps sp := by
  refine ⟨many, ?_⟩
  intro A outer s H args us vs Q E p room hot pin e0 bound rel want
  have cnt := many _ _ _ _ _ want
  have old : ∀ b o, base.get? b = some o → s.heap.get? b = some o := fun b o e => (e0.bs b o e).1
  have kin := e0.mod.kin.keeps old
  have nol := e0.mod.nolimit.keeps old
  have kinds : ∀ y ∈ ps.zip us, sco.names.lookup y.1 = some .local ∨ (sco.names.lookup y.1 = some .cell ∧ ((cellsFrom (s.heap.objs.size + 1) sco.names []).lookup y.1).isSome = true) := by
    rintro ⟨n, v⟩ hy
    rcases S.par n (List.of_mem_zip hy).1 with c | c
    · exact Or.inl c
    · exact Or.inr ⟨c, PySem.W.cellsFrom_some _ _ _ (.inl c)⟩
  refine codeAny_call_function room.depth (kin _ _ at_) rfl S.co S.gen rfl (PySem.W.codeRec_of kin code) (bound _ _ _ _ ?_)
  refine wpAny_newFunctionEnv_cells S.kind kinds fun env eenv s1 inC => ?_
  subst eenv
  refine ⟨nol.keeps inC.toInCall.keep, codeAny_func ?_⟩
  obtain ⟨t, ht, q⟩ := runs A outer s H vs Q E p hot (room.deeper _) want
  have I := inv_startH (CX := CX0) (E := E) S pin e0 cnt rel inC
  refine wpAny_mono (ht.run [] s1 (L2.start N vs) H _ I q) (fun fl s2 hs => ?_) fun _ _ h => h
  have out : ∀ {σ2 : L2.St} {G : Hp} {v : V} {u : Value}, Inv (cxH CX0 P w K mg base N qual sco f cdv A outer s H E p) [] σ2 G s2 → RelV v u → Q v G → CE outer P w H s Q u s2 := by
    intro σ2 G v u J r z
    exact ⟨v, G, J.os, J.bare, J.base, J.hok, r, z⟩
  cases fl with
  | ret u =>
    obtain ⟨v, _, _, J, r, z⟩ := hs
    exact out J r z
  | next =>
    obtain ⟨_, _, J, z⟩ := hs
    exact out (v := V.non) (u := Value.none) J rfl z
  | brk =>
    obtain ⟨_, _, _, z⟩ := hs
    exact z.elim
  | cont =>
    obtain ⟨_, _, _, z⟩ := hs
    exact z.elim
/-- f(e), e the error that is at hand -/
theorem pe_callP {X : Cx} {k : Nat} {f : Addr} {fd : FuncData} {ps : List Str} {sp : Addr × Obj → Sp} {p : Addr × Obj} {x : Str} {q pos : Pos} {e : Expr} {es : List Expr} {t : TA} (F : FnP X.prog X.w X.K X.mg X.base k f fd ps sp) (room : RoomH k X.A) (hot : Hot1 X.A p) (hp : p ∈ X.pn)
    (hg : Gl X x) (hm : X.mg x = some (.ref f)) (kp : PySem.W.keepIn X.K (.ref f) = true) (hb : Binds X.K fd ps []) (ha : PA X (e :: es) t) (hdb : (x == ("__debug__" : Str)) = false := by decide)
    (he : starEach (e :: es) X.env = (false, eval e X.env) :: starEach es X.env := by rfl) (hpl : (backTo pos (starEach es X.env)).any (·.1) = false := by rfl) : PE X (.Call (.Name x q) (e :: es) [] pos) (tCall (sp p) [] E0 t) := by
  refine ⟨?_⟩
  intro pins s σ H Q I want
  refine wpAny_Call_Name_kw (ld_glob I hg hm ?_ hdb)
  refine PySem.W.callWith_K (h₀ := X.base) I.ok.mod.kin kp (thn (ha.run pos pins s σ H _ I want) ?_) he hpl
  rintro us s1 ⟨vs, H1, I1, r, z⟩
  refine ⟨I1.kIn, ?_⟩
  have z : sp p vs H1 Q E0 := by rw [List.append_nil] at z; exact z
  have cnt : us.length = ps.length := by rw [← r.length]; exact F.many _ _ _ _ _ z
  have bound := hb s1 us I1.kIn (by rw [List.append_nil]; exact cnt)
  rw [List.append_nil] at bound
  have at1 := I1.pin p (List.mem_append_left _ hp)
  have pin : PinOk X.stack H1 s1 p := ⟨at1.1, at1.2.1, fun m => (List.mem_cons.mp (I1.stkSub p.1 m)).elim at1.2.2.1 at1.2.2.2.1, at1.2.2.2.2⟩
  refine wpAny_call (codeAny_mono (F.go X.A X.stack s1 H1 ⟨us, []⟩ us vs Q E0 p room hot pin I1.env0 bound r z) ?_)
  intro res s2 out
  cases res with
  | error _ => exact out.elim
  | ok fl =>
    cases fl with
    | ret u => exact I1.after out
    | next => exact out.elim
    | brk => exact out.elim
    | cont => exact out.elim
/-- isinstance of an error that the context holds -/
theorem call_isP {X : Cx} {a D : Addr} {oe : Obj} {d : Option Addr} (C : ExcC X.K D) (hz : Zc (.ref D) d oe) (hf : ∃ vs, oe.data = .fields vs) (hp : (a, oe) ∈ X.pn) : CallR X (.builtin "isinstance") (rIsG X.K D a d) := by
  intro pins s σ H xs us Q I r h
  obtain ⟨c, cv, b, rfl, hcv, hd, e, q⟩ := h
  obtain ⟨u1, u2, rfl, r1, r2⟩ := vals2 r
  obtain rfl : u1 = Value.ref a := r1
  have ec := hcv.eq r2
  subst ec
  obtain ⟨hget, _⟩ := I.pin (a, oe) (List.mem_append_left _ hp)
  obtain ⟨vs, hv⟩ := hf
  obtain ⟨od, J⟩ : ∃ od, PySem.W.InstAt s.heap a oe D od := by
    have no : PySem.W.notCls oe = true := by unfold PySem.W.notCls; rw [hv] <;> rfl
    rcases hd with rfl | ⟨dd, fs, rfl, hdd⟩
    · exact ⟨none, hget, hz.1, no, by rw [hz.2]; trivial⟩
    · have hx : ObjOk X.prog X.w H s.heap dd (.xd fs) := I.hok dd _ hdd
      obtain ⟨mA, hns, _⟩ := hx
      obtain ⟨o, ho, _⟩ := lookIn_ns hns
      exact ⟨some o, hget, hz.1, no, by rw [hz.2]; exact ho⟩
  exact PySem.W.kia_one (kit_exc C) I.kIn J e (fun z => nomatch z) fun tk => ⟨.bl b, H, I.kept (t' := tk) fun _ _ z => z, rfl, q⟩
end Vk

set_option maxHeartbeats 2000000
/-! several clauses «except X as n» behind one try -/
namespace L2N
open PySem PySem.Spec PyProof.Rows L2
inductive AsOk (X : Cx) : List ExceptHandler → List Clause → Prop
  | nil : AsOk X [] []
  | cons {x n : Str} {c : Value} {i : Nat} {ts : Addr → Value → Option Addr → TS} {b0 : Stmt} {bs : List Stmt} {p1 p2 : Pos} {es : List ExceptHandler} {qs : List Clause} (hc : Names X x c) (hi : X.N[i]? = some n) (hk : X.env.kindOf n = some .local)
      (hsu : ∀ (z : Addr) (oz : Obj) (k : Value) (dd : Option Addr) (pn : List (Addr × Obj)), Zn k dd oz → (∃ vs, oz.data = .fields vs) → PSs (X.suite z ((z, oz) :: pn)) (b0 :: bs) (ts z k dd)) (more : AsOk X es qs) :
      AsOk X (.ExceptHandler (some (.Name x p1)) (some n) (b0 :: bs) p2 :: es) ((c, i, ts) :: qs)
section
variable {X : Cx} {body : List Stmt} {e0 : ExceptHandler} {es : List ExceptHandler} {qs : List Clause} {pos : Pos} {tb : WX → TS} {W0 : WX}
theorem ps_try_ases (hst : X.stack = X.env :: X.outer) (hfr : X.env.frame = some X.env.locals) (hnd : X.N.Nodup) (tk : Takes X W0)
    (hb : ∀ (W : WX) (pn : List (Addr × Obj)) (xe : Value → Shared → Prop), Takes (X.tr pn xe) W → PassesOwn (model X.prog X.w) X.A X.env xe → PSs (X.tr pn xe) body (tb W))
    (hh : AsOk X (e0 :: es) qs) : PS X (.Try body (e0 :: es) [] [] pos) (fun D τ G => tb (wAses X.K W0 D qs) D τ G) := by
  refine ⟨fun pins s τ0 G0 D inv0 wish => ?_⟩
  have okk := inv0.ok
  have frm : X.A.frames = some (X.env :: X.outer) := okk.frames.trans (congrArg some hst)
  refine wpAny_Try_except (wpAny_mono ((hb (wAses X.K W0 D qs) (X.pn ++ pins) (fun u t1 => wpAny (model X.prog X.w) X.A (noteFrame u X.env) (fun _ t2 => wpAny (model X.prog X.w) X.A (setFlight u none) (fun _ t3 =>
    wpAny (model X.prog X.w) X.A (handleBy u X.env (e0 :: es)) (SP X pins D) X.xe t3) X.xe t2) X.xe t1) (fun u t raised => ?caught) PassesOwn.looking).run [] s τ0 G0 D (inv0.toTry _) wish) (fun fl t got => ?through) (fun _ _ y => y))
  case through =>
    cases fl with
    | next => obtain ⟨τ, G, J, q⟩ := got; exact wpAny_execs_nil ⟨τ, G, J.ofTry okk, q⟩
    | brk => obtain ⟨τ, G, J, q⟩ := got; exact ⟨τ, G, J.ofTry okk, q⟩
    | cont => obtain ⟨τ, G, J, q⟩ := got; exact ⟨τ, G, J.ofTry okk, q⟩
    | ret u => obtain ⟨v, τ, G, J, r, q⟩ := got; exact ⟨v, τ, G, J.ofTry okk, r, q⟩
  case caught =>
    obtain ⟨z, B, sB, pins1, τ, G, k, dd, rfl, jT, bare, upB, inSky, zfree, os1, same1, wants⟩ := raised
    have j0 : Inv X pins τ G sB := jT.ofTry okk
    have inSky1 : Sky B (X.env :: X.outer) z (Zn k dd) X.env.locals t.heap := hst ▸ inSky
    show wpAny (model X.prog X.w) X.A (noteFrame (.ref z) X.env) _ _ _
    refine Sky.land Zn.steady frm hfr inSky1 fun hA flA upA => ?_
    have jA : Inv X pins τ G { t with heap := hA } := j0.landed bare flA.1 (upB.trans upA) os1 same1
    obtain ⟨oA, vA, getA, zcA, datA⟩ := flA.there
    have notF : z ∉ frs (X.env :: X.outer) := by
      intro hm
      obtain ⟨_, o', e', hnf⟩ := flA.2.2.1.mem hm
      rw [getA] at e'
      cases e'
      exact hnf _ datA
    have zL : z ≠ X.env.locals := fun y => notF (List.mem_filterMap.mpr ⟨X.env, List.mem_cons_self, hfr.trans (congrArg some y.symm)⟩)
    have zF : z ∉ X.fs := fun hm => by
      obtain ⟨en, hen, y⟩ := List.mem_filterMap.mp hm
      exact notF (List.mem_filterMap.mpr ⟨en, List.mem_cons_of_mem _ hen, y⟩)
    have jS := jA.suite getA datA zfree zL zF
    have turn : ∀ {es1 : List ExceptHandler} {qs1 : List Clause}, AsOk X es1 qs1 → wAses X.K W0 D qs1 k dd τ G → wpAny (model X.prog X.w) X.A (handleBy (.ref z) X.env es1) (SP X pins D) X.xe { t with heap := hA } := by
      intro es1 qs1 kk
      induction kk with
      | nil =>
        intro out
        refine wpAny_handleBy_nil ?_
        obtain ⟨_, _, _, oz, vs, Tr, oTr, tsr, geto, zco, dato, one, _⟩ := id flA
        unfold PySem.passOn
        refine wpAny_bind (wpAny_field geto dato one ?_)
        rw [if_neg (by simp : ¬ ((Value.ref Tr == Value.none) = true))]
        have away : wpAny (model X.prog X.w) X.A (setFlight (.ref z) X.env.frame) (fun _ t4 => wpAny (model X.prog X.w) X.A (throw (.ref z) : Sem Flow) (SP X pins D) X.xe t4) X.xe { t with heap := hA } := by
          rw [hfr]
          exact HandSPX.setFlight_upZ flA fun h4 sk4 up4 => wpAny_throw (tk _ _ ⟨z, B, sB, pins, τ, G, k, dd, rfl, j0, bare, (upB.trans upA).trans up4, .inr (.inr (hst.symm ▸ sk4)), zfree, os1, same1, out⟩)
        first | exact wpAny_bind (wpAny_pure (wpAny_bind away)) | exact wpAny_bind away
      | @cons x n c i ts b0 bs p1 p2 es2 qs2 hc hi hk hsu more ih =>
        rintro ⟨hit, isHit, onHit, offHit⟩
        refine wpAny_handleBy_cons (codeAny_handlers_test ?_) (by intro y; cases y)
        have looksT : PySem.W.Looks (model X.prog X.w) hA (typeOf (.ref z)) k := fun A Q E s kp y => wpAny_typeOf_ref (kp _ _ getA) (by rw [zcA.1]; exact y)
        have looksM := PySem.W.exm_one (M := model X.prog X.w) jA.kIn looksT isHit
        have named : ∀ {Q : Value → Shared → Prop} {E : Value → Shared → Prop}, Q c { t with heap := hA } → wpAny (model X.prog X.w) (X.A.mark (some (.ref z))) (eval (.Name x p1) X.env) Q E { t with heap := hA } := fun {Q E} y =>
          match hc with
          | ⟨hg, hdb, .inl hm⟩ => ld_glob (X := X.suite z ((z, oA) :: (X.pn ++ pins))) jS hg hm y hdb
          | ⟨hg, hdb, .inr ⟨hm, hv, hnn⟩⟩ => ld_blt (X := X.suite z ((z, oA) :: (X.pn ++ pins))) jS hg hm hv y hnn hdb
        refine named (looksM.here ?_)
        cases hit with
        | false => exact ih (offHit rfl)
        | true =>
          refine codeAny_handlers_suite_as (HandSPX.lands_againZ flA fun hB flB upB2 => ?_)
          have jB : Inv X pins τ G { t with heap := hB } := j0.landed bare flB.1 ((upB.trans upA).trans upB2) os1 same1
          obtain ⟨oB, vB, getB, zcB, datB⟩ := flB.there
          have jSB := jB.suite getB datB zfree zL zF
          refine store_ok (X := X.suite z ((z, oB) :: (X.pn ++ pins))) (v := .ref z) jSB hnd hi (.inl hk) rfl (fun t5 S5 => ?_) (.inr hk)
          refine wpAny_mono ((hsu z oB k dd (X.pn ++ pins) zcB ⟨_, datB⟩).run [] t5 _ G _ S5 (onHit rfl z zfree)) (fun fl t6 got => ?_) (fun _ _ y => y.elim)
          have fin : ∀ {τ6 : St} {G6 : Hp} {Q : Shared → Prop}, Inv (X.suite z ((z, oB) :: (X.pn ++ pins))) [] τ6 G6 t6 → (∀ t7, Inv X pins (τ6.set i none) G6 t7 → Q t7) →
              wpAny (model X.prog X.w) X.A (do bindName X.env n .none; unbindBehindTheSuite X.env n p2) (fun _ t7 => Q t7) X.xe t6 := fun S6 hq => gone_ok (S6.unsuite okk) hnd hi hk hq
          cases fl with
          | next => obtain ⟨_, _, S6, q6⟩ := got; exact fin S6 fun _ J7 => ⟨_, _, J7, q6⟩
          | brk => obtain ⟨_, _, S6, q6⟩ := got; exact fin S6 fun _ J7 => ⟨_, _, J7, q6⟩
          | cont => obtain ⟨_, _, S6, q6⟩ := got; exact fin S6 fun _ J7 => ⟨_, _, J7, q6⟩
          | ret u => obtain ⟨_, _, _, S6, r6, q6⟩ := got; exact fin S6 fun _ J7 => ⟨_, _, _, J7, r6, q6⟩
    exact turn hh wants
end
end L2N

/-! defs that may raise, where the context of exceptions is told, too -/
namespace Vk
open PySem L2 PyProof.Rows
theorem passLY {X : Cx} : Passes (L2N.CX X.prog X.w) X E0 := fun _ _ _ _ _ _ _ h => by
  obtain ⟨_, _, _, _, _, _, _, _, _, _, _, _, z⟩ := h
  exact z.elim
theorem takes0Y {X : Cx} : L2N.Takes X (fun _ _ _ _ => False) := fun _ _ x => by
  obtain ⟨_, _, _, _, _, _, _, _, _, _, _, _, _, _, _, _, z⟩ := x
  exact z.elim
structure DefY (P : Program) (w : World) (K : PySem.W.Frag) (mg : Str → Option Value) (base : Heap) (k : Nat) (x : Str) (ps : List Str) (sp : Sp) (f : Addr) (fd : FuncData) : Prop where
  ok : FnOk P w K mg base (L2N.CX P w) k f fd ps sp
  m : mg x = some (.ref f)
  kp : PySem.W.keepIn K (.ref f) = true
  b : Binds K fd ps []
theorem DefY.up {P : Program} {w : World} {K : PySem.W.Frag} {mg : Str → Option Value} {base : Heap} {j k : Nat} {x : Str} {ps : List Str} {sp : Sp} {f : Addr} {fd : FuncData} (d : DefY P w K mg base j x ps sp f fd) (h : j ≤ k) : DefY P w K mg base k x ps sp f fd := ⟨d.ok.mono h, d.m, d.kp, d.b⟩
structure DefYN (P : Program) (w : World) (K : PySem.W.Frag) (mg : Str → Option Value) (base : Heap) (k : Nat) (x : Str) (ps : List Str) (n : Nat) (ks : List Str) (sp : Sp) (f : Addr) (fd : FuncData) : Prop where
  ok : FnOk P w K mg base (L2N.CX P w) k f fd ps sp
  m : mg x = some (.ref f)
  kp : PySem.W.keepIn K (.ref f) = true
  b : KBn K fd ps n ks (fun us ws => us ++ ws) (fun vs zs => vs ++ zs)
theorem DefYN.up {P : Program} {w : World} {K : PySem.W.Frag} {mg : Str → Option Value} {base : Heap} {j k n : Nat} {x : Str} {ps ks : List Str} {sp : Sp} {f : Addr} {fd : FuncData} (d : DefYN P w K mg base j x ps n ks sp f fd) (h : j ≤ k) : DefYN P w K mg base k x ps n ks sp f fd := ⟨d.ok.mono h, d.m, d.kp, d.b⟩
/-- a def that an error at hand is passed to -/
structure DefP (P : Program) (w : World) (K : PySem.W.Frag) (mg : Str → Option Value) (base : Heap) (k : Nat) (x : Str) (ps : List Str) (sp : Addr × Obj → Sp) (f : Addr) (fd : FuncData) : Prop where
  ok : FnP P w K mg base k f fd ps sp
  m : mg x = some (.ref f)
  kp : PySem.W.keepIn K (.ref f) = true
  b : Binds K fd ps []
section
variable {X : Cx} {k n : Nat} {f : Addr} {fd : FuncData} {ps ks : List Str} {sp : Sp} {x : Str} {p pos : Pos} {e : Expr} {es : List Expr} {kws : List Keyword} {t tkw : TA} {W : WX}
theorem pcallYL (D : DefY X.prog X.w X.K X.mg X.base k x ps sp f fd) (hr : Room k X.A) (ha : PA X (e :: es) t)
    (hg : Gl X x := by rfl) (hdb : (x == ("__debug__" : Str)) = false := by decide) (he : starEach (e :: es) X.env = (false, eval e X.env) :: starEach es X.env := by rfl) (hpl : (backTo pos (starEach es X.env)).any (·.1) = false := by rfl) :
    PE X (.Call (.Name x p) (e :: es) [] pos) (tCall sp [] E0 t) := pe_call D.ok hr hg D.m D.kp D.b .nil passLY ha hdb he hpl
theorem pcallY (D : DefY X.prog X.w X.K X.mg X.base k x ps sp f fd) (hr : Room k X.A) (tk : L2N.Takes X W) (ha : PA X (e :: es) t)
    (hg : Gl X x := by rfl) (hdb : (x == ("__debug__" : Str)) = false := by decide) (he : starEach (e :: es) X.env = (false, eval e X.env) :: starEach es X.env := by rfl) (hpl : (backTo pos (starEach es X.env)).any (·.1) = false := by rfl) :
    PE X (.Call (.Name x p) (e :: es) [] pos) (tCallS sp (WE W) t) := pe_callS D.ok hr hg D.m D.kp D.b (fun σ => L2N.passAt tk σ) ha hdb he hpl
theorem pcallYLN (D : DefYN X.prog X.w X.K X.mg X.base k x ps n ks sp f fd) (hr : Room k X.A) (ha : PA X (e :: es) t) (hkw : PK X kws tkw)
    (hg : Gl X x := by rfl) (hall : (backToKw pos (keywordEach kws X.env)).all (·.1.isSome) = true := by rfl) (hks : (backToKw pos (keywordEach kws X.env)).filterMap (·.1) = ks := by rfl)
    (hdb : (x == ("__debug__" : Str)) = false := by decide) (he : starEach (e :: es) X.env = (false, eval e X.env) :: starEach es X.env := by rfl)
    (hpl : ((backTo pos (starEach (e :: es) X.env)).any (·.1) || (backToKw pos (keywordEach kws X.env)).any (·.1.isNone)) = false := by rfl) :
    PE X (.Call (.Name x p) (e :: es) kws pos) (tCallN n ks.length sp (fun vs zs => vs ++ zs) E0 t tkw) := pe_callN D.ok hr hg D.m D.kp D.b passLY ha hkw hall hks hdb he hpl
theorem pcallYN (D : DefYN X.prog X.w X.K X.mg X.base k x ps n ks sp f fd) (hr : Room k X.A) (tk : L2N.Takes X W) (ha : PA X (e :: es) t) (hkw : PK X kws tkw)
    (hg : Gl X x := by rfl) (hall : (backToKw pos (keywordEach kws X.env)).all (·.1.isSome) = true := by rfl) (hks : (backToKw pos (keywordEach kws X.env)).filterMap (·.1) = ks := by rfl)
    (hdb : (x == ("__debug__" : Str)) = false := by decide) (he : starEach (e :: es) X.env = (false, eval e X.env) :: starEach es X.env := by rfl)
    (hpl : ((backTo pos (starEach (e :: es) X.env)).any (·.1) || (backToKw pos (keywordEach kws X.env)).any (·.1.isNone)) = false := by rfl) :
    PE X (.Call (.Name x p) (e :: es) kws pos) (tCallNS n ks.length sp (WE W) t tkw) := by
  refine ⟨fun pins s σ H Q I wish => wpAny_Call_Name_kw (ld_glob I hg D.m ?_ hdb)⟩
  refine PySem.W.callWith_KW (h₀ := X.base) I.ok.mod.kin D.kp hall (thn (ha.run pos pins s σ H _ I wish) fun us s1 ⟨vs, H1, I1, r1, q1⟩ => ?_) hpl he
  refine thn (hkw.run pos pins s1 σ H1 _ I1 q1) fun ws s2 ⟨zs, H2, I2, r2, l1, l2, q2⟩ => ⟨I2.kIn, ?_⟩
  rw [hks]
  refine wpAny_call (codeAny_mono (D.ok.run X.A X.stack s2 H2 ⟨us, ks.zip ws⟩ (us ++ ws) (vs ++ zs) Q _ hr I2.env0 (D.b.to s2 us ws I2.kIn (r1.length.symm.trans l1) (r2.length.symm.trans l2)) (D.b.rel r1 r2) q2) fun r s' hq => ?_)
  match r with
  | .error u => exact L2N.passAt tk σ pins H2 s2 u s' I2 hq
  | .ok (.ret u) => exact I2.after hq
  | .ok .next => exact hq.elim
  | .ok .brk => exact hq.elim
  | .ok .cont => exact hq.elim
end
section
variable {P : Program} {w : World} {K : PySem.W.Frag} {mg : Str → Option Value} {base : Heap}
theorem okY {x qual : Str} {st : Stmt} {f : Addr} {fd : FuncData} {N ps : List Str} {k : Nat} {sp : Sp} (F : Fun K x qual st f fd) (S : FnScope N ps (defScope st)) (len : ∀ vs H Q E, sp vs H Q E → vs.length = ps.length)
    (hbody : ∀ (cdv : Value) (A : Around) (outer : List Env) (s : Shared) (H : Hp) (vs : List V) (Q : VK) (E : XK), Room k (A.deeper (envOfC qual (defScope st) s.heap.objs.size f cdv)) → sp vs H Q E →
      ∃ t, PSs (cxOf (L2N.CX P w) P w K mg base N qual (defScope st) f cdv A outer s H E) (defBody st) t ∧ t { nx := fun _ H' => Q .non H', rt := Q } (start N vs) H) : FnOk P w K mg base (L2N.CX P w) (k + 1) f fd ps sp := by
  obtain ⟨oc, od, kV, doc, pm, an, cdv, ct, osl, rfl, lk, hcd⟩ := F.ex
  exact fn_of lk hcd S len fun A outer s H vs Q E hr hsp => hbody cdv A outer s H vs Q E hr hsp
theorem okP {x qual : Str} {st : Stmt} {f : Addr} {fd : FuncData} {N ps : List Str} {k : Nat} {sp : Addr × Obj → Sp} (F : Fun K x qual st f fd) (S : FnScope N ps (defScope st)) (len : ∀ p vs H Q E, sp p vs H Q E → vs.length = ps.length)
    (hbody : ∀ (cdv : Value) (A : Around) (outer : List Env) (s : Shared) (H : Hp) (vs : List V) (Q : VK) (E : XK) (p : Addr × Obj), L2H.Hot1 A p → L2H.RoomH k (A.deeper (envOfC qual (defScope st) s.heap.objs.size f cdv)) → sp p vs H Q E →
      ∃ t, PSs (L2H.cxH CX0 P w K mg base N qual (defScope st) f cdv A outer s H E p) (defBody st) t ∧ t { nx := fun _ H' => Q .non H', rt := Q } (start N vs) H) : FnP P w K mg base (k + 1) f fd ps sp := by
  obtain ⟨oc, od, kV, doc, pm, an, cdv, ct, osl, rfl, lk, hcd⟩ := F.ex
  exact fnp_mk lk hcd S len fun A outer s H vs Q E p hot hr hsp => hbody cdv A outer s H vs Q E p hot hr hsp
end
end Vk

/-! what the written part says of classes of errors -/
namespace Vk
open PySem PySem.W PySem.Calls PySem.HandSPX L2
theorem cls_both {K : Frag} {C : Addr} (h2 : isClsIn K C = true) (h3 : typeIn K (.ref C) = some (.type "type")) : ((clsIn K C).isSome && typeIn K (.ref C) == some (.type "type")) = true := by
  have h2' : (clsIn K C).isSome = true := h2
  rw [h2', h3]
  rfl
theorem exm_of {K : Frag} {S C : Addr} {b : Bool} (h1 : subIn K (.ref C) (.type "BaseException") = some true) (h2 : isClsIn K C = true) (h3 : typeIn K (.ref C) = some (.type "type")) (h4 : subIn K (.ref S) (.ref C) = some b) : exmOne K (.ref S) (.ref C) = some b := by
  have e1 : (subIn K (.ref C) (.type "BaseException") == some true) = true := by rw [h1]; rfl
  unfold exmOne kitCls
  rw [if_pos e1]
  dsimp only
  rw [if_pos (cls_both h2 h3)]
  exact h4
theorem kit_of1 {K : Frag} {S C : Addr} {b : Bool} (n : (S == C) = false) (h2 : isClsIn K C = true) (h3 : typeIn K (.ref C) = some (.type "type")) (h4 : subIn K (.ref S) (.ref C) = some b) : kitOne K (.ref S) (.ref C) = some b := by
  have e1 : (Value.ref S == Value.ref C) = false := beq_false_of_ne fun e => by
    have := Value.ref.inj e
    rw [this, beq_self_eq_true] at n
    cases n
  unfold kitOne kitCls
  rw [e1, if_neg Bool.false_ne_true]
  dsimp only
  rw [if_pos (cls_both h2 h3)]
  exact h4
theorem errTxt {K : Frag} {mg : Str → Option Value} {x nm q iq : Str} {C fi N : Addr} {bs bm sub : List Value} {sn : List Str} {ab : Bool} {col : Option Bool} {dd : Option Addr} {m0 m1 m2 m3 m5 : Option Value} {iod ian : Option Addr} {isl : Array (Option Value)} {ioc idc ipm icd ict : Value} {p1 p2 q1 q2 q3 q4 : Pos}
    (aC : mg x = some (.ref C)) (xL : K.lookup C = some (excClassObj nm q C N bs bm true sn sub ab col dd m0 m1 m2 m3 m5 "ValueError.__new__")) (rv : refsVE bm = true)
    (sa : findIn K (.ref C) "__setattr__" = some (some (.builtin "object.__setattr__"))) (ga : findIn K (.ref C) "__getattribute__" = some (some (.builtin "BaseException.__getattribute__"))) (gg : findIn K (.ref C) "__getattr__" = some none) (nb : findIn K (.ref C) "value" = some none)
    (a1 : findIn K (.ref C) "__init__" = some (some (.ref fi))) (t1 : typeIn K (.ref fi) = some (.type "function"))
    (l1 : K.lookup fi = some ⟨ioc, iod, .func (fnOf "__init__" iq (PySem.ValX.iA p1 p2) (PySem.ValX.iB q1 q2 q3 q4) PySem.ValX.iS .none .none idc ipm ian icd ict), isl⟩) (c1 : codeIn K icd iq = true)
    (kC : keepIn K (.ref C) = true) (eC : subIn K (.ref C) (.type "BaseException") = some true) (tC : typeIn K (.ref C) = some (.type "type")) (hC : hasDictIn K C = true) (te : exmOne K (.ref C) (.ref C) = some true) : PySem.ValX.ValTxt K mg x C fi :=
  { gC := aC, cls := ⟨nm, q, N, bs, bm, sn, sub, ab, col, dd, m0, m1, m2, m3, m5, xL, rv⟩, sa := sa, ga := ga, gg := gg, noN := nb, iC := a1, tC := t1, kC := kC, exC := eC, tyC := tC, hdC := hC, te := te, fn := ⟨iq, ioc, iod, idc, ipm, ian, icd, ict, isl, p1, p2, q1, q2, q3, q4, l1, c1⟩ }
end Vk

/-! the head by a Hook of its own: facts about the objects at written addresses; the top is run three times, once for each look -/
namespace Vk
open PySem PySem.W PySem.Calls PySem.HandSPX PyProof.Rows L2
def obsV (fa : List He.Fa) (fn : List He.DefD) (ex : PySem.W.Frag → Bool) (K : PySem.W.Frag) : He.AlD := ((ex K && fa.all fun f => f.ok K) && fn.all fun d => d.ok K, fn.map fun d => He.fnW K d.at_)
def valV (fn : List He.DefD) : He.AlD := (true, fn.map He.DefD.val)
def hookV (as : List Addr) (fa : List He.Fa) (fn : List He.DefD) (ex : PySem.W.Frag → Bool) : PySem.W.Hook where
  α := He.AlD
  obs := fun s => obsV fa fn ex (He.frG s.heap.get? as)
  val := fun _ => valV fn
  says := fun _ h => ∃ K : PySem.W.Frag, K.In h ∧ obsV fa fn ex K = valV fn
  of := fun _ _ e => ⟨_, He.frG_in, e⟩
  keeps := fun _ _ _ ⟨K, hK, c⟩ k => ⟨K, PySem.W.Frag.In.keeps hK k, c⟩
section
variable {as : List Addr} {fa : List He.Fa} {fn : List He.DefD} {ex : PySem.W.Frag → Bool} {K : PySem.W.Frag} {mg : Str → Option Value} {h : Heap}
theorem obV_eq (s : PySem.W.SharedT) : obsV fa fn ex (He.frG (HandSHeadRun.getT s) as) = (hookV as fa fn ex).obs s.abs := by
  have e : HandSHeadRun.getT s = s.abs.heap.get? := funext (HandSHeadRun.getT_eq s)
  rw [e]
  rfl
theorem saysV_ex (c : obsV fa fn ex K = valV fn) : ex K = true := (He.ba (He.ba (show ((ex K && fa.all fun f => f.ok K) && fn.all fun d => d.ok K) = true from congrArg (fun z : He.AlD => z.1) c)).1).1
theorem saysV_fact (c : obsV fa fn ex K = valV fn) (i : Nat) {f : He.Fa} (h : fa[i]? = some f) : f.ok K = true :=
  List.all_eq_true.mp (He.ba (He.ba (show ((ex K && fa.all fun f => f.ok K) && fn.all fun d => d.ok K) = true from congrArg (fun z : He.AlD => z.1) c)).1).2 f (List.mem_of_getElem? h)
theorem saysV_def (c : obsV fa fn ex K = valV fn) (i : Nat) {d : He.DefD} (h : fn[i]? = some d) : ∃ fd, FunD K d.name d.qual d.params d.body d.scope (d.dvs K) (d.kws K) (He.fAd K d.at_) fd := by
  have c2 := (He.ba (show ((ex K && fa.all fun f => f.ok K) && fn.all fun d => d.ok K) = true from congrArg (fun z : He.AlD => z.1) c)).2
  have e : fn.map (fun d => He.fnW K d.at_) = fn.map He.DefD.val := congrArg (fun z : He.AlD => z.2) c
  have e2 : (fn.map fun d => He.fnW K d.at_)[i]? = (fn.map He.DefD.val)[i]? := by rw [e]
  rw [List.getElem?_map, List.getElem?_map, h] at e2
  exact He.DefD.funD (Option.some.inj e2) (List.all_eq_true.mp c2 d (List.mem_of_getElem? h))
theorem run2 {α : Type} {o : Option α} {e : α → Bool} {d : α → Bool} {l : α → List He.FnW} {L : List He.FnW} (h1 : o.map e = some true) (h2 : o.map (fun x => (d x, l x)) = some (true, L)) : o.map (fun x => ((e x && d x, l x) : He.AlD)) = some (true, L) := by
  cases o with
  | none => cases h1
  | some x =>
    have e1 : e x = true := Option.some.inj h1
    have e2 : (d x, l x) = (true, L) := Option.some.inj h2
    obtain ⟨e3, e4⟩ := Prod.mk.inj e2
    show some (e x && d x, l x) = _
    rw [e1, e3, e4]
    rfl
theorem run3 {α β γ δ : Type} {o : Option α} {f : α → β} {g : α → γ} {k : α → δ} {a : β} {b : γ} {c : δ} (h1 : o.map f = some a) (h2 : o.map g = some b) (h3 : o.map k = some c) : o.map (fun x => (f x, g x, k x)) = some (a, b, c) := by
  cases o with
  | none => cases h1
  | some x =>
    have e1 : f x = a := Option.some.inj h1
    have e2 : g x = b := Option.some.inj h2
    have e3 : k x = c := Option.some.inj h3
    show some (f x, g x, k x) = _
    rw [e1, e2, e3]
theorem fn_of_d {x : Str} {st : Stmt} {ps : List Str} {f : Addr} {fd : FuncData} (F : FunD K x x (defArgs st) (defBody st) (defScope st) [] [] f fd) (m : mg x = some (.ref f))
    (h : ∀ (kV doc pm : Value) (an : Option Addr) (cdv ct : Value) (us : List Value), us.length = ps.length → bindArgs (PySem.W.fnOf x x (defArgs st) (defBody st) (defScope st) .none kV doc pm an cdv ct) ⟨us, []⟩ = pure (ps.zip us)) : Fn K mg x st ps f fd := by
  have b := F.bindsN h
  obtain ⟨oc, od, dV, kV, doc, pm, an, cdv, ct, osl, rfl, lk, hcd, hD, hK⟩ := F.ex
  rcases hD with ⟨_, rfl⟩ | ⟨e, _⟩
  · exact ⟨⟨⟨oc, od, kV, doc, pm, an, cdv, ct, osl, rfl, lk, hcd⟩, F.kp⟩, m, b⟩
  · cases e rfl
theorem funA_of_d {x : Str} {st : Stmt} {dvs : List V} {f : Addr} {fd : FuncData} (F : FunD K x x (defArgs st) (defBody st) (defScope st) dvs [] f fd) : FunA K x x st f fd := by
  obtain ⟨oc, od, dV, kV, doc, pm, an, cdv, ct, osl, rfl, lk, hcd, hD, hK⟩ := F.ex
  exact ⟨⟨oc, od, dV, kV, doc, pm, an, cdv, ct, osl, rfl, lk, hcd⟩, F.kp⟩
/-- a class of errors as its object stands -/
def clsB (K : PySem.W.Frag) (C : Addr) : Bool := match K.lookup C with
  | some ⟨.type "type", _, .cls cd, sl⟩ => (match cd.mro, sl.toList with
    | .ref C' :: bm, [_, _, _, _, some (.builtin n), _] => C' == C && (n == "ValueError.__new__" && (cd.hasDict && (!cd.hasDel && refsVE bm)))
    | _, _ => false)
  | _ => false
theorem clsB_ok {C : Addr} (h : clsB K C = true) : ∃ nm q N bs bm sn sub ab col dd k0 k1 k2 k3 k5, K.lookup C = some (excClassObj nm q C N bs bm true sn sub ab col dd k0 k1 k2 k3 k5 "ValueError.__new__") ∧ refsVE bm = true := by
  unfold clsB at h
  split at h
  · rename_i dd cd sl ho
    split at h
    · rename_i C' bm k0 k1 k2 k3 n k5 e1 e2
      obtain ⟨h1, h⟩ := He.ba h
      obtain ⟨h2, h⟩ := He.ba h
      obtain ⟨h3, h⟩ := He.ba h
      obtain ⟨h4, h5⟩ := He.ba h
      have es : sl = #[k0, k1, k2, k3, some (.builtin n), k5] := by
        rw [← Array.toArray_toList (xs := sl), e2]
      obtain ⟨nm, bs, mro, ns, q, hd, sn, sub, ab, col, del⟩ := cd
      have e3 : mro = .ref C' :: bm := e1
      have e4 : hd = true := h3
      have e5 : del = false := by
        have h4 : (!del) = true := h4
        cases del
        · rfl
        · cases h4
      rw [ho, es, e3, beq_iff_eq.mp h1, beq_iff_eq.mp h2, e4, e5]
      exact ⟨_, _, _, _, _, _, _, _, _, _, _, _, _, _, _, rfl, h5⟩
    · cases h
  · cases h
/-- an error's class, all that its text says: facts of K -/
def errB (K : PySem.W.Frag) (x : Str) : Bool :=
  clsB K (He.ga K x) && (He.eqO (findIn K (.ref (He.ga K x)) "__setattr__") (some (some (.builtin "object.__setattr__"))) && (He.eqO (findIn K (.ref (He.ga K x)) "__getattribute__") (some (some (.builtin "BaseException.__getattribute__"))) &&
  (He.eqO (findIn K (.ref (He.ga K x)) "__getattr__") (some none) && (He.eqO (findIn K (.ref (He.ga K x)) "value") (some none) && (He.eqO (findIn K (.ref (He.ga K x)) "__init__") (some (some (.ref (He.ma K (He.ga K x) "__init__")))) &&
  (decide (typeIn K (.ref (He.ma K (He.ga K x) "__init__")) = some (.type "function")) && (keepIn K (.ref (He.ga K x)) && (decide (subIn K (.ref (He.ga K x)) (.type "BaseException") = some true) && (decide (typeIn K (.ref (He.ga K x)) = some (.type "type")) &&
  (hasDictIn K (He.ga K x) && decide (exmOne K (.ref (He.ga K x)) (.ref (He.ga K x)) = some true)))))))))))
theorem errB_ok {x : Str} (g : mg x = some (.ref (He.ga K x))) (h : errB K x = true) (fn : ∃ (q : Str) (oc : Value) (od : Option Addr) (doc pm : Value) (an : Option Addr) (cdv ct : Value) (osl : Array (Option Value)) (p1 p2 q1 q2 q3 q4 : Pos),
    K.lookup (He.ma K (He.ga K x) "__init__") = some ⟨oc, od, .func (fnOf "__init__" q (PySem.ValX.iA p1 p2) (PySem.ValX.iB q1 q2 q3 q4) PySem.ValX.iS .none .none doc pm an cdv ct), osl⟩ ∧ codeIn K cdv q = true) : PySem.ValX.ValTxt K mg x (He.ga K x) (He.ma K (He.ga K x) "__init__") := by
  obtain ⟨h1, h⟩ := He.ba h
  obtain ⟨h2, h⟩ := He.ba h
  obtain ⟨h3, h⟩ := He.ba h
  obtain ⟨h4, h⟩ := He.ba h
  obtain ⟨h5, h⟩ := He.ba h
  obtain ⟨h6, h⟩ := He.ba h
  obtain ⟨h7, h⟩ := He.ba h
  obtain ⟨h8, h⟩ := He.ba h
  obtain ⟨h9, h⟩ := He.ba h
  obtain ⟨h10, h⟩ := He.ba h
  obtain ⟨h11, h12⟩ := He.ba h
  exact { gC := g, cls := clsB_ok h1, sa := He.eqO_ok h2, ga := He.eqO_ok h3, gg := He.eqO_ok h4, noN := He.eqO_ok h5, iC := He.eqO_ok h6, tC := of_decide_eq_true h7, kC := h8, exC := of_decide_eq_true h9, tyC := of_decide_eq_true h10, hdC := h11, te := of_decide_eq_true h12, fn := fn }
/-- .. and what isinstance asks of it -/
def excB (K : PySem.W.Frag) (x : Str) : Bool :=
  He.eqO (findIn K (.ref (He.ga K x)) "__getattribute__") (some (some (.builtin "BaseException.__getattribute__"))) && (He.eqO (findIn K (.ref (He.ga K x)) "__getattr__") (some none) && (decide (subIn K (.ref (He.ga K x)) (.type "BaseException") = some true) && (hasDictIn K (He.ga K x) &&
  (He.eqO (findIn K (.ref (He.ga K x)) "__class__") (some (some (.builtin "object.__class__"))) && (He.eqO (specialIn K (.builtin "object.__class__") "__get__") (some (some (.builtin "getset_descriptor.__get__"))) && (decide (takesIn K (.builtin "object.__class__") = some true) && decide (mroIn K (He.ga K x) (.type "object") = some true)))))))
theorem excB_ok {x : Str} (h : excB K x = true) : ExcC K (He.ga K x) := by
  obtain ⟨h1, h⟩ := He.ba h
  obtain ⟨h2, h⟩ := He.ba h
  obtain ⟨h3, h⟩ := He.ba h
  obtain ⟨h4, h⟩ := He.ba h
  obtain ⟨h5, h⟩ := He.ba h
  obtain ⟨h6, h⟩ := He.ba h
  obtain ⟨h7, h8⟩ := He.ba h
  exact ⟨He.eqO_ok h1, He.eqO_ok h2, of_decide_eq_true h3, h4, He.eqO_ok h5, He.eqO_ok h6, of_decide_eq_true h7, of_decide_eq_true h8⟩
end
end Vk
namespace Vk
open PySem PySem.W PySem.Calls PySem.HandSPX PyProof.Rows L2
def clsBody (s : Stmt) : List Stmt := match s with
  | .ClassDef _ _ _ b _ _ _ _ _ _ _ => b
  | _ => []
/-- the first method of a class statement -/
def method (s : Stmt) (i : Nat) : Stmt := (clsBody s).getD i (.Pass ⟨0, 0, 0, 0⟩)
def noneB : Value → Bool
  | .none => true
  | _ => false
theorem noneB_ok {v : Value} (h : noneB v = true) : v = .none := by
  cases v with
  | none => rfl
  | _ => cases h
def initB (K : PySem.W.Frag) (x : Str) : Bool := match K.lookup (He.ma K (He.ga K x) "__init__") with
  | some ⟨_, _, .func fd, _⟩ => noneB fd.kwdefaults
  | _ => false
theorem init_ok {K : PySem.W.Frag} {x q : Str} {A : Arguments} {B : List Stmt} {S : Scope} {fd : FuncData} {p1 p2 q1 q2 q3 q4 : Pos} (F : FunD K "__init__" q A B S [] [] (He.ma K (He.ga K x) "__init__") fd) (h : initB K x = true) (eA : A = PySem.ValX.iA p1 p2) (eB : B = PySem.ValX.iB q1 q2 q3 q4) (eS : S = PySem.ValX.iS) :
    ∃ (q : Str) (oc : Value) (od : Option Addr) (doc pm : Value) (an : Option Addr) (cdv ct : Value) (osl : Array (Option Value)) (p1 p2 q1 q2 q3 q4 : Pos),
    K.lookup (He.ma K (He.ga K x) "__init__") = some ⟨oc, od, .func (fnOf "__init__" q (PySem.ValX.iA p1 p2) (PySem.ValX.iB q1 q2 q3 q4) PySem.ValX.iS .none .none doc pm an cdv ct), osl⟩ ∧ codeIn K cdv q = true := by
  obtain ⟨oc, od, dV, kV, doc, pm, an, cdv, ct, osl, rfl, lk, hcd, hD, hK⟩ := F.ex
  unfold initB at h
  rw [lk] at h
  rcases hD with ⟨_, rfl⟩ | ⟨e, _⟩
  · have e : kV = .none := noneB_ok h
    subst e eA eB eS
    exact ⟨q, oc, od, doc, pm, an, cdv, ct, osl, p1, p2, q1, q2, q3, q4, lk, hcd⟩
  · cases e rfl
theorem gcd_ok {K : PySem.W.Frag} {mg : Str → Option Value} {h : Heap} (X : K.In h) (G : h.Ns mainGlobals mg) {x : Str} {v : Value} (c : He.eqO (nsIn K mainGlobals x) (some (some v)) = true) : mg x = some v := PySem.W.mg_of X G (He.eqO_ok c)
end Vk

/-! an error's class with two fields, by a Hook's facts -/
namespace Vk
open PySem PySem.W PySem.Calls PySem.HandSPX PyProof.Rows L2
def err2B (K : PySem.W.Frag) (x : Str) : Bool :=
  clsB K (He.ga K x) && (He.eqO (findIn K (.ref (He.ga K x)) "__setattr__") (some (some (.builtin "object.__setattr__"))) && (He.eqO (findIn K (.ref (He.ga K x)) "__getattribute__") (some (some (.builtin "BaseException.__getattribute__"))) &&
  (He.eqO (findIn K (.ref (He.ga K x)) "__getattr__") (some none) && (He.eqO (findIn K (.ref (He.ga K x)) "low") (some none) && (He.eqO (findIn K (.ref (He.ga K x)) "high") (some none) && (He.eqO (findIn K (.ref (He.ga K x)) "__init__") (some (some (.ref (He.ma K (He.ga K x) "__init__")))) &&
  (decide (typeIn K (.ref (He.ma K (He.ga K x) "__init__")) = some (.type "function")) && (keepIn K (.ref (He.ga K x)) && (decide (subIn K (.ref (He.ga K x)) (.type "BaseException") = some true) && (decide (typeIn K (.ref (He.ga K x)) = some (.type "type")) &&
  (hasDictIn K (He.ga K x) && decide (exmOne K (.ref (He.ga K x)) (.ref (He.ga K x)) = some true))))))))))))
theorem err2B_ok {K : PySem.W.Frag} {mg : Str → Option Value} {x q : Str} {A : Arguments} {B : List Stmt} {S : Scope} {fd : FuncData} {p1 p2 p3 q1 q2 q3 q4 r1 r2 r3 r4 : Pos} (g : mg x = some (.ref (He.ga K x))) (h : err2B K x = true) (F : FunD K "__init__" q A B S [] [] (He.ma K (He.ga K x) "__init__") fd) (hi : initB K x = true)
    (eA : A = PySem.Val2.iA p1 p2 p3) (eB : B = PySem.Val2.iB q1 q2 q3 q4 r1 r2 r3 r4) (eS : S = PySem.Val2.iS) : PySem.Val2.Txt K mg x (He.ga K x) (He.ma K (He.ga K x) "__init__") := by
  obtain ⟨h1, h⟩ := He.ba h
  obtain ⟨h2, h⟩ := He.ba h
  obtain ⟨h3, h⟩ := He.ba h
  obtain ⟨h4, h⟩ := He.ba h
  obtain ⟨h5, h⟩ := He.ba h
  obtain ⟨h5b, h⟩ := He.ba h
  obtain ⟨h6, h⟩ := He.ba h
  obtain ⟨h7, h⟩ := He.ba h
  obtain ⟨h8, h⟩ := He.ba h
  obtain ⟨h9, h⟩ := He.ba h
  obtain ⟨h10, h⟩ := He.ba h
  obtain ⟨h11, h12⟩ := He.ba h
  have fn : ∃ (q : Str) (oc : Value) (od : Option Addr) (doc pm : Value) (an : Option Addr) (cdv ct : Value) (osl : Array (Option Value)) (p1 p2 p3 q1 q2 q3 q4 r1 r2 r3 r4 : Pos),
      K.lookup (He.ma K (He.ga K x) "__init__") = some ⟨oc, od, .func (fnOf "__init__" q (PySem.Val2.iA p1 p2 p3) (PySem.Val2.iB q1 q2 q3 q4 r1 r2 r3 r4) PySem.Val2.iS .none .none doc pm an cdv ct), osl⟩ ∧ codeIn K cdv q = true := by
    obtain ⟨oc, od, dV, kV, doc, pm, an, cdv, ct, osl, rfl, lk, hcd, hD, hK⟩ := F.ex
    unfold initB at hi
    rw [lk] at hi
    rcases hD with ⟨_, rfl⟩ | ⟨e, _⟩
    · have e : kV = .none := noneB_ok hi
      subst e eA eB eS
      exact ⟨q, oc, od, doc, pm, an, cdv, ct, osl, p1, p2, p3, q1, q2, q3, q4, r1, r2, r3, r4, lk, hcd⟩
    · cases e rfl
  exact { gC := g, cls := clsB_ok h1, sa := He.eqO_ok h2, ga := He.eqO_ok h3, gg := He.eqO_ok h4, noL := He.eqO_ok h5, noH := He.eqO_ok h5b, iC := He.eqO_ok h6, tC := of_decide_eq_true h7, kC := h8, exC := of_decide_eq_true h9, tyC := of_decide_eq_true h10, hdC := h11, te := of_decide_eq_true h12, fn := fn }
end Vk

namespace Vk
section
open PySem PySem.W PySem.Calls PySem.HandSPX PyProof.Rows L2
def topH (i : Nat) : Stmt := PySem.Challenge.pw_clockverdict_k10_worst_error.main.body.getD i (.Pass ⟨0, 0, 0, 0⟩)
abbrev sH_rational : Stmt := topH 35
abbrev sH_add : Stmt := topH 36
abbrev sH_subtract : Stmt := topH 37
abbrev sH_multiply : Stmt := topH 38
abbrev sH_negate : Stmt := topH 39
abbrev sH_distance : Stmt := topH 40
abbrev sH_compare : Stmt := topH 41
abbrev sH_smaller : Stmt := topH 42
abbrev sH_larger : Stmt := topH 43
abbrev sH__shown_by : Stmt := topH 45
abbrev sH__end_of : Stmt := topH 46
abbrev sH_worst_error : Stmt := topH 47
abbrev sH__law_store : Stmt := topH 49
abbrev sH__law_feed : Stmt := topH 50
abbrev sH__law_mixed : Stmt := topH 51
abbrev sH__law_take : Stmt := topH 52
abbrev sH__law_pick : Stmt := topH 53
abbrev sH__law_size : Stmt := topH 54
abbrev sH__law_is_int : Stmt := topH 55
abbrev sH__law_same : Stmt := topH 56
abbrev sH__law_frac : Stmt := topH 57
abbrev sH__law_plus : Stmt := topH 58
abbrev sH__law_minus : Stmt := topH 59
abbrev sH__law_times : Stmt := topH 60
abbrev sH__law_below : Stmt := topH 61
abbrev sH__law_is_frac : Stmt := topH 62
abbrev sH__law_ratio : Stmt := topH 63
abbrev sH__law_part : Stmt := topH 64
abbrev sH__law_above : Stmt := topH 65
abbrev sH__law_ordered : Stmt := topH 66
abbrev sH__law_probes : Stmt := topH 67
abbrev sH__law_pace : Stmt := topH 68
abbrev sH__law_course : Stmt := topH 69
abbrev sH__law_alone : Stmt := topH 70
abbrev sH__law_wide_course : Stmt := topH 71
abbrev sH__law_now : Stmt := topH 72
abbrev sH__law_distances : Stmt := topH 73
abbrev sH__law_told : Stmt := topH 74
abbrev sH__law_right : Stmt := topH 75
abbrev sH__law_some_course : Stmt := topH 76
abbrev sH__law_when : Stmt := topH 77
abbrev sH__law_stretch_right : Stmt := topH 78
abbrev sH__law_long_right : Stmt := topH 79
abbrev sH_law : Stmt := topH 80
abbrev sI_BeforeStart : Stmt := method (topH 6) 0
abbrev sI_EmptySpan : Stmt := method (topH 5) 0
def dH_rational : He.DefD := ⟨("rational", none), "rational", "rational", defArgs sH_rational, defBody sH_rational, defScope sH_rational, [.int 1], []⟩
def dH_add : He.DefD := ⟨("add", none), "add", "add", defArgs sH_add, defBody sH_add, defScope sH_add, [], []⟩
def dH_subtract : He.DefD := ⟨("subtract", none), "subtract", "subtract", defArgs sH_subtract, defBody sH_subtract, defScope sH_subtract, [], []⟩
def dH_multiply : He.DefD := ⟨("multiply", none), "multiply", "multiply", defArgs sH_multiply, defBody sH_multiply, defScope sH_multiply, [], []⟩
def dH_negate : He.DefD := ⟨("negate", none), "negate", "negate", defArgs sH_negate, defBody sH_negate, defScope sH_negate, [], []⟩
def dH_distance : He.DefD := ⟨("distance", none), "distance", "distance", defArgs sH_distance, defBody sH_distance, defScope sH_distance, [], []⟩
def dH_compare : He.DefD := ⟨("compare", none), "compare", "compare", defArgs sH_compare, defBody sH_compare, defScope sH_compare, [], []⟩
def dH_smaller : He.DefD := ⟨("smaller", none), "smaller", "smaller", defArgs sH_smaller, defBody sH_smaller, defScope sH_smaller, [], []⟩
def dH_larger : He.DefD := ⟨("larger", none), "larger", "larger", defArgs sH_larger, defBody sH_larger, defScope sH_larger, [], []⟩
def dH__shown_by : He.DefD := ⟨("_shown_by", none), "_shown_by", "_shown_by", defArgs sH__shown_by, defBody sH__shown_by, defScope sH__shown_by, [], []⟩
def dH__end_of : He.DefD := ⟨("_end_of", none), "_end_of", "_end_of", defArgs sH__end_of, defBody sH__end_of, defScope sH__end_of, [], []⟩
def dH_worst_error : He.DefD := ⟨("worst_error", none), "worst_error", "worst_error", defArgs sH_worst_error, defBody sH_worst_error, defScope sH_worst_error, [], []⟩
def dH__law_store : He.DefD := ⟨("_law_store", none), "_law_store", "_law_store", defArgs sH__law_store, defBody sH__law_store, defScope sH__law_store, [], []⟩
def dH__law_feed : He.DefD := ⟨("_law_feed", none), "_law_feed", "_law_feed", defArgs sH__law_feed, defBody sH__law_feed, defScope sH__law_feed, [], []⟩
def dH__law_mixed : He.DefD := ⟨("_law_mixed", none), "_law_mixed", "_law_mixed", defArgs sH__law_mixed, defBody sH__law_mixed, defScope sH__law_mixed, [], []⟩
def dH__law_take : He.DefD := ⟨("_law_take", none), "_law_take", "_law_take", defArgs sH__law_take, defBody sH__law_take, defScope sH__law_take, [], []⟩
def dH__law_pick : He.DefD := ⟨("_law_pick", none), "_law_pick", "_law_pick", defArgs sH__law_pick, defBody sH__law_pick, defScope sH__law_pick, [], []⟩
def dH__law_size : He.DefD := ⟨("_law_size", none), "_law_size", "_law_size", defArgs sH__law_size, defBody sH__law_size, defScope sH__law_size, [], []⟩
def dH__law_is_int : He.DefD := ⟨("_law_is_int", none), "_law_is_int", "_law_is_int", defArgs sH__law_is_int, defBody sH__law_is_int, defScope sH__law_is_int, [], []⟩
def dH__law_same : He.DefD := ⟨("_law_same", none), "_law_same", "_law_same", defArgs sH__law_same, defBody sH__law_same, defScope sH__law_same, [], []⟩
def dH__law_frac : He.DefD := ⟨("_law_frac", none), "_law_frac", "_law_frac", defArgs sH__law_frac, defBody sH__law_frac, defScope sH__law_frac, [], []⟩
def dH__law_plus : He.DefD := ⟨("_law_plus", none), "_law_plus", "_law_plus", defArgs sH__law_plus, defBody sH__law_plus, defScope sH__law_plus, [], []⟩
def dH__law_minus : He.DefD := ⟨("_law_minus", none), "_law_minus", "_law_minus", defArgs sH__law_minus, defBody sH__law_minus, defScope sH__law_minus, [], []⟩
def dH__law_times : He.DefD := ⟨("_law_times", none), "_law_times", "_law_times", defArgs sH__law_times, defBody sH__law_times, defScope sH__law_times, [], []⟩
def dH__law_below : He.DefD := ⟨("_law_below", none), "_law_below", "_law_below", defArgs sH__law_below, defBody sH__law_below, defScope sH__law_below, [], []⟩
def dH__law_is_frac : He.DefD := ⟨("_law_is_frac", none), "_law_is_frac", "_law_is_frac", defArgs sH__law_is_frac, defBody sH__law_is_frac, defScope sH__law_is_frac, [], []⟩
def dH__law_ratio : He.DefD := ⟨("_law_ratio", none), "_law_ratio", "_law_ratio", defArgs sH__law_ratio, defBody sH__law_ratio, defScope sH__law_ratio, [], []⟩
def dH__law_part : He.DefD := ⟨("_law_part", none), "_law_part", "_law_part", defArgs sH__law_part, defBody sH__law_part, defScope sH__law_part, [], []⟩
def dH__law_above : He.DefD := ⟨("_law_above", none), "_law_above", "_law_above", defArgs sH__law_above, defBody sH__law_above, defScope sH__law_above, [], []⟩
def dH__law_ordered : He.DefD := ⟨("_law_ordered", none), "_law_ordered", "_law_ordered", defArgs sH__law_ordered, defBody sH__law_ordered, defScope sH__law_ordered, [], []⟩
def dH__law_probes : He.DefD := ⟨("_law_probes", none), "_law_probes", "_law_probes", defArgs sH__law_probes, defBody sH__law_probes, defScope sH__law_probes, [], []⟩
def dH__law_pace : He.DefD := ⟨("_law_pace", none), "_law_pace", "_law_pace", defArgs sH__law_pace, defBody sH__law_pace, defScope sH__law_pace, [], []⟩
def dH__law_course : He.DefD := ⟨("_law_course", none), "_law_course", "_law_course", defArgs sH__law_course, defBody sH__law_course, defScope sH__law_course, [], []⟩
def dH__law_alone : He.DefD := ⟨("_law_alone", none), "_law_alone", "_law_alone", defArgs sH__law_alone, defBody sH__law_alone, defScope sH__law_alone, [], []⟩
def dH__law_wide_course : He.DefD := ⟨("_law_wide_course", none), "_law_wide_course", "_law_wide_course", defArgs sH__law_wide_course, defBody sH__law_wide_course, defScope sH__law_wide_course, [], []⟩
def dH__law_now : He.DefD := ⟨("_law_now", none), "_law_now", "_law_now", defArgs sH__law_now, defBody sH__law_now, defScope sH__law_now, [], []⟩
def dH__law_distances : He.DefD := ⟨("_law_distances", none), "_law_distances", "_law_distances", defArgs sH__law_distances, defBody sH__law_distances, defScope sH__law_distances, [], []⟩
def dH__law_told : He.DefD := ⟨("_law_told", none), "_law_told", "_law_told", defArgs sH__law_told, defBody sH__law_told, defScope sH__law_told, [], []⟩
def dH__law_right : He.DefD := ⟨("_law_right", none), "_law_right", "_law_right", defArgs sH__law_right, defBody sH__law_right, defScope sH__law_right, [], []⟩
def dH__law_some_course : He.DefD := ⟨("_law_some_course", none), "_law_some_course", "_law_some_course", defArgs sH__law_some_course, defBody sH__law_some_course, defScope sH__law_some_course, [], []⟩
def dH__law_when : He.DefD := ⟨("_law_when", none), "_law_when", "_law_when", defArgs sH__law_when, defBody sH__law_when, defScope sH__law_when, [], []⟩
def dH__law_stretch_right : He.DefD := ⟨("_law_stretch_right", none), "_law_stretch_right", "_law_stretch_right", defArgs sH__law_stretch_right, defBody sH__law_stretch_right, defScope sH__law_stretch_right, [], []⟩
def dH__law_long_right : He.DefD := ⟨("_law_long_right", none), "_law_long_right", "_law_long_right", defArgs sH__law_long_right, defBody sH__law_long_right, defScope sH__law_long_right, [], []⟩
def dH_law : He.DefD := ⟨("law", none), "law", "law", defArgs sH_law, defBody sH_law, defScope sH_law, [], []⟩
def dI_BeforeStart : He.DefD := ⟨("BeforeStart", some "__init__"), "__init__", "BeforeStart.__init__", defArgs sI_BeforeStart, defBody sI_BeforeStart, defScope sI_BeforeStart, [], []⟩
def dI_EmptySpan : He.DefD := ⟨("EmptySpan", some "__init__"), "__init__", "EmptySpan.__init__", defArgs sI_EmptySpan, defBody sI_EmptySpan, defScope sI_EmptySpan, [], []⟩
def asH0 : List Addr := [3, 6, 4, 52, 65, 84, 103, 122, 141, 160, 179, 198, 217, 236, 255, 274, 293, 312, 331, 350, 367, 386, 405, 424, 443, 462, 481, 493, 512, 531, 550, 569, 581, 593, 596, 604, 611, 618, 625, 632, 639, 646, 653, 660, 667, 674, 681, 688, 695, 702, 709, 716, 723, 730, 735, 742, 749, 756, 763, 770]
def asH1 : List Addr := [777, 784, 791, 798, 805, 810, 817, 824, 831, 836, 841, 846, 853, 858, 865, 872, 879, 886, 893, 0, 51, 64, 83, 102, 121, 140, 159, 178, 197, 216, 235, 254, 273, 292, 311, 330, 349, 366, 385, 404, 423, 442, 461, 480, 492, 511, 530, 549, 568, 580, 592, 603, 597, 610, 617, 624, 631, 638, 645, 652]
def asH2 : List Addr := [659, 666, 673, 680, 687, 694, 701, 708, 715, 722, 729, 734, 741, 748, 755, 762, 769, 776, 783, 790, 797, 804, 809, 816, 823, 830, 835, 840, 845, 852, 857, 864, 871, 878, 885, 892, 50, 53, 63, 81, 82, 100, 101, 119, 120, 138, 139, 157, 158, 176, 177, 195, 196, 214, 215, 233, 234, 252, 253, 271]
def asH3 : List Addr := [272, 290, 291, 309, 310, 328, 329, 347, 348, 364, 365, 383, 384, 402, 403, 421, 422, 440, 441, 459, 460, 478, 479, 491, 509, 510, 528, 529, 547, 548, 566, 567, 579, 591, 598, 599, 600, 601, 602, 605, 606, 607, 608, 609, 612, 613, 614, 615, 616, 619, 620, 621, 622, 623, 626, 627, 628, 629, 630, 633]
def asH4 : List Addr := [634, 635, 636, 637, 640, 641, 642, 643, 644, 647, 648, 649, 650, 651, 654, 655, 656, 657, 658, 661, 662, 663, 664, 665, 668, 669, 670, 671, 672, 675, 676, 677, 678, 679, 682, 683, 684, 685, 686, 689, 690, 691, 692, 693, 696, 697, 698, 699, 700, 703, 704, 705, 706, 707, 710, 711, 712, 713, 714, 717]
def asH5 : List Addr := [718, 719, 720, 721, 724, 725, 726, 727, 728, 731, 732, 733, 736, 737, 738, 739, 740, 743, 744, 745, 746, 747, 750, 751, 752, 753, 754, 757, 758, 759, 760, 761, 764, 765, 766, 767, 768, 771, 772, 773, 774, 775, 778, 779, 780, 781, 782, 785, 786, 787, 788, 789, 792, 793, 794, 795, 796, 799, 800, 801]
def asH6 : List Addr := [802, 803, 806, 807, 808, 811, 812, 813, 814, 815, 818, 819, 820, 821, 822, 825, 826, 827, 828, 829, 832, 833, 834, 837, 838, 839, 842, 843, 844, 847, 848, 849, 850, 851, 854, 855, 856, 859, 860, 861, 862, 863, 866, 867, 868, 869, 870, 873, 874, 875, 876, 877, 880, 881, 882, 883, 884, 887, 888, 889]
def asH7 : List Addr := [890, 891, 80, 99, 118, 137, 156, 175, 194, 213, 232, 251, 270, 289, 308, 327, 346, 363, 382, 401, 420, 439, 458, 477, 508, 527, 546, 565]
def asH : List Addr := asH0 ++ asH1 ++ asH2 ++ asH3 ++ asH4 ++ asH5 ++ asH6 ++ asH7
def faH0 : List He.Fa := [.glo "rational", .glo "add", .glo "subtract", .glo "multiply", .glo "negate", .glo "distance", .glo "compare", .glo "smaller", .glo "larger", .glo "_shown_by", .glo "_end_of", .glo "worst_error", .glo "_law_store", .glo "_law_feed", .glo "_law_mixed", .glo "_law_take", .glo "_law_pick", .glo "_law_size", .glo "_law_is_int", .glo "_law_same", .glo "_law_frac", .glo "_law_plus", .glo "_law_minus", .glo "_law_times", .glo "_law_below", .glo "_law_is_frac", .glo "_law_ratio", .glo "_law_part", .glo "_law_above", .glo "_law_ordered"]
def faH1 : List He.Fa := [.glo "_law_probes", .glo "_law_pace", .glo "_law_course", .glo "_law_alone", .glo "_law_wide_course", .glo "_law_now", .glo "_law_distances", .glo "_law_told", .glo "_law_right", .glo "_law_some_course", .glo "_law_when", .glo "_law_stretch_right", .glo "_law_long_right", .glo "law", .glo "BeforeStart", .glo "EmptySpan", .glo "VerdictError", .glo "ZeroDivisor", .glo "BadNumber", .glo "TurnsBack", .glo "BadRate", .glo "BadBound", .glo "BadName", .glo "DuplicateName", .glo "UnknownName", .glo "BadLink", .glo "UnknownLink", .glo "BadNote", .glo "UnknownMoment", .glo "NoWorld"]
def faH2 : List He.Fa := [.glo "OutsideSpan", .glo "TooManyLiars", .glo "RootFollows", .glo "Condemned", .glo "BadDate", .glo "BadLeap", .glo "BadLabel", .glo "NoSuchSecond", .glo "BadCells", .glo "RefusedEntry", .glo "DuplicateTag", .glo "UnknownTag", .glo "BadLine", .glo "NothingToUndo", .glo "NothingToRedo", .glo "ZERO", .free "len", .free "abs", .free "max", .free "int", .free "isinstance", .free "range", .free "enumerate", .free "list", .free "tuple", .free "str", .free "bool", .free "dict", .free "ValueError"]
def faH : List He.Fa := faH0 ++ faH1 ++ faH2
def fnH0 : List He.DefD := [dH_rational, dH_add, dH_subtract, dH_multiply, dH_negate, dH_distance, dH_compare, dH_smaller, dH_larger, dH__shown_by, dH__end_of, dH_worst_error, dH__law_store, dH__law_feed, dH__law_mixed, dH__law_take, dH__law_pick, dH__law_size, dH__law_is_int, dH__law_same, dH__law_frac, dH__law_plus, dH__law_minus, dH__law_times, dH__law_below, dH__law_is_frac, dH__law_ratio, dH__law_part, dH__law_above, dH__law_ordered]
def fnH1 : List He.DefD := [dH__law_probes, dH__law_pace, dH__law_course, dH__law_alone, dH__law_wide_course, dH__law_now, dH__law_distances, dH__law_told, dH__law_right, dH__law_some_course, dH__law_when, dH__law_stretch_right, dH__law_long_right, dH_law, dI_BeforeStart, dI_EmptySpan]
def fnH : List He.DefD := fnH0 ++ fnH1
def exH0 : List (PySem.W.Frag → Bool) := [fun K => He.eqO (nsIn K mainGlobals "gcd") (some (some (.builtin "math.gcd"))), fun K => He.tupB K "ZERO" [.int 0, .int 1], fun K => errB K "BeforeStart", fun K => initB K "BeforeStart", fun K => err2B K "EmptySpan", fun K => initB K "EmptySpan", fun K => excB K "BeforeStart", fun K => excB K "EmptySpan", fun K => decide (exmOne K (.ref (He.ga K "BeforeStart")) (.ref (He.ga K "VerdictError")) = some true), fun K => decide (exmOne K (.ref (He.ga K "EmptySpan")) (.ref (He.ga K "VerdictError")) = some true), fun K => decide (kitOne K (.ref (He.ga K "BeforeStart")) (.ref (He.ga K "ZeroDivisor")) = some false), fun K => decide (kitOne K (.ref (He.ga K "BeforeStart")) (.ref (He.ga K "BadNumber")) = some false), fun K => decide (kitOne K (.ref (He.ga K "BeforeStart")) (.ref (He.ga K "EmptySpan")) = some false), fun K => decide (kitOne K (.ref (He.ga K "BeforeStart")) (.ref (He.ga K "BeforeStart")) = some true), fun K => decide (kitOne K (.ref (He.ga K "BeforeStart")) (.ref (He.ga K "TurnsBack")) = some false), fun K => decide (kitOne K (.ref (He.ga K "BeforeStart")) (.ref (He.ga K "BadRate")) = some false), fun K => decide (kitOne K (.ref (He.ga K "BeforeStart")) (.ref (He.ga K "BadBound")) = some false), fun K => decide (kitOne K (.ref (He.ga K "BeforeStart")) (.ref (He.ga K "BadName")) = some false), fun K => decide (kitOne K (.ref (He.ga K "BeforeStart")) (.ref (He.ga K "DuplicateName")) = some false), fun K => decide (kitOne K (.ref (He.ga K "BeforeStart")) (.ref (He.ga K "UnknownName")) = some false)]
def exH1 : List (PySem.W.Frag → Bool) := [fun K => decide (kitOne K (.ref (He.ga K "BeforeStart")) (.ref (He.ga K "BadLink")) = some false), fun K => decide (kitOne K (.ref (He.ga K "BeforeStart")) (.ref (He.ga K "UnknownLink")) = some false), fun K => decide (kitOne K (.ref (He.ga K "BeforeStart")) (.ref (He.ga K "BadNote")) = some false), fun K => decide (kitOne K (.ref (He.ga K "BeforeStart")) (.ref (He.ga K "UnknownMoment")) = some false), fun K => decide (kitOne K (.ref (He.ga K "BeforeStart")) (.ref (He.ga K "NoWorld")) = some false), fun K => decide (kitOne K (.ref (He.ga K "BeforeStart")) (.ref (He.ga K "OutsideSpan")) = some false), fun K => decide (kitOne K (.ref (He.ga K "BeforeStart")) (.ref (He.ga K "TooManyLiars")) = some false), fun K => decide (kitOne K (.ref (He.ga K "BeforeStart")) (.ref (He.ga K "RootFollows")) = some false), fun K => decide (kitOne K (.ref (He.ga K "BeforeStart")) (.ref (He.ga K "Condemned")) = some false), fun K => decide (kitOne K (.ref (He.ga K "BeforeStart")) (.ref (He.ga K "BadDate")) = some false), fun K => decide (kitOne K (.ref (He.ga K "BeforeStart")) (.ref (He.ga K "BadLeap")) = some false), fun K => decide (kitOne K (.ref (He.ga K "BeforeStart")) (.ref (He.ga K "BadLabel")) = some false), fun K => decide (kitOne K (.ref (He.ga K "BeforeStart")) (.ref (He.ga K "NoSuchSecond")) = some false), fun K => decide (kitOne K (.ref (He.ga K "BeforeStart")) (.ref (He.ga K "BadCells")) = some false), fun K => decide (kitOne K (.ref (He.ga K "BeforeStart")) (.ref (He.ga K "RefusedEntry")) = some false), fun K => decide (kitOne K (.ref (He.ga K "BeforeStart")) (.ref (He.ga K "DuplicateTag")) = some false), fun K => decide (kitOne K (.ref (He.ga K "BeforeStart")) (.ref (He.ga K "UnknownTag")) = some false), fun K => decide (kitOne K (.ref (He.ga K "BeforeStart")) (.ref (He.ga K "BadLine")) = some false), fun K => decide (kitOne K (.ref (He.ga K "BeforeStart")) (.ref (He.ga K "NothingToUndo")) = some false), fun K => decide (kitOne K (.ref (He.ga K "BeforeStart")) (.ref (He.ga K "NothingToRedo")) = some false)]
def exH2 : List (PySem.W.Frag → Bool) := [fun K => decide (kitOne K (.ref (He.ga K "EmptySpan")) (.ref (He.ga K "ZeroDivisor")) = some false), fun K => decide (kitOne K (.ref (He.ga K "EmptySpan")) (.ref (He.ga K "BadNumber")) = some false), fun K => decide (kitOne K (.ref (He.ga K "EmptySpan")) (.ref (He.ga K "EmptySpan")) = some true), fun K => decide (kitOne K (.ref (He.ga K "EmptySpan")) (.ref (He.ga K "BeforeStart")) = some false), fun K => decide (kitOne K (.ref (He.ga K "EmptySpan")) (.ref (He.ga K "TurnsBack")) = some false), fun K => decide (kitOne K (.ref (He.ga K "EmptySpan")) (.ref (He.ga K "BadRate")) = some false), fun K => decide (kitOne K (.ref (He.ga K "EmptySpan")) (.ref (He.ga K "BadBound")) = some false), fun K => decide (kitOne K (.ref (He.ga K "EmptySpan")) (.ref (He.ga K "BadName")) = some false), fun K => decide (kitOne K (.ref (He.ga K "EmptySpan")) (.ref (He.ga K "DuplicateName")) = some false), fun K => decide (kitOne K (.ref (He.ga K "EmptySpan")) (.ref (He.ga K "UnknownName")) = some false), fun K => decide (kitOne K (.ref (He.ga K "EmptySpan")) (.ref (He.ga K "BadLink")) = some false), fun K => decide (kitOne K (.ref (He.ga K "EmptySpan")) (.ref (He.ga K "UnknownLink")) = some false), fun K => decide (kitOne K (.ref (He.ga K "EmptySpan")) (.ref (He.ga K "BadNote")) = some false), fun K => decide (kitOne K (.ref (He.ga K "EmptySpan")) (.ref (He.ga K "UnknownMoment")) = some false), fun K => decide (kitOne K (.ref (He.ga K "EmptySpan")) (.ref (He.ga K "NoWorld")) = some false), fun K => decide (kitOne K (.ref (He.ga K "EmptySpan")) (.ref (He.ga K "OutsideSpan")) = some false), fun K => decide (kitOne K (.ref (He.ga K "EmptySpan")) (.ref (He.ga K "TooManyLiars")) = some false), fun K => decide (kitOne K (.ref (He.ga K "EmptySpan")) (.ref (He.ga K "RootFollows")) = some false), fun K => decide (kitOne K (.ref (He.ga K "EmptySpan")) (.ref (He.ga K "Condemned")) = some false), fun K => decide (kitOne K (.ref (He.ga K "EmptySpan")) (.ref (He.ga K "BadDate")) = some false)]
def exH3 : List (PySem.W.Frag → Bool) := [fun K => decide (kitOne K (.ref (He.ga K "EmptySpan")) (.ref (He.ga K "BadLeap")) = some false), fun K => decide (kitOne K (.ref (He.ga K "EmptySpan")) (.ref (He.ga K "BadLabel")) = some false), fun K => decide (kitOne K (.ref (He.ga K "EmptySpan")) (.ref (He.ga K "NoSuchSecond")) = some false), fun K => decide (kitOne K (.ref (He.ga K "EmptySpan")) (.ref (He.ga K "BadCells")) = some false), fun K => decide (kitOne K (.ref (He.ga K "EmptySpan")) (.ref (He.ga K "RefusedEntry")) = some false), fun K => decide (kitOne K (.ref (He.ga K "EmptySpan")) (.ref (He.ga K "DuplicateTag")) = some false), fun K => decide (kitOne K (.ref (He.ga K "EmptySpan")) (.ref (He.ga K "UnknownTag")) = some false), fun K => decide (kitOne K (.ref (He.ga K "EmptySpan")) (.ref (He.ga K "BadLine")) = some false), fun K => decide (kitOne K (.ref (He.ga K "EmptySpan")) (.ref (He.ga K "NothingToUndo")) = some false), fun K => decide (kitOne K (.ref (He.ga K "EmptySpan")) (.ref (He.ga K "NothingToRedo")) = some false), fun K => decide (kitOne K (.ref (He.ga K "BeforeStart")) (.type "ValueError") = some true), fun K => decide (kitOne K (.ref (He.ga K "EmptySpan")) (.type "ValueError") = some true)]
def exH : List (PySem.W.Frag → Bool) := exH0 ++ exH1 ++ exH2 ++ exH3
def exK (K : PySem.W.Frag) : Bool := exH.all fun f => f K
theorem exK_at {K : PySem.W.Frag} (h : exK K = true) (i : Nat) {f : PySem.W.Frag → Bool} (e : exH[i]? = some f) : f K = true := List.all_eq_true.mp h f (List.mem_of_getElem? e)
def looseH0 : List PySem.Str := ["VerdictError", "ZeroDivisor", "BadNumber", "EmptySpan", "BeforeStart", "TurnsBack", "BadRate", "BadBound", "BadName", "DuplicateName", "UnknownName", "BadLink", "UnknownLink", "BadNote", "UnknownMoment", "NoWorld", "OutsideSpan", "TooManyLiars", "RootFollows", "Condemned", "BadDate", "BadLeap", "BadLabel", "NoSuchSecond", "BadCells", "RefusedEntry", "DuplicateTag", "UnknownTag", "BadLine", "NothingToUndo"]
def looseH1 : List PySem.Str := ["NothingToRedo", "ZERO", "rational", "add", "subtract", "multiply", "negate", "distance", "compare", "smaller", "larger", "_shown_by", "_end_of", "worst_error", "_law_store", "_law_feed", "_law_mixed", "_law_take", "_law_pick", "_law_size", "_law_is_int", "_law_same", "_law_frac", "_law_plus", "_law_minus", "_law_times", "_law_below", "_law_is_frac", "_law_ratio", "_law_part"]
def looseH2 : List PySem.Str := ["_law_above", "_law_ordered", "_law_probes", "_law_pace", "_law_course", "_law_alone", "_law_wide_course", "_law_now", "_law_distances", "_law_told", "_law_right", "_law_some_course", "_law_when", "_law_stretch_right", "_law_long_right"]
def looseH : List PySem.Str := looseH0 ++ looseH1 ++ looseH2
abbrev RH : PySem.W.OpenRow := PySem.W.OpenLaw.row PySem.Challenge.rw_clockverdict_k10_worst_error
abbrev qH : Program := PySem.W.view RH.prog [0, 80]
abbrev hkH : PySem.W.Hook := hookV asH faH fnH exK
def obH (s : PySem.W.SharedT) : He.AlD := obsV faH fnH exK (He.frG (HandSHeadRun.getT s) asH)
set_option maxHeartbeats 0 in
theorem runL (w : World) : (HandSHeadRun.wholeF (fun p => HandSHeadRun.stepQ (HandSHeadRun.denQ HandSHeadRun.tabQ) p w) HandSHeadRun.fenceQ 20000 RH.prog).map (fun x => HandSHeadRun.looksF RH.prog x.1.heap x.2.abs) = some true := by kernel_rfl
set_option maxHeartbeats 0 in
theorem runS (w : World) : (HandSHeadRun.wholeF (fun p => HandSHeadRun.stepQ (HandSHeadRun.denQ HandSHeadRun.tabQ) p w) HandSHeadRun.fenceQ 20000 RH.prog).map (fun x => HandSHeadRun.seenQ qH looseH (PySem.importedModules RH.prog.main.body) (fun s => PySem.W.xlAt qH [] s && PySem.W.recOk RH.toRowW.records s) x.2.abs) = some (PySem.W.openGood qH looseH) := by kernel_rfl
set_option maxHeartbeats 0 in
theorem runA (w : World) : (HandSHeadRun.wholeF (fun p => HandSHeadRun.stepQ (HandSHeadRun.denQ HandSHeadRun.tabQ) p w) HandSHeadRun.fenceQ 20000 RH.prog).map (fun x => exK (He.frG (HandSHeadRun.getT x.2) asH) && faH.all fun f => f.ok (He.frG (HandSHeadRun.getT x.2) asH)) = some true := by kernel_rfl
set_option maxHeartbeats 0 in
theorem runB (w : World) : (HandSHeadRun.wholeF (fun p => HandSHeadRun.stepQ (HandSHeadRun.denQ HandSHeadRun.tabQ) p w) HandSHeadRun.fenceQ 20000 RH.prog).map (fun x => (fnH.all fun d => d.ok (He.frG (HandSHeadRun.getT x.2) asH), fnH.map fun d => He.fnW (He.frG (HandSHeadRun.getT x.2) asH) d.at_)) = some (true, fnH.map He.DefD.val) := by kernel_rfl
theorem runF (w : World) : (HandSHeadRun.wholeF (fun p => HandSHeadRun.stepQ (HandSHeadRun.denQ HandSHeadRun.tabQ) p w) HandSHeadRun.fenceQ 20000 RH.prog).map (fun x => obH x.2) = some (valV fnH) := run2 (runA w) (runB w)
theorem runH (w : World) : HandSHeadRun.RunEqI RH qH hkH obH 20000 looseH w := run3 (runL w) (runS w) (runF w)
end
end Vk

namespace Vs
/-! ### spans of offsets -/
abbrev Spn := Option Rat × Option Rat
def maxO : Option Rat → Option Rat → Option Rat
  | none, b => b
  | some p, none => some p
  | some p, some q => some (if q ≤ p then p else q)
def minO : Option Rat → Option Rat → Option Rat
  | none, b => b
  | some p, none => some p
  | some p, some q => some (if p ≤ q then p else q)
def crossed : Option Rat → Option Rat → Bool
  | some l, some h => decide (h < l)
  | _, _ => false
def meetO (a b : Spn) : Option Spn := if crossed (maxO a.1 b.1) (minO a.2 b.2) = true then none else some (maxO a.1 b.1, minO a.2 b.2)
def aboveO (o : Option Rat) (t : Rat) : Bool := match o with | none => true | some l => !decide (t < l)
def belowO (o : Option Rat) (t : Rat) : Bool := match o with | none => true | some h => !decide (h < t)
def inS (s : Spn) (t : Rat) : Bool := aboveO s.1 t && belowO s.2 t
def movO (o : Option Rat) (d : Rat) : Option Rat := match o with | none => none | some q => some (q + d)
def negO (o : Option Rat) : Option Rat := match o with | none => none | some q => some (-q)
def shO (s : Spn) (d : Rat) : Spn := (movO s.1 d, movO s.2 d)
def offO (x y : Rat) (fo ba : Spn) : Option Spn := meetO (shO (negO fo.2, negO fo.1) x) (shO ba y)
theorem above_max (a b : Option Rat) (t : Rat) : aboveO (maxO a b) t = (aboveO a t && aboveO b t) := by
  cases a with
  | none => simp [maxO, aboveO]
  | some p => cases b with
    | none => simp [maxO, aboveO]
    | some q =>
      simp only [maxO, aboveO]
      split <;> by_cases h1 : t < p <;> by_cases h2 : t < q <;> simp [h1, h2] <;> grind
theorem below_min (a b : Option Rat) (t : Rat) : belowO (minO a b) t = (belowO a t && belowO b t) := by
  cases a with
  | none => simp [minO, belowO]
  | some p => cases b with
    | none => simp [minO, belowO]
    | some q =>
      simp only [minO, belowO]
      split <;> by_cases h1 : p < t <;> by_cases h2 : q < t <;> simp [h1, h2] <;> grind
theorem crossed_in {l h : Option Rat} (c : crossed l h = true) (t : Rat) : (aboveO l t && belowO h t) = false := by
  cases l with
  | none => simp [crossed] at c
  | some p => cases h with
    | none => simp [crossed] at c
    | some q =>
      simp only [crossed, decide_eq_true_eq] at c
      simp only [aboveO, belowO]
      by_cases h1 : t < p <;> by_cases h2 : q < t <;> simp [h1, h2] <;> grind
theorem meet_in (a b : Spn) (t : Rat) : (inS a t && inS b t) = (match meetO a b with | none => false | some s => inS s t) := by
  have e : (inS a t && inS b t) = (aboveO (maxO a.1 b.1) t && belowO (minO a.2 b.2) t) := by
    rw [above_max, below_min]
    unfold inS
    cases aboveO a.1 t <;> cases aboveO b.1 t <;> cases belowO a.2 t <;> cases belowO b.2 t <;> rfl
  rw [e]
  unfold meetO
  by_cases c : crossed (maxO a.1 b.1) (minO a.2 b.2) = true
  · rw [if_pos c]
    exact crossed_in c t
  · rw [if_neg c]
    rfl
theorem above_mov (o : Option Rat) (x f : Rat) : aboveO (movO (negO o) x) f = belowO o (x - f) := by
  cases o with
  | none => rfl
  | some q =>
    simp only [negO, movO, aboveO, belowO]
    congr 1
    exact decide_eq_decide.mpr (by grind)
theorem below_mov (o : Option Rat) (x f : Rat) : belowO (movO (negO o) x) f = aboveO o (x - f) := by
  cases o with
  | none => rfl
  | some q =>
    simp only [negO, movO, aboveO, belowO]
    congr 1
    exact decide_eq_decide.mpr (by grind)
theorem above_mov2 (o : Option Rat) {y z : Rat} (f : Rat) (h : y = -z) : aboveO (movO o y) f = aboveO o (z + f) := by
  cases o with
  | none => rfl
  | some q =>
    simp only [movO, aboveO]
    congr 1
    exact decide_eq_decide.mpr (by grind)
theorem below_mov2 (o : Option Rat) {y z : Rat} (f : Rat) (h : y = -z) : belowO (movO o y) f = belowO o (z + f) := by
  cases o with
  | none => rfl
  | some q =>
    simp only [movO, belowO]
    congr 1
    exact decide_eq_decide.mpr (by grind)
theorem off_in (x y z : Rat) (fo ba : Spn) (f : Rat) (h : y = -z) : (inS fo (x - f) && inS ba (z + f)) = (match offO x y fo ba with | none => false | some s => inS s f) := by
  unfold offO
  rw [← meet_in]
  unfold inS shO
  simp only [above_mov, below_mov, above_mov2 _ f h, below_mov2 _ f h]
  cases aboveO fo.1 (x - f) <;> cases belowO fo.2 (x - f) <;> cases aboveO ba.1 (z + f) <;> cases belowO ba.2 (z + f) <;> rfl
theorem off_ok {x y : Rat} {fo ba s : Spn} (h : offO x y fo ba = some s) : crossed s.1 s.2 = false := by
  unfold offO meetO at h
  split at h
  · cases h
  · rename_i c
    cases h
    simpa using c
/-- both ends known: no end is farther from the plain offset than half the width -/
theorem off_half {x y lo hi : Rat} {s : Spn} (h : offO x y (some lo, some hi) (some lo, some hi) = some s) :
    ∃ l u, s = (some l, some u) ∧ ∀ f, f = l ∨ f = u → ¬ (hi - lo < 2 * ((x + y) / 2 - f)) ∧ ¬ (hi - lo < 2 * (f - (x + y) / 2)) := by
  have c := off_ok h
  unfold offO meetO at h
  split at h
  · cases h
  · simp only [shO, negO, movO, maxO, minO] at h
    obtain rfl := (Option.some.inj h).symm
    refine ⟨_, _, rfl, fun f hf => ?_⟩
    simp only [crossed, decide_eq_false_iff_not] at c
    have e2 : (x + y) / 2 + (x + y) / 2 = x + y := by grind
    generalize (x + y) / 2 = p at e2
    have e3 : ∀ q : Rat, 2 * q = q + q := fun q => by grind
    rw [e3, e3]
    split at hf <;> split at hf <;> rename_i h1 h2 <;> simp only [h1, h2, if_true, if_false] at c <;> rcases hf with rfl | rfl <;> constructor <;> grind
/-! ### sizes and items -/
def itemsO : Spn → List Rat := fun s => s.1.toList ++ s.2.toList
end Vs

namespace Vl
/-! ### laps -/
/-- the six numbers: bound, half, lap, slew, drift, goal -/
structure A6 where
  b : Rat
  h : Rat
  l : Rat
  s : Rat
  d : Rat
def ahead (x : A6) : Rat := x.h + x.d * x.l
def gain (x : A6) : Rat := (x.s - x.d) * x.l
structure Good (x : A6) : Prop where
  b0 : 0 ≤ x.b
  h0 : 0 ≤ x.h
  l0 : 0 < x.l
  s0 : 0 < x.s
  s1 : x.s < 1
  d0 : 0 ≤ x.d
  ds : x.d < x.s
theorem mul_pos' {a b : Rat} (ha : 0 < a) (hb : 0 < b) : 0 < a * b := Rat.mul_pos ha hb
theorem mul_nn {a b : Rat} (ha : 0 ≤ a) (hb : 0 ≤ b) : 0 ≤ a * b := Rat.mul_nonneg ha hb
theorem Good.gp {x : A6} (g : Good x) : 0 < gain x := mul_pos' (by have := g.ds; grind) g.l0
theorem Good.an {x : A6} (g : Good x) : 0 ≤ ahead x := by
  have h1 := g.h0
  have h2 : 0 ≤ x.d * x.l := mul_nn g.d0 (by have := g.l0; grind)
  unfold ahead
  grind
def lapsP (x : A6) (g : Rat) : Option Int := if x.b ≤ g then some 0 else if g < ahead x then none else some (-((g - x.b) / gain x).floor)
def mx (a b : Rat) : Rat := if a < b then b else a
def after (x : A6) (k : Int) : Rat := if k = 0 then x.b else mx (x.b + (k : Rat) * ((x.d - x.s) * x.l)) (ahead x)
def LapsOk (x : A6) (g : Rat) : Option Int → Prop
  | none => g < x.b ∧ g < ahead x
  | some k => 0 ≤ k ∧ k ≤ 1000 ∧ ¬ g < after x k ∧ (0 < k → g < x.b) ∧ (2 ≤ k → g < after x (k - 1))
theorem neg_gain (x : A6) (k : Rat) : k * ((x.d - x.s) * x.l) = - (k * gain x) := by unfold gain; grind
theorem laps_ok {x : A6} {g : Rat} (G : Good x) (top : x.b - g ≤ 1000 * gain x ∨ x.b = 0) : LapsOk x g (lapsP x g) := by
  have gp := G.gp
  have an := G.an
  unfold lapsP
  split
  · rename_i h
    refine ⟨by decide, by decide, ?_, fun z => absurd z (by decide), fun z => absurd z (by decide)⟩
    unfold after
    rw [if_pos rfl]
    exact Rat.not_lt.mpr h
  · rename_i h1
    split
    · rename_i h2
      exact ⟨Rat.not_le.mp h1, h2⟩
    · rename_i h2
      have h1 : g < x.b := Rat.not_le.mp h1
      have h2 : ahead x ≤ g := Rat.not_lt.mp h2
      have top : x.b - g ≤ 1000 * gain x := by
        rcases top with h | h
        · exact h
        · exfalso; grind
      obtain ⟨t, ht⟩ : ∃ t, t = (g - x.b) / gain x := ⟨_, rfl⟩
      have te : t * gain x = g - x.b := by
        rw [ht]
        exact Rat.div_mul_cancel (by grind)
      rw [← ht]
      have f1 := Rat.floor_le t
      have f2 := Rat.lt_floor_add_one t
      obtain ⟨k, hk⟩ : ∃ k : Int, k = -t.floor := ⟨_, rfl⟩
      have ek : ((t.floor : Int) : Rat) = -(k : Rat) := by rw [hk]; push_cast; grind
      have ek1 : ((t.floor + 1 : Int) : Rat) = -(k : Rat) + 1 := by rw [hk]; push_cast; grind
      rw [ek] at f1
      rw [ek1] at f2
      rw [← hk]
      -- k gain between
      have m1 : -(k : Rat) * gain x ≤ t * gain x := Rat.mul_le_mul_of_nonneg_right f1 (by grind)
      have m2 : t * gain x < (-(k : Rat) + 1) * gain x := Rat.mul_lt_mul_of_pos_right f2 gp
      have tneg : t < 0 := by
        by_cases z : t < 0
        · exact z
        · exfalso
          have := mul_nn (Rat.not_lt.mp z) (show (0 : Rat) ≤ gain x by grind)
          grind
      have t1000 : -1000 ≤ t := by
        by_cases z : -1000 ≤ t
        · exact z
        · exfalso
          have := Rat.mul_lt_mul_of_pos_right (Rat.not_le.mp z) gp
          grind
      have k1 : 0 < k := by
        have : (0 : Rat) < (k : Rat) := by grind
        exact_mod_cast this
      have k2 : k ≤ 1000 := by
        have : (k : Rat) < ((1001 : Int) : Rat) := by
          have e : ((1001 : Int) : Rat) = 1001 := rfl
          rw [e]
          grind
        have := Rat.intCast_lt_intCast.mp this
        omega
      have key : x.b - (k : Rat) * gain x ≤ g := by grind
      refine ⟨by omega, k2, ?_, fun _ => h1, fun k3 => ?_⟩
      · unfold after mx
        rw [if_neg (by omega), neg_gain]
        split <;> grind
      · unfold after mx
        rw [if_neg (by omega), neg_gain]
        have e : ((k - 1 : Int) : Rat) = (k : Rat) - 1 := by push_cast; rfl
        rw [e]
        split <;> grind
/-- one lap -/
def nextB (x : A6) (b : Rat) : Rat := x.d * x.l + (if x.h ≤ b - x.s * x.l then b - x.s * x.l else x.h)
theorem next_eq (x : A6) (b : Rat) : nextB x b = mx (b + (1 : Rat) * ((x.d - x.s) * x.l)) (ahead x) := by
  rw [neg_gain]
  unfold nextB mx ahead gain
  split <;> split <;> grind
theorem after_next {x : A6} (G : Good x) (b : Rat) (i : Int) (hi : 0 ≤ i) : nextB x (after { x with b := b } i) = after { x with b := b } (i + 1) := by
  rw [next_eq, neg_gain]
  have gp := G.gp
  have e1 : ahead { x with b := b } = ahead x := rfl
  have e2 : gain { x with b := b } = gain x := rfl
  unfold after
  rw [if_neg (show ¬ i + 1 = 0 by omega)]
  rw [neg_gain, e2, e1]
  have e3 : ((i + 1 : Int) : Rat) = (i : Rat) + 1 := by push_cast; rfl
  rw [e3]
  split
  · rename_i h
    subst h
    simp only [Rat.intCast_zero]
    congr 1
    have := neg_gain x 1
    grind
  · rw [neg_gain, e2]
    unfold mx
    split <;> split <;> split <;> grind
theorem after_le {x : A6} {g : Rat} (G : Good x) (b : Rat) (hb : b ≤ g) (ha : ahead x ≤ g) (i : Int) (hi : 0 ≤ i) : ¬ g < after { x with b := b } i := by
  have gp := G.gp
  have e1 : ahead { x with b := b } = ahead x := rfl
  have e2 : gain { x with b := b } = gain x := rfl
  unfold after mx
  split
  · exact Rat.not_lt.mpr hb
  · rw [neg_gain, e2, e1]
    have : (0 : Rat) ≤ (i : Rat) * gain x := mul_nn (by exact_mod_cast hi) (by grind)
    split <;> grind
theorem after_nn {x : A6} (G : Good x) (k : Int) : 0 ≤ after x k := by
  have := G.an
  have := G.b0
  unfold after mx
  split
  · exact G.b0
  · split <;> grind
end Vl

namespace Vk
open PySem L2 Vm
def top (i : Nat) : Stmt := PySem.Challenge.pw_clockverdict_k10_worst_error.main.body.getD i (.Pass ⟨0, 0, 0, 0⟩)
variable {P : Program} {w : World} {K : PySem.W.Frag} {mg : Str → Option Value} {base : Heap} {k : Nat} {f f1 f2 f3 f4 f5 f6 f7 f8 f9 : Addr} {fd fd1 fd2 fd3 fd4 fd5 fd6 fd7 fd8 fd9 : FuncData}
/-! ### the law's own rationals -/
def spFrac (K : PySem.W.Frag) : Sp := fun vs H Q _ => ∃ (n d : Int) (b : Nat), vs = [.int n, .int d] ∧ 0 < d ∧ n.natAbs < 2 ^ b ∧ d.natAbs < 2 ^ b ∧ b ≤ 9000 ∧
  ∀ r H', Same H H' → Rq K H' r (mkRat n d.toNat) → Q r H'
abbrev s__law_frac : Stmt := top 57
abbrev N__law_frac : List Str := ["_law_n", "_law_d", "_law_a", "_law_b"]
theorem sc__law_frac : FnScope N__law_frac ["_law_n", "_law_d"] (defScope s__law_frac) := ⟨rfl, rfl, rfl, by decide +kernel, rfl, by decide +kernel, by decide +kernel⟩
abbrev ps__law_frac : List Str := ["_law_n", "_law_d"]
theorem ok_frac (T : Bn mg) (F : Fn K mg "_law_frac" s__law_frac ps__law_frac f fd) : Def P w K mg base (k + 1) "_law_frac" ps__law_frac (spFrac K) f fd := by
  refine ⟨F.F.ok sc__law_frac (fun vs H Q E h => ?_) (fun cdv A outer s H vs Q E hr h => ?_), F.m, F.F.kp, F.b⟩
  · obtain ⟨n, d, b, rfl, _⟩ := h
    rfl
  obtain ⟨n, d, b, rfl, hd, hn, hdb, hb, q⟩ := h
  refine ⟨_, (pss_cons (ps_if (pt_cmpR op_eq (pv 1) pe_int (nomark _))
        (pss_one (ps_ret (pe_tup (pa_cons pe_int (pa_cons pe_int pa_nil)))))
        pss_nil)
      (pss_cons (ps_set (i := 2) sc__law_frac.nd rfl (Or.inl rfl) (pe_callB call_abs (by rfl) T.abs_ (by decide +kernel) (pa_cons (pv 0) pa_nil)))
      (pss_cons (ps_set (i := 3) sc__law_frac.nd rfl (Or.inl rfl) (pe_callB call_abs (by rfl) T.abs_ (by decide +kernel) (pa_cons (pv 1) pa_nil)))
      (pss_cons (ps_while PassesOwn.never (pt_cmpR op_gt (pv 3) pe_int (nomark _))
        (pss_one (ps_par (i := 2) (j := 3) (by rfl) sc__law_frac.nd rfl rfl (by decide) rfl rfl (pa_cons (pv 3) (pa_cons (pe_op op_modN (pe_callTy call_int1 (by rfl) T.int_ (by decide +kernel) (pa_cons (pv 2) pa_nil)) (pv 3)) pa_nil)) (by rfl))))
      (pss_cons (ps_if (pt_cmpR op_lt (pv 1) pe_int (nomark _))
        (pss_one (ps_set (i := 2) sc__law_frac.nd rfl (Or.inl rfl) (pe_op op_sub pe_int (pv 2))))
        pss_nil)
      (pss_one (ps_ret (pe_tup (pa_cons (pe_op op_fdivW (pv 0) (pv 2)) (pa_cons (pe_op op_fdivW (pv 1) (pv 2)) pa_nil)))))))))), ?_⟩
  have b0 : 0 < b := by
    cases b with
    | zero => simp at hdb; omega
    | succ b => exact Nat.succ_pos _
  -- if _law_d == 0
  refine ⟨_, rfl, rfl, _, rfl, ifF (dF fun c => by cases c; omega) ?_⟩
  have ea : ∀ z : Int, (if z < 0 then -z else z) = (z.natAbs : Int) := fun z => by split <;> omega
  refine ⟨_, rfl, _, rfl, _, rfl, _, rfl, (fun m σ H' => ∃ x y : Nat, m = y ∧ σ = [some (.int n), some (.int d), some (.int x), some (.int y)] ∧ H' = H ∧ Nat.gcd x y = Nat.gcd n.natAbs d.natAbs),
    ⟨_, n.natAbs, d.natAbs, rfl, by rw [ea, ea]; rfl, rfl, rfl⟩, ?_⟩
  rintro m σ H' ⟨x, y, em, rfl, rfl, hg⟩
  subst em
  -- while _law_b > 0
  refine ⟨_, rfl, _, _, rfl, rfl, _, rfl, ifD (fun c => ?_) (fun c => ?_)⟩
  · refine ⟨_, fun _ _ z => z, _, rfl, _, rfl, .inl ⟨_, rfl, _, rfl, _, _, rfl, rfl, by omega, _, _, rfl, ?_⟩⟩
    refine ⟨x % m, Nat.mod_lt _ (by omega), m, x % m, rfl, ?_, rfl, ?_⟩
    · show [some (V.int n), some (V.int d), some (V.int (m : Int)), some (V.int ((x : Int).fmod (m : Int)))] = _
      rw [fmod_nat]
    · rw [← hg, Nat.gcd_comm x m, Nat.gcd_rec m x, Nat.gcd_comm]
  have y0 : m = 0 := by omega
  subst y0
  rw [Nat.gcd_zero_right] at hg
  subst hg
  have dn : d.toNat ≠ 0 := by omega
  have gp : 0 < Nat.gcd n.natAbs d.natAbs := Nat.gcd_pos_of_pos_right _ (by omega)
  have gb : (((Nat.gcd n.natAbs d.natAbs : Nat) : Int)).natAbs < 2 ^ b := by
    rw [Int.natAbs_natCast]
    exact Nat.lt_of_le_of_lt (Nat.gcd_le_right _ (by omega)) hdb
  have w : CDivW n ((Nat.gcd n.natAbs d.natAbs : Nat) : Int) := wide_div (by omega) gb b0 (by omega)
  have w2 : CDivW d ((Nat.gcd n.natAbs d.natAbs : Nat) : Int) := wide_div (by omega) gb b0 (by omega)
  have ed : d.toNat = d.natAbs := by omega
  refine ⟨_, rfl, _, _, rfl, rfl, _, rfl, ifF (dF (by omega)) ?_⟩
  refine ⟨_, rfl, _, rfl, _, _, rfl, rfl, w, _, rfl, _, rfl, _, _, rfl, rfl, w2, sz2, fun p hp => ?_⟩
  refine q _ _ (same_new hp _) ⟨p, rfl, SqT.of ?_⟩
  rw [upd_same, mk_num n dn, mk_den n dn, ed]
  congr 4
  have e : d = (d.natAbs : Int) := by omega
  rw [show (((d.natAbs / Nat.gcd n.natAbs d.natAbs : Nat)) : Int) = (d.natAbs : Int) / ((Nat.gcd n.natAbs d.natAbs : Nat) : Int) from Int.natCast_ediv _ _]
  rw [← e]
/-- two rationals in, their f out -/
def spOp2 (K : PySem.W.Frag) (g : Rat → Rat → Rat) : Sp := fun vs H Q _ => ∃ (x y : V) (p q : Rat) (m l : Nat), vs = [x, y] ∧ Rq K H x p ∧ Rq K H y q ∧ Sz m p ∧ Sz l q ∧ m + l + 1 ≤ 9000 ∧
  ∀ r H', Same H H' → Rq K H' r (g p q) → Q r H'
/-- two rationals in, a test of them out -/
def spTest2 (K : PySem.W.Frag) (g : Rat → Rat → V) : Sp := fun vs H Q _ => ∃ (x y : V) (p q : Rat) (m l : Nat), vs = [x, y] ∧ Rq K H x p ∧ Rq K H y q ∧ Sz m p ∧ Sz l q ∧ m + l + 1 ≤ 900000 ∧ Q (g p q) H
theorem mulW {m l : Nat} {i j : Int} (hi : i.natAbs < 2 ^ m) (hj : j.natAbs < 2 ^ l) (h0 : 0 < m) (h1 : 0 < l) (h : m + l ≤ 900000) : CMulW i j := wide_mul hi hj h0 h1 (by omega)
abbrev s__law_plus : Stmt := top 58
abbrev N__law_plus : List Str := ["_law_a", "_law_b"]
theorem sc__law_plus : FnScope N__law_plus ["_law_a", "_law_b"] (defScope s__law_plus) := ⟨rfl, rfl, rfl, by decide +kernel, rfl, by decide +kernel, by decide +kernel⟩
abbrev ps__law_plus : List Str := ["_law_a", "_law_b"]
theorem ok_plus (F : Fn K mg "_law_plus" s__law_plus ps__law_plus f fd) (d_law_frac : Def P w K mg base k "_law_frac" ["_law_n", "_law_d"] (spFrac K) f1 fd1) : Def P w K mg base (k + 1) "_law_plus" ps__law_plus (spOp2 K (· + ·)) f fd := by
  refine ⟨F.F.ok sc__law_plus (fun vs H Q E h => ?_) (fun cdv A outer s H vs Q E hr h => ?_), F.m, F.F.kp, F.b⟩
  · obtain ⟨x, y, p, q, m, l, rfl, _⟩ := h
    rfl
  obtain ⟨x, y, p, q, m, l, rfl, ⟨a, rfl, ha⟩, ⟨b, rfl, hb⟩, zp, zq, hm, z⟩ := h
  have m0 := nn zp
  have l0 := nn zq
  refine ⟨_, (pss_one (ps_ret (pcall d_law_frac hr (pa_cons (pe_op op_add (pe_op op_mulW (pe_ix ix_tup (pv 0) pe_int (fun _ _ => rfl)) (pe_ix ix_tup (pv 1) pe_int (fun _ _ => rfl))) (pe_op op_mulW (pe_ix ix_tup (pv 1) pe_int (fun _ _ => rfl)) (pe_ix ix_tup (pv 0) pe_int (fun _ _ => rfl)))) (pa_cons (pe_op op_mulW (pe_ix ix_tup (pv 0) pe_int (fun _ _ => rfl)) (pe_ix ix_tup (pv 1) pe_int (fun _ _ => rfl))) pa_nil))))), ?_⟩
  refine ⟨_, rfl, a, _, _, _, rfl, rfl, ha, at0 rfl, _, rfl, b, _, _, _, rfl, rfl, hb, at1 rfl, _, _, rfl, rfl, mulW zp.1 (dA zq) m0 l0 (by omega), ?_⟩
  refine ⟨_, rfl, b, _, _, _, rfl, rfl, hb, at0 rfl, _, rfl, a, _, _, _, rfl, rfl, ha, at1 rfl, _, _, rfl, rfl, mulW zq.1 (dA zp) l0 m0 (by omega), _, _, rfl, rfl, ?_⟩
  refine ⟨_, rfl, a, _, _, _, rfl, rfl, ha, at1 rfl, _, rfl, b, _, _, _, rfl, rfl, hb, at1 rfl, _, _, rfl, rfl, mulW (dA zp) (dA zq) m0 l0 (by omega), ?_⟩
  refine ⟨_, _, m + l + 1, rfl, dd_pos p q, ab_add (ab_mul zp.1 (dA zq)) (ab_up (ab_mul zq.1 (dA zp)) (by omega)), ab_up (ab_mul (dA zp) (dA zq)) (by omega), by omega, fun r H' e hr => z r H' e ?_⟩
  rw [mk_add] at hr
  exact hr
abbrev s__law_minus : Stmt := top 59
abbrev N__law_minus : List Str := ["_law_a", "_law_b"]
theorem sc__law_minus : FnScope N__law_minus ["_law_a", "_law_b"] (defScope s__law_minus) := ⟨rfl, rfl, rfl, by decide +kernel, rfl, by decide +kernel, by decide +kernel⟩
abbrev ps__law_minus : List Str := ["_law_a", "_law_b"]
theorem ok_minus (F : Fn K mg "_law_minus" s__law_minus ps__law_minus f fd) (d_law_frac : Def P w K mg base k "_law_frac" ["_law_n", "_law_d"] (spFrac K) f1 fd1) : Def P w K mg base (k + 1) "_law_minus" ps__law_minus (spOp2 K (· - ·)) f fd := by
  refine ⟨F.F.ok sc__law_minus (fun vs H Q E h => ?_) (fun cdv A outer s H vs Q E hr h => ?_), F.m, F.F.kp, F.b⟩
  · obtain ⟨x, y, p, q, m, l, rfl, _⟩ := h
    rfl
  obtain ⟨x, y, p, q, m, l, rfl, ⟨a, rfl, ha⟩, ⟨b, rfl, hb⟩, zp, zq, hm, z⟩ := h
  have m0 := nn zp
  have l0 := nn zq
  refine ⟨_, (pss_one (ps_ret (pcall d_law_frac hr (pa_cons (pe_op op_sub (pe_op op_mulW (pe_ix ix_tup (pv 0) pe_int (fun _ _ => rfl)) (pe_ix ix_tup (pv 1) pe_int (fun _ _ => rfl))) (pe_op op_mulW (pe_ix ix_tup (pv 1) pe_int (fun _ _ => rfl)) (pe_ix ix_tup (pv 0) pe_int (fun _ _ => rfl)))) (pa_cons (pe_op op_mulW (pe_ix ix_tup (pv 0) pe_int (fun _ _ => rfl)) (pe_ix ix_tup (pv 1) pe_int (fun _ _ => rfl))) pa_nil))))), ?_⟩
  refine ⟨_, rfl, a, _, _, _, rfl, rfl, ha, at0 rfl, _, rfl, b, _, _, _, rfl, rfl, hb, at1 rfl, _, _, rfl, rfl, mulW zp.1 (dA zq) m0 l0 (by omega), ?_⟩
  refine ⟨_, rfl, b, _, _, _, rfl, rfl, hb, at0 rfl, _, rfl, a, _, _, _, rfl, rfl, ha, at1 rfl, _, _, rfl, rfl, mulW zq.1 (dA zp) l0 m0 (by omega), _, _, rfl, rfl, ?_⟩
  refine ⟨_, rfl, a, _, _, _, rfl, rfl, ha, at1 rfl, _, rfl, b, _, _, _, rfl, rfl, hb, at1 rfl, _, _, rfl, rfl, mulW (dA zp) (dA zq) m0 l0 (by omega), ?_⟩
  refine ⟨_, _, m + l + 1, rfl, dd_pos p q, ab_sub (ab_mul zp.1 (dA zq)) (ab_up (ab_mul zq.1 (dA zp)) (by omega)), ab_up (ab_mul (dA zp) (dA zq)) (by omega), by omega, fun r H' e hr => z r H' e ?_⟩
  rw [mk_sub] at hr
  exact hr
abbrev s__law_times : Stmt := top 60
abbrev N__law_times : List Str := ["_law_a", "_law_b"]
theorem sc__law_times : FnScope N__law_times ["_law_a", "_law_b"] (defScope s__law_times) := ⟨rfl, rfl, rfl, by decide +kernel, rfl, by decide +kernel, by decide +kernel⟩
abbrev ps__law_times : List Str := ["_law_a", "_law_b"]
theorem ok_times (F : Fn K mg "_law_times" s__law_times ps__law_times f fd) (d_law_frac : Def P w K mg base k "_law_frac" ["_law_n", "_law_d"] (spFrac K) f1 fd1) : Def P w K mg base (k + 1) "_law_times" ps__law_times (spOp2 K (· * ·)) f fd := by
  refine ⟨F.F.ok sc__law_times (fun vs H Q E h => ?_) (fun cdv A outer s H vs Q E hr h => ?_), F.m, F.F.kp, F.b⟩
  · obtain ⟨x, y, p, q, m, l, rfl, _⟩ := h
    rfl
  obtain ⟨x, y, p, q, m, l, rfl, ⟨a, rfl, ha⟩, ⟨b, rfl, hb⟩, zp, zq, hm, z⟩ := h
  have m0 := nn zp
  have l0 := nn zq
  refine ⟨_, (pss_one (ps_ret (pcall d_law_frac hr (pa_cons (pe_op op_mulW (pe_ix ix_tup (pv 0) pe_int (fun _ _ => rfl)) (pe_ix ix_tup (pv 1) pe_int (fun _ _ => rfl))) (pa_cons (pe_op op_mulW (pe_ix ix_tup (pv 0) pe_int (fun _ _ => rfl)) (pe_ix ix_tup (pv 1) pe_int (fun _ _ => rfl))) pa_nil))))), ?_⟩
  refine ⟨_, rfl, a, _, _, _, rfl, rfl, ha, at0 rfl, _, rfl, b, _, _, _, rfl, rfl, hb, at0 rfl, _, _, rfl, rfl, mulW zp.1 zq.1 m0 l0 (by omega), ?_⟩
  refine ⟨_, rfl, a, _, _, _, rfl, rfl, ha, at1 rfl, _, rfl, b, _, _, _, rfl, rfl, hb, at1 rfl, _, _, rfl, rfl, mulW (dA zp) (dA zq) m0 l0 (by omega), ?_⟩
  refine ⟨_, _, m + l + 1, rfl, dd_pos p q, ab_up (ab_mul zp.1 zq.1) (by omega), ab_up (ab_mul (dA zp) (dA zq)) (by omega), by omega, fun r H' e hr => z r H' e ?_⟩
  rw [mk_mul] at hr
  exact hr
abbrev s__law_below : Stmt := top 61
abbrev N__law_below : List Str := ["_law_a", "_law_b"]
theorem sc__law_below : FnScope N__law_below ["_law_a", "_law_b"] (defScope s__law_below) := ⟨rfl, rfl, rfl, by decide +kernel, rfl, by decide +kernel, by decide +kernel⟩
abbrev ps__law_below : List Str := ["_law_a", "_law_b"]
theorem ok_below (F : Fn K mg "_law_below" s__law_below ps__law_below f fd) : Def P w K mg base (k + 1) "_law_below" ps__law_below (spTest2 K fun p q => .bl (decide (p < q))) f fd := by
  refine ⟨F.F.ok sc__law_below (fun vs H Q E h => ?_) (fun cdv A outer s H vs Q E hr h => ?_), F.m, F.F.kp, F.b⟩
  · obtain ⟨x, y, p, q, m, l, rfl, _⟩ := h
    rfl
  obtain ⟨x, y, p, q, m, l, rfl, ⟨a, rfl, ha⟩, ⟨b, rfl, hb⟩, zp, zq, hm, z⟩ := h
  have m0 := nn zp
  have l0 := nn zq
  refine ⟨_, (pss_one (ps_ret (pe_cmpR op_lt (pe_op op_mulW (pe_ix ix_tup (pv 0) pe_int (fun _ _ => rfl)) (pe_ix ix_tup (pv 1) pe_int (fun _ _ => rfl))) (pe_op op_mulW (pe_ix ix_tup (pv 1) pe_int (fun _ _ => rfl)) (pe_ix ix_tup (pv 0) pe_int (fun _ _ => rfl))) (nomark _)))), ?_⟩
  refine ⟨_, rfl, a, _, _, _, rfl, rfl, ha, at0 rfl, _, rfl, b, _, _, _, rfl, rfl, hb, at1 rfl, _, _, rfl, rfl, mulW zp.1 (dA zq) m0 l0 (by omega), ?_⟩
  refine ⟨_, rfl, b, _, _, _, rfl, rfl, hb, at0 rfl, _, rfl, a, _, _, _, rfl, rfl, ha, at1 rfl, _, _, rfl, rfl, mulW zq.1 (dA zp) l0 m0 (by omega), _, _, rfl, rfl, ?_⟩
  show Q (.bl (decide (p.num * (q.den : Int) < q.num * (p.den : Int)))) H
  rw [decide_eq_decide.mpr (lt_num (p := p) (q := q)).symm]
  exact z
/-! ### the program's rationals -/
def sg (p q : Rat) : Int := if p = q then 0 else if p < q then -1 else 1
abbrev s_compare : Stmt := top 41
abbrev N_compare : List Str := ["a", "b", "left", "right"]
theorem sc_compare : FnScope N_compare ["a", "b"] (defScope s_compare) := ⟨rfl, rfl, rfl, by decide +kernel, rfl, by decide +kernel, by decide +kernel⟩
abbrev ps_compare : List Str := ["a", "b"]
theorem ok_compare (F : Fn K mg "compare" s_compare ps_compare f fd) : Def P w K mg base (k + 1) "compare" ps_compare (spTest2 K fun p q => .int (sg p q)) f fd := by
  refine ⟨F.F.ok sc_compare (fun vs H Q E h => ?_) (fun cdv A outer s H vs Q E hr h => ?_), F.m, F.F.kp, F.b⟩
  · obtain ⟨x, y, p, q, m, l, rfl, _⟩ := h
    rfl
  obtain ⟨x, y, p, q, m, l, rfl, ⟨a, rfl, ha⟩, ⟨b, rfl, hb⟩, zp, zq, hm, z⟩ := h
  have m0 := nn zp
  have l0 := nn zq
  refine ⟨_, (pss_cons (ps_set (i := 2) sc_compare.nd rfl (Or.inl rfl) (pe_op op_mulW (pe_ix ix_tup (pv 0) pe_int (fun _ _ => rfl)) (pe_ix ix_tup (pv 1) pe_int (fun _ _ => rfl))))
      (pss_cons (ps_set (i := 3) sc_compare.nd rfl (Or.inl rfl) (pe_op op_mulW (pe_ix ix_tup (pv 1) pe_int (fun _ _ => rfl)) (pe_ix ix_tup (pv 0) pe_int (fun _ _ => rfl))))
      (pss_cons (ps_if (pt_cmpR op_eq (pv 2) (pv 3) (nomark _))
        (pss_one (ps_ret pe_int))
        pss_nil)
      (pss_one (ps_ret (pe_ifExp (pt_cmpR op_lt (pv 2) (pv 3) (nomark _)) (pe_un un_neg pe_int) pe_int)))))), ?_⟩
  refine ⟨_, rfl, a, _, _, _, rfl, rfl, ha, at0 rfl, _, rfl, b, _, _, _, rfl, rfl, hb, at1 rfl, _, _, rfl, rfl, mulW zp.1 (dA zq) m0 l0 (by omega), ?_⟩
  refine ⟨_, rfl, b, _, _, _, rfl, rfl, hb, at0 rfl, _, rfl, a, _, _, _, rfl, rfl, ha, at1 rfl, _, _, rfl, rfl, mulW zq.1 (dA zp) l0 m0 (by omega), ?_⟩
  refine ⟨_, rfl, _, rfl, rfl, _, rfl, ifD (fun c => ?_) (fun c => ?_)⟩
  · have e : p = q := eq_num.mpr (V.int.inj c)
    have z' : Q (.int (sg p q)) H := z
    unfold sg at z'
    rw [if_pos e] at z'
    exact z'
  · have e : ¬ p = q := fun e => c (congrArg V.int (eq_num.mp e))
    have z' : Q (.int (sg p q)) H := z
    unfold sg at z'
    rw [if_neg e] at z'
    refine ⟨_, rfl, _, rfl, _, _, rfl, rfl, _, rfl, ifD (fun c => ?_) (fun c => ?_)⟩
    · rw [if_pos (lt_num.mpr c)] at z'
      exact ⟨_, rfl, z'⟩
    · rw [if_neg (fun e => c (lt_num.mp e))] at z'
      exact z'
abbrev s_negate : Stmt := top 39
abbrev N_negate : List Str := ["a"]
theorem sc_negate : FnScope N_negate ["a"] (defScope s_negate) := ⟨rfl, rfl, rfl, by decide +kernel, rfl, by decide +kernel, by decide +kernel⟩
abbrev ps_negate : List Str := ["a"]
def spOp1 (K : PySem.W.Frag) (g : Rat → Rat) : Sp := fun vs H Q _ => ∃ (x : V) (p : Rat), vs = [x] ∧ Rq K H x p ∧ ∀ r H', Same H H' → Rq K H' r (g p) → Q r H'
theorem ok_negate (F : Fn K mg "negate" s_negate ps_negate f fd) : Def P w K mg base (k + 1) "negate" ps_negate (spOp1 K fun p => -p) f fd := by
  refine ⟨F.F.ok sc_negate (fun vs H Q E h => ?_) (fun cdv A outer s H vs Q E hr h => ?_), F.m, F.F.kp, F.b⟩
  · obtain ⟨x, p, rfl, _⟩ := h
    rfl
  obtain ⟨x, p, rfl, ⟨a, rfl, ha⟩, z⟩ := h
  refine ⟨_, (pss_one (ps_ret (pe_tup (pa_cons (pe_un un_neg (pe_ix ix_tup (pv 0) pe_int (fun _ _ => rfl))) (pa_cons (pe_ix ix_tup (pv 0) pe_int (fun _ _ => rfl)) pa_nil))))), ?_⟩
  refine ⟨_, rfl, a, _, _, _, rfl, rfl, ha, at0 rfl, _, rfl, _, rfl, a, _, _, _, rfl, rfl, ha, at1 rfl, sz2, fun r hr' => ?_⟩
  exact z _ _ (same_new hr' _) ⟨r, rfl, SqT.of upd_same⟩
abbrev s_add : Stmt := top 36
abbrev N_add : List Str := ["a", "b", "common", "factor", "n", "rest"]
theorem sc_add : FnScope N_add ["a", "b"] (defScope s_add) := ⟨rfl, rfl, rfl, by decide +kernel, rfl, by decide +kernel, by decide +kernel⟩
abbrev ps_add : List Str := ["a", "b"]
theorem ok_add (T : Bn mg) (F : Fn K mg "add" s_add ps_add f fd) : Def P w K mg base (k + 1) "add" ps_add (spOp2 K (· + ·)) f fd := by
  refine ⟨F.F.ok sc_add (fun vs H Q E h => ?_) (fun cdv A outer s H vs Q E hr h => ?_), F.m, F.F.kp, F.b⟩
  · obtain ⟨x, y, p, q, m, l, rfl, _⟩ := h
    rfl
  obtain ⟨x, y, p, q, m, l, rfl, ⟨a, rfl, ha⟩, ⟨b, rfl, hb⟩, zp, zq, hm, z⟩ := h
  have m0 := nn zp
  have l0 := nn zq
  refine ⟨_, (pss_cons (ps_set (i := 2) sc_add.nd rfl (Or.inl rfl) (pe_callBfun cr_gcd (by rfl) T.gcd_ (pa_cons (pe_ix ix_tup (pv 0) pe_int (fun _ _ => rfl)) (pa_cons (pe_ix ix_tup (pv 1) pe_int (fun _ _ => rfl)) pa_nil))))
      (pss_cons (ps_set (i := 3) sc_add.nd rfl (Or.inl rfl) (pe_op op_fdivW (pe_ix ix_tup (pv 1) pe_int (fun _ _ => rfl)) (pv 2)))
      (pss_cons (ps_set (i := 4) sc_add.nd rfl (Or.inl rfl) (pe_op op_add (pe_op op_mulW (pe_ix ix_tup (pv 0) pe_int (fun _ _ => rfl)) (pv 3)) (pe_op op_mulW (pe_ix ix_tup (pv 1) pe_int (fun _ _ => rfl)) (pe_op op_fdivW (pe_ix ix_tup (pv 0) pe_int (fun _ _ => rfl)) (pv 2)))))
      (pss_cons (ps_set (i := 5) sc_add.nd rfl (Or.inl rfl) (pe_callBfun cr_gcd (by rfl) T.gcd_ (pa_cons (pv 4) (pa_cons (pv 2) pa_nil))))
      (pss_one (ps_ret (pe_tup (pa_cons (pe_op op_fdivW (pv 4) (pv 5)) (pa_cons (pe_op op_mulW (pe_op op_fdivW (pe_ix ix_tup (pv 0) pe_int (fun _ _ => rfl)) (pv 5)) (pv 3)) pa_nil))))))))), ?_⟩
  have gp : 0 < Nat.gcd p.den q.den := Nat.gcd_pos_of_pos_left _ p.den_pos
  have gb : (((Nat.gcd p.den q.den : Nat) : Int)).natAbs < 2 ^ m := Nat.lt_of_le_of_lt (Nat.gcd_le_left _ p.den_pos) zp.2
  have wg : ∀ x : Int, CDivW x ((Nat.gcd p.den q.den : Nat) : Int) := fun x => wide_div (by omega) gb m0 (by omega)
  have fb : (((q.den / Nat.gcd p.den q.den : Nat)) : Int).natAbs < 2 ^ l := Nat.lt_of_le_of_lt (Nat.div_le_self _ _) zq.2
  have hb' : (((p.den / Nat.gcd p.den q.den : Nat)) : Int).natAbs < 2 ^ m := Nat.lt_of_le_of_lt (Nat.div_le_self _ _) zp.2
  refine ⟨_, rfl, a, _, _, _, rfl, rfl, ha, at1 rfl, _, rfl, b, _, _, _, rfl, rfl, hb, at1 rfl, _, _, rfl, ?_⟩
  -- factor; n
  refine ⟨_, rfl, b, _, _, _, rfl, rfl, hb, at1 rfl, _, rfl, _, _, rfl, rfl, wg _, ?_⟩
  refine ⟨_, rfl, a, _, _, _, rfl, rfl, ha, at0 rfl, _, rfl, _, _, rfl, rfl, mulW zp.1 fb m0 l0 (by omega), ?_⟩
  refine ⟨_, rfl, b, _, _, _, rfl, rfl, hb, at0 rfl, _, rfl, a, _, _, _, rfl, rfl, ha, at1 rfl, _, rfl, _, _, rfl, rfl, wg _, _, _, rfl, rfl, mulW zq.1 hb' l0 m0 (by omega), _, _, rfl, rfl, ?_⟩
  -- rest
  refine ⟨_, rfl, _, rfl, _, _, rfl, ?_⟩
  obtain ⟨n, en⟩ : ∃ n : Int, n = p.num * ((q.den / Nat.gcd p.den q.den : Nat) : Int) + q.num * ((p.den / Nat.gcd p.den q.den : Nat) : Int) := ⟨_, rfl⟩
  obtain ⟨r, er⟩ : ∃ r : Nat, r = Nat.gcd n.natAbs (Nat.gcd p.den q.den) := ⟨_, rfl⟩
  have A := add_parts p q _ _ n r rfl rfl en er
  have rp : 0 < r := by rw [er]; exact Nat.gcd_pos_of_pos_right _ gp
  have rb : ((r : Nat) : Int).natAbs < 2 ^ m := by rw [er]; exact Nat.lt_of_le_of_lt (Nat.gcd_le_right _ gp) gb
  have wr : ∀ x : Int, CDivW x (r : Int) := fun x => wide_div (by omega) rb m0 (by omega)
  have db : (((p.den / r : Nat)) : Int).natAbs < 2 ^ m := Nat.lt_of_le_of_lt (Nat.div_le_self _ _) zp.2
  have en' : (fun i j : Int => i + j) ((fun i j : Int => i * j) p.num ((q.den : Int) / ((Nat.gcd p.den q.den : Nat) : Int))) ((fun i j : Int => i * j) q.num ((p.den : Int) / ((Nat.gcd p.den q.den : Nat) : Int))) = n := en.symm
  suffices hz : ∀ n' : Int, n' = n → ∀ r' : Int, r' = (r : Int) → tRet (tTup (tCons (tOp (rI CDivW fun i j => V.int (i / j)) (tVar 4) (tVar 5)) (tCons (tOp (rI CMulW fun i j => V.int (i * j)) (tOp (rI CDivW fun i j => V.int (i / j)) (tOp (rIxT K) (tVar 0) (tC (V.int 1))) (tVar 5)) (tVar 3)) tNil)))
      { nx := fun _ H' => Q V.non H', rt := Q } [some (.ref a), some (.ref b), some (.int ((Nat.gcd p.den q.den : Nat) : Int)), some (.int ((q.den / Nat.gcd p.den q.den : Nat) : Int)), some (.int n'), some (.int r')] H from hz _ en' _ (by rw [er, ← en']; rfl)
  rintro n' e1 r' e2
  subst e1 e2
  refine ⟨_, rfl, _, rfl, _, _, rfl, rfl, wr _, _, rfl, a, _, _, _, rfl, rfl, ha, at1 rfl, _, rfl, _, _, rfl, rfl, wr _, _, rfl, _, _, rfl, rfl, mulW db fb m0 l0 (by omega), sz2, fun t ht => ?_⟩
  refine z _ _ (same_new ht _) ⟨t, rfl, SqT.of ?_⟩
  rw [upd_same]
  show some (HO.tup [V.int (n' / (r : Int)), V.int (((p.den / r : Nat) : Int) * ((q.den / Nat.gcd p.den q.den : Nat) : Int))]) = some (HO.tup [V.int (p + q).num, V.int ((p + q).den : Int)])
  rw [A.1, A.2]
  rfl
abbrev s_subtract : Stmt := top 37
abbrev N_subtract : List Str := ["a", "b"]
theorem sc_subtract : FnScope N_subtract ["a", "b"] (defScope s_subtract) := ⟨rfl, rfl, rfl, by decide +kernel, rfl, by decide +kernel, by decide +kernel⟩
abbrev ps_subtract : List Str := ["a", "b"]
theorem ok_subtract (F : Fn K mg "subtract" s_subtract ps_subtract f fd) (dadd : Def P w K mg base k "add" ["a", "b"] (spOp2 K (· + ·)) f1 fd1) (dnegate : Def P w K mg base k "negate" ["a"] (spOp1 K fun p => -p) f2 fd2) :
    Def P w K mg base (k + 1) "subtract" ps_subtract (spOp2 K (· - ·)) f fd := by
  refine ⟨F.F.ok sc_subtract (fun vs H Q E h => ?_) (fun cdv A outer s H vs Q E hr h => ?_), F.m, F.F.kp, F.b⟩
  · obtain ⟨x, y, p, q, m, l, rfl, _⟩ := h
    rfl
  obtain ⟨x, y, p, q, m, l, rfl, ha, hb, zp, zq, hm, z⟩ := h
  refine ⟨_, (pss_one (ps_ret (pcall dadd hr (pa_cons (pv 0) (pa_cons (pcall dnegate hr (pa_cons (pv 1) pa_nil)) pa_nil))))), ?_⟩
  refine ⟨_, rfl, _, rfl, _, q, rfl, hb, fun r H' e hr' => ?_⟩
  refine ⟨_, _, p, -q, m, l, rfl, ha.same e, hr', zp, zq.neg, hm, fun r2 H2 e2 hr2 => z _ _ (e.trans e2) ?_⟩
  show Rq K H2 r2 (p - q)
  rw [Rat.sub_eq_add_neg]
  exact hr2
/-- rational(n, d) where d is above zero; its second argument is always written -/
abbrev s_rational : Stmt := top 35
abbrev N_rational : List Str := ["n", "d", "common"]
theorem sc_rational : FnScope N_rational ["n", "d"] (defScope s_rational) := ⟨rfl, rfl, rfl, by decide +kernel, rfl, by decide +kernel, by decide +kernel⟩
abbrev ps_rational : List Str := ["n", "d"]
theorem ok_rational (T : Bn mg) (F : FunA K "rational" "rational" s_rational f fd) (hm : mg "rational" = some (.ref f)) (hb : Binds K fd ps_rational []) : Def P w K mg base (k + 1) "rational" ps_rational (spFrac K) f fd := by
  refine ⟨F.ok sc_rational (fun vs H Q E h => ?_) (fun cdv A outer s H vs Q E hr h => ?_), hm, F.kp, hb⟩
  · obtain ⟨n, d, b, rfl, _⟩ := h
    rfl
  obtain ⟨n, d, b, rfl, hd, hn, hdb, hb, q⟩ := h
  refine ⟨_, (pss_cons (ps_if (pt_cmpR op_eq (pv 1) pe_int (nomark _))
        (pss_one ps_never)
        pss_nil)
      (pss_cons (ps_set (i := 2) sc_rational.nd rfl (Or.inl rfl) (pe_callBfun cr_gcd (by rfl) T.gcd_ (pa_cons (pv 0) (pa_cons (pv 1) pa_nil))))
      (pss_cons (ps_if (pt_cmpR op_lt (pv 1) pe_int (nomark _))
        (pss_one (ps_set (i := 2) sc_rational.nd rfl (Or.inl rfl) (pe_un un_neg (pv 2))))
        pss_nil)
      (pss_one (ps_ret (pe_tup (pa_cons (pe_op op_fdivW (pv 0) (pv 2)) (pa_cons (pe_op op_fdivW (pv 1) (pv 2)) pa_nil)))))))), ?_⟩
  have b0 : 0 < b := by
    cases b with
    | zero => simp at hdb; omega
    | succ b => exact Nat.succ_pos _
  have dn : d.toNat ≠ 0 := by omega
  have gp : 0 < Nat.gcd n.natAbs d.natAbs := Nat.gcd_pos_of_pos_right _ (by omega)
  have gb : (((Nat.gcd n.natAbs d.natAbs : Nat) : Int)).natAbs < 2 ^ b := by
    rw [Int.natAbs_natCast]
    exact Nat.lt_of_le_of_lt (Nat.gcd_le_right _ (by omega)) hdb
  have w : ∀ x : Int, CDivW x ((Nat.gcd n.natAbs d.natAbs : Nat) : Int) := fun x => wide_div (by omega) gb b0 (by omega)
  have ed : d.toNat = d.natAbs := by omega
  refine ⟨_, rfl, rfl, _, rfl, ifF (dF fun c => by cases c; omega) ?_⟩
  refine ⟨_, rfl, _, rfl, _, _, rfl, ?_⟩
  refine ⟨_, rfl, _, _, rfl, rfl, _, rfl, ifF (dF (by omega)) ?_⟩
  refine ⟨_, rfl, _, rfl, _, _, rfl, rfl, w _, _, rfl, _, rfl, _, _, rfl, rfl, w _, sz2, fun p hp => ?_⟩
  refine q _ _ (same_new hp _) ⟨p, rfl, SqT.of ?_⟩
  rw [upd_same, mk_num n dn, mk_den n dn, ed]
  congr 4
  have e : d = (d.natAbs : Int) := by omega
  rw [show (((d.natAbs / Nat.gcd n.natAbs d.natAbs : Nat)) : Int) = (d.natAbs : Int) / ((Nat.gcd n.natAbs d.natAbs : Nat) : Int) from Int.natCast_ediv _ _]
  rw [← e]
def spDiv (K : PySem.W.Frag) : Sp := fun vs H Q _ => ∃ (x y : V) (p q : Rat) (m l : Nat), vs = [x, y] ∧ Rq K H x p ∧ Rq K H y q ∧ Sz m p ∧ Sz l q ∧ m + l + 1 ≤ 9000 ∧ 0 < q ∧ ∀ r H', Same H H' → Rq K H' r (p / q) → Q r H'
end Vk
namespace Vk
open PySem L2 Vm
variable {l : Addr} {P : Program} {w : World} {K : PySem.W.Frag} {mg : Str → Option Value} {base : Heap} {k : Nat} {f f1 f2 f3 f4 f5 f6 f7 f8 f9 : Addr} {fd fd1 fd2 fd3 fd4 fd5 fd6 fd7 fd8 fd9 : FuncData}
abbrev s__law_store : Stmt := top 49
abbrev N__law_store : List Str := ["_law_script"]
theorem sc__law_store : FnScope N__law_store ["_law_script"] (defScope s__law_store) := ⟨rfl, rfl, rfl, by decide +kernel, rfl, by decide +kernel, by decide +kernel⟩
abbrev ps__law_store : List Str := ["_law_script"]
def spStore (K : PySem.W.Frag) : Sp := fun vs H Q _ => ∃ (a : Addr) (ns : List Int), vs = [.ref a] ∧ SqL K H a (ns.map V.int) ∧ ns.length ≤ 63 ∧ ∀ (s l : Addr) H', Same H H' → H s = none → Sto l s H' → Q (.ref s) H'
theorem ok_store (T : Bn mg) (F : Fn K mg "_law_store" s__law_store ps__law_store f fd) : Def P w K mg base (k + 1) "_law_store" ps__law_store (spStore K) f fd := by
  refine ⟨F.F.ok sc__law_store (fun vs H Q E h => ?_) (fun cdv A outer s H vs Q E hr h => ?_), F.m, F.F.kp, F.b⟩
  · obtain ⟨a, ns, rfl, _⟩ := h
    rfl
  obtain ⟨a, ns, rfl, ha, hl, z⟩ := h
  refine ⟨_, (pss_one (ps_ret (pe_lst (pa_cons (pe_callTy call_list_of (by rfl) T.list_ (by decide +kernel) (pa_cons (pv 0) pa_nil)) (pa_cons pe_int (pa_cons pe_int (pa_cons pe_int (pa_cons pe_int (pa_cons pe_int pa_nil))))))))), ?_⟩
  refine ⟨_, rfl, a, _, rfl, .inl ha, fun l l0 => ?_⟩
  refine ⟨sm6, fun p p0 => ?_⟩
  have lp : l ≠ p := fun e => by rw [e, upd_same] at p0; cases p0
  have e1 : Same H (upd H l (.lst (ns.map V.int))) := same_new l0 _
  refine z _ l _ (e1.trans (same_new p0 _)) (e1.free p0) ⟨ns, 0, 0, 1, 0, 0, upd_same, lp, ?_, hl, by omega, by omega, by omega, by omega⟩
  rw [upd_ne lp, upd_same]
abbrev s__law_mixed : Stmt := top 51
abbrev N__law_mixed : List Str := ["_law_store_here"]
theorem sc__law_mixed : FnScope N__law_mixed ["_law_store_here"] (defScope s__law_mixed) := ⟨rfl, rfl, rfl, by decide +kernel, rfl, by decide +kernel, by decide +kernel⟩
abbrev ps__law_mixed : List Str := ["_law_store_here"]
def spMixed (K : PySem.W.Frag) (l : Addr) : Sp := fun vs H Q _ => ∃ (s : Addr), vs = [.ref s] ∧ Sto l s H ∧ ∀ (r : Int) H', 0 ≤ r → r < 1000000009 → Sto l s H' → Fr s H H' → Q (.int r) H'
theorem ok_mixed (T : Bn mg) (F : Fn K mg "_law_mixed" s__law_mixed ps__law_mixed f fd) : Def P w K mg base (k + 1) "_law_mixed" ps__law_mixed (spMixed K l) f fd := by
  refine ⟨F.F.ok sc__law_mixed (fun vs H Q E h => ?_) (fun cdv A outer s H vs Q E hr h => ?_), F.m, F.F.kp, F.b⟩
  · obtain ⟨a, rfl, _⟩ := h
    rfl
  obtain ⟨s, rfl, ⟨ns, pos, num, seed, hold, cnt, h1, h2, h3, h4, h5, h6, h7, h8⟩, z⟩ := h
  refine ⟨_, (pss_cons (ps_asg (pe_op op_add (pe_ix ix_list (pv 0) pe_int (fun _ _ => rfl)) pe_int) (pg_sub (pv 0) pe_int set_list))
      (pss_cons (ps_asg (pe_op op_mod (pe_callTy call_int1 (by rfl) T.int_ (by decide +kernel) (pa_cons (pe_op op_add (pe_op op_add (pe_op op_mul (pe_ix ix_list (pv 0) pe_int (fun _ _ => rfl)) pe_int) (pe_op op_mul (pe_ix ix_list (pv 0) pe_int (fun _ _ => rfl)) pe_int)) pe_int) pa_nil)) pe_int) (pg_sub (pv 0) pe_int set_list))
      (pss_one (ps_ret (pe_op op_mod (pe_callTy call_int1 (by rfl) T.int_ (by decide +kernel) (pa_cons (pe_op op_add (pe_op op_mul (pe_ix ix_list (pv 0) pe_int (fun _ _ => rfl)) pe_int) (pe_op op_fdiv (pe_ix ix_list (pv 0) pe_int (fun _ _ => rfl)) pe_int)) pa_nil)) pe_int))))), ?_⟩
  refine ⟨_, rfl, s, _, _, _, rfl, rfl, SqL.of h1, atI_nat (j := 5) rfl, _, _, rfl, rfl, _, rfl, s, _, _, _, rfl, rfl, h1, rfl, ?_⟩
  refine ⟨_, rfl, s, _, _, _, rfl, rfl, SqL.of upd_same, atI_nat (j := 3) rfl, _, _, rfl, rfl, .inr ⟨by decide, by decide⟩, ?_⟩
  refine ⟨_, rfl, s, _, _, _, rfl, rfl, SqL.of upd_same, atI_nat (j := 5) rfl, _, _, rfl, rfl, .inr ⟨by decide, by decide⟩, _, _, rfl, rfl, ?_⟩
  refine ⟨_, _, rfl, rfl, .inl ⟨_, rfl, _, _, rfl, rfl, (by show (0 : Int) < 1000000007; decide), _, rfl, s, _, _, _, rfl, rfl, upd_same, rfl, ?_⟩⟩
  refine ⟨_, rfl, s, _, _, _, rfl, rfl, SqL.of upd_same, atI_nat (j := 3) rfl, _, _, rfl, rfl, .inr ⟨by decide, by decide⟩, ?_⟩
  refine ⟨_, rfl, s, _, _, _, rfl, rfl, SqL.of upd_same, atI_nat (j := 3) rfl, _, _, rfl, rfl, ⟨by decide, by decide⟩, _, _, rfl, rfl, .inl ⟨_, rfl, _, _, rfl, rfl, (by show (0 : Int) < 1000000009; decide), ?_⟩⟩
  have e2 : ∀ o1 o2, Fr s H (upd (upd H s o1) s o2) := fun _ _ => (Fr.upd _).trans (Fr.upd _)
  exact z _ _ (Int.emod_nonneg _ (by decide)) (Int.emod_lt_of_pos _ (by decide)) ⟨ns, pos, num, _, hold, _, upd_same, h2, (e2 _ _) _ _ h3 h2, h4, h5, h6, Int.emod_nonneg _ (by decide), Int.emod_lt_of_pos _ (by decide)⟩ (e2 _ _)
abbrev s__law_feed : Stmt := top 50
abbrev N__law_feed : List Str := ["_law_store_here", "_law_cell"]
theorem sc__law_feed : FnScope N__law_feed ["_law_store_here"] (defScope s__law_feed) := ⟨rfl, rfl, rfl, by decide +kernel, rfl, by decide +kernel, by decide +kernel⟩
abbrev ps__law_feed : List Str := ["_law_store_here"]
def spFeed (K : PySem.W.Frag) (l : Addr) : Sp := fun vs H Q _ => ∃ (s : Addr) (ns : List Int) (pos num seed hold cnt : Int), vs = [.ref s] ∧ H s = some (.lst [.ref l, .int pos, .int num, .int seed, .int hold, .int cnt]) ∧ l ≠ s ∧ H l = some (.lst (ns.map V.int)) ∧ ns.length ≤ 63 ∧ 0 ≤ pos ∧ 0 ≤ num ∧ 0 ≤ seed ∧ seed < 1000000007 ∧ pos < (ns.length : Int) ∧
  ∀ H', Sto l s H' → Fr s H H' → Q .non H'
theorem ok_feed (T : Bn mg) (F : Fn K mg "_law_feed" s__law_feed ps__law_feed f fd) : Def P w K mg base (k + 1) "_law_feed" ps__law_feed (spFeed K l) f fd := by
  refine ⟨F.F.ok sc__law_feed (fun vs H Q E h => ?_) (fun cdv A outer s H vs Q E hr h => ?_), F.m, F.F.kp, F.b⟩
  · obtain ⟨_, _, _, _, _, _, _, rfl, _⟩ := h
    rfl
  obtain ⟨s, ns, pos, num, seed, hold, cnt, rfl, h1, h2, h3, h4, h5, h6, h7, h8, h9, z⟩ := h
  refine ⟨_, (pss_cons (ps_set (i := 1) sc__law_feed.nd rfl (Or.inl rfl) (pe_callTy call_int1 (by rfl) T.int_ (by decide +kernel) (pa_cons (pe_ix ix_list (pe_ix ix_list (pv 0) pe_int (fun _ _ => rfl)) (pe_ix ix_list (pv 0) pe_int (fun _ _ => rfl)) (fun _ _ => rfl)) pa_nil)))
      (pss_cons (ps_asg (pe_op op_add (pe_ix ix_list (pv 0) pe_int (fun _ _ => rfl)) pe_int) (pg_sub (pv 0) pe_int set_list))
      (pss_cons (ps_asg (pe_op op_mod (pe_callTy call_int1 (by rfl) T.int_ (by decide +kernel) (pa_cons (pe_op op_add (pe_op op_mul (pe_ix ix_list (pv 0) pe_int (fun _ _ => rfl)) pe_int) (pv 1)) pa_nil)) pe_int) (pg_sub (pv 0) pe_int set_list))
      (pss_one (ps_if (PW.pt (pw_or (pt_cmpR op_ge (pv 1) (pe_op op_pow pe_int pe_int) (nomark _)) (pw_or1 (pt_cmpR op_le (pv 1) (pe_op op_sub pe_int (pe_op op_pow pe_int pe_int)) (nomark _)))))
        (pss_one (ps_asg (pe_callB call_abs (by rfl) T.abs_ (by decide +kernel) (pa_cons (pv 1) pa_nil)) (pg_sub (pv 0) pe_int set_list)))
        (pss_one (ps_asg pe_int (pg_sub (pv 0) pe_int set_list)))))))), ?_⟩
  have hp : pos.toNat < ns.length := by omega
  have ea : atI (ns.map V.int) pos = some (.int ns[pos.toNat]) := at_of (j := pos.toNat) (by omega) (by rw [List.getElem?_map, List.getElem?_eq_getElem hp]; rfl)
  obtain ⟨c, hc⟩ : ∃ c, c = ns[pos.toNat] := ⟨_, rfl⟩
  rw [← hc] at ea
  refine ⟨_, rfl, s, _, _, _, rfl, rfl, SqL.of h1, at0 rfl, _, rfl, s, _, _, _, rfl, rfl, SqL.of h1, at1 rfl, l, _, _, _, rfl, rfl, SqL.of h3, ea, .inl ⟨_, rfl, ?_⟩⟩
  refine ⟨_, rfl, s, _, _, _, rfl, rfl, SqL.of h1, at1 rfl, _, _, rfl, rfl, _, rfl, s, _, _, _, rfl, rfl, h1, rfl, ?_⟩
  refine ⟨_, rfl, s, _, _, _, rfl, rfl, SqL.of upd_same, atI_nat (j := 3) rfl, _, _, rfl, rfl, .inr ⟨by decide, by decide⟩, _, rfl, _, _, rfl, rfl, .inl ⟨_, rfl, _, _, rfl, rfl, (by show (0 : Int) < 1000000007; decide), _, rfl, s, _, _, _, rfl, rfl, upd_same, rfl, ?_⟩⟩
  have e2 : ∀ o1 o2, Fr s H (upd (upd H s o1) s o2) := fun _ _ => (Fr.upd _).trans (Fr.upd _)
  have e3 : ∀ o1 o2 o3, Fr s H (upd (upd (upd H s o1) s o2) s o3) := fun _ _ _ => (e2 _ _).trans (Fr.upd _)
  have pw : (0 : Int) ≤ 18 ∧ (18 : Int) ≤ 1000000 ∧ (10 : Int).natAbs < 2 ^ 64 := ⟨by decide, by decide, by decide⟩
  have big : ∀ H', H' s = _ → Fr s H H' → Q .non H' := fun H' (e : H' s = some (.lst [.ref l, .int (pos + 1), .int (if c < 0 then -c else c), .int ((seed * 30011 + c) % 1000000007), .int hold, .int cnt])) e' =>
    z H' ⟨ns, pos + 1, _, _, hold, cnt, e, h2, e' _ _ h3 h2, h4, by omega, by split <;> omega, Int.emod_nonneg _ (by decide), Int.emod_lt_of_pos _ (by decide)⟩ e'
  refine ⟨_, rfl, _, _, rfl, rfl, pw, _, _, rfl, rfl, _, rfl, ifD (fun _ => ?_) (fun _ => ⟨_, rfl, _, _, rfl, rfl, pw, _, _, rfl, rfl, _, _, rfl, rfl, _, rfl, ifD (fun _ => ?_) (fun _ => ?_)⟩)⟩
  · exact ⟨_, rfl, _, rfl, _, rfl, s, _, _, _, rfl, rfl, upd_same, rfl, big _ upd_same (e3 _ _ _)⟩
  · exact ⟨_, rfl, _, rfl, _, rfl, s, _, _, _, rfl, rfl, upd_same, rfl, big _ upd_same (e3 _ _ _)⟩
  · exact ⟨_, rfl, s, _, _, _, rfl, rfl, upd_same, rfl, z _ ⟨ns, pos + 1, num, _, 3, cnt, upd_same, h2, (e3 _ _ _) _ _ h3 h2, h4, by omega, h6, Int.emod_nonneg _ (by decide), Int.emod_lt_of_pos _ (by decide)⟩ (e3 _ _ _)⟩
abbrev s__law_take : Stmt := top 52
abbrev N__law_take : List Str := ["_law_store_here", "_law_many", "_law_number"]
theorem sc__law_take : FnScope N__law_take ["_law_store_here", "_law_many"] (defScope s__law_take) := ⟨rfl, rfl, rfl, by decide +kernel, rfl, by decide +kernel, by decide +kernel⟩
abbrev ps__law_take : List Str := ["_law_store_here", "_law_many"]
def spTake (K : PySem.W.Frag) (l : Addr) : Sp := fun vs H Q _ => ∃ (s : Addr) (many : Int), vs = [.ref s, .int many] ∧ Sto l s H ∧ many < 2 ^ 64 ∧ ∀ (r : Int) H', 0 ≤ r → (r < many ∨ r = 0) → Sto l s H' → Fr s H H' → Q (.int r) H'
theorem ok_take (T : Bn mg) (F : Fn K mg "_law_take" s__law_take ps__law_take f fd) (d_law_feed : Def P w K mg base k "_law_feed" ["_law_store_here"] (spFeed K l) f1 fd1) (d_law_mixed : Def P w K mg base k "_law_mixed" ["_law_store_here"] (spMixed K l) f2 fd2) :
    Def P w K mg base (k + 1) "_law_take" ps__law_take (spTake K l) f fd := by
  refine ⟨F.F.ok sc__law_take (fun vs H Q E h => ?_) (fun cdv A outer s H vs Q E hr h => ?_), F.m, F.F.kp, F.b⟩
  · obtain ⟨_, _, rfl, _⟩ := h
    rfl
  obtain ⟨s, many, rfl, hS, hm, z⟩ := h
  refine ⟨_, (pss_cons (ps_set (i := 1) sc__law_take.nd rfl (Or.inl rfl) (pe_callB (call_max2 rfl) (by rfl) T.max_ (by decide +kernel) (pa_cons pe_int (pa_cons (pv 1) pa_nil))))
      (pss_cons (ps_if (PW.pt (pw_and (pt_cmpR op_eq (pe_ix ix_list (pv 0) pe_int (fun _ _ => rfl)) pe_int (nomark _)) (pw_and (pt_cmpR op_eq (pe_ix ix_list (pv 0) pe_int (fun _ _ => rfl)) pe_int (nomark _)) (pw_and1 (pt_cmpR op_lt (pe_ix ix_list (pv 0) pe_int (fun _ _ => rfl)) (pe_callB call_len_seq (by rfl) T.len_ PySem.boot_len (pa_cons (pe_ix ix_list (pv 0) pe_int (fun _ _ => rfl)) pa_nil)) (nomark _))))))
        (pss_one (ps_expr (pcall d_law_feed hr (pa_cons (pv 0) pa_nil))))
        pss_nil)
      (pss_cons (ps_if (pt_cmpR op_gt (pe_ix ix_list (pv 0) pe_int (fun _ _ => rfl)) pe_int (nomark _))
        (pss_cons (ps_set (i := 2) sc__law_take.nd rfl (Or.inl rfl) (pe_ix ix_list (pv 0) pe_int (fun _ _ => rfl)))
        (pss_cons (ps_asg (pe_op op_fdivW (pv 2) (pv 1)) (pg_sub (pv 0) pe_int set_list))
        (pss_one (ps_ret (pe_op op_mod (pe_callTy call_int1 (by rfl) T.int_ (by decide +kernel) (pa_cons (pv 2) pa_nil)) (pv 1))))))
        pss_nil)
      (pss_cons (ps_asg (pe_callB (call_max2 rfl) (by rfl) T.max_ (by decide +kernel) (pa_cons pe_int (pa_cons (pe_op op_sub (pe_ix ix_list (pv 0) pe_int (fun _ _ => rfl)) pe_int) pa_nil))) (pg_sub (pv 0) pe_int set_list))
      (pss_cons (ps_set (i := 2) sc__law_take.nd rfl (Or.inl rfl) (pcall d_law_mixed hr (pa_cons (pv 0) pa_nil)))
      (pss_cons (ps_if (pt_cmpR op_gt (pv 1) pe_int (nomark _))
        (pss_one (ps_set (i := 2) sc__law_take.nd rfl (Or.inl rfl) (pe_op op_add (pv 2) (pe_op op_mul (pcall d_law_mixed hr (pa_cons (pv 0) pa_nil)) pe_int))))
        pss_nil)
      (pss_one (ps_ret (pe_op op_mod (pe_callTy call_int1 (by rfl) T.int_ (by decide +kernel) (pa_cons (pv 2) pa_nil)) (pv 1)))))))))), ?_⟩
  refine ⟨_, rfl, _, _, rfl, ?_⟩
  obtain ⟨M, eM⟩ : ∃ M : Int, M = if many > 1 then many else 1 := ⟨_, rfl⟩
  have M1 : 1 ≤ M := by rw [eM]; split <;> omega
  have M2 : M.natAbs < 2 ^ 64 := by
    have : (2 : Nat) ^ 64 = 18446744073709551616 := by decide
    have : (2 : Int) ^ 64 = 18446744073709551616 := by decide
    rw [eM]; split <;> omega
  have hz : ∀ (r : Int) H', 0 ≤ r → r < M → Sto l s H' → Fr s H H' → Q (.int r) H' := fun r H' a b => z r H' a (by rw [eM] at b; split at b <;> omega)
  rw [← eM]
  dsimp only [gName]
  refine cut (fun σ' H' => σ' = [some (.ref s), some (.int M), none] ∧ Sto l s H' ∧ Fr s H H') ?_ ?_
  · rintro σ H1 ⟨rfl, hS1, e1⟩
    obtain ⟨ns, pos, num, seed, hold, cnt, h1, h2, h3, h4, h5, h6, h7, h8⟩ := id hS1
    refine ⟨_, rfl, s, _, _, _, rfl, rfl, SqL.of h1, at2 rfl, _, _, rfl, rfl, _, rfl, ifD (fun c => ?_) (fun c => ?_)⟩
    · refine ⟨_, rfl, s, _, _, _, rfl, rfl, SqL.of h1, at2 rfl, ?_⟩
      refine ⟨_, rfl, _, rfl, _, _, rfl, rfl, wide_div (by omega) M2 (by decide) (by decide), _, rfl, s, _, _, _, rfl, rfl, h1, rfl, ?_⟩
      refine ⟨_, rfl, .inl ⟨_, rfl, _, rfl, _, _, rfl, rfl, (by show 0 < M; omega), ?_⟩⟩
      have e2 : ∀ o, Fr s H1 (upd H1 s o) := fun _ => Fr.upd _
      exact hz _ _ (Int.emod_nonneg _ (by omega)) (Int.emod_lt_of_pos _ (by omega)) ⟨ns, pos, num / M, seed, hold, cnt, upd_same, h2, (e2 _) _ _ h3 h2, h4, h5, Int.ediv_nonneg (by omega) (by omega), h7, h8⟩ (e1.trans (e2 _))
    refine ⟨_, rfl, s, _, _, _, rfl, rfl, SqL.of h1, atI_nat (j := 4) rfl, _, _, rfl, rfl, _, _, rfl, _, rfl, s, _, _, _, rfl, rfl, h1, rfl, ?_⟩
    have e2 : ∀ o, Fr s H1 (upd H1 s o) := fun _ => Fr.upd _
    refine ⟨_, rfl, s, rfl, ⟨ns, pos, num, seed, _, cnt, upd_same, h2, (e2 _) _ _ h3 h2, h4, h5, h6, h7, h8⟩, fun r H2 r0 r1 S2 e3 => ?_⟩
    refine ⟨_, rfl, _, _, rfl, rfl, _, rfl, ifD (fun c => ?_) (fun c => ?_)⟩
    · refine ⟨_, rfl, _, rfl, s, rfl, S2, fun r' H3 _ _ S3 e4 => ⟨_, _, rfl, rfl, .inr ⟨by decide, by decide⟩, _, _, rfl, rfl, ?_⟩⟩
      refine ⟨_, rfl, .inl ⟨_, rfl, _, rfl, _, _, rfl, rfl, (by show 0 < M; omega), ?_⟩⟩
      exact hz _ _ (Int.emod_nonneg _ (by omega)) (Int.emod_lt_of_pos _ (by omega)) S3 (e1.trans ((e2 _).trans (e3.trans e4)))
    · refine ⟨_, rfl, .inl ⟨_, rfl, _, rfl, _, _, rfl, rfl, (by show 0 < M; omega), ?_⟩⟩
      exact hz _ _ (Int.emod_nonneg _ (by omega)) (Int.emod_lt_of_pos _ (by omega)) S2 (e1.trans ((e2 _).trans e3))
  · intro key
    obtain ⟨ns, pos, num, seed, hold, cnt, h1, h2, h3, h4, h5, h6, h7, h8⟩ := id hS
    refine ⟨_, rfl, s, _, _, _, rfl, rfl, SqL.of h1, at2 rfl, rfl, _, rfl, ifD (fun _ => ?_) (fun _ => ifF rfl (key _ _ ⟨rfl, hS, Fr.refl _ _⟩))⟩
    refine ⟨_, rfl, s, _, _, _, rfl, rfl, SqL.of h1, atI_nat (j := 4) rfl, rfl, _, rfl, ifD (fun _ => ?_) (fun _ => ifF rfl (key _ _ ⟨rfl, hS, Fr.refl _ _⟩))⟩
    refine ⟨_, rfl, s, _, _, _, rfl, rfl, SqL.of h1, at1 rfl, _, rfl, s, _, _, _, rfl, rfl, SqL.of h1, at0 rfl, l, _, rfl, .inl (SqL.of h3), _, _, rfl, rfl, _, rfl, ifD (fun c => ?_) (fun _ => key _ _ ⟨rfl, hS, Fr.refl _ _⟩)⟩
    rw [List.length_map] at c
    exact ⟨_, rfl, s, ns, pos, num, seed, hold, cnt, rfl, h1, h2, h3, h4, h5, h6, h7, h8, c, fun H' S' e' => key _ _ ⟨rfl, S', e'⟩⟩
abbrev s__law_pick : Stmt := top 53
abbrev N__law_pick : List Str := ["_law_store_here", "_law_things"]
theorem sc__law_pick : FnScope N__law_pick ["_law_store_here", "_law_things"] (defScope s__law_pick) := ⟨rfl, rfl, rfl, by decide +kernel, rfl, by decide +kernel, by decide +kernel⟩
abbrev ps__law_pick : List Str := ["_law_store_here", "_law_things"]
/-- a list that is not the store; one of its things is handed back -/
def spPick (K : PySem.W.Frag) (l : Addr) : Sp := fun vs H Q _ => ∃ (s a : Addr) (xs : List V), vs = [.ref s, .ref a] ∧ Sto l s H ∧ a ≠ s ∧ SqL K H a xs ∧ 0 < xs.length ∧ xs.length < 2 ^ 32 ∧ ∀ (v : V) H', v ∈ xs → Sto l s H' → Fr s H H' → Q v H'
theorem ok_pick (T : Bn mg) (F : Fn K mg "_law_pick" s__law_pick ps__law_pick f fd) (d_law_take : Def P w K mg base k "_law_take" ["_law_store_here", "_law_many"] (spTake K l) f1 fd1) : Def P w K mg base (k + 1) "_law_pick" ps__law_pick (spPick K l) f fd := by
  refine ⟨F.F.ok sc__law_pick (fun vs H Q E h => ?_) (fun cdv A outer s H vs Q E hr h => ?_), F.m, F.F.kp, F.b⟩
  · obtain ⟨_, _, _, rfl, _⟩ := h
    rfl
  obtain ⟨s, a, xs, rfl, hS, n, ha, h0, hl, z⟩ := h
  refine ⟨_, (pss_one (ps_ret (pe_ix ix_list (pv 1) (pcall d_law_take hr (pa_cons (pv 0) (pa_cons (pe_callB call_len_seq (by rfl) T.len_ PySem.boot_len (pa_cons (pv 1) pa_nil)) pa_nil))) (fun _ _ => rfl)))), ?_⟩
  have p32 : (2 : Nat) ^ 32 = 4294967296 := by decide
  have p64 : (2 : Int) ^ 64 = 18446744073709551616 := by decide
  refine ⟨_, rfl, _, rfl, _, rfl, a, _, rfl, .inl ha, s, _, rfl, hS, by omega, fun r H' r0 r1 S' e => ?_⟩
  have hr : r.toNat < xs.length := by omega
  refine ⟨a, _, _, xs[r.toNat], rfl, rfl, seq_fr e n ha, at_of (j := r.toNat) (by omega) (List.getElem?_eq_getElem hr), z _ _ (List.getElem_mem hr) S' e⟩
end Vk
namespace Vk
open PySem L2 Vm
variable {l : Addr} {P : Program} {w : World} {K : PySem.W.Frag} {mg : Str → Option Value} {base : Heap} {k : Nat} {f f1 f2 f3 f4 f5 f6 f7 f8 f9 : Addr} {fd fd1 fd2 fd3 fd4 fd5 fd6 fd7 fd8 fd9 : FuncData}
/-! ### data -/
def dq (q : Rat) : PyData := .tuple [.int q.num, .int (q.den : Int)]
theorem Rq.dp {H : Hp} {v : V} {q : Rat} (h : Rq K H v q) : Dp K H v (dq q) := by
  obtain ⟨a, rfl, h⟩ := h
  exact .tup h (.cons (.int _) (.cons (.int _) .nil))
theorem sh_dq (q : Rat) : SeqAt.shaped (dq q) = true := rfl
theorem eqv_dq (p q : Rat) : PyData.eqv (dq p) (dq q) = decide (p = q) := by
  show ((p.num == q.num) && (((p.den : Int) == (q.den : Int)) && true)) = decide (p = q)
  by_cases h : p = q
  · subst h
    simp
  · rw [decide_eq_false h]
    by_cases h1 : p.num = q.num
    · by_cases h2 : p.den = q.den
      · exact absurd (Rat.ext h1 h2) h
      · have : ((p.den : Int) == (q.den : Int)) = false := beq_false_of_ne (by omega)
        rw [this]
        simp
    · have : (p.num == q.num) = false := by simpa using h1
      rw [this]
      simp
inductive Tree : Nat → PyData → Prop
  | int {n} (i : Int) : Tree n (.int i)
  | non {n} : Tree n .none
  | str {n} {s : Str} (h : SeqAt.shaped (.str s) = true) : Tree n (.str s)
  | tup {n} {ds : List PyData} : ds.length ≤ 1000 → (∀ d ∈ ds, Tree n d) → Tree (n + 1) (.tuple ds)
  | lst {n} {ds : List PyData} : ds.length ≤ 1000 → (∀ d ∈ ds, Tree n d) → Tree (n + 1) (.list ds)
theorem tree_dq (n : Nat) (q : Rat) : Tree (n + 1) (dq q) := .tup (by show 2 ≤ 1000; decide) fun d h => by
  rcases List.mem_cons.mp h with rfl | h
  · exact .int _
  · rcases List.mem_cons.mp h with rfl | h
    · exact .int _
    · cases h
theorem sql_ty {H : Hp} {a : Addr} {xs : List V} (h : SqL K H a xs) : TyX K H (.ref a) (.type "list") := by
  rcases h with (h | ⟨o, h⟩) | ⟨o, its, n, h, c, _⟩
  · exact .base (.lst h)
  · exact .base (.frz h)
  · exact .kList h c
theorem sqt_ty {H : Hp} {a : Addr} {xs : List V} (h : SqT K H a xs) : TyX K H (.ref a) (.type "tuple") := by
  rcases h with (h | ⟨o, h⟩) | ⟨o, its, n, h, c, _⟩
  · exact .base (.tup h)
  · exact .fTuple h
  · exact .kTuple h c
theorem dpall_len {H : Hp} : ∀ {vs : List V} {ds : List PyData}, DpAll K H vs ds → vs.length = ds.length
  | _, _, .nil => rfl
  | _, _, .cons _ t => by simp [dpall_len t]
theorem dpall_at {H : Hp} : ∀ {vs : List V} {ds : List PyData}, DpAll K H vs ds → ∀ {i : Nat} {d : PyData}, ds[i]? = some d → ∃ v, vs[i]? = some v ∧ Dp K H v d
  | _, _, .nil, i, d, h => by simp at h
  | _, _, .cons r t, 0, d, h => ⟨_, rfl, by rw [← Option.some.inj h]; exact r⟩
  | _, _, .cons r t, i + 1, d, h => dpall_at t h
abbrev s__law_is_int : Stmt := top 55
abbrev N__law_is_int : List Str := ["_law_value"]
theorem sc__law_is_int : FnScope N__law_is_int ["_law_value"] (defScope s__law_is_int) := ⟨rfl, rfl, rfl, by decide +kernel, rfl, by decide +kernel, by decide +kernel⟩
abbrev ps__law_is_int : List Str := ["_law_value"]
def spIsInt (K : PySem.W.Frag) : Sp := fun vs H Q _ => ∃ i : Int, vs = [.int i] ∧ Q (.bl true) H
theorem ok_is_int (T : Bn mg) (F : Fn K mg "_law_is_int" s__law_is_int ps__law_is_int f fd) : Def P w K mg base (k + 1) "_law_is_int" ps__law_is_int (spIsInt K) f fd := by
  refine ⟨F.F.ok sc__law_is_int (fun vs H Q E h => ?_) (fun cdv A outer s H vs Q E hr h => ?_), F.m, F.F.kp, F.b⟩
  · obtain ⟨i, rfl, _⟩ := h
    rfl
  obtain ⟨i, rfl, z⟩ := h
  refine ⟨_, (pss_one (ps_ret (pe_and (pe_callB call_isi (by rfl) T.isinstance_ (by decide +kernel) (pa_cons (pv 0) (pa_cons (pe_bltn (v := .ty "int") (by rfl) T.int_ (by decide +kernel) rfl) pa_nil))) (pe_one (pe_not (pe_callB call_isi (by rfl) T.isinstance_ (by decide +kernel) (pa_cons (pv 0) (pa_cons (pe_bltn (v := .ty "bool") (by rfl) T.bool_ (by decide +kernel) rfl) pa_nil)))))))), ?_⟩
  exact ⟨_, rfl, _, _, _, _, true, rfl, .ty _, (.base (.int i)), kit_ty (by decide +kernel), _, rfl, ifT rfl ⟨_, rfl, _, _, _, _, false, rfl, .ty _, (.base (.int i)), kit_ty (by decide +kernel), _, rfl, z⟩⟩
abbrev s__law_same : Stmt := top 56
abbrev N__law_same : List Str := ["_law_value", "_law_due", "_law_keys", "_law_name", "_law_k"]
theorem sc__law_same : FnScope N__law_same ["_law_value", "_law_due"] (defScope s__law_same) := ⟨rfl, rfl, rfl, by decide +kernel, rfl, by decide +kernel, by decide +kernel⟩
abbrev ps__law_same : List Str := ["_law_value", "_law_due"]
def spSame (K : PySem.W.Frag) (n : Nat) : Sp := fun vs H Q _ => ∃ (v u : V) (d : PyData), vs = [v, u] ∧ Dp K H v d ∧ Dp K H u d ∧ Tree n d ∧ Q (.bl true) H
theorem ok_same1 (T : Bn mg) (n : Nat) (F : Fn K mg "_law_same" s__law_same ps__law_same f fd) (d_law_is_int : Def P w K mg base (k + n) "_law_is_int" ["_law_value"] (spIsInt K) f1 fd1)
    (d_law_same : Def P w K mg base (k + n) "_law_same" ["_law_value", "_law_due"] (fun vs H Q E => ∃ m, m + 1 = n ∧ spSame K m vs H Q E) f fd) : Def P w K mg base (k + n + 1) "_law_same" ps__law_same (spSame K n) f fd := by
  refine ⟨F.F.ok sc__law_same (fun vs H Q E h => ?_) (fun cdv A outer s H vs Q E hr h => ?_), F.m, F.F.kp, F.b⟩
  · obtain ⟨v, u, d, rfl, _⟩ := h
    rfl
  obtain ⟨v, u, d, rfl, hv, hu, ht, z⟩ := h
  refine ⟨_, (pss_cons (ps_if (pt_cmpR op_isN (pv 1) pe_non (nomark _))
        (pss_one (ps_ret (pe_cmpR op_isN (pv 0) pe_non (nomark _))))
        pss_nil)
      (pss_cons (ps_if (pt_val (pe_callB call_isi (by rfl) T.isinstance_ (by decide +kernel) (pa_cons (pv 1) (pa_cons (pe_bltn (v := .ty "bool") (by rfl) T.bool_ (by decide +kernel) rfl) pa_nil))))
        (pss_one (ps_ret (pe_and (pe_callB call_isi (by rfl) T.isinstance_ (by decide +kernel) (pa_cons (pv 0) (pa_cons (pe_bltn (v := .ty "bool") (by rfl) T.bool_ (by decide +kernel) rfl) pa_nil))) (pe_one (pe_cmpR (op_eqD hr.units) (pv 0) (pv 1) (nomark _))))))
        pss_nil)
      (pss_cons (ps_if (pt_val (pe_callB call_isi (by rfl) T.isinstance_ (by decide +kernel) (pa_cons (pv 1) (pa_cons (pe_bltn (v := .ty "int") (by rfl) T.int_ (by decide +kernel) rfl) pa_nil))))
        (pss_one (ps_ret (pe_and (pcall d_law_is_int hr (pa_cons (pv 0) pa_nil)) (pe_one (pe_cmpR (op_eqD hr.units) (pv 0) (pv 1) (nomark _))))))
        pss_nil)
      (pss_cons (ps_if (pt_val (pe_callB call_isi (by rfl) T.isinstance_ (by decide +kernel) (pa_cons (pv 1) (pa_cons (pe_bltn (v := .ty "str") (by rfl) T.str_ (by decide +kernel) rfl) pa_nil))))
        (pss_one (ps_ret (pe_and (pe_callB call_isi (by rfl) T.isinstance_ (by decide +kernel) (pa_cons (pv 0) (pa_cons (pe_bltn (v := .ty "str") (by rfl) T.str_ (by decide +kernel) rfl) pa_nil))) (pe_one (pe_cmpR (op_eqD hr.units) (pv 0) (pv 1) (nomark _))))))
        pss_nil)
      (pss_cons (ps_if (pt_val (pe_callB call_isi (by rfl) T.isinstance_ (by decide +kernel) (pa_cons (pv 1) (pa_cons (pe_bltn (v := .ty "dict") (by rfl) T.dict_ (by decide +kernel) rfl) pa_nil))))
        pss_never
        pss_nil)
      (pss_cons (ps_if (PW.pt (pw_and (pt_val (pe_callB call_isi (by rfl) T.isinstance_ (by decide +kernel) (pa_cons (pv 1) (pa_cons (pe_bltn (v := .ty "list") (by rfl) T.list_ (by decide +kernel) rfl) pa_nil)))) (pw_and1 (pt_not (pt_val (pe_callB call_isi (by rfl) T.isinstance_ (by decide +kernel) (pa_cons (pv 0) (pa_cons (pe_bltn (v := .ty "list") (by rfl) T.list_ (by decide +kernel) rfl) pa_nil))))))))
        (pss_one (ps_ret pe_bl))
        pss_nil)
      (pss_cons (ps_if (PW.pt (pw_and (pt_val (pe_callB call_isi (by rfl) T.isinstance_ (by decide +kernel) (pa_cons (pv 1) (pa_cons (pe_bltn (v := .ty "tuple") (by rfl) T.tuple_ (by decide +kernel) rfl) pa_nil)))) (pw_and1 (pt_not (pt_val (pe_callB call_isi (by rfl) T.isinstance_ (by decide +kernel) (pa_cons (pv 0) (pa_cons (pe_bltn (v := .ty "tuple") (by rfl) T.tuple_ (by decide +kernel) rfl) pa_nil))))))))
        (pss_one (ps_ret pe_bl))
        pss_nil)
      (pss_cons (ps_if (pt_cmpR op_ne (pe_callB call_len_seq (by rfl) T.len_ PySem.boot_len (pa_cons (pv 0) pa_nil)) (pe_callB call_len_seq (by rfl) T.len_ PySem.boot_len (pa_cons (pv 1) pa_nil)) (nomark _))
        (pss_one (ps_ret pe_bl))
        pss_nil)
      (pss_cons (ps_for PassesOwn.never rfl (pi_range1 (by rfl) T.range_ (pa_cons (pe_callB call_len_seq (by rfl) T.len_ PySem.boot_len (pa_cons (pv 1) pa_nil)) pa_nil)) (pg_name (i := 4) sc__law_same.nd rfl (Or.inl rfl))
        (pss_one (ps_if (pt_not (pt_val (pcall d_law_same hr (pa_cons (pe_ix ix_seq (pv 0) (pv 4) (fun _ _ => rfl)) (pa_cons (pe_ix ix_seq (pv 1) (pv 4) (fun _ _ => rfl)) pa_nil)))))
          (pss_one (ps_ret pe_bl))
          pss_nil)))
      (pss_one (ps_ret pe_bl))))))))))), ?_⟩
  cases ht with
  | int i =>
    cases hv
    cases hu
    refine ⟨_, rfl, rfl, _, rfl, ifF (dF nofun) ⟨_, rfl, _, _, _, _, false, rfl, .ty _, (.base (.int i)), kit_ty (by decide +kernel), _, rfl, ifF rfl ⟨_, rfl, _, _, _, _, true, rfl, .ty _, (.base (.int i)), kit_ty (by decide +kernel), _, rfl, ifT rfl ?_⟩⟩⟩
    refine ⟨_, rfl, i, rfl, _, rfl, ifT rfl ⟨_, rfl, _, rfl, _, _, .int i, .int i, rfl, rfl, ?_⟩⟩
    rw [show PyData.eqv (.int i) (.int i) = true from beq_self_eq_true i]
    exact z
  | non =>
    cases hv
    cases hu
    exact ⟨_, rfl, rfl, _, rfl, ifT (dT rfl) ⟨_, rfl, rfl, z⟩⟩
  | @str _ s hs =>
    cases hv
    cases hu
    refine ⟨_, rfl, rfl, _, rfl, ifF (dF nofun) ⟨_, rfl, _, _, _, _, false, rfl, .ty _, (.base (.str s)), kit_ty (by decide +kernel), _, rfl, ifF rfl ⟨_, rfl, _, _, _, _, false, rfl, .ty _, (.base (.str s)), kit_ty (by decide +kernel), _, rfl, ifF rfl ⟨_, rfl, _, _, _, _, true, rfl, .ty _, (.base (.str s)), kit_ty (by decide +kernel), _, rfl, ifT rfl ?_⟩⟩⟩⟩
    refine ⟨_, rfl, _, _, _, _, true, rfl, .ty _, (.base (.str s)), kit_ty (by decide +kernel), _, rfl, ifT rfl ⟨_, rfl, _, rfl, _, _, .str s, .str s, hs, hs, ?_⟩⟩
    rw [show PyData.eqv (.str s) (.str s) = true from beq_self_eq_true s]
    exact z
  | tup hl hall =>
    rename_i m ds
    cases hv with
    | tup ha da =>
    rename_i a xs
    cases hu with
    | tup hb db =>
    rename_i b ys
    have lx := dpall_len da
    have ly := dpall_len db
    have ta := sqt_ty ha
    have tb := sqt_ty hb
    refine ⟨_, rfl, rfl, _, rfl, ifF (dF nofun) ⟨_, rfl, _, _, _, _, false, rfl, .ty _, tb, kit_ty (by decide +kernel), _, rfl, ifF rfl ⟨_, rfl, _, _, _, _, false, rfl, .ty _, tb, kit_ty (by decide +kernel), _, rfl, ifF rfl ⟨_, rfl, _, _, _, _, false, rfl, .ty _, tb, kit_ty (by decide +kernel), _, rfl, ifF rfl ⟨_, rfl, _, _, _, _, false, rfl, .ty _, tb, kit_ty (by decide +kernel), _, rfl, ifF rfl ?_⟩⟩⟩⟩⟩
    refine ⟨_, rfl, _, _, _, _, false, rfl, .ty _, tb, kit_ty (by decide +kernel), _, rfl, ifF rfl (ifF rfl ⟨_, rfl, _, _, _, _, true, rfl, .ty _, tb, kit_ty (by decide +kernel), _, rfl, ifT rfl ⟨_, rfl, _, _, _, _, true, rfl, .ty _, ta, kit_ty (by decide +kernel), _, rfl, ifF rfl ?_⟩⟩)⟩
    refine ⟨_, rfl, a, _, rfl, .inr ha, _, rfl, b, _, rfl, .inr hb, rfl, _, rfl, ifF ?_ ?_⟩
    · rw [lx, ly]
      simp
    have p62 : (2 : Int) ^ 62 = 4611686018427387904 := by decide
    refine ⟨_, rfl, b, _, rfl, .inr hb, _, rfl, by omega, by omega, for_range (n := ((ys.length : Nat) : Int).toNat) (fun i σ H' => ∃ kk, σ = [some (.ref a), some (.ref b), none, none, kk] ∧ H' = H) ⟨none, rfl, rfl⟩ ?_ ?_⟩
    · rintro i σ H' hi ⟨kk, rfl, rfl⟩
      have hi' : i < ds.length := by omega
      obtain ⟨v, hv, dv⟩ := dpall_at da (List.getElem?_eq_getElem hi')
      obtain ⟨u, hu, du⟩ := dpall_at db (List.getElem?_eq_getElem hi')
      refine ⟨_, rfl, _, rfl, .inr (.inl ⟨a, _, _, v, rfl, rfl, ha, at_of (j := i) (by omega) hv, _, rfl, _, rfl, .inr (.inl ⟨b, _, _, u, rfl, rfl, hb, at_of (j := i) (by omega) hu, m, rfl, v, u, _, rfl, dv, du, hall _ (List.getElem_mem hi'), ?_⟩)⟩)⟩
      exact ⟨_, rfl, ifF rfl ⟨_, rfl, rfl⟩⟩
    · rintro σ H' ⟨kk, rfl, rfl⟩
      exact z
  | lst hl hall =>
    rename_i m ds
    cases hv with
    | lst ha da =>
    rename_i a xs
    cases hu with
    | lst hb db =>
    rename_i b ys
    have lx := dpall_len da
    have ly := dpall_len db
    have ta := sql_ty ha
    have tb := sql_ty hb
    refine ⟨_, rfl, rfl, _, rfl, ifF (dF nofun) ⟨_, rfl, _, _, _, _, false, rfl, .ty _, tb, kit_ty (by decide +kernel), _, rfl, ifF rfl ⟨_, rfl, _, _, _, _, false, rfl, .ty _, tb, kit_ty (by decide +kernel), _, rfl, ifF rfl ⟨_, rfl, _, _, _, _, false, rfl, .ty _, tb, kit_ty (by decide +kernel), _, rfl, ifF rfl ⟨_, rfl, _, _, _, _, false, rfl, .ty _, tb, kit_ty (by decide +kernel), _, rfl, ifF rfl ?_⟩⟩⟩⟩⟩
    refine ⟨_, rfl, _, _, _, _, true, rfl, .ty _, tb, kit_ty (by decide +kernel), _, rfl, ifT rfl ⟨_, rfl, _, _, _, _, true, rfl, .ty _, ta, kit_ty (by decide +kernel), _, rfl, ifF rfl ⟨_, rfl, _, _, _, _, false, rfl, .ty _, tb, kit_ty (by decide +kernel), _, rfl, ifF rfl (ifF rfl ?_)⟩⟩⟩
    refine ⟨_, rfl, a, _, rfl, .inl ha, _, rfl, b, _, rfl, .inl hb, rfl, _, rfl, ifF ?_ ?_⟩
    · rw [lx, ly]
      simp
    have p62 : (2 : Int) ^ 62 = 4611686018427387904 := by decide
    refine ⟨_, rfl, b, _, rfl, .inl hb, _, rfl, by omega, by omega, for_range (n := ((ys.length : Nat) : Int).toNat) (fun i σ H' => ∃ kk, σ = [some (.ref a), some (.ref b), none, none, kk] ∧ H' = H) ⟨none, rfl, rfl⟩ ?_ ?_⟩
    · rintro i σ H' hi ⟨kk, rfl, rfl⟩
      have hi' : i < ds.length := by omega
      obtain ⟨v, hv, dv⟩ := dpall_at da (List.getElem?_eq_getElem hi')
      obtain ⟨u, hu, du⟩ := dpall_at db (List.getElem?_eq_getElem hi')
      refine ⟨_, rfl, _, rfl, .inl ⟨a, _, _, v, rfl, rfl, ha, at_of (j := i) (by omega) hv, _, rfl, _, rfl, .inl ⟨b, _, _, u, rfl, rfl, hb, at_of (j := i) (by omega) hu, m, rfl, v, u, _, rfl, dv, du, hall _ (List.getElem_mem hi'), ?_⟩⟩⟩
      exact ⟨_, rfl, ifF rfl ⟨_, rfl, rfl⟩⟩
    · rintro σ H' ⟨kk, rfl, rfl⟩
      exact z
abbrev s__law_size : Stmt := top 54
abbrev N__law_size : List Str := ["_law_store_here", "_law_least", "_law_top", "_law_sort"]
theorem sc__law_size : FnScope N__law_size ["_law_store_here", "_law_least", "_law_top"] (defScope s__law_size) := ⟨rfl, rfl, rfl, by decide +kernel, rfl, by decide +kernel, by decide +kernel⟩
abbrev ps__law_size : List Str := ["_law_store_here", "_law_least", "_law_top"]
def spSize (K : PySem.W.Frag) (l : Addr) : Sp := fun vs H Q _ => ∃ (s : Addr) (lo hi : Int), vs = [.ref s, .int lo, .int hi] ∧ Sto l s H ∧ lo ≤ hi ∧ hi - lo < 2 ^ 32 ∧ ∀ (r : Int) H', lo ≤ r → r ≤ hi → Sto l s H' → Fr s H H' → Q (.int r) H'
theorem ok_size (F : Fn K mg "_law_size" s__law_size ps__law_size f fd) (d_law_take : Def P w K mg base k "_law_take" ["_law_store_here", "_law_many"] (spTake K l) f1 fd1) : Def P w K mg base (k + 1) "_law_size" ps__law_size (spSize K l) f fd := by
  refine ⟨F.F.ok sc__law_size (fun vs H Q E h => ?_) (fun cdv A outer s H vs Q E hr h => ?_), F.m, F.F.kp, F.b⟩
  · obtain ⟨_, _, _, rfl, _⟩ := h
    rfl
  obtain ⟨s, lo, hi, rfl, hS, h1, h2, z⟩ := h
  refine ⟨_, (pss_cons (ps_set (i := 3) sc__law_size.nd rfl (Or.inl rfl) (pcall d_law_take hr (pa_cons (pv 0) (pa_cons pe_int pa_nil))))
      (pss_cons (ps_if (pt_cmpR op_eq (pv 3) pe_int (nomark _))
        (pss_one (ps_ret (pv 1)))
        pss_nil)
      (pss_cons (ps_if (pt_cmpR op_eq (pv 3) pe_int (nomark _))
        (pss_one (ps_ret (pv 2)))
        pss_nil)
      (pss_one (ps_ret (pe_op op_add (pv 1) (pcall d_law_take hr (pa_cons (pv 0) (pa_cons (pe_op op_add (pe_op op_sub (pv 2) (pv 1)) pe_int) pa_nil))))))))), ?_⟩
  have p32 : (2 : Int) ^ 32 = 4294967296 := by decide
  have p64 : (2 : Int) ^ 64 = 18446744073709551616 := by decide
  refine ⟨_, rfl, s, 6, rfl, hS, by decide, fun r H1 r0 r1 S1 e1 => ?_⟩
  refine ⟨_, rfl, rfl, _, rfl, ifD (fun _ => ⟨_, rfl, z _ _ (by omega) h1 S1 e1⟩) (fun _ => ?_)⟩
  refine ⟨_, rfl, rfl, _, rfl, ifD (fun _ => ⟨_, rfl, z _ _ h1 (by omega) S1 e1⟩) (fun _ => ?_)⟩
  refine ⟨_, rfl, _, rfl, _, rfl, _, rfl, _, _, rfl, rfl, _, _, rfl, rfl, s, _, rfl, S1, by omega, fun r' H2 r2 r3 S2 e2 => ⟨_, _, rfl, rfl, ?_⟩⟩
  exact z _ _ (by omega) (by omega) S2 (e1.trans e2)
theorem ok_same (T : Bn mg) (F : Fn K mg "_law_same" s__law_same ps__law_same f fd) (d_law_is_int : Def P w K mg base k "_law_is_int" ["_law_value"] (spIsInt K) f1 fd1) : ∀ n, Def P w K mg base (k + n + 1) "_law_same" ps__law_same (spSame K n) f fd
  | 0 => ok_same1 T 0 F (d_law_is_int.up (Nat.le_refl _)) ⟨⟨fun vs H Q E h => by obtain ⟨m, h, _⟩ := h; omega, fun A outer s H args us vs Q E _ _ _ _ h => by obtain ⟨m, h, _⟩ := h; omega⟩, F.m, F.F.kp, F.b⟩
  | n + 1 => by
    have ih := ok_same T F d_law_is_int n
    exact ok_same1 T (n + 1) F (d_law_is_int.up (by omega)) ⟨ih.ok.imp fun vs H Q E h => by
      obtain ⟨m, h, q⟩ := h
      have e : m = n := by omega
      subst e
      exact q, F.m, F.F.kp, F.b⟩
end Vk
namespace Vk
open PySem L2 Vm
variable {l : Addr} {P : Program} {w : World} {K : PySem.W.Frag} {mg : Str → Option Value} {base : Heap} {k : Nat} {f f1 f2 f3 f4 f5 f6 f7 f8 f9 : Addr} {fd fd1 fd2 fd3 fd4 fd5 fd6 fd7 fd8 fd9 : FuncData}
/-! ### drawn rationals -/
def Qd (K : PySem.W.Frag) (m : Nat) (ok : Rat → Prop) (H : Hp) (v : V) : Prop := ∃ q, Rq K H v q ∧ Sz m q ∧ ok q
theorem Qd.same {m : Nat} {ok : Rat → Prop} {H H' : Hp} {v : V} (e : Same H H') (h : Qd K m ok H v) : Qd K m ok H' v := by
  obtain ⟨q, h, r⟩ := h
  exact ⟨q, h.same e, r⟩
theorem Qd.fr {m : Nat} {ok : Rat → Prop} {s : Addr} {H H' : Hp} {v : V} (e : Fr s H H') (hs : Sto l s H) (h : Qd K m ok H v) : Qd K m ok H' v := by
  obtain ⟨q, h, r⟩ := h
  exact ⟨q, h.fr e hs.some, r⟩
theorem Qd.new {m : Nat} {ok : Rat → Prop} {H : Hp} {t : Addr} (n d : Int) (q : Rat) (en : q.num = n) (ed : (q.den : Int) = d) (z : Sz m q) (o : ok q) : Qd K m ok (upd H t (.tup [.int n, .int d])) (.ref t) :=
  ⟨q, ⟨t, rfl, SqT.of (by rw [upd_same, en, ed])⟩, z, o⟩
theorem rq_new {H : Hp} {t : Addr} (n d : Int) (q : Rat) (en : q.num = n) (ed : (q.den : Int) = d) : Rq K (upd H t (.tup [.int n, .int d])) (.ref t) q := ⟨t, rfl, SqT.of (by rw [upd_same, en, ed])⟩
instance (k : Nat) (q : Rat) : Decidable (Sz k q) := inferInstanceAs (Decidable (_ ∧ _))
/-- a written pair: from then on a drawn rational -/
theorem newq {m : Nat} {ok : Rat → Prop} {H : Hp} {Q : V → Hp → Prop} (n d : Int) (q : Rat) (en : q.num = n) (ed : (q.den : Int) = d) (z : Sz m q) (o : ok q) (h : ∀ v H', Same H H' → Qd K m ok H' v → Q v H') : ∀ t, H t = none → Q (.ref t) (upd H t (.tup [.int n, .int d])) :=
  fun t ht => h _ _ (same_new ht _) (Qd.new n d q en ed z o)
def anyQ : Rat → Prop := fun _ => True
def posQ : Rat → Prop := fun q => 0 < q
instance (q : Rat) : Decidable (posQ q) := inferInstanceAs (Decidable (0 < q))
/-- a rational is drawn -/
def spDraw (K : PySem.W.Frag) (l : Addr) (m : Nat) (ok : Rat → Prop) : Sp := fun vs H Q _ => ∃ (s : Addr), vs = [.ref s] ∧ Sto l s H ∧ ∀ (v : V) H', Qd K m ok H' v → Sto l s H' → Fr s H H' → Q v H'
theorem mk_pos {n d : Int} (hn : 0 < n) (hd : 0 < d) : 0 < mkRat n d.toNat := by
  refine pos_of_num ?_
  have dn : d.toNat ≠ 0 := by omega
  rw [mk_num n dn]
  have g := Nat.gcd_le_left d.toNat (show 0 < n.natAbs by omega)
  have gp : 0 < Nat.gcd n.natAbs d.toNat := Nat.gcd_pos_of_pos_left _ (by omega)
  exact Int.ediv_pos_of_pos_of_dvd hn (by omega) (by
    have := Nat.gcd_dvd_left n.natAbs d.toNat
    have e : n = (n.natAbs : Int) := by omega
    rw [e]
    exact Int.natCast_dvd_natCast.mpr (by rw [Int.natAbs_natCast]; exact this))
theorem lt2 {i : Int} {b : Nat} (c : Nat) (h : i.natAbs < c) (e : c ≤ 2 ^ b) : i.natAbs < 2 ^ b := Nat.lt_of_lt_of_le h e
abbrev s__law_part : Stmt := top 64
abbrev N__law_part : List Str := ["_law_store_here", "_law_sort"]
theorem sc__law_part : FnScope N__law_part ["_law_store_here"] (defScope s__law_part) := ⟨rfl, rfl, rfl, by decide +kernel, rfl, by decide +kernel, by decide +kernel⟩
abbrev ps__law_part : List Str := ["_law_store_here"]
theorem ok_part (F : Fn K mg "_law_part" s__law_part ps__law_part f fd) (d_law_take : Def P w K mg base k "_law_take" ["_law_store_here", "_law_many"] (spTake K l) f1 fd1) (d_law_pick : Def P w K mg base k "_law_pick" ["_law_store_here", "_law_things"] (spPick K l) f2 fd2)
    (d_law_frac : Def P w K mg base k "_law_frac" ["_law_n", "_law_d"] (spFrac K) f3 fd3) : Def P w K mg base (k + 1) "_law_part" ps__law_part (spDraw K l 5 anyQ) f fd := by
  refine ⟨F.F.ok sc__law_part (fun vs H Q E h => ?_) (fun cdv A outer s H vs Q E hr h => ?_), F.m, F.F.kp, F.b⟩
  · obtain ⟨_, rfl, _⟩ := h
    rfl
  obtain ⟨s, rfl, hS, z⟩ := h
  refine ⟨_, (pss_cons (ps_set (i := 1) sc__law_part.nd rfl (Or.inl rfl) (pcall d_law_take hr (pa_cons (pv 0) (pa_cons pe_int pa_nil))))
      (pss_cons (ps_if (pt_cmpR op_lt (pv 1) pe_int (nomark _))
        (pss_one (ps_ret (pcall d_law_pick hr (pa_cons (pv 0) (pa_cons (pe_lst (pa_cons (pe_tup (pa_cons pe_int (pa_cons pe_int pa_nil))) (pa_cons (pe_tup (pa_cons pe_int (pa_cons pe_int pa_nil))) (pa_cons (pe_tup (pa_cons pe_int (pa_cons pe_int pa_nil))) (pa_cons (pe_tup (pa_cons (pe_un un_neg pe_int) (pa_cons pe_int pa_nil))) (pa_cons (pe_tup (pa_cons pe_int (pa_cons pe_int pa_nil))) (pa_cons (pe_tup (pa_cons (pe_un un_neg pe_int) (pa_cons pe_int pa_nil))) pa_nil))))))) pa_nil)))))
        pss_nil)
      (pss_one (ps_ret (pcall d_law_frac hr (pa_cons (pe_op op_sub (pcall d_law_take hr (pa_cons (pv 0) (pa_cons pe_int pa_nil))) pe_int) (pa_cons (pe_op op_add pe_int (pcall d_law_take hr (pa_cons (pv 0) (pa_cons pe_int pa_nil)))) pa_nil))))))), ?_⟩
  refine ⟨_, rfl, s, 6, rfl, hS, by decide, fun r H1 r0 r1 S1 e1 => ?_⟩
  refine ⟨_, rfl, _, _, rfl, rfl, _, rfl, ifD (fun _ => ?_) (fun _ => ?_)⟩
  · refine ⟨_, rfl, sz2, fun t1 h1 => ?_⟩
    have c1 := same_new h1 (.tup [.int 0, .int 1]); have q1 := Qd.new (K := K) (m := 5) (ok := anyQ) (H := H1) (t := t1) 0 1 (0) (by decide) (by decide) (by decide) trivial; generalize upd H1 t1 (.tup [.int 0, .int 1]) = G1 at c1 q1 ⊢
    refine ⟨sz2, fun t2 h2 => ?_⟩
    have c2 := same_new h2 (.tup [.int 0, .int 1]); have q2 := Qd.new (K := K) (m := 5) (ok := anyQ) (H := G1) (t := t2) 0 1 (0) (by decide) (by decide) (by decide) trivial; generalize upd G1 t2 (.tup [.int 0, .int 1]) = G2 at c2 q2 ⊢
    refine ⟨sz2, fun t3 h3 => ?_⟩
    have c3 := same_new h3 (.tup [.int 1, .int 1]); have q3 := Qd.new (K := K) (m := 5) (ok := anyQ) (H := G2) (t := t3) 1 1 (1) (by decide) (by decide) (by decide) trivial; generalize upd G2 t3 (.tup [.int 1, .int 1]) = G3 at c3 q3 ⊢
    refine ⟨_, rfl, sz2, fun t4 h4 => ?_⟩
    have c4 := same_new h4 (.tup [.int (-1), .int 1]); have q4 := Qd.new (K := K) (m := 5) (ok := anyQ) (H := G3) (t := t4) (-1) 1 (-1) (by decide) (by decide) (by decide) trivial; generalize upd G3 t4 (.tup [.int (-1), .int 1]) = G4 at c4 q4 ⊢
    refine ⟨sz2, fun t5 h5 => ?_⟩
    have c5 := same_new h5 (.tup [.int 1, .int 2]); have q5 := Qd.new (K := K) (m := 5) (ok := anyQ) (H := G4) (t := t5) 1 2 (mkRat 1 2) (by decide) (by decide) (by decide) trivial; generalize upd G4 t5 (.tup [.int 1, .int 2]) = G5 at c5 q5 ⊢
    refine ⟨_, rfl, sz2, fun t6 h6 => ?_⟩
    have c6 := same_new h6 (.tup [.int (-1), .int 2]); have q6 := Qd.new (K := K) (m := 5) (ok := anyQ) (H := G5) (t := t6) (-1) 2 (mkRat (-1) 2) (by decide) (by decide) (by decide) trivial; generalize upd G5 t6 (.tup [.int (-1), .int 2]) = G6 at c6 q6 ⊢
    refine ⟨sm6, fun p h7 => ?_⟩
    have c7 := same_new h7 (.lst [.ref t1, .ref t2, .ref t3, .ref t4, .ref t5, .ref t6])
    have d6 := c6.trans c7; have d5 := c5.trans d6; have d4 := c4.trans d5; have d3 := c3.trans d4; have d2 := c2.trans d3; have d1 := c1.trans d2
    have S7 := S1.same d1
    have q1 := q1.same d2; have q2 := q2.same d3; have q3 := q3.same d4; have q4 := q4.same d5; have q5 := q5.same d6; have q6 := q6.same c7
    refine ⟨s, p, _, rfl, S7, (S1.same (c1.trans (c2.trans (c3.trans (c4.trans (c5.trans c6)))))).ne h7, SqL.of upd_same, (by show 0 < 6; decide), (by show 6 < 2 ^ 32; decide), fun v H' hv S' e' => z _ _ ?_ S' (e1.trans ((Fr.of d1).trans e'))⟩
    refine Qd.fr e' S7 ?_
    simp only [List.mem_cons, List.mem_nil_iff, or_false] at hv
    rcases hv with rfl | rfl | rfl | rfl | rfl | rfl <;> assumption
  · refine ⟨_, rfl, s, 49, rfl, S1, by decide, fun r2 H2 r3 r4 S2 e2 => ⟨_, _, rfl, rfl, ?_⟩⟩
    refine ⟨_, rfl, s, 6, rfl, S2, by decide, fun r5 H3 r6 r7 S3 e3 => ⟨_, _, rfl, rfl, ?_⟩⟩
    refine ⟨_, _, 5, rfl, by omega, lt2 25 (by omega) (by decide), lt2 7 (by omega) (by decide), by decide, fun v H' e hv => z _ _ ⟨_, hv, sz_mk (by omega) ?_ ?_, trivial⟩ (S3.same e) (e1.trans (e2.trans (e3.trans (Fr.of e))))⟩
    · exact lt2 25 (by omega) (by decide)
    · have : (2 : Nat) ^ 5 = 32 := by decide
      omega
abbrev s__law_above : Stmt := top 65
abbrev N__law_above : List Str := ["_law_store_here"]
theorem sc__law_above : FnScope N__law_above ["_law_store_here"] (defScope s__law_above) := ⟨rfl, rfl, rfl, by decide +kernel, rfl, by decide +kernel, by decide +kernel⟩
abbrev ps__law_above : List Str := ["_law_store_here"]
theorem ok_above (F : Fn K mg "_law_above" s__law_above ps__law_above f fd) (d_law_take : Def P w K mg base k "_law_take" ["_law_store_here", "_law_many"] (spTake K l) f1 fd1) (d_law_frac : Def P w K mg base k "_law_frac" ["_law_n", "_law_d"] (spFrac K) f3 fd3) : Def P w K mg base (k + 1) "_law_above" ps__law_above (spDraw K l 5 posQ) f fd := by
  refine ⟨F.F.ok sc__law_above (fun vs H Q E h => ?_) (fun cdv A outer s H vs Q E hr h => ?_), F.m, F.F.kp, F.b⟩
  · obtain ⟨_, rfl, _⟩ := h
    rfl
  obtain ⟨s, rfl, hS, z⟩ := h
  refine ⟨_, (pss_cons (ps_if (pt_cmpR op_eq (pcall d_law_take hr (pa_cons (pv 0) (pa_cons pe_int pa_nil))) pe_int (nomark _))
        (pss_one (ps_ret (pe_tup (pa_cons pe_int (pa_cons pe_int pa_nil)))))
        pss_nil)
      (pss_one (ps_ret (pcall d_law_frac hr (pa_cons (pe_op op_add pe_int (pcall d_law_take hr (pa_cons (pv 0) (pa_cons pe_int pa_nil)))) (pa_cons (pe_op op_add pe_int (pcall d_law_take hr (pa_cons (pv 0) (pa_cons pe_int pa_nil)))) pa_nil)))))), ?_⟩
  refine ⟨_, rfl, s, 4, rfl, hS, by decide, fun r H1 r0 r1 S1 e1 => ?_⟩
  refine ⟨rfl, _, rfl, ifD (fun _ => ?_) (fun _ => ?_)⟩
  · exact ⟨sz2, fun t ht => z _ _ (Qd.new 1 1 1 rfl rfl (by decide) (by decide)) (S1.same (same_new ht _)) (e1.trans (Fr.of (same_new ht _)))⟩
  refine ⟨_, rfl, s, 24, rfl, S1, by decide, fun r2 H2 r3 r4 S2 e2 => ⟨_, _, rfl, rfl, ?_⟩⟩
  refine ⟨_, rfl, s, 6, rfl, S2, by decide, fun r5 H3 r6 r7 S3 e3 => ⟨_, _, rfl, rfl, ?_⟩⟩
  refine ⟨_, _, 5, rfl, by omega, lt2 25 (by omega) (by decide), lt2 7 (by omega) (by decide), by decide, fun v H' e hv => z _ _ ⟨_, hv, sz_mk (by omega) ?_ ?_, mk_pos (by omega) (by omega)⟩ (S3.same e) (e1.trans (e2.trans (e3.trans (Fr.of e))))⟩
  · exact lt2 25 (by omega) (by decide)
  · have : (2 : Nat) ^ 5 = 32 := by decide
    omega
abbrev s__law_pace : Stmt := top 68
abbrev N__law_pace : List Str := ["_law_store_here"]
theorem sc__law_pace : FnScope N__law_pace ["_law_store_here"] (defScope s__law_pace) := ⟨rfl, rfl, rfl, by decide +kernel, rfl, by decide +kernel, by decide +kernel⟩
abbrev ps__law_pace : List Str := ["_law_store_here"]
theorem ok_pace (F : Fn K mg "_law_pace" s__law_pace ps__law_pace f fd) (d_law_take : Def P w K mg base k "_law_take" ["_law_store_here", "_law_many"] (spTake K l) f1 fd1) (d_law_pick : Def P w K mg base k "_law_pick" ["_law_store_here", "_law_things"] (spPick K l) f2 fd2) (d_law_frac : Def P w K mg base k "_law_frac" ["_law_n", "_law_d"] (spFrac K) f3 fd3) : Def P w K mg base (k + 1) "_law_pace" ps__law_pace (spDraw K l 5 posQ) f fd := by
  refine ⟨F.F.ok sc__law_pace (fun vs H Q E h => ?_) (fun cdv A outer s H vs Q E hr h => ?_), F.m, F.F.kp, F.b⟩
  · obtain ⟨_, rfl, _⟩ := h
    rfl
  obtain ⟨s, rfl, hS, z⟩ := h
  refine ⟨_, (pss_cons (ps_if (pt_cmpR op_eq (pcall d_law_take hr (pa_cons (pv 0) (pa_cons pe_int pa_nil))) pe_int (nomark _))
        (pss_one (ps_ret (pcall d_law_pick hr (pa_cons (pv 0) (pa_cons (pe_lst (pa_cons (pe_tup (pa_cons pe_int (pa_cons pe_int pa_nil))) (pa_cons (pe_tup (pa_cons pe_int (pa_cons pe_int pa_nil))) (pa_cons (pe_tup (pa_cons pe_int (pa_cons pe_int pa_nil))) (pa_cons (pe_tup (pa_cons pe_int (pa_cons pe_int pa_nil))) (pa_cons (pe_tup (pa_cons pe_int (pa_cons pe_int pa_nil))) (pa_cons (pe_tup (pa_cons pe_int (pa_cons pe_int pa_nil))) pa_nil))))))) pa_nil)))))
        pss_nil)
      (pss_one (ps_ret (pcall d_law_frac hr (pa_cons (pe_op op_add pe_int (pcall d_law_take hr (pa_cons (pv 0) (pa_cons pe_int pa_nil)))) (pa_cons (pe_op op_add pe_int (pcall d_law_take hr (pa_cons (pv 0) (pa_cons pe_int pa_nil)))) pa_nil)))))), ?_⟩
  refine ⟨_, rfl, s, 2, rfl, hS, by decide, fun r H1 r0 r1 S1 e1 => ?_⟩
  refine ⟨rfl, _, rfl, ifD (fun _ => ?_) (fun _ => ?_)⟩
  · refine ⟨_, rfl, sz2, fun t1 h1 => ?_⟩
    have c1 := same_new h1 (.tup [.int 1, .int 1]); have q1 := Qd.new (K := K) (m := 5) (ok := posQ) (H := H1) (t := t1) 1 1 (1) (by decide) (by decide) (by decide) (by decide); generalize upd H1 t1 (.tup [.int 1, .int 1]) = G1 at c1 q1 ⊢
    refine ⟨sz2, fun t2 h2 => ?_⟩
    have c2 := same_new h2 (.tup [.int 1, .int 1]); have q2 := Qd.new (K := K) (m := 5) (ok := posQ) (H := G1) (t := t2) 1 1 (1) (by decide) (by decide) (by decide) (by decide); generalize upd G1 t2 (.tup [.int 1, .int 1]) = G2 at c2 q2 ⊢
    refine ⟨sz2, fun t3 h3 => ?_⟩
    have c3 := same_new h3 (.tup [.int 1, .int 2]); have q3 := Qd.new (K := K) (m := 5) (ok := posQ) (H := G2) (t := t3) 1 2 (mkRat 1 2) (by decide) (by decide) (by decide) (by decide); generalize upd G2 t3 (.tup [.int 1, .int 2]) = G3 at c3 q3 ⊢
    refine ⟨sz2, fun t4 h4 => ?_⟩
    have c4 := same_new h4 (.tup [.int 2, .int 1]); have q4 := Qd.new (K := K) (m := 5) (ok := posQ) (H := G3) (t := t4) 2 1 (2) (by decide) (by decide) (by decide) (by decide); generalize upd G3 t4 (.tup [.int 2, .int 1]) = G4 at c4 q4 ⊢
    refine ⟨sz2, fun t5 h5 => ?_⟩
    have c5 := same_new h5 (.tup [.int 9, .int 10]); have q5 := Qd.new (K := K) (m := 5) (ok := posQ) (H := G4) (t := t5) 9 10 (mkRat 9 10) (by decide) (by decide) (by decide) (by decide); generalize upd G4 t5 (.tup [.int 9, .int 10]) = G5 at c5 q5 ⊢
    refine ⟨sz2, fun t6 h6 => ?_⟩
    have c6 := same_new h6 (.tup [.int 11, .int 10]); have q6 := Qd.new (K := K) (m := 5) (ok := posQ) (H := G5) (t := t6) 11 10 (mkRat 11 10) (by decide) (by decide) (by decide) (by decide); generalize upd G5 t6 (.tup [.int 11, .int 10]) = G6 at c6 q6 ⊢
    refine ⟨sm6, fun p hp => ?_⟩
    have cp := same_new hp (.lst [.ref t1, .ref t2, .ref t3, .ref t4, .ref t5, .ref t6])
    have d6 := c6.trans cp
    have d5 := c5.trans d6
    have d4 := c4.trans d5
    have d3 := c3.trans d4
    have d2 := c2.trans d3
    have d1 := c1.trans d2
    have Sp := S1.same d1
    have np := (S1.same (c1.trans (c2.trans (c3.trans (c4.trans (c5.trans c6)))))).ne hp
    have q1 := q1.same d2
    have q2 := q2.same d3
    have q3 := q3.same d4
    have q4 := q4.same d5
    have q5 := q5.same d6
    have q6 := q6.same cp
    refine ⟨s, p, _, rfl, Sp, np, SqL.of upd_same, (by show 0 < 6; decide), (by show 6 < 2 ^ 32; decide), fun v H' hv S' e' => ?_⟩
    have qv : Qd K 5 posQ H' v := by
      refine Qd.fr e' Sp ?_
      simp only [List.mem_cons, List.mem_nil_iff, or_false] at hv
      rcases hv with rfl | rfl | rfl | rfl | rfl | rfl <;> assumption
    exact z _ _ qv S' (e1.trans ((Fr.of d1).trans e'))
  refine ⟨_, rfl, s, 30, rfl, S1, by decide, fun r2 H2 r3 r4 S2 e2 => ⟨_, _, rfl, rfl, ?_⟩⟩
  refine ⟨_, rfl, s, 12, rfl, S2, by decide, fun r5 H3 r6 r7 S3 e3 => ⟨_, _, rfl, rfl, ?_⟩⟩
  refine ⟨_, _, 5, rfl, by omega, lt2 31 (by omega) (by decide), lt2 13 (by omega) (by decide), by decide, fun v H' e hv => z _ _ ⟨_, hv, sz_mk (by omega) ?_ ?_, mk_pos (by omega) (by omega)⟩ (S3.same e) (e1.trans (e2.trans (e3.trans (Fr.of e))))⟩
  · exact lt2 31 (by omega) (by decide)
  · have : (2 : Nat) ^ 5 = 32 := by decide
    omega
/-- one rational in, one near it out -/
def spNear (K : PySem.W.Frag) (l : Addr) : Sp := fun vs H Q _ => ∃ (s : Addr) (x : V) (m : Nat), vs = [.ref s, x] ∧ Sto l s H ∧ m + 11 ≤ 9000 ∧ Qd K m anyQ H x ∧ ∀ (v : V) H', Qd K (m + 11) anyQ H' v → Sto l s H' → Fr s H H' → Q v H'
end Vk
namespace Vk
open PySem L2 Vm
variable {P : Program} {w : World} {K : PySem.W.Frag} {mg : Str → Option Value} {base : Heap} {k : Nat} {f f1 f2 f3 f4 f5 f6 f7 f8 f9 : Addr} {fd fd1 fd2 fd3 fd4 fd5 fd6 fd7 fd8 fd9 : FuncData}
/-! ### courses -/
structure Pc where
  s : Rat
  v : Rat
  r : Rat
def Pq (K : PySem.W.Frag) (H : Hp) (x : V) (p : Pc) : Prop := ∃ a xs xv xr, x = .ref a ∧ SqT K H a [xs, xv, xr] ∧ Rq K H xs p.s ∧ Rq K H xv p.v ∧ Rq K H xr p.r
theorem Pq.same {H H' : Hp} {x : V} {p : Pc} (e : Same H H') (h : Pq K H x p) : Pq K H' x p := by
  obtain ⟨a, xs, xv, xr, rfl, h, h1, h2, h3⟩ := h
  exact ⟨a, xs, xv, xr, rfl, e.sqt h, h1.same e, h2.same e, h3.same e⟩
theorem Pq.fr {s : Addr} {H H' : Hp} {x : V} {p : Pc} (e : Fr s H H') (hs : ∃ ys, H s = some (.lst ys)) (h : Pq K H x p) : Pq K H' x p := by
  obtain ⟨a, xs, xv, xr, rfl, h, h1, h2, h3⟩ := h
  exact ⟨a, xs, xv, xr, rfl, sqt_fr e hs h, h1.fr e hs, h2.fr e hs, h3.fr e hs⟩
def All2 {α : Type} (R : V → α → Prop) (xs : List V) (c : List α) : Prop := xs.length = c.length ∧ ∀ (i : Nat) x p, xs[i]? = some x → c[i]? = some p → R x p
theorem All2.nil {α : Type} {R : V → α → Prop} : All2 R [] [] := ⟨rfl, fun i x p h => by simp at h⟩
theorem All2.imp {α : Type} {R R' : V → α → Prop} {xs : List V} {c : List α} (h : All2 R xs c) (g : ∀ x p, R x p → R' x p) : All2 R' xs c := ⟨h.1, fun i x p a b => g _ _ (h.2 i x p a b)⟩
theorem All2.snoc {α : Type} {R : V → α → Prop} {xs : List V} {c : List α} {x : V} {p : α} (h : All2 R xs c) (r : R x p) : All2 R (xs ++ [x]) (c ++ [p]) := by
  refine ⟨by simp [h.1], fun i y q a b => ?_⟩
  by_cases hi : i < xs.length
  · rw [List.getElem?_append_left hi] at a
    rw [List.getElem?_append_left (by rw [← h.1]; exact hi)] at b
    exact h.2 i y q a b
  · rw [List.getElem?_append_right (by omega)] at a
    rw [List.getElem?_append_right (by rw [← h.1]; omega)] at b
    have e : i - xs.length = 0 := by
      have := (List.getElem?_eq_some_iff.mp a).1
      simp at this
      omega
    rw [e] at a
    rw [← h.1, e] at b
    cases a
    cases b
    exact r
theorem All2.at {α : Type} {R : V → α → Prop} {xs : List V} {c : List α} (h : All2 R xs c) {i : Nat} {p : α} (e : c[i]? = some p) : ∃ x, xs[i]? = some x ∧ R x p := by
  have hi := (List.getElem?_eq_some_iff.mp e).1
  rw [← h.1] at hi
  exact ⟨xs[i], List.getElem?_eq_getElem hi, h.2 i _ _ (List.getElem?_eq_getElem hi) e⟩
/-- a list at a holds the course c -/
def Cq (K : PySem.W.Frag) (H : Hp) (a : Addr) (c : List Pc) : Prop := ∃ xs, SqL K H a xs ∧ All2 (Pq K H) xs c
theorem Cq.same {H H' : Hp} {a : Addr} {c : List Pc} (e : Same H H') (h : Cq K H a c) : Cq K H' a c := by
  obtain ⟨xs, h, g⟩ := h
  exact ⟨xs, e.seq h, g.imp fun _ _ h => h.same e⟩
theorem Cq.fr {s : Addr} {H H' : Hp} {a : Addr} {c : List Pc} (e : Fr s H H') (hs : ∃ ys, H s = some (.lst ys)) (n : a ≠ s) (h : Cq K H a c) : Cq K H' a c := by
  obtain ⟨xs, h, g⟩ := h
  exact ⟨xs, seq_fr e n h, g.imp fun _ _ h => h.fr e hs⟩
/-- sizes: starts, values, rates -/
def Cz (i j l : Nat) (c : List Pc) : Prop := ∀ p ∈ c, Sz i p.s ∧ Sz j p.v ∧ Sz l p.r
/-- a course's form -/
def Cok (c : List Pc) : Prop := (∀ p ∈ c, 0 < p.r) ∧ ∀ (i : Nat) p q, c[i]? = some p → c[i + 1]? = some q → p.s < q.s
def tm (p : Pc) (y : Rat) : Rat := p.s + (y - p.v) / p.r
def before (c : List Pc) (k : Nat) (t : Rat) : Bool := match c[k]? with
  | none => true
  | some q => decide (t < q.s)
def hit (c : List Pc) (y : Rat) (k : Nat) : Option Rat := match c[k]? with
  | none => none
  | some p => if p.s ≤ tm p y ∧ before c (k + 1) (tm p y) = true then some (tm p y) else none
def hits (c : List Pc) (y : Rat) (n : Nat) : List Rat := (List.range n).filterMap (hit c y)
theorem hits_succ (c : List Pc) (y : Rat) (n : Nat) : hits c y (n + 1) = hits c y n ++ (hit c y n).toList := by
  unfold hits
  rw [List.range_succ, List.filterMap_append]
  cases h : hit c y n <;> simp [h]
abbrev s__law_is_frac : Stmt := top 62
abbrev N__law_is_frac : List Str := ["_law_value"]
theorem sc__law_is_frac : FnScope N__law_is_frac ["_law_value"] (defScope s__law_is_frac) := ⟨rfl, rfl, rfl, by decide +kernel, rfl, by decide +kernel, by decide +kernel⟩
abbrev ps__law_is_frac : List Str := ["_law_value"]
def spIsFrac (K : PySem.W.Frag) : Sp := fun vs H Q _ => ∃ (x : V) (q : Rat) (m : Nat), vs = [x] ∧ Rq K H x q ∧ Sz m q ∧ m ≤ 9000 ∧ ∀ H', Same H H' → Q (.bl true) H'
theorem ok_is_frac (T : Bn mg) (F : Fn K mg "_law_is_frac" s__law_is_frac ps__law_is_frac f fd) (d_law_is_int : Def P w K mg base k "_law_is_int" ["_law_value"] (spIsInt K) f1 fd1) (d_law_frac : Def P w K mg base k "_law_frac" ["_law_n", "_law_d"] (spFrac K) f2 fd2) :
    Def P w K mg base (k + 1) "_law_is_frac" ps__law_is_frac (spIsFrac K) f fd := by
  refine ⟨F.F.ok sc__law_is_frac (fun vs H Q E h => ?_) (fun cdv A outer s H vs Q E hr h => ?_), F.m, F.F.kp, F.b⟩
  · obtain ⟨x, q, m, rfl, _⟩ := h
    rfl
  obtain ⟨x, q, m, rfl, hx, zq, hm, z⟩ := h
  obtain ⟨a, rfl, ha⟩ := id hx
  refine ⟨_, (pss_cons (ps_if (PW.pt (pw_or (pt_not (pt_val (pe_callB call_isi (by rfl) T.isinstance_ (by decide +kernel) (pa_cons (pv 0) (pa_cons (pe_bltn (v := .ty "tuple") (by rfl) T.tuple_ (by decide +kernel) rfl) pa_nil))))) (pw_or1 (pt_cmpR op_ne (pe_callB call_len_seq (by rfl) T.len_ PySem.boot_len (pa_cons (pv 0) pa_nil)) pe_int (nomark _)))))
        (pss_one (ps_ret pe_bl))
        pss_nil)
      (pss_cons (ps_if (PW.pt (pw_or (pt_not (pt_val (pcall d_law_is_int hr (pa_cons (pe_ix ix_tup (pv 0) pe_int (fun _ _ => rfl)) pa_nil)))) (pw_or (pt_not (pt_val (pcall d_law_is_int hr (pa_cons (pe_ix ix_tup (pv 0) pe_int (fun _ _ => rfl)) pa_nil)))) (pw_or1 (pt_cmpR op_lt (pe_ix ix_tup (pv 0) pe_int (fun _ _ => rfl)) pe_int (nomark _))))))
        (pss_one (ps_ret pe_bl))
        pss_nil)
      (pss_one (ps_ret (pe_cmpR (op_eqD hr.units) (pcall d_law_frac hr (pa_cons (pe_ix ix_tup (pv 0) pe_int (fun _ _ => rfl)) (pa_cons (pe_ix ix_tup (pv 0) pe_int (fun _ _ => rfl)) pa_nil))) (pv 0) (nomark _)))))), ?_⟩
  have ta := sqt_ty ha
  have dp := q.den_pos
  refine ⟨_, rfl, _, _, _, _, true, rfl, .ty _, ta, kit_ty (by decide +kernel), _, rfl, ifF rfl ⟨_, rfl, a, _, rfl, .inr ha, rfl, _, rfl, ifF rfl ?_⟩⟩
  refine ⟨_, rfl, a, _, _, _, rfl, rfl, ha, at0 rfl, _, rfl, _, rfl, ifF rfl ⟨_, rfl, a, _, _, _, rfl, rfl, ha, at1 rfl, _, rfl, _, rfl, ifF rfl ⟨_, rfl, a, _, _, _, rfl, rfl, ha, at1 rfl, _, _, rfl, rfl, _, rfl, ifF (dF (by omega)) ?_⟩⟩⟩
  refine ⟨_, rfl, a, _, _, _, rfl, rfl, ha, at0 rfl, _, rfl, a, _, _, _, rfl, rfl, ha, at1 rfl, _, _, m, rfl, by omega, zq.1, dA zq, hm, fun r H' e hr => ?_⟩
  have er : mkRat q.num ((q.den : Int)).toNat = q := Rat.mkRat_self q
  rw [er] at hr
  refine ⟨_, rfl, _, _, hr.dp, (hx.same e).dp, sh_dq _, sh_dq _, ?_⟩
  rw [eqv_dq, dT rfl]
  exact z _ e
def spTimeOf (K : PySem.W.Frag) : Sp := fun vs H Q _ => ∃ (x y : V) (p : Pc) (q : Rat) (i j l m : Nat), vs = [x, y] ∧ Pq K H x p ∧ Rq K H y q ∧ Sz i p.s ∧ Sz j p.v ∧ Sz l p.r ∧ Sz m q ∧ 0 < p.r ∧ m + j + l + i + 3 ≤ 9000 ∧
  ∀ r H', Same H H' → Rq K H' r (tm p q) → Q r H'
abbrev s__end_of : Stmt := top 46
abbrev N__end_of : List Str := ["course", "at"]
theorem sc__end_of : FnScope N__end_of ["course", "at"] (defScope s__end_of) := ⟨rfl, rfl, rfl, by decide +kernel, rfl, by decide +kernel, by decide +kernel⟩
abbrev ps__end_of : List Str := ["course", "at"]
def endV (K : PySem.W.Frag) (H : Hp) (c : List Pc) (n : Nat) (v : V) : Prop := match c[n]? with
  | none => v = .non
  | some p => Rq K H v p.s
def spEndOf (K : PySem.W.Frag) : Sp := fun vs H Q _ => ∃ (a : Addr) (n : Nat) (c : List Pc), vs = [.ref a, .int n] ∧ Cq K H a c ∧ ∀ v, endV K H c (n + 1) v → Q v H
theorem ok_end_of (T : Bn mg) (F : Fn K mg "_end_of" s__end_of ps__end_of f fd) : Def P w K mg base (k + 1) "_end_of" ps__end_of (spEndOf K) f fd := by
  refine ⟨F.F.ok sc__end_of (fun vs H Q E h => ?_) (fun cdv A outer s H vs Q E hr h => ?_), F.m, F.F.kp, F.b⟩
  · obtain ⟨a, n, c, rfl, _⟩ := h
    rfl
  obtain ⟨a, n, c, rfl, ⟨xs, ha, hc⟩, z⟩ := h
  refine ⟨_, (pss_one (ps_ret (pe_ifExp (pt_cmpR op_lt (pe_op op_add (pv 1) pe_int) (pe_callB call_len_seq (by rfl) T.len_ PySem.boot_len (pa_cons (pv 0) pa_nil)) (nomark _)) (pe_ix ix_tup (pe_ix ix_list (pv 0) (pe_op op_add (pv 1) pe_int) (fun _ _ => rfl)) pe_int (fun _ _ => rfl)) pe_non))), ?_⟩
  have hl := hc.1
  refine ⟨_, rfl, _, _, rfl, rfl, _, rfl, a, _, rfl, .inl ha, _, _, rfl, rfl, _, rfl, ifD (fun g => ?_) (fun g => ?_)⟩
  · have hn : n + 1 < c.length := by omega
    obtain ⟨x, hx, b, vs, vv, vr, rfl, hb, hs, _⟩ := hc.at (List.getElem?_eq_getElem hn)
    refine ⟨_, rfl, _, rfl, _, _, rfl, rfl, a, _, _, _, rfl, rfl, ha, at_of (j := n + 1) (by omega) hx, b, _, _, _, rfl, rfl, hb, at0 rfl, z _ ?_⟩
    unfold endV
    rw [List.getElem?_eq_getElem hn]
    exact hs
  · refine z _ ?_
    unfold endV
    rw [List.getElem?_eq_none (by omega)]
end Vk
namespace Vk
open PySem L2 Vm
variable {P : Program} {w : World} {K : PySem.W.Frag} {mg : Str → Option Value} {base : Heap} {k : Nat} {f f1 f2 f3 f4 f5 f6 f7 f8 f9 : Addr} {fd fd1 fd2 fd3 fd4 fd5 fd6 fd7 fd8 fd9 : FuncData}
theorem for_enum {K : PySem.W.Frag} {a : Addr} {xs : List V} {g : TG} {tb : TS} {D : Ends} {σ : L2.St} {H : Hp} (Pv : Nat → L2.St → Hp → Prop) (h0 : Pv 0 σ H) (hq : ∀ i σ H, Pv i σ H → SqL K H a xs)
    (hs : ∀ (i : Nat) (x : V) (T : Addr) (σ : L2.St) (H : Hp), xs[i]? = some x → Pv i σ H → H T = none → g (.ref T) σ (upd H T (.tup [.int (i : Nat), x])) fun σ2 H2 => tb { D with nx := Pv (i + 1), ct := Pv (i + 1), bk := D.nx } σ2 H2) (hd : ∀ σ H, Pv xs.length σ H → D.nx σ H) :
    ∃ W : Nat → Nat → L2.St → Hp → Prop, (∃ m, W 0 m σ H) ∧ ∀ i m σ H, W i m σ H →
      ((Ite K a).stop i H ∧ D.nx σ H) ∨ ((Ite K a).go i H ∧ ∃ N : L2.St → Hp → Prop, (∀ σ' H', N σ' H' → ∃ m', m' < m ∧ W (i + 1) m' σ' H') ∧ ∀ v H', (Ite K a).yld i H v H' → g v σ H' fun σ2 H2 => tb { D with nx := N, ct := N, bk := D.nx } σ2 H2) := by
  refine ⟨fun i m σ H => m = xs.length - i ∧ i ≤ xs.length ∧ Pv i σ H, ⟨xs.length, rfl, Nat.zero_le _, h0⟩, ?_⟩
  rintro i m σ H ⟨rfl, hi, p⟩
  have qx := hq i σ H p
  by_cases hlt : i < xs.length
  · have hx : xs[i]? = some xs[i] := List.getElem?_eq_getElem hlt
    refine .inr ⟨⟨xs, _, qx, hx⟩, Pv (i + 1), fun σ' H' p' => ⟨xs.length - (i + 1), by omega, rfl, hlt, p'⟩, fun v H' y => ?_⟩
    obtain ⟨T, x', rfl, hT, rfl, f1⟩ := y
    exact hs i x' T σ H (f1 xs qx) p hT
  · have e : i = xs.length := by omega
    subst e
    exact .inl ⟨⟨xs, qx, Nat.le_refl _⟩, hd σ H p⟩
theorem sg_ge {p q : Rat} : 0 ≤ sg p q ↔ q ≤ p := by
  unfold sg
  split
  · rename_i h
    subst h
    simp [Rat.le_refl]
  · split
    · rename_i h1 h2
      constructor
      · intro h; omega
      · intro h; exact absurd (Rat.not_lt.mpr h) (fun g => g h2)
    · rename_i h1 h2
      constructor
      · intro _; exact Rat.not_lt.mp h2
      · intro _; omega
theorem sg_lt {p q : Rat} : sg p q < 0 ↔ p < q := by
  unfold sg
  split
  · rename_i h
    subst h
    constructor
    · intro h; omega
    · intro h; exact absurd h Rat.lt_irrefl
  · split
    · rename_i h1 h2
      exact ⟨fun _ => h2, fun _ => by omega⟩
    · rename_i h1 h2
      exact ⟨fun h => by omega, fun h => absurd h h2⟩
theorem same_upd {H H' : Hp} {D : Addr} (e : Same H H') (h : H D = none) (o : HO) : Same H (upd H' D o) := fun b u q => by rw [upd_ne (ne_of_none q h)]; exact e b u q
theorem hits_len (c : List Pc) (y : Rat) (n : Nat) : (hits c y n).length ≤ n := by
  have := List.length_filterMap_le (hit c y) (List.range n)
  rw [List.length_range] at this
  exact this
theorem le1000 {n : Nat} (h : n ≤ 1000) : n < sizeLine := Nat.lt_of_le_of_lt h (by decide)
def spTimes (K : PySem.W.Frag) : Sp := fun vs H Q _ => ∃ (a : Addr) (y : V) (c : List Pc) (q : Rat) (i j l m : Nat), vs = [.ref a, y] ∧ Cq K H a c ∧ Rq K H y q ∧ Cz i j l c ∧ Sz m q ∧ (∀ p ∈ c, 0 < p.r) ∧ c.length ≤ 1000 ∧ m + j + l + i + i + 4 ≤ 9000 ∧
  ∀ D us H', Same H H' → H D = none → H' D = some (.lst us) → All2 (Rq K H') us (hits c q c.length) → Q (.ref D) H'
end Vk
namespace Vk
open PySem L2 Vm
variable {P : Program} {w : World} {K : PySem.W.Frag} {mg : Str → Option Value} {base : Heap} {k : Nat} {f f1 f2 f3 f4 f5 f6 f7 f8 f9 : Addr} {fd fd1 fd2 fd3 fd4 fd5 fd6 fd7 fd8 fd9 : FuncData}
def optV (K : PySem.W.Frag) (H : Hp) (v : V) : Option Rat → Prop
  | none => v = .non
  | some q => Rq K H v q
def lim (c : List Pc) (n : Nat) : Option Rat := match c[n]? with
  | none => none
  | some p => match c[n + 1]? with
    | none => none
    | some q => some (p.v + p.r * (q.s - p.s))
def spLimit (K : PySem.W.Frag) : Sp := fun vs H Q _ => ∃ (a : Addr) (n : Nat) (c : List Pc) (i j l : Nat), vs = [.ref a, .int n] ∧ Cq K H a c ∧ n < c.length ∧ Cz i j l c ∧ i + i + l + j + 3 ≤ 9000 ∧ ∀ v H', Same H H' → optV K H' v (lim c n) → Q v H'
def on (t : Rat) (p : Pc) : Bool := !decide (t < p.s)
def nowf (c : List Pc) (t : Rat) : Option Rat := ((c.filter (on t)).getLast?).map fun p => p.v + p.r * (t - p.s)
theorem filter_more {α : Type} {c : List α} {i : Nat} {p : α} (g : α → Bool) (h : c[i]? = some p) : (c.take (i + 1)).filter g = (c.take i).filter g ++ (if g p = true then [p] else []) := by
  rw [List.take_add_one, h, List.filter_append]
  congr 1
  simp only [Option.toList]
  cases e : g p <;> simp [e]
abbrev s__law_now : Stmt := top 72
abbrev N__law_now : List Str := ["_law_course_here", "_law_t", "_law_row", "_law_piece"]
theorem sc__law_now : FnScope N__law_now ["_law_course_here", "_law_t"] (defScope s__law_now) := ⟨rfl, rfl, rfl, by decide +kernel, rfl, by decide +kernel, by decide +kernel⟩
abbrev ps__law_now : List Str := ["_law_course_here", "_law_t"]
def spNow (K : PySem.W.Frag) : Sp := fun vs H Q _ => ∃ (a : Addr) (y : V) (c : List Pc) (t : Rat) (i j l m : Nat), vs = [.ref a, y] ∧ Cq K H a c ∧ Rq K H y t ∧ Cz i j l c ∧ Sz m t ∧ c.length ≤ 1000 ∧ m + i + l + j + 3 ≤ 9000 ∧ ∀ v H', Same H H' → optV K H' v (nowf c t) → Q v H'
theorem ok_now (T : Bn mg) (F : Fn K mg "_law_now" s__law_now ps__law_now f fd) (d_law_below : Def P w K mg base k "_law_below" ["_law_a", "_law_b"] (spTest2 K fun p q => .bl (decide (p < q))) f4 fd4) (d_law_plus : Def P w K mg base k "_law_plus" ["_law_a", "_law_b"] (spOp2 K (· + ·)) f1 fd1) (d_law_times : Def P w K mg base k "_law_times" ["_law_a", "_law_b"] (spOp2 K (· * ·)) f2 fd2)
    (d_law_minus : Def P w K mg base k "_law_minus" ["_law_a", "_law_b"] (spOp2 K (· - ·)) f3 fd3) : Def P w K mg base (k + 1) "_law_now" ps__law_now (spNow K) f fd := by
  refine ⟨F.F.ok sc__law_now (fun vs H Q E h => ?_) (fun cdv A outer s H vs Q E hr h => ?_), F.m, F.F.kp, F.b⟩
  · obtain ⟨_, _, _, _, _, _, _, _, rfl, _⟩ := h
    rfl
  obtain ⟨a, y, c, t, i0, j0, l0, m0, rfl, hC, hy, zc, zt, hl, hb, z⟩ := h
  obtain ⟨xs, hx, hc⟩ := id hC
  refine ⟨_, (pss_cons (ps_setLc (i := 2) (own := [("_law_piece", 3)]) (g := gName 3) rfl sc__law_now.nd rfl rfl (sw_true rfl rfl rfl (by decide +kernel)) (pi_list (pv 0)) (blkOk_by (N := N__law_now) (sc := defScope s__law_now) (by decide +kernel)) (fun _ _ _ _ _ => pg_name (i := 3) sc__law_now.nd rfl (Or.inl rfl)) (fun _ _ _ _ _ => pts_one (pt_not (pt_val (pcall d_law_below hr (pa_cons (pv 1) (pa_cons (pe_ix (show IxR _ (rIxT K) from ix_tup) (pv 3) pe_int (fun _ _ => rfl)) pa_nil)))))) (fun _ _ _ _ _ => (pv 3)))
      (pss_cons (ps_if (pt_cmpR op_eq (pe_callB call_len_seq (by rfl) T.len_ PySem.boot_len (pa_cons (pv 2) pa_nil)) pe_int (nomark _))
        (pss_one (ps_ret pe_non))
        pss_nil)
      (pss_cons (ps_set (i := 3) sc__law_now.nd rfl (Or.inl rfl) (pe_ix ix_list (pv 2) (pe_op op_sub (pe_callB call_len_seq (by rfl) T.len_ PySem.boot_len (pa_cons (pv 2) pa_nil)) pe_int) (fun _ _ => rfl)))
      (pss_one (ps_ret (pcall d_law_plus hr (pa_cons (pe_ix ix_tup (pv 3) pe_int (fun _ _ => rfl)) (pa_cons (pcall d_law_times hr (pa_cons (pe_ix ix_tup (pv 3) pe_int (fun _ _ => rfl)) (pa_cons (pcall d_law_minus hr (pa_cons (pv 1) (pa_cons (pe_ix ix_tup (pv 3) pe_int (fun _ _ => rfl)) pa_nil))) pa_nil))) pa_nil)))))))), ?_⟩
  refine ⟨_, rfl, a, rfl, ⟨_, hx⟩, fun D hD => lc_list (xs := xs) (fun i H' => ∃ acc, H' D = some (.lst acc) ∧ Same H H' ∧ All2 (Pq K H') acc ((c.take i).filter (on t))) ⟨[], upd_same, same_new hD _, All2.nil⟩ (fun i H' _ h => by obtain ⟨_, _, s1, _⟩ := h; exact s1.seq hx) ?_ ?_⟩
  · rintro i x H' hxi ⟨acc, hD1, s1, hA⟩
    have hi : i < c.length := by rw [← hc.1]; exact (List.getElem?_eq_some_iff.mp hxi).1
    have hci : c[i]? = some c[i] := List.getElem?_eq_getElem hi
    have hpx := hc.2 i x _ hxi hci
    obtain ⟨p, ep⟩ : ∃ p, p = c[i] := ⟨_, rfl⟩
    rw [← ep] at hci hpx
    have hmem : p ∈ c := by rw [ep]; exact List.getElem_mem hi
    obtain ⟨zs, zv, zr⟩ := zc p hmem
    have hal : acc.length ≤ 1000 := by
      have h1 := hA.1
      have h2 := List.length_filter_le (on t) (c.take i)
      rw [List.length_take] at h2
      omega
    obtain ⟨b, bs, bv, br, rfl, hb1, r1, r2, r3⟩ := hpx.same s1
    refine ⟨rfl, _, rfl, _, rfl, b, _, _, _, rfl, rfl, hb1, at0 rfl, _, _, t, p.s, m0, i0, rfl, hy.same s1, r1, zt, zs, by omega, _, rfl, ?_⟩
    have em := filter_more (on t) hci
    by_cases g : t < p.s
    · have eo : on t p = false := by unfold on; rw [dT g]; rfl
      refine ifF (by rw [dT g]; rfl) ⟨acc, hD1, s1, ?_⟩
      rw [em, eo]
      simpa using hA
    · have eo : on t p = true := by unfold on; rw [dF g]; rfl
      refine ifT (by rw [dF g]; rfl) ⟨_, rfl, acc, hD1, le1000 hal, _, upd_same, same_upd s1 hD _, ?_⟩
      rw [em, eo]
      have fr : Fr D H' (upd H' D (.lst (acc ++ [.ref b]))) := Fr.upd _
      exact (hA.imp fun _ _ h => h.fr fr ⟨_, hD1⟩).snoc ((hpx.same s1).fr fr ⟨_, hD1⟩)
  · rintro H' ⟨acc, hD1, s1, hA⟩
    rw [List.take_of_length_le (by rw [hc.1]; exact Nat.le_refl _)] at hA
    have ha := hA.1
    refine ⟨_, rfl, D, _, rfl, .inl (SqL.of hD1), rfl, _, rfl, ifD (fun g => ?_) (fun g => ?_)⟩
    · have g' := V.int.inj g
      refine z _ _ s1 ?_
      have e : c.filter (on t) = [] := List.eq_nil_of_length_eq_zero (by omega)
      unfold nowf
      rw [e]
      rfl
    · have ga : acc.length ≠ 0 := fun e => g (by rw [e]; rfl)
      have hlast : (c.filter (on t))[acc.length - 1]? = some (c.filter (on t))[acc.length - 1] := List.getElem?_eq_getElem (by omega)
      obtain ⟨p, ep⟩ : ∃ p, p = (c.filter (on t))[acc.length - 1] := ⟨_, rfl⟩
      rw [← ep] at hlast
      obtain ⟨x, hx1, hp⟩ := hA.at hlast
      have hmem : p ∈ c := by rw [ep]; exact (List.mem_filter.mp (List.getElem_mem _)).1
      obtain ⟨zs, zv, zr⟩ := zc p hmem
      obtain ⟨b, bs, bv, br, rfl, hb1, r1, r2, r3⟩ := hp
      refine ⟨_, rfl, _, rfl, D, _, rfl, .inl (SqL.of hD1), _, _, rfl, rfl, D, _, _, _, rfl, rfl, SqL.of hD1, at_of (j := acc.length - 1) (by omega) hx1, ?_⟩
      refine ⟨_, rfl, b, _, _, _, rfl, rfl, hb1, at1 rfl, _, rfl, b, _, _, _, rfl, rfl, hb1, at2 rfl, _, rfl, _, rfl, b, _, _, _, rfl, rfl, hb1, at0 rfl, ?_⟩
      refine ⟨_, _, _, _, m0, i0, rfl, hy.same s1, r1, zt, zs, by omega, fun w1 H1 f1 g1 => ?_⟩
      refine ⟨_, _, _, _, l0, m0 + i0 + 1, rfl, r3.same f1, g1, zr, zt.sub zs, by omega, fun w2 H2 f2 g2 => ?_⟩
      refine ⟨_, _, _, _, j0, l0 + (m0 + i0 + 1), rfl, r2.same (f1.trans f2), g2, zv, zr.mul (zt.sub zs), by omega, fun w3 H3 f3 g3 => z _ _ (s1.trans (f1.trans (f2.trans f3))) ?_⟩
      unfold nowf
      rw [List.getLast?_eq_getElem?, ← ha, hlast]
      exact g3
end Vk
namespace Vk
open PySem L2 Vm
variable {l : Addr} {P : Program} {w : World} {K : PySem.W.Frag} {mg : Str → Option Value} {base : Heap} {k : Nat} {f f1 f2 f3 f4 f5 f6 f7 f8 f9 : Addr} {fd fd1 fd2 fd3 fd4 fd5 fd6 fd7 fd8 fd9 : FuncData}
abbrev s__law_ratio : Stmt := top 63
abbrev N__law_ratio : List Str := ["_law_store_here", "_law_top", "_law_sort"]
theorem sc__law_ratio : FnScope N__law_ratio ["_law_store_here", "_law_top"] (defScope s__law_ratio) := ⟨rfl, rfl, rfl, by decide +kernel, rfl, by decide +kernel, by decide +kernel⟩
abbrev ps__law_ratio : List Str := ["_law_store_here", "_law_top"]
def spRatio (K : PySem.W.Frag) (l : Addr) : Sp := fun vs H Q _ => ∃ (s : Addr) (top : Int), vs = [.ref s, .int top] ∧ Sto l s H ∧ 1 ≤ top ∧ top < 2 ^ 40 ∧ ∀ (v : V) H', Qd K 40 anyQ H' v → Sto l s H' → Fr s H H' → Q v H'
theorem int_q {H : Hp} {t : Addr} (n : Int) (h : n.natAbs < 2 ^ 40) : Qd K 40 anyQ (upd H t (.tup [.int n, .int 1])) (.ref t) := Qd.new n 1 (n : Rat) rfl rfl ⟨h, by show 1 < 2 ^ 40; decide⟩ trivial
theorem ok_ratio (F : Fn K mg "_law_ratio" s__law_ratio ps__law_ratio f fd) (d_law_take : Def P w K mg base k "_law_take" ["_law_store_here", "_law_many"] (spTake K l) f1 fd1) (d_law_pick : Def P w K mg base k "_law_pick" ["_law_store_here", "_law_things"] (spPick K l) f2 fd2)
    (d_law_frac : Def P w K mg base k "_law_frac" ["_law_n", "_law_d"] (spFrac K) f3 fd3) : Def P w K mg base (k + 1) "_law_ratio" ps__law_ratio (spRatio K l) f fd := by
  refine ⟨F.F.ok sc__law_ratio (fun vs H Q E h => ?_) (fun cdv A outer s H vs Q E hr h => ?_), F.m, F.F.kp, F.b⟩
  · obtain ⟨_, _, rfl, _⟩ := h
    rfl
  obtain ⟨s, top, rfl, hS, t1, t2, z⟩ := h
  have p40 : (2 : Int) ^ 40 = 1099511627776 := by decide
  have n40 : (2 : Nat) ^ 40 = 1099511627776 := by decide
  have p64 : (2 : Int) ^ 64 = 18446744073709551616 := by decide
  refine ⟨_, (pss_cons (ps_set (i := 2) sc__law_ratio.nd rfl (Or.inl rfl) (pcall d_law_take hr (pa_cons (pv 0) (pa_cons pe_int pa_nil))))
      (pss_cons (ps_if (pt_cmpR op_eq (pv 2) pe_int (nomark _))
        (pss_one (ps_ret (pe_tup (pa_cons pe_int (pa_cons pe_int pa_nil)))))
        pss_nil)
      (pss_cons (ps_if (pt_cmpR op_eq (pv 2) pe_int (nomark _))
        (pss_one (ps_ret (pe_tup (pa_cons (pcall d_law_pick hr (pa_cons (pv 0) (pa_cons (pe_lst (pa_cons pe_int (pa_cons (pe_op op_sub pe_int pe_int) (pa_cons (pv 1) (pa_cons (pe_op op_sub pe_int (pv 1)) pa_nil))))) pa_nil))) (pa_cons pe_int pa_nil)))))
        pss_nil)
      (pss_cons (ps_if (pt_cmpR op_eq (pv 2) pe_int (nomark _))
        (pss_one (ps_ret (pcall d_law_frac hr (pa_cons (pcall d_law_pick hr (pa_cons (pv 0) (pa_cons (pe_lst (pa_cons pe_int (pa_cons (pe_op op_sub pe_int pe_int) (pa_cons (pv 1) (pa_cons (pe_op op_sub pe_int (pv 1)) pa_nil))))) pa_nil))) (pa_cons (pv 1) pa_nil)))))
        pss_nil)
      (pss_cons (ps_if (pt_cmpR op_eq (pv 2) pe_int (nomark _))
        (pss_one (ps_ret (pe_tup (pa_cons (pe_op op_sub (pcall d_law_take hr (pa_cons (pv 0) (pa_cons (pe_op op_add (pe_op op_mul pe_int (pv 1)) pe_int) pa_nil))) (pv 1)) (pa_cons pe_int pa_nil)))))
        pss_nil)
      (pss_one (ps_ret (pcall d_law_frac hr (pa_cons (pe_op op_sub (pcall d_law_take hr (pa_cons (pv 0) (pa_cons (pe_op op_add (pe_op op_mul pe_int (pv 1)) pe_int) pa_nil))) (pv 1)) (pa_cons (pe_op op_add pe_int (pcall d_law_take hr (pa_cons (pv 0) (pa_cons (pv 1) pa_nil)))) pa_nil)))))))))), ?_⟩
  refine ⟨_, rfl, s, 6, rfl, hS, by decide, fun r H1 r0 r1 S1 e1 => ?_⟩
  refine ⟨_, rfl, rfl, _, rfl, ifD (fun _ => ?_) (fun _ => ?_)⟩
  · exact ⟨sz2, fun t ht => z _ _ (Qd.new 0 1 0 rfl rfl (by decide) trivial) (S1.same (same_new ht _)) (e1.trans (Fr.of (same_new ht _)))⟩
  refine ⟨_, rfl, rfl, _, rfl, ifD (fun _ => ?_) (fun _ => ?_)⟩
  · refine ⟨_, rfl, _, _, rfl, rfl, _, rfl, _, rfl, _, _, rfl, rfl, sm4, fun p hp => ?_⟩
    refine ⟨s, p, _, rfl, S1.same (same_new hp _), S1.ne hp, SqL.of upd_same, (by show 0 < 4; decide), (by show 4 < 2 ^ 32; decide), fun v H' hv S' e' => ?_⟩
    obtain ⟨n, rfl, hn⟩ : ∃ n : Int, v = .int n ∧ n.natAbs < 2 ^ 40 := by
      simp only [List.mem_cons, List.mem_nil_iff, or_false] at hv
      rcases hv with rfl | rfl | rfl | rfl
      · exact ⟨_, rfl, by omega⟩
      · exact ⟨_, rfl, by omega⟩
      · exact ⟨_, rfl, by omega⟩
      · exact ⟨_, rfl, by omega⟩
    exact ⟨sz2, fun t ht => z _ _ (int_q n hn) (S'.same (same_new ht _)) (e1.trans ((Fr.of (same_new hp _)).trans (e'.trans (Fr.of (same_new ht _)))))⟩
  refine ⟨_, rfl, rfl, _, rfl, ifD (fun _ => ?_) (fun _ => ?_)⟩
  · refine ⟨_, rfl, _, _, rfl, rfl, _, rfl, _, rfl, _, _, rfl, rfl, sm4, fun p hp => ?_⟩
    refine ⟨s, p, _, rfl, S1.same (same_new hp _), S1.ne hp, SqL.of upd_same, (by show 0 < 4; decide), (by show 4 < 2 ^ 32; decide), fun v H' hv S' e' => ?_⟩
    obtain ⟨n, rfl, hn⟩ : ∃ n : Int, v = .int n ∧ n.natAbs < 2 ^ 40 := by
      simp only [List.mem_cons, List.mem_nil_iff, or_false] at hv
      rcases hv with rfl | rfl | rfl | rfl
      · exact ⟨_, rfl, by omega⟩
      · exact ⟨_, rfl, by omega⟩
      · exact ⟨_, rfl, by omega⟩
      · exact ⟨_, rfl, by omega⟩
    refine ⟨_, rfl, n, top, 40, rfl, by omega, hn, by omega, by decide, fun v H'' e hv => z _ _ ⟨_, hv, sz_mk (by omega) hn (by omega), trivial⟩ (S'.same e) (e1.trans ((Fr.of (same_new hp _)).trans (e'.trans (Fr.of e))))⟩
  have m2 : CMul 2 top := .inl ⟨by decide, by decide⟩
  refine ⟨_, rfl, rfl, _, rfl, ifD (fun _ => ?_) (fun _ => ?_)⟩
  · refine ⟨_, rfl, _, rfl, _, _, rfl, rfl, m2, _, _, rfl, rfl, s, _, rfl, S1, by omega, fun r2 H2 r3 r4 S2 e2 => ⟨_, rfl, _, _, rfl, rfl, ?_⟩⟩
    exact ⟨sz2, fun t ht => z _ _ (int_q _ (by omega)) (S2.same (same_new ht _)) (e1.trans (e2.trans (Fr.of (same_new ht _))))⟩
  refine ⟨_, rfl, _, rfl, _, _, rfl, rfl, m2, _, _, rfl, rfl, s, _, rfl, S1, by omega, fun r2 H2 r3 r4 S2 e2 => ⟨_, rfl, _, _, rfl, rfl, ?_⟩⟩
  refine ⟨_, rfl, _, rfl, s, top, rfl, S2, by omega, fun r5 H3 r6 r7 S3 e3 => ⟨_, _, rfl, rfl, ?_⟩⟩
  exact ⟨_, _, 40, rfl, by omega, by omega, by omega, by decide, fun v H' e hv => z _ _ ⟨_, hv, sz_mk (by omega) (by omega) (by omega), trivial⟩ (S3.same e) (e1.trans (e2.trans (e3.trans (Fr.of e))))⟩
end Vk
namespace Vk
open PySem L2 Vm
variable {l : Addr} {P : Program} {w : World} {K : PySem.W.Frag} {mg : Str → Option Value} {base : Heap} {k : Nat} {f f1 f2 f3 f4 f5 f6 f7 f8 f9 : Addr} {fd fd1 fd2 fd3 fd4 fd5 fd6 fd7 fd8 fd9 : FuncData}
/-- while a list of things is being made at D -/
def Bun {α : Type} (R : Hp → V → α → Prop) (l s D : Addr) (H0 : Hp) (us : List V) (c : List α) (G : Hp) : Prop := Sto l s G ∧ Fr s H0 G ∧ D ≠ s ∧ D ≠ l ∧ H0 D = none ∧ G D = some (.lst us) ∧ All2 (R G) us c
section
variable {α : Type} {R : Hp → V → α → Prop} {s D : Addr} {H0 G G' : Hp} {us : List V} {c : List α}
/-- what R says outlives what becomes of a list -/
def Lasts (R : Hp → V → α → Prop) : Prop := ∀ {s : Addr} {H H' : Hp} {x : V} {p : α}, Fr s H H' → (∃ ys, H s = some (.lst ys)) → R H x p → R H' x p
theorem Bun.fr (h : Bun R l s D H0 us c G) (L : Lasts R) (e : Fr s G G') (S : Sto l s G') : Bun R l s D H0 us c G' := by
  obtain ⟨h1, h2, h3, h4, h5, h6, h7⟩ := h
  exact ⟨S, h2.trans e, h3, h4, h5, e _ _ h6 h3, h7.imp fun _ _ r => L e h1.some r⟩
theorem Bun.same (h : Bun R l s D H0 us c G) (L : Lasts R) (e : Same G G') : Bun R l s D H0 us c G' := h.fr L (Fr.of e) (h.1.same e)
theorem Bun.app {x : V} {p : α} (h : Bun R l s D H0 us c G) (L : Lasts R) (r : R G x p) : Bun R l s D H0 (us ++ [x]) (c ++ [p]) (upd G D (.lst (us ++ [x]))) := by
  obtain ⟨h1, h2, h3, h4, h5, h6, h7⟩ := h
  have fr : Fr D G (upd G D (.lst (us ++ [x]))) := Fr.upd _
  refine ⟨h1.upd h3 h4, fun b o hb hn => ?_, h3, h4, h5, upd_same, (h7.imp fun _ _ r => L fr ⟨_, h6⟩ r).snoc (L fr ⟨_, h6⟩ r)⟩
  rw [upd_ne (ne_of_none hb h5)]
  exact h2 b o hb hn
theorem Bun.start (S : Sto l s G) (e : Fr s H0 G) (hD : G D = none) : Bun R l s D H0 [] [] (upd G D (.lst [])) := by
  have nD := S.ne hD
  have f := same_new hD (.lst [])
  exact ⟨S.same f, e.trans (Fr.of f), nD, S.nl hD, e.free hD nD, upd_same, All2.nil⟩
end
theorem Bun.at {α : Type} {R : Hp → V → α → Prop} {s D : Addr} {H0 G : Hp} {us : List V} {c : List α} (h : Bun R l s D H0 us c G) : G D = some (.lst us) := h.2.2.2.2.2.1
theorem Bun.len {α : Type} {R : Hp → V → α → Prop} {s D : Addr} {H0 G : Hp} {us : List V} {c : List α} (h : Bun R l s D H0 us c G) : us.length = c.length := h.2.2.2.2.2.2.1
theorem Bun.all {α : Type} {R : Hp → V → α → Prop} {s D : Addr} {H0 G : Hp} {us : List V} {c : List α} (h : Bun R l s D H0 us c G) : All2 (R G) us c := h.2.2.2.2.2.2
theorem lastsP : Lasts (Pq K) := fun e hs h => h.fr e hs
theorem lastsQ : Lasts (Rq K) := fun e hs h => h.fr e hs
theorem Cok.snoc {c : List Pc} {x : Pc} (h : Cok c) (hx : ∀ p ∈ c, p.s < x.s) (r : 0 < x.r) : Cok (c ++ [x]) := by
  refine ⟨fun p hp => ?_, fun i p q e1 e2 => ?_⟩
  · rcases List.mem_append.mp hp with hp | hp
    · exact h.1 p hp
    · rw [List.mem_singleton.mp hp]
      exact r
  · by_cases hi : i + 1 < c.length
    · rw [List.getElem?_append_left (by omega)] at e1
      rw [List.getElem?_append_left hi] at e2
      exact h.2 i p q e1 e2
    · have hl := (List.getElem?_eq_some_iff.mp e2).1
      rw [List.length_append, List.length_singleton] at hl
      rw [List.getElem?_append_left (by omega)] at e1
      rw [List.getElem?_append_right (by omega)] at e2
      have e0 : i + 1 - c.length = 0 := by omega
      rw [e0] at e2
      cases e2
      exact hx p (List.mem_of_getElem? e1)
theorem Cz.snoc {i j m : Nat} {c : List Pc} {x : Pc} (h : Cz i j m c) (z : Sz i x.s ∧ Sz j x.v ∧ Sz m x.r) : Cz i j m (c ++ [x]) := fun p hp => by
  rcases List.mem_append.mp hp with hp | hp
  · exact h p hp
  · rw [List.mem_singleton.mp hp]
    exact z
theorem lt_add_pos {a b : Rat} (h : 0 < b) : a < a + b := by grind
abbrev s__law_course : Stmt := top 69
abbrev N__law_course : List Str := ["_law_store_here", "_law_many", "_law_fall", "_law_when_here", "_law_told_here", "_law_pace_here", "_law_course_here", "_law_k", "_law_step", "_law_sort"]
theorem sc__law_course : FnScope N__law_course ["_law_store_here", "_law_many", "_law_fall"] (defScope s__law_course) := ⟨rfl, rfl, rfl, by decide +kernel, rfl, by decide +kernel, by decide +kernel⟩
abbrev ps__law_course : List Str := ["_law_store_here", "_law_many", "_law_fall"]
def spCourse (K : PySem.W.Frag) (l : Addr) : Sp := fun vs H Q _ => ∃ (s : Addr) (many : Nat) (fall : Bool), vs = [.ref s, .int many, .bl fall] ∧ Sto l s H ∧ many ≤ 40 ∧
  ∀ D us c H', Bun (Pq K) l s D H us c H' → c.length = many → Cok c → Cz 245 925 5 c → Q (.ref D) H'
theorem ok_course (T : Bn mg) (F : Fn K mg "_law_course" s__law_course ps__law_course f fd) (d_law_part : Def P w K mg base k "_law_part" ["_law_store_here"] (spDraw K l 5 anyQ) f1 fd1) (d_law_pace : Def P w K mg base k "_law_pace" ["_law_store_here"] (spDraw K l 5 posQ) f2 fd2)
    (d_law_above : Def P w K mg base k "_law_above" ["_law_store_here"] (spDraw K l 5 posQ) f3 fd3) (d_law_plus : Def P w K mg base k "_law_plus" ["_law_a", "_law_b"] (spOp2 K (· + ·)) f4 fd4) (d_law_times : Def P w K mg base k "_law_times" ["_law_a", "_law_b"] (spOp2 K (· * ·)) f5 fd5)
    (d_law_minus : Def P w K mg base k "_law_minus" ["_law_a", "_law_b"] (spOp2 K (· - ·)) f6 fd6) (d_law_take : Def P w K mg base k "_law_take" ["_law_store_here", "_law_many"] (spTake K l) f7 fd7) :
    Def P w K mg base (k + 1) "_law_course" ps__law_course (spCourse K l) f fd := by
  refine ⟨F.F.ok sc__law_course (fun vs H Q E h => ?_) (fun cdv A outer s H vs Q E hr h => ?_), F.m, F.F.kp, F.b⟩
  · obtain ⟨_, _, _, rfl, _⟩ := h
    rfl
  obtain ⟨s, many, fall, rfl, hS, hm, z⟩ := h
  refine ⟨_, (pss_cons (ps_set (i := 3) sc__law_course.nd rfl (Or.inl rfl) (pcall d_law_part hr (pa_cons (pv 0) pa_nil)))
      (pss_cons (ps_set (i := 4) sc__law_course.nd rfl (Or.inl rfl) (pcall d_law_part hr (pa_cons (pv 0) pa_nil)))
      (pss_cons (ps_set (i := 5) sc__law_course.nd rfl (Or.inl rfl) (pcall d_law_pace hr (pa_cons (pv 0) pa_nil)))
      (pss_cons (ps_set (i := 6) sc__law_course.nd rfl (Or.inl rfl) (pe_lst pa_nil))
      (pss_cons (ps_for PassesOwn.never rfl (pi_range1 (by rfl) T.range_ (pa_cons (pv 1) pa_nil)) (pg_name (i := 7) sc__law_course.nd rfl (Or.inl rfl))
        (pss_cons (ps_expr (pe_bm PySem.F.plainAttrs_list PySem.F.slot_list_append PySem.F.type_list_append mt_append (pv 6) (pa_cons (pe_tup (pa_cons (pv 3) (pa_cons (pv 4) (pa_cons (pv 5) pa_nil)))) pa_nil)))
        (pss_cons (ps_set (i := 8) sc__law_course.nd rfl (Or.inl rfl) (pcall d_law_above hr (pa_cons (pv 0) pa_nil)))
        (pss_cons (ps_set (i := 3) sc__law_course.nd rfl (Or.inl rfl) (pcall d_law_plus hr (pa_cons (pv 3) (pa_cons (pv 8) pa_nil))))
        (pss_cons (ps_set (i := 4) sc__law_course.nd rfl (Or.inl rfl) (pcall d_law_plus hr (pa_cons (pv 4) (pa_cons (pcall d_law_times hr (pa_cons (pv 5) (pa_cons (pv 8) pa_nil))) pa_nil))))
        (pss_cons (ps_set (i := 9) sc__law_course.nd rfl (Or.inl rfl) (pcall d_law_take hr (pa_cons (pv 0) (pa_cons pe_int pa_nil))))
        (pss_cons (ps_if (PW.pt (pw_or (pt_cmpR op_eq (pv 9) pe_int (nomark _)) (pw_or1 (pt_cmpR op_eq (pv 9) pe_int (nomark _)))))
          (pss_one (ps_set (i := 4) sc__law_course.nd rfl (Or.inl rfl) (pcall d_law_plus hr (pa_cons (pv 4) (pa_cons (pcall d_law_above hr (pa_cons (pv 0) pa_nil)) pa_nil)))))
          pss_nil)
        (pss_cons (ps_if (PW.pt (pw_and (pt_cmpR op_eq (pv 9) pe_int (nomark _)) (pw_and1 (pt_val (pv 2)))))
          (pss_one (ps_set (i := 4) sc__law_course.nd rfl (Or.inl rfl) (pcall d_law_minus hr (pa_cons (pv 4) (pa_cons (pcall d_law_above hr (pa_cons (pv 0) pa_nil)) pa_nil)))))
          pss_nil)
        (pss_one (ps_if (PW.pt (pw_and (pt_cmpR op_ne (pv 9) pe_int (nomark _)) (pw_and1 (pt_cmpR op_ne (pv 9) pe_int (nomark _)))))
          (pss_one (ps_set (i := 5) sc__law_course.nd rfl (Or.inl rfl) (pcall d_law_pace hr (pa_cons (pv 0) pa_nil))))
          pss_nil))))))))))
      (pss_one (ps_ret (pv 6)))))))), ?_⟩
  refine ⟨_, rfl, s, rfl, hS, fun wv G1 qw S1 e1 => ?_⟩
  refine ⟨_, rfl, s, rfl, S1, fun tv G2 qt S2 e2 => ?_⟩
  refine ⟨_, rfl, s, rfl, S2, fun pv G3 qp S3 e3 => ?_⟩
  refine ⟨Nat.zero_le _, fun D hD => ?_⟩
  have p62 : (2 : Int) ^ 62 = 4611686018427387904 := by decide
  have B0 : Bun (Pq K) l s D H [] [] (upd G3 D (.lst [])) := Bun.start S3 (e1.trans (e2.trans e3)) hD
  have s4 := same_new hD (.lst [])
  obtain ⟨qw0, rw0, zw0, _⟩ := ((qw.fr e2 S1).fr e3 S2).same s4
  obtain ⟨qt0, rt0, zt0, _⟩ := (qt.fr e3 S2).same s4
  obtain ⟨qp0, rp0, zp0, pp0⟩ := qp.same s4
  refine ⟨_, rfl, _, rfl, by omega, by omega, for_range (n := ((many : Nat) : Int).toNat) (fun i σ G => ∃ (us : List V) (c : List Pc) (wv tv pv : V) (k1 k2 k3 : Option V) (qw qt qp : Rat), σ = [some (.ref s), some (.int many), some (.bl fall), some wv, some tv, some pv, some (.ref D), k1, k2, k3] ∧
      Bun (Pq K) l s D H us c G ∧ Rq K G wv qw ∧ Rq K G tv qt ∧ Rq K G pv qp ∧ Sz (5 + 6 * i) qw ∧ Sz (5 + 23 * i) qt ∧ Sz 5 qp ∧ 0 < qp ∧ c.length = i ∧ (∀ p ∈ c, p.s < qw) ∧ Cok c ∧ Cz 245 925 5 c)
    ⟨[], [], _, _, _, _, _, _, qw0, qt0, qp0, rfl, B0, rw0, rt0, rp0, zw0, zt0, zp0, pp0, rfl, nofun, ⟨nofun, fun i p q h => by simp at h⟩, nofun⟩ ?_ ?_⟩
  · rintro i σ G hi ⟨us, c, wv, tv, pv, k1, k2, k3, qw, qto, qp, rfl, B, rw1, rt1, rp1, zw, zt, zp, pp, hc, hlt, ok, cz⟩
    have hi' : i < 40 := by omega
    have hul : us.length ≤ 1000 := by have := B.len; omega
    -- the piece
    refine ⟨_, rfl, .inl ⟨rfl, _, SqL.of B.at⟩, _, rfl, _, rfl, _, rfl, sm3, fun T hT => ?_⟩
    have t1 := same_new hT (.tup [wv, tv, pv])
    have B1 := B.same lastsP t1
    refine ⟨D, _, _, rfl, rfl, B1.at, le1000 hul, ?_⟩
    have B2 := B1.app lastsP (x := .ref T) (p := ⟨qw, qto, qp⟩) ⟨T, wv, tv, pv, rfl, SqT.of upd_same, rw1.same t1, rt1.same t1, rp1.same t1⟩
    have f2 : Fr D (upd G T (.tup [wv, tv, pv])) (upd (upd G T (.tup [wv, tv, pv])) D (.lst (us ++ [.ref T]))) := Fr.upd _
    have rw2 := (rw1.same t1).fr f2 ⟨_, B1.at⟩
    have rt2 := (rt1.same t1).fr f2 ⟨_, B1.at⟩
    have rp2 := (rp1.same t1).fr f2 ⟨_, B1.at⟩
    -- the step; when; told
    refine ⟨_, rfl, s, rfl, B2.1, fun sv G3 qs0 S3 e3 => ?_⟩
    have B3 := B2.fr lastsP e3 S3
    obtain ⟨qs, rs, zs, ps⟩ := qs0
    have ps : 0 < qs := ps
    have rw3 := rw2.fr e3 B2.1.some
    have rt3 := rt2.fr e3 B2.1.some
    have rp3 := rp2.fr e3 B2.1.some
    refine ⟨_, rfl, _, rfl, _, _, qw, qs, _, 5, rfl, rw3, rs, zw, zs, by omega, fun wv' G4 e4 rw4 => ?_⟩
    refine ⟨_, rfl, _, rfl, _, rfl, _, _, qp, qs, 5, 5, rfl, rp3.same e4, rs.same e4, zp, zs, by omega, fun xv G5 e5 rx => ?_⟩
    refine ⟨_, _, qto, qp * qs, _, 10, rfl, rt3.same (e4.trans e5), rx, zt, zp.mul zs, by omega, fun tv' G6 e6 rt6 => ?_⟩
    have B6 := B3.same lastsP (e4.trans (e5.trans e6))
    refine ⟨_, rfl, s, 6, rfl, B6.1, by decide, fun so G7 so0 so1 S7 e7 => ?_⟩
    have B7 := B6.fr lastsP e7 S7
    have rw7 := (rw4.same (e5.trans e6)).fr e7 B6.1.some
    have rt7 := rt6.fr e7 B6.1.some
    have rp7 := (rp3.same (e4.trans (e5.trans e6))).fr e7 B6.1.some
    have zw7 : Sz (5 + 6 * (i + 1)) (qw + qs) := (zw.add zs).mono (by omega)
    have zt7 : Sz (16 + 23 * i) (qto + qp * qs) := (zt.add (zp.mul zs)).mono (by omega)
    have lw : qw < qw + qs := lt_add_pos ps
    dsimp only [gName]
    refine cut (fun σ' G' => ∃ (tv : V) (qt : Rat), σ' = [some (.ref s), some (.int many), some (.bl fall), some wv', some tv, some pv, some (.ref D), some (.int (0 + (i : Int))), some sv, some (.int so)] ∧ Bun (Pq K) l s D H (us ++ [.ref T]) (c ++ [⟨qw, qto, qp⟩]) G' ∧ Rq K G' wv' (qw + qs) ∧ Rq K G' tv qt ∧ Rq K G' pv qp ∧ Sz (22 + 23 * i) qt) ?_ ?_
    · rintro σ' G8 ⟨tv8, qt8, rfl, B8, rw8, rt8, rp8, zt8⟩
      refine cut (fun σ' G' => ∃ (tv : V) (qt : Rat), σ' = [some (.ref s), some (.int many), some (.bl fall), some wv', some tv, some pv, some (.ref D), some (.int (0 + (i : Int))), some sv, some (.int so)] ∧ Bun (Pq K) l s D H (us ++ [.ref T]) (c ++ [⟨qw, qto, qp⟩]) G' ∧ Rq K G' wv' (qw + qs) ∧ Rq K G' tv qt ∧ Rq K G' pv qp ∧ Sz (28 + 23 * i) qt) ?_ ?_
      · rintro σ' G9 ⟨tv9, qt9, rfl, B9, rw9, rt9, rp9, zt9⟩
        -- the last if
        have okc : Cok (c ++ [⟨qw, qto, qp⟩]) := ok.snoc hlt pp
        have czc : Cz 245 925 5 (c ++ [⟨qw, qto, qp⟩]) := cz.snoc ⟨zw.mono (by omega), zt.mono (by omega), zp⟩
        have ltc : ∀ p ∈ c ++ [(⟨qw, qto, qp⟩ : Pc)], p.s < qw + qs := fun p hp => by
          rcases List.mem_append.mp hp with hp | hp
          · have h1 := hlt p hp; grind
          · rw [List.mem_singleton.mp hp]
            exact lw
        have lenc : (c ++ [(⟨qw, qto, qp⟩ : Pc)]).length = i + 1 := by rw [List.length_append, hc]; rfl
        have stay : ∃ (us' : List V) (c : List Pc) (wv tv pv' : V) (k1 k2 k3 : Option V) (qw qt qp : Rat), [some (.ref s), some (.int many), some (.bl fall), some wv', some tv9, some pv, some (.ref D), some (.int (0 + (i : Int))), some sv, some (.int so)] = [some (.ref s), some (.int many), some (.bl fall), some wv, some tv, some pv', some (.ref D), k1, k2, k3] ∧
            Bun (Pq K) l s D H us' c G9 ∧ Rq K G9 wv qw ∧ Rq K G9 tv qt ∧ Rq K G9 pv' qp ∧ Sz (5 + 6 * (i + 1)) qw ∧ Sz (5 + 23 * (i + 1)) qt ∧ Sz 5 qp ∧ 0 < qp ∧ c.length = i + 1 ∧ (∀ p ∈ c, p.s < qw) ∧ Cok c ∧ Cz 245 925 5 c :=
          ⟨_, _, _, _, _, _, _, _, _, _, _, rfl, B9, rw9, rt9, rp9, zw7, zt9.mono (by omega), zp, pp, lenc, ltc, okc, czc⟩
        refine ⟨_, rfl, rfl, _, rfl, ?_⟩
        by_cases g1 : so = 0
        · refine ifF (by rw [dT (congrArg V.int g1)]; rfl) (ifF rfl stay)
        refine ifT (by rw [dF fun e => g1 (V.int.inj e)]; rfl) ⟨_, rfl, rfl, _, rfl, ?_⟩
        by_cases g2 : so = 4
        · exact ifF (by rw [dT (congrArg V.int g2)]; rfl) stay
        refine ifT (by rw [dF fun e => g2 (V.int.inj e)]; rfl) ⟨_, rfl, s, rfl, B9.1, fun pv' G10 qn S10 e10 => ?_⟩
        obtain ⟨qn, rn, zn, pn⟩ := qn
        exact ⟨_, _, _, _, _, _, _, _, _, _, _, rfl, B9.fr lastsP e10 S10, rw9.fr e10 B9.1.some, rt9.fr e10 B9.1.some, rn, zw7, zt9.mono (by omega), zn, pn, lenc, ltc, okc, czc⟩
      · intro key
        refine ⟨_, rfl, rfl, _, rfl, ?_⟩
        have skip := key _ _ ⟨tv8, qt8, rfl, B8, rw8, rt8, rp8, zt8.mono (by omega)⟩
        by_cases g1 : so = 4
        · refine ifT (dT (congrArg V.int g1)) ⟨_, rfl, _, rfl, ?_⟩
          cases fall with
          | false => exact ifF rfl skip
          | true =>
            refine ifT rfl ⟨_, rfl, _, rfl, s, rfl, B8.1, fun av G9 qa S9 e9 => ?_⟩
            obtain ⟨qa, ra, za, _⟩ := qa
            have B9 := B8.fr lastsP e9 S9
            refine ⟨_, _, qt8, qa, _, 5, rfl, rt8.fr e9 B8.1.some, ra, zt8, za, by omega, fun tv9 G10 e10 rt10 => ?_⟩
            exact key _ _ ⟨tv9, _, rfl, B9.same lastsP e10, (rw8.fr e9 B8.1.some).same e10, rt10, (rp8.fr e9 B8.1.some).same e10, (zt8.sub za).mono (by omega)⟩
        · exact ifF (dF fun e => g1 (V.int.inj e)) (ifF rfl skip)
    · intro key
      have skip := key _ _ ⟨tv', _, rfl, B7, rw7, rt7, rp7, zt7.mono (by omega)⟩
      have doit : ∀ (Qx : Prop), True → Qx → Qx := fun _ _ h => h
      refine ⟨_, rfl, rfl, _, rfl, ?_⟩
      by_cases g1 : so = 2
      · refine ifT (dT (congrArg V.int g1)) (ifT rfl ⟨_, rfl, _, rfl, s, rfl, B7.1, fun av G8 qa S8 e8 => ?_⟩)
        obtain ⟨qa, ra, za, _⟩ := qa
        refine ⟨_, _, _, qa, _, 5, rfl, rt7.fr e8 B7.1.some, ra, zt7, za, by omega, fun tv8 G9 e9 rt9 => ?_⟩
        exact key _ _ ⟨tv8, _, rfl, (B7.fr lastsP e8 S8).same lastsP e9, (rw7.fr e8 B7.1.some).same e9, rt9, (rp7.fr e8 B7.1.some).same e9, (zt7.add za).mono (by omega)⟩
      refine ifF (dF fun e => g1 (V.int.inj e)) ⟨_, rfl, rfl, _, rfl, ?_⟩
      by_cases g2 : so = 3
      · refine ifT (dT (congrArg V.int g2)) ⟨_, rfl, _, rfl, s, rfl, B7.1, fun av G8 qa S8 e8 => ?_⟩
        obtain ⟨qa, ra, za, _⟩ := qa
        refine ⟨_, _, _, qa, _, 5, rfl, rt7.fr e8 B7.1.some, ra, zt7, za, by omega, fun tv8 G9 e9 rt9 => ?_⟩
        exact key _ _ ⟨tv8, _, rfl, (B7.fr lastsP e8 S8).same lastsP e9, (rw7.fr e8 B7.1.some).same e9, rt9, (rp7.fr e8 B7.1.some).same e9, (zt7.add za).mono (by omega)⟩
      · exact ifF (dF fun e => g2 (V.int.inj e)) skip
  · rintro σ G ⟨us, c, wv, tv, pv, k1, k2, k3, qw, qt, qp, rfl, B, rw1, rt1, rp1, zw, zt, zp, pp, hc, hlt, ok, cz⟩
    exact ⟨_, rfl, z D us c G B (by omega) ok cz⟩
end Vk
namespace Vk
open PySem L2 Vm
variable {l : Addr} {P : Program} {w : World} {K : PySem.W.Frag} {mg : Str → Option Value} {base : Heap} {k : Nat} {f f1 f2 f3 f4 f5 f6 f7 f8 f9 : Addr} {fd fd1 fd2 fd3 fd4 fd5 fd6 fd7 fd8 fd9 : FuncData}
theorem All2.append {α : Type} {R : V → α → Prop} {xs ys : List V} {c d : List α} (h : All2 R xs c) (g : All2 R ys d) : All2 R (xs ++ ys) (c ++ d) := by
  refine ⟨by rw [List.length_append, List.length_append, h.1, g.1], fun i x p a b => ?_⟩
  have hl := h.1
  by_cases hi : i < xs.length
  · rw [List.getElem?_append_left hi] at a
    rw [List.getElem?_append_left (by omega)] at b
    exact h.2 i x p a b
  · rw [List.getElem?_append_right (by omega)] at a
    rw [List.getElem?_append_right (by omega), ← hl] at b
    exact g.2 _ x p a b
theorem All2.take {α : Type} {R : V → α → Prop} {xs : List V} {c : List α} (h : All2 R xs c) (m : Nat) : All2 R (xs.take m) (c.take m) := by
  refine ⟨by rw [List.length_take, List.length_take, h.1], fun i x p a b => ?_⟩
  rw [List.getElem?_take] at a b
  split at a
  · rename_i hi
    rw [if_pos hi] at b
    exact h.2 i x p a b
  · cases a
theorem All2.drop {α : Type} {R : V → α → Prop} {xs : List V} {c : List α} (h : All2 R xs c) (m : Nat) : All2 R (xs.drop m) (c.drop m) := by
  refine ⟨by rw [List.length_drop, List.length_drop, h.1], fun i x p a b => ?_⟩
  rw [List.getElem?_drop] at a b
  exact h.2 _ x p a b
theorem All2.one {α : Type} {R : V → α → Prop} {x : V} {p : α} (r : R x p) : All2 R [x] [p] := by
  have h : All2 R ([] ++ [x]) ([] ++ [p]) := All2.nil.snoc r
  exact h
def Asc (os : List Rat) : Prop := os.Pairwise (· < ·)
theorem asc_at {os : List Rat} (h : Asc os) {i j : Nat} {a b : Rat} (ha : os[i]? = some a) (hb : os[j]? = some b) (hij : i < j) : a < b := by
  obtain ⟨h1, rfl⟩ := List.getElem?_eq_some_iff.mp ha
  obtain ⟨h2, rfl⟩ := List.getElem?_eq_some_iff.mp hb
  exact List.pairwise_iff_getElem.mp h i j h1 h2 hij
/-- the place of one among os -/
def Spot (os : List Rat) (one : Rat) (j m : Nat) : Prop := m ≤ j ∧ ∀ (t : Nat) o, t < j → os[t]? = some o → (o < one ↔ t < m)
theorem rlt_trans {a b c : Rat} (h : a < b) (g : b < c) : a < c := by grind
theorem spot_next {os : List Rat} {one o : Rat} {j m : Nat} (ha : Asc os) (h : Spot os one j m) (ho : os[j]? = some o) : Spot os one (j + 1) (if o < one then j + 1 else m) := by
  split
  · rename_i g
    refine ⟨Nat.le_refl _, fun t x ht hx => ⟨fun _ => ht, fun _ => ?_⟩⟩
    by_cases e : t = j
    · subst e
      rw [ho] at hx
      cases hx
      exact g
    · exact rlt_trans (asc_at ha hx ho (by omega)) g
  · rename_i g
    refine ⟨by have := h.1; omega, fun t x ht hx => ?_⟩
    by_cases e : t = j
    · subst e
      rw [ho] at hx
      cases hx
      exact ⟨fun z => absurd z g, fun z => absurd z (by have := h.1; omega)⟩
    · exact h.2 t x (by omega) hx
theorem asc_insert {os : List Rat} {one : Rat} {m : Nat} (ha : Asc os) (h : Spot os one os.length m) (hn : os[m]? ≠ some one) : Asc (os.take m ++ [one] ++ os.drop m) := by
  have hlt : ∀ o ∈ os.take m, o < one := fun o ho => by
    obtain ⟨t, ht, rfl⟩ := List.mem_iff_getElem.mp ho
    rw [List.length_take] at ht
    have e : os[t]? = some (os.take m)[t] := by
      rw [List.getElem_take]
      exact List.getElem?_eq_getElem (by omega)
    exact (h.2 t _ (by omega) e).mpr (by omega)
  have hgt : ∀ o ∈ os.drop m, one < o := fun o ho => by
    obtain ⟨t, ht, rfl⟩ := List.mem_iff_getElem.mp ho
    rw [List.length_drop] at ht
    have e : os[m + t]? = some (os.drop m)[t] := by
      rw [List.getElem_drop]
      exact List.getElem?_eq_getElem (by omega)
    have h1 : ¬ (os.drop m)[t] < one := fun z => absurd ((h.2 (m + t) _ (by omega) e).mp z) (by omega)
    by_cases t0 : t = 0
    · have h2 : (os.drop m)[t] ≠ one := fun z => hn (by rw [← z, ← e, t0, Nat.add_zero])
      grind
    · have hm : m < os.length := by omega
      have h3 := asc_at ha (List.getElem?_eq_getElem hm) e (by omega)
      have h4 : ¬ os[m] < one := fun z => absurd ((h.2 m _ hm (List.getElem?_eq_getElem hm)).mp z) (by omega)
      grind
  unfold Asc
  rw [List.append_assoc, List.pairwise_append]
  refine ⟨ha.sublist (List.take_sublist _ _), ?_, fun a h1 b h2 => ?_⟩
  · rw [List.singleton_append, List.pairwise_cons]
    exact ⟨hgt, ha.sublist (List.drop_sublist _ _)⟩
  · rw [List.singleton_append] at h2
    rcases List.mem_cons.mp h2 with rfl | h2
    · exact hlt a h1
    · exact rlt_trans (hlt a h1) (hgt b h2)
abbrev s__law_ordered : Stmt := top 66
abbrev N__law_ordered : List Str := ["_law_fracs", "_law_row", "_law_one", "_law_spot", "_law_k"]
theorem sc__law_ordered : FnScope N__law_ordered ["_law_fracs"] (defScope s__law_ordered) := ⟨rfl, rfl, rfl, by decide +kernel, rfl, by decide +kernel, by decide +kernel⟩
abbrev ps__law_ordered : List Str := ["_law_fracs"]
def spOrdered (K : PySem.W.Frag) : Sp := fun vs H Q _ => ∃ (a : Addr) (xs : List V) (qs : List Rat), vs = [.ref a] ∧ SqL K H a xs ∧ All2 (Rq K H) xs qs ∧ (∀ q ∈ qs, Sz 40 q) ∧ qs.length ≤ 900 ∧
  ∀ D us os H', Same H H' → H D = none → H' D = some (.lst us) → All2 (Rq K H') us os → Asc os → (∀ o ∈ os, o ∈ qs) → os.length ≤ qs.length → (qs ≠ [] → os ≠ []) → Q (.ref D) H'
theorem ok_ordered (T : Bn mg) (F : Fn K mg "_law_ordered" s__law_ordered ps__law_ordered f fd) (d_law_below : Def P w K mg base k "_law_below" ["_law_a", "_law_b"] (spTest2 K fun p q => .bl (decide (p < q))) f1 fd1) :
    Def P w K mg base (k + 1) "_law_ordered" ps__law_ordered (spOrdered K) f fd := by
  refine ⟨F.F.ok sc__law_ordered (fun vs H Q E h => ?_) (fun cdv A outer s H vs Q E hr h => ?_), F.m, F.F.kp, F.b⟩
  · obtain ⟨_, _, _, rfl, _⟩ := h
    rfl
  obtain ⟨a, xs, qs, rfl, hx, hq, zq, hl, z⟩ := h
  refine ⟨_, (pss_cons (ps_set (i := 1) sc__law_ordered.nd rfl (Or.inl rfl) (pe_lst pa_nil))
      (pss_cons (ps_for PassesOwn.never rfl (pi_list (pv 0)) (pg_name (i := 2) sc__law_ordered.nd rfl (Or.inl rfl))
        (pss_cons (ps_set (i := 3) sc__law_ordered.nd rfl (Or.inl rfl) pe_int)
        (pss_cons (ps_for PassesOwn.never rfl (pi_range1 (by rfl) T.range_ (pa_cons (pe_callB call_len_seq (by rfl) T.len_ PySem.boot_len (pa_cons (pv 1) pa_nil)) pa_nil)) (pg_name (i := 4) sc__law_ordered.nd rfl (Or.inl rfl))
          (pss_one (ps_if (pt_val (pcall d_law_below hr (pa_cons (pe_ix ix_list (pv 1) (pv 4) (fun _ _ => rfl)) (pa_cons (pv 2) pa_nil))))
            (pss_one (ps_set (i := 3) sc__law_ordered.nd rfl (Or.inl rfl) (pe_op op_add (pv 4) pe_int)))
            pss_nil)))
        (pss_one (ps_if (PW.pt (pw_or (pt_cmpR op_eq (pv 3) (pe_callB call_len_seq (by rfl) T.len_ PySem.boot_len (pa_cons (pv 1) pa_nil)) (nomark _)) (pw_or1 (pt_cmpR (op_neD hr.units) (pe_ix ix_list (pv 1) (pv 3) (fun _ _ => rfl)) (pv 2) (nomark _)))))
          (pss_one (ps_expr (pe_bm PySem.F.plainAttrs_list PySem.F.slot_list_insert PySem.F.type_list_insert mt_insert (pv 1) (pa_cons (pv 3) (pa_cons (pv 2) pa_nil)))))
          pss_nil)))))
      (pss_one (ps_ret (pv 1))))), ?_⟩
  have p62 : (2 : Int) ^ 62 = 4611686018427387904 := by decide
  have p63 : (2 : Int) ^ 63 = 9223372036854775808 := by decide
  refine ⟨Nat.zero_le _, fun D hD => ?_⟩
  refine ⟨_, rfl, a, rfl, ⟨_, (same_new hD _).seq hx⟩, for_list (K := K) (a := a) (xs := xs) (fun i σ G => ∃ (us : List V) (os : List Rat) (k1 k2 k3 : Option V), σ = [some (.ref a), some (.ref D), k1, k2, k3] ∧ Same H G ∧ G D = some (.lst us) ∧ All2 (Rq K G) us os ∧ Asc os ∧ (∀ o ∈ os, o ∈ qs) ∧ os.length ≤ i ∧ (0 < i → os ≠ []))
    ⟨[], [], none, none, none, rfl, same_new hD _, upd_same, All2.nil, List.Pairwise.nil, nofun, Nat.le_refl _, fun h => absurd h (by omega)⟩ (fun i σ G _ h => by obtain ⟨_, _, _, _, _, _, s1, _⟩ := h; exact s1.seq hx) ?_ ?_⟩
  · rintro i x σ G hxi ⟨us, os, k1, k2, k3, rfl, s1, hD1, hA, asc, sub, ln, _⟩
    have hi : i < qs.length := by rw [← hq.1]; exact (List.getElem?_eq_some_iff.mp hxi).1
    have hqi : qs[i]? = some qs[i] := List.getElem?_eq_getElem hi
    have hmem : qs[i] ∈ qs := List.getElem_mem hi
    have rx := (hq.2 i x _ hxi hqi).same s1
    obtain ⟨one, eo⟩ : ∃ o, o = qs[i] := ⟨_, rfl⟩
    rw [← eo] at rx hmem
    have zo := zq one hmem
    have zos : ∀ o ∈ os, Sz 40 o := fun o ho => zq o (sub o ho)
    have hal := hA.1
    refine ⟨_, rfl, D, _, rfl, .inl (SqL.of hD1), _, rfl, by omega, by omega, for_range (n := ((us.length : Nat) : Int).toNat) (fun j σ G' => ∃ (m : Nat) (k3 : Option V), σ = [some (.ref a), some (.ref D), some x, some (.int m), k3] ∧ G' = G ∧ Spot os one j m)
      ⟨0, k3, rfl, rfl, Nat.le_refl _, fun t o h => absurd h (by omega)⟩ ?_ ?_⟩
    · rintro j σ G' hj ⟨m, k3, rfl, rfl, sp⟩
      have hj' : j < os.length := by omega
      have hoj : os[j]? = some os[j] := List.getElem?_eq_getElem hj'
      obtain ⟨y, hy, ry⟩ := hA.at hoj
      have sn := spot_next asc sp hoj
      refine ⟨_, rfl, _, rfl, D, _, _, y, rfl, rfl, SqL.of hD1, at_of (j := j) (by omega) hy, _, rfl, _, _, os[j], one, 40, 40, rfl, ry, rx, zos _ (List.getElem_mem hj'), zo, by decide, _, rfl, ifD (fun g => ?_) (fun g => ?_)⟩
      · rw [if_pos g] at sn
        refine ⟨_, rfl, _, _, rfl, rfl, j + 1, some (.int (0 + (j : Int))), ?_, rfl, sn⟩
        show [some (V.ref a), some (V.ref D), some x, some (V.int (0 + (j : Int) + 1)), some (V.int (0 + (j : Int)))] = _
        rw [show (0 + (j : Int) + 1) = ((j + 1 : Nat) : Int) by omega]
      · rw [if_neg g] at sn
        exact ⟨m, _, rfl, rfl, sn⟩
    · rintro σ G' ⟨m, k3, rfl, rfl, sp⟩
      have sp : Spot os one os.length m := by
        have e : ((us.length : Nat) : Int).toNat = os.length := by omega
        rw [e] at sp
        exact sp
      have hm := sp.1
      have put : os[m]? ≠ some one → ∃ (us' : List V) (os' : List Rat) (k1 k2 k3' : Option V), [some (.ref a), some (.ref D), some x, some (.int m), k3] = [some (.ref a), some (.ref D), k1, k2, k3'] ∧ Same H (upd G' D (.lst (us.take m ++ [x] ++ us.drop m))) ∧ (upd G' D (.lst (us.take m ++ [x] ++ us.drop m))) D = some (.lst us') ∧
          All2 (Rq K (upd G' D (.lst (us.take m ++ [x] ++ us.drop m)))) us' os' ∧ Asc os' ∧ (∀ o ∈ os', o ∈ qs) ∧ os'.length ≤ i + 1 ∧ (0 < i + 1 → os' ≠ []) := fun hn => by
        have fr : Fr D G' (upd G' D (.lst (us.take m ++ [x] ++ us.drop m))) := Fr.upd _
        have hA' := hA.imp fun _ _ h => Rq.fr fr ⟨_, hD1⟩ h
        refine ⟨_, os.take m ++ [one] ++ os.drop m, _, _, _, rfl, same_upd s1 hD _, upd_same, ((hA'.take m).append (All2.one (rx.fr fr ⟨_, hD1⟩))).append (hA'.drop m), asc_insert asc sp hn, fun o ho => ?_, ?_, fun _ e => ?_⟩
        · rcases List.mem_append.mp ho with ho | ho
          · rcases List.mem_append.mp ho with ho | ho
            · exact sub o (List.mem_of_mem_take ho)
            · rw [List.mem_singleton.mp ho]
              exact hmem
          · exact sub o (List.mem_of_mem_drop ho)
        · rw [List.length_append, List.length_append, List.length_take, List.length_drop, List.length_singleton]
          omega
        · have := congrArg List.length e
          rw [List.length_append, List.length_append, List.length_singleton, List.length_nil] at this
          omega
      refine ⟨_, rfl, _, rfl, D, _, rfl, .inl (SqL.of hD1), rfl, _, rfl, ifD (fun g => ifT rfl ?_) (fun g => ?_)⟩
      · have g' := V.int.inj g
        have hn : os[m]? ≠ some one := by rw [List.getElem?_eq_none (by omega)]; exact nofun
        exact ⟨_, rfl, .inl ⟨rfl, _, SqL.of hD1⟩, _, rfl, _, rfl, D, _, _, _, rfl, rfl, hD1, le1000 (by omega), by omega, by omega, put hn⟩
      · have g' : m ≠ us.length := fun e => g (by rw [e])
        have hmo : os[m]? = some os[m] := List.getElem?_eq_getElem (by omega)
        obtain ⟨y, hy, ry⟩ := hA.at hmo
        refine ⟨_, rfl, _, rfl, D, _, _, y, rfl, rfl, SqL.of hD1, at_of (j := m) rfl hy, _, rfl, _, _, ry.dp, rx.dp, sh_dq _, sh_dq _, _, rfl, ?_⟩
        rw [eqv_dq]
        by_cases e : os[m] = one
        · refine ifF (by rw [dT e]; rfl) ⟨us, os, _, _, _, rfl, s1, hD1, hA, asc, sub, by omega, fun _ z => ?_⟩
          have z2 := congrArg List.length z
          rw [List.length_nil] at z2
          omega
        · refine ifT (by rw [dF e]; rfl) ?_
          have hn : os[m]? ≠ some one := by rw [hmo]; exact fun z => e (Option.some.inj z)
          exact ⟨_, rfl, .inl ⟨rfl, _, SqL.of hD1⟩, _, rfl, _, rfl, D, _, _, _, rfl, rfl, hD1, le1000 (by omega), by omega, by omega, put hn⟩
  · rintro σ G ⟨us, os, k1, k2, k3, rfl, s1, hD1, hA, asc, sub, ln, ne⟩
    rw [hq.1] at ln
    refine ⟨_, rfl, z D us os G s1 hD hD1 hA asc sub ln fun e => ne ?_⟩
    rw [hq.1]
    exact List.length_pos_iff.mpr e
end Vk
namespace Vk
open PySem L2 Vm
variable {l : Addr} {P : Program} {w : World} {K : PySem.W.Frag} {mg : Str → Option Value} {base : Heap} {k : Nat} {f f1 f2 f3 f4 f5 f6 f7 f8 f9 : Addr} {fd fd1 fd2 fd3 fd4 fd5 fd6 fd7 fd8 fd9 : FuncData}
theorem tyes {σ : L2.St} {H : Hp} {A B : Hp → Prop} (h : A H) : tYes σ H (fun b H3 => if b = true then A H3 else B H3) := by
  show (if true = true then A H else B H)
  rw [if_pos rfl]
  exact h
abbrev s__law_wide_course : Stmt := top 71
abbrev N__law_wide_course : List Str := ["_law_store_here", "_law_starts", "_law_k", "_law_course_here", "_law_one", "_law_pace_here"]
theorem sc__law_wide_course : FnScope N__law_wide_course ["_law_store_here"] (defScope s__law_wide_course) := ⟨rfl, rfl, rfl, by decide +kernel, rfl, by decide +kernel, by decide +kernel⟩
abbrev ps__law_wide_course : List Str := ["_law_store_here"]
def spWide (K : PySem.W.Frag) (l : Addr) : Sp := fun vs H Q _ => ∃ (s : Addr), vs = [.ref s] ∧ Sto l s H ∧
  ∀ D us c H', Bun (Pq K) l s D H us c H' → 1 ≤ c.length → c.length ≤ 40 → Cok c → Cz 40 40 40 c → Q (.ref D) H'
theorem abs_nf {q : Rat} (h : q.num ≠ 0) : (mkRat (q.num.natAbs : Int) q.den).num = (q.num.natAbs : Int) ∧ (mkRat (q.num.natAbs : Int) q.den).den = q.den := nf q.den_nz (by rw [Int.natAbs_natCast]; exact q.reduced)
theorem ok_wide (T : Bn mg) (F : Fn K mg "_law_wide_course" s__law_wide_course ps__law_wide_course f fd) (d_law_ordered : Def P w K mg base k "_law_ordered" ["_law_fracs"] (spOrdered K) f1 fd1) (d_law_take : Def P w K mg base k "_law_take" ["_law_store_here", "_law_many"] (spTake K l) f2 fd2)
    (d_law_ratio : Def P w K mg base k "_law_ratio" ["_law_store_here", "_law_top"] (spRatio K l) f3 fd3) : Def P w K mg base (k + 1) "_law_wide_course" ps__law_wide_course (spWide K l) f fd := by
  refine ⟨F.F.ok sc__law_wide_course (fun vs H Q E h => ?_) (fun cdv A outer s H vs Q E hr h => ?_), F.m, F.F.kp, F.b⟩
  · obtain ⟨_, rfl, _⟩ := h
    rfl
  obtain ⟨s, rfl, hS, z⟩ := h
  refine ⟨_, (pss_cons (ps_set (i := 1) sc__law_wide_course.nd rfl (Or.inl rfl) (pcall d_law_ordered hr (pa_cons (pe_lc (own := [("_law_k", 2)]) (g := gName 2) (tt := tYes) rfl sc__law_wide_course.nd (pi_range1 (by rfl) T.range_ (pa_cons (pe_op op_add pe_int (pcall d_law_take hr (pa_cons (pv 0) (pa_cons pe_int pa_nil)))) pa_nil)) (blkOk_by (N := N__law_wide_course) (sc := defScope s__law_wide_course) (by decide +kernel)) (fun _ _ _ _ _ => pg_name (i := 2) sc__law_wide_course.nd rfl (Or.inl rfl)) (fun _ _ _ _ _ => pts_nil) (fun _ _ _ _ _ => (pcall d_law_ratio hr (pa_cons (pv 0) (pa_cons (pe_op op_sub (pe_op op_pow pe_int pe_int) pe_int) pa_nil))))) pa_nil)))
      (pss_cons (ps_set (i := 3) sc__law_wide_course.nd rfl (Or.inl rfl) (pe_lst pa_nil))
      (pss_cons (ps_for PassesOwn.never rfl (pi_list (pv 1)) (pg_name (i := 4) sc__law_wide_course.nd rfl (Or.inl rfl))
        (pss_cons (ps_set (i := 5) sc__law_wide_course.nd rfl (Or.inl rfl) (pcall d_law_ratio hr (pa_cons (pv 0) (pa_cons (pe_op op_sub (pe_op op_pow pe_int pe_int) pe_int) pa_nil))))
        (pss_cons (ps_set (i := 5) sc__law_wide_course.nd rfl (Or.inl rfl) (pe_ifExp (pt_cmpR op_ne (pe_ix ix_tup (pv 5) pe_int (fun _ _ => rfl)) pe_int (nomark _)) (pe_tup (pa_cons (pe_callB (call_max2 rfl) (by rfl) T.max_ (by decide +kernel) (pa_cons pe_int (pa_cons (pe_callB call_abs (by rfl) T.abs_ (by decide +kernel) (pa_cons (pe_ix ix_tup (pv 5) pe_int (fun _ _ => rfl)) pa_nil)) pa_nil))) (pa_cons (pe_ix ix_tup (pv 5) pe_int (fun _ _ => rfl)) pa_nil))) (pe_tup (pa_cons pe_int (pa_cons (pe_op op_sub (pe_op op_pow pe_int pe_int) pe_int) pa_nil)))))
        (pss_one (ps_expr (pe_bm PySem.F.plainAttrs_list PySem.F.slot_list_append PySem.F.type_list_append mt_append (pv 3) (pa_cons (pe_tup (pa_cons (pv 4) (pa_cons (pcall d_law_ratio hr (pa_cons (pv 0) (pa_cons (pe_op op_sub (pe_op op_pow pe_int pe_int) pe_int) pa_nil))) (pa_cons (pv 5) pa_nil)))) pa_nil)))))))
      (pss_one (ps_ret (pv 3)))))), ?_⟩
  have p62 : (2 : Int) ^ 62 = 4611686018427387904 := by decide
  have pw : (0 : Int) ≤ 12 ∧ (12 : Int) ≤ 1000000 ∧ (10 : Int).natAbs < 2 ^ 64 := ⟨by decide, by decide, by decide⟩
  have top : ∀ n : Int, n = 10 ^ ((12 : Int).toNat) - 1 → 1 ≤ n ∧ n < 2 ^ 40 := fun n e => by subst e; exact ⟨by decide, by decide⟩
  -- the starts
  refine ⟨_, rfl, s, 3, rfl, hS, by decide, fun r H1 r0 r1 S1 e1 => ⟨_, _, rfl, rfl, ?_⟩⟩
  obtain ⟨n, en⟩ : ∃ n : Nat, (n : Int) = 1 + r := ⟨(1 + r).toNat, by omega⟩
  refine ⟨_, rfl, by omega, by omega, fun D hD => lc_range (lo := 0) (n := (1 + r).toNat) (fun i G => ∃ (us : List V) (qs : List Rat), Bun (Rq K) l s D H us qs G ∧ qs.length = i ∧ ∀ q ∈ qs, Sz 40 q)
    ⟨[], [], Bun.start S1 e1 hD, rfl, nofun⟩ ?_ ?_⟩
  · rintro i G hi ⟨us, qs, B, hl, zq⟩
    have ha : us.length ≤ 1000 := by have := B.len; omega
    refine ⟨rfl, tyes ?_⟩
    refine ⟨_, rfl, _, _, rfl, rfl, pw, _, _, rfl, rfl, s, _, rfl, B.1, (top _ rfl).1, (top _ rfl).2, fun v G1 qv S' e' => ?_⟩
    obtain ⟨q, rq, zq1, _⟩ := qv
    have B1 := B.fr lastsQ e' S'
    refine ⟨us, B1.at, le1000 ha, _, _, B1.app lastsQ rq, by rw [List.length_append, hl]; rfl, fun x hx => ?_⟩
    rcases List.mem_append.mp hx with hx | hx
    · exact zq x hx
    · rw [List.mem_singleton.mp hx]
      exact zq1
  rintro G0 ⟨us, qs, B, hl, zq⟩
  refine ⟨D, us, qs, rfl, SqL.of B.at, B.all, zq, by omega, fun D2 us2 os G1 e2 hD2 hD2' hos asc sub len ne => ?_⟩
  have S1 := B.1.same e2
  have f1 : Fr s H G1 := B.2.1.trans (Fr.of e2)
  have n2s : D2 ≠ s := B.1.ne hD2
  have ln2 := hos.1
  refine ⟨Nat.zero_le _, fun D3 hD3 => ?_⟩
  have s3 := same_new hD3 (.lst [])
  have n23 : D2 ≠ D3 := fun e => by rw [e, hD3] at hD2'; cases hD2'
  refine ⟨_, rfl, D2, rfl, ⟨_, SqL.of (s3 _ _ hD2')⟩, for_list (K := K) (a := D2) (xs := us2) (fun i σ G => ∃ (us3 : List V) (c : List Pc) (k2 k4 k5 : Option V), σ = [some (.ref s), some (.ref D2), k2, some (.ref D3), k4, k5] ∧ Bun (Pq K) l s D3 H us3 c G ∧ G D2 = some (.lst us2) ∧ All2 (Rq K G) us2 os ∧ c.map (·.s) = os.take i ∧ Cok c ∧ Cz 40 40 40 c)
    ⟨[], [], _, _, _, rfl, Bun.start S1 f1 hD3, s3 _ _ hD2', hos.imp fun _ _ h => h.same s3, by rw [List.take_zero]; rfl, ⟨nofun, fun i p q h => by simp at h⟩, nofun⟩ (fun i σ G _ h => by obtain ⟨_, _, _, _, _, _, _, h, _⟩ := h; exact SqL.of h) ?_ ?_⟩
  · rintro i x σ G hxi ⟨us3, c, k2, k4, k5, rfl, B, h2, ho, hm, ok, cz⟩
    have hi : i < os.length := by rw [← ln2]; exact (List.getElem?_eq_some_iff.mp hxi).1
    have hoi : os[i]? = some os[i] := List.getElem?_eq_getElem hi
    have rx := ho.2 i x _ hxi hoi
    have hcl : c.length = i := by have := congrArg List.length hm; rw [List.length_map, List.length_take] at this; omega
    have hul := B.len
    refine ⟨_, rfl, _, _, rfl, rfl, pw, _, _, rfl, rfl, s, _, rfl, B.1, (top _ rfl).1, (top _ rfl).2, fun pv G2 qp S2 e2 => ?_⟩
    have B2 := B.fr lastsP e2 S2
    have h2' := e2 _ _ h2 n2s
    have ho2 := ho.imp fun _ _ h => Rq.fr e2 B.1.some h
    have rx2 := rx.fr e2 B.1.some
    obtain ⟨qp, rp, zp, _⟩ := qp
    dsimp only [gName]
    refine cut (fun σ' G' => ∃ (pv' : V), σ' = [some (.ref s), some (.ref D2), k2, some (.ref D3), some x, some pv'] ∧ Same G2 G' ∧ Qd K 40 posQ G' pv') ?_ ?_
    · rintro σ' G3 ⟨pv', rfl, e3, qp3⟩
      have B3 := B2.same lastsP e3
      refine ⟨_, rfl, .inl ⟨rfl, _, SqL.of B3.at⟩, _, rfl, _, rfl, _, _, rfl, rfl, pw, _, _, rfl, rfl, s, _, rfl, B3.1, (top _ rfl).1, (top _ rfl).2, fun vv G4 qv S4 e4 => ⟨_, rfl, sm3, fun T hT => ?_⟩⟩
      have B4 := B3.fr lastsP e4 S4
      have t5 := same_new hT (.tup [x, vv, pv'])
      have B5 := B4.same lastsP t5
      obtain ⟨q4, r4, z4, p4⟩ := qp3
      obtain ⟨q5, r5, z5, _⟩ := qv
      have rx4 := (rx2.same e3).fr e4 B3.1.some
      have B6 := B5.app lastsP (x := .ref T) (p := ⟨os[i], q5, q4⟩) ⟨T, x, vv, pv', rfl, SqT.of upd_same, rx4.same t5, r5.same t5, (r4.fr e4 B3.1.some).same t5⟩
      have fr6 : Fr D3 (upd G4 T (.tup [x, vv, pv'])) (upd (upd G4 T (.tup [x, vv, pv'])) D3 (.lst (us3 ++ [.ref T]))) := Fr.upd _
      have zo : Sz 40 os[i] := zq _ (sub _ (List.getElem_mem hi))
      refine ⟨D3, _, _, rfl, rfl, B5.at, le1000 (by omega), _, _, _, _, _, rfl, B6, ?_, ?_, ?_, ok.snoc (fun p hp => ?_) p4, cz.snoc ⟨zo, z5, z4⟩⟩
      · rw [upd_ne n23]
        exact t5 _ _ (e4 _ _ (e3 _ _ h2') n2s)
      · exact ho2.imp fun _ _ h => (((h.same e3).fr e4 B3.1.some).same t5).fr fr6 ⟨_, B5.at⟩
      · rw [List.map_append, hm, List.take_add_one, hoi]
        rfl
      · have hp' : p.s ∈ os.take i := by rw [← hm]; exact List.mem_map_of_mem hp
        obtain ⟨t, ht, et⟩ := List.mem_iff_getElem.mp hp'
        rw [List.length_take] at ht
        rw [List.getElem_take] at et
        exact asc_at asc (by rw [← et]; exact List.getElem?_eq_getElem (by omega)) hoi (by omega)
    · intro key
      obtain ⟨t, rfl, ht⟩ := id rp
      refine ⟨_, rfl, t, _, _, _, rfl, rfl, ht, at0 rfl, rfl, _, rfl, ?_⟩
      by_cases g : qp.num = 0
      · refine ifF (by rw [dT (congrArg V.int g)]; rfl) ⟨_, _, rfl, rfl, pw, _, _, rfl, rfl, sz2, fun T hT => ?_⟩
        exact key _ _ ⟨_, rfl, same_new hT _, Qd.new 1 _ (mkRat 1 (10 ^ 12 - 1)) (by decide +kernel) (by decide +kernel) (by decide +kernel) (by decide +kernel)⟩
      · refine ifT (by rw [dF fun e => g (V.int.inj e)]; rfl) ⟨_, rfl, t, _, _, _, rfl, rfl, ht, at0 rfl, _, rfl, _, _, rfl, _, rfl, t, _, _, _, rfl, rfl, ht, at1 rfl, sz2, fun T hT => ?_⟩
        have nfq := abs_nf g
        refine key _ _ ⟨_, rfl, same_new hT _, Qd.new _ _ (mkRat (qp.num.natAbs : Int) qp.den) ?_ ?_ ?_ ?_⟩
        · rw [nfq.1]
          (repeat' split) <;> omega
        · rw [nfq.2]
        · exact ⟨by rw [nfq.1, Int.natAbs_natCast]; exact zp.1, by rw [nfq.2]; exact zp.2⟩
        · exact pos_of_num (by rw [nfq.1]; omega)
  · rintro σ G ⟨us3, c, k2, k4, k5, rfl, B, h2, ho, hm, ok, cz⟩
    rw [ln2, List.take_length] at hm
    have hcl := congrArg List.length hm
    rw [List.length_map] at hcl
    have on := ne (fun e => by rw [e] at hl; simp at hl; omega)
    have := List.length_pos_iff.mpr on
    exact ⟨_, rfl, z D3 us3 c G B (by omega) (by omega) ok cz⟩
end Vk
namespace Vk
open PySem L2 Vm
/-! ### the mathematics of hits -/
theorem cok_lt {c : List Pc} (h : Cok c) : ∀ {j i : Nat} {p q : Pc}, i < j → c[i]? = some p → c[j]? = some q → p.s < q.s
  | 0, i, p, q, hij, _, _ => absurd hij (by omega)
  | j + 1, i, p, q, hij, hp, hq => by
    have hj : j < c.length := by have := (List.getElem?_eq_some_iff.mp hq).1; omega
    have e : c[j]? = some c[j] := List.getElem?_eq_getElem hj
    have h2 := h.2 j _ _ e hq
    by_cases hi : i = j
    · subst hi
      rw [e] at hp
      cases hp
      exact h2
    · exact rlt_trans (cok_lt h (by omega) hp e) h2
theorem hit_some {c : List Pc} {q t : Rat} {k : Nat} (h : hit c q k = some t) : ∃ p, c[k]? = some p ∧ t = tm p q ∧ p.s ≤ t ∧ before c (k + 1) t = true := by
  unfold hit at h
  cases e : c[k]? with
  | none => rw [e] at h; cases h
  | some p =>
    rw [e] at h
    dsimp only at h
    split at h
    · rename_i g
      cases h
      exact ⟨p, rfl, rfl, g.1, g.2⟩
    · cases h
/-- t lies in the k-th stretch -/
def inI (c : List Pc) (k : Nat) (t : Rat) : Bool := (match c[k]? with
  | none => false
  | some p => !decide (t < p.s)) && before c (k + 1) t
theorem before_lt {c : List Pc} {k : Nat} {t : Rat} {p : Pc} (h : before c k t = true) (e : c[k]? = some p) : t < p.s := by
  unfold before at h
  rw [e] at h
  exact of_decide_eq_true h
theorem hit_in {c : List Pc} {q t : Rat} {k : Nat} (h : hit c q k = some t) : inI c k t = true := by
  obtain ⟨p, e, _, h1, h2⟩ := hit_some h
  unfold inI
  rw [e, h2]
  have : ¬ t < p.s := by grind
  simp [this]
theorem hit_out {c : List Pc} (ok : Cok c) {q t : Rat} {k n : Nat} (h : hit c q n = some t) (hk : k ≠ n) : inI c k t = false := by
  obtain ⟨p, e, _, h1, h2⟩ := hit_some h
  unfold inI
  cases e2 : c[k]? with
  | none => rfl
  | some p2 =>
    dsimp only
    by_cases g : k < n
    · have hk1 : k + 1 < c.length := by have := (List.getElem?_eq_some_iff.mp e).1; omega
      have e3 : c[k + 1]? = some c[k + 1] := List.getElem?_eq_getElem hk1
      have : c[k + 1].s ≤ p.s := by
        by_cases g2 : k + 1 = n
        · subst g2
          rw [e3] at e
          cases e
          exact Rat.le_refl
        · have := cok_lt ok (show k + 1 < n by omega) e3 e
          grind
      have nb : before c (k + 1) t = false := by
        unfold before
        rw [e3]
        exact dF (by grind)
      rw [nb, Bool.and_false]
    · have h3 : before c (n + 1) t = true := h2
      have hn1 : n + 1 < c.length := by have := (List.getElem?_eq_some_iff.mp e2).1; omega
      have e3 : c[n + 1]? = some c[n + 1] := List.getElem?_eq_getElem hn1
      have h4 := before_lt h3 e3
      have : c[n + 1].s ≤ p2.s := by
        by_cases g2 : n + 1 = k
        · subst g2
          rw [e3] at e2
          cases e2
          exact Rat.le_refl
        · have := cok_lt ok (show n + 1 < k by omega) e3 e2
          grind
      have : t < p2.s := by grind
      simp [this]
theorem hits_in {c : List Pc} (ok : Cok c) (q : Rat) (k : Nat) : ∀ n, (hits c q n).filter (inI c k) = if k < n then (hit c q k).toList else []
  | 0 => by simp [hits]
  | n + 1 => by
    rw [hits_succ, List.filter_append, hits_in ok q k n]
    cases h : hit c q n with
    | none =>
      simp only [Option.toList, List.filter_nil, List.append_nil]
      by_cases e : k = n
      · subst e
        rw [if_neg (by omega), if_pos (by omega), h]
      · by_cases g : k < n
        · rw [if_pos g, if_pos (by omega)]
        · rw [if_neg g, if_neg (by omega)]
    | some t =>
      simp only [Option.toList]
      by_cases e : k = n
      · subst e
        rw [if_neg (by omega), if_pos (by omega), h, List.nil_append]
        simp [hit_in h]
      · have := hit_out ok h e
        simp only [List.filter_cons, this, Bool.false_eq_true, if_false, List.filter_nil, List.append_nil]
        by_cases g : k < n
        · rw [if_pos g, if_pos (by omega)]
        · rw [if_neg g, if_neg (by omega)]
theorem hits_mem {c : List Pc} {q t : Rat} {n : Nat} (h : t ∈ hits c q n) : ∃ k, k < n ∧ hit c q k = some t := by
  unfold hits at h
  obtain ⟨k, hk, e⟩ := List.mem_filterMap.mp h
  exact ⟨k, List.mem_range.mp hk, e⟩
theorem hits_asc {c : List Pc} (ok : Cok c) (q : Rat) : ∀ n, Asc (hits c q n)
  | 0 => by unfold hits; exact List.Pairwise.nil
  | n + 1 => by
    rw [hits_succ]
    unfold Asc
    rw [List.pairwise_append]
    refine ⟨hits_asc ok q n, ?_, fun a ha b hb => ?_⟩
    · cases hit c q n <;> simp [Option.toList]
    · cases h : hit c q n with
      | none => rw [h] at hb; cases hb
      | some t =>
        rw [h] at hb
        simp only [Option.toList, List.mem_singleton] at hb
        subst hb
        obtain ⟨k, hk, e⟩ := hits_mem ha
        obtain ⟨p, e1, _, g1, g2⟩ := hit_some e
        obtain ⟨p2, e2, _, g3, _⟩ := hit_some h
        have hn := (List.getElem?_eq_some_iff.mp e2).1
        have e3 : c[k + 1]? = some c[k + 1] := List.getElem?_eq_getElem (by omega)
        have g4 := before_lt g2 e3
        have : c[k + 1].s ≤ p2.s := by
          by_cases g5 : k + 1 = n
          · subst g5
            rw [e3] at e2
            cases e2
            exact Rat.le_refl
          · have := cok_lt ok (show k + 1 < n by omega) e3 e2
            grind
        grind
theorem tm_ge {p : Pc} {q : Rat} (r : 0 < p.r) : p.s ≤ tm p q ↔ p.v ≤ q := by
  have h : (q - p.v) / p.r * p.r = q - p.v := Rat.div_mul_cancel (by grind)
  unfold tm
  constructor
  · intro g
    have g1 : 0 ≤ (q - p.v) / p.r := by grind
    have g2 := Rat.mul_nonneg g1 (Rat.le_of_lt r)
    grind
  · intro g
    have g2 : ¬ (q - p.v) / p.r < 0 := fun z => by
      have := (Rat.mul_lt_mul_right r).mpr z
      grind
    grind
theorem tm_lt {p : Pc} {q s : Rat} (r : 0 < p.r) : tm p q < s ↔ q < p.v + p.r * (s - p.s) := by
  have h : (q - p.v) / p.r * p.r = q - p.v := Rat.div_mul_cancel (by grind)
  have e : tm p q < s ↔ (q - p.v) / p.r < s - p.s := by
    unfold tm
    constructor <;> intro g <;> grind
  rw [e, ← Rat.mul_lt_mul_right r, h]
  constructor <;> intro g <;> grind
theorem tm_back {p : Pc} {q : Rat} (r : 0 < p.r) : p.v + p.r * (tm p q - p.s) = q := by
  have h : (q - p.v) / p.r * p.r = q - p.v := Rat.div_mul_cancel (by grind)
  unfold tm
  grind
theorem filter_take {α : Type} (g : α → Bool) : ∀ {c : List α} {m : Nat}, (∀ i x, c[i]? = some x → (g x = true ↔ i < m)) → c.filter g = c.take m
  | [], m, _ => by simp
  | x :: r, 0, h => by
    have h0 := h 0 x rfl
    have : g x = false := by
      cases e : g x with
      | false => rfl
      | true => exact absurd (h0.mp e) (by omega)
    rw [List.filter_cons, this]
    simp only [Bool.false_eq_true, if_false]
    rw [filter_take g (m := 0) fun i y hy => by
      have := h (i + 1) y hy
      constructor
      · intro z; exact absurd (this.mp z) (by omega)
      · intro z; omega]
    simp
  | x :: r, m + 1, h => by
    have h0 := (h 0 x rfl).mpr (by omega)
    rw [List.filter_cons, if_pos h0, List.take_succ_cons, filter_take g (m := m) fun i y hy => by
      have := h (i + 1) y hy
      constructor
      · intro z; have := this.mp z; omega
      · intro z; exact this.mpr (by omega)]
theorem now_hit {c : List Pc} (ok : Cok c) {q t : Rat} {k : Nat} (h : hit c q k = some t) : nowf c t = some q := by
  obtain ⟨p, e, et, h1, h2⟩ := hit_some h
  have hk := (List.getElem?_eq_some_iff.mp e).1
  have ef : c.filter (on t) = c.take (k + 1) := filter_take _ fun i x hx => by
    unfold on
    constructor
    · intro z
      refine Nat.lt_of_not_le fun g => ?_
      have hk1 : k + 1 < c.length := by have := (List.getElem?_eq_some_iff.mp hx).1; omega
      have e3 : c[k + 1]? = some c[k + 1] := List.getElem?_eq_getElem hk1
      have h4 := before_lt h2 e3
      have : c[k + 1].s ≤ x.s := by
        by_cases g5 : k + 1 = i
        · subst g5
          rw [e3] at hx
          cases hx
          exact Rat.le_refl
        · have := cok_lt ok (show k + 1 < i by omega) e3 hx
          grind
      have : t < x.s := by grind
      simp [this] at z
    · intro z
      have : x.s ≤ p.s := by
        by_cases g5 : i = k
        · subst g5
          rw [e] at hx
          cases hx
          exact Rat.le_refl
        · have := cok_lt ok (show i < k by omega) hx e
          grind
      have : ¬ t < x.s := by grind
      simp [this]
  unfold nowf
  rw [ef, List.getLast?_eq_getElem?, List.length_take, List.getElem?_take]
  have e1 : min (k + 1) c.length - 1 = k := by omega
  rw [e1, if_pos (by omega), e]
  show some (p.v + p.r * (t - p.s)) = some q
  rw [et, tm_back (ok.1 p (List.mem_of_getElem? e))]
/-- whether the k-th piece shows the reading -/
theorem due_hit {c : List Pc} (ok : Cok c) {q : Rat} {k : Nat} {p : Pc} (e : c[k]? = some p) : (hit c q k).isSome = (!decide (q < p.v) && (match lim c k with
  | none => true
  | some b => decide (q < b))) := by
  have r := ok.1 p (List.mem_of_getElem? e)
  unfold hit lim
  rw [e]
  dsimp only
  have h1 := tm_ge (p := p) (q := q) r
  cases e2 : c[k + 1]? with
  | none =>
    have hb : before c (k + 1) (tm p q) = true := by unfold before; rw [e2]
    rw [hb]
    dsimp only
    by_cases g : q < p.v
    · have : ¬ p.s ≤ tm p q := fun z => by have := h1.mp z; grind
      simp [this, g]
    · have : p.s ≤ tm p q := h1.mpr (by grind)
      simp [this, g]
  | some p2 =>
    have h2 := tm_lt (p := p) (q := q) (s := p2.s) r
    have hb : before c (k + 1) (tm p q) = decide (tm p q < p2.s) := by unfold before; rw [e2]
    rw [hb]
    dsimp only
    by_cases g : q < p.v
    · have : ¬ p.s ≤ tm p q := fun z => by have := h1.mp z; grind
      simp [this, g]
    · have a1 : p.s ≤ tm p q := h1.mpr (by grind)
      by_cases g2 : tm p q < p2.s
      · have := h2.mp g2
        simp [a1, g, g2, this]
      · have : ¬ q < p.v + p.r * (p2.s - p.s) := fun z => g2 (h2.mpr z)
        simp [a1, g, g2, this]
theorem opt_len {α : Type} (o : Option α) : o.toList.length = if o.isSome = true then 1 else 0 := by cases o <;> rfl
theorem row_last {c : List Pc} (ok : Cok c) {q : Rat} {k : Nat} {p : Pc} (e : c[k]? = some p) (e2 : c[k + 1]? = none) :
    ((hits c q c.length).filter fun t => !decide (t < p.s)).length = if (!decide (q < p.v)) = true then 1 else 0 := by
  have hk := (List.getElem?_eq_some_iff.mp e).1
  have h1 := hits_in ok q k c.length
  rw [if_pos hk] at h1
  have h2 : (fun t => !decide (t < p.s)) = inI c k := by
    funext t
    unfold inI before
    rw [e, e2]
    simp
  have h3 := due_hit ok (q := q) e
  unfold lim at h3
  rw [e, e2] at h3
  dsimp only at h3
  rw [Bool.and_true] at h3
  rw [h2, h1, opt_len, h3]
theorem row_more {c : List Pc} (ok : Cok c) {q : Rat} {k : Nat} {p p2 : Pc} (e : c[k]? = some p) (e2 : c[k + 1]? = some p2) :
    (((hits c q c.length).filter fun t => !decide (t < p.s)).filter fun t => decide (t < p2.s)).length = if (!decide (q < p.v) && decide (q < p.v + p.r * (p2.s - p.s))) = true then 1 else 0 := by
  have hk := (List.getElem?_eq_some_iff.mp e).1
  have h1 := hits_in ok q k c.length
  rw [if_pos hk] at h1
  have h2 : (fun t => decide (t < p2.s) && !decide (t < p.s)) = inI c k := by
    funext t
    unfold inI before
    rw [e, e2]
    exact Bool.and_comm _ _
  have h3 := due_hit ok (q := q) e
  unfold lim at h3
  rw [e, e2] at h3
  dsimp only at h3
  rw [List.filter_filter, h2, h1, opt_len, h3]
end Vk
namespace Vk
open PySem L2 Vm
variable {l : Addr} {P : Program} {w : World} {K : PySem.W.Frag} {mg : Str → Option Value} {base : Heap} {k : Nat} {f f1 f2 f3 f4 f5 f6 f7 f8 f9 : Addr} {fd fd1 fd2 fd3 fd4 fd5 fd6 fd7 fd8 fd9 : FuncData}
theorem sz_hit {i j m n : Nat} {c : List Pc} (ok : Cok c) (cz : Cz i j m c) {q t : Rat} (zq : Sz n q) {k : Nat} (h : hit c q k = some t) : Sz (i + (n + j + 1 + m) + 1) t := by
  obtain ⟨p, e, rfl, _, _⟩ := hit_some h
  have hm := List.mem_of_getElem? e
  obtain ⟨z1, z2, z3⟩ := cz p hm
  exact z1.add ((zq.sub z2).div z3 (ok.1 p hm))
def spTR (K : PySem.W.Frag) : Sp := fun vs H Q _ => ∃ (a b : Addr) (y : V) (us : List V) (c : List Pc) (q : Rat) (i j l m : Nat), vs = [.ref a, y, .ref b] ∧ Cq K H a c ∧ Rq K H y q ∧ SqL K H b us ∧ All2 (Rq K H) us (hits c q c.length) ∧ Cok c ∧ Cz i j l c ∧ Sz m q ∧ c.length ≤ 1000 ∧ i + i + j + j + l + l + m + 20 ≤ 9000 ∧
  ∀ H', Same H H' → Q (.bl true) H'
end Vk
namespace Vk
open PySem PySem.Spec PyProof.Rows L2
section
variable {X : Cx}
/-- xs.count(y), data of any depth -/
def rCountD (K : PySem.W.Frag) : V → List V → Hp → VK → Prop := fun x xs H Q => ∃ (a : Addr) (y : V) (d : PyData) (ds : List PyData), x = V.ref a ∧ xs = [y] ∧ Dp K H (V.ref a) (.list ds) ∧ Dp K H y d ∧
  SeqAt.shaped (.list ds) = true ∧ SeqAt.shaped d = true ∧ Q (.int ((ds.countP fun z => PyData.eqv z d : Nat) : Int)) H
theorem mt_countD (hu : X.A.units + 65 < cLine) : MtR X "list.count" (rCountD X.K) := by
  intro pins s σ H x xs v us Q I rx rxs h
  obtain ⟨a, y, d, ds, rfl, rfl, hl, hy, sl, sd, q⟩ := h
  cases rx
  cases rxs with
  | cons ry rt =>
    rename_i uy ut
    cases rt
    obtain ⟨bs, r1⟩ := Dp.reads I d y uy hy ry
    have hxs : PyData.canLayAll0 ds = true := SeqAt.canLay_of_shaped sl
    have hroom : X.A.units + 1 + min (PyData.depthAll ds) d.depth < cLine := room_in_shaped sd hu
    cases hl with
    | lst hs ha =>
      obtain ⟨its, rv, ⟨⟨cls, dd, data, sls⟩, n, ho, hc, hdn, hdt⟩, hlen⟩ := I.list hs
      simp only at hc hdt
      subst hc hdt
      obtain ⟨as, h4⟩ := Dp.readsAll I ds _ its ha rv
      have hmap : its.map (SeqAt.readOf s.heap) = ds := SeqAt.readsAll_map ds its as hxs h4
      refine call_meets PySem.F.slot_list_count ⟨_, ho, rfl⟩ PySem.F.entry_list_count (PySem.F.args_list_count_2 _ _)
        (SeqAt.list_countAt a its.toArray n dd sls uy (fun u => PyData.eqv (SeqAt.readOf s.heap u) d)) ⟨ho, SeqAt.items_eqAt (vs := its.toArray) (show ReadsAll s.heap its.toArray.toList ds as from h4) r1 hxs (SeqAt.canLay_of_shaped sd) hroom, ?_⟩
      refine ⟨.int ((ds.countP fun z => PyData.eqv z d : Nat) : Int), H, I.tok _, ⟨s.toks, ?_⟩, q⟩
      have e : (its.toArray.toList.countP fun u => PyData.eqv (SeqAt.readOf s.heap u) d) = ds.countP fun z => PyData.eqv z d := by
        rw [← hmap, List.countP_map]
        rfl
      show Value.int ((its.toArray.toList.countP (fun u => PyData.eqv (SeqAt.readOf s.heap u) d) : Nat) : Int) s.toks = _
      rw [e]
end
end Vk
namespace Vk
open PySem L2 Vm
variable {l : Addr} {P : Program} {w : World} {K : PySem.W.Frag} {mg : Str → Option Value} {base : Heap} {k : Nat} {f f1 f2 f3 f4 f5 f6 f7 f8 f9 : Addr} {fd fd1 fd2 fd3 fd4 fd5 fd6 fd7 fd8 fd9 : FuncData}
theorem sm1 : 1 ≤ sizeLine := by decide
theorem Bun.made {α : Type} {R : Hp → V → α → Prop} {s D : Addr} {H0 G : Hp} {us : List V} {c : List α} (S : Sto l s G) (e : Fr s H0 G) (hD : G D = none) (h : All2 (R (upd G D (.lst us))) us c) : Bun R l s D H0 us c (upd G D (.lst us)) := by
  have nD := S.ne hD
  have f := same_new hD (.lst us)
  exact ⟨S.same f, e.trans (Fr.of f), nD, S.nl hD, e.free hD nD, upd_same, h⟩
/-- a tracked list with a course -/
def Ct (K : PySem.W.Frag) (H : Hp) (a : Addr) (xs : List V) (c : List Pc) : Prop := H a = some (.lst xs) ∧ All2 (Pq K H) xs c
theorem Ct.cq {H : Hp} {a : Addr} {xs : List V} {c : List Pc} (h : Ct K H a xs c) : Cq K H a c := ⟨xs, SqL.of h.1, h.2⟩
theorem Ct.same {H H' : Hp} {a : Addr} {xs : List V} {c : List Pc} (e : Same H H') (h : Ct K H a xs c) : Ct K H' a xs c := ⟨e _ _ h.1, h.2.imp fun _ _ h => h.same e⟩
theorem Ct.fr {s : Addr} {H H' : Hp} {a : Addr} {xs : List V} {c : List Pc} (e : Fr s H H') (hs : ∃ ys, H s = some (.lst ys)) (n : a ≠ s) (h : Ct K H a xs c) : Ct K H' a xs c := ⟨e _ _ h.1 n, h.2.imp fun _ _ h => h.fr e hs⟩
theorem all2_3 {α : Type} {R : V → α → Prop} {x y z : V} {a b c : α} (h1 : R x a) (h2 : R y b) (h3 : R z c) : All2 R [x, y, z] [a, b, c] := (((All2.nil.snoc h1).snoc h2).snoc h3 : All2 R ([] ++ [x] ++ [y] ++ [z]) ([] ++ [a] ++ [b] ++ [c]))
def spValues (K : PySem.W.Frag) (l : Addr) : Sp := fun vs H Q _ => ∃ (s a : Addr) (xs : List V) (c : List Pc), vs = [.ref s, .ref a] ∧ Sto l s H ∧ a ≠ s ∧ a ≠ l ∧ Ct K H a xs c ∧ Cz 245 925 5 c ∧ 1 ≤ c.length ∧ c.length ≤ 1000 ∧
  ∀ D us qs H', Bun (Rq K) l s D H us qs H' → (∀ q ∈ qs, Sz 2350 q) → 0 < qs.length → qs.length ≤ 100 → Q (.ref D) H'
end Vk
namespace Vk
open PySem L2 Vm
variable {l : Addr} {P : Program} {w : World} {K : PySem.W.Frag} {mg : Str → Option Value} {base : Heap} {k : Nat} {f f1 f2 f3 f4 f5 f6 f7 f8 f9 f10 f11 f12 f13 f14 : Addr} {fd fd1 fd2 fd3 fd4 fd5 fd6 fd7 fd8 fd9 fd10 fd11 fd12 fd13 fd14 : FuncData}
theorem hu65 {k : Nat} {A : Around} (hr : Room k A) : A.units + 65 < cLine := by have := hr.un; omega
/-- a promise with something left open -/
def exS {α : Type} (sp : α → Sp) : Sp := fun vs H Q E => ∃ x, sp x vs H Q E
theorem Def.ex {α : Type} [Inhabited α] {x : Str} {ps : List Str} {sp : α → Sp} (h : ∀ a, Def P w K mg base k x ps (sp a) f fd) : Def P w K mg base k x ps (exS sp) f fd :=
  ⟨⟨fun vs H Q E ⟨a, z⟩ => (h a).ok.len vs H Q E z, fun A outer s H args us vs Q E hr he hb hv ⟨a, z⟩ => (h a).ok.run A outer s H args us vs Q E hr he hb hv z⟩, (h default).m, (h default).kp, (h default).b⟩
theorem ixN_last {n : Nat} (h : 0 < n) {i : Int} (e : i = (n : Int) - 1) : ixN n i = some (n - 1) := by
  subst e
  unfold ixN
  rw [if_pos (by omega), if_pos (by omega)]
  congr 1
  omega
/-! ### data -/
def dpc (p : Pc) : PyData := .tuple [dq p.s, dq p.v, dq p.r]
theorem Pq.dp {H : Hp} {v : V} {p : Pc} (h : Pq K H v p) : Dp K H v (dpc p) := by
  obtain ⟨a, xs, xv, xr, rfl, h, h1, h2, h3⟩ := h
  exact .tup h (.cons h1.dp (.cons h2.dp (.cons h3.dp .nil)))
theorem dpall_of {α : Type} {R : V → α → Prop} {d : α → PyData} {H : Hp} (g : ∀ v p, R v p → Dp K H v (d p)) : ∀ {xs : List V} {c : List α}, All2 R xs c → DpAll K H xs (c.map d)
  | [], [], _ => .nil
  | [], _ :: _, h => absurd h.1 (by simp)
  | _ :: _, [], h => absurd h.1 (by simp)
  | x :: xs, p :: c, h => .cons (g _ _ (h.2 0 x p rfl rfl)) (dpall_of g ⟨by have := h.1; simp at this; exact this, fun i x p a b => h.2 (i + 1) x p a b⟩)
theorem tree_dpc (n : Nat) (p : Pc) : Tree (n + 2) (dpc p) := .tup (by show 3 ≤ 1000; decide) fun d h => by
  simp only [List.mem_cons, List.mem_nil_iff, or_false] at h
  rcases h with rfl | rfl | rfl <;> exact tree_dq _ _
theorem depth_dqs : ∀ T : List Rat, PyData.depthAll (T.map dq) ≤ 2
  | [] => by simp [PyData.depthAll]
  | t :: T => by
    have := depth_dqs T
    simp only [List.map_cons, PyData.depthAll]
    have : (dq t).depth ≤ 2 := by show PyData.depth (.tuple [.int t.num, .int (t.den : Int)]) ≤ 2; simp [PyData.depth, PyData.depthAll]
    omega
theorem lay_dqs : ∀ T : List Rat, PyData.canLayAll0 (T.map dq) = true
  | [] => rfl
  | t :: T => by
    have := lay_dqs T
    show (PyData.canLay0 (dq t) && PyData.canLayAll0 (T.map dq)) = true
    rw [this]
    rfl
theorem sh_dqs (T : List Rat) : SeqAt.shaped (.list (T.map dq)) = true := by
  have h1 := depth_dqs T
  have h2 := lay_dqs T
  show (PyData.canLay0 (.list (T.map dq)) && decide (PyData.depth (.list (T.map dq)) ≤ 64)) = true
  have h3 : PyData.canLay0 (.list (T.map dq)) = true := h2
  have h4 : PyData.depth (.list (T.map dq)) ≤ 64 := by simp only [PyData.depth]; omega
  rw [h3, decide_eq_true h4]
  rfl
/-! ### the course whose last piece is set -/
theorem hits_set {c : List Pc} (ok : Cok c) (hn : 0 < c.length) {q : Rat} {p : Pc} (hp : c[c.length - 1]? = some p) (hv : p.v = q) : (hits c q c.length).countP (fun t => decide (t = p.s)) = 1 := by
  have r := ok.1 p (List.mem_of_getElem? hp)
  have et : tm p q = p.s := by
    unfold tm
    rw [hv, show q - q = 0 from Rat.sub_self, Rat.div_def, Rat.zero_mul]
    grind
  have eh : hit c q (c.length - 1) = some p.s := by
    unfold hit before
    rw [hp, List.getElem?_eq_none (show c.length ≤ c.length - 1 + 1 by omega)]
    simp only [et, and_true]
    rw [if_pos Rat.le_refl]
  have e1 : c.length = c.length - 1 + 1 := by omega
  have e2 : hits c q c.length = hits c q (c.length - 1) ++ [p.s] := by
    conv => lhs; rw [e1]
    rw [hits_succ, eh]
    rfl
  have z : ∀ t ∈ hits c q (c.length - 1), t < p.s := fun t ht => by
    obtain ⟨j, hj, e⟩ := hits_mem ht
    obtain ⟨p1, g1, _, _, g2⟩ := hit_some e
    have hj1 : j + 1 < c.length := by omega
    have e3 : c[j + 1]? = some c[j + 1] := List.getElem?_eq_getElem hj1
    have g3 := before_lt g2 e3
    by_cases g : j + 1 = c.length - 1
    · rw [← g] at hp
      rw [e3] at hp
      have := Option.some.inj hp
      rw [this] at g3
      exact g3
    · have := cok_lt ok (show j + 1 < c.length - 1 by omega) e3 hp
      grind
  rw [e2, List.countP_append, List.countP_eq_zero.mpr fun t ht => by
    have := z t ht
    have : ¬ t = p.s := by grind
    simp [this]]
  simp
theorem all2_set {α : Type} {R : V → α → Prop} {xs : List V} {c : List α} {x : V} {p : α} (h : All2 R xs c) (n : Nat) (r : R x p) : All2 R (xs.set n x) (c.set n p) := by
  refine ⟨by rw [List.length_set, List.length_set, h.1], fun i y q a b => ?_⟩
  by_cases e : n = i
  · subst e
    rw [List.getElem?_set] at a b
    simp only [if_true] at a b
    split at a
    · split at b
      · cases a
        cases b
        exact r
      · cases b
    · cases a
  · rw [List.getElem?_set_ne e] at a b
    exact h.2 i y q a b
theorem cok_set {c : List Pc} (ok : Cok c) {n : Nat} {p p' : Pc} (hp : c[n]? = some p) (hs : p'.s = p.s) (hr : p'.r = p.r) : Cok (c.set n p') := by
  have key : ∀ (i : Nat) (x : Pc), (c.set n p')[i]? = some x → ∃ y, c[i]? = some y ∧ x.s = y.s ∧ x.r = y.r := fun i x h => by
    by_cases e : n = i
    · subst e
      rw [List.getElem?_set] at h
      simp only [if_true] at h
      split at h
      · cases h
        exact ⟨p, hp, hs, hr⟩
      · cases h
    · rw [List.getElem?_set_ne e] at h
      exact ⟨x, h, rfl, rfl⟩
  refine ⟨fun x hx => ?_, fun i x y hx hy => ?_⟩
  · obtain ⟨i, hi, rfl⟩ := List.mem_iff_getElem.mp hx
    obtain ⟨y, e1, _, e2⟩ := key i _ (List.getElem?_eq_getElem hi)
    rw [e2]
    exact ok.1 y (List.mem_of_getElem? e1)
  · obtain ⟨x1, a1, b1, _⟩ := key i x hx
    obtain ⟨y1, a2, b2, _⟩ := key (i + 1) y hy
    rw [b1, b2]
    exact ok.2 i x1 y1 a1 a2
theorem cz_set {c : List Pc} {i j j' m : Nat} (cz : Cz i j m c) (hj : j ≤ j') {n : Nat} {p' : Pc} (h : Sz i p'.s ∧ Sz j' p'.v ∧ Sz m p'.r) : Cz i j' m (c.set n p') := fun x hx => by
  rcases List.mem_or_eq_of_mem_set hx with hx | rfl
  · obtain ⟨z1, z2, z3⟩ := cz x hx
    exact ⟨z1, z2.mono hj, z3⟩
  · exact h
/-! ### what stands while the law goes on -/
structure St0 (K : PySem.W.Frag) (l s D1 D2 D3 : Addr) (us1 us2 : List V) (c1 c2 : List Pc) (G : Hp) : Prop where
  st : Sto l s G
  a1 : Ct K G D1 us1 c1
  a2 : Ct K G D2 us2 c2
  a3 : Ct K G D3 us1 c1
  n1 : D1 ≠ s
  n2 : D2 ≠ s
  n3 : D3 ≠ s
  m3 : D3 ≠ l
  n31 : D3 ≠ D1
  n32 : D3 ≠ D2
theorem St0.same {s D1 D2 D3 : Addr} {us1 us2 : List V} {c1 c2 : List Pc} {G G' : Hp} (h : St0 K l s D1 D2 D3 us1 us2 c1 c2 G) (e : Same G G') : St0 K l s D1 D2 D3 us1 us2 c1 c2 G' :=
  { h with st := h.st.same e, a1 := h.a1.same e, a2 := h.a2.same e, a3 := h.a3.same e }
theorem St0.fr {s D1 D2 D3 : Addr} {us1 us2 : List V} {c1 c2 : List Pc} {G G' : Hp} (h : St0 K l s D1 D2 D3 us1 us2 c1 c2 G) (e : Fr s G G') (S : Sto l s G') : St0 K l s D1 D2 D3 us1 us2 c1 c2 G' :=
  { h with st := S, a1 := h.a1.fr e h.st.some h.n1, a2 := h.a2.fr e h.st.some h.n2, a3 := h.a3.fr e h.st.some h.n3 }
theorem St0.app {s D1 D2 D3 D : Addr} {us1 us2 ys zs : List V} {c1 c2 : List Pc} {G : Hp} (h : St0 K l s D1 D2 D3 us1 us2 c1 c2 G) (hD : G D = some (.lst ys)) (ns : D ≠ s) (nl : D ≠ l) (k1 : D1 ≠ D) (k2 : D2 ≠ D) (k3 : D3 ≠ D) : St0 K l s D1 D2 D3 us1 us2 c1 c2 (upd G D (.lst zs)) :=
  { h with st := h.st.upd ns nl, a1 := h.a1.fr (Fr.upd _) ⟨_, hD⟩ k1, a2 := h.a2.fr (Fr.upd _) ⟨_, hD⟩ k2, a3 := h.a3.fr (Fr.upd _) ⟨_, hD⟩ k3 }
/-- a list of rationals -/
def Lq (K : PySem.W.Frag) (G : Hp) (D : Addr) (us : List V) (qs : List Rat) : Prop := G D = some (.lst us) ∧ All2 (Rq K G) us qs
theorem Lq.same {G G' : Hp} {D : Addr} {us : List V} {qs : List Rat} (h : Lq K G D us qs) (e : Same G G') : Lq K G' D us qs := ⟨e _ _ h.1, h.2.imp fun _ _ h => h.same e⟩
theorem Lq.fr {s : Addr} {G G' : Hp} {D : Addr} {us : List V} {qs : List Rat} (h : Lq K G D us qs) (e : Fr s G G') (hs : ∃ ys, G s = some (.lst ys)) (n : D ≠ s) : Lq K G' D us qs := ⟨e _ _ h.1 n, h.2.imp fun _ _ h => h.fr e hs⟩
theorem ne_at {G : Hp} {a b : Addr} {o : HO} (h : G a = some o) (n : G b = none) : a ≠ b := fun e => by rw [e, n] at h; cases h
end Vk
namespace Vk
open PySem L2 Vm
/-! ### lines, what stays of a course, jumps -/
def ky (p : Pc) : Rat × Rat := (p.r, p.v - p.r * p.s)
def jmp (k : Rat × Rat) (q : Pc) : Rat := q.v - (k.2 + k.1 * q.s)
def vl (t : Rat) (p : Pc) : Rat := p.v + p.r * (t - p.s)
theorem ky_eq {p q : Pc} : ky q = ky p ↔ q.r = p.r ∧ jmp (ky p) q = 0 := by
  unfold jmp ky
  constructor
  · intro h
    have h1 := congrArg Prod.fst h
    have h2 := congrArg Prod.snd h
    dsimp only at h1 h2 ⊢
    exact ⟨h1, by rw [h1] at h2; grind⟩
  · rintro ⟨h1, h2⟩
    dsimp only at h2
    rw [h1]
    congr 1
    grind
theorem jmp_at (p q : Pc) : q.v - (p.v + p.r * (q.s - p.s)) = jmp (ky p) q := by
  unfold jmp ky
  dsimp only
  grind
theorem vl_ky {p q : Pc} (h : ky q = ky p) (t : Rat) : vl t q = vl t p := by
  have h1 := congrArg Prod.fst h
  have h2 := congrArg Prod.snd h
  unfold ky at h1 h2
  dsimp only at h1 h2
  unfold vl
  grind
def tlG : Rat × Rat → List Pc → List Pc
  | _, [] => []
  | k, q :: c => if ky q = k then tlG k c else q :: tlG (ky q) c
def tl : List Pc → List Pc
  | [] => []
  | p :: c => p :: tlG (ky p) c
def jlG : Rat × Rat → List Pc → List (Rat × Rat)
  | _, [] => []
  | k, q :: c => if jmp k q = 0 then jlG (ky q) c else (q.s, jmp k q) :: jlG (ky q) c
def jl : List Pc → List (Rat × Rat)
  | [] => []
  | p :: c => jlG (ky p) c
theorem jmp0 {k : Rat × Rat} {q : Pc} (h : ky q = k) : jmp k q = 0 := by
  subst h
  unfold jmp ky
  dsimp only
  grind
theorem tlG_snoc (p q : Pc) : ∀ (c : List Pc) (k : Rat × Rat), tlG k (c ++ [p, q]) = tlG k (c ++ [p]) ++ if ky q = ky p then [] else [q]
  | [], k => by
    show tlG k [p, q] = tlG k [p] ++ _
    unfold tlG
    by_cases h : ky p = k
    · rw [if_pos h, if_pos h]
      unfold tlG
      rw [← h]
      by_cases g : ky q = ky p
      · rw [if_pos g, if_pos g]; rfl
      · rw [if_neg g, if_neg g]; rfl
    · rw [if_neg h, if_neg h]
      unfold tlG
      by_cases g : ky q = ky p
      · rw [if_pos g, if_pos g]; rfl
      · rw [if_neg g, if_neg g]; rfl
  | x :: c, k => by
    show tlG k (x :: (c ++ [p, q])) = tlG k (x :: (c ++ [p])) ++ _
    unfold tlG
    by_cases h : ky x = k
    · rw [if_pos h, if_pos h, tlG_snoc p q c k]
    · rw [if_neg h, if_neg h, tlG_snoc p q c (ky x)]
      rfl
theorem jlG_snoc (p q : Pc) : ∀ (c : List Pc) (k : Rat × Rat), jlG k (c ++ [p, q]) = jlG k (c ++ [p]) ++ if jmp (ky p) q = 0 then [] else [(q.s, jmp (ky p) q)]
  | [], k => by
    show jlG k [p, q] = jlG k [p] ++ _
    unfold jlG
    by_cases h : jmp k p = 0
    · rw [if_pos h, if_pos h]
      unfold jlG
      by_cases g : jmp (ky p) q = 0
      · rw [if_pos g, if_pos g]; rfl
      · rw [if_neg g, if_neg g]; rfl
    · rw [if_neg h, if_neg h]
      unfold jlG
      by_cases g : jmp (ky p) q = 0
      · rw [if_pos g, if_pos g]; rfl
      · rw [if_neg g, if_neg g]; rfl
  | x :: c, k => by
    show jlG k (x :: (c ++ [p, q])) = jlG k (x :: (c ++ [p])) ++ _
    unfold jlG
    by_cases h : jmp k x = 0
    · rw [if_pos h, if_pos h, jlG_snoc p q c (ky x)]
    · rw [if_neg h, if_neg h, jlG_snoc p q c (ky x)]
      rfl
theorem take_two {c : List Pc} {i : Nat} {p q : Pc} (e1 : c[i]? = some p) (e2 : c[i + 1]? = some q) : c.take (i + 1) = c.take i ++ [p] ∧ c.take (i + 2) = c.take i ++ [p, q] := by
  have h1 : c.take (i + 1) = c.take i ++ [p] := by rw [List.take_add_one, e1]; rfl
  refine ⟨h1, ?_⟩
  rw [List.take_add_one, h1, e2, List.append_assoc]
  rfl
theorem tl_next {c : List Pc} {i : Nat} {p q : Pc} (e1 : c[i]? = some p) (e2 : c[i + 1]? = some q) : tl (c.take (i + 2)) = tl (c.take (i + 1)) ++ if ky q = ky p then [] else [q] := by
  obtain ⟨h1, h2⟩ := take_two e1 e2
  rw [h1, h2]
  cases h : c.take i with
  | nil =>
    show p :: tlG (ky p) [q] = _
    unfold tlG
    by_cases g : ky q = ky p
    · rw [if_pos g, if_pos g]; rfl
    · rw [if_neg g, if_neg g]; rfl
  | cons x d =>
    show x :: tlG (ky x) (d ++ [p, q]) = x :: tlG (ky x) (d ++ [p]) ++ _
    rw [tlG_snoc]
    rfl
theorem jl_next {c : List Pc} {i : Nat} {p q : Pc} (e1 : c[i]? = some p) (e2 : c[i + 1]? = some q) : jl (c.take (i + 2)) = jl (c.take (i + 1)) ++ if jmp (ky p) q = 0 then [] else [(q.s, jmp (ky p) q)] := by
  obtain ⟨h1, h2⟩ := take_two e1 e2
  rw [h1, h2]
  cases h : c.take i with
  | nil =>
    show jlG (ky p) [q] = _
    unfold jlG
    by_cases g : jmp (ky p) q = 0
    · rw [if_pos g, if_pos g]; rfl
    · rw [if_neg g, if_neg g]; rfl
  | cons x d =>
    show jlG (ky x) (d ++ [p, q]) = jlG (ky x) (d ++ [p]) ++ _
    rw [jlG_snoc]
theorem tlG_tlG : ∀ (c : List Pc) (k : Rat × Rat), tlG k (tlG k c) = tlG k c
  | [], k => rfl
  | q :: c, k => by
    by_cases h : ky q = k
    · have e1 : tlG k (q :: c) = tlG k c := by rw [tlG, if_pos h]
      rw [e1, tlG_tlG c k]
    · have e1 : ∀ d, tlG k (q :: d) = q :: tlG (ky q) d := fun d => by rw [tlG, if_neg h]
      rw [e1, e1, tlG_tlG c (ky q)]
theorem tl_tl (c : List Pc) : tl (tl c) = tl c := by
  cases c with
  | nil => rfl
  | cons p c =>
    show p :: tlG (ky p) (tlG (ky p) c) = _
    rw [tlG_tlG]
    rfl
theorem jlG_tlG : ∀ (c : List Pc) (k : Rat × Rat), jlG k (tlG k c) = jlG k c
  | [], k => rfl
  | q :: c, k => by
    by_cases h : ky q = k
    · have e1 : tlG k (q :: c) = tlG k c := by rw [tlG, if_pos h]
      have e2 : jlG k (q :: c) = jlG (ky q) c := by rw [jlG, if_pos (jmp0 h)]
      rw [e1, e2, h, jlG_tlG c k]
    · have e1 : tlG k (q :: c) = q :: tlG (ky q) c := by rw [tlG, if_neg h]
      rw [e1, jlG, jlG, jlG_tlG c (ky q)]
theorem jl_tl (c : List Pc) : jl (tl c) = jl c := by
  cases c with
  | nil => rfl
  | cons p c => exact jlG_tlG c (ky p)
theorem tlG_mem : ∀ (c : List Pc) (k : Rat × Rat), (tlG k c).Sublist c
  | [], k => List.Sublist.slnil
  | q :: c, k => by
    rw [tlG]
    split
    · exact (tlG_mem c k).cons q
    · exact (tlG_mem c (ky q)).cons₂ q
theorem tl_sub (c : List Pc) : (tl c).Sublist c := by
  cases c with
  | nil => exact List.Sublist.slnil
  | cons p c => exact (tlG_mem c (ky p)).cons₂ p
theorem tl_pos {c : List Pc} (h : 0 < c.length) : 0 < (tl c).length := by
  cases c with
  | nil => exact absurd h (by simp)
  | cons p c => exact Nat.succ_pos _
/-! ### ascending -/
def AscP (c : List Pc) : Prop := c.Pairwise fun p q => p.s < q.s
theorem ascP_of {c : List Pc} (ok : Cok c) : AscP c := by
  unfold AscP
  rw [List.pairwise_iff_getElem]
  intro i j hi hj hij
  exact cok_lt ok hij (List.getElem?_eq_getElem hi) (List.getElem?_eq_getElem hj)
theorem cok_of {c : List Pc} (a : AscP c) (r : ∀ p ∈ c, 0 < p.r) : Cok c := by
  refine ⟨r, fun i p q e1 e2 => ?_⟩
  have h1 := List.getElem?_eq_some_iff.mp e1
  have h2 := List.getElem?_eq_some_iff.mp e2
  have := (List.pairwise_iff_getElem.mp a) i (i + 1) h1.1 h2.1 (by omega)
  rw [h1.2, h2.2] at this
  exact this
theorem cok_tl {c : List Pc} (ok : Cok c) : Cok (tl c) := cok_of ((ascP_of ok).sublist (tl_sub c)) fun p hp => ok.1 p ((tl_sub c).subset hp)
theorem cz_tl {i j m : Nat} {c : List Pc} (z : Cz i j m c) : Cz i j m (tl c) := fun p hp => z p ((tl_sub c).subset hp)
/-! ### what is shown -/
def nG (t : Rat) : Option Rat → List Pc → Option Rat
  | d, [] => d
  | d, q :: c => nG t (if on t q = true then some (vl t q) else d) c
theorem nG_now (t : Rat) : ∀ (c : List Pc) (d : Option Rat), nG t d c = (((c.filter (on t)).getLast?).map (vl t)).or d
  | [], d => rfl
  | q :: c, d => by
    show nG t _ c = _
    rw [nG_now t c, List.filter_cons]
    by_cases h : on t q = true
    · rw [if_pos h, if_pos h, List.getLast?_cons]
      cases (c.filter (on t)).getLast? <;> rfl
    · rw [if_neg h, if_neg h]
theorem now_nG (c : List Pc) (t : Rat) : nowf c t = nG t none c := by
  rw [nG_now, Option.or_none]
  rfl
theorem on_le {t : Rat} {p q : Pc} (h : on t q = true) (l : p.s < q.s) : on t p = true := by
  unfold on at h ⊢
  have : ¬ t < q.s := by simpa using h
  have : ¬ t < p.s := by grind
  simpa using this
theorem nG_tlG (t : Rat) : ∀ (c : List Pc) (p : Pc) (d : Option Rat), AscP (p :: c) → (∀ q ∈ c, on t q = true → d = some (vl t p)) → nG t d (tlG (ky p) c) = nG t d c
  | [], p, d, _, _ => rfl
  | q :: c, p, d, a, h => by
    have a1 : AscP (q :: c) := (List.pairwise_cons.mp a).2
    have a2 : AscP (p :: c) := a.sublist ((List.sublist_cons_self q c).cons₂ p)
    by_cases g : ky q = ky p
    · rw [tlG, if_pos g]
      have e : (if on t q = true then some (vl t q) else d) = d := by
        split
        · rename_i o
          rw [h q (List.mem_cons_self ..) o, vl_ky g]
        · rfl
      show _ = nG t (if on t q = true then some (vl t q) else d) c
      rw [e]
      exact nG_tlG t c p d a2 fun x hx => h x (List.mem_cons_of_mem _ hx)
    · rw [tlG, if_neg g]
      show nG t (if on t q = true then some (vl t q) else d) (tlG (ky q) c) = nG t (if on t q = true then some (vl t q) else d) c
      refine nG_tlG t c q _ a1 fun x hx o => ?_
      rw [if_pos (on_le o ((List.pairwise_cons.mp a1).1 x hx))]
theorem now_tl {c : List Pc} (ok : Cok c) (t : Rat) : nowf (tl c) t = nowf c t := by
  rw [now_nG, now_nG]
  cases c with
  | nil => rfl
  | cons p c =>
    show nG t (if on t p = true then some (vl t p) else none) (tlG (ky p) c) = nG t (if on t p = true then some (vl t p) else none) c
    refine nG_tlG t c p _ (ascP_of ok) fun x hx o => ?_
    rw [if_pos (on_le o ((List.pairwise_cons.mp (ascP_of ok)).1 x hx))]
theorem now_at {c : List Pc} (ok : Cok c) {t : Rat} {k : Nat} {p : Pc} (e : c[k]? = some p) (h1 : ¬ t < p.s) (h2 : ∀ q, c[k + 1]? = some q → t < q.s) : nowf c t = some (vl t p) := by
  have hk := (List.getElem?_eq_some_iff.mp e).1
  have ef : c.filter (on t) = c.take (k + 1) := filter_take _ fun i x hx => by
    unfold on
    constructor
    · intro z
      refine Nat.lt_of_not_le fun g => ?_
      have hk1 : k + 1 < c.length := by have := (List.getElem?_eq_some_iff.mp hx).1; omega
      have e3 : c[k + 1]? = some c[k + 1] := List.getElem?_eq_getElem hk1
      have h4 := h2 _ e3
      have : c[k + 1].s ≤ x.s := by
        by_cases g5 : k + 1 = i
        · subst g5
          rw [e3] at hx
          cases hx
          exact Rat.le_refl
        · have := cok_lt ok (show k + 1 < i by omega) e3 hx
          grind
      have : t < x.s := by grind
      simp [this] at z
    · intro z
      have : x.s ≤ p.s := by
        by_cases g5 : i = k
        · subst g5
          rw [e] at hx
          cases hx
          exact Rat.le_refl
        · have := cok_lt ok (show i < k by omega) hx e
          grind
      have : ¬ t < x.s := by grind
      simp [this]
  unfold nowf
  rw [ef, List.getLast?_eq_getElem?, List.length_take, List.getElem?_take]
  have e1 : min (k + 1) c.length - 1 = k := by omega
  rw [e1, if_pos (by omega), e]
  rfl
/-! ### pieces that continue -/
def goes (c : List Pc) (i : Nat) : Bool := match i with
  | 0 => false
  | j + 1 => match c[j]?, c[j + 1]? with
    | some p, some q => decide (ky q = ky p)
    | _, _ => false
theorem goes_succ (c : List Pc) (j : Nat) : goes c (j + 1) = match c[j]?, c[j + 1]? with
    | some p, some q => decide (ky q = ky p)
    | _, _ => false := rfl
theorem goes_at {c : List Pc} {j : Nat} {p q : Pc} (e1 : c[j]? = some p) (e2 : c[j + 1]? = some q) : goes c (j + 1) = decide (ky q = ky p) := by
  rw [goes_succ, e1, e2]
def gl (c : List Pc) (n : Nat) : List Nat := (List.range n).filter (goes c)
theorem gl_succ (c : List Pc) (n : Nat) : gl c (n + 1) = gl c n ++ if goes c n = true then [n] else [] := by
  unfold gl
  rw [List.range_succ, List.filter_append]
  congr 1
  by_cases h : goes c n = true <;> simp [h]
def Nc : Rat × Rat → List Pc → Prop
  | _, [] => True
  | k, q :: c => ky q ≠ k ∧ Nc (ky q) c
theorem nc_tlG : ∀ (c : List Pc) (k : Rat × Rat), Nc k (tlG k c)
  | [], k => trivial
  | q :: c, k => by
    rw [tlG]
    split
    · exact nc_tlG c k
    · rename_i h
      exact ⟨h, nc_tlG c (ky q)⟩
theorem nc_at : ∀ (c : List Pc) (p : Pc), Nc (ky p) c → ∀ i x y, (p :: c)[i]? = some x → (p :: c)[i + 1]? = some y → ky y ≠ ky x
  | [], p, _, i, x, y, _, e2 => by simp at e2
  | q :: c, p, h, 0, x, y, e1, e2 => by
    simp at e1 e2
    subst e1 e2
    exact h.1
  | q :: c, p, h, i + 1, x, y, e1, e2 => nc_at c q h.2 i x y (by simpa using e1) (by simpa using e2)
theorem goes_tl (c : List Pc) (i : Nat) : goes (tl c) i = false := by
  cases i with
  | zero => rfl
  | succ j =>
    rw [goes_succ]
    cases e1 : (tl c)[j]? with
    | none => rfl
    | some x =>
      cases e2 : (tl c)[j + 1]? with
      | none => rfl
      | some y =>
        cases c with
        | nil => simp [tl] at e1
        | cons p c => exact dF (nc_at _ p (nc_tlG c (ky p)) j x y e1 e2)
theorem gl_tl (c : List Pc) (n : Nat) : gl (tl c) n = [] := by
  unfold gl
  rw [List.filter_eq_nil_iff]
  intro i _
  rw [goes_tl]
  exact Bool.false_ne_true
/-! ### a piece more that continues -/
theorem tlG_ins {p x : Pc} (h : ky x = ky p) : ∀ (a b : List Pc) (k : Rat × Rat), tlG k (a ++ p :: x :: b) = tlG k (a ++ p :: b)
  | [], b, k => by
    show tlG k (p :: x :: b) = tlG k (p :: b)
    by_cases g : ky p = k
    · rw [tlG, if_pos g, tlG, if_pos (h.trans g), tlG, if_pos g]
    · rw [tlG, if_neg g, tlG, if_pos h, tlG, if_neg g]
  | y :: a, b, k => by
    show tlG k (y :: (a ++ p :: x :: b)) = tlG k (y :: (a ++ p :: b))
    by_cases g : ky y = k
    · rw [tlG, if_pos g, tlG, if_pos g, tlG_ins h a b k]
    · rw [tlG, if_neg g, tlG, if_neg g, tlG_ins h a b (ky y)]
theorem tl_ins {p x : Pc} (h : ky x = ky p) (a b : List Pc) : tl (a ++ p :: x :: b) = tl (a ++ p :: b) := by
  cases a with
  | nil =>
    show p :: tlG (ky p) (x :: b) = p :: tlG (ky p) b
    rw [tlG, if_pos h]
  | cons y a =>
    show y :: tlG (ky y) (a ++ p :: x :: b) = y :: tlG (ky y) (a ++ p :: b)
    rw [tlG_ins h]
theorem jlG_ins {p x : Pc} (h : ky x = ky p) : ∀ (a b : List Pc) (k : Rat × Rat), jlG k (a ++ p :: x :: b) = jlG k (a ++ p :: b)
  | [], b, k => by
    show jlG k (p :: x :: b) = jlG k (p :: b)
    rw [jlG, jlG, if_pos (jmp0 h), h, jlG]
  | y :: a, b, k => by
    show jlG k (y :: (a ++ p :: x :: b)) = jlG k (y :: (a ++ p :: b))
    rw [jlG, jlG, jlG_ins h a b (ky y)]
theorem jl_ins {p x : Pc} (h : ky x = ky p) (a b : List Pc) : jl (a ++ p :: x :: b) = jl (a ++ p :: b) := by
  cases a with
  | nil =>
    show jlG (ky p) (x :: b) = jlG (ky p) b
    rw [jlG, if_pos (jmp0 h), h]
  | cons y a =>
    show jlG (ky y) (a ++ p :: x :: b) = jlG (ky y) (a ++ p :: b)
    rw [jlG_ins h]
end Vk
namespace Vk
open PySem L2 Vm
variable {l az : Addr} {P : Program} {w : World} {K : PySem.W.Frag} {mg : Str → Option Value} {base : Heap} {k : Nat} {f f1 f2 f3 f4 f5 f6 f7 f8 f9 : Addr} {fd fd1 fd2 fd3 fd4 fd5 fd6 fd7 fd8 fd9 : FuncData}
/-! ### the program's side -/
structure Zr (K : PySem.W.Frag) (mg : Str → Option Value) (az : Addr) : Prop where
  m : mg "ZERO" = some (.ref az)
  q : ∀ H, Rq K H (.ref az) 0
abbrev s_multiply : Stmt := top 38
abbrev N_multiply : List Str := ["a", "b"]
theorem sc_multiply : FnScope N_multiply ["a", "b"] (defScope s_multiply) := ⟨rfl, rfl, rfl, by decide +kernel, rfl, by decide +kernel, by decide +kernel⟩
abbrev ps_multiply : List Str := ["a", "b"]
theorem ok_multiply (F : Fn K mg "multiply" s_multiply ps_multiply f fd) (drational : Def P w K mg base k "rational" ["n", "d"] (spFrac K) f1 fd1) : Def P w K mg base (k + 1) "multiply" ps_multiply (spOp2 K (· * ·)) f fd := by
  refine ⟨F.F.ok sc_multiply (fun vs H Q E h => ?_) (fun cdv A outer s H vs Q E hr h => ?_), F.m, F.F.kp, F.b⟩
  · obtain ⟨x, y, p, q, m, l, rfl, _⟩ := h
    rfl
  obtain ⟨x, y, p, q, m, l, rfl, ⟨a, rfl, ha⟩, ⟨b, rfl, hb⟩, zp, zq, hm, z⟩ := h
  have m0 := nn zp
  have l0 := nn zq
  refine ⟨_, (pss_one (ps_ret (pcall drational hr (pa_cons (pe_op op_mulW (pe_ix ix_tup (pv 0) pe_int (fun _ _ => rfl)) (pe_ix ix_tup (pv 1) pe_int (fun _ _ => rfl))) (pa_cons (pe_op op_mulW (pe_ix ix_tup (pv 0) pe_int (fun _ _ => rfl)) (pe_ix ix_tup (pv 1) pe_int (fun _ _ => rfl))) pa_nil))))), ?_⟩
  refine ⟨_, rfl, a, _, _, _, rfl, rfl, ha, at0 rfl, _, rfl, b, _, _, _, rfl, rfl, hb, at0 rfl, _, _, rfl, rfl, mulW zp.1 zq.1 m0 l0 (by omega), ?_⟩
  refine ⟨_, rfl, a, _, _, _, rfl, rfl, ha, at1 rfl, _, rfl, b, _, _, _, rfl, rfl, hb, at1 rfl, _, _, rfl, rfl, mulW (dA zp) (dA zq) m0 l0 (by omega), ?_⟩
  refine ⟨_, _, m + l, rfl, dd_pos p q, ab_mul zp.1 zq.1, ab_mul (dA zp) (dA zq), by omega, fun r H' e hr => z r H' e ?_⟩
  rw [mk_mul] at hr
  exact hr
abbrev s__shown_by : Stmt := top 45
abbrev N__shown_by : List Str := ["piece", "t", "start", "shown", "rate"]
theorem sc__shown_by : FnScope N__shown_by ["piece", "t"] (defScope s__shown_by) := ⟨rfl, rfl, rfl, by decide +kernel, rfl, by decide +kernel, by decide +kernel⟩
abbrev ps__shown_by : List Str := ["piece", "t"]
def spShown (K : PySem.W.Frag) : Sp := fun vs H Q _ => ∃ (x y : V) (p : Pc) (t : Rat) (i j l m : Nat), vs = [x, y] ∧ Pq K H x p ∧ Rq K H y t ∧ Sz i p.s ∧ Sz j p.v ∧ Sz l p.r ∧ Sz m t ∧ j + l + m + i + 3 ≤ 9000 ∧
  ∀ r H', Same H H' → Rq K H' r (p.v + p.r * (t - p.s)) → Q r H'
theorem ok_shown_by (F : Fn K mg "_shown_by" s__shown_by ps__shown_by f fd) (dadd : Def P w K mg base k "add" ["a", "b"] (spOp2 K (· + ·)) f1 fd1) (dmultiply : Def P w K mg base k "multiply" ["a", "b"] (spOp2 K (· * ·)) f2 fd2) (dsubtract : Def P w K mg base k "subtract" ["a", "b"] (spOp2 K (· - ·)) f3 fd3) :
    Def P w K mg base (k + 1) "_shown_by" ps__shown_by (spShown K) f fd := by
  refine ⟨F.F.ok sc__shown_by (fun vs H Q E h => ?_) (fun cdv A outer s H vs Q E hr h => ?_), F.m, F.F.kp, F.b⟩
  · obtain ⟨x, y, p, q, i, j, l, m, rfl, _⟩ := h
    rfl
  obtain ⟨x, y, p, t, i, j, l, m, rfl, ⟨a, xs, xv, xr, rfl, ha, hs, hv, hr'⟩, hy, zs, zv, zr, zt, hb, z⟩ := h
  refine ⟨_, (pss_cons (ps_asg (pv 0) (pg_tup rfl (pgs_cons (pg_name (i := 2) sc__shown_by.nd rfl (Or.inl rfl)) (pgs_cons (pg_name (i := 3) sc__shown_by.nd rfl (Or.inl rfl)) (pgs_cons (pg_name (i := 4) sc__shown_by.nd rfl (Or.inl rfl)) pgs_nil)))))
      (pss_one (ps_ret (pcall dadd hr (pa_cons (pv 3) (pa_cons (pcall dmultiply hr (pa_cons (pv 4) (pa_cons (pcall dsubtract hr (pa_cons (pv 1) (pa_cons (pv 2) pa_nil))) pa_nil))) pa_nil)))))), ?_⟩
  refine ⟨_, rfl, a, _, rfl, ha, rfl, _, _, rfl, _, _, rfl, _, _, rfl, rfl, ?_⟩
  refine ⟨_, rfl, _, rfl, _, rfl, _, rfl, _, _, t, p.s, m, i, rfl, hy, hs, zt, zs, by omega, fun r1 H1 e1 h1 => ?_⟩
  refine ⟨_, _, p.r, t - p.s, l, m + i + 1, rfl, hr'.same e1, h1, zr, zt.sub zs, by omega, fun r2 H2 e2 h2 => ?_⟩
  exact ⟨_, _, p.v, p.r * (t - p.s), j, l + (m + i + 1), rfl, hv.same (e1.trans e2), h2, zv, zr.mul (zt.sub zs), by omega, fun r3 H3 e3 h3 => z _ _ (e1.trans (e2.trans e3)) h3⟩
def spJumpAt (K : PySem.W.Frag) : Sp := fun vs H Q _ => ∃ (a : Addr) (n : Nat) (c : List Pc) (p q : Pc) (i j l : Nat), vs = [.ref a, .int ((n + 1 : Nat) : Int)] ∧ Cq K H a c ∧ c[n]? = some p ∧ c[n + 1]? = some q ∧ Cz i j l c ∧ j + j + l + i + i + 5 ≤ 9000 ∧
  ∀ r H', Same H H' → Rq K H' r (jmp (ky p) q) → Q r H'
/-- a start and a jump -/
def Jq (K : PySem.W.Frag) (H : Hp) (x : V) (p : Rat × Rat) : Prop := ∃ a xs xj, x = .ref a ∧ SqT K H a [xs, xj] ∧ Rq K H xs p.1 ∧ Rq K H xj p.2
theorem Jq.same {H H' : Hp} {x : V} {p : Rat × Rat} (e : Same H H') (h : Jq K H x p) : Jq K H' x p := by
  obtain ⟨a, xs, xj, rfl, h, h1, h2⟩ := h
  exact ⟨a, xs, xj, rfl, e.sqt h, h1.same e, h2.same e⟩
theorem Jq.fr {s : Addr} {H H' : Hp} {x : V} {p : Rat × Rat} (e : Fr s H H') (hs : ∃ ys, H s = some (.lst ys)) (h : Jq K H x p) : Jq K H' x p := by
  obtain ⟨a, xs, xj, rfl, h, h1, h2⟩ := h
  exact ⟨a, xs, xj, rfl, sqt_fr e hs h, h1.fr e hs, h2.fr e hs⟩
def djp (p : Rat × Rat) : PyData := .tuple [dq p.1, dq p.2]
theorem Jq.dp {H : Hp} {v : V} {p : Rat × Rat} (h : Jq K H v p) : Dp K H v (djp p) := by
  obtain ⟨a, xs, xj, rfl, h, h1, h2⟩ := h
  exact .tup h (.cons h1.dp (.cons h2.dp .nil))
theorem jl_len (c : List Pc) : (jl c).length ≤ c.length := by
  have g : ∀ (c : List Pc) k, (jlG k c).length ≤ c.length := fun c => by
    induction c with
    | nil => exact fun _ => Nat.le_refl _
    | cons q c ih =>
      intro k
      have := ih (ky q)
      rw [jlG]
      split
      · rw [List.length_cons]; omega
      · rw [List.length_cons, List.length_cons]; omega
  cases c with
  | nil => exact Nat.le_refl _
  | cons p c =>
    have := g c (ky p)
    show (jlG (ky p) c).length ≤ _
    rw [List.length_cons]
    omega
def spJumps (K : PySem.W.Frag) : Sp := fun vs H Q _ => ∃ (a : Addr) (c : List Pc) (i j l : Nat), vs = [.ref a] ∧ Cq K H a c ∧ Cz i j l c ∧ 1 ≤ c.length ∧ c.length ≤ 900 ∧ j + j + l + i + i + 5 ≤ 9000 ∧
  ∀ D us H', Same H H' → H D = none → H' D = some (.lst us) → All2 (Jq K H') us (jl c) → Q (.ref D) H'
def spTidy (K : PySem.W.Frag) : Sp := fun vs H Q _ => ∃ (a : Addr) (c : List Pc) (i j l : Nat), vs = [.ref a] ∧ Cq K H a c ∧ Cz i j l c ∧ 1 ≤ c.length ∧ c.length ≤ 900 ∧ j + j + l + i + i + 5 ≤ 9000 ∧
  ∀ D us H', Same H H' → H D = none → Ct K H' D us (tl c) → Q (.ref D) H'
end Vk
namespace Vk
open PySem L2 Vm
variable {l az : Addr} {P : Program} {w : World} {K : PySem.W.Frag} {mg : Str → Option Value} {base : Heap} {k : Nat} {f f1 f2 f3 f4 f5 f6 f7 f8 f9 : Addr} {fd fd1 fd2 fd3 fd4 fd5 fd6 fd7 fd8 fd9 : FuncData}
theorem num0 (q : Rat) : (V.int q.num = V.int 0) ↔ q = 0 := by
  constructor
  · intro h
    exact Rat.num_eq_zero.mp (V.int.inj h)
  · intro h
    rw [h]
    rfl
def spJD (K : PySem.W.Frag) : Sp := fun vs H Q _ => ∃ (a : Addr) (c : List Pc) (i j l : Nat), vs = [.ref a] ∧ Cq K H a c ∧ Cok c ∧ Cz i j l c ∧ 1 ≤ c.length ∧ c.length ≤ 900 ∧ i + j + l ≤ 500 ∧
  ∀ D us H', Same H H' → H D = none → H' D = some (.lst us) → All2 (Jq K H') us (jl c) → Q (.ref D) H'
def nV (n : Nat) : V := .int (n : Int)
def spCont (K : PySem.W.Frag) : Sp := fun vs H Q _ => ∃ (a : Addr) (c : List Pc) (i j l : Nat), vs = [.ref a] ∧ Cq K H a c ∧ Cok c ∧ Cz i j l c ∧ 1 ≤ c.length ∧ c.length ≤ 900 ∧ i + j + l ≤ 500 ∧
  ∀ D H', Same H H' → H D = none → H' D = some (.lst ((gl c c.length).map nV)) → Q (.ref D) H'
def spIsC (K : PySem.W.Frag) : Sp := fun vs H Q _ => ∃ (a : Addr) (c : List Pc) (i j l : Nat), vs = [.ref a] ∧ Cq K H a c ∧ Cok c ∧ Cz i j l c ∧ 1 ≤ c.length ∧ c.length ≤ 900 ∧ i + j + l ≤ 500 ∧ ∀ H', Same H H' → Q (.bl true) H'
end Vk
namespace Vk
open PySem L2 Vm
variable {l az : Addr} {P : Program} {w : World} {K : PySem.W.Frag} {mg : Str → Option Value} {base : Heap} {k : Nat} {f f1 f2 f3 f4 f5 f6 f7 f8 f9 : Addr} {fd fd1 fd2 fd3 fd4 fd5 fd6 fd7 fd8 fd9 : FuncData}
def spOrd8 (K : PySem.W.Frag) : Sp := fun vs H Q _ => ∃ (a : Addr) (xs : List V) (qs : List Rat) (m : Nat), vs = [.ref a] ∧ SqL K H a xs ∧ All2 (Rq K H) xs qs ∧ (∀ q ∈ qs, Sz m q) ∧ m ≤ 4000 ∧ qs.length ≤ 900 ∧
  ∀ D us os H', Same H H' → H D = none → H' D = some (.lst us) → All2 (Rq K H') us os → Asc os → (∀ o ∈ os, o ∈ qs) → os.length ≤ qs.length → (∀ q ∈ qs, q ∈ os) → Q (.ref D) H'
theorem ok_ord8 (T : Bn mg) (F : Fn K mg "_law_ordered" s__law_ordered ps__law_ordered f fd) (d_law_below : Def P w K mg base k "_law_below" ["_law_a", "_law_b"] (spTest2 K fun p q => .bl (decide (p < q))) f1 fd1) :
    Def P w K mg base (k + 1) "_law_ordered" ps__law_ordered (spOrd8 K) f fd := by
  refine ⟨F.F.ok sc__law_ordered (fun vs H Q E h => ?_) (fun cdv A outer s H vs Q E hr h => ?_), F.m, F.F.kp, F.b⟩
  · obtain ⟨_, _, _, _, rfl, _⟩ := h
    rfl
  obtain ⟨a, xs, qs, sz0, rfl, hx, hq, zq, hsz, hl, z⟩ := h
  refine ⟨_, (pss_cons (ps_set (i := 1) sc__law_ordered.nd rfl (Or.inl rfl) (pe_lst pa_nil))
      (pss_cons (ps_for PassesOwn.never rfl (pi_list (pv 0)) (pg_name (i := 2) sc__law_ordered.nd rfl (Or.inl rfl))
        (pss_cons (ps_set (i := 3) sc__law_ordered.nd rfl (Or.inl rfl) pe_int)
        (pss_cons (ps_for PassesOwn.never rfl (pi_range1 (by rfl) T.range_ (pa_cons (pe_callB call_len_seq (by rfl) T.len_ PySem.boot_len (pa_cons (pv 1) pa_nil)) pa_nil)) (pg_name (i := 4) sc__law_ordered.nd rfl (Or.inl rfl))
          (pss_one (ps_if (pt_val (pcall d_law_below hr (pa_cons (pe_ix ix_list (pv 1) (pv 4) (fun _ _ => rfl)) (pa_cons (pv 2) pa_nil))))
            (pss_one (ps_set (i := 3) sc__law_ordered.nd rfl (Or.inl rfl) (pe_op op_add (pv 4) pe_int)))
            pss_nil)))
        (pss_one (ps_if (PW.pt (pw_or (pt_cmpR op_eq (pv 3) (pe_callB call_len_seq (by rfl) T.len_ PySem.boot_len (pa_cons (pv 1) pa_nil)) (nomark _)) (pw_or1 (pt_cmpR (op_neD hr.units) (pe_ix ix_list (pv 1) (pv 3) (fun _ _ => rfl)) (pv 2) (nomark _)))))
          (pss_one (ps_expr (pe_bm PySem.F.plainAttrs_list PySem.F.slot_list_insert PySem.F.type_list_insert mt_insert (pv 1) (pa_cons (pv 3) (pa_cons (pv 2) pa_nil)))))
          pss_nil)))))
      (pss_one (ps_ret (pv 1))))), ?_⟩
  have p62 : (2 : Int) ^ 62 = 4611686018427387904 := by decide
  have p63 : (2 : Int) ^ 63 = 9223372036854775808 := by decide
  refine ⟨Nat.zero_le _, fun D hD => ?_⟩
  refine ⟨_, rfl, a, rfl, ⟨_, (same_new hD _).seq hx⟩, for_list (K := K) (a := a) (xs := xs) (fun i σ G => ∃ (us : List V) (os : List Rat) (k1 k2 k3 : Option V), σ = [some (.ref a), some (.ref D), k1, k2, k3] ∧ Same H G ∧ G D = some (.lst us) ∧ All2 (Rq K G) us os ∧ Asc os ∧ (∀ o ∈ os, o ∈ qs) ∧ os.length ≤ i ∧ (∀ q ∈ qs.take i, q ∈ os))
    ⟨[], [], none, none, none, rfl, same_new hD _, upd_same, All2.nil, List.Pairwise.nil, nofun, Nat.le_refl _, fun q h => by rw [List.take_zero] at h; cases h⟩ (fun i σ G _ h => by obtain ⟨_, _, _, _, _, _, s1, _⟩ := h; exact s1.seq hx) ?_ ?_⟩
  · rintro i x σ G hxi ⟨us, os, k1, k2, k3, rfl, s1, hD1, hA, asc, sub, ln, all⟩
    have hi : i < qs.length := by rw [← hq.1]; exact (List.getElem?_eq_some_iff.mp hxi).1
    have hqi : qs[i]? = some qs[i] := List.getElem?_eq_getElem hi
    have hmem : qs[i] ∈ qs := List.getElem_mem hi
    have rx := (hq.2 i x _ hxi hqi).same s1
    obtain ⟨one, eo⟩ : ∃ o, o = qs[i] := ⟨_, rfl⟩
    rw [← eo] at rx hmem
    have zo := zq one hmem
    have zos : ∀ o ∈ os, Sz sz0 o := fun o ho => zq o (sub o ho)
    have hal := hA.1
    refine ⟨_, rfl, D, _, rfl, .inl (SqL.of hD1), _, rfl, by omega, by omega, for_range (n := ((us.length : Nat) : Int).toNat) (fun j σ G' => ∃ (m : Nat) (k3 : Option V), σ = [some (.ref a), some (.ref D), some x, some (.int m), k3] ∧ G' = G ∧ Spot os one j m)
      ⟨0, k3, rfl, rfl, Nat.le_refl _, fun t o h => absurd h (by omega)⟩ ?_ ?_⟩
    · rintro j σ G' hj ⟨m, k3, rfl, rfl, sp⟩
      have hj' : j < os.length := by omega
      have hoj : os[j]? = some os[j] := List.getElem?_eq_getElem hj'
      obtain ⟨y, hy, ry⟩ := hA.at hoj
      have sn := spot_next asc sp hoj
      refine ⟨_, rfl, _, rfl, D, _, _, y, rfl, rfl, SqL.of hD1, at_of (j := j) (by omega) hy, _, rfl, _, _, os[j], one, sz0, sz0, rfl, ry, rx, zos _ (List.getElem_mem hj'), zo, by omega, _, rfl, ifD (fun g => ?_) (fun g => ?_)⟩
      · rw [if_pos g] at sn
        refine ⟨_, rfl, _, _, rfl, rfl, j + 1, some (.int (0 + (j : Int))), ?_, rfl, sn⟩
        show [some (V.ref a), some (V.ref D), some x, some (V.int (0 + (j : Int) + 1)), some (V.int (0 + (j : Int)))] = _
        rw [show (0 + (j : Int) + 1) = ((j + 1 : Nat) : Int) by omega]
      · rw [if_neg g] at sn
        exact ⟨m, _, rfl, rfl, sn⟩
    · rintro σ G' ⟨m, k3, rfl, rfl, sp⟩
      have sp : Spot os one os.length m := by
        have e : ((us.length : Nat) : Int).toNat = os.length := by omega
        rw [e] at sp
        exact sp
      have hm := sp.1
      have put : os[m]? ≠ some one → ∃ (us' : List V) (os' : List Rat) (k1 k2 k3' : Option V), [some (.ref a), some (.ref D), some x, some (.int m), k3] = [some (.ref a), some (.ref D), k1, k2, k3'] ∧ Same H (upd G' D (.lst (us.take m ++ [x] ++ us.drop m))) ∧ (upd G' D (.lst (us.take m ++ [x] ++ us.drop m))) D = some (.lst us') ∧
          All2 (Rq K (upd G' D (.lst (us.take m ++ [x] ++ us.drop m)))) us' os' ∧ Asc os' ∧ (∀ o ∈ os', o ∈ qs) ∧ os'.length ≤ i + 1 ∧ (∀ q ∈ qs.take (i + 1), q ∈ os') := fun hn => by
        have fr : Fr D G' (upd G' D (.lst (us.take m ++ [x] ++ us.drop m))) := Fr.upd _
        have hA' := hA.imp fun _ _ h => Rq.fr fr ⟨_, hD1⟩ h
        refine ⟨_, os.take m ++ [one] ++ os.drop m, _, _, _, rfl, same_upd s1 hD _, upd_same, ((hA'.take m).append (All2.one (rx.fr fr ⟨_, hD1⟩))).append (hA'.drop m), asc_insert asc sp hn, fun o ho => ?_, ?_, fun q hq => ?_⟩
        · rcases List.mem_append.mp ho with ho | ho
          · rcases List.mem_append.mp ho with ho | ho
            · exact sub o (List.mem_of_mem_take ho)
            · rw [List.mem_singleton.mp ho]
              exact hmem
          · exact sub o (List.mem_of_mem_drop ho)
        · rw [List.length_append, List.length_append, List.length_take, List.length_drop, List.length_singleton]
          omega
        · rw [List.take_add_one, hqi] at hq
          rcases List.mem_append.mp hq with hq | hq
          · have hq := all q hq
            rw [← List.take_append_drop m os] at hq
            rcases List.mem_append.mp hq with hq | hq
            · exact List.mem_append_left _ (List.mem_append_left _ hq)
            · exact List.mem_append_right _ hq
          · have hq : q = one := by rw [eo]; exact List.mem_singleton.mp hq
            rw [hq]
            exact List.mem_append_left _ (List.mem_append_right _ (List.mem_singleton.mpr rfl))
      refine ⟨_, rfl, _, rfl, D, _, rfl, .inl (SqL.of hD1), rfl, _, rfl, ifD (fun g => ifT rfl ?_) (fun g => ?_)⟩
      · have g' := V.int.inj g
        have hn : os[m]? ≠ some one := by rw [List.getElem?_eq_none (by omega)]; exact nofun
        exact ⟨_, rfl, .inl ⟨rfl, _, SqL.of hD1⟩, _, rfl, _, rfl, D, _, _, _, rfl, rfl, hD1, le1000 (by omega), by omega, by omega, put hn⟩
      · have g' : m ≠ us.length := fun e => g (by rw [e])
        have hmo : os[m]? = some os[m] := List.getElem?_eq_getElem (by omega)
        obtain ⟨y, hy, ry⟩ := hA.at hmo
        refine ⟨_, rfl, _, rfl, D, _, _, y, rfl, rfl, SqL.of hD1, at_of (j := m) rfl hy, _, rfl, _, _, ry.dp, rx.dp, sh_dq _, sh_dq _, _, rfl, ?_⟩
        rw [eqv_dq]
        by_cases e : os[m] = one
        · refine ifF (by rw [dT e]; rfl) ⟨us, os, _, _, _, rfl, s1, hD1, hA, asc, sub, by omega, fun q hq => ?_⟩
          rw [List.take_add_one, hqi] at hq
          rcases List.mem_append.mp hq with hq | hq
          · exact all q hq
          · have hq : q = one := by rw [eo]; exact List.mem_singleton.mp hq
            rw [hq, ← e]
            exact List.getElem_mem _
        · refine ifT (by rw [dF e]; rfl) ?_
          have hn : os[m]? ≠ some one := by rw [hmo]; exact fun z => e (Option.some.inj z)
          exact ⟨_, rfl, .inl ⟨rfl, _, SqL.of hD1⟩, _, rfl, _, rfl, D, _, _, _, rfl, rfl, hD1, le1000 (by omega), by omega, by omega, put hn⟩
  · rintro σ G ⟨us, os, k1, k2, k3, rfl, s1, hD1, hA, asc, sub, ln, ne⟩
    rw [hq.1] at ln
    rw [hq.1, List.take_length] at ne
    exact ⟨_, rfl, z D us os G s1 hD hD1 hA asc sub ln ne⟩


/-- a start and None -/
def Sn (K : PySem.W.Frag) (H : Hp) (x : V) (q : Rat) : Prop := ∃ a xs, x = .ref a ∧ SqT K H a [xs, .non] ∧ Rq K H xs q
theorem Sn.same {H H' : Hp} {x : V} {q : Rat} (e : Same H H') (h : Sn K H x q) : Sn K H' x q := by
  obtain ⟨a, xs, rfl, h, h1⟩ := h
  exact ⟨a, xs, rfl, e.sqt h, h1.same e⟩
theorem Sn.fr {s : Addr} {H H' : Hp} {x : V} {q : Rat} (e : Fr s H H') (hs : ∃ ys, H s = some (.lst ys)) (h : Sn K H x q) : Sn K H' x q := by
  obtain ⟨a, xs, rfl, h, h1⟩ := h
  exact ⟨a, xs, rfl, sqt_fr e hs h, h1.fr e hs⟩
def spProbes (K : PySem.W.Frag) : Sp := fun vs H Q _ => ∃ (a : Addr) (xs : List V) (qs : List Rat) (m : Nat), vs = [.ref a] ∧ SqL K H a xs ∧ All2 (Sn K H) xs qs ∧ (∀ q ∈ qs, Sz m q) ∧ m ≤ 500 ∧ 1 ≤ qs.length ∧ qs.length ≤ 100 ∧
  ∀ D us ts H', Same H H' → H D = none → H' D = some (.lst us) → All2 (Rq K H') us ts → (∀ t ∈ ts, Sz (m + m + 4) t) → (∃ t ∈ ts, ∀ q ∈ qs, q < t) → ts.length ≤ 400 → Q (.ref D) H'
end Vk
namespace Vk
open PySem L2 Vm Vs
variable {l az : Addr} {P : Program} {w : World} {K : PySem.W.Frag} {mg : Str → Option Value} {base : Heap} {k : Nat} {f f1 f2 f3 f4 f5 f6 f7 f8 f9 : Addr} {fd fd1 fd2 fd3 fd4 fd5 fd6 fd7 fd8 fd9 : FuncData}
/-! ### ends and spans -/
def OSz (m : Nat) (o : Option Rat) : Prop := ∀ q, o = some q → Sz m q
def SSz (m : Nat) (s : Spn) : Prop := OSz m s.1 ∧ OSz m s.2
theorem optV.same {H H' : Hp} {v : V} {o : Option Rat} (e : Same H H') (h : optV K H v o) : optV K H' v o := by
  cases o with
  | none => exact h
  | some q => exact Rq.same e h
theorem optV.fr {s : Addr} {H H' : Hp} {v : V} {o : Option Rat} (e : Fr s H H') (hs : ∃ ys, H s = some (.lst ys)) (h : optV K H v o) : optV K H' v o := by
  cases o with
  | none => exact h
  | some q => exact Rq.fr e hs h
def Spq (K : PySem.W.Frag) (H : Hp) (x : V) (s : Spn) : Prop := ∃ a u v, x = .ref a ∧ SqT K H a [u, v] ∧ optV K H u s.1 ∧ optV K H v s.2
theorem Spq.same {H H' : Hp} {x : V} {s : Spn} (e : Same H H') (h : Spq K H x s) : Spq K H' x s := by
  obtain ⟨a, u, v, rfl, h, h1, h2⟩ := h
  exact ⟨a, u, v, rfl, e.sqt h, h1.same e, h2.same e⟩
theorem Spq.fr {s : Addr} {H H' : Hp} {x : V} {p : Spn} (e : Fr s H H') (hs : ∃ ys, H s = some (.lst ys)) (h : Spq K H x p) : Spq K H' x p := by
  obtain ⟨a, u, v, rfl, h, h1, h2⟩ := h
  exact ⟨a, u, v, rfl, sqt_fr e hs h, h1.fr e hs, h2.fr e hs⟩
def oSp (K : PySem.W.Frag) (H : Hp) (x : V) : Option Spn → Prop
  | none => x = .non
  | some s => Spq K H x s
theorem oSp.same {H H' : Hp} {x : V} {o : Option Spn} (e : Same H H') (h : oSp K H x o) : oSp K H' x o := by
  cases o with
  | none => exact h
  | some q => exact Spq.same e h
theorem osz_max {m : Nat} {a b : Option Rat} (h : OSz m a) (g : OSz m b) : OSz m (maxO a b) := by
  cases a with
  | none => exact g
  | some p => cases b with
    | none => exact h
    | some q =>
      intro r e
      simp only [maxO] at e
      cases Option.some.inj e
      split
      · exact h _ rfl
      · exact g _ rfl
theorem osz_min {m : Nat} {a b : Option Rat} (h : OSz m a) (g : OSz m b) : OSz m (minO a b) := by
  cases a with
  | none => exact g
  | some p => cases b with
    | none => exact h
    | some q =>
      intro r e
      simp only [minO] at e
      cases Option.some.inj e
      split
      · exact h _ rfl
      · exact g _ rfl
theorem osz_mov {m j : Nat} {o : Option Rat} {d : Rat} (h : OSz m o) (g : Sz j d) : OSz (m + j + 1) (movO o d) := by
  cases o with
  | none => nofun
  | some q => intro r e; cases Option.some.inj e; exact (h _ rfl).add g
theorem osz_neg {m : Nat} {o : Option Rat} (h : OSz m o) : OSz m (negO o) := by
  cases o with
  | none => nofun
  | some q => intro r e; cases Option.some.inj e; exact (h _ rfl).neg
theorem osz_up {m j : Nat} {o : Option Rat} (h : OSz m o) (e : m ≤ j) : OSz j o := fun q g => (h q g).mono e
theorem ssz_meet {m : Nat} {a b s : Spn} (h : SSz m a) (g : SSz m b) (e : meetO a b = some s) : SSz m s := by
  unfold meetO at e
  split at e
  · cases e
  · cases e
    exact ⟨osz_max h.1 g.1, osz_min h.2 g.2⟩
theorem ssz_off {x y : Rat} {i j : Nat} {fo ba s : Spn} (hx : Sz j x) (hy : Sz j y) (h : SSz i fo) (g : SSz i ba) (e : offO x y fo ba = some s) : SSz (i + j + 1) s :=
  ssz_meet ⟨osz_mov (osz_neg h.2) hx, osz_mov (osz_neg h.1) hx⟩ ⟨osz_mov g.1 hy, osz_mov g.2 hy⟩ e
/-- the written half -/
structure Hf (K : PySem.W.Frag) (mg : Str → Option Value) (az : Addr) : Prop where
  m : mg "HALF" = some (.ref az)
  q : ∀ H, Rq K H (.ref az) (1 / 2)
/-! ### the lesser and the greater one -/
def spSel (K : PySem.W.Frag) (g : Rat → Rat → Rat) : Sp := fun vs H Q _ => ∃ (x y : V) (p q : Rat) (m l : Nat), vs = [x, y] ∧ Rq K H x p ∧ Rq K H y q ∧ Sz m p ∧ Sz l q ∧ m + l + 1 ≤ 9000 ∧ ∀ v, Rq K H v (g p q) → Q v H
theorem sg_le {p q : Rat} : sg p q ≤ 0 ↔ p ≤ q := by
  unfold sg
  split
  · rename_i h
    subst h
    simp [Rat.le_refl]
  · split
    · rename_i h1 h2
      exact ⟨fun _ => by grind, fun _ => by omega⟩
    · rename_i h1 h2
      exact ⟨fun h => by omega, fun h => absurd h (by grind)⟩
abbrev s_smaller : Stmt := top 42
abbrev N_smaller : List Str := ["a", "b"]
theorem sc_smaller : FnScope N_smaller ["a", "b"] (defScope s_smaller) := ⟨rfl, rfl, rfl, by decide +kernel, rfl, by decide +kernel, by decide +kernel⟩
abbrev ps_smaller : List Str := ["a", "b"]
theorem ok_smaller (F : Fn K mg "smaller" s_smaller ps_smaller f fd) (dcompare : Def P w K mg base k "compare" ["a", "b"] (spTest2 K fun p q => .int (sg p q)) f1 fd1) : Def P w K mg base (k + 1) "smaller" ps_smaller (spSel K fun p q => if p ≤ q then p else q) f fd := by
  refine ⟨F.F.ok sc_smaller (fun vs H Q E h => ?_) (fun cdv A outer s H vs Q E hr h => ?_), F.m, F.F.kp, F.b⟩
  · obtain ⟨x, y, p, q, m, l, rfl, _⟩ := h
    rfl
  obtain ⟨x, y, p, q, m, l, rfl, ha, hb, zp, zq, hm, z⟩ := h
  refine ⟨_, (pss_one (ps_ret (pe_ifExp (pt_cmpR op_le (pcall dcompare hr (pa_cons (pv 0) (pa_cons (pv 1) pa_nil))) pe_int (nomark _)) (pv 0) (pv 1)))), ?_⟩
  refine ⟨_, rfl, _, rfl, x, y, p, q, m, l, rfl, ha, hb, zp, zq, by omega, _, _, rfl, rfl, _, rfl, ifD (fun c => ⟨_, rfl, z _ ?_⟩) (fun c => ⟨_, rfl, z _ ?_⟩)⟩
  · dsimp only; rw [if_pos (sg_le.mp c)]; exact ha
  · dsimp only; rw [if_neg (fun e => c (sg_le.mpr e))]; exact hb
abbrev s_larger : Stmt := top 43
abbrev N_larger : List Str := ["a", "b"]
theorem sc_larger : FnScope N_larger ["a", "b"] (defScope s_larger) := ⟨rfl, rfl, rfl, by decide +kernel, rfl, by decide +kernel, by decide +kernel⟩
abbrev ps_larger : List Str := ["a", "b"]
theorem ok_larger (F : Fn K mg "larger" s_larger ps_larger f fd) (dcompare : Def P w K mg base k "compare" ["a", "b"] (spTest2 K fun p q => .int (sg p q)) f1 fd1) : Def P w K mg base (k + 1) "larger" ps_larger (spSel K fun p q => if q ≤ p then p else q) f fd := by
  refine ⟨F.F.ok sc_larger (fun vs H Q E h => ?_) (fun cdv A outer s H vs Q E hr h => ?_), F.m, F.F.kp, F.b⟩
  · obtain ⟨x, y, p, q, m, l, rfl, _⟩ := h
    rfl
  obtain ⟨x, y, p, q, m, l, rfl, ha, hb, zp, zq, hm, z⟩ := h
  refine ⟨_, (pss_one (ps_ret (pe_ifExp (pt_cmpR op_ge (pcall dcompare hr (pa_cons (pv 0) (pa_cons (pv 1) pa_nil))) pe_int (nomark _)) (pv 0) (pv 1)))), ?_⟩
  refine ⟨_, rfl, _, rfl, x, y, p, q, m, l, rfl, ha, hb, zp, zq, by omega, _, _, rfl, rfl, _, rfl, ifD (fun c => ⟨_, rfl, z _ ?_⟩) (fun c => ⟨_, rfl, z _ ?_⟩)⟩
  · dsimp only; rw [if_pos (sg_ge.mp c)]; exact ha
  · dsimp only; rw [if_neg (fun e => c (sg_ge.mpr e))]; exact hb
def spEnd2 (K : PySem.W.Frag) (g : Option Rat → Option Rat → Option Rat) : Sp := fun vs H Q _ => ∃ (x y : V) (p q : Option Rat) (m : Nat), vs = [x, y] ∧ optV K H x p ∧ optV K H y q ∧ OSz m p ∧ OSz m q ∧ m + m + 1 ≤ 9000 ∧ ∀ v, optV K H v (g p q) → Q v H
def spMeet (K : PySem.W.Frag) : Sp := fun vs H Q _ => ∃ (x y : V) (s t : Spn) (m : Nat), vs = [x, y] ∧ Spq K H x s ∧ Spq K H y t ∧ SSz m s ∧ SSz m t ∧ m + m + 1 ≤ 9000 ∧ ∀ v H', Same H H' → oSp K H' v (meetO s t) → Q v H'
theorem sg_gt {p q : Rat} : 0 < sg p q ↔ q < p := by
  have := @sg_le p q
  constructor
  · intro h; exact Rat.not_le.mp fun e => by have := this.mpr e; omega
  · intro h; exact Int.not_le.mp fun e => absurd (this.mp e) (Rat.not_le.mpr h)
end Vk


namespace Vk
open PySem L2 Vm Vl
variable {l aZERO aONE CB CR fB fR : Addr} {P : Program} {w : World} {K : PySem.W.Frag} {mg : Str → Option Value} {base : Heap} {k : Nat} {f f1 f2 f3 f4 f5 f6 f7 f8 f9 : Addr} {fd fd1 fd2 fd3 fd4 fd5 fd6 fd7 fd8 fd9 : FuncData}
/-- a rational of the module -/
structure Cn (K : PySem.W.Frag) (mg : Str → Option Value) (x : Str) (p : Rat) (a : Addr) : Prop where
  m : mg x = some (.ref a)
  q : ∀ H, Rq K H (.ref a) p
theorem zz1 : Sz 1 (0 : Rat) := by decide +kernel
theorem zo1 : Sz 1 (1 : Rat) := by decide +kernel
def spNB (K : PySem.W.Frag) (CB : Addr) : Sp := fun vs H Q E => ∃ (x : V) (q : Rat) (m : Nat), vs = [x] ∧ Rq K H x q ∧ Sz m q ∧ m ≤ 8000 ∧ (0 ≤ q → Q .non H) ∧ (q < 0 → eV E CB H x)
def spSD (K : PySem.W.Frag) (CR : Addr) : Sp := fun vs H Q E => ∃ (x y : V) (s d : Rat) (m : Nat), vs = [x, y] ∧ Rq K H x s ∧ Rq K H y d ∧ Sz m s ∧ Sz m d ∧ m ≤ 4000 ∧
  (0 < s → s < 1 → 0 ≤ d → d < s → Q .non H) ∧ (s ≤ 0 ∨ 1 ≤ s → eV E CR H x) ∧ (0 < s → s < 1 → d < 0 ∨ s ≤ d → eV E CR H y)
theorem sg_le' {p q : Rat} : sg p q ≤ 0 ↔ p ≤ q := by
  have h := @sg_lt p q
  have g := @sg_ge p q
  constructor
  · intro e
    by_cases z : sg p q < 0
    · have := h.mp z; grind
    · have e0 : sg p q = 0 := by omega
      unfold sg at e0
      split at e0
      · rename_i hh; rw [hh]; exact Rat.le_refl
      · split at e0 <;> omega
  · intro e
    by_cases z : p < q
    · have := h.mpr z; omega
    · have e2 : p = q := by grind
      unfold sg
      rw [if_pos e2]
      omega
/-- the five arguments of a lap -/
structure L5 (K : PySem.W.Frag) (H : Hp) (xb xh xl xs xd : V) (x : A6) (m : Nat) : Prop where
  b : Rq K H xb x.b
  h : Rq K H xh x.h
  l : Rq K H xl x.l
  s : Rq K H xs x.s
  d : Rq K H xd x.d
  zb : Sz m x.b
  zh : Sz m x.h
  zl : Sz m x.l
  zs : Sz m x.s
  zd : Sz m x.d
theorem L5.same {H H' : Hp} {xb xh xl xs xd : V} {x : A6} {m : Nat} (h : L5 K H xb xh xl xs xd x m) (e : Same H H') : L5 K H' xb xh xl xs xd x m := { h with b := h.b.same e, h := h.h.same e, l := h.l.same e, s := h.s.same e, d := h.d.same e }
theorem L5.fr {s : Addr} {H H' : Hp} {xb xh xl xs xd : V} {x : A6} {m : Nat} (h : L5 K H xb xh xl xs xd x m) (e : Fr s H H') (hs : ∃ ys, H s = some (.lst ys)) : L5 K H' xb xh xl xs xd x m := { h with b := h.b.fr e hs, h := h.h.fr e hs, l := h.l.fr e hs, s := h.s.fr e hs, d := h.d.fr e hs }
/-- the first wrong argument: what it wishes of an error -/
def Fault (x : A6) (W : Bool → Nat → Prop) : Prop :=
  (x.b < 0 → W true 0) ∧ (0 ≤ x.b → x.h < 0 → W true 1) ∧ (0 ≤ x.b → 0 ≤ x.h → x.l ≤ 0 → W true 2) ∧ (0 ≤ x.b → 0 ≤ x.h → 0 < x.l → x.s ≤ 0 ∨ 1 ≤ x.s → W false 3) ∧
    (0 ≤ x.b → 0 ≤ x.h → 0 < x.l → 0 < x.s → x.s < 1 → x.d < 0 ∨ x.s ≤ x.d → W false 4)
def eF (E : XK) (CB CR : Addr) (H : Hp) (ys : List V) : Bool → Nat → Prop := fun b i => ∀ y, ys[i]? = some y → eV E (if b = true then CB else CR) H y
def spLap (K : PySem.W.Frag) (CB CR : Addr) : Sp := fun vs H Q E => ∃ (xb xh xl xs xd : V) (x : A6) (m : Nat), vs = [xb, xh, xl, xs, xd] ∧ L5 K H xb xh xl xs xd x m ∧ m ≤ 4000 ∧ (Good x → Q .non H) ∧ Fault x (eF E CB CR H [xb, xh, xl, xs, xd])
def spBehind (K : PySem.W.Frag) : Sp := fun vs H Q _ => ∃ (xb xh xl xs xd : V) (x : A6) (m : Nat), vs = [xb, xh, xl, xs, xd] ∧ L5 K H xb xh xl xs xd x m ∧ m ≤ 1500 ∧ ∀ v H', Same H H' → Rq K H' v (nextB x x.b) → Q v H'
def spAfter (K : PySem.W.Frag) (CB CR : Addr) : Sp := fun vs H Q E => ∃ (xb xh xl xs xd : V) (x : A6) (m : Nat), vs = [xb, xh, xl, xs, xd] ∧ L5 K H xb xh xl xs xd x m ∧ m ≤ 1500 ∧ (Good x → ∀ v H', Same H H' → Rq K H' v (nextB x x.b) → Q v H') ∧ Fault x (eF E CB CR H [xb, xh, xl, xs, xd])
end Vk
namespace Vk
open PySem L2 Vm Vl
variable {l aZERO aONE CB CR fB fR : Addr} {P : Program} {w : World} {K : PySem.W.Frag} {mg : Str → Option Value} {base : Heap} {k : Nat} {f f1 f2 f3 f4 f5 f6 f7 f8 f9 : Addr} {fd fd1 fd2 fd3 fd4 fd5 fd6 fd7 fd8 fd9 : FuncData}
/-! ### rates -/
def ab (q : Rat) : Rat := if q < 0 then -q else q
theorem ab_num (q : Rat) : (ab q).num = if q.num < 0 then -q.num else q.num := by
  unfold ab
  have h : q < 0 ↔ q.num < 0 := by rw [← Rat.not_le, ← Rat.num_nonneg]; omega
  by_cases c : q < 0
  · rw [if_pos c, if_pos (h.mp c), Rat.neg_num]
  · rw [if_neg c, if_neg fun e => c (h.mpr e)]
theorem ab_den (q : Rat) : (ab q).den = q.den := by
  unfold ab
  split
  · exact Rat.neg_den q
  · rfl
theorem Sz.ab {m : Nat} {q : Rat} (h : Sz m q) : Sz m (ab q) := by
  unfold Vk.ab
  split
  · exact h.neg
  · exact h
theorem rq_ab {H : Hp} {t : Addr} {q : Rat} : Rq K (upd H t (.tup [.int (if q.num < 0 then -q.num else q.num), .int q.den])) (.ref t) (ab q) := by
  refine ⟨t, rfl, ?_⟩
  rw [ab_num, ab_den]
  exact SqT.of upd_same
abbrev s_distance : Stmt := top 40
abbrev N_distance : List Str := ["a", "b", "gap"]
theorem sc_distance : FnScope N_distance ["a", "b"] (defScope s_distance) := ⟨rfl, rfl, rfl, by decide +kernel, rfl, by decide +kernel, by decide +kernel⟩
abbrev ps_distance : List Str := ["a", "b"]
theorem ok_distance (T : Bn mg) (F : Fn K mg "distance" s_distance ps_distance f fd) (dsubtract : Def P w K mg base k "subtract" ["a", "b"] (spOp2 K (· - ·)) f1 fd1) : Def P w K mg base (k + 1) "distance" ps_distance (spOp2 K fun p q => ab (p - q)) f fd := by
  refine ⟨F.F.ok sc_distance (fun vs H Q E h => ?_) (fun cdv A outer s H vs Q E hr h => ?_), F.m, F.F.kp, F.b⟩
  · obtain ⟨x, y, p, q, m, l, rfl, _⟩ := h
    rfl
  obtain ⟨x, y, p, q, m, l, rfl, hx, hy, zp, zq, hm, z⟩ := h
  refine ⟨_, (pss_cons (ps_set (i := 2) sc_distance.nd rfl (Or.inl rfl) (pcall dsubtract hr (pa_cons (pv 0) (pa_cons (pv 1) pa_nil))))
      (pss_one (ps_ret (pe_tup (pa_cons (pe_callB call_abs (by rfl) T.abs_ (by decide +kernel) (pa_cons (pe_ix ix_tup (pv 2) pe_int (fun _ _ => rfl)) pa_nil)) (pa_cons (pe_ix ix_tup (pv 2) pe_int (fun _ _ => rfl)) pa_nil)))))), ?_⟩
  refine ⟨_, rfl, _, rfl, x, y, p, q, m, l, rfl, hx, hy, zp, zq, hm, fun v H1 e1 ⟨a, ea, ha⟩ => ?_⟩
  subst ea
  refine ⟨_, rfl, a, _, _, _, rfl, rfl, ha, at0 rfl, _, rfl, _, rfl, a, _, _, _, rfl, rfl, ha, at1 rfl, sz2, fun t ht => ?_⟩
  exact z _ _ (e1.trans (same_new ht _)) rq_ab
def spRates (K : PySem.W.Frag) (CR : Addr) : Sp := fun vs H Q E => ∃ (x y : V) (s d : Rat) (m : Nat), vs = [x, y] ∧ Rq K H x s ∧ Rq K H y d ∧ Sz m s ∧ Sz m d ∧ m ≤ 2000 ∧
  (0 < s → s ≤ d → Q .non H) ∧ (s ≤ 0 → eV E CR H x) ∧ (0 < s → d < s → eV E CR H y)
/-- the drift between two rates -/
def dri (s d : Rat) : Rat := if ab (1 - 1 / s) ≤ ab (1 - 1 / d) then ab (1 - 1 / d) else ab (1 - 1 / s)
def spDrift (K : PySem.W.Frag) (CR : Addr) : Sp := fun vs H Q E => ∃ (x y : V) (s d : Rat) (m : Nat), vs = [x, y] ∧ Rq K H x s ∧ Rq K H y d ∧ Sz m s ∧ Sz m d ∧ m ≤ 2000 ∧
  (0 < s → s ≤ d → ∀ v H', Same H H' → Rq K H' v (dri s d) → Q v H') ∧ (s ≤ 0 → eV E CR H x) ∧ (0 < s → d < s → eV E CR H y)
/-- wrong rates, and which of them is told -/
def Br (K : PySem.W.Frag) (H : Hp) (v : V) : Prop := ∃ r x y t u s d, v = .ref r ∧ SqT K H r [x, y, .ref t] ∧ SqT K H t [.str "BadRate", u] ∧ Rq K H x s ∧ Rq K H y d ∧ Sz 40 s ∧ Sz 40 d ∧ ((s ≤ 0 ∧ u = x) ∨ (0 < s ∧ d < s ∧ u = y))
end Vk
namespace Vk
open PySem L2 Vm Vl
variable {l CB CR CV CE CT fB fR : Addr} {P : Program} {w : World} {K : PySem.W.Frag} {mg : Str → Option Value} {base : Heap} {k : Nat} {f f1 f2 f3 f4 f5 f6 f7 f8 f9 : Addr} {fd fd1 fd2 fd3 fd4 fd5 fd6 fd7 fd8 fd9 : FuncData}
theorem pss_if {X : Cx} {b : List Stmt} {p : Prop} {t : TS} (h : p → PSs X b t) : PSs X b (fun D σ H => p ∧ t D σ H) := ⟨fun pins s σ H D I w => (h w.1).run pins s σ H D I w.2⟩
def cC (CB CR : Addr) (b : Bool) : Addr := if b = true then CB else CR
/-- the classes that the law names, and what isinstance says of them -/
structure CN (K : PySem.W.Frag) (mg : Str → Option Value) (CB CR CV CE CT : Addr) : Prop where
  e : ∀ b, ExcC K (cC CB CR b)
  gB : mg "BadBound" = some (.ref CB)
  gR : mg "BadRate" = some (.ref CR)
  gV : mg "VerdictError" = some (.ref CV)
  gE : mg "EmptySpan" = some (.ref CE)
  gT : mg "TurnsBack" = some (.ref CT)
  rb : PySem.W.exmOne K (.ref CR) (.ref CB) = some false
  kB : ∀ b, PySem.W.kitOne K (.ref (cC CB CR b)) (.ref CB) = some b
  kR : ∀ b, PySem.W.kitOne K (.ref (cC CB CR b)) (.ref CR) = some (!b)
  kE : ∀ b, PySem.W.kitOne K (.ref (cC CB CR b)) (.ref CE) = some false
  kT : ∀ b, PySem.W.kitOne K (.ref (cC CB CR b)) (.ref CT) = some false
  kV : ∀ b, PySem.W.kitOne K (.ref (cC CB CR b)) (.ref CV) = some true
theorem pe_callP2 {X : Cx} {k : Nat} {f : Addr} {fd : FuncData} {ps : List Str} {sp : Addr × Obj → Sp} {sp' : Sp} {p : Addr × Obj} {x : Str} {q pos : Pos} {e : Expr} {es : List Expr} {t : TA} (F : DefP X.prog X.w X.K X.mg X.base k x ps sp f fd) (room : L2H.RoomH k X.A) (hot : L2H.Hot1 X.A p) (hp : p ∈ X.pn)
    (imp : ∀ vs H Q E, sp' vs H Q E → sp p vs H Q E) (ha : PA X (e :: es) t) (hg : Gl X x := by rfl) (hdb : (x == ("__debug__" : Str)) = false := by decide)
    (he : starEach (e :: es) X.env = (false, eval e X.env) :: starEach es X.env := by rfl) (hpl : (backTo pos (starEach es X.env)).any (·.1) = false := by rfl) : PE X (.Call (.Name x q) (e :: es) [] pos) (tCall sp' [] E0 t) := by
  refine ⟨?_⟩
  intro pins s σ H Q I want
  refine wpAny_Call_Name_kw (ld_glob I hg F.m ?_ hdb)
  refine PySem.W.callWith_K (h₀ := X.base) I.ok.mod.kin F.kp (thn (ha.run pos pins s σ H _ I want) ?_) he hpl
  rintro us s1 ⟨vs, H1, I1, r, z⟩
  refine ⟨I1.kIn, ?_⟩
  have z : sp p vs H1 Q E0 := by rw [List.append_nil] at z; exact imp _ _ _ _ z
  have cnt : us.length = ps.length := by rw [← r.length]; exact F.ok.many _ _ _ _ _ z
  have bound := F.b s1 us I1.kIn (by rw [List.append_nil]; exact cnt)
  rw [List.append_nil] at bound
  have at1 := I1.pin p (List.mem_append_left _ hp)
  have pin : L2H.PinOk X.stack H1 s1 p := ⟨at1.1, at1.2.1, fun m => (List.mem_cons.mp (I1.stkSub p.1 m)).elim at1.2.2.1 at1.2.2.2.1, at1.2.2.2.2⟩
  refine wpAny_call (codeAny_mono (F.ok.go X.A X.stack s1 H1 ⟨us, []⟩ us vs Q E0 p room hot pin I1.env0 bound r z) ?_)
  intro res s2 out
  cases res with
  | error _ => exact out.elim
  | ok fl =>
    cases fl with
    | ret u => exact I1.after out
    | next => exact out.elim
    | brk => exact out.elim
    | cont => exact out.elim
end Vk


namespace Vk
open PySem L2 Vm Vl
variable {K : PySem.W.Frag}
/-- a comprehension over a list: what each item gives, if it gives anything -/
theorem lcAll {α β : Type} {R : Hp → V → α → Prop} {R' : Hp → V → β → Prop} (L : Lasts R') (φ : α → Option β) {a : Addr} {xs : List V} {c : List α} {H : Hp} {g : TG} {tt : TT} {te : TE} {vs : List Nat} {σ : L2.St} {Qd : Hp → Prop} {D : Addr} (hD : H D = none)
    (hx : SqL K H a xs) (hc : All2 (R H) xs c) (hl : c.length ≤ 1000)
    (hs : ∀ (i : Nat) x p G, c[i]? = some p → R H x p → Same H G → ∀ (Y : V → Hp → Prop) (N : Hp → Prop), (∀ y G' b, Same G G' → φ p = some b → R' G' y b → Y y G') → (∀ G', φ p = none → Same G G' → N G') →
      g x (wipe σ vs) G fun σ2 H2 => wipe σ2 vs = wipe σ vs ∧ tt σ2 H2 fun b H3 => if b = true then te σ2 H3 Y else N H3)
    (hd : ∀ us H', Same H H' → H' D = some (.lst us) → All2 (R' H') us (c.filterMap φ) → Qd H') :
    ∃ W : Nat → Nat → Hp → Prop, (∃ m, W 0 m (upd H D (.lst []))) ∧ ∀ i m H, W i m H →
      ((Itl K a).stop i H ∧ Qd H) ∨ ((Itl K a).go i H ∧ ∃ Nx : Hp → Prop, (∀ H', Nx H' → ∃ m', m' < m ∧ W (i + 1) m' H') ∧ ∀ x H', (Itl K a).yld i H x H' → g x (wipe σ vs) H' fun σ2 H2 => wipe σ2 vs = wipe σ vs ∧ tt σ2 H2 fun b H3 =>
        if b = true then te σ2 H3 fun y H4 => ∃ acc, H4 D = some (.lst acc) ∧ acc.length < sizeLine ∧ Nx (upd H4 D (.lst (acc ++ [y]))) else Nx H3) := by
  refine lc_list (xs := xs) (fun i G => ∃ acc, G D = some (.lst acc) ∧ Same H G ∧ All2 (R' G) acc ((c.take i).filterMap φ)) ⟨[], upd_same, same_new hD _, by rw [List.take_zero]; exact All2.nil⟩ (fun i G _ h => by obtain ⟨_, _, s1, _⟩ := h; exact s1.seq hx) ?_ ?_
  · rintro i x G hxi ⟨acc, h1, s1, h2⟩
    have hi : i < c.length := by have := (List.getElem?_eq_some_iff.mp hxi).1; rw [hc.1] at this; exact this
    have ec : c[i]? = some c[i] := List.getElem?_eq_getElem hi
    have et : c.take (i + 1) = c.take i ++ [c[i]] := by rw [List.take_add_one, ec]; rfl
    refine hs i x c[i] G ec (hc.2 i x _ hxi ec) s1 _ _ (fun y G' b e1 eb r => ?_) (fun G' eb e1 => ?_)
    · have hD2 := e1 _ _ h1
      have fr : Fr D G' (upd G' D (.lst (acc ++ [y]))) := Fr.upd _
      refine ⟨acc, hD2, ?_, acc ++ [y], upd_same, same_upd (s1.trans e1) hD _, ?_⟩
      · have q := h2.1
        have q2 := List.length_filterMap_le φ (c.take i)
        rw [List.length_take] at q2
        have : sizeLine = 16777216 := sizeLine_eq
        omega
      · rw [et, List.filterMap_append]
        have : [c[i]].filterMap φ = [b] := by simp [List.filterMap, eb]
        rw [this]
        exact (h2.imp fun _ _ q => L fr ⟨_, hD2⟩ (L (Fr.of (s := D) e1) ⟨_, h1⟩ q)).snoc (L fr ⟨_, hD2⟩ r)
    · refine ⟨acc, e1 _ _ h1, s1.trans e1, ?_⟩
      rw [et, List.filterMap_append]
      have : [c[i]].filterMap φ = [] := by simp [List.filterMap, eb]
      rw [this, List.append_nil]
      exact h2.imp fun _ _ q => L (Fr.of (s := D) e1) ⟨_, h1⟩ q
  · rintro G ⟨acc, h1, s1, h2⟩
    rw [List.take_of_length_le (by rw [hc.1]; exact Nat.le_refl _)] at h2
    exact hd acc G s1 h1 h2
/-- a comprehension over a tuple: what each item gives, if it gives anything -/
theorem lcAllT {α β : Type} {R : Hp → V → α → Prop} {R' : Hp → V → β → Prop} (L : Lasts R') (φ : α → Option β) {a : Addr} {xs : List V} {c : List α} {H : Hp} {g : TG} {tt : TT} {te : TE} {vs : List Nat} {σ : L2.St} {Qd : Hp → Prop} {D : Addr} (hD : H D = none)
    (hx : SqT K H a xs) (hc : All2 (R H) xs c) (hl : c.length ≤ 1000)
    (hs : ∀ (i : Nat) x p G, c[i]? = some p → R H x p → Same H G → ∀ (Y : V → Hp → Prop) (N : Hp → Prop), (∀ y G' b, Same G G' → φ p = some b → R' G' y b → Y y G') → (∀ G', φ p = none → Same G G' → N G') →
      g x (wipe σ vs) G fun σ2 H2 => wipe σ2 vs = wipe σ vs ∧ tt σ2 H2 fun b H3 => if b = true then te σ2 H3 Y else N H3)
    (hd : ∀ us H', Same H H' → H' D = some (.lst us) → All2 (R' H') us (c.filterMap φ) → Qd H') :
    ∃ W : Nat → Nat → Hp → Prop, (∃ m, W 0 m (upd H D (.lst []))) ∧ ∀ i m H, W i m H →
      ((Itt K a).stop i H ∧ Qd H) ∨ ((Itt K a).go i H ∧ ∃ Nx : Hp → Prop, (∀ H', Nx H' → ∃ m', m' < m ∧ W (i + 1) m' H') ∧ ∀ x H', (Itt K a).yld i H x H' → g x (wipe σ vs) H' fun σ2 H2 => wipe σ2 vs = wipe σ vs ∧ tt σ2 H2 fun b H3 =>
        if b = true then te σ2 H3 fun y H4 => ∃ acc, H4 D = some (.lst acc) ∧ acc.length < sizeLine ∧ Nx (upd H4 D (.lst (acc ++ [y]))) else Nx H3) := by
  refine lc_tup (xs := xs) (fun i G => ∃ acc, G D = some (.lst acc) ∧ Same H G ∧ All2 (R' G) acc ((c.take i).filterMap φ)) ⟨[], upd_same, same_new hD _, by rw [List.take_zero]; exact All2.nil⟩ (fun i G _ h => by obtain ⟨_, _, s1, _⟩ := h; exact s1.sqt hx) ?_ ?_
  · rintro i x G hxi ⟨acc, h1, s1, h2⟩
    have hi : i < c.length := by have := (List.getElem?_eq_some_iff.mp hxi).1; rw [hc.1] at this; exact this
    have ec : c[i]? = some c[i] := List.getElem?_eq_getElem hi
    have et : c.take (i + 1) = c.take i ++ [c[i]] := by rw [List.take_add_one, ec]; rfl
    refine hs i x c[i] G ec (hc.2 i x _ hxi ec) s1 _ _ (fun y G' b e1 eb r => ?_) (fun G' eb e1 => ?_)
    · have hD2 := e1 _ _ h1
      have fr : Fr D G' (upd G' D (.lst (acc ++ [y]))) := Fr.upd _
      refine ⟨acc, hD2, ?_, acc ++ [y], upd_same, same_upd (s1.trans e1) hD _, ?_⟩
      · have q := h2.1
        have q2 := List.length_filterMap_le φ (c.take i)
        rw [List.length_take] at q2
        have : sizeLine = 16777216 := sizeLine_eq
        omega
      · rw [et, List.filterMap_append]
        have : [c[i]].filterMap φ = [b] := by simp [List.filterMap, eb]
        rw [this]
        exact (h2.imp fun _ _ q => L fr ⟨_, hD2⟩ (L (Fr.of (s := D) e1) ⟨_, h1⟩ q)).snoc (L fr ⟨_, hD2⟩ r)
    · refine ⟨acc, e1 _ _ h1, s1.trans e1, ?_⟩
      rw [et, List.filterMap_append]
      have : [c[i]].filterMap φ = [] := by simp [List.filterMap, eb]
      rw [this, List.append_nil]
      exact h2.imp fun _ _ q => L (Fr.of (s := D) e1) ⟨_, h1⟩ q
  · rintro G ⟨acc, h1, s1, h2⟩
    rw [List.take_of_length_le (by rw [hc.1]; exact Nat.le_refl _)] at h2
    exact hd acc G s1 h1 h2
theorem forL {a : Addr} {xs : List V} {g : TG} {tb : TS} {nx : L2.St → Hp → Prop} {rt : VK} {σ : L2.St} {H : Hp} (Pv : Nat → L2.St → Hp → Prop) (h0 : Pv 0 σ H) (hl : ∀ i σ H, i ≤ xs.length → Pv i σ H → SqL K H a xs) (hs : ∀ i x σ H, xs[i]? = some x → Pv i σ H → g x σ H fun σ2 H2 => tb { nx := Pv (i + 1), rt := rt, bk := nx, ct := Pv (i + 1) } σ2 H2)
    (hd : ∀ σ H, Pv xs.length σ H → nx σ H) :
    ∃ W : Nat → Nat → L2.St → Hp → Prop, (∃ m, W 0 m σ H) ∧ ∀ i m σ H, W i m σ H →
      ((Itl K a).stop i H ∧ nx σ H) ∨ ((Itl K a).go i H ∧ ∃ N : L2.St → Hp → Prop, (∀ σ' H', N σ' H' → ∃ m', m' < m ∧ W (i + 1) m' σ' H') ∧ ∀ x H', (Itl K a).yld i H x H' → g x σ H' fun σ2 H2 => tb { nx := N, rt := rt, bk := nx, ct := N } σ2 H2) :=
  for_list (D := { nx := nx, rt := rt }) Pv h0 hl hs hd
theorem forT {a : Addr} {xs : List V} {g : TG} {tb : TS} {nx : L2.St → Hp → Prop} {rt : VK} {σ : L2.St} {H : Hp} (Pv : Nat → L2.St → Hp → Prop) (h0 : Pv 0 σ H) (hl : ∀ i σ H, i ≤ xs.length → Pv i σ H → SqT K H a xs) (hs : ∀ i x σ H, xs[i]? = some x → Pv i σ H → g x σ H fun σ2 H2 => tb { nx := Pv (i + 1), rt := rt, bk := nx, ct := Pv (i + 1) } σ2 H2)
    (hd : ∀ σ H, Pv xs.length σ H → nx σ H) :
    ∃ W : Nat → Nat → L2.St → Hp → Prop, (∃ m, W 0 m σ H) ∧ ∀ i m σ H, W i m σ H →
      ((Itt K a).stop i H ∧ nx σ H) ∨ ((Itt K a).go i H ∧ ∃ N : L2.St → Hp → Prop, (∀ σ' H', N σ' H' → ∃ m', m' < m ∧ W (i + 1) m' σ' H') ∧ ∀ x H', (Itt K a).yld i H x H' → g x σ H' fun σ2 H2 => tb { nx := N, rt := rt, bk := nx, ct := N } σ2 H2) :=
  for_tup (D := { nx := nx, rt := rt }) Pv h0 hl hs hd
theorem forR {lo : Int} {n : Nat} {g : TG} {tb : TS} {nx : L2.St → Hp → Prop} {rt : VK} {σ : L2.St} {H : Hp} (Pv : Nat → L2.St → Hp → Prop) (h0 : Pv 0 σ H) (hs : ∀ i σ H, i < n → Pv i σ H → g (.int (lo + i)) σ H fun σ2 H2 => tb { nx := Pv (i + 1), rt := rt, bk := nx, ct := Pv (i + 1) } σ2 H2)
    (hd : ∀ σ H, Pv n σ H → nx σ H) :
    ∃ W : Nat → Nat → L2.St → Hp → Prop, (∃ m, W 0 m σ H) ∧ ∀ i m σ H, W i m σ H →
      ((Itr lo n).stop i H ∧ nx σ H) ∨ ((Itr lo n).go i H ∧ ∃ N : L2.St → Hp → Prop, (∀ σ' H', N σ' H' → ∃ m', m' < m ∧ W (i + 1) m' σ' H') ∧ ∀ x H', (Itr lo n).yld i H x H' → g x σ H' fun σ2 H2 => tb { nx := N, rt := rt, bk := nx, ct := N } σ2 H2) :=
  for_range (D := { nx := nx, rt := rt }) Pv h0 hs hd
theorem forE {a : Addr} {xs : List V} {g : TG} {tb : TS} {nx : L2.St → Hp → Prop} {rt : VK} {σ : L2.St} {H : Hp} (Pv : Nat → L2.St → Hp → Prop) (h0 : Pv 0 σ H) (hq : ∀ i σ H, Pv i σ H → SqL K H a xs) (hs : ∀ (i : Nat) (x : V) (T : Addr) (σ : L2.St) (H : Hp), xs[i]? = some x → Pv i σ H → H T = none → g (.ref T) σ (upd H T (.tup [.int (i : Nat), x])) fun σ2 H2 => tb { nx := Pv (i + 1), rt := rt, bk := nx, ct := Pv (i + 1) } σ2 H2)
    (hd : ∀ σ H, Pv xs.length σ H → nx σ H) :
    ∃ W : Nat → Nat → L2.St → Hp → Prop, (∃ m, W 0 m σ H) ∧ ∀ i m σ H, W i m σ H →
      ((Ite K a).stop i H ∧ nx σ H) ∨ ((Ite K a).go i H ∧ ∃ N : L2.St → Hp → Prop, (∀ σ' H', N σ' H' → ∃ m', m' < m ∧ W (i + 1) m' σ' H') ∧ ∀ v H', (Ite K a).yld i H v H' → g v σ H' fun σ2 H2 => tb { nx := N, rt := rt, bk := nx, ct := N } σ2 H2) :=
  for_enum (D := { nx := nx, rt := rt }) Pv h0 hq hs hd
theorem ifN {p : Prop} [Decidable p] {A B : Prop} (h1 : ¬ p → A) (h2 : p → B) : if (!decide p) = true then A else B := by
  by_cases h : p
  · rw [decide_eq_true h]; exact h2 h
  · rw [decide_eq_false h]; exact h1 h
def odp : Option Rat → PyData
  | none => .none
  | some q => dq q
theorem optV.dp {H : Hp} {v : V} {o : Option Rat} (h : optV K H v o) : Dp K H v (odp o) := by
  cases o with
  | none =>
    have h : v = .non := h
    rw [h]
    exact .non
  | some q => exact Rq.dp h
theorem sh_odp (o : Option Rat) : SeqAt.shaped (odp o) = true := by cases o <;> rfl
theorem eqv_odp (o u : Option Rat) : PyData.eqv (odp o) (odp u) = decide (o = u) := by
  cases o with
  | none =>
    cases u with
    | none => rfl
    | some q => rfl
  | some p =>
    cases u with
    | none => rfl
    | some q =>
      show PyData.eqv (dq p) (dq q) = _
      rw [eqv_dq]
      by_cases h : p = q
      · rw [dT h, dT (congrArg some h)]
      · rw [dF h, dF fun e => h (Option.some.inj e)]
theorem eqv_odq (o : Option Rat) (q : Rat) : PyData.eqv (odp o) (dq q) = decide (o = some q) := eqv_odp o (some q)
theorem treeAll_nil {n : Nat} : ∀ d ∈ ([] : List PyData), Tree n d := nofun
theorem treeAll_cons {n : Nat} {d : PyData} {ds : List PyData} (h : Tree n d) (g : ∀ d ∈ ds, Tree n d) : ∀ e ∈ d :: ds, Tree n e := fun e he => by
  rcases List.mem_cons.mp he with rfl | he
  · exact h
  · exact g e he
theorem ifNT {p : Prop} [Decidable p] {A B : Prop} (h : ¬ p) (hA : A) : if (!decide p) = true then A else B := by rw [decide_eq_false h]; exact hA
theorem ifNF {p : Prop} [Decidable p] {A B : Prop} (h : p) (hB : B) : if (!decide p) = true then A else B := by rw [decide_eq_true h]; exact hB
theorem optV_rq {H : Hp} {v : V} {o : Option Rat} {q : Rat} (h : optV K H v o) (e : o = some q) : Rq K H v q := by subst e; exact h
theorem aQd {l s : Addr} {m : Nat} {ok : Rat → Prop} {H : Hp} {Q : VK} (h : ∀ a q H', Rq K H' (.ref a) q → SqT K H' a [.int q.num, .int (q.den : Int)] → Sz m q → ok q → Sto l s H' → Fr s H H' → Q (.ref a) H') : ∀ v H', Qd K m ok H' v → Sto l s H' → Fr s H H' → Q v H' := fun v H' hq S e => by
  obtain ⟨q, hr, z, o⟩ := hq
  obtain ⟨a, rfl, ha⟩ := id hr
  exact h a q H' hr ha z o S e
theorem aRq0 {q : Rat} {H : Hp} {Q : VK} (h : ∀ a, Rq K H (.ref a) q → SqT K H a [.int q.num, .int (q.den : Int)] → Q (.ref a) H) : ∀ v, Rq K H v q → Q v H := fun v hq => by
  obtain ⟨a, rfl, ha⟩ := id hq
  exact h a hq ha
structure Hold (p : Prop) : Prop where
  out : p
theorem rl11 {H : Hp} {t : Addr} : Rq K (upd H t (.tup [.int 1, .int 1])) (.ref t) (1) := rq_new 1 1 _ (by decide +kernel) (by decide +kernel)
theorem zl11 : Sz 10 (1 : Rat) := by decide +kernel
theorem rl12 {H : Hp} {t : Addr} : Rq K (upd H t (.tup [.int 1, .int 2])) (.ref t) (mkRat 1 2) := rq_new 1 2 _ (by decide +kernel) (by decide +kernel)
theorem zl12 : Sz 10 (mkRat 1 2 : Rat) := by decide +kernel
theorem rl01 {H : Hp} {t : Addr} : Rq K (upd H t (.tup [.int 0, .int 1])) (.ref t) (0) := rq_new 0 1 _ (by decide +kernel) (by decide +kernel)
theorem zl01 : Sz 10 (0 : Rat) := by decide +kernel
theorem rl1m {H : Hp} {t : Addr} : Rq K (upd H t (.tup [.int 1, .int 1000])) (.ref t) (mkRat 1 1000) := rq_new 1 1000 _ (by decide +kernel) (by decide +kernel)
theorem zl1m : Sz 10 (mkRat 1 1000 : Rat) := by decide +kernel
theorem rlnm {H : Hp} {t : Addr} : Rq K (upd H t (.tup [.int (-1), .int 1000])) (.ref t) (mkRat (-1) 1000) := rq_new (-1) 1000 _ (by decide +kernel) (by decide +kernel)
theorem zlnm : Sz 10 (mkRat (-1) 1000 : Rat) := by decide +kernel
theorem rln1 {H : Hp} {t : Addr} : Rq K (upd H t (.tup [.int (-1), .int 1])) (.ref t) (-1) := rq_new (-1) 1 _ (by decide +kernel) (by decide +kernel)
theorem zln1 : Sz 10 (-1 : Rat) := by decide +kernel
theorem rlh1 {H : Hp} {t : Addr} : Rq K (upd H t (.tup [.int 100, .int 1])) (.ref t) (100) := rq_new 100 1 _ (by decide +kernel) (by decide +kernel)
theorem zlh1 : Sz 10 (100 : Rat) := by decide +kernel
/-- a list that grows -/
structure Gw {α : Type} (R : Hp → V → α → Prop) (H : Hp) (D : Addr) (us : List V) (os : List α) (G : Hp) : Prop where
  fresh : H D = none
  same : Same H G
  at_ : G D = some (.lst us)
  all : All2 (R G) us os
theorem Gw.go {α : Type} {R : Hp → V → α → Prop} {H G G1 : Hp} {D : Addr} {us : List V} {os : List α} (L : Lasts R) (h : Gw R H D us os G) (e : Same G G1) : Gw R H D us os G1 :=
  ⟨h.fresh, h.same.trans e, e _ _ h.at_, h.all.imp fun _ _ q => L (Fr.of (s := D) e) ⟨_, h.at_⟩ q⟩
theorem Gw.app {α : Type} {R : Hp → V → α → Prop} {H G : Hp} {D : Addr} {us : List V} {os : List α} {x : V} {q : α} (L : Lasts R) (h : Gw R H D us os G) (r : R G x q) : Gw R H D (us ++ [x]) (os ++ [q]) (upd G D (.lst (us ++ [x]))) :=
  ⟨h.fresh, same_upd h.same h.fresh _, upd_same, (h.all.imp fun _ _ q => L (Fr.upd _) ⟨_, h.at_⟩ q).snoc (L (Fr.upd _) ⟨_, h.at_⟩ r)⟩
theorem appGw {α : Type} {R : Hp → V → α → Prop} {H G : Hp} {D : Addr} {us : List V} {os : List α} {x : V} {q : α} {C : Addr → List V → V → Prop} (L : Lasts R) (gw : Gw R H D us os G) (r : R G x q) (hl : us.length < sizeLine) (k : Gw R H D (us ++ [x]) (os ++ [q]) (upd G D (.lst (us ++ [x]))) → Fr D G (upd G D (.lst (us ++ [x]))) → C D us x) :
    ∃ (l : Addr) (xs : List V) (y : V), V.ref D = .ref l ∧ [x] = [y] ∧ G l = some (.lst xs) ∧ xs.length < sizeLine ∧ C l xs y := ⟨D, us, x, rfl, rfl, gw.at_, hl, k (gw.app L r) (Fr.upd _)⟩
theorem Gw.start {α : Type} {R : Hp → V → α → Prop} {H G : Hp} {D : Addr} (e : Same H G) (h : G D = none) : Gw R H D [] [] (upd G D (.lst [])) := ⟨sameFree e h, e.trans (same_new h _), upd_same, All2.nil⟩
end Vk

set_option maxHeartbeats 4000000
namespace Vk
open PySem L2 Vm Vl
theorem place_cut {c : List Pc} {t : Rat} {i : Nat} {p : Pc} (ok : Cok c) (done : ∀ (j : Nat) (p : Pc), j < i → c[j]? = some p → ¬ t < p.s) (ec : c[i]? = some p) (g : t < p.s) : (c.filter (on t)).length = i := by
  have hi := (List.getElem?_eq_some_iff.mp ec).1
  have e : c.filter (on t) = c.take i := filter_take _ fun j x hx => by
    constructor
    · intro o
      refine Nat.lt_of_not_le fun l => ?_
      have : p.s ≤ x.s := by
        by_cases e : i = j
        · subst e; rw [ec] at hx; cases hx; exact Rat.le_refl
        · have := cok_lt ok (show i < j by omega) ec hx; grind
      simp [on] at o
      grind
    · intro l
      simp [on, done j x l hx]
  rw [e, List.length_take]
  omega
theorem on_take {c : List Pc} (ok : Cok c) (t : Rat) : c.filter (on t) = c.take (c.filter (on t)).length := by
  by_cases h : ∃ i p, c[i]? = some p ∧ t < p.s ∧ ∀ (j : Nat) (q : Pc), j < i → c[j]? = some q → ¬ t < q.s
  · obtain ⟨i, p, ec, g, done⟩ := h
    have e := place_cut ok done ec g
    rw [e]
    refine filter_take _ fun j x hx => ?_
    constructor
    · intro o
      refine Nat.lt_of_not_le fun l => ?_
      have : p.s ≤ x.s := by
        by_cases e : i = j
        · subst e; rw [ec] at hx; cases hx; exact Rat.le_refl
        · have := cok_lt ok (show i < j by omega) ec hx; grind
      simp [on] at o
      grind
    · intro l
      simp [on, done j x l hx]
  · have e : c.filter (on t) = c := List.filter_eq_self.mpr fun p hp => by
      obtain ⟨j, hj⟩ := List.mem_iff_getElem?.mp hp
      have key : ∀ (n : Nat) (q : Pc), c[n]? = some q → ¬ t < q.s := by
        intro n
        induction n using Nat.strongRecOn with
        | ind n ih =>
          intro q hq g
          exact h ⟨n, q, hq, g, fun m r hm hr => ih m hm r hr⟩
      simp [on, key j p hj]
    rw [e, List.take_length]
/-- the piece in force -/
def pcAt (c : List Pc) (t : Rat) : Option Pc := (c.filter (on t)).getLast?
theorem now_pc (c : List Pc) (t : Rat) : nowf c t = (pcAt c t).map (vl t) := rfl
theorem pcAt_at {c : List Pc} {t : Rat} (h : 0 < (c.filter (on t)).length) : ∃ p, p ∈ c ∧ pcAt c t = some p ∧ ∀ ok : Cok c, c[(c.filter (on t)).length - 1]? = some p := by
  obtain ⟨p, hp⟩ : ∃ p, pcAt c t = some p := by
    unfold pcAt
    cases e : (c.filter (on t)).getLast? with
    | none => rw [List.getLast?_eq_none_iff] at e; rw [e] at h; exact absurd h (by simp)
    | some p => exact ⟨p, rfl⟩
  refine ⟨p, (List.mem_filter.mp (List.mem_of_getLast? hp)).1, hp, fun ok => ?_⟩
  have e := on_take ok t
  unfold pcAt at hp
  rw [List.getLast?_eq_getElem?, e, List.getElem?_take, List.length_take] at hp
  have hm : (c.filter (on t)).length ≤ c.length := List.length_filter_le _ _
  rw [Nat.min_eq_left hm] at hp
  rw [if_pos (by omega)] at hp
  exact hp
theorem pcAt_none {c : List Pc} {t : Rat} (h : (c.filter (on t)).length = 0) : pcAt c t = none := by
  unfold pcAt
  rw [List.eq_nil_of_length_eq_zero h]
  rfl
theorem pcAt_first {c : List Pc} (ok : Cok c) {p : Pc} (e : c[0]? = some p) {t : Rat} : pcAt c t = none ↔ t < p.s := by
  constructor
  · intro h
    unfold pcAt at h
    rw [List.getLast?_eq_none_iff] at h
    have := List.filter_eq_nil_iff.mp h p (List.mem_of_getElem? e)
    simpa [on] using this
  · intro g
    exact pcAt_none (place_cut ok (i := 0) (fun j _ h => absurd h (Nat.not_lt_zero j)) e g)
theorem split_on {c : List Pc} (ok : Cok c) (t : Rat) : ∃ a b, c = a ++ b ∧ a = c.filter (on t) ∧ (∀ p ∈ a, p.s ≤ t) ∧ (∀ p ∈ b, t < p.s) := by
  refine ⟨c.take (c.filter (on t)).length, c.drop (c.filter (on t)).length, (List.take_append_drop _ _).symm, (on_take ok t).symm, fun p hp => ?_, fun p hp => ?_⟩
  · rw [← on_take ok t] at hp
    have := (List.mem_filter.mp hp).2
    simp [on] at this
    grind
  · refine Rat.not_le.mp fun g => ?_
    obtain ⟨i, hi⟩ := List.mem_iff_getElem?.mp hp
    rw [List.getElem?_drop] at hi
    have e : c.filter (on t) = c.take (c.filter (on t)).length := on_take ok t
    have lt := (List.getElem?_eq_some_iff.mp hi).1
    -- all up to this one are on
    have key : ∀ j q, j < (c.filter (on t)).length + i + 1 → c[j]? = some q → ¬ t < q.s := by
      intro j q hj hq g2
      have : q.s ≤ p.s := by
        by_cases e2 : j = (c.filter (on t)).length + i
        · subst e2; rw [hi] at hq; cases hq; exact Rat.le_refl
        · have := cok_lt ok (show j < (c.filter (on t)).length + i by omega) hq hi; grind
      grind
    have h2 : ((c.take ((c.filter (on t)).length + i + 1)).filter (on t)) = c.take ((c.filter (on t)).length + i + 1) := List.filter_eq_self.mpr fun q hq => by
      obtain ⟨j, hj⟩ := List.mem_iff_getElem?.mp hq
      rw [List.getElem?_take] at hj
      split at hj
      · simp [on, key j q (by assumption) hj]
      · cases hj
    have h3 : ((c.take ((c.filter (on t)).length + i + 1)).filter (on t)).length ≤ (c.filter (on t)).length := ((List.take_sublist _ _).filter _).length_le
    rw [h2, List.length_take] at h3
    omega
/-- the piece in force, by its place -/
theorem now_piece {c : List Pc} (ok : Cok c) {t y : Rat} (h : nowf c t = some y) : ∃ i p, c[i]? = some p ∧ p.s ≤ t ∧ (∀ n, c[i + 1]? = some n → t < n.s) ∧ y = vl t p := by
  obtain ⟨a, b, e, ea, h1, h2⟩ := split_on ok t
  unfold nowf at h
  obtain ⟨p, hp, rfl⟩ := Option.map_eq_some_iff.mp h
  rw [← ea] at hp
  rw [List.getLast?_eq_getElem?] at hp
  have hl := (List.getElem?_eq_some_iff.mp hp).1
  refine ⟨a.length - 1, p, ?_, h1 p (List.mem_of_getElem? hp), fun n hn => ?_, rfl⟩
  · rw [e, List.getElem?_append_left hl]
    exact hp
  · rw [e, List.getElem?_append_right (by omega)] at hn
    exact h2 n (List.mem_of_getElem? hn)
/-! ### the greatest distance -/
def wa (t : Rat) (p : Pc) : Rat := ab (t - vl t p)
theorem ab_nn (q : Rat) : 0 ≤ ab q := by unfold ab; split <;> grind
theorem ab_sym (p q : Rat) : ab (p - q) = ab (q - p) := by unfold ab; split <;> split <;> grind
/-- the ends at which a piece is looked at -/
def Cd (c : List Pc) (s e : Rat) (i : Nat) (t : Rat) (p : Pc) : Prop := c[i]? = some p ∧ p.s ≤ e ∧ (∀ n, c[i + 1]? = some n → s < n.s) ∧
  (t = (if s ≤ p.s then p.s else s) ∨ (c[i + 1]? = none ∧ t = e) ∨ ∃ n, c[i + 1]? = some n ∧ t = (if n.s ≤ e then n.s else e))
structure Wi (c : List Pc) (s e : Rat) (n : Nat) (w : Rat) : Prop where
  up : ∀ i t p, i < n → Cd c s e i t p → wa t p ≤ w
  at_ : w = 0 ∨ ∃ i t p, Cd c s e i t p ∧ w = wa t p
  nn : 0 ≤ w
theorem Wi.start {c : List Pc} {s e : Rat} : Wi c s e 0 0 := ⟨fun _ _ _ h => absurd h (Nat.not_lt_zero _), .inl rfl, Rat.le_refl⟩
theorem Wi.skip {c : List Pc} {s e : Rat} {n : Nat} {w : Rat} {p : Pc} (W : Wi c s e n w) (hp : c[n]? = some p) (h : e < p.s ∨ ∃ x, c[n + 1]? = some x ∧ x.s ≤ s) : Wi c s e (n + 1) w := ⟨fun i t q hi cd => by
  by_cases g : i = n
  · subst g
    obtain ⟨h1, h2, h3, _⟩ := cd
    rw [hp] at h1
    cases h1
    rcases h with h | ⟨x, hx, h⟩
    · grind
    · have := h3 x hx; grind
  · exact W.up i t q (by omega) cd, W.at_, W.nn⟩
def mx (p q : Rat) : Rat := if q ≤ p then p else q
theorem Wi.step {c : List Pc} {s e : Rat} {n : Nat} {w t1 t2 : Rat} {p : Pc} (W : Wi c s e n w) (h1 : Cd c s e n t1 p) (h2 : Cd c s e n t2 p) (h : ∀ t q, Cd c s e n t q → t = t1 ∨ t = t2) : Wi c s e (n + 1) (mx (mx w (wa t1 p)) (wa t2 p)) := by
  have u1 : w ≤ mx (mx w (wa t1 p)) (wa t2 p) := by unfold mx; split <;> split <;> grind
  have u2 : wa t1 p ≤ mx (mx w (wa t1 p)) (wa t2 p) := by unfold mx; split <;> split <;> grind
  have u3 : wa t2 p ≤ mx (mx w (wa t1 p)) (wa t2 p) := by unfold mx; split <;> grind
  have nn := W.nn
  refine ⟨fun i t q hi cd => ?_, ?_, by grind⟩
  · by_cases g : i = n
    · subst g
      have ep : q = p := by have := cd.1; rw [h1.1] at this; cases this; rfl
      subst ep
      rcases h t q cd with rfl | rfl
      · exact u2
      · exact u3
    · have := W.up i t q (by omega) cd
      grind
  · have h4 : mx (mx w (wa t1 p)) (wa t2 p) = w ∨ mx (mx w (wa t1 p)) (wa t2 p) = wa t1 p ∨ mx (mx w (wa t1 p)) (wa t2 p) = wa t2 p := by
      unfold mx; split <;> split <;> simp_all
    rcases h4 with h4 | h4 | h4
    · rw [h4]; exact W.at_
    · rw [h4]; exact .inr ⟨n, t1, p, h1, rfl⟩
    · rw [h4]; exact .inr ⟨n, t2, p, h2, rfl⟩
/-- the times that are asked and what is shown there -/
def dl (c : List Pc) (s e : Rat) : Nat → List (Rat × Rat)
  | 0 => []
  | n + 1 => dl c s e n ++ (match c[n]?, c[n + 1]? with
    | some p, some q => if s < q.s ∧ ¬ e < q.s then [(q.s, q.v), (q.s, vl q.s p)] else []
    | _, _ => [])
def dw (c : List Pc) (s e a b : Rat) : List (Rat × Rat) := (s, a) :: (e, b) :: dl c s e (c.length - 1)
def dv (p : Rat × Rat) : Rat := ab (p.2 - p.1)
theorem dl_mem {c : List Pc} {s e : Rat} {x : Rat × Rat} : ∀ {n : Nat}, x ∈ dl c s e n ↔ ∃ i p q, i < n ∧ c[i]? = some p ∧ c[i + 1]? = some q ∧ s < q.s ∧ ¬ e < q.s ∧ (x = (q.s, q.v) ∨ x = (q.s, vl q.s p))
  | 0 => ⟨fun h => (List.not_mem_nil h).elim, fun h => by obtain ⟨_, _, _, h, _⟩ := h; exact absurd h (Nat.not_lt_zero _)⟩
  | n + 1 => by
    unfold dl
    rw [List.mem_append, dl_mem (n := n)]
    constructor
    · rintro (⟨i, p, q, h1, h2⟩ | h)
      · exact ⟨i, p, q, by omega, h2⟩
      · cases hp : c[n]? with
        | none => rw [hp] at h; cases h
        | some p =>
          cases hq : c[n + 1]? with
          | none => rw [hp, hq] at h; cases h
          | some q =>
            rw [hp, hq] at h
            have h : x ∈ (if s < q.s ∧ ¬ e < q.s then [(q.s, q.v), (q.s, vl q.s p)] else []) := h
            split at h
            · rename_i g
              simp only [List.mem_cons, List.not_mem_nil, or_false] at h
              exact ⟨n, p, q, by omega, hp, hq, g.1, g.2, h⟩
            · cases h
    · rintro ⟨i, p, q, h1, hp, hq, g1, g2, hx⟩
      by_cases g : i = n
      · subst g
        refine .inr ?_
        rw [hp, hq]
        show x ∈ (if s < q.s ∧ ¬ e < q.s then [(q.s, q.v), (q.s, vl q.s p)] else [])
        rw [if_pos ⟨g1, g2⟩]
        rcases hx with rfl | rfl <;> simp
      · exact .inl ⟨i, p, q, by omega, hp, hq, g1, g2, hx⟩
theorem wa_between {p : Pc} {t u v w : Rat} (h1 : u ≤ t) (h2 : t ≤ v) (hu : wa u p ≤ w) (hv : wa v p ≤ w) : wa t p ≤ w := by
  unfold wa at *
  have e1 : (t - vl t p) - (u - vl u p) = (1 - p.r) * (t - u) := by unfold vl; grind
  have e2 : (v - vl v p) - (t - vl t p) = (1 - p.r) * (v - t) := by unfold vl; grind
  have k1 : 0 ≤ t - u := by grind
  have k2 : 0 ≤ v - t := by grind
  by_cases g : 0 ≤ 1 - p.r
  · have m1 := Rat.mul_nonneg g k1
    have m2 := Rat.mul_nonneg g k2
    unfold ab at *
    split <;> split at hu <;> split at hv <;> grind
  · have g' : 0 ≤ -(1 - p.r) := by grind
    have m1 := Rat.mul_nonneg g' k1
    have m2 := Rat.mul_nonneg g' k2
    unfold ab at *
    split <;> split at hu <;> split at hv <;> grind
/-- what the law asks of the greatest distance -/
structure Worst (c : List Pc) (s e w : Rat) : Prop where
  mem : ∀ a b, nowf c s = some a → nowf c e = some b → w ∈ (dw c s e a b).map dv
  up : ∀ a b, nowf c s = some a → nowf c e = some b → ∀ x ∈ (dw c s e a b).map dv, x ≤ w
  all : ∀ t y, ¬ t < s → ¬ e < t → nowf c t = some y → ab (y - t) ≤ w
theorem cd_first {c : List Pc} {s e t y : Rat} (ok : Cok c) (h1 : ¬ t < s) (h2 : ¬ e < t) (h : nowf c t = some y) : ∃ i p t1 t2, y = vl t p ∧ Cd c s e i t1 p ∧ Cd c s e i t2 p ∧ t1 ≤ t ∧ t ≤ t2 ∧ i < c.length := by
  obtain ⟨i, p, hp, hs, hn, rfl⟩ := now_piece ok h
  have hl := (List.getElem?_eq_some_iff.mp hp).1
  have b1 : p.s ≤ e := by grind
  have b2 : ∀ n, c[i + 1]? = some n → s < n.s := fun n e' => by have := hn n e'; grind
  cases q : c[i + 1]? with
  | none => exact ⟨i, p, (if s ≤ p.s then p.s else s), e, rfl, ⟨hp, b1, b2, .inl rfl⟩, ⟨hp, b1, b2, .inr (.inl ⟨q, rfl⟩)⟩, by split <;> grind, by grind, hl⟩
  | some n =>
    have := hn n q
    exact ⟨i, p, (if s ≤ p.s then p.s else s), (if n.s ≤ e then n.s else e), rfl, ⟨hp, b1, b2, .inl rfl⟩, ⟨hp, b1, b2, .inr (.inr ⟨n, q, rfl⟩)⟩, by split <;> grind, by split <;> grind, hl⟩
theorem Wi.fin {c : List Pc} {s e w : Rat} {p0 : Pc} (ok : Cok c) (h0 : c[0]? = some p0) (hs : ¬ s < p0.s) (hse : ¬ e < s) (W : Wi c s e c.length w) : Worst c s e w := by
  have all : ∀ t y, ¬ t < s → ¬ e < t → nowf c t = some y → ab (y - t) ≤ w := fun t y h1 h2 h => by
    obtain ⟨i, p, t1, t2, rfl, c1, c2, l1, l2, hl⟩ := cd_first ok h1 h2 h
    rw [ab_sym]
    exact wa_between l1 l2 (W.up _ _ _ hl c1) (W.up _ _ _ hl c2)
  have val : ∀ a b, nowf c s = some a → nowf c e = some b → ∀ i t p, Cd c s e i t p → wa t p ∈ (dw c s e a b).map dv := fun a b ha hb i t p cd => by
    obtain ⟨hp, h2, h3, ht⟩ := cd
    have hl := (List.getElem?_eq_some_iff.mp hp).1
    have asS : p.s ≤ s → a = vl s p := fun g => by
      have := now_at ok hp (by grind) (fun n hn => h3 n hn)
      rw [ha] at this
      exact Option.some.inj this
    have asE : (∀ n, c[i + 1]? = some n → e < n.s) → b = vl e p := fun g => by
      have := now_at ok hp (t := e) (by grind) g
      rw [hb] at this
      exact Option.some.inj this
    rcases ht with rfl | ⟨hn, rfl⟩ | ⟨n, hn, rfl⟩
    · by_cases g : s ≤ p.s
      · rw [if_pos g]
        by_cases g2 : p.s ≤ s
        · have e' : p.s = s := by grind
          refine List.mem_map.mpr ⟨(s, a), List.mem_cons_self, ?_⟩
          show ab (a - s) = wa p.s p
          rw [asS g2, e', ab_sym]
          rfl
        · obtain ⟨j, rfl⟩ : ∃ j, i = j + 1 := by
            cases i with
            | zero => rw [h0] at hp; cases hp; exact absurd (by grind) g2
            | succ j => exact ⟨j, rfl⟩
          have hq : c[j]? = some c[j] := List.getElem?_eq_getElem (by omega)
          refine List.mem_map.mpr ⟨(p.s, p.v), List.mem_cons_of_mem _ (List.mem_cons_of_mem _ (dl_mem.mpr ⟨j, c[j], p, by omega, hq, hp, by grind, by grind, .inl rfl⟩)), ?_⟩
          show ab (p.v - p.s) = wa p.s p
          rw [ab_sym]
          unfold wa vl
          congr 1
          grind
      · rw [if_neg g]
        refine List.mem_map.mpr ⟨(s, a), List.mem_cons_self, ?_⟩
        show ab (a - s) = wa s p
        rw [asS (by grind), ab_sym]
        rfl
    · refine List.mem_map.mpr ⟨(t, b), List.mem_cons_of_mem _ List.mem_cons_self, ?_⟩
      show ab (b - t) = wa t p
      rw [asE (fun n h => by rw [hn] at h; cases h), ab_sym]
      rfl
    · by_cases g : n.s ≤ e
      · rw [if_pos g]
        have hl2 := (List.getElem?_eq_some_iff.mp hn).1
        refine List.mem_map.mpr ⟨(n.s, vl n.s p), List.mem_cons_of_mem _ (List.mem_cons_of_mem _ (dl_mem.mpr ⟨i, p, n, by omega, hp, hn, h3 n hn, by grind, .inr rfl⟩)), ?_⟩
        show ab (vl n.s p - n.s) = wa n.s p
        rw [ab_sym]
        rfl
      · rw [if_neg g]
        refine List.mem_map.mpr ⟨(e, b), List.mem_cons_of_mem _ List.mem_cons_self, ?_⟩
        show ab (b - e) = wa e p
        rw [asE (fun m h => by rw [hn] at h; cases h; grind), ab_sym]
        rfl
  refine ⟨fun a b ha hb => ?_, fun a b ha hb x hx => ?_, all⟩
  · rcases W.at_ with hw | ⟨i, t, p, cd, hw⟩
    · obtain ⟨i, p, t1, t2, e1, c1, c2, l1, l2, hl⟩ := cd_first (s := s) (e := e) ok (fun g => absurd g Rat.lt_irrefl) hse ha
      have h1 := W.up _ _ _ hl c1
      have h2 := ab_nn (t1 - vl t1 p)
      have e2 : w = wa t1 p := by unfold wa at *; grind
      rw [e2]
      exact val a b ha hb i t1 p c1
    · rw [hw]
      exact val a b ha hb i t p cd
  · obtain ⟨z, hz, rfl⟩ := List.mem_map.mp hx
    rcases List.mem_cons.mp hz with rfl | hz
    · exact all s a (fun g => absurd g Rat.lt_irrefl) hse ha
    · rcases List.mem_cons.mp hz with rfl | hz
      · exact all e b hse (fun g => absurd g Rat.lt_irrefl) hb
      · obtain ⟨i, p, q, hi, hp, hq, g1, g2, hx⟩ := dl_mem.mp hz
        have hl1 := (List.getElem?_eq_some_iff.mp hp).1
        have hl2 := (List.getElem?_eq_some_iff.mp hq).1
        have lt : p.s < q.s := cok_lt ok (show i < i + 1 by omega) hp hq
        rcases hx with rfl | rfl
        · have cd : Cd c s e (i + 1) q.s q := ⟨hq, by grind, fun n hn => by have := cok_lt ok (show i + 1 < i + 1 + 1 by omega) hq hn; grind, .inl (by rw [if_pos (by grind)])⟩
          have := W.up _ _ _ hl2 cd
          show ab (q.v - q.s) ≤ w
          rw [ab_sym]
          have e1 : vl q.s q = q.v := by unfold vl; grind
          unfold wa at this
          rwa [e1] at this
        · have cd : Cd c s e i q.s p := ⟨hp, by grind, fun n hn => by rw [hq] at hn; cases hn; exact g1, .inr (.inr ⟨q, hq, by rw [if_pos (by grind)]⟩)⟩
          have := W.up _ _ _ hl1 cd
          show ab (vl q.s p - q.s) ≤ w
          rw [ab_sym]
          exact this
end Vk

set_option maxHeartbeats 4000000
namespace Vk
open PySem L2 Vm Vl
variable {l aZERO aONE CB CR CV fB fR : Addr} {P : Program} {w : World} {K : PySem.W.Frag} {mg : Str → Option Value} {base : Heap} {k : Nat} {f f1 f2 f3 f4 f5 f6 f7 f8 f9 : Addr} {fd fd1 fd2 fd3 fd4 fd5 fd6 fd7 fd8 fd9 : FuncData}
def spOrdN (K : PySem.W.Frag) : Sp := fun vs H Q _ => ∃ (a : Addr) (xs : List V) (qs : List Rat), vs = [.ref a] ∧ SqL K H a xs ∧ All2 (Rq K H) xs qs ∧ (∀ q ∈ qs, Sz 3000 q) ∧ qs.length ≤ 900 ∧
  ∀ D us os H', Same H H' → H D = none → H' D = some (.lst us) → All2 (Rq K H') us os → Asc os → (∀ o ∈ os, o ∈ qs) → os.length ≤ qs.length → (qs ≠ [] → os ≠ []) → Q (.ref D) H'
theorem ok_ordN (T : Bn mg) (F : Fn K mg "_law_ordered" s__law_ordered ps__law_ordered f fd) (d_law_below : Def P w K mg base k "_law_below" ["_law_a", "_law_b"] (spTest2 K fun p q => .bl (decide (p < q))) f1 fd1) :
    Def P w K mg base (k + 1) "_law_ordered" ps__law_ordered (spOrdN K) f fd := by
  refine ⟨F.F.ok sc__law_ordered (fun vs H Q E h => ?_) (fun cdv A outer s H vs Q E hr h => ?_), F.m, F.F.kp, F.b⟩
  · obtain ⟨_, _, _, rfl, _⟩ := h
    rfl
  obtain ⟨a, xs, qs, rfl, hx, hq, zq, hl, z⟩ := h
  refine ⟨_, (pss_cons (ps_set (i := 1) sc__law_ordered.nd rfl (Or.inl rfl) (pe_lst pa_nil))
      (pss_cons (ps_for PassesOwn.never rfl (pi_list (pv 0)) (pg_name (i := 2) sc__law_ordered.nd rfl (Or.inl rfl))
        (pss_cons (ps_set (i := 3) sc__law_ordered.nd rfl (Or.inl rfl) pe_int)
        (pss_cons (ps_for PassesOwn.never rfl (pi_range1 (by rfl) T.range_ (pa_cons (pe_callB call_len_seq (by rfl) T.len_ PySem.boot_len (pa_cons (pv 1) pa_nil)) pa_nil)) (pg_name (i := 4) sc__law_ordered.nd rfl (Or.inl rfl))
          (pss_one (ps_if (pt_val (pcall d_law_below hr (pa_cons (pe_ix ix_list (pv 1) (pv 4) (fun _ _ => rfl)) (pa_cons (pv 2) pa_nil))))
            (pss_one (ps_set (i := 3) sc__law_ordered.nd rfl (Or.inl rfl) (pe_op op_add (pv 4) pe_int)))
            pss_nil)))
        (pss_one (ps_if (PW.pt (pw_or (pt_cmpR op_eq (pv 3) (pe_callB call_len_seq (by rfl) T.len_ PySem.boot_len (pa_cons (pv 1) pa_nil)) (nomark _)) (pw_or1 (pt_cmpR (op_neD hr.units) (pe_ix ix_list (pv 1) (pv 3) (fun _ _ => rfl)) (pv 2) (nomark _)))))
          (pss_one (ps_expr (pe_bm PySem.F.plainAttrs_list PySem.F.slot_list_insert PySem.F.type_list_insert mt_insert (pv 1) (pa_cons (pv 3) (pa_cons (pv 2) pa_nil)))))
          pss_nil)))))
      (pss_one (ps_ret (pv 1))))), ?_⟩
  have p62 : (2 : Int) ^ 62 = 4611686018427387904 := by decide
  have p63 : (2 : Int) ^ 63 = 9223372036854775808 := by decide
  refine ⟨Nat.zero_le _, fun D hD => ?_⟩
  refine ⟨_, rfl, a, rfl, ⟨_, (same_new hD _).seq hx⟩, for_list (K := K) (a := a) (xs := xs) (fun i σ G => ∃ (us : List V) (os : List Rat) (k1 k2 k3 : Option V), σ = [some (.ref a), some (.ref D), k1, k2, k3] ∧ Same H G ∧ G D = some (.lst us) ∧ All2 (Rq K G) us os ∧ Asc os ∧ (∀ o ∈ os, o ∈ qs) ∧ os.length ≤ i ∧ (0 < i → os ≠ []))
    ⟨[], [], none, none, none, rfl, same_new hD _, upd_same, All2.nil, List.Pairwise.nil, nofun, Nat.le_refl _, fun h => absurd h (by omega)⟩ (fun i σ G _ h => by obtain ⟨_, _, _, _, _, _, s1, _⟩ := h; exact s1.seq hx) ?_ ?_⟩
  · rintro i x σ G hxi ⟨us, os, k1, k2, k3, rfl, s1, hD1, hA, asc, sub, ln, _⟩
    have hi : i < qs.length := by rw [← hq.1]; exact (List.getElem?_eq_some_iff.mp hxi).1
    have hqi : qs[i]? = some qs[i] := List.getElem?_eq_getElem hi
    have hmem : qs[i] ∈ qs := List.getElem_mem hi
    have rx := (hq.2 i x _ hxi hqi).same s1
    obtain ⟨one, eo⟩ : ∃ o, o = qs[i] := ⟨_, rfl⟩
    rw [← eo] at rx hmem
    have zo := zq one hmem
    have zos : ∀ o ∈ os, Sz 3000 o := fun o ho => zq o (sub o ho)
    have hal := hA.1
    refine ⟨_, rfl, D, _, rfl, .inl (SqL.of hD1), _, rfl, by omega, by omega, for_range (n := ((us.length : Nat) : Int).toNat) (fun j σ G' => ∃ (m : Nat) (k3 : Option V), σ = [some (.ref a), some (.ref D), some x, some (.int m), k3] ∧ G' = G ∧ Spot os one j m)
      ⟨0, k3, rfl, rfl, Nat.le_refl _, fun t o h => absurd h (by omega)⟩ ?_ ?_⟩
    · rintro j σ G' hj ⟨m, k3, rfl, rfl, sp⟩
      have hj' : j < os.length := by omega
      have hoj : os[j]? = some os[j] := List.getElem?_eq_getElem hj'
      obtain ⟨y, hy, ry⟩ := hA.at hoj
      have sn := spot_next asc sp hoj
      refine ⟨_, rfl, _, rfl, D, _, _, y, rfl, rfl, SqL.of hD1, at_of (j := j) (by omega) hy, _, rfl, _, _, os[j], one, 3000, 3000, rfl, ry, rx, zos _ (List.getElem_mem hj'), zo, by decide, _, rfl, ifD (fun g => ?_) (fun g => ?_)⟩
      · rw [if_pos g] at sn
        refine ⟨_, rfl, _, _, rfl, rfl, j + 1, some (.int (0 + (j : Int))), ?_, rfl, sn⟩
        show [some (V.ref a), some (V.ref D), some x, some (V.int (0 + (j : Int) + 1)), some (V.int (0 + (j : Int)))] = _
        rw [show (0 + (j : Int) + 1) = ((j + 1 : Nat) : Int) by omega]
      · rw [if_neg g] at sn
        exact ⟨m, _, rfl, rfl, sn⟩
    · rintro σ G' ⟨m, k3, rfl, rfl, sp⟩
      have sp : Spot os one os.length m := by
        have e : ((us.length : Nat) : Int).toNat = os.length := by omega
        rw [e] at sp
        exact sp
      have hm := sp.1
      have put : os[m]? ≠ some one → ∃ (us' : List V) (os' : List Rat) (k1 k2 k3' : Option V), [some (.ref a), some (.ref D), some x, some (.int m), k3] = [some (.ref a), some (.ref D), k1, k2, k3'] ∧ Same H (upd G' D (.lst (us.take m ++ [x] ++ us.drop m))) ∧ (upd G' D (.lst (us.take m ++ [x] ++ us.drop m))) D = some (.lst us') ∧
          All2 (Rq K (upd G' D (.lst (us.take m ++ [x] ++ us.drop m)))) us' os' ∧ Asc os' ∧ (∀ o ∈ os', o ∈ qs) ∧ os'.length ≤ i + 1 ∧ (0 < i + 1 → os' ≠ []) := fun hn => by
        have fr : Fr D G' (upd G' D (.lst (us.take m ++ [x] ++ us.drop m))) := Fr.upd _
        have hA' := hA.imp fun _ _ h => Rq.fr fr ⟨_, hD1⟩ h
        refine ⟨_, os.take m ++ [one] ++ os.drop m, _, _, _, rfl, same_upd s1 hD _, upd_same, ((hA'.take m).append (All2.one (rx.fr fr ⟨_, hD1⟩))).append (hA'.drop m), asc_insert asc sp hn, fun o ho => ?_, ?_, fun _ e => ?_⟩
        · rcases List.mem_append.mp ho with ho | ho
          · rcases List.mem_append.mp ho with ho | ho
            · exact sub o (List.mem_of_mem_take ho)
            · rw [List.mem_singleton.mp ho]
              exact hmem
          · exact sub o (List.mem_of_mem_drop ho)
        · rw [List.length_append, List.length_append, List.length_take, List.length_drop, List.length_singleton]
          omega
        · have := congrArg List.length e
          rw [List.length_append, List.length_append, List.length_singleton, List.length_nil] at this
          omega
      refine ⟨_, rfl, _, rfl, D, _, rfl, .inl (SqL.of hD1), rfl, _, rfl, ifD (fun g => ifT rfl ?_) (fun g => ?_)⟩
      · have g' := V.int.inj g
        have hn : os[m]? ≠ some one := by rw [List.getElem?_eq_none (by omega)]; exact nofun
        exact ⟨_, rfl, .inl ⟨rfl, _, SqL.of hD1⟩, _, rfl, _, rfl, D, _, _, _, rfl, rfl, hD1, le1000 (by omega), by omega, by omega, put hn⟩
      · have g' : m ≠ us.length := fun e => g (by rw [e])
        have hmo : os[m]? = some os[m] := List.getElem?_eq_getElem (by omega)
        obtain ⟨y, hy, ry⟩ := hA.at hmo
        refine ⟨_, rfl, _, rfl, D, _, _, y, rfl, rfl, SqL.of hD1, at_of (j := m) rfl hy, _, rfl, _, _, ry.dp, rx.dp, sh_dq _, sh_dq _, _, rfl, ?_⟩
        rw [eqv_dq]
        by_cases e : os[m] = one
        · refine ifF (by rw [dT e]; rfl) ⟨us, os, _, _, _, rfl, s1, hD1, hA, asc, sub, by omega, fun _ z => ?_⟩
          have z2 := congrArg List.length z
          rw [List.length_nil] at z2
          omega
        · refine ifT (by rw [dF e]; rfl) ?_
          have hn : os[m]? ≠ some one := by rw [hmo]; exact fun z => e (Option.some.inj z)
          exact ⟨_, rfl, .inl ⟨rfl, _, SqL.of hD1⟩, _, rfl, _, rfl, D, _, _, _, rfl, rfl, hD1, le1000 (by omega), by omega, by omega, put hn⟩
  · rintro σ G ⟨us, os, k1, k2, k3, rfl, s1, hD1, hA, asc, sub, ln, ne⟩
    rw [hq.1] at ln
    refine ⟨_, rfl, z D us os G s1 hD hD1 hA asc sub ln fun e => ne ?_⟩
    rw [hq.1]
    exact List.length_pos_iff.mpr e
/-- a span with two ends -/
def Tq (K : PySem.W.Frag) (H : Hp) (x : V) (p : Rat × Rat) : Prop := ∃ a u v, x = .ref a ∧ SqT K H a [u, v] ∧ Rq K H u p.1 ∧ Rq K H v p.2
theorem Tq.same {H H' : Hp} {x : V} {p : Rat × Rat} (e : Same H H') (h : Tq K H x p) : Tq K H' x p := by
  obtain ⟨a, u, v, rfl, h1, h2, h3⟩ := h
  exact ⟨a, u, v, rfl, e.sqt h1, h2.same e, h3.same e⟩
theorem lastsT : Lasts (Tq K) := fun e hs ⟨a, u, v, h0, h1, h2, h3⟩ => ⟨a, u, v, h0, sqt_fr e hs h1, h2.fr e hs, h3.fr e hs⟩
abbrev s__law_probes : Stmt := top 67
abbrev N__law_probes : List Str := ["_law_spans", "_law_ends", "_law_span", "_law_one", "_law_row", "_law_k"]
theorem sc__law_probes : FnScope N__law_probes ["_law_spans"] (defScope s__law_probes) := ⟨rfl, rfl, rfl, by decide +kernel, rfl, by decide +kernel, by decide +kernel⟩
abbrev ps__law_probes : List Str := ["_law_spans"]
def spPrb (K : PySem.W.Frag) : Sp := fun vs H Q _ => ∃ (a : Addr) (xs : List V) (ps : List (Rat × Rat)), vs = [.ref a] ∧ SqL K H a xs ∧ All2 (Tq K H) xs ps ∧ (∀ p ∈ ps, Sz 1500 p.1 ∧ Sz 1500 p.2) ∧ 1 ≤ ps.length ∧ ps.length ≤ 200 ∧
  ∀ D us os H', Same H H' → H D = none → H' D = some (.lst us) → All2 (Rq K H') us os → (∀ o ∈ os, Sz 3010 o) → Q (.ref D) H'
theorem ok_prb (T : Bn mg) (F : Fn K mg "_law_probes" s__law_probes ps__law_probes f fd) (d_law_ordered : Def P w K mg base k "_law_ordered" ["_law_fracs"] (spOrdN K) f1 fd1) (d_law_minus : Def P w K mg base k "_law_minus" ["_law_a", "_law_b"] (spOp2 K (· - ·)) f2 fd2)
    (d_law_plus : Def P w K mg base k "_law_plus" ["_law_a", "_law_b"] (spOp2 K (· + ·)) f3 fd3) (d_law_times : Def P w K mg base k "_law_times" ["_law_a", "_law_b"] (spOp2 K (· * ·)) f4 fd4) : Def P w K mg base (k + 1) "_law_probes" ps__law_probes (spPrb K) f fd := by
  refine ⟨F.F.ok sc__law_probes (fun vs H Q E h => ?_) (fun cdv A outer s H vs Q E hr h => ?_), F.m, F.F.kp, F.b⟩
  · obtain ⟨_, _, _, rfl, _⟩ := h
    rfl
  obtain ⟨ac, xs, ps, rfl, hx, hq, zq, l1, l2, z⟩ := h
  refine ⟨_, (pss_cons (ps_set (i := 1) sc__law_probes.nd rfl (Or.inl rfl) (pe_lst pa_nil))
      (pss_cons (ps_for PassesOwn.never rfl (pi_list (pv 0)) (pg_name (i := 2) sc__law_probes.nd rfl (Or.inl rfl))
        (pss_one (ps_set (i := 1) sc__law_probes.nd rfl (Or.inl rfl) (pe_op op_cat (pv 1) (pe_lc (own := [("_law_one", 3)]) (g := gName 3) rfl sc__law_probes.nd (pi_tup (pv 2)) (blkOk_by (N := N__law_probes) (sc := defScope s__law_probes) (by decide +kernel)) (fun _ _ _ _ _ => pg_name (i := 3) sc__law_probes.nd rfl (Or.inl rfl)) (fun _ _ _ _ _ => pts_one (pt_cmpR op_notN (pv 3) pe_non (nomark _))) (fun _ _ _ _ _ => (pv 3)))))))
      (pss_cons (ps_set (i := 1) sc__law_probes.nd rfl (Or.inl rfl) (pcall d_law_ordered hr (pa_cons (pv 1) pa_nil)))
      (pss_cons (ps_if (pt_cmpR op_eq (pe_callB call_len_seq (by rfl) T.len_ PySem.boot_len (pa_cons (pv 1) pa_nil)) pe_int (nomark _))
        (pss_one (ps_ret (pe_lst (pa_cons (pe_tup (pa_cons pe_int (pa_cons pe_int pa_nil))) pa_nil))))
        pss_nil)
      (pss_cons (ps_set (i := 4) sc__law_probes.nd rfl (Or.inl rfl) (pe_lst (pa_cons (pcall d_law_minus hr (pa_cons (pe_ix ix_list (pv 1) pe_int (fun _ _ => rfl)) (pa_cons (pe_tup (pa_cons pe_int (pa_cons pe_int pa_nil))) pa_nil))) pa_nil)))
      (pss_cons (ps_for PassesOwn.never rfl (pi_range1 (by rfl) T.range_ (pa_cons (pe_callB call_len_seq (by rfl) T.len_ PySem.boot_len (pa_cons (pv 1) pa_nil)) pa_nil)) (pg_name (i := 5) sc__law_probes.nd rfl (Or.inl rfl))
        (pss_cons (ps_expr (pe_bm PySem.F.plainAttrs_list PySem.F.slot_list_append PySem.F.type_list_append mt_append (pv 4) (pa_cons (pe_ix ix_list (pv 1) (pv 5) (fun _ _ => rfl)) pa_nil)))
        (pss_one (ps_if (pt_cmpR op_lt (pe_op op_add (pv 5) pe_int) (pe_callB call_len_seq (by rfl) T.len_ PySem.boot_len (pa_cons (pv 1) pa_nil)) (nomark _))
          (pss_one (ps_expr (pe_bm PySem.F.plainAttrs_list PySem.F.slot_list_append PySem.F.type_list_append mt_append (pv 4) (pa_cons (pcall d_law_times hr (pa_cons (pcall d_law_plus hr (pa_cons (pe_ix ix_list (pv 1) (pv 5) (fun _ _ => rfl)) (pa_cons (pe_ix ix_list (pv 1) (pe_op op_add (pv 5) pe_int) (fun _ _ => rfl)) pa_nil))) (pa_cons (pe_tup (pa_cons pe_int (pa_cons pe_int pa_nil))) pa_nil))) pa_nil))))
          pss_nil))))
      (pss_one (ps_ret (pe_op op_cat (pv 4) (pe_lst (pa_cons (pcall d_law_plus hr (pa_cons (pe_ix ix_list (pv 1) (pe_op op_sub (pe_callB call_len_seq (by rfl) T.len_ PySem.boot_len (pa_cons (pv 1) pa_nil)) pe_int) (fun _ _ => rfl)) (pa_cons (pe_tup (pa_cons pe_int (pa_cons pe_int pa_nil))) pa_nil))) pa_nil))))))))))), ?_⟩
  (walk_at "vk_vc")
  have hsz : sizeLine = 16777216 := sizeLine_eq
  have s0 : Same H (upd H p (.lst [])) := same_new np _
  have h0 : (upd H p (.lst [])) p = some (.lst []) := upd_same
  refine forL (K := K) (a := ac) (xs := xs) (fun i σ G => Hold (∃ Ea es os k2 k3, σ = [some (.ref ac), some (.ref Ea), k2, k3, none, none] ∧ Same H G ∧ G Ea = some (.lst es) ∧ All2 (Rq K G) es os ∧ (∀ o ∈ os, Sz 1500 o) ∧ os.length = 2 * i))
    ⟨p, [], [], none, none, rfl, s0, h0, All2.nil, nofun, rfl⟩ (fun i σ G _ h => by obtain ⟨_, _, _, _, _, _, s1, _⟩ := h; exact s1.seq hx) ?_ ?_
  · rintro i x σ G hxi ⟨Ea, es, os, k2, k3, rfl, s1, hE, hA, zo, ln⟩
    have hi : i < ps.length := by have := (List.getElem?_eq_some_iff.mp hxi).1; rw [hq.1] at this; exact this
    have ec : ps[i]? = some ps[i] := List.getElem?_eq_getElem hi
    obtain ⟨z1, z2⟩ := zq _ (List.getElem_mem hi)
    obtain ⟨ta, tu, tv, rfl, ht, hu, hv⟩ := (hq.2 i x _ hxi ec).same s1
    generalize ps[i] = pr at ec z1 z2 hu hv
    obtain ⟨tua, rfl, htu⟩ := id hu
    obtain ⟨tva, rfl, htv⟩ := id hv
    (walk_at "vk_vc")
    refine lcAllT (R := fun G v (q : Rat) => Rq K G v q) (R' := fun G v (q : Rat) => Rq K G v q) lastsQ some np ht (c := [pr.1, pr.2]) ((All2.one (p := pr.1) hu).append (All2.one (p := pr.2) hv)) (by show 2 ≤ 1000; decide) ?_ ?_
    · intro j y q G1 ej rq f1 Y N hY hN
      obtain ⟨ya, rfl, hya⟩ := id rq
      (walk_at "vk_vc")
      exact hY _ _ q (Same.refl _) rfl (rq.same f1)
    · intro us G1 f1 hD2 hA2
      have hD2 : G1 p = some (.lst us) := hD2
      have lu : us.length = 2 := hA2.1
      have le : es.length = os.length := hA.1
      have key : ∀ p' G2, G1 p' = none → G2 = upd G1 p' (.lst (es ++ us)) → Hold (∃ Ea es os k2' k3', [some (V.ref ac), some (.ref p'), some (.ref ta), k3, none, none] = [some (.ref ac), some (.ref Ea), k2', k3', none, none] ∧ Same H G2 ∧ G2 Ea = some (.lst es) ∧ All2 (Rq K G2) es os ∧ (∀ o ∈ os, Sz 1500 o) ∧ os.length = 2 * (i + 1)) := by
        rintro p' G2 np' rfl
        have f2 := same_new np' (.lst (es ++ us))
        refine ⟨p', es ++ us, os ++ [pr.1, pr.2], some (.ref ta), k3, rfl, s1.trans (f1.trans f2), upd_same, (hA.imp fun _ _ h => h.same (f1.trans f2)).append ((show All2 (fun v (q : Rat) => Rq K G1 v q) us [pr.1, pr.2] from hA2).imp fun _ _ h => Rq.same f2 h), fun o ho => ?_, by rw [List.length_append, ln]; rfl⟩
        rcases List.mem_append.mp ho with ho | ho
        · exact zo o ho
        · rcases List.mem_cons.mp ho with rfl | ho
          · exact z1
          · rw [List.mem_singleton.mp ho]; exact z2
      have big : es.length + us.length ≤ sizeLine := by omega
      (walk_at "vk_vc")
      exact key _ _ np rfl
  · rintro σ G ⟨Ea, es, os, k2, k3, rfl, s1, hE, hA, zo, ln⟩
    have lq : os.length ≤ 900 := by rw [ln, hq.1]; omega
    have zo3 : ∀ o ∈ os, Sz 3000 o := fun o ho => (zo o ho).mono (by decide)
    have ne : os ≠ [] := fun g => by rw [g] at ln; rw [hq.1] at ln; simp at ln; omega
    (walk_at "vk_vc")
    intro Da ds qs G1 f1 hDa hD1 hA1 asc sub ln2 ne2
    have ld := hA1.1
    have lp : 0 < qs.length := List.length_pos_iff.mpr (ne2 ne)
    have zd : ∀ o ∈ qs, Sz 1500 o := fun o ho => zo o (sub o ho)
    have item : ∀ j, j < qs.length → ∃ va, atI ds (j : Int) = some (.ref va) ∧ Rq K G1 (.ref va) (qs[j]?.getD 0) ∧ Sz 1500 (qs[j]?.getD 0) := fun j hj => by
      have ej : qs[j]? = some qs[j] := List.getElem?_eq_getElem hj
      obtain ⟨v, hv, rv⟩ := hA1.at ej
      obtain ⟨va, rfl, _⟩ := id rv
      rw [ej]
      exact ⟨va, atI_nat hv, rv, zd _ (List.getElem_mem hj)⟩
    obtain ⟨v0, i0, r0, zv0⟩ := item 0 lp
    obtain ⟨v9, i9, r9, zv9⟩ := item (qs.length - 1) (by omega)
    have i0' : atI ds 0 = some (.ref v0) := i0
    have i9' : atI ds ((ds.length : Int) - 1) = some (.ref v9) := by rw [show ((ds.length : Int) - 1) = ((qs.length - 1 : Nat) : Int) by omega]; exact i9
    have p62 : (2 : Int) ^ 62 = 4611686018427387904 := by decide
    have l62 : (ds.length : Int) < 2 ^ 62 := by omega
    (walk_at "vk_vc")
    · exact absurd (V.int.inj gc) (by omega)
    rename Addr => Dr
    obtain ⟨G, eG⟩ : ∃ G, G = upd H' Dr (.lst [.ref a]) := ⟨_, rfl⟩
    rw [← eG]
    have gw0 : Gw (Rq K) H Dr [.ref a] [(qs[0]?.getD 0 - 1)] G := by
      have hh : Rq K H' (.ref a) (qs[0]?.getD 0 - 1) := h
      rw [eG]
      refine ⟨sameFree ?_ np, ?_, upd_same, All2.one (hh.same (same_new np _))⟩
      all_goals (walk_at "vk_vc")
    have sG : Same G1 G := by rw [eG]; (walk_at "vk_vc")
    have hDG := sG _ _ hD1
    have hfp : G1 Dr = none := sameFree (by (walk_at "vk_same")) np
    have hne : Da ≠ Dr := fun g => by rw [g, hfp] at hD1; cases hD1
    clear eG
    refine forR (lo := 0) (n := ds.length) (fun i σ G => Hold (∃ us os k2 k3 k5, σ = [some (.ref ac), some (.ref Da), k2, k3, some (.ref Dr), k5] ∧ Gw (Rq K) H Dr us os G ∧ Same G1 G ∧ us.length ≤ 2 * i + 1 ∧ ∀ o ∈ os, Sz 3010 o))
      ⟨_, _, _, _, _, rfl, gw0, sG, by show 1 ≤ 1; omega, fun o ho => by rw [List.mem_singleton.mp ho]; exact (zv0.sub zo1).mono (by decide)⟩ ?_ ?_
    · rintro i σ G hi ⟨us, os, k2, k3, k5, rfl, gw, sg, lu, zs⟩
      obtain ⟨va, iva, rva, zva⟩ := item i (by omega)
      have iva' : atI ds (0 + (i : Int)) = some (.ref va) := by rw [Int.zero_add]; exact iva
      have hgD := gw.at_
      have hgDa := sg _ _ hD1
      have rvG := rva.same sg
      have lus : us.length < sizeLine := by omega
      have mk : ∀ us2 os2 G2 k2 k3 k5, Gw (Rq K) H Dr us2 os2 G2 → Same G1 G2 → us2.length ≤ 2 * (i + 1) + 1 → (∀ o ∈ os2, Sz 3010 o) → Hold (∃ us os k2' k3' k5', [some (V.ref ac), some (V.ref Da), k2, k3, some (V.ref Dr), k5] = [some (V.ref ac), some (V.ref Da), k2', k3', some (V.ref Dr), k5'] ∧ Gw (Rq K) H Dr us os G2 ∧ Same G1 G2 ∧ us.length ≤ 2 * (i + 1) + 1 ∧ ∀ o ∈ os, Sz 3010 o) := fun us2 os2 G2 k2 k3 k5 a b c d => ⟨⟨us2, os2, k2, k3, k5, rfl, a, b, c, d⟩⟩
      have zq : Sz 3010 (qs[i]?.getD 0) := zva.mono (by decide)
      (walk_at "vk_vc")
      refine appGw (R := Rq K) lastsQ gw rvG lus fun gw2 fr2 => ?_
      generalize upd G Dr (HO.lst (us ++ [V.ref va])) = G2 at gw2 fr2 ⊢
      have sg2 : Same G1 G2 := fun b o hb => fr2 b o (sg b o hb) (fun g => by rw [g, hfp] at hb; cases hb)
      have hgDa2 := sg2 _ _ hD1
      have rv2 := rva.same sg2
      have l2 : (us ++ [V.ref va]).length ≤ 2 * i + 2 := by rw [List.length_append]; show _ + 1 ≤ _; omega
      have zs2 : ∀ o ∈ os ++ [qs[i]?.getD 0], Sz 3010 o := fun o ho => by
        rcases List.mem_append.mp ho with ho | ho
        · exact zs o ho
        · rw [List.mem_singleton.mp ho]; exact zq
      have hgD2 := gw2.at_
      by_cases gl : i + 1 < qs.length
      · obtain ⟨vb, ivb, rvb, zvb⟩ := item (i + 1) gl
        have ivb' : atI ds (0 + (i : Int) + 1) = some (.ref vb) := by rw [Int.zero_add]; exact ivb
        have rvb2 := rvb.same sg2
        (walk_at "vk_vc")
        · have hh : Rq K H' (.ref a) ((qs[i]?.getD 0 + qs[i + 1]?.getD 0) * mkRat 1 2) := h
          have z3 : Sz 3010 ((qs[i]?.getD 0 + qs[i + 1]?.getD 0) * mkRat 1 2) := ((zva.add zvb).mul (by decide +kernel : Sz 2 (mkRat 1 2))).mono (by decide)
          have s3 : Same G2 H' := (by (walk_at "vk_same"))
          refine appGw (R := Rq K) lastsQ (gw2.go lastsQ s3) hh (by omega) fun gw3 fr3 => ?_
          have sg3 : Same G1 (upd H' Dr (HO.lst (us ++ [V.ref va] ++ [V.ref a]))) := fun b o hb => fr3 b o ((sg2.trans s3) b o hb) (fun g => by rw [g, hfp] at hb; cases hb)
          generalize upd H' Dr (HO.lst (us ++ [V.ref va] ++ [V.ref a])) = G3 at gw3 fr3 sg3 ⊢
          refine mk _ _ G3 _ _ _ gw3 sg3 (by rw [List.length_append]; show _ + 1 ≤ _; omega) fun o ho => ?_
          rcases List.mem_append.mp ho with ho | ho
          · exact zs2 o ho
          · rw [List.mem_singleton.mp ho]; exact z3
        all_goals (exfalso; omega)
      · (walk_at "vk_vc")
        all_goals first | (exfalso; omega) | exact mk _ _ G2 _ _ _ gw2 sg2 (by omega) zs2
    · rintro σ G ⟨us, os, k2, k3, k5, rfl, gw, sg, lu, zs⟩
      have hgD := gw.at_
      have hgDa := sg _ _ hD1
      have r9G := r9.same sg
      have lus : us.length + 1 ≤ sizeLine := by omega
      have sgg := gw.same
      (walk_at "vk_vc")
      have hh : Rq K H' (.ref a) (qs[qs.length - 1]?.getD 0 + 1) := h
      have z3 : Sz 3010 (qs[qs.length - 1]?.getD 0 + 1) := (zv9.add zo1).mono (by decide)
      have s3 : Same G H' := (by (walk_at "vk_same"))
      refine z _ _ (os ++ [qs[qs.length - 1]?.getD 0 + 1]) _ ?_ ?_ upd_same (All2.snoc (All2.imp gw.all fun _ _ q => ?_) ?_) fun o ho => ?_
      · (walk_at "vk_vc")
      · exact sameFree ((gw.same.trans s3).trans (same_new (by with_reducible assumption) _)) (by with_reducible assumption)
      · (walk_at "vk_vc")
      · (walk_at "vk_vc")
      · rcases List.mem_append.mp ho with ho | ho
        · exact zs o ho
        · rw [List.mem_singleton.mp ho]; exact z3
end Vk

set_option maxHeartbeats 4000000
namespace Vk
open PySem L2 Vm Vl
variable {l aZERO CB CE CV fB fE : Addr} {P : Program} {w : World} {K : PySem.W.Frag} {mg : Str → Option Value} {base : Heap} {k : Nat} {f f1 f2 f3 f4 f5 f6 f7 f8 f9 : Addr} {fd fd1 fd2 fd3 fd4 fd5 fd6 fd7 fd8 fd9 : FuncData}
/-- an error with two fields -/
def eV2 (E : XK) (C : Addr) (H : Hp) (u v : V) : Prop := ∀ d, H d = none → E (.ref C) (some d) (upd H d (xd2 u v))
abbrev s_worst_error : Stmt := top 47
abbrev N_worst_error : List Str := ["course", "start", "end", "worst", "at", "piece", "stop", "first", "last", "t"]
theorem sc_worst_error : FnScope N_worst_error ["course", "start", "end"] (defScope s_worst_error) := ⟨rfl, rfl, rfl, by decide +kernel, rfl, by decide +kernel, by decide +kernel⟩
abbrev ps_worst_error : List Str := ["course", "start", "end"]
def spWorst (K : PySem.W.Frag) (CB CE : Addr) : Sp := fun vs H Q E => ∃ (a : Addr) (y u : V) (c : List Pc) (s e : Rat), vs = [.ref a, y, u] ∧ Cq K H a c ∧ Rq K H y s ∧ Rq K H u e ∧ Cz 256 940 45 c ∧ Sz 256 s ∧ Sz 256 e ∧ Cok c ∧ 1 ≤ c.length ∧ c.length ≤ 900 ∧
  (pcAt c s = none → eV E CB H y) ∧ ((∃ p, pcAt c s = some p) → e < s → eV2 E CE H y u) ∧ ((∃ p, pcAt c s = some p) → ¬ e < s → ∀ w v H', Worst c s e w → Same H H' → Rq K H' v w → Sz 1800 w → Q v H')
theorem ok_worst (T : Bn mg) (ZZERO : Cn K mg "ZERO" 0 aZERO) (TBeforeStart : PySem.ValX.ValTxt K mg "BeforeStart" CB fB) (TEmptySpan : PySem.Val2.Txt K mg "EmptySpan" CE fE) (F : Fn K mg "worst_error" s_worst_error ps_worst_error f fd) (dcompare : Def P w K mg base k "compare" ["a", "b"] (spTest2 K fun p q => .int (sg p q)) f1 fd1)
    (d_end_of : Def P w K mg base k "_end_of" ["course", "at"] (spEndOf K) f2 fd2) (dlarger : Def P w K mg base k "larger" ["a", "b"] (spSel K fun p q => if q ≤ p then p else q) f3 fd3) (dsmaller : Def P w K mg base k "smaller" ["a", "b"] (spSel K fun p q => if p ≤ q then p else q) f4 fd4)
    (ddistance : Def P w K mg base k "distance" ["a", "b"] (spOp2 K fun p q => ab (p - q)) f5 fd5) (d_shown_by : Def P w K mg base k "_shown_by" ["piece", "t"] (spShown K) f6 fd6) : DefY P w K mg base (k + 1) "worst_error" ps_worst_error (spWorst K CB CE) f fd := by
  refine ⟨okY F.F sc_worst_error (fun vs H Q E h => ?_) (fun cdv A outer s H vs Q E hr h => ?_), F.m, F.F.kp, F.b⟩
  · obtain ⟨_, _, _, _, _, _, rfl, _⟩ := h
    rfl
  obtain ⟨ac, y, u, c, s, en, rfl, hC, hy, hu, cz, zs, ze, ok, l1, l2, z1, z2, z3⟩ := h
  obtain ⟨xs, hxs, hc⟩ := id hC
  have hlx := hc.1
  obtain ⟨ya, rfl, hya⟩ := id hy
  obtain ⟨ua, rfl, hua⟩ := id hu
  have e0 : c[0]? = some c[0] := List.getElem?_eq_getElem (by omega)
  obtain ⟨x0, hx0, p0⟩ := hc.at e0
  obtain ⟨d0, ds0, dv0, dr0, rfl, hd0, r01, r02, r03⟩ := id p0
  obtain ⟨zs0, zv0, zr0⟩ := cz _ (List.mem_of_getElem? e0)
  have first := pcAt_first ok e0 (t := s)
  have i0x : atI xs 0 = some (.ref d0) := at0 hx0
  refine ⟨_, (pss_cons (ps_if (pt_cmpR op_lt (pcall dcompare hr (pa_cons (pv 1) (pa_cons (pe_ix ix_tup (pe_ix ix_list (pv 0) pe_int (fun _ _ => rfl)) pe_int (fun _ _ => rfl)) pa_nil))) pe_int (nomark _))
        (pss_one (ps_raiseValN rfl TBeforeStart hr (L2N.takes_of rfl rfl rfl rfl) (pa_cons (pv 1) pa_nil)))
        pss_nil)
      (pss_cons (ps_if (pt_cmpR op_gt (pcall dcompare hr (pa_cons (pv 1) (pa_cons (pv 2) pa_nil))) pe_int (nomark _))
        (pss_one (ps_raise2N rfl TEmptySpan hr (L2N.takes_of rfl rfl rfl rfl) (pa_cons (pv 1) (pa_cons (pv 2) pa_nil))))
        pss_nil)
      (pss_cons (ps_set (i := 3) sc_worst_error.nd rfl (Or.inl rfl) (pe_glob (v := .ref aZERO) (u := .ref aZERO) (by rfl) ZZERO.m rfl))
      (pss_cons (psNox (ps_for PassesOwn.never rfl (pi_enum (by rfl) T.enumerate_ (pa_cons (pv 0) pa_nil)) (pg_tup rfl (pgs_cons (pg_name (i := 4) sc_worst_error.nd rfl (Or.inl rfl)) (pgs_cons (pg_name (i := 5) sc_worst_error.nd rfl (Or.inl rfl)) pgs_nil)))
        (pss_cons (ps_set (i := 6) sc_worst_error.nd rfl (Or.inl rfl) (pcall d_end_of hr (pa_cons (pv 0) (pa_cons (pv 4) pa_nil))))
        (pss_cons (ps_if (PW.pt (pw_or (pt_cmpR op_gt (pcall dcompare hr (pa_cons (pe_ix ix_tup (pv 5) pe_int (fun _ _ => rfl)) (pa_cons (pv 2) pa_nil))) pe_int (nomark _)) (pw_or1 (PW.pt (pw_and (pt_cmpR op_notN (pv 6) pe_non (nomark _)) (pw_and1 (pt_cmpR op_le (pcall dcompare hr (pa_cons (pv 6) (pa_cons (pv 1) pa_nil))) pe_int (nomark _))))))))
          (pss_one ps_continue)
          pss_nil)
        (pss_cons (ps_set (i := 7) sc_worst_error.nd rfl (Or.inl rfl) (pcall dlarger hr (pa_cons (pe_ix ix_tup (pv 5) pe_int (fun _ _ => rfl)) (pa_cons (pv 1) pa_nil))))
        (pss_cons (ps_set (i := 8) sc_worst_error.nd rfl (Or.inl rfl) (pe_ifExp (pt_cmpR op_isN (pv 6) pe_non (nomark _)) (pv 2) (pcall dsmaller hr (pa_cons (pv 6) (pa_cons (pv 2) pa_nil)))))
        (pss_one (psNox (ps_for PassesOwn.never rfl (pi_tup (pe_tup (pa_cons (pv 7) (pa_cons (pv 8) pa_nil)))) (pg_name (i := 9) sc_worst_error.nd rfl (Or.inl rfl))
          (pss_one (ps_set (i := 3) sc_worst_error.nd rfl (Or.inl rfl) (pcall dlarger hr (pa_cons (pv 3) (pa_cons (pcall ddistance hr (pa_cons (pv 9) (pa_cons (pcall d_shown_by hr (pa_cons (pv 5) (pa_cons (pv 9) pa_nil))) pa_nil))) pa_nil))))))))))))))
      (pss_one (ps_ret (pv 3))))))), ?_⟩
  (walk_at "vk_vc")
  · exact z1 (first.mpr (sg_lt.mp gc)) _ np
  · rename 0 < sg s en => g2
    have g1 : ¬ s < c[0].s := fun g => by rename ¬ sg s c[0].s < 0 => g3; exact g3 (sg_lt.mpr g)
    obtain ⟨q, hq⟩ : ∃ q, pcAt c s = some q := by
      cases e : pcAt c s with
      | some q => exact ⟨q, rfl⟩
      | none => exact absurd (first.mp e) g1
    exact z2 ⟨q, hq⟩ (sg_gt.mp g2) _ np
  · rename ¬ 0 < sg s en => g2
    have g1 : ¬ s < c[0].s := fun g => by rename ¬ sg s c[0].s < 0 => g3; exact g3 (sg_lt.mpr g)
    have g3 : ¬ en < s := fun g => g2 (sg_gt.mpr g)
    obtain ⟨q, hq⟩ : ∃ q, pcAt c s = some q := by
      cases e : pcAt c s with
      | some q => exact ⟨q, rfl⟩
      | none => exact absurd (first.mp e) g1
    have z3 := z3 ⟨q, hq⟩ g3
    clear z1 z2
    refine forE (K := K) (a := ac) (xs := xs) (fun i σ G => Hold (∃ w va k4 k5 k6 k7 k8 k9, σ = [some (.ref ac), some (.ref ya), some (.ref ua), some (.ref va), k4, k5, k6, k7, k8, k9] ∧ Same H G ∧ Rq K G (.ref va) w ∧ Wi c s en i w ∧ Sz 1800 w))
      ⟨0, aZERO, none, none, none, none, none, none, rfl, Same.refl _, ZZERO.q _, Wi.start, zz1.mono (by decide)⟩ (fun i σ G h => by obtain ⟨_, _, _, _, _, _, _, _, _, s1, _⟩ := h; exact s1.seq hxs) ?_ ?_
    · rintro i x T1 σ G hx ⟨w, va, k4, k5, k6, k7, k8, k9, rfl, hsg, hw, W, zw⟩ hT1
      have hi : i < c.length := by have := (List.getElem?_eq_some_iff.mp hx).1; omega
      have ep : c[i]? = some c[i] := List.getElem?_eq_getElem hi
      obtain ⟨zs1, zv1, zr1⟩ := cz _ (List.mem_of_getElem? ep)
      obtain ⟨d1, ds1, dv1, dr1, rfl, hd1, r11, r12, r13⟩ := (hc.2 i x _ hx ep).same hsg
      have pq1 : Pq K G (.ref d1) c[i] := ⟨d1, ds1, dv1, dr1, rfl, hd1, r11, r12, r13⟩
      generalize c[i] = pa at ep r11 r12 r13 zs1 zv1 zr1 pq1
      have hyg := hy.same hsg
      have hug := hu.same hsg
      have hCg := hC.same hsg
      obtain ⟨dsa, rfl, hdsa⟩ := id r11
      have cT1 := same_new hT1 (.tup [.int (i : Nat), .ref d1])
      have hT1a : (upd G T1 (.tup [.int (i : Nat), .ref d1])) T1 = some (.tup [.int (i : Nat), .ref d1]) := upd_same
      generalize upd G T1 (.tup [.int (i : Nat), .ref d1]) = G1 at cT1 hT1a ⊢
      have hT1t : SqT K G1 T1 [.int (i : Nat), .ref d1] := SqT.of hT1a
      (walk_at "vk_vc")
      intro stp hst
      cases en1 : c[i + 1]? with
      | none =>
        have hst : stp = .non := by unfold endV at hst; rw [en1] at hst; exact hst
        subst hst
        (walk_at "vk_vc")
        · exact ⟨⟨w, va, _, _, _, _, _, _, rfl, hsg.trans cT1, hw.same cT1, W.skip ep (.inl (sg_gt.mp (by assumption))), zw⟩⟩
        · have hv1 : Rq K G1 (.ref a) (if s ≤ pa.s then pa.s else s) := h
          have hv2 : Rq K G1 (.ref ua) en := hug.same cT1
          have zt1 : Sz 256 (if s ≤ pa.s then pa.s else s) := by split <;> assumption
          have zt2 : Sz 256 en := by first | assumption | (split <;> assumption)
          have ps : ¬ en < pa.s := fun g => by first | exact (by assumption : ¬ 0 < sg pa.s en) (sg_gt.mpr g)
          have nx1 : ∀ n, c[i + 1]? = some n → s < n.s := fun n hn => by rw [en1] at hn; cases hn
          have cd1 : Cd c s en i (if s ≤ pa.s then pa.s else s) pa := ⟨ep, by grind, nx1, .inl rfl⟩
          have cd2 : Cd c s en i en pa := ⟨ep, by grind, nx1, .inr (.inl ⟨en1, rfl⟩)⟩
          have only : ∀ t q, Cd c s en i t q → t = (if s ≤ pa.s then pa.s else s) ∨ t = en := fun t q cd => by
            obtain ⟨f1, _, _, f4⟩ := cd
            rw [ep] at f1
            cases f1
            rcases f4 with f4 | ⟨f4, f5⟩ | ⟨n, f4, f5⟩
            · exact .inl f4
            · exact .inr f5
            · rw [en1] at f4; cases f4
          have W2 := W.step cd1 cd2 only
          generalize (if s ≤ pa.s then pa.s else s) = t1 at hv1 zt1 cd1 W2
          generalize en = t2 at hv2 zt2 cd2 W2
          have key : ∀ t, Sz 256 t → Sz 1800 (ab (t - (pa.v + pa.r * (t - pa.s)))) := fun t zt => (Vk.Sz.ab (zt.sub (zv1.add (zr1.mul (zt.sub zs1))))).mono (by decide)
          have sg1 := hsg.trans cT1
          have hw1 := hw.same cT1
          have pq2 := pq1.same cT1
          have cp := same_new np (.tup [.ref a, .ref ua])
          have hP : SqT K (upd G1 p (.tup [.ref a, .ref ua])) p [.ref a, .ref ua] := SqT.of upd_same
          generalize upd G1 p (.tup [.ref a, .ref ua]) = G2 at cp hP ⊢
          refine forT (K := K) (a := p) (xs := [.ref a, .ref ua]) (fun j σ G => Hold (∃ vb k9, σ = [some (.ref ac), some (.ref ya), some (.ref ua), some (.ref vb), some (.int (i : Nat)), some (.ref d1), some .non, some (.ref a), some (.ref ua), k9] ∧ Same G2 G ∧ Rq K G (.ref vb) (if j = 0 then w else if j = 1 then mx w (wa t1 pa) else mx (mx w (wa t1 pa)) (wa t2 pa)) ∧ Sz 1800 (if j = 0 then w else if j = 1 then mx w (wa t1 pa) else mx (mx w (wa t1 pa)) (wa t2 pa))))
            ⟨va, k9, rfl, Same.refl _, hw1.same cp, zw⟩ (fun j σ G _ h => by obtain ⟨_, _, _, s1, _⟩ := h; exact s1.sqt hP) ?_ ?_
          · rintro j x σ G3 hx2 ⟨vb, k9, rfl, s3, hb, zb⟩
            obtain ⟨t, tv, rfl, ht, zt, ej⟩ : ∃ t tv, x = .ref tv ∧ Rq K G2 (.ref tv) t ∧ Sz 256 t ∧ (if j + 1 = 0 then w else if j + 1 = 1 then mx w (wa t1 pa) else mx (mx w (wa t1 pa)) (wa t2 pa)) = mx (if j = 0 then w else if j = 1 then mx w (wa t1 pa) else mx (mx w (wa t1 pa)) (wa t2 pa)) (wa t pa) := by
              match j, hx2 with
              | 0, h => exact ⟨t1, _, (Option.some.inj h).symm, hv1.same cp, zt1, rfl⟩
              | 1, h => exact ⟨t2, _, (Option.some.inj h).symm.trans (by first | rfl), hv2.same cp, zt2, rfl⟩
              | j + 2, h => cases h
            have zk := key t zt
            have ht3 := ht.same s3
            have pq3 := (pq2.same cp).same s3
            rw [ej]
            generalize (if j = 0 then w else if j = 1 then mx w (wa t1 pa) else mx (mx w (wa t1 pa)) (wa t2 pa)) = wj at hb zb ⊢
            have zm : Sz 1800 (mx wj (wa t pa)) := by unfold mx; split <;> assumption
            (walk_at "vk_vc")
            all_goals first | exact ⟨⟨_, _, rfl, (by (walk_at "vk_same")), by assumption, zm⟩⟩
          · rintro σ G3 ⟨vb, k9, rfl, s3, hb, zb⟩
            exact ⟨⟨_, vb, _, _, _, _, _, _, rfl, (sg1.trans cp).trans s3, hb, W2, zb⟩⟩
      | some nn =>
        have hst : Rq K G1 stp nn.s := by unfold endV at hst; rw [en1] at hst; exact hst
        obtain ⟨sa, rfl, hsa⟩ := id hst
        obtain ⟨zs2, zv2, zr2⟩ := cz _ (List.mem_of_getElem? en1)
        (walk_at "vk_vc")
        · exact ⟨⟨w, va, _, _, _, _, _, _, rfl, hsg.trans cT1, hw.same cT1, W.skip ep (.inl (sg_gt.mp (by assumption))), zw⟩⟩
        · exact ⟨⟨w, va, _, _, _, _, _, _, rfl, hsg.trans cT1, hw.same cT1, W.skip ep (.inr ⟨nn, en1, sg_le.mp (by assumption)⟩), zw⟩⟩
        · rename_i a1 h1 h1'
          have nlt : s < nn.s := by
            have g : ¬ sg nn.s s ≤ 0 := by assumption
            exact Rat.not_le.mp fun q => g (sg_le.mpr q)
          have hv1 : Rq K G1 (.ref a1) (if s ≤ pa.s then pa.s else s) := h1
          have hv2 : Rq K G1 (.ref a) (if nn.s ≤ en then nn.s else en) := h
          have zt1 : Sz 256 (if s ≤ pa.s then pa.s else s) := by split <;> assumption
          have zt2 : Sz 256 (if nn.s ≤ en then nn.s else en) := by first | assumption | (split <;> assumption)
          have ps : ¬ en < pa.s := fun g => by first | exact (by assumption : ¬ 0 < sg pa.s en) (sg_gt.mpr g)
          have nx1 : ∀ n, c[i + 1]? = some n → s < n.s := fun n hn => by rw [en1] at hn; cases hn; exact nlt
          have cd1 : Cd c s en i (if s ≤ pa.s then pa.s else s) pa := ⟨ep, by grind, nx1, .inl rfl⟩
          have cd2 : Cd c s en i (if nn.s ≤ en then nn.s else en) pa := ⟨ep, by grind, nx1, .inr (.inr ⟨nn, en1, rfl⟩)⟩
          have only : ∀ t q, Cd c s en i t q → t = (if s ≤ pa.s then pa.s else s) ∨ t = (if nn.s ≤ en then nn.s else en) := fun t q cd => by
            obtain ⟨f1, _, _, f4⟩ := cd
            rw [ep] at f1
            cases f1
            rcases f4 with f4 | ⟨f4, f5⟩ | ⟨n, f4, f5⟩
            · exact .inl f4
            · rw [en1] at f4; cases f4
            · rw [en1] at f4; cases f4; exact .inr f5
          have W2 := W.step cd1 cd2 only
          generalize (if s ≤ pa.s then pa.s else s) = t1 at hv1 zt1 cd1 W2
          generalize (if nn.s ≤ en then nn.s else en) = t2 at hv2 zt2 cd2 W2
          have key : ∀ t, Sz 256 t → Sz 1800 (ab (t - (pa.v + pa.r * (t - pa.s)))) := fun t zt => (Vk.Sz.ab (zt.sub (zv1.add (zr1.mul (zt.sub zs1))))).mono (by decide)
          have sg1 := hsg.trans cT1
          have hw1 := hw.same cT1
          have pq2 := pq1.same cT1
          have cp := same_new np (.tup [.ref a1, .ref a])
          have hP : SqT K (upd G1 p (.tup [.ref a1, .ref a])) p [.ref a1, .ref a] := SqT.of upd_same
          generalize upd G1 p (.tup [.ref a1, .ref a]) = G2 at cp hP ⊢
          refine forT (K := K) (a := p) (xs := [.ref a1, .ref a]) (fun j σ G => Hold (∃ vb k9, σ = [some (.ref ac), some (.ref ya), some (.ref ua), some (.ref vb), some (.int (i : Nat)), some (.ref d1), some (.ref sa), some (.ref a1), some (.ref a), k9] ∧ Same G2 G ∧ Rq K G (.ref vb) (if j = 0 then w else if j = 1 then mx w (wa t1 pa) else mx (mx w (wa t1 pa)) (wa t2 pa)) ∧ Sz 1800 (if j = 0 then w else if j = 1 then mx w (wa t1 pa) else mx (mx w (wa t1 pa)) (wa t2 pa))))
            ⟨va, k9, rfl, Same.refl _, hw1.same cp, zw⟩ (fun j σ G _ h => by obtain ⟨_, _, _, s1, _⟩ := h; exact s1.sqt hP) ?_ ?_
          · rintro j x σ G3 hx2 ⟨vb, k9, rfl, s3, hb, zb⟩
            obtain ⟨t, tv, rfl, ht, zt, ej⟩ : ∃ t tv, x = .ref tv ∧ Rq K G2 (.ref tv) t ∧ Sz 256 t ∧ (if j + 1 = 0 then w else if j + 1 = 1 then mx w (wa t1 pa) else mx (mx w (wa t1 pa)) (wa t2 pa)) = mx (if j = 0 then w else if j = 1 then mx w (wa t1 pa) else mx (mx w (wa t1 pa)) (wa t2 pa)) (wa t pa) := by
              match j, hx2 with
              | 0, h => exact ⟨t1, _, (Option.some.inj h).symm, hv1.same cp, zt1, rfl⟩
              | 1, h => exact ⟨t2, _, (Option.some.inj h).symm.trans (by first | rfl), hv2.same cp, zt2, rfl⟩
              | j + 2, h => cases h
            have zk := key t zt
            have ht3 := ht.same s3
            have pq3 := (pq2.same cp).same s3
            rw [ej]
            generalize (if j = 0 then w else if j = 1 then mx w (wa t1 pa) else mx (mx w (wa t1 pa)) (wa t2 pa)) = wj at hb zb ⊢
            have zm : Sz 1800 (mx wj (wa t pa)) := by unfold mx; split <;> assumption
            (walk_at "vk_vc")
            all_goals first | exact ⟨⟨_, _, rfl, (by (walk_at "vk_same")), by assumption, zm⟩⟩
          · rintro σ G3 ⟨vb, k9, rfl, s3, hb, zb⟩
            exact ⟨⟨_, vb, _, _, _, _, _, _, rfl, (sg1.trans cp).trans s3, hb, W2, zb⟩⟩
    · rintro σ G ⟨w, va, k4, k5, k6, k7, k8, k9, rfl, hsg, hw, W, zw⟩
      rw [hlx] at W
      exact ⟨_, rfl, z3 w _ G (W.fin ok e0 g1 g3) hsg hw zw⟩
end Vk

set_option maxHeartbeats 4000000
namespace Vk
open PySem L2 Vm Vl
variable {cZeroDivisor cBadNumber cEmptySpan cBeforeStart cTurnsBack cBadRate cBadBound cBadName cDuplicateName cUnknownName cBadLink cUnknownLink cBadNote cUnknownMoment cNoWorld cOutsideSpan cTooManyLiars cRootFollows cCondemned cBadDate cBadLeap cBadLabel cNoSuchSecond cBadCells cRefusedEntry cDuplicateTag cUnknownTag cBadLine cNothingToUndo cNothingToRedo cVerdictError : Addr} {P : Program} {w : World} {K : PySem.W.Frag} {mg : Str → Option Value} {base : Heap} {k : Nat} {f : Addr} {fd : FuncData}
/-- the classes of errors by their names -/
structure CG (mg : Str → Option Value) (cZeroDivisor cBadNumber cEmptySpan cBeforeStart cTurnsBack cBadRate cBadBound cBadName cDuplicateName cUnknownName cBadLink cUnknownLink cBadNote cUnknownMoment cNoWorld cOutsideSpan cTooManyLiars cRootFollows cCondemned cBadDate cBadLeap cBadLabel cNoSuchSecond cBadCells cRefusedEntry cDuplicateTag cUnknownTag cBadLine cNothingToUndo cNothingToRedo cVerdictError : Addr) : Prop where
  gZeroDivisor : mg "ZeroDivisor" = some (.ref cZeroDivisor)
  gBadNumber : mg "BadNumber" = some (.ref cBadNumber)
  gEmptySpan : mg "EmptySpan" = some (.ref cEmptySpan)
  gBeforeStart : mg "BeforeStart" = some (.ref cBeforeStart)
  gTurnsBack : mg "TurnsBack" = some (.ref cTurnsBack)
  gBadRate : mg "BadRate" = some (.ref cBadRate)
  gBadBound : mg "BadBound" = some (.ref cBadBound)
  gBadName : mg "BadName" = some (.ref cBadName)
  gDuplicateName : mg "DuplicateName" = some (.ref cDuplicateName)
  gUnknownName : mg "UnknownName" = some (.ref cUnknownName)
  gBadLink : mg "BadLink" = some (.ref cBadLink)
  gUnknownLink : mg "UnknownLink" = some (.ref cUnknownLink)
  gBadNote : mg "BadNote" = some (.ref cBadNote)
  gUnknownMoment : mg "UnknownMoment" = some (.ref cUnknownMoment)
  gNoWorld : mg "NoWorld" = some (.ref cNoWorld)
  gOutsideSpan : mg "OutsideSpan" = some (.ref cOutsideSpan)
  gTooManyLiars : mg "TooManyLiars" = some (.ref cTooManyLiars)
  gRootFollows : mg "RootFollows" = some (.ref cRootFollows)
  gCondemned : mg "Condemned" = some (.ref cCondemned)
  gBadDate : mg "BadDate" = some (.ref cBadDate)
  gBadLeap : mg "BadLeap" = some (.ref cBadLeap)
  gBadLabel : mg "BadLabel" = some (.ref cBadLabel)
  gNoSuchSecond : mg "NoSuchSecond" = some (.ref cNoSuchSecond)
  gBadCells : mg "BadCells" = some (.ref cBadCells)
  gRefusedEntry : mg "RefusedEntry" = some (.ref cRefusedEntry)
  gDuplicateTag : mg "DuplicateTag" = some (.ref cDuplicateTag)
  gUnknownTag : mg "UnknownTag" = some (.ref cUnknownTag)
  gBadLine : mg "BadLine" = some (.ref cBadLine)
  gNothingToUndo : mg "NothingToUndo" = some (.ref cNothingToUndo)
  gNothingToRedo : mg "NothingToRedo" = some (.ref cNothingToRedo)
  gV : mg "VerdictError" = some (.ref cVerdictError)
  mV : mg "ValueError" = none
/-- what isinstance says of an error of the n-th class, which stands at C -/
structure Ak (K : PySem.W.Frag) (cZeroDivisor cBadNumber cEmptySpan cBeforeStart cTurnsBack cBadRate cBadBound cBadName cDuplicateName cUnknownName cBadLink cUnknownLink cBadNote cUnknownMoment cNoWorld cOutsideSpan cTooManyLiars cRootFollows cCondemned cBadDate cBadLeap cBadLabel cNoSuchSecond cBadCells cRefusedEntry cDuplicateTag cUnknownTag cBadLine cNothingToUndo cNothingToRedo : Addr) (n : Nat) (C : Addr) : Prop where
  e : ExcC K C
  kZeroDivisor : PySem.W.kitOne K (.ref C) (.ref cZeroDivisor) = some (decide (0 = n))
  kBadNumber : PySem.W.kitOne K (.ref C) (.ref cBadNumber) = some (decide (1 = n))
  kEmptySpan : PySem.W.kitOne K (.ref C) (.ref cEmptySpan) = some (decide (2 = n))
  kBeforeStart : PySem.W.kitOne K (.ref C) (.ref cBeforeStart) = some (decide (3 = n))
  kTurnsBack : PySem.W.kitOne K (.ref C) (.ref cTurnsBack) = some (decide (4 = n))
  kBadRate : PySem.W.kitOne K (.ref C) (.ref cBadRate) = some (decide (5 = n))
  kBadBound : PySem.W.kitOne K (.ref C) (.ref cBadBound) = some (decide (6 = n))
  kBadName : PySem.W.kitOne K (.ref C) (.ref cBadName) = some (decide (7 = n))
  kDuplicateName : PySem.W.kitOne K (.ref C) (.ref cDuplicateName) = some (decide (8 = n))
  kUnknownName : PySem.W.kitOne K (.ref C) (.ref cUnknownName) = some (decide (9 = n))
  kBadLink : PySem.W.kitOne K (.ref C) (.ref cBadLink) = some (decide (10 = n))
  kUnknownLink : PySem.W.kitOne K (.ref C) (.ref cUnknownLink) = some (decide (11 = n))
  kBadNote : PySem.W.kitOne K (.ref C) (.ref cBadNote) = some (decide (12 = n))
  kUnknownMoment : PySem.W.kitOne K (.ref C) (.ref cUnknownMoment) = some (decide (13 = n))
  kNoWorld : PySem.W.kitOne K (.ref C) (.ref cNoWorld) = some (decide (14 = n))
  kOutsideSpan : PySem.W.kitOne K (.ref C) (.ref cOutsideSpan) = some (decide (15 = n))
  kTooManyLiars : PySem.W.kitOne K (.ref C) (.ref cTooManyLiars) = some (decide (16 = n))
  kRootFollows : PySem.W.kitOne K (.ref C) (.ref cRootFollows) = some (decide (17 = n))
  kCondemned : PySem.W.kitOne K (.ref C) (.ref cCondemned) = some (decide (18 = n))
  kBadDate : PySem.W.kitOne K (.ref C) (.ref cBadDate) = some (decide (19 = n))
  kBadLeap : PySem.W.kitOne K (.ref C) (.ref cBadLeap) = some (decide (20 = n))
  kBadLabel : PySem.W.kitOne K (.ref C) (.ref cBadLabel) = some (decide (21 = n))
  kNoSuchSecond : PySem.W.kitOne K (.ref C) (.ref cNoSuchSecond) = some (decide (22 = n))
  kBadCells : PySem.W.kitOne K (.ref C) (.ref cBadCells) = some (decide (23 = n))
  kRefusedEntry : PySem.W.kitOne K (.ref C) (.ref cRefusedEntry) = some (decide (24 = n))
  kDuplicateTag : PySem.W.kitOne K (.ref C) (.ref cDuplicateTag) = some (decide (25 = n))
  kUnknownTag : PySem.W.kitOne K (.ref C) (.ref cUnknownTag) = some (decide (26 = n))
  kBadLine : PySem.W.kitOne K (.ref C) (.ref cBadLine) = some (decide (27 = n))
  kNothingToUndo : PySem.W.kitOne K (.ref C) (.ref cNothingToUndo) = some (decide (28 = n))
  kNothingToRedo : PySem.W.kitOne K (.ref C) (.ref cNothingToRedo) = some (decide (29 = n))
  kV : PySem.W.kitOne K (.ref C) (.type "ValueError") = some true
abbrev s__law_alone : Stmt := top 70
abbrev N__law_alone : List Str := ["_law_e", "_law_kinds"]
theorem sc__law_alone : FnScope N__law_alone ["_law_e"] (defScope s__law_alone) := ⟨rfl, rfl, rfl, by decide +kernel, rfl, by decide +kernel, by decide +kernel⟩
abbrev ps__law_alone : List Str := ["_law_e"]
def spAlone (K : PySem.W.Frag) (cZeroDivisor cBadNumber cEmptySpan cBeforeStart cTurnsBack cBadRate cBadBound cBadName cDuplicateName cUnknownName cBadLink cUnknownLink cBadNote cUnknownMoment cNoWorld cOutsideSpan cTooManyLiars cRootFollows cCondemned cBadDate cBadLeap cBadLabel cNoSuchSecond cBadCells cRefusedEntry cDuplicateTag cUnknownTag cBadLine cNothingToUndo cNothingToRedo : Addr) (p : Addr × Obj) : Sp := fun vs H Q _ => ∃ (n : Nat) (C d : Addr) (fs : List (Str × V)), n < 30 ∧ Ak K cZeroDivisor cBadNumber cEmptySpan cBeforeStart cTurnsBack cBadRate cBadBound cBadName cDuplicateName cUnknownName cBadLink cUnknownLink cBadNote cUnknownMoment cNoWorld cOutsideSpan cTooManyLiars cRootFollows cCondemned cBadDate cBadLeap cBadLabel cNoSuchSecond cBadCells cRefusedEntry cDuplicateTag cUnknownTag cBadLine cNothingToUndo cNothingToRedo n C ∧ vs = [.ref p.1] ∧ Zc (.ref C) (some d) p.2 ∧ (∃ fv, p.2.data = .fields fv) ∧ H d = some (.xd fs) ∧ ∀ H', Same H H' → Q (.bl true) H'
theorem ok_alone (T : Bn mg) (C : CG mg cZeroDivisor cBadNumber cEmptySpan cBeforeStart cTurnsBack cBadRate cBadBound cBadName cDuplicateName cUnknownName cBadLink cUnknownLink cBadNote cUnknownMoment cNoWorld cOutsideSpan cTooManyLiars cRootFollows cCondemned cBadDate cBadLeap cBadLabel cNoSuchSecond cBadCells cRefusedEntry cDuplicateTag cUnknownTag cBadLine cNothingToUndo cNothingToRedo cVerdictError) (F : Fn K mg "_law_alone" s__law_alone ps__law_alone f fd) : DefP P w K mg base (k + 1) "_law_alone" ps__law_alone (spAlone K cZeroDivisor cBadNumber cEmptySpan cBeforeStart cTurnsBack cBadRate cBadBound cBadName cDuplicateName cUnknownName cBadLink cUnknownLink cBadNote cUnknownMoment cNoWorld cOutsideSpan cTooManyLiars cRootFollows cCondemned cBadDate cBadLeap cBadLabel cNoSuchSecond cBadCells cRefusedEntry cDuplicateTag cUnknownTag cBadLine cNothingToUndo cNothingToRedo) f fd := by
  refine ⟨okP F.F sc__law_alone (fun p vs H Q E h => ?_) (fun cdv A outer s H vs Q E p hot hr h => ?_), F.m, F.F.kp, F.b⟩
  · obtain ⟨_, _, _, _, _, _, rfl, _⟩ := h
    rfl
  obtain ⟨n, CE, d, fs, hn, A, rfl, hz, hf, hd, z⟩ := h
  obtain ⟨pa, po⟩ := p
  refine ⟨_, (pss_cons (ps_set (i := 1) sc__law_alone.nd rfl (Or.inl rfl) (pe_lst (pa_cons (pe_callB (call_isP A.e hz hf List.mem_cons_self) (by rfl) T.isinstance_ (by decide +kernel) (pa_cons (pv 0) (pa_cons (pe_glob (v := .ref cZeroDivisor) (u := .ref cZeroDivisor) (by rfl) C.gZeroDivisor rfl) pa_nil))) (pa_cons (pe_callB (call_isP A.e hz hf List.mem_cons_self) (by rfl) T.isinstance_ (by decide +kernel) (pa_cons (pv 0) (pa_cons (pe_glob (v := .ref cBadNumber) (u := .ref cBadNumber) (by rfl) C.gBadNumber rfl) pa_nil))) (pa_cons (pe_callB (call_isP A.e hz hf List.mem_cons_self) (by rfl) T.isinstance_ (by decide +kernel) (pa_cons (pv 0) (pa_cons (pe_glob (v := .ref cEmptySpan) (u := .ref cEmptySpan) (by rfl) C.gEmptySpan rfl) pa_nil))) (pa_cons (pe_callB (call_isP A.e hz hf List.mem_cons_self) (by rfl) T.isinstance_ (by decide +kernel) (pa_cons (pv 0) (pa_cons (pe_glob (v := .ref cBeforeStart) (u := .ref cBeforeStart) (by rfl) C.gBeforeStart rfl) pa_nil))) (pa_cons (pe_callB (call_isP A.e hz hf List.mem_cons_self) (by rfl) T.isinstance_ (by decide +kernel) (pa_cons (pv 0) (pa_cons (pe_glob (v := .ref cTurnsBack) (u := .ref cTurnsBack) (by rfl) C.gTurnsBack rfl) pa_nil))) (pa_cons (pe_callB (call_isP A.e hz hf List.mem_cons_self) (by rfl) T.isinstance_ (by decide +kernel) (pa_cons (pv 0) (pa_cons (pe_glob (v := .ref cBadRate) (u := .ref cBadRate) (by rfl) C.gBadRate rfl) pa_nil))) (pa_cons (pe_callB (call_isP A.e hz hf List.mem_cons_self) (by rfl) T.isinstance_ (by decide +kernel) (pa_cons (pv 0) (pa_cons (pe_glob (v := .ref cBadBound) (u := .ref cBadBound) (by rfl) C.gBadBound rfl) pa_nil))) (pa_cons (pe_callB (call_isP A.e hz hf List.mem_cons_self) (by rfl) T.isinstance_ (by decide +kernel) (pa_cons (pv 0) (pa_cons (pe_glob (v := .ref cBadName) (u := .ref cBadName) (by rfl) C.gBadName rfl) pa_nil))) (pa_cons (pe_callB (call_isP A.e hz hf List.mem_cons_self) (by rfl) T.isinstance_ (by decide +kernel) (pa_cons (pv 0) (pa_cons (pe_glob (v := .ref cDuplicateName) (u := .ref cDuplicateName) (by rfl) C.gDuplicateName rfl) pa_nil))) (pa_cons (pe_callB (call_isP A.e hz hf List.mem_cons_self) (by rfl) T.isinstance_ (by decide +kernel) (pa_cons (pv 0) (pa_cons (pe_glob (v := .ref cUnknownName) (u := .ref cUnknownName) (by rfl) C.gUnknownName rfl) pa_nil))) (pa_cons (pe_callB (call_isP A.e hz hf List.mem_cons_self) (by rfl) T.isinstance_ (by decide +kernel) (pa_cons (pv 0) (pa_cons (pe_glob (v := .ref cBadLink) (u := .ref cBadLink) (by rfl) C.gBadLink rfl) pa_nil))) (pa_cons (pe_callB (call_isP A.e hz hf List.mem_cons_self) (by rfl) T.isinstance_ (by decide +kernel) (pa_cons (pv 0) (pa_cons (pe_glob (v := .ref cUnknownLink) (u := .ref cUnknownLink) (by rfl) C.gUnknownLink rfl) pa_nil))) (pa_cons (pe_callB (call_isP A.e hz hf List.mem_cons_self) (by rfl) T.isinstance_ (by decide +kernel) (pa_cons (pv 0) (pa_cons (pe_glob (v := .ref cBadNote) (u := .ref cBadNote) (by rfl) C.gBadNote rfl) pa_nil))) (pa_cons (pe_callB (call_isP A.e hz hf List.mem_cons_self) (by rfl) T.isinstance_ (by decide +kernel) (pa_cons (pv 0) (pa_cons (pe_glob (v := .ref cUnknownMoment) (u := .ref cUnknownMoment) (by rfl) C.gUnknownMoment rfl) pa_nil))) (pa_cons (pe_callB (call_isP A.e hz hf List.mem_cons_self) (by rfl) T.isinstance_ (by decide +kernel) (pa_cons (pv 0) (pa_cons (pe_glob (v := .ref cNoWorld) (u := .ref cNoWorld) (by rfl) C.gNoWorld rfl) pa_nil))) (pa_cons (pe_callB (call_isP A.e hz hf List.mem_cons_self) (by rfl) T.isinstance_ (by decide +kernel) (pa_cons (pv 0) (pa_cons (pe_glob (v := .ref cOutsideSpan) (u := .ref cOutsideSpan) (by rfl) C.gOutsideSpan rfl) pa_nil))) (pa_cons (pe_callB (call_isP A.e hz hf List.mem_cons_self) (by rfl) T.isinstance_ (by decide +kernel) (pa_cons (pv 0) (pa_cons (pe_glob (v := .ref cTooManyLiars) (u := .ref cTooManyLiars) (by rfl) C.gTooManyLiars rfl) pa_nil))) (pa_cons (pe_callB (call_isP A.e hz hf List.mem_cons_self) (by rfl) T.isinstance_ (by decide +kernel) (pa_cons (pv 0) (pa_cons (pe_glob (v := .ref cRootFollows) (u := .ref cRootFollows) (by rfl) C.gRootFollows rfl) pa_nil))) (pa_cons (pe_callB (call_isP A.e hz hf List.mem_cons_self) (by rfl) T.isinstance_ (by decide +kernel) (pa_cons (pv 0) (pa_cons (pe_glob (v := .ref cCondemned) (u := .ref cCondemned) (by rfl) C.gCondemned rfl) pa_nil))) (pa_cons (pe_callB (call_isP A.e hz hf List.mem_cons_self) (by rfl) T.isinstance_ (by decide +kernel) (pa_cons (pv 0) (pa_cons (pe_glob (v := .ref cBadDate) (u := .ref cBadDate) (by rfl) C.gBadDate rfl) pa_nil))) (pa_cons (pe_callB (call_isP A.e hz hf List.mem_cons_self) (by rfl) T.isinstance_ (by decide +kernel) (pa_cons (pv 0) (pa_cons (pe_glob (v := .ref cBadLeap) (u := .ref cBadLeap) (by rfl) C.gBadLeap rfl) pa_nil))) (pa_cons (pe_callB (call_isP A.e hz hf List.mem_cons_self) (by rfl) T.isinstance_ (by decide +kernel) (pa_cons (pv 0) (pa_cons (pe_glob (v := .ref cBadLabel) (u := .ref cBadLabel) (by rfl) C.gBadLabel rfl) pa_nil))) (pa_cons (pe_callB (call_isP A.e hz hf List.mem_cons_self) (by rfl) T.isinstance_ (by decide +kernel) (pa_cons (pv 0) (pa_cons (pe_glob (v := .ref cNoSuchSecond) (u := .ref cNoSuchSecond) (by rfl) C.gNoSuchSecond rfl) pa_nil))) (pa_cons (pe_callB (call_isP A.e hz hf List.mem_cons_self) (by rfl) T.isinstance_ (by decide +kernel) (pa_cons (pv 0) (pa_cons (pe_glob (v := .ref cBadCells) (u := .ref cBadCells) (by rfl) C.gBadCells rfl) pa_nil))) (pa_cons (pe_callB (call_isP A.e hz hf List.mem_cons_self) (by rfl) T.isinstance_ (by decide +kernel) (pa_cons (pv 0) (pa_cons (pe_glob (v := .ref cRefusedEntry) (u := .ref cRefusedEntry) (by rfl) C.gRefusedEntry rfl) pa_nil))) (pa_cons (pe_callB (call_isP A.e hz hf List.mem_cons_self) (by rfl) T.isinstance_ (by decide +kernel) (pa_cons (pv 0) (pa_cons (pe_glob (v := .ref cDuplicateTag) (u := .ref cDuplicateTag) (by rfl) C.gDuplicateTag rfl) pa_nil))) (pa_cons (pe_callB (call_isP A.e hz hf List.mem_cons_self) (by rfl) T.isinstance_ (by decide +kernel) (pa_cons (pv 0) (pa_cons (pe_glob (v := .ref cUnknownTag) (u := .ref cUnknownTag) (by rfl) C.gUnknownTag rfl) pa_nil))) (pa_cons (pe_callB (call_isP A.e hz hf List.mem_cons_self) (by rfl) T.isinstance_ (by decide +kernel) (pa_cons (pv 0) (pa_cons (pe_glob (v := .ref cBadLine) (u := .ref cBadLine) (by rfl) C.gBadLine rfl) pa_nil))) (pa_cons (pe_callB (call_isP A.e hz hf List.mem_cons_self) (by rfl) T.isinstance_ (by decide +kernel) (pa_cons (pv 0) (pa_cons (pe_glob (v := .ref cNothingToUndo) (u := .ref cNothingToUndo) (by rfl) C.gNothingToUndo rfl) pa_nil))) (pa_cons (pe_callB (call_isP A.e hz hf List.mem_cons_self) (by rfl) T.isinstance_ (by decide +kernel) (pa_cons (pv 0) (pa_cons (pe_glob (v := .ref cNothingToRedo) (u := .ref cNothingToRedo) (by rfl) C.gNothingToRedo rfl) pa_nil))) pa_nil))))))))))))))))))))))))))))))))
      (pss_one (ps_ret (pe_and (pe_callB (call_isP A.e hz hf List.mem_cons_self) (by rfl) T.isinstance_ (by decide +kernel) (pa_cons (pv 0) (pa_cons (pe_bltn (v := .ty "ValueError") (u := .type "ValueError") (by rfl) C.mV (by rfl) rfl) pa_nil))) (pe_one (pe_cmpR op_eq (pe_bm PySem.F.plainAttrs_list PySem.F.slot_list_count PySem.F.type_list_count (mt_countD (Nat.lt_of_le_of_lt (Nat.add_le_add (Nat.le_add_right _ (16 * k)) (show 65 ≤ 200 by decide)) hr.un)) (pv 1) (pa_cons pe_bl pa_nil)) pe_int (nomark _))))))), ?_⟩
  refine ⟨_, rfl, .ref cZeroDivisor, .ref cZeroDivisor, decide (0 = n), rfl, .own _, .inr ⟨d, _, rfl, hd⟩, A.kZeroDivisor, ?_⟩
  refine ⟨_, rfl, .ref cBadNumber, .ref cBadNumber, decide (1 = n), rfl, .own _, .inr ⟨d, _, rfl, hd⟩, A.kBadNumber, ?_⟩
  refine ⟨_, rfl, .ref cEmptySpan, .ref cEmptySpan, decide (2 = n), rfl, .own _, .inr ⟨d, _, rfl, hd⟩, A.kEmptySpan, ?_⟩
  refine ⟨_, rfl, .ref cBeforeStart, .ref cBeforeStart, decide (3 = n), rfl, .own _, .inr ⟨d, _, rfl, hd⟩, A.kBeforeStart, ?_⟩
  refine ⟨_, rfl, .ref cTurnsBack, .ref cTurnsBack, decide (4 = n), rfl, .own _, .inr ⟨d, _, rfl, hd⟩, A.kTurnsBack, ?_⟩
  refine ⟨_, rfl, .ref cBadRate, .ref cBadRate, decide (5 = n), rfl, .own _, .inr ⟨d, _, rfl, hd⟩, A.kBadRate, ?_⟩
  refine ⟨_, rfl, .ref cBadBound, .ref cBadBound, decide (6 = n), rfl, .own _, .inr ⟨d, _, rfl, hd⟩, A.kBadBound, ?_⟩
  refine ⟨_, rfl, .ref cBadName, .ref cBadName, decide (7 = n), rfl, .own _, .inr ⟨d, _, rfl, hd⟩, A.kBadName, ?_⟩
  refine ⟨_, rfl, .ref cDuplicateName, .ref cDuplicateName, decide (8 = n), rfl, .own _, .inr ⟨d, _, rfl, hd⟩, A.kDuplicateName, ?_⟩
  refine ⟨_, rfl, .ref cUnknownName, .ref cUnknownName, decide (9 = n), rfl, .own _, .inr ⟨d, _, rfl, hd⟩, A.kUnknownName, ?_⟩
  refine ⟨_, rfl, .ref cBadLink, .ref cBadLink, decide (10 = n), rfl, .own _, .inr ⟨d, _, rfl, hd⟩, A.kBadLink, ?_⟩
  refine ⟨_, rfl, .ref cUnknownLink, .ref cUnknownLink, decide (11 = n), rfl, .own _, .inr ⟨d, _, rfl, hd⟩, A.kUnknownLink, ?_⟩
  refine ⟨_, rfl, .ref cBadNote, .ref cBadNote, decide (12 = n), rfl, .own _, .inr ⟨d, _, rfl, hd⟩, A.kBadNote, ?_⟩
  refine ⟨_, rfl, .ref cUnknownMoment, .ref cUnknownMoment, decide (13 = n), rfl, .own _, .inr ⟨d, _, rfl, hd⟩, A.kUnknownMoment, ?_⟩
  refine ⟨_, rfl, .ref cNoWorld, .ref cNoWorld, decide (14 = n), rfl, .own _, .inr ⟨d, _, rfl, hd⟩, A.kNoWorld, ?_⟩
  refine ⟨_, rfl, .ref cOutsideSpan, .ref cOutsideSpan, decide (15 = n), rfl, .own _, .inr ⟨d, _, rfl, hd⟩, A.kOutsideSpan, ?_⟩
  refine ⟨_, rfl, .ref cTooManyLiars, .ref cTooManyLiars, decide (16 = n), rfl, .own _, .inr ⟨d, _, rfl, hd⟩, A.kTooManyLiars, ?_⟩
  refine ⟨_, rfl, .ref cRootFollows, .ref cRootFollows, decide (17 = n), rfl, .own _, .inr ⟨d, _, rfl, hd⟩, A.kRootFollows, ?_⟩
  refine ⟨_, rfl, .ref cCondemned, .ref cCondemned, decide (18 = n), rfl, .own _, .inr ⟨d, _, rfl, hd⟩, A.kCondemned, ?_⟩
  refine ⟨_, rfl, .ref cBadDate, .ref cBadDate, decide (19 = n), rfl, .own _, .inr ⟨d, _, rfl, hd⟩, A.kBadDate, ?_⟩
  refine ⟨_, rfl, .ref cBadLeap, .ref cBadLeap, decide (20 = n), rfl, .own _, .inr ⟨d, _, rfl, hd⟩, A.kBadLeap, ?_⟩
  refine ⟨_, rfl, .ref cBadLabel, .ref cBadLabel, decide (21 = n), rfl, .own _, .inr ⟨d, _, rfl, hd⟩, A.kBadLabel, ?_⟩
  refine ⟨_, rfl, .ref cNoSuchSecond, .ref cNoSuchSecond, decide (22 = n), rfl, .own _, .inr ⟨d, _, rfl, hd⟩, A.kNoSuchSecond, ?_⟩
  refine ⟨_, rfl, .ref cBadCells, .ref cBadCells, decide (23 = n), rfl, .own _, .inr ⟨d, _, rfl, hd⟩, A.kBadCells, ?_⟩
  refine ⟨_, rfl, .ref cRefusedEntry, .ref cRefusedEntry, decide (24 = n), rfl, .own _, .inr ⟨d, _, rfl, hd⟩, A.kRefusedEntry, ?_⟩
  refine ⟨_, rfl, .ref cDuplicateTag, .ref cDuplicateTag, decide (25 = n), rfl, .own _, .inr ⟨d, _, rfl, hd⟩, A.kDuplicateTag, ?_⟩
  refine ⟨_, rfl, .ref cUnknownTag, .ref cUnknownTag, decide (26 = n), rfl, .own _, .inr ⟨d, _, rfl, hd⟩, A.kUnknownTag, ?_⟩
  refine ⟨_, rfl, .ref cBadLine, .ref cBadLine, decide (27 = n), rfl, .own _, .inr ⟨d, _, rfl, hd⟩, A.kBadLine, ?_⟩
  refine ⟨_, rfl, .ref cNothingToUndo, .ref cNothingToUndo, decide (28 = n), rfl, .own _, .inr ⟨d, _, rfl, hd⟩, A.kNothingToUndo, ?_⟩
  refine ⟨_, rfl, .ref cNothingToRedo, .ref cNothingToRedo, decide (29 = n), rfl, .own _, .inr ⟨d, _, rfl, hd⟩, A.kNothingToRedo, ?_⟩
  refine ⟨by show 30 ≤ sizeLine; decide, fun D hD => ?_⟩
  have c0 := same_new hD (.lst ([.bl (decide (0 = n)), .bl (decide (1 = n)), .bl (decide (2 = n)), .bl (decide (3 = n)), .bl (decide (4 = n)), .bl (decide (5 = n)), .bl (decide (6 = n)), .bl (decide (7 = n)), .bl (decide (8 = n)), .bl (decide (9 = n)), .bl (decide (10 = n)), .bl (decide (11 = n)), .bl (decide (12 = n)), .bl (decide (13 = n)), .bl (decide (14 = n)), .bl (decide (15 = n)), .bl (decide (16 = n)), .bl (decide (17 = n)), .bl (decide (18 = n)), .bl (decide (19 = n)), .bl (decide (20 = n)), .bl (decide (21 = n)), .bl (decide (22 = n)), .bl (decide (23 = n)), .bl (decide (24 = n)), .bl (decide (25 = n)), .bl (decide (26 = n)), .bl (decide (27 = n)), .bl (decide (28 = n)), .bl (decide (29 = n))] : List V))
  have hD2 : (upd H D (.lst ([.bl (decide (0 = n)), .bl (decide (1 = n)), .bl (decide (2 = n)), .bl (decide (3 = n)), .bl (decide (4 = n)), .bl (decide (5 = n)), .bl (decide (6 = n)), .bl (decide (7 = n)), .bl (decide (8 = n)), .bl (decide (9 = n)), .bl (decide (10 = n)), .bl (decide (11 = n)), .bl (decide (12 = n)), .bl (decide (13 = n)), .bl (decide (14 = n)), .bl (decide (15 = n)), .bl (decide (16 = n)), .bl (decide (17 = n)), .bl (decide (18 = n)), .bl (decide (19 = n)), .bl (decide (20 = n)), .bl (decide (21 = n)), .bl (decide (22 = n)), .bl (decide (23 = n)), .bl (decide (24 = n)), .bl (decide (25 = n)), .bl (decide (26 = n)), .bl (decide (27 = n)), .bl (decide (28 = n)), .bl (decide (29 = n))] : List V))) D = some (.lst [.bl (decide (0 = n)), .bl (decide (1 = n)), .bl (decide (2 = n)), .bl (decide (3 = n)), .bl (decide (4 = n)), .bl (decide (5 = n)), .bl (decide (6 = n)), .bl (decide (7 = n)), .bl (decide (8 = n)), .bl (decide (9 = n)), .bl (decide (10 = n)), .bl (decide (11 = n)), .bl (decide (12 = n)), .bl (decide (13 = n)), .bl (decide (14 = n)), .bl (decide (15 = n)), .bl (decide (16 = n)), .bl (decide (17 = n)), .bl (decide (18 = n)), .bl (decide (19 = n)), .bl (decide (20 = n)), .bl (decide (21 = n)), .bl (decide (22 = n)), .bl (decide (23 = n)), .bl (decide (24 = n)), .bl (decide (25 = n)), .bl (decide (26 = n)), .bl (decide (27 = n)), .bl (decide (28 = n)), .bl (decide (29 = n))]) := upd_same
  have hd2 := c0 _ _ hd
  generalize upd H D (.lst ([.bl (decide (0 = n)), .bl (decide (1 = n)), .bl (decide (2 = n)), .bl (decide (3 = n)), .bl (decide (4 = n)), .bl (decide (5 = n)), .bl (decide (6 = n)), .bl (decide (7 = n)), .bl (decide (8 = n)), .bl (decide (9 = n)), .bl (decide (10 = n)), .bl (decide (11 = n)), .bl (decide (12 = n)), .bl (decide (13 = n)), .bl (decide (14 = n)), .bl (decide (15 = n)), .bl (decide (16 = n)), .bl (decide (17 = n)), .bl (decide (18 = n)), .bl (decide (19 = n)), .bl (decide (20 = n)), .bl (decide (21 = n)), .bl (decide (22 = n)), .bl (decide (23 = n)), .bl (decide (24 = n)), .bl (decide (25 = n)), .bl (decide (26 = n)), .bl (decide (27 = n)), .bl (decide (28 = n)), .bl (decide (29 = n))] : List V)) = H1 at c0 hD2 hd2 ⊢
  refine ⟨_, rfl, .ty "ValueError", .type "ValueError", true, rfl, .ty _, .inr ⟨d, _, rfl, hd2⟩, A.kV, true, rfl, ifT rfl ?_⟩
  have key := z H1 c0
  clear z A hz hf hd c0
  have hx : n = 0 ∨ n = 1 ∨ n = 2 ∨ n = 3 ∨ n = 4 ∨ n = 5 ∨ n = 6 ∨ n = 7 ∨ n = 8 ∨ n = 9 ∨ n = 10 ∨ n = 11 ∨ n = 12 ∨ n = 13 ∨ n = 14 ∨ n = 15 ∨ n = 16 ∨ n = 17 ∨ n = 18 ∨ n = 19 ∨ n = 20 ∨ n = 21 ∨ n = 22 ∨ n = 23 ∨ n = 24 ∨ n = 25 ∨ n = 26 ∨ n = 27 ∨ n = 28 ∨ n = 29 := by omega
  rcases hx with rfl | rfl | rfl | rfl | rfl | rfl | rfl | rfl | rfl | rfl | rfl | rfl | rfl | rfl | rfl | rfl | rfl | rfl | rfl | rfl | rfl | rfl | rfl | rfl | rfl | rfl | rfl | rfl | rfl | rfl <;>
  · refine ⟨_, rfl, .inl ⟨rfl, _, SqL.of hD2⟩, D, .bl true, PyData.bool true, [PyData.bool _, PyData.bool _, PyData.bool _, PyData.bool _, PyData.bool _, PyData.bool _, PyData.bool _, PyData.bool _, PyData.bool _, PyData.bool _, PyData.bool _, PyData.bool _, PyData.bool _, PyData.bool _, PyData.bool _, PyData.bool _, PyData.bool _, PyData.bool _, PyData.bool _, PyData.bool _, PyData.bool _, PyData.bool _, PyData.bool _, PyData.bool _, PyData.bool _, PyData.bool _, PyData.bool _, PyData.bool _, PyData.bool _, PyData.bool _], rfl, rfl, .lst (SqL.of hD2) (.cons (.bl _) (.cons (.bl _) (.cons (.bl _) (.cons (.bl _) (.cons (.bl _) (.cons (.bl _) (.cons (.bl _) (.cons (.bl _) (.cons (.bl _) (.cons (.bl _) (.cons (.bl _) (.cons (.bl _) (.cons (.bl _) (.cons (.bl _) (.cons (.bl _) (.cons (.bl _) (.cons (.bl _) (.cons (.bl _) (.cons (.bl _) (.cons (.bl _) (.cons (.bl _) (.cons (.bl _) (.cons (.bl _) (.cons (.bl _) (.cons (.bl _) (.cons (.bl _) (.cons (.bl _) (.cons (.bl _) (.cons (.bl _) (.cons (.bl _) .nil)))))))))))))))))))))))))))))), .bl _, by decide +kernel, by decide +kernel, ?_⟩
    exact ⟨rfl, key⟩
end Vk

set_option maxHeartbeats 4000000
namespace L2
open PySem PySem.Spec PyProof.Rows
section
variable {X : Cx}
/-- a field of the error that the suite holds, by its name -/
def tByF (f : Str) (C : Addr) (a : Addr) (cls : Value) (d : Option Addr) (te : TE) : TE := fun σ H Q => te σ H fun x H1 => x = .ref a ∧ cls = .ref C ∧ ∃ (dd : Addr) (fs : List (Str × V)) (v : V), d = some dd ∧ H1 dd = some (.xd fs) ∧ List.lookup f fs = some v ∧ Q v H1
theorem pe_byF {C : Addr} {f : Str} {a : Addr} {oe : Obj} {cls : Value} {d : Option Addr} {pn : List (Addr × Obj)} {e : Expr} {te : TE} {pos : Pos} (g1 : PySem.W.findIn X.K (.ref C) "__getattribute__" = some (some (.builtin "BaseException.__getattribute__"))) (g2 : PySem.W.findIn X.K (.ref C) "__getattr__" = some none)
    (g3 : PySem.W.subIn X.K (.ref C) (.type "BaseException") = some true) (g4 : PySem.W.hasDictIn X.K C = true) (g5 : PySem.W.findIn X.K (.ref C) f = some none) (hz : Zc cls d oe) (hf : ∃ vs, oe.data = .fields vs) (he : PE (X.suite a ((a, oe) :: pn)) e te)
    (hb : attributeBase e f X.env (eval e X.env) = eval e X.env := by rfl) :
    PE (X.suite a ((a, oe) :: pn)) (.Attribute e f pos) (tByF f C a cls d te) := by
  refine ⟨fun pins s σ H Q I h => ?_⟩
  refine attr_of hb (thn (he.run pins s σ H _ I h) fun u s1 hh => ?_)
  obtain ⟨x, H1, I1, rx, ex, ec, dd, fs, v, ed, ea, l, q⟩ := hh
  subst ex
  obtain rfl : u = Value.ref a := rx
  subst ec
  subst ed
  obtain ⟨ha, _⟩ := I1.pin (a, oe) (List.mem_append_left _ List.mem_cons_self)
  obtain ⟨vs, hd⟩ := hf
  have hx : ObjOk X.prog X.w H1 s1.heap dd (.xd fs) := I1.hok dd _ ea
  obtain ⟨mA, hns, hr⟩ := hx
  obtain ⟨od, ho, hl⟩ := lookIn_ns hns
  obtain ⟨u, hu, ru⟩ := RelO.some_of (v := v) (o := mA f) (by rw [← l]; exact hr f)
  have J : PySem.W.InstAt s1.heap a oe C (some od) := ⟨ha, hz.1, by unfold PySem.W.notCls; rw [hd] <;> rfl, by rw [hz.2]; exact ho⟩
  exact HandSPX.exc_get I1.kIn J g1 g2 g3 (PySem.W.findObj_own g4 g5 rfl (by rw [hl, hu])) (handed_of ru) ⟨v, H1, I1.tok _, ru, q⟩
end
end L2
namespace Vk
open PySem L2 Vm Vl
variable {cZeroDivisor cBadNumber cEmptySpan cBeforeStart cTurnsBack cBadRate cBadBound cBadName cDuplicateName cUnknownName cBadLink cUnknownLink cBadNote cUnknownMoment cNoWorld cOutsideSpan cTooManyLiars cRootFollows cCondemned cBadDate cBadLeap cBadLabel cNoSuchSecond cBadCells cRefusedEntry cDuplicateTag cUnknownTag cBadLine cNothingToUndo cNothingToRedo CV fB fE : Addr} {P : Program} {w : World} {K : PySem.W.Frag} {mg : Str → Option Value} {base : Heap} {k : Nat} {f f1 f2 f3 f4 f5 f6 f7 f8 f9 : Addr} {fd fd1 fd2 fd3 fd4 fd5 fd6 fd7 fd8 fd9 : FuncData}
theorem pss_none {X : Cx} {st : List Stmt} : PSs X st (fun _ _ _ => False) := ⟨fun _ _ _ _ _ _ w => w.elim⟩
theorem pss_or {X : Cx} {st : List Stmt} {t u : TS} (h : PSs X st t) (g : PSs X st u) : PSs X st (fun D σ H => t D σ H ∨ u D σ H) := ⟨fun pins s σ H D I w => w.elim (h.run pins s σ H D I) (g.run pins s σ H D I)⟩
def spAl (a : Addr) (d : Option Addr) : Sp := fun vs H Q _ => ∃ (dd : Addr) (fs : List (Str × V)), d = some dd ∧ vs = [.ref a] ∧ H dd = some (.xd fs) ∧ ∀ H', Same H H' → Q (.bl true) H'
theorem spAl_imp {a : Addr} {oe : Obj} {d : Option Addr} {n : Nat} {C : Addr} (hn : n < 30) (A : Ak K cZeroDivisor cBadNumber cEmptySpan cBeforeStart cTurnsBack cBadRate cBadBound cBadName cDuplicateName cUnknownName cBadLink cUnknownLink cBadNote cUnknownMoment cNoWorld cOutsideSpan cTooManyLiars cRootFollows cCondemned cBadDate cBadLeap cBadLabel cNoSuchSecond cBadCells cRefusedEntry cDuplicateTag cUnknownTag cBadLine cNothingToUndo cNothingToRedo n C) (hz : Zc (.ref C) d oe) (hf : ∃ fv, oe.data = .fields fv) : ∀ vs H Q E, spAl a d vs H Q E → spAlone K cZeroDivisor cBadNumber cEmptySpan cBeforeStart cTurnsBack cBadRate cBadBound cBadName cDuplicateName cUnknownName cBadLink cUnknownLink cBadNote cUnknownMoment cNoWorld cOutsideSpan cTooManyLiars cRootFollows cCondemned cBadDate cBadLeap cBadLabel cNoSuchSecond cBadCells cRefusedEntry cDuplicateTag cUnknownTag cBadLine cNothingToUndo cNothingToRedo (a, oe) vs H Q E := by
  rintro vs H Q E ⟨dd, fs, rfl, rfl, h, q⟩
  exact ⟨n, C, dd, fs, hn, A, rfl, hz, hf, h, q⟩
/-- the class asked, and alone -/
def tIs (K : PySem.W.Frag) (i : Nat) (C D : Addr) (a : Addr) (d : Option Addr) : TT := tAnd (tB (tCB (rIsG K C a d) (tCons (tVar i) (tCons (tC (.ref D)) tNil)))) (tB (tCall (spAl a d) [] E0 (tCons (tVar i) tNil)))
def tFa : TS := fun _ _ _ => False
def tSuW (K : PySem.W.Frag) (CB CE : Addr) : Addr → Value → Option Addr → TS := fun a cls d D σ H =>
  (cls = .ref CB ∧ tSeq (tIfS (tIs K 3 CB CB a d) (tRet (tTup (tCons (tC (.str "BeforeStart")) (tCons (tByF "value" CB a (.ref CB) d (tVar 3)) tNil)))) tNext) tFa D σ H) ∨
  (cls = .ref CE ∧ tSeq (tIfS (tIs K 3 CE CB a d) tFa tNext) (tSeq (tIfS (tIs K 3 CE CE a d) (tRet (tTup (tCons (tC (.str "EmptySpan")) (tCons (tByF "low" CE a (.ref CE) d (tVar 3)) (tCons (tByF "high" CE a (.ref CE) d (tVar 3)) tNil))))) tNext) tFa) D σ H)
abbrev s__law_told : Stmt := top 74
abbrev N__law_told : List Str := ["_law_course_here", "_law_first", "_law_last", "_law_e"]
theorem sc__law_told : FnScope N__law_told ["_law_course_here", "_law_first", "_law_last"] (defScope s__law_told) := ⟨rfl, rfl, rfl, by decide +kernel, rfl, by decide +kernel, by decide +kernel⟩
abbrev ps__law_told : List Str := ["_law_course_here", "_law_first", "_law_last"]
/-- what the greatest distance tells -/
def Rw (K : PySem.W.Frag) (H : Hp) (y u : V) (c : List Pc) (s e : Rat) (tt : Addr) : Prop :=
  (pcAt c s = none ∧ SqT K H tt [.str "BeforeStart", y]) ∨ ((∃ p, pcAt c s = some p) ∧ e < s ∧ SqT K H tt [.str "EmptySpan", y, u]) ∨
  ((∃ p, pcAt c s = some p) ∧ ¬ e < s ∧ ∃ (w : Rat) (v : V), SqT K H tt [.str "is", v] ∧ Rq K H v w ∧ Sz 1800 w ∧ Worst c s e w)
def spToldW (K : PySem.W.Frag) : Sp := fun vs H Q _ => ∃ (a : Addr) (y u : V) (c : List Pc) (s e : Rat), vs = [.ref a, y, u] ∧ Cq K H a c ∧ Rq K H y s ∧ Rq K H u e ∧ Cz 256 940 45 c ∧ Sz 256 s ∧ Sz 256 e ∧ Cok c ∧ 1 ≤ c.length ∧ c.length ≤ 900 ∧
  ∀ tt H', Same H H' → Rw K H' y u c s e tt → Q (.ref tt) H'
theorem ok_told (T : Bn mg) (gV : mg "VerdictError" = some (.ref CV)) (gB : mg "BeforeStart" = some (.ref cBeforeStart)) (gE : mg "EmptySpan" = some (.ref cEmptySpan)) (AB : Ak K cZeroDivisor cBadNumber cEmptySpan cBeforeStart cTurnsBack cBadRate cBadBound cBadName cDuplicateName cUnknownName cBadLink cUnknownLink cBadNote cUnknownMoment cNoWorld cOutsideSpan cTooManyLiars cRootFollows cCondemned cBadDate cBadLeap cBadLabel cNoSuchSecond cBadCells cRefusedEntry cDuplicateTag cUnknownTag cBadLine cNothingToUndo cNothingToRedo 3 cBeforeStart) (AE : Ak K cZeroDivisor cBadNumber cEmptySpan cBeforeStart cTurnsBack cBadRate cBadBound cBadName cDuplicateName cUnknownName cBadLink cUnknownLink cBadNote cUnknownMoment cNoWorld cOutsideSpan cTooManyLiars cRootFollows cCondemned cBadDate cBadLeap cBadLabel cNoSuchSecond cBadCells cRefusedEntry cDuplicateTag cUnknownTag cBadLine cNothingToUndo cNothingToRedo 2 cEmptySpan)
    (xB : PySem.W.exmOne K (.ref cBeforeStart) (.ref CV) = some true) (xE : PySem.W.exmOne K (.ref cEmptySpan) (.ref CV) = some true) (TB : PySem.ValX.ValTxt K mg "BeforeStart" cBeforeStart fB) (TE : PySem.Val2.Txt K mg "EmptySpan" cEmptySpan fE) (F : Fn K mg "_law_told" s__law_told ps__law_told f fd)
    (dworst : DefY P w K mg base k "worst_error" ["course", "start", "end"] (spWorst K cBeforeStart cEmptySpan) f1 fd1) (d_law_alone : DefP P w K mg base k "_law_alone" ["_law_e"] (spAlone K cZeroDivisor cBadNumber cEmptySpan cBeforeStart cTurnsBack cBadRate cBadBound cBadName cDuplicateName cUnknownName cBadLink cUnknownLink cBadNote cUnknownMoment cNoWorld cOutsideSpan cTooManyLiars cRootFollows cCondemned cBadDate cBadLeap cBadLabel cNoSuchSecond cBadCells cRefusedEntry cDuplicateTag cUnknownTag cBadLine cNothingToUndo cNothingToRedo) f3 fd3) :
    Def P w K mg base (k + 1) "_law_told" ps__law_told (spToldW K) f fd := by
  refine ⟨F.F.ok sc__law_told (fun vs H Q E h => ?_) (fun cdv A outer s H vs Q E hr h => ?_), F.m, F.F.kp, F.b⟩
  · obtain ⟨_, _, _, _, _, _, rfl, _⟩ := h
    rfl
  obtain ⟨ac, y, u, c, s', e', rfl, hC, hy, hu, cz, zs, ze, ok, l1, l2, z⟩ := h
  refine ⟨_, (pss_one (L2N.ps_try_ases (W0 := fun _ _ _ _ => False) rfl rfl sc__law_told.nd takes0Y
          (fun W pn xe tk _ => pss_one (ps_ret (pe_tup (pa_cons pe_str (pa_cons (pcallY dworst hr tk (pa_cons (pv 0) (pa_cons (pv 1) (pa_cons (pv 2) pa_nil)))) pa_nil)))))
          (L2N.AsOk.cons (i := 3) (ts := tSuW K cBeforeStart cEmptySpan) ⟨rfl, by decide, Or.inl gV⟩ rfl rfl (fun a oe cls dd pn hz hf => pss_or
              (pss_if (p := cls = .ref cBeforeStart) fun e => by
                subst e
                exact pss_cons (ps_if (PW.pt (pw_and (pt_val (pe_callB (call_isG AB.e hz.zc hf) (by rfl) T.isinstance_ (by decide +kernel) (pa_cons (pv 3) (pa_cons (pe_glob (v := .ref cBeforeStart) (u := .ref cBeforeStart) (by rfl) gB rfl) pa_nil))))
                    (pw_and1 (pt_val (pe_callP2 d_law_alone ⟨hr.dp, hr.un⟩ ⟨rfl, hf.elim fun vs ev => ⟨vs, ev, hz.2.2 vs ev⟩⟩ List.mem_cons_self (spAl_imp (by decide) AB hz.zc hf) (pa_cons (pv 3) pa_nil))))))
                  (pss_one (ps_ret (pe_tup (pa_cons pe_str (pa_cons (pe_byF TB.ga TB.gg TB.exC TB.hdC TB.noN hz.zc hf (pv 3)) pa_nil)))))
                  pss_nil)
                  pss_none)
              (pss_if (p := cls = .ref cEmptySpan) fun e => by
                subst e
                exact pss_cons (ps_if (PW.pt (pw_and (pt_val (pe_callB (call_isG AE.e hz.zc hf) (by rfl) T.isinstance_ (by decide +kernel) (pa_cons (pv 3) (pa_cons (pe_glob (v := .ref cBeforeStart) (u := .ref cBeforeStart) (by rfl) gB rfl) pa_nil))))
                    (pw_and1 (pt_val (pe_callP2 d_law_alone ⟨hr.dp, hr.un⟩ ⟨rfl, hf.elim fun vs ev => ⟨vs, ev, hz.2.2 vs ev⟩⟩ List.mem_cons_self (spAl_imp (by decide) AE hz.zc hf) (pa_cons (pv 3) pa_nil))))))
                  pss_none
                  pss_nil)
                  (pss_cons (ps_if (PW.pt (pw_and (pt_val (pe_callB (call_isG AE.e hz.zc hf) (by rfl) T.isinstance_ (by decide +kernel) (pa_cons (pv 3) (pa_cons (pe_glob (v := .ref cEmptySpan) (u := .ref cEmptySpan) (by rfl) gE rfl) pa_nil))))
                    (pw_and1 (pt_val (pe_callP2 d_law_alone ⟨hr.dp, hr.un⟩ ⟨rfl, hf.elim fun vs ev => ⟨vs, ev, hz.2.2 vs ev⟩⟩ List.mem_cons_self (spAl_imp (by decide) AE hz.zc hf) (pa_cons (pv 3) pa_nil))))))
                  (pss_one (ps_ret (pe_tup (pa_cons pe_str (pa_cons (pe_byF TE.ga TE.gg TE.exC TE.hdC TE.noL hz.zc hf (pv 3)) (pa_cons (pe_byF TE.ga TE.gg TE.exC TE.hdC TE.noH hz.zc hf (pv 3)) pa_nil))))))
                  pss_nil)
                  pss_none)))
          L2N.AsOk.nil))), ?_⟩
  have faultB : (∀ t H', Same H H' → SqT K H' t [.str "BeforeStart", y] → Q (.ref t) H') → ∀ dd, H dd = none → wAses K (fun _ _ _ _ => False) { nx := fun _ H' => Q .non H', rt := Q } [(.ref CV, 3, tSuW K cBeforeStart cEmptySpan)] (.ref cBeforeStart) (some dd) [some (.ref ac), some y, some u, none] (upd H dd (.xd [(("value" : Str), y)])) := by
    intro hq dd hdd
    have cd := same_new hdd (.xd [(("value" : Str), y)])
    have hdat : (upd H dd (.xd [(("value" : Str), y)])) dd = some (.xd [(("value" : Str), y)]) := upd_same
    generalize upd H dd (.xd [(("value" : Str), y)]) = H2 at cd hdat ⊢
    refine ⟨true, xB, fun _ e he => Or.inl ⟨rfl, ?_⟩, nofun⟩
    refine ⟨_, rfl, .ref cBeforeStart, .ref cBeforeStart, true, rfl, .own _, .inr ⟨dd, _, rfl, hdat⟩, AB.kBeforeStart, _, rfl, ifT rfl ?_⟩
    refine ⟨_, rfl, dd, _, rfl, rfl, hdat, fun H3 s3 => ⟨_, rfl, ifT rfl ?_⟩⟩
    refine ⟨_, rfl, rfl, rfl, dd, _, y, rfl, s3 _ _ hdat, rfl, sz2, fun t ht => ?_⟩
    have st := same_new ht (.tup [.str "BeforeStart", y])
    exact hq t _ (cd.trans (s3.trans st)) (SqT.of upd_same)
  have faultE : (∀ t H', Same H H' → SqT K H' t [.str "EmptySpan", y, u] → Q (.ref t) H') → ∀ dd, H dd = none → wAses K (fun _ _ _ _ => False) { nx := fun _ H' => Q .non H', rt := Q } [(.ref CV, 3, tSuW K cBeforeStart cEmptySpan)] (.ref cEmptySpan) (some dd) [some (.ref ac), some y, some u, none] (upd H dd (xd2 y u)) := by
    intro hq dd hdd
    have cd := same_new hdd (xd2 y u)
    have hdat : (upd H dd (xd2 y u)) dd = some (xd2 y u) := upd_same
    generalize upd H dd (xd2 y u) = H2 at cd hdat ⊢
    refine ⟨true, xE, fun _ e he => Or.inr ⟨rfl, ?_⟩, nofun⟩
    refine ⟨_, rfl, .ref cBeforeStart, .ref cBeforeStart, false, rfl, .own _, .inr ⟨dd, _, rfl, hdat⟩, AE.kBeforeStart, _, rfl, ifF rfl (ifF rfl ?_)⟩
    refine ⟨_, rfl, .ref cEmptySpan, .ref cEmptySpan, true, rfl, .own _, .inr ⟨dd, _, rfl, hdat⟩, AE.kEmptySpan, _, rfl, ifT rfl ?_⟩
    refine ⟨_, rfl, dd, _, rfl, rfl, hdat, fun H3 s3 => ⟨_, rfl, ifT rfl ?_⟩⟩
    refine ⟨_, rfl, rfl, rfl, dd, _, y, rfl, s3 _ _ hdat, rfl, _, rfl, rfl, rfl, dd, _, u, rfl, s3 _ _ hdat, rfl, sz3, fun t ht => ?_⟩
    have st := same_new ht (.tup [.str "EmptySpan", y, u])
    exact hq t _ (cd.trans (s3.trans st)) (SqT.of upd_same)
  (walk_at "vk_vc")
  · intro hn d hd
    exact faultB (fun t H' e ht => z t H' e (.inl ⟨hn, ht⟩)) d hd
  · intro hp hlt d hd
    exact faultE (fun t H' e ht => z t H' e (.inr (.inl ⟨hp, hlt, ht⟩))) d hd
  · intro hp hge w v H' hw e hv zw
    refine ⟨sz2, fun tt ht => ?_⟩
    have st := same_new ht (.tup [.str "is", v])
    exact z tt _ (e.trans st) (.inr (.inr ⟨hp, hge, w, v, SqT.of upd_same, hv.same st, zw, hw⟩))
end Vk

set_option maxHeartbeats 4000000
namespace Vk
open PySem L2 Vm Vl
variable {P : Program} {w : World} {K : PySem.W.Frag} {mg : Str → Option Value} {base : Heap} {k : Nat} {f f1 f2 f3 f4 f5 f6 f7 f8 f9 : Addr} {fd fd1 fd2 fd3 fd4 fd5 fd6 fd7 fd8 fd9 : FuncData}
/-- a comprehension over a range: what each number gives -/
theorem lcAllR {β : Type} {R' : Hp → V → β → Prop} (L : Lasts R') (qs : List β) {lo : Int} {n : Nat} {H : Hp} {g : TG} {tt : TT} {te : TE} {vs : List Nat} {σ : L2.St} {Qd : Hp → Prop} {D : Addr} (hD : H D = none) (hn : qs.length = n) (hl : n ≤ 1000)
    (hs : ∀ (i : Nat) q G, qs[i]? = some q → Same H G → ∀ (Y : V → Hp → Prop) (N : Hp → Prop), (∀ y G', Same G G' → R' G' y q → Y y G') →
      g (.int (lo + i)) (wipe σ vs) G fun σ2 H2 => wipe σ2 vs = wipe σ vs ∧ tt σ2 H2 fun b H3 => if b = true then te σ2 H3 Y else N H3)
    (hd : ∀ us H', Same H H' → H' D = some (.lst us) → All2 (R' H') us qs → Qd H') :
    ∃ W : Nat → Nat → Hp → Prop, (∃ m, W 0 m (upd H D (.lst []))) ∧ ∀ i m H, W i m H →
      ((Itr lo n).stop i H ∧ Qd H) ∨ ((Itr lo n).go i H ∧ ∃ Nx : Hp → Prop, (∀ H', Nx H' → ∃ m', m' < m ∧ W (i + 1) m' H') ∧ ∀ x H', (Itr lo n).yld i H x H' → g x (wipe σ vs) H' fun σ2 H2 => wipe σ2 vs = wipe σ vs ∧ tt σ2 H2 fun b H3 =>
        if b = true then te σ2 H3 fun y H4 => ∃ acc, H4 D = some (.lst acc) ∧ acc.length < sizeLine ∧ Nx (upd H4 D (.lst (acc ++ [y]))) else Nx H3) := by
  refine lc_range (fun i G => ∃ acc, G D = some (.lst acc) ∧ Same H G ∧ All2 (R' G) acc (qs.take i)) ⟨[], upd_same, same_new hD _, by rw [List.take_zero]; exact All2.nil⟩ ?_ ?_
  · rintro i G hi ⟨acc, h1, s1, h2⟩
    have ec : qs[i]? = some qs[i] := List.getElem?_eq_getElem (by omega)
    have et : qs.take (i + 1) = qs.take i ++ [qs[i]] := by rw [List.take_add_one, ec]; rfl
    refine hs i qs[i] G ec s1 _ _ (fun y G' e1 r => ?_)
    have hD2 := e1 _ _ h1
    have fr : Fr D G' (upd G' D (.lst (acc ++ [y]))) := Fr.upd _
    refine ⟨acc, hD2, ?_, acc ++ [y], upd_same, same_upd (s1.trans e1) hD _, ?_⟩
    · have q := h2.1
      rw [List.length_take] at q
      have : sizeLine = 16777216 := sizeLine_eq
      omega
    · rw [et]
      exact (h2.imp fun _ _ q => L fr ⟨_, hD2⟩ (L (Fr.of (s := D) e1) ⟨_, h1⟩ q)).snoc (L fr ⟨_, hD2⟩ r)
  · rintro G ⟨acc, h1, s1, h2⟩
    rw [List.take_of_length_le (by omega)] at h2
    exact hd acc G s1 h1 h2
theorem lastsR : Lasts (Rq K) := fun e hs h => h.fr e hs
theorem sz_dw {c : List Pc} {s e a b : Rat} (cz : Cz 256 940 45 c) (zs : Sz 256 s) (ze : Sz 256 e) (za : Sz 1500 a) (zb : Sz 1500 b) : ∀ x ∈ dw c s e a b, Sz 256 x.1 ∧ Sz 1500 x.2 := fun x hx => by
  rcases List.mem_cons.mp hx with rfl | hx
  · exact ⟨zs, za⟩
  · rcases List.mem_cons.mp hx with rfl | hx
    · exact ⟨ze, zb⟩
    · obtain ⟨i, p, q, hi, hp, hq, g1, g2, hx⟩ := dl_mem.mp hx
      obtain ⟨p1, p2, p3⟩ := cz p (List.mem_of_getElem? hp)
      obtain ⟨q1, q2, q3⟩ := cz q (List.mem_of_getElem? hq)
      rcases hx with rfl | rfl
      · exact ⟨q1, q2.mono (by decide)⟩
      · exact ⟨q1, (p2.add (p3.mul (q1.sub p1))).mono (by decide)⟩
theorem sz_now {c : List Pc} {x a : Rat} (cz : Cz 256 940 45 c) {m : Nat} (zx : Sz m x) (h : nowf c x = some a) : Sz (940 + (45 + (m + 256 + 1)) + 1) a := by
  unfold nowf at h
  obtain ⟨p, hp, rfl⟩ := Option.map_eq_some_iff.mp h
  have hm := (List.mem_filter.mp (List.mem_of_getLast? hp)).1
  obtain ⟨z1, z2, z3⟩ := cz p hm
  exact z2.add (z3.mul (zx.sub z1))
theorem dl_len {c : List Pc} {s e : Rat} : ∀ n, (dl c s e n).length ≤ 2 * n
  | 0 => Nat.le_refl _
  | n + 1 => by
    have ih := dl_len (c := c) (s := s) (e := e) n
    unfold dl
    rw [List.length_append]
    split
    · split <;> simp <;> omega
    · simp; omega
theorem dl_succ {c : List Pc} {s e : Rat} {n : Nat} {p q : Pc} (hp : c[n]? = some p) (hq : c[n + 1]? = some q) : dl c s e (n + 1) = dl c s e n ++ if s < q.s ∧ ¬ e < q.s then [(q.s, q.v), (q.s, vl q.s p)] else [] := by
  show dl c s e n ++ _ = _
  rw [hp, hq]
abbrev s__law_distances : Stmt := top 73
abbrev N__law_distances : List Str := ["_law_course_here", "_law_first", "_law_last", "_law_times_here", "_law_shown", "_law_k", "_law_t", "_law_before", "_law_coming", "_law_ways", "_law_way"]
theorem sc__law_distances : FnScope N__law_distances ["_law_course_here", "_law_first", "_law_last"] (defScope s__law_distances) := ⟨rfl, rfl, rfl, by decide +kernel, rfl, by decide +kernel, by decide +kernel⟩
abbrev ps__law_distances : List Str := ["_law_course_here", "_law_first", "_law_last"]
def spDist (K : PySem.W.Frag) : Sp := fun vs H Q _ => ∃ (ac : Addr) (y u : V) (c : List Pc) (s e a b : Rat), vs = [.ref ac, y, u] ∧ Cq K H ac c ∧ Rq K H y s ∧ Rq K H u e ∧ Cz 256 940 45 c ∧ Sz 256 s ∧ Sz 256 e ∧ nowf c s = some a ∧ nowf c e = some b ∧ 1 ≤ c.length ∧ c.length ≤ 60 ∧
  ∀ D us H', Same H H' → H' D = some (.lst us) → All2 (Rq K H') us ((dw c s e a b).map dv) → Q (.ref D) H'
theorem ok_dist (T : Bn mg) (F : Fn K mg "_law_distances" s__law_distances ps__law_distances f fd) (d_law_now : Def P w K mg base k "_law_now" ["_law_course_here", "_law_t"] (spNow K) f1 fd1) (d_law_below : Def P w K mg base k "_law_below" ["_law_a", "_law_b"] (spTest2 K fun p q => .bl (decide (p < q))) f2 fd2)
    (d_law_plus : Def P w K mg base k "_law_plus" ["_law_a", "_law_b"] (spOp2 K (· + ·)) f3 fd3) (d_law_times : Def P w K mg base k "_law_times" ["_law_a", "_law_b"] (spOp2 K (· * ·)) f4 fd4) (d_law_minus : Def P w K mg base k "_law_minus" ["_law_a", "_law_b"] (spOp2 K (· - ·)) f5 fd5) :
    Def P w K mg base (k + 1) "_law_distances" ps__law_distances (spDist K) f fd := by
  refine ⟨F.F.ok sc__law_distances (fun vs H Q E h => ?_) (fun cdv A outer s H vs Q E hr h => ?_), F.m, F.F.kp, F.b⟩
  · obtain ⟨_, _, _, _, _, _, _, _, rfl, _⟩ := h
    rfl
  obtain ⟨ac, y, u, c, s, en, va, vb, rfl, hC, hy, hu, cz, zs, ze, na, nb, l1, l2, z⟩ := h
  obtain ⟨xs, hxs, hc⟩ := id hC
  have hlx := hc.1
  have za := (sz_now cz zs na).mono (show _ ≤ 1500 by decide)
  have zb := (sz_now cz ze nb).mono (show _ ≤ 1500 by decide)
  have zall := sz_dw cz zs ze za zb
  have l1000 : c.length ≤ 1000 := by omega
  refine ⟨_, (pss_cons (ps_set (i := 3) sc__law_distances.nd rfl (Or.inr rfl) (pe_lst (pa_cons (pv 1) (pa_cons (pv 2) pa_nil))))
      (pss_cons (ps_set (i := 4) sc__law_distances.nd rfl (Or.inr rfl) (pe_lst (pa_cons (pcall d_law_now hr (pa_cons (pv 0) (pa_cons (pv 1) pa_nil))) (pa_cons (pcall d_law_now hr (pa_cons (pv 0) (pa_cons (pv 2) pa_nil))) pa_nil))))
      (pss_cons (ps_for PassesOwn.never rfl (pi_range2 (by rfl) T.range_ (pa_cons pe_int (pa_cons (pe_callB call_len_seq (by rfl) T.len_ PySem.boot_len (pa_cons (pv 0) pa_nil)) pa_nil))) (pg_name (i := 5) sc__law_distances.nd rfl (Or.inl rfl))
        (pss_cons (ps_set (i := 6) sc__law_distances.nd rfl (Or.inl rfl) (pe_ix ix_tup (pe_ix ix_list (pv 0) (pv 5) (fun _ _ => rfl)) pe_int (fun _ _ => rfl)))
        (pss_one (ps_if (PW.pt (pw_and (pt_val (pcall d_law_below hr (pa_cons (pv 1) (pa_cons (pv 6) pa_nil)))) (pw_and1 (pt_not (pt_val (pcall d_law_below hr (pa_cons (pv 2) (pa_cons (pv 6) pa_nil))))))))
          (pss_cons (ps_set (i := 7) sc__law_distances.nd rfl (Or.inl rfl) (pe_ix ix_list (pv 0) (pe_op op_sub (pv 5) pe_int) (fun _ _ => rfl)))
          (pss_cons (ps_set (i := 8) sc__law_distances.nd rfl (Or.inl rfl) (pcall d_law_plus hr (pa_cons (pe_ix ix_tup (pv 7) pe_int (fun _ _ => rfl)) (pa_cons (pcall d_law_times hr (pa_cons (pe_ix ix_tup (pv 7) pe_int (fun _ _ => rfl)) (pa_cons (pcall d_law_minus hr (pa_cons (pv 6) (pa_cons (pe_ix ix_tup (pv 7) pe_int (fun _ _ => rfl)) pa_nil))) pa_nil))) pa_nil))))
          (pss_cons (ps_set (i := 3) sc__law_distances.nd rfl (Or.inr rfl) (pe_op op_cat (pv 3) (pe_lst (pa_cons (pv 6) (pa_cons (pv 6) pa_nil)))))
          (pss_one (ps_set (i := 4) sc__law_distances.nd rfl (Or.inr rfl) (pe_op op_cat (pv 4) (pe_lst (pa_cons (pe_ix ix_tup (pe_ix ix_list (pv 0) (pv 5) (fun _ _ => rfl)) pe_int (fun _ _ => rfl)) (pa_cons (pv 8) pa_nil)))))))))
          pss_nil))))
      (pss_cons (ps_setLc (i := 9) (own := [("_law_k", 5)]) (g := gName 5) (tt := tYes) rfl sc__law_distances.nd rfl rfl (sw_true rfl rfl rfl (by decide +kernel)) (pi_range1 (by rfl) T.range_ (pa_cons (pe_callB call_len_seq (by rfl) T.len_ PySem.boot_len (pa_cons (pv 3) pa_nil)) pa_nil)) (blkOk_by (N := N__law_distances) (sc := defScope s__law_distances) (by decide +kernel)) (fun _ _ _ _ _ => pg_name (i := 5) sc__law_distances.nd rfl (Or.inl rfl)) (fun _ _ _ _ _ => pts_nil) (fun _ _ _ _ _ => (pcall d_law_minus hr (pa_cons (pe_ix (show IxR _ (rIxL K) from ix_list) (pv 4) (pv 5) (fun _ _ => rfl)) (pa_cons (pe_ix (show IxR _ (rIxL K) from ix_list) (pv 3) (pv 5) (fun _ _ => rfl)) pa_nil)))))
      (pss_one (ps_ret (pe_lc (own := [("_law_way", 10)]) (g := gName 10) (tt := tYes) rfl sc__law_distances.nd (pi_list (pv 9)) (blkOk_by (N := N__law_distances) (sc := defScope s__law_distances) (by decide +kernel)) (fun _ _ _ _ _ => pg_name (i := 10) sc__law_distances.nd rfl (Or.inl rfl)) (fun _ _ _ _ _ => pts_nil) (fun _ _ _ _ _ => (pe_tup (pa_cons (pe_callB call_abs (by rfl) T.abs_ (by decide +kernel) (pa_cons (pe_ix (show IxR _ (rIxT K) from ix_tup) (pv 10) pe_int (fun _ _ => rfl)) pa_nil)) (pa_cons (pe_ix (show IxR _ (rIxT K) from ix_tup) (pv 10) pe_int (fun _ _ => rfl)) pa_nil))))))))))), ?_⟩
  have hsz : sizeLine = 16777216 := sizeLine_eq
  (walk_at "vk_vc")
  rename_i T0 nT0 v1 H1 e1 h1
  have hv1 : Rq K H1 v1 va := optV_rq h1 na
  have hv2 : Rq K H' v vb := optV_rq h nb
  have s0 := same_new nT0 (.lst [y, u])
  have a0 : (upd H T0 (.lst [y, u])) T0 = some (.lst [y, u]) := upd_same
  have a1 := e _ _ (e1 _ _ a0)
  have s1 := (s0.trans e1).trans e
  have s2 := same_new np (.lst [v1, v])
  have a2 := s2 _ _ a1
  have b2 : (upd H' p (.lst [v1, v])) p = some (.lst [v1, v]) := upd_same
  have s3 := s1.trans s2
  have i1 : All2 (Rq K (upd H' p (.lst [v1, v]))) [y, u] (((s, va) :: (en, vb) :: dl c s en 0).map (·.1)) := (All2.one (hy.same s3)).snoc (hu.same s3)
  have i2 : All2 (Rq K (upd H' p (.lst [v1, v]))) [v1, v] (((s, va) :: (en, vb) :: dl c s en 0).map (·.2)) := (All2.one ((hv1.same e).same s2)).snoc (hv2.same s2)
  generalize upd H' p (.lst [v1, v]) = H2 at s3 a2 b2 i1 i2 ⊢
  clear s2 s1 a1 a0 s0 h1 e1 h e nT0 np hv1 hv2
  refine forR (lo := 1) (n := (((xs.length : Nat) : Int) - 1).toNat) (fun i σ G => Hold (∃ T S ts ss k5 k6 k7 k8, σ = [some (.ref ac), some y, some u, some (.ref T), some (.ref S), k5, k6, k7, k8, none, none] ∧ Same H G ∧ G T = some (.lst ts) ∧ G S = some (.lst ss) ∧ All2 (Rq K G) ts (((s, va) :: (en, vb) :: dl c s en i).map (·.1)) ∧ All2 (Rq K G) ss (((s, va) :: (en, vb) :: dl c s en i).map (·.2))))
    ⟨T0, p, _, _, none, none, none, none, rfl, s3, a2, b2, i1, i2⟩ ?_ ?_
  · rintro i σ G hi ⟨T, S, ts, ss, k5, k6, k7, k8, rfl, sg', hT, hS, aT, aS⟩
    have hi1 : i + 1 < c.length := by omega
    have ep : c[i]? = some c[i] := List.getElem?_eq_getElem (by omega)
    have eq : c[i + 1]? = some c[i + 1] := List.getElem?_eq_getElem hi1
    obtain ⟨x1, hx1, pp⟩ := hc.at ep
    obtain ⟨x2, hx2, pq⟩ := hc.at eq
    obtain ⟨zs1, zv1, zr1⟩ := cz _ (List.mem_of_getElem? ep)
    obtain ⟨zs2, zv2, zr2⟩ := cz _ (List.mem_of_getElem? eq)
    obtain ⟨d1, ds1, dv1, dr1, rfl, hd1, r11, r12, r13⟩ := pp.same sg'
    obtain ⟨d2, ds2, dv2, dr2, rfl, hd2, r21, r22, r23⟩ := pq.same sg'
    have es := dl_succ (s := s) (e := en) ep eq
    generalize c[i] = pa at ep r11 r12 r13 zs1 zv1 zr1 es
    generalize c[i + 1] = pb at eq r21 r22 r23 zs2 zv2 zr2 es
    have hxg : SqL K G ac xs := sg'.seq hxs
    have hyg := hy.same sg'
    have hug := hu.same sg'
    have i1 : atI xs (1 + (i : Int) - 1) = some (.ref d1) := at_of (j := i) (by omega) hx1
    have i2 : atI xs (1 + (i : Int)) = some (.ref d2) := at_of (j := i + 1) (by omega) hx2
    have lT : ts.length ≤ 150 := by
      have := aT.1
      rw [List.length_map, List.length_cons, List.length_cons] at this
      have := dl_len (c := c) (s := s) (e := en) i
      omega
    have lS : ss.length ≤ 150 := by
      have := aS.1
      rw [List.length_map, List.length_cons, List.length_cons] at this
      have := dl_len (c := c) (s := s) (e := en) i
      omega
    have zt1 : Sz (256 + 256 + 1) (pb.s - pa.s) := zs2.sub zs1
    have zm1 := zr1.mul zt1
    (walk_at "vk_vc")
    · show ts.length + 2 ≤ sizeLine; omega
    · show ss.length + 2 ≤ sizeLine; omega
    · have cond : s < pb.s ∧ ¬ en < pb.s := ⟨by assumption, by assumption⟩
      rename_i q1 nq1 q2 nq2 q3 nq3
      refine ⟨⟨q2, p, _, _, _, _, _, _, rfl, sg'.trans (by (walk_at "vk_same")), by (walk_at "vk_raw"), by (walk_at "vk_raw"), ?_, ?_⟩⟩
      · rw [es, if_pos cond, show ((s, va) :: (en, vb) :: (dl c s en i ++ [(pb.s, pb.v), (pb.s, vl pb.s pa)])).map (·.1) = ((s, va) :: (en, vb) :: dl c s en i).map (·.1) ++ [pb.s, pb.s] by simp]
        exact All2.append (All2.imp aT fun _ _ h => Rq.same (by (walk_at "vk_same")) h) ((All2.one (by (walk_at "vk_cl"))).snoc (by (walk_at "vk_cl")))
      · rw [es, if_pos cond, show ((s, va) :: (en, vb) :: (dl c s en i ++ [(pb.s, pb.v), (pb.s, vl pb.s pa)])).map (·.2) = ((s, va) :: (en, vb) :: dl c s en i).map (·.2) ++ [pb.v, pa.v + pa.r * (pb.s - pa.s)] by simp [vl]]
        exact All2.append (All2.imp aS fun _ _ h => Rq.same (by (walk_at "vk_same")) h) ((All2.one (by (walk_at "vk_cl"))).snoc (by (walk_at "vk_cl")))
    all_goals (
      have nc : ¬ (s < pb.s ∧ ¬ en < pb.s) := fun h => by first | exact absurd h.1 (by assumption) | exact absurd (by assumption) h.2
      refine ⟨⟨T, S, ts, ss, _, _, _, _, rfl, sg', hT, hS, ?_, ?_⟩⟩
      · rw [es, if_neg nc, List.append_nil]; exact aT
      · rw [es, if_neg nc, List.append_nil]; exact aS)
  · rintro σ G ⟨T, S, ts, ss, k5, k6, k7, k8, rfl, sg', hT, hS, aT, aS⟩
    have en' : (((xs.length : Nat) : Int) - 1).toNat = c.length - 1 := by omega
    rw [en'] at aT aS
    have aT : All2 (Rq K G) ts ((dw c s en va vb).map (·.1)) := aT
    have aS : All2 (Rq K G) ss ((dw c s en va vb).map (·.2)) := aS
    have lD : (dw c s en va vb).length ≤ 150 := by
      have := dl_len (c := c) (s := s) (e := en) (c.length - 1)
      show (dl c s en (c.length - 1)).length + 2 ≤ 150
      omega
    generalize dw c s en va vb = L at aT aS zall z lD
    have hTs : SqL K G T ts := SqL.of hT
    have hSs : SqL K G S ss := SqL.of hS
    have lT := aT.1
    rw [List.length_map] at lT
    have lS := aS.1
    rw [List.length_map] at lS
    (walk_at "vk_vc")
    refine lcAllR (R' := Rq K) lastsR (L.map fun x => x.2 - x.1) (lo := 0) np (by rw [List.length_map]; exact lT.symm) (by omega) ?_ ?_
    · intro i q G1 eq s1 Y N hY
      rw [List.getElem?_map] at eq
      obtain ⟨x, hx, rfl⟩ := Option.map_eq_some_iff.mp eq
      obtain ⟨z1, z2⟩ := zall x (List.mem_of_getElem? hx)
      obtain ⟨tx, htx, rt⟩ := aT.at (p := x.1) (i := i) (by rw [List.getElem?_map, hx]; rfl)
      obtain ⟨sx, hsx, rs⟩ := aS.at (p := x.2) (i := i) (by rw [List.getElem?_map, hx]; rfl)
      replace rt := rt.same s1
      replace rs := rs.same s1
      have hTs1 : SqL K G1 T ts := s1.seq hTs
      have hSs1 : SqL K G1 S ss := s1.seq hSs
      have i1 : atI ts (0 + (i : Int)) = some tx := at_of (j := i) (by omega) htx
      have i2 : atI ss (0 + (i : Int)) = some sx := at_of (j := i) (by omega) hsx
      (walk_at "vk_vc")
    · intro us G1 s1 hD hA
      have hDx : SqL K G1 p us := SqL.of hD
      (walk_at "vk_vc")
      refine lcAll (R := Rq K) (R' := Rq K) lastsR (fun q => some (ab q)) np hDx hA (by rw [List.length_map]; omega) ?_ ?_
      · intro j y q G ec rq s2 Y N hY hN
        obtain ⟨ya, rfl, hya⟩ := id (rq.same s2)
        (walk_at "vk_vc")
        exact hY _ _ _ (same_new np _) rfl rq_ab
      · intro us2 G2 s2 hD2 hA2
        have ee : ∀ L : List (Rat × Rat), (L.map fun x => x.2 - x.1).filterMap (fun q => some (ab q)) = L.map dv := fun L => by
          induction L with
          | nil => rfl
          | cons a L ih => rw [List.map_cons, List.filterMap_cons, ih]; rfl
        rw [ee] at hA2
        exact z _ us2 G2 (sg'.trans (s1.trans s2)) hD2 hA2
end Vk

set_option maxHeartbeats 4000000
namespace Vk
open PySem L2 Vm Vl
variable {P : Program} {w : World} {K : PySem.W.Frag} {mg : Str → Option Value} {base : Heap} {k : Nat} {f f1 f2 f3 f4 f5 f6 f7 f8 f9 : Addr} {fd fd1 fd2 fd3 fd4 fd5 fd6 fd7 fd8 fd9 : FuncData}
theorem depth_qs : ∀ c : List Rat, PyData.depthAll (c.map dq) ≤ 2
  | [] => by simp [PyData.depthAll]
  | p :: c => by
    have := depth_qs c
    simp only [List.map_cons, PyData.depthAll]
    have : (dq p).depth ≤ 2 := by simp [dq, PyData.depth, PyData.depthAll]
    omega
theorem lay_qs : ∀ c : List Rat, PyData.canLayAll0 (c.map dq) = true
  | [] => rfl
  | p :: c => by
    have := lay_qs c
    show (PyData.canLay0 (dq p) && PyData.canLayAll0 (c.map dq)) = true
    rw [this]
    rfl
theorem sh_qs (c : List Rat) : SeqAt.shaped (.list (c.map dq)) = true := by
  have h1 := depth_qs c
  have h2 := lay_qs c
  show (PyData.canLay0 (.list (c.map dq)) && decide (PyData.depth (.list (c.map dq)) ≤ 64)) = true
  have h3 : PyData.canLay0 (.list (c.map dq)) = true := h2
  have h4 : PyData.depth (.list (c.map dq)) ≤ 64 := by simp only [PyData.depth]; omega
  rw [h3, decide_eq_true h4]
  rfl
theorem dpall_qs {H : Hp} : ∀ {us : List V} {qs : List Rat}, All2 (Rq K H) us qs → DpAll K H us (qs.map dq) := fun {us qs} h => dpall_of (fun _ _ h => h.dp) h
abbrev s__law_right : Stmt := top 75
abbrev N__law_right : List Str := ["_law_course_here", "_law_first", "_law_last", "_law_told_here", "_law_worst", "_law_ways", "_law_way", "_law_t", "_law_piece"]
theorem sc__law_right : FnScope N__law_right ["_law_course_here", "_law_first", "_law_last", "_law_told_here"] (defScope s__law_right) := ⟨rfl, rfl, rfl, by decide +kernel, rfl, by decide +kernel, by decide +kernel⟩
abbrev ps__law_right : List Str := ["_law_course_here", "_law_first", "_law_last", "_law_told_here"]
def spRightW (K : PySem.W.Frag) : Sp := fun vs H Q _ => ∃ (ac : Addr) (y u : V) (tt : Addr) (xs : List V) (c : List Pc) (s e : Rat), vs = [.ref ac, y, u, .ref tt] ∧ Rw K H y u c s e tt ∧ Ct K H ac xs c ∧ Rq K H y s ∧ Rq K H u e ∧ Cz 256 940 45 c ∧ Sz 256 s ∧ Sz 256 e ∧ Cok c ∧ 1 ≤ c.length ∧ c.length ≤ 60 ∧ ∀ H', Same H H' → Q (.bl true) H'
theorem ok_right (T : Bn mg) (F : Fn K mg "_law_right" s__law_right ps__law_right f fd) (d_law_below : Def P w K mg base k "_law_below" ["_law_a", "_law_b"] (spTest2 K fun p q => .bl (decide (p < q))) f1 fd1) (d_law_same : Def P w K mg base k "_law_same" ["_law_value", "_law_due"] (spSame K 2) f2 fd2)
    (d_law_is_frac : Def P w K mg base k "_law_is_frac" ["_law_value"] (spIsFrac K) f3 fd3) (d_law_distances : Def P w K mg base k "_law_distances" ["_law_course_here", "_law_first", "_law_last"] (spDist K) f4 fd4) (d_law_probes : Def P w K mg base k "_law_probes" ["_law_spans"] (spPrb K) f5 fd5)
    (d_law_now : Def P w K mg base k "_law_now" ["_law_course_here", "_law_t"] (spNow K) f6 fd6) (d_law_minus : Def P w K mg base k "_law_minus" ["_law_a", "_law_b"] (spOp2 K (· - ·)) f7 fd7) :
    Def P w K mg base (k + 1) "_law_right" ps__law_right (spRightW K) f fd := by
  refine ⟨F.F.ok sc__law_right (fun vs H Q E h => ?_) (fun cdv A outer s H vs Q E hr h => ?_), F.m, F.F.kp, F.b⟩
  · obtain ⟨_, _, _, _, _, _, _, _, rfl, _⟩ := h
    rfl
  obtain ⟨ac, y, u, tt, xs, c, s, en, rfl, rt, hT, hy, hu, cz, zs, ze, ok, l1, l2, z⟩ := h
  have hraw := hT.1
  have hc := hT.2
  have hxs : SqL K H ac xs := SqL.of hraw
  have hC : Cq K H ac c := hT.cq
  obtain ⟨ya, rfl, hya⟩ := id hy
  obtain ⟨ua, rfl, hua⟩ := id hu
  have e0 : c[0]? = some c[0] := List.getElem?_eq_getElem (by omega)
  obtain ⟨x0, hx0, p0⟩ := hc.at e0
  obtain ⟨d0, ds0, dv0, dr0, rfl, hd0, r01, r02, r03⟩ := id p0
  obtain ⟨zs0, zv0, zr0⟩ := cz _ (List.mem_of_getElem? e0)
  have first := pcAt_first ok e0 (t := s)
  have some_ : ∀ t, ¬ t < c[0].s → ∃ w, nowf c t = some w := fun t ht => by
    cases g : nowf c t with
    | some w => exact ⟨w, rfl⟩
    | none =>
      rw [now_pc] at g
      exact absurd ((pcAt_first ok e0 (t := t)).mp (Option.map_eq_none_iff.mp g)) ht
  generalize c[0] = pf at e0 p0 r01 r02 r03 zs0 zv0 zr0 first some_
  have i0x : atI xs 0 = some (.ref d0) := at0 hx0
  have hsz : sizeLine = 16777216 := sizeLine_eq
  refine ⟨_, (pss_cons (ps_if (pt_val (pcall d_law_below hr (pa_cons (pv 1) (pa_cons (pe_ix ix_tup (pe_ix ix_list (pv 0) pe_int (fun _ _ => rfl)) pe_int (fun _ _ => rfl)) pa_nil))))
        (pss_one (ps_ret (pcall d_law_same hr (pa_cons (pv 3) (pa_cons (pe_tup (pa_cons pe_str (pa_cons (pv 1) pa_nil))) pa_nil)))))
        pss_nil)
      (pss_cons (ps_if (pt_val (pcall d_law_below hr (pa_cons (pv 2) (pa_cons (pv 1) pa_nil))))
        (pss_one (ps_ret (pcall d_law_same hr (pa_cons (pv 3) (pa_cons (pe_tup (pa_cons pe_str (pa_cons (pv 1) (pa_cons (pv 2) pa_nil)))) pa_nil)))))
        pss_nil)
      (pss_cons (ps_if (PW.pt (pw_or (pt_cmpR (op_neD hr.units) (pe_ix ix_tup (pv 3) pe_int (fun _ _ => rfl)) pe_str (nomark _)) (pw_or1 (pt_not (pt_val (pcall d_law_is_frac hr (pa_cons (pe_ix ix_tup (pv 3) pe_int (fun _ _ => rfl)) pa_nil)))))))
        (pss_one (ps_ret pe_bl))
        pss_nil)
      (pss_cons (ps_set (i := 4) sc__law_right.nd rfl (Or.inr rfl) (pe_ix ix_tup (pv 3) pe_int (fun _ _ => rfl)))
      (pss_cons (ps_set (i := 5) sc__law_right.nd rfl (Or.inl rfl) (pcall d_law_distances hr (pa_cons (pv 0) (pa_cons (pv 1) (pa_cons (pv 2) pa_nil)))))
      (pss_cons (ps_if (PW.pt (pw_or (pt_cmpR (op_notInD (Nat.lt_of_le_of_lt (Nat.add_le_add (Nat.le_add_right _ (16 * k)) (show 65 ≤ 200 by decide)) hr.un)) (pv 4) (pv 5) rfl) (pw_or1 (pt_cmpR op_gt (pe_callB call_len_seq (by rfl) T.len_ PySem.boot_len (pa_cons (pe_lc (own := [("_law_way", 6)]) (g := gName 6) rfl sc__law_right.nd (pi_list (pv 5)) (blkOk_by (N := N__law_right) (sc := defScope s__law_right) (by decide +kernel)) (fun _ _ _ _ _ => pg_name (i := 6) sc__law_right.nd rfl (Or.inl rfl)) (fun _ _ _ _ _ => pts_one (pt_val (pcall d_law_below hr (pa_cons (pv 4) (pa_cons (pv 6) pa_nil))))) (fun _ _ _ _ _ => (pv 6))) pa_nil)) pe_int (nomark _)))))
        (pss_one (ps_ret pe_bl))
        pss_nil)
      (pss_cons (ps_for PassesOwn.never rfl (pi_list (pcall d_law_probes hr (pa_cons (pe_op op_cat (pe_lc (own := [("_law_piece", 8)]) (g := gName 8) (tt := tYes) rfl sc__law_right.nd (pi_list (pv 0)) (blkOk_by (N := N__law_right) (sc := defScope s__law_right) (by decide +kernel)) (fun _ _ _ _ _ => pg_name (i := 8) sc__law_right.nd rfl (Or.inl rfl)) (fun _ _ _ _ _ => pts_nil) (fun _ _ _ _ _ => (pe_tup (pa_cons (pe_ix (show IxR _ (rIxT K) from ix_tup) (pv 8) pe_int (fun _ _ => rfl)) (pa_cons (pv 1) pa_nil))))) (pe_lst (pa_cons (pe_tup (pa_cons (pv 1) (pa_cons (pv 2) pa_nil))) pa_nil))) pa_nil))) (pg_name (i := 7) sc__law_right.nd rfl (Or.inl rfl))
        (pss_one (ps_if (PW.pt (pw_and (pt_not (pt_val (pcall d_law_below hr (pa_cons (pv 7) (pa_cons (pv 1) pa_nil))))) (pw_and1 (pt_not (pt_val (pcall d_law_below hr (pa_cons (pv 2) (pa_cons (pv 7) pa_nil))))))))
          (pss_cons (ps_set (i := 6) sc__law_right.nd rfl (Or.inl rfl) (pcall d_law_minus hr (pa_cons (pcall d_law_now hr (pa_cons (pv 0) (pa_cons (pv 7) pa_nil))) (pa_cons (pv 7) pa_nil))))
          (pss_one (ps_if (pt_val (pcall d_law_below hr (pa_cons (pv 4) (pa_cons (pe_tup (pa_cons (pe_callB call_abs (by rfl) T.abs_ (by decide +kernel) (pa_cons (pe_ix ix_tup (pv 6) pe_int (fun _ _ => rfl)) pa_nil)) (pa_cons (pe_ix ix_tup (pv 6) pe_int (fun _ _ => rfl)) pa_nil))) pa_nil))))
            (pss_one (ps_ret pe_bl))
            pss_nil)))
          pss_nil)))
      (pss_one (ps_ret pe_bl))))))))), ?_⟩
  rcases rt with ⟨hn, htt⟩ | ⟨⟨p, hp⟩, hlt, htt⟩ | ⟨⟨pcx, hp⟩, hge, wo, wv, htt, hw, zw, W⟩
  · have lt : s < pf.s := first.mp hn
    (walk_at "vk_vc")
    exact z _ (by (walk_at "vk_same"))
  · have nlt : ¬ s < pf.s := fun g => by rw [first.mpr g] at hp; cases hp
    (walk_at "vk_vc")
    exact z _ (by (walk_at "vk_same"))
  · have nlt : ¬ s < pf.s := fun g => by rw [first.mpr g] at hp; cases hp
    obtain ⟨va, na⟩ := some_ s nlt
    obtain ⟨vb, nb⟩ := some_ en (by grind)
    have wm := W.mem va vb na nb
    have wu := W.up va vb na nb
    have wall := W.all
    obtain ⟨wa', rfl, hwa⟩ := id hw
    (walk_at "vk_vc")
    intro D us G1 e1 hD hA
    have hDx : SqL K G1 D us := SqL.of hD
    have hDp := dpall_qs hA
    have hsh := sh_qs ((dw c s en va vb).map dv)
    have hany : (!(((dw c s en va vb).map dv).map dq).any fun z => PyData.eqv z (dq wo)) = false := by
      have : ((((dw c s en va vb).map dv).map dq).any fun z => PyData.eqv z (dq wo)) = true := List.any_eq_true.mpr ⟨dq wo, List.mem_map.mpr ⟨wo, wm, rfl⟩, by rw [eqv_dq]; exact decide_eq_true rfl⟩
      rw [this]
      rfl
    have lD : ((dw c s en va vb).map dv).length ≤ 150 := by
      have := dl_len (c := c) (s := s) (e := en) (c.length - 1)
      rw [List.length_map]
      show (dl c s en (c.length - 1)).length + 2 ≤ 150
      omega
    have zL : ∀ x ∈ (dw c s en va vb).map dv, Sz 1800 x := fun x hx => by
      obtain ⟨q, hq, rfl⟩ := List.mem_map.mp hx
      obtain ⟨z1, z2⟩ := sz_dw cz zs ze ((sz_now cz zs na).mono (show _ ≤ 1500 by decide)) ((sz_now cz ze nb).mono (show _ ≤ 1500 by decide)) q hq
      exact (Vk.Sz.ab (z2.sub z1)).mono (by decide)
    generalize (dw c s en va vb).map dv = L at hA hDp hsh hany lD wm wu zL
    (walk_at "vk_vc")
    refine lcAll (R := Rq K) (R' := Rq K) lastsR (fun q => if wo < q then some q else none) np hDx hA (by omega) ?_ ?_
    · intro j y q G ec rq s2 Y N hY hN
      obtain ⟨ya', rfl, hya'⟩ := id (rq.same s2)
      have le := wu q (List.mem_of_getElem? ec)
      have zq := zL q (List.mem_of_getElem? ec)
      have nlq : ¬ wo < q := by grind
      have hN' := hN G (by rw [if_neg nlq]) (Same.refl _)
      have hw1 := ((hw.same e).same e1).same s2
      (walk_at "vk_vc")
    · intro us2 G2 s2 hD2 hA2
      have e0' : L.filterMap (fun q => if wo < q then some q else none) = [] := List.filterMap_eq_nil_iff.mpr fun q hq => by rw [if_neg (by have := wu q hq; grind)]
      rw [e0'] at hA2
      have l0 : us2.length = 0 := hA2.1
      obtain rfl := List.eq_nil_of_length_eq_zero l0
      have hDx2 : SqL K G2 p [] := SqL.of hD2
      have sG := (e.trans e1).trans s2
      clear hD2 hA2 l0 hany hsh hDp hA hDx
      clear e1 s2 e
      (walk_at "vk_vc")
      refine lcAll (R := Pq K) (R' := Tq K) lastsT (fun p => some (p.s, s)) np (sG.seq hxs) (All2.imp hc fun _ _ q => Pq.same sG q) (by omega) ?_ ?_
      · intro j y pp G ec pq s1 Y N hY hN
        obtain ⟨qa, qs, qv, qr, rfl, hqa, g1, g2, g3⟩ := pq.same s1
        obtain ⟨qsa, rfl, hqsa⟩ := id g1
        have hyg := (hy.same sG).same s1
        (walk_at "vk_vc")
        refine hY _ _ (pp.s, s) (same_new np _) rfl ?_
        unfold Tq
        (walk_at "vk_vc")
      · intro ts G s1 hG hA
        have hA' : All2 (Tq K G) ts (c.filterMap fun p => some (p.s, s)) := hA
        have lts := hA'.1
        have lc : (c.filterMap fun p => some (p.s, s)).length = c.length := by
          have : ∀ l : List Pc, (l.filterMap (fun p => some (p.s, s))).length = l.length := fun l => by induction l with
            | nil => rfl
            | cons a l ih => rw [List.filterMap_cons]; simp [ih]
          rw [this]
        have sG1 := sG.trans s1
        have hyg := hy.same sG1
        have hug := hu.same sG1
        have hTg := hT.same sG1
        have hwg := hw.same sG1
        have hCg := hTg.cq
        clear hA sG s1
        (walk_at "vk_vc")
        · show ts.length + 1 ≤ sizeLine; omega
        · exact All2.append (All2.imp hA' fun _ _ h => Tq.same (by (walk_at "vk_same")) h) (All2.one (p := (s, en)) (by unfold Tq; (walk_at "vk_vc")))
        · intro x hx
          rcases List.mem_append.mp hx with hx | hx
          · obtain ⟨z, hz, e⟩ := List.mem_filterMap.mp hx
            cases e
            exact ⟨(cz z hz).1.mono (by decide), zs.mono (by decide)⟩
          · rw [List.mem_singleton.mp hx]
            exact ⟨zs.mono (by decide), ze.mono (by decide)⟩
        · rw [List.length_append]; show 1 ≤ _ + 1; omega
        · rw [List.length_append, lc]; show c.length + 1 ≤ 200; omega
        intro Ea es os G2 f2 hE hEr hA2 zo
        have hEx : SqL K G2 Ea es := SqL.of hEr
        have sG2 : Same H G2 := sG1.trans (Same.trans (by (walk_at "vk_same")) f2)
        have hy2 := hy.same sG2
        have hu2 := hu.same sG2
        have hw2 := hw.same sG2
        have hC2 := hC.same sG2
        clear hA' hG hyg hug hTg hwg hCg f2 sG1
        (walk_at "vk_vc")
        refine forL (K := K) (a := Ea) (xs := es) (fun i σ G' => Hold (∃ k5 k6 k7, σ = [some (.ref ac), some (.ref ya), some (.ref ua), some (.ref tt), some (.ref wa'), k5, k6, k7, none] ∧ Same G2 G')) ⟨_, _, _, rfl, Same.refl _⟩ (fun i σ G' _ h => by obtain ⟨_, _, _, _, s1⟩ := h; exact s1.seq hEx) ?_ ?_
        · rintro i x σ G3 hx ⟨k5, k6, k7, rfl, f3⟩
          have hi : i < os.length := by have := (List.getElem?_eq_some_iff.mp hx).1; rw [hA2.1] at this; exact this
          have eo : os[i]? = some os[i] := List.getElem?_eq_getElem hi
          have zx := zo _ (List.getElem_mem hi)
          have rx := (hA2.2 i x _ hx eo).same f3
          generalize os[i] = o at eo zx rx
          obtain ⟨xa, rfl, hxa⟩ := id rx
          have hy3 := hy2.same f3
          have hu3 := hu2.same f3
          have hw3 := hw2.same f3
          have hC3 := hC2.same f3
          by_cases gx : o < s
          · (walk_at "vk_vc")
            all_goals first | exact ⟨⟨_, _, _, rfl, (by (walk_at "vk_same"))⟩⟩
          · by_cases gy : en < o
            · (walk_at "vk_vc")
              all_goals first | exact ⟨⟨_, _, _, rfl, (by (walk_at "vk_same"))⟩⟩
            · obtain ⟨yo, ny⟩ := some_ o (by grind)
              have wy := wall o yo gx gy ny
              have nwy : ¬ wo < ab (yo - o) := by grind
              have zyo := sz_now cz zx ny
              have zd := Vk.Sz.ab (zyo.sub zx)
              (walk_at "vk_vc")
              all_goals first | exact ⟨⟨_, _, _, rfl, (by (walk_at "vk_same"))⟩⟩
        · rintro σ G3 ⟨k5, k6, k7, rfl, f3⟩
          exact z _ (sG2.trans f3)
end Vk

set_option maxHeartbeats 4000000
namespace Vk
open PySem L2 Vm Vl
variable {l : Addr} {P : Program} {w : World} {K : PySem.W.Frag} {mg : Str → Option Value} {base : Heap} {k : Nat} {f f1 f2 f3 f4 f5 f6 f7 f8 f9 : Addr} {fd fd1 fd2 fd3 fd4 fd5 fd6 fd7 fd8 fd9 : FuncData}
theorem rl910 {H : Hp} {t : Addr} : Rq K (upd H t (.tup [.int 9, .int 10])) (.ref t) (mkRat 9 10) := rq_new 9 10 _ (by decide +kernel) (by decide +kernel)
theorem rl1110 {H : Hp} {t : Addr} : Rq K (upd H t (.tup [.int 11, .int 10])) (.ref t) (mkRat 11 10) := rq_new 11 10 _ (by decide +kernel) (by decide +kernel)
theorem rl21 {H : Hp} {t : Addr} : Rq K (upd H t (.tup [.int 2, .int 1])) (.ref t) 2 := rq_new 2 1 _ (by decide +kernel) (by decide +kernel)
theorem rln12 {H : Hp} {t : Addr} : Rq K (upd H t (.tup [.int (-1), .int 2])) (.ref t) (mkRat (-1) 2) := rq_new (-1) 2 _ (by decide +kernel) (by decide +kernel)
theorem rln31 {H : Hp} {t : Addr} : Rq K (upd H t (.tup [.int (-3), .int 1])) (.ref t) (-3) := rq_new (-3) 1 _ (by decide +kernel) (by decide +kernel)
theorem lastsPq : Lasts (Pq K) := fun e hs h => h.fr e hs
theorem appBun {α : Type} {R : Hp → V → α → Prop} {s D : Addr} {H0 G G1 : Hp} {us : List V} {c : List α} {x : V} {q : α} {C : Addr → List V → V → Prop} (L : Lasts R) (B : Bun R l s D H0 us c G) (e : Fr s G G1) (S : Sto l s G1) (r : R G1 x q) (hl : us.length < sizeLine)
    (k : Bun R l s D H0 (us ++ [x]) (c ++ [q]) (upd G1 D (.lst (us ++ [x]))) → Fr D G1 (upd G1 D (.lst (us ++ [x]))) → G1 D = some (.lst us) → C D us x) : ∃ (l : Addr) (xs : List V) (y : V), V.ref D = .ref l ∧ [x] = [y] ∧ G1 l = some (.lst xs) ∧ xs.length < sizeLine ∧ C l xs y := by
  have B1 := B.fr L e S
  exact ⟨D, us, x, rfl, rfl, B1.at, hl, k (B1.app L r) (Fr.upd _) B1.at⟩
abbrev s__law_some_course : Stmt := top 76
abbrev N__law_some_course : List Str := ["_law_store_here", "_law_many", "_law_course_here", "_law_away", "_law_row", "_law_piece", "_law_pace_here"]
theorem sc__law_some_course : FnScope N__law_some_course ["_law_store_here", "_law_many"] (defScope s__law_some_course) := ⟨rfl, rfl, rfl, by decide +kernel, rfl, by decide +kernel, by decide +kernel⟩
abbrev ps__law_some_course : List Str := ["_law_store_here", "_law_many"]
def spSome (K : PySem.W.Frag) (l : Addr) : Sp := fun vs H Q _ => ∃ (s : Addr) (many : Nat), vs = [.ref s, .int many] ∧ Sto l s H ∧ many ≤ 40 ∧
  ∀ D us c H', Bun (Pq K) l s D H us c H' → c.length = many → Cok c → Cz 245 925 10 c → Q (.ref D) H'
/-- a course made after another one -/
def Aft (c0 c : List Pc) : Prop := ∀ (j : Nat) (p : Pc), c[j]? = some p → ∃ p0, c0[j]? = some p0 ∧ p.s = p0.s ∧ Sz 256 p.v ∧ Sz 10 p.r ∧ 0 < p.r
theorem Aft.cok {c0 c : List Pc} (h : Aft c0 c) (ok : Cok c0) : Cok c := by
  refine ⟨fun p hp => ?_, fun i p q ep eq => ?_⟩
  · obtain ⟨j, hj⟩ := List.mem_iff_getElem?.mp hp
    obtain ⟨_, _, _, _, _, h⟩ := h j p hj
    exact h
  · obtain ⟨p0, e1, e2, _⟩ := h i p ep
    obtain ⟨q0, f1, f2, _⟩ := h (i + 1) q eq
    rw [e2, f2]
    exact ok.2 i p0 q0 e1 f1
theorem Aft.cz {c0 c : List Pc} (h : Aft c0 c) (cz : Cz 245 925 5 c0) : Cz 245 925 10 c := fun p hp => by
  obtain ⟨j, hj⟩ := List.mem_iff_getElem?.mp hp
  obtain ⟨p0, e1, e2, e3, e4, _⟩ := h j p hj
  rw [e2]
  exact ⟨(cz p0 (List.mem_of_getElem? e1)).1, e3.mono (by decide), e4⟩
theorem Aft.snoc {c0 c : List Pc} (h : Aft c0 c) {p p0 : Pc} (e : c0[c.length]? = some p0) (h1 : p.s = p0.s) (h2 : Sz 256 p.v) (h3 : Sz 10 p.r) (h4 : 0 < p.r) : Aft c0 (c ++ [p]) := fun j q hq => by
  by_cases g : j < c.length
  · rw [List.getElem?_append_left g] at hq
    exact h j q hq
  · rw [List.getElem?_append_right (by omega)] at hq
    have g2 : j - c.length = 0 := by
      have := (List.getElem?_eq_some_iff.mp hq).1
      simp at this
      omega
    rw [g2] at hq
    cases hq
    have : j = c.length := by omega
    subst this
    exact ⟨p0, e, h1, h2, h3, h4⟩
theorem ok_some_course (T : Bn mg) (F : Fn K mg "_law_some_course" s__law_some_course ps__law_some_course f fd) (d_law_course : Def P w K mg base k "_law_course" ["_law_store_here", "_law_many", "_law_fall"] (spCourse K l) f1 fd1) (d_law_take : Def P w K mg base k "_law_take" ["_law_store_here", "_law_many"] (spTake K l) f2 fd2)
    (d_law_part : Def P w K mg base k "_law_part" ["_law_store_here"] (spDraw K l 5 anyQ) f3 fd3) (d_law_pick : Def P w K mg base k "_law_pick" ["_law_store_here", "_law_things"] (spPick K l) f4 fd4) (d_law_plus : Def P w K mg base k "_law_plus" ["_law_a", "_law_b"] (spOp2 K (· + ·)) f5 fd5) :
    Def P w K mg base (k + 1) "_law_some_course" ps__law_some_course (spSome K l) f fd := by
  refine ⟨F.F.ok sc__law_some_course (fun vs H Q E h => ?_) (fun cdv A outer s H vs Q E hr h => ?_), F.m, F.F.kp, F.b⟩
  · obtain ⟨_, _, rfl, _⟩ := h
    rfl
  obtain ⟨s, many, rfl, hS, hm, z⟩ := h
  refine ⟨_, (pss_cons (ps_set (i := 2) sc__law_some_course.nd rfl (Or.inl rfl) (pcall d_law_course hr (pa_cons (pv 0) (pa_cons (pv 1) (pa_cons pe_bl pa_nil)))))
      (pss_cons (ps_if (pt_cmpR op_eq (pcall d_law_take hr (pa_cons (pv 0) (pa_cons pe_int pa_nil))) pe_int (nomark _))
        (pss_one (ps_ret (pv 2)))
        pss_nil)
      (pss_cons (ps_set (i := 3) sc__law_some_course.nd rfl (Or.inl rfl) (pcall d_law_part hr (pa_cons (pv 0) pa_nil)))
      (pss_cons (ps_set (i := 4) sc__law_some_course.nd rfl (Or.inl rfl) (pe_lst pa_nil))
      (pss_cons (ps_for PassesOwn.never rfl (pi_list (pv 2)) (pg_name (i := 5) sc__law_some_course.nd rfl (Or.inl rfl))
        (pss_cons (ps_set (i := 6) sc__law_some_course.nd rfl (Or.inl rfl) (pcall d_law_pick hr (pa_cons (pv 0) (pa_cons (pe_lst (pa_cons (pe_tup (pa_cons pe_int (pa_cons pe_int pa_nil))) (pa_cons (pe_tup (pa_cons pe_int (pa_cons pe_int pa_nil))) (pa_cons (pe_tup (pa_cons pe_int (pa_cons pe_int pa_nil))) (pa_cons (pe_tup (pa_cons pe_int (pa_cons pe_int pa_nil))) (pa_cons (pe_tup (pa_cons pe_int (pa_cons pe_int pa_nil))) (pa_cons (pe_tup (pa_cons pe_int (pa_cons pe_int pa_nil))) pa_nil))))))) pa_nil))))
        (pss_cons (ps_if (pt_cmpR op_eq (pcall d_law_take hr (pa_cons (pv 0) (pa_cons pe_int pa_nil))) pe_int (nomark _))
          (pss_one (ps_set (i := 3) sc__law_some_course.nd rfl (Or.inl rfl) (pcall d_law_pick hr (pa_cons (pv 0) (pa_cons (pe_lst (pa_cons (pe_tup (pa_cons pe_int (pa_cons pe_int pa_nil))) (pa_cons (pe_tup (pa_cons pe_int (pa_cons pe_int pa_nil))) (pa_cons (pe_tup (pa_cons (pe_un un_neg pe_int) (pa_cons pe_int pa_nil))) (pa_cons (pe_tup (pa_cons pe_int (pa_cons pe_int pa_nil))) (pa_cons (pe_tup (pa_cons (pe_un un_neg pe_int) (pa_cons pe_int pa_nil))) pa_nil)))))) pa_nil)))))
          pss_nil)
        (pss_one (ps_expr (pe_bm PySem.F.plainAttrs_list PySem.F.slot_list_append PySem.F.type_list_append mt_append (pv 4) (pa_cons (pe_tup (pa_cons (pe_ix ix_tup (pv 5) pe_int (fun _ _ => rfl)) (pa_cons (pcall d_law_plus hr (pa_cons (pe_ix ix_tup (pv 5) pe_int (fun _ _ => rfl)) (pa_cons (pv 3) pa_nil))) (pa_cons (pv 6) pa_nil)))) pa_nil)))))))
      (pss_one (ps_ret (pv 4)))))))), ?_⟩
  have t2 : (2 : Int) < 2 ^ 64 := by decide
  (walk_at "vk_vc")
  intro D0 xs c0 H1 B0 hl0 ok0 cz0
  have S1 := B0.1
  have e1 := B0.2.1
  have n0 := B0.2.2.1
  have hT : Ct K H1 D0 xs c0 := ⟨B0.at, B0.2.2.2.2.2.2⟩
  have hlx := B0.len
  (walk_at "vk_vc")
  · exact z _ _ _ _ (B0.fr lastsPq e S) hl0 ok0 (fun p hp => ⟨(cz0 p hp).1, (cz0 p hp).2.1, (cz0 p hp).2.2.mono (by decide)⟩)
  · exact SqL.of (by have : Ct K H' D0 xs c0 := by focus (walk_at "vk_cl")
                     exact this.same (same_new np _) |>.1)
  · rename Addr => D
    have hT1 : Ct K H' D0 xs c0 := by focus (walk_at "vk_cl")
    have n1 : D0 ≠ D := fun g => by rw [← g, hT1.1] at np; cases np
    have B1 := Bun.start (R := Pq K) (H0 := H) S (by focus (walk_at "vk_fr") : Fr s H H') np
    have hTp := hT1.same (same_new np (.lst []))
    have hap := h.same (same_new np (.lst []))
    generalize upd H' D (.lst []) = G0 at B1 hTp hap ⊢
    clear hT1 np S e hT h h' e1 S1 B0 hS
    have low : ∀ i, i ≤ xs.length → i ≤ 40 := fun i h => by omega
    refine forL (K := K) (a := D0) (xs := xs) (fun i σ G => Hold (∃ va aw us c k5 k6, σ = [some (.ref s), some (.int many), some (.ref D0), some (.ref va), some (.ref D), k5, k6] ∧ Bun (Pq K) l s D H us c G ∧ c.length = i ∧ Aft c0 c ∧ Ct K G D0 xs c0 ∧ Rq K G (.ref va) aw ∧ Sz 10 aw))
      ⟨a, q, [], [], none, none, rfl, B1, rfl, fun j p h => by simp at h, hTp, hap, zq.mono (by decide)⟩ (fun i σ G _ h => by obtain ⟨_, _, _, _, _, _, _, _, _, _, h, _⟩ := h; exact SqL.of h.1) ?_ ?_
    · rintro i x σ G hx ⟨va, aw, us, c, k5, k6, rfl, B, hcl, A, hT, ha, zaw⟩
      have hi : i < c0.length := by have := (List.getElem?_eq_some_iff.mp hx).1; omega
      have ep : c0[i]? = some c0[i] := List.getElem?_eq_getElem hi
      obtain ⟨zs1, zv1, zr1⟩ := cz0 _ (List.mem_of_getElem? ep)
      obtain ⟨d1, ds1, dv1, dr1, rfl, hd1, r11, r12, r13⟩ := hT.2.2 i x _ hx ep
      generalize c0[i] = pa at ep r11 r12 r13 zs1 zv1 zr1
      have SG := B.1
      have hul : us.length < sizeLine := le1000 (by have := B.len; omega)
      have fin : ∀ (G1 : Hp) (vb vp : Addr) (bw pw : Rat) (px : Addr), Fr s G G1 → Sto l s G1 → Rq K G1 (.ref vb) bw → Sz 10 bw → Pq K G1 (.ref px) ⟨pa.s, pa.s + bw, pw⟩ → Sz 10 pw → 0 < pw → ∀ C : Addr → List V → V → Prop,
          (∀ G2, Hold (∃ va aw us c k5 k6, [some (.ref s), some (.int many), some (.ref D0), some (.ref vb), some (.ref D), some (.ref d1), some (V.ref vp)] = [some (.ref s), some (.int many), some (.ref D0), some (.ref va), some (.ref D), k5, k6] ∧ Bun (Pq K) l s D H us c G2 ∧ c.length = i + 1 ∧ Aft c0 c ∧ Ct K G2 D0 xs c0 ∧ Rq K G2 (.ref va) aw ∧ Sz 10 aw) → G2 = upd G1 D (.lst (us ++ [.ref px])) → C D us (.ref px)) → ∃ (l : Addr) (xs : List V) (y : V), V.ref D = .ref l ∧ [V.ref px] = [y] ∧ G1 l = some (.lst xs) ∧ xs.length < sizeLine ∧ C l xs y := fun G1 vb vp bw pw px f1 S1 hb zb hp zp pp C hC => by
        refine appBun (R := Pq K) (q := ⟨pa.s, pa.s + bw, pw⟩) lastsPq B f1 S1 hp hul fun B2 fr2 at2 => hC _ ⟨⟨vb, bw, _, _, _, _, rfl, B2, by rw [List.length_append, hcl]; rfl, A.snoc (p := ⟨pa.s, pa.s + bw, pw⟩) (p0 := pa) (by rw [hcl]; exact ep) rfl ((zs1.add zb).mono (by decide)) zp pp, (hT.fr f1 SG.some n0).fr fr2 ⟨_, at2⟩ n1, hb.fr fr2 ⟨_, at2⟩, zb⟩⟩ rfl
      (walk_at "vk_vc")
      intro v1 G1 hv1 S1 e1
      have : ∃ q, Rq K G1 v1 q ∧ Sz 10 q ∧ 0 < q := by
        simp only [List.mem_cons, List.not_mem_nil, or_false] at hv1
        rcases hv1 with rfl | rfl | rfl | rfl | rfl | rfl <;> (apply Exists.intro; apply And.intro; (walk_at "vk_vc"); all_goals decide +kernel)
      obtain ⟨pw, hpw, zpw, ppw⟩ := this
      obtain ⟨vp, rfl, hvp⟩ := id hpw
      (walk_at "vk_vc")
      · intro v2 G2 hv2 S2 e2
        have : ∃ q, Rq K G2 v2 q ∧ Sz 10 q := by
          simp only [List.mem_cons, List.not_mem_nil, or_false] at hv2
          rcases hv2 with rfl | rfl | rfl | rfl | rfl <;> (apply Exists.intro; apply And.intro; (walk_at "vk_vc"); all_goals decide +kernel)
        obtain ⟨bw, hbw, zbw⟩ := this
        obtain ⟨vb, rfl, hvb⟩ := id hbw
        have ty2 : tyV K "list" (.ref D) G2 := .inl ⟨rfl, _, SqL.of ((B.fr lastsPq (by focus (walk_at "vk_fr")) (by (walk_at "vk_sto"))).at)⟩
        (walk_at "vk_vc")
        exact fin _ vb vp bw pw _ (by focus (walk_at "vk_fr")) (by (walk_at "vk_sto")) (by (walk_at "vk_cl")) zbw (by unfold Pq; (walk_at "vk_vc")) zpw ppw _ (fun G2 h e => by subst e; exact h)
      · exact .inl ⟨rfl, _, SqL.of ((B.fr lastsPq (by focus (walk_at "vk_fr")) (by (walk_at "vk_sto"))).at)⟩
      · exact fin _ va vp aw pw _ (by focus (walk_at "vk_fr")) (by (walk_at "vk_sto")) (by (walk_at "vk_cl")) zaw (by unfold Pq; (walk_at "vk_vc")) zpw ppw _ (fun G2 h e => by subst e; exact h)
    · rintro σ G ⟨va, aw, us, c, k5, k6, rfl, B, hcl, A, hT, ha, zaw⟩
      exact ⟨_, rfl, z _ _ _ _ B (by omega) (A.cok ok0) (A.cz cz0)⟩
end Vk

set_option maxHeartbeats 4000000
namespace Vk
open PySem L2 Vm Vl
variable {l : Addr} {P : Program} {w : World} {K : PySem.W.Frag} {mg : Str → Option Value} {base : Heap} {k : Nat} {f f1 f2 f3 f4 f5 f6 f7 f8 f9 : Addr} {fd fd1 fd2 fd3 fd4 fd5 fd6 fd7 fd8 fd9 : FuncData}
/-- a piece out of a course that is left alone -/
theorem pick_pc {H : Hp} {xs : List V} {c : List Pc} {v : V} (hc : All2 (Pq K H) xs c) (hv : v ∈ xs) : ∃ p, p ∈ c ∧ Pq K H v p := by
  obtain ⟨i, hi⟩ := List.mem_iff_getElem?.mp hv
  have lt := (List.getElem?_eq_some_iff.mp hi).1
  have ec : c[i]? = some (c[i]'(hc.1 ▸ lt)) := List.getElem?_eq_getElem _
  exact ⟨_, List.mem_of_getElem? ec, hc.2 i v _ hi ec⟩
abbrev s__law_when : Stmt := top 77
abbrev N__law_when : List Str := ["_law_store_here", "_law_course_here", "_law_sort"]
theorem sc__law_when : FnScope N__law_when ["_law_store_here", "_law_course_here"] (defScope s__law_when) := ⟨rfl, rfl, rfl, by decide +kernel, rfl, by decide +kernel, by decide +kernel⟩
abbrev ps__law_when : List Str := ["_law_store_here", "_law_course_here"]
def spWhen (K : PySem.W.Frag) (l : Addr) : Sp := fun vs H Q _ => ∃ (s ac : Addr) (xs : List V) (c : List Pc), vs = [.ref s, .ref ac] ∧ Sto l s H ∧ ac ≠ s ∧ Ct K H ac xs c ∧ Cz 245 925 10 c ∧ 1 ≤ c.length ∧ c.length ≤ 900 ∧
  ∀ a q H', Rq K H' (.ref a) q → Sz 256 q → Sto l s H' → Fr s H H' → Q (.ref a) H'
theorem ok_when (T : Bn mg) (F : Fn K mg "_law_when" s__law_when ps__law_when f fd) (d_law_take : Def P w K mg base k "_law_take" ["_law_store_here", "_law_many"] (spTake K l) f1 fd1) (d_law_minus : Def P w K mg base k "_law_minus" ["_law_a", "_law_b"] (spOp2 K (· - ·)) f2 fd2)
    (d_law_pick : Def P w K mg base k "_law_pick" ["_law_store_here", "_law_things"] (spPick K l) f4 fd4) (d_law_part : Def P w K mg base k "_law_part" ["_law_store_here"] (spDraw K l 5 anyQ) f5 fd5) (d_law_plus : Def P w K mg base k "_law_plus" ["_law_a", "_law_b"] (spOp2 K (· + ·)) f6 fd6)
    (d_law_above : Def P w K mg base k "_law_above" ["_law_store_here"] (spDraw K l 5 posQ) f7 fd7) : Def P w K mg base (k + 1) "_law_when" ps__law_when (spWhen K l) f fd := by
  refine ⟨F.F.ok sc__law_when (fun vs H Q E h => ?_) (fun cdv A outer s H vs Q E hr h => ?_), F.m, F.F.kp, F.b⟩
  · obtain ⟨_, _, _, _, rfl, _⟩ := h
    rfl
  obtain ⟨s, ac, xs, c, rfl, hS, hne, hT, cz, l1, l2, z⟩ := h
  have hraw := hT.1
  have hc := hT.2
  have hxs : SqL K H ac xs := SqL.of hraw
  have hlx := hc.1
  have e0 : c[0]? = some c[0] := List.getElem?_eq_getElem (by omega)
  obtain ⟨x0, hx0, p0⟩ := hc.at e0
  obtain ⟨d0, ds0, dv0, dr0, rfl, hd0, r01, r02, r03⟩ := id p0
  obtain ⟨zs0, zv0, zr0⟩ := cz _ (List.mem_of_getElem? e0)
  have i0x : atI xs 0 = some (.ref d0) := at0 hx0
  obtain ⟨dsa, rfl, hdsa⟩ := id r01
  have en : c[c.length - 1]? = some c[c.length - 1] := List.getElem?_eq_getElem (by omega)
  obtain ⟨xn, hxn, pn⟩ := hc.at en
  obtain ⟨dn, dsn, dvn, drn, rfl, hdn, rn1, rn2, rn3⟩ := id pn
  have zn := (cz _ (List.mem_of_getElem? en)).1
  have inx : atI xs ((xs.length : Int) - 1) = some (.ref dn) := at_of (j := c.length - 1) (by omega) hxn
  obtain ⟨dna, rfl, hdna⟩ := id rn1
  generalize c[c.length - 1] = pl at en pn rn1 rn2 rn3 zn hdna
  generalize c[0] = pf at e0 p0 r01 r02 r03 zs0 zv0 zr0 hdsa
  refine ⟨_, (pss_cons (ps_set (i := 2) sc__law_when.nd rfl (Or.inl rfl) (pcall d_law_take hr (pa_cons (pv 0) (pa_cons pe_int pa_nil))))
      (pss_cons (ps_if (pt_cmpR op_eq (pv 2) pe_int (nomark _))
        (pss_one (ps_ret (pcall d_law_minus hr (pa_cons (pe_ix ix_tup (pe_ix ix_list (pv 1) pe_int (fun _ _ => rfl)) pe_int (fun _ _ => rfl)) (pa_cons (pcall d_law_pick hr (pa_cons (pv 0) (pa_cons (pe_lst (pa_cons (pe_tup (pa_cons pe_int (pa_cons pe_int pa_nil))) (pa_cons (pe_tup (pa_cons pe_int (pa_cons pe_int pa_nil))) (pa_cons (pe_tup (pa_cons pe_int (pa_cons pe_int pa_nil))) pa_nil)))) pa_nil))) pa_nil)))))
        pss_nil)
      (pss_cons (ps_if (pt_cmpR op_eq (pv 2) pe_int (nomark _))
        (pss_one (ps_ret (pcall d_law_part hr (pa_cons (pv 0) pa_nil))))
        pss_nil)
      (pss_cons (ps_if (pt_cmpR op_eq (pv 2) pe_int (nomark _))
        (pss_one (ps_ret (pcall d_law_plus hr (pa_cons (pe_ix ix_tup (pe_ix ix_list (pv 1) (pe_op op_sub (pe_callB call_len_seq (by rfl) T.len_ PySem.boot_len (pa_cons (pv 1) pa_nil)) pe_int) (fun _ _ => rfl)) pe_int (fun _ _ => rfl)) (pa_cons (pcall d_law_above hr (pa_cons (pv 0) pa_nil)) pa_nil)))))
        pss_nil)
      (pss_cons (ps_if (pt_cmpR op_eq (pv 2) pe_int (nomark _))
        (pss_one (ps_ret (pcall d_law_plus hr (pa_cons (pe_ix ix_tup (pcall d_law_pick hr (pa_cons (pv 0) (pa_cons (pv 1) pa_nil))) pe_int (fun _ _ => rfl)) (pa_cons (pcall d_law_pick hr (pa_cons (pv 0) (pa_cons (pe_lst (pa_cons (pe_tup (pa_cons pe_int (pa_cons pe_int pa_nil))) (pa_cons (pe_tup (pa_cons (pe_un un_neg pe_int) (pa_cons pe_int pa_nil))) (pa_cons (pe_tup (pa_cons pe_int (pa_cons pe_int pa_nil))) pa_nil)))) pa_nil))) pa_nil)))))
        pss_nil)
      (pss_one (ps_ret (pe_ix ix_tup (pcall d_law_pick hr (pa_cons (pv 0) (pa_cons (pv 1) pa_nil))) pe_int (fun _ _ => rfl))))))))), ?_⟩
  have t8 : (8 : Int) < 2 ^ 64 := by decide
  have x32 : xs.length < 2 ^ 32 := by omega
  have x0 : 0 < xs.length := by omega
  have fin : ∀ a q H' m, Rq K H' (.ref a) q → Sz m q → m ≤ 256 → Sto l s H' → Fr s H H' → Q (.ref a) H' := fun a q H' m h1 h2 h3 h4 h5 => z a q H' h1 (h2.mono h3) h4 h5
  have got : ∀ v G, v ∈ xs → Fr s H G → ∃ (pa psa : Addr) (pv pr : V) (pp : Pc), v = .ref pa ∧ SqT K G pa [.ref psa, pv, pr] ∧ Rq K G (.ref psa) pp.s ∧ SqT K G psa [.int pp.s.num, .int (pp.s.den : Int)] ∧ Sz 245 pp.s := fun v G hv e => by
    obtain ⟨pp, hm, pq⟩ := pick_pc hc hv
    obtain ⟨pa, ps, pv, pr, rfl, h1, h2, h3, h4⟩ := pq.fr e hS.some
    obtain ⟨psa, rfl, h5⟩ := id h2
    exact ⟨pa, psa, pv, pr, pp, rfl, h1, h2, h5, (cz pp hm).1⟩
  (walk_at "vk_vc")
  all_goals first
    | (focus (refine' fin _ _ _ _ ?_ ?_ ?_ ?_ ?_; (walk_at "vk_vc"); done))
    | (have zz2 := zn.add zq; focus (refine' fin _ _ _ _ ?_ ?_ ?_ ?_ ?_; (walk_at "vk_vc"); done))
    | (intro v2 G2 hv2 S2 e2
       have : ∃ q, Rq K G2 v2 q ∧ Sz 10 q := by
         simp only [List.mem_cons, List.not_mem_nil, or_false] at hv2
         rcases hv2 with rfl | rfl | rfl <;> (apply Exists.intro; apply And.intro; (walk_at "vk_vc"); all_goals first | exact zl01 | exact zl1m | exact zl11)
       obtain ⟨q2, rq2, zq2⟩ := this
       obtain ⟨q2a, rfl, hq2a⟩ := id rq2
       have zz2 := zs0.sub zq2
       (walk_at "vk_vc")
       all_goals first
        | (focus (refine' fin _ _ _ _ ?_ ?_ ?_ ?_ ?_; (walk_at "vk_vc"); done)))
    | (intro v G hv S e
       obtain ⟨pa, psa, pv, pr, pp, rfl, g1, g2, g3, g4⟩ := got v G hv (by focus (walk_at "vk_fr"))
       (walk_at "vk_vc")
       all_goals first
        | (focus (refine' fin _ _ _ _ ?_ ?_ ?_ ?_ ?_; (walk_at "vk_vc"); done))
        | (intro v2 G2 hv2 S2 e2
           have : ∃ q, Rq K G2 v2 q ∧ Sz 10 q := by
             simp only [List.mem_cons, List.not_mem_nil, or_false] at hv2
             rcases hv2 with rfl | rfl | rfl <;> (apply Exists.intro; apply And.intro; (walk_at "vk_vc"); all_goals first | exact zl1m | exact zlnm | exact zl12)
           obtain ⟨q2, rq2, zq2⟩ := this
           obtain ⟨q2a, rfl, hq2a⟩ := id rq2
           have zz2 := g4.add zq2
           (walk_at "vk_vc")
           all_goals first
            | (focus (refine' fin _ _ _ _ ?_ ?_ ?_ ?_ ?_; (walk_at "vk_vc"); done))))
end Vk

set_option maxHeartbeats 4000000
namespace Vk
open PySem L2 Vm Vl
variable {l : Addr} {P : Program} {w : World} {K : PySem.W.Frag} {mg : Str → Option Value} {base : Heap} {k : Nat} {f f1 f2 f3 f4 f5 f6 f7 f8 f9 : Addr} {fd fd1 fd2 fd3 fd4 fd5 fd6 fd7 fd8 fd9 : FuncData}
/-! ### data of courses -/
def cdat (c : List Pc) : PyData := .list (c.map dpc)
theorem Ct.dd {H : Hp} {a : Addr} {xs : List V} {c : List Pc} (h : Ct K H a xs c) : Dp K H (.ref a) (cdat c) := .lst (SqL.of h.1) (dpall_of (fun _ _ h => h.dp) h.2)
theorem tree_c (n : Nat) {c : List Pc} (h : c.length ≤ 900) : Tree (n + 3) (cdat c) := .lst (by rw [List.length_map]; omega) fun d hd => by
  obtain ⟨p, _, rfl⟩ := List.mem_map.mp hd
  exact tree_dpc n p
theorem Ct.copyq {H : Hp} {a p : Addr} {xs : List V} {c : List Pc} (n : H p = none) (h : Ct K H a xs c) : Cq K (upd H p (.lst xs)) p c := Ct.cq ⟨upd_same, h.2.imp fun _ _ h => h.same (same_new n _)⟩
theorem Ct.copy {H : Hp} {a p : Addr} {xs : List V} {c : List Pc} (n : H p = none) (h : Ct K H a xs c) : Ct K (upd H p (.lst xs)) p xs c := ⟨upd_same, h.2.imp fun _ _ h => h.same (same_new n _)⟩
theorem Worst.uniq {c : List Pc} {s e w1 w2 a b : Rat} (W1 : Worst c s e w1) (W2 : Worst c s e w2) (na : nowf c s = some a) (nb : nowf c e = some b) : w1 = w2 := by
  have h1 := W2.up a b na nb w1 (W1.mem a b na nb)
  have h2 := W1.up a b na nb w2 (W2.mem a b na nb)
  grind
theorem now_some {c : List Pc} {p0 p : Pc} {s t : Rat} (ok : Cok c) (e0 : c[0]? = some p0) (h : pcAt c s = some p) (ht : ¬ t < s) : ∃ w, nowf c t = some w := by
  cases g : nowf c t with
  | some w => exact ⟨w, rfl⟩
  | none =>
    rw [now_pc] at g
    have h1 := (pcAt_first ok e0 (t := t)).mp (Option.map_eq_none_iff.mp g)
    have h2 : ¬ s < p0.s := fun g => by rw [(pcAt_first ok e0 (t := s)).mpr g] at h; cases h
    grind
abbrev s__law_stretch_right : Stmt := top 78
abbrev N__law_stretch_right : List Str := ["_law_course_here", "_law_one", "_law_other", "_law_row", "_law_pair", "_law_told_here"]
theorem sc__law_stretch_right : FnScope N__law_stretch_right ["_law_course_here", "_law_one", "_law_other"] (defScope s__law_stretch_right) := ⟨rfl, rfl, rfl, by decide +kernel, rfl, by decide +kernel, by decide +kernel⟩
abbrev ps__law_stretch_right : List Str := ["_law_course_here", "_law_one", "_law_other"]
def spStretch (K : PySem.W.Frag) : Sp := fun vs H Q _ => ∃ (ac : Addr) (y u : V) (xs : List V) (c : List Pc) (s e : Rat), vs = [.ref ac, y, u] ∧ Ct K H ac xs c ∧ Rq K H y s ∧ Rq K H u e ∧ Cz 256 940 45 c ∧ Sz 256 s ∧ Sz 256 e ∧ Cok c ∧ 1 ≤ c.length ∧ c.length ≤ 60 ∧ ∀ H', Same H H' → Q (.bl true) H'
theorem ok_stretch (T : Bn mg) (F : Fn K mg "_law_stretch_right" s__law_stretch_right ps__law_stretch_right f fd) (d_law_told : Def P w K mg base k "_law_told" ["_law_course_here", "_law_first", "_law_last"] (spToldW K) f1 fd1)
    (d_law_right : Def P w K mg base k "_law_right" ["_law_course_here", "_law_first", "_law_last", "_law_told_here"] (spRightW K) f2 fd2) (d_law_same : Def P w K mg base k "_law_same" ["_law_value", "_law_due"] (spSame K 4) f3 fd3) :
    Def P w K mg base (k + 1) "_law_stretch_right" ps__law_stretch_right (spStretch K) f fd := by
  refine ⟨F.F.ok sc__law_stretch_right (fun vs H Q E h => ?_) (fun cdv A outer s H vs Q E hr h => ?_), F.m, F.F.kp, F.b⟩
  · obtain ⟨_, _, _, _, _, _, _, rfl, _⟩ := h
    rfl
  obtain ⟨ac, y, u, xs, c, s, en, rfl, hT, hy, hu, cz, zs, ze, ok, l1, l2, z⟩ := h
  have hraw := hT.1
  have hc := hT.2
  have hxs : SqL K H ac xs := SqL.of hraw
  have hlx := hc.1
  have l900 : c.length ≤ 900 := by omega
  obtain ⟨ya, rfl, hya⟩ := id hy
  obtain ⟨ua, rfl, hua⟩ := id hu
  have e0 : c[0]? = some c[0] := List.getElem?_eq_getElem (by omega)
  refine ⟨_, (pss_cons (ps_set (i := 3) sc__law_stretch_right.nd rfl (Or.inl rfl) (pe_callTy call_list_of (by rfl) T.list_ (by decide +kernel) (pa_cons (pv 0) pa_nil)))
      (pss_cons (ps_for PassesOwn.never rfl (pi_list (pe_lst (pa_cons (pe_tup (pa_cons (pv 1) (pa_cons (pv 2) pa_nil))) (pa_cons (pe_tup (pa_cons (pv 2) (pa_cons (pv 1) pa_nil))) (pa_cons (pe_tup (pa_cons (pv 1) (pa_cons (pv 1) pa_nil))) (pa_cons (pe_tup (pa_cons (pv 2) (pa_cons (pv 2) pa_nil))) pa_nil)))))) (pg_name (i := 4) sc__law_stretch_right.nd rfl (Or.inl rfl))
        (pss_cons (ps_set (i := 5) sc__law_stretch_right.nd rfl (Or.inl rfl) (pcall d_law_told hr (pa_cons (pv 3) (pa_cons (pe_ix ix_tup (pv 4) pe_int (fun _ _ => rfl)) (pa_cons (pe_ix ix_tup (pv 4) pe_int (fun _ _ => rfl)) pa_nil)))))
        (pss_cons (ps_if (PW.pt (pw_or (pt_not (pt_val (pcall d_law_right hr (pa_cons (pv 0) (pa_cons (pe_ix ix_tup (pv 4) pe_int (fun _ _ => rfl)) (pa_cons (pe_ix ix_tup (pv 4) pe_int (fun _ _ => rfl)) (pa_cons (pv 5) pa_nil))))))) (pw_or1 (pt_not (pt_val (pcall d_law_same hr (pa_cons (pv 3) (pa_cons (pv 0) pa_nil))))))))
          (pss_one (ps_ret pe_bl))
          pss_nil)
        (pss_one (ps_if (pt_not (pt_val (pcall d_law_same hr (pa_cons (pcall d_law_told hr (pa_cons (pv 3) (pa_cons (pe_ix ix_tup (pv 4) pe_int (fun _ _ => rfl)) (pa_cons (pe_ix ix_tup (pv 4) pe_int (fun _ _ => rfl)) pa_nil)))) (pa_cons (pv 5) pa_nil)))))
          (pss_one (ps_ret pe_bl))
          pss_nil)))))
      (pss_one (ps_ret pe_bl)))), ?_⟩
  (walk_at "vk_vc")
  rename_i R nR b1 nb1 b2 nb2 b3 nb3 b4 nb4
  obtain ⟨G0, hG0⟩ : ∃ G0, G0 = upd (upd (upd (upd (upd (upd H R (.lst xs)) b1 (.tup [.ref ya, .ref ua])) b2 (.tup [.ref ua, .ref ya])) b3 (.tup [.ref ya, .ref ya])) b4 (.tup [.ref ua, .ref ua])) p (.lst [.ref b1, .ref b2, .ref b3, .ref b4]) := ⟨_, rfl⟩
  have sG : Same H G0 := by rw [hG0]; exact (by (walk_at "vk_same"))
  have hTR : Ct K G0 R xs c := by rw [hG0]; focus (walk_at "vk_cl")
  have f1 : SqT K G0 b1 [.ref ya, .ref ua] := by rw [hG0]; focus (walk_at "vk_cl")
  have f2 : SqT K G0 b2 [.ref ua, .ref ya] := by rw [hG0]; focus (walk_at "vk_cl")
  have f3 : SqT K G0 b3 [.ref ya, .ref ya] := by rw [hG0]; focus (walk_at "vk_cl")
  have f4 : SqT K G0 b4 [.ref ua, .ref ua] := by rw [hG0]; focus (walk_at "vk_cl")
  have hL : SqL K G0 p [.ref b1, .ref b2, .ref b3, .ref b4] := by rw [hG0]; exact SqL.of upd_same
  rw [← hG0]
  clear hG0 np nb1 nb2 nb3 nb4 nR
  have hT0 := hT.same sG
  have hy0 := hy.same sG
  have hu0 := hu.same sG
  have items : ∀ x ∈ ([.ref b1, .ref b2, .ref b3, .ref b4] : List V), ∃ (xa v1 v2 : Addr) (t1 t2 : Rat), x = .ref xa ∧ SqT K G0 xa [.ref v1, .ref v2] ∧ Rq K G0 (.ref v1) t1 ∧ Rq K G0 (.ref v2) t2 ∧ Sz 256 t1 ∧ Sz 256 t2 := fun x hx => by
    simp only [List.mem_cons, List.not_mem_nil, or_false] at hx
    rcases hx with rfl | rfl | rfl | rfl
    · exact ⟨b1, ya, ua, s, en, rfl, f1, hy0, hu0, zs, ze⟩
    · exact ⟨b2, ua, ya, en, s, rfl, f2, hu0, hy0, ze, zs⟩
    · exact ⟨b3, ya, ya, s, s, rfl, f3, hy0, hy0, zs, zs⟩
    · exact ⟨b4, ua, ua, en, en, rfl, f4, hu0, hu0, ze, ze⟩
  clear f1 f2 f3 f4 hy hu hy0 hu0 hya hua hxs hc hraw
  refine forL (K := K) (a := p) (xs := [.ref b1, .ref b2, .ref b3, .ref b4]) (fun i σ G => Hold (∃ k4 k5, σ = [some (.ref ac), some (.ref ya), some (.ref ua), some (.ref R), k4, k5] ∧ Same G0 G)) ⟨none, none, rfl, Same.refl _⟩ (fun i σ G _ h => by obtain ⟨_, _, _, s1⟩ := h; exact s1.seq hL) ?_ ?_
  · rintro i x σ G hx ⟨k4, k5, rfl, sg'⟩
    obtain ⟨xa, v1, v2, t1, t2, rfl, fx, r1, r2, z1, z2⟩ := items x (List.mem_of_getElem? hx)
    replace fx := sg'.sqt fx
    replace r1 := r1.same sg'
    replace r2 := r2.same sg'
    have hTg := hT0.same sg'
    have hTRg := hTR.same sg'
    have hCRg := hTRg.cq
    (walk_at "vk_vc")
    intro tt G1 e1 rt
    have rt' := rt
    have hTg1 := hTg.same e1
    have hTRg1 := hTRg.same e1
    have hxg1 := hTRg1.1
    have tC := tree_c 1 (c := c) (by omega)
    rcases rt with ⟨hn, ht⟩ | ⟨hp, hlt, ht⟩ | ⟨⟨pp, hp⟩, hge, w, v, ht, hv, zw, W⟩
    · (walk_at "vk_vc")
      intro tt2 G2 e2 rt2
      rcases rt2 with ⟨_, ht2⟩ | ⟨⟨_, hp2⟩, _⟩ | ⟨⟨_, hp2⟩, _⟩
      · (walk_at "vk_vc")
        all_goals first | exact ⟨⟨_, _, rfl, (by (walk_at "vk_same"))⟩⟩
      · rw [hn] at hp2; cases hp2
      · rw [hn] at hp2; cases hp2
    · (walk_at "vk_vc")
      intro tt2 G2 e2 rt2
      rcases rt2 with ⟨hn2, _⟩ | ⟨_, _, ht2⟩ | ⟨_, hge2, _⟩
      · obtain ⟨_, hp⟩ := hp; rw [hn2] at hp; cases hp
      · (walk_at "vk_vc")
        all_goals first | exact ⟨⟨_, _, rfl, (by (walk_at "vk_same"))⟩⟩
      · exact absurd hlt hge2
    · (walk_at "vk_vc")
      intro tt2 G2 e2 rt2
      rcases rt2 with ⟨hn2, _⟩ | ⟨_, hlt2, ht2⟩ | ⟨_, _, w2, v2', ht2, hv2, zw2, W2⟩
      · rw [hn2] at hp; cases hp
      · exact absurd hlt2 hge
      · obtain ⟨va, na⟩ := now_some ok e0 hp (t := t1) (fun g => absurd g Rat.lt_irrefl)
        obtain ⟨vb, nb⟩ := now_some ok e0 hp hge
        have ew := W2.uniq W na nb
        subst ew
        (walk_at "vk_vc")
        all_goals first | exact ⟨⟨_, _, rfl, (by (walk_at "vk_same"))⟩⟩
  · rintro σ G ⟨k4, k5, rfl, sg'⟩
    exact z _ (sG.trans sg')
end Vk

set_option maxHeartbeats 4000000
namespace Vk
open PySem L2 Vm Vl
variable {l : Addr} {P : Program} {w : World} {K : PySem.W.Frag} {mg : Str → Option Value} {base : Heap} {k : Nat} {f f1 f2 f3 f4 f5 f6 f7 f8 f9 : Addr} {fd fd1 fd2 fd3 fd4 fd5 fd6 fd7 fd8 fd9 : FuncData}
theorem frAt {s b : Addr} {o : HO} {H H' : Hp} (e : Fr s H H') (n : b ≠ s) (h : H b = some o) : H' b = some o := e b o h n
theorem cutG {t u : TS} {D : Ends} {σ : L2.St} {H : Hp} (mid : L2.St → Hp → Prop) (key : ∀ σ' H', mid σ' H' → u D σ' H') (h : ∀ u' : TS, (∀ σ' H', mid σ' H' → u' D σ' H') → tSeq t u' D σ H) : tSeq t u D σ H := h u key
theorem All2.set {α : Type} {R : V → α → Prop} {xs : List V} {c : List α} {x : V} {p : α} (h : All2 R xs c) (r : R x p) (j : Nat) : All2 R (xs.set j x) (c.set j p) := by
  refine ⟨by rw [List.length_set, List.length_set]; exact h.1, fun i y q hy hq => ?_⟩
  rw [List.getElem?_set] at hy hq
  by_cases e : j = i
  · rw [if_pos e] at hy hq
    split at hy
    · split at hq
      · cases Option.some.inj hy; cases Option.some.inj hq; exact r
      · cases hq
    · cases hy
  · rw [if_neg e] at hy hq
    exact h.2 i y q hy hq
theorem Bun.set {α : Type} {R : Hp → V → α → Prop} {s D : Addr} {H0 G : Hp} {us : List V} {c : List α} {x : V} {p : α} (h : Bun R l s D H0 us c G) (L : Lasts R) (r : R G x p) (j : Nat) : Bun R l s D H0 (us.set j x) (c.set j p) (upd G D (.lst (us.set j x))) := by
  obtain ⟨h1, h2, h3, h4, h5, h6, h7⟩ := h
  have fr : Fr D G (upd G D (.lst (us.set j x))) := Fr.upd _
  refine ⟨h1.upd h3 h4, fun b o hb hn => ?_, h3, h4, h5, upd_same, (h7.imp fun _ _ r => L fr ⟨_, h6⟩ r).set (L fr ⟨_, h6⟩ r) j⟩
  rw [upd_ne (ne_of_none hb h5)]
  exact h2 b o hb hn
theorem Cok.set {c : List Pc} {n : Nat} {p q : Pc} (ok : Cok c) (e : c[n]? = some p) (h1 : q.s = p.s) (h2 : q.r = p.r) : Cok (c.set n q) := by
  have key : ∀ (i : Nat) (x : Pc), (c.set n q)[i]? = some x → ∃ y, c[i]? = some y ∧ x.s = y.s ∧ x.r = y.r := fun i x hx => by
    rw [List.getElem?_set] at hx
    by_cases g : n = i
    · rw [if_pos g] at hx
      split at hx
      · cases hx
        subst g
        exact ⟨p, e, h1, h2⟩
      · cases hx
    · rw [if_neg g] at hx
      exact ⟨x, hx, rfl, rfl⟩
  refine ⟨fun x hx => ?_, fun i x y ex ey => ?_⟩
  · obtain ⟨i, hi⟩ := List.mem_iff_getElem?.mp hx
    obtain ⟨y, e1, _, e2⟩ := key i x hi
    rw [e2]
    exact ok.1 y (List.mem_of_getElem? e1)
  · obtain ⟨x', a1, a2, _⟩ := key i x ex
    obtain ⟨y', b1, b2, _⟩ := key (i + 1) y ey
    rw [a2, b2]
    exact ok.2 i x' y' a1 b1
abbrev s__law_long_right : Stmt := top 79
abbrev N__law_long_right : List Str := ["_law_store_here", "_law_course_here", "_law_last", "_law_first", "_law_end", "_law_row"]
theorem sc__law_long_right : FnScope N__law_long_right ["_law_store_here"] (defScope s__law_long_right) := ⟨rfl, rfl, rfl, by decide +kernel, rfl, by decide +kernel, by decide +kernel⟩
abbrev ps__law_long_right : List Str := ["_law_store_here"]
def spLong (K : PySem.W.Frag) (l : Addr) : Sp := fun vs H Q _ => ∃ (s : Addr), vs = [.ref s] ∧ Sto l s H ∧ ∀ H', Sto l s H' → Fr s H H' → Q (.bl true) H'
theorem ok_long (T : Bn mg) (F : Fn K mg "_law_long_right" s__law_long_right ps__law_long_right f fd) (d_law_some_course : Def P w K mg base k "_law_some_course" ["_law_store_here", "_law_many"] (spSome K l) f1 fd1) (d_law_take : Def P w K mg base k "_law_take" ["_law_store_here", "_law_many"] (spTake K l) f2 fd2)
    (d_law_plus : Def P w K mg base k "_law_plus" ["_law_a", "_law_b"] (spOp2 K (· + ·)) f3 fd3) (d_law_pick : Def P w K mg base k "_law_pick" ["_law_store_here", "_law_things"] (spPick K l) f4 fd4) (d_law_above : Def P w K mg base k "_law_above" ["_law_store_here"] (spDraw K l 5 posQ) f5 fd5)
    (d_law_right : Def P w K mg base k "_law_right" ["_law_course_here", "_law_first", "_law_last", "_law_told_here"] (spRightW K) f6 fd6) (d_law_told : Def P w K mg base k "_law_told" ["_law_course_here", "_law_first", "_law_last"] (spToldW K) f7 fd7) (d_law_same : Def P w K mg base k "_law_same" ["_law_value", "_law_due"] (spSame K 4) f8 fd8) :
    Def P w K mg base (k + 1) "_law_long_right" ps__law_long_right (spLong K l) f fd := by
  refine ⟨F.F.ok sc__law_long_right (fun vs H Q E h => ?_) (fun cdv A outer s H vs Q E hr h => ?_), F.m, F.F.kp, F.b⟩
  · obtain ⟨_, rfl, _⟩ := h
    rfl
  obtain ⟨s, rfl, hS, z⟩ := h
  refine ⟨_, (pss_cons (ps_set (i := 1) sc__law_long_right.nd rfl (Or.inl rfl) (pcall d_law_some_course hr (pa_cons (pv 0) (pa_cons pe_int pa_nil))))
      (pss_cons (ps_set (i := 2) sc__law_long_right.nd rfl (Or.inl rfl) (pe_ix ix_list (pv 1) pe_int (fun _ _ => rfl)))
      (pss_cons (ps_if (pt_cmpR op_eq (pcall d_law_take hr (pa_cons (pv 0) (pa_cons pe_int pa_nil))) pe_int (nomark _))
        (pss_one (ps_asg (pe_tup (pa_cons (pe_ix ix_tup (pv 2) pe_int (fun _ _ => rfl)) (pa_cons (pcall d_law_plus hr (pa_cons (pe_ix ix_tup (pv 2) pe_int (fun _ _ => rfl)) (pa_cons (pe_tup (pa_cons pe_int (pa_cons pe_int pa_nil))) pa_nil))) (pa_cons (pe_ix ix_tup (pv 2) pe_int (fun _ _ => rfl)) pa_nil)))) (pg_sub (pv 1) pe_int set_list)))
        pss_nil)
      (pss_cons (ps_set (i := 3) sc__law_long_right.nd rfl (Or.inl rfl) (pe_ix ix_tup (pe_ix ix_list (pv 1) (pcall d_law_take hr (pa_cons (pv 0) (pa_cons pe_int pa_nil))) (fun _ _ => rfl)) pe_int (fun _ _ => rfl)))
      (pss_cons (ps_set (i := 4) sc__law_long_right.nd rfl (Or.inl rfl) (pcall d_law_plus hr (pa_cons (pe_ix ix_tup (pv 2) pe_int (fun _ _ => rfl)) (pa_cons (pcall d_law_pick hr (pa_cons (pv 0) (pa_cons (pe_lst (pa_cons (pe_tup (pa_cons pe_int (pa_cons pe_int pa_nil))) (pa_cons (pe_tup (pa_cons pe_int (pa_cons pe_int pa_nil))) (pa_cons (pcall d_law_above hr (pa_cons (pv 0) pa_nil)) pa_nil)))) pa_nil))) pa_nil))))
      (pss_cons (ps_set (i := 5) sc__law_long_right.nd rfl (Or.inl rfl) (pe_callTy call_list_of (by rfl) T.list_ (by decide +kernel) (pa_cons (pv 1) pa_nil)))
      (pss_one (ps_ret (pe_and (pcall d_law_right hr (pa_cons (pv 1) (pa_cons (pv 3) (pa_cons (pv 4) (pa_cons (pcall d_law_told hr (pa_cons (pv 5) (pa_cons (pv 3) (pa_cons (pv 4) pa_nil)))) pa_nil))))) (pe_one (pcall d_law_same hr (pa_cons (pv 5) (pa_cons (pv 1) pa_nil))))))))))))), ?_⟩
  have t2 : (2 : Int) < 2 ^ 64 := by decide
  have t3 : (3 : Int) < 2 ^ 64 := by decide
  (walk_at "vk_vc")
  · exact Nat.le_refl _
  intro D us c H1 B hl ok cz
  replace hl : c.length = 40 := hl
  have hul := B.len
  have S1 := B.1
  have e39 : c[39]? = some c[39] := List.getElem?_eq_getElem (by omega)
  obtain ⟨xn, hxn, pn⟩ := B.2.2.2.2.2.2.at e39
  obtain ⟨dn, dsn, dvn, drn, rfl, hdn, rn1, rn2, rn3⟩ := id pn
  obtain ⟨zs, zv, zr⟩ := cz _ (List.mem_of_getElem? e39)
  have i39 : atI us 39 = some (.ref dn) := at_of (j := 39) rfl hxn
  have hD : SqL K H1 D us := SqL.of B.at
  generalize c[39] = pl at e39 pn rn1 rn2 rn3 zs zv zr
  obtain ⟨dna, rfl, hdna⟩ := id rn1
  refine ⟨_, rfl, D, us, _, _, rfl, rfl, hD, i39, ?_⟩
  dsimp only [gName]
  refine cutG (fun σ' G => ∃ us c, σ' = [some (.ref s), some (.ref D), some (.ref dn), none, none, none] ∧ Bun (Pq K) l s D H us c G ∧ c.length = 40 ∧ Cok c ∧ Cz 245 940 10 c ∧ SqT K G dn [.ref dna, dvn, drn] ∧ Rq K G (.ref dna) pl.s) ?_ ?_
  · clear hD i39 hxn pn rn1 rn2 rn3 hdn hdna S1 hul cz ok hl e39 B zr zv
    rintro σ G ⟨us, c, rfl, B, hl, ok, cz, hdn, rn1⟩
    obtain ⟨_, e', hdna⟩ := id rn1
    cases e'
    have hT : Ct K G D us c := ⟨B.at, B.2.2.2.2.2.2⟩
    have SG := B.1
    have nDs := B.2.2.1
    have fG := B.2.1
    have hul := B.len
    have hs := SG.some
    refine ⟨_, rfl, _, rfl, s, 3, rfl, SG, t3, fun r G1 r0 r1 S1 e1 => ?_⟩
    obtain ⟨n, rfl⟩ : ∃ n : Nat, r = (n : Int) := ⟨r.toNat, by omega⟩
    have hn : n < c.length := by omega
    have ep : c[n]? = some c[n] := List.getElem?_eq_getElem hn
    obtain ⟨x1, hx1, pp⟩ := hT.2.at ep
    obtain ⟨d1, ds1, dv1, dr1, rfl, hd1, r11, r12, r13⟩ := pp.fr e1 hs
    have z1 := (cz _ (List.mem_of_getElem? ep)).1.mono (show 245 ≤ 256 by decide)
    generalize c[n] = pa at ep pp r11 r12 r13 z1
    obtain ⟨d1a, rfl, hd1a⟩ := id r11
    have i1 : atI us (n : Int) = some (.ref d1) := at_of (j := n) rfl hx1
    replace hT := hT.fr e1 hs nDs
    replace rn1 := rn1.fr e1 hs
    replace hdn := sqt_fr e1 hs hdn
    replace hdna := sqt_fr e1 hs hdna
    have f1 := fG.trans e1
    have hx : SqL K G1 D us := SqL.of hT.1
    have cz' : Cz 256 940 45 c := fun p hp => ⟨(cz p hp).1.mono (by decide), (cz p hp).2.1, (cz p hp).2.2.mono (by decide)⟩
    have tC := tree_c 1 (c := c) (by omega)
    have l1 : 1 ≤ c.length := by omega
    have l60 : c.length ≤ 60 := by omega
    have l900 : c.length ≤ 900 := by omega
    clear B e1 fG hs SG hx1 pp r12 r13
    (walk_at "vk_vc")
    intro v2 G2 hv2 S2 e2
    have : ∃ q, Rq K G2 v2 q ∧ Sz 10 q := by
      simp only [List.mem_cons, List.not_mem_nil, or_false] at hv2
      rcases hv2 with rfl | rfl | rfl <;> (apply Exists.intro; apply And.intro; (walk_at "vk_vc"); all_goals first | exact zl01 | exact zl1m | exact zq.mono (by decide))
    obtain ⟨q2, rq2, zq2⟩ := this
    obtain ⟨q2a, rfl, hq2a⟩ := id rq2
    have zz2 : Sz 256 (pl.s + q2) := zs.add zq2
    (walk_at "vk_vc")
    intro tt G3 e3 rt
    have rt' := rt
    (walk_at "vk_vc")
    refine z _ ?_ ?_ <;> ((walk_at "vk_vc"); done)
  · intro u' key
    have hs := S1.some
    have nDs := B.2.2.1
    have hraw := B.at
    have hix : ixN us.length 39 = some 39 := by rw [hul, hl]; rfl
    (walk_at "vk_vc")
    · have Bn : Bun (Pq K) l s D H (us.set 39 (.ref p)) (c.set 39 ⟨pl.s, pl.v + 100, pl.r⟩) (upd (upd H' p (.tup [.ref dna, .ref a, drn])) D (.lst (us.set 39 (.ref p)))) :=
        Bun.set (B.fr lastsPq (by focus (walk_at "vk_fr")) (by (walk_at "vk_sto"))) lastsPq (by unfold Pq; (walk_at "vk_vc")) 39
      have nn : ∀ {b : Addr} {xs : List V}, SqT K H1 b xs → SqT K (upd (upd H' p (.tup [.ref dna, .ref a, drn])) D (.lst (us.set 39 (.ref p)))) b xs := fun h => sqt_fr (Fr.upd _) ⟨us, by (walk_at "vk_raw")⟩ (by (walk_at "vk_cl"))
      refine key _ _ ⟨_, _, rfl, Bn, by rw [List.length_set]; exact hl, ok.set e39 rfl rfl, fun x hx => ?_, nn hdn, ⟨dna, rfl, nn hdna⟩⟩
      rcases List.mem_or_eq_of_mem_set hx with hx | rfl
      · exact ⟨(cz x hx).1, (cz x hx).2.1.mono (by decide), (cz x hx).2.2⟩
      · exact ⟨zs, (zv.add zlh1).mono (by decide), zr⟩
    · exact key _ _ ⟨us, c, rfl, B.fr lastsPq e S, hl, ok, fun p hp => ⟨(cz p hp).1, (cz p hp).2.1.mono (by decide), (cz p hp).2.2⟩, sqt_fr e hs hdn, rn1.fr e hs⟩
end Vk

set_option maxHeartbeats 4000000
namespace Vk
open PySem L2 Vm Vl
variable {P : Program} {w : World} {K : PySem.W.Frag} {mg : Str → Option Value} {base : Heap} {k : Nat} {f f1 f2 f3 f4 f5 f6 f7 f8 f9 f10 f11 f12 : Addr} {fd fd1 fd2 fd3 fd4 fd5 fd6 fd7 fd8 fd9 fd10 fd11 fd12 : FuncData}
def spLaw (K : PySem.W.Frag) : Sp := fun vs H Q _ => ∃ (a : Addr) (ns : List Int), vs = [.ref a] ∧ SqL K H a (ns.map V.int) ∧ ns.length ≤ 63 ∧ ∀ H', Q (.bl true) H'
abbrev s_law : Stmt := top 80
abbrev N_law : List Str := ["_law_script", "_law_store_here", "_law_many", "_law_first", "_law_second", "_law_k", "_law_last"]
theorem sc_law : FnScope N_law ["_law_script"] (defScope s_law) := ⟨rfl, rfl, rfl, by decide +kernel, rfl, by decide +kernel, by decide +kernel⟩
abbrev ps_law : List Str := ["_law_script"]
theorem ok_law (T : Bn mg) (F : Fn K mg "law" s_law ps_law f fd) (d_law_store : Def P w K mg base k "_law_store" ["_law_script"] (spStore K) f1 fd1) (d_law_take : ∀ l, Def P w K mg base k "_law_take" ["_law_store_here", "_law_many"] (spTake K l) f2 fd2) (d_law_size : ∀ l, Def P w K mg base k "_law_size" ["_law_store_here", "_law_least", "_law_top"] (spSize K l) f3 fd3)
    (d_law_some_course : ∀ l, Def P w K mg base k "_law_some_course" ["_law_store_here", "_law_many"] (spSome K l) f4 fd4) (d_law_wide_course : ∀ l, Def P w K mg base k "_law_wide_course" ["_law_store_here"] (spWide K l) f5 fd5) (d_law_when : ∀ l, Def P w K mg base k "_law_when" ["_law_store_here", "_law_course_here"] (spWhen K l) f6 fd6)
    (d_law_stretch_right : Def P w K mg base k "_law_stretch_right" ["_law_course_here", "_law_one", "_law_other"] (spStretch K) f7 fd7) (d_law_pick : ∀ l, Def P w K mg base k "_law_pick" ["_law_store_here", "_law_things"] (spPick K l) f8 fd8) (d_law_ratio : ∀ l, Def P w K mg base k "_law_ratio" ["_law_store_here", "_law_top"] (spRatio K l) f9 fd9)
    (d_law_part : ∀ l, Def P w K mg base k "_law_part" ["_law_store_here"] (spDraw K l 5 anyQ) f10 fd10) (d_law_long_right : ∀ l, Def P w K mg base k "_law_long_right" ["_law_store_here"] (spLong K l) f11 fd11) : Def P w K mg base (k + 1) "law" ps_law (spLaw K) f fd := by
  have d_law_take := Def.ex d_law_take
  have d_law_size := Def.ex d_law_size
  have d_law_some_course := Def.ex d_law_some_course
  have d_law_wide_course := Def.ex d_law_wide_course
  have d_law_when := Def.ex d_law_when
  have d_law_pick := Def.ex d_law_pick
  have d_law_ratio := Def.ex d_law_ratio
  have d_law_part := Def.ex d_law_part
  have d_law_long_right := Def.ex d_law_long_right
  refine ⟨F.F.ok sc_law (fun vs H Q E h => ?_) (fun cdv A outer s H vs Q E hr h => ?_), F.m, F.F.kp, F.b⟩
  · obtain ⟨_, _, rfl, _⟩ := h
    rfl
  obtain ⟨sa, ns, rfl, hS, hl, z⟩ := h
  refine ⟨_, (pss_cons (ps_set (i := 1) sc_law.nd rfl (Or.inl rfl) (pcall d_law_store hr (pa_cons (pv 0) pa_nil)))
      (pss_cons (ps_set (i := 2) sc_law.nd rfl (Or.inl rfl) (pe_op op_add pe_int (pcall d_law_take hr (pa_cons (pv 1) (pa_cons pe_int pa_nil)))))
      (pss_cons (ps_if (pt_cmpR op_eq (pcall d_law_take hr (pa_cons (pv 1) (pa_cons pe_int pa_nil))) pe_int (nomark _))
        (pss_one (ps_set (i := 2) sc_law.nd rfl (Or.inl rfl) (pcall d_law_size hr (pa_cons (pv 1) (pa_cons pe_int (pa_cons pe_int pa_nil))))))
        pss_nil)
      (pss_cons (ps_set (i := 3) sc_law.nd rfl (Or.inl rfl) (pcall d_law_some_course hr (pa_cons (pv 1) (pa_cons (pv 2) pa_nil))))
      (pss_cons (ps_set (i := 4) sc_law.nd rfl (Or.inl rfl) (pcall d_law_wide_course hr (pa_cons (pv 1) pa_nil)))
      (pss_cons (ps_for PassesOwn.never rfl (pi_range1 (by rfl) T.range_ (pa_cons pe_int pa_nil)) (pg_name (i := 5) sc_law.nd rfl (Or.inl rfl))
        (pss_one (ps_if (pt_not (pt_val (pcall d_law_stretch_right hr (pa_cons (pv 3) (pa_cons (pcall d_law_when hr (pa_cons (pv 1) (pa_cons (pv 3) pa_nil))) (pa_cons (pcall d_law_when hr (pa_cons (pv 1) (pa_cons (pv 3) pa_nil))) pa_nil))))))
          (pss_one (ps_ret pe_bl))
          pss_nil)))
      (pss_cons (ps_set (i := 6) sc_law.nd rfl (Or.inl rfl) (pe_ix ix_tup (pe_ix ix_list (pv 4) (pe_op op_sub (pe_callB call_len_seq (by rfl) T.len_ PySem.boot_len (pa_cons (pv 4) pa_nil)) pe_int) (fun _ _ => rfl)) pe_int (fun _ _ => rfl)))
      (pss_cons (ps_if (pt_not (pt_val (pcall d_law_stretch_right hr (pa_cons (pv 4) (pa_cons (pe_ix ix_tup (pcall d_law_pick hr (pa_cons (pv 1) (pa_cons (pv 4) pa_nil))) pe_int (fun _ _ => rfl)) (pa_cons (pv 6) pa_nil))))))
        (pss_one (ps_ret pe_bl))
        pss_nil)
      (pss_cons (ps_if (pt_not (pt_val (pcall d_law_stretch_right hr (pa_cons (pv 4) (pa_cons (pcall d_law_ratio hr (pa_cons (pv 1) (pa_cons (pe_op op_sub (pe_op op_pow pe_int pe_int) pe_int) pa_nil))) (pa_cons (pcall d_law_pick hr (pa_cons (pv 1) (pa_cons (pe_lst (pa_cons (pv 6) (pa_cons (pcall d_law_part hr (pa_cons (pv 1) pa_nil)) pa_nil))) pa_nil))) pa_nil))))))
        (pss_one (ps_ret pe_bl))
        pss_nil)
      (pss_one (ps_ret (pe_or (pe_cmpR op_eq (pcall d_law_take hr (pa_cons (pv 1) (pa_cons pe_int pa_nil))) pe_int (nomark _)) (pe_one (pcall d_law_long_right hr (pa_cons (pv 1) pa_nil))))))))))))))), ?_⟩
  have t2 : (2 : Int) < 2 ^ 64 := by decide
  have t12 : (1 : Int) ≤ 10 ^ Int.toNat 12 - 1 := by decide
  have t13 : (10 : Int) ^ Int.toNat 12 - 1 < 2 ^ 40 := by decide
  (walk_at "vk_vc")
  intro s l H1 e1 _ S1
  refine ⟨_, rfl, l, s, 5, rfl, S1, by decide, fun r5 H2 r50 r51 S2 e2 => ⟨_, _, rfl, rfl, ?_⟩⟩
  dsimp only [gName]
  refine cut (fun σ' G => ∃ m : Nat, σ' = [some (.ref sa), some (.ref s), some (.int m), none, none, none, none] ∧ 1 ≤ m ∧ m ≤ 14 ∧ Sto l s G) ?_ ?_
  · rintro σ H3 ⟨m, rfl, m1, m2, S3⟩
    have m40 : m ≤ 40 := by omega
    (walk_at "vk_vc")
    intro D us c H4 B hlc ok cz
    have S4 := B.1
    have nDs := B.2.2.1
    have hT : Ct K H4 D us c := ⟨B.at, B.2.2.2.2.2.2⟩
    clear B
    (walk_at "vk_vc")
    intro D2 us2 c2 H5 B2 h21 h22 ok2 cz2
    have S5 := B2.1
    have e5 := B2.2.1
    have nD2s := B2.2.2.1
    have hT2 : Ct K H5 D2 us2 c2 := ⟨B2.at, B2.2.2.2.2.2.2⟩
    clear B2
    replace hT := hT.fr e5 S4.some nDs
    clear e5 e1 S1 S2 S3 S4 e2
    have l1 : 1 ≤ c.length := by omega
    have l60 : c.length ≤ 60 := by omega
    have l3 : c.length ≤ 900 := by omega
    have l4 : c2.length ≤ 60 := by omega
    have czA : Cz 256 940 45 c := fun p hp => ⟨(cz p hp).1.mono (by decide), (cz p hp).2.1.mono (by decide), (cz p hp).2.2.mono (by decide)⟩
    have czB : Cz 256 940 45 c2 := fun p hp => ⟨(cz2 p hp).1.mono (by decide), (cz2 p hp).2.1.mono (by decide), (cz2 p hp).2.2.mono (by decide)⟩
    (walk_at "vk_vc")
    refine forR (lo := 0) (n := Int.toNat 3) (fun i σ G => Hold (∃ k5, σ = [some (.ref sa), some (.ref s), some (.int m), some (.ref D), some (.ref D2), k5, none] ∧ Sto l s G ∧ Fr s H5 G)) ⟨none, rfl, S5, Fr.refl _ _⟩ ?_ ?_
    · rintro i σ G hi ⟨k5, rfl, SG, fg⟩
      replace hT := hT.fr fg S5.some nDs
      (walk_at "vk_vc")
      intro ta t H6 ht zt S6 e6
      replace hT := hT.fr e6 SG.some nDs
      (walk_at "vk_vc")
      intro tb t' H7 ht' zt' S7 e7
      replace hT := hT.fr e7 S6.some nDs
      replace ht := ht.fr e7 S6.some
      have fG7 := (fg.trans e6).trans e7
      clear e6 e7 fg S6 SG
      (walk_at "vk_vc")
      refine ⟨⟨_, rfl, ?_, ?_⟩⟩ <;> ((walk_at "vk_vc"); done)
    · rintro σ G ⟨k5, rfl, SG, fg⟩
      replace hT2 := hT2.fr fg S5.some nD2s
      have hc2 := hT2.2
      have hlx2 : us2.length = c2.length := hc2.1
      have hx2 : SqL K G D2 us2 := SqL.of hT2.1
      have en : c2[c2.length - 1]? = some c2[c2.length - 1] := List.getElem?_eq_getElem (by omega)
      obtain ⟨xn, hxn, pn⟩ := hc2.at en
      obtain ⟨dn, dsn, dvn, drn, rfl, hdn, rn1, rn2, rn3⟩ := id pn
      have zn := (czB _ (List.mem_of_getElem? en)).1
      have inx : atI us2 ((us2.length : Int) - 1) = some (.ref dn) := at_of (j := c2.length - 1) (by omega) hxn
      generalize c2[c2.length - 1] = pl at en pn rn1 rn2 rn3 zn
      obtain ⟨dna, rfl, hdna⟩ := id rn1
      have x32 : us2.length < 2 ^ 32 := by omega
      have x0 : 0 < us2.length := by omega
      have got : ∀ v G', v ∈ us2 → Fr s G G' → ∃ (pa psa : Addr) (pv pr : V) (pp : Pc), v = .ref pa ∧ SqT K G' pa [.ref psa, pv, pr] ∧ Rq K G' (.ref psa) pp.s ∧ SqT K G' psa [.int pp.s.num, .int (pp.s.den : Int)] ∧ Sz 256 pp.s := fun v G' hv e => by
        obtain ⟨pp, hm, pq⟩ := pick_pc hc2 hv
        obtain ⟨pa, ps, pv, pr, rfl, h1, h2, h3, h4⟩ := pq.fr e SG.some
        obtain ⟨psa, rfl, h5⟩ := id h2
        exact ⟨pa, psa, pv, pr, pp, rfl, h1, h2, h5, (czB pp hm).1⟩
      clear hT
      (walk_at "vk_vc")
      intro v G1 hv S1 e1
      obtain ⟨pa, psa, pv, pr, pp, rfl, g1, g2, g3, g4⟩ := got v G1 hv e1
      (walk_at "vk_vc")
      intro v2 G2 hv2 S2 e2
      have : ∃ q, Rq K G2 v2 q ∧ Sz 256 q := by
        simp only [List.mem_cons, List.not_mem_nil, or_false] at hv2
        rcases hv2 with rfl | rfl <;> (apply Exists.intro; apply And.intro; (walk_at "vk_vc"); all_goals first | exact zn | exact zq.mono (by decide))
      obtain ⟨q2, rq2, zq2⟩ := this
      obtain ⟨q2a, rfl, hq2a⟩ := id rq2
      (walk_at "vk_vc")
      · exact z _
      · exact fun H9 _ _ => z H9
  · intro key
    refine ⟨_, rfl, l, s, 8, rfl, S2, by decide, fun r8 H3 _ _ S3 e3 => ⟨rfl, _, rfl, ifD (fun _ => ?_) (fun _ => ?_)⟩⟩
    · refine ⟨_, rfl, l, s, 8, 14, rfl, S3, by decide, by decide, fun r H4 r7 r12 S4 e4 => ?_⟩
      obtain ⟨n, rfl⟩ : ∃ n : Nat, r = (n : Int) := ⟨r.toNat, by omega⟩
      exact key _ _ ⟨n, rfl, by omega, by omega, S4⟩
    · refine key _ _ ⟨(1 + r5).toNat, ?_, by omega, by omega, S3⟩
      rw [show (((1 + r5).toNat : Nat) : Int) = 1 + r5 by omega]
      rfl
end Vk

namespace Vk
open PySem L2 Vm Vl
variable {K : PySem.W.Frag} {mg : Str → Option Value}
abbrev CnZERO (K : PySem.W.Frag) (mg : Str → Option Value) (a : Addr) := Cn K mg "ZERO" 0 a
theorem cnZERO {a : Addr} (m : mg "ZERO" = some (.ref a)) (h : ∀ H, SqT K H a [.int 0, .int 1]) : CnZERO K mg a := ⟨m, fun H => ⟨a, rfl, by rw [show (0 : Rat).num = 0 by decide +kernel, show ((0 : Rat).den : Int) = 1 by decide +kernel]; exact h H⟩⟩
end Vk

namespace Vk
open PySem PySem.Calls PySem.HandSPX L2 Vm Vl

theorem law_ok {P : Program} {w : World} {K : PySem.W.Frag} {mg : Str → Option Value} {base : Heap} {f_rational : Addr} {fd_rational : FuncData} {f_add : Addr} {fd_add : FuncData} {f_subtract : Addr} {fd_subtract : FuncData} {f_multiply : Addr} {fd_multiply : FuncData} {f_negate : Addr} {fd_negate : FuncData} {f_distance : Addr} {fd_distance : FuncData} {f_compare : Addr} {fd_compare : FuncData} {f_smaller : Addr} {fd_smaller : FuncData} {f_larger : Addr} {fd_larger : FuncData} {f__shown_by : Addr} {fd__shown_by : FuncData} {f__end_of : Addr} {fd__end_of : FuncData} {f_worst_error : Addr} {fd_worst_error : FuncData} {f__law_store : Addr} {fd__law_store : FuncData} {f__law_feed : Addr} {fd__law_feed : FuncData} {f__law_mixed : Addr} {fd__law_mixed : FuncData} {f__law_take : Addr} {fd__law_take : FuncData} {f__law_pick : Addr} {fd__law_pick : FuncData} {f__law_size : Addr} {fd__law_size : FuncData} {f__law_is_int : Addr} {fd__law_is_int : FuncData} {f__law_same : Addr} {fd__law_same : FuncData} {f__law_frac : Addr} {fd__law_frac : FuncData} {f__law_plus : Addr} {fd__law_plus : FuncData} {f__law_minus : Addr} {fd__law_minus : FuncData} {f__law_times : Addr} {fd__law_times : FuncData} {f__law_below : Addr} {fd__law_below : FuncData} {f__law_is_frac : Addr} {fd__law_is_frac : FuncData} {f__law_ratio : Addr} {fd__law_ratio : FuncData} {f__law_part : Addr} {fd__law_part : FuncData} {f__law_above : Addr} {fd__law_above : FuncData} {f__law_ordered : Addr} {fd__law_ordered : FuncData} {f__law_probes : Addr} {fd__law_probes : FuncData} {f__law_pace : Addr} {fd__law_pace : FuncData} {f__law_course : Addr} {fd__law_course : FuncData} {f__law_alone : Addr} {fd__law_alone : FuncData} {f__law_wide_course : Addr} {fd__law_wide_course : FuncData} {f__law_now : Addr} {fd__law_now : FuncData} {f__law_distances : Addr} {fd__law_distances : FuncData} {f__law_told : Addr} {fd__law_told : FuncData} {f__law_right : Addr} {fd__law_right : FuncData} {f__law_some_course : Addr} {fd__law_some_course : FuncData} {f__law_when : Addr} {fd__law_when : FuncData} {f__law_stretch_right : Addr} {fd__law_stretch_right : FuncData} {f__law_long_right : Addr} {fd__law_long_right : FuncData} {f_law : Addr} {fd_law : FuncData} (T : Bn mg) {aZERO : Addr} (ZZERO : CnZERO K mg aZERO)
    (h_rational : FunA K "rational" "rational" s_rational f_rational fd_rational) (m_rational : mg "rational" = some (.ref f_rational)) (b_rational : Binds K fd_rational ps_rational [])
    {C_BeforeStart fi_BeforeStart : Addr}
    {C_EmptySpan fi_EmptySpan : Addr}
    {C_VerdictError : Addr}
    {C_ZeroDivisor : Addr}
    {C_BadNumber : Addr}
    {C_TurnsBack : Addr}
    {C_BadRate : Addr}
    {C_BadBound : Addr}
    {C_BadName : Addr}
    {C_DuplicateName : Addr}
    {C_UnknownName : Addr}
    {C_BadLink : Addr}
    {C_UnknownLink : Addr}
    {C_BadNote : Addr}
    {C_UnknownMoment : Addr}
    {C_NoWorld : Addr}
    {C_OutsideSpan : Addr}
    {C_TooManyLiars : Addr}
    {C_RootFollows : Addr}
    {C_Condemned : Addr}
    {C_BadDate : Addr}
    {C_BadLeap : Addr}
    {C_BadLabel : Addr}
    {C_NoSuchSecond : Addr}
    {C_BadCells : Addr}
    {C_RefusedEntry : Addr}
    {C_DuplicateTag : Addr}
    {C_UnknownTag : Addr}
    {C_BadLine : Addr}
    {C_NothingToUndo : Addr}
    {C_NothingToRedo : Addr}
    (TBeforeStart : PySem.ValX.ValTxt K mg "BeforeStart" C_BeforeStart fi_BeforeStart)
    (TEmptySpan : PySem.Val2.Txt K mg "EmptySpan" C_EmptySpan fi_EmptySpan)
    (EBeforeStart : ExcC K C_BeforeStart)
    (EEmptySpan : ExcC K C_EmptySpan)
    (GVerdictError : mg "VerdictError" = some (.ref C_VerdictError))
    (GZeroDivisor : mg "ZeroDivisor" = some (.ref C_ZeroDivisor))
    (GBadNumber : mg "BadNumber" = some (.ref C_BadNumber))
    (GTurnsBack : mg "TurnsBack" = some (.ref C_TurnsBack))
    (GBadRate : mg "BadRate" = some (.ref C_BadRate))
    (GBadBound : mg "BadBound" = some (.ref C_BadBound))
    (GBadName : mg "BadName" = some (.ref C_BadName))
    (GDuplicateName : mg "DuplicateName" = some (.ref C_DuplicateName))
    (GUnknownName : mg "UnknownName" = some (.ref C_UnknownName))
    (GBadLink : mg "BadLink" = some (.ref C_BadLink))
    (GUnknownLink : mg "UnknownLink" = some (.ref C_UnknownLink))
    (GBadNote : mg "BadNote" = some (.ref C_BadNote))
    (GUnknownMoment : mg "UnknownMoment" = some (.ref C_UnknownMoment))
    (GNoWorld : mg "NoWorld" = some (.ref C_NoWorld))
    (GOutsideSpan : mg "OutsideSpan" = some (.ref C_OutsideSpan))
    (GTooManyLiars : mg "TooManyLiars" = some (.ref C_TooManyLiars))
    (GRootFollows : mg "RootFollows" = some (.ref C_RootFollows))
    (GCondemned : mg "Condemned" = some (.ref C_Condemned))
    (GBadDate : mg "BadDate" = some (.ref C_BadDate))
    (GBadLeap : mg "BadLeap" = some (.ref C_BadLeap))
    (GBadLabel : mg "BadLabel" = some (.ref C_BadLabel))
    (GNoSuchSecond : mg "NoSuchSecond" = some (.ref C_NoSuchSecond))
    (GBadCells : mg "BadCells" = some (.ref C_BadCells))
    (GRefusedEntry : mg "RefusedEntry" = some (.ref C_RefusedEntry))
    (GDuplicateTag : mg "DuplicateTag" = some (.ref C_DuplicateTag))
    (GUnknownTag : mg "UnknownTag" = some (.ref C_UnknownTag))
    (GBadLine : mg "BadLine" = some (.ref C_BadLine))
    (GNothingToUndo : mg "NothingToUndo" = some (.ref C_NothingToUndo))
    (GNothingToRedo : mg "NothingToRedo" = some (.ref C_NothingToRedo))
    (Ie_BeforeStart_VerdictError : PySem.W.exmOne K (.ref C_BeforeStart) (.ref C_VerdictError) = some true)
    (Ie_EmptySpan_VerdictError : PySem.W.exmOne K (.ref C_EmptySpan) (.ref C_VerdictError) = some true)
    (Ik_BeforeStart_ZeroDivisor : PySem.W.kitOne K (.ref C_BeforeStart) (.ref C_ZeroDivisor) = some false)
    (Ik_BeforeStart_BadNumber : PySem.W.kitOne K (.ref C_BeforeStart) (.ref C_BadNumber) = some false)
    (Ik_BeforeStart_EmptySpan : PySem.W.kitOne K (.ref C_BeforeStart) (.ref C_EmptySpan) = some false)
    (Ik_BeforeStart_BeforeStart : PySem.W.kitOne K (.ref C_BeforeStart) (.ref C_BeforeStart) = some true)
    (Ik_BeforeStart_TurnsBack : PySem.W.kitOne K (.ref C_BeforeStart) (.ref C_TurnsBack) = some false)
    (Ik_BeforeStart_BadRate : PySem.W.kitOne K (.ref C_BeforeStart) (.ref C_BadRate) = some false)
    (Ik_BeforeStart_BadBound : PySem.W.kitOne K (.ref C_BeforeStart) (.ref C_BadBound) = some false)
    (Ik_BeforeStart_BadName : PySem.W.kitOne K (.ref C_BeforeStart) (.ref C_BadName) = some false)
    (Ik_BeforeStart_DuplicateName : PySem.W.kitOne K (.ref C_BeforeStart) (.ref C_DuplicateName) = some false)
    (Ik_BeforeStart_UnknownName : PySem.W.kitOne K (.ref C_BeforeStart) (.ref C_UnknownName) = some false)
    (Ik_BeforeStart_BadLink : PySem.W.kitOne K (.ref C_BeforeStart) (.ref C_BadLink) = some false)
    (Ik_BeforeStart_UnknownLink : PySem.W.kitOne K (.ref C_BeforeStart) (.ref C_UnknownLink) = some false)
    (Ik_BeforeStart_BadNote : PySem.W.kitOne K (.ref C_BeforeStart) (.ref C_BadNote) = some false)
    (Ik_BeforeStart_UnknownMoment : PySem.W.kitOne K (.ref C_BeforeStart) (.ref C_UnknownMoment) = some false)
    (Ik_BeforeStart_NoWorld : PySem.W.kitOne K (.ref C_BeforeStart) (.ref C_NoWorld) = some false)
    (Ik_BeforeStart_OutsideSpan : PySem.W.kitOne K (.ref C_BeforeStart) (.ref C_OutsideSpan) = some false)
    (Ik_BeforeStart_TooManyLiars : PySem.W.kitOne K (.ref C_BeforeStart) (.ref C_TooManyLiars) = some false)
    (Ik_BeforeStart_RootFollows : PySem.W.kitOne K (.ref C_BeforeStart) (.ref C_RootFollows) = some false)
    (Ik_BeforeStart_Condemned : PySem.W.kitOne K (.ref C_BeforeStart) (.ref C_Condemned) = some false)
    (Ik_BeforeStart_BadDate : PySem.W.kitOne K (.ref C_BeforeStart) (.ref C_BadDate) = some false)
    (Ik_BeforeStart_BadLeap : PySem.W.kitOne K (.ref C_BeforeStart) (.ref C_BadLeap) = some false)
    (Ik_BeforeStart_BadLabel : PySem.W.kitOne K (.ref C_BeforeStart) (.ref C_BadLabel) = some false)
    (Ik_BeforeStart_NoSuchSecond : PySem.W.kitOne K (.ref C_BeforeStart) (.ref C_NoSuchSecond) = some false)
    (Ik_BeforeStart_BadCells : PySem.W.kitOne K (.ref C_BeforeStart) (.ref C_BadCells) = some false)
    (Ik_BeforeStart_RefusedEntry : PySem.W.kitOne K (.ref C_BeforeStart) (.ref C_RefusedEntry) = some false)
    (Ik_BeforeStart_DuplicateTag : PySem.W.kitOne K (.ref C_BeforeStart) (.ref C_DuplicateTag) = some false)
    (Ik_BeforeStart_UnknownTag : PySem.W.kitOne K (.ref C_BeforeStart) (.ref C_UnknownTag) = some false)
    (Ik_BeforeStart_BadLine : PySem.W.kitOne K (.ref C_BeforeStart) (.ref C_BadLine) = some false)
    (Ik_BeforeStart_NothingToUndo : PySem.W.kitOne K (.ref C_BeforeStart) (.ref C_NothingToUndo) = some false)
    (Ik_BeforeStart_NothingToRedo : PySem.W.kitOne K (.ref C_BeforeStart) (.ref C_NothingToRedo) = some false)
    (Ik_EmptySpan_ZeroDivisor : PySem.W.kitOne K (.ref C_EmptySpan) (.ref C_ZeroDivisor) = some false)
    (Ik_EmptySpan_BadNumber : PySem.W.kitOne K (.ref C_EmptySpan) (.ref C_BadNumber) = some false)
    (Ik_EmptySpan_EmptySpan : PySem.W.kitOne K (.ref C_EmptySpan) (.ref C_EmptySpan) = some true)
    (Ik_EmptySpan_BeforeStart : PySem.W.kitOne K (.ref C_EmptySpan) (.ref C_BeforeStart) = some false)
    (Ik_EmptySpan_TurnsBack : PySem.W.kitOne K (.ref C_EmptySpan) (.ref C_TurnsBack) = some false)
    (Ik_EmptySpan_BadRate : PySem.W.kitOne K (.ref C_EmptySpan) (.ref C_BadRate) = some false)
    (Ik_EmptySpan_BadBound : PySem.W.kitOne K (.ref C_EmptySpan) (.ref C_BadBound) = some false)
    (Ik_EmptySpan_BadName : PySem.W.kitOne K (.ref C_EmptySpan) (.ref C_BadName) = some false)
    (Ik_EmptySpan_DuplicateName : PySem.W.kitOne K (.ref C_EmptySpan) (.ref C_DuplicateName) = some false)
    (Ik_EmptySpan_UnknownName : PySem.W.kitOne K (.ref C_EmptySpan) (.ref C_UnknownName) = some false)
    (Ik_EmptySpan_BadLink : PySem.W.kitOne K (.ref C_EmptySpan) (.ref C_BadLink) = some false)
    (Ik_EmptySpan_UnknownLink : PySem.W.kitOne K (.ref C_EmptySpan) (.ref C_UnknownLink) = some false)
    (Ik_EmptySpan_BadNote : PySem.W.kitOne K (.ref C_EmptySpan) (.ref C_BadNote) = some false)
    (Ik_EmptySpan_UnknownMoment : PySem.W.kitOne K (.ref C_EmptySpan) (.ref C_UnknownMoment) = some false)
    (Ik_EmptySpan_NoWorld : PySem.W.kitOne K (.ref C_EmptySpan) (.ref C_NoWorld) = some false)
    (Ik_EmptySpan_OutsideSpan : PySem.W.kitOne K (.ref C_EmptySpan) (.ref C_OutsideSpan) = some false)
    (Ik_EmptySpan_TooManyLiars : PySem.W.kitOne K (.ref C_EmptySpan) (.ref C_TooManyLiars) = some false)
    (Ik_EmptySpan_RootFollows : PySem.W.kitOne K (.ref C_EmptySpan) (.ref C_RootFollows) = some false)
    (Ik_EmptySpan_Condemned : PySem.W.kitOne K (.ref C_EmptySpan) (.ref C_Condemned) = some false)
    (Ik_EmptySpan_BadDate : PySem.W.kitOne K (.ref C_EmptySpan) (.ref C_BadDate) = some false)
    (Ik_EmptySpan_BadLeap : PySem.W.kitOne K (.ref C_EmptySpan) (.ref C_BadLeap) = some false)
    (Ik_EmptySpan_BadLabel : PySem.W.kitOne K (.ref C_EmptySpan) (.ref C_BadLabel) = some false)
    (Ik_EmptySpan_NoSuchSecond : PySem.W.kitOne K (.ref C_EmptySpan) (.ref C_NoSuchSecond) = some false)
    (Ik_EmptySpan_BadCells : PySem.W.kitOne K (.ref C_EmptySpan) (.ref C_BadCells) = some false)
    (Ik_EmptySpan_RefusedEntry : PySem.W.kitOne K (.ref C_EmptySpan) (.ref C_RefusedEntry) = some false)
    (Ik_EmptySpan_DuplicateTag : PySem.W.kitOne K (.ref C_EmptySpan) (.ref C_DuplicateTag) = some false)
    (Ik_EmptySpan_UnknownTag : PySem.W.kitOne K (.ref C_EmptySpan) (.ref C_UnknownTag) = some false)
    (Ik_EmptySpan_BadLine : PySem.W.kitOne K (.ref C_EmptySpan) (.ref C_BadLine) = some false)
    (Ik_EmptySpan_NothingToUndo : PySem.W.kitOne K (.ref C_EmptySpan) (.ref C_NothingToUndo) = some false)
    (Ik_EmptySpan_NothingToRedo : PySem.W.kitOne K (.ref C_EmptySpan) (.ref C_NothingToRedo) = some false)
    (h_add : Fn K mg "add" s_add ps_add f_add fd_add)
    (h_subtract : Fn K mg "subtract" s_subtract ps_subtract f_subtract fd_subtract)
    (h_multiply : Fn K mg "multiply" s_multiply ps_multiply f_multiply fd_multiply)
    (h_negate : Fn K mg "negate" s_negate ps_negate f_negate fd_negate)
    (h_distance : Fn K mg "distance" s_distance ps_distance f_distance fd_distance)
    (h_compare : Fn K mg "compare" s_compare ps_compare f_compare fd_compare)
    (h_smaller : Fn K mg "smaller" s_smaller ps_smaller f_smaller fd_smaller)
    (h_larger : Fn K mg "larger" s_larger ps_larger f_larger fd_larger)
    (h__shown_by : Fn K mg "_shown_by" s__shown_by ps__shown_by f__shown_by fd__shown_by)
    (h__end_of : Fn K mg "_end_of" s__end_of ps__end_of f__end_of fd__end_of)
    (h_worst_error : Fn K mg "worst_error" s_worst_error ps_worst_error f_worst_error fd_worst_error)
    (h__law_store : Fn K mg "_law_store" s__law_store ps__law_store f__law_store fd__law_store)
    (h__law_feed : Fn K mg "_law_feed" s__law_feed ps__law_feed f__law_feed fd__law_feed)
    (h__law_mixed : Fn K mg "_law_mixed" s__law_mixed ps__law_mixed f__law_mixed fd__law_mixed)
    (h__law_take : Fn K mg "_law_take" s__law_take ps__law_take f__law_take fd__law_take)
    (h__law_pick : Fn K mg "_law_pick" s__law_pick ps__law_pick f__law_pick fd__law_pick)
    (h__law_size : Fn K mg "_law_size" s__law_size ps__law_size f__law_size fd__law_size)
    (h__law_is_int : Fn K mg "_law_is_int" s__law_is_int ps__law_is_int f__law_is_int fd__law_is_int)
    (h__law_same : Fn K mg "_law_same" s__law_same ps__law_same f__law_same fd__law_same)
    (h__law_frac : Fn K mg "_law_frac" s__law_frac ps__law_frac f__law_frac fd__law_frac)
    (h__law_plus : Fn K mg "_law_plus" s__law_plus ps__law_plus f__law_plus fd__law_plus)
    (h__law_minus : Fn K mg "_law_minus" s__law_minus ps__law_minus f__law_minus fd__law_minus)
    (h__law_times : Fn K mg "_law_times" s__law_times ps__law_times f__law_times fd__law_times)
    (h__law_below : Fn K mg "_law_below" s__law_below ps__law_below f__law_below fd__law_below)
    (h__law_is_frac : Fn K mg "_law_is_frac" s__law_is_frac ps__law_is_frac f__law_is_frac fd__law_is_frac)
    (h__law_ratio : Fn K mg "_law_ratio" s__law_ratio ps__law_ratio f__law_ratio fd__law_ratio)
    (h__law_part : Fn K mg "_law_part" s__law_part ps__law_part f__law_part fd__law_part)
    (h__law_above : Fn K mg "_law_above" s__law_above ps__law_above f__law_above fd__law_above)
    (h__law_ordered : Fn K mg "_law_ordered" s__law_ordered ps__law_ordered f__law_ordered fd__law_ordered)
    (h__law_probes : Fn K mg "_law_probes" s__law_probes ps__law_probes f__law_probes fd__law_probes)
    (h__law_pace : Fn K mg "_law_pace" s__law_pace ps__law_pace f__law_pace fd__law_pace)
    (h__law_course : Fn K mg "_law_course" s__law_course ps__law_course f__law_course fd__law_course)
    (h__law_alone : Fn K mg "_law_alone" s__law_alone ps__law_alone f__law_alone fd__law_alone)
    (h__law_wide_course : Fn K mg "_law_wide_course" s__law_wide_course ps__law_wide_course f__law_wide_course fd__law_wide_course)
    (h__law_now : Fn K mg "_law_now" s__law_now ps__law_now f__law_now fd__law_now)
    (h__law_distances : Fn K mg "_law_distances" s__law_distances ps__law_distances f__law_distances fd__law_distances)
    (h__law_told : Fn K mg "_law_told" s__law_told ps__law_told f__law_told fd__law_told)
    (h__law_right : Fn K mg "_law_right" s__law_right ps__law_right f__law_right fd__law_right)
    (h__law_some_course : Fn K mg "_law_some_course" s__law_some_course ps__law_some_course f__law_some_course fd__law_some_course)
    (h__law_when : Fn K mg "_law_when" s__law_when ps__law_when f__law_when fd__law_when)
    (h__law_stretch_right : Fn K mg "_law_stretch_right" s__law_stretch_right ps__law_stretch_right f__law_stretch_right fd__law_stretch_right)
    (h__law_long_right : Fn K mg "_law_long_right" s__law_long_right ps__law_long_right f__law_long_right fd__law_long_right)
    (h_law : Fn K mg "law" s_law ps_law f_law fd_law)
    (XV : mg "ValueError" = none) (XKB : PySem.W.kitOne K (.ref C_BeforeStart) (.type "ValueError") = some true) (XKE : PySem.W.kitOne K (.ref C_EmptySpan) (.type "ValueError") = some true)
    : FnOk P w K mg base CX0 9 f_law fd_law ps_law (spLaw K) := by
  have CL : CG mg C_ZeroDivisor C_BadNumber C_EmptySpan C_BeforeStart C_TurnsBack C_BadRate C_BadBound C_BadName C_DuplicateName C_UnknownName C_BadLink C_UnknownLink C_BadNote C_UnknownMoment C_NoWorld C_OutsideSpan C_TooManyLiars C_RootFollows C_Condemned C_BadDate C_BadLeap C_BadLabel C_NoSuchSecond C_BadCells C_RefusedEntry C_DuplicateTag C_UnknownTag C_BadLine C_NothingToUndo C_NothingToRedo C_VerdictError := ⟨GZeroDivisor, GBadNumber, TEmptySpan.gC, TBeforeStart.gC, GTurnsBack, GBadRate, GBadBound, GBadName, GDuplicateName, GUnknownName, GBadLink, GUnknownLink, GBadNote, GUnknownMoment, GNoWorld, GOutsideSpan, GTooManyLiars, GRootFollows, GCondemned, GBadDate, GBadLeap, GBadLabel, GNoSuchSecond, GBadCells, GRefusedEntry, GDuplicateTag, GUnknownTag, GBadLine, GNothingToUndo, GNothingToRedo, GVerdictError, XV⟩
  have AB : Ak K C_ZeroDivisor C_BadNumber C_EmptySpan C_BeforeStart C_TurnsBack C_BadRate C_BadBound C_BadName C_DuplicateName C_UnknownName C_BadLink C_UnknownLink C_BadNote C_UnknownMoment C_NoWorld C_OutsideSpan C_TooManyLiars C_RootFollows C_Condemned C_BadDate C_BadLeap C_BadLabel C_NoSuchSecond C_BadCells C_RefusedEntry C_DuplicateTag C_UnknownTag C_BadLine C_NothingToUndo C_NothingToRedo 3 C_BeforeStart := ⟨EBeforeStart, Ik_BeforeStart_ZeroDivisor, Ik_BeforeStart_BadNumber, Ik_BeforeStart_EmptySpan, Ik_BeforeStart_BeforeStart, Ik_BeforeStart_TurnsBack, Ik_BeforeStart_BadRate, Ik_BeforeStart_BadBound, Ik_BeforeStart_BadName, Ik_BeforeStart_DuplicateName, Ik_BeforeStart_UnknownName, Ik_BeforeStart_BadLink, Ik_BeforeStart_UnknownLink, Ik_BeforeStart_BadNote, Ik_BeforeStart_UnknownMoment, Ik_BeforeStart_NoWorld, Ik_BeforeStart_OutsideSpan, Ik_BeforeStart_TooManyLiars, Ik_BeforeStart_RootFollows, Ik_BeforeStart_Condemned, Ik_BeforeStart_BadDate, Ik_BeforeStart_BadLeap, Ik_BeforeStart_BadLabel, Ik_BeforeStart_NoSuchSecond, Ik_BeforeStart_BadCells, Ik_BeforeStart_RefusedEntry, Ik_BeforeStart_DuplicateTag, Ik_BeforeStart_UnknownTag, Ik_BeforeStart_BadLine, Ik_BeforeStart_NothingToUndo, Ik_BeforeStart_NothingToRedo, XKB⟩
  have AE : Ak K C_ZeroDivisor C_BadNumber C_EmptySpan C_BeforeStart C_TurnsBack C_BadRate C_BadBound C_BadName C_DuplicateName C_UnknownName C_BadLink C_UnknownLink C_BadNote C_UnknownMoment C_NoWorld C_OutsideSpan C_TooManyLiars C_RootFollows C_Condemned C_BadDate C_BadLeap C_BadLabel C_NoSuchSecond C_BadCells C_RefusedEntry C_DuplicateTag C_UnknownTag C_BadLine C_NothingToUndo C_NothingToRedo 2 C_EmptySpan := ⟨EEmptySpan, Ik_EmptySpan_ZeroDivisor, Ik_EmptySpan_BadNumber, Ik_EmptySpan_EmptySpan, Ik_EmptySpan_BeforeStart, Ik_EmptySpan_TurnsBack, Ik_EmptySpan_BadRate, Ik_EmptySpan_BadBound, Ik_EmptySpan_BadName, Ik_EmptySpan_DuplicateName, Ik_EmptySpan_UnknownName, Ik_EmptySpan_BadLink, Ik_EmptySpan_UnknownLink, Ik_EmptySpan_BadNote, Ik_EmptySpan_UnknownMoment, Ik_EmptySpan_NoWorld, Ik_EmptySpan_OutsideSpan, Ik_EmptySpan_TooManyLiars, Ik_EmptySpan_RootFollows, Ik_EmptySpan_Condemned, Ik_EmptySpan_BadDate, Ik_EmptySpan_BadLeap, Ik_EmptySpan_BadLabel, Ik_EmptySpan_NoSuchSecond, Ik_EmptySpan_BadCells, Ik_EmptySpan_RefusedEntry, Ik_EmptySpan_DuplicateTag, Ik_EmptySpan_UnknownTag, Ik_EmptySpan_BadLine, Ik_EmptySpan_NothingToUndo, Ik_EmptySpan_NothingToRedo, XKE⟩
  have rational := ok_rational (P := P) (w := w) (base := base) (k := 0) T h_rational m_rational b_rational
  have add := ok_add (P := P) (w := w) (base := base) (k := 0) T h_add
  have negate := ok_negate (P := P) (w := w) (base := base) (k := 0) h_negate
  have compare := ok_compare (P := P) (w := w) (base := base) (k := 0) h_compare
  have subtract := ok_subtract h_subtract add negate
  have multiply := ok_multiply h_multiply rational
  have distance := ok_distance T h_distance subtract
  have smaller := ok_smaller h_smaller compare
  have larger := ok_larger h_larger compare
  have shown := ok_shown_by h__shown_by (add.up (by decide)) multiply subtract
  have end_of := ok_end_of (P := P) (w := w) (base := base) (k := 0) T h__end_of
  have worst := ok_worst (k := 5) T ZZERO TBeforeStart TEmptySpan h_worst_error (compare.up (by decide)) (end_of.up (by decide)) (larger.up (by decide)) (smaller.up (by decide)) (distance.up (by decide)) (shown.up (by decide))
  have alone := ok_alone (P := P) (w := w) (base := base) (k := 5) T CL h__law_alone
  have told := ok_told (k := 6) T GVerdictError TBeforeStart.gC TEmptySpan.gC AB AE Ie_BeforeStart_VerdictError Ie_EmptySpan_VerdictError TBeforeStart TEmptySpan h__law_told worst alone
  have store := ok_store (P := P) (w := w) (base := base) (k := 0) T h__law_store
  have mixed := fun l => ok_mixed (l := l) (P := P) (w := w) (base := base) (k := 0) T h__law_mixed
  have feed := fun l => ok_feed (l := l) (P := P) (w := w) (base := base) (k := 0) T h__law_feed
  have take := fun l => ok_take T h__law_take (feed l) (mixed l)
  have pick := fun l => ok_pick T h__law_pick (take l)
  have size := fun l => ok_size h__law_size (take l)
  have is_int := ok_is_int (P := P) (w := w) (base := base) (k := 0) T h__law_is_int
  have same := ok_same T h__law_same is_int 2
  have same4 := ok_same T h__law_same is_int 4
  have frac := ok_frac (P := P) (w := w) (base := base) (k := 0) T h__law_frac
  have plus := ok_plus h__law_plus frac
  have minus := ok_minus h__law_minus frac
  have times := ok_times h__law_times frac
  have below := ok_below (P := P) (w := w) (base := base) (k := 0) h__law_below
  have is_frac := ok_is_frac T h__law_is_frac is_int frac
  have ratio := fun l => ok_ratio h__law_ratio ((take l).up (by decide)) (pick l) (frac.up (by decide))
  have part := fun l => ok_part h__law_part ((take l).up (by decide)) (pick l) (frac.up (by decide))
  have above := fun l => ok_above h__law_above (take l) (frac.up (by decide))
  have pace := fun l => ok_pace h__law_pace ((take l).up (by decide)) (pick l) (frac.up (by decide))
  have course := fun l => ok_course T h__law_course (part l) (pace l) ((above l).up (by decide)) (plus.up (by decide)) (times.up (by decide)) (minus.up (by decide)) ((take l).up (by decide))
  have ordered := ok_ordered T h__law_ordered below
  have ordN := ok_ordN T h__law_ordered below
  have probes := ok_prb T h__law_probes ordN minus plus times
  have wide := fun l => ok_wide T h__law_wide_course (ordered.up (by decide)) ((take l).up (by decide)) (ratio l)
  have now := ok_now T h__law_now (below.up (by decide)) plus times minus
  have dist := ok_dist (k := 5) T h__law_distances (now.up (by decide)) (below.up (by decide)) (plus.up (by decide)) (times.up (by decide)) (minus.up (by decide))
  have right := ok_right (k := 6) T h__law_right (below.up (by decide)) (same.up (by decide)) (is_frac.up (by decide)) dist (probes.up (by decide)) (now.up (by decide)) (minus.up (by decide))
  have some_course := fun l => ok_some_course (k := 6) T h__law_some_course ((course l).up (by decide)) ((take l).up (by decide)) ((part l).up (by decide)) ((pick l).up (by decide)) (plus.up (by decide))
  have when := fun l => ok_when (k := 6) T h__law_when ((take l).up (by decide)) (minus.up (by decide)) ((pick l).up (by decide)) ((part l).up (by decide)) (plus.up (by decide)) ((above l).up (by decide))
  have stretch := ok_stretch (k := 7) T h__law_stretch_right told right (same4.up (by decide))
  have long := fun l => ok_long (k := 7) T h__law_long_right (some_course l) ((take l).up (by decide)) (plus.up (by decide)) ((pick l).up (by decide)) ((above l).up (by decide)) right told (same4.up (by decide))
  exact (ok_law (k := 8) T h_law (store.up (by decide)) (fun l => (take l).up (by decide)) (fun l => (size l).up (by decide)) (fun l => (some_course l).up (by decide)) (fun l => (wide l).up (by decide)) (fun l => (when l).up (by decide)) stretch (fun l => (pick l).up (by decide)) (fun l => (ratio l).up (by decide)) (fun l => (part l).up (by decide)) long).ok

section
open PySem PySem.W PySem.Calls PySem.HandSPX PyProof.Rows L2
set_option maxHeartbeats 0 in
theorem all_mkV {P : Program} {w : World} {K : PySem.W.Frag} {h : Heap} {mg : Str → Option Value} {fa : Addr} (X : K.In h) (G : h.Ns mainGlobals mg) (hfa : mg "law" = some (.ref fa)) (c : obsV faH fnH exK K = valV fnH) :
    ∃ fd : FuncData, (∀ (s : Shared) (v : Value), BindsTo s fd ⟨[v], []⟩ [("_law_script", v)]) ∧ ∀ base : Heap, K.In base → base.Ns mainGlobals mg → FnOk P w K mg base CX0 9 fa fd ["_law_script"] (spLaw K) := by
  have ex := saysV_ex c
  have g_rational : mg "rational" = some (.ref (He.ga K "rational")) := He.glo_ok X G (saysV_fact c 0 (f := .glo "rational") rfl)
  have g_add : mg "add" = some (.ref (He.ga K "add")) := He.glo_ok X G (saysV_fact c 1 (f := .glo "add") rfl)
  have g_subtract : mg "subtract" = some (.ref (He.ga K "subtract")) := He.glo_ok X G (saysV_fact c 2 (f := .glo "subtract") rfl)
  have g_multiply : mg "multiply" = some (.ref (He.ga K "multiply")) := He.glo_ok X G (saysV_fact c 3 (f := .glo "multiply") rfl)
  have g_negate : mg "negate" = some (.ref (He.ga K "negate")) := He.glo_ok X G (saysV_fact c 4 (f := .glo "negate") rfl)
  have g_distance : mg "distance" = some (.ref (He.ga K "distance")) := He.glo_ok X G (saysV_fact c 5 (f := .glo "distance") rfl)
  have g_compare : mg "compare" = some (.ref (He.ga K "compare")) := He.glo_ok X G (saysV_fact c 6 (f := .glo "compare") rfl)
  have g_smaller : mg "smaller" = some (.ref (He.ga K "smaller")) := He.glo_ok X G (saysV_fact c 7 (f := .glo "smaller") rfl)
  have g_larger : mg "larger" = some (.ref (He.ga K "larger")) := He.glo_ok X G (saysV_fact c 8 (f := .glo "larger") rfl)
  have g__shown_by : mg "_shown_by" = some (.ref (He.ga K "_shown_by")) := He.glo_ok X G (saysV_fact c 9 (f := .glo "_shown_by") rfl)
  have g__end_of : mg "_end_of" = some (.ref (He.ga K "_end_of")) := He.glo_ok X G (saysV_fact c 10 (f := .glo "_end_of") rfl)
  have g_worst_error : mg "worst_error" = some (.ref (He.ga K "worst_error")) := He.glo_ok X G (saysV_fact c 11 (f := .glo "worst_error") rfl)
  have g__law_store : mg "_law_store" = some (.ref (He.ga K "_law_store")) := He.glo_ok X G (saysV_fact c 12 (f := .glo "_law_store") rfl)
  have g__law_feed : mg "_law_feed" = some (.ref (He.ga K "_law_feed")) := He.glo_ok X G (saysV_fact c 13 (f := .glo "_law_feed") rfl)
  have g__law_mixed : mg "_law_mixed" = some (.ref (He.ga K "_law_mixed")) := He.glo_ok X G (saysV_fact c 14 (f := .glo "_law_mixed") rfl)
  have g__law_take : mg "_law_take" = some (.ref (He.ga K "_law_take")) := He.glo_ok X G (saysV_fact c 15 (f := .glo "_law_take") rfl)
  have g__law_pick : mg "_law_pick" = some (.ref (He.ga K "_law_pick")) := He.glo_ok X G (saysV_fact c 16 (f := .glo "_law_pick") rfl)
  have g__law_size : mg "_law_size" = some (.ref (He.ga K "_law_size")) := He.glo_ok X G (saysV_fact c 17 (f := .glo "_law_size") rfl)
  have g__law_is_int : mg "_law_is_int" = some (.ref (He.ga K "_law_is_int")) := He.glo_ok X G (saysV_fact c 18 (f := .glo "_law_is_int") rfl)
  have g__law_same : mg "_law_same" = some (.ref (He.ga K "_law_same")) := He.glo_ok X G (saysV_fact c 19 (f := .glo "_law_same") rfl)
  have g__law_frac : mg "_law_frac" = some (.ref (He.ga K "_law_frac")) := He.glo_ok X G (saysV_fact c 20 (f := .glo "_law_frac") rfl)
  have g__law_plus : mg "_law_plus" = some (.ref (He.ga K "_law_plus")) := He.glo_ok X G (saysV_fact c 21 (f := .glo "_law_plus") rfl)
  have g__law_minus : mg "_law_minus" = some (.ref (He.ga K "_law_minus")) := He.glo_ok X G (saysV_fact c 22 (f := .glo "_law_minus") rfl)
  have g__law_times : mg "_law_times" = some (.ref (He.ga K "_law_times")) := He.glo_ok X G (saysV_fact c 23 (f := .glo "_law_times") rfl)
  have g__law_below : mg "_law_below" = some (.ref (He.ga K "_law_below")) := He.glo_ok X G (saysV_fact c 24 (f := .glo "_law_below") rfl)
  have g__law_is_frac : mg "_law_is_frac" = some (.ref (He.ga K "_law_is_frac")) := He.glo_ok X G (saysV_fact c 25 (f := .glo "_law_is_frac") rfl)
  have g__law_ratio : mg "_law_ratio" = some (.ref (He.ga K "_law_ratio")) := He.glo_ok X G (saysV_fact c 26 (f := .glo "_law_ratio") rfl)
  have g__law_part : mg "_law_part" = some (.ref (He.ga K "_law_part")) := He.glo_ok X G (saysV_fact c 27 (f := .glo "_law_part") rfl)
  have g__law_above : mg "_law_above" = some (.ref (He.ga K "_law_above")) := He.glo_ok X G (saysV_fact c 28 (f := .glo "_law_above") rfl)
  have g__law_ordered : mg "_law_ordered" = some (.ref (He.ga K "_law_ordered")) := He.glo_ok X G (saysV_fact c 29 (f := .glo "_law_ordered") rfl)
  have g__law_probes : mg "_law_probes" = some (.ref (He.ga K "_law_probes")) := He.glo_ok X G (saysV_fact c 30 (f := .glo "_law_probes") rfl)
  have g__law_pace : mg "_law_pace" = some (.ref (He.ga K "_law_pace")) := He.glo_ok X G (saysV_fact c 31 (f := .glo "_law_pace") rfl)
  have g__law_course : mg "_law_course" = some (.ref (He.ga K "_law_course")) := He.glo_ok X G (saysV_fact c 32 (f := .glo "_law_course") rfl)
  have g__law_alone : mg "_law_alone" = some (.ref (He.ga K "_law_alone")) := He.glo_ok X G (saysV_fact c 33 (f := .glo "_law_alone") rfl)
  have g__law_wide_course : mg "_law_wide_course" = some (.ref (He.ga K "_law_wide_course")) := He.glo_ok X G (saysV_fact c 34 (f := .glo "_law_wide_course") rfl)
  have g__law_now : mg "_law_now" = some (.ref (He.ga K "_law_now")) := He.glo_ok X G (saysV_fact c 35 (f := .glo "_law_now") rfl)
  have g__law_distances : mg "_law_distances" = some (.ref (He.ga K "_law_distances")) := He.glo_ok X G (saysV_fact c 36 (f := .glo "_law_distances") rfl)
  have g__law_told : mg "_law_told" = some (.ref (He.ga K "_law_told")) := He.glo_ok X G (saysV_fact c 37 (f := .glo "_law_told") rfl)
  have g__law_right : mg "_law_right" = some (.ref (He.ga K "_law_right")) := He.glo_ok X G (saysV_fact c 38 (f := .glo "_law_right") rfl)
  have g__law_some_course : mg "_law_some_course" = some (.ref (He.ga K "_law_some_course")) := He.glo_ok X G (saysV_fact c 39 (f := .glo "_law_some_course") rfl)
  have g__law_when : mg "_law_when" = some (.ref (He.ga K "_law_when")) := He.glo_ok X G (saysV_fact c 40 (f := .glo "_law_when") rfl)
  have g__law_stretch_right : mg "_law_stretch_right" = some (.ref (He.ga K "_law_stretch_right")) := He.glo_ok X G (saysV_fact c 41 (f := .glo "_law_stretch_right") rfl)
  have g__law_long_right : mg "_law_long_right" = some (.ref (He.ga K "_law_long_right")) := He.glo_ok X G (saysV_fact c 42 (f := .glo "_law_long_right") rfl)
  have g_law : mg "law" = some (.ref (He.ga K "law")) := He.glo_ok X G (saysV_fact c 43 (f := .glo "law") rfl)
  have g_BeforeStart : mg "BeforeStart" = some (.ref (He.ga K "BeforeStart")) := He.glo_ok X G (saysV_fact c 44 (f := .glo "BeforeStart") rfl)
  have g_EmptySpan : mg "EmptySpan" = some (.ref (He.ga K "EmptySpan")) := He.glo_ok X G (saysV_fact c 45 (f := .glo "EmptySpan") rfl)
  have g_VerdictError : mg "VerdictError" = some (.ref (He.ga K "VerdictError")) := He.glo_ok X G (saysV_fact c 46 (f := .glo "VerdictError") rfl)
  have g_ZeroDivisor : mg "ZeroDivisor" = some (.ref (He.ga K "ZeroDivisor")) := He.glo_ok X G (saysV_fact c 47 (f := .glo "ZeroDivisor") rfl)
  have g_BadNumber : mg "BadNumber" = some (.ref (He.ga K "BadNumber")) := He.glo_ok X G (saysV_fact c 48 (f := .glo "BadNumber") rfl)
  have g_TurnsBack : mg "TurnsBack" = some (.ref (He.ga K "TurnsBack")) := He.glo_ok X G (saysV_fact c 49 (f := .glo "TurnsBack") rfl)
  have g_BadRate : mg "BadRate" = some (.ref (He.ga K "BadRate")) := He.glo_ok X G (saysV_fact c 50 (f := .glo "BadRate") rfl)
  have g_BadBound : mg "BadBound" = some (.ref (He.ga K "BadBound")) := He.glo_ok X G (saysV_fact c 51 (f := .glo "BadBound") rfl)
  have g_BadName : mg "BadName" = some (.ref (He.ga K "BadName")) := He.glo_ok X G (saysV_fact c 52 (f := .glo "BadName") rfl)
  have g_DuplicateName : mg "DuplicateName" = some (.ref (He.ga K "DuplicateName")) := He.glo_ok X G (saysV_fact c 53 (f := .glo "DuplicateName") rfl)
  have g_UnknownName : mg "UnknownName" = some (.ref (He.ga K "UnknownName")) := He.glo_ok X G (saysV_fact c 54 (f := .glo "UnknownName") rfl)
  have g_BadLink : mg "BadLink" = some (.ref (He.ga K "BadLink")) := He.glo_ok X G (saysV_fact c 55 (f := .glo "BadLink") rfl)
  have g_UnknownLink : mg "UnknownLink" = some (.ref (He.ga K "UnknownLink")) := He.glo_ok X G (saysV_fact c 56 (f := .glo "UnknownLink") rfl)
  have g_BadNote : mg "BadNote" = some (.ref (He.ga K "BadNote")) := He.glo_ok X G (saysV_fact c 57 (f := .glo "BadNote") rfl)
  have g_UnknownMoment : mg "UnknownMoment" = some (.ref (He.ga K "UnknownMoment")) := He.glo_ok X G (saysV_fact c 58 (f := .glo "UnknownMoment") rfl)
  have g_NoWorld : mg "NoWorld" = some (.ref (He.ga K "NoWorld")) := He.glo_ok X G (saysV_fact c 59 (f := .glo "NoWorld") rfl)
  have g_OutsideSpan : mg "OutsideSpan" = some (.ref (He.ga K "OutsideSpan")) := He.glo_ok X G (saysV_fact c 60 (f := .glo "OutsideSpan") rfl)
  have g_TooManyLiars : mg "TooManyLiars" = some (.ref (He.ga K "TooManyLiars")) := He.glo_ok X G (saysV_fact c 61 (f := .glo "TooManyLiars") rfl)
  have g_RootFollows : mg "RootFollows" = some (.ref (He.ga K "RootFollows")) := He.glo_ok X G (saysV_fact c 62 (f := .glo "RootFollows") rfl)
  have g_Condemned : mg "Condemned" = some (.ref (He.ga K "Condemned")) := He.glo_ok X G (saysV_fact c 63 (f := .glo "Condemned") rfl)
  have g_BadDate : mg "BadDate" = some (.ref (He.ga K "BadDate")) := He.glo_ok X G (saysV_fact c 64 (f := .glo "BadDate") rfl)
  have g_BadLeap : mg "BadLeap" = some (.ref (He.ga K "BadLeap")) := He.glo_ok X G (saysV_fact c 65 (f := .glo "BadLeap") rfl)
  have g_BadLabel : mg "BadLabel" = some (.ref (He.ga K "BadLabel")) := He.glo_ok X G (saysV_fact c 66 (f := .glo "BadLabel") rfl)
  have g_NoSuchSecond : mg "NoSuchSecond" = some (.ref (He.ga K "NoSuchSecond")) := He.glo_ok X G (saysV_fact c 67 (f := .glo "NoSuchSecond") rfl)
  have g_BadCells : mg "BadCells" = some (.ref (He.ga K "BadCells")) := He.glo_ok X G (saysV_fact c 68 (f := .glo "BadCells") rfl)
  have g_RefusedEntry : mg "RefusedEntry" = some (.ref (He.ga K "RefusedEntry")) := He.glo_ok X G (saysV_fact c 69 (f := .glo "RefusedEntry") rfl)
  have g_DuplicateTag : mg "DuplicateTag" = some (.ref (He.ga K "DuplicateTag")) := He.glo_ok X G (saysV_fact c 70 (f := .glo "DuplicateTag") rfl)
  have g_UnknownTag : mg "UnknownTag" = some (.ref (He.ga K "UnknownTag")) := He.glo_ok X G (saysV_fact c 71 (f := .glo "UnknownTag") rfl)
  have g_BadLine : mg "BadLine" = some (.ref (He.ga K "BadLine")) := He.glo_ok X G (saysV_fact c 72 (f := .glo "BadLine") rfl)
  have g_NothingToUndo : mg "NothingToUndo" = some (.ref (He.ga K "NothingToUndo")) := He.glo_ok X G (saysV_fact c 73 (f := .glo "NothingToUndo") rfl)
  have g_NothingToRedo : mg "NothingToRedo" = some (.ref (He.ga K "NothingToRedo")) := He.glo_ok X G (saysV_fact c 74 (f := .glo "NothingToRedo") rfl)
  have g_ZERO : mg "ZERO" = some (.ref (He.ga K "ZERO")) := He.glo_ok X G (saysV_fact c 75 (f := .glo "ZERO") rfl)
  have z_len : mg "len" = none := He.free_ok X G (saysV_fact c 76 (f := .free "len") rfl)
  have z_abs : mg "abs" = none := He.free_ok X G (saysV_fact c 77 (f := .free "abs") rfl)
  have z_max : mg "max" = none := He.free_ok X G (saysV_fact c 78 (f := .free "max") rfl)
  have z_int : mg "int" = none := He.free_ok X G (saysV_fact c 79 (f := .free "int") rfl)
  have z_isinstance : mg "isinstance" = none := He.free_ok X G (saysV_fact c 80 (f := .free "isinstance") rfl)
  have z_range : mg "range" = none := He.free_ok X G (saysV_fact c 81 (f := .free "range") rfl)
  have z_enumerate : mg "enumerate" = none := He.free_ok X G (saysV_fact c 82 (f := .free "enumerate") rfl)
  have z_list : mg "list" = none := He.free_ok X G (saysV_fact c 83 (f := .free "list") rfl)
  have z_tuple : mg "tuple" = none := He.free_ok X G (saysV_fact c 84 (f := .free "tuple") rfl)
  have z_str : mg "str" = none := He.free_ok X G (saysV_fact c 85 (f := .free "str") rfl)
  have z_bool : mg "bool" = none := He.free_ok X G (saysV_fact c 86 (f := .free "bool") rfl)
  have z_dict : mg "dict" = none := He.free_ok X G (saysV_fact c 87 (f := .free "dict") rfl)
  have z_ValueError : mg "ValueError" = none := He.free_ok X G (saysV_fact c 88 (f := .free "ValueError") rfl)
  obtain ⟨fd_rational, F_rational⟩ := saysV_def c 0 (d := dH_rational) rfl
  obtain ⟨fd_add, F_add⟩ := saysV_def c 1 (d := dH_add) rfl
  obtain ⟨fd_subtract, F_subtract⟩ := saysV_def c 2 (d := dH_subtract) rfl
  obtain ⟨fd_multiply, F_multiply⟩ := saysV_def c 3 (d := dH_multiply) rfl
  obtain ⟨fd_negate, F_negate⟩ := saysV_def c 4 (d := dH_negate) rfl
  obtain ⟨fd_distance, F_distance⟩ := saysV_def c 5 (d := dH_distance) rfl
  obtain ⟨fd_compare, F_compare⟩ := saysV_def c 6 (d := dH_compare) rfl
  obtain ⟨fd_smaller, F_smaller⟩ := saysV_def c 7 (d := dH_smaller) rfl
  obtain ⟨fd_larger, F_larger⟩ := saysV_def c 8 (d := dH_larger) rfl
  obtain ⟨fd__shown_by, F__shown_by⟩ := saysV_def c 9 (d := dH__shown_by) rfl
  obtain ⟨fd__end_of, F__end_of⟩ := saysV_def c 10 (d := dH__end_of) rfl
  obtain ⟨fd_worst_error, F_worst_error⟩ := saysV_def c 11 (d := dH_worst_error) rfl
  obtain ⟨fd__law_store, F__law_store⟩ := saysV_def c 12 (d := dH__law_store) rfl
  obtain ⟨fd__law_feed, F__law_feed⟩ := saysV_def c 13 (d := dH__law_feed) rfl
  obtain ⟨fd__law_mixed, F__law_mixed⟩ := saysV_def c 14 (d := dH__law_mixed) rfl
  obtain ⟨fd__law_take, F__law_take⟩ := saysV_def c 15 (d := dH__law_take) rfl
  obtain ⟨fd__law_pick, F__law_pick⟩ := saysV_def c 16 (d := dH__law_pick) rfl
  obtain ⟨fd__law_size, F__law_size⟩ := saysV_def c 17 (d := dH__law_size) rfl
  obtain ⟨fd__law_is_int, F__law_is_int⟩ := saysV_def c 18 (d := dH__law_is_int) rfl
  obtain ⟨fd__law_same, F__law_same⟩ := saysV_def c 19 (d := dH__law_same) rfl
  obtain ⟨fd__law_frac, F__law_frac⟩ := saysV_def c 20 (d := dH__law_frac) rfl
  obtain ⟨fd__law_plus, F__law_plus⟩ := saysV_def c 21 (d := dH__law_plus) rfl
  obtain ⟨fd__law_minus, F__law_minus⟩ := saysV_def c 22 (d := dH__law_minus) rfl
  obtain ⟨fd__law_times, F__law_times⟩ := saysV_def c 23 (d := dH__law_times) rfl
  obtain ⟨fd__law_below, F__law_below⟩ := saysV_def c 24 (d := dH__law_below) rfl
  obtain ⟨fd__law_is_frac, F__law_is_frac⟩ := saysV_def c 25 (d := dH__law_is_frac) rfl
  obtain ⟨fd__law_ratio, F__law_ratio⟩ := saysV_def c 26 (d := dH__law_ratio) rfl
  obtain ⟨fd__law_part, F__law_part⟩ := saysV_def c 27 (d := dH__law_part) rfl
  obtain ⟨fd__law_above, F__law_above⟩ := saysV_def c 28 (d := dH__law_above) rfl
  obtain ⟨fd__law_ordered, F__law_ordered⟩ := saysV_def c 29 (d := dH__law_ordered) rfl
  obtain ⟨fd__law_probes, F__law_probes⟩ := saysV_def c 30 (d := dH__law_probes) rfl
  obtain ⟨fd__law_pace, F__law_pace⟩ := saysV_def c 31 (d := dH__law_pace) rfl
  obtain ⟨fd__law_course, F__law_course⟩ := saysV_def c 32 (d := dH__law_course) rfl
  obtain ⟨fd__law_alone, F__law_alone⟩ := saysV_def c 33 (d := dH__law_alone) rfl
  obtain ⟨fd__law_wide_course, F__law_wide_course⟩ := saysV_def c 34 (d := dH__law_wide_course) rfl
  obtain ⟨fd__law_now, F__law_now⟩ := saysV_def c 35 (d := dH__law_now) rfl
  obtain ⟨fd__law_distances, F__law_distances⟩ := saysV_def c 36 (d := dH__law_distances) rfl
  obtain ⟨fd__law_told, F__law_told⟩ := saysV_def c 37 (d := dH__law_told) rfl
  obtain ⟨fd__law_right, F__law_right⟩ := saysV_def c 38 (d := dH__law_right) rfl
  obtain ⟨fd__law_some_course, F__law_some_course⟩ := saysV_def c 39 (d := dH__law_some_course) rfl
  obtain ⟨fd__law_when, F__law_when⟩ := saysV_def c 40 (d := dH__law_when) rfl
  obtain ⟨fd__law_stretch_right, F__law_stretch_right⟩ := saysV_def c 41 (d := dH__law_stretch_right) rfl
  obtain ⟨fd__law_long_right, F__law_long_right⟩ := saysV_def c 42 (d := dH__law_long_right) rfl
  obtain ⟨fd_law, F_law⟩ := saysV_def c 43 (d := dH_law) rfl
  obtain ⟨fi_BeforeStart, FI_BeforeStart⟩ := saysV_def c 44 (d := dI_BeforeStart) rfl
  obtain ⟨fi_EmptySpan, FI_EmptySpan⟩ := saysV_def c 45 (d := dI_EmptySpan) rfl
  have e := hfa.symm.trans g_law
  cases e
  have T : Bn mg := ⟨gcd_ok X G (exK_at ex 0 rfl), z_len, z_abs, z_max, z_int, z_isinstance, z_range, z_enumerate, z_list, z_tuple, z_str, z_bool, z_dict⟩
  have ZZERO : CnZERO K mg (He.ga K "ZERO") := cnZERO g_ZERO (He.tupB_ok (exK_at ex 1 rfl))
  obtain ⟨ds_rational, rds_rational, bR_rational⟩ := FunD.binds1 (ps := ["n", "d"]) F_rational 2 1 nofun rfl fun T kV doc pm an cdv ct us its hu hi => match us, its, hu, hi with | [_, _], [_], _, _ => ⟨_, rfl, rfl⟩
  cases rds_rational
  obtain ⟨p1_BeforeStart, p2_BeforeStart, eA_BeforeStart⟩ : ∃ p1 p2, defArgs sI_BeforeStart = PySem.ValX.iA p1 p2 := ⟨_, _, rfl⟩
  obtain ⟨q1_BeforeStart, q2_BeforeStart, q3_BeforeStart, q4_BeforeStart, eB_BeforeStart⟩ : ∃ q1 q2 q3 q4, defBody sI_BeforeStart = PySem.ValX.iB q1 q2 q3 q4 := ⟨_, _, _, _, rfl⟩
  have T_BeforeStart : PySem.ValX.ValTxt K mg "BeforeStart" (He.ga K "BeforeStart") (He.ma K (He.ga K "BeforeStart") "__init__") := errB_ok g_BeforeStart (exK_at ex 2 rfl) (init_ok FI_BeforeStart (exK_at ex 3 rfl) eA_BeforeStart eB_BeforeStart rfl)
  obtain ⟨p1_EmptySpan, p2_EmptySpan, p3_EmptySpan, eA_EmptySpan⟩ : ∃ p1 p2 p3, defArgs sI_EmptySpan = PySem.Val2.iA p1 p2 p3 := ⟨_, _, _, rfl⟩
  obtain ⟨q1_EmptySpan, q2_EmptySpan, q3_EmptySpan, q4_EmptySpan, r1_EmptySpan, r2_EmptySpan, r3_EmptySpan, r4_EmptySpan, eB_EmptySpan⟩ : ∃ q1 q2 q3 q4 r1 r2 r3 r4, defBody sI_EmptySpan = PySem.Val2.iB q1 q2 q3 q4 r1 r2 r3 r4 := ⟨_, _, _, _, _, _, _, _, rfl⟩
  have T_EmptySpan : PySem.Val2.Txt K mg "EmptySpan" (He.ga K "EmptySpan") (He.ma K (He.ga K "EmptySpan") "__init__") := err2B_ok g_EmptySpan (exK_at ex 4 rfl) FI_EmptySpan (exK_at ex 5 rfl) eA_EmptySpan eB_EmptySpan rfl
  have b := FunD.bindsA (ps := ["_law_script"]) F_law fun _ _ _ _ _ _ us hl => match us, hl with | [_], _ => rfl
  refine ⟨fd_law, fun s v => b s [v] rfl, fun base _ _ => ?_⟩
  exact law_ok T ZZERO (funA_of_d (st := s_rational) F_rational) g_rational bR_rational
    T_BeforeStart
    T_EmptySpan
    (excB_ok (exK_at ex 6 rfl))
    (excB_ok (exK_at ex 7 rfl))
    g_VerdictError
    g_ZeroDivisor
    g_BadNumber
    g_TurnsBack
    g_BadRate
    g_BadBound
    g_BadName
    g_DuplicateName
    g_UnknownName
    g_BadLink
    g_UnknownLink
    g_BadNote
    g_UnknownMoment
    g_NoWorld
    g_OutsideSpan
    g_TooManyLiars
    g_RootFollows
    g_Condemned
    g_BadDate
    g_BadLeap
    g_BadLabel
    g_NoSuchSecond
    g_BadCells
    g_RefusedEntry
    g_DuplicateTag
    g_UnknownTag
    g_BadLine
    g_NothingToUndo
    g_NothingToRedo
    (of_decide_eq_true (exK_at ex 8 rfl))
    (of_decide_eq_true (exK_at ex 9 rfl))
    (of_decide_eq_true (exK_at ex 10 rfl))
    (of_decide_eq_true (exK_at ex 11 rfl))
    (of_decide_eq_true (exK_at ex 12 rfl))
    (of_decide_eq_true (exK_at ex 13 rfl))
    (of_decide_eq_true (exK_at ex 14 rfl))
    (of_decide_eq_true (exK_at ex 15 rfl))
    (of_decide_eq_true (exK_at ex 16 rfl))
    (of_decide_eq_true (exK_at ex 17 rfl))
    (of_decide_eq_true (exK_at ex 18 rfl))
    (of_decide_eq_true (exK_at ex 19 rfl))
    (of_decide_eq_true (exK_at ex 20 rfl))
    (of_decide_eq_true (exK_at ex 21 rfl))
    (of_decide_eq_true (exK_at ex 22 rfl))
    (of_decide_eq_true (exK_at ex 23 rfl))
    (of_decide_eq_true (exK_at ex 24 rfl))
    (of_decide_eq_true (exK_at ex 25 rfl))
    (of_decide_eq_true (exK_at ex 26 rfl))
    (of_decide_eq_true (exK_at ex 27 rfl))
    (of_decide_eq_true (exK_at ex 28 rfl))
    (of_decide_eq_true (exK_at ex 29 rfl))
    (of_decide_eq_true (exK_at ex 30 rfl))
    (of_decide_eq_true (exK_at ex 31 rfl))
    (of_decide_eq_true (exK_at ex 32 rfl))
    (of_decide_eq_true (exK_at ex 33 rfl))
    (of_decide_eq_true (exK_at ex 34 rfl))
    (of_decide_eq_true (exK_at ex 35 rfl))
    (of_decide_eq_true (exK_at ex 36 rfl))
    (of_decide_eq_true (exK_at ex 37 rfl))
    (of_decide_eq_true (exK_at ex 38 rfl))
    (of_decide_eq_true (exK_at ex 39 rfl))
    (of_decide_eq_true (exK_at ex 40 rfl))
    (of_decide_eq_true (exK_at ex 41 rfl))
    (of_decide_eq_true (exK_at ex 42 rfl))
    (of_decide_eq_true (exK_at ex 43 rfl))
    (of_decide_eq_true (exK_at ex 44 rfl))
    (of_decide_eq_true (exK_at ex 45 rfl))
    (of_decide_eq_true (exK_at ex 46 rfl))
    (of_decide_eq_true (exK_at ex 47 rfl))
    (of_decide_eq_true (exK_at ex 48 rfl))
    (of_decide_eq_true (exK_at ex 49 rfl))
    (of_decide_eq_true (exK_at ex 50 rfl))
    (of_decide_eq_true (exK_at ex 51 rfl))
    (of_decide_eq_true (exK_at ex 52 rfl))
    (of_decide_eq_true (exK_at ex 53 rfl))
    (of_decide_eq_true (exK_at ex 54 rfl))
    (of_decide_eq_true (exK_at ex 55 rfl))
    (of_decide_eq_true (exK_at ex 56 rfl))
    (of_decide_eq_true (exK_at ex 57 rfl))
    (of_decide_eq_true (exK_at ex 58 rfl))
    (of_decide_eq_true (exK_at ex 59 rfl))
    (of_decide_eq_true (exK_at ex 60 rfl))
    (of_decide_eq_true (exK_at ex 61 rfl))
    (of_decide_eq_true (exK_at ex 62 rfl))
    (of_decide_eq_true (exK_at ex 63 rfl))
    (of_decide_eq_true (exK_at ex 64 rfl))
    (of_decide_eq_true (exK_at ex 65 rfl))
    (of_decide_eq_true (exK_at ex 66 rfl))
    (of_decide_eq_true (exK_at ex 67 rfl))
    (of_decide_eq_true (exK_at ex 68 rfl))
    (of_decide_eq_true (exK_at ex 69 rfl))
    (fn_of_d (st := s_add) F_add g_add fun _ _ _ _ _ _ us hl => match us, hl with | [_, _], _ => rfl)
    (fn_of_d (st := s_subtract) F_subtract g_subtract fun _ _ _ _ _ _ us hl => match us, hl with | [_, _], _ => rfl)
    (fn_of_d (st := s_multiply) F_multiply g_multiply fun _ _ _ _ _ _ us hl => match us, hl with | [_, _], _ => rfl)
    (fn_of_d (st := s_negate) F_negate g_negate fun _ _ _ _ _ _ us hl => match us, hl with | [_], _ => rfl)
    (fn_of_d (st := s_distance) F_distance g_distance fun _ _ _ _ _ _ us hl => match us, hl with | [_, _], _ => rfl)
    (fn_of_d (st := s_compare) F_compare g_compare fun _ _ _ _ _ _ us hl => match us, hl with | [_, _], _ => rfl)
    (fn_of_d (st := s_smaller) F_smaller g_smaller fun _ _ _ _ _ _ us hl => match us, hl with | [_, _], _ => rfl)
    (fn_of_d (st := s_larger) F_larger g_larger fun _ _ _ _ _ _ us hl => match us, hl with | [_, _], _ => rfl)
    (fn_of_d (st := s__shown_by) F__shown_by g__shown_by fun _ _ _ _ _ _ us hl => match us, hl with | [_, _], _ => rfl)
    (fn_of_d (st := s__end_of) F__end_of g__end_of fun _ _ _ _ _ _ us hl => match us, hl with | [_, _], _ => rfl)
    (fn_of_d (st := s_worst_error) F_worst_error g_worst_error fun _ _ _ _ _ _ us hl => match us, hl with | [_, _, _], _ => rfl)
    (fn_of_d (st := s__law_store) F__law_store g__law_store fun _ _ _ _ _ _ us hl => match us, hl with | [_], _ => rfl)
    (fn_of_d (st := s__law_feed) F__law_feed g__law_feed fun _ _ _ _ _ _ us hl => match us, hl with | [_], _ => rfl)
    (fn_of_d (st := s__law_mixed) F__law_mixed g__law_mixed fun _ _ _ _ _ _ us hl => match us, hl with | [_], _ => rfl)
    (fn_of_d (st := s__law_take) F__law_take g__law_take fun _ _ _ _ _ _ us hl => match us, hl with | [_, _], _ => rfl)
    (fn_of_d (st := s__law_pick) F__law_pick g__law_pick fun _ _ _ _ _ _ us hl => match us, hl with | [_, _], _ => rfl)
    (fn_of_d (st := s__law_size) F__law_size g__law_size fun _ _ _ _ _ _ us hl => match us, hl with | [_, _, _], _ => rfl)
    (fn_of_d (st := s__law_is_int) F__law_is_int g__law_is_int fun _ _ _ _ _ _ us hl => match us, hl with | [_], _ => rfl)
    (fn_of_d (st := s__law_same) F__law_same g__law_same fun _ _ _ _ _ _ us hl => match us, hl with | [_, _], _ => rfl)
    (fn_of_d (st := s__law_frac) F__law_frac g__law_frac fun _ _ _ _ _ _ us hl => match us, hl with | [_, _], _ => rfl)
    (fn_of_d (st := s__law_plus) F__law_plus g__law_plus fun _ _ _ _ _ _ us hl => match us, hl with | [_, _], _ => rfl)
    (fn_of_d (st := s__law_minus) F__law_minus g__law_minus fun _ _ _ _ _ _ us hl => match us, hl with | [_, _], _ => rfl)
    (fn_of_d (st := s__law_times) F__law_times g__law_times fun _ _ _ _ _ _ us hl => match us, hl with | [_, _], _ => rfl)
    (fn_of_d (st := s__law_below) F__law_below g__law_below fun _ _ _ _ _ _ us hl => match us, hl with | [_, _], _ => rfl)
    (fn_of_d (st := s__law_is_frac) F__law_is_frac g__law_is_frac fun _ _ _ _ _ _ us hl => match us, hl with | [_], _ => rfl)
    (fn_of_d (st := s__law_ratio) F__law_ratio g__law_ratio fun _ _ _ _ _ _ us hl => match us, hl with | [_, _], _ => rfl)
    (fn_of_d (st := s__law_part) F__law_part g__law_part fun _ _ _ _ _ _ us hl => match us, hl with | [_], _ => rfl)
    (fn_of_d (st := s__law_above) F__law_above g__law_above fun _ _ _ _ _ _ us hl => match us, hl with | [_], _ => rfl)
    (fn_of_d (st := s__law_ordered) F__law_ordered g__law_ordered fun _ _ _ _ _ _ us hl => match us, hl with | [_], _ => rfl)
    (fn_of_d (st := s__law_probes) F__law_probes g__law_probes fun _ _ _ _ _ _ us hl => match us, hl with | [_], _ => rfl)
    (fn_of_d (st := s__law_pace) F__law_pace g__law_pace fun _ _ _ _ _ _ us hl => match us, hl with | [_], _ => rfl)
    (fn_of_d (st := s__law_course) F__law_course g__law_course fun _ _ _ _ _ _ us hl => match us, hl with | [_, _, _], _ => rfl)
    (fn_of_d (st := s__law_alone) F__law_alone g__law_alone fun _ _ _ _ _ _ us hl => match us, hl with | [_], _ => rfl)
    (fn_of_d (st := s__law_wide_course) F__law_wide_course g__law_wide_course fun _ _ _ _ _ _ us hl => match us, hl with | [_], _ => rfl)
    (fn_of_d (st := s__law_now) F__law_now g__law_now fun _ _ _ _ _ _ us hl => match us, hl with | [_, _], _ => rfl)
    (fn_of_d (st := s__law_distances) F__law_distances g__law_distances fun _ _ _ _ _ _ us hl => match us, hl with | [_, _, _], _ => rfl)
    (fn_of_d (st := s__law_told) F__law_told g__law_told fun _ _ _ _ _ _ us hl => match us, hl with | [_, _, _], _ => rfl)
    (fn_of_d (st := s__law_right) F__law_right g__law_right fun _ _ _ _ _ _ us hl => match us, hl with | [_, _, _, _], _ => rfl)
    (fn_of_d (st := s__law_some_course) F__law_some_course g__law_some_course fun _ _ _ _ _ _ us hl => match us, hl with | [_, _], _ => rfl)
    (fn_of_d (st := s__law_when) F__law_when g__law_when fun _ _ _ _ _ _ us hl => match us, hl with | [_, _], _ => rfl)
    (fn_of_d (st := s__law_stretch_right) F__law_stretch_right g__law_stretch_right fun _ _ _ _ _ _ us hl => match us, hl with | [_, _, _], _ => rfl)
    (fn_of_d (st := s__law_long_right) F__law_long_right g__law_long_right fun _ _ _ _ _ _ us hl => match us, hl with | [_], _ => rfl)
    (fn_of_d (st := s_law) F_law g_law fun _ _ _ _ _ _ us hl => match us, hl with | [_], _ => rfl)
    z_ValueError
    (of_decide_eq_true (exK_at ex 70 rfl))
    (of_decide_eq_true (exK_at ex 71 rfl))
end
end Vk
open PySem PySem.W PySem.Calls PyProof.Rows
set_option maxRecDepth 100000 in
set_option maxHeartbeats 0 in
theorem PySem.Challenge.cw_clockverdict_k10_worst_error_holds : PySem.Challenge.rw_clockverdict_k10_worst_error.Holds := by
  w_on; o_law
  refine HandSHeadRun.head_imp (r := Vk.RH) (q := Vk.qH) (H := Vk.hkH) (ob := Vk.obH) (M := 20000) (loose := Vk.looseH) (d := HandSHeadRun.topDef (OpenLaw.row PySem.Challenge.rw_clockverdict_k10_worst_error).prog 80) (kwd := []) Vk.obV_eq Vk.runH
    (by kernel_rfl) (by kernel_rfl) (by kernel_rfl) (by rfl) (by first | assumption | decide +kernel) (by decide +kernel) ⟨rfl, rfl, rfl, rfl, rfl, by decide +kernel⟩ ?hw ?hc
  case hw => w_witness2
  case hc =>
    refine L2.walk_ofE (l := PySem.Challenge.rw_clockverdict_k10_worst_error) (n := 63) (k := 9) (x := "_law_script") (CX := L2.CX0) rfl (by decide) (by kernel_rfl) ⟨rfl, by decide, by decide⟩ ?F (fun _ _ _ _ z => z)
    intro w mg fa h Y G hmg0
    obtain ⟨K, KX, c⟩ := Y
    have hmg : mg ("law" : PySem.Str) = some (.ref fa) := by
      have e : (HandSHeadRun.topDef (OpenLaw.row PySem.Challenge.rw_clockverdict_k10_worst_error).prog 80).name = ("law" : PySem.Str) := by kernel_rfl
      rw [← e]
      exact hmg0
    obtain ⟨fd, hb, hF⟩ := Vk.all_mkV (P := (PySem.Challenge.rw_clockverdict_k10_worst_error).prog) (w := w) KX G hmg c
    exact ⟨K, fd, Vk.spLaw K, KX, hb, fun H a ns hl _ hS => ⟨a, ns, rfl, hS, hl, fun _ => rfl⟩, hF⟩

