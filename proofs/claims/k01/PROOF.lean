import PyProof.Rows.All
import Wide.All
import OpenK.AllK
import Wide.FinOn
import HandS.ForMost
import HandS.Wide
import HandS.Gcd
import HandS.IsInst
import HandS.Deep
import HandS.Flow
import HandS.More
import HandS.SetFor
import HandS.Defaults
import PyProof.EqAt
import PyProof.EqKinds
import PyProof.TupleCall
import Open.SpecLaws
import KE.OsGo
import HandS.ForSpec
import HandS.ExcCtx
import HandS.ExcInit
import HandS.ForExc
import HandS.TryMany
import HandS.ExcIs
import HandS.ExcField
import HandS.Base
import HandS.Call
import HandS.Exc
import HandS.ExcOwn
import HandS.WordsExc
import HandS.HotCalls
import HandS.Words
import HandS.Head0
import HandS.Head1
import HandS.Head2
import HandS.Head3
import HandS.HeadEnd
import HandS.HeadHook1
import HandS.HeadHook2
import HandS.Star
import HandS.TryOnly
import PySem.Challenge.RW_clockverdict_k01_exact_arithmetic
set_option Elab.async false
set_option linter.all false
set_option maxRecDepth 100000
set_option hygiene false in
local macro_rules | `(tactic| walk_at "vk_raw") => `(tactic| ((focus ((repeat first | with_reducible assumption | with_reducible exact upd_same | (with_reducible refine' (upd_ne ?_).trans ?_; with_reducible assumption) | (with_reducible apply sameAt; first | with_reducible assumption | with_reducible exact same_new (by with_reducible assumption) _) | (with_reducible apply Vk.frAt; with_reducible assumption; with_reducible assumption)); done))))
set_option hygiene false in
local macro_rules | `(tactic| walk_at "vk_same") => `(tactic| ((focus ((repeat first | with_reducible assumption | with_reducible exact Same.refl _ | (refine' Same.trans ?_ (same_new (by with_reducible assumption) _)) | (with_reducible refine' same_upd ?_ (by with_reducible assumption) _) | (refine' Same.trans ?_ (by with_reducible assumption))); done))))
set_option hygiene false in
local macro_rules | `(tactic| walk_at "vk_up") => `(tactic| ((first | with_reducible assumption | with_reducible exact same_new (by with_reducible assumption) _)))
set_option hygiene false in
local macro_rules | `(tactic| walk_at "vk_upd") => `(tactic| ((with_reducible refine' same_upd ?_ (by with_reducible assumption) _; (walk_at "vk_same"))))
set_option hygiene false in
local macro_rules | `(tactic| walk_at "vk_sto") => `(tactic| ((focus ((repeat first | with_reducible assumption | (with_reducible apply Sto.same; (walk_at "vk_up"))); done))))
set_option hygiene false in
local macro_rules | `(tactic| walk_at "vk_some") => `(tactic| ((first | with_reducible exact ⟨_, by (walk_at "vk_raw")⟩ | with_reducible exact Sto.some (by (walk_at "vk_sto")))))
set_option hygiene false in
local macro_rules | `(tactic| walk_at "vk_cl") => `(tactic| ((focus ((repeat first | with_reducible assumption | with_reducible exact SqT.of upd_same | with_reducible exact SqL.of upd_same | with_reducible exact optV_rq (by with_reducible assumption) (by with_reducible assumption) | with_reducible exact Ct.cq (by with_reducible assumption) | with_reducible exact rq_ab | (with_reducible apply Vk.Ct.copyq; with_reducible assumption) | (with_reducible apply Vk.Ct.copy; with_reducible assumption) | with_reducible exact rl11 | with_reducible exact rl12 | with_reducible exact rl01 | with_reducible exact rl1m | with_reducible exact rlnm | with_reducible exact rln1 | with_reducible exact rlh1 | with_reducible exact rl910 | with_reducible exact rl1110 | with_reducible exact rl21 | with_reducible exact rln12 | with_reducible exact rln31 | with_reducible exact rlneg | (with_reducible apply Rq.same; (walk_at "vk_up")) | (with_reducible apply Rq.fr; (first | with_reducible exact Fr.upd _ | with_reducible assumption); (walk_at "vk_some")) | (with_reducible apply Rq.same; (walk_at "vk_upd")) | (with_reducible apply L2.Same.sqt; (walk_at "vk_up")) | (with_reducible apply sqt_fr; (first | with_reducible exact Fr.upd _ | with_reducible assumption); (walk_at "vk_some")) | (with_reducible apply L2.Same.sqt; (walk_at "vk_upd")) | (with_reducible apply L2.Same.seq; (walk_at "vk_up")) | (with_reducible apply seq_fr; (first | with_reducible exact Fr.upd _ | with_reducible assumption); with_reducible assumption) | (with_reducible apply L2.Same.seq; (walk_at "vk_upd")) | (with_reducible apply Pq.same; (walk_at "vk_up")) | (with_reducible apply Pq.fr; (first | with_reducible exact Fr.upd _ | with_reducible assumption); (walk_at "vk_some")) | (with_reducible apply Pq.same; (walk_at "vk_upd")) | (with_reducible apply Cq.same; (walk_at "vk_up")) | (with_reducible apply Cq.fr; (first | with_reducible exact Fr.upd _ | with_reducible assumption); (walk_at "vk_some"); with_reducible assumption) | (with_reducible apply Cq.same; (walk_at "vk_upd")) | (with_reducible apply Ct.same; (walk_at "vk_up")) | (with_reducible apply Ct.fr; (first | with_reducible exact Fr.upd _ | with_reducible assumption); (walk_at "vk_some"); with_reducible assumption) | (with_reducible apply Ct.same; (walk_at "vk_upd")) | (with_reducible apply optV.same; (walk_at "vk_up")) | (with_reducible apply optV.same; (walk_at "vk_upd"))); done))))
set_option hygiene false in
local macro_rules | `(tactic| walk_at "vk_sql") => `(tactic| ((first | (walk_at "vk_cl") | (focus (with_reducible apply L2.SqL.of; (walk_at "vk_raw"))))))
set_option hygiene false in
local macro_rules | `(tactic| walk_at "vk_atom") => `(tactic| ((first | with_reducible show Rq _ _ _ _ | with_reducible show SqT _ _ _ _ | with_reducible show SqL _ _ _ _ | with_reducible show Pq _ _ _ _ | with_reducible show Cq _ _ _ _ | with_reducible show Ct _ _ _ _ _ | with_reducible show Cz _ _ _ _ | with_reducible show Cok _ | with_reducible show Sz _ _ | with_reducible show Sto _ _ _ | with_reducible show Fr _ _ _ | with_reducible show Same _ _ | with_reducible show tyV _ _ _ _ | with_reducible show All2 _ _ _ | with_reducible show Gw _ _ _ _ _ _ | with_reducible show L2.Dp _ _ _ _ | with_reducible show L2.DpAll _ _ _ _ | with_reducible show Tree _ _ | with_reducible show optV _ _ _ _)))
set_option hygiene false in
local macro_rules | `(tactic| walk_at "vk_formsa") => `(tactic| ((first | with_reducible apply And.intro | ((fail_if_success first | with_reducible show ∃ _ : Nat → Nat → L2.St → Hp → Prop, _ | with_reducible show ∃ _ : Nat → Nat → Hp → Prop, _ | with_reducible show ∃ _ : Nat → L2.St → Hp → Prop, _); with_reducible apply Exists.intro) | (with_reducible refine ifT rfl ?_) | (with_reducible refine ifF rfl ?_) | (with_reducible refine ifT (dT (by with_reducible assumption)) ?_) | (with_reducible refine ifF (dF (by with_reducible assumption)) ?_) | (with_reducible refine ifD (fun gc => ?_) (fun gc => ?_)) | (with_reducible refine ifNF (by first | with_reducible assumption | with_reducible exact rfl) ?_) | (with_reducible refine ifNT (by with_reducible assumption) ?_) | (with_reducible refine ifN (fun gc => ?_) (fun gc => ?_)) | (with_reducible refine ifNF (by first | with_reducible assumption | with_reducible exact rfl) ?_) | ((first | rw [eqv_odp] | rw [eqv_odq]); first | (with_reducible refine ifT (dT (by with_reducible assumption)) ?_) | (with_reducible refine ifNF (by first | with_reducible assumption | with_reducible exact rfl) ?_) | (with_reducible refine ifD (fun gc => ?_) (fun gc => ?_)) | (with_reducible refine ifN (fun gc => ?_) (fun gc => ?_))) | (rw [eqv_dq]; first | (with_reducible refine ifT (dT (by with_reducible assumption)) ?_) | (with_reducible refine ifNF (by first | with_reducible assumption | with_reducible exact rfl) ?_) | (with_reducible refine ifD (fun gc => ?_) (fun gc => ?_)) | (with_reducible refine ifN (fun gc => ?_) (fun gc => ?_))) | (with_reducible refine ifT (by with_reducible assumption) ?_) | (with_reducible refine ifF (by with_reducible assumption) ?_) | (with_reducible refine ifT (by decide +kernel) ?_) | (with_reducible refine ifF (by decide +kernel) ?_) | ((with_reducible show ∀ p : Addr, _ = none → _); intro p np) | ((with_reducible show ∀ r : Int, ∀ H' : Hp, 0 ≤ r → _ → Sto _ _ H' → _ → _); intro r H' r0 r1 S e) | ((with_reducible show ∀ v : V, ∀ H' : Hp, Qd _ _ _ H' v → _ → _ → _); refine aQd (K := K) fun a q H' h h' zq okq S e => ?_) | ((with_reducible show ∀ H' : Hp, Same _ H' → _); intro H' e) | ((with_reducible show ∀ v : V, ∀ H' : Hp, Same _ H' → optV _ _ _ _ → _); intro v H' e h) | ((with_reducible show ∀ _ : V, ∀ _ : Hp, _ → _); refine aRq (K := K) fun a H' e h h' => ?_) | ((with_reducible show ∀ v : V, Rq _ _ v _ → _); refine aRq0 (K := K) fun a h h' => ?_))))
set_option hygiene false in
local macro_rules | `(tactic| walk_at "vk_forms") => `(tactic| ((first | with_reducible apply And.intro | ((fail_if_success first | with_reducible show ∃ l : Addr, ∃ xs : List V, ∃ y : V, _ = V.ref l ∧ _ = [y] ∧ _ = some (HO.lst xs) ∧ _ | with_reducible show ∃ _ : Nat → Nat → L2.St → Hp → Prop, _ | with_reducible show ∃ _ : Nat → Nat → Hp → Prop, _ | with_reducible show ∃ _ : Nat → L2.St → Hp → Prop, _); with_reducible apply Exists.intro) | (with_reducible refine ifT rfl ?_) | (with_reducible refine ifF rfl ?_) | (with_reducible refine ifT (dT (by with_reducible assumption)) ?_) | (with_reducible refine ifF (dF (by with_reducible assumption)) ?_) | (with_reducible refine ifD (fun gc => ?_) (fun gc => ?_)) | (with_reducible refine ifNF (by first | with_reducible assumption | with_reducible exact rfl) ?_) | (with_reducible refine ifNT (by with_reducible assumption) ?_) | (with_reducible refine ifN (fun gc => ?_) (fun gc => ?_)) | (with_reducible refine ifNF (by first | with_reducible assumption | with_reducible exact rfl) ?_) | ((first | rw [eqv_odp] | rw [eqv_odq]); first | (with_reducible refine ifT (dT (by with_reducible assumption)) ?_) | (with_reducible refine ifNF (by first | with_reducible assumption | with_reducible exact rfl) ?_) | (with_reducible refine ifD (fun gc => ?_) (fun gc => ?_)) | (with_reducible refine ifN (fun gc => ?_) (fun gc => ?_))) | (rw [eqv_dq]; first | (with_reducible refine ifT (dT (by with_reducible assumption)) ?_) | (with_reducible refine ifNF (by first | with_reducible assumption | with_reducible exact rfl) ?_) | (with_reducible refine ifD (fun gc => ?_) (fun gc => ?_)) | (with_reducible refine ifN (fun gc => ?_) (fun gc => ?_))) | (with_reducible refine ifT (by with_reducible assumption) ?_) | (with_reducible refine ifF (by with_reducible assumption) ?_) | (with_reducible refine ifT (by decide +kernel) ?_) | (with_reducible refine ifF (by decide +kernel) ?_) | ((with_reducible show ∀ p : Addr, _ = none → _); intro p np) | ((with_reducible show ∀ r : Int, ∀ H' : Hp, 0 ≤ r → _ → Sto _ _ H' → _ → _); intro r H' r0 r1 S e) | ((with_reducible show ∀ v : V, ∀ H' : Hp, Qd _ _ _ H' v → _ → _ → _); refine aQd (K := K) fun a q H' h h' zq okq S e => ?_) | ((with_reducible show ∀ H' : Hp, Same _ H' → _); intro H' e) | ((with_reducible show ∀ v : V, ∀ H' : Hp, Same _ H' → optV _ _ _ _ → _); intro v H' e h) | ((with_reducible show ∀ _ : V, ∀ _ : Hp, _ → _); refine aRq (K := K) fun a H' e h h' => ?_) | ((with_reducible show ∀ v : V, Rq _ _ v _ → _); refine aRq0 (K := K) fun a h h' => ?_))))
set_option hygiene false in
local macro_rules | `(tactic| walk_at "vk_va") => `(tactic| (((try dsimp only [cxOf_K, Cx.nox, Cx.wish]); repeat' (show (_ : Prop); first | with_reducible exact rfl | with_reducible assumption | (walk_at "vk_formsa") | ((with_reducible show ∀ d ∈ _, Tree _ d); first | exact treeAll_nil | refine treeAll_cons ?_ ?_) | ((with_reducible show SeqAt.shaped _ = true); first | with_reducible exact sh_dq _ | with_reducible exact sh_odp _ | decide +kernel) | ((with_reducible show _ = _); first | exact at0 rfl | exact at1 rfl | exact at2 rfl | exact rfl | (walk_at "vk_raw") | assumption) | ((with_reducible show (_ : Addr) ≠ _); (refine' Sto.ne (l := l) ?_ (by with_reducible assumption); (walk_at "vk_sto"))) | ((with_reducible show 0 < List.length _); first | omega | exact Nat.succ_pos _) | ((with_reducible show List.length _ < 2 ^ 32); first | omega | exact Nat.le_of_ble_eq_true rfl) | ((with_reducible show List.length _ ≤ sizeLine); first | exact Nat.zero_le _ | exact sz1 | exact sz2 | exact sz3 | exact sz4 | exact sm5 | exact sm6) | ((with_reducible show List.length _ < sizeLine); exact le1000 (by omega)) | ((with_reducible show _ ≤ _); omega) | ((with_reducible show (_ : Nat) < _); omega) | ((with_reducible show (_ : Int) < _); omega) | ((walk_at "vk_atom"); first | (walk_at "vk_cl") | (focus (with_reducible apply L2.SqL.of; (walk_at "vk_raw"))) | ((with_reducible show tyV _ _ _ _); apply Or.inl; apply And.intro rfl; apply Exists.intro; (walk_at "vk_sql")) | with_reducible exact L2.Dp.str _ | with_reducible exact L2.Dp.int _ | with_reducible exact L2.Dp.non | with_reducible exact L2.Dp.bl _ | (with_reducible apply Rq.dp; (walk_at "vk_cl")) | (with_reducible apply optV.dp; (walk_at "vk_cl")) | (with_reducible apply Vk.Ct.dd; (walk_at "vk_cl")) | (with_reducible apply L2.Dp.tup; (walk_at "vk_cl")) | (with_reducible apply L2.Dp.lst; (walk_at "vk_sql")) | exact tree_dq _ _ | exact Tree.str (by decide +kernel) | exact Tree.int _ | exact Tree.non | exact Tree.bl _ | (refine Tree.tup (Nat.le_of_ble_eq_true rfl) ?_) | with_reducible apply L2.DpAll.cons | with_reducible exact L2.DpAll.nil | with_reducible exact zz1 | with_reducible exact zo1 | with_reducible exact zl12 | with_reducible exact zl1m | with_reducible exact zlnm | with_reducible exact zln1 | with_reducible exact zlh1 | (with_reducible show Sz _ _; refine Sz.mono (by with_reducible assumption) (Nat.le_of_ble_eq_true rfl)) | with_reducible apply Sz.add | with_reducible apply Sz.sub | with_reducible apply Sz.mul | with_reducible apply Sz.neg | ((with_reducible show Sto _ _ _); (focus ((repeat first | with_reducible assumption | (with_reducible apply Sto.same; (walk_at "vk_up"))); done))) | ((with_reducible show Fr _ _ _); (focus ((repeat first | with_reducible assumption | with_reducible exact Fr.refl _ _ | (refine' Fr.trans ?_ (Fr.of (same_new (by with_reducible assumption) _))) | (refine' Fr.trans ?_ (by with_reducible assumption)) | (refine' Fr.trans ?_ (Fr.of (by with_reducible assumption)))); done))) | ((with_reducible show Same _ _); (walk_at "vk_same")) | assumption) | ((with_reducible show L2.SqL _ _ _ _ ∨ L2.SqT _ _ _ _); first | (apply Or.inl; (walk_at "vk_sql")) | (apply Or.inr; (walk_at "vk_cl"))) | ((fail_if_success (walk_at "vk_atom")); (fail_if_success with_reducible show rAppend _ _ _ _); (conv => whnf); first | (walk_at "vk_formsa") | with_reducible exact rfl | with_reducible assumption | ((with_reducible show _ = _); exact rfl)) ))))
set_option hygiene false in
local macro_rules | `(tactic| walk_at "vk_vc") => `(tactic| (((try dsimp only [cxOf_K, Cx.nox, Cx.wish]); repeat' (show (_ : Prop); first | with_reducible exact rfl | with_reducible assumption | (walk_at "vk_forms") | ((with_reducible show ∀ d ∈ _, Tree _ d); first | exact treeAll_nil | refine treeAll_cons ?_ ?_) | ((with_reducible show SeqAt.shaped _ = true); first | with_reducible exact sh_dq _ | with_reducible exact sh_odp _ | decide +kernel) | ((with_reducible show _ = _); first | exact at0 rfl | exact at1 rfl | exact at2 rfl | exact rfl | (walk_at "vk_raw") | assumption) | ((with_reducible show (_ : Addr) ≠ _); (refine' Sto.ne (l := l) ?_ (by with_reducible assumption); (walk_at "vk_sto"))) | ((with_reducible show 0 < List.length _); first | omega | exact Nat.succ_pos _) | ((with_reducible show List.length _ < 2 ^ 32); first | omega | exact Nat.le_of_ble_eq_true rfl) | ((with_reducible show List.length _ ≤ sizeLine); first | exact Nat.zero_le _ | exact sz1 | exact sz2 | exact sz3 | exact sz4 | exact sm5 | exact sm6) | ((with_reducible show List.length _ < sizeLine); exact le1000 (by omega)) | ((with_reducible show _ ≤ _); omega) | ((with_reducible show (_ : Nat) < _); omega) | ((with_reducible show (_ : Int) < _); omega) | ((walk_at "vk_atom"); first | (walk_at "vk_cl") | (focus (with_reducible apply L2.SqL.of; (walk_at "vk_raw"))) | ((with_reducible show tyV _ _ _ _); apply Or.inl; apply And.intro rfl; apply Exists.intro; (walk_at "vk_sql")) | with_reducible exact L2.Dp.str _ | with_reducible exact L2.Dp.int _ | with_reducible exact L2.Dp.non | with_reducible exact L2.Dp.bl _ | (with_reducible apply Rq.dp; (walk_at "vk_cl")) | (with_reducible apply optV.dp; (walk_at "vk_cl")) | (with_reducible apply Vk.Ct.dd; (walk_at "vk_cl")) | (with_reducible apply L2.Dp.tup; (walk_at "vk_cl")) | (with_reducible apply L2.Dp.lst; (walk_at "vk_sql")) | exact tree_dq _ _ | exact Tree.str (by decide +kernel) | exact Tree.int _ | exact Tree.non | exact Tree.bl _ | (refine Tree.tup (Nat.le_of_ble_eq_true rfl) ?_) | with_reducible apply L2.DpAll.cons | with_reducible exact L2.DpAll.nil | with_reducible exact zz1 | with_reducible exact zo1 | with_reducible exact zl12 | with_reducible exact zl1m | with_reducible exact zlnm | with_reducible exact zln1 | with_reducible exact zlh1 | (with_reducible show Sz _ _; refine Sz.mono (by with_reducible assumption) (Nat.le_of_ble_eq_true rfl)) | with_reducible apply Sz.add | with_reducible apply Sz.sub | with_reducible apply Sz.mul | with_reducible apply Sz.neg | ((with_reducible show Sto _ _ _); (focus ((repeat first | with_reducible assumption | (with_reducible apply Sto.same; (walk_at "vk_up"))); done))) | ((with_reducible show Fr _ _ _); (focus ((repeat first | with_reducible assumption | with_reducible exact Fr.refl _ _ | (refine' Fr.trans ?_ (Fr.of (same_new (by with_reducible assumption) _))) | (refine' Fr.trans ?_ (by with_reducible assumption)) | (refine' Fr.trans ?_ (Fr.of (by with_reducible assumption)))); done))) | ((with_reducible show Same _ _); (walk_at "vk_same")) | assumption) | ((with_reducible show L2.SqL _ _ _ _ ∨ L2.SqT _ _ _ _); first | (apply Or.inl; (walk_at "vk_sql")) | (apply Or.inr; (walk_at "vk_cl"))) | ((fail_if_success (walk_at "vk_atom")); (fail_if_success with_reducible show rAppend _ _ _ _); (conv => whnf); first | (walk_at "vk_forms") | with_reducible exact rfl | with_reducible assumption | ((with_reducible show _ = _); exact rfl)) ))))
set_option hygiene false in
local macro_rules | `(tactic| walk_at "vk_fr") => `(tactic| ((focus ((repeat first | with_reducible assumption | with_reducible exact Fr.refl _ _ | (refine' Fr.trans ?_ (Fr.of (same_new (by with_reducible assumption) _))) | (refine' Fr.trans ?_ (by with_reducible assumption)) | (refine' Fr.trans ?_ (Fr.of (by with_reducible assumption)))); done))))
namespace Vm
/-! ### sizes of rationals -/
def Sz (k : Nat) (q : Rat) : Prop := q.num.natAbs < 2 ^ k ∧ q.den < 2 ^ k
theorem Sz.mono {a b : Nat} {q : Rat} (h : Sz a q) (l : a ≤ b) : Sz b q :=
  ⟨Nat.lt_of_lt_of_le h.1 (Nat.pow_le_pow_right (by decide) l), Nat.lt_of_lt_of_le h.2 (Nat.pow_le_pow_right (by decide) l)⟩
theorem mk_num (n : Int) {d : Nat} (hd : d ≠ 0) : (mkRat n d).num = n / ((Nat.gcd n.natAbs d : Nat) : Int) := by
  rw [Rat.num_mkRat, if_neg hd, Nat.gcd_comm]
theorem mk_den (n : Int) {d : Nat} (hd : d ≠ 0) : (mkRat n d).den = d / Nat.gcd n.natAbs d := by
  rw [Rat.den_mkRat, if_neg hd, Nat.gcd_comm]
theorem sz_mk {n : Int} {d k : Nat} (h : d ≠ 0) (hn : n.natAbs < 2 ^ k) (hd : d < 2 ^ k) : Sz k (mkRat n d) := by
  have e : ∀ (z : Int) (g : Nat), (z / (g : Int)).natAbs ≤ z.natAbs := fun z g => Int.natAbs_ediv_le_natAbs z g
  exact ⟨by rw [mk_num n h]; exact Nat.lt_of_le_of_lt (e _ _) hn, by rw [mk_den n h]; exact Nat.lt_of_le_of_lt (Nat.div_le_self _ _) hd⟩
theorem lt_mul {a b i j : Nat} (h : a < 2 ^ i) (l : b < 2 ^ j) : a * b < 2 ^ (i + j) := by
  rw [Nat.pow_add]
  exact Nat.mul_lt_mul'' h l
theorem Sz.add {a b : Nat} {p q : Rat} (h : Sz a p) (l : Sz b q) : Sz (a + b + 1) (p + q) := by
  rw [Rat.add_def']
  have h1 := lt_mul h.1 l.2
  have h2 := lt_mul l.1 h.2
  have h3 := lt_mul h.2 l.2
  rw [Nat.add_comm b a] at h2
  refine sz_mk (Nat.ne_of_gt (Nat.mul_pos p.den_pos q.den_pos)) ?_ ?_
  · rw [Nat.pow_succ]
    have q1 := Int.natAbs_add_le (p.num * q.den) (q.num * p.den)
    rw [Int.natAbs_mul, Int.natAbs_mul, Int.natAbs_natCast, Int.natAbs_natCast] at q1
    omega
  · rw [Nat.pow_succ]
    omega
theorem Sz.neg {a : Nat} {p : Rat} (h : Sz a p) : Sz a (-p) := ⟨by rw [Rat.neg_num, Int.natAbs_neg]; exact h.1, h.2⟩
theorem Sz.sub {a b : Nat} {p q : Rat} (h : Sz a p) (l : Sz b q) : Sz (a + b + 1) (p - q) := by
  rw [Rat.sub_eq_add_neg]
  exact h.add l.neg
theorem Sz.mul {a b : Nat} {p q : Rat} (h : Sz a p) (l : Sz b q) : Sz (a + b) (p * q) := by
  rw [Rat.mul_def']
  refine sz_mk (Nat.ne_of_gt (Nat.mul_pos p.den_pos q.den_pos)) ?_ (lt_mul h.2 l.2)
  rw [Int.natAbs_mul]
  exact lt_mul h.1 l.1
theorem num_pos {q : Rat} (h : 0 < q) : 0 < q.num := by
  have z := (Rat.lt_iff 0 q).mp h
  simp at z
  exact z
theorem pos_of_num {q : Rat} (h : 0 < q.num) : 0 < q := by
  rw [Rat.lt_iff]
  simp
  exact h
theorem Sz.inv {a : Nat} {q : Rat} (h : Sz a q) (hq : 0 < q) : Sz a q⁻¹ := by
  have hn := num_pos hq
  refine ⟨?_, ?_⟩
  · rw [Rat.num_inv, Int.sign_eq_one_of_pos hn, Int.one_mul, Int.natAbs_natCast]
    exact h.2
  · rw [Rat.den_inv, if_neg (by omega)]
    exact h.1
theorem Sz.div {a b : Nat} {p q : Rat} (h : Sz a p) (l : Sz b q) (hq : 0 < q) : Sz (a + b) (p / q) := by
  rw [Rat.div_def]
  exact h.mul (l.inv hq)
/-! ### normal forms -/
theorem nf {n : Int} {d : Nat} (hd : d ≠ 0) (hc : Nat.gcd n.natAbs d = 1) : (mkRat n d).num = n ∧ (mkRat n d).den = d := by
  rw [mk_num n hd, mk_den n hd, hc]
  simp
theorem div_mk (p q : Rat) (hq : 0 < q) : p / q = mkRat (p.num * q.den) (p.den * q.num.toNat) := by
  have hn := num_pos hq
  rw [Rat.div_def, Rat.mul_def', Rat.num_inv, Rat.den_inv, if_neg (by omega), Int.sign_eq_one_of_pos hn, Int.one_mul]
  congr 2
  omega
/-- the sum by the divisors of the denominators alone -/
theorem add_parts (a b : Rat) (g f : Nat) (n : Int) (r : Nat) (hg : g = Nat.gcd a.den b.den) (hf : f = b.den / g) (hn : n = a.num * f + b.num * ((a.den / g : Nat) : Int)) (hr : r = Nat.gcd n.natAbs g) :
    (a + b).num = n / (r : Int) ∧ (a + b).den = a.den / r * f := by
  have gp : 0 < g := by rw [hg]; exact Nat.gcd_pos_of_pos_left _ a.den_pos
  obtain ⟨u, hu⟩ : g ∣ a.den := by rw [hg]; exact Nat.gcd_dvd_left _ _
  obtain ⟨v, hv⟩ : g ∣ b.den := by rw [hg]; exact Nat.gcd_dvd_right _ _
  have eu : a.den / g = u := by rw [hu]; exact Nat.mul_div_cancel_left _ gp
  have ev : f = v := by rw [hf, hv]; exact Nat.mul_div_cancel_left _ gp
  subst ev
  rw [eu] at hn
  have up : 0 < u := Nat.pos_of_ne_zero fun z => by rw [z, Nat.mul_zero] at hu; exact absurd hu (Nat.ne_of_gt a.den_pos)
  have fp : 0 < f := Nat.pos_of_ne_zero fun z => by rw [z, Nat.mul_zero] at hv; exact absurd hv (Nat.ne_of_gt b.den_pos)
  have cuf : Nat.Coprime u f := by
    have z : g * Nat.gcd u f = g := by rw [← Nat.gcd_mul_left, ← hu, ← hv, ← hg]
    exact Nat.eq_of_mul_eq_mul_left gp (by rw [z, Nat.mul_one])
  have ca : Nat.Coprime a.num.natAbs u := (Nat.Coprime.coprime_dvd_right ⟨g, by rw [hu, Nat.mul_comm]⟩ a.reduced)
  have cb : Nat.Coprime b.num.natAbs f := (Nat.Coprime.coprime_dvd_right ⟨g, by rw [hv, Nat.mul_comm]⟩ b.reduced)
  have key : ∀ (x y z : Int) (m : Nat), x = y + z * m → Nat.gcd x.natAbs m = Nat.gcd y.natAbs m := by
    intro x y z m h
    have e : ∀ t : Int, Nat.gcd t.natAbs m = Int.gcd t m := fun t => by rw [Int.gcd]; simp
    rw [e, e, h, Int.gcd_add_mul_right_left]
  have cnu : Nat.Coprime n.natAbs u := by
    have z := key n (a.num * f) b.num u hn
    unfold Nat.Coprime
    rw [z, Int.natAbs_mul, Int.natAbs_natCast]
    exact Nat.Coprime.mul_left ca cuf.symm
  have cnf : Nat.Coprime n.natAbs f := by
    have z := key n (b.num * u) a.num f (by rw [hn, Int.add_comm])
    unfold Nat.Coprime
    rw [z, Int.natAbs_mul, Int.natAbs_natCast]
    exact Nat.Coprime.mul_left cb cuf
  have cn : Nat.Coprime n.natAbs (u * f) := Nat.Coprime.mul_right cnu cnf
  have er : Nat.gcd n.natAbs (g * (u * f)) = r := by
    rw [hr]
    exact Nat.Coprime.gcd_mul_right_cancel_right g cn.symm
  have es : a + b = mkRat n (g * (u * f)) := by
    rw [Rat.add_def', hu, hv, hn]
    have z := Rat.mkRat_mul_left (n := a.num * f + b.num * u) (d := g * (u * f)) (a := g) (by omega)
    rw [← z]
    congr 1
    · push_cast
      grind
    · grind
  have dn : g * (u * f) ≠ 0 := Nat.ne_of_gt (Nat.mul_pos gp (Nat.mul_pos up fp))
  have rg : r ∣ g := by rw [hr]; exact Nat.gcd_dvd_right _ _
  refine ⟨by rw [es, mk_num n dn, er], ?_⟩
  rw [es, mk_den n dn, er, hu]
  obtain ⟨w, hw⟩ := rg
  have rp : 0 < r := Nat.pos_of_ne_zero fun z => by rw [z, Nat.zero_mul] at hw; omega
  rw [hw, Nat.mul_assoc, Nat.mul_div_cancel_left _ rp, Nat.mul_assoc, Nat.mul_div_cancel_left _ rp, Nat.mul_assoc]
/-! ### what the cross products make -/
theorem tn (a b : Nat) : ((a : Int) * (b : Int)).toNat = a * b := by
  rw [← Int.natCast_mul]
  rfl
theorem mk_add (p q : Rat) : mkRat (p.num * (q.den : Int) + q.num * (p.den : Int)) ((p.den : Int) * (q.den : Int)).toNat = p + q := by rw [tn, Rat.add_def']
theorem mk_sub (p q : Rat) : mkRat (p.num * (q.den : Int) - q.num * (p.den : Int)) ((p.den : Int) * (q.den : Int)).toNat = p - q := by rw [tn, Rat.sub_def']
theorem mk_mul (p q : Rat) : mkRat (p.num * q.num) ((p.den : Int) * (q.den : Int)).toNat = p * q := by rw [tn, Rat.mul_def']
theorem dd_pos (p q : Rat) : 0 < (p.den : Int) * (q.den : Int) := Int.mul_pos (by have := p.den_pos; omega) (by have := q.den_pos; omega)
theorem ab_mul {i j : Int} {a b : Nat} (h : i.natAbs < 2 ^ a) (l : j.natAbs < 2 ^ b) : (i * j).natAbs < 2 ^ (a + b) := by
  rw [Int.natAbs_mul]
  exact lt_mul h l
theorem ab_add {i j : Int} {a : Nat} (h : i.natAbs < 2 ^ a) (l : j.natAbs < 2 ^ a) : (i + j).natAbs < 2 ^ (a + 1) := by
  rw [Nat.pow_succ]
  omega
theorem ab_sub {i j : Int} {a : Nat} (h : i.natAbs < 2 ^ a) (l : j.natAbs < 2 ^ a) : (i - j).natAbs < 2 ^ (a + 1) := by
  rw [Nat.pow_succ]
  omega
theorem ab_up {i : Int} {a b : Nat} (h : i.natAbs < 2 ^ a) (l : a ≤ b) : i.natAbs < 2 ^ b := Nat.lt_of_lt_of_le h (Nat.pow_le_pow_right (by decide) l)
theorem ab_le {i j : Int} {a : Nat} (h : i.natAbs < 2 ^ a) (l : j.natAbs ≤ i.natAbs) : j.natAbs < 2 ^ a := Nat.lt_of_le_of_lt l h
theorem nn {m : Nat} {p : Rat} (h : Sz m p) : 0 < m := by
  cases m with
  | zero => have := h.2; have := p.den_pos; simp at *; omega
  | succ m => exact Nat.succ_pos _
theorem dA {m : Nat} {p : Rat} (h : Sz m p) : ((p.den : Nat) : Int).natAbs < 2 ^ m := h.2
theorem lt_num {p q : Rat} : p < q ↔ p.num * (q.den : Int) < q.num * (p.den : Int) := Rat.lt_iff p q
theorem eq_num {p q : Rat} : p = q ↔ p.num * (q.den : Int) = q.num * (p.den : Int) := Rat.eq_iff_mul_eq_mul
end Vm

namespace Vk
open PySem L2
/-! ### defs as they stand, and with a promise -/
structure Fn (K : PySem.W.Frag) (mg : Str → Option Value) (x : Str) (st : Stmt) (ps : List Str) (f : Addr) (fd : FuncData) : Prop where
  F : Fun K x x st f fd
  m : mg x = some (.ref f)
  b : Binds K fd ps []
structure Def (P : Program) (w : World) (K : PySem.W.Frag) (mg : Str → Option Value) (base : Heap) (k : Nat) (x : Str) (ps : List Str) (sp : Sp) (f : Addr) (fd : FuncData) : Prop where
  ok : FnOk P w K mg base CX0 k f fd ps sp
  m : mg x = some (.ref f)
  kp : PySem.W.keepIn K (.ref f) = true
  b : Binds K fd ps []
theorem Def.up {P : Program} {w : World} {K : PySem.W.Frag} {mg : Str → Option Value} {base : Heap} {j k : Nat} {x : Str} {ps : List Str} {sp : Sp} {f : Addr} {fd : FuncData} (d : Def P w K mg base j x ps sp f fd) (h : j ≤ k) : Def P w K mg base k x ps sp f fd := ⟨d.ok.mono h, d.m, d.kp, d.b⟩
theorem pcall {X : Cx} {k : Nat} {f : Addr} {fd : FuncData} {ps : List Str} {sp : Sp} {x : Str} {p pos : Pos} {e : Expr} {es : List Expr} {t : TA} (D : Def X.prog X.w X.K X.mg X.base k x ps sp f fd) (hr : Room k X.A) (ha : PA X (e :: es) t)
    (hg : Gl X x := by rfl) (hdb : (x == ("__debug__" : Str)) = false := by decide) (he : starEach (e :: es) X.env = (false, eval e X.env) :: starEach es X.env := by rfl) (hpl : (backTo pos (starEach es X.env)).any (·.1) = false := by rfl) :
    PE X (.Call (.Name x p) (e :: es) [] pos) (tCall sp [] E0 t) := pe_call D.ok hr hg D.m D.kp D.b .nil pass0 ha hdb he hpl
/-- a def as it stands, whatever its defaults are -/
structure FunA (K : PySem.W.Frag) (x qual : Str) (st : Stmt) (f : Addr) (fd : FuncData) : Prop where
  ex : ∃ (oc : Value) (od : Option Addr) (dV kV doc pm : Value) (an : Option Addr) (cdv ct : Value) (osl : Array (Option Value)),
    fd = PySem.W.fnOf x qual (defArgs st) (defBody st) (defScope st) dV kV doc pm an cdv ct ∧ K.lookup f = some ⟨oc, od, .func fd, osl⟩ ∧ PySem.W.codeIn K cdv qual = true
  kp : PySem.W.keepIn K (.ref f) = true
theorem FunA.ok {P : Program} {w : World} {K : PySem.W.Frag} {mg : Str → Option Value} {base : Heap} {x qual : Str} {st : Stmt} {f : Addr} {fd : FuncData} {N ps : List Str} {k : Nat} {sp : Sp} (F : FunA K x qual st f fd) (S : FnScope N ps (defScope st)) (len : ∀ vs H Q E, sp vs H Q E → vs.length = ps.length)
    (hbody : ∀ (cdv : Value) (A : Around) (outer : List Env) (s : Shared) (H : Hp) (vs : List V) (Q : VK) (E : XK), Room k (A.deeper (PyProof.Rows.envOfC qual (defScope st) s.heap.objs.size f cdv)) → sp vs H Q E →
      ∃ t, PSs (cxOf CX0 P w K mg base N qual (defScope st) f cdv A outer s H E).nox (defBody st) t ∧ t { nx := fun _ H' => Q .non H', rt := Q } (start N vs) H) : FnOk P w K mg base CX0 (k + 1) f fd ps sp := by
  obtain ⟨oc, od, dV, kV, doc, pm, an, cdv, ct, osl, rfl, lk, hcd⟩ := F.ex
  refine fn_of lk hcd S len fun A outer s H vs Q E hr hsp => ?_
  obtain ⟨t, h, q⟩ := hbody cdv A outer s H vs Q E hr hsp
  exact ⟨t, h.nox, q⟩
/-- the built-in names as the top leaves them -/
structure Bn (mg : Str → Option Value) : Prop where
  gcd_ : mg "gcd" = some (.builtin "math.gcd")
  len_ : mg "len" = none
  abs_ : mg "abs" = none
  max_ : mg "max" = none
  int_ : mg "int" = none
  isinstance_ : mg "isinstance" = none
  range_ : mg "range" = none
  enumerate_ : mg "enumerate" = none
  list_ : mg "list" = none
  tuple_ : mg "tuple" = none
  str_ : mg "str" = none
  bool_ : mg "bool" = none
  dict_ : mg "dict" = none
/-! ### heaps -/
theorem _root_.L2.Same.sqt {K : PySem.W.Frag} {H H' : Hp} {a : Addr} {xs : List V} (e : Same H H') (h : SqT K H a xs) : SqT K H' a xs := by
  rcases h with (h | ⟨o, h⟩) | h
  · exact .inl (.inl (e _ _ h))
  · exact .inl (.inr ⟨o, e _ _ h⟩)
  · exact .inr h
theorem same_new {H : Hp} {p : Addr} (h : H p = none) (o : HO) : Same H (upd H p o) := fun b u q => by rw [upd_ne (ne_of_none q h)]; exact q
/-- a pair of ints that stands for q -/
def Rq (K : PySem.W.Frag) (H : Hp) (v : V) (q : Rat) : Prop := ∃ a, v = .ref a ∧ SqT K H a [.int q.num, .int (q.den : Int)]
theorem Rq.same {K : PySem.W.Frag} {H H' : Hp} {v : V} {q : Rat} (e : Same H H') (h : Rq K H v q) : Rq K H' v q := by
  obtain ⟨a, rfl, h⟩ := h
  exact ⟨a, rfl, e.sqt h⟩
theorem sz2 : 2 ≤ sizeLine := by decide
theorem at0 {xs : List V} {v : V} (h : xs[0]? = some v) : atI xs 0 = some v := atI_nat (j := 0) h
theorem at1 {xs : List V} {v : V} (h : xs[1]? = some v) : atI xs 1 = some v := atI_nat (j := 1) h
theorem at2 {xs : List V} {v : V} (h : xs[2]? = some v) : atI xs 2 = some v := atI_nat (j := 2) h
theorem ifT {c : Bool} {A B : Prop} (hc : c = true) (h : A) : if c = true then A else B := by
  rw [if_pos hc]
  exact h
theorem ifF {c : Bool} {A B : Prop} (hc : c = false) (h : B) : if c = true then A else B := by
  rw [hc, if_neg Bool.false_ne_true]
  exact h
theorem dF {p : Prop} [Decidable p] (h : ¬ p) : decide p = false := decide_eq_false h
theorem dT {p : Prop} [Decidable p] (h : p) : decide p = true := decide_eq_true h
theorem ifD {p : Prop} [Decidable p] {A B : Prop} (h1 : p → A) (h2 : ¬ p → B) : if decide p = true then A else B := by
  by_cases h : p
  · exact ifT (decide_eq_true h) (h1 h)
  · exact ifF (decide_eq_false h) (h2 h)
theorem fmod_nat (x m : Nat) : (x : Int).fmod (m : Int) = ((x % m : Nat) : Int) := by
  rw [Int.fmod_eq_emod_of_nonneg _ (by omega)]
  rfl
/-- what stands behind a statement, said once for all its ways -/
theorem cut {t u : TS} {D : Ends} {σ : L2.St} {H : Hp} (mid : L2.St → Hp → Prop) (key : ∀ σ' H', mid σ' H' → u D σ' H') (h : (∀ σ' H', mid σ' H' → u D σ' H') → tSeq t u D σ H) : tSeq t u D σ H := h key
/-! ### the store of draws -/
/-- at s stands a store: the script's list at l, five counters -/
def Sto (l s : Addr) (H : Hp) : Prop := ∃ (ns : List Int) (pos num seed hold cnt : Int), H s = some (.lst [.ref l, .int pos, .int num, .int seed, .int hold, .int cnt]) ∧ l ≠ s ∧ H l = some (.lst (ns.map V.int)) ∧ ns.length ≤ 63 ∧ 0 ≤ pos ∧ 0 ≤ num ∧ 0 ≤ seed ∧ seed < 1000000007
/-- all but what stands at s is as it was -/
def Fr (s : Addr) (H H' : Hp) : Prop := ∀ b o, H b = some o → b ≠ s → H' b = some o
theorem Fr.refl (s : Addr) (H : Hp) : Fr s H H := fun _ _ h _ => h
theorem Fr.trans {s : Addr} {H H1 H2 : Hp} (a : Fr s H H1) (b : Fr s H1 H2) : Fr s H H2 := fun c o h n => b c o (a c o h n) n
theorem Fr.of {s : Addr} {H H' : Hp} (e : Same H H') : Fr s H H' := fun b o h _ => e b o h
theorem Fr.upd {s : Addr} {H : Hp} (o : HO) : Fr s H (upd H s o) := fun b u h n => by rw [upd_ne n]; exact h
theorem Fr.free {s : Addr} {H H' : Hp} (e : Fr s H H') {p : Addr} (h : H' p = none) (n : p ≠ s) : H p = none := by
  cases q : H p with
  | none => rfl
  | some o =>
    rw [e p o q n] at h
    cases h
theorem Sto.some {l s : Addr} {H : Hp} (h : Sto l s H) : ∃ xs, H s = some (.lst xs) := by
  obtain ⟨_, _, _, _, _, _, h, _⟩ := h
  exact ⟨_, h⟩
theorem Sto.ne {l s : Addr} {H : Hp} (h : Sto l s H) {p : Addr} (n : H p = none) : p ≠ s := by
  obtain ⟨xs, h⟩ := h.some
  exact fun z => by rw [z, h] at n; cases n
theorem Sto.nl {l s : Addr} {H : Hp} (h : Sto l s H) {p : Addr} (n : H p = none) : p ≠ l := by
  obtain ⟨_, _, _, _, _, _, _, _, h, _⟩ := h
  exact fun z => by rw [z, h] at n; cases n
theorem Sto.same {l s : Addr} {H H' : Hp} (e : Same H H') (h : Sto l s H) : Sto l s H' := by
  obtain ⟨ns, pos, num, seed, hold, cnt, h1, h2, h3, r⟩ := h
  exact ⟨ns, pos, num, seed, hold, cnt, e _ _ h1, h2, e _ _ h3, r⟩
/-- what becomes of another list does not matter -/
theorem Sto.upd {l s D : Addr} {H : Hp} {o : HO} (h : Sto l s H) (n1 : D ≠ s) (n2 : D ≠ l) : Sto l s (upd H D o) := by
  obtain ⟨ns, pos, num, seed, hold, cnt, h1, h2, h3, r⟩ := h
  exact ⟨ns, pos, num, seed, hold, cnt, by rw [upd_ne (Ne.symm n1)]; exact h1, h2, by rw [upd_ne (Ne.symm n2)]; exact h3, r⟩
/-- a tuple outlives what becomes of a list -/
theorem sqt_fr {K : PySem.W.Frag} {s a : Addr} {H H' : Hp} {xs : List V} (e : Fr s H H') (hs : ∃ ys, H s = some (.lst ys)) (h : SqT K H a xs) : SqT K H' a xs := by
  obtain ⟨ys, hs⟩ := hs
  have n : ∀ {o : HO}, H a = some o → (∀ ys, o ≠ .lst ys) → a ≠ s := fun {o} h1 h2 z => by
    rw [z, hs] at h1
    exact h2 ys (Option.some.inj h1).symm
  rcases h with (h | ⟨o, h⟩) | h
  · exact .inl (.inl (e _ _ h (n h fun _ z => by cases z)))
  · exact .inl (.inr ⟨o, e _ _ h (n h fun _ z => by cases z)⟩)
  · exact .inr h
theorem Rq.fr {K : PySem.W.Frag} {s : Addr} {H H' : Hp} {v : V} {q : Rat} (e : Fr s H H') (hs : ∃ ys, H s = some (.lst ys)) (h : Rq K H v q) : Rq K H' v q := by
  obtain ⟨a, rfl, h⟩ := h
  exact ⟨a, rfl, sqt_fr e hs h⟩
theorem seq_fr {K : PySem.W.Frag} {s a : Addr} {H H' : Hp} {xs : List V} (e : Fr s H H') (n : a ≠ s) (h : SqL K H a xs) : SqL K H' a xs := by
  rcases h with (h | ⟨o, h⟩) | h
  · exact .inl (.inl (e _ _ h n))
  · exact .inl (.inr ⟨o, e _ _ h n⟩)
  · exact .inr h
theorem sm6 : 6 ≤ sizeLine := by decide
theorem sm4 : 4 ≤ sizeLine := by decide
theorem sm3 : 3 ≤ sizeLine := by decide
theorem sm5 : 5 ≤ sizeLine := by decide
end Vk

namespace Vk
open PySem L2 Vm
/-! ### what a question asks, said so that it is answered by looks at the context -/
variable {K : PySem.W.Frag}
theorem aTup {H : Hp} {xs : List V} {Q : VK} (h : ∀ p H', H p = none → Same H H' → SqT K H' p xs → Q (.ref p) H') : ∀ p, H p = none → Q (.ref p) (upd H p (.tup xs)) := fun p hp => h p _ hp (same_new hp _) (SqT.of upd_same)
theorem aLst {H : Hp} {xs : List V} {Q : VK} (h : ∀ p H', H p = none → Same H H' → H' p = some (.lst xs) → Q (.ref p) H') : ∀ p, H p = none → Q (.ref p) (upd H p (.lst xs)) := fun p hp => h p _ hp (same_new hp _) upd_same
theorem aRq {H : Hp} {q : Rat} {Q : VK} (h : ∀ a H', Same H H' → Rq K H' (.ref a) q → SqT K H' a [.int q.num, .int (q.den : Int)] → Q (.ref a) H') : ∀ r H', Same H H' → Rq K H' r q → Q r H' := fun r H' e hr => by
  obtain ⟨a, rfl, ha⟩ := id hr
  exact h a H' e hr ha
theorem same_new2 {H : Hp} {p q : Addr} {o u : HO} (h : H p = none) (g : upd H p o q = none) : Same H (upd (upd H p o) q u) := (same_new h o).trans (same_new g u)
theorem same_new3 {H : Hp} {p q r : Addr} {o u x : HO} (h : H p = none) (g : upd H p o q = none) (f : upd (upd H p o) q u r = none) : Same H (upd (upd (upd H p o) q u) r x) := (same_new2 h g).trans (same_new f x)
theorem sameFree {H H' : Hp} {p : Addr} (e : Same H H') (h : H' p = none) : H p = none := by
  cases q : H p with
  | none => rfl
  | some o => rw [e _ _ q] at h; cases h
theorem sameAt {H H' : Hp} {a : Addr} {o : HO} (e : Same H H') (h : H a = some o) : H' a = some o := e _ _ h
theorem psNox {X : Cx} {s : Stmt} {t : TS} (h : PS X.nox s t) : PS X s t := ⟨fun pins st σ H D I hw => PySem.wpAny_mono (h.run pins st σ H D (I.wish _) hw) (fun _ _ q => q.unwish) fun _ _ z => False.elim z⟩
theorem cxOf_K {CX : CXT} {P : Program} {w : World} {K : PySem.W.Frag} {mg : Str → Option Value} {base : Heap} {N : List Str} {q : Str} {sc : Scope} {f : Addr} {cdv : Value} {A : Around} {outer : List Env} {s : Shared} {H : Hp} {E : XK} : (cxOf CX P w K mg base N q sc f cdv A outer s H E).K = K := rfl
theorem cxOf_noxK {CX : CXT} {P : Program} {w : World} {K : PySem.W.Frag} {mg : Str → Option Value} {base : Heap} {N : List Str} {q : Str} {sc : Scope} {f : Addr} {cdv : Value} {A : Around} {outer : List Env} {s : Shared} {H : Hp} {E : XK} : (cxOf CX P w K mg base N q sc f cdv A outer s H E).nox.K = K := rfl
theorem sz3 : 3 ≤ sizeLine := by decide
theorem sz1 : 1 ≤ sizeLine := by decide
theorem sz4 : 4 ≤ sizeLine := by decide
end Vk

set_option maxHeartbeats 2000000
namespace PySem
namespace ValX
open PySem.W PySem.Calls PyProof.Rows PySem.HandSPX
/-! ### the text of __init__ -/
def iA (p1 p2 : Pos) : Arguments := { posonlyargs := [], args := [{ arg := "self", annotation := none, pos := p1 }, { arg := "value", annotation := none, pos := p2 }], vararg := none, kwonlyargs := [], kw_defaults := [], kwarg := none, defaults := [] }
def iB (q1 q2 q3 q4 : Pos) : List Stmt := [.Assign [.Attribute (.Name "self" q1) "value" q2] (.Name "value" q3) q4]
def iS : Scope := { kind := .function, names := [(PySem.Str.ofString "self", .local), (PySem.Str.ofString "value", .local)], isGenerator := false, isCoroutine := false, more := [] }
/-- what the written part says of the class, at C, and of its __init__, at fI -/
structure ValTxt (K : Frag) (mg : Str → Option Value) (nm : Str) (C fI : Addr) : Prop where
  gC : mg nm = some (.ref C)
  cls : ∃ nm q N bs bm sn sub ab col dd k0 k1 k2 k3 k5, K.lookup C = some (excClassObj nm q C N bs bm true sn sub ab col dd k0 k1 k2 k3 k5 "ValueError.__new__") ∧ refsVE bm = true
  sa : findIn K (.ref C) "__setattr__" = some (some (.builtin "object.__setattr__"))
  ga : findIn K (.ref C) "__getattribute__" = some (some (.builtin "BaseException.__getattribute__"))
  gg : findIn K (.ref C) "__getattr__" = some none
  noN : findIn K (.ref C) "value" = some none
  iC : findIn K (.ref C) "__init__" = some (some (.ref fI))
  tC : typeIn K (.ref fI) = some (.type "function")
  kC : keepIn K (.ref C) = true
  exC : subIn K (.ref C) (.type "BaseException") = some true
  tyC : typeIn K (.ref C) = some (.type "type")
  hdC : hasDictIn K C = true
  te : exmOne K (.ref C) (.ref C) = some true
  fn : ∃ (q : Str) (oc : Value) (od : Option Addr) (doc pm : Value) (an : Option Addr) (cdv ct : Value) (osl : Array (Option Value)) (p1 p2 q1 q2 q3 q4 : Pos),
    K.lookup fI = some ⟨oc, od, .func (fnOf "__init__" q (iA p1 p2) (iB q1 q2 q3 q4) iS .none .none doc pm an cdv ct), osl⟩ ∧ codeIn K cdv q = true
theorem one_size (v : Value) : [v].length ≤ sizeLine := by
  rw [sizeLine_eq]
  exact (by decide : 1 ≤ 16777216)
theorem kept_but {K : Frag} {h h' : Heap} {x : Addr} (X : K.In h) (hx : K.lookup x = none) (k : ∀ b o, b ≠ x → h.get? b = some o → h'.get? b = some o) : K.In h' := fun a o e =>
  k a o (fun z => by rw [z, hx] at e; cases e) (X a o e)
theorem ldC {M : Model} {s : Shared} {name : Str} {scope : Scope} {L a : Addr} {cd : Value} {m : Str → Option Value} {x : Str} {pos : Pos} {v : Value} {Q : Value → Shared → Prop} {A : Around} {E : Value → Shared → Prop} (hn : s.heap.Ns L m) (hv : m x = some v) (h : Q v s)
    (hk : scope.kind = .function := by rfl) (hl : (envOfC name scope L a cd).kindOf x = some .local := by rfl) (hd : (x == ("__debug__" : Str)) = false := by decide) :
    wpAny M A (eval (.Name x pos) (envOfC name scope L a cd)) Q E s := wpAny_Name (wpAny_loadName_local hk hl hn hv h) hd
/-- what __init__ leaves of a fresh exception at x -/
structure InitEnd (h h' : Heap) (x C dx t1 : Addr) (v : Value) : Prop where
  keep : ∀ b o, b ≠ x → h.get? b = some o → h'.get? b = some o
  obj : h'.get? x = some { cls := .ref C, dict := some dx, data := .fields #[.ref t1, .none, .none, .none, .bool false, .none] }
  dbig : h.objs.size ≤ dx
  dne : dx ≠ x
  ns : h'.Ns1 dx (fun y => if y = "value" then some v else none)
/-- a made error -/
structure OwnMade (h h' : Heap) (e C d : Addr) (v : Value) : Prop where
  keep : ∀ b o, h.get? b = some o → h'.get? b = some o
  new : h.objs.size ≤ e
  obj : ∃ oe vs, h'.get? e = some oe ∧ oe.cls = .ref C ∧ oe.dict = some d ∧ oe.data = .fields vs ∧ vs[1]? = some .none ∧ vs[2]? = some .none
  dbig : h.objs.size ≤ d
  dne : d ≠ e
  ns : h'.Ns1 d (fun y => if y = "value" then some v else none)
section
variable {prog : Program} {w : World} {A : Around} {E : Value → Shared → Prop} {R : Result → Shared → Prop} {s : Shared} {K : Frag} {mg : Str → Option Value} {nm : Str} {C fI : Addr}
theorem val_init (T : ValTxt K mg nm C fI) {x t0 : Addr} {v : Value} (X : K.In s.heap) (hlim : s.heap.NoLimit) (hx : s.heap.get? x = some (excO C t0)) (hnx : K.lookup x = none) (hroom : A.depth < recursionLimit)
    (hq : ∀ h' tk dx, InitEnd s.heap h' x C dx t0 v → R (.ok (.ret .none)) { s with heap := h', toks := tk }) :
    codeAny (model prog w) A (.call (.ref fI) ⟨[.ref x, v], []⟩) R s := by
  obtain ⟨qn, oc, od, doc, pm, an, cdv, ct, osl, p1, p2, q1, q2, q3, q4, ho, hcd⟩ := T.fn
  obtain ⟨cnm, q, N, bs, bm, sn, sub, ab, col, dd, k0, k1, k2, k3, k5, hC, hbm⟩ := T.cls
  have hcl : clsIn K C = some { name := cnm, bases := bs, mro := .ref C :: bm, ns := N, qualname := q, hasDict := true, slotNames := sn, subclasses := sub, abstract := ab, collection := col, hasDel := false } := by unfold clsIn; rw [hC] <;> rfl
  refine Att.call_fn (binds := [("self", .ref x), ("value", v)]) X hlim ho hcd hroom (BindsTo.of_eq (by first | rfl | with_unfolding_all rfl)) (by first | rfl | decide | with_unfolding_all rfl) (fun s₁ IC => ?_) rfl rfl rfl
  obtain ⟨h₁, tk₁, rfl⟩ := IC.toInCall.same
  have k : ∀ b o, s.heap.get? b = some o → h₁.get? b = some o := IC.toInCall.keep
  have hn := IC.toInCall.ns
  have hxL : s.heap.objs.size ≠ x := Nat.ne_of_gt (Heap.lt_size hx)
  have X₁ : K.In h₁ := X.keeps k
  have hx₁ := k _ _ hx
  -- self.by = by
  show wpAny _ _ (execs _ _) _ _ _
  refine wpAny_execs_cons (plainObj_wpAny_Assign_Attribute ?_)
  refine ldC (v := v) hn (by first | rfl | with_unfolding_all rfl | kernel_rfl) (ldC (v := .ref x) hn (by first | rfl | with_unfolding_all rfl | kernel_rfl) ?_)
  refine set_plain X₁ (ox := excO C t0) (od := none) ⟨hx₁, rfl, rfl, trivial⟩ T.sa ?_
  refine exc_osa X₁ hx₁ hcl (show refsVE (.ref C :: bm) = true from hbm) rfl T.noN (fun h₃ tk₃ dx k₃ dn dne hx₃ hn₃ => ?_)
  show wpAny _ _ (execs _ _) _ _ _
  have z : s.heap.objs.size < h₁.objs.size := hn.lt
  exact wpAny_execs_nil (hq h₃ tk₃ dx ⟨fun b o hb e => k₃ b o hb (k b o e), hx₃, Nat.le_of_lt (Nat.lt_of_lt_of_le z dn), dne, hn₃⟩)
theorem val_made (T : ValTxt K mg nm C fI) {v : Value} (X : K.In s.heap) (hlim : s.heap.NoLimit) (hroom : A.depth + 1 < recursionLimit)
    (hq : ∀ h' tk e d, OwnMade s.heap h' e C d v → R (.ok (.ret (.ref e))) { s with heap := h', toks := tk }) :
    codeAny (model prog w) A (.call (.ref C) ⟨[v], []⟩) R s := by
  obtain ⟨cnm, q, N, bs, bm, sn, sub, ab, col, dd, k0, k1, k2, k3, k5, hC, hbm⟩ := T.cls
  obtain ⟨hp, g, dr, tk, os⟩ := s
  have k : ∀ b o, hp.get? b = some o → ((hp.push (kdv_tup [v])).push (excO C hp.objs.size)).get? b = some o := fun b o e => Heap.get?_push_of_some _ (Heap.get?_push_of_some _ e)
  have hget : ((hp.push (kdv_tup [v])).push (excO C hp.objs.size)).get? (hp.objs.size + 1) = some (excO C hp.objs.size) := by heap_get
  have hnx : K.lookup (hp.objs.size + 1) = none := by
    cases e : K.lookup (hp.objs.size + 1) with
    | none => rfl
    | some o =>
      have z : hp.get? (hp.objs.size + 1) = some o := X _ _ e
      exact absurd (Nat.lt_of_succ_lt (Heap.lt_size z)) (Nat.lt_irrefl _)
  refine call_own F.excBase_ValueError (fun X => refsVE_contains X bm hbm) (X _ _ hC) (looks_findIn X T.iC) (fun self => bind_fn X self T.tC) (one_size v) ?_
  refine val_init (s := ⟨(hp.push (kdv_tup [v])).push (excO C hp.objs.size), g, dr, tk, os⟩) T (X.keeps k) (hlim.keeps k) hget hnx ?_ fun h' tk' dx ⟨k', hx, dn, dne, hns⟩ => ?_
  · show A.depth + 1 < recursionLimit
    exact hroom
  · have old : ∀ b o, hp.get? b = some o → h'.get? b = some o := fun b o e => k' b o (Nat.ne_of_lt (Nat.lt_succ_of_lt (Heap.lt_size e))) (k b o e)
    have z : hp.objs.size + 1 + 1 ≤ dx := by
      first
        | (simpa only [Heap.size_push] using dn)
        | exact dn
        | (have q := dn; rw [Heap.size_push, Heap.size_push] at q; exact q)
    exact ⟨rfl, hq h' tk' (hp.objs.size + 1) dx ⟨old, Nat.le_succ _, ⟨_, _, hx, rfl, rfl, rfl, rfl, rfl⟩, Nat.le_trans (Nat.le_trans (Nat.le_succ _) (Nat.le_succ _)) z, dne, hns⟩⟩
end
end ValX
end PySem
namespace L2
open PySem PySem.Spec PyProof.Rows
theorem relO_val {v : V} {v' : Value} (r : RelV v v') (f : Str) : RelO (List.lookup f [(("value" : Str), v)]) (if f = "value" then some v' else none) := by
  by_cases hw : f = "value"
  · subst hw
    rw [if_pos rfl]
    have q : List.lookup ("value" : Str) [(("value" : Str), v)] = some v := by simp [List.lookup]
    rw [q]
    exact r
  · rw [if_neg hw]
    have qw : (f == ("value" : Str)) = false := by simpa using hw
    have q2 : List.lookup f [(("value" : Str), v)] = none := by simp [List.lookup, qw]
    rw [q2]
    trivial
section
variable {X : Cx} {nm : Str} {C fI : Addr}
/-- X(e) -/
def tMkVal (C : Addr) (ta : TA) : St → Hp → XK → Prop := fun σ H Q => ta σ H fun vs H1 => ∃ v, vs = [v] ∧ ∀ d, H1 d = none → Q (.ref C) (some d) (upd H1 d (.xd [(("value" : Str), v)]))
theorem pmk_val {a : Expr} {ta : TA} {p pos : Pos} {k : Nat} (T : PySem.ValX.ValTxt X.K X.mg nm C fI) (hr : Room k X.A) (ha : PA X [a] ta) (hg : Gl X nm := by rfl) (hdb : (nm == ("__debug__" : Str)) = false := by decide)
    (he : starEach (a :: []) X.env = (false, eval a X.env) :: starEach [] X.env := by rfl) (hpl : (backTo pos (starEach [] X.env)).any (·.1) = false := by rfl) :
    PMk X (.Call (.Name nm p) [a] [] pos) (tMkVal C ta) := by
  intro pins s σ H Q I h
  refine wpAny_Call_Name_kw (ld_glob I hg T.gC ?_ hdb)
  refine PySem.W.callWith_K (h₀ := X.base) I.ok.mod.kin T.kC (thn (ha.run pos pins s σ H _ I h) fun us s1 hh => ?_) he hpl
  obtain ⟨vs, H1, I1, r1, v, ev, q1⟩ := hh
  subst ev
  refine ⟨I1.kIn, ?_⟩
  cases r1 with
  | cons rv rn =>
    rename_i v' us'
    cases rn
    show wpAny _ _ (call (.ref C) [v']) _ _ _
    have hlim := I1.nolimit
    obtain ⟨hp, g, dr, tk, os⟩ := s1
    refine wpAny_call (PySem.ValX.val_made T I1.kIn hlim (by have := hr.dp; omega) fun h' tk' e d M => ?_)
    show MkP X pins σ Q (.ref e) ⟨h', g, dr, tk', os⟩
    obtain ⟨oe, fv, hoe, hc, hd, hdat, h1, h2⟩ := M.obj
    have hns := M.ns
    obtain ⟨G', g1, g2⟩ := restrict h' fun b => decide (b ≠ e)
    have gk : ∀ b, b ≠ e → G'.get? b = h'.get? b := fun b hb => g1 b (decide_eq_true hb)
    have ge : G'.get? e = none := g2 e (by simp)
    have old : ∀ b o, hp.get? b = some o → G'.get? b = some o := fun b o q => (gk b (Nat.ne_of_lt (Nat.lt_of_lt_of_le (Heap.lt_size q) M.new))).trans (M.keep b o q)
    have ob : ObjOk X.prog X.w (upd H1 d (.xd [(("value" : Str), v)])) G' d (.xd [(("value" : Str), v)]) :=
      ⟨_, hns.at (fun o q => (gk d M.dne).trans q), fun f => relO_val rv f⟩
    have J : Inv X pins σ (upd H1 d (.xd [(("value" : Str), v)])) ⟨G', g, dr, tk', os⟩ := I1.laid (t' := tk') old M.dbig ob
    refine ⟨e, oe, fv, ⟨G', g, dr, tk', os⟩, _, .ref C, some d, rfl, J, fun b o q => ?_, ge, hoe, ⟨hc, hd⟩, hdat, h1, ?_, rfl, I1.bare, raises_own T.exC T.tyC, q1 d (I1.hok.fresh M.dbig)⟩
    · by_cases hb : b = e
      · have q' : G'.get? b = some o := q
        rw [hb, ge] at q'; cases q'
      · exact (gk b hb).symm.trans q
    · rw [upd_ne (Ne.symm M.dne)]
      exact I1.hok.fresh M.new
/-- raise X(e) -/
def tRaiseVal (C : Addr) (W : WX) (ta : TA) : TS := fun _ σ H => tMkVal C ta σ H fun cls d H' => W cls d σ H'
theorem ps_raiseVal {a : Expr} {ta : TA} {W : WX} {p pos pos2 : Pos} {k : Nat} (hc : X.calm = true) (T : PySem.ValX.ValTxt X.K X.mg nm C fI) (hr : Room k X.A) (tk : Takes X W) (ha : PA X [a] ta) (hg : Gl X nm := by rfl) (hdb : (nm == ("__debug__" : Str)) = false := by decide)
    (he : starEach (a :: []) X.env = (false, eval a X.env) :: starEach [] X.env := by rfl) (hpl : (backTo pos (starEach [] X.env)).any (·.1) = false := by rfl) :
    PS X (.Raise (some (.Call (.Name nm p) [a] [] pos)) none pos2) (tRaiseVal C W ta) := ps_raise hc tk (pmk_val T hr ha hg hdb he hpl)
theorem pmk_valN {a : Expr} {ta : TA} {p pos : Pos} {k : Nat} (T : PySem.ValX.ValTxt X.K X.mg nm C fI) (hr : Room k X.A) (ha : PA X [a] ta) (hg : Gl X nm := by rfl) (hdb : (nm == ("__debug__" : Str)) = false := by decide)
    (he : starEach (a :: []) X.env = (false, eval a X.env) :: starEach [] X.env := by rfl) (hpl : (backTo pos (starEach [] X.env)).any (·.1) = false := by rfl) :
    L2N.PMk X (.Call (.Name nm p) [a] [] pos) (tMkVal C ta) := by
  intro pins s σ H Q I h
  refine wpAny_Call_Name_kw (ld_glob I hg T.gC ?_ hdb)
  refine PySem.W.callWith_K (h₀ := X.base) I.ok.mod.kin T.kC (thn (ha.run pos pins s σ H _ I h) fun us s1 hh => ?_) he hpl
  obtain ⟨vs, H1, I1, r1, v, ev, q1⟩ := hh
  subst ev
  refine ⟨I1.kIn, ?_⟩
  cases r1 with
  | cons rv rn =>
    rename_i v' us'
    cases rn
    show wpAny _ _ (call (.ref C) [v']) _ _ _
    have hlim := I1.nolimit
    obtain ⟨hp, g, dr, tk, os⟩ := s1
    refine wpAny_call (PySem.ValX.val_made T I1.kIn hlim (by have := hr.dp; omega) fun h' tk' e d M => ?_)
    show L2N.MkP X pins σ Q (.ref e) ⟨h', g, dr, tk', os⟩
    obtain ⟨oe, fv, hoe, hc, hd, hdat, h1, h2⟩ := M.obj
    have hns := M.ns
    obtain ⟨G', g1, g2⟩ := restrict h' fun b => decide (b ≠ e)
    have gk : ∀ b, b ≠ e → G'.get? b = h'.get? b := fun b hb => g1 b (decide_eq_true hb)
    have ge : G'.get? e = none := g2 e (by simp)
    have old : ∀ b o, hp.get? b = some o → G'.get? b = some o := fun b o q => (gk b (Nat.ne_of_lt (Nat.lt_of_lt_of_le (Heap.lt_size q) M.new))).trans (M.keep b o q)
    have ob : ObjOk X.prog X.w (upd H1 d (.xd [(("value" : Str), v)])) G' d (.xd [(("value" : Str), v)]) :=
      ⟨_, hns.at (fun o q => (gk d M.dne).trans q), fun f => relO_val rv f⟩
    have J : Inv X pins σ (upd H1 d (.xd [(("value" : Str), v)])) ⟨G', g, dr, tk', os⟩ := I1.laid (t' := tk') old M.dbig ob
    refine ⟨e, oe, fv, ⟨G', g, dr, tk', os⟩, _, .ref C, some d, rfl, J, fun b o q => ?_, ge, hoe, ⟨hc, hd, fun vs ev => by rw [hdat] at ev; cases ev; exact h2⟩, hdat, h1, ?_, rfl, I1.bare, raises_own T.exC T.tyC, q1 d (I1.hok.fresh M.dbig)⟩
    · by_cases hb : b = e
      · have q' : G'.get? b = some o := q
        rw [hb, ge] at q'; cases q'
      · exact (gk b hb).symm.trans q
    · rw [upd_ne (Ne.symm M.dne)]
      exact I1.hok.fresh M.new
/-- raise X(e), where the context of exceptions is told, too -/
theorem ps_raiseValN {a : Expr} {ta : TA} {W : WX} {p pos pos2 : Pos} {k : Nat} (hc : X.calm = true) (T : PySem.ValX.ValTxt X.K X.mg nm C fI) (hr : Room k X.A) (tk : L2N.Takes X W) (ha : PA X [a] ta) (hg : Gl X nm := by rfl) (hdb : (nm == ("__debug__" : Str)) = false := by decide)
    (he : starEach (a :: []) X.env = (false, eval a X.env) :: starEach [] X.env := by rfl) (hpl : (backTo pos (starEach [] X.env)).any (·.1) = false := by rfl) :
    PS X (.Raise (some (.Call (.Name nm p) [a] [] pos)) none pos2) (tRaiseVal C W ta) := L2N.ps_raise hc tk (pmk_valN T hr ha hg hdb he hpl)
/-- e.value, e the exception that the suite holds (at a; its class cls, its dict d) -/
def tByVal (C : Addr) (a : Addr) (cls : Value) (d : Option Addr) (te : TE) : TE := fun σ H Q => te σ H fun x H1 => x = .ref a ∧ cls = .ref C ∧ ∃ (dd : Addr) (v : V), d = some dd ∧ H1 dd = some (.xd [(("value" : Str), v)]) ∧ Q v H1
theorem pe_byVal {a : Addr} {oe : Obj} {cls : Value} {d : Option Addr} {pn : List (Addr × Obj)} {e : Expr} {te : TE} {pos : Pos} (T : PySem.ValX.ValTxt X.K X.mg nm C fI) (hz : Zc cls d oe) (hf : ∃ vs, oe.data = .fields vs) (he : PE (X.suite a ((a, oe) :: pn)) e te)
    (hb : attributeBase e "value" X.env (eval e X.env) = eval e X.env := by rfl) :
    PE (X.suite a ((a, oe) :: pn)) (.Attribute e "value" pos) (tByVal C a cls d te) := by
  refine ⟨fun pins s σ H Q I h => ?_⟩
  refine attr_of hb (thn (he.run pins s σ H _ I h) fun u s1 hh => ?_)
  obtain ⟨x, H1, I1, rx, ex, ec, dd, v, ed, ea, q⟩ := hh
  subst ex
  obtain rfl : u = Value.ref a := rx
  subst ec
  subst ed
  obtain ⟨ha, _⟩ := I1.pin (a, oe) (List.mem_append_left _ List.mem_cons_self)
  obtain ⟨vs, hd⟩ := hf
  have hx : ObjOk X.prog X.w H1 s1.heap dd (.xd [(("value" : Str), v)]) := I1.hok dd _ ea
  obtain ⟨mA, hns, hr⟩ := hx
  obtain ⟨od, ho, hl⟩ := lookIn_ns hns
  have l : List.lookup ("value" : Str) [(("value" : Str), v)] = some v := by simp [List.lookup]
  obtain ⟨u, hu, ru⟩ := RelO.some_of (v := v) (o := mA "value") (by rw [← l]; exact hr "value")
  have J : PySem.W.InstAt s1.heap a oe C (some od) := ⟨ha, hz.1, by unfold PySem.W.notCls; rw [hd] <;> rfl, by rw [hz.2]; exact ho⟩
  exact HandSPX.exc_get I1.kIn J T.ga T.gg T.exC (PySem.W.findObj_own T.hdC T.noN rfl (by rw [hl, hu])) (handed_of ru) ⟨v, H1, I1.tok _, ru, q⟩
end
end L2

set_option maxHeartbeats 2000000
/-! a class whose __init__ stores its two arguments as self.low and self.high -/
namespace PySem
namespace Val2
open PySem.W PySem.Calls PyProof.Rows PySem.HandSPX PySem.ValX
def iA (p1 p2 p3 : Pos) : Arguments := { posonlyargs := [], args := [{ arg := "self", annotation := none, pos := p1 }, { arg := "low", annotation := none, pos := p2 }, { arg := "high", annotation := none, pos := p3 }], vararg := none, kwonlyargs := [], kw_defaults := [], kwarg := none, defaults := [] }
def iB (q1 q2 q3 q4 r1 r2 r3 r4 : Pos) : List Stmt := [.Assign [.Attribute (.Name "self" q1) "low" q2] (.Name "low" q3) q4, .Assign [.Attribute (.Name "self" r1) "high" r2] (.Name "high" r3) r4]
def iS : Scope := { kind := .function, names := [(PySem.Str.ofString "self", .local), (PySem.Str.ofString "low", .local), (PySem.Str.ofString "high", .local)], isGenerator := false, isCoroutine := false, more := [] }
structure Txt (K : Frag) (mg : Str → Option Value) (nm : Str) (C fI : Addr) : Prop where
  gC : mg nm = some (.ref C)
  cls : ∃ nm q N bs bm sn sub ab col dd k0 k1 k2 k3 k5, K.lookup C = some (excClassObj nm q C N bs bm true sn sub ab col dd k0 k1 k2 k3 k5 "ValueError.__new__") ∧ refsVE bm = true
  sa : findIn K (.ref C) "__setattr__" = some (some (.builtin "object.__setattr__"))
  ga : findIn K (.ref C) "__getattribute__" = some (some (.builtin "BaseException.__getattribute__"))
  gg : findIn K (.ref C) "__getattr__" = some none
  noL : findIn K (.ref C) "low" = some none
  noH : findIn K (.ref C) "high" = some none
  iC : findIn K (.ref C) "__init__" = some (some (.ref fI))
  tC : typeIn K (.ref fI) = some (.type "function")
  kC : keepIn K (.ref C) = true
  exC : subIn K (.ref C) (.type "BaseException") = some true
  tyC : typeIn K (.ref C) = some (.type "type")
  hdC : hasDictIn K C = true
  te : exmOne K (.ref C) (.ref C) = some true
  fn : ∃ (q : Str) (oc : Value) (od : Option Addr) (doc pm : Value) (an : Option Addr) (cdv ct : Value) (osl : Array (Option Value)) (p1 p2 p3 q1 q2 q3 q4 r1 r2 r3 r4 : Pos),
    K.lookup fI = some ⟨oc, od, .func (fnOf "__init__" q (iA p1 p2 p3) (iB q1 q2 q3 q4 r1 r2 r3 r4) iS .none .none doc pm an cdv ct), osl⟩ ∧ codeIn K cdv q = true
theorem two_size (u v : Value) : [u, v].length ≤ sizeLine := by
  rw [sizeLine_eq]
  exact (by decide : 2 ≤ 16777216)
abbrev m2 (u v : Value) : Str → Option Value := fun y => if y = "high" then some v else if y = "low" then some u else none
structure InitEnd (h h' : Heap) (x C dx t1 : Addr) (u v : Value) : Prop where
  keep : ∀ b o, b ≠ x → h.get? b = some o → h'.get? b = some o
  obj : h'.get? x = some { cls := .ref C, dict := some dx, data := .fields #[.ref t1, .none, .none, .none, .bool false, .none] }
  dbig : h.objs.size ≤ dx
  dne : dx ≠ x
  ns : h'.Ns1 dx (m2 u v)
structure OwnMade (h h' : Heap) (e C d : Addr) (u v : Value) : Prop where
  keep : ∀ b o, h.get? b = some o → h'.get? b = some o
  new : h.objs.size ≤ e
  obj : ∃ oe vs, h'.get? e = some oe ∧ oe.cls = .ref C ∧ oe.dict = some d ∧ oe.data = .fields vs ∧ vs[1]? = some .none ∧ vs[2]? = some .none
  dbig : h.objs.size ≤ d
  dne : d ≠ e
  ns : h'.Ns1 d (m2 u v)
section
variable {prog : Program} {w : World} {A : Around} {E : Value → Shared → Prop} {R : Result → Shared → Prop} {s : Shared} {K : Frag} {mg : Str → Option Value} {nm : Str} {C fI : Addr}
theorem val_init (T : Txt K mg nm C fI) {x t0 : Addr} {u v : Value} (X : K.In s.heap) (hlim : s.heap.NoLimit) (hx : s.heap.get? x = some (excO C t0)) (hnx : K.lookup x = none) (hroom : A.depth < recursionLimit)
    (hq : ∀ h' tk dx, InitEnd s.heap h' x C dx t0 u v → R (.ok (.ret .none)) { s with heap := h', toks := tk }) :
    codeAny (model prog w) A (.call (.ref fI) ⟨[.ref x, u, v], []⟩) R s := by
  obtain ⟨qn, oc, od, doc, pm, an, cdv, ct, osl, p1, p2, p3, q1, q2, q3, q4, r1, r2, r3, r4, ho, hcd⟩ := T.fn
  obtain ⟨cnm, q, N, bs, bm, sn, sub, ab, col, dd, k0, k1, k2, k3, k5, hC, hbm⟩ := T.cls
  have hcl : clsIn K C = some { name := cnm, bases := bs, mro := .ref C :: bm, ns := N, qualname := q, hasDict := true, slotNames := sn, subclasses := sub, abstract := ab, collection := col, hasDel := false } := by unfold clsIn; rw [hC] <;> rfl
  refine Att.call_fn (binds := [("self", .ref x), ("low", u), ("high", v)]) X hlim ho hcd hroom (BindsTo.of_eq (by first | rfl | with_unfolding_all rfl)) (by first | rfl | decide | with_unfolding_all rfl) (fun s₁ IC => ?_) rfl rfl rfl
  obtain ⟨h₁, tk₁, rfl⟩ := IC.toInCall.same
  have k : ∀ b o, s.heap.get? b = some o → h₁.get? b = some o := IC.toInCall.keep
  have hn := IC.toInCall.ns
  have hxL : s.heap.objs.size ≠ x := Nat.ne_of_gt (Heap.lt_size hx)
  have X₁ : K.In h₁ := X.keeps k
  have hx₁ := k _ _ hx
  show wpAny _ _ (execs _ _) _ _ _
  refine wpAny_execs_cons (plainObj_wpAny_Assign_Attribute ?_)
  refine ldC (v := u) hn (by first | rfl | with_unfolding_all rfl | kernel_rfl) (ldC (v := .ref x) hn (by first | rfl | with_unfolding_all rfl | kernel_rfl) ?_)
  refine set_plain X₁ (ox := excO C t0) (od := none) ⟨hx₁, rfl, rfl, trivial⟩ T.sa ?_
  refine exc_osa X₁ hx₁ hcl (show refsVE (.ref C :: bm) = true from hbm) rfl T.noL (fun h₃ tk₃ dx k₃ dn dne hx₃ hn₃ => ?_)
  have z : s.heap.objs.size < h₁.objs.size := hn.lt
  have X₃ : K.In h₃ := kept_but X₁ hnx k₃
  have dL : dx ≠ s.heap.objs.size := fun e => absurd (Nat.lt_of_lt_of_le z dn) (by rw [e]; exact Nat.lt_irrefl _)
  have hnL : h₃.Ns s.heap.objs.size _ := hn.at fun o e => k₃ _ o hxL e
  show wpAny _ _ (execs _ _) _ _ _
  refine wpAny_execs_cons (plainObj_wpAny_Assign_Attribute ?_)
  refine ldC (v := v) hnL (by first | rfl | with_unfolding_all rfl | kernel_rfl) (ldC (v := .ref x) hnL (by first | rfl | with_unfolding_all rfl | kernel_rfl) ?_)
  have hw : Within (fun y => if y = "low" then some u else none) ["low"] := fun y hy => by
    by_cases e : y = "low"
    · rw [e]; exact List.mem_cons_self
    · exact absurd (if_neg e) hy
  obtain ⟨oD, _, _, hoD, _, _⟩ := hn₃.count hw
  refine set_plain X₃ (ox := { cls := .ref C, dict := some dx, data := .fields #[.ref t0, .none, .none, .none, .bool false, .none] }) (od := some oD) ⟨hx₃, rfl, rfl, hoD⟩ T.sa ?_
  refine PySem.OEX.osa_old X₃ hx₃ hn₃ hw (by decide) hcl (show refsVE (.ref C :: bm) = true from hbm) rfl T.noH (fun h₄ tk₄ k₄ hn₄ => ?_)
  show wpAny _ _ (execs _ _) _ _ _
  have old : ∀ b o, b ≠ x → s.heap.get? b = some o → h₄.get? b = some o := fun b o hb e =>
    k₄ b o (Nat.ne_of_lt (Nat.lt_of_lt_of_le (Nat.lt_trans (Heap.lt_size e) z) dn)) (k₃ b o hb (k b o e))
  exact wpAny_execs_nil (hq h₄ tk₄ dx ⟨old, k₄ _ _ (Ne.symm dne) hx₃, Nat.le_of_lt (Nat.lt_of_lt_of_le z dn), dne, hn₄⟩)
theorem val_made (T : Txt K mg nm C fI) {u v : Value} (X : K.In s.heap) (hlim : s.heap.NoLimit) (hroom : A.depth + 1 < recursionLimit)
    (hq : ∀ h' tk e d, OwnMade s.heap h' e C d u v → R (.ok (.ret (.ref e))) { s with heap := h', toks := tk }) :
    codeAny (model prog w) A (.call (.ref C) ⟨[u, v], []⟩) R s := by
  obtain ⟨cnm, q, N, bs, bm, sn, sub, ab, col, dd, k0, k1, k2, k3, k5, hC, hbm⟩ := T.cls
  obtain ⟨hp, g, dr, tk, os⟩ := s
  have k : ∀ b o, hp.get? b = some o → ((hp.push (kdv_tup [u, v])).push (excO C hp.objs.size)).get? b = some o := fun b o e => Heap.get?_push_of_some _ (Heap.get?_push_of_some _ e)
  have hget : ((hp.push (kdv_tup [u, v])).push (excO C hp.objs.size)).get? (hp.objs.size + 1) = some (excO C hp.objs.size) := by heap_get
  have hnx : K.lookup (hp.objs.size + 1) = none := by
    cases e : K.lookup (hp.objs.size + 1) with
    | none => rfl
    | some o =>
      have z : hp.get? (hp.objs.size + 1) = some o := X _ _ e
      exact absurd (Nat.lt_of_succ_lt (Heap.lt_size z)) (Nat.lt_irrefl _)
  refine call_own F.excBase_ValueError (fun X => refsVE_contains X bm hbm) (X _ _ hC) (looks_findIn X T.iC) (fun self => bind_fn X self T.tC) (two_size u v) ?_
  refine val_init (s := ⟨(hp.push (kdv_tup [u, v])).push (excO C hp.objs.size), g, dr, tk, os⟩) T (X.keeps k) (hlim.keeps k) hget hnx ?_ fun h' tk' dx ⟨k', hx, dn, dne, hns⟩ => ?_
  · show A.depth + 1 < recursionLimit
    exact hroom
  · have old : ∀ b o, hp.get? b = some o → h'.get? b = some o := fun b o e => k' b o (Nat.ne_of_lt (Nat.lt_succ_of_lt (Heap.lt_size e))) (k b o e)
    have z : hp.objs.size + 1 + 1 ≤ dx := by
      first
        | (simpa only [Heap.size_push] using dn)
        | exact dn
        | (have q := dn; rw [Heap.size_push, Heap.size_push] at q; exact q)
    exact ⟨rfl, hq h' tk' (hp.objs.size + 1) dx ⟨old, Nat.le_succ _, ⟨_, _, hx, rfl, rfl, rfl, rfl, rfl⟩, Nat.le_trans (Nat.le_trans (Nat.le_succ _) (Nat.le_succ _)) z, dne, hns⟩⟩
end
end Val2
end PySem
namespace L2
open PySem PySem.Spec PyProof.Rows
/-- the two fields -/
abbrev xd2 (u v : V) : HO := .xd [(("high" : Str), v), (("low" : Str), u)]
theorem relO_nil (f : Str) : RelO (List.lookup f ([] : List (Str × V))) (none : Option Value) := trivial
section
variable {X : Cx} {nm : Str} {C fI : Addr}
def tMk2 (C : Addr) (ta : TA) : St → Hp → XK → Prop := fun σ H Q => ta σ H fun vs H1 => ∃ u v, vs = [u, v] ∧ ∀ d, H1 d = none → Q (.ref C) (some d) (upd H1 d (xd2 u v))
theorem relO_2 {u v : V} {u' v' : Value} (ru : RelV u u') (rv : RelV v v') (f : Str) : RelO (List.lookup f [(("high" : Str), v), (("low" : Str), u)]) (PySem.Val2.m2 u' v' f) := by
  have r := relO_put (f := ("high" : Str)) rv (relO_put (f := ("low" : Str)) ru relO_nil) f
  exact r
theorem pmk_2N {a b : Expr} {ta : TA} {p pos : Pos} {k : Nat} (T : PySem.Val2.Txt X.K X.mg nm C fI) (hr : Room k X.A) (ha : PA X [a, b] ta) (hg : Gl X nm := by rfl) (hdb : (nm == ("__debug__" : Str)) = false := by decide)
    (he : starEach (a :: [b]) X.env = (false, eval a X.env) :: starEach [b] X.env := by rfl) (hpl : (backTo pos (starEach [b] X.env)).any (·.1) = false := by rfl) :
    L2N.PMk X (.Call (.Name nm p) [a, b] [] pos) (tMk2 C ta) := by
  intro pins s σ H Q I h
  refine wpAny_Call_Name_kw (ld_glob I hg T.gC ?_ hdb)
  refine PySem.W.callWith_K (h₀ := X.base) I.ok.mod.kin T.kC (thn (ha.run pos pins s σ H _ I h) fun us s1 hh => ?_) he hpl
  obtain ⟨vs, H1, I1, r1, u, v, ev, q1⟩ := hh
  subst ev
  refine ⟨I1.kIn, ?_⟩
  obtain ⟨u', v', rfl, ru, rv⟩ := vals2 r1
  show wpAny _ _ (call (.ref C) [u', v']) _ _ _
  have hlim := I1.nolimit
  obtain ⟨hp, g, dr, tk, os⟩ := s1
  refine wpAny_call (PySem.Val2.val_made T I1.kIn hlim (by have := hr.dp; omega) fun h' tk' e d M => ?_)
  show L2N.MkP X pins σ Q (.ref e) ⟨h', g, dr, tk', os⟩
  obtain ⟨oe, fv, hoe, hc, hd, hdat, h1, h2⟩ := M.obj
  have hns := M.ns
  obtain ⟨G', g1, g2⟩ := restrict h' fun b => decide (b ≠ e)
  have gk : ∀ b, b ≠ e → G'.get? b = h'.get? b := fun b hb => g1 b (decide_eq_true hb)
  have ge : G'.get? e = none := g2 e (by simp)
  have old : ∀ b o, hp.get? b = some o → G'.get? b = some o := fun b o q => (gk b (Nat.ne_of_lt (Nat.lt_of_lt_of_le (Heap.lt_size q) M.new))).trans (M.keep b o q)
  have ob : ObjOk X.prog X.w (upd H1 d (xd2 u v)) G' d (xd2 u v) :=
    ⟨_, hns.at (fun o q => (gk d M.dne).trans q), fun f => relO_2 ru rv f⟩
  have J : Inv X pins σ (upd H1 d (xd2 u v)) ⟨G', g, dr, tk', os⟩ := I1.laid (t' := tk') old M.dbig ob
  refine ⟨e, oe, fv, ⟨G', g, dr, tk', os⟩, _, .ref C, some d, rfl, J, fun b o q => ?_, ge, hoe, ⟨hc, hd, fun vs ev => by rw [hdat] at ev; cases ev; exact h2⟩, hdat, h1, ?_, rfl, I1.bare, raises_own T.exC T.tyC, q1 d (I1.hok.fresh M.dbig)⟩
  · by_cases hb : b = e
    · have q' : G'.get? b = some o := q
      rw [hb, ge] at q'; cases q'
    · exact (gk b hb).symm.trans q
  · rw [upd_ne (Ne.symm M.dne)]
    exact I1.hok.fresh M.new
def tRaise2 (C : Addr) (W : WX) (ta : TA) : TS := fun _ σ H => tMk2 C ta σ H fun cls d H' => W cls d σ H'
theorem ps_raise2N {a b : Expr} {ta : TA} {W : WX} {p pos pos2 : Pos} {k : Nat} (hc : X.calm = true) (T : PySem.Val2.Txt X.K X.mg nm C fI) (hr : Room k X.A) (tk : L2N.Takes X W) (ha : PA X [a, b] ta) (hg : Gl X nm := by rfl) (hdb : (nm == ("__debug__" : Str)) = false := by decide)
    (he : starEach (a :: [b]) X.env = (false, eval a X.env) :: starEach [b] X.env := by rfl) (hpl : (backTo pos (starEach [b] X.env)).any (·.1) = false := by rfl) :
    PS X (.Raise (some (.Call (.Name nm p) [a, b] [] pos)) none pos2) (tRaise2 C W ta) := L2N.ps_raise hc tk (pmk_2N T hr ha hg hdb he hpl)
end
end L2

set_option maxHeartbeats 4000000
/-! isinstance of a caught error of an own class that has a dict of its own -/
namespace Vk
open PySem PySem.W PySem.Spec PySem.Calls PyProof.Rows
section
variable {prog : Program} {w : World} {A : Around} {E : Value → Shared → Prop} {s : Shared} {K : Frag} {x D : Addr} {ox : Obj} {od : Option Obj}
theorem found_data {C : Addr} {name : Str} {a g : Value} (hc : (clsIn K C).isSome = true) (ha : findIn K (.ref C) name = some (some a)) (hg : specialIn K a "__get__" = some (some g)) (ht : takesIn K a = some true) : findObj K C od name = some (.bind g a) := by
  obtain ⟨cd, hc⟩ := Option.isSome_iff_exists.mp hc
  simp only [findObj, hc, ha, Option.bind_some, hg, ht]
/-- what the class must say -/
abbrev Ec (K : Frag) (D : Addr) : Prop := L2.ExcC K D
theorem class_asked {Q : Option Value → Shared → Prop} (C : Ec K D) (X : K.In s.heap) (I : InstAt s.heap x ox D od) (h : Q (some (.ref D)) { s with toks := s.toks + 1 }) : wpAny (model prog w) A (getAttr? (.ref x) "__class__") Q E s := by
  have isC : (clsIn K D).isSome = true := by
    obtain ⟨cd, e, _⟩ := any_some C.hd
    rw [e]
    rfl
  obtain ⟨hp, g, d, t, os⟩ := s
  have T0 := I.type (M := model prog w)
  have F1 := looks_findIn (M := model prog w) X C.hg
  have F2 := looks_findIn (M := model prog w) X C.hk
  have F3 := looks_find (M := model prog w) X I (found_data isC C.ha C.hn C.ht)
  have below : Looks (model prog w) hp (isInstance (.ref x) (.type "BaseException")) true := T0.andThen (looks_subIn X C.hs)
  have q1 : (Value.builtin "BaseException.__getattribute__" == Value.builtin "object.__getattribute__") = false := by decide +kernel
  have q2 : (onTheHeap (Value.ref D) && Value.builtin "BaseException.__getattribute__" == Value.builtin "object.__getattribute__") = false := by rw [q1]; rfl
  unfold getAttr? getAttrBy? getAttrBy
  refine wpAny_bind (wpAny_mkText (wpAny_bind (wpAny_attempt (wpAny_holding (wpAny_bind (T0.at (wpAny_bind (F1.at ?_))))))))
  show wpAny _ _ (if (onTheHeap (Value.ref D) && Value.builtin "BaseException.__getattribute__" == Value.builtin "object.__getattribute__") = true then _ else _) _ _ _
  rw [q2, if_neg Bool.false_ne_true]
  unfold getAttrByItsOwn hookBefore
  refine wpAny_bind ?_
  rw [if_pos (show onTheHeap (Value.ref D) = true from rfl)]
  refine F2.at (wpAny_bind (wpAny_attempt (wpAny_holding ?_)))
  unfold callGetattribute
  rw [show (false && onTheHeap (Value.builtin "BaseException.__getattribute__")) = false from rfl, if_neg Bool.false_ne_true]
  unfold boundAndCalled
  rw [PySem.F.excAttr_ValueError.ga.bind (.ref x)]
  refine wpAny_bind (wpAny_pure ?_)
  show wpAny _ _ (call (.builtin "BaseException.__getattribute__") [.ref x, .str "__class__" t]) _ _ _
  refine wpAny_call (codeAny_call_builtin PySem.F.excAttr_ValueError.ga.plain PySem.F.entry_bexc_ga ?_)
  refine @check_slot (model prog w) _ _ ⟨hp, g, d, t + 1, os⟩ "BaseException.__getattribute__" "BaseException" "__getattribute__" (.ref x) [.str "__class__" t] [] _ (by decide +kernel) (by decide +kernel) below (PySem.F.args_bexc_ga (.ref x) (.str "__class__" t)) ?_
  unfold Builtin.«object.__getattribute__»
  refine wpAny_bind (wpAny_of_eq (a := ((Value.ref x : Value), [Value.str "__class__" t])) (by first | rfl | (simp only [slotArgs]; rfl)) ?_)
  refine wpAny_bind (wpAny_pure (wpAny_bind (T0.at (wpAny_bind (F3.at ?_)))))
  show wpAny _ _ (holding [Value.builtin "object.__class__"] (call (.builtin "getset_descriptor.__get__") [.builtin "object.__class__", .ref x, .ref D]) >>= ret) _ _ _
  refine wpAny_bind (wpAny_holding (wpAny_call (class_get (s := ⟨hp, g, d, t + 1, os⟩) (ox := ox) (od := od) X I C.hm ?_)))
  refine wpAny_pure ?_
  show wpAny _ _ (handedOut (.ref D)) _ _ _
  rw [handedOut_of (v := .ref D) rfl]
  first
    | exact wpAny_pure (wpAny_pure h)
    | exact wpAny_pure h
    | exact wpAny_pure (wpAny_bind (wpAny_pure (wpAny_pure h)))
theorem kit_exc (C : Ec K D) : KitX K (.ref x) (.ref D) (fun h => InstAt h x ox D od) where
  ty := fun _ _ _ I => I.type
  it := fun _ _ X _ => by
    obtain ⟨cdD, hcD, _⟩ := any_some C.hd
    unfold clsIn at hcD
    split at hcD
    · rename_i c' d' cd' sl' ho
      intro A' Q' E' s' k q
      unfold isType loadHead
      exact wpAny_bind (wpAny_loadPart (k _ _ (X _ _ ho)) (wpAny_pure q))
    · cases hcD
  ne := fun h tp dd its n sl X htp => by
    obtain ⟨cdD, hcD, _⟩ := any_some C.hd
    unfold clsIn at hcD
    split at hcD
    · rename_i c' d' cd' sl' ho
      refine Bool.eq_false_iff.mpr fun q => ?_
      have e : D = tp := Value.ref.inj (beq_iff_eq.mp q)
      rw [← e] at htp
      cases (X _ _ ho).symm.trans htp
    · cases hcD
  ca := fun X I k => class_asked C X I k
end
end Vk
namespace Vk
open PySem PySem.Spec PyProof.Rows L2
/-- isinstance(e, c), e the exception that the suite holds, its dict tracked (or none) -/
def rIsG (K : PySem.W.Frag) (D a : Addr) (d : Option Addr) : List V → Hp → VK → Prop := fun xs H Q => ∃ (c : V) (cv : Value) (b : Bool), xs = [.ref a, c] ∧ ClsV c cv ∧ (d = none ∨ ∃ dd fs, d = some dd ∧ H dd = some (.xd fs)) ∧ PySem.W.kitOne K (.ref D) cv = some b ∧ Q (.bl b) H
theorem call_isG {X : Cx} {a D : Addr} {oe : Obj} {d : Option Addr} {pn : List (Addr × Obj)} (C : ExcC X.K D) (hz : Zc (.ref D) d oe) (hf : ∃ vs, oe.data = .fields vs) : CallR (X.suite a ((a, oe) :: pn)) (.builtin "isinstance") (rIsG X.K D a d) := by
  intro pins s σ H xs us Q I r h
  obtain ⟨c, cv, b, rfl, hcv, hd, e, q⟩ := h
  obtain ⟨u1, u2, rfl, r1, r2⟩ := vals2 r
  obtain rfl : u1 = Value.ref a := r1
  have ec := hcv.eq r2
  subst ec
  obtain ⟨hget, _⟩ := I.pin (a, oe) (List.mem_append_left _ List.mem_cons_self)
  obtain ⟨vs, hv⟩ := hf
  obtain ⟨od, J⟩ : ∃ od, PySem.W.InstAt s.heap a oe D od := by
    have no : PySem.W.notCls oe = true := by unfold PySem.W.notCls; rw [hv] <;> rfl
    rcases hd with rfl | ⟨dd, fs, rfl, hdd⟩
    · exact ⟨none, hget, hz.1, no, by rw [hz.2]; trivial⟩
    · have hx : ObjOk X.prog X.w H s.heap dd (.xd fs) := I.hok dd _ hdd
      obtain ⟨mA, hns, _⟩ := hx
      obtain ⟨o, ho, _⟩ := lookIn_ns hns
      exact ⟨some o, hget, hz.1, no, by rw [hz.2]; exact ho⟩
  exact PySem.W.kia_one (kit_exc C) I.kIn J e (fun z => nomatch z) fun tk => ⟨.bl b, H, I.kept (t' := tk) fun _ _ z => z, rfl, q⟩
end Vk

set_option maxHeartbeats 2000000
/-! several clauses «except X as n» behind one try -/
namespace L2
open PySem PySem.Spec PyProof.Rows
abbrev Clause := Value × Nat × (Addr → Value → Option Addr → TS)
/-- behind a suite its name is gone -/
def Ends.off (i : Nat) (D : Ends) : Ends := ⟨fun τ G => D.nx (τ.set i none) G, D.rt, fun τ G => D.bk (τ.set i none) G, fun τ G => D.ct (τ.set i none) G⟩
def wAses (K : PySem.W.Frag) (W0 : WX) (D : Ends) : List Clause → WX
  | [] => W0
  | q :: more => fun k dd τ G => ∃ hit, PySem.W.exmOne K k q.1 = some hit ∧ (hit = true → ∀ z, G z = none → q.2.2 z k dd (D.off q.2.1) (τ.set q.2.1 (some (.ref z))) G) ∧ (hit = false → wAses K W0 D more k dd τ G)
inductive AsOk (X : Cx) : List ExceptHandler → List Clause → Prop
  | nil : AsOk X [] []
  | cons {x n : Str} {c : Value} {i : Nat} {ts : Addr → Value → Option Addr → TS} {b0 : Stmt} {bs : List Stmt} {p1 p2 : Pos} {es : List ExceptHandler} {qs : List Clause} (hc : Names X x c) (hi : X.N[i]? = some n) (hk : X.env.kindOf n = some .local)
      (hsu : ∀ (z : Addr) (oz : Obj) (k : Value) (dd : Option Addr) (pn : List (Addr × Obj)), Zc k dd oz → (∃ vs, oz.data = .fields vs) → PSs (X.suite z ((z, oz) :: pn)) (b0 :: bs) (ts z k dd)) (more : AsOk X es qs) :
      AsOk X (.ExceptHandler (some (.Name x p1)) (some n) (b0 :: bs) p2 :: es) ((c, i, ts) :: qs)
section
variable {X : Cx} {body : List Stmt} {e0 : ExceptHandler} {es : List ExceptHandler} {qs : List Clause} {pos : Pos} {tb : WX → TS} {W0 : WX}
theorem ps_try_ases (hst : X.stack = X.env :: X.outer) (hfr : X.env.frame = some X.env.locals) (hnd : X.N.Nodup) (tk : Takes X W0)
    (hb : ∀ (W : WX) (pn : List (Addr × Obj)) (xe : Value → Shared → Prop), Takes (X.tr pn xe) W → PassesOwn (model X.prog X.w) X.A X.env xe → PSs (X.tr pn xe) body (tb W))
    (hh : AsOk X (e0 :: es) qs) : PS X (.Try body (e0 :: es) [] [] pos) (fun D τ G => tb (wAses X.K W0 D qs) D τ G) := by
  refine ⟨fun pins s τ0 G0 D inv0 wish => ?_⟩
  have okk := inv0.ok
  have frm : X.A.frames = some (X.env :: X.outer) := okk.frames.trans (congrArg some hst)
  refine wpAny_Try_except (wpAny_mono ((hb (wAses X.K W0 D qs) (X.pn ++ pins) (fun u t1 => wpAny (model X.prog X.w) X.A (noteFrame u X.env) (fun _ t2 => wpAny (model X.prog X.w) X.A (setFlight u none) (fun _ t3 =>
    wpAny (model X.prog X.w) X.A (handleBy u X.env (e0 :: es)) (SP X pins D) X.xe t3) X.xe t2) X.xe t1) (fun u t raised => ?caught) PassesOwn.looking).run [] s τ0 G0 D (inv0.toTry _) wish) (fun fl t got => ?through) (fun _ _ y => y))
  case through =>
    cases fl with
    | next => obtain ⟨τ, G, J, q⟩ := got; exact wpAny_execs_nil ⟨τ, G, J.ofTry okk, q⟩
    | brk => obtain ⟨τ, G, J, q⟩ := got; exact ⟨τ, G, J.ofTry okk, q⟩
    | cont => obtain ⟨τ, G, J, q⟩ := got; exact ⟨τ, G, J.ofTry okk, q⟩
    | ret u => obtain ⟨v, τ, G, J, r, q⟩ := got; exact ⟨v, τ, G, J.ofTry okk, r, q⟩
  case caught =>
    obtain ⟨z, B, sB, pins1, τ, G, k, dd, rfl, jT, bare, upB, inSky, zfree, os1, same1, wants⟩ := raised
    have j0 : Inv X pins τ G sB := jT.ofTry okk
    have inSky1 : Sky B (X.env :: X.outer) z (Zc k dd) X.env.locals t.heap := hst ▸ inSky
    show wpAny (model X.prog X.w) X.A (noteFrame (.ref z) X.env) _ _ _
    refine Sky.land Zc.steady frm hfr inSky1 fun hA flA upA => ?_
    have jA : Inv X pins τ G { t with heap := hA } := j0.landed bare flA.1 (upB.trans upA) os1 same1
    obtain ⟨oA, vA, getA, zcA, datA⟩ := flA.there
    have notF : z ∉ frs (X.env :: X.outer) := by
      intro hm
      obtain ⟨_, o', e', hnf⟩ := flA.2.2.1.mem hm
      rw [getA] at e'
      cases e'
      exact hnf _ datA
    have zL : z ≠ X.env.locals := fun y => notF (List.mem_filterMap.mpr ⟨X.env, List.mem_cons_self, hfr.trans (congrArg some y.symm)⟩)
    have zF : z ∉ X.fs := fun hm => by
      obtain ⟨en, hen, y⟩ := List.mem_filterMap.mp hm
      exact notF (List.mem_filterMap.mpr ⟨en, List.mem_cons_of_mem _ hen, y⟩)
    have jS := jA.suite getA datA zfree zL zF
    have turn : ∀ {es1 : List ExceptHandler} {qs1 : List Clause}, AsOk X es1 qs1 → wAses X.K W0 D qs1 k dd τ G → wpAny (model X.prog X.w) X.A (handleBy (.ref z) X.env es1) (SP X pins D) X.xe { t with heap := hA } := by
      intro es1 qs1 kk
      induction kk with
      | nil =>
        intro out
        refine wpAny_handleBy_nil ?_
        obtain ⟨_, _, _, oz, vs, Tr, oTr, tsr, geto, zco, dato, one, _⟩ := id flA
        unfold PySem.passOn
        refine wpAny_bind (wpAny_field geto dato one ?_)
        rw [if_neg (by simp : ¬ ((Value.ref Tr == Value.none) = true))]
        have away : wpAny (model X.prog X.w) X.A (setFlight (.ref z) X.env.frame) (fun _ t4 => wpAny (model X.prog X.w) X.A (throw (.ref z) : Sem Flow) (SP X pins D) X.xe t4) X.xe { t with heap := hA } := by
          rw [hfr]
          exact HandSPX.setFlight_upZ flA fun h4 sk4 up4 => wpAny_throw (tk _ _ ⟨z, B, sB, pins, τ, G, k, dd, rfl, j0, bare, (upB.trans upA).trans up4, .inr (.inr (hst.symm ▸ sk4)), zfree, os1, same1, out⟩)
        first | exact wpAny_bind (wpAny_pure (wpAny_bind away)) | exact wpAny_bind away
      | @cons x n c i ts b0 bs p1 p2 es2 qs2 hc hi hk hsu more ih =>
        rintro ⟨hit, isHit, onHit, offHit⟩
        refine wpAny_handleBy_cons (codeAny_handlers_test ?_) (by intro y; cases y)
        have looksT : PySem.W.Looks (model X.prog X.w) hA (typeOf (.ref z)) k := fun A Q E s kp y => wpAny_typeOf_ref (kp _ _ getA) (by rw [zcA.1]; exact y)
        have looksM := PySem.W.exm_one (M := model X.prog X.w) jA.kIn looksT isHit
        have named : ∀ {Q : Value → Shared → Prop} {E : Value → Shared → Prop}, Q c { t with heap := hA } → wpAny (model X.prog X.w) (X.A.mark (some (.ref z))) (eval (.Name x p1) X.env) Q E { t with heap := hA } := fun {Q E} y =>
          match hc with
          | ⟨hg, hdb, .inl hm⟩ => ld_glob (X := X.suite z ((z, oA) :: (X.pn ++ pins))) jS hg hm y hdb
          | ⟨hg, hdb, .inr ⟨hm, hv, hnn⟩⟩ => ld_blt (X := X.suite z ((z, oA) :: (X.pn ++ pins))) jS hg hm hv y hnn hdb
        refine named (looksM.here ?_)
        cases hit with
        | false => exact ih (offHit rfl)
        | true =>
          refine codeAny_handlers_suite_as (HandSPX.lands_againZ flA fun hB flB upB2 => ?_)
          have jB : Inv X pins τ G { t with heap := hB } := j0.landed bare flB.1 ((upB.trans upA).trans upB2) os1 same1
          obtain ⟨oB, vB, getB, zcB, datB⟩ := flB.there
          have jSB := jB.suite getB datB zfree zL zF
          refine store_ok (X := X.suite z ((z, oB) :: (X.pn ++ pins))) (v := .ref z) jSB hnd hi (.inl hk) rfl (fun t5 S5 => ?_) (.inr hk)
          refine wpAny_mono ((hsu z oB k dd (X.pn ++ pins) zcB ⟨_, datB⟩).run [] t5 _ G _ S5 (onHit rfl z zfree)) (fun fl t6 got => ?_) (fun _ _ y => y.elim)
          have fin : ∀ {τ6 : St} {G6 : Hp} {Q : Shared → Prop}, Inv (X.suite z ((z, oB) :: (X.pn ++ pins))) [] τ6 G6 t6 → (∀ t7, Inv X pins (τ6.set i none) G6 t7 → Q t7) →
              wpAny (model X.prog X.w) X.A (do bindName X.env n .none; unbindBehindTheSuite X.env n p2) (fun _ t7 => Q t7) X.xe t6 := fun S6 hq => gone_ok (S6.unsuite okk) hnd hi hk hq
          cases fl with
          | next => obtain ⟨_, _, S6, q6⟩ := got; exact fin S6 fun _ J7 => ⟨_, _, J7, q6⟩
          | brk => obtain ⟨_, _, S6, q6⟩ := got; exact fin S6 fun _ J7 => ⟨_, _, J7, q6⟩
          | cont => obtain ⟨_, _, S6, q6⟩ := got; exact fin S6 fun _ J7 => ⟨_, _, J7, q6⟩
          | ret u => obtain ⟨_, _, _, S6, r6, q6⟩ := got; exact fin S6 fun _ J7 => ⟨_, _, _, J7, r6, q6⟩
    exact turn hh wants
end
end L2

/-! defs that may raise, and calls with keywords -/
namespace Vk
open PySem L2 PyProof.Rows
/-- a def that may raise: its promise says when -/
structure DefX (P : Program) (w : World) (K : PySem.W.Frag) (mg : Str → Option Value) (base : Heap) (k : Nat) (x : Str) (ps : List Str) (sp : Sp) (f : Addr) (fd : FuncData) : Prop where
  ok : FnOk P w K mg base (L2.CX P w) k f fd ps sp
  m : mg x = some (.ref f)
  kp : PySem.W.keepIn K (.ref f) = true
  b : Binds K fd ps []
theorem DefX.up {P : Program} {w : World} {K : PySem.W.Frag} {mg : Str → Option Value} {base : Heap} {j k : Nat} {x : Str} {ps : List Str} {sp : Sp} {f : Addr} {fd : FuncData} (d : DefX P w K mg base j x ps sp f fd) (h : j ≤ k) : DefX P w K mg base k x ps sp f fd := ⟨d.ok.mono h, d.m, d.kp, d.b⟩
/-- with n values by place and keywords ks -/
structure DefXN (P : Program) (w : World) (K : PySem.W.Frag) (mg : Str → Option Value) (base : Heap) (k : Nat) (x : Str) (ps : List Str) (n : Nat) (ks : List Str) (sp : Sp) (f : Addr) (fd : FuncData) : Prop where
  ok : FnOk P w K mg base (L2.CX P w) k f fd ps sp
  m : mg x = some (.ref f)
  kp : PySem.W.keepIn K (.ref f) = true
  b : KBn K fd ps n ks (fun us ws => us ++ ws) (fun vs zs => vs ++ zs)
theorem DefXN.up {P : Program} {w : World} {K : PySem.W.Frag} {mg : Str → Option Value} {base : Heap} {j k n : Nat} {x : Str} {ps ks : List Str} {sp : Sp} {f : Addr} {fd : FuncData} (d : DefXN P w K mg base j x ps n ks sp f fd) (h : j ≤ k) : DefXN P w K mg base k x ps n ks sp f fd := ⟨d.ok.mono h, d.m, d.kp, d.b⟩
theorem vals_app : ∀ {vs : List V} {us : List Value} {zs : List V} {ws : List Value}, Vals vs us → Vals zs ws → Vals (vs ++ zs) (us ++ ws)
  | _, _, _, _, .nil, h => h
  | _, _, _, _, .cons r t, h => .cons r (vals_app t h)
/-- keyword-only parameters without defaults, all given -/
theorem kbn_of {K : PySem.W.Frag} {x qual : Str} {st : Stmt} {f : Addr} {fd : FuncData} {ps ks : List Str} {n : Nat} (F : Fun K x qual st f fd)
    (h : ∀ (kV doc pm : Value) (an : Option Addr) (cdv ct : Value) (us ws : List Value), us.length = n → ws.length = ks.length → bindArgs (PySem.W.fnOf x qual (defArgs st) (defBody st) (defScope st) .none kV doc pm an cdv ct) ⟨us, ks.zip ws⟩ = pure (ps.zip (us ++ ws))) :
    KBn K fd ps n ks (fun us ws => us ++ ws) (fun vs zs => vs ++ zs) := by
  obtain ⟨oc, od, kV, doc, pm, an, cdv, ct, osl, rfl, lk, hcd⟩ := F.ex
  exact ⟨fun s us ws _ l1 l2 => BindsTo.of_eq (h kV doc pm an cdv ct us ws l1 l2), vals_app⟩
section
variable {X : Cx} {k n : Nat} {f : Addr} {fd : FuncData} {ps ks : List Str} {sp : Sp} {x : Str} {p pos : Pos} {e : Expr} {es : List Expr} {kws : List Keyword} {t tkw : TA} {W : WX}
/-- called where nothing is let out -/
theorem pcallL (D : DefX X.prog X.w X.K X.mg X.base k x ps sp f fd) (hr : Room k X.A) (ha : PA X (e :: es) t)
    (hg : Gl X x := by rfl) (hdb : (x == ("__debug__" : Str)) = false := by decide) (he : starEach (e :: es) X.env = (false, eval e X.env) :: starEach es X.env := by rfl) (hpl : (backTo pos (starEach es X.env)).any (·.1) = false := by rfl) :
    PE X (.Call (.Name x p) (e :: es) [] pos) (tCall sp [] E0 t) := pe_call D.ok hr hg D.m D.kp D.b .nil passL ha hdb he hpl
/-- called where the wish W takes what it raises -/
theorem pcallX (D : DefX X.prog X.w X.K X.mg X.base k x ps sp f fd) (hr : Room k X.A) (tk : Takes X W) (ha : PA X (e :: es) t)
    (hg : Gl X x := by rfl) (hdb : (x == ("__debug__" : Str)) = false := by decide) (he : starEach (e :: es) X.env = (false, eval e X.env) :: starEach es X.env := by rfl) (hpl : (backTo pos (starEach es X.env)).any (·.1) = false := by rfl) :
    PE X (.Call (.Name x p) (e :: es) [] pos) (tCallS sp (WE W) t) := pe_callS D.ok hr hg D.m D.kp D.b (fun σ => passAt tk σ) ha hdb he hpl
theorem pcallLN (D : DefXN X.prog X.w X.K X.mg X.base k x ps n ks sp f fd) (hr : Room k X.A) (ha : PA X (e :: es) t) (hkw : PK X kws tkw)
    (hg : Gl X x := by rfl) (hall : (backToKw pos (keywordEach kws X.env)).all (·.1.isSome) = true := by rfl) (hks : (backToKw pos (keywordEach kws X.env)).filterMap (·.1) = ks := by rfl)
    (hdb : (x == ("__debug__" : Str)) = false := by decide) (he : starEach (e :: es) X.env = (false, eval e X.env) :: starEach es X.env := by rfl)
    (hpl : ((backTo pos (starEach (e :: es) X.env)).any (·.1) || (backToKw pos (keywordEach kws X.env)).any (·.1.isNone)) = false := by rfl) :
    PE X (.Call (.Name x p) (e :: es) kws pos) (tCallN n ks.length sp (fun vs zs => vs ++ zs) E0 t tkw) := pe_callN D.ok hr hg D.m D.kp D.b passL ha hkw hall hks hdb he hpl
def tCallNS (n m : Nat) (sp : Sp) (E : L2.St → XK) (t tkw : TA) : TE := fun σ H Q => t σ H fun vs H1 => tkw σ H1 fun zs H2 => vs.length = n ∧ zs.length = m ∧ sp (vs ++ zs) H2 Q (E σ)
theorem pcallXN (D : DefXN X.prog X.w X.K X.mg X.base k x ps n ks sp f fd) (hr : Room k X.A) (tk : Takes X W) (ha : PA X (e :: es) t) (hkw : PK X kws tkw)
    (hg : Gl X x := by rfl) (hall : (backToKw pos (keywordEach kws X.env)).all (·.1.isSome) = true := by rfl) (hks : (backToKw pos (keywordEach kws X.env)).filterMap (·.1) = ks := by rfl)
    (hdb : (x == ("__debug__" : Str)) = false := by decide) (he : starEach (e :: es) X.env = (false, eval e X.env) :: starEach es X.env := by rfl)
    (hpl : ((backTo pos (starEach (e :: es) X.env)).any (·.1) || (backToKw pos (keywordEach kws X.env)).any (·.1.isNone)) = false := by rfl) :
    PE X (.Call (.Name x p) (e :: es) kws pos) (tCallNS n ks.length sp (WE W) t tkw) := by
  refine ⟨fun pins s σ H Q I wish => wpAny_Call_Name_kw (ld_glob I hg D.m ?_ hdb)⟩
  refine PySem.W.callWith_KW (h₀ := X.base) I.ok.mod.kin D.kp hall (thn (ha.run pos pins s σ H _ I wish) fun us s1 ⟨vs, H1, I1, r1, q1⟩ => ?_) hpl he
  refine thn (hkw.run pos pins s1 σ H1 _ I1 q1) fun ws s2 ⟨zs, H2, I2, r2, l1, l2, q2⟩ => ⟨I2.kIn, ?_⟩
  rw [hks]
  refine wpAny_call (codeAny_mono (D.ok.run X.A X.stack s2 H2 ⟨us, ks.zip ws⟩ (us ++ ws) (vs ++ zs) Q _ hr I2.env0 (D.b.to s2 us ws I2.kIn (r1.length.symm.trans l1) (r2.length.symm.trans l2)) (D.b.rel r1 r2) q2) fun r s' hq => ?_)
  match r with
  | .error u => exact passAt tk σ pins H2 s2 u s' I2 hq
  | .ok (.ret u) => exact I2.after hq
  | .ok .next => exact hq.elim
  | .ok .brk => exact hq.elim
  | .ok .cont => exact hq.elim
end
/-- a def with keyword-only parameters, as it stands -/
structure FnK (K : PySem.W.Frag) (mg : Str → Option Value) (x : Str) (st : Stmt) (f : Addr) (fd : FuncData) : Prop where
  F : Fun K x x st f fd
  m : mg x = some (.ref f)
/-- what a raised error of the class C with this value wishes -/
def eV (E : XK) (C : Addr) (H : Hp) (v : V) : Prop := ∀ d, H d = none → E (.ref C) (some d) (upd H d (.xd [(("value" : Str), v)]))
end Vk

set_option maxHeartbeats 4000000
/-! A def that a caught error is passed to, from within the suite that holds it. -/
namespace Vk
open PySem PySem.Spec PyProof.Rows L2 L2H
/-- a def's promise about the error at hand -/
structure FnP (P : Program) (w : World) (K : PySem.W.Frag) (mg : Str → Option Value) (base : Heap) (k : Nat) (f : Addr) (fd : FuncData) (ps : List Str) (sp : Addr × Obj → Sp) : Prop where
  many : ∀ p vs H Q E, sp p vs H Q E → vs.length = ps.length
  go : ∀ (A : Around) (outer : List Env) (s : Shared) (H : Hp) (args : Args) (us : List Value) (vs : List V) (Q : VK) (E : XK) (p : Addr × Obj), RoomH k A → Hot1 A p → PinOk outer H s p →
    Env0 P w K mg base A outer s H → BindsTo s fd args (ps.zip us) → Vals vs us → sp p vs H Q E → codeAny (model P w) A (.call (.ref f) args) (CR CX0 outer P w H s Q E) s
theorem fnp_mk {P : Program} {w : World} {K : PySem.W.Frag} {mg : Str → Option Value} {base : Heap} {k : Nat} {f : Addr} {nm qual : Str} {pars : Arguments} {bod : List Stmt} {sco : Scope} {dV kV doc pm cdv ct oc : Value} {an od : Option Addr} {osl : Array (Option Value)} {N ps : List Str}
    {sp : Addr × Obj → Sp} (at_ : K.lookup f = some ⟨oc, od, .func (PySem.W.fnOf nm qual pars bod sco dV kV doc pm an cdv ct), osl⟩) (code : PySem.W.codeIn K cdv qual = true) (S : FnScope N ps sco) (many : ∀ p vs H Q E, sp p vs H Q E → vs.length = ps.length)
    (runs : ∀ (A : Around) (outer : List Env) (s : Shared) (H : Hp) (vs : List V) (Q : VK) (E : XK) (p : Addr × Obj), Hot1 A p → RoomH k (A.deeper (envOfC qual sco s.heap.objs.size f cdv)) → sp p vs H Q E →
      ∃ t, PSs (cxH CX0 P w K mg base N qual sco f cdv A outer s H E p) bod t ∧ t { nx := fun _ G => Q .non G, rt := Q } (L2.start N vs) H) : FnP P w K mg base (k + 1) f (PySem.W.fnOf nm qual pars bod sco dV kV doc pm an cdv ct) ps sp := by
  refine ⟨many, ?_⟩
  intro A outer s H args us vs Q E p room hot pin e0 bound rel want
  have cnt := many _ _ _ _ _ want
  have old : ∀ b o, base.get? b = some o → s.heap.get? b = some o := fun b o e => (e0.bs b o e).1
  have kin := e0.mod.kin.keeps old
  have nol := e0.mod.nolimit.keeps old
  have kinds : ∀ y ∈ ps.zip us, sco.names.lookup y.1 = some .local ∨ (sco.names.lookup y.1 = some .cell ∧ ((cellsFrom (s.heap.objs.size + 1) sco.names []).lookup y.1).isSome = true) := by
    rintro ⟨n, v⟩ hy
    rcases S.par n (List.of_mem_zip hy).1 with c | c
    · exact Or.inl c
    · exact Or.inr ⟨c, PySem.W.cellsFrom_some _ _ _ (.inl c)⟩
  refine codeAny_call_function room.depth (kin _ _ at_) rfl S.co S.gen rfl (PySem.W.codeRec_of kin code) (bound _ _ _ _ ?_)
  refine wpAny_newFunctionEnv_cells S.kind kinds fun env eenv s1 inC => ?_
  subst eenv
  refine ⟨nol.keeps inC.toInCall.keep, codeAny_func ?_⟩
  obtain ⟨t, ht, q⟩ := runs A outer s H vs Q E p hot (room.deeper _) want
  have I := inv_startH (CX := CX0) (E := E) S pin e0 cnt rel inC
  refine wpAny_mono (ht.run [] s1 (L2.start N vs) H _ I q) (fun fl s2 hs => ?_) fun _ _ h => h
  have out : ∀ {σ2 : L2.St} {G : Hp} {v : V} {u : Value}, Inv (cxH CX0 P w K mg base N qual sco f cdv A outer s H E p) [] σ2 G s2 → RelV v u → Q v G → CE outer P w H s Q u s2 := by
    intro σ2 G v u J r z
    exact ⟨v, G, J.os, J.bare, J.base, J.hok, r, z⟩
  cases fl with
  | ret u =>
    obtain ⟨v, _, _, J, r, z⟩ := hs
    exact out J r z
  | next =>
    obtain ⟨_, _, J, z⟩ := hs
    exact out (v := V.non) (u := Value.none) J rfl z
  | brk =>
    obtain ⟨_, _, _, z⟩ := hs
    exact z.elim
  | cont =>
    obtain ⟨_, _, _, z⟩ := hs
    exact z.elim
/-- f(e), e the error that is at hand -/
theorem pe_callP {X : Cx} {k : Nat} {f : Addr} {fd : FuncData} {ps : List Str} {sp : Addr × Obj → Sp} {p : Addr × Obj} {x : Str} {q pos : Pos} {e : Expr} {es : List Expr} {t : TA} (F : FnP X.prog X.w X.K X.mg X.base k f fd ps sp) (room : RoomH k X.A) (hot : Hot1 X.A p) (hp : p ∈ X.pn)
    (hg : Gl X x) (hm : X.mg x = some (.ref f)) (kp : PySem.W.keepIn X.K (.ref f) = true) (hb : Binds X.K fd ps []) (ha : PA X (e :: es) t) (hdb : (x == ("__debug__" : Str)) = false := by decide)
    (he : starEach (e :: es) X.env = (false, eval e X.env) :: starEach es X.env := by rfl) (hpl : (backTo pos (starEach es X.env)).any (·.1) = false := by rfl) : PE X (.Call (.Name x q) (e :: es) [] pos) (tCall (sp p) [] E0 t) := by
  refine ⟨?_⟩
  intro pins s σ H Q I want
  refine wpAny_Call_Name_kw (ld_glob I hg hm ?_ hdb)
  refine PySem.W.callWith_K (h₀ := X.base) I.ok.mod.kin kp (thn (ha.run pos pins s σ H _ I want) ?_) he hpl
  rintro us s1 ⟨vs, H1, I1, r, z⟩
  refine ⟨I1.kIn, ?_⟩
  have z : sp p vs H1 Q E0 := by rw [List.append_nil] at z; exact z
  have cnt : us.length = ps.length := by rw [← r.length]; exact F.many _ _ _ _ _ z
  have bound := hb s1 us I1.kIn (by rw [List.append_nil]; exact cnt)
  rw [List.append_nil] at bound
  have at1 := I1.pin p (List.mem_append_left _ hp)
  have pin : PinOk X.stack H1 s1 p := ⟨at1.1, at1.2.1, fun m => (List.mem_cons.mp (I1.stkSub p.1 m)).elim at1.2.2.1 at1.2.2.2.1, at1.2.2.2.2⟩
  refine wpAny_call (codeAny_mono (F.go X.A X.stack s1 H1 ⟨us, []⟩ us vs Q E0 p room hot pin I1.env0 bound r z) ?_)
  intro res s2 out
  cases res with
  | error _ => exact out.elim
  | ok fl =>
    cases fl with
    | ret u => exact I1.after out
    | next => exact out.elim
    | brk => exact out.elim
    | cont => exact out.elim
/-- isinstance of an error that the context holds -/
theorem call_isP {X : Cx} {a D : Addr} {oe : Obj} {d : Option Addr} (C : ExcC X.K D) (hz : Zc (.ref D) d oe) (hf : ∃ vs, oe.data = .fields vs) (hp : (a, oe) ∈ X.pn) : CallR X (.builtin "isinstance") (rIsG X.K D a d) := by
  intro pins s σ H xs us Q I r h
  obtain ⟨c, cv, b, rfl, hcv, hd, e, q⟩ := h
  obtain ⟨u1, u2, rfl, r1, r2⟩ := vals2 r
  obtain rfl : u1 = Value.ref a := r1
  have ec := hcv.eq r2
  subst ec
  obtain ⟨hget, _⟩ := I.pin (a, oe) (List.mem_append_left _ hp)
  obtain ⟨vs, hv⟩ := hf
  obtain ⟨od, J⟩ : ∃ od, PySem.W.InstAt s.heap a oe D od := by
    have no : PySem.W.notCls oe = true := by unfold PySem.W.notCls; rw [hv] <;> rfl
    rcases hd with rfl | ⟨dd, fs, rfl, hdd⟩
    · exact ⟨none, hget, hz.1, no, by rw [hz.2]; trivial⟩
    · have hx : ObjOk X.prog X.w H s.heap dd (.xd fs) := I.hok dd _ hdd
      obtain ⟨mA, hns, _⟩ := hx
      obtain ⟨o, ho, _⟩ := lookIn_ns hns
      exact ⟨some o, hget, hz.1, no, by rw [hz.2]; exact ho⟩
  exact PySem.W.kia_one (kit_exc C) I.kIn J e (fun z => nomatch z) fun tk => ⟨.bl b, H, I.kept (t' := tk) fun _ _ z => z, rfl, q⟩
end Vk

set_option maxHeartbeats 2000000
/-! several clauses «except X as n» behind one try -/
namespace L2N
open PySem PySem.Spec PyProof.Rows L2
inductive AsOk (X : Cx) : List ExceptHandler → List Clause → Prop
  | nil : AsOk X [] []
  | cons {x n : Str} {c : Value} {i : Nat} {ts : Addr → Value → Option Addr → TS} {b0 : Stmt} {bs : List Stmt} {p1 p2 : Pos} {es : List ExceptHandler} {qs : List Clause} (hc : Names X x c) (hi : X.N[i]? = some n) (hk : X.env.kindOf n = some .local)
      (hsu : ∀ (z : Addr) (oz : Obj) (k : Value) (dd : Option Addr) (pn : List (Addr × Obj)), Zn k dd oz → (∃ vs, oz.data = .fields vs) → PSs (X.suite z ((z, oz) :: pn)) (b0 :: bs) (ts z k dd)) (more : AsOk X es qs) :
      AsOk X (.ExceptHandler (some (.Name x p1)) (some n) (b0 :: bs) p2 :: es) ((c, i, ts) :: qs)
section
variable {X : Cx} {body : List Stmt} {e0 : ExceptHandler} {es : List ExceptHandler} {qs : List Clause} {pos : Pos} {tb : WX → TS} {W0 : WX}
theorem ps_try_ases (hst : X.stack = X.env :: X.outer) (hfr : X.env.frame = some X.env.locals) (hnd : X.N.Nodup) (tk : Takes X W0)
    (hb : ∀ (W : WX) (pn : List (Addr × Obj)) (xe : Value → Shared → Prop), Takes (X.tr pn xe) W → PassesOwn (model X.prog X.w) X.A X.env xe → PSs (X.tr pn xe) body (tb W))
    (hh : AsOk X (e0 :: es) qs) : PS X (.Try body (e0 :: es) [] [] pos) (fun D τ G => tb (wAses X.K W0 D qs) D τ G) := by
  refine ⟨fun pins s τ0 G0 D inv0 wish => ?_⟩
  have okk := inv0.ok
  have frm : X.A.frames = some (X.env :: X.outer) := okk.frames.trans (congrArg some hst)
  refine wpAny_Try_except (wpAny_mono ((hb (wAses X.K W0 D qs) (X.pn ++ pins) (fun u t1 => wpAny (model X.prog X.w) X.A (noteFrame u X.env) (fun _ t2 => wpAny (model X.prog X.w) X.A (setFlight u none) (fun _ t3 =>
    wpAny (model X.prog X.w) X.A (handleBy u X.env (e0 :: es)) (SP X pins D) X.xe t3) X.xe t2) X.xe t1) (fun u t raised => ?caught) PassesOwn.looking).run [] s τ0 G0 D (inv0.toTry _) wish) (fun fl t got => ?through) (fun _ _ y => y))
  case through =>
    cases fl with
    | next => obtain ⟨τ, G, J, q⟩ := got; exact wpAny_execs_nil ⟨τ, G, J.ofTry okk, q⟩
    | brk => obtain ⟨τ, G, J, q⟩ := got; exact ⟨τ, G, J.ofTry okk, q⟩
    | cont => obtain ⟨τ, G, J, q⟩ := got; exact ⟨τ, G, J.ofTry okk, q⟩
    | ret u => obtain ⟨v, τ, G, J, r, q⟩ := got; exact ⟨v, τ, G, J.ofTry okk, r, q⟩
  case caught =>
    obtain ⟨z, B, sB, pins1, τ, G, k, dd, rfl, jT, bare, upB, inSky, zfree, os1, same1, wants⟩ := raised
    have j0 : Inv X pins τ G sB := jT.ofTry okk
    have inSky1 : Sky B (X.env :: X.outer) z (Zn k dd) X.env.locals t.heap := hst ▸ inSky
    show wpAny (model X.prog X.w) X.A (noteFrame (.ref z) X.env) _ _ _
    refine Sky.land Zn.steady frm hfr inSky1 fun hA flA upA => ?_
    have jA : Inv X pins τ G { t with heap := hA } := j0.landed bare flA.1 (upB.trans upA) os1 same1
    obtain ⟨oA, vA, getA, zcA, datA⟩ := flA.there
    have notF : z ∉ frs (X.env :: X.outer) := by
      intro hm
      obtain ⟨_, o', e', hnf⟩ := flA.2.2.1.mem hm
      rw [getA] at e'
      cases e'
      exact hnf _ datA
    have zL : z ≠ X.env.locals := fun y => notF (List.mem_filterMap.mpr ⟨X.env, List.mem_cons_self, hfr.trans (congrArg some y.symm)⟩)
    have zF : z ∉ X.fs := fun hm => by
      obtain ⟨en, hen, y⟩ := List.mem_filterMap.mp hm
      exact notF (List.mem_filterMap.mpr ⟨en, List.mem_cons_of_mem _ hen, y⟩)
    have jS := jA.suite getA datA zfree zL zF
    have turn : ∀ {es1 : List ExceptHandler} {qs1 : List Clause}, AsOk X es1 qs1 → wAses X.K W0 D qs1 k dd τ G → wpAny (model X.prog X.w) X.A (handleBy (.ref z) X.env es1) (SP X pins D) X.xe { t with heap := hA } := by
      intro es1 qs1 kk
      induction kk with
      | nil =>
        intro out
        refine wpAny_handleBy_nil ?_
        obtain ⟨_, _, _, oz, vs, Tr, oTr, tsr, geto, zco, dato, one, _⟩ := id flA
        unfold PySem.passOn
        refine wpAny_bind (wpAny_field geto dato one ?_)
        rw [if_neg (by simp : ¬ ((Value.ref Tr == Value.none) = true))]
        have away : wpAny (model X.prog X.w) X.A (setFlight (.ref z) X.env.frame) (fun _ t4 => wpAny (model X.prog X.w) X.A (throw (.ref z) : Sem Flow) (SP X pins D) X.xe t4) X.xe { t with heap := hA } := by
          rw [hfr]
          exact HandSPX.setFlight_upZ flA fun h4 sk4 up4 => wpAny_throw (tk _ _ ⟨z, B, sB, pins, τ, G, k, dd, rfl, j0, bare, (upB.trans upA).trans up4, .inr (.inr (hst.symm ▸ sk4)), zfree, os1, same1, out⟩)
        first | exact wpAny_bind (wpAny_pure (wpAny_bind away)) | exact wpAny_bind away
      | @cons x n c i ts b0 bs p1 p2 es2 qs2 hc hi hk hsu more ih =>
        rintro ⟨hit, isHit, onHit, offHit⟩
        refine wpAny_handleBy_cons (codeAny_handlers_test ?_) (by intro y; cases y)
        have looksT : PySem.W.Looks (model X.prog X.w) hA (typeOf (.ref z)) k := fun A Q E s kp y => wpAny_typeOf_ref (kp _ _ getA) (by rw [zcA.1]; exact y)
        have looksM := PySem.W.exm_one (M := model X.prog X.w) jA.kIn looksT isHit
        have named : ∀ {Q : Value → Shared → Prop} {E : Value → Shared → Prop}, Q c { t with heap := hA } → wpAny (model X.prog X.w) (X.A.mark (some (.ref z))) (eval (.Name x p1) X.env) Q E { t with heap := hA } := fun {Q E} y =>
          match hc with
          | ⟨hg, hdb, .inl hm⟩ => ld_glob (X := X.suite z ((z, oA) :: (X.pn ++ pins))) jS hg hm y hdb
          | ⟨hg, hdb, .inr ⟨hm, hv, hnn⟩⟩ => ld_blt (X := X.suite z ((z, oA) :: (X.pn ++ pins))) jS hg hm hv y hnn hdb
        refine named (looksM.here ?_)
        cases hit with
        | false => exact ih (offHit rfl)
        | true =>
          refine codeAny_handlers_suite_as (HandSPX.lands_againZ flA fun hB flB upB2 => ?_)
          have jB : Inv X pins τ G { t with heap := hB } := j0.landed bare flB.1 ((upB.trans upA).trans upB2) os1 same1
          obtain ⟨oB, vB, getB, zcB, datB⟩ := flB.there
          have jSB := jB.suite getB datB zfree zL zF
          refine store_ok (X := X.suite z ((z, oB) :: (X.pn ++ pins))) (v := .ref z) jSB hnd hi (.inl hk) rfl (fun t5 S5 => ?_) (.inr hk)
          refine wpAny_mono ((hsu z oB k dd (X.pn ++ pins) zcB ⟨_, datB⟩).run [] t5 _ G _ S5 (onHit rfl z zfree)) (fun fl t6 got => ?_) (fun _ _ y => y.elim)
          have fin : ∀ {τ6 : St} {G6 : Hp} {Q : Shared → Prop}, Inv (X.suite z ((z, oB) :: (X.pn ++ pins))) [] τ6 G6 t6 → (∀ t7, Inv X pins (τ6.set i none) G6 t7 → Q t7) →
              wpAny (model X.prog X.w) X.A (do bindName X.env n .none; unbindBehindTheSuite X.env n p2) (fun _ t7 => Q t7) X.xe t6 := fun S6 hq => gone_ok (S6.unsuite okk) hnd hi hk hq
          cases fl with
          | next => obtain ⟨_, _, S6, q6⟩ := got; exact fin S6 fun _ J7 => ⟨_, _, J7, q6⟩
          | brk => obtain ⟨_, _, S6, q6⟩ := got; exact fin S6 fun _ J7 => ⟨_, _, J7, q6⟩
          | cont => obtain ⟨_, _, S6, q6⟩ := got; exact fin S6 fun _ J7 => ⟨_, _, J7, q6⟩
          | ret u => obtain ⟨_, _, _, S6, r6, q6⟩ := got; exact fin S6 fun _ J7 => ⟨_, _, _, J7, r6, q6⟩
    exact turn hh wants
end
end L2N

/-! defs that may raise, where the context of exceptions is told, too -/
namespace Vk
open PySem L2 PyProof.Rows
theorem passLY {X : Cx} : Passes (L2N.CX X.prog X.w) X E0 := fun _ _ _ _ _ _ _ h => by
  obtain ⟨_, _, _, _, _, _, _, _, _, _, _, _, z⟩ := h
  exact z.elim
theorem takes0Y {X : Cx} : L2N.Takes X (fun _ _ _ _ => False) := fun _ _ x => by
  obtain ⟨_, _, _, _, _, _, _, _, _, _, _, _, _, _, _, _, z⟩ := x
  exact z.elim
structure DefY (P : Program) (w : World) (K : PySem.W.Frag) (mg : Str → Option Value) (base : Heap) (k : Nat) (x : Str) (ps : List Str) (sp : Sp) (f : Addr) (fd : FuncData) : Prop where
  ok : FnOk P w K mg base (L2N.CX P w) k f fd ps sp
  m : mg x = some (.ref f)
  kp : PySem.W.keepIn K (.ref f) = true
  b : Binds K fd ps []
theorem DefY.up {P : Program} {w : World} {K : PySem.W.Frag} {mg : Str → Option Value} {base : Heap} {j k : Nat} {x : Str} {ps : List Str} {sp : Sp} {f : Addr} {fd : FuncData} (d : DefY P w K mg base j x ps sp f fd) (h : j ≤ k) : DefY P w K mg base k x ps sp f fd := ⟨d.ok.mono h, d.m, d.kp, d.b⟩
structure DefYN (P : Program) (w : World) (K : PySem.W.Frag) (mg : Str → Option Value) (base : Heap) (k : Nat) (x : Str) (ps : List Str) (n : Nat) (ks : List Str) (sp : Sp) (f : Addr) (fd : FuncData) : Prop where
  ok : FnOk P w K mg base (L2N.CX P w) k f fd ps sp
  m : mg x = some (.ref f)
  kp : PySem.W.keepIn K (.ref f) = true
  b : KBn K fd ps n ks (fun us ws => us ++ ws) (fun vs zs => vs ++ zs)
theorem DefYN.up {P : Program} {w : World} {K : PySem.W.Frag} {mg : Str → Option Value} {base : Heap} {j k n : Nat} {x : Str} {ps ks : List Str} {sp : Sp} {f : Addr} {fd : FuncData} (d : DefYN P w K mg base j x ps n ks sp f fd) (h : j ≤ k) : DefYN P w K mg base k x ps n ks sp f fd := ⟨d.ok.mono h, d.m, d.kp, d.b⟩
/-- a def that an error at hand is passed to -/
structure DefP (P : Program) (w : World) (K : PySem.W.Frag) (mg : Str → Option Value) (base : Heap) (k : Nat) (x : Str) (ps : List Str) (sp : Addr × Obj → Sp) (f : Addr) (fd : FuncData) : Prop where
  ok : FnP P w K mg base k f fd ps sp
  m : mg x = some (.ref f)
  kp : PySem.W.keepIn K (.ref f) = true
  b : Binds K fd ps []
section
variable {X : Cx} {k n : Nat} {f : Addr} {fd : FuncData} {ps ks : List Str} {sp : Sp} {x : Str} {p pos : Pos} {e : Expr} {es : List Expr} {kws : List Keyword} {t tkw : TA} {W : WX}
theorem pcallYL (D : DefY X.prog X.w X.K X.mg X.base k x ps sp f fd) (hr : Room k X.A) (ha : PA X (e :: es) t)
    (hg : Gl X x := by rfl) (hdb : (x == ("__debug__" : Str)) = false := by decide) (he : starEach (e :: es) X.env = (false, eval e X.env) :: starEach es X.env := by rfl) (hpl : (backTo pos (starEach es X.env)).any (·.1) = false := by rfl) :
    PE X (.Call (.Name x p) (e :: es) [] pos) (tCall sp [] E0 t) := pe_call D.ok hr hg D.m D.kp D.b .nil passLY ha hdb he hpl
theorem pcallY (D : DefY X.prog X.w X.K X.mg X.base k x ps sp f fd) (hr : Room k X.A) (tk : L2N.Takes X W) (ha : PA X (e :: es) t)
    (hg : Gl X x := by rfl) (hdb : (x == ("__debug__" : Str)) = false := by decide) (he : starEach (e :: es) X.env = (false, eval e X.env) :: starEach es X.env := by rfl) (hpl : (backTo pos (starEach es X.env)).any (·.1) = false := by rfl) :
    PE X (.Call (.Name x p) (e :: es) [] pos) (tCallS sp (WE W) t) := pe_callS D.ok hr hg D.m D.kp D.b (fun σ => L2N.passAt tk σ) ha hdb he hpl
theorem pcallYLN (D : DefYN X.prog X.w X.K X.mg X.base k x ps n ks sp f fd) (hr : Room k X.A) (ha : PA X (e :: es) t) (hkw : PK X kws tkw)
    (hg : Gl X x := by rfl) (hall : (backToKw pos (keywordEach kws X.env)).all (·.1.isSome) = true := by rfl) (hks : (backToKw pos (keywordEach kws X.env)).filterMap (·.1) = ks := by rfl)
    (hdb : (x == ("__debug__" : Str)) = false := by decide) (he : starEach (e :: es) X.env = (false, eval e X.env) :: starEach es X.env := by rfl)
    (hpl : ((backTo pos (starEach (e :: es) X.env)).any (·.1) || (backToKw pos (keywordEach kws X.env)).any (·.1.isNone)) = false := by rfl) :
    PE X (.Call (.Name x p) (e :: es) kws pos) (tCallN n ks.length sp (fun vs zs => vs ++ zs) E0 t tkw) := pe_callN D.ok hr hg D.m D.kp D.b passLY ha hkw hall hks hdb he hpl
theorem pcallYN (D : DefYN X.prog X.w X.K X.mg X.base k x ps n ks sp f fd) (hr : Room k X.A) (tk : L2N.Takes X W) (ha : PA X (e :: es) t) (hkw : PK X kws tkw)
    (hg : Gl X x := by rfl) (hall : (backToKw pos (keywordEach kws X.env)).all (·.1.isSome) = true := by rfl) (hks : (backToKw pos (keywordEach kws X.env)).filterMap (·.1) = ks := by rfl)
    (hdb : (x == ("__debug__" : Str)) = false := by decide) (he : starEach (e :: es) X.env = (false, eval e X.env) :: starEach es X.env := by rfl)
    (hpl : ((backTo pos (starEach (e :: es) X.env)).any (·.1) || (backToKw pos (keywordEach kws X.env)).any (·.1.isNone)) = false := by rfl) :
    PE X (.Call (.Name x p) (e :: es) kws pos) (tCallNS n ks.length sp (WE W) t tkw) := by
  refine ⟨fun pins s σ H Q I wish => wpAny_Call_Name_kw (ld_glob I hg D.m ?_ hdb)⟩
  refine PySem.W.callWith_KW (h₀ := X.base) I.ok.mod.kin D.kp hall (thn (ha.run pos pins s σ H _ I wish) fun us s1 ⟨vs, H1, I1, r1, q1⟩ => ?_) hpl he
  refine thn (hkw.run pos pins s1 σ H1 _ I1 q1) fun ws s2 ⟨zs, H2, I2, r2, l1, l2, q2⟩ => ⟨I2.kIn, ?_⟩
  rw [hks]
  refine wpAny_call (codeAny_mono (D.ok.run X.A X.stack s2 H2 ⟨us, ks.zip ws⟩ (us ++ ws) (vs ++ zs) Q _ hr I2.env0 (D.b.to s2 us ws I2.kIn (r1.length.symm.trans l1) (r2.length.symm.trans l2)) (D.b.rel r1 r2) q2) fun r s' hq => ?_)
  match r with
  | .error u => exact L2N.passAt tk σ pins H2 s2 u s' I2 hq
  | .ok (.ret u) => exact I2.after hq
  | .ok .next => exact hq.elim
  | .ok .brk => exact hq.elim
  | .ok .cont => exact hq.elim
end
section
variable {P : Program} {w : World} {K : PySem.W.Frag} {mg : Str → Option Value} {base : Heap}
theorem okY {x qual : Str} {st : Stmt} {f : Addr} {fd : FuncData} {N ps : List Str} {k : Nat} {sp : Sp} (F : Fun K x qual st f fd) (S : FnScope N ps (defScope st)) (len : ∀ vs H Q E, sp vs H Q E → vs.length = ps.length)
    (hbody : ∀ (cdv : Value) (A : Around) (outer : List Env) (s : Shared) (H : Hp) (vs : List V) (Q : VK) (E : XK), Room k (A.deeper (envOfC qual (defScope st) s.heap.objs.size f cdv)) → sp vs H Q E →
      ∃ t, PSs (cxOf (L2N.CX P w) P w K mg base N qual (defScope st) f cdv A outer s H E) (defBody st) t ∧ t { nx := fun _ H' => Q .non H', rt := Q } (start N vs) H) : FnOk P w K mg base (L2N.CX P w) (k + 1) f fd ps sp := by
  obtain ⟨oc, od, kV, doc, pm, an, cdv, ct, osl, rfl, lk, hcd⟩ := F.ex
  exact fn_of lk hcd S len fun A outer s H vs Q E hr hsp => hbody cdv A outer s H vs Q E hr hsp
theorem okP {x qual : Str} {st : Stmt} {f : Addr} {fd : FuncData} {N ps : List Str} {k : Nat} {sp : Addr × Obj → Sp} (F : Fun K x qual st f fd) (S : FnScope N ps (defScope st)) (len : ∀ p vs H Q E, sp p vs H Q E → vs.length = ps.length)
    (hbody : ∀ (cdv : Value) (A : Around) (outer : List Env) (s : Shared) (H : Hp) (vs : List V) (Q : VK) (E : XK) (p : Addr × Obj), L2H.Hot1 A p → L2H.RoomH k (A.deeper (envOfC qual (defScope st) s.heap.objs.size f cdv)) → sp p vs H Q E →
      ∃ t, PSs (L2H.cxH CX0 P w K mg base N qual (defScope st) f cdv A outer s H E p) (defBody st) t ∧ t { nx := fun _ H' => Q .non H', rt := Q } (start N vs) H) : FnP P w K mg base (k + 1) f fd ps sp := by
  obtain ⟨oc, od, kV, doc, pm, an, cdv, ct, osl, rfl, lk, hcd⟩ := F.ex
  exact fnp_mk lk hcd S len fun A outer s H vs Q E p hot hr hsp => hbody cdv A outer s H vs Q E p hot hr hsp
end
end Vk

/-! what the written part says of classes of errors -/
namespace Vk
open PySem PySem.W PySem.Calls PySem.HandSPX L2
theorem cls_both {K : Frag} {C : Addr} (h2 : isClsIn K C = true) (h3 : typeIn K (.ref C) = some (.type "type")) : ((clsIn K C).isSome && typeIn K (.ref C) == some (.type "type")) = true := by
  have h2' : (clsIn K C).isSome = true := h2
  rw [h2', h3]
  rfl
theorem exm_of {K : Frag} {S C : Addr} {b : Bool} (h1 : subIn K (.ref C) (.type "BaseException") = some true) (h2 : isClsIn K C = true) (h3 : typeIn K (.ref C) = some (.type "type")) (h4 : subIn K (.ref S) (.ref C) = some b) : exmOne K (.ref S) (.ref C) = some b := by
  have e1 : (subIn K (.ref C) (.type "BaseException") == some true) = true := by rw [h1]; rfl
  unfold exmOne kitCls
  rw [if_pos e1]
  dsimp only
  rw [if_pos (cls_both h2 h3)]
  exact h4
theorem kit_of1 {K : Frag} {S C : Addr} {b : Bool} (n : (S == C) = false) (h2 : isClsIn K C = true) (h3 : typeIn K (.ref C) = some (.type "type")) (h4 : subIn K (.ref S) (.ref C) = some b) : kitOne K (.ref S) (.ref C) = some b := by
  have e1 : (Value.ref S == Value.ref C) = false := beq_false_of_ne fun e => by
    have := Value.ref.inj e
    rw [this, beq_self_eq_true] at n
    cases n
  unfold kitOne kitCls
  rw [e1, if_neg Bool.false_ne_true]
  dsimp only
  rw [if_pos (cls_both h2 h3)]
  exact h4
theorem errTxt {K : Frag} {mg : Str → Option Value} {x nm q iq : Str} {C fi N : Addr} {bs bm sub : List Value} {sn : List Str} {ab : Bool} {col : Option Bool} {dd : Option Addr} {m0 m1 m2 m3 m5 : Option Value} {iod ian : Option Addr} {isl : Array (Option Value)} {ioc idc ipm icd ict : Value} {p1 p2 q1 q2 q3 q4 : Pos}
    (aC : mg x = some (.ref C)) (xL : K.lookup C = some (excClassObj nm q C N bs bm true sn sub ab col dd m0 m1 m2 m3 m5 "ValueError.__new__")) (rv : refsVE bm = true)
    (sa : findIn K (.ref C) "__setattr__" = some (some (.builtin "object.__setattr__"))) (ga : findIn K (.ref C) "__getattribute__" = some (some (.builtin "BaseException.__getattribute__"))) (gg : findIn K (.ref C) "__getattr__" = some none) (nb : findIn K (.ref C) "value" = some none)
    (a1 : findIn K (.ref C) "__init__" = some (some (.ref fi))) (t1 : typeIn K (.ref fi) = some (.type "function"))
    (l1 : K.lookup fi = some ⟨ioc, iod, .func (fnOf "__init__" iq (PySem.ValX.iA p1 p2) (PySem.ValX.iB q1 q2 q3 q4) PySem.ValX.iS .none .none idc ipm ian icd ict), isl⟩) (c1 : codeIn K icd iq = true)
    (kC : keepIn K (.ref C) = true) (eC : subIn K (.ref C) (.type "BaseException") = some true) (tC : typeIn K (.ref C) = some (.type "type")) (hC : hasDictIn K C = true) (te : exmOne K (.ref C) (.ref C) = some true) : PySem.ValX.ValTxt K mg x C fi :=
  { gC := aC, cls := ⟨nm, q, N, bs, bm, sn, sub, ab, col, dd, m0, m1, m2, m3, m5, xL, rv⟩, sa := sa, ga := ga, gg := gg, noN := nb, iC := a1, tC := t1, kC := kC, exC := eC, tyC := tC, hdC := hC, te := te, fn := ⟨iq, ioc, iod, idc, ipm, ian, icd, ict, isl, p1, p2, q1, q2, q3, q4, l1, c1⟩ }
end Vk

/-! the head by a Hook of its own: facts about the objects at written addresses; the top is run three times, once for each look -/
namespace Vk
open PySem PySem.W PySem.Calls PySem.HandSPX PyProof.Rows L2
def obsV (fa : List He.Fa) (fn : List He.DefD) (ex : PySem.W.Frag → Bool) (K : PySem.W.Frag) : He.AlD := ((ex K && fa.all fun f => f.ok K) && fn.all fun d => d.ok K, fn.map fun d => He.fnW K d.at_)
def valV (fn : List He.DefD) : He.AlD := (true, fn.map He.DefD.val)
def hookV (as : List Addr) (fa : List He.Fa) (fn : List He.DefD) (ex : PySem.W.Frag → Bool) : PySem.W.Hook where
  α := He.AlD
  obs := fun s => obsV fa fn ex (He.frG s.heap.get? as)
  val := fun _ => valV fn
  says := fun _ h => ∃ K : PySem.W.Frag, K.In h ∧ obsV fa fn ex K = valV fn
  of := fun _ _ e => ⟨_, He.frG_in, e⟩
  keeps := fun _ _ _ ⟨K, hK, c⟩ k => ⟨K, PySem.W.Frag.In.keeps hK k, c⟩
section
variable {as : List Addr} {fa : List He.Fa} {fn : List He.DefD} {ex : PySem.W.Frag → Bool} {K : PySem.W.Frag} {mg : Str → Option Value} {h : Heap}
theorem obV_eq (s : PySem.W.SharedT) : obsV fa fn ex (He.frG (HandSHeadRun.getT s) as) = (hookV as fa fn ex).obs s.abs := by
  have e : HandSHeadRun.getT s = s.abs.heap.get? := funext (HandSHeadRun.getT_eq s)
  rw [e]
  rfl
theorem saysV_ex (c : obsV fa fn ex K = valV fn) : ex K = true := (He.ba (He.ba (show ((ex K && fa.all fun f => f.ok K) && fn.all fun d => d.ok K) = true from congrArg (fun z : He.AlD => z.1) c)).1).1
theorem saysV_fact (c : obsV fa fn ex K = valV fn) (i : Nat) {f : He.Fa} (h : fa[i]? = some f) : f.ok K = true :=
  List.all_eq_true.mp (He.ba (He.ba (show ((ex K && fa.all fun f => f.ok K) && fn.all fun d => d.ok K) = true from congrArg (fun z : He.AlD => z.1) c)).1).2 f (List.mem_of_getElem? h)
theorem saysV_def (c : obsV fa fn ex K = valV fn) (i : Nat) {d : He.DefD} (h : fn[i]? = some d) : ∃ fd, FunD K d.name d.qual d.params d.body d.scope (d.dvs K) (d.kws K) (He.fAd K d.at_) fd := by
  have c2 := (He.ba (show ((ex K && fa.all fun f => f.ok K) && fn.all fun d => d.ok K) = true from congrArg (fun z : He.AlD => z.1) c)).2
  have e : fn.map (fun d => He.fnW K d.at_) = fn.map He.DefD.val := congrArg (fun z : He.AlD => z.2) c
  have e2 : (fn.map fun d => He.fnW K d.at_)[i]? = (fn.map He.DefD.val)[i]? := by rw [e]
  rw [List.getElem?_map, List.getElem?_map, h] at e2
  exact He.DefD.funD (Option.some.inj e2) (List.all_eq_true.mp c2 d (List.mem_of_getElem? h))
theorem run2 {α : Type} {o : Option α} {e : α → Bool} {d : α → Bool} {l : α → List He.FnW} {L : List He.FnW} (h1 : o.map e = some true) (h2 : o.map (fun x => (d x, l x)) = some (true, L)) : o.map (fun x => ((e x && d x, l x) : He.AlD)) = some (true, L) := by
  cases o with
  | none => cases h1
  | some x =>
    have e1 : e x = true := Option.some.inj h1
    have e2 : (d x, l x) = (true, L) := Option.some.inj h2
    obtain ⟨e3, e4⟩ := Prod.mk.inj e2
    show some (e x && d x, l x) = _
    rw [e1, e3, e4]
    rfl
theorem run3 {α β γ δ : Type} {o : Option α} {f : α → β} {g : α → γ} {k : α → δ} {a : β} {b : γ} {c : δ} (h1 : o.map f = some a) (h2 : o.map g = some b) (h3 : o.map k = some c) : o.map (fun x => (f x, g x, k x)) = some (a, b, c) := by
  cases o with
  | none => cases h1
  | some x =>
    have e1 : f x = a := Option.some.inj h1
    have e2 : g x = b := Option.some.inj h2
    have e3 : k x = c := Option.some.inj h3
    show some (f x, g x, k x) = _
    rw [e1, e2, e3]
theorem fn_of_d {x : Str} {st : Stmt} {ps : List Str} {f : Addr} {fd : FuncData} (F : FunD K x x (defArgs st) (defBody st) (defScope st) [] [] f fd) (m : mg x = some (.ref f))
    (h : ∀ (kV doc pm : Value) (an : Option Addr) (cdv ct : Value) (us : List Value), us.length = ps.length → bindArgs (PySem.W.fnOf x x (defArgs st) (defBody st) (defScope st) .none kV doc pm an cdv ct) ⟨us, []⟩ = pure (ps.zip us)) : Fn K mg x st ps f fd := by
  have b := F.bindsN h
  obtain ⟨oc, od, dV, kV, doc, pm, an, cdv, ct, osl, rfl, lk, hcd, hD, hK⟩ := F.ex
  rcases hD with ⟨_, rfl⟩ | ⟨e, _⟩
  · exact ⟨⟨⟨oc, od, kV, doc, pm, an, cdv, ct, osl, rfl, lk, hcd⟩, F.kp⟩, m, b⟩
  · cases e rfl
theorem funA_of_d {x : Str} {st : Stmt} {dvs : List V} {f : Addr} {fd : FuncData} (F : FunD K x x (defArgs st) (defBody st) (defScope st) dvs [] f fd) : FunA K x x st f fd := by
  obtain ⟨oc, od, dV, kV, doc, pm, an, cdv, ct, osl, rfl, lk, hcd, hD, hK⟩ := F.ex
  exact ⟨⟨oc, od, dV, kV, doc, pm, an, cdv, ct, osl, rfl, lk, hcd⟩, F.kp⟩
/-- a class of errors as its object stands -/
def clsB (K : PySem.W.Frag) (C : Addr) : Bool := match K.lookup C with
  | some ⟨.type "type", _, .cls cd, sl⟩ => (match cd.mro, sl.toList with
    | .ref C' :: bm, [_, _, _, _, some (.builtin n), _] => C' == C && (n == "ValueError.__new__" && (cd.hasDict && (!cd.hasDel && refsVE bm)))
    | _, _ => false)
  | _ => false
theorem clsB_ok {C : Addr} (h : clsB K C = true) : ∃ nm q N bs bm sn sub ab col dd k0 k1 k2 k3 k5, K.lookup C = some (excClassObj nm q C N bs bm true sn sub ab col dd k0 k1 k2 k3 k5 "ValueError.__new__") ∧ refsVE bm = true := by
  unfold clsB at h
  split at h
  · rename_i dd cd sl ho
    split at h
    · rename_i C' bm k0 k1 k2 k3 n k5 e1 e2
      obtain ⟨h1, h⟩ := He.ba h
      obtain ⟨h2, h⟩ := He.ba h
      obtain ⟨h3, h⟩ := He.ba h
      obtain ⟨h4, h5⟩ := He.ba h
      have es : sl = #[k0, k1, k2, k3, some (.builtin n), k5] := by
        rw [← Array.toArray_toList (xs := sl), e2]
      obtain ⟨nm, bs, mro, ns, q, hd, sn, sub, ab, col, del⟩ := cd
      have e3 : mro = .ref C' :: bm := e1
      have e4 : hd = true := h3
      have e5 : del = false := by
        have h4 : (!del) = true := h4
        cases del
        · rfl
        · cases h4
      rw [ho, es, e3, beq_iff_eq.mp h1, beq_iff_eq.mp h2, e4, e5]
      exact ⟨_, _, _, _, _, _, _, _, _, _, _, _, _, _, _, rfl, h5⟩
    · cases h
  · cases h
/-- an error's class, all that its text says: facts of K -/
def errB (K : PySem.W.Frag) (x : Str) : Bool :=
  clsB K (He.ga K x) && (He.eqO (findIn K (.ref (He.ga K x)) "__setattr__") (some (some (.builtin "object.__setattr__"))) && (He.eqO (findIn K (.ref (He.ga K x)) "__getattribute__") (some (some (.builtin "BaseException.__getattribute__"))) &&
  (He.eqO (findIn K (.ref (He.ga K x)) "__getattr__") (some none) && (He.eqO (findIn K (.ref (He.ga K x)) "value") (some none) && (He.eqO (findIn K (.ref (He.ga K x)) "__init__") (some (some (.ref (He.ma K (He.ga K x) "__init__")))) &&
  (decide (typeIn K (.ref (He.ma K (He.ga K x) "__init__")) = some (.type "function")) && (keepIn K (.ref (He.ga K x)) && (decide (subIn K (.ref (He.ga K x)) (.type "BaseException") = some true) && (decide (typeIn K (.ref (He.ga K x)) = some (.type "type")) &&
  (hasDictIn K (He.ga K x) && decide (exmOne K (.ref (He.ga K x)) (.ref (He.ga K x)) = some true)))))))))))
theorem errB_ok {x : Str} (g : mg x = some (.ref (He.ga K x))) (h : errB K x = true) (fn : ∃ (q : Str) (oc : Value) (od : Option Addr) (doc pm : Value) (an : Option Addr) (cdv ct : Value) (osl : Array (Option Value)) (p1 p2 q1 q2 q3 q4 : Pos),
    K.lookup (He.ma K (He.ga K x) "__init__") = some ⟨oc, od, .func (fnOf "__init__" q (PySem.ValX.iA p1 p2) (PySem.ValX.iB q1 q2 q3 q4) PySem.ValX.iS .none .none doc pm an cdv ct), osl⟩ ∧ codeIn K cdv q = true) : PySem.ValX.ValTxt K mg x (He.ga K x) (He.ma K (He.ga K x) "__init__") := by
  obtain ⟨h1, h⟩ := He.ba h
  obtain ⟨h2, h⟩ := He.ba h
  obtain ⟨h3, h⟩ := He.ba h
  obtain ⟨h4, h⟩ := He.ba h
  obtain ⟨h5, h⟩ := He.ba h
  obtain ⟨h6, h⟩ := He.ba h
  obtain ⟨h7, h⟩ := He.ba h
  obtain ⟨h8, h⟩ := He.ba h
  obtain ⟨h9, h⟩ := He.ba h
  obtain ⟨h10, h⟩ := He.ba h
  obtain ⟨h11, h12⟩ := He.ba h
  exact { gC := g, cls := clsB_ok h1, sa := He.eqO_ok h2, ga := He.eqO_ok h3, gg := He.eqO_ok h4, noN := He.eqO_ok h5, iC := He.eqO_ok h6, tC := of_decide_eq_true h7, kC := h8, exC := of_decide_eq_true h9, tyC := of_decide_eq_true h10, hdC := h11, te := of_decide_eq_true h12, fn := fn }
/-- .. and what isinstance asks of it -/
def excB (K : PySem.W.Frag) (x : Str) : Bool :=
  He.eqO (findIn K (.ref (He.ga K x)) "__getattribute__") (some (some (.builtin "BaseException.__getattribute__"))) && (He.eqO (findIn K (.ref (He.ga K x)) "__getattr__") (some none) && (decide (subIn K (.ref (He.ga K x)) (.type "BaseException") = some true) && (hasDictIn K (He.ga K x) &&
  (He.eqO (findIn K (.ref (He.ga K x)) "__class__") (some (some (.builtin "object.__class__"))) && (He.eqO (specialIn K (.builtin "object.__class__") "__get__") (some (some (.builtin "getset_descriptor.__get__"))) && (decide (takesIn K (.builtin "object.__class__") = some true) && decide (mroIn K (He.ga K x) (.type "object") = some true)))))))
theorem excB_ok {x : Str} (h : excB K x = true) : ExcC K (He.ga K x) := by
  obtain ⟨h1, h⟩ := He.ba h
  obtain ⟨h2, h⟩ := He.ba h
  obtain ⟨h3, h⟩ := He.ba h
  obtain ⟨h4, h⟩ := He.ba h
  obtain ⟨h5, h⟩ := He.ba h
  obtain ⟨h6, h⟩ := He.ba h
  obtain ⟨h7, h8⟩ := He.ba h
  exact ⟨He.eqO_ok h1, He.eqO_ok h2, of_decide_eq_true h3, h4, He.eqO_ok h5, He.eqO_ok h6, of_decide_eq_true h7, of_decide_eq_true h8⟩
end
end Vk
namespace Vk
open PySem PySem.W PySem.Calls PySem.HandSPX PyProof.Rows L2
def clsBody (s : Stmt) : List Stmt := match s with
  | .ClassDef _ _ _ b _ _ _ _ _ _ _ => b
  | _ => []
/-- the first method of a class statement -/
def method (s : Stmt) (i : Nat) : Stmt := (clsBody s).getD i (.Pass ⟨0, 0, 0, 0⟩)
def noneB : Value → Bool
  | .none => true
  | _ => false
theorem noneB_ok {v : Value} (h : noneB v = true) : v = .none := by
  cases v with
  | none => rfl
  | _ => cases h
def initB (K : PySem.W.Frag) (x : Str) : Bool := match K.lookup (He.ma K (He.ga K x) "__init__") with
  | some ⟨_, _, .func fd, _⟩ => noneB fd.kwdefaults
  | _ => false
theorem init_ok {K : PySem.W.Frag} {x q : Str} {A : Arguments} {B : List Stmt} {S : Scope} {fd : FuncData} {p1 p2 q1 q2 q3 q4 : Pos} (F : FunD K "__init__" q A B S [] [] (He.ma K (He.ga K x) "__init__") fd) (h : initB K x = true) (eA : A = PySem.ValX.iA p1 p2) (eB : B = PySem.ValX.iB q1 q2 q3 q4) (eS : S = PySem.ValX.iS) :
    ∃ (q : Str) (oc : Value) (od : Option Addr) (doc pm : Value) (an : Option Addr) (cdv ct : Value) (osl : Array (Option Value)) (p1 p2 q1 q2 q3 q4 : Pos),
    K.lookup (He.ma K (He.ga K x) "__init__") = some ⟨oc, od, .func (fnOf "__init__" q (PySem.ValX.iA p1 p2) (PySem.ValX.iB q1 q2 q3 q4) PySem.ValX.iS .none .none doc pm an cdv ct), osl⟩ ∧ codeIn K cdv q = true := by
  obtain ⟨oc, od, dV, kV, doc, pm, an, cdv, ct, osl, rfl, lk, hcd, hD, hK⟩ := F.ex
  unfold initB at h
  rw [lk] at h
  rcases hD with ⟨_, rfl⟩ | ⟨e, _⟩
  · have e : kV = .none := noneB_ok h
    subst e eA eB eS
    exact ⟨q, oc, od, doc, pm, an, cdv, ct, osl, p1, p2, q1, q2, q3, q4, lk, hcd⟩
  · cases e rfl
theorem gcd_ok {K : PySem.W.Frag} {mg : Str → Option Value} {h : Heap} (X : K.In h) (G : h.Ns mainGlobals mg) {x : Str} {v : Value} (c : He.eqO (nsIn K mainGlobals x) (some (some v)) = true) : mg x = some v := PySem.W.mg_of X G (He.eqO_ok c)
end Vk

namespace Vk
section
open PySem PySem.W PySem.Calls PySem.HandSPX PyProof.Rows L2
def topH (i : Nat) : Stmt := PySem.Challenge.pw_clockverdict_k01_exact_arithmetic.main.body.getD i (.Pass ⟨0, 0, 0, 0⟩)
abbrev sH_is_whole : Stmt := topH 35
abbrev sH_is_rational : Stmt := topH 36
abbrev sH_rational : Stmt := topH 37
abbrev sH_add : Stmt := topH 38
abbrev sH_subtract : Stmt := topH 39
abbrev sH_multiply : Stmt := topH 40
abbrev sH_negate : Stmt := topH 41
abbrev sH_divide : Stmt := topH 42
abbrev sH_distance : Stmt := topH 43
abbrev sH_compare : Stmt := topH 44
abbrev sH_smaller : Stmt := topH 45
abbrev sH_larger : Stmt := topH 46
abbrev sH_total : Stmt := topH 47
abbrev sH_floor_of : Stmt := topH 48
abbrev sH__law_store : Stmt := topH 50
abbrev sH__law_feed : Stmt := topH 51
abbrev sH__law_mixed : Stmt := topH 52
abbrev sH__law_take : Stmt := topH 53
abbrev sH__law_pick : Stmt := topH 54
abbrev sH__law_shuffled : Stmt := topH 55
abbrev sH__law_is_int : Stmt := topH 56
abbrev sH__law_same : Stmt := topH 57
abbrev sH__law_frac : Stmt := topH 58
abbrev sH__law_plus : Stmt := topH 59
abbrev sH__law_minus : Stmt := topH 60
abbrev sH__law_is_frac : Stmt := topH 61
abbrev sH__law_ratio : Stmt := topH 62
abbrev sH__law_part : Stmt := topH 63
abbrev sH__law_near : Stmt := topH 64
abbrev sH__law_alone : Stmt := topH 65
abbrev sH__law_two : Stmt := topH 66
abbrev sH__law_worth : Stmt := topH 67
abbrev sH__law_sign : Stmt := topH 68
abbrev sH__law_divided : Stmt := topH 69
abbrev sH__law_signs_right : Stmt := topH 70
abbrev sH__law_quotient_right : Stmt := topH 71
abbrev sH__law_order_right : Stmt := topH 72
abbrev sH__law_few_totals : Stmt := topH 73
abbrev sH__law_many_totals : Stmt := topH 74
abbrev sH__law_most_totals : Stmt := topH 75
abbrev sH__law_totals_right : Stmt := topH 76
abbrev sH__law_product : Stmt := topH 77
abbrev sH__law_great_right : Stmt := topH 78
abbrev sH_law : Stmt := topH 79
def dH_is_whole : He.DefD := ⟨("is_whole", none), "is_whole", "is_whole", defArgs sH_is_whole, defBody sH_is_whole, defScope sH_is_whole, [], []⟩
def dH_is_rational : He.DefD := ⟨("is_rational", none), "is_rational", "is_rational", defArgs sH_is_rational, defBody sH_is_rational, defScope sH_is_rational, [], []⟩
def dH_rational : He.DefD := ⟨("rational", none), "rational", "rational", defArgs sH_rational, defBody sH_rational, defScope sH_rational, [.int 1], []⟩
def dH_add : He.DefD := ⟨("add", none), "add", "add", defArgs sH_add, defBody sH_add, defScope sH_add, [], []⟩
def dH_subtract : He.DefD := ⟨("subtract", none), "subtract", "subtract", defArgs sH_subtract, defBody sH_subtract, defScope sH_subtract, [], []⟩
def dH_multiply : He.DefD := ⟨("multiply", none), "multiply", "multiply", defArgs sH_multiply, defBody sH_multiply, defScope sH_multiply, [], []⟩
def dH_negate : He.DefD := ⟨("negate", none), "negate", "negate", defArgs sH_negate, defBody sH_negate, defScope sH_negate, [], []⟩
def dH_divide : He.DefD := ⟨("divide", none), "divide", "divide", defArgs sH_divide, defBody sH_divide, defScope sH_divide, [], []⟩
def dH_distance : He.DefD := ⟨("distance", none), "distance", "distance", defArgs sH_distance, defBody sH_distance, defScope sH_distance, [], []⟩
def dH_compare : He.DefD := ⟨("compare", none), "compare", "compare", defArgs sH_compare, defBody sH_compare, defScope sH_compare, [], []⟩
def dH_smaller : He.DefD := ⟨("smaller", none), "smaller", "smaller", defArgs sH_smaller, defBody sH_smaller, defScope sH_smaller, [], []⟩
def dH_larger : He.DefD := ⟨("larger", none), "larger", "larger", defArgs sH_larger, defBody sH_larger, defScope sH_larger, [], []⟩
def dH_total : He.DefD := ⟨("total", none), "total", "total", defArgs sH_total, defBody sH_total, defScope sH_total, [], []⟩
def dH_floor_of : He.DefD := ⟨("floor_of", none), "floor_of", "floor_of", defArgs sH_floor_of, defBody sH_floor_of, defScope sH_floor_of, [], []⟩
def dH__law_store : He.DefD := ⟨("_law_store", none), "_law_store", "_law_store", defArgs sH__law_store, defBody sH__law_store, defScope sH__law_store, [], []⟩
def dH__law_feed : He.DefD := ⟨("_law_feed", none), "_law_feed", "_law_feed", defArgs sH__law_feed, defBody sH__law_feed, defScope sH__law_feed, [], []⟩
def dH__law_mixed : He.DefD := ⟨("_law_mixed", none), "_law_mixed", "_law_mixed", defArgs sH__law_mixed, defBody sH__law_mixed, defScope sH__law_mixed, [], []⟩
def dH__law_take : He.DefD := ⟨("_law_take", none), "_law_take", "_law_take", defArgs sH__law_take, defBody sH__law_take, defScope sH__law_take, [], []⟩
def dH__law_pick : He.DefD := ⟨("_law_pick", none), "_law_pick", "_law_pick", defArgs sH__law_pick, defBody sH__law_pick, defScope sH__law_pick, [], []⟩
def dH__law_shuffled : He.DefD := ⟨("_law_shuffled", none), "_law_shuffled", "_law_shuffled", defArgs sH__law_shuffled, defBody sH__law_shuffled, defScope sH__law_shuffled, [], []⟩
def dH__law_is_int : He.DefD := ⟨("_law_is_int", none), "_law_is_int", "_law_is_int", defArgs sH__law_is_int, defBody sH__law_is_int, defScope sH__law_is_int, [], []⟩
def dH__law_same : He.DefD := ⟨("_law_same", none), "_law_same", "_law_same", defArgs sH__law_same, defBody sH__law_same, defScope sH__law_same, [], []⟩
def dH__law_frac : He.DefD := ⟨("_law_frac", none), "_law_frac", "_law_frac", defArgs sH__law_frac, defBody sH__law_frac, defScope sH__law_frac, [], []⟩
def dH__law_plus : He.DefD := ⟨("_law_plus", none), "_law_plus", "_law_plus", defArgs sH__law_plus, defBody sH__law_plus, defScope sH__law_plus, [], []⟩
def dH__law_minus : He.DefD := ⟨("_law_minus", none), "_law_minus", "_law_minus", defArgs sH__law_minus, defBody sH__law_minus, defScope sH__law_minus, [], []⟩
def dH__law_is_frac : He.DefD := ⟨("_law_is_frac", none), "_law_is_frac", "_law_is_frac", defArgs sH__law_is_frac, defBody sH__law_is_frac, defScope sH__law_is_frac, [], []⟩
def dH__law_ratio : He.DefD := ⟨("_law_ratio", none), "_law_ratio", "_law_ratio", defArgs sH__law_ratio, defBody sH__law_ratio, defScope sH__law_ratio, [], []⟩
def dH__law_part : He.DefD := ⟨("_law_part", none), "_law_part", "_law_part", defArgs sH__law_part, defBody sH__law_part, defScope sH__law_part, [], []⟩
def dH__law_near : He.DefD := ⟨("_law_near", none), "_law_near", "_law_near", defArgs sH__law_near, defBody sH__law_near, defScope sH__law_near, [], []⟩
def dH__law_alone : He.DefD := ⟨("_law_alone", none), "_law_alone", "_law_alone", defArgs sH__law_alone, defBody sH__law_alone, defScope sH__law_alone, [], []⟩
def dH__law_two : He.DefD := ⟨("_law_two", none), "_law_two", "_law_two", defArgs sH__law_two, defBody sH__law_two, defScope sH__law_two, [], []⟩
def dH__law_worth : He.DefD := ⟨("_law_worth", none), "_law_worth", "_law_worth", defArgs sH__law_worth, defBody sH__law_worth, defScope sH__law_worth, [], []⟩
def dH__law_sign : He.DefD := ⟨("_law_sign", none), "_law_sign", "_law_sign", defArgs sH__law_sign, defBody sH__law_sign, defScope sH__law_sign, [], []⟩
def dH__law_divided : He.DefD := ⟨("_law_divided", none), "_law_divided", "_law_divided", defArgs sH__law_divided, defBody sH__law_divided, defScope sH__law_divided, [], []⟩
def dH__law_signs_right : He.DefD := ⟨("_law_signs_right", none), "_law_signs_right", "_law_signs_right", defArgs sH__law_signs_right, defBody sH__law_signs_right, defScope sH__law_signs_right, [], []⟩
def dH__law_quotient_right : He.DefD := ⟨("_law_quotient_right", none), "_law_quotient_right", "_law_quotient_right", defArgs sH__law_quotient_right, defBody sH__law_quotient_right, defScope sH__law_quotient_right, [], []⟩
def dH__law_order_right : He.DefD := ⟨("_law_order_right", none), "_law_order_right", "_law_order_right", defArgs sH__law_order_right, defBody sH__law_order_right, defScope sH__law_order_right, [], []⟩
def dH__law_few_totals : He.DefD := ⟨("_law_few_totals", none), "_law_few_totals", "_law_few_totals", defArgs sH__law_few_totals, defBody sH__law_few_totals, defScope sH__law_few_totals, [], []⟩
def dH__law_many_totals : He.DefD := ⟨("_law_many_totals", none), "_law_many_totals", "_law_many_totals", defArgs sH__law_many_totals, defBody sH__law_many_totals, defScope sH__law_many_totals, [], []⟩
def dH__law_most_totals : He.DefD := ⟨("_law_most_totals", none), "_law_most_totals", "_law_most_totals", defArgs sH__law_most_totals, defBody sH__law_most_totals, defScope sH__law_most_totals, [], []⟩
def dH__law_totals_right : He.DefD := ⟨("_law_totals_right", none), "_law_totals_right", "_law_totals_right", defArgs sH__law_totals_right, defBody sH__law_totals_right, defScope sH__law_totals_right, [], []⟩
def dH__law_product : He.DefD := ⟨("_law_product", none), "_law_product", "_law_product", defArgs sH__law_product, defBody sH__law_product, defScope sH__law_product, [], []⟩
def dH__law_great_right : He.DefD := ⟨("_law_great_right", none), "_law_great_right", "_law_great_right", defArgs sH__law_great_right, defBody sH__law_great_right, defScope sH__law_great_right, [], []⟩
def dH_law : He.DefD := ⟨("law", none), "law", "law", defArgs sH_law, defBody sH_law, defScope sH_law, [], []⟩
def asH0 : List Addr := [3, 6, 4, 52, 65, 84, 103, 122, 141, 160, 179, 198, 217, 236, 255, 274, 293, 312, 331, 350, 367, 386, 405, 424, 443, 462, 481, 493, 512, 531, 550, 569, 581, 593, 596, 603, 610, 618, 625, 632, 639, 646, 653, 660, 667, 674, 681, 688, 695, 702, 709, 716, 723, 730, 737, 744, 749, 756, 763, 770]
def asH1 : List Addr := [777, 784, 791, 798, 805, 812, 819, 826, 833, 840, 847, 854, 861, 868, 875, 882, 889, 896, 901, 0, 51, 64, 83, 102, 121, 140, 159, 178, 197, 216, 235, 254, 273, 292, 311, 330, 349, 366, 385, 404, 423, 442, 461, 480, 492, 511, 530, 549, 568, 580, 592, 602, 609, 617, 611, 624, 631, 638, 645, 652]
def asH2 : List Addr := [659, 666, 673, 680, 687, 694, 701, 708, 715, 722, 729, 736, 743, 748, 755, 762, 769, 776, 783, 790, 797, 804, 811, 818, 825, 832, 839, 846, 853, 860, 867, 874, 881, 888, 895, 900, 50, 53, 63, 81, 82, 100, 101, 119, 120, 138, 139, 157, 158, 176, 177, 195, 196, 214, 215, 233, 234, 252, 253, 271]
def asH3 : List Addr := [272, 290, 291, 309, 310, 328, 329, 347, 348, 364, 365, 383, 384, 402, 403, 421, 422, 440, 441, 459, 460, 478, 479, 491, 509, 510, 528, 529, 547, 548, 566, 567, 579, 591, 597, 598, 599, 600, 601, 604, 605, 606, 607, 608, 612, 613, 614, 615, 616, 619, 620, 621, 622, 623, 626, 627, 628, 629, 630, 633]
def asH4 : List Addr := [634, 635, 636, 637, 640, 641, 642, 643, 644, 647, 648, 649, 650, 651, 654, 655, 656, 657, 658, 661, 662, 663, 664, 665, 668, 669, 670, 671, 672, 675, 676, 677, 678, 679, 682, 683, 684, 685, 686, 689, 690, 691, 692, 693, 696, 697, 698, 699, 700, 703, 704, 705, 706, 707, 710, 711, 712, 713, 714, 717]
def asH5 : List Addr := [718, 719, 720, 721, 724, 725, 726, 727, 728, 731, 732, 733, 734, 735, 738, 739, 740, 741, 742, 745, 746, 747, 750, 751, 752, 753, 754, 757, 758, 759, 760, 761, 764, 765, 766, 767, 768, 771, 772, 773, 774, 775, 778, 779, 780, 781, 782, 785, 786, 787, 788, 789, 792, 793, 794, 795, 796, 799, 800, 801]
def asH6 : List Addr := [802, 803, 806, 807, 808, 809, 810, 813, 814, 815, 816, 817, 820, 821, 822, 823, 824, 827, 828, 829, 830, 831, 834, 835, 836, 837, 838, 841, 842, 843, 844, 845, 848, 849, 850, 851, 852, 855, 856, 857, 858, 859, 862, 863, 864, 865, 866, 869, 870, 871, 872, 873, 876, 877, 878, 879, 880, 883, 884, 885]
def asH7 : List Addr := [886, 887, 890, 891, 892, 893, 894, 897, 898, 899, 80, 99, 118, 137, 156, 175, 194, 213, 232, 251, 270, 289, 308, 327, 346, 363, 382, 401, 420, 439, 458, 477, 508, 527, 546, 565]
def asH : List Addr := asH0 ++ asH1 ++ asH2 ++ asH3 ++ asH4 ++ asH5 ++ asH6 ++ asH7
def faH0 : List He.Fa := [.glo "is_whole", .glo "is_rational", .glo "rational", .glo "add", .glo "subtract", .glo "multiply", .glo "negate", .glo "divide", .glo "distance", .glo "compare", .glo "smaller", .glo "larger", .glo "total", .glo "floor_of", .glo "_law_store", .glo "_law_feed", .glo "_law_mixed", .glo "_law_take", .glo "_law_pick", .glo "_law_shuffled", .glo "_law_is_int", .glo "_law_same", .glo "_law_frac", .glo "_law_plus", .glo "_law_minus", .glo "_law_is_frac", .glo "_law_ratio", .glo "_law_part", .glo "_law_near", .glo "_law_alone"]
def faH1 : List He.Fa := [.glo "_law_two", .glo "_law_worth", .glo "_law_sign", .glo "_law_divided", .glo "_law_signs_right", .glo "_law_quotient_right", .glo "_law_order_right", .glo "_law_few_totals", .glo "_law_many_totals", .glo "_law_most_totals", .glo "_law_totals_right", .glo "_law_product", .glo "_law_great_right", .glo "law", .glo "VerdictError", .glo "ZeroDivisor", .glo "BadNumber", .glo "EmptySpan", .glo "BeforeStart", .glo "TurnsBack", .glo "BadRate", .glo "BadBound", .glo "BadName", .glo "DuplicateName", .glo "UnknownName", .glo "BadLink", .glo "UnknownLink", .glo "BadNote", .glo "UnknownMoment", .glo "NoWorld"]
def faH2 : List He.Fa := [.glo "OutsideSpan", .glo "TooManyLiars", .glo "RootFollows", .glo "Condemned", .glo "BadDate", .glo "BadLeap", .glo "BadLabel", .glo "NoSuchSecond", .glo "BadCells", .glo "RefusedEntry", .glo "DuplicateTag", .glo "UnknownTag", .glo "BadLine", .glo "NothingToUndo", .glo "NothingToRedo", .glo "ZERO", .free "len", .free "abs", .free "max", .free "int", .free "isinstance", .free "range", .free "enumerate", .free "list", .free "tuple", .free "str", .free "bool", .free "dict", .free "ValueError"]
def faH : List He.Fa := faH0 ++ faH1 ++ faH2
def fnH0 : List He.DefD := [dH_is_whole, dH_is_rational, dH_rational, dH_add, dH_subtract, dH_multiply, dH_negate, dH_divide, dH_distance, dH_compare, dH_smaller, dH_larger, dH_total, dH_floor_of, dH__law_store, dH__law_feed, dH__law_mixed, dH__law_take, dH__law_pick, dH__law_shuffled, dH__law_is_int, dH__law_same, dH__law_frac, dH__law_plus, dH__law_minus, dH__law_is_frac, dH__law_ratio, dH__law_part, dH__law_near, dH__law_alone]
def fnH1 : List He.DefD := [dH__law_two, dH__law_worth, dH__law_sign, dH__law_divided, dH__law_signs_right, dH__law_quotient_right, dH__law_order_right, dH__law_few_totals, dH__law_many_totals, dH__law_most_totals, dH__law_totals_right, dH__law_product, dH__law_great_right, dH_law]
def fnH : List He.DefD := fnH0 ++ fnH1
def exH0 : List (PySem.W.Frag → Bool) := [fun K => He.eqO (nsIn K mainGlobals "gcd") (some (some (.builtin "math.gcd"))), fun K => He.tupB K "ZERO" [.int 0, .int 1], fun K => excB K "ZeroDivisor", fun K => decide (exmOne K (.ref (He.ga K "ZeroDivisor")) (.ref (He.ga K "VerdictError")) = some true), fun K => decide (kitOne K (.ref (He.ga K "ZeroDivisor")) (.ref (He.ga K "ZeroDivisor")) = some true), fun K => decide (kitOne K (.ref (He.ga K "ZeroDivisor")) (.ref (He.ga K "BadNumber")) = some false), fun K => decide (kitOne K (.ref (He.ga K "ZeroDivisor")) (.ref (He.ga K "EmptySpan")) = some false), fun K => decide (kitOne K (.ref (He.ga K "ZeroDivisor")) (.ref (He.ga K "BeforeStart")) = some false), fun K => decide (kitOne K (.ref (He.ga K "ZeroDivisor")) (.ref (He.ga K "TurnsBack")) = some false), fun K => decide (kitOne K (.ref (He.ga K "ZeroDivisor")) (.ref (He.ga K "BadRate")) = some false), fun K => decide (kitOne K (.ref (He.ga K "ZeroDivisor")) (.ref (He.ga K "BadBound")) = some false), fun K => decide (kitOne K (.ref (He.ga K "ZeroDivisor")) (.ref (He.ga K "BadName")) = some false), fun K => decide (kitOne K (.ref (He.ga K "ZeroDivisor")) (.ref (He.ga K "DuplicateName")) = some false), fun K => decide (kitOne K (.ref (He.ga K "ZeroDivisor")) (.ref (He.ga K "UnknownName")) = some false), fun K => decide (kitOne K (.ref (He.ga K "ZeroDivisor")) (.ref (He.ga K "BadLink")) = some false), fun K => decide (kitOne K (.ref (He.ga K "ZeroDivisor")) (.ref (He.ga K "UnknownLink")) = some false), fun K => decide (kitOne K (.ref (He.ga K "ZeroDivisor")) (.ref (He.ga K "BadNote")) = some false), fun K => decide (kitOne K (.ref (He.ga K "ZeroDivisor")) (.ref (He.ga K "UnknownMoment")) = some false), fun K => decide (kitOne K (.ref (He.ga K "ZeroDivisor")) (.ref (He.ga K "NoWorld")) = some false), fun K => decide (kitOne K (.ref (He.ga K "ZeroDivisor")) (.ref (He.ga K "OutsideSpan")) = some false)]
def exH1 : List (PySem.W.Frag → Bool) := [fun K => decide (kitOne K (.ref (He.ga K "ZeroDivisor")) (.ref (He.ga K "TooManyLiars")) = some false), fun K => decide (kitOne K (.ref (He.ga K "ZeroDivisor")) (.ref (He.ga K "RootFollows")) = some false), fun K => decide (kitOne K (.ref (He.ga K "ZeroDivisor")) (.ref (He.ga K "Condemned")) = some false), fun K => decide (kitOne K (.ref (He.ga K "ZeroDivisor")) (.ref (He.ga K "BadDate")) = some false), fun K => decide (kitOne K (.ref (He.ga K "ZeroDivisor")) (.ref (He.ga K "BadLeap")) = some false), fun K => decide (kitOne K (.ref (He.ga K "ZeroDivisor")) (.ref (He.ga K "BadLabel")) = some false), fun K => decide (kitOne K (.ref (He.ga K "ZeroDivisor")) (.ref (He.ga K "NoSuchSecond")) = some false), fun K => decide (kitOne K (.ref (He.ga K "ZeroDivisor")) (.ref (He.ga K "BadCells")) = some false), fun K => decide (kitOne K (.ref (He.ga K "ZeroDivisor")) (.ref (He.ga K "RefusedEntry")) = some false), fun K => decide (kitOne K (.ref (He.ga K "ZeroDivisor")) (.ref (He.ga K "DuplicateTag")) = some false), fun K => decide (kitOne K (.ref (He.ga K "ZeroDivisor")) (.ref (He.ga K "UnknownTag")) = some false), fun K => decide (kitOne K (.ref (He.ga K "ZeroDivisor")) (.ref (He.ga K "BadLine")) = some false), fun K => decide (kitOne K (.ref (He.ga K "ZeroDivisor")) (.ref (He.ga K "NothingToUndo")) = some false), fun K => decide (kitOne K (.ref (He.ga K "ZeroDivisor")) (.ref (He.ga K "NothingToRedo")) = some false), fun K => decide (kitOne K (.ref (He.ga K "ZeroDivisor")) (.type "ValueError") = some true), fun K => excIn K (He.ga K "ZeroDivisor") [.type "ValueError", .type "Exception", .type "BaseException", .type "object"] "ValueError.__new__", fun K => keepIn K (.ref (He.ga K "ZeroDivisor")), fun K => decide (subIn K (.ref (He.ga K "ZeroDivisor")) (.type "BaseException") = some true), fun K => decide (typeIn K (.ref (He.ga K "ZeroDivisor")) = some (.type "type"))]
def exH : List (PySem.W.Frag → Bool) := exH0 ++ exH1
def exK (K : PySem.W.Frag) : Bool := exH.all fun f => f K
theorem exK_at {K : PySem.W.Frag} (h : exK K = true) (i : Nat) {f : PySem.W.Frag → Bool} (e : exH[i]? = some f) : f K = true := List.all_eq_true.mp h f (List.mem_of_getElem? e)
def looseH0 : List PySem.Str := ["VerdictError", "ZeroDivisor", "BadNumber", "EmptySpan", "BeforeStart", "TurnsBack", "BadRate", "BadBound", "BadName", "DuplicateName", "UnknownName", "BadLink", "UnknownLink", "BadNote", "UnknownMoment", "NoWorld", "OutsideSpan", "TooManyLiars", "RootFollows", "Condemned", "BadDate", "BadLeap", "BadLabel", "NoSuchSecond", "BadCells", "RefusedEntry", "DuplicateTag", "UnknownTag", "BadLine", "NothingToUndo"]
def looseH1 : List PySem.Str := ["NothingToRedo", "ZERO", "is_whole", "is_rational", "rational", "add", "subtract", "multiply", "negate", "divide", "distance", "compare", "smaller", "larger", "total", "floor_of", "_law_store", "_law_feed", "_law_mixed", "_law_take", "_law_pick", "_law_shuffled", "_law_is_int", "_law_same", "_law_frac", "_law_plus", "_law_minus", "_law_is_frac", "_law_ratio", "_law_part"]
def looseH2 : List PySem.Str := ["_law_near", "_law_alone", "_law_two", "_law_worth", "_law_sign", "_law_divided", "_law_signs_right", "_law_quotient_right", "_law_order_right", "_law_few_totals", "_law_many_totals", "_law_most_totals", "_law_totals_right", "_law_product", "_law_great_right"]
def looseH : List PySem.Str := looseH0 ++ looseH1 ++ looseH2
abbrev RH : PySem.W.OpenRow := PySem.W.OpenLaw.row PySem.Challenge.rw_clockverdict_k01_exact_arithmetic
abbrev qH : Program := PySem.W.view RH.prog [0, 79]
abbrev hkH : PySem.W.Hook := hookV asH faH fnH exK
def obH (s : PySem.W.SharedT) : He.AlD := obsV faH fnH exK (He.frG (HandSHeadRun.getT s) asH)
set_option maxHeartbeats 0 in
theorem runL (w : World) : (HandSHeadRun.wholeF (fun p => HandSHeadRun.stepQ (HandSHeadRun.denQ HandSHeadRun.tabQ) p w) HandSHeadRun.fenceQ 20000 RH.prog).map (fun x => HandSHeadRun.looksF RH.prog x.1.heap x.2.abs) = some true := by kernel_rfl
set_option maxHeartbeats 0 in
theorem runS (w : World) : (HandSHeadRun.wholeF (fun p => HandSHeadRun.stepQ (HandSHeadRun.denQ HandSHeadRun.tabQ) p w) HandSHeadRun.fenceQ 20000 RH.prog).map (fun x => HandSHeadRun.seenQ qH looseH (PySem.importedModules RH.prog.main.body) (fun s => PySem.W.xlAt qH [] s && PySem.W.recOk RH.toRowW.records s) x.2.abs) = some (PySem.W.openGood qH looseH) := by kernel_rfl
set_option maxHeartbeats 0 in
theorem runA (w : World) : (HandSHeadRun.wholeF (fun p => HandSHeadRun.stepQ (HandSHeadRun.denQ HandSHeadRun.tabQ) p w) HandSHeadRun.fenceQ 20000 RH.prog).map (fun x => exK (He.frG (HandSHeadRun.getT x.2) asH) && faH.all fun f => f.ok (He.frG (HandSHeadRun.getT x.2) asH)) = some true := by kernel_rfl
set_option maxHeartbeats 0 in
theorem runB (w : World) : (HandSHeadRun.wholeF (fun p => HandSHeadRun.stepQ (HandSHeadRun.denQ HandSHeadRun.tabQ) p w) HandSHeadRun.fenceQ 20000 RH.prog).map (fun x => (fnH.all fun d => d.ok (He.frG (HandSHeadRun.getT x.2) asH), fnH.map fun d => He.fnW (He.frG (HandSHeadRun.getT x.2) asH) d.at_)) = some (true, fnH.map He.DefD.val) := by kernel_rfl
theorem runF (w : World) : (HandSHeadRun.wholeF (fun p => HandSHeadRun.stepQ (HandSHeadRun.denQ HandSHeadRun.tabQ) p w) HandSHeadRun.fenceQ 20000 RH.prog).map (fun x => obH x.2) = some (valV fnH) := run2 (runA w) (runB w)
theorem runH (w : World) : HandSHeadRun.RunEqI RH qH hkH obH 20000 looseH w := run3 (runL w) (runS w) (runF w)
end
end Vk

namespace Vs
/-! ### spans of offsets -/
abbrev Spn := Option Rat × Option Rat
def maxO : Option Rat → Option Rat → Option Rat
  | none, b => b
  | some p, none => some p
  | some p, some q => some (if q ≤ p then p else q)
def minO : Option Rat → Option Rat → Option Rat
  | none, b => b
  | some p, none => some p
  | some p, some q => some (if p ≤ q then p else q)
def crossed : Option Rat → Option Rat → Bool
  | some l, some h => decide (h < l)
  | _, _ => false
def meetO (a b : Spn) : Option Spn := if crossed (maxO a.1 b.1) (minO a.2 b.2) = true then none else some (maxO a.1 b.1, minO a.2 b.2)
def aboveO (o : Option Rat) (t : Rat) : Bool := match o with | none => true | some l => !decide (t < l)
def belowO (o : Option Rat) (t : Rat) : Bool := match o with | none => true | some h => !decide (h < t)
def inS (s : Spn) (t : Rat) : Bool := aboveO s.1 t && belowO s.2 t
def movO (o : Option Rat) (d : Rat) : Option Rat := match o with | none => none | some q => some (q + d)
def negO (o : Option Rat) : Option Rat := match o with | none => none | some q => some (-q)
def shO (s : Spn) (d : Rat) : Spn := (movO s.1 d, movO s.2 d)
def offO (x y : Rat) (fo ba : Spn) : Option Spn := meetO (shO (negO fo.2, negO fo.1) x) (shO ba y)
theorem above_max (a b : Option Rat) (t : Rat) : aboveO (maxO a b) t = (aboveO a t && aboveO b t) := by
  cases a with
  | none => simp [maxO, aboveO]
  | some p => cases b with
    | none => simp [maxO, aboveO]
    | some q =>
      simp only [maxO, aboveO]
      split <;> by_cases h1 : t < p <;> by_cases h2 : t < q <;> simp [h1, h2] <;> grind
theorem below_min (a b : Option Rat) (t : Rat) : belowO (minO a b) t = (belowO a t && belowO b t) := by
  cases a with
  | none => simp [minO, belowO]
  | some p => cases b with
    | none => simp [minO, belowO]
    | some q =>
      simp only [minO, belowO]
      split <;> by_cases h1 : p < t <;> by_cases h2 : q < t <;> simp [h1, h2] <;> grind
theorem crossed_in {l h : Option Rat} (c : crossed l h = true) (t : Rat) : (aboveO l t && belowO h t) = false := by
  cases l with
  | none => simp [crossed] at c
  | some p => cases h with
    | none => simp [crossed] at c
    | some q =>
      simp only [crossed, decide_eq_true_eq] at c
      simp only [aboveO, belowO]
      by_cases h1 : t < p <;> by_cases h2 : q < t <;> simp [h1, h2] <;> grind
theorem meet_in (a b : Spn) (t : Rat) : (inS a t && inS b t) = (match meetO a b with | none => false | some s => inS s t) := by
  have e : (inS a t && inS b t) = (aboveO (maxO a.1 b.1) t && belowO (minO a.2 b.2) t) := by
    rw [above_max, below_min]
    unfold inS
    cases aboveO a.1 t <;> cases aboveO b.1 t <;> cases belowO a.2 t <;> cases belowO b.2 t <;> rfl
  rw [e]
  unfold meetO
  by_cases c : crossed (maxO a.1 b.1) (minO a.2 b.2) = true
  · rw [if_pos c]
    exact crossed_in c t
  · rw [if_neg c]
    rfl
theorem above_mov (o : Option Rat) (x f : Rat) : aboveO (movO (negO o) x) f = belowO o (x - f) := by
  cases o with
  | none => rfl
  | some q =>
    simp only [negO, movO, aboveO, belowO]
    congr 1
    exact decide_eq_decide.mpr (by grind)
theorem below_mov (o : Option Rat) (x f : Rat) : belowO (movO (negO o) x) f = aboveO o (x - f) := by
  cases o with
  | none => rfl
  | some q =>
    simp only [negO, movO, aboveO, belowO]
    congr 1
    exact decide_eq_decide.mpr (by grind)
theorem above_mov2 (o : Option Rat) {y z : Rat} (f : Rat) (h : y = -z) : aboveO (movO o y) f = aboveO o (z + f) := by
  cases o with
  | none => rfl
  | some q =>
    simp only [movO, aboveO]
    congr 1
    exact decide_eq_decide.mpr (by grind)
theorem below_mov2 (o : Option Rat) {y z : Rat} (f : Rat) (h : y = -z) : belowO (movO o y) f = belowO o (z + f) := by
  cases o with
  | none => rfl
  | some q =>
    simp only [movO, belowO]
    congr 1
    exact decide_eq_decide.mpr (by grind)
theorem off_in (x y z : Rat) (fo ba : Spn) (f : Rat) (h : y = -z) : (inS fo (x - f) && inS ba (z + f)) = (match offO x y fo ba with | none => false | some s => inS s f) := by
  unfold offO
  rw [← meet_in]
  unfold inS shO
  simp only [above_mov, below_mov, above_mov2 _ f h, below_mov2 _ f h]
  cases aboveO fo.1 (x - f) <;> cases belowO fo.2 (x - f) <;> cases aboveO ba.1 (z + f) <;> cases belowO ba.2 (z + f) <;> rfl
theorem off_ok {x y : Rat} {fo ba s : Spn} (h : offO x y fo ba = some s) : crossed s.1 s.2 = false := by
  unfold offO meetO at h
  split at h
  · cases h
  · rename_i c
    cases h
    simpa using c
/-- both ends known: no end is farther from the plain offset than half the width -/
theorem off_half {x y lo hi : Rat} {s : Spn} (h : offO x y (some lo, some hi) (some lo, some hi) = some s) :
    ∃ l u, s = (some l, some u) ∧ ∀ f, f = l ∨ f = u → ¬ (hi - lo < 2 * ((x + y) / 2 - f)) ∧ ¬ (hi - lo < 2 * (f - (x + y) / 2)) := by
  have c := off_ok h
  unfold offO meetO at h
  split at h
  · cases h
  · simp only [shO, negO, movO, maxO, minO] at h
    obtain rfl := (Option.some.inj h).symm
    refine ⟨_, _, rfl, fun f hf => ?_⟩
    simp only [crossed, decide_eq_false_iff_not] at c
    have e2 : (x + y) / 2 + (x + y) / 2 = x + y := by grind
    generalize (x + y) / 2 = p at e2
    have e3 : ∀ q : Rat, 2 * q = q + q := fun q => by grind
    rw [e3, e3]
    split at hf <;> split at hf <;> rename_i h1 h2 <;> simp only [h1, h2, if_true, if_false] at c <;> rcases hf with rfl | rfl <;> constructor <;> grind
/-! ### sizes and items -/
def itemsO : Spn → List Rat := fun s => s.1.toList ++ s.2.toList
end Vs

namespace Vl
/-! ### laps -/
/-- the six numbers: bound, half, lap, slew, drift, goal -/
structure A6 where
  b : Rat
  h : Rat
  l : Rat
  s : Rat
  d : Rat
def ahead (x : A6) : Rat := x.h + x.d * x.l
def gain (x : A6) : Rat := (x.s - x.d) * x.l
structure Good (x : A6) : Prop where
  b0 : 0 ≤ x.b
  h0 : 0 ≤ x.h
  l0 : 0 < x.l
  s0 : 0 < x.s
  s1 : x.s < 1
  d0 : 0 ≤ x.d
  ds : x.d < x.s
theorem mul_pos' {a b : Rat} (ha : 0 < a) (hb : 0 < b) : 0 < a * b := Rat.mul_pos ha hb
theorem mul_nn {a b : Rat} (ha : 0 ≤ a) (hb : 0 ≤ b) : 0 ≤ a * b := Rat.mul_nonneg ha hb
theorem Good.gp {x : A6} (g : Good x) : 0 < gain x := mul_pos' (by have := g.ds; grind) g.l0
theorem Good.an {x : A6} (g : Good x) : 0 ≤ ahead x := by
  have h1 := g.h0
  have h2 : 0 ≤ x.d * x.l := mul_nn g.d0 (by have := g.l0; grind)
  unfold ahead
  grind
def lapsP (x : A6) (g : Rat) : Option Int := if x.b ≤ g then some 0 else if g < ahead x then none else some (-((g - x.b) / gain x).floor)
def mx (a b : Rat) : Rat := if a < b then b else a
def after (x : A6) (k : Int) : Rat := if k = 0 then x.b else mx (x.b + (k : Rat) * ((x.d - x.s) * x.l)) (ahead x)
def LapsOk (x : A6) (g : Rat) : Option Int → Prop
  | none => g < x.b ∧ g < ahead x
  | some k => 0 ≤ k ∧ k ≤ 1000 ∧ ¬ g < after x k ∧ (0 < k → g < x.b) ∧ (2 ≤ k → g < after x (k - 1))
theorem neg_gain (x : A6) (k : Rat) : k * ((x.d - x.s) * x.l) = - (k * gain x) := by unfold gain; grind
theorem laps_ok {x : A6} {g : Rat} (G : Good x) (top : x.b - g ≤ 1000 * gain x ∨ x.b = 0) : LapsOk x g (lapsP x g) := by
  have gp := G.gp
  have an := G.an
  unfold lapsP
  split
  · rename_i h
    refine ⟨by decide, by decide, ?_, fun z => absurd z (by decide), fun z => absurd z (by decide)⟩
    unfold after
    rw [if_pos rfl]
    exact Rat.not_lt.mpr h
  · rename_i h1
    split
    · rename_i h2
      exact ⟨Rat.not_le.mp h1, h2⟩
    · rename_i h2
      have h1 : g < x.b := Rat.not_le.mp h1
      have h2 : ahead x ≤ g := Rat.not_lt.mp h2
      have top : x.b - g ≤ 1000 * gain x := by
        rcases top with h | h
        · exact h
        · exfalso; grind
      obtain ⟨t, ht⟩ : ∃ t, t = (g - x.b) / gain x := ⟨_, rfl⟩
      have te : t * gain x = g - x.b := by
        rw [ht]
        exact Rat.div_mul_cancel (by grind)
      rw [← ht]
      have f1 := Rat.floor_le t
      have f2 := Rat.lt_floor_add_one t
      obtain ⟨k, hk⟩ : ∃ k : Int, k = -t.floor := ⟨_, rfl⟩
      have ek : ((t.floor : Int) : Rat) = -(k : Rat) := by rw [hk]; push_cast; grind
      have ek1 : ((t.floor + 1 : Int) : Rat) = -(k : Rat) + 1 := by rw [hk]; push_cast; grind
      rw [ek] at f1
      rw [ek1] at f2
      rw [← hk]
      -- k gain between
      have m1 : -(k : Rat) * gain x ≤ t * gain x := Rat.mul_le_mul_of_nonneg_right f1 (by grind)
      have m2 : t * gain x < (-(k : Rat) + 1) * gain x := Rat.mul_lt_mul_of_pos_right f2 gp
      have tneg : t < 0 := by
        by_cases z : t < 0
        · exact z
        · exfalso
          have := mul_nn (Rat.not_lt.mp z) (show (0 : Rat) ≤ gain x by grind)
          grind
      have t1000 : -1000 ≤ t := by
        by_cases z : -1000 ≤ t
        · exact z
        · exfalso
          have := Rat.mul_lt_mul_of_pos_right (Rat.not_le.mp z) gp
          grind
      have k1 : 0 < k := by
        have : (0 : Rat) < (k : Rat) := by grind
        exact_mod_cast this
      have k2 : k ≤ 1000 := by
        have : (k : Rat) < ((1001 : Int) : Rat) := by
          have e : ((1001 : Int) : Rat) = 1001 := rfl
          rw [e]
          grind
        have := Rat.intCast_lt_intCast.mp this
        omega
      have key : x.b - (k : Rat) * gain x ≤ g := by grind
      refine ⟨by omega, k2, ?_, fun _ => h1, fun k3 => ?_⟩
      · unfold after mx
        rw [if_neg (by omega), neg_gain]
        split <;> grind
      · unfold after mx
        rw [if_neg (by omega), neg_gain]
        have e : ((k - 1 : Int) : Rat) = (k : Rat) - 1 := by push_cast; rfl
        rw [e]
        split <;> grind
/-- one lap -/
def nextB (x : A6) (b : Rat) : Rat := x.d * x.l + (if x.h ≤ b - x.s * x.l then b - x.s * x.l else x.h)
theorem next_eq (x : A6) (b : Rat) : nextB x b = mx (b + (1 : Rat) * ((x.d - x.s) * x.l)) (ahead x) := by
  rw [neg_gain]
  unfold nextB mx ahead gain
  split <;> split <;> grind
theorem after_next {x : A6} (G : Good x) (b : Rat) (i : Int) (hi : 0 ≤ i) : nextB x (after { x with b := b } i) = after { x with b := b } (i + 1) := by
  rw [next_eq, neg_gain]
  have gp := G.gp
  have e1 : ahead { x with b := b } = ahead x := rfl
  have e2 : gain { x with b := b } = gain x := rfl
  unfold after
  rw [if_neg (show ¬ i + 1 = 0 by omega)]
  rw [neg_gain, e2, e1]
  have e3 : ((i + 1 : Int) : Rat) = (i : Rat) + 1 := by push_cast; rfl
  rw [e3]
  split
  · rename_i h
    subst h
    simp only [Rat.intCast_zero]
    congr 1
    have := neg_gain x 1
    grind
  · rw [neg_gain, e2]
    unfold mx
    split <;> split <;> split <;> grind
theorem after_le {x : A6} {g : Rat} (G : Good x) (b : Rat) (hb : b ≤ g) (ha : ahead x ≤ g) (i : Int) (hi : 0 ≤ i) : ¬ g < after { x with b := b } i := by
  have gp := G.gp
  have e1 : ahead { x with b := b } = ahead x := rfl
  have e2 : gain { x with b := b } = gain x := rfl
  unfold after mx
  split
  · exact Rat.not_lt.mpr hb
  · rw [neg_gain, e2, e1]
    have : (0 : Rat) ≤ (i : Rat) * gain x := mul_nn (by exact_mod_cast hi) (by grind)
    split <;> grind
theorem after_nn {x : A6} (G : Good x) (k : Int) : 0 ≤ after x k := by
  have := G.an
  have := G.b0
  unfold after mx
  split
  · exact G.b0
  · split <;> grind
end Vl

namespace Vk
open PySem L2 Vm
def top (i : Nat) : Stmt := PySem.Challenge.pw_clockverdict_k01_exact_arithmetic.main.body.getD i (.Pass ⟨0, 0, 0, 0⟩)
variable {P : Program} {w : World} {K : PySem.W.Frag} {mg : Str → Option Value} {base : Heap} {k : Nat} {f f1 f2 f3 f4 f5 f6 f7 f8 f9 : Addr} {fd fd1 fd2 fd3 fd4 fd5 fd6 fd7 fd8 fd9 : FuncData}
/-! ### the law's own rationals -/
def spFrac (K : PySem.W.Frag) : Sp := fun vs H Q _ => ∃ (n d : Int) (b : Nat), vs = [.int n, .int d] ∧ 0 < d ∧ n.natAbs < 2 ^ b ∧ d.natAbs < 2 ^ b ∧ b ≤ 9000 ∧
  ∀ r H', Same H H' → Rq K H' r (mkRat n d.toNat) → Q r H'
abbrev s__law_frac : Stmt := top 58
abbrev N__law_frac : List Str := ["_law_n", "_law_d", "_law_a", "_law_b"]
theorem sc__law_frac : FnScope N__law_frac ["_law_n", "_law_d"] (defScope s__law_frac) := ⟨rfl, rfl, rfl, by decide +kernel, rfl, by decide +kernel, by decide +kernel⟩
abbrev ps__law_frac : List Str := ["_law_n", "_law_d"]
theorem ok_frac (T : Bn mg) (F : Fn K mg "_law_frac" s__law_frac ps__law_frac f fd) : Def P w K mg base (k + 1) "_law_frac" ps__law_frac (spFrac K) f fd := by
  refine ⟨F.F.ok sc__law_frac (fun vs H Q E h => ?_) (fun cdv A outer s H vs Q E hr h => ?_), F.m, F.F.kp, F.b⟩
  · obtain ⟨n, d, b, rfl, _⟩ := h
    rfl
  obtain ⟨n, d, b, rfl, hd, hn, hdb, hb, q⟩ := h
  refine ⟨_, (pss_cons (ps_if (pt_cmpR op_eq (pv 1) pe_int (nomark _))
        (pss_one (ps_ret (pe_tup (pa_cons pe_int (pa_cons pe_int pa_nil)))))
        pss_nil)
      (pss_cons (ps_set (i := 2) sc__law_frac.nd rfl (Or.inl rfl) (pe_callB call_abs (by rfl) T.abs_ (by decide +kernel) (pa_cons (pv 0) pa_nil)))
      (pss_cons (ps_set (i := 3) sc__law_frac.nd rfl (Or.inl rfl) (pe_callB call_abs (by rfl) T.abs_ (by decide +kernel) (pa_cons (pv 1) pa_nil)))
      (pss_cons (ps_while PassesOwn.never (pt_cmpR op_gt (pv 3) pe_int (nomark _))
        (pss_one (ps_par (i := 2) (j := 3) (by rfl) sc__law_frac.nd rfl rfl (by decide) rfl rfl (pa_cons (pv 3) (pa_cons (pe_op op_modN (pe_callTy call_int1 (by rfl) T.int_ (by decide +kernel) (pa_cons (pv 2) pa_nil)) (pv 3)) pa_nil)) (by rfl))))
      (pss_cons (ps_if (pt_cmpR op_lt (pv 1) pe_int (nomark _))
        (pss_one (ps_set (i := 2) sc__law_frac.nd rfl (Or.inl rfl) (pe_op op_sub pe_int (pv 2))))
        pss_nil)
      (pss_one (ps_ret (pe_tup (pa_cons (pe_op op_fdivW (pv 0) (pv 2)) (pa_cons (pe_op op_fdivW (pv 1) (pv 2)) pa_nil)))))))))), ?_⟩
  have b0 : 0 < b := by
    cases b with
    | zero => simp at hdb; omega
    | succ b => exact Nat.succ_pos _
  -- if _law_d == 0
  refine ⟨_, rfl, rfl, _, rfl, ifF (dF fun c => by cases c; omega) ?_⟩
  have ea : ∀ z : Int, (if z < 0 then -z else z) = (z.natAbs : Int) := fun z => by split <;> omega
  refine ⟨_, rfl, _, rfl, _, rfl, _, rfl, (fun m σ H' => ∃ x y : Nat, m = y ∧ σ = [some (.int n), some (.int d), some (.int x), some (.int y)] ∧ H' = H ∧ Nat.gcd x y = Nat.gcd n.natAbs d.natAbs),
    ⟨_, n.natAbs, d.natAbs, rfl, by rw [ea, ea]; rfl, rfl, rfl⟩, ?_⟩
  rintro m σ H' ⟨x, y, em, rfl, rfl, hg⟩
  subst em
  -- while _law_b > 0
  refine ⟨_, rfl, _, _, rfl, rfl, _, rfl, ifD (fun c => ?_) (fun c => ?_)⟩
  · refine ⟨_, fun _ _ z => z, _, rfl, _, rfl, .inl ⟨_, rfl, _, rfl, _, _, rfl, rfl, by omega, _, _, rfl, ?_⟩⟩
    refine ⟨x % m, Nat.mod_lt _ (by omega), m, x % m, rfl, ?_, rfl, ?_⟩
    · show [some (V.int n), some (V.int d), some (V.int (m : Int)), some (V.int ((x : Int).fmod (m : Int)))] = _
      rw [fmod_nat]
    · rw [← hg, Nat.gcd_comm x m, Nat.gcd_rec m x, Nat.gcd_comm]
  have y0 : m = 0 := by omega
  subst y0
  rw [Nat.gcd_zero_right] at hg
  subst hg
  have dn : d.toNat ≠ 0 := by omega
  have gp : 0 < Nat.gcd n.natAbs d.natAbs := Nat.gcd_pos_of_pos_right _ (by omega)
  have gb : (((Nat.gcd n.natAbs d.natAbs : Nat) : Int)).natAbs < 2 ^ b := by
    rw [Int.natAbs_natCast]
    exact Nat.lt_of_le_of_lt (Nat.gcd_le_right _ (by omega)) hdb
  have w : CDivW n ((Nat.gcd n.natAbs d.natAbs : Nat) : Int) := wide_div (by omega) gb b0 (by omega)
  have w2 : CDivW d ((Nat.gcd n.natAbs d.natAbs : Nat) : Int) := wide_div (by omega) gb b0 (by omega)
  have ed : d.toNat = d.natAbs := by omega
  refine ⟨_, rfl, _, _, rfl, rfl, _, rfl, ifF (dF (by omega)) ?_⟩
  refine ⟨_, rfl, _, rfl, _, _, rfl, rfl, w, _, rfl, _, rfl, _, _, rfl, rfl, w2, sz2, fun p hp => ?_⟩
  refine q _ _ (same_new hp _) ⟨p, rfl, SqT.of ?_⟩
  rw [upd_same, mk_num n dn, mk_den n dn, ed]
  congr 4
  have e : d = (d.natAbs : Int) := by omega
  rw [show (((d.natAbs / Nat.gcd n.natAbs d.natAbs : Nat)) : Int) = (d.natAbs : Int) / ((Nat.gcd n.natAbs d.natAbs : Nat) : Int) from Int.natCast_ediv _ _]
  rw [← e]
/-- two rationals in, their f out -/
def spOp2 (K : PySem.W.Frag) (g : Rat → Rat → Rat) : Sp := fun vs H Q _ => ∃ (x y : V) (p q : Rat) (m l : Nat), vs = [x, y] ∧ Rq K H x p ∧ Rq K H y q ∧ Sz m p ∧ Sz l q ∧ m + l + 1 ≤ 9000 ∧
  ∀ r H', Same H H' → Rq K H' r (g p q) → Q r H'
/-- two rationals in, a test of them out -/
def spTest2 (K : PySem.W.Frag) (g : Rat → Rat → V) : Sp := fun vs H Q _ => ∃ (x y : V) (p q : Rat) (m l : Nat), vs = [x, y] ∧ Rq K H x p ∧ Rq K H y q ∧ Sz m p ∧ Sz l q ∧ m + l + 1 ≤ 900000 ∧ Q (g p q) H
theorem mulW {m l : Nat} {i j : Int} (hi : i.natAbs < 2 ^ m) (hj : j.natAbs < 2 ^ l) (h0 : 0 < m) (h1 : 0 < l) (h : m + l ≤ 900000) : CMulW i j := wide_mul hi hj h0 h1 (by omega)
abbrev s__law_plus : Stmt := top 59
abbrev N__law_plus : List Str := ["_law_a", "_law_b"]
theorem sc__law_plus : FnScope N__law_plus ["_law_a", "_law_b"] (defScope s__law_plus) := ⟨rfl, rfl, rfl, by decide +kernel, rfl, by decide +kernel, by decide +kernel⟩
abbrev ps__law_plus : List Str := ["_law_a", "_law_b"]
theorem ok_plus (F : Fn K mg "_law_plus" s__law_plus ps__law_plus f fd) (d_law_frac : Def P w K mg base k "_law_frac" ["_law_n", "_law_d"] (spFrac K) f1 fd1) : Def P w K mg base (k + 1) "_law_plus" ps__law_plus (spOp2 K (· + ·)) f fd := by
  refine ⟨F.F.ok sc__law_plus (fun vs H Q E h => ?_) (fun cdv A outer s H vs Q E hr h => ?_), F.m, F.F.kp, F.b⟩
  · obtain ⟨x, y, p, q, m, l, rfl, _⟩ := h
    rfl
  obtain ⟨x, y, p, q, m, l, rfl, ⟨a, rfl, ha⟩, ⟨b, rfl, hb⟩, zp, zq, hm, z⟩ := h
  have m0 := nn zp
  have l0 := nn zq
  refine ⟨_, (pss_one (ps_ret (pcall d_law_frac hr (pa_cons (pe_op op_add (pe_op op_mulW (pe_ix ix_tup (pv 0) pe_int (fun _ _ => rfl)) (pe_ix ix_tup (pv 1) pe_int (fun _ _ => rfl))) (pe_op op_mulW (pe_ix ix_tup (pv 1) pe_int (fun _ _ => rfl)) (pe_ix ix_tup (pv 0) pe_int (fun _ _ => rfl)))) (pa_cons (pe_op op_mulW (pe_ix ix_tup (pv 0) pe_int (fun _ _ => rfl)) (pe_ix ix_tup (pv 1) pe_int (fun _ _ => rfl))) pa_nil))))), ?_⟩
  refine ⟨_, rfl, a, _, _, _, rfl, rfl, ha, at0 rfl, _, rfl, b, _, _, _, rfl, rfl, hb, at1 rfl, _, _, rfl, rfl, mulW zp.1 (dA zq) m0 l0 (by omega), ?_⟩
  refine ⟨_, rfl, b, _, _, _, rfl, rfl, hb, at0 rfl, _, rfl, a, _, _, _, rfl, rfl, ha, at1 rfl, _, _, rfl, rfl, mulW zq.1 (dA zp) l0 m0 (by omega), _, _, rfl, rfl, ?_⟩
  refine ⟨_, rfl, a, _, _, _, rfl, rfl, ha, at1 rfl, _, rfl, b, _, _, _, rfl, rfl, hb, at1 rfl, _, _, rfl, rfl, mulW (dA zp) (dA zq) m0 l0 (by omega), ?_⟩
  refine ⟨_, _, m + l + 1, rfl, dd_pos p q, ab_add (ab_mul zp.1 (dA zq)) (ab_up (ab_mul zq.1 (dA zp)) (by omega)), ab_up (ab_mul (dA zp) (dA zq)) (by omega), by omega, fun r H' e hr => z r H' e ?_⟩
  rw [mk_add] at hr
  exact hr
abbrev s__law_minus : Stmt := top 60
abbrev N__law_minus : List Str := ["_law_a", "_law_b"]
theorem sc__law_minus : FnScope N__law_minus ["_law_a", "_law_b"] (defScope s__law_minus) := ⟨rfl, rfl, rfl, by decide +kernel, rfl, by decide +kernel, by decide +kernel⟩
abbrev ps__law_minus : List Str := ["_law_a", "_law_b"]
theorem ok_minus (F : Fn K mg "_law_minus" s__law_minus ps__law_minus f fd) (d_law_frac : Def P w K mg base k "_law_frac" ["_law_n", "_law_d"] (spFrac K) f1 fd1) : Def P w K mg base (k + 1) "_law_minus" ps__law_minus (spOp2 K (· - ·)) f fd := by
  refine ⟨F.F.ok sc__law_minus (fun vs H Q E h => ?_) (fun cdv A outer s H vs Q E hr h => ?_), F.m, F.F.kp, F.b⟩
  · obtain ⟨x, y, p, q, m, l, rfl, _⟩ := h
    rfl
  obtain ⟨x, y, p, q, m, l, rfl, ⟨a, rfl, ha⟩, ⟨b, rfl, hb⟩, zp, zq, hm, z⟩ := h
  have m0 := nn zp
  have l0 := nn zq
  refine ⟨_, (pss_one (ps_ret (pcall d_law_frac hr (pa_cons (pe_op op_sub (pe_op op_mulW (pe_ix ix_tup (pv 0) pe_int (fun _ _ => rfl)) (pe_ix ix_tup (pv 1) pe_int (fun _ _ => rfl))) (pe_op op_mulW (pe_ix ix_tup (pv 1) pe_int (fun _ _ => rfl)) (pe_ix ix_tup (pv 0) pe_int (fun _ _ => rfl)))) (pa_cons (pe_op op_mulW (pe_ix ix_tup (pv 0) pe_int (fun _ _ => rfl)) (pe_ix ix_tup (pv 1) pe_int (fun _ _ => rfl))) pa_nil))))), ?_⟩
  refine ⟨_, rfl, a, _, _, _, rfl, rfl, ha, at0 rfl, _, rfl, b, _, _, _, rfl, rfl, hb, at1 rfl, _, _, rfl, rfl, mulW zp.1 (dA zq) m0 l0 (by omega), ?_⟩
  refine ⟨_, rfl, b, _, _, _, rfl, rfl, hb, at0 rfl, _, rfl, a, _, _, _, rfl, rfl, ha, at1 rfl, _, _, rfl, rfl, mulW zq.1 (dA zp) l0 m0 (by omega), _, _, rfl, rfl, ?_⟩
  refine ⟨_, rfl, a, _, _, _, rfl, rfl, ha, at1 rfl, _, rfl, b, _, _, _, rfl, rfl, hb, at1 rfl, _, _, rfl, rfl, mulW (dA zp) (dA zq) m0 l0 (by omega), ?_⟩
  refine ⟨_, _, m + l + 1, rfl, dd_pos p q, ab_sub (ab_mul zp.1 (dA zq)) (ab_up (ab_mul zq.1 (dA zp)) (by omega)), ab_up (ab_mul (dA zp) (dA zq)) (by omega), by omega, fun r H' e hr => z r H' e ?_⟩
  rw [mk_sub] at hr
  exact hr
/-! ### the program's rationals -/
def sg (p q : Rat) : Int := if p = q then 0 else if p < q then -1 else 1
abbrev s_compare : Stmt := top 44
abbrev N_compare : List Str := ["a", "b", "left", "right"]
theorem sc_compare : FnScope N_compare ["a", "b"] (defScope s_compare) := ⟨rfl, rfl, rfl, by decide +kernel, rfl, by decide +kernel, by decide +kernel⟩
abbrev ps_compare : List Str := ["a", "b"]
theorem ok_compare (F : Fn K mg "compare" s_compare ps_compare f fd) : Def P w K mg base (k + 1) "compare" ps_compare (spTest2 K fun p q => .int (sg p q)) f fd := by
  refine ⟨F.F.ok sc_compare (fun vs H Q E h => ?_) (fun cdv A outer s H vs Q E hr h => ?_), F.m, F.F.kp, F.b⟩
  · obtain ⟨x, y, p, q, m, l, rfl, _⟩ := h
    rfl
  obtain ⟨x, y, p, q, m, l, rfl, ⟨a, rfl, ha⟩, ⟨b, rfl, hb⟩, zp, zq, hm, z⟩ := h
  have m0 := nn zp
  have l0 := nn zq
  refine ⟨_, (pss_cons (ps_set (i := 2) sc_compare.nd rfl (Or.inl rfl) (pe_op op_mulW (pe_ix ix_tup (pv 0) pe_int (fun _ _ => rfl)) (pe_ix ix_tup (pv 1) pe_int (fun _ _ => rfl))))
      (pss_cons (ps_set (i := 3) sc_compare.nd rfl (Or.inl rfl) (pe_op op_mulW (pe_ix ix_tup (pv 1) pe_int (fun _ _ => rfl)) (pe_ix ix_tup (pv 0) pe_int (fun _ _ => rfl))))
      (pss_cons (ps_if (pt_cmpR op_eq (pv 2) (pv 3) (nomark _))
        (pss_one (ps_ret pe_int))
        pss_nil)
      (pss_one (ps_ret (pe_ifExp (pt_cmpR op_lt (pv 2) (pv 3) (nomark _)) (pe_un un_neg pe_int) pe_int)))))), ?_⟩
  refine ⟨_, rfl, a, _, _, _, rfl, rfl, ha, at0 rfl, _, rfl, b, _, _, _, rfl, rfl, hb, at1 rfl, _, _, rfl, rfl, mulW zp.1 (dA zq) m0 l0 (by omega), ?_⟩
  refine ⟨_, rfl, b, _, _, _, rfl, rfl, hb, at0 rfl, _, rfl, a, _, _, _, rfl, rfl, ha, at1 rfl, _, _, rfl, rfl, mulW zq.1 (dA zp) l0 m0 (by omega), ?_⟩
  refine ⟨_, rfl, _, rfl, rfl, _, rfl, ifD (fun c => ?_) (fun c => ?_)⟩
  · have e : p = q := eq_num.mpr (V.int.inj c)
    have z' : Q (.int (sg p q)) H := z
    unfold sg at z'
    rw [if_pos e] at z'
    exact z'
  · have e : ¬ p = q := fun e => c (congrArg V.int (eq_num.mp e))
    have z' : Q (.int (sg p q)) H := z
    unfold sg at z'
    rw [if_neg e] at z'
    refine ⟨_, rfl, _, rfl, _, _, rfl, rfl, _, rfl, ifD (fun c => ?_) (fun c => ?_)⟩
    · rw [if_pos (lt_num.mpr c)] at z'
      exact ⟨_, rfl, z'⟩
    · rw [if_neg (fun e => c (lt_num.mp e))] at z'
      exact z'
abbrev s_negate : Stmt := top 41
abbrev N_negate : List Str := ["a"]
theorem sc_negate : FnScope N_negate ["a"] (defScope s_negate) := ⟨rfl, rfl, rfl, by decide +kernel, rfl, by decide +kernel, by decide +kernel⟩
abbrev ps_negate : List Str := ["a"]
def spOp1 (K : PySem.W.Frag) (g : Rat → Rat) : Sp := fun vs H Q _ => ∃ (x : V) (p : Rat), vs = [x] ∧ Rq K H x p ∧ ∀ r H', Same H H' → Rq K H' r (g p) → Q r H'
theorem ok_negate (F : Fn K mg "negate" s_negate ps_negate f fd) : Def P w K mg base (k + 1) "negate" ps_negate (spOp1 K fun p => -p) f fd := by
  refine ⟨F.F.ok sc_negate (fun vs H Q E h => ?_) (fun cdv A outer s H vs Q E hr h => ?_), F.m, F.F.kp, F.b⟩
  · obtain ⟨x, p, rfl, _⟩ := h
    rfl
  obtain ⟨x, p, rfl, ⟨a, rfl, ha⟩, z⟩ := h
  refine ⟨_, (pss_one (ps_ret (pe_tup (pa_cons (pe_un un_neg (pe_ix ix_tup (pv 0) pe_int (fun _ _ => rfl))) (pa_cons (pe_ix ix_tup (pv 0) pe_int (fun _ _ => rfl)) pa_nil))))), ?_⟩
  refine ⟨_, rfl, a, _, _, _, rfl, rfl, ha, at0 rfl, _, rfl, _, rfl, a, _, _, _, rfl, rfl, ha, at1 rfl, sz2, fun r hr' => ?_⟩
  exact z _ _ (same_new hr' _) ⟨r, rfl, SqT.of upd_same⟩
abbrev s_add : Stmt := top 38
abbrev N_add : List Str := ["a", "b", "common", "factor", "n", "rest"]
theorem sc_add : FnScope N_add ["a", "b"] (defScope s_add) := ⟨rfl, rfl, rfl, by decide +kernel, rfl, by decide +kernel, by decide +kernel⟩
abbrev ps_add : List Str := ["a", "b"]
theorem ok_add (T : Bn mg) (F : Fn K mg "add" s_add ps_add f fd) : Def P w K mg base (k + 1) "add" ps_add (spOp2 K (· + ·)) f fd := by
  refine ⟨F.F.ok sc_add (fun vs H Q E h => ?_) (fun cdv A outer s H vs Q E hr h => ?_), F.m, F.F.kp, F.b⟩
  · obtain ⟨x, y, p, q, m, l, rfl, _⟩ := h
    rfl
  obtain ⟨x, y, p, q, m, l, rfl, ⟨a, rfl, ha⟩, ⟨b, rfl, hb⟩, zp, zq, hm, z⟩ := h
  have m0 := nn zp
  have l0 := nn zq
  refine ⟨_, (pss_cons (ps_set (i := 2) sc_add.nd rfl (Or.inl rfl) (pe_callBfun cr_gcd (by rfl) T.gcd_ (pa_cons (pe_ix ix_tup (pv 0) pe_int (fun _ _ => rfl)) (pa_cons (pe_ix ix_tup (pv 1) pe_int (fun _ _ => rfl)) pa_nil))))
      (pss_cons (ps_set (i := 3) sc_add.nd rfl (Or.inl rfl) (pe_op op_fdivW (pe_ix ix_tup (pv 1) pe_int (fun _ _ => rfl)) (pv 2)))
      (pss_cons (ps_set (i := 4) sc_add.nd rfl (Or.inl rfl) (pe_op op_add (pe_op op_mulW (pe_ix ix_tup (pv 0) pe_int (fun _ _ => rfl)) (pv 3)) (pe_op op_mulW (pe_ix ix_tup (pv 1) pe_int (fun _ _ => rfl)) (pe_op op_fdivW (pe_ix ix_tup (pv 0) pe_int (fun _ _ => rfl)) (pv 2)))))
      (pss_cons (ps_set (i := 5) sc_add.nd rfl (Or.inl rfl) (pe_callBfun cr_gcd (by rfl) T.gcd_ (pa_cons (pv 4) (pa_cons (pv 2) pa_nil))))
      (pss_one (ps_ret (pe_tup (pa_cons (pe_op op_fdivW (pv 4) (pv 5)) (pa_cons (pe_op op_mulW (pe_op op_fdivW (pe_ix ix_tup (pv 0) pe_int (fun _ _ => rfl)) (pv 5)) (pv 3)) pa_nil))))))))), ?_⟩
  have gp : 0 < Nat.gcd p.den q.den := Nat.gcd_pos_of_pos_left _ p.den_pos
  have gb : (((Nat.gcd p.den q.den : Nat) : Int)).natAbs < 2 ^ m := Nat.lt_of_le_of_lt (Nat.gcd_le_left _ p.den_pos) zp.2
  have wg : ∀ x : Int, CDivW x ((Nat.gcd p.den q.den : Nat) : Int) := fun x => wide_div (by omega) gb m0 (by omega)
  have fb : (((q.den / Nat.gcd p.den q.den : Nat)) : Int).natAbs < 2 ^ l := Nat.lt_of_le_of_lt (Nat.div_le_self _ _) zq.2
  have hb' : (((p.den / Nat.gcd p.den q.den : Nat)) : Int).natAbs < 2 ^ m := Nat.lt_of_le_of_lt (Nat.div_le_self _ _) zp.2
  refine ⟨_, rfl, a, _, _, _, rfl, rfl, ha, at1 rfl, _, rfl, b, _, _, _, rfl, rfl, hb, at1 rfl, _, _, rfl, ?_⟩
  -- factor; n
  refine ⟨_, rfl, b, _, _, _, rfl, rfl, hb, at1 rfl, _, rfl, _, _, rfl, rfl, wg _, ?_⟩
  refine ⟨_, rfl, a, _, _, _, rfl, rfl, ha, at0 rfl, _, rfl, _, _, rfl, rfl, mulW zp.1 fb m0 l0 (by omega), ?_⟩
  refine ⟨_, rfl, b, _, _, _, rfl, rfl, hb, at0 rfl, _, rfl, a, _, _, _, rfl, rfl, ha, at1 rfl, _, rfl, _, _, rfl, rfl, wg _, _, _, rfl, rfl, mulW zq.1 hb' l0 m0 (by omega), _, _, rfl, rfl, ?_⟩
  -- rest
  refine ⟨_, rfl, _, rfl, _, _, rfl, ?_⟩
  obtain ⟨n, en⟩ : ∃ n : Int, n = p.num * ((q.den / Nat.gcd p.den q.den : Nat) : Int) + q.num * ((p.den / Nat.gcd p.den q.den : Nat) : Int) := ⟨_, rfl⟩
  obtain ⟨r, er⟩ : ∃ r : Nat, r = Nat.gcd n.natAbs (Nat.gcd p.den q.den) := ⟨_, rfl⟩
  have A := add_parts p q _ _ n r rfl rfl en er
  have rp : 0 < r := by rw [er]; exact Nat.gcd_pos_of_pos_right _ gp
  have rb : ((r : Nat) : Int).natAbs < 2 ^ m := by rw [er]; exact Nat.lt_of_le_of_lt (Nat.gcd_le_right _ gp) gb
  have wr : ∀ x : Int, CDivW x (r : Int) := fun x => wide_div (by omega) rb m0 (by omega)
  have db : (((p.den / r : Nat)) : Int).natAbs < 2 ^ m := Nat.lt_of_le_of_lt (Nat.div_le_self _ _) zp.2
  have en' : (fun i j : Int => i + j) ((fun i j : Int => i * j) p.num ((q.den : Int) / ((Nat.gcd p.den q.den : Nat) : Int))) ((fun i j : Int => i * j) q.num ((p.den : Int) / ((Nat.gcd p.den q.den : Nat) : Int))) = n := en.symm
  suffices hz : ∀ n' : Int, n' = n → ∀ r' : Int, r' = (r : Int) → tRet (tTup (tCons (tOp (rI CDivW fun i j => V.int (i / j)) (tVar 4) (tVar 5)) (tCons (tOp (rI CMulW fun i j => V.int (i * j)) (tOp (rI CDivW fun i j => V.int (i / j)) (tOp (rIxT K) (tVar 0) (tC (V.int 1))) (tVar 5)) (tVar 3)) tNil)))
      { nx := fun _ H' => Q V.non H', rt := Q } [some (.ref a), some (.ref b), some (.int ((Nat.gcd p.den q.den : Nat) : Int)), some (.int ((q.den / Nat.gcd p.den q.den : Nat) : Int)), some (.int n'), some (.int r')] H from hz _ en' _ (by rw [er, ← en']; rfl)
  rintro n' e1 r' e2
  subst e1 e2
  refine ⟨_, rfl, _, rfl, _, _, rfl, rfl, wr _, _, rfl, a, _, _, _, rfl, rfl, ha, at1 rfl, _, rfl, _, _, rfl, rfl, wr _, _, rfl, _, _, rfl, rfl, mulW db fb m0 l0 (by omega), sz2, fun t ht => ?_⟩
  refine z _ _ (same_new ht _) ⟨t, rfl, SqT.of ?_⟩
  rw [upd_same]
  show some (HO.tup [V.int (n' / (r : Int)), V.int (((p.den / r : Nat) : Int) * ((q.den / Nat.gcd p.den q.den : Nat) : Int))]) = some (HO.tup [V.int (p + q).num, V.int ((p + q).den : Int)])
  rw [A.1, A.2]
  rfl
abbrev s_subtract : Stmt := top 39
abbrev N_subtract : List Str := ["a", "b"]
theorem sc_subtract : FnScope N_subtract ["a", "b"] (defScope s_subtract) := ⟨rfl, rfl, rfl, by decide +kernel, rfl, by decide +kernel, by decide +kernel⟩
abbrev ps_subtract : List Str := ["a", "b"]
theorem ok_subtract (F : Fn K mg "subtract" s_subtract ps_subtract f fd) (dadd : Def P w K mg base k "add" ["a", "b"] (spOp2 K (· + ·)) f1 fd1) (dnegate : Def P w K mg base k "negate" ["a"] (spOp1 K fun p => -p) f2 fd2) :
    Def P w K mg base (k + 1) "subtract" ps_subtract (spOp2 K (· - ·)) f fd := by
  refine ⟨F.F.ok sc_subtract (fun vs H Q E h => ?_) (fun cdv A outer s H vs Q E hr h => ?_), F.m, F.F.kp, F.b⟩
  · obtain ⟨x, y, p, q, m, l, rfl, _⟩ := h
    rfl
  obtain ⟨x, y, p, q, m, l, rfl, ha, hb, zp, zq, hm, z⟩ := h
  refine ⟨_, (pss_one (ps_ret (pcall dadd hr (pa_cons (pv 0) (pa_cons (pcall dnegate hr (pa_cons (pv 1) pa_nil)) pa_nil))))), ?_⟩
  refine ⟨_, rfl, _, rfl, _, q, rfl, hb, fun r H' e hr' => ?_⟩
  refine ⟨_, _, p, -q, m, l, rfl, ha.same e, hr', zp, zq.neg, hm, fun r2 H2 e2 hr2 => z _ _ (e.trans e2) ?_⟩
  show Rq K H2 r2 (p - q)
  rw [Rat.sub_eq_add_neg]
  exact hr2
/-- rational(n, d) where d is above zero; its second argument is always written -/
abbrev s_rational : Stmt := top 37
abbrev N_rational : List Str := ["n", "d", "common"]
theorem sc_rational : FnScope N_rational ["n", "d"] (defScope s_rational) := ⟨rfl, rfl, rfl, by decide +kernel, rfl, by decide +kernel, by decide +kernel⟩
abbrev ps_rational : List Str := ["n", "d"]
theorem ok_rational (T : Bn mg) (F : FunA K "rational" "rational" s_rational f fd) (hm : mg "rational" = some (.ref f)) (hb : Binds K fd ps_rational []) : Def P w K mg base (k + 1) "rational" ps_rational (spFrac K) f fd := by
  refine ⟨F.ok sc_rational (fun vs H Q E h => ?_) (fun cdv A outer s H vs Q E hr h => ?_), hm, F.kp, hb⟩
  · obtain ⟨n, d, b, rfl, _⟩ := h
    rfl
  obtain ⟨n, d, b, rfl, hd, hn, hdb, hb, q⟩ := h
  refine ⟨_, (pss_cons (ps_if (pt_cmpR op_eq (pv 1) pe_int (nomark _))
        (pss_one ps_never)
        pss_nil)
      (pss_cons (ps_set (i := 2) sc_rational.nd rfl (Or.inl rfl) (pe_callBfun cr_gcd (by rfl) T.gcd_ (pa_cons (pv 0) (pa_cons (pv 1) pa_nil))))
      (pss_cons (ps_if (pt_cmpR op_lt (pv 1) pe_int (nomark _))
        (pss_one (ps_set (i := 2) sc_rational.nd rfl (Or.inl rfl) (pe_un un_neg (pv 2))))
        pss_nil)
      (pss_one (ps_ret (pe_tup (pa_cons (pe_op op_fdivW (pv 0) (pv 2)) (pa_cons (pe_op op_fdivW (pv 1) (pv 2)) pa_nil)))))))), ?_⟩
  have b0 : 0 < b := by
    cases b with
    | zero => simp at hdb; omega
    | succ b => exact Nat.succ_pos _
  have dn : d.toNat ≠ 0 := by omega
  have gp : 0 < Nat.gcd n.natAbs d.natAbs := Nat.gcd_pos_of_pos_right _ (by omega)
  have gb : (((Nat.gcd n.natAbs d.natAbs : Nat) : Int)).natAbs < 2 ^ b := by
    rw [Int.natAbs_natCast]
    exact Nat.lt_of_le_of_lt (Nat.gcd_le_right _ (by omega)) hdb
  have w : ∀ x : Int, CDivW x ((Nat.gcd n.natAbs d.natAbs : Nat) : Int) := fun x => wide_div (by omega) gb b0 (by omega)
  have ed : d.toNat = d.natAbs := by omega
  refine ⟨_, rfl, rfl, _, rfl, ifF (dF fun c => by cases c; omega) ?_⟩
  refine ⟨_, rfl, _, rfl, _, _, rfl, ?_⟩
  refine ⟨_, rfl, _, _, rfl, rfl, _, rfl, ifF (dF (by omega)) ?_⟩
  refine ⟨_, rfl, _, rfl, _, _, rfl, rfl, w _, _, rfl, _, rfl, _, _, rfl, rfl, w _, sz2, fun p hp => ?_⟩
  refine q _ _ (same_new hp _) ⟨p, rfl, SqT.of ?_⟩
  rw [upd_same, mk_num n dn, mk_den n dn, ed]
  congr 4
  have e : d = (d.natAbs : Int) := by omega
  rw [show (((d.natAbs / Nat.gcd n.natAbs d.natAbs : Nat)) : Int) = (d.natAbs : Int) / ((Nat.gcd n.natAbs d.natAbs : Nat) : Int) from Int.natCast_ediv _ _]
  rw [← e]
abbrev s_divide : Stmt := top 42
abbrev N_divide : List Str := ["a", "b"]
theorem sc_divide : FnScope N_divide ["a", "b"] (defScope s_divide) := ⟨rfl, rfl, rfl, by decide +kernel, rfl, by decide +kernel, by decide +kernel⟩
abbrev ps_divide : List Str := ["a", "b"]
def spDiv (K : PySem.W.Frag) : Sp := fun vs H Q _ => ∃ (x y : V) (p q : Rat) (m l : Nat), vs = [x, y] ∧ Rq K H x p ∧ Rq K H y q ∧ Sz m p ∧ Sz l q ∧ m + l + 1 ≤ 9000 ∧ 0 < q ∧ ∀ r H', Same H H' → Rq K H' r (p / q) → Q r H'
theorem ok_divide (F : Fn K mg "divide" s_divide ps_divide f fd) (drational : Def P w K mg base k "rational" ["n", "d"] (spFrac K) f1 fd1) : Def P w K mg base (k + 1) "divide" ps_divide (spDiv K) f fd := by
  refine ⟨F.F.ok sc_divide (fun vs H Q E h => ?_) (fun cdv A outer s H vs Q E hr h => ?_), F.m, F.F.kp, F.b⟩
  · obtain ⟨x, y, p, q, m, l, rfl, _⟩ := h
    rfl
  obtain ⟨x, y, p, q, m, l, rfl, ⟨a, rfl, ha⟩, ⟨b, rfl, hb⟩, zp, zq, hm, q0, z⟩ := h
  have m0 := nn zp
  have l0 := nn zq
  have hn := num_pos q0
  refine ⟨_, (pss_one (ps_ret (pcall drational hr (pa_cons (pe_op op_mulW (pe_ix ix_tup (pv 0) pe_int (fun _ _ => rfl)) (pe_ix ix_tup (pv 1) pe_int (fun _ _ => rfl))) (pa_cons (pe_op op_mulW (pe_ix ix_tup (pv 0) pe_int (fun _ _ => rfl)) (pe_ix ix_tup (pv 1) pe_int (fun _ _ => rfl))) pa_nil))))), ?_⟩
  refine ⟨_, rfl, a, _, _, _, rfl, rfl, ha, at0 rfl, _, rfl, b, _, _, _, rfl, rfl, hb, at1 rfl, _, _, rfl, rfl, mulW zp.1 (dA zq) m0 l0 (by omega), ?_⟩
  refine ⟨_, rfl, a, _, _, _, rfl, rfl, ha, at1 rfl, _, rfl, b, _, _, _, rfl, rfl, hb, at0 rfl, _, _, rfl, rfl, mulW (dA zp) zq.1 m0 l0 (by omega), ?_⟩
  refine ⟨_, _, m + l, rfl, Int.mul_pos (by have := p.den_pos; omega) hn, ab_mul zp.1 (dA zq), ab_mul (dA zp) zq.1, by omega, fun r H' e hr => z r H' e ?_⟩
  have e2 : ((p.den : Int) * q.num).toNat = p.den * q.num.toNat := by
    have e3 : q.num = (q.num.toNat : Int) := by omega
    rw [e3, tn]
    rfl
  rw [e2, ← div_mk p q q0] at hr
  exact hr
end Vk
namespace Vk
open PySem L2 Vm
variable {l : Addr} {P : Program} {w : World} {K : PySem.W.Frag} {mg : Str → Option Value} {base : Heap} {k : Nat} {f f1 f2 f3 f4 f5 f6 f7 f8 f9 : Addr} {fd fd1 fd2 fd3 fd4 fd5 fd6 fd7 fd8 fd9 : FuncData}
abbrev s__law_store : Stmt := top 50
abbrev N__law_store : List Str := ["_law_script"]
theorem sc__law_store : FnScope N__law_store ["_law_script"] (defScope s__law_store) := ⟨rfl, rfl, rfl, by decide +kernel, rfl, by decide +kernel, by decide +kernel⟩
abbrev ps__law_store : List Str := ["_law_script"]
def spStore (K : PySem.W.Frag) : Sp := fun vs H Q _ => ∃ (a : Addr) (ns : List Int), vs = [.ref a] ∧ SqL K H a (ns.map V.int) ∧ ns.length ≤ 63 ∧ ∀ (s l : Addr) H', Same H H' → H s = none → Sto l s H' → Q (.ref s) H'
theorem ok_store (T : Bn mg) (F : Fn K mg "_law_store" s__law_store ps__law_store f fd) : Def P w K mg base (k + 1) "_law_store" ps__law_store (spStore K) f fd := by
  refine ⟨F.F.ok sc__law_store (fun vs H Q E h => ?_) (fun cdv A outer s H vs Q E hr h => ?_), F.m, F.F.kp, F.b⟩
  · obtain ⟨a, ns, rfl, _⟩ := h
    rfl
  obtain ⟨a, ns, rfl, ha, hl, z⟩ := h
  refine ⟨_, (pss_one (ps_ret (pe_lst (pa_cons (pe_callTy call_list_of (by rfl) T.list_ (by decide +kernel) (pa_cons (pv 0) pa_nil)) (pa_cons pe_int (pa_cons pe_int (pa_cons pe_int (pa_cons pe_int (pa_cons pe_int pa_nil))))))))), ?_⟩
  refine ⟨_, rfl, a, _, rfl, .inl ha, fun l l0 => ?_⟩
  refine ⟨sm6, fun p p0 => ?_⟩
  have lp : l ≠ p := fun e => by rw [e, upd_same] at p0; cases p0
  have e1 : Same H (upd H l (.lst (ns.map V.int))) := same_new l0 _
  refine z _ l _ (e1.trans (same_new p0 _)) (e1.free p0) ⟨ns, 0, 0, 1, 0, 0, upd_same, lp, ?_, hl, by omega, by omega, by omega, by omega⟩
  rw [upd_ne lp, upd_same]
abbrev s__law_mixed : Stmt := top 52
abbrev N__law_mixed : List Str := ["_law_store_here"]
theorem sc__law_mixed : FnScope N__law_mixed ["_law_store_here"] (defScope s__law_mixed) := ⟨rfl, rfl, rfl, by decide +kernel, rfl, by decide +kernel, by decide +kernel⟩
abbrev ps__law_mixed : List Str := ["_law_store_here"]
def spMixed (K : PySem.W.Frag) (l : Addr) : Sp := fun vs H Q _ => ∃ (s : Addr), vs = [.ref s] ∧ Sto l s H ∧ ∀ (r : Int) H', 0 ≤ r → r < 1000000009 → Sto l s H' → Fr s H H' → Q (.int r) H'
theorem ok_mixed (T : Bn mg) (F : Fn K mg "_law_mixed" s__law_mixed ps__law_mixed f fd) : Def P w K mg base (k + 1) "_law_mixed" ps__law_mixed (spMixed K l) f fd := by
  refine ⟨F.F.ok sc__law_mixed (fun vs H Q E h => ?_) (fun cdv A outer s H vs Q E hr h => ?_), F.m, F.F.kp, F.b⟩
  · obtain ⟨a, rfl, _⟩ := h
    rfl
  obtain ⟨s, rfl, ⟨ns, pos, num, seed, hold, cnt, h1, h2, h3, h4, h5, h6, h7, h8⟩, z⟩ := h
  refine ⟨_, (pss_cons (ps_asg (pe_op op_add (pe_ix ix_list (pv 0) pe_int (fun _ _ => rfl)) pe_int) (pg_sub (pv 0) pe_int set_list))
      (pss_cons (ps_asg (pe_op op_mod (pe_callTy call_int1 (by rfl) T.int_ (by decide +kernel) (pa_cons (pe_op op_add (pe_op op_add (pe_op op_mul (pe_ix ix_list (pv 0) pe_int (fun _ _ => rfl)) pe_int) (pe_op op_mul (pe_ix ix_list (pv 0) pe_int (fun _ _ => rfl)) pe_int)) pe_int) pa_nil)) pe_int) (pg_sub (pv 0) pe_int set_list))
      (pss_one (ps_ret (pe_op op_mod (pe_callTy call_int1 (by rfl) T.int_ (by decide +kernel) (pa_cons (pe_op op_add (pe_op op_mul (pe_ix ix_list (pv 0) pe_int (fun _ _ => rfl)) pe_int) (pe_op op_fdiv (pe_ix ix_list (pv 0) pe_int (fun _ _ => rfl)) pe_int)) pa_nil)) pe_int))))), ?_⟩
  refine ⟨_, rfl, s, _, _, _, rfl, rfl, SqL.of h1, atI_nat (j := 5) rfl, _, _, rfl, rfl, _, rfl, s, _, _, _, rfl, rfl, h1, rfl, ?_⟩
  refine ⟨_, rfl, s, _, _, _, rfl, rfl, SqL.of upd_same, atI_nat (j := 3) rfl, _, _, rfl, rfl, .inr ⟨by decide, by decide⟩, ?_⟩
  refine ⟨_, rfl, s, _, _, _, rfl, rfl, SqL.of upd_same, atI_nat (j := 5) rfl, _, _, rfl, rfl, .inr ⟨by decide, by decide⟩, _, _, rfl, rfl, ?_⟩
  refine ⟨_, _, rfl, rfl, .inl ⟨_, rfl, _, _, rfl, rfl, (by show (0 : Int) < 1000000007; decide), _, rfl, s, _, _, _, rfl, rfl, upd_same, rfl, ?_⟩⟩
  refine ⟨_, rfl, s, _, _, _, rfl, rfl, SqL.of upd_same, atI_nat (j := 3) rfl, _, _, rfl, rfl, .inr ⟨by decide, by decide⟩, ?_⟩
  refine ⟨_, rfl, s, _, _, _, rfl, rfl, SqL.of upd_same, atI_nat (j := 3) rfl, _, _, rfl, rfl, ⟨by decide, by decide⟩, _, _, rfl, rfl, .inl ⟨_, rfl, _, _, rfl, rfl, (by show (0 : Int) < 1000000009; decide), ?_⟩⟩
  have e2 : ∀ o1 o2, Fr s H (upd (upd H s o1) s o2) := fun _ _ => (Fr.upd _).trans (Fr.upd _)
  exact z _ _ (Int.emod_nonneg _ (by decide)) (Int.emod_lt_of_pos _ (by decide)) ⟨ns, pos, num, _, hold, _, upd_same, h2, (e2 _ _) _ _ h3 h2, h4, h5, h6, Int.emod_nonneg _ (by decide), Int.emod_lt_of_pos _ (by decide)⟩ (e2 _ _)
abbrev s__law_feed : Stmt := top 51
abbrev N__law_feed : List Str := ["_law_store_here", "_law_cell"]
theorem sc__law_feed : FnScope N__law_feed ["_law_store_here"] (defScope s__law_feed) := ⟨rfl, rfl, rfl, by decide +kernel, rfl, by decide +kernel, by decide +kernel⟩
abbrev ps__law_feed : List Str := ["_law_store_here"]
def spFeed (K : PySem.W.Frag) (l : Addr) : Sp := fun vs H Q _ => ∃ (s : Addr) (ns : List Int) (pos num seed hold cnt : Int), vs = [.ref s] ∧ H s = some (.lst [.ref l, .int pos, .int num, .int seed, .int hold, .int cnt]) ∧ l ≠ s ∧ H l = some (.lst (ns.map V.int)) ∧ ns.length ≤ 63 ∧ 0 ≤ pos ∧ 0 ≤ num ∧ 0 ≤ seed ∧ seed < 1000000007 ∧ pos < (ns.length : Int) ∧
  ∀ H', Sto l s H' → Fr s H H' → Q .non H'
theorem ok_feed (T : Bn mg) (F : Fn K mg "_law_feed" s__law_feed ps__law_feed f fd) : Def P w K mg base (k + 1) "_law_feed" ps__law_feed (spFeed K l) f fd := by
  refine ⟨F.F.ok sc__law_feed (fun vs H Q E h => ?_) (fun cdv A outer s H vs Q E hr h => ?_), F.m, F.F.kp, F.b⟩
  · obtain ⟨_, _, _, _, _, _, _, rfl, _⟩ := h
    rfl
  obtain ⟨s, ns, pos, num, seed, hold, cnt, rfl, h1, h2, h3, h4, h5, h6, h7, h8, h9, z⟩ := h
  refine ⟨_, (pss_cons (ps_set (i := 1) sc__law_feed.nd rfl (Or.inl rfl) (pe_callTy call_int1 (by rfl) T.int_ (by decide +kernel) (pa_cons (pe_ix ix_list (pe_ix ix_list (pv 0) pe_int (fun _ _ => rfl)) (pe_ix ix_list (pv 0) pe_int (fun _ _ => rfl)) (fun _ _ => rfl)) pa_nil)))
      (pss_cons (ps_asg (pe_op op_add (pe_ix ix_list (pv 0) pe_int (fun _ _ => rfl)) pe_int) (pg_sub (pv 0) pe_int set_list))
      (pss_cons (ps_asg (pe_op op_mod (pe_callTy call_int1 (by rfl) T.int_ (by decide +kernel) (pa_cons (pe_op op_add (pe_op op_mul (pe_ix ix_list (pv 0) pe_int (fun _ _ => rfl)) pe_int) (pv 1)) pa_nil)) pe_int) (pg_sub (pv 0) pe_int set_list))
      (pss_one (ps_if (PW.pt (pw_or (pt_cmpR op_ge (pv 1) (pe_op op_pow pe_int pe_int) (nomark _)) (pw_or1 (pt_cmpR op_le (pv 1) (pe_op op_sub pe_int (pe_op op_pow pe_int pe_int)) (nomark _)))))
        (pss_one (ps_asg (pe_callB call_abs (by rfl) T.abs_ (by decide +kernel) (pa_cons (pv 1) pa_nil)) (pg_sub (pv 0) pe_int set_list)))
        (pss_one (ps_asg pe_int (pg_sub (pv 0) pe_int set_list)))))))), ?_⟩
  have hp : pos.toNat < ns.length := by omega
  have ea : atI (ns.map V.int) pos = some (.int ns[pos.toNat]) := at_of (j := pos.toNat) (by omega) (by rw [List.getElem?_map, List.getElem?_eq_getElem hp]; rfl)
  obtain ⟨c, hc⟩ : ∃ c, c = ns[pos.toNat] := ⟨_, rfl⟩
  rw [← hc] at ea
  refine ⟨_, rfl, s, _, _, _, rfl, rfl, SqL.of h1, at0 rfl, _, rfl, s, _, _, _, rfl, rfl, SqL.of h1, at1 rfl, l, _, _, _, rfl, rfl, SqL.of h3, ea, .inl ⟨_, rfl, ?_⟩⟩
  refine ⟨_, rfl, s, _, _, _, rfl, rfl, SqL.of h1, at1 rfl, _, _, rfl, rfl, _, rfl, s, _, _, _, rfl, rfl, h1, rfl, ?_⟩
  refine ⟨_, rfl, s, _, _, _, rfl, rfl, SqL.of upd_same, atI_nat (j := 3) rfl, _, _, rfl, rfl, .inr ⟨by decide, by decide⟩, _, rfl, _, _, rfl, rfl, .inl ⟨_, rfl, _, _, rfl, rfl, (by show (0 : Int) < 1000000007; decide), _, rfl, s, _, _, _, rfl, rfl, upd_same, rfl, ?_⟩⟩
  have e2 : ∀ o1 o2, Fr s H (upd (upd H s o1) s o2) := fun _ _ => (Fr.upd _).trans (Fr.upd _)
  have e3 : ∀ o1 o2 o3, Fr s H (upd (upd (upd H s o1) s o2) s o3) := fun _ _ _ => (e2 _ _).trans (Fr.upd _)
  have pw : (0 : Int) ≤ 18 ∧ (18 : Int) ≤ 1000000 ∧ (10 : Int).natAbs < 2 ^ 64 := ⟨by decide, by decide, by decide⟩
  have big : ∀ H', H' s = _ → Fr s H H' → Q .non H' := fun H' (e : H' s = some (.lst [.ref l, .int (pos + 1), .int (if c < 0 then -c else c), .int ((seed * 30011 + c) % 1000000007), .int hold, .int cnt])) e' =>
    z H' ⟨ns, pos + 1, _, _, hold, cnt, e, h2, e' _ _ h3 h2, h4, by omega, by split <;> omega, Int.emod_nonneg _ (by decide), Int.emod_lt_of_pos _ (by decide)⟩ e'
  refine ⟨_, rfl, _, _, rfl, rfl, pw, _, _, rfl, rfl, _, rfl, ifD (fun _ => ?_) (fun _ => ⟨_, rfl, _, _, rfl, rfl, pw, _, _, rfl, rfl, _, _, rfl, rfl, _, rfl, ifD (fun _ => ?_) (fun _ => ?_)⟩)⟩
  · exact ⟨_, rfl, _, rfl, _, rfl, s, _, _, _, rfl, rfl, upd_same, rfl, big _ upd_same (e3 _ _ _)⟩
  · exact ⟨_, rfl, _, rfl, _, rfl, s, _, _, _, rfl, rfl, upd_same, rfl, big _ upd_same (e3 _ _ _)⟩
  · exact ⟨_, rfl, s, _, _, _, rfl, rfl, upd_same, rfl, z _ ⟨ns, pos + 1, num, _, 3, cnt, upd_same, h2, (e3 _ _ _) _ _ h3 h2, h4, by omega, h6, Int.emod_nonneg _ (by decide), Int.emod_lt_of_pos _ (by decide)⟩ (e3 _ _ _)⟩
abbrev s__law_take : Stmt := top 53
abbrev N__law_take : List Str := ["_law_store_here", "_law_many", "_law_number"]
theorem sc__law_take : FnScope N__law_take ["_law_store_here", "_law_many"] (defScope s__law_take) := ⟨rfl, rfl, rfl, by decide +kernel, rfl, by decide +kernel, by decide +kernel⟩
abbrev ps__law_take : List Str := ["_law_store_here", "_law_many"]
def spTake (K : PySem.W.Frag) (l : Addr) : Sp := fun vs H Q _ => ∃ (s : Addr) (many : Int), vs = [.ref s, .int many] ∧ Sto l s H ∧ many < 2 ^ 64 ∧ ∀ (r : Int) H', 0 ≤ r → (r < many ∨ r = 0) → Sto l s H' → Fr s H H' → Q (.int r) H'
theorem ok_take (T : Bn mg) (F : Fn K mg "_law_take" s__law_take ps__law_take f fd) (d_law_feed : Def P w K mg base k "_law_feed" ["_law_store_here"] (spFeed K l) f1 fd1) (d_law_mixed : Def P w K mg base k "_law_mixed" ["_law_store_here"] (spMixed K l) f2 fd2) :
    Def P w K mg base (k + 1) "_law_take" ps__law_take (spTake K l) f fd := by
  refine ⟨F.F.ok sc__law_take (fun vs H Q E h => ?_) (fun cdv A outer s H vs Q E hr h => ?_), F.m, F.F.kp, F.b⟩
  · obtain ⟨_, _, rfl, _⟩ := h
    rfl
  obtain ⟨s, many, rfl, hS, hm, z⟩ := h
  refine ⟨_, (pss_cons (ps_set (i := 1) sc__law_take.nd rfl (Or.inl rfl) (pe_callB (call_max2 rfl) (by rfl) T.max_ (by decide +kernel) (pa_cons pe_int (pa_cons (pv 1) pa_nil))))
      (pss_cons (ps_if (PW.pt (pw_and (pt_cmpR op_eq (pe_ix ix_list (pv 0) pe_int (fun _ _ => rfl)) pe_int (nomark _)) (pw_and (pt_cmpR op_eq (pe_ix ix_list (pv 0) pe_int (fun _ _ => rfl)) pe_int (nomark _)) (pw_and1 (pt_cmpR op_lt (pe_ix ix_list (pv 0) pe_int (fun _ _ => rfl)) (pe_callB call_len_seq (by rfl) T.len_ PySem.boot_len (pa_cons (pe_ix ix_list (pv 0) pe_int (fun _ _ => rfl)) pa_nil)) (nomark _))))))
        (pss_one (ps_expr (pcall d_law_feed hr (pa_cons (pv 0) pa_nil))))
        pss_nil)
      (pss_cons (ps_if (pt_cmpR op_gt (pe_ix ix_list (pv 0) pe_int (fun _ _ => rfl)) pe_int (nomark _))
        (pss_cons (ps_set (i := 2) sc__law_take.nd rfl (Or.inl rfl) (pe_ix ix_list (pv 0) pe_int (fun _ _ => rfl)))
        (pss_cons (ps_asg (pe_op op_fdivW (pv 2) (pv 1)) (pg_sub (pv 0) pe_int set_list))
        (pss_one (ps_ret (pe_op op_mod (pe_callTy call_int1 (by rfl) T.int_ (by decide +kernel) (pa_cons (pv 2) pa_nil)) (pv 1))))))
        pss_nil)
      (pss_cons (ps_asg (pe_callB (call_max2 rfl) (by rfl) T.max_ (by decide +kernel) (pa_cons pe_int (pa_cons (pe_op op_sub (pe_ix ix_list (pv 0) pe_int (fun _ _ => rfl)) pe_int) pa_nil))) (pg_sub (pv 0) pe_int set_list))
      (pss_cons (ps_set (i := 2) sc__law_take.nd rfl (Or.inl rfl) (pcall d_law_mixed hr (pa_cons (pv 0) pa_nil)))
      (pss_cons (ps_if (pt_cmpR op_gt (pv 1) pe_int (nomark _))
        (pss_one (ps_set (i := 2) sc__law_take.nd rfl (Or.inl rfl) (pe_op op_add (pv 2) (pe_op op_mul (pcall d_law_mixed hr (pa_cons (pv 0) pa_nil)) pe_int))))
        pss_nil)
      (pss_one (ps_ret (pe_op op_mod (pe_callTy call_int1 (by rfl) T.int_ (by decide +kernel) (pa_cons (pv 2) pa_nil)) (pv 1)))))))))), ?_⟩
  refine ⟨_, rfl, _, _, rfl, ?_⟩
  obtain ⟨M, eM⟩ : ∃ M : Int, M = if many > 1 then many else 1 := ⟨_, rfl⟩
  have M1 : 1 ≤ M := by rw [eM]; split <;> omega
  have M2 : M.natAbs < 2 ^ 64 := by
    have : (2 : Nat) ^ 64 = 18446744073709551616 := by decide
    have : (2 : Int) ^ 64 = 18446744073709551616 := by decide
    rw [eM]; split <;> omega
  have hz : ∀ (r : Int) H', 0 ≤ r → r < M → Sto l s H' → Fr s H H' → Q (.int r) H' := fun r H' a b => z r H' a (by rw [eM] at b; split at b <;> omega)
  rw [← eM]
  dsimp only [gName]
  refine cut (fun σ' H' => σ' = [some (.ref s), some (.int M), none] ∧ Sto l s H' ∧ Fr s H H') ?_ ?_
  · rintro σ H1 ⟨rfl, hS1, e1⟩
    obtain ⟨ns, pos, num, seed, hold, cnt, h1, h2, h3, h4, h5, h6, h7, h8⟩ := id hS1
    refine ⟨_, rfl, s, _, _, _, rfl, rfl, SqL.of h1, at2 rfl, _, _, rfl, rfl, _, rfl, ifD (fun c => ?_) (fun c => ?_)⟩
    · refine ⟨_, rfl, s, _, _, _, rfl, rfl, SqL.of h1, at2 rfl, ?_⟩
      refine ⟨_, rfl, _, rfl, _, _, rfl, rfl, wide_div (by omega) M2 (by decide) (by decide), _, rfl, s, _, _, _, rfl, rfl, h1, rfl, ?_⟩
      refine ⟨_, rfl, .inl ⟨_, rfl, _, rfl, _, _, rfl, rfl, (by show 0 < M; omega), ?_⟩⟩
      have e2 : ∀ o, Fr s H1 (upd H1 s o) := fun _ => Fr.upd _
      exact hz _ _ (Int.emod_nonneg _ (by omega)) (Int.emod_lt_of_pos _ (by omega)) ⟨ns, pos, num / M, seed, hold, cnt, upd_same, h2, (e2 _) _ _ h3 h2, h4, h5, Int.ediv_nonneg (by omega) (by omega), h7, h8⟩ (e1.trans (e2 _))
    refine ⟨_, rfl, s, _, _, _, rfl, rfl, SqL.of h1, atI_nat (j := 4) rfl, _, _, rfl, rfl, _, _, rfl, _, rfl, s, _, _, _, rfl, rfl, h1, rfl, ?_⟩
    have e2 : ∀ o, Fr s H1 (upd H1 s o) := fun _ => Fr.upd _
    refine ⟨_, rfl, s, rfl, ⟨ns, pos, num, seed, _, cnt, upd_same, h2, (e2 _) _ _ h3 h2, h4, h5, h6, h7, h8⟩, fun r H2 r0 r1 S2 e3 => ?_⟩
    refine ⟨_, rfl, _, _, rfl, rfl, _, rfl, ifD (fun c => ?_) (fun c => ?_)⟩
    · refine ⟨_, rfl, _, rfl, s, rfl, S2, fun r' H3 _ _ S3 e4 => ⟨_, _, rfl, rfl, .inr ⟨by decide, by decide⟩, _, _, rfl, rfl, ?_⟩⟩
      refine ⟨_, rfl, .inl ⟨_, rfl, _, rfl, _, _, rfl, rfl, (by show 0 < M; omega), ?_⟩⟩
      exact hz _ _ (Int.emod_nonneg _ (by omega)) (Int.emod_lt_of_pos _ (by omega)) S3 (e1.trans ((e2 _).trans (e3.trans e4)))
    · refine ⟨_, rfl, .inl ⟨_, rfl, _, rfl, _, _, rfl, rfl, (by show 0 < M; omega), ?_⟩⟩
      exact hz _ _ (Int.emod_nonneg _ (by omega)) (Int.emod_lt_of_pos _ (by omega)) S2 (e1.trans ((e2 _).trans e3))
  · intro key
    obtain ⟨ns, pos, num, seed, hold, cnt, h1, h2, h3, h4, h5, h6, h7, h8⟩ := id hS
    refine ⟨_, rfl, s, _, _, _, rfl, rfl, SqL.of h1, at2 rfl, rfl, _, rfl, ifD (fun _ => ?_) (fun _ => ifF rfl (key _ _ ⟨rfl, hS, Fr.refl _ _⟩))⟩
    refine ⟨_, rfl, s, _, _, _, rfl, rfl, SqL.of h1, atI_nat (j := 4) rfl, rfl, _, rfl, ifD (fun _ => ?_) (fun _ => ifF rfl (key _ _ ⟨rfl, hS, Fr.refl _ _⟩))⟩
    refine ⟨_, rfl, s, _, _, _, rfl, rfl, SqL.of h1, at1 rfl, _, rfl, s, _, _, _, rfl, rfl, SqL.of h1, at0 rfl, l, _, rfl, .inl (SqL.of h3), _, _, rfl, rfl, _, rfl, ifD (fun c => ?_) (fun _ => key _ _ ⟨rfl, hS, Fr.refl _ _⟩)⟩
    rw [List.length_map] at c
    exact ⟨_, rfl, s, ns, pos, num, seed, hold, cnt, rfl, h1, h2, h3, h4, h5, h6, h7, h8, c, fun H' S' e' => key _ _ ⟨rfl, S', e'⟩⟩
abbrev s__law_pick : Stmt := top 54
abbrev N__law_pick : List Str := ["_law_store_here", "_law_things"]
theorem sc__law_pick : FnScope N__law_pick ["_law_store_here", "_law_things"] (defScope s__law_pick) := ⟨rfl, rfl, rfl, by decide +kernel, rfl, by decide +kernel, by decide +kernel⟩
abbrev ps__law_pick : List Str := ["_law_store_here", "_law_things"]
/-- a list that is not the store; one of its things is handed back -/
def spPick (K : PySem.W.Frag) (l : Addr) : Sp := fun vs H Q _ => ∃ (s a : Addr) (xs : List V), vs = [.ref s, .ref a] ∧ Sto l s H ∧ a ≠ s ∧ SqL K H a xs ∧ 0 < xs.length ∧ xs.length < 2 ^ 32 ∧ ∀ (v : V) H', v ∈ xs → Sto l s H' → Fr s H H' → Q v H'
theorem ok_pick (T : Bn mg) (F : Fn K mg "_law_pick" s__law_pick ps__law_pick f fd) (d_law_take : Def P w K mg base k "_law_take" ["_law_store_here", "_law_many"] (spTake K l) f1 fd1) : Def P w K mg base (k + 1) "_law_pick" ps__law_pick (spPick K l) f fd := by
  refine ⟨F.F.ok sc__law_pick (fun vs H Q E h => ?_) (fun cdv A outer s H vs Q E hr h => ?_), F.m, F.F.kp, F.b⟩
  · obtain ⟨_, _, _, rfl, _⟩ := h
    rfl
  obtain ⟨s, a, xs, rfl, hS, n, ha, h0, hl, z⟩ := h
  refine ⟨_, (pss_one (ps_ret (pe_ix ix_list (pv 1) (pcall d_law_take hr (pa_cons (pv 0) (pa_cons (pe_callB call_len_seq (by rfl) T.len_ PySem.boot_len (pa_cons (pv 1) pa_nil)) pa_nil))) (fun _ _ => rfl)))), ?_⟩
  have p32 : (2 : Nat) ^ 32 = 4294967296 := by decide
  have p64 : (2 : Int) ^ 64 = 18446744073709551616 := by decide
  refine ⟨_, rfl, _, rfl, _, rfl, a, _, rfl, .inl ha, s, _, rfl, hS, by omega, fun r H' r0 r1 S' e => ?_⟩
  have hr : r.toNat < xs.length := by omega
  refine ⟨a, _, _, xs[r.toNat], rfl, rfl, seq_fr e n ha, at_of (j := r.toNat) (by omega) (List.getElem?_eq_getElem hr), z _ _ (List.getElem_mem hr) S' e⟩
end Vk
namespace Vk
open PySem L2 Vm
variable {l : Addr} {P : Program} {w : World} {K : PySem.W.Frag} {mg : Str → Option Value} {base : Heap} {k : Nat} {f f1 f2 f3 f4 f5 f6 f7 f8 f9 : Addr} {fd fd1 fd2 fd3 fd4 fd5 fd6 fd7 fd8 fd9 : FuncData}
/-! ### data -/
def dq (q : Rat) : PyData := .tuple [.int q.num, .int (q.den : Int)]
theorem Rq.dp {H : Hp} {v : V} {q : Rat} (h : Rq K H v q) : Dp K H v (dq q) := by
  obtain ⟨a, rfl, h⟩ := h
  exact .tup h (.cons (.int _) (.cons (.int _) .nil))
theorem sh_dq (q : Rat) : SeqAt.shaped (dq q) = true := rfl
theorem eqv_dq (p q : Rat) : PyData.eqv (dq p) (dq q) = decide (p = q) := by
  show ((p.num == q.num) && (((p.den : Int) == (q.den : Int)) && true)) = decide (p = q)
  by_cases h : p = q
  · subst h
    simp
  · rw [decide_eq_false h]
    by_cases h1 : p.num = q.num
    · by_cases h2 : p.den = q.den
      · exact absurd (Rat.ext h1 h2) h
      · have : ((p.den : Int) == (q.den : Int)) = false := beq_false_of_ne (by omega)
        rw [this]
        simp
    · have : (p.num == q.num) = false := by simpa using h1
      rw [this]
      simp
inductive Tree : Nat → PyData → Prop
  | int {n} (i : Int) : Tree n (.int i)
  | non {n} : Tree n .none
  | bl {n} (b : Bool) : Tree n (.bool b)
  | str {n} {s : Str} (h : SeqAt.shaped (.str s) = true) : Tree n (.str s)
  | tup {n} {ds : List PyData} : ds.length ≤ 1000 → (∀ d ∈ ds, Tree n d) → Tree (n + 1) (.tuple ds)
  | lst {n} {ds : List PyData} : ds.length ≤ 1000 → (∀ d ∈ ds, Tree n d) → Tree (n + 1) (.list ds)
theorem tree_dq (n : Nat) (q : Rat) : Tree (n + 1) (dq q) := .tup (by show 2 ≤ 1000; decide) fun d h => by
  rcases List.mem_cons.mp h with rfl | h
  · exact .int _
  · rcases List.mem_cons.mp h with rfl | h
    · exact .int _
    · cases h
theorem sql_ty {H : Hp} {a : Addr} {xs : List V} (h : SqL K H a xs) : TyX K H (.ref a) (.type "list") := by
  rcases h with (h | ⟨o, h⟩) | ⟨o, its, n, h, c, _⟩
  · exact .base (.lst h)
  · exact .base (.frz h)
  · exact .kList h c
theorem sqt_ty {H : Hp} {a : Addr} {xs : List V} (h : SqT K H a xs) : TyX K H (.ref a) (.type "tuple") := by
  rcases h with (h | ⟨o, h⟩) | ⟨o, its, n, h, c, _⟩
  · exact .base (.tup h)
  · exact .fTuple h
  · exact .kTuple h c
theorem dpall_len {H : Hp} : ∀ {vs : List V} {ds : List PyData}, DpAll K H vs ds → vs.length = ds.length
  | _, _, .nil => rfl
  | _, _, .cons _ t => by simp [dpall_len t]
theorem dpall_at {H : Hp} : ∀ {vs : List V} {ds : List PyData}, DpAll K H vs ds → ∀ {i : Nat} {d : PyData}, ds[i]? = some d → ∃ v, vs[i]? = some v ∧ Dp K H v d
  | _, _, .nil, i, d, h => by simp at h
  | _, _, .cons r t, 0, d, h => ⟨_, rfl, by rw [← Option.some.inj h]; exact r⟩
  | _, _, .cons r t, i + 1, d, h => dpall_at t h
abbrev s__law_is_int : Stmt := top 56
abbrev N__law_is_int : List Str := ["_law_value"]
theorem sc__law_is_int : FnScope N__law_is_int ["_law_value"] (defScope s__law_is_int) := ⟨rfl, rfl, rfl, by decide +kernel, rfl, by decide +kernel, by decide +kernel⟩
abbrev ps__law_is_int : List Str := ["_law_value"]
def spIsInt (K : PySem.W.Frag) : Sp := fun vs H Q _ => ∃ i : Int, vs = [.int i] ∧ Q (.bl true) H
theorem ok_is_int (T : Bn mg) (F : Fn K mg "_law_is_int" s__law_is_int ps__law_is_int f fd) : Def P w K mg base (k + 1) "_law_is_int" ps__law_is_int (spIsInt K) f fd := by
  refine ⟨F.F.ok sc__law_is_int (fun vs H Q E h => ?_) (fun cdv A outer s H vs Q E hr h => ?_), F.m, F.F.kp, F.b⟩
  · obtain ⟨i, rfl, _⟩ := h
    rfl
  obtain ⟨i, rfl, z⟩ := h
  refine ⟨_, (pss_one (ps_ret (pe_and (pe_callB call_isi (by rfl) T.isinstance_ (by decide +kernel) (pa_cons (pv 0) (pa_cons (pe_bltn (v := .ty "int") (by rfl) T.int_ (by decide +kernel) rfl) pa_nil))) (pe_one (pe_not (pe_callB call_isi (by rfl) T.isinstance_ (by decide +kernel) (pa_cons (pv 0) (pa_cons (pe_bltn (v := .ty "bool") (by rfl) T.bool_ (by decide +kernel) rfl) pa_nil)))))))), ?_⟩
  exact ⟨_, rfl, _, _, _, _, true, rfl, .ty _, (.base (.int i)), kit_ty (by decide +kernel), _, rfl, ifT rfl ⟨_, rfl, _, _, _, _, false, rfl, .ty _, (.base (.int i)), kit_ty (by decide +kernel), _, rfl, z⟩⟩
abbrev s__law_same : Stmt := top 57
abbrev N__law_same : List Str := ["_law_value", "_law_due", "_law_keys", "_law_name", "_law_k"]
theorem sc__law_same : FnScope N__law_same ["_law_value", "_law_due"] (defScope s__law_same) := ⟨rfl, rfl, rfl, by decide +kernel, rfl, by decide +kernel, by decide +kernel⟩
abbrev ps__law_same : List Str := ["_law_value", "_law_due"]
def spSame (K : PySem.W.Frag) (n : Nat) : Sp := fun vs H Q _ => ∃ (v u : V) (d : PyData), vs = [v, u] ∧ Dp K H v d ∧ Dp K H u d ∧ Tree n d ∧ Q (.bl true) H
theorem ok_same1 (T : Bn mg) (n : Nat) (F : Fn K mg "_law_same" s__law_same ps__law_same f fd) (d_law_is_int : Def P w K mg base (k + n) "_law_is_int" ["_law_value"] (spIsInt K) f1 fd1)
    (d_law_same : Def P w K mg base (k + n) "_law_same" ["_law_value", "_law_due"] (fun vs H Q E => ∃ m, m + 1 = n ∧ spSame K m vs H Q E) f fd) : Def P w K mg base (k + n + 1) "_law_same" ps__law_same (spSame K n) f fd := by
  refine ⟨F.F.ok sc__law_same (fun vs H Q E h => ?_) (fun cdv A outer s H vs Q E hr h => ?_), F.m, F.F.kp, F.b⟩
  · obtain ⟨v, u, d, rfl, _⟩ := h
    rfl
  obtain ⟨v, u, d, rfl, hv, hu, ht, z⟩ := h
  refine ⟨_, (pss_cons (ps_if (pt_cmpR op_isN (pv 1) pe_non (nomark _))
        (pss_one (ps_ret (pe_cmpR op_isN (pv 0) pe_non (nomark _))))
        pss_nil)
      (pss_cons (ps_if (pt_val (pe_callB call_isi (by rfl) T.isinstance_ (by decide +kernel) (pa_cons (pv 1) (pa_cons (pe_bltn (v := .ty "bool") (by rfl) T.bool_ (by decide +kernel) rfl) pa_nil))))
        (pss_one (ps_ret (pe_and (pe_callB call_isi (by rfl) T.isinstance_ (by decide +kernel) (pa_cons (pv 0) (pa_cons (pe_bltn (v := .ty "bool") (by rfl) T.bool_ (by decide +kernel) rfl) pa_nil))) (pe_one (pe_cmpR (op_eqD hr.units) (pv 0) (pv 1) (nomark _))))))
        pss_nil)
      (pss_cons (ps_if (pt_val (pe_callB call_isi (by rfl) T.isinstance_ (by decide +kernel) (pa_cons (pv 1) (pa_cons (pe_bltn (v := .ty "int") (by rfl) T.int_ (by decide +kernel) rfl) pa_nil))))
        (pss_one (ps_ret (pe_and (pcall d_law_is_int hr (pa_cons (pv 0) pa_nil)) (pe_one (pe_cmpR (op_eqD hr.units) (pv 0) (pv 1) (nomark _))))))
        pss_nil)
      (pss_cons (ps_if (pt_val (pe_callB call_isi (by rfl) T.isinstance_ (by decide +kernel) (pa_cons (pv 1) (pa_cons (pe_bltn (v := .ty "str") (by rfl) T.str_ (by decide +kernel) rfl) pa_nil))))
        (pss_one (ps_ret (pe_and (pe_callB call_isi (by rfl) T.isinstance_ (by decide +kernel) (pa_cons (pv 0) (pa_cons (pe_bltn (v := .ty "str") (by rfl) T.str_ (by decide +kernel) rfl) pa_nil))) (pe_one (pe_cmpR (op_eqD hr.units) (pv 0) (pv 1) (nomark _))))))
        pss_nil)
      (pss_cons (ps_if (pt_val (pe_callB call_isi (by rfl) T.isinstance_ (by decide +kernel) (pa_cons (pv 1) (pa_cons (pe_bltn (v := .ty "dict") (by rfl) T.dict_ (by decide +kernel) rfl) pa_nil))))
        pss_never
        pss_nil)
      (pss_cons (ps_if (PW.pt (pw_and (pt_val (pe_callB call_isi (by rfl) T.isinstance_ (by decide +kernel) (pa_cons (pv 1) (pa_cons (pe_bltn (v := .ty "list") (by rfl) T.list_ (by decide +kernel) rfl) pa_nil)))) (pw_and1 (pt_not (pt_val (pe_callB call_isi (by rfl) T.isinstance_ (by decide +kernel) (pa_cons (pv 0) (pa_cons (pe_bltn (v := .ty "list") (by rfl) T.list_ (by decide +kernel) rfl) pa_nil))))))))
        (pss_one (ps_ret pe_bl))
        pss_nil)
      (pss_cons (ps_if (PW.pt (pw_and (pt_val (pe_callB call_isi (by rfl) T.isinstance_ (by decide +kernel) (pa_cons (pv 1) (pa_cons (pe_bltn (v := .ty "tuple") (by rfl) T.tuple_ (by decide +kernel) rfl) pa_nil)))) (pw_and1 (pt_not (pt_val (pe_callB call_isi (by rfl) T.isinstance_ (by decide +kernel) (pa_cons (pv 0) (pa_cons (pe_bltn (v := .ty "tuple") (by rfl) T.tuple_ (by decide +kernel) rfl) pa_nil))))))))
        (pss_one (ps_ret pe_bl))
        pss_nil)
      (pss_cons (ps_if (pt_cmpR op_ne (pe_callB call_len_seq (by rfl) T.len_ PySem.boot_len (pa_cons (pv 0) pa_nil)) (pe_callB call_len_seq (by rfl) T.len_ PySem.boot_len (pa_cons (pv 1) pa_nil)) (nomark _))
        (pss_one (ps_ret pe_bl))
        pss_nil)
      (pss_cons (ps_for PassesOwn.never rfl (pi_range1 (by rfl) T.range_ (pa_cons (pe_callB call_len_seq (by rfl) T.len_ PySem.boot_len (pa_cons (pv 1) pa_nil)) pa_nil)) (pg_name (i := 4) sc__law_same.nd rfl (Or.inl rfl))
        (pss_one (ps_if (pt_not (pt_val (pcall d_law_same hr (pa_cons (pe_ix ix_seq (pv 0) (pv 4) (fun _ _ => rfl)) (pa_cons (pe_ix ix_seq (pv 1) (pv 4) (fun _ _ => rfl)) pa_nil)))))
          (pss_one (ps_ret pe_bl))
          pss_nil)))
      (pss_one (ps_ret pe_bl))))))))))), ?_⟩
  cases ht with
  | int i =>
    cases hv
    cases hu
    refine ⟨_, rfl, rfl, _, rfl, ifF (dF nofun) ⟨_, rfl, _, _, _, _, false, rfl, .ty _, (.base (.int i)), kit_ty (by decide +kernel), _, rfl, ifF rfl ⟨_, rfl, _, _, _, _, true, rfl, .ty _, (.base (.int i)), kit_ty (by decide +kernel), _, rfl, ifT rfl ?_⟩⟩⟩
    refine ⟨_, rfl, i, rfl, _, rfl, ifT rfl ⟨_, rfl, _, rfl, _, _, .int i, .int i, rfl, rfl, ?_⟩⟩
    rw [show PyData.eqv (.int i) (.int i) = true from beq_self_eq_true i]
    exact z
  | non =>
    cases hv
    cases hu
    exact ⟨_, rfl, rfl, _, rfl, ifT (dT rfl) ⟨_, rfl, rfl, z⟩⟩
  | bl b =>
    cases hv
    cases hu
    refine ⟨_, rfl, rfl, _, rfl, ifF (dF nofun) ⟨_, rfl, _, _, _, _, true, rfl, .ty _, (.base (.bl b)), kit_ty (by decide +kernel), _, rfl, ifT rfl ?_⟩⟩
    refine ⟨_, rfl, _, _, _, _, true, rfl, .ty _, (.base (.bl b)), kit_ty (by decide +kernel), _, rfl, ifT rfl ⟨_, rfl, _, rfl, _, _, .bl b, .bl b, rfl, rfl, ?_⟩⟩
    rw [show PyData.eqv (.bool b) (.bool b) = true from beq_self_eq_true b]
    exact z
  | @str _ s hs =>
    cases hv
    cases hu
    refine ⟨_, rfl, rfl, _, rfl, ifF (dF nofun) ⟨_, rfl, _, _, _, _, false, rfl, .ty _, (.base (.str s)), kit_ty (by decide +kernel), _, rfl, ifF rfl ⟨_, rfl, _, _, _, _, false, rfl, .ty _, (.base (.str s)), kit_ty (by decide +kernel), _, rfl, ifF rfl ⟨_, rfl, _, _, _, _, true, rfl, .ty _, (.base (.str s)), kit_ty (by decide +kernel), _, rfl, ifT rfl ?_⟩⟩⟩⟩
    refine ⟨_, rfl, _, _, _, _, true, rfl, .ty _, (.base (.str s)), kit_ty (by decide +kernel), _, rfl, ifT rfl ⟨_, rfl, _, rfl, _, _, .str s, .str s, hs, hs, ?_⟩⟩
    rw [show PyData.eqv (.str s) (.str s) = true from beq_self_eq_true s]
    exact z
  | tup hl hall =>
    rename_i m ds
    cases hv with
    | tup ha da =>
    rename_i a xs
    cases hu with
    | tup hb db =>
    rename_i b ys
    have lx := dpall_len da
    have ly := dpall_len db
    have ta := sqt_ty ha
    have tb := sqt_ty hb
    refine ⟨_, rfl, rfl, _, rfl, ifF (dF nofun) ⟨_, rfl, _, _, _, _, false, rfl, .ty _, tb, kit_ty (by decide +kernel), _, rfl, ifF rfl ⟨_, rfl, _, _, _, _, false, rfl, .ty _, tb, kit_ty (by decide +kernel), _, rfl, ifF rfl ⟨_, rfl, _, _, _, _, false, rfl, .ty _, tb, kit_ty (by decide +kernel), _, rfl, ifF rfl ⟨_, rfl, _, _, _, _, false, rfl, .ty _, tb, kit_ty (by decide +kernel), _, rfl, ifF rfl ?_⟩⟩⟩⟩⟩
    refine ⟨_, rfl, _, _, _, _, false, rfl, .ty _, tb, kit_ty (by decide +kernel), _, rfl, ifF rfl (ifF rfl ⟨_, rfl, _, _, _, _, true, rfl, .ty _, tb, kit_ty (by decide +kernel), _, rfl, ifT rfl ⟨_, rfl, _, _, _, _, true, rfl, .ty _, ta, kit_ty (by decide +kernel), _, rfl, ifF rfl ?_⟩⟩)⟩
    refine ⟨_, rfl, a, _, rfl, .inr ha, _, rfl, b, _, rfl, .inr hb, rfl, _, rfl, ifF ?_ ?_⟩
    · rw [lx, ly]
      simp
    have p62 : (2 : Int) ^ 62 = 4611686018427387904 := by decide
    refine ⟨_, rfl, b, _, rfl, .inr hb, _, rfl, by omega, by omega, for_range (n := ((ys.length : Nat) : Int).toNat) (fun i σ H' => ∃ kk, σ = [some (.ref a), some (.ref b), none, none, kk] ∧ H' = H) ⟨none, rfl, rfl⟩ ?_ ?_⟩
    · rintro i σ H' hi ⟨kk, rfl, rfl⟩
      have hi' : i < ds.length := by omega
      obtain ⟨v, hv, dv⟩ := dpall_at da (List.getElem?_eq_getElem hi')
      obtain ⟨u, hu, du⟩ := dpall_at db (List.getElem?_eq_getElem hi')
      refine ⟨_, rfl, _, rfl, .inr (.inl ⟨a, _, _, v, rfl, rfl, ha, at_of (j := i) (by omega) hv, _, rfl, _, rfl, .inr (.inl ⟨b, _, _, u, rfl, rfl, hb, at_of (j := i) (by omega) hu, m, rfl, v, u, _, rfl, dv, du, hall _ (List.getElem_mem hi'), ?_⟩)⟩)⟩
      exact ⟨_, rfl, ifF rfl ⟨_, rfl, rfl⟩⟩
    · rintro σ H' ⟨kk, rfl, rfl⟩
      exact z
  | lst hl hall =>
    rename_i m ds
    cases hv with
    | lst ha da =>
    rename_i a xs
    cases hu with
    | lst hb db =>
    rename_i b ys
    have lx := dpall_len da
    have ly := dpall_len db
    have ta := sql_ty ha
    have tb := sql_ty hb
    refine ⟨_, rfl, rfl, _, rfl, ifF (dF nofun) ⟨_, rfl, _, _, _, _, false, rfl, .ty _, tb, kit_ty (by decide +kernel), _, rfl, ifF rfl ⟨_, rfl, _, _, _, _, false, rfl, .ty _, tb, kit_ty (by decide +kernel), _, rfl, ifF rfl ⟨_, rfl, _, _, _, _, false, rfl, .ty _, tb, kit_ty (by decide +kernel), _, rfl, ifF rfl ⟨_, rfl, _, _, _, _, false, rfl, .ty _, tb, kit_ty (by decide +kernel), _, rfl, ifF rfl ?_⟩⟩⟩⟩⟩
    refine ⟨_, rfl, _, _, _, _, true, rfl, .ty _, tb, kit_ty (by decide +kernel), _, rfl, ifT rfl ⟨_, rfl, _, _, _, _, true, rfl, .ty _, ta, kit_ty (by decide +kernel), _, rfl, ifF rfl ⟨_, rfl, _, _, _, _, false, rfl, .ty _, tb, kit_ty (by decide +kernel), _, rfl, ifF rfl (ifF rfl ?_)⟩⟩⟩
    refine ⟨_, rfl, a, _, rfl, .inl ha, _, rfl, b, _, rfl, .inl hb, rfl, _, rfl, ifF ?_ ?_⟩
    · rw [lx, ly]
      simp
    have p62 : (2 : Int) ^ 62 = 4611686018427387904 := by decide
    refine ⟨_, rfl, b, _, rfl, .inl hb, _, rfl, by omega, by omega, for_range (n := ((ys.length : Nat) : Int).toNat) (fun i σ H' => ∃ kk, σ = [some (.ref a), some (.ref b), none, none, kk] ∧ H' = H) ⟨none, rfl, rfl⟩ ?_ ?_⟩
    · rintro i σ H' hi ⟨kk, rfl, rfl⟩
      have hi' : i < ds.length := by omega
      obtain ⟨v, hv, dv⟩ := dpall_at da (List.getElem?_eq_getElem hi')
      obtain ⟨u, hu, du⟩ := dpall_at db (List.getElem?_eq_getElem hi')
      refine ⟨_, rfl, _, rfl, .inl ⟨a, _, _, v, rfl, rfl, ha, at_of (j := i) (by omega) hv, _, rfl, _, rfl, .inl ⟨b, _, _, u, rfl, rfl, hb, at_of (j := i) (by omega) hu, m, rfl, v, u, _, rfl, dv, du, hall _ (List.getElem_mem hi'), ?_⟩⟩⟩
      exact ⟨_, rfl, ifF rfl ⟨_, rfl, rfl⟩⟩
    · rintro σ H' ⟨kk, rfl, rfl⟩
      exact z
def spSize (K : PySem.W.Frag) (l : Addr) : Sp := fun vs H Q _ => ∃ (s : Addr) (lo hi : Int), vs = [.ref s, .int lo, .int hi] ∧ Sto l s H ∧ lo ≤ hi ∧ hi - lo < 2 ^ 32 ∧ ∀ (r : Int) H', lo ≤ r → r ≤ hi → Sto l s H' → Fr s H H' → Q (.int r) H'
theorem ok_same (T : Bn mg) (F : Fn K mg "_law_same" s__law_same ps__law_same f fd) (d_law_is_int : Def P w K mg base k "_law_is_int" ["_law_value"] (spIsInt K) f1 fd1) : ∀ n, Def P w K mg base (k + n + 1) "_law_same" ps__law_same (spSame K n) f fd
  | 0 => ok_same1 T 0 F (d_law_is_int.up (Nat.le_refl _)) ⟨⟨fun vs H Q E h => by obtain ⟨m, h, _⟩ := h; omega, fun A outer s H args us vs Q E _ _ _ _ h => by obtain ⟨m, h, _⟩ := h; omega⟩, F.m, F.F.kp, F.b⟩
  | n + 1 => by
    have ih := ok_same T F d_law_is_int n
    exact ok_same1 T (n + 1) F (d_law_is_int.up (by omega)) ⟨ih.ok.imp fun vs H Q E h => by
      obtain ⟨m, h, q⟩ := h
      have e : m = n := by omega
      subst e
      exact q, F.m, F.F.kp, F.b⟩
end Vk
namespace Vk
open PySem L2 Vm
variable {l : Addr} {P : Program} {w : World} {K : PySem.W.Frag} {mg : Str → Option Value} {base : Heap} {k : Nat} {f f1 f2 f3 f4 f5 f6 f7 f8 f9 : Addr} {fd fd1 fd2 fd3 fd4 fd5 fd6 fd7 fd8 fd9 : FuncData}
/-! ### drawn rationals -/
def Qd (K : PySem.W.Frag) (m : Nat) (ok : Rat → Prop) (H : Hp) (v : V) : Prop := ∃ q, Rq K H v q ∧ Sz m q ∧ ok q
theorem Qd.same {m : Nat} {ok : Rat → Prop} {H H' : Hp} {v : V} (e : Same H H') (h : Qd K m ok H v) : Qd K m ok H' v := by
  obtain ⟨q, h, r⟩ := h
  exact ⟨q, h.same e, r⟩
theorem Qd.fr {m : Nat} {ok : Rat → Prop} {s : Addr} {H H' : Hp} {v : V} (e : Fr s H H') (hs : Sto l s H) (h : Qd K m ok H v) : Qd K m ok H' v := by
  obtain ⟨q, h, r⟩ := h
  exact ⟨q, h.fr e hs.some, r⟩
theorem Qd.new {m : Nat} {ok : Rat → Prop} {H : Hp} {t : Addr} (n d : Int) (q : Rat) (en : q.num = n) (ed : (q.den : Int) = d) (z : Sz m q) (o : ok q) : Qd K m ok (upd H t (.tup [.int n, .int d])) (.ref t) :=
  ⟨q, ⟨t, rfl, SqT.of (by rw [upd_same, en, ed])⟩, z, o⟩
theorem rq_new {H : Hp} {t : Addr} (n d : Int) (q : Rat) (en : q.num = n) (ed : (q.den : Int) = d) : Rq K (upd H t (.tup [.int n, .int d])) (.ref t) q := ⟨t, rfl, SqT.of (by rw [upd_same, en, ed])⟩
instance (k : Nat) (q : Rat) : Decidable (Sz k q) := inferInstanceAs (Decidable (_ ∧ _))
/-- a written pair: from then on a drawn rational -/
theorem newq {m : Nat} {ok : Rat → Prop} {H : Hp} {Q : V → Hp → Prop} (n d : Int) (q : Rat) (en : q.num = n) (ed : (q.den : Int) = d) (z : Sz m q) (o : ok q) (h : ∀ v H', Same H H' → Qd K m ok H' v → Q v H') : ∀ t, H t = none → Q (.ref t) (upd H t (.tup [.int n, .int d])) :=
  fun t ht => h _ _ (same_new ht _) (Qd.new n d q en ed z o)
def anyQ : Rat → Prop := fun _ => True
def posQ : Rat → Prop := fun q => 0 < q
instance (q : Rat) : Decidable (posQ q) := inferInstanceAs (Decidable (0 < q))
/-- a rational is drawn -/
def spDraw (K : PySem.W.Frag) (l : Addr) (m : Nat) (ok : Rat → Prop) : Sp := fun vs H Q _ => ∃ (s : Addr), vs = [.ref s] ∧ Sto l s H ∧ ∀ (v : V) H', Qd K m ok H' v → Sto l s H' → Fr s H H' → Q v H'
theorem mk_pos {n d : Int} (hn : 0 < n) (hd : 0 < d) : 0 < mkRat n d.toNat := by
  refine pos_of_num ?_
  have dn : d.toNat ≠ 0 := by omega
  rw [mk_num n dn]
  have g := Nat.gcd_le_left d.toNat (show 0 < n.natAbs by omega)
  have gp : 0 < Nat.gcd n.natAbs d.toNat := Nat.gcd_pos_of_pos_left _ (by omega)
  exact Int.ediv_pos_of_pos_of_dvd hn (by omega) (by
    have := Nat.gcd_dvd_left n.natAbs d.toNat
    have e : n = (n.natAbs : Int) := by omega
    rw [e]
    exact Int.natCast_dvd_natCast.mpr (by rw [Int.natAbs_natCast]; exact this))
theorem lt2 {i : Int} {b : Nat} (c : Nat) (h : i.natAbs < c) (e : c ≤ 2 ^ b) : i.natAbs < 2 ^ b := Nat.lt_of_lt_of_le h e
abbrev s__law_part : Stmt := top 63
abbrev N__law_part : List Str := ["_law_store_here", "_law_sort"]
theorem sc__law_part : FnScope N__law_part ["_law_store_here"] (defScope s__law_part) := ⟨rfl, rfl, rfl, by decide +kernel, rfl, by decide +kernel, by decide +kernel⟩
abbrev ps__law_part : List Str := ["_law_store_here"]
theorem ok_part (F : Fn K mg "_law_part" s__law_part ps__law_part f fd) (d_law_take : Def P w K mg base k "_law_take" ["_law_store_here", "_law_many"] (spTake K l) f1 fd1) (d_law_pick : Def P w K mg base k "_law_pick" ["_law_store_here", "_law_things"] (spPick K l) f2 fd2)
    (d_law_frac : Def P w K mg base k "_law_frac" ["_law_n", "_law_d"] (spFrac K) f3 fd3) : Def P w K mg base (k + 1) "_law_part" ps__law_part (spDraw K l 5 anyQ) f fd := by
  refine ⟨F.F.ok sc__law_part (fun vs H Q E h => ?_) (fun cdv A outer s H vs Q E hr h => ?_), F.m, F.F.kp, F.b⟩
  · obtain ⟨_, rfl, _⟩ := h
    rfl
  obtain ⟨s, rfl, hS, z⟩ := h
  refine ⟨_, (pss_cons (ps_set (i := 1) sc__law_part.nd rfl (Or.inl rfl) (pcall d_law_take hr (pa_cons (pv 0) (pa_cons pe_int pa_nil))))
      (pss_cons (ps_if (pt_cmpR op_lt (pv 1) pe_int (nomark _))
        (pss_one (ps_ret (pcall d_law_pick hr (pa_cons (pv 0) (pa_cons (pe_lst (pa_cons (pe_tup (pa_cons pe_int (pa_cons pe_int pa_nil))) (pa_cons (pe_tup (pa_cons pe_int (pa_cons pe_int pa_nil))) (pa_cons (pe_tup (pa_cons pe_int (pa_cons pe_int pa_nil))) (pa_cons (pe_tup (pa_cons (pe_un un_neg pe_int) (pa_cons pe_int pa_nil))) (pa_cons (pe_tup (pa_cons pe_int (pa_cons pe_int pa_nil))) (pa_cons (pe_tup (pa_cons (pe_un un_neg pe_int) (pa_cons pe_int pa_nil))) pa_nil))))))) pa_nil)))))
        pss_nil)
      (pss_one (ps_ret (pcall d_law_frac hr (pa_cons (pe_op op_sub (pcall d_law_take hr (pa_cons (pv 0) (pa_cons pe_int pa_nil))) pe_int) (pa_cons (pe_op op_add pe_int (pcall d_law_take hr (pa_cons (pv 0) (pa_cons pe_int pa_nil)))) pa_nil))))))), ?_⟩
  refine ⟨_, rfl, s, 6, rfl, hS, by decide, fun r H1 r0 r1 S1 e1 => ?_⟩
  refine ⟨_, rfl, _, _, rfl, rfl, _, rfl, ifD (fun _ => ?_) (fun _ => ?_)⟩
  · refine ⟨_, rfl, sz2, fun t1 h1 => ?_⟩
    have c1 := same_new h1 (.tup [.int 0, .int 1]); have q1 := Qd.new (K := K) (m := 5) (ok := anyQ) (H := H1) (t := t1) 0 1 (0) (by decide) (by decide) (by decide) trivial; generalize upd H1 t1 (.tup [.int 0, .int 1]) = G1 at c1 q1 ⊢
    refine ⟨sz2, fun t2 h2 => ?_⟩
    have c2 := same_new h2 (.tup [.int 0, .int 1]); have q2 := Qd.new (K := K) (m := 5) (ok := anyQ) (H := G1) (t := t2) 0 1 (0) (by decide) (by decide) (by decide) trivial; generalize upd G1 t2 (.tup [.int 0, .int 1]) = G2 at c2 q2 ⊢
    refine ⟨sz2, fun t3 h3 => ?_⟩
    have c3 := same_new h3 (.tup [.int 1, .int 1]); have q3 := Qd.new (K := K) (m := 5) (ok := anyQ) (H := G2) (t := t3) 1 1 (1) (by decide) (by decide) (by decide) trivial; generalize upd G2 t3 (.tup [.int 1, .int 1]) = G3 at c3 q3 ⊢
    refine ⟨_, rfl, sz2, fun t4 h4 => ?_⟩
    have c4 := same_new h4 (.tup [.int (-1), .int 1]); have q4 := Qd.new (K := K) (m := 5) (ok := anyQ) (H := G3) (t := t4) (-1) 1 (-1) (by decide) (by decide) (by decide) trivial; generalize upd G3 t4 (.tup [.int (-1), .int 1]) = G4 at c4 q4 ⊢
    refine ⟨sz2, fun t5 h5 => ?_⟩
    have c5 := same_new h5 (.tup [.int 1, .int 2]); have q5 := Qd.new (K := K) (m := 5) (ok := anyQ) (H := G4) (t := t5) 1 2 (mkRat 1 2) (by decide) (by decide) (by decide) trivial; generalize upd G4 t5 (.tup [.int 1, .int 2]) = G5 at c5 q5 ⊢
    refine ⟨_, rfl, sz2, fun t6 h6 => ?_⟩
    have c6 := same_new h6 (.tup [.int (-1), .int 2]); have q6 := Qd.new (K := K) (m := 5) (ok := anyQ) (H := G5) (t := t6) (-1) 2 (mkRat (-1) 2) (by decide) (by decide) (by decide) trivial; generalize upd G5 t6 (.tup [.int (-1), .int 2]) = G6 at c6 q6 ⊢
    refine ⟨sm6, fun p h7 => ?_⟩
    have c7 := same_new h7 (.lst [.ref t1, .ref t2, .ref t3, .ref t4, .ref t5, .ref t6])
    have d6 := c6.trans c7; have d5 := c5.trans d6; have d4 := c4.trans d5; have d3 := c3.trans d4; have d2 := c2.trans d3; have d1 := c1.trans d2
    have S7 := S1.same d1
    have q1 := q1.same d2; have q2 := q2.same d3; have q3 := q3.same d4; have q4 := q4.same d5; have q5 := q5.same d6; have q6 := q6.same c7
    refine ⟨s, p, _, rfl, S7, (S1.same (c1.trans (c2.trans (c3.trans (c4.trans (c5.trans c6)))))).ne h7, SqL.of upd_same, (by show 0 < 6; decide), (by show 6 < 2 ^ 32; decide), fun v H' hv S' e' => z _ _ ?_ S' (e1.trans ((Fr.of d1).trans e'))⟩
    refine Qd.fr e' S7 ?_
    simp only [List.mem_cons, List.mem_nil_iff, or_false] at hv
    rcases hv with rfl | rfl | rfl | rfl | rfl | rfl <;> assumption
  · refine ⟨_, rfl, s, 49, rfl, S1, by decide, fun r2 H2 r3 r4 S2 e2 => ⟨_, _, rfl, rfl, ?_⟩⟩
    refine ⟨_, rfl, s, 6, rfl, S2, by decide, fun r5 H3 r6 r7 S3 e3 => ⟨_, _, rfl, rfl, ?_⟩⟩
    refine ⟨_, _, 5, rfl, by omega, lt2 25 (by omega) (by decide), lt2 7 (by omega) (by decide), by decide, fun v H' e hv => z _ _ ⟨_, hv, sz_mk (by omega) ?_ ?_, trivial⟩ (S3.same e) (e1.trans (e2.trans (e3.trans (Fr.of e))))⟩
    · exact lt2 25 (by omega) (by decide)
    · have : (2 : Nat) ^ 5 = 32 := by decide
      omega
abbrev s__law_near : Stmt := top 64
abbrev N__law_near : List Str := ["_law_store_here", "_law_value", "_law_sort", "_law_bit"]
theorem sc__law_near : FnScope N__law_near ["_law_store_here", "_law_value"] (defScope s__law_near) := ⟨rfl, rfl, rfl, by decide +kernel, rfl, by decide +kernel, by decide +kernel⟩
abbrev ps__law_near : List Str := ["_law_store_here", "_law_value"]
/-- one rational in, one near it out -/
def spNear (K : PySem.W.Frag) (l : Addr) : Sp := fun vs H Q _ => ∃ (s : Addr) (x : V) (m : Nat), vs = [.ref s, x] ∧ Sto l s H ∧ m + 11 ≤ 9000 ∧ Qd K m anyQ H x ∧ ∀ (v : V) H', Qd K (m + 11) anyQ H' v → Sto l s H' → Fr s H H' → Q v H'
theorem ok_near (F : Fn K mg "_law_near" s__law_near ps__law_near f fd) (d_law_take : Def P w K mg base k "_law_take" ["_law_store_here", "_law_many"] (spTake K l) f1 fd1) (d_law_pick : Def P w K mg base k "_law_pick" ["_law_store_here", "_law_things"] (spPick K l) f2 fd2) (d_law_plus : Def P w K mg base k "_law_plus" ["_law_a", "_law_b"] (spOp2 K (· + ·)) f3 fd3) (d_law_minus : Def P w K mg base k "_law_minus" ["_law_a", "_law_b"] (spOp2 K (· - ·)) f4 fd4) :
    Def P w K mg base (k + 1) "_law_near" ps__law_near (spNear K l) f fd := by
  refine ⟨F.F.ok sc__law_near (fun vs H Q E h => ?_) (fun cdv A outer s H vs Q E hr h => ?_), F.m, F.F.kp, F.b⟩
  · obtain ⟨_, _, _, rfl, _⟩ := h
    rfl
  obtain ⟨s, x, m, rfl, hS, m1, hx, z⟩ := h
  refine ⟨_, (pss_cons (ps_set (i := 2) sc__law_near.nd rfl (Or.inl rfl) (pcall d_law_take hr (pa_cons (pv 0) (pa_cons pe_int pa_nil))))
      (pss_cons (ps_if (pt_cmpR op_lt (pv 2) pe_int (nomark _))
        (pss_one (ps_ret (pv 1)))
        pss_nil)
      (pss_cons (ps_set (i := 3) sc__law_near.nd rfl (Or.inl rfl) (pcall d_law_pick hr (pa_cons (pv 0) (pa_cons (pe_lst (pa_cons (pe_tup (pa_cons pe_int (pa_cons pe_int pa_nil))) (pa_cons (pe_tup (pa_cons pe_int (pa_cons pe_int pa_nil))) (pa_cons (pe_tup (pa_cons pe_int (pa_cons pe_int pa_nil))) (pa_cons (pe_tup (pa_cons pe_int (pa_cons pe_int pa_nil))) pa_nil))))) pa_nil))))
      (pss_cons (ps_if (pt_cmpR op_eq (pv 2) pe_int (nomark _))
        (pss_one (ps_ret (pcall d_law_plus hr (pa_cons (pv 1) (pa_cons (pv 3) pa_nil)))))
        pss_nil)
      (pss_one (ps_ret (pcall d_law_minus hr (pa_cons (pv 1) (pa_cons (pv 3) pa_nil))))))))), ?_⟩
  refine ⟨_, rfl, s, 4, rfl, hS, by decide, fun r H1 r0 r1 S1 e1 => ?_⟩
  have hx1 := hx.fr e1 hS
  refine ⟨_, rfl, _, _, rfl, rfl, _, rfl, ifD (fun _ => ⟨_, rfl, z _ _ (by obtain ⟨q, h1, h2, h3⟩ := hx1; exact ⟨q, h1, h2.mono (by omega), h3⟩) S1 e1⟩) (fun _ => ?_)⟩
  refine ⟨_, rfl, sz2, fun t1 h1 => ?_⟩
  have c1 := same_new h1 (.tup [.int 1, .int 1]); have q1 := Qd.new (K := K) (m := 10) (ok := anyQ) (H := H1) (t := t1) 1 1 (1) (by decide) (by decide) (by decide) trivial; generalize upd H1 t1 (.tup [.int 1, .int 1]) = G1 at c1 q1 ⊢
  refine ⟨sz2, fun t2 h2 => ?_⟩
  have c2 := same_new h2 (.tup [.int 1, .int 2]); have q2 := Qd.new (K := K) (m := 10) (ok := anyQ) (H := G1) (t := t2) 1 2 (mkRat 1 2) (by decide) (by decide) (by decide) trivial; generalize upd G1 t2 (.tup [.int 1, .int 2]) = G2 at c2 q2 ⊢
  refine ⟨sz2, fun t3 h3 => ?_⟩
  have c3 := same_new h3 (.tup [.int 1, .int 60]); have q3 := Qd.new (K := K) (m := 10) (ok := anyQ) (H := G2) (t := t3) 1 60 (mkRat 1 60) (by decide) (by decide) (by decide) trivial; generalize upd G2 t3 (.tup [.int 1, .int 60]) = G3 at c3 q3 ⊢
  refine ⟨sz2, fun t4 h4 => ?_⟩
  have c4 := same_new h4 (.tup [.int 1, .int 1000]); have q4 := Qd.new (K := K) (m := 10) (ok := anyQ) (H := G3) (t := t4) 1 1000 (mkRat 1 1000) (by decide) (by decide) (by decide) trivial; generalize upd G3 t4 (.tup [.int 1, .int 1000]) = G4 at c4 q4 ⊢
  refine ⟨sm4, fun p hp => ?_⟩
  have cp := same_new hp (.lst [.ref t1, .ref t2, .ref t3, .ref t4])
  have d4 := c4.trans cp
  have d3 := c3.trans d4
  have d2 := c2.trans d3
  have d1 := c1.trans d2
  have Sp := S1.same d1
  have np := (S1.same (c1.trans (c2.trans (c3.trans c4)))).ne hp
  have q1 := q1.same d2
  have q2 := q2.same d3
  have q3 := q3.same d4
  have q4 := q4.same cp
  refine ⟨s, p, _, rfl, Sp, np, SqL.of upd_same, (by show 0 < 4; decide), (by show 4 < 2 ^ 32; decide), fun v H' hv S' e' => ?_⟩
  have qv : Qd K 10 anyQ H' v := by
    refine Qd.fr e' Sp ?_
    simp only [List.mem_cons, List.mem_nil_iff, or_false] at hv
    rcases hv with rfl | rfl | rfl | rfl <;> assumption
  have e2 := (Fr.of (s := s) d1).trans e'
  obtain ⟨b, hb, zb, _⟩ := qv
  obtain ⟨a, ha, za, _⟩ := hx1.fr e2 S1
  refine ⟨_, rfl, rfl, _, rfl, ifD (fun _ => ?_) (fun _ => ?_)⟩
  · exact ⟨_, rfl, _, rfl, _, _, a, b, m, 10, rfl, ha, hb, za, zb, by omega, fun v H'' e hv => z _ _ ⟨_, hv, za.add zb, trivial⟩ (S'.same e) (e1.trans (e2.trans (Fr.of e)))⟩
  · exact ⟨_, rfl, _, rfl, _, _, a, b, m, 10, rfl, ha, hb, za, zb, by omega, fun v H'' e hv => z _ _ ⟨_, hv, za.sub zb, trivial⟩ (S'.same e) (e1.trans (e2.trans (Fr.of e)))⟩
end Vk
namespace Vk
open PySem L2 Vm
variable {P : Program} {w : World} {K : PySem.W.Frag} {mg : Str → Option Value} {base : Heap} {k : Nat} {f f1 f2 f3 f4 f5 f6 f7 f8 f9 : Addr} {fd fd1 fd2 fd3 fd4 fd5 fd6 fd7 fd8 fd9 : FuncData}
/-! ### courses -/
structure Pc where
  s : Rat
  v : Rat
  r : Rat
def Pq (K : PySem.W.Frag) (H : Hp) (x : V) (p : Pc) : Prop := ∃ a xs xv xr, x = .ref a ∧ SqT K H a [xs, xv, xr] ∧ Rq K H xs p.s ∧ Rq K H xv p.v ∧ Rq K H xr p.r
theorem Pq.same {H H' : Hp} {x : V} {p : Pc} (e : Same H H') (h : Pq K H x p) : Pq K H' x p := by
  obtain ⟨a, xs, xv, xr, rfl, h, h1, h2, h3⟩ := h
  exact ⟨a, xs, xv, xr, rfl, e.sqt h, h1.same e, h2.same e, h3.same e⟩
theorem Pq.fr {s : Addr} {H H' : Hp} {x : V} {p : Pc} (e : Fr s H H') (hs : ∃ ys, H s = some (.lst ys)) (h : Pq K H x p) : Pq K H' x p := by
  obtain ⟨a, xs, xv, xr, rfl, h, h1, h2, h3⟩ := h
  exact ⟨a, xs, xv, xr, rfl, sqt_fr e hs h, h1.fr e hs, h2.fr e hs, h3.fr e hs⟩
def All2 {α : Type} (R : V → α → Prop) (xs : List V) (c : List α) : Prop := xs.length = c.length ∧ ∀ (i : Nat) x p, xs[i]? = some x → c[i]? = some p → R x p
theorem All2.nil {α : Type} {R : V → α → Prop} : All2 R [] [] := ⟨rfl, fun i x p h => by simp at h⟩
theorem All2.imp {α : Type} {R R' : V → α → Prop} {xs : List V} {c : List α} (h : All2 R xs c) (g : ∀ x p, R x p → R' x p) : All2 R' xs c := ⟨h.1, fun i x p a b => g _ _ (h.2 i x p a b)⟩
theorem All2.snoc {α : Type} {R : V → α → Prop} {xs : List V} {c : List α} {x : V} {p : α} (h : All2 R xs c) (r : R x p) : All2 R (xs ++ [x]) (c ++ [p]) := by
  refine ⟨by simp [h.1], fun i y q a b => ?_⟩
  by_cases hi : i < xs.length
  · rw [List.getElem?_append_left hi] at a
    rw [List.getElem?_append_left (by rw [← h.1]; exact hi)] at b
    exact h.2 i y q a b
  · rw [List.getElem?_append_right (by omega)] at a
    rw [List.getElem?_append_right (by rw [← h.1]; omega)] at b
    have e : i - xs.length = 0 := by
      have := (List.getElem?_eq_some_iff.mp a).1
      simp at this
      omega
    rw [e] at a
    rw [← h.1, e] at b
    cases a
    cases b
    exact r
theorem All2.at {α : Type} {R : V → α → Prop} {xs : List V} {c : List α} (h : All2 R xs c) {i : Nat} {p : α} (e : c[i]? = some p) : ∃ x, xs[i]? = some x ∧ R x p := by
  have hi := (List.getElem?_eq_some_iff.mp e).1
  rw [← h.1] at hi
  exact ⟨xs[i], List.getElem?_eq_getElem hi, h.2 i _ _ (List.getElem?_eq_getElem hi) e⟩
/-- a list at a holds the course c -/
def Cq (K : PySem.W.Frag) (H : Hp) (a : Addr) (c : List Pc) : Prop := ∃ xs, SqL K H a xs ∧ All2 (Pq K H) xs c
theorem Cq.same {H H' : Hp} {a : Addr} {c : List Pc} (e : Same H H') (h : Cq K H a c) : Cq K H' a c := by
  obtain ⟨xs, h, g⟩ := h
  exact ⟨xs, e.seq h, g.imp fun _ _ h => h.same e⟩
theorem Cq.fr {s : Addr} {H H' : Hp} {a : Addr} {c : List Pc} (e : Fr s H H') (hs : ∃ ys, H s = some (.lst ys)) (n : a ≠ s) (h : Cq K H a c) : Cq K H' a c := by
  obtain ⟨xs, h, g⟩ := h
  exact ⟨xs, seq_fr e n h, g.imp fun _ _ h => h.fr e hs⟩
/-- sizes: starts, values, rates -/
def Cz (i j l : Nat) (c : List Pc) : Prop := ∀ p ∈ c, Sz i p.s ∧ Sz j p.v ∧ Sz l p.r
/-- a course's form -/
def Cok (c : List Pc) : Prop := (∀ p ∈ c, 0 < p.r) ∧ ∀ (i : Nat) p q, c[i]? = some p → c[i + 1]? = some q → p.s < q.s
def tm (p : Pc) (y : Rat) : Rat := p.s + (y - p.v) / p.r
def before (c : List Pc) (k : Nat) (t : Rat) : Bool := match c[k]? with
  | none => true
  | some q => decide (t < q.s)
def hit (c : List Pc) (y : Rat) (k : Nat) : Option Rat := match c[k]? with
  | none => none
  | some p => if p.s ≤ tm p y ∧ before c (k + 1) (tm p y) = true then some (tm p y) else none
def hits (c : List Pc) (y : Rat) (n : Nat) : List Rat := (List.range n).filterMap (hit c y)
theorem hits_succ (c : List Pc) (y : Rat) (n : Nat) : hits c y (n + 1) = hits c y n ++ (hit c y n).toList := by
  unfold hits
  rw [List.range_succ, List.filterMap_append]
  cases h : hit c y n <;> simp [h]
abbrev s__law_is_frac : Stmt := top 61
abbrev N__law_is_frac : List Str := ["_law_value"]
theorem sc__law_is_frac : FnScope N__law_is_frac ["_law_value"] (defScope s__law_is_frac) := ⟨rfl, rfl, rfl, by decide +kernel, rfl, by decide +kernel, by decide +kernel⟩
abbrev ps__law_is_frac : List Str := ["_law_value"]
def spIsFrac (K : PySem.W.Frag) : Sp := fun vs H Q _ => ∃ (x : V) (q : Rat) (m : Nat), vs = [x] ∧ Rq K H x q ∧ Sz m q ∧ m ≤ 9000 ∧ ∀ H', Same H H' → Q (.bl true) H'
theorem ok_is_frac (T : Bn mg) (F : Fn K mg "_law_is_frac" s__law_is_frac ps__law_is_frac f fd) (d_law_is_int : Def P w K mg base k "_law_is_int" ["_law_value"] (spIsInt K) f1 fd1) (d_law_frac : Def P w K mg base k "_law_frac" ["_law_n", "_law_d"] (spFrac K) f2 fd2) :
    Def P w K mg base (k + 1) "_law_is_frac" ps__law_is_frac (spIsFrac K) f fd := by
  refine ⟨F.F.ok sc__law_is_frac (fun vs H Q E h => ?_) (fun cdv A outer s H vs Q E hr h => ?_), F.m, F.F.kp, F.b⟩
  · obtain ⟨x, q, m, rfl, _⟩ := h
    rfl
  obtain ⟨x, q, m, rfl, hx, zq, hm, z⟩ := h
  obtain ⟨a, rfl, ha⟩ := id hx
  refine ⟨_, (pss_cons (ps_if (PW.pt (pw_or (pt_not (pt_val (pe_callB call_isi (by rfl) T.isinstance_ (by decide +kernel) (pa_cons (pv 0) (pa_cons (pe_bltn (v := .ty "tuple") (by rfl) T.tuple_ (by decide +kernel) rfl) pa_nil))))) (pw_or1 (pt_cmpR op_ne (pe_callB call_len_seq (by rfl) T.len_ PySem.boot_len (pa_cons (pv 0) pa_nil)) pe_int (nomark _)))))
        (pss_one (ps_ret pe_bl))
        pss_nil)
      (pss_cons (ps_if (PW.pt (pw_or (pt_not (pt_val (pcall d_law_is_int hr (pa_cons (pe_ix ix_tup (pv 0) pe_int (fun _ _ => rfl)) pa_nil)))) (pw_or (pt_not (pt_val (pcall d_law_is_int hr (pa_cons (pe_ix ix_tup (pv 0) pe_int (fun _ _ => rfl)) pa_nil)))) (pw_or1 (pt_cmpR op_lt (pe_ix ix_tup (pv 0) pe_int (fun _ _ => rfl)) pe_int (nomark _))))))
        (pss_one (ps_ret pe_bl))
        pss_nil)
      (pss_one (ps_ret (pe_cmpR (op_eqD hr.units) (pcall d_law_frac hr (pa_cons (pe_ix ix_tup (pv 0) pe_int (fun _ _ => rfl)) (pa_cons (pe_ix ix_tup (pv 0) pe_int (fun _ _ => rfl)) pa_nil))) (pv 0) (nomark _)))))), ?_⟩
  have ta := sqt_ty ha
  have dp := q.den_pos
  refine ⟨_, rfl, _, _, _, _, true, rfl, .ty _, ta, kit_ty (by decide +kernel), _, rfl, ifF rfl ⟨_, rfl, a, _, rfl, .inr ha, rfl, _, rfl, ifF rfl ?_⟩⟩
  refine ⟨_, rfl, a, _, _, _, rfl, rfl, ha, at0 rfl, _, rfl, _, rfl, ifF rfl ⟨_, rfl, a, _, _, _, rfl, rfl, ha, at1 rfl, _, rfl, _, rfl, ifF rfl ⟨_, rfl, a, _, _, _, rfl, rfl, ha, at1 rfl, _, _, rfl, rfl, _, rfl, ifF (dF (by omega)) ?_⟩⟩⟩
  refine ⟨_, rfl, a, _, _, _, rfl, rfl, ha, at0 rfl, _, rfl, a, _, _, _, rfl, rfl, ha, at1 rfl, _, _, m, rfl, by omega, zq.1, dA zq, hm, fun r H' e hr => ?_⟩
  have er : mkRat q.num ((q.den : Int)).toNat = q := Rat.mkRat_self q
  rw [er] at hr
  refine ⟨_, rfl, _, _, hr.dp, (hx.same e).dp, sh_dq _, sh_dq _, ?_⟩
  rw [eqv_dq, dT rfl]
  exact z _ e
def spTimeOf (K : PySem.W.Frag) : Sp := fun vs H Q _ => ∃ (x y : V) (p : Pc) (q : Rat) (i j l m : Nat), vs = [x, y] ∧ Pq K H x p ∧ Rq K H y q ∧ Sz i p.s ∧ Sz j p.v ∧ Sz l p.r ∧ Sz m q ∧ 0 < p.r ∧ m + j + l + i + 3 ≤ 9000 ∧
  ∀ r H', Same H H' → Rq K H' r (tm p q) → Q r H'
def endV (K : PySem.W.Frag) (H : Hp) (c : List Pc) (n : Nat) (v : V) : Prop := match c[n]? with
  | none => v = .non
  | some p => Rq K H v p.s
def spEndOf (K : PySem.W.Frag) : Sp := fun vs H Q _ => ∃ (a : Addr) (n : Nat) (c : List Pc), vs = [.ref a, .int n] ∧ Cq K H a c ∧ ∀ v, endV K H c (n + 1) v → Q v H
end Vk
namespace Vk
open PySem L2 Vm
variable {P : Program} {w : World} {K : PySem.W.Frag} {mg : Str → Option Value} {base : Heap} {k : Nat} {f f1 f2 f3 f4 f5 f6 f7 f8 f9 : Addr} {fd fd1 fd2 fd3 fd4 fd5 fd6 fd7 fd8 fd9 : FuncData}
theorem for_enum {K : PySem.W.Frag} {a : Addr} {xs : List V} {g : TG} {tb : TS} {D : Ends} {σ : L2.St} {H : Hp} (Pv : Nat → L2.St → Hp → Prop) (h0 : Pv 0 σ H) (hq : ∀ i σ H, Pv i σ H → SqL K H a xs)
    (hs : ∀ (i : Nat) (x : V) (T : Addr) (σ : L2.St) (H : Hp), xs[i]? = some x → Pv i σ H → H T = none → g (.ref T) σ (upd H T (.tup [.int (i : Nat), x])) fun σ2 H2 => tb { D with nx := Pv (i + 1), ct := Pv (i + 1), bk := D.nx } σ2 H2) (hd : ∀ σ H, Pv xs.length σ H → D.nx σ H) :
    ∃ W : Nat → Nat → L2.St → Hp → Prop, (∃ m, W 0 m σ H) ∧ ∀ i m σ H, W i m σ H →
      ((Ite K a).stop i H ∧ D.nx σ H) ∨ ((Ite K a).go i H ∧ ∃ N : L2.St → Hp → Prop, (∀ σ' H', N σ' H' → ∃ m', m' < m ∧ W (i + 1) m' σ' H') ∧ ∀ v H', (Ite K a).yld i H v H' → g v σ H' fun σ2 H2 => tb { D with nx := N, ct := N, bk := D.nx } σ2 H2) := by
  refine ⟨fun i m σ H => m = xs.length - i ∧ i ≤ xs.length ∧ Pv i σ H, ⟨xs.length, rfl, Nat.zero_le _, h0⟩, ?_⟩
  rintro i m σ H ⟨rfl, hi, p⟩
  have qx := hq i σ H p
  by_cases hlt : i < xs.length
  · have hx : xs[i]? = some xs[i] := List.getElem?_eq_getElem hlt
    refine .inr ⟨⟨xs, _, qx, hx⟩, Pv (i + 1), fun σ' H' p' => ⟨xs.length - (i + 1), by omega, rfl, hlt, p'⟩, fun v H' y => ?_⟩
    obtain ⟨T, x', rfl, hT, rfl, f1⟩ := y
    exact hs i x' T σ H (f1 xs qx) p hT
  · have e : i = xs.length := by omega
    subst e
    exact .inl ⟨⟨xs, qx, Nat.le_refl _⟩, hd σ H p⟩
theorem sg_ge {p q : Rat} : 0 ≤ sg p q ↔ q ≤ p := by
  unfold sg
  split
  · rename_i h
    subst h
    simp [Rat.le_refl]
  · split
    · rename_i h1 h2
      constructor
      · intro h; omega
      · intro h; exact absurd (Rat.not_lt.mpr h) (fun g => g h2)
    · rename_i h1 h2
      constructor
      · intro _; exact Rat.not_lt.mp h2
      · intro _; omega
theorem sg_lt {p q : Rat} : sg p q < 0 ↔ p < q := by
  unfold sg
  split
  · rename_i h
    subst h
    constructor
    · intro h; omega
    · intro h; exact absurd h Rat.lt_irrefl
  · split
    · rename_i h1 h2
      exact ⟨fun _ => h2, fun _ => by omega⟩
    · rename_i h1 h2
      exact ⟨fun h => by omega, fun h => absurd h h2⟩
theorem same_upd {H H' : Hp} {D : Addr} (e : Same H H') (h : H D = none) (o : HO) : Same H (upd H' D o) := fun b u q => by rw [upd_ne (ne_of_none q h)]; exact e b u q
theorem hits_len (c : List Pc) (y : Rat) (n : Nat) : (hits c y n).length ≤ n := by
  have := List.length_filterMap_le (hit c y) (List.range n)
  rw [List.length_range] at this
  exact this
theorem le1000 {n : Nat} (h : n ≤ 1000) : n < sizeLine := Nat.lt_of_le_of_lt h (by decide)
def spTimes (K : PySem.W.Frag) : Sp := fun vs H Q _ => ∃ (a : Addr) (y : V) (c : List Pc) (q : Rat) (i j l m : Nat), vs = [.ref a, y] ∧ Cq K H a c ∧ Rq K H y q ∧ Cz i j l c ∧ Sz m q ∧ (∀ p ∈ c, 0 < p.r) ∧ c.length ≤ 1000 ∧ m + j + l + i + i + 4 ≤ 9000 ∧
  ∀ D us H', Same H H' → H D = none → H' D = some (.lst us) → All2 (Rq K H') us (hits c q c.length) → Q (.ref D) H'
end Vk
namespace Vk
open PySem L2 Vm
variable {P : Program} {w : World} {K : PySem.W.Frag} {mg : Str → Option Value} {base : Heap} {k : Nat} {f f1 f2 f3 f4 f5 f6 f7 f8 f9 : Addr} {fd fd1 fd2 fd3 fd4 fd5 fd6 fd7 fd8 fd9 : FuncData}
def optV (K : PySem.W.Frag) (H : Hp) (v : V) : Option Rat → Prop
  | none => v = .non
  | some q => Rq K H v q
def lim (c : List Pc) (n : Nat) : Option Rat := match c[n]? with
  | none => none
  | some p => match c[n + 1]? with
    | none => none
    | some q => some (p.v + p.r * (q.s - p.s))
def spLimit (K : PySem.W.Frag) : Sp := fun vs H Q _ => ∃ (a : Addr) (n : Nat) (c : List Pc) (i j l : Nat), vs = [.ref a, .int n] ∧ Cq K H a c ∧ n < c.length ∧ Cz i j l c ∧ i + i + l + j + 3 ≤ 9000 ∧ ∀ v H', Same H H' → optV K H' v (lim c n) → Q v H'
def on (t : Rat) (p : Pc) : Bool := !decide (t < p.s)
def nowf (c : List Pc) (t : Rat) : Option Rat := ((c.filter (on t)).getLast?).map fun p => p.v + p.r * (t - p.s)
theorem filter_more {α : Type} {c : List α} {i : Nat} {p : α} (g : α → Bool) (h : c[i]? = some p) : (c.take (i + 1)).filter g = (c.take i).filter g ++ (if g p = true then [p] else []) := by
  rw [List.take_add_one, h, List.filter_append]
  congr 1
  simp only [Option.toList]
  cases e : g p <;> simp [e]
def spNow (K : PySem.W.Frag) : Sp := fun vs H Q _ => ∃ (a : Addr) (y : V) (c : List Pc) (t : Rat) (i j l m : Nat), vs = [.ref a, y] ∧ Cq K H a c ∧ Rq K H y t ∧ Cz i j l c ∧ Sz m t ∧ c.length ≤ 1000 ∧ m + i + l + j + 3 ≤ 9000 ∧ ∀ v H', Same H H' → optV K H' v (nowf c t) → Q v H'
end Vk
namespace Vk
open PySem L2 Vm
variable {l : Addr} {P : Program} {w : World} {K : PySem.W.Frag} {mg : Str → Option Value} {base : Heap} {k : Nat} {f f1 f2 f3 f4 f5 f6 f7 f8 f9 : Addr} {fd fd1 fd2 fd3 fd4 fd5 fd6 fd7 fd8 fd9 : FuncData}
abbrev s__law_ratio : Stmt := top 62
abbrev N__law_ratio : List Str := ["_law_store_here", "_law_top", "_law_sort"]
theorem sc__law_ratio : FnScope N__law_ratio ["_law_store_here", "_law_top"] (defScope s__law_ratio) := ⟨rfl, rfl, rfl, by decide +kernel, rfl, by decide +kernel, by decide +kernel⟩
abbrev ps__law_ratio : List Str := ["_law_store_here", "_law_top"]
def spRatio (K : PySem.W.Frag) (l : Addr) : Sp := fun vs H Q _ => ∃ (s : Addr) (top : Int), vs = [.ref s, .int top] ∧ Sto l s H ∧ 1 ≤ top ∧ top < 2 ^ 40 ∧ ∀ (v : V) H', Qd K 40 anyQ H' v → Sto l s H' → Fr s H H' → Q v H'
theorem int_q {H : Hp} {t : Addr} (n : Int) (h : n.natAbs < 2 ^ 40) : Qd K 40 anyQ (upd H t (.tup [.int n, .int 1])) (.ref t) := Qd.new n 1 (n : Rat) rfl rfl ⟨h, by show 1 < 2 ^ 40; decide⟩ trivial
theorem ok_ratio (F : Fn K mg "_law_ratio" s__law_ratio ps__law_ratio f fd) (d_law_take : Def P w K mg base k "_law_take" ["_law_store_here", "_law_many"] (spTake K l) f1 fd1) (d_law_pick : Def P w K mg base k "_law_pick" ["_law_store_here", "_law_things"] (spPick K l) f2 fd2)
    (d_law_frac : Def P w K mg base k "_law_frac" ["_law_n", "_law_d"] (spFrac K) f3 fd3) : Def P w K mg base (k + 1) "_law_ratio" ps__law_ratio (spRatio K l) f fd := by
  refine ⟨F.F.ok sc__law_ratio (fun vs H Q E h => ?_) (fun cdv A outer s H vs Q E hr h => ?_), F.m, F.F.kp, F.b⟩
  · obtain ⟨_, _, rfl, _⟩ := h
    rfl
  obtain ⟨s, top, rfl, hS, t1, t2, z⟩ := h
  have p40 : (2 : Int) ^ 40 = 1099511627776 := by decide
  have n40 : (2 : Nat) ^ 40 = 1099511627776 := by decide
  have p64 : (2 : Int) ^ 64 = 18446744073709551616 := by decide
  refine ⟨_, (pss_cons (ps_set (i := 2) sc__law_ratio.nd rfl (Or.inl rfl) (pcall d_law_take hr (pa_cons (pv 0) (pa_cons pe_int pa_nil))))
      (pss_cons (ps_if (pt_cmpR op_eq (pv 2) pe_int (nomark _))
        (pss_one (ps_ret (pe_tup (pa_cons pe_int (pa_cons pe_int pa_nil)))))
        pss_nil)
      (pss_cons (ps_if (pt_cmpR op_eq (pv 2) pe_int (nomark _))
        (pss_one (ps_ret (pe_tup (pa_cons (pcall d_law_pick hr (pa_cons (pv 0) (pa_cons (pe_lst (pa_cons pe_int (pa_cons (pe_op op_sub pe_int pe_int) (pa_cons (pv 1) (pa_cons (pe_op op_sub pe_int (pv 1)) pa_nil))))) pa_nil))) (pa_cons pe_int pa_nil)))))
        pss_nil)
      (pss_cons (ps_if (pt_cmpR op_eq (pv 2) pe_int (nomark _))
        (pss_one (ps_ret (pcall d_law_frac hr (pa_cons (pcall d_law_pick hr (pa_cons (pv 0) (pa_cons (pe_lst (pa_cons pe_int (pa_cons (pe_op op_sub pe_int pe_int) (pa_cons (pv 1) (pa_cons (pe_op op_sub pe_int (pv 1)) pa_nil))))) pa_nil))) (pa_cons (pv 1) pa_nil)))))
        pss_nil)
      (pss_cons (ps_if (pt_cmpR op_eq (pv 2) pe_int (nomark _))
        (pss_one (ps_ret (pe_tup (pa_cons (pe_op op_sub (pcall d_law_take hr (pa_cons (pv 0) (pa_cons (pe_op op_add (pe_op op_mul pe_int (pv 1)) pe_int) pa_nil))) (pv 1)) (pa_cons pe_int pa_nil)))))
        pss_nil)
      (pss_one (ps_ret (pcall d_law_frac hr (pa_cons (pe_op op_sub (pcall d_law_take hr (pa_cons (pv 0) (pa_cons (pe_op op_add (pe_op op_mul pe_int (pv 1)) pe_int) pa_nil))) (pv 1)) (pa_cons (pe_op op_add pe_int (pcall d_law_take hr (pa_cons (pv 0) (pa_cons (pv 1) pa_nil)))) pa_nil)))))))))), ?_⟩
  refine ⟨_, rfl, s, 6, rfl, hS, by decide, fun r H1 r0 r1 S1 e1 => ?_⟩
  refine ⟨_, rfl, rfl, _, rfl, ifD (fun _ => ?_) (fun _ => ?_)⟩
  · exact ⟨sz2, fun t ht => z _ _ (Qd.new 0 1 0 rfl rfl (by decide) trivial) (S1.same (same_new ht _)) (e1.trans (Fr.of (same_new ht _)))⟩
  refine ⟨_, rfl, rfl, _, rfl, ifD (fun _ => ?_) (fun _ => ?_)⟩
  · refine ⟨_, rfl, _, _, rfl, rfl, _, rfl, _, rfl, _, _, rfl, rfl, sm4, fun p hp => ?_⟩
    refine ⟨s, p, _, rfl, S1.same (same_new hp _), S1.ne hp, SqL.of upd_same, (by show 0 < 4; decide), (by show 4 < 2 ^ 32; decide), fun v H' hv S' e' => ?_⟩
    obtain ⟨n, rfl, hn⟩ : ∃ n : Int, v = .int n ∧ n.natAbs < 2 ^ 40 := by
      simp only [List.mem_cons, List.mem_nil_iff, or_false] at hv
      rcases hv with rfl | rfl | rfl | rfl
      · exact ⟨_, rfl, by omega⟩
      · exact ⟨_, rfl, by omega⟩
      · exact ⟨_, rfl, by omega⟩
      · exact ⟨_, rfl, by omega⟩
    exact ⟨sz2, fun t ht => z _ _ (int_q n hn) (S'.same (same_new ht _)) (e1.trans ((Fr.of (same_new hp _)).trans (e'.trans (Fr.of (same_new ht _)))))⟩
  refine ⟨_, rfl, rfl, _, rfl, ifD (fun _ => ?_) (fun _ => ?_)⟩
  · refine ⟨_, rfl, _, _, rfl, rfl, _, rfl, _, rfl, _, _, rfl, rfl, sm4, fun p hp => ?_⟩
    refine ⟨s, p, _, rfl, S1.same (same_new hp _), S1.ne hp, SqL.of upd_same, (by show 0 < 4; decide), (by show 4 < 2 ^ 32; decide), fun v H' hv S' e' => ?_⟩
    obtain ⟨n, rfl, hn⟩ : ∃ n : Int, v = .int n ∧ n.natAbs < 2 ^ 40 := by
      simp only [List.mem_cons, List.mem_nil_iff, or_false] at hv
      rcases hv with rfl | rfl | rfl | rfl
      · exact ⟨_, rfl, by omega⟩
      · exact ⟨_, rfl, by omega⟩
      · exact ⟨_, rfl, by omega⟩
      · exact ⟨_, rfl, by omega⟩
    refine ⟨_, rfl, n, top, 40, rfl, by omega, hn, by omega, by decide, fun v H'' e hv => z _ _ ⟨_, hv, sz_mk (by omega) hn (by omega), trivial⟩ (S'.same e) (e1.trans ((Fr.of (same_new hp _)).trans (e'.trans (Fr.of e))))⟩
  have m2 : CMul 2 top := .inl ⟨by decide, by decide⟩
  refine ⟨_, rfl, rfl, _, rfl, ifD (fun _ => ?_) (fun _ => ?_)⟩
  · refine ⟨_, rfl, _, rfl, _, _, rfl, rfl, m2, _, _, rfl, rfl, s, _, rfl, S1, by omega, fun r2 H2 r3 r4 S2 e2 => ⟨_, rfl, _, _, rfl, rfl, ?_⟩⟩
    exact ⟨sz2, fun t ht => z _ _ (int_q _ (by omega)) (S2.same (same_new ht _)) (e1.trans (e2.trans (Fr.of (same_new ht _))))⟩
  refine ⟨_, rfl, _, rfl, _, _, rfl, rfl, m2, _, _, rfl, rfl, s, _, rfl, S1, by omega, fun r2 H2 r3 r4 S2 e2 => ⟨_, rfl, _, _, rfl, rfl, ?_⟩⟩
  refine ⟨_, rfl, _, rfl, s, top, rfl, S2, by omega, fun r5 H3 r6 r7 S3 e3 => ⟨_, _, rfl, rfl, ?_⟩⟩
  exact ⟨_, _, 40, rfl, by omega, by omega, by omega, by decide, fun v H' e hv => z _ _ ⟨_, hv, sz_mk (by omega) (by omega) (by omega), trivial⟩ (S3.same e) (e1.trans (e2.trans (e3.trans (Fr.of e))))⟩
end Vk
namespace Vk
open PySem L2 Vm
variable {l : Addr} {P : Program} {w : World} {K : PySem.W.Frag} {mg : Str → Option Value} {base : Heap} {k : Nat} {f f1 f2 f3 f4 f5 f6 f7 f8 f9 : Addr} {fd fd1 fd2 fd3 fd4 fd5 fd6 fd7 fd8 fd9 : FuncData}
/-- while a list of things is being made at D -/
def Bun {α : Type} (R : Hp → V → α → Prop) (l s D : Addr) (H0 : Hp) (us : List V) (c : List α) (G : Hp) : Prop := Sto l s G ∧ Fr s H0 G ∧ D ≠ s ∧ D ≠ l ∧ H0 D = none ∧ G D = some (.lst us) ∧ All2 (R G) us c
section
variable {α : Type} {R : Hp → V → α → Prop} {s D : Addr} {H0 G G' : Hp} {us : List V} {c : List α}
/-- what R says outlives what becomes of a list -/
def Lasts (R : Hp → V → α → Prop) : Prop := ∀ {s : Addr} {H H' : Hp} {x : V} {p : α}, Fr s H H' → (∃ ys, H s = some (.lst ys)) → R H x p → R H' x p
theorem Bun.fr (h : Bun R l s D H0 us c G) (L : Lasts R) (e : Fr s G G') (S : Sto l s G') : Bun R l s D H0 us c G' := by
  obtain ⟨h1, h2, h3, h4, h5, h6, h7⟩ := h
  exact ⟨S, h2.trans e, h3, h4, h5, e _ _ h6 h3, h7.imp fun _ _ r => L e h1.some r⟩
theorem Bun.same (h : Bun R l s D H0 us c G) (L : Lasts R) (e : Same G G') : Bun R l s D H0 us c G' := h.fr L (Fr.of e) (h.1.same e)
theorem Bun.app {x : V} {p : α} (h : Bun R l s D H0 us c G) (L : Lasts R) (r : R G x p) : Bun R l s D H0 (us ++ [x]) (c ++ [p]) (upd G D (.lst (us ++ [x]))) := by
  obtain ⟨h1, h2, h3, h4, h5, h6, h7⟩ := h
  have fr : Fr D G (upd G D (.lst (us ++ [x]))) := Fr.upd _
  refine ⟨h1.upd h3 h4, fun b o hb hn => ?_, h3, h4, h5, upd_same, (h7.imp fun _ _ r => L fr ⟨_, h6⟩ r).snoc (L fr ⟨_, h6⟩ r)⟩
  rw [upd_ne (ne_of_none hb h5)]
  exact h2 b o hb hn
theorem Bun.start (S : Sto l s G) (e : Fr s H0 G) (hD : G D = none) : Bun R l s D H0 [] [] (upd G D (.lst [])) := by
  have nD := S.ne hD
  have f := same_new hD (.lst [])
  exact ⟨S.same f, e.trans (Fr.of f), nD, S.nl hD, e.free hD nD, upd_same, All2.nil⟩
end
theorem Bun.at {α : Type} {R : Hp → V → α → Prop} {s D : Addr} {H0 G : Hp} {us : List V} {c : List α} (h : Bun R l s D H0 us c G) : G D = some (.lst us) := h.2.2.2.2.2.1
theorem Bun.len {α : Type} {R : Hp → V → α → Prop} {s D : Addr} {H0 G : Hp} {us : List V} {c : List α} (h : Bun R l s D H0 us c G) : us.length = c.length := h.2.2.2.2.2.2.1
theorem Bun.all {α : Type} {R : Hp → V → α → Prop} {s D : Addr} {H0 G : Hp} {us : List V} {c : List α} (h : Bun R l s D H0 us c G) : All2 (R G) us c := h.2.2.2.2.2.2
theorem lastsP : Lasts (Pq K) := fun e hs h => h.fr e hs
theorem lastsQ : Lasts (Rq K) := fun e hs h => h.fr e hs
theorem Cok.snoc {c : List Pc} {x : Pc} (h : Cok c) (hx : ∀ p ∈ c, p.s < x.s) (r : 0 < x.r) : Cok (c ++ [x]) := by
  refine ⟨fun p hp => ?_, fun i p q e1 e2 => ?_⟩
  · rcases List.mem_append.mp hp with hp | hp
    · exact h.1 p hp
    · rw [List.mem_singleton.mp hp]
      exact r
  · by_cases hi : i + 1 < c.length
    · rw [List.getElem?_append_left (by omega)] at e1
      rw [List.getElem?_append_left hi] at e2
      exact h.2 i p q e1 e2
    · have hl := (List.getElem?_eq_some_iff.mp e2).1
      rw [List.length_append, List.length_singleton] at hl
      rw [List.getElem?_append_left (by omega)] at e1
      rw [List.getElem?_append_right (by omega)] at e2
      have e0 : i + 1 - c.length = 0 := by omega
      rw [e0] at e2
      cases e2
      exact hx p (List.mem_of_getElem? e1)
theorem Cz.snoc {i j m : Nat} {c : List Pc} {x : Pc} (h : Cz i j m c) (z : Sz i x.s ∧ Sz j x.v ∧ Sz m x.r) : Cz i j m (c ++ [x]) := fun p hp => by
  rcases List.mem_append.mp hp with hp | hp
  · exact h p hp
  · rw [List.mem_singleton.mp hp]
    exact z
theorem lt_add_pos {a b : Rat} (h : 0 < b) : a < a + b := by grind
def spCourse (K : PySem.W.Frag) (l : Addr) : Sp := fun vs H Q _ => ∃ (s : Addr) (many : Nat) (fall : Bool), vs = [.ref s, .int many, .bl fall] ∧ Sto l s H ∧ many ≤ 40 ∧
  ∀ D us c H', Bun (Pq K) l s D H us c H' → c.length = many → Cok c → Cz 245 925 5 c → Q (.ref D) H'
end Vk
namespace Vk
open PySem PySem.Spec PyProof.Rows L2
section
variable {X : Cx}
/-- xs.count(y), data of any depth -/
def rCountD (K : PySem.W.Frag) : V → List V → Hp → VK → Prop := fun x xs H Q => ∃ (a : Addr) (y : V) (d : PyData) (ds : List PyData), x = V.ref a ∧ xs = [y] ∧ Dp K H (V.ref a) (.list ds) ∧ Dp K H y d ∧
  SeqAt.shaped (.list ds) = true ∧ SeqAt.shaped d = true ∧ Q (.int ((ds.countP fun z => PyData.eqv z d : Nat) : Int)) H
theorem mt_countD (hu : X.A.units + 65 < cLine) : MtR X "list.count" (rCountD X.K) := by
  intro pins s σ H x xs v us Q I rx rxs h
  obtain ⟨a, y, d, ds, rfl, rfl, hl, hy, sl, sd, q⟩ := h
  cases rx
  cases rxs with
  | cons ry rt =>
    rename_i uy ut
    cases rt
    obtain ⟨bs, r1⟩ := Dp.reads I d y uy hy ry
    have hxs : PyData.canLayAll0 ds = true := SeqAt.canLay_of_shaped sl
    have hroom : X.A.units + 1 + min (PyData.depthAll ds) d.depth < cLine := room_in_shaped sd hu
    cases hl with
    | lst hs ha =>
      obtain ⟨its, rv, ⟨⟨cls, dd, data, sls⟩, n, ho, hc, hdn, hdt⟩, hlen⟩ := I.list hs
      simp only at hc hdt
      subst hc hdt
      obtain ⟨as, h4⟩ := Dp.readsAll I ds _ its ha rv
      have hmap : its.map (SeqAt.readOf s.heap) = ds := SeqAt.readsAll_map ds its as hxs h4
      refine call_meets PySem.F.slot_list_count ⟨_, ho, rfl⟩ PySem.F.entry_list_count (PySem.F.args_list_count_2 _ _)
        (SeqAt.list_countAt a its.toArray n dd sls uy (fun u => PyData.eqv (SeqAt.readOf s.heap u) d)) ⟨ho, SeqAt.items_eqAt (vs := its.toArray) (show ReadsAll s.heap its.toArray.toList ds as from h4) r1 hxs (SeqAt.canLay_of_shaped sd) hroom, ?_⟩
      refine ⟨.int ((ds.countP fun z => PyData.eqv z d : Nat) : Int), H, I.tok _, ⟨s.toks, ?_⟩, q⟩
      have e : (its.toArray.toList.countP fun u => PyData.eqv (SeqAt.readOf s.heap u) d) = ds.countP fun z => PyData.eqv z d := by
        rw [← hmap, List.countP_map]
        rfl
      show Value.int ((its.toArray.toList.countP (fun u => PyData.eqv (SeqAt.readOf s.heap u) d) : Nat) : Int) s.toks = _
      rw [e]
end
end Vk
namespace Vk
open PySem L2 Vm
variable {l : Addr} {P : Program} {w : World} {K : PySem.W.Frag} {mg : Str → Option Value} {base : Heap} {k : Nat} {f f1 f2 f3 f4 f5 f6 f7 f8 f9 : Addr} {fd fd1 fd2 fd3 fd4 fd5 fd6 fd7 fd8 fd9 : FuncData}
theorem sm1 : 1 ≤ sizeLine := by decide
theorem Bun.made {α : Type} {R : Hp → V → α → Prop} {s D : Addr} {H0 G : Hp} {us : List V} {c : List α} (S : Sto l s G) (e : Fr s H0 G) (hD : G D = none) (h : All2 (R (upd G D (.lst us))) us c) : Bun R l s D H0 us c (upd G D (.lst us)) := by
  have nD := S.ne hD
  have f := same_new hD (.lst us)
  exact ⟨S.same f, e.trans (Fr.of f), nD, S.nl hD, e.free hD nD, upd_same, h⟩
/-- a tracked list with a course -/
def Ct (K : PySem.W.Frag) (H : Hp) (a : Addr) (xs : List V) (c : List Pc) : Prop := H a = some (.lst xs) ∧ All2 (Pq K H) xs c
theorem Ct.cq {H : Hp} {a : Addr} {xs : List V} {c : List Pc} (h : Ct K H a xs c) : Cq K H a c := ⟨xs, SqL.of h.1, h.2⟩
theorem Ct.same {H H' : Hp} {a : Addr} {xs : List V} {c : List Pc} (e : Same H H') (h : Ct K H a xs c) : Ct K H' a xs c := ⟨e _ _ h.1, h.2.imp fun _ _ h => h.same e⟩
theorem Ct.fr {s : Addr} {H H' : Hp} {a : Addr} {xs : List V} {c : List Pc} (e : Fr s H H') (hs : ∃ ys, H s = some (.lst ys)) (n : a ≠ s) (h : Ct K H a xs c) : Ct K H' a xs c := ⟨e _ _ h.1 n, h.2.imp fun _ _ h => h.fr e hs⟩
theorem all2_3 {α : Type} {R : V → α → Prop} {x y z : V} {a b c : α} (h1 : R x a) (h2 : R y b) (h3 : R z c) : All2 R [x, y, z] [a, b, c] := (((All2.nil.snoc h1).snoc h2).snoc h3 : All2 R ([] ++ [x] ++ [y] ++ [z]) ([] ++ [a] ++ [b] ++ [c]))
def spValues (K : PySem.W.Frag) (l : Addr) : Sp := fun vs H Q _ => ∃ (s a : Addr) (xs : List V) (c : List Pc), vs = [.ref s, .ref a] ∧ Sto l s H ∧ a ≠ s ∧ a ≠ l ∧ Ct K H a xs c ∧ Cz 245 925 5 c ∧ 1 ≤ c.length ∧ c.length ≤ 1000 ∧
  ∀ D us qs H', Bun (Rq K) l s D H us qs H' → (∀ q ∈ qs, Sz 2350 q) → 0 < qs.length → qs.length ≤ 100 → Q (.ref D) H'
end Vk
namespace Vk
open PySem L2 Vm
variable {l : Addr} {P : Program} {w : World} {K : PySem.W.Frag} {mg : Str → Option Value} {base : Heap} {k : Nat} {f f1 f2 f3 f4 f5 f6 f7 f8 f9 f10 f11 f12 f13 f14 : Addr} {fd fd1 fd2 fd3 fd4 fd5 fd6 fd7 fd8 fd9 fd10 fd11 fd12 fd13 fd14 : FuncData}
theorem hu65 {k : Nat} {A : Around} (hr : Room k A) : A.units + 65 < cLine := by have := hr.un; omega
/-- a promise with something left open -/
def exS {α : Type} (sp : α → Sp) : Sp := fun vs H Q E => ∃ x, sp x vs H Q E
theorem Def.ex {α : Type} [Inhabited α] {x : Str} {ps : List Str} {sp : α → Sp} (h : ∀ a, Def P w K mg base k x ps (sp a) f fd) : Def P w K mg base k x ps (exS sp) f fd :=
  ⟨⟨fun vs H Q E ⟨a, z⟩ => (h a).ok.len vs H Q E z, fun A outer s H args us vs Q E hr he hb hv ⟨a, z⟩ => (h a).ok.run A outer s H args us vs Q E hr he hb hv z⟩, (h default).m, (h default).kp, (h default).b⟩
theorem ixN_last {n : Nat} (h : 0 < n) {i : Int} (e : i = (n : Int) - 1) : ixN n i = some (n - 1) := by
  subst e
  unfold ixN
  rw [if_pos (by omega), if_pos (by omega)]
  congr 1
  omega
/-! ### data -/
def dpc (p : Pc) : PyData := .tuple [dq p.s, dq p.v, dq p.r]
theorem Pq.dp {H : Hp} {v : V} {p : Pc} (h : Pq K H v p) : Dp K H v (dpc p) := by
  obtain ⟨a, xs, xv, xr, rfl, h, h1, h2, h3⟩ := h
  exact .tup h (.cons h1.dp (.cons h2.dp (.cons h3.dp .nil)))
theorem dpall_of {α : Type} {R : V → α → Prop} {d : α → PyData} {H : Hp} (g : ∀ v p, R v p → Dp K H v (d p)) : ∀ {xs : List V} {c : List α}, All2 R xs c → DpAll K H xs (c.map d)
  | [], [], _ => .nil
  | [], _ :: _, h => absurd h.1 (by simp)
  | _ :: _, [], h => absurd h.1 (by simp)
  | x :: xs, p :: c, h => .cons (g _ _ (h.2 0 x p rfl rfl)) (dpall_of g ⟨by have := h.1; simp at this; exact this, fun i x p a b => h.2 (i + 1) x p a b⟩)
theorem tree_dpc (n : Nat) (p : Pc) : Tree (n + 2) (dpc p) := .tup (by show 3 ≤ 1000; decide) fun d h => by
  simp only [List.mem_cons, List.mem_nil_iff, or_false] at h
  rcases h with rfl | rfl | rfl <;> exact tree_dq _ _
theorem depth_dqs : ∀ T : List Rat, PyData.depthAll (T.map dq) ≤ 2
  | [] => by simp [PyData.depthAll]
  | t :: T => by
    have := depth_dqs T
    simp only [List.map_cons, PyData.depthAll]
    have : (dq t).depth ≤ 2 := by show PyData.depth (.tuple [.int t.num, .int (t.den : Int)]) ≤ 2; simp [PyData.depth, PyData.depthAll]
    omega
theorem lay_dqs : ∀ T : List Rat, PyData.canLayAll0 (T.map dq) = true
  | [] => rfl
  | t :: T => by
    have := lay_dqs T
    show (PyData.canLay0 (dq t) && PyData.canLayAll0 (T.map dq)) = true
    rw [this]
    rfl
theorem sh_dqs (T : List Rat) : SeqAt.shaped (.list (T.map dq)) = true := by
  have h1 := depth_dqs T
  have h2 := lay_dqs T
  show (PyData.canLay0 (.list (T.map dq)) && decide (PyData.depth (.list (T.map dq)) ≤ 64)) = true
  have h3 : PyData.canLay0 (.list (T.map dq)) = true := h2
  have h4 : PyData.depth (.list (T.map dq)) ≤ 64 := by simp only [PyData.depth]; omega
  rw [h3, decide_eq_true h4]
  rfl
/-! ### the course whose last piece is set -/
theorem all2_set {α : Type} {R : V → α → Prop} {xs : List V} {c : List α} {x : V} {p : α} (h : All2 R xs c) (n : Nat) (r : R x p) : All2 R (xs.set n x) (c.set n p) := by
  refine ⟨by rw [List.length_set, List.length_set, h.1], fun i y q a b => ?_⟩
  by_cases e : n = i
  · subst e
    rw [List.getElem?_set] at a b
    simp only [if_true] at a b
    split at a
    · split at b
      · cases a
        cases b
        exact r
      · cases b
    · cases a
  · rw [List.getElem?_set_ne e] at a b
    exact h.2 i y q a b
theorem cok_set {c : List Pc} (ok : Cok c) {n : Nat} {p p' : Pc} (hp : c[n]? = some p) (hs : p'.s = p.s) (hr : p'.r = p.r) : Cok (c.set n p') := by
  have key : ∀ (i : Nat) (x : Pc), (c.set n p')[i]? = some x → ∃ y, c[i]? = some y ∧ x.s = y.s ∧ x.r = y.r := fun i x h => by
    by_cases e : n = i
    · subst e
      rw [List.getElem?_set] at h
      simp only [if_true] at h
      split at h
      · cases h
        exact ⟨p, hp, hs, hr⟩
      · cases h
    · rw [List.getElem?_set_ne e] at h
      exact ⟨x, h, rfl, rfl⟩
  refine ⟨fun x hx => ?_, fun i x y hx hy => ?_⟩
  · obtain ⟨i, hi, rfl⟩ := List.mem_iff_getElem.mp hx
    obtain ⟨y, e1, _, e2⟩ := key i _ (List.getElem?_eq_getElem hi)
    rw [e2]
    exact ok.1 y (List.mem_of_getElem? e1)
  · obtain ⟨x1, a1, b1, _⟩ := key i x hx
    obtain ⟨y1, a2, b2, _⟩ := key (i + 1) y hy
    rw [b1, b2]
    exact ok.2 i x1 y1 a1 a2
theorem cz_set {c : List Pc} {i j j' m : Nat} (cz : Cz i j m c) (hj : j ≤ j') {n : Nat} {p' : Pc} (h : Sz i p'.s ∧ Sz j' p'.v ∧ Sz m p'.r) : Cz i j' m (c.set n p') := fun x hx => by
  rcases List.mem_or_eq_of_mem_set hx with hx | rfl
  · obtain ⟨z1, z2, z3⟩ := cz x hx
    exact ⟨z1, z2.mono hj, z3⟩
  · exact h
/-! ### what stands while the law goes on -/
structure St0 (K : PySem.W.Frag) (l s D1 D2 D3 : Addr) (us1 us2 : List V) (c1 c2 : List Pc) (G : Hp) : Prop where
  st : Sto l s G
  a1 : Ct K G D1 us1 c1
  a2 : Ct K G D2 us2 c2
  a3 : Ct K G D3 us1 c1
  n1 : D1 ≠ s
  n2 : D2 ≠ s
  n3 : D3 ≠ s
  m3 : D3 ≠ l
  n31 : D3 ≠ D1
  n32 : D3 ≠ D2
theorem St0.same {s D1 D2 D3 : Addr} {us1 us2 : List V} {c1 c2 : List Pc} {G G' : Hp} (h : St0 K l s D1 D2 D3 us1 us2 c1 c2 G) (e : Same G G') : St0 K l s D1 D2 D3 us1 us2 c1 c2 G' :=
  { h with st := h.st.same e, a1 := h.a1.same e, a2 := h.a2.same e, a3 := h.a3.same e }
theorem St0.fr {s D1 D2 D3 : Addr} {us1 us2 : List V} {c1 c2 : List Pc} {G G' : Hp} (h : St0 K l s D1 D2 D3 us1 us2 c1 c2 G) (e : Fr s G G') (S : Sto l s G') : St0 K l s D1 D2 D3 us1 us2 c1 c2 G' :=
  { h with st := S, a1 := h.a1.fr e h.st.some h.n1, a2 := h.a2.fr e h.st.some h.n2, a3 := h.a3.fr e h.st.some h.n3 }
theorem St0.app {s D1 D2 D3 D : Addr} {us1 us2 ys zs : List V} {c1 c2 : List Pc} {G : Hp} (h : St0 K l s D1 D2 D3 us1 us2 c1 c2 G) (hD : G D = some (.lst ys)) (ns : D ≠ s) (nl : D ≠ l) (k1 : D1 ≠ D) (k2 : D2 ≠ D) (k3 : D3 ≠ D) : St0 K l s D1 D2 D3 us1 us2 c1 c2 (upd G D (.lst zs)) :=
  { h with st := h.st.upd ns nl, a1 := h.a1.fr (Fr.upd _) ⟨_, hD⟩ k1, a2 := h.a2.fr (Fr.upd _) ⟨_, hD⟩ k2, a3 := h.a3.fr (Fr.upd _) ⟨_, hD⟩ k3 }
/-- a list of rationals -/
def Lq (K : PySem.W.Frag) (G : Hp) (D : Addr) (us : List V) (qs : List Rat) : Prop := G D = some (.lst us) ∧ All2 (Rq K G) us qs
theorem Lq.same {G G' : Hp} {D : Addr} {us : List V} {qs : List Rat} (h : Lq K G D us qs) (e : Same G G') : Lq K G' D us qs := ⟨e _ _ h.1, h.2.imp fun _ _ h => h.same e⟩
theorem Lq.fr {s : Addr} {G G' : Hp} {D : Addr} {us : List V} {qs : List Rat} (h : Lq K G D us qs) (e : Fr s G G') (hs : ∃ ys, G s = some (.lst ys)) (n : D ≠ s) : Lq K G' D us qs := ⟨e _ _ h.1 n, h.2.imp fun _ _ h => h.fr e hs⟩
theorem ne_at {G : Hp} {a b : Addr} {o : HO} (h : G a = some o) (n : G b = none) : a ≠ b := fun e => by rw [e, n] at h; cases h
end Vk
namespace Vk
open PySem L2 Vm
variable {l az : Addr} {P : Program} {w : World} {K : PySem.W.Frag} {mg : Str → Option Value} {base : Heap} {k : Nat} {f f1 f2 f3 f4 f5 f6 f7 f8 f9 : Addr} {fd fd1 fd2 fd3 fd4 fd5 fd6 fd7 fd8 fd9 : FuncData}
/-! ### the program's side -/
structure Zr (K : PySem.W.Frag) (mg : Str → Option Value) (az : Addr) : Prop where
  m : mg "ZERO" = some (.ref az)
  q : ∀ H, Rq K H (.ref az) 0
abbrev s_multiply : Stmt := top 40
abbrev N_multiply : List Str := ["a", "b"]
theorem sc_multiply : FnScope N_multiply ["a", "b"] (defScope s_multiply) := ⟨rfl, rfl, rfl, by decide +kernel, rfl, by decide +kernel, by decide +kernel⟩
abbrev ps_multiply : List Str := ["a", "b"]
theorem ok_multiply (F : Fn K mg "multiply" s_multiply ps_multiply f fd) (drational : Def P w K mg base k "rational" ["n", "d"] (spFrac K) f1 fd1) : Def P w K mg base (k + 1) "multiply" ps_multiply (spOp2 K (· * ·)) f fd := by
  refine ⟨F.F.ok sc_multiply (fun vs H Q E h => ?_) (fun cdv A outer s H vs Q E hr h => ?_), F.m, F.F.kp, F.b⟩
  · obtain ⟨x, y, p, q, m, l, rfl, _⟩ := h
    rfl
  obtain ⟨x, y, p, q, m, l, rfl, ⟨a, rfl, ha⟩, ⟨b, rfl, hb⟩, zp, zq, hm, z⟩ := h
  have m0 := nn zp
  have l0 := nn zq
  refine ⟨_, (pss_one (ps_ret (pcall drational hr (pa_cons (pe_op op_mulW (pe_ix ix_tup (pv 0) pe_int (fun _ _ => rfl)) (pe_ix ix_tup (pv 1) pe_int (fun _ _ => rfl))) (pa_cons (pe_op op_mulW (pe_ix ix_tup (pv 0) pe_int (fun _ _ => rfl)) (pe_ix ix_tup (pv 1) pe_int (fun _ _ => rfl))) pa_nil))))), ?_⟩
  refine ⟨_, rfl, a, _, _, _, rfl, rfl, ha, at0 rfl, _, rfl, b, _, _, _, rfl, rfl, hb, at0 rfl, _, _, rfl, rfl, mulW zp.1 zq.1 m0 l0 (by omega), ?_⟩
  refine ⟨_, rfl, a, _, _, _, rfl, rfl, ha, at1 rfl, _, rfl, b, _, _, _, rfl, rfl, hb, at1 rfl, _, _, rfl, rfl, mulW (dA zp) (dA zq) m0 l0 (by omega), ?_⟩
  refine ⟨_, _, m + l, rfl, dd_pos p q, ab_mul zp.1 zq.1, ab_mul (dA zp) (dA zq), by omega, fun r H' e hr => z r H' e ?_⟩
  rw [mk_mul] at hr
  exact hr
def spShown (K : PySem.W.Frag) : Sp := fun vs H Q _ => ∃ (x y : V) (p : Pc) (t : Rat) (i j l m : Nat), vs = [x, y] ∧ Pq K H x p ∧ Rq K H y t ∧ Sz i p.s ∧ Sz j p.v ∧ Sz l p.r ∧ Sz m t ∧ j + l + m + i + 3 ≤ 9000 ∧
  ∀ r H', Same H H' → Rq K H' r (p.v + p.r * (t - p.s)) → Q r H'
/-- a start and a jump -/
def Jq (K : PySem.W.Frag) (H : Hp) (x : V) (p : Rat × Rat) : Prop := ∃ a xs xj, x = .ref a ∧ SqT K H a [xs, xj] ∧ Rq K H xs p.1 ∧ Rq K H xj p.2
theorem Jq.same {H H' : Hp} {x : V} {p : Rat × Rat} (e : Same H H') (h : Jq K H x p) : Jq K H' x p := by
  obtain ⟨a, xs, xj, rfl, h, h1, h2⟩ := h
  exact ⟨a, xs, xj, rfl, e.sqt h, h1.same e, h2.same e⟩
theorem Jq.fr {s : Addr} {H H' : Hp} {x : V} {p : Rat × Rat} (e : Fr s H H') (hs : ∃ ys, H s = some (.lst ys)) (h : Jq K H x p) : Jq K H' x p := by
  obtain ⟨a, xs, xj, rfl, h, h1, h2⟩ := h
  exact ⟨a, xs, xj, rfl, sqt_fr e hs h, h1.fr e hs, h2.fr e hs⟩
def djp (p : Rat × Rat) : PyData := .tuple [dq p.1, dq p.2]
theorem Jq.dp {H : Hp} {v : V} {p : Rat × Rat} (h : Jq K H v p) : Dp K H v (djp p) := by
  obtain ⟨a, xs, xj, rfl, h, h1, h2⟩ := h
  exact .tup h (.cons h1.dp (.cons h2.dp .nil))
end Vk
namespace Vk
open PySem L2 Vm
variable {l az : Addr} {P : Program} {w : World} {K : PySem.W.Frag} {mg : Str → Option Value} {base : Heap} {k : Nat} {f f1 f2 f3 f4 f5 f6 f7 f8 f9 : Addr} {fd fd1 fd2 fd3 fd4 fd5 fd6 fd7 fd8 fd9 : FuncData}
/-- a start and None -/
def Sn (K : PySem.W.Frag) (H : Hp) (x : V) (q : Rat) : Prop := ∃ a xs, x = .ref a ∧ SqT K H a [xs, .non] ∧ Rq K H xs q
theorem Sn.same {H H' : Hp} {x : V} {q : Rat} (e : Same H H') (h : Sn K H x q) : Sn K H' x q := by
  obtain ⟨a, xs, rfl, h, h1⟩ := h
  exact ⟨a, xs, rfl, e.sqt h, h1.same e⟩
theorem Sn.fr {s : Addr} {H H' : Hp} {x : V} {q : Rat} (e : Fr s H H') (hs : ∃ ys, H s = some (.lst ys)) (h : Sn K H x q) : Sn K H' x q := by
  obtain ⟨a, xs, rfl, h, h1⟩ := h
  exact ⟨a, xs, rfl, sqt_fr e hs h, h1.fr e hs⟩
def spProbes (K : PySem.W.Frag) : Sp := fun vs H Q _ => ∃ (a : Addr) (xs : List V) (qs : List Rat) (m : Nat), vs = [.ref a] ∧ SqL K H a xs ∧ All2 (Sn K H) xs qs ∧ (∀ q ∈ qs, Sz m q) ∧ m ≤ 500 ∧ 1 ≤ qs.length ∧ qs.length ≤ 100 ∧
  ∀ D us ts H', Same H H' → H D = none → H' D = some (.lst us) → All2 (Rq K H') us ts → (∀ t ∈ ts, Sz (m + m + 4) t) → (∃ t ∈ ts, ∀ q ∈ qs, q < t) → ts.length ≤ 400 → Q (.ref D) H'
end Vk
namespace Vk
open PySem L2 Vm Vs
variable {l az : Addr} {P : Program} {w : World} {K : PySem.W.Frag} {mg : Str → Option Value} {base : Heap} {k : Nat} {f f1 f2 f3 f4 f5 f6 f7 f8 f9 : Addr} {fd fd1 fd2 fd3 fd4 fd5 fd6 fd7 fd8 fd9 : FuncData}
/-! ### ends and spans -/
def OSz (m : Nat) (o : Option Rat) : Prop := ∀ q, o = some q → Sz m q
def SSz (m : Nat) (s : Spn) : Prop := OSz m s.1 ∧ OSz m s.2
theorem optV.same {H H' : Hp} {v : V} {o : Option Rat} (e : Same H H') (h : optV K H v o) : optV K H' v o := by
  cases o with
  | none => exact h
  | some q => exact Rq.same e h
theorem optV.fr {s : Addr} {H H' : Hp} {v : V} {o : Option Rat} (e : Fr s H H') (hs : ∃ ys, H s = some (.lst ys)) (h : optV K H v o) : optV K H' v o := by
  cases o with
  | none => exact h
  | some q => exact Rq.fr e hs h
def Spq (K : PySem.W.Frag) (H : Hp) (x : V) (s : Spn) : Prop := ∃ a u v, x = .ref a ∧ SqT K H a [u, v] ∧ optV K H u s.1 ∧ optV K H v s.2
theorem Spq.same {H H' : Hp} {x : V} {s : Spn} (e : Same H H') (h : Spq K H x s) : Spq K H' x s := by
  obtain ⟨a, u, v, rfl, h, h1, h2⟩ := h
  exact ⟨a, u, v, rfl, e.sqt h, h1.same e, h2.same e⟩
theorem Spq.fr {s : Addr} {H H' : Hp} {x : V} {p : Spn} (e : Fr s H H') (hs : ∃ ys, H s = some (.lst ys)) (h : Spq K H x p) : Spq K H' x p := by
  obtain ⟨a, u, v, rfl, h, h1, h2⟩ := h
  exact ⟨a, u, v, rfl, sqt_fr e hs h, h1.fr e hs, h2.fr e hs⟩
def oSp (K : PySem.W.Frag) (H : Hp) (x : V) : Option Spn → Prop
  | none => x = .non
  | some s => Spq K H x s
theorem oSp.same {H H' : Hp} {x : V} {o : Option Spn} (e : Same H H') (h : oSp K H x o) : oSp K H' x o := by
  cases o with
  | none => exact h
  | some q => exact Spq.same e h
theorem osz_max {m : Nat} {a b : Option Rat} (h : OSz m a) (g : OSz m b) : OSz m (maxO a b) := by
  cases a with
  | none => exact g
  | some p => cases b with
    | none => exact h
    | some q =>
      intro r e
      simp only [maxO] at e
      cases Option.some.inj e
      split
      · exact h _ rfl
      · exact g _ rfl
theorem osz_min {m : Nat} {a b : Option Rat} (h : OSz m a) (g : OSz m b) : OSz m (minO a b) := by
  cases a with
  | none => exact g
  | some p => cases b with
    | none => exact h
    | some q =>
      intro r e
      simp only [minO] at e
      cases Option.some.inj e
      split
      · exact h _ rfl
      · exact g _ rfl
theorem osz_mov {m j : Nat} {o : Option Rat} {d : Rat} (h : OSz m o) (g : Sz j d) : OSz (m + j + 1) (movO o d) := by
  cases o with
  | none => nofun
  | some q => intro r e; cases Option.some.inj e; exact (h _ rfl).add g
theorem osz_neg {m : Nat} {o : Option Rat} (h : OSz m o) : OSz m (negO o) := by
  cases o with
  | none => nofun
  | some q => intro r e; cases Option.some.inj e; exact (h _ rfl).neg
theorem osz_up {m j : Nat} {o : Option Rat} (h : OSz m o) (e : m ≤ j) : OSz j o := fun q g => (h q g).mono e
theorem ssz_meet {m : Nat} {a b s : Spn} (h : SSz m a) (g : SSz m b) (e : meetO a b = some s) : SSz m s := by
  unfold meetO at e
  split at e
  · cases e
  · cases e
    exact ⟨osz_max h.1 g.1, osz_min h.2 g.2⟩
theorem ssz_off {x y : Rat} {i j : Nat} {fo ba s : Spn} (hx : Sz j x) (hy : Sz j y) (h : SSz i fo) (g : SSz i ba) (e : offO x y fo ba = some s) : SSz (i + j + 1) s :=
  ssz_meet ⟨osz_mov (osz_neg h.2) hx, osz_mov (osz_neg h.1) hx⟩ ⟨osz_mov g.1 hy, osz_mov g.2 hy⟩ e
/-- the written half -/
structure Hf (K : PySem.W.Frag) (mg : Str → Option Value) (az : Addr) : Prop where
  m : mg "HALF" = some (.ref az)
  q : ∀ H, Rq K H (.ref az) (1 / 2)
/-! ### the lesser and the greater one -/
def spSel (K : PySem.W.Frag) (g : Rat → Rat → Rat) : Sp := fun vs H Q _ => ∃ (x y : V) (p q : Rat) (m l : Nat), vs = [x, y] ∧ Rq K H x p ∧ Rq K H y q ∧ Sz m p ∧ Sz l q ∧ m + l + 1 ≤ 9000 ∧ ∀ v, Rq K H v (g p q) → Q v H
theorem sg_le {p q : Rat} : sg p q ≤ 0 ↔ p ≤ q := by
  unfold sg
  split
  · rename_i h
    subst h
    simp [Rat.le_refl]
  · split
    · rename_i h1 h2
      exact ⟨fun _ => by grind, fun _ => by omega⟩
    · rename_i h1 h2
      exact ⟨fun h => by omega, fun h => absurd h (by grind)⟩
abbrev s_smaller : Stmt := top 45
abbrev N_smaller : List Str := ["a", "b"]
theorem sc_smaller : FnScope N_smaller ["a", "b"] (defScope s_smaller) := ⟨rfl, rfl, rfl, by decide +kernel, rfl, by decide +kernel, by decide +kernel⟩
abbrev ps_smaller : List Str := ["a", "b"]
theorem ok_smaller (F : Fn K mg "smaller" s_smaller ps_smaller f fd) (dcompare : Def P w K mg base k "compare" ["a", "b"] (spTest2 K fun p q => .int (sg p q)) f1 fd1) : Def P w K mg base (k + 1) "smaller" ps_smaller (spSel K fun p q => if p ≤ q then p else q) f fd := by
  refine ⟨F.F.ok sc_smaller (fun vs H Q E h => ?_) (fun cdv A outer s H vs Q E hr h => ?_), F.m, F.F.kp, F.b⟩
  · obtain ⟨x, y, p, q, m, l, rfl, _⟩ := h
    rfl
  obtain ⟨x, y, p, q, m, l, rfl, ha, hb, zp, zq, hm, z⟩ := h
  refine ⟨_, (pss_one (ps_ret (pe_ifExp (pt_cmpR op_le (pcall dcompare hr (pa_cons (pv 0) (pa_cons (pv 1) pa_nil))) pe_int (nomark _)) (pv 0) (pv 1)))), ?_⟩
  refine ⟨_, rfl, _, rfl, x, y, p, q, m, l, rfl, ha, hb, zp, zq, by omega, _, _, rfl, rfl, _, rfl, ifD (fun c => ⟨_, rfl, z _ ?_⟩) (fun c => ⟨_, rfl, z _ ?_⟩)⟩
  · dsimp only; rw [if_pos (sg_le.mp c)]; exact ha
  · dsimp only; rw [if_neg (fun e => c (sg_le.mpr e))]; exact hb
abbrev s_larger : Stmt := top 46
abbrev N_larger : List Str := ["a", "b"]
theorem sc_larger : FnScope N_larger ["a", "b"] (defScope s_larger) := ⟨rfl, rfl, rfl, by decide +kernel, rfl, by decide +kernel, by decide +kernel⟩
abbrev ps_larger : List Str := ["a", "b"]
theorem ok_larger (F : Fn K mg "larger" s_larger ps_larger f fd) (dcompare : Def P w K mg base k "compare" ["a", "b"] (spTest2 K fun p q => .int (sg p q)) f1 fd1) : Def P w K mg base (k + 1) "larger" ps_larger (spSel K fun p q => if q ≤ p then p else q) f fd := by
  refine ⟨F.F.ok sc_larger (fun vs H Q E h => ?_) (fun cdv A outer s H vs Q E hr h => ?_), F.m, F.F.kp, F.b⟩
  · obtain ⟨x, y, p, q, m, l, rfl, _⟩ := h
    rfl
  obtain ⟨x, y, p, q, m, l, rfl, ha, hb, zp, zq, hm, z⟩ := h
  refine ⟨_, (pss_one (ps_ret (pe_ifExp (pt_cmpR op_ge (pcall dcompare hr (pa_cons (pv 0) (pa_cons (pv 1) pa_nil))) pe_int (nomark _)) (pv 0) (pv 1)))), ?_⟩
  refine ⟨_, rfl, _, rfl, x, y, p, q, m, l, rfl, ha, hb, zp, zq, by omega, _, _, rfl, rfl, _, rfl, ifD (fun c => ⟨_, rfl, z _ ?_⟩) (fun c => ⟨_, rfl, z _ ?_⟩)⟩
  · dsimp only; rw [if_pos (sg_ge.mp c)]; exact ha
  · dsimp only; rw [if_neg (fun e => c (sg_ge.mpr e))]; exact hb
def spEnd2 (K : PySem.W.Frag) (g : Option Rat → Option Rat → Option Rat) : Sp := fun vs H Q _ => ∃ (x y : V) (p q : Option Rat) (m : Nat), vs = [x, y] ∧ optV K H x p ∧ optV K H y q ∧ OSz m p ∧ OSz m q ∧ m + m + 1 ≤ 9000 ∧ ∀ v, optV K H v (g p q) → Q v H
def spMeet (K : PySem.W.Frag) : Sp := fun vs H Q _ => ∃ (x y : V) (s t : Spn) (m : Nat), vs = [x, y] ∧ Spq K H x s ∧ Spq K H y t ∧ SSz m s ∧ SSz m t ∧ m + m + 1 ≤ 9000 ∧ ∀ v H', Same H H' → oSp K H' v (meetO s t) → Q v H'
theorem sg_gt {p q : Rat} : 0 < sg p q ↔ q < p := by
  have := @sg_le p q
  constructor
  · intro h; exact Rat.not_le.mp fun e => by have := this.mpr e; omega
  · intro h; exact Int.not_le.mp fun e => absurd (this.mp e) (Rat.not_le.mpr h)
end Vk


namespace Vk
open PySem L2 Vm Vl
variable {l aZERO aONE CB CR fB fR : Addr} {P : Program} {w : World} {K : PySem.W.Frag} {mg : Str → Option Value} {base : Heap} {k : Nat} {f f1 f2 f3 f4 f5 f6 f7 f8 f9 : Addr} {fd fd1 fd2 fd3 fd4 fd5 fd6 fd7 fd8 fd9 : FuncData}
/-- a rational of the module -/
structure Cn (K : PySem.W.Frag) (mg : Str → Option Value) (x : Str) (p : Rat) (a : Addr) : Prop where
  m : mg x = some (.ref a)
  q : ∀ H, Rq K H (.ref a) p
theorem zz1 : Sz 1 (0 : Rat) := by decide +kernel
theorem zo1 : Sz 1 (1 : Rat) := by decide +kernel
def spNB (K : PySem.W.Frag) (CB : Addr) : Sp := fun vs H Q E => ∃ (x : V) (q : Rat) (m : Nat), vs = [x] ∧ Rq K H x q ∧ Sz m q ∧ m ≤ 8000 ∧ (0 ≤ q → Q .non H) ∧ (q < 0 → eV E CB H x)
def spSD (K : PySem.W.Frag) (CR : Addr) : Sp := fun vs H Q E => ∃ (x y : V) (s d : Rat) (m : Nat), vs = [x, y] ∧ Rq K H x s ∧ Rq K H y d ∧ Sz m s ∧ Sz m d ∧ m ≤ 4000 ∧
  (0 < s → s < 1 → 0 ≤ d → d < s → Q .non H) ∧ (s ≤ 0 ∨ 1 ≤ s → eV E CR H x) ∧ (0 < s → s < 1 → d < 0 ∨ s ≤ d → eV E CR H y)
theorem sg_le' {p q : Rat} : sg p q ≤ 0 ↔ p ≤ q := by
  have h := @sg_lt p q
  have g := @sg_ge p q
  constructor
  · intro e
    by_cases z : sg p q < 0
    · have := h.mp z; grind
    · have e0 : sg p q = 0 := by omega
      unfold sg at e0
      split at e0
      · rename_i hh; rw [hh]; exact Rat.le_refl
      · split at e0 <;> omega
  · intro e
    by_cases z : p < q
    · have := h.mpr z; omega
    · have e2 : p = q := by grind
      unfold sg
      rw [if_pos e2]
      omega
/-- the five arguments of a lap -/
structure L5 (K : PySem.W.Frag) (H : Hp) (xb xh xl xs xd : V) (x : A6) (m : Nat) : Prop where
  b : Rq K H xb x.b
  h : Rq K H xh x.h
  l : Rq K H xl x.l
  s : Rq K H xs x.s
  d : Rq K H xd x.d
  zb : Sz m x.b
  zh : Sz m x.h
  zl : Sz m x.l
  zs : Sz m x.s
  zd : Sz m x.d
theorem L5.same {H H' : Hp} {xb xh xl xs xd : V} {x : A6} {m : Nat} (h : L5 K H xb xh xl xs xd x m) (e : Same H H') : L5 K H' xb xh xl xs xd x m := { h with b := h.b.same e, h := h.h.same e, l := h.l.same e, s := h.s.same e, d := h.d.same e }
theorem L5.fr {s : Addr} {H H' : Hp} {xb xh xl xs xd : V} {x : A6} {m : Nat} (h : L5 K H xb xh xl xs xd x m) (e : Fr s H H') (hs : ∃ ys, H s = some (.lst ys)) : L5 K H' xb xh xl xs xd x m := { h with b := h.b.fr e hs, h := h.h.fr e hs, l := h.l.fr e hs, s := h.s.fr e hs, d := h.d.fr e hs }
/-- the first wrong argument: what it wishes of an error -/
def Fault (x : A6) (W : Bool → Nat → Prop) : Prop :=
  (x.b < 0 → W true 0) ∧ (0 ≤ x.b → x.h < 0 → W true 1) ∧ (0 ≤ x.b → 0 ≤ x.h → x.l ≤ 0 → W true 2) ∧ (0 ≤ x.b → 0 ≤ x.h → 0 < x.l → x.s ≤ 0 ∨ 1 ≤ x.s → W false 3) ∧
    (0 ≤ x.b → 0 ≤ x.h → 0 < x.l → 0 < x.s → x.s < 1 → x.d < 0 ∨ x.s ≤ x.d → W false 4)
def eF (E : XK) (CB CR : Addr) (H : Hp) (ys : List V) : Bool → Nat → Prop := fun b i => ∀ y, ys[i]? = some y → eV E (if b = true then CB else CR) H y
def spLap (K : PySem.W.Frag) (CB CR : Addr) : Sp := fun vs H Q E => ∃ (xb xh xl xs xd : V) (x : A6) (m : Nat), vs = [xb, xh, xl, xs, xd] ∧ L5 K H xb xh xl xs xd x m ∧ m ≤ 4000 ∧ (Good x → Q .non H) ∧ Fault x (eF E CB CR H [xb, xh, xl, xs, xd])
def spBehind (K : PySem.W.Frag) : Sp := fun vs H Q _ => ∃ (xb xh xl xs xd : V) (x : A6) (m : Nat), vs = [xb, xh, xl, xs, xd] ∧ L5 K H xb xh xl xs xd x m ∧ m ≤ 1500 ∧ ∀ v H', Same H H' → Rq K H' v (nextB x x.b) → Q v H'
def spAfter (K : PySem.W.Frag) (CB CR : Addr) : Sp := fun vs H Q E => ∃ (xb xh xl xs xd : V) (x : A6) (m : Nat), vs = [xb, xh, xl, xs, xd] ∧ L5 K H xb xh xl xs xd x m ∧ m ≤ 1500 ∧ (Good x → ∀ v H', Same H H' → Rq K H' v (nextB x x.b) → Q v H') ∧ Fault x (eF E CB CR H [xb, xh, xl, xs, xd])
end Vk
namespace Vk
open PySem L2 Vm Vl
variable {l aZERO aONE CB CR fB fR : Addr} {P : Program} {w : World} {K : PySem.W.Frag} {mg : Str → Option Value} {base : Heap} {k : Nat} {f f1 f2 f3 f4 f5 f6 f7 f8 f9 : Addr} {fd fd1 fd2 fd3 fd4 fd5 fd6 fd7 fd8 fd9 : FuncData}
/-! ### rates -/
def ab (q : Rat) : Rat := if q < 0 then -q else q
theorem ab_num (q : Rat) : (ab q).num = if q.num < 0 then -q.num else q.num := by
  unfold ab
  have h : q < 0 ↔ q.num < 0 := by rw [← Rat.not_le, ← Rat.num_nonneg]; omega
  by_cases c : q < 0
  · rw [if_pos c, if_pos (h.mp c), Rat.neg_num]
  · rw [if_neg c, if_neg fun e => c (h.mpr e)]
theorem ab_den (q : Rat) : (ab q).den = q.den := by
  unfold ab
  split
  · exact Rat.neg_den q
  · rfl
theorem Sz.ab {m : Nat} {q : Rat} (h : Sz m q) : Sz m (ab q) := by
  unfold Vk.ab
  split
  · exact h.neg
  · exact h
theorem rq_ab {H : Hp} {t : Addr} {q : Rat} : Rq K (upd H t (.tup [.int (if q.num < 0 then -q.num else q.num), .int q.den])) (.ref t) (ab q) := by
  refine ⟨t, rfl, ?_⟩
  rw [ab_num, ab_den]
  exact SqT.of upd_same
abbrev s_distance : Stmt := top 43
abbrev N_distance : List Str := ["a", "b", "gap"]
theorem sc_distance : FnScope N_distance ["a", "b"] (defScope s_distance) := ⟨rfl, rfl, rfl, by decide +kernel, rfl, by decide +kernel, by decide +kernel⟩
abbrev ps_distance : List Str := ["a", "b"]
theorem ok_distance (T : Bn mg) (F : Fn K mg "distance" s_distance ps_distance f fd) (dsubtract : Def P w K mg base k "subtract" ["a", "b"] (spOp2 K (· - ·)) f1 fd1) : Def P w K mg base (k + 1) "distance" ps_distance (spOp2 K fun p q => ab (p - q)) f fd := by
  refine ⟨F.F.ok sc_distance (fun vs H Q E h => ?_) (fun cdv A outer s H vs Q E hr h => ?_), F.m, F.F.kp, F.b⟩
  · obtain ⟨x, y, p, q, m, l, rfl, _⟩ := h
    rfl
  obtain ⟨x, y, p, q, m, l, rfl, hx, hy, zp, zq, hm, z⟩ := h
  refine ⟨_, (pss_cons (ps_set (i := 2) sc_distance.nd rfl (Or.inl rfl) (pcall dsubtract hr (pa_cons (pv 0) (pa_cons (pv 1) pa_nil))))
      (pss_one (ps_ret (pe_tup (pa_cons (pe_callB call_abs (by rfl) T.abs_ (by decide +kernel) (pa_cons (pe_ix ix_tup (pv 2) pe_int (fun _ _ => rfl)) pa_nil)) (pa_cons (pe_ix ix_tup (pv 2) pe_int (fun _ _ => rfl)) pa_nil)))))), ?_⟩
  refine ⟨_, rfl, _, rfl, x, y, p, q, m, l, rfl, hx, hy, zp, zq, hm, fun v H1 e1 ⟨a, ea, ha⟩ => ?_⟩
  subst ea
  refine ⟨_, rfl, a, _, _, _, rfl, rfl, ha, at0 rfl, _, rfl, _, rfl, a, _, _, _, rfl, rfl, ha, at1 rfl, sz2, fun t ht => ?_⟩
  exact z _ _ (e1.trans (same_new ht _)) rq_ab
def spRates (K : PySem.W.Frag) (CR : Addr) : Sp := fun vs H Q E => ∃ (x y : V) (s d : Rat) (m : Nat), vs = [x, y] ∧ Rq K H x s ∧ Rq K H y d ∧ Sz m s ∧ Sz m d ∧ m ≤ 2000 ∧
  (0 < s → s ≤ d → Q .non H) ∧ (s ≤ 0 → eV E CR H x) ∧ (0 < s → d < s → eV E CR H y)
/-- the drift between two rates -/
def dri (s d : Rat) : Rat := if ab (1 - 1 / s) ≤ ab (1 - 1 / d) then ab (1 - 1 / d) else ab (1 - 1 / s)
def spDrift (K : PySem.W.Frag) (CR : Addr) : Sp := fun vs H Q E => ∃ (x y : V) (s d : Rat) (m : Nat), vs = [x, y] ∧ Rq K H x s ∧ Rq K H y d ∧ Sz m s ∧ Sz m d ∧ m ≤ 2000 ∧
  (0 < s → s ≤ d → ∀ v H', Same H H' → Rq K H' v (dri s d) → Q v H') ∧ (s ≤ 0 → eV E CR H x) ∧ (0 < s → d < s → eV E CR H y)
/-- wrong rates, and which of them is told -/
def Br (K : PySem.W.Frag) (H : Hp) (v : V) : Prop := ∃ r x y t u s d, v = .ref r ∧ SqT K H r [x, y, .ref t] ∧ SqT K H t [.str "BadRate", u] ∧ Rq K H x s ∧ Rq K H y d ∧ Sz 40 s ∧ Sz 40 d ∧ ((s ≤ 0 ∧ u = x) ∨ (0 < s ∧ d < s ∧ u = y))
end Vk


namespace Vk
open PySem L2 Vm Vl
variable {K : PySem.W.Frag}
/-- a comprehension over a list: what each item gives, if it gives anything -/
theorem lcAll {α β : Type} {R : Hp → V → α → Prop} {R' : Hp → V → β → Prop} (L : Lasts R') (φ : α → Option β) {a : Addr} {xs : List V} {c : List α} {H : Hp} {g : TG} {tt : TT} {te : TE} {vs : List Nat} {σ : L2.St} {Qd : Hp → Prop} {D : Addr} (hD : H D = none)
    (hx : SqL K H a xs) (hc : All2 (R H) xs c) (hl : c.length ≤ 1000)
    (hs : ∀ (i : Nat) x p G, c[i]? = some p → R H x p → Same H G → ∀ (Y : V → Hp → Prop) (N : Hp → Prop), (∀ y G' b, Same G G' → φ p = some b → R' G' y b → Y y G') → (∀ G', φ p = none → Same G G' → N G') →
      g x (wipe σ vs) G fun σ2 H2 => wipe σ2 vs = wipe σ vs ∧ tt σ2 H2 fun b H3 => if b = true then te σ2 H3 Y else N H3)
    (hd : ∀ us H', Same H H' → H' D = some (.lst us) → All2 (R' H') us (c.filterMap φ) → Qd H') :
    ∃ W : Nat → Nat → Hp → Prop, (∃ m, W 0 m (upd H D (.lst []))) ∧ ∀ i m H, W i m H →
      ((Itl K a).stop i H ∧ Qd H) ∨ ((Itl K a).go i H ∧ ∃ Nx : Hp → Prop, (∀ H', Nx H' → ∃ m', m' < m ∧ W (i + 1) m' H') ∧ ∀ x H', (Itl K a).yld i H x H' → g x (wipe σ vs) H' fun σ2 H2 => wipe σ2 vs = wipe σ vs ∧ tt σ2 H2 fun b H3 =>
        if b = true then te σ2 H3 fun y H4 => ∃ acc, H4 D = some (.lst acc) ∧ acc.length < sizeLine ∧ Nx (upd H4 D (.lst (acc ++ [y]))) else Nx H3) := by
  refine lc_list (xs := xs) (fun i G => ∃ acc, G D = some (.lst acc) ∧ Same H G ∧ All2 (R' G) acc ((c.take i).filterMap φ)) ⟨[], upd_same, same_new hD _, by rw [List.take_zero]; exact All2.nil⟩ (fun i G _ h => by obtain ⟨_, _, s1, _⟩ := h; exact s1.seq hx) ?_ ?_
  · rintro i x G hxi ⟨acc, h1, s1, h2⟩
    have hi : i < c.length := by have := (List.getElem?_eq_some_iff.mp hxi).1; rw [hc.1] at this; exact this
    have ec : c[i]? = some c[i] := List.getElem?_eq_getElem hi
    have et : c.take (i + 1) = c.take i ++ [c[i]] := by rw [List.take_add_one, ec]; rfl
    refine hs i x c[i] G ec (hc.2 i x _ hxi ec) s1 _ _ (fun y G' b e1 eb r => ?_) (fun G' eb e1 => ?_)
    · have hD2 := e1 _ _ h1
      have fr : Fr D G' (upd G' D (.lst (acc ++ [y]))) := Fr.upd _
      refine ⟨acc, hD2, ?_, acc ++ [y], upd_same, same_upd (s1.trans e1) hD _, ?_⟩
      · have q := h2.1
        have q2 := List.length_filterMap_le φ (c.take i)
        rw [List.length_take] at q2
        have : sizeLine = 16777216 := sizeLine_eq
        omega
      · rw [et, List.filterMap_append]
        have : [c[i]].filterMap φ = [b] := by simp [List.filterMap, eb]
        rw [this]
        exact (h2.imp fun _ _ q => L fr ⟨_, hD2⟩ (L (Fr.of (s := D) e1) ⟨_, h1⟩ q)).snoc (L fr ⟨_, hD2⟩ r)
    · refine ⟨acc, e1 _ _ h1, s1.trans e1, ?_⟩
      rw [et, List.filterMap_append]
      have : [c[i]].filterMap φ = [] := by simp [List.filterMap, eb]
      rw [this, List.append_nil]
      exact h2.imp fun _ _ q => L (Fr.of (s := D) e1) ⟨_, h1⟩ q
  · rintro G ⟨acc, h1, s1, h2⟩
    rw [List.take_of_length_le (by rw [hc.1]; exact Nat.le_refl _)] at h2
    exact hd acc G s1 h1 h2
/-- a comprehension over a tuple: what each item gives, if it gives anything -/
theorem lcAllT {α β : Type} {R : Hp → V → α → Prop} {R' : Hp → V → β → Prop} (L : Lasts R') (φ : α → Option β) {a : Addr} {xs : List V} {c : List α} {H : Hp} {g : TG} {tt : TT} {te : TE} {vs : List Nat} {σ : L2.St} {Qd : Hp → Prop} {D : Addr} (hD : H D = none)
    (hx : SqT K H a xs) (hc : All2 (R H) xs c) (hl : c.length ≤ 1000)
    (hs : ∀ (i : Nat) x p G, c[i]? = some p → R H x p → Same H G → ∀ (Y : V → Hp → Prop) (N : Hp → Prop), (∀ y G' b, Same G G' → φ p = some b → R' G' y b → Y y G') → (∀ G', φ p = none → Same G G' → N G') →
      g x (wipe σ vs) G fun σ2 H2 => wipe σ2 vs = wipe σ vs ∧ tt σ2 H2 fun b H3 => if b = true then te σ2 H3 Y else N H3)
    (hd : ∀ us H', Same H H' → H' D = some (.lst us) → All2 (R' H') us (c.filterMap φ) → Qd H') :
    ∃ W : Nat → Nat → Hp → Prop, (∃ m, W 0 m (upd H D (.lst []))) ∧ ∀ i m H, W i m H →
      ((Itt K a).stop i H ∧ Qd H) ∨ ((Itt K a).go i H ∧ ∃ Nx : Hp → Prop, (∀ H', Nx H' → ∃ m', m' < m ∧ W (i + 1) m' H') ∧ ∀ x H', (Itt K a).yld i H x H' → g x (wipe σ vs) H' fun σ2 H2 => wipe σ2 vs = wipe σ vs ∧ tt σ2 H2 fun b H3 =>
        if b = true then te σ2 H3 fun y H4 => ∃ acc, H4 D = some (.lst acc) ∧ acc.length < sizeLine ∧ Nx (upd H4 D (.lst (acc ++ [y]))) else Nx H3) := by
  refine lc_tup (xs := xs) (fun i G => ∃ acc, G D = some (.lst acc) ∧ Same H G ∧ All2 (R' G) acc ((c.take i).filterMap φ)) ⟨[], upd_same, same_new hD _, by rw [List.take_zero]; exact All2.nil⟩ (fun i G _ h => by obtain ⟨_, _, s1, _⟩ := h; exact s1.sqt hx) ?_ ?_
  · rintro i x G hxi ⟨acc, h1, s1, h2⟩
    have hi : i < c.length := by have := (List.getElem?_eq_some_iff.mp hxi).1; rw [hc.1] at this; exact this
    have ec : c[i]? = some c[i] := List.getElem?_eq_getElem hi
    have et : c.take (i + 1) = c.take i ++ [c[i]] := by rw [List.take_add_one, ec]; rfl
    refine hs i x c[i] G ec (hc.2 i x _ hxi ec) s1 _ _ (fun y G' b e1 eb r => ?_) (fun G' eb e1 => ?_)
    · have hD2 := e1 _ _ h1
      have fr : Fr D G' (upd G' D (.lst (acc ++ [y]))) := Fr.upd _
      refine ⟨acc, hD2, ?_, acc ++ [y], upd_same, same_upd (s1.trans e1) hD _, ?_⟩
      · have q := h2.1
        have q2 := List.length_filterMap_le φ (c.take i)
        rw [List.length_take] at q2
        have : sizeLine = 16777216 := sizeLine_eq
        omega
      · rw [et, List.filterMap_append]
        have : [c[i]].filterMap φ = [b] := by simp [List.filterMap, eb]
        rw [this]
        exact (h2.imp fun _ _ q => L fr ⟨_, hD2⟩ (L (Fr.of (s := D) e1) ⟨_, h1⟩ q)).snoc (L fr ⟨_, hD2⟩ r)
    · refine ⟨acc, e1 _ _ h1, s1.trans e1, ?_⟩
      rw [et, List.filterMap_append]
      have : [c[i]].filterMap φ = [] := by simp [List.filterMap, eb]
      rw [this, List.append_nil]
      exact h2.imp fun _ _ q => L (Fr.of (s := D) e1) ⟨_, h1⟩ q
  · rintro G ⟨acc, h1, s1, h2⟩
    rw [List.take_of_length_le (by rw [hc.1]; exact Nat.le_refl _)] at h2
    exact hd acc G s1 h1 h2
theorem forL {a : Addr} {xs : List V} {g : TG} {tb : TS} {nx : L2.St → Hp → Prop} {rt : VK} {σ : L2.St} {H : Hp} (Pv : Nat → L2.St → Hp → Prop) (h0 : Pv 0 σ H) (hl : ∀ i σ H, i ≤ xs.length → Pv i σ H → SqL K H a xs) (hs : ∀ i x σ H, xs[i]? = some x → Pv i σ H → g x σ H fun σ2 H2 => tb { nx := Pv (i + 1), rt := rt, bk := nx, ct := Pv (i + 1) } σ2 H2)
    (hd : ∀ σ H, Pv xs.length σ H → nx σ H) :
    ∃ W : Nat → Nat → L2.St → Hp → Prop, (∃ m, W 0 m σ H) ∧ ∀ i m σ H, W i m σ H →
      ((Itl K a).stop i H ∧ nx σ H) ∨ ((Itl K a).go i H ∧ ∃ N : L2.St → Hp → Prop, (∀ σ' H', N σ' H' → ∃ m', m' < m ∧ W (i + 1) m' σ' H') ∧ ∀ x H', (Itl K a).yld i H x H' → g x σ H' fun σ2 H2 => tb { nx := N, rt := rt, bk := nx, ct := N } σ2 H2) :=
  for_list (D := { nx := nx, rt := rt }) Pv h0 hl hs hd
theorem forT {a : Addr} {xs : List V} {g : TG} {tb : TS} {nx : L2.St → Hp → Prop} {rt : VK} {σ : L2.St} {H : Hp} (Pv : Nat → L2.St → Hp → Prop) (h0 : Pv 0 σ H) (hl : ∀ i σ H, i ≤ xs.length → Pv i σ H → SqT K H a xs) (hs : ∀ i x σ H, xs[i]? = some x → Pv i σ H → g x σ H fun σ2 H2 => tb { nx := Pv (i + 1), rt := rt, bk := nx, ct := Pv (i + 1) } σ2 H2)
    (hd : ∀ σ H, Pv xs.length σ H → nx σ H) :
    ∃ W : Nat → Nat → L2.St → Hp → Prop, (∃ m, W 0 m σ H) ∧ ∀ i m σ H, W i m σ H →
      ((Itt K a).stop i H ∧ nx σ H) ∨ ((Itt K a).go i H ∧ ∃ N : L2.St → Hp → Prop, (∀ σ' H', N σ' H' → ∃ m', m' < m ∧ W (i + 1) m' σ' H') ∧ ∀ x H', (Itt K a).yld i H x H' → g x σ H' fun σ2 H2 => tb { nx := N, rt := rt, bk := nx, ct := N } σ2 H2) :=
  for_tup (D := { nx := nx, rt := rt }) Pv h0 hl hs hd
theorem forR {lo : Int} {n : Nat} {g : TG} {tb : TS} {nx : L2.St → Hp → Prop} {rt : VK} {σ : L2.St} {H : Hp} (Pv : Nat → L2.St → Hp → Prop) (h0 : Pv 0 σ H) (hs : ∀ i σ H, i < n → Pv i σ H → g (.int (lo + i)) σ H fun σ2 H2 => tb { nx := Pv (i + 1), rt := rt, bk := nx, ct := Pv (i + 1) } σ2 H2)
    (hd : ∀ σ H, Pv n σ H → nx σ H) :
    ∃ W : Nat → Nat → L2.St → Hp → Prop, (∃ m, W 0 m σ H) ∧ ∀ i m σ H, W i m σ H →
      ((Itr lo n).stop i H ∧ nx σ H) ∨ ((Itr lo n).go i H ∧ ∃ N : L2.St → Hp → Prop, (∀ σ' H', N σ' H' → ∃ m', m' < m ∧ W (i + 1) m' σ' H') ∧ ∀ x H', (Itr lo n).yld i H x H' → g x σ H' fun σ2 H2 => tb { nx := N, rt := rt, bk := nx, ct := N } σ2 H2) :=
  for_range (D := { nx := nx, rt := rt }) Pv h0 hs hd
theorem forE {a : Addr} {xs : List V} {g : TG} {tb : TS} {nx : L2.St → Hp → Prop} {rt : VK} {σ : L2.St} {H : Hp} (Pv : Nat → L2.St → Hp → Prop) (h0 : Pv 0 σ H) (hq : ∀ i σ H, Pv i σ H → SqL K H a xs) (hs : ∀ (i : Nat) (x : V) (T : Addr) (σ : L2.St) (H : Hp), xs[i]? = some x → Pv i σ H → H T = none → g (.ref T) σ (upd H T (.tup [.int (i : Nat), x])) fun σ2 H2 => tb { nx := Pv (i + 1), rt := rt, bk := nx, ct := Pv (i + 1) } σ2 H2)
    (hd : ∀ σ H, Pv xs.length σ H → nx σ H) :
    ∃ W : Nat → Nat → L2.St → Hp → Prop, (∃ m, W 0 m σ H) ∧ ∀ i m σ H, W i m σ H →
      ((Ite K a).stop i H ∧ nx σ H) ∨ ((Ite K a).go i H ∧ ∃ N : L2.St → Hp → Prop, (∀ σ' H', N σ' H' → ∃ m', m' < m ∧ W (i + 1) m' σ' H') ∧ ∀ v H', (Ite K a).yld i H v H' → g v σ H' fun σ2 H2 => tb { nx := N, rt := rt, bk := nx, ct := N } σ2 H2) :=
  for_enum (D := { nx := nx, rt := rt }) Pv h0 hq hs hd
theorem ifN {p : Prop} [Decidable p] {A B : Prop} (h1 : ¬ p → A) (h2 : p → B) : if (!decide p) = true then A else B := by
  by_cases h : p
  · rw [decide_eq_true h]; exact h2 h
  · rw [decide_eq_false h]; exact h1 h
def odp : Option Rat → PyData
  | none => .none
  | some q => dq q
theorem optV.dp {H : Hp} {v : V} {o : Option Rat} (h : optV K H v o) : Dp K H v (odp o) := by
  cases o with
  | none =>
    have h : v = .non := h
    rw [h]
    exact .non
  | some q => exact Rq.dp h
theorem sh_odp (o : Option Rat) : SeqAt.shaped (odp o) = true := by cases o <;> rfl
theorem eqv_odp (o u : Option Rat) : PyData.eqv (odp o) (odp u) = decide (o = u) := by
  cases o with
  | none =>
    cases u with
    | none => rfl
    | some q => rfl
  | some p =>
    cases u with
    | none => rfl
    | some q =>
      show PyData.eqv (dq p) (dq q) = _
      rw [eqv_dq]
      by_cases h : p = q
      · rw [dT h, dT (congrArg some h)]
      · rw [dF h, dF fun e => h (Option.some.inj e)]
theorem eqv_odq (o : Option Rat) (q : Rat) : PyData.eqv (odp o) (dq q) = decide (o = some q) := eqv_odp o (some q)
theorem treeAll_nil {n : Nat} : ∀ d ∈ ([] : List PyData), Tree n d := nofun
theorem treeAll_cons {n : Nat} {d : PyData} {ds : List PyData} (h : Tree n d) (g : ∀ d ∈ ds, Tree n d) : ∀ e ∈ d :: ds, Tree n e := fun e he => by
  rcases List.mem_cons.mp he with rfl | he
  · exact h
  · exact g e he
theorem ifNT {p : Prop} [Decidable p] {A B : Prop} (h : ¬ p) (hA : A) : if (!decide p) = true then A else B := by rw [decide_eq_false h]; exact hA
theorem ifNF {p : Prop} [Decidable p] {A B : Prop} (h : p) (hB : B) : if (!decide p) = true then A else B := by rw [decide_eq_true h]; exact hB
theorem optV_rq {H : Hp} {v : V} {o : Option Rat} {q : Rat} (h : optV K H v o) (e : o = some q) : Rq K H v q := by subst e; exact h
theorem aQd {l s : Addr} {m : Nat} {ok : Rat → Prop} {H : Hp} {Q : VK} (h : ∀ a q H', Rq K H' (.ref a) q → SqT K H' a [.int q.num, .int (q.den : Int)] → Sz m q → ok q → Sto l s H' → Fr s H H' → Q (.ref a) H') : ∀ v H', Qd K m ok H' v → Sto l s H' → Fr s H H' → Q v H' := fun v H' hq S e => by
  obtain ⟨q, hr, z, o⟩ := hq
  obtain ⟨a, rfl, ha⟩ := id hr
  exact h a q H' hr ha z o S e
theorem aRq0 {q : Rat} {H : Hp} {Q : VK} (h : ∀ a, Rq K H (.ref a) q → SqT K H a [.int q.num, .int (q.den : Int)] → Q (.ref a) H) : ∀ v, Rq K H v q → Q v H := fun v hq => by
  obtain ⟨a, rfl, ha⟩ := id hq
  exact h a hq ha
structure Hold (p : Prop) : Prop where
  out : p
theorem rl11 {H : Hp} {t : Addr} : Rq K (upd H t (.tup [.int 1, .int 1])) (.ref t) (1) := rq_new 1 1 _ (by decide +kernel) (by decide +kernel)
theorem zl11 : Sz 10 (1 : Rat) := by decide +kernel
theorem rl12 {H : Hp} {t : Addr} : Rq K (upd H t (.tup [.int 1, .int 2])) (.ref t) (mkRat 1 2) := rq_new 1 2 _ (by decide +kernel) (by decide +kernel)
theorem zl12 : Sz 10 (mkRat 1 2 : Rat) := by decide +kernel
theorem rl01 {H : Hp} {t : Addr} : Rq K (upd H t (.tup [.int 0, .int 1])) (.ref t) (0) := rq_new 0 1 _ (by decide +kernel) (by decide +kernel)
theorem zl01 : Sz 10 (0 : Rat) := by decide +kernel
theorem rl1m {H : Hp} {t : Addr} : Rq K (upd H t (.tup [.int 1, .int 1000])) (.ref t) (mkRat 1 1000) := rq_new 1 1000 _ (by decide +kernel) (by decide +kernel)
theorem zl1m : Sz 10 (mkRat 1 1000 : Rat) := by decide +kernel
theorem rlnm {H : Hp} {t : Addr} : Rq K (upd H t (.tup [.int (-1), .int 1000])) (.ref t) (mkRat (-1) 1000) := rq_new (-1) 1000 _ (by decide +kernel) (by decide +kernel)
theorem zlnm : Sz 10 (mkRat (-1) 1000 : Rat) := by decide +kernel
theorem rln1 {H : Hp} {t : Addr} : Rq K (upd H t (.tup [.int (-1), .int 1])) (.ref t) (-1) := rq_new (-1) 1 _ (by decide +kernel) (by decide +kernel)
theorem zln1 : Sz 10 (-1 : Rat) := by decide +kernel
theorem rlh1 {H : Hp} {t : Addr} : Rq K (upd H t (.tup [.int 100, .int 1])) (.ref t) (100) := rq_new 100 1 _ (by decide +kernel) (by decide +kernel)
theorem zlh1 : Sz 10 (100 : Rat) := by decide +kernel
/-- a list that grows -/
structure Gw {α : Type} (R : Hp → V → α → Prop) (H : Hp) (D : Addr) (us : List V) (os : List α) (G : Hp) : Prop where
  fresh : H D = none
  same : Same H G
  at_ : G D = some (.lst us)
  all : All2 (R G) us os
theorem Gw.go {α : Type} {R : Hp → V → α → Prop} {H G G1 : Hp} {D : Addr} {us : List V} {os : List α} (L : Lasts R) (h : Gw R H D us os G) (e : Same G G1) : Gw R H D us os G1 :=
  ⟨h.fresh, h.same.trans e, e _ _ h.at_, h.all.imp fun _ _ q => L (Fr.of (s := D) e) ⟨_, h.at_⟩ q⟩
theorem Gw.app {α : Type} {R : Hp → V → α → Prop} {H G : Hp} {D : Addr} {us : List V} {os : List α} {x : V} {q : α} (L : Lasts R) (h : Gw R H D us os G) (r : R G x q) : Gw R H D (us ++ [x]) (os ++ [q]) (upd G D (.lst (us ++ [x]))) :=
  ⟨h.fresh, same_upd h.same h.fresh _, upd_same, (h.all.imp fun _ _ q => L (Fr.upd _) ⟨_, h.at_⟩ q).snoc (L (Fr.upd _) ⟨_, h.at_⟩ r)⟩
theorem appGw {α : Type} {R : Hp → V → α → Prop} {H G : Hp} {D : Addr} {us : List V} {os : List α} {x : V} {q : α} {C : Addr → List V → V → Prop} (L : Lasts R) (gw : Gw R H D us os G) (r : R G x q) (hl : us.length < sizeLine) (k : Gw R H D (us ++ [x]) (os ++ [q]) (upd G D (.lst (us ++ [x]))) → Fr D G (upd G D (.lst (us ++ [x]))) → C D us x) :
    ∃ (l : Addr) (xs : List V) (y : V), V.ref D = .ref l ∧ [x] = [y] ∧ G l = some (.lst xs) ∧ xs.length < sizeLine ∧ C l xs y := ⟨D, us, x, rfl, rfl, gw.at_, hl, k (gw.app L r) (Fr.upd _)⟩
theorem Gw.start {α : Type} {R : Hp → V → α → Prop} {H G : Hp} {D : Addr} (e : Same H G) (h : G D = none) : Gw R H D [] [] (upd G D (.lst [])) := ⟨sameFree e h, e.trans (same_new h _), upd_same, All2.nil⟩
end Vk

set_option maxHeartbeats 4000000
namespace Vk
open PySem L2 Vm Vl
variable {cZeroDivisor cBadNumber cEmptySpan cBeforeStart cTurnsBack cBadRate cBadBound cBadName cDuplicateName cUnknownName cBadLink cUnknownLink cBadNote cUnknownMoment cNoWorld cOutsideSpan cTooManyLiars cRootFollows cCondemned cBadDate cBadLeap cBadLabel cNoSuchSecond cBadCells cRefusedEntry cDuplicateTag cUnknownTag cBadLine cNothingToUndo cNothingToRedo cVerdictError : Addr} {P : Program} {w : World} {K : PySem.W.Frag} {mg : Str → Option Value} {base : Heap} {k : Nat} {f : Addr} {fd : FuncData}
/-- the classes of errors by their names -/
structure CG (mg : Str → Option Value) (cZeroDivisor cBadNumber cEmptySpan cBeforeStart cTurnsBack cBadRate cBadBound cBadName cDuplicateName cUnknownName cBadLink cUnknownLink cBadNote cUnknownMoment cNoWorld cOutsideSpan cTooManyLiars cRootFollows cCondemned cBadDate cBadLeap cBadLabel cNoSuchSecond cBadCells cRefusedEntry cDuplicateTag cUnknownTag cBadLine cNothingToUndo cNothingToRedo cVerdictError : Addr) : Prop where
  gZeroDivisor : mg "ZeroDivisor" = some (.ref cZeroDivisor)
  gBadNumber : mg "BadNumber" = some (.ref cBadNumber)
  gEmptySpan : mg "EmptySpan" = some (.ref cEmptySpan)
  gBeforeStart : mg "BeforeStart" = some (.ref cBeforeStart)
  gTurnsBack : mg "TurnsBack" = some (.ref cTurnsBack)
  gBadRate : mg "BadRate" = some (.ref cBadRate)
  gBadBound : mg "BadBound" = some (.ref cBadBound)
  gBadName : mg "BadName" = some (.ref cBadName)
  gDuplicateName : mg "DuplicateName" = some (.ref cDuplicateName)
  gUnknownName : mg "UnknownName" = some (.ref cUnknownName)
  gBadLink : mg "BadLink" = some (.ref cBadLink)
  gUnknownLink : mg "UnknownLink" = some (.ref cUnknownLink)
  gBadNote : mg "BadNote" = some (.ref cBadNote)
  gUnknownMoment : mg "UnknownMoment" = some (.ref cUnknownMoment)
  gNoWorld : mg "NoWorld" = some (.ref cNoWorld)
  gOutsideSpan : mg "OutsideSpan" = some (.ref cOutsideSpan)
  gTooManyLiars : mg "TooManyLiars" = some (.ref cTooManyLiars)
  gRootFollows : mg "RootFollows" = some (.ref cRootFollows)
  gCondemned : mg "Condemned" = some (.ref cCondemned)
  gBadDate : mg "BadDate" = some (.ref cBadDate)
  gBadLeap : mg "BadLeap" = some (.ref cBadLeap)
  gBadLabel : mg "BadLabel" = some (.ref cBadLabel)
  gNoSuchSecond : mg "NoSuchSecond" = some (.ref cNoSuchSecond)
  gBadCells : mg "BadCells" = some (.ref cBadCells)
  gRefusedEntry : mg "RefusedEntry" = some (.ref cRefusedEntry)
  gDuplicateTag : mg "DuplicateTag" = some (.ref cDuplicateTag)
  gUnknownTag : mg "UnknownTag" = some (.ref cUnknownTag)
  gBadLine : mg "BadLine" = some (.ref cBadLine)
  gNothingToUndo : mg "NothingToUndo" = some (.ref cNothingToUndo)
  gNothingToRedo : mg "NothingToRedo" = some (.ref cNothingToRedo)
  gV : mg "VerdictError" = some (.ref cVerdictError)
  mV : mg "ValueError" = none
/-- what isinstance says of an error of the n-th class, which stands at C -/
structure Ak (K : PySem.W.Frag) (cZeroDivisor cBadNumber cEmptySpan cBeforeStart cTurnsBack cBadRate cBadBound cBadName cDuplicateName cUnknownName cBadLink cUnknownLink cBadNote cUnknownMoment cNoWorld cOutsideSpan cTooManyLiars cRootFollows cCondemned cBadDate cBadLeap cBadLabel cNoSuchSecond cBadCells cRefusedEntry cDuplicateTag cUnknownTag cBadLine cNothingToUndo cNothingToRedo : Addr) (n : Nat) (C : Addr) : Prop where
  e : ExcC K C
  kZeroDivisor : PySem.W.kitOne K (.ref C) (.ref cZeroDivisor) = some (decide (0 = n))
  kBadNumber : PySem.W.kitOne K (.ref C) (.ref cBadNumber) = some (decide (1 = n))
  kEmptySpan : PySem.W.kitOne K (.ref C) (.ref cEmptySpan) = some (decide (2 = n))
  kBeforeStart : PySem.W.kitOne K (.ref C) (.ref cBeforeStart) = some (decide (3 = n))
  kTurnsBack : PySem.W.kitOne K (.ref C) (.ref cTurnsBack) = some (decide (4 = n))
  kBadRate : PySem.W.kitOne K (.ref C) (.ref cBadRate) = some (decide (5 = n))
  kBadBound : PySem.W.kitOne K (.ref C) (.ref cBadBound) = some (decide (6 = n))
  kBadName : PySem.W.kitOne K (.ref C) (.ref cBadName) = some (decide (7 = n))
  kDuplicateName : PySem.W.kitOne K (.ref C) (.ref cDuplicateName) = some (decide (8 = n))
  kUnknownName : PySem.W.kitOne K (.ref C) (.ref cUnknownName) = some (decide (9 = n))
  kBadLink : PySem.W.kitOne K (.ref C) (.ref cBadLink) = some (decide (10 = n))
  kUnknownLink : PySem.W.kitOne K (.ref C) (.ref cUnknownLink) = some (decide (11 = n))
  kBadNote : PySem.W.kitOne K (.ref C) (.ref cBadNote) = some (decide (12 = n))
  kUnknownMoment : PySem.W.kitOne K (.ref C) (.ref cUnknownMoment) = some (decide (13 = n))
  kNoWorld : PySem.W.kitOne K (.ref C) (.ref cNoWorld) = some (decide (14 = n))
  kOutsideSpan : PySem.W.kitOne K (.ref C) (.ref cOutsideSpan) = some (decide (15 = n))
  kTooManyLiars : PySem.W.kitOne K (.ref C) (.ref cTooManyLiars) = some (decide (16 = n))
  kRootFollows : PySem.W.kitOne K (.ref C) (.ref cRootFollows) = some (decide (17 = n))
  kCondemned : PySem.W.kitOne K (.ref C) (.ref cCondemned) = some (decide (18 = n))
  kBadDate : PySem.W.kitOne K (.ref C) (.ref cBadDate) = some (decide (19 = n))
  kBadLeap : PySem.W.kitOne K (.ref C) (.ref cBadLeap) = some (decide (20 = n))
  kBadLabel : PySem.W.kitOne K (.ref C) (.ref cBadLabel) = some (decide (21 = n))
  kNoSuchSecond : PySem.W.kitOne K (.ref C) (.ref cNoSuchSecond) = some (decide (22 = n))
  kBadCells : PySem.W.kitOne K (.ref C) (.ref cBadCells) = some (decide (23 = n))
  kRefusedEntry : PySem.W.kitOne K (.ref C) (.ref cRefusedEntry) = some (decide (24 = n))
  kDuplicateTag : PySem.W.kitOne K (.ref C) (.ref cDuplicateTag) = some (decide (25 = n))
  kUnknownTag : PySem.W.kitOne K (.ref C) (.ref cUnknownTag) = some (decide (26 = n))
  kBadLine : PySem.W.kitOne K (.ref C) (.ref cBadLine) = some (decide (27 = n))
  kNothingToUndo : PySem.W.kitOne K (.ref C) (.ref cNothingToUndo) = some (decide (28 = n))
  kNothingToRedo : PySem.W.kitOne K (.ref C) (.ref cNothingToRedo) = some (decide (29 = n))
  kV : PySem.W.kitOne K (.ref C) (.type "ValueError") = some true
abbrev s__law_alone : Stmt := top 65
abbrev N__law_alone : List Str := ["_law_e", "_law_kinds"]
theorem sc__law_alone : FnScope N__law_alone ["_law_e"] (defScope s__law_alone) := ⟨rfl, rfl, rfl, by decide +kernel, rfl, by decide +kernel, by decide +kernel⟩
abbrev ps__law_alone : List Str := ["_law_e"]
/-- the dict of the error at hand, tracked where there is one -/
def Hd (d : Option Addr) (H : Hp) : Prop := d = none ∨ ∃ dd fs, d = some dd ∧ H dd = some (.xd fs)
theorem Hd.same {d : Option Addr} {H H' : Hp} (h : Hd d H) (e : Same H H') : Hd d H' := h.imp id fun ⟨dd, fs, a, b⟩ => ⟨dd, fs, a, e _ _ b⟩
def spAlone (K : PySem.W.Frag) (cZeroDivisor cBadNumber cEmptySpan cBeforeStart cTurnsBack cBadRate cBadBound cBadName cDuplicateName cUnknownName cBadLink cUnknownLink cBadNote cUnknownMoment cNoWorld cOutsideSpan cTooManyLiars cRootFollows cCondemned cBadDate cBadLeap cBadLabel cNoSuchSecond cBadCells cRefusedEntry cDuplicateTag cUnknownTag cBadLine cNothingToUndo cNothingToRedo : Addr) (p : Addr × Obj) : Sp := fun vs H Q _ => ∃ (n : Nat) (C : Addr) (d : Option Addr), n < 30 ∧ Ak K cZeroDivisor cBadNumber cEmptySpan cBeforeStart cTurnsBack cBadRate cBadBound cBadName cDuplicateName cUnknownName cBadLink cUnknownLink cBadNote cUnknownMoment cNoWorld cOutsideSpan cTooManyLiars cRootFollows cCondemned cBadDate cBadLeap cBadLabel cNoSuchSecond cBadCells cRefusedEntry cDuplicateTag cUnknownTag cBadLine cNothingToUndo cNothingToRedo n C ∧ vs = [.ref p.1] ∧ Zc (.ref C) d p.2 ∧ (∃ fv, p.2.data = .fields fv) ∧ Hd d H ∧ ∀ H', Same H H' → Q (.bl true) H'
theorem ok_alone (T : Bn mg) (C : CG mg cZeroDivisor cBadNumber cEmptySpan cBeforeStart cTurnsBack cBadRate cBadBound cBadName cDuplicateName cUnknownName cBadLink cUnknownLink cBadNote cUnknownMoment cNoWorld cOutsideSpan cTooManyLiars cRootFollows cCondemned cBadDate cBadLeap cBadLabel cNoSuchSecond cBadCells cRefusedEntry cDuplicateTag cUnknownTag cBadLine cNothingToUndo cNothingToRedo cVerdictError) (F : Fn K mg "_law_alone" s__law_alone ps__law_alone f fd) : DefP P w K mg base (k + 1) "_law_alone" ps__law_alone (spAlone K cZeroDivisor cBadNumber cEmptySpan cBeforeStart cTurnsBack cBadRate cBadBound cBadName cDuplicateName cUnknownName cBadLink cUnknownLink cBadNote cUnknownMoment cNoWorld cOutsideSpan cTooManyLiars cRootFollows cCondemned cBadDate cBadLeap cBadLabel cNoSuchSecond cBadCells cRefusedEntry cDuplicateTag cUnknownTag cBadLine cNothingToUndo cNothingToRedo) f fd := by
  refine ⟨okP F.F sc__law_alone (fun p vs H Q E h => ?_) (fun cdv A outer s H vs Q E p hot hr h => ?_), F.m, F.F.kp, F.b⟩
  · obtain ⟨_, _, _, _, _, rfl, _⟩ := h
    rfl
  obtain ⟨n, CE, d, hn, A, rfl, hz, hf, hd, z⟩ := h
  obtain ⟨pa, po⟩ := p
  refine ⟨_, (pss_cons (ps_set (i := 1) sc__law_alone.nd rfl (Or.inl rfl) (pe_lst (pa_cons (pe_callB (call_isP A.e hz hf List.mem_cons_self) (by rfl) T.isinstance_ (by decide +kernel) (pa_cons (pv 0) (pa_cons (pe_glob (v := .ref cZeroDivisor) (u := .ref cZeroDivisor) (by rfl) C.gZeroDivisor rfl) pa_nil))) (pa_cons (pe_callB (call_isP A.e hz hf List.mem_cons_self) (by rfl) T.isinstance_ (by decide +kernel) (pa_cons (pv 0) (pa_cons (pe_glob (v := .ref cBadNumber) (u := .ref cBadNumber) (by rfl) C.gBadNumber rfl) pa_nil))) (pa_cons (pe_callB (call_isP A.e hz hf List.mem_cons_self) (by rfl) T.isinstance_ (by decide +kernel) (pa_cons (pv 0) (pa_cons (pe_glob (v := .ref cEmptySpan) (u := .ref cEmptySpan) (by rfl) C.gEmptySpan rfl) pa_nil))) (pa_cons (pe_callB (call_isP A.e hz hf List.mem_cons_self) (by rfl) T.isinstance_ (by decide +kernel) (pa_cons (pv 0) (pa_cons (pe_glob (v := .ref cBeforeStart) (u := .ref cBeforeStart) (by rfl) C.gBeforeStart rfl) pa_nil))) (pa_cons (pe_callB (call_isP A.e hz hf List.mem_cons_self) (by rfl) T.isinstance_ (by decide +kernel) (pa_cons (pv 0) (pa_cons (pe_glob (v := .ref cTurnsBack) (u := .ref cTurnsBack) (by rfl) C.gTurnsBack rfl) pa_nil))) (pa_cons (pe_callB (call_isP A.e hz hf List.mem_cons_self) (by rfl) T.isinstance_ (by decide +kernel) (pa_cons (pv 0) (pa_cons (pe_glob (v := .ref cBadRate) (u := .ref cBadRate) (by rfl) C.gBadRate rfl) pa_nil))) (pa_cons (pe_callB (call_isP A.e hz hf List.mem_cons_self) (by rfl) T.isinstance_ (by decide +kernel) (pa_cons (pv 0) (pa_cons (pe_glob (v := .ref cBadBound) (u := .ref cBadBound) (by rfl) C.gBadBound rfl) pa_nil))) (pa_cons (pe_callB (call_isP A.e hz hf List.mem_cons_self) (by rfl) T.isinstance_ (by decide +kernel) (pa_cons (pv 0) (pa_cons (pe_glob (v := .ref cBadName) (u := .ref cBadName) (by rfl) C.gBadName rfl) pa_nil))) (pa_cons (pe_callB (call_isP A.e hz hf List.mem_cons_self) (by rfl) T.isinstance_ (by decide +kernel) (pa_cons (pv 0) (pa_cons (pe_glob (v := .ref cDuplicateName) (u := .ref cDuplicateName) (by rfl) C.gDuplicateName rfl) pa_nil))) (pa_cons (pe_callB (call_isP A.e hz hf List.mem_cons_self) (by rfl) T.isinstance_ (by decide +kernel) (pa_cons (pv 0) (pa_cons (pe_glob (v := .ref cUnknownName) (u := .ref cUnknownName) (by rfl) C.gUnknownName rfl) pa_nil))) (pa_cons (pe_callB (call_isP A.e hz hf List.mem_cons_self) (by rfl) T.isinstance_ (by decide +kernel) (pa_cons (pv 0) (pa_cons (pe_glob (v := .ref cBadLink) (u := .ref cBadLink) (by rfl) C.gBadLink rfl) pa_nil))) (pa_cons (pe_callB (call_isP A.e hz hf List.mem_cons_self) (by rfl) T.isinstance_ (by decide +kernel) (pa_cons (pv 0) (pa_cons (pe_glob (v := .ref cUnknownLink) (u := .ref cUnknownLink) (by rfl) C.gUnknownLink rfl) pa_nil))) (pa_cons (pe_callB (call_isP A.e hz hf List.mem_cons_self) (by rfl) T.isinstance_ (by decide +kernel) (pa_cons (pv 0) (pa_cons (pe_glob (v := .ref cBadNote) (u := .ref cBadNote) (by rfl) C.gBadNote rfl) pa_nil))) (pa_cons (pe_callB (call_isP A.e hz hf List.mem_cons_self) (by rfl) T.isinstance_ (by decide +kernel) (pa_cons (pv 0) (pa_cons (pe_glob (v := .ref cUnknownMoment) (u := .ref cUnknownMoment) (by rfl) C.gUnknownMoment rfl) pa_nil))) (pa_cons (pe_callB (call_isP A.e hz hf List.mem_cons_self) (by rfl) T.isinstance_ (by decide +kernel) (pa_cons (pv 0) (pa_cons (pe_glob (v := .ref cNoWorld) (u := .ref cNoWorld) (by rfl) C.gNoWorld rfl) pa_nil))) (pa_cons (pe_callB (call_isP A.e hz hf List.mem_cons_self) (by rfl) T.isinstance_ (by decide +kernel) (pa_cons (pv 0) (pa_cons (pe_glob (v := .ref cOutsideSpan) (u := .ref cOutsideSpan) (by rfl) C.gOutsideSpan rfl) pa_nil))) (pa_cons (pe_callB (call_isP A.e hz hf List.mem_cons_self) (by rfl) T.isinstance_ (by decide +kernel) (pa_cons (pv 0) (pa_cons (pe_glob (v := .ref cTooManyLiars) (u := .ref cTooManyLiars) (by rfl) C.gTooManyLiars rfl) pa_nil))) (pa_cons (pe_callB (call_isP A.e hz hf List.mem_cons_self) (by rfl) T.isinstance_ (by decide +kernel) (pa_cons (pv 0) (pa_cons (pe_glob (v := .ref cRootFollows) (u := .ref cRootFollows) (by rfl) C.gRootFollows rfl) pa_nil))) (pa_cons (pe_callB (call_isP A.e hz hf List.mem_cons_self) (by rfl) T.isinstance_ (by decide +kernel) (pa_cons (pv 0) (pa_cons (pe_glob (v := .ref cCondemned) (u := .ref cCondemned) (by rfl) C.gCondemned rfl) pa_nil))) (pa_cons (pe_callB (call_isP A.e hz hf List.mem_cons_self) (by rfl) T.isinstance_ (by decide +kernel) (pa_cons (pv 0) (pa_cons (pe_glob (v := .ref cBadDate) (u := .ref cBadDate) (by rfl) C.gBadDate rfl) pa_nil))) (pa_cons (pe_callB (call_isP A.e hz hf List.mem_cons_self) (by rfl) T.isinstance_ (by decide +kernel) (pa_cons (pv 0) (pa_cons (pe_glob (v := .ref cBadLeap) (u := .ref cBadLeap) (by rfl) C.gBadLeap rfl) pa_nil))) (pa_cons (pe_callB (call_isP A.e hz hf List.mem_cons_self) (by rfl) T.isinstance_ (by decide +kernel) (pa_cons (pv 0) (pa_cons (pe_glob (v := .ref cBadLabel) (u := .ref cBadLabel) (by rfl) C.gBadLabel rfl) pa_nil))) (pa_cons (pe_callB (call_isP A.e hz hf List.mem_cons_self) (by rfl) T.isinstance_ (by decide +kernel) (pa_cons (pv 0) (pa_cons (pe_glob (v := .ref cNoSuchSecond) (u := .ref cNoSuchSecond) (by rfl) C.gNoSuchSecond rfl) pa_nil))) (pa_cons (pe_callB (call_isP A.e hz hf List.mem_cons_self) (by rfl) T.isinstance_ (by decide +kernel) (pa_cons (pv 0) (pa_cons (pe_glob (v := .ref cBadCells) (u := .ref cBadCells) (by rfl) C.gBadCells rfl) pa_nil))) (pa_cons (pe_callB (call_isP A.e hz hf List.mem_cons_self) (by rfl) T.isinstance_ (by decide +kernel) (pa_cons (pv 0) (pa_cons (pe_glob (v := .ref cRefusedEntry) (u := .ref cRefusedEntry) (by rfl) C.gRefusedEntry rfl) pa_nil))) (pa_cons (pe_callB (call_isP A.e hz hf List.mem_cons_self) (by rfl) T.isinstance_ (by decide +kernel) (pa_cons (pv 0) (pa_cons (pe_glob (v := .ref cDuplicateTag) (u := .ref cDuplicateTag) (by rfl) C.gDuplicateTag rfl) pa_nil))) (pa_cons (pe_callB (call_isP A.e hz hf List.mem_cons_self) (by rfl) T.isinstance_ (by decide +kernel) (pa_cons (pv 0) (pa_cons (pe_glob (v := .ref cUnknownTag) (u := .ref cUnknownTag) (by rfl) C.gUnknownTag rfl) pa_nil))) (pa_cons (pe_callB (call_isP A.e hz hf List.mem_cons_self) (by rfl) T.isinstance_ (by decide +kernel) (pa_cons (pv 0) (pa_cons (pe_glob (v := .ref cBadLine) (u := .ref cBadLine) (by rfl) C.gBadLine rfl) pa_nil))) (pa_cons (pe_callB (call_isP A.e hz hf List.mem_cons_self) (by rfl) T.isinstance_ (by decide +kernel) (pa_cons (pv 0) (pa_cons (pe_glob (v := .ref cNothingToUndo) (u := .ref cNothingToUndo) (by rfl) C.gNothingToUndo rfl) pa_nil))) (pa_cons (pe_callB (call_isP A.e hz hf List.mem_cons_self) (by rfl) T.isinstance_ (by decide +kernel) (pa_cons (pv 0) (pa_cons (pe_glob (v := .ref cNothingToRedo) (u := .ref cNothingToRedo) (by rfl) C.gNothingToRedo rfl) pa_nil))) pa_nil))))))))))))))))))))))))))))))))
      (pss_one (ps_ret (pe_and (pe_callB (call_isP A.e hz hf List.mem_cons_self) (by rfl) T.isinstance_ (by decide +kernel) (pa_cons (pv 0) (pa_cons (pe_bltn (v := .ty "ValueError") (u := .type "ValueError") (by rfl) C.mV (by rfl) rfl) pa_nil))) (pe_one (pe_cmpR op_eq (pe_bm PySem.F.plainAttrs_list PySem.F.slot_list_count PySem.F.type_list_count (mt_countD (Nat.lt_of_le_of_lt (Nat.add_le_add (Nat.le_add_right _ (16 * k)) (show 65 ≤ 200 by decide)) hr.un)) (pv 1) (pa_cons pe_bl pa_nil)) pe_int (nomark _))))))), ?_⟩
  refine ⟨_, rfl, .ref cZeroDivisor, .ref cZeroDivisor, decide (0 = n), rfl, .own _, hd, A.kZeroDivisor, ?_⟩
  refine ⟨_, rfl, .ref cBadNumber, .ref cBadNumber, decide (1 = n), rfl, .own _, hd, A.kBadNumber, ?_⟩
  refine ⟨_, rfl, .ref cEmptySpan, .ref cEmptySpan, decide (2 = n), rfl, .own _, hd, A.kEmptySpan, ?_⟩
  refine ⟨_, rfl, .ref cBeforeStart, .ref cBeforeStart, decide (3 = n), rfl, .own _, hd, A.kBeforeStart, ?_⟩
  refine ⟨_, rfl, .ref cTurnsBack, .ref cTurnsBack, decide (4 = n), rfl, .own _, hd, A.kTurnsBack, ?_⟩
  refine ⟨_, rfl, .ref cBadRate, .ref cBadRate, decide (5 = n), rfl, .own _, hd, A.kBadRate, ?_⟩
  refine ⟨_, rfl, .ref cBadBound, .ref cBadBound, decide (6 = n), rfl, .own _, hd, A.kBadBound, ?_⟩
  refine ⟨_, rfl, .ref cBadName, .ref cBadName, decide (7 = n), rfl, .own _, hd, A.kBadName, ?_⟩
  refine ⟨_, rfl, .ref cDuplicateName, .ref cDuplicateName, decide (8 = n), rfl, .own _, hd, A.kDuplicateName, ?_⟩
  refine ⟨_, rfl, .ref cUnknownName, .ref cUnknownName, decide (9 = n), rfl, .own _, hd, A.kUnknownName, ?_⟩
  refine ⟨_, rfl, .ref cBadLink, .ref cBadLink, decide (10 = n), rfl, .own _, hd, A.kBadLink, ?_⟩
  refine ⟨_, rfl, .ref cUnknownLink, .ref cUnknownLink, decide (11 = n), rfl, .own _, hd, A.kUnknownLink, ?_⟩
  refine ⟨_, rfl, .ref cBadNote, .ref cBadNote, decide (12 = n), rfl, .own _, hd, A.kBadNote, ?_⟩
  refine ⟨_, rfl, .ref cUnknownMoment, .ref cUnknownMoment, decide (13 = n), rfl, .own _, hd, A.kUnknownMoment, ?_⟩
  refine ⟨_, rfl, .ref cNoWorld, .ref cNoWorld, decide (14 = n), rfl, .own _, hd, A.kNoWorld, ?_⟩
  refine ⟨_, rfl, .ref cOutsideSpan, .ref cOutsideSpan, decide (15 = n), rfl, .own _, hd, A.kOutsideSpan, ?_⟩
  refine ⟨_, rfl, .ref cTooManyLiars, .ref cTooManyLiars, decide (16 = n), rfl, .own _, hd, A.kTooManyLiars, ?_⟩
  refine ⟨_, rfl, .ref cRootFollows, .ref cRootFollows, decide (17 = n), rfl, .own _, hd, A.kRootFollows, ?_⟩
  refine ⟨_, rfl, .ref cCondemned, .ref cCondemned, decide (18 = n), rfl, .own _, hd, A.kCondemned, ?_⟩
  refine ⟨_, rfl, .ref cBadDate, .ref cBadDate, decide (19 = n), rfl, .own _, hd, A.kBadDate, ?_⟩
  refine ⟨_, rfl, .ref cBadLeap, .ref cBadLeap, decide (20 = n), rfl, .own _, hd, A.kBadLeap, ?_⟩
  refine ⟨_, rfl, .ref cBadLabel, .ref cBadLabel, decide (21 = n), rfl, .own _, hd, A.kBadLabel, ?_⟩
  refine ⟨_, rfl, .ref cNoSuchSecond, .ref cNoSuchSecond, decide (22 = n), rfl, .own _, hd, A.kNoSuchSecond, ?_⟩
  refine ⟨_, rfl, .ref cBadCells, .ref cBadCells, decide (23 = n), rfl, .own _, hd, A.kBadCells, ?_⟩
  refine ⟨_, rfl, .ref cRefusedEntry, .ref cRefusedEntry, decide (24 = n), rfl, .own _, hd, A.kRefusedEntry, ?_⟩
  refine ⟨_, rfl, .ref cDuplicateTag, .ref cDuplicateTag, decide (25 = n), rfl, .own _, hd, A.kDuplicateTag, ?_⟩
  refine ⟨_, rfl, .ref cUnknownTag, .ref cUnknownTag, decide (26 = n), rfl, .own _, hd, A.kUnknownTag, ?_⟩
  refine ⟨_, rfl, .ref cBadLine, .ref cBadLine, decide (27 = n), rfl, .own _, hd, A.kBadLine, ?_⟩
  refine ⟨_, rfl, .ref cNothingToUndo, .ref cNothingToUndo, decide (28 = n), rfl, .own _, hd, A.kNothingToUndo, ?_⟩
  refine ⟨_, rfl, .ref cNothingToRedo, .ref cNothingToRedo, decide (29 = n), rfl, .own _, hd, A.kNothingToRedo, ?_⟩
  refine ⟨by show 30 ≤ sizeLine; decide, fun D hD => ?_⟩
  have c0 := same_new hD (.lst ([.bl (decide (0 = n)), .bl (decide (1 = n)), .bl (decide (2 = n)), .bl (decide (3 = n)), .bl (decide (4 = n)), .bl (decide (5 = n)), .bl (decide (6 = n)), .bl (decide (7 = n)), .bl (decide (8 = n)), .bl (decide (9 = n)), .bl (decide (10 = n)), .bl (decide (11 = n)), .bl (decide (12 = n)), .bl (decide (13 = n)), .bl (decide (14 = n)), .bl (decide (15 = n)), .bl (decide (16 = n)), .bl (decide (17 = n)), .bl (decide (18 = n)), .bl (decide (19 = n)), .bl (decide (20 = n)), .bl (decide (21 = n)), .bl (decide (22 = n)), .bl (decide (23 = n)), .bl (decide (24 = n)), .bl (decide (25 = n)), .bl (decide (26 = n)), .bl (decide (27 = n)), .bl (decide (28 = n)), .bl (decide (29 = n))] : List V))
  have hD2 : (upd H D (.lst ([.bl (decide (0 = n)), .bl (decide (1 = n)), .bl (decide (2 = n)), .bl (decide (3 = n)), .bl (decide (4 = n)), .bl (decide (5 = n)), .bl (decide (6 = n)), .bl (decide (7 = n)), .bl (decide (8 = n)), .bl (decide (9 = n)), .bl (decide (10 = n)), .bl (decide (11 = n)), .bl (decide (12 = n)), .bl (decide (13 = n)), .bl (decide (14 = n)), .bl (decide (15 = n)), .bl (decide (16 = n)), .bl (decide (17 = n)), .bl (decide (18 = n)), .bl (decide (19 = n)), .bl (decide (20 = n)), .bl (decide (21 = n)), .bl (decide (22 = n)), .bl (decide (23 = n)), .bl (decide (24 = n)), .bl (decide (25 = n)), .bl (decide (26 = n)), .bl (decide (27 = n)), .bl (decide (28 = n)), .bl (decide (29 = n))] : List V))) D = some (.lst [.bl (decide (0 = n)), .bl (decide (1 = n)), .bl (decide (2 = n)), .bl (decide (3 = n)), .bl (decide (4 = n)), .bl (decide (5 = n)), .bl (decide (6 = n)), .bl (decide (7 = n)), .bl (decide (8 = n)), .bl (decide (9 = n)), .bl (decide (10 = n)), .bl (decide (11 = n)), .bl (decide (12 = n)), .bl (decide (13 = n)), .bl (decide (14 = n)), .bl (decide (15 = n)), .bl (decide (16 = n)), .bl (decide (17 = n)), .bl (decide (18 = n)), .bl (decide (19 = n)), .bl (decide (20 = n)), .bl (decide (21 = n)), .bl (decide (22 = n)), .bl (decide (23 = n)), .bl (decide (24 = n)), .bl (decide (25 = n)), .bl (decide (26 = n)), .bl (decide (27 = n)), .bl (decide (28 = n)), .bl (decide (29 = n))]) := upd_same
  have hd2 := hd.same c0
  generalize upd H D (.lst ([.bl (decide (0 = n)), .bl (decide (1 = n)), .bl (decide (2 = n)), .bl (decide (3 = n)), .bl (decide (4 = n)), .bl (decide (5 = n)), .bl (decide (6 = n)), .bl (decide (7 = n)), .bl (decide (8 = n)), .bl (decide (9 = n)), .bl (decide (10 = n)), .bl (decide (11 = n)), .bl (decide (12 = n)), .bl (decide (13 = n)), .bl (decide (14 = n)), .bl (decide (15 = n)), .bl (decide (16 = n)), .bl (decide (17 = n)), .bl (decide (18 = n)), .bl (decide (19 = n)), .bl (decide (20 = n)), .bl (decide (21 = n)), .bl (decide (22 = n)), .bl (decide (23 = n)), .bl (decide (24 = n)), .bl (decide (25 = n)), .bl (decide (26 = n)), .bl (decide (27 = n)), .bl (decide (28 = n)), .bl (decide (29 = n))] : List V)) = H1 at c0 hD2 hd2 ⊢
  refine ⟨_, rfl, .ty "ValueError", .type "ValueError", true, rfl, .ty _, hd2, A.kV, true, rfl, ifT rfl ?_⟩
  have key := z H1 c0
  clear z A hz hf hd c0
  have hx : n = 0 ∨ n = 1 ∨ n = 2 ∨ n = 3 ∨ n = 4 ∨ n = 5 ∨ n = 6 ∨ n = 7 ∨ n = 8 ∨ n = 9 ∨ n = 10 ∨ n = 11 ∨ n = 12 ∨ n = 13 ∨ n = 14 ∨ n = 15 ∨ n = 16 ∨ n = 17 ∨ n = 18 ∨ n = 19 ∨ n = 20 ∨ n = 21 ∨ n = 22 ∨ n = 23 ∨ n = 24 ∨ n = 25 ∨ n = 26 ∨ n = 27 ∨ n = 28 ∨ n = 29 := by omega
  rcases hx with rfl | rfl | rfl | rfl | rfl | rfl | rfl | rfl | rfl | rfl | rfl | rfl | rfl | rfl | rfl | rfl | rfl | rfl | rfl | rfl | rfl | rfl | rfl | rfl | rfl | rfl | rfl | rfl | rfl | rfl <;>
  · refine ⟨_, rfl, .inl ⟨rfl, _, SqL.of hD2⟩, D, .bl true, PyData.bool true, [PyData.bool _, PyData.bool _, PyData.bool _, PyData.bool _, PyData.bool _, PyData.bool _, PyData.bool _, PyData.bool _, PyData.bool _, PyData.bool _, PyData.bool _, PyData.bool _, PyData.bool _, PyData.bool _, PyData.bool _, PyData.bool _, PyData.bool _, PyData.bool _, PyData.bool _, PyData.bool _, PyData.bool _, PyData.bool _, PyData.bool _, PyData.bool _, PyData.bool _, PyData.bool _, PyData.bool _, PyData.bool _, PyData.bool _, PyData.bool _], rfl, rfl, .lst (SqL.of hD2) (.cons (.bl _) (.cons (.bl _) (.cons (.bl _) (.cons (.bl _) (.cons (.bl _) (.cons (.bl _) (.cons (.bl _) (.cons (.bl _) (.cons (.bl _) (.cons (.bl _) (.cons (.bl _) (.cons (.bl _) (.cons (.bl _) (.cons (.bl _) (.cons (.bl _) (.cons (.bl _) (.cons (.bl _) (.cons (.bl _) (.cons (.bl _) (.cons (.bl _) (.cons (.bl _) (.cons (.bl _) (.cons (.bl _) (.cons (.bl _) (.cons (.bl _) (.cons (.bl _) (.cons (.bl _) (.cons (.bl _) (.cons (.bl _) (.cons (.bl _) .nil)))))))))))))))))))))))))))))), .bl _, by decide +kernel, by decide +kernel, ?_⟩
    exact ⟨rfl, key⟩
end Vk

set_option maxHeartbeats 4000000
namespace L2
open PySem PySem.Spec PyProof.Rows
/-- // by any divisor but zero -/
theorem op_fdivZ {X : Cx} : OpR X (binaryOp .FloorDiv) (rI (fun _ j => j ≠ 0 ∧ j.natAbs.log2 < 9000) fun i j => .int (i.fdiv j)) := opI fun i j _ _ _ _ _ hc q => floordiv_int hc.1 q (.inl (PyProof.noPylong_of_log2 hc.2))
theorem op_isB {X : Cx} : OpR X (compareOp .Is) (fun x y H Q => ∃ a b, x = .bl a ∧ y = .bl b ∧ Q (.bl (decide (a = b))) H) := by
  intro pins s σ H x y v u Q I rx ry h
  obtain ⟨a, b, rfl, rfl, q⟩ := h
  cases rx
  cases ry
  show wpAny _ _ ((isSame (.bool a) (.bool b)) >>= fun z => pure (Value.bool z)) _ _ s
  exact wpAny_bind (wpAny_isSame_plain rfl (wpAny_pure (fin_bl I q (by cases a <;> cases b <;> rfl))))
/-- an own error without an __init__, made of nothing -/
theorem pmk_own0N {X : Cx} {C : Addr} {bmB : List Value} {B newId initId : String} {x : Str} {p pos : Pos} (F : ExcBaseFacts B newId initId bmB) (q : PySem.W.excIn X.K C bmB newId = true) (gC : X.mg x = some (.ref C)) (kC : PySem.W.keepIn X.K (.ref C) = true) (r : Raises X (.ref C)) (hg : Gl X x)
    (hdb : (x == ("__debug__" : Str)) = false := by decide) : L2N.PMk X (.Call (.Name x p) [] [] pos) (fun _ H Q => Q (.ref C) none H) := by
  intro pins s σ H Q I h
  refine wpAny_Call_Name_kw (ld_glob I hg gC ?_ hdb)
  refine PySem.W.callWith_K0 I.kIn kC ?_
  obtain ⟨bm, N, nm, qn, bs, hdct, sn, sub, ab, col, dd, k0, k1, k2, k3, k5, mN, hC, hN, hni, T⟩ := exc_obj I.kIn q
  refine wpAny_call_exc_subT F T hC hN hni (fun h' e hm => ?_) (Nat.zero_le _)
  exact L2N.mk_of I hm r h (I.hok.gone hm.new)
/-- x(e, ..), a def that is told of by its positional values -/
theorem pe_callR {X : Cx} {CX : CXT} {k : Nat} {f : Addr} {sp : Sp} {E : XK} {x : Str} {e : Expr} {es : List Expr} {t : TA} {p pos : Pos} (F : FnR X.prog X.w X.K X.mg X.base CX k f sp) (hr : Room k X.A) (hk : PySem.W.keepIn X.K (.ref f) = true) (hg : Gl X x) (hm : X.mg x = some (.ref f)) (hx : Passes CX X E) (ha : PA X (e :: es) t) (hdb : (x == ("__debug__" : Str)) = false := by decide)
    (he : starEach (e :: es) X.env = (false, eval e X.env) :: starEach es X.env := by rfl) (hpl : (backTo pos (starEach es X.env)).any (·.1) = false := by rfl) :
    PE X (.Call (.Name x p) (e :: es) [] pos) (fun σ H Q => t σ H fun vs H1 => sp vs H1 Q E) := by
  refine ⟨fun pins s σ H Q I h => ?_⟩
  refine wpAny_Call_Name_kw (ld_glob I hg hm ?_ hdb)
  refine PySem.W.callWith_K (h₀ := X.base) I.ok.mod.kin hk (thn (ha.run pos pins s σ H _ I h) fun us s1 ⟨vs, H1, I1, r, q⟩ => ⟨I1.kIn, ?_⟩) he hpl
  exact wpAny_call (run_fnR F hr hx I1 r q)
theorem pe_callR0 {X : Cx} {CX : CXT} {k : Nat} {f : Addr} {sp : Sp} {E : XK} {x : Str} {p pos : Pos} (F : FnR X.prog X.w X.K X.mg X.base CX k f sp) (hr : Room k X.A) (hk : PySem.W.keepIn X.K (.ref f) = true) (hg : Gl X x) (hm : X.mg x = some (.ref f)) (hx : Passes CX X E) (hdb : (x == ("__debug__" : Str)) = false := by decide) :
    PE X (.Call (.Name x p) [] [] pos) (fun σ H Q => sp [] H Q E) := by
  refine ⟨fun pins s σ H Q I h => ?_⟩
  refine wpAny_Call_Name_kw (ld_glob I hg hm ?_ hdb)
  exact PySem.W.callWith_K0 I.kIn hk (wpAny_call (run_fnR F hr hx I .nil h))
end L2
namespace Vk
open PySem L2 Vm Vl
variable {l aZERO cZ fB : Addr} {P : Program} {w : World} {K : PySem.W.Frag} {mg : Str → Option Value} {base : Heap} {k : Nat} {f f1 f2 f3 f4 f5 f6 f7 f8 f9 : Addr} {fd fd1 fd2 fd3 fd4 fd5 fd6 fd7 fd8 fd9 : FuncData}
/-! ### rationals by their integers -/
theorem eqM {a b : Int} {c d : Nat} (hc : c ≠ 0) (hd : d ≠ 0) (h : mkRat a c = mkRat b d) : a * (d : Int) = b * (c : Int) := (Rat.mkRat_eq_iff hc hd).mp h
theorem dn0 (q : Rat) : q.den ≠ 0 := Nat.ne_of_gt q.den_pos
theorem dm0 (p q : Rat) : p.den * q.den ≠ 0 := Nat.mul_ne_zero (dn0 p) (dn0 q)
/-- s - b = a by integers -/
theorem sub_int {s a b : Rat} (h : s - b = a) : (s.num * (b.den : Int) - b.num * (s.den : Int)) * (a.den : Int) = a.num * (s.den : Int) * (b.den : Int) := by
  rw [Rat.sub_def', ← Rat.mkRat_self a] at h
  have := eqM (dm0 s b) (dn0 _) h
  rw [this, Int.natCast_mul, Int.mul_assoc]
theorem add_int {s a b : Rat} (h : s + b = a) : (s.num * (b.den : Int) + b.num * (s.den : Int)) * (a.den : Int) = a.num * (s.den : Int) * (b.den : Int) := by
  rw [Rat.add_def', ← Rat.mkRat_self a] at h
  have := eqM (dm0 s b) (dn0 _) h
  rw [this, Int.natCast_mul, Int.mul_assoc]
theorem mul_int' {s a b : Rat} (h : s * b = a) : s.num * b.num * (a.den : Int) = a.num * (s.den : Int) * (b.den : Int) := by
  rw [Rat.mul_def', ← Rat.mkRat_self a] at h
  have := eqM (dm0 s b) (dn0 _) h
  rw [this, Int.natCast_mul, Int.mul_assoc]
theorem worth_mk {n : Int} {d : Nat} (hd : d ≠ 0) : (mkRat n d).num * (d : Int) = n * ((mkRat n d).den : Int) := by
  have h : mkRat (mkRat n d).num (mkRat n d).den = mkRat n d := Rat.mkRat_self _
  have := eqM (dn0 _) hd h
  exact this
/-- the rational of two integers, the second one not zero -/
def rz (n d : Int) : Rat := if 0 < d then mkRat n d.toNat else mkRat (-n) (-d).toNat
theorem rz_div (p q : Rat) (hq : q ≠ 0) : rz (p.num * (q.den : Int)) ((p.den : Int) * q.num) = p / q := by
  have dp := p.den_pos
  by_cases h : 0 < q
  · have hn := num_pos h
    have hp : 0 < (p.den : Int) * q.num := Int.mul_pos (by omega) hn
    unfold rz
    rw [if_pos hp, div_mk p q h]
    congr 1
    have : ((p.den * q.num.toNat : Nat) : Int) = (p.den : Int) * q.num := by rw [Int.natCast_mul, Int.toNat_of_nonneg (by omega)]
    omega
  · have h' : 0 < -q := by grind
    have hn := num_pos h'
    rw [Rat.neg_num] at hn
    have hp : 0 < (p.den : Int) * (-q.num) := Int.mul_pos (by omega) (by omega)
    rw [Int.mul_neg] at hp
    unfold rz
    rw [if_neg (by omega)]
    have e : p / q = -(p / (-q)) := by grind
    rw [e, div_mk p (-q) h', ← Rat.neg_mkRat]
    congr 1
    rw [Rat.neg_num]
    have e9 : (-((p.den : Int) * q.num)).toNat = p.den * (-q.num).toNat := Int.ofNat.inj (by
      show (((-((p.den : Int) * q.num)).toNat : Nat) : Int) = ((p.den * (-q.num).toNat : Nat) : Int)
      rw [Int.toNat_of_nonneg (by omega), Int.natCast_mul, Int.toNat_of_nonneg (by omega), Int.mul_neg])
    rw [e9]
    rfl
abbrev s_floor_of : Stmt := top 48
abbrev N_floor_of : List Str := ["a"]
theorem sc_floor_of : FnScope N_floor_of ["a"] (defScope s_floor_of) := ⟨rfl, rfl, rfl, by decide +kernel, rfl, by decide +kernel, by decide +kernel⟩
abbrev ps_floor_of : List Str := ["a"]
theorem ok_floor_of (F : Fn K mg "floor_of" s_floor_of ps_floor_of f fd) : Def P w K mg base (k + 1) "floor_of" ps_floor_of (fun vs H Q _ => ∃ (x : V) (q : Rat) (m : Nat), vs = [x] ∧ Rq K H x q ∧ Sz m q ∧ m ≤ 9000 ∧ Q (.int q.floor) H) f fd := by
  refine ⟨F.F.ok sc_floor_of (fun vs H Q E h => ?_) (fun cdv A outer s H vs Q E hr h => ?_), F.m, F.F.kp, F.b⟩
  · obtain ⟨_, _, _, rfl, _⟩ := h
    rfl
  obtain ⟨x, q, m, rfl, ⟨a, rfl, ha⟩, zq, hm, z⟩ := h
  refine ⟨_, (pss_one (ps_ret (pe_op op_fdivW (pe_ix ix_tup (pv 0) pe_int (fun _ _ => rfl)) (pe_ix ix_tup (pv 0) pe_int (fun _ _ => rfl))))), ?_⟩
  have dp := q.den_pos
  refine ⟨_, rfl, a, _, _, _, rfl, rfl, ha, at0 rfl, _, rfl, a, _, _, _, rfl, rfl, ha, at1 rfl, _, _, rfl, rfl, wide_div (by omega) (dA zq) (nn zq) hm, ?_⟩
  rw [Rat.floor_def] at z
  exact z
/-! ### rational and divide where they may raise -/
structure Zt (K : PySem.W.Frag) (mg : Str → Option Value) (C : Addr) : Prop where
  gC : mg "ZeroDivisor" = some (.ref C)
  ex : ∃ (bmB : List Value) (B newId initId : String), ExcBaseFacts B newId initId bmB ∧ PySem.W.excIn K C bmB newId = true
  kC : PySem.W.keepIn K (.ref C) = true
  exC : PySem.W.subIn K (.ref C) (.type "BaseException") = some true
  tyC : PySem.W.typeIn K (.ref C) = some (.type "type")
def spRatX (K : PySem.W.Frag) (C : Addr) : Sp := fun vs H Q E => ∃ (n d : Int) (b : Nat), vs = [.int n, .int d] ∧ n.natAbs < 2 ^ b ∧ d.natAbs < 2 ^ b ∧ b ≤ 9000 ∧ (d ≠ 0 → ∀ r H', Same H H' → Rq K H' r (rz n d) → Q r H') ∧ (d = 0 → E (.ref C) none H)
theorem _root_.Vk.FunA.okY {x qual : Str} {st : Stmt} {f : Addr} {fd : FuncData} {N ps : List Str} {k : Nat} {sp : Sp} (F : FunA K x qual st f fd) (S : FnScope N ps (defScope st)) (len : ∀ vs H Q E, sp vs H Q E → vs.length = ps.length)
    (hbody : ∀ (cdv : Value) (A : Around) (outer : List Env) (s : Shared) (H : Hp) (vs : List V) (Q : VK) (E : XK), Room k (A.deeper (PyProof.Rows.envOfC qual (defScope st) s.heap.objs.size f cdv)) → sp vs H Q E →
      ∃ t, PSs (cxOf (L2N.CX P w) P w K mg base N qual (defScope st) f cdv A outer s H E) (defBody st) t ∧ t { nx := fun _ H' => Q .non H', rt := Q } (start N vs) H) : FnOk P w K mg base (L2N.CX P w) (k + 1) f fd ps sp := by
  obtain ⟨oc, od, dV, kV, doc, pm, an, cdv, ct, osl, rfl, lk, hcd⟩ := F.ex
  exact fn_of lk hcd S len fun A outer s H vs Q E hr hsp => hbody cdv A outer s H vs Q E hr hsp
theorem ok_rationalX (T : Bn mg) (TZ : Zt K mg cZ) (F : FunA K "rational" "rational" s_rational f fd) (hm : mg "rational" = some (.ref f)) (hb : Binds K fd ps_rational []) : DefY P w K mg base (k + 1) "rational" ps_rational (spRatX K cZ) f fd := by
  refine ⟨FunA.okY F sc_rational (fun vs H Q E h => ?_) (fun cdv A outer s H vs Q E hr h => ?_), hm, F.kp, hb⟩
  · obtain ⟨n, d, b, rfl, _⟩ := h
    rfl
  obtain ⟨n, d, b, rfl, hn, hdb, hb, z, e⟩ := h
  obtain ⟨bmB, B, newId, initId, eF, eq⟩ := TZ.ex
  refine ⟨_, (pss_cons (ps_if (pt_cmpR op_eq (pv 1) pe_int (nomark _))
        (pss_one (L2N.ps_raise rfl (L2N.takes_of rfl rfl rfl rfl) (pmk_own0N eF eq TZ.gC TZ.kC (raises_own TZ.exC TZ.tyC) rfl)))
        pss_nil)
      (pss_cons (ps_set (i := 2) sc_rational.nd rfl (Or.inl rfl) (pe_callBfun cr_gcd (by rfl) T.gcd_ (pa_cons (pv 0) (pa_cons (pv 1) pa_nil))))
      (pss_cons (ps_if (pt_cmpR op_lt (pv 1) pe_int (nomark _))
        (pss_one (ps_set (i := 2) sc_rational.nd rfl (Or.inl rfl) (pe_un un_neg (pv 2))))
        pss_nil)
      (pss_one (ps_ret (pe_tup (pa_cons (pe_op op_fdivZ (pv 0) (pv 2)) (pa_cons (pe_op op_fdivZ (pv 1) (pv 2)) pa_nil)))))))), ?_⟩
  by_cases d0 : d = 0
  · exact ⟨_, rfl, rfl, _, rfl, ifT (dT (by rw [d0])) (e d0)⟩
  have b0 : 0 < b := by
    cases b with
    | zero => simp at hdb; omega
    | succ b => exact Nat.succ_pos _
  have gp : 0 < Nat.gcd n.natAbs d.natAbs := Nat.gcd_pos_of_pos_right _ (by omega)
  have gb : Nat.gcd n.natAbs d.natAbs < 2 ^ b := Nat.lt_of_le_of_lt (Nat.gcd_le_right _ (by omega)) hdb
  have dvn : ((Nat.gcd n.natAbs d.natAbs : Nat) : Int) ∣ n := Int.ofNat_dvd_left.mpr (Nat.gcd_dvd_left _ _)
  have dvd : ((Nat.gcd n.natAbs d.natAbs : Nat) : Int) ∣ d := Int.ofNat_dvd_left.mpr (Nat.gcd_dvd_right _ _)
  have lg : ∀ j : Int, j.natAbs = Nat.gcd n.natAbs d.natAbs → j ≠ 0 ∧ j.natAbs.log2 < 9000 := fun j ej => ⟨by omega, Nat.lt_of_lt_of_le (PySem.Flt.log2_lt_of b0 (by rw [ej]; exact gb)) hb⟩
  have z := z d0
  refine ⟨_, rfl, rfl, _, rfl, ifF (dF fun c => by cases c; exact d0 rfl) ?_⟩
  refine ⟨_, rfl, _, rfl, _, _, rfl, ?_⟩
  refine ⟨_, rfl, _, _, rfl, rfl, _, rfl, ifD (fun c => ?_) (fun c => ?_)⟩
  · refine ⟨_, rfl, _, rfl, ?_⟩
    refine ⟨_, rfl, _, rfl, _, _, rfl, rfl, lg _ (by rw [Int.natAbs_neg, Int.natAbs_natCast]), _, rfl, _, rfl, _, _, rfl, rfl, lg _ (by rw [Int.natAbs_neg, Int.natAbs_natCast]), sz2, fun p hp => ?_⟩
    refine z _ _ (same_new hp _) ⟨p, rfl, SqT.of ?_⟩
    have dn : (-d).toNat ≠ 0 := by omega
    unfold rz
    rw [if_neg (by omega), upd_same, mk_num _ dn, mk_den _ dn]
    have ed : (-d).toNat = d.natAbs := by omega
    rw [ed, Int.natAbs_neg]
    have g0 : ((Nat.gcd n.natAbs d.natAbs : Nat) : Int) ≠ 0 := by omega
    have en : ∀ x g : Int, g ≠ 0 → g ∣ x → x.fdiv (-g) = -x / g := fun x g h0 ⟨m, em⟩ => by
      subst em
      rw [show g * m = (-g) * (-m) by rw [Int.neg_mul_neg], Int.mul_fdiv_cancel_left _ (by omega), Int.neg_mul, Int.neg_neg, Int.mul_ediv_cancel_left _ h0]
    show some (HO.tup [V.int (n.fdiv (-((Nat.gcd n.natAbs d.natAbs : Nat) : Int))), V.int (d.fdiv (-((Nat.gcd n.natAbs d.natAbs : Nat) : Int)))]) = _
    rw [en _ _ g0 dvn, en _ _ g0 dvd]
    congr 4
    rw [show (((d.natAbs / Nat.gcd n.natAbs d.natAbs : Nat)) : Int) = (d.natAbs : Int) / ((Nat.gcd n.natAbs d.natAbs : Nat) : Int) from Int.natCast_ediv _ _, show (d.natAbs : Int) = -d by omega]
  · refine ⟨_, rfl, _, rfl, _, _, rfl, rfl, lg _ (Int.natAbs_natCast _), _, rfl, _, rfl, _, _, rfl, rfl, lg _ (Int.natAbs_natCast _), sz2, fun p hp => ?_⟩
    refine z _ _ (same_new hp _) ⟨p, rfl, SqT.of ?_⟩
    have dn : d.toNat ≠ 0 := by omega
    have ed : d.toNat = d.natAbs := by omega
    unfold rz
    rw [if_pos (by omega), upd_same, mk_num _ dn, mk_den _ dn, ed]
    show some (HO.tup [V.int (n.fdiv ((Nat.gcd n.natAbs d.natAbs : Nat) : Int)), V.int (d.fdiv ((Nat.gcd n.natAbs d.natAbs : Nat) : Int))]) = _
    rw [Int.fdiv_eq_ediv_of_nonneg _ (Int.natCast_nonneg _), Int.fdiv_eq_ediv_of_nonneg _ (Int.natCast_nonneg _)]
    congr 4
    rw [show (((d.natAbs / Nat.gcd n.natAbs d.natAbs : Nat)) : Int) = (d.natAbs : Int) / ((Nat.gcd n.natAbs d.natAbs : Nat) : Int) from Int.natCast_ediv _ _, show (d.natAbs : Int) = d by omega]
end Vk

set_option maxHeartbeats 4000000
namespace Vk
open PySem L2 Vm Vl
variable {l aZERO CV cZeroDivisor cBadNumber cEmptySpan cBeforeStart cTurnsBack cBadRate cBadBound cBadName cDuplicateName cUnknownName cBadLink cUnknownLink cBadNote cUnknownMoment cNoWorld cOutsideSpan cTooManyLiars cRootFollows cCondemned cBadDate cBadLeap cBadLabel cNoSuchSecond cBadCells cRefusedEntry cDuplicateTag cUnknownTag cBadLine cNothingToUndo cNothingToRedo : Addr} {P : Program} {w : World} {K : PySem.W.Frag} {mg : Str → Option Value} {base : Heap} {k : Nat} {f f1 f2 f3 f4 f5 f6 f7 f8 f9 : Addr} {fd fd1 fd2 fd3 fd4 fd5 fd6 fd7 fd8 fd9 : FuncData}
theorem pss_if {X : Cx} {b : List Stmt} {p : Prop} {t : TS} (h : p → PSs X b t) : PSs X b (fun D σ H => p ∧ t D σ H) := ⟨fun pins s σ H D I w => (h w.1).run pins s σ H D I w.2⟩
theorem pe_callP2 {X : Cx} {k : Nat} {f : Addr} {fd : FuncData} {ps : List Str} {sp : Addr × Obj → Sp} {sp' : Sp} {p : Addr × Obj} {x : Str} {q pos : Pos} {e : Expr} {es : List Expr} {t : TA} (F : DefP X.prog X.w X.K X.mg X.base k x ps sp f fd) (room : L2H.RoomH k X.A) (hot : L2H.Hot1 X.A p) (hp : p ∈ X.pn)
    (imp : ∀ vs H Q E, sp' vs H Q E → sp p vs H Q E) (ha : PA X (e :: es) t) (hg : Gl X x := by rfl) (hdb : (x == ("__debug__" : Str)) = false := by decide)
    (he : starEach (e :: es) X.env = (false, eval e X.env) :: starEach es X.env := by rfl) (hpl : (backTo pos (starEach es X.env)).any (·.1) = false := by rfl) : PE X (.Call (.Name x q) (e :: es) [] pos) (tCall sp' [] E0 t) := by
  refine ⟨?_⟩
  intro pins s σ H Q I want
  refine wpAny_Call_Name_kw (ld_glob I hg F.m ?_ hdb)
  refine PySem.W.callWith_K (h₀ := X.base) I.ok.mod.kin F.kp (thn (ha.run pos pins s σ H _ I want) ?_) he hpl
  rintro us s1 ⟨vs, H1, I1, r, z⟩
  refine ⟨I1.kIn, ?_⟩
  have z : sp p vs H1 Q E0 := by rw [List.append_nil] at z; exact imp _ _ _ _ z
  have cnt : us.length = ps.length := by rw [← r.length]; exact F.ok.many _ _ _ _ _ z
  have bound := F.b s1 us I1.kIn (by rw [List.append_nil]; exact cnt)
  rw [List.append_nil] at bound
  have at1 := I1.pin p (List.mem_append_left _ hp)
  have pin : L2H.PinOk X.stack H1 s1 p := ⟨at1.1, at1.2.1, fun m => (List.mem_cons.mp (I1.stkSub p.1 m)).elim at1.2.2.1 at1.2.2.2.1, at1.2.2.2.2⟩
  refine wpAny_call (codeAny_mono (F.ok.go X.A X.stack s1 H1 ⟨us, []⟩ us vs Q E0 p room hot pin I1.env0 bound r z) ?_)
  intro res s2 out
  cases res with
  | error _ => exact out.elim
  | ok fl =>
    cases fl with
    | ret u => exact I1.after out
    | next => exact out.elim
    | brk => exact out.elim
    | cont => exact out.elim
abbrev AkC := @Ak
def spDivX (K : PySem.W.Frag) (C : Addr) : Sp := fun vs H Q E => ∃ (x y : V) (p q : Rat) (m l : Nat), vs = [x, y] ∧ Rq K H x p ∧ Rq K H y q ∧ Sz m p ∧ Sz l q ∧ m + l + 1 ≤ 9000 ∧ (q ≠ 0 → ∀ r H', Same H H' → Rq K H' r (p / q) → Q r H') ∧ (q = 0 → E (.ref C) none H)
theorem ok_divideX (F : Fn K mg "divide" s_divide ps_divide f fd) (drational : DefY P w K mg base k "rational" ["n", "d"] (spRatX K cZeroDivisor) f1 fd1) : DefY P w K mg base (k + 1) "divide" ps_divide (spDivX K cZeroDivisor) f fd := by
  refine ⟨okY F.F sc_divide (fun vs H Q E h => ?_) (fun cdv A outer s H vs Q E hr h => ?_), F.m, F.F.kp, F.b⟩
  · obtain ⟨_, _, _, _, _, _, rfl, _⟩ := h
    rfl
  obtain ⟨x, y, p, q, m, l, rfl, ⟨a, rfl, ha⟩, ⟨b, rfl, hb⟩, zp, zq, hm, z, e⟩ := h
  have m0 := nn zp
  have l0 := nn zq
  refine ⟨_, (pss_one (ps_ret (pcallY drational hr (L2N.takes_of rfl rfl rfl rfl) (pa_cons (pe_op op_mulW (pe_ix ix_tup (pv 0) pe_int (fun _ _ => rfl)) (pe_ix ix_tup (pv 1) pe_int (fun _ _ => rfl))) (pa_cons (pe_op op_mulW (pe_ix ix_tup (pv 0) pe_int (fun _ _ => rfl)) (pe_ix ix_tup (pv 1) pe_int (fun _ _ => rfl))) pa_nil))))), ?_⟩
  refine ⟨_, rfl, a, _, _, _, rfl, rfl, ha, at0 rfl, _, rfl, b, _, _, _, rfl, rfl, hb, at1 rfl, _, _, rfl, rfl, mulW zp.1 (dA zq) m0 l0 (by omega), ?_⟩
  refine ⟨_, rfl, a, _, _, _, rfl, rfl, ha, at1 rfl, _, rfl, b, _, _, _, rfl, rfl, hb, at0 rfl, _, _, rfl, rfl, mulW (dA zp) zq.1 m0 l0 (by omega), ?_⟩
  refine ⟨_, _, m + l + 1, rfl, ab_up (ab_mul zp.1 (dA zq)) (by omega), ab_up (ab_mul (dA zp) zq.1) (by omega), by omega, fun hd r H' e hr => ?_, fun hd => ?_⟩
  · have hq : q ≠ 0 := fun g => hd (by rw [g]; simp)
    rw [rz_div p q hq] at hr
    exact z hq r H' e hr
  · refine e ?_
    have dp := p.den_pos
    rcases Int.mul_eq_zero.mp hd with g | g
    · omega
    · exact Rat.num_eq_zero.mp g
def spAl (a : Addr) (d : Option Addr) : Sp := fun vs H Q _ => vs = [.ref a] ∧ Hd d H ∧ ∀ H', Same H H' → Q (.bl true) H'
theorem spAl_imp {a : Addr} {oe : Obj} {d : Option Addr} {n : Nat} {C : Addr} (hn : n < 30) (A : Ak K cZeroDivisor cBadNumber cEmptySpan cBeforeStart cTurnsBack cBadRate cBadBound cBadName cDuplicateName cUnknownName cBadLink cUnknownLink cBadNote cUnknownMoment cNoWorld cOutsideSpan cTooManyLiars cRootFollows cCondemned cBadDate cBadLeap cBadLabel cNoSuchSecond cBadCells cRefusedEntry cDuplicateTag cUnknownTag cBadLine cNothingToUndo cNothingToRedo n C) (hz : Zc (.ref C) d oe) (hf : ∃ fv, oe.data = .fields fv) : ∀ vs H Q E, spAl a d vs H Q E → spAlone K cZeroDivisor cBadNumber cEmptySpan cBeforeStart cTurnsBack cBadRate cBadBound cBadName cDuplicateName cUnknownName cBadLink cUnknownLink cBadNote cUnknownMoment cNoWorld cOutsideSpan cTooManyLiars cRootFollows cCondemned cBadDate cBadLeap cBadLabel cNoSuchSecond cBadCells cRefusedEntry cDuplicateTag cUnknownTag cBadLine cNothingToUndo cNothingToRedo (a, oe) vs H Q E := by
  rintro vs H Q E ⟨rfl, h, q⟩
  exact ⟨n, C, d, hn, A, rfl, hz, hf, h, q⟩
def tSuZ (K : PySem.W.Frag) (CZ : Addr) : Addr → Value → Option Addr → TS := fun a cls d D σ H => cls = .ref CZ ∧ tRet (tTup (tCons (tC (.str "raised")) (tCons (tAndV (tCB (rIsG K CZ a d) (tCons (tVar 2) (tCons (tC (.ref CZ)) tNil))) (tCall (spAl a d) [] E0 (tCons (tVar 2) tNil))) tNil))) D σ H
abbrev s__law_divided : Stmt := top 69
abbrev N__law_divided : List Str := ["_law_a", "_law_b", "_law_e"]
theorem sc__law_divided : FnScope N__law_divided ["_law_a", "_law_b"] (defScope s__law_divided) := ⟨rfl, rfl, rfl, by decide +kernel, rfl, by decide +kernel, by decide +kernel⟩
abbrev ps__law_divided : List Str := ["_law_a", "_law_b"]
/-- what a quotient tells -/
def spDivd (K : PySem.W.Frag) : Sp := fun vs H Q _ => ∃ (x y : V) (p q : Rat) (m l : Nat), vs = [x, y] ∧ Rq K H x p ∧ Rq K H y q ∧ Sz m p ∧ Sz l q ∧ m + l + 1 ≤ 9000 ∧
  (q ≠ 0 → ∀ t r H', Same H H' → SqT K H' t [.str "is", r] → Rq K H' r (p / q) → Q (.ref t) H') ∧ (q = 0 → ∀ t H', Same H H' → SqT K H' t [.str "raised", .bl true] → Q (.ref t) H')
theorem ok_divided (T : Bn mg) (TZ : Zt K mg cZeroDivisor) (gV : mg "VerdictError" = some (.ref CV)) (AZ : Ak K cZeroDivisor cBadNumber cEmptySpan cBeforeStart cTurnsBack cBadRate cBadBound cBadName cDuplicateName cUnknownName cBadLink cUnknownLink cBadNote cUnknownMoment cNoWorld cOutsideSpan cTooManyLiars cRootFollows cCondemned cBadDate cBadLeap cBadLabel cNoSuchSecond cBadCells cRefusedEntry cDuplicateTag cUnknownTag cBadLine cNothingToUndo cNothingToRedo 0 cZeroDivisor) (xZ : PySem.W.exmOne K (.ref cZeroDivisor) (.ref CV) = some true) (F : Fn K mg "_law_divided" s__law_divided ps__law_divided f fd)
    (ddivide : DefY P w K mg base k "divide" ["a", "b"] (spDivX K cZeroDivisor) f1 fd1) (d_law_alone : DefP P w K mg base k "_law_alone" ["_law_e"] (spAlone K cZeroDivisor cBadNumber cEmptySpan cBeforeStart cTurnsBack cBadRate cBadBound cBadName cDuplicateName cUnknownName cBadLink cUnknownLink cBadNote cUnknownMoment cNoWorld cOutsideSpan cTooManyLiars cRootFollows cCondemned cBadDate cBadLeap cBadLabel cNoSuchSecond cBadCells cRefusedEntry cDuplicateTag cUnknownTag cBadLine cNothingToUndo cNothingToRedo) f2 fd2) : Def P w K mg base (k + 1) "_law_divided" ps__law_divided (spDivd K) f fd := by
  refine ⟨F.F.ok sc__law_divided (fun vs H Q E h => ?_) (fun cdv A outer s H vs Q E hr h => ?_), F.m, F.F.kp, F.b⟩
  · obtain ⟨_, _, _, _, _, _, rfl, _⟩ := h
    rfl
  obtain ⟨x, y, p, q, m, l, rfl, hx, hy, zp, zq, hm, z1, z2⟩ := h
  refine ⟨_, (pss_one (L2N.ps_try_ases (W0 := fun _ _ _ _ => False) rfl rfl sc__law_divided.nd takes0Y
          (fun W pn xe tk _ => pss_one (ps_ret (pe_tup (pa_cons pe_str (pa_cons (pcallY ddivide hr tk (pa_cons (pv 0) (pa_cons (pv 1) pa_nil))) pa_nil)))))
          (L2N.AsOk.cons (i := 2) (ts := tSuZ K cZeroDivisor) ⟨rfl, by decide, Or.inl gV⟩ rfl rfl (fun a oe cls dd pn hz hf => pss_if (p := cls = .ref cZeroDivisor) fun e => by
                subst e
                exact pss_one (ps_ret (pe_tup (pa_cons pe_str (pa_cons (pe_and (pe_callB (call_isG AZ.e hz.zc hf) (by rfl) T.isinstance_ (by decide +kernel) (pa_cons (pv 2) (pa_cons (pe_glob (v := .ref cZeroDivisor) (u := .ref cZeroDivisor) (by rfl) TZ.gC rfl) pa_nil)))
                    (pe_one (pe_callP2 d_law_alone ⟨hr.dp, hr.un⟩ ⟨rfl, hf.elim fun vs ev => ⟨vs, ev, hz.2.2 vs ev⟩⟩ List.mem_cons_self (spAl_imp (by decide) AZ hz.zc hf) (pa_cons (pv 2) pa_nil)))) pa_nil)))))
          L2N.AsOk.nil))), ?_⟩
  (walk_at "vk_vc")
  · intro hq r H' e hr'
    refine ⟨sz2, fun t ht => ?_⟩
    have st := same_new ht (.tup [.str "is", r])
    exact z1 hq t r _ (e.trans st) (SqT.of upd_same) (hr'.same st)
  · intro hq
    refine ⟨true, xZ, fun _ e he => ⟨rfl, ?_⟩, nofun⟩
    refine ⟨_, rfl, .ref cZeroDivisor, .ref cZeroDivisor, true, rfl, .own _, .inl rfl, AZ.kZeroDivisor, true, rfl, ifT rfl ?_⟩
    refine ⟨_, rfl, rfl, .inl rfl, fun H2 s2 => ⟨sz2, fun t ht => ?_⟩⟩
    have st := same_new ht (.tup [.str "raised", .bl true])
    exact z2 hq t _ (s2.trans st) (SqT.of upd_same)
end Vk

set_option maxHeartbeats 4000000
namespace Vk
open PySem L2 Vm Vl
variable {l aZERO : Addr} {P : Program} {w : World} {K : PySem.W.Frag} {mg : Str → Option Value} {base : Heap} {k : Nat} {f f1 f2 f3 f4 f5 f6 f7 f8 f9 : Addr} {fd fd1 fd2 fd3 fd4 fd5 fd6 fd7 fd8 fd9 : FuncData}
theorem cmw {i j : Int} {a b : Nat} (h : i.natAbs < 2 ^ a) (g : j.natAbs < 2 ^ b) (l : a + b ≤ 900000) : CMulW i j := wide_mul (ab_up h (Nat.le_succ a)) (ab_up g (Nat.le_succ b)) (Nat.succ_pos _) (Nat.succ_pos _) (by omega)
theorem rlneg {H : Hp} {t : Addr} {p : Rat} : Rq K (upd H t (.tup [.int (0 - p.num), .int (p.den : Int)])) (.ref t) (-p) := ⟨t, rfl, by rw [Rat.neg_num, ← Int.zero_sub]; exact SqT.of upd_same⟩
def sgi (n : Int) : Int := if n < 0 then -1 else if n = 0 then 0 else 1
theorem sg_sgi (p q : Rat) : sg p q = sgi (p.num * (q.den : Int) - q.num * (p.den : Int)) := by
  unfold sg sgi
  have h1 := lt_num (p := p) (q := q)
  have h2 := eq_num (p := p) (q := q)
  by_cases e : p = q
  · rw [if_pos e]
    have := h2.mp e
    rw [if_neg (by omega), if_pos (by omega)]
  · rw [if_neg e]
    have n2 : ¬ p.num * (q.den : Int) = q.num * (p.den : Int) := fun h => e (h2.mpr h)
    by_cases g : p < q
    · rw [if_pos g]
      have := h1.mp g
      rw [if_pos (by omega)]
    · rw [if_neg g]
      have n1 : ¬ p.num * (q.den : Int) < q.num * (p.den : Int) := fun h => g (h1.mpr h)
      rw [if_neg (by omega), if_neg (by omega)]
abbrev s__law_worth : Stmt := top 67
abbrev N__law_worth : List Str := ["_law_value", "_law_n", "_law_d"]
theorem sc__law_worth : FnScope N__law_worth ["_law_value", "_law_n", "_law_d"] (defScope s__law_worth) := ⟨rfl, rfl, rfl, by decide +kernel, rfl, by decide +kernel, by decide +kernel⟩
abbrev ps__law_worth : List Str := ["_law_value", "_law_n", "_law_d"]
def spWorth (K : PySem.W.Frag) : Sp := fun vs H Q _ => ∃ (v : V) (q : Rat) (n d : Int) (m : Nat), vs = [v, .int n, .int d] ∧ Rq K H v q ∧ Sz m q ∧ m ≤ 9000 ∧ n.natAbs < 2 ^ 10000 ∧ d.natAbs < 2 ^ 10000 ∧ q.num * d = n * (q.den : Int) ∧ ∀ H', Same H H' → Q (.bl true) H'
theorem ok_worth (F : Fn K mg "_law_worth" s__law_worth ps__law_worth f fd) (d_law_is_frac : Def P w K mg base k "_law_is_frac" ["_law_value"] (spIsFrac K) f1 fd1) : Def P w K mg base (k + 1) "_law_worth" ps__law_worth (spWorth K) f fd := by
  refine ⟨F.F.ok sc__law_worth (fun vs H Q E h => ?_) (fun cdv A outer s H vs Q E hr h => ?_), F.m, F.F.kp, F.b⟩
  · obtain ⟨_, _, _, _, _, rfl, _⟩ := h
    rfl
  obtain ⟨v, q, n, d, m, rfl, hv, zq, hm, zn, zd, hq, z⟩ := h
  obtain ⟨va, rfl, hva⟩ := id hv
  refine ⟨_, (pss_one (ps_ret (pe_and (pcall d_law_is_frac hr (pa_cons (pv 0) pa_nil)) (pe_one (pe_cmpR op_eq (pe_op op_mulW (pe_ix ix_tup (pv 0) pe_int (fun _ _ => rfl)) (pv 2)) (pe_op op_mulW (pv 1) (pe_ix ix_tup (pv 0) pe_int (fun _ _ => rfl))) (nomark _)))))), ?_⟩
  (walk_at "vk_vc")
  · exact cmw (zq.1) zd (by omega)
  · exact cmw zn (dA zq) (by omega)
  · show Q (V.bl (decide (V.int (q.num * d) = V.int (n * (q.den : Int))))) H'
    rw [dT (congrArg V.int hq)]
    exact z _ e
abbrev s__law_sign : Stmt := top 68
abbrev N__law_sign : List Str := ["_law_n"]
theorem sc__law_sign : FnScope N__law_sign ["_law_n"] (defScope s__law_sign) := ⟨rfl, rfl, rfl, by decide +kernel, rfl, by decide +kernel, by decide +kernel⟩
abbrev ps__law_sign : List Str := ["_law_n"]
theorem ok_sign (T : Bn mg) (F : Fn K mg "_law_sign" s__law_sign ps__law_sign f fd) : Def P w K mg base (k + 1) "_law_sign" ps__law_sign (fun vs H Q _ => ∃ n, vs = [.int n] ∧ Q (.int (sgi n)) H) f fd := by
  refine ⟨F.F.ok sc__law_sign (fun vs H Q E h => ?_) (fun cdv A outer s H vs Q E hr h => ?_), F.m, F.F.kp, F.b⟩
  · obtain ⟨_, rfl, _⟩ := h
    rfl
  obtain ⟨n, rfl, z⟩ := h
  refine ⟨_, (pss_one (ps_ret (pe_op op_sub (pe_callTy call_int1 (by rfl) T.int_ (by decide +kernel) (pa_cons (pe_cmpR op_gt (pv 0) pe_int (nomark _)) pa_nil)) (pe_callTy call_int1 (by rfl) T.int_ (by decide +kernel) (pa_cons (pe_cmpR op_lt (pv 0) pe_int (nomark _)) pa_nil))))), ?_⟩
  refine ⟨_, rfl, _, _, rfl, rfl, .inr ⟨_, rfl, _, rfl, _, _, rfl, rfl, .inr ⟨_, rfl, _, _, rfl, rfl, ?_⟩⟩⟩
  have e : (if decide (0 < n) = true then (1 : Int) else 0) - (if decide (n < 0) = true then (1 : Int) else 0) = sgi n := by
    unfold sgi
    by_cases h1 : n < 0
    · rw [if_pos h1, dT h1, dF (by omega)]; rfl
    · rw [if_neg h1, dF h1]
      by_cases h2 : n = 0
      · rw [if_pos h2, dF (by omega)]; rfl
      · rw [if_neg h2, dT (by omega)]; rfl
  show Q (.int ((if decide (0 < n) = true then (1 : Int) else 0) - (if decide (n < 0) = true then (1 : Int) else 0))) H
  rw [e]
  exact z
abbrev s__law_signs_right : Stmt := top 70
abbrev N__law_signs_right : List Str := ["_law_a", "_law_b", "_law_s"]
theorem sc__law_signs_right : FnScope N__law_signs_right ["_law_a", "_law_b"] (defScope s__law_signs_right) := ⟨rfl, rfl, rfl, by decide +kernel, rfl, by decide +kernel, by decide +kernel⟩
abbrev ps__law_signs_right : List Str := ["_law_a", "_law_b"]
def sp2 (K : PySem.W.Frag) : Sp := fun vs H Q _ => ∃ (x y : V) (p q : Rat), vs = [x, y] ∧ Rq K H x p ∧ Rq K H y q ∧ Sz 1000 p ∧ Sz 1000 q ∧ ∀ H', Same H H' → Q (.bl true) H'
theorem abs_sub_int (p q : Rat) : (ab (p - q)).num * ((p.den : Int) * (q.den : Int)) = (if p.num * (q.den : Int) - q.num * (p.den : Int) < 0 then -(p.num * (q.den : Int) - q.num * (p.den : Int)) else p.num * (q.den : Int) - q.num * (p.den : Int)) * ((ab (p - q)).den : Int) := by
  have h := worth_mk (n := p.num * (q.den : Int) - q.num * (p.den : Int)) (dm0 p q)
  rw [← Rat.sub_def', Int.natCast_mul] at h
  have hs : (p - q < 0) ↔ p.num * (q.den : Int) - q.num * (p.den : Int) < 0 := by
    have h1 := lt_num (p := p) (q := q)
    constructor
    · intro g
      have : p < q := by grind
      have := h1.mp this
      omega
    · intro g
      have : p < q := h1.mpr (by omega)
      grind
  unfold ab
  by_cases g : p - q < 0
  · rw [if_pos g, if_pos (hs.mp g), Rat.neg_num, Int.neg_mul, h, Int.neg_mul]
    rfl
  · rw [if_neg g, if_neg (fun c => g (hs.mpr c)), h]
theorem ok_signs (T : Bn mg) (F : Fn K mg "_law_signs_right" s__law_signs_right ps__law_signs_right f fd) (dadd : Def P w K mg base k "add" ["a", "b"] (spOp2 K (· + ·)) f1 fd1) (dsubtract : Def P w K mg base k "subtract" ["a", "b"] (spOp2 K (· - ·)) f2 fd2) (dmultiply : Def P w K mg base k "multiply" ["a", "b"] (spOp2 K (· * ·)) f3 fd3)
    (dnegate : Def P w K mg base k "negate" ["a"] (spOp1 K fun p => -p) f4 fd4) (ddistance : Def P w K mg base k "distance" ["a", "b"] (spOp2 K fun p q => ab (p - q)) f5 fd5) (d_law_is_frac : Def P w K mg base k "_law_is_frac" ["_law_value"] (spIsFrac K) f6 fd6)
    (d_law_same : Def P w K mg base k "_law_same" ["_law_value", "_law_due"] (spSame K 4) f7 fd7) (d_law_worth : Def P w K mg base k "_law_worth" ["_law_value", "_law_n", "_law_d"] (spWorth K) f8 fd8) : Def P w K mg base (k + 1) "_law_signs_right" ps__law_signs_right (sp2 K) f fd := by
  refine ⟨F.F.ok sc__law_signs_right (fun vs H Q E h => ?_) (fun cdv A outer s H vs Q E hr h => ?_), F.m, F.F.kp, F.b⟩
  · obtain ⟨_, _, _, _, rfl, _⟩ := h
    rfl
  obtain ⟨x, y, p, q, rfl, hx, hy, zp, zq, z⟩ := h
  obtain ⟨xa, rfl, hxa⟩ := id hx
  obtain ⟨ya, rfl, hya⟩ := id hy
  have zs := (zp.add zq).mono (show 1000 + 1000 + 1 ≤ 2500 by decide)
  have zd := (zp.sub zq).mono (show 1000 + 1000 + 1 ≤ 2500 by decide)
  have zm := (zp.mul zq).mono (show 1000 + 1000 ≤ 2500 by decide)
  have zab : Sz 2500 (ab (p - q)) := by unfold ab; split; exact zd.neg; exact zd
  have pn := ab_up zp.1 (show 1000 ≤ 2500 by decide)
  have qn := ab_up zq.1 (show 1000 ≤ 2500 by decide)
  have pd := ab_up (dA zp) (show 1000 ≤ 2500 by decide)
  have qd := ab_up (dA zq) (show 1000 ≤ 2500 by decide)
  have sn := zs.1
  have sd := dA zs
  have dn := zd.1
  have dd := dA zd
  have g1 : V.int (((p + q).num * (q.den : Int) - q.num * ((p + q).den : Int)) * (p.den : Int)) = V.int (p.num * ((p + q).den : Int) * (q.den : Int)) := congrArg V.int (sub_int (by grind))
  have g2 : V.int (((p - q).num * (q.den : Int) + q.num * ((p - q).den : Int)) * (p.den : Int)) = V.int (p.num * ((p - q).den : Int) * (q.den : Int)) := congrArg V.int (add_int (by grind))
  have g3 : (p * q).num * ((p.den : Int) * (q.den : Int)) = p.num * q.num * ((p * q).den : Int) := by
    have h := worth_mk (n := p.num * q.num) (dm0 p q)
    rw [← Rat.mul_def', Int.natCast_mul] at h
    exact h
  have g4 := abs_sub_int p q
  have b2 : (p.num * (q.den : Int) - q.num * (p.den : Int)).natAbs < 2 ^ 10000 := ab_up (ab_sub (ab_mul pn qd) (ab_mul qn pd)) (by decide)
  have b1 : (if p.num * (q.den : Int) - q.num * (p.den : Int) < 0 then -(p.num * (q.den : Int) - q.num * (p.den : Int)) else p.num * (q.den : Int) - q.num * (p.den : Int)).natAbs < 2 ^ 10000 := by
    split
    · rw [Int.natAbs_neg]; exact b2
    · exact b2
  have b3 : ((p.den : Int) * (q.den : Int)).natAbs < 2 ^ 10000 := ab_up (ab_mul pd qd) (by decide)
  have b4 : (p.num * q.num).natAbs < 2 ^ 10000 := ab_up (ab_mul pn qn) (by decide)
  have tr : Tree 4 (dq (-p)) := tree_dq _ _
  refine ⟨_, (pss_cons (ps_set (i := 2) sc__law_signs_right.nd rfl (Or.inl rfl) (pcall dadd hr (pa_cons (pv 0) (pa_cons (pv 1) pa_nil))))
      (pss_cons (ps_if (PW.pt (pw_or (pt_not (pt_val (pcall d_law_is_frac hr (pa_cons (pv 2) pa_nil)))) (pw_or1 (pt_cmpR op_ne (pe_op op_mulW (pe_op op_sub (pe_op op_mulW (pe_ix ix_tup (pv 2) pe_int (fun _ _ => rfl)) (pe_ix ix_tup (pv 1) pe_int (fun _ _ => rfl))) (pe_op op_mulW (pe_ix ix_tup (pv 1) pe_int (fun _ _ => rfl)) (pe_ix ix_tup (pv 2) pe_int (fun _ _ => rfl)))) (pe_ix ix_tup (pv 0) pe_int (fun _ _ => rfl))) (pe_op op_mulW (pe_op op_mulW (pe_ix ix_tup (pv 0) pe_int (fun _ _ => rfl)) (pe_ix ix_tup (pv 2) pe_int (fun _ _ => rfl))) (pe_ix ix_tup (pv 1) pe_int (fun _ _ => rfl))) (nomark _)))))
        (pss_one (ps_ret pe_bl))
        pss_nil)
      (pss_cons (ps_set (i := 2) sc__law_signs_right.nd rfl (Or.inl rfl) (pcall dsubtract hr (pa_cons (pv 0) (pa_cons (pv 1) pa_nil))))
      (pss_cons (ps_if (PW.pt (pw_or (pt_not (pt_val (pcall d_law_is_frac hr (pa_cons (pv 2) pa_nil)))) (pw_or1 (pt_cmpR op_ne (pe_op op_mulW (pe_op op_add (pe_op op_mulW (pe_ix ix_tup (pv 2) pe_int (fun _ _ => rfl)) (pe_ix ix_tup (pv 1) pe_int (fun _ _ => rfl))) (pe_op op_mulW (pe_ix ix_tup (pv 1) pe_int (fun _ _ => rfl)) (pe_ix ix_tup (pv 2) pe_int (fun _ _ => rfl)))) (pe_ix ix_tup (pv 0) pe_int (fun _ _ => rfl))) (pe_op op_mulW (pe_op op_mulW (pe_ix ix_tup (pv 0) pe_int (fun _ _ => rfl)) (pe_ix ix_tup (pv 2) pe_int (fun _ _ => rfl))) (pe_ix ix_tup (pv 1) pe_int (fun _ _ => rfl))) (nomark _)))))
        (pss_one (ps_ret pe_bl))
        pss_nil)
      (pss_cons (ps_if (pt_not (pt_val (pcall d_law_worth hr (pa_cons (pcall dmultiply hr (pa_cons (pv 0) (pa_cons (pv 1) pa_nil))) (pa_cons (pe_op op_mulW (pe_ix ix_tup (pv 0) pe_int (fun _ _ => rfl)) (pe_ix ix_tup (pv 1) pe_int (fun _ _ => rfl))) (pa_cons (pe_op op_mulW (pe_ix ix_tup (pv 0) pe_int (fun _ _ => rfl)) (pe_ix ix_tup (pv 1) pe_int (fun _ _ => rfl))) pa_nil))))))
        (pss_one (ps_ret pe_bl))
        pss_nil)
      (pss_cons (ps_if (pt_not (pt_val (pcall d_law_same hr (pa_cons (pcall dnegate hr (pa_cons (pv 0) pa_nil)) (pa_cons (pe_tup (pa_cons (pe_op op_sub pe_int (pe_ix ix_tup (pv 0) pe_int (fun _ _ => rfl))) (pa_cons (pe_ix ix_tup (pv 0) pe_int (fun _ _ => rfl)) pa_nil))) pa_nil)))))
        (pss_one (ps_ret pe_bl))
        pss_nil)
      (pss_one (ps_ret (pcall d_law_worth hr (pa_cons (pcall ddistance hr (pa_cons (pv 0) (pa_cons (pv 1) pa_nil))) (pa_cons (pe_callB call_abs (by rfl) T.abs_ (by decide +kernel) (pa_cons (pe_op op_sub (pe_op op_mulW (pe_ix ix_tup (pv 0) pe_int (fun _ _ => rfl)) (pe_ix ix_tup (pv 1) pe_int (fun _ _ => rfl))) (pe_op op_mulW (pe_ix ix_tup (pv 1) pe_int (fun _ _ => rfl)) (pe_ix ix_tup (pv 0) pe_int (fun _ _ => rfl)))) pa_nil)) (pa_cons (pe_op op_mulW (pe_ix ix_tup (pv 0) pe_int (fun _ _ => rfl)) (pe_ix ix_tup (pv 1) pe_int (fun _ _ => rfl))) pa_nil)))))))))))), ?_⟩
  (walk_at "vk_vc")
  all_goals first
    | exact cmw (by assumption) (by assumption) (by decide)
    | exact cmw (ab_sub (ab_mul (by assumption) (by assumption)) (ab_mul (by assumption) (by assumption))) (by assumption) (by decide)
    | exact cmw (ab_add (ab_mul (by assumption) (by assumption)) (ab_mul (by assumption) (by assumption))) (by assumption) (by decide)
    | exact cmw (ab_mul (by assumption) (by assumption)) (by assumption) (by decide)
    | exact z _ (by (walk_at "vk_same"))
end Vk

set_option maxHeartbeats 4000000
namespace Vk
open PySem L2 Vm Vl
variable {l aZERO : Addr} {P : Program} {w : World} {K : PySem.W.Frag} {mg : Str → Option Value} {base : Heap} {k : Nat} {f f1 f2 f3 f4 f5 f6 f7 f8 f9 : Addr} {fd fd1 fd2 fd3 fd4 fd5 fd6 fd7 fd8 fd9 : FuncData}
theorem sz_inv {a : Nat} {q : Rat} (h : Sz a q) (hq : q ≠ 0) : Sz a q⁻¹ := by
  by_cases g : 0 < q
  · exact h.inv g
  · have h1 : 0 < -q := by grind
    have := (h.neg.inv h1).neg
    have e : -(-q)⁻¹ = q⁻¹ := by grind
    rwa [e] at this
theorem sz_div {a b : Nat} {p q : Rat} (h : Sz a p) (l : Sz b q) (hq : q ≠ 0) : Sz (a + b) (p / q) := by
  rw [Rat.div_def]
  exact h.mul (sz_inv l hq)
def dtr : PyData := .tuple [.str "raised", .bool true]
theorem dtr_dp {H : Hp} {t : Addr} (h : SqT K H t [.str "raised", .bl true]) : Dp K H (.ref t) dtr := .tup h (.cons (.str _) (.cons (.bl _) .nil))
abbrev s__law_quotient_right : Stmt := top 71
abbrev N__law_quotient_right : List Str := ["_law_a", "_law_b", "_law_told", "_law_q"]
theorem sc__law_quotient_right : FnScope N__law_quotient_right ["_law_a", "_law_b"] (defScope s__law_quotient_right) := ⟨rfl, rfl, rfl, by decide +kernel, rfl, by decide +kernel, by decide +kernel⟩
abbrev ps__law_quotient_right : List Str := ["_law_a", "_law_b"]
theorem ok_quotient (T : Bn mg) (F : Fn K mg "_law_quotient_right" s__law_quotient_right ps__law_quotient_right f fd) (d_law_divided : Def P w K mg base k "_law_divided" ["_law_a", "_law_b"] (spDivd K) f1 fd1) (d_law_same : Def P w K mg base k "_law_same" ["_law_value", "_law_due"] (spSame K 4) f2 fd2)
    (d_law_is_frac : Def P w K mg base k "_law_is_frac" ["_law_value"] (spIsFrac K) f3 fd3) : Def P w K mg base (k + 1) "_law_quotient_right" ps__law_quotient_right (sp2 K) f fd := by
  refine ⟨F.F.ok sc__law_quotient_right (fun vs H Q E h => ?_) (fun cdv A outer s H vs Q E hr h => ?_), F.m, F.F.kp, F.b⟩
  · obtain ⟨_, _, _, _, rfl, _⟩ := h
    rfl
  obtain ⟨x, y, p, q, rfl, hx, hy, zp, zq, z⟩ := h
  obtain ⟨xa, rfl, hxa⟩ := id hx
  obtain ⟨ya, rfl, hya⟩ := id hy
  have pn := ab_up zp.1 (show 1000 ≤ 2500 by decide)
  have qn := ab_up zq.1 (show 1000 ≤ 2500 by decide)
  have pd := ab_up (dA zp) (show 1000 ≤ 2500 by decide)
  have qd := ab_up (dA zq) (show 1000 ≤ 2500 by decide)
  refine ⟨_, (pss_cons (ps_set (i := 2) sc__law_quotient_right.nd rfl (Or.inl rfl) (pcall d_law_divided hr (pa_cons (pv 0) (pa_cons (pv 1) pa_nil))))
      (pss_cons (ps_if (PW.pt (pw_or (pt_cmpR op_eq (pe_ix ix_tup (pv 1) pe_int (fun _ _ => rfl)) pe_int (nomark _)) (pw_or1 (pt_cmpR (op_neD hr.units) (pe_ix ix_tup (pv 2) pe_int (fun _ _ => rfl)) pe_str (nomark _)))))
        (pss_one (ps_ret (pe_and (pe_cmpR op_eq (pe_ix ix_tup (pv 1) pe_int (fun _ _ => rfl)) pe_int (nomark _)) (pe_one (pcall d_law_same hr (pa_cons (pv 2) (pa_cons (pe_tup (pa_cons pe_str (pa_cons pe_bl pa_nil))) pa_nil)))))))
        pss_nil)
      (pss_cons (ps_set (i := 3) sc__law_quotient_right.nd rfl (Or.inl rfl) (pe_ix ix_tup (pv 2) pe_int (fun _ _ => rfl)))
      (pss_one (ps_ret (pe_and (pcall d_law_is_frac hr (pa_cons (pv 3) pa_nil)) (pe_one (pe_cmpR op_eq (pe_op op_mulW (pe_op op_mulW (pe_ix ix_tup (pv 3) pe_int (fun _ _ => rfl)) (pe_ix ix_tup (pv 1) pe_int (fun _ _ => rfl))) (pe_ix ix_tup (pv 0) pe_int (fun _ _ => rfl))) (pe_op op_mulW (pe_op op_mulW (pe_ix ix_tup (pv 0) pe_int (fun _ _ => rfl)) (pe_ix ix_tup (pv 3) pe_int (fun _ _ => rfl))) (pe_ix ix_tup (pv 1) pe_int (fun _ _ => rfl))) (nomark _))))))))), ?_⟩
  (walk_at "vk_vc")
  · intro hq t r H1 e1 ht hr'
    have zs := (sz_div zp zq hq).mono (show 1000 + 1000 ≤ 2500 by decide)
    have sn := zs.1
    have sd := dA zs
    obtain ⟨ra, rfl, hra⟩ := id hr'
    have qn0 : ¬ V.int q.num = V.int 0 := fun e => hq (Rat.num_eq_zero.mp (V.int.inj e))
    have g1 : V.int ((p / q).num * q.num * (p.den : Int)) = V.int (p.num * ((p / q).den : Int) * (q.den : Int)) := congrArg V.int (mul_int' (by grind))
    (walk_at "vk_vc")
    all_goals first
      | exact cmw (by assumption) (by assumption) (by decide)
      | exact cmw (ab_mul (by assumption) (by assumption)) (by assumption) (by decide)
      | (show Q (V.bl (decide (V.int ((p / q).num * q.num * (p.den : Int)) = V.int (p.num * ((p / q).den : Int) * (q.den : Int))))) _
         rw [dT g1]
         exact z _ (e1.trans e))
  · intro hq t H1 e1 ht
    have qn0 : V.int q.num = V.int 0 := by rw [hq]; rfl
    have da := dtr_dp ht
    have tr : Tree 4 dtr := .tup (by show 2 ≤ 1000; decide) fun d hd => by
      simp only [List.mem_cons, List.mem_nil_iff, or_false] at hd
      rcases hd with rfl | rfl
      · exact .str (by decide +kernel)
      · exact .bl _
    (walk_at "vk_vc")
    all_goals exact z _ (e1.trans (same_new ‹_› _))
abbrev s__law_order_right : Stmt := top 72
abbrev N__law_order_right : List Str := ["_law_a", "_law_b", "_law_sign_here", "_law_s", "_law_one", "_law_whole"]
theorem sc__law_order_right : FnScope N__law_order_right ["_law_a", "_law_b"] (defScope s__law_order_right) := ⟨rfl, rfl, rfl, by decide +kernel, rfl, by decide +kernel, by decide +kernel⟩
abbrev ps__law_order_right : List Str := ["_law_a", "_law_b"]
theorem fl_lo (q : Rat) : ¬ q.num < q.floor * (q.den : Int) := by
  have dp := q.den_pos
  rw [Rat.floor_def]
  have := Int.ediv_mul_le q.num (show (q.den : Int) ≠ 0 by omega)
  omega
theorem fl_hi (q : Rat) : ¬ (q.floor + 1) * (q.den : Int) ≤ q.num := by
  have dp := q.den_pos
  rw [Rat.floor_def]
  have := Int.lt_ediv_add_one_mul_self q.num (show 0 < (q.den : Int) by omega)
  omega
theorem fl_ab {m : Nat} {q : Rat} (z : Sz m q) : q.floor.natAbs < 2 ^ m := by
  rw [Rat.floor_def]
  exact Nat.lt_of_le_of_lt (Int.natAbs_ediv_le_natAbs _ _) z.1
theorem sgi_neg (n : Int) : sgi (-n) = 0 - sgi n := by
  unfold sgi
  by_cases h : n < 0
  · rw [if_pos h, if_neg (by omega), if_neg (by omega)]; rfl
  · rw [if_neg h]
    by_cases g : n = 0
    · rw [if_pos g, if_neg (by omega), if_pos (by omega)]; rfl
    · rw [if_neg g, if_pos (by omega)]; rfl
theorem sg_swap (p q : Rat) : sg q p = 0 - sg p q := by
  rw [sg_sgi, sg_sgi, ← sgi_neg]
  congr 1
  omega
theorem sg_self (p : Rat) : sg p p = 0 := if_pos rfl
theorem sg_add (p q : Rat) : sg (p + q) p = sgi q.num := by
  have h : sg (p + q) p = sg q 0 := by
    unfold sg
    have e1 : (p + q = p) ↔ (q = 0) := by constructor <;> intro h <;> grind
    have e2 : (p + q < p) ↔ (q < 0) := by constructor <;> intro h <;> grind
    by_cases h1 : q = 0
    · rw [if_pos h1, if_pos (e1.mpr h1)]
    · rw [if_neg h1, if_neg (fun c => h1 (e1.mp c))]
      by_cases h2 : q < 0
      · rw [if_pos h2, if_pos (e2.mpr h2)]
      · rw [if_neg h2, if_neg (fun c => h2 (e2.mp c))]
  rw [h, sg_sgi]
  congr 1
  simp
theorem ok_order (T : Bn mg) (F : Fn K mg "_law_order_right" s__law_order_right ps__law_order_right f fd) (d_law_sign : Def P w K mg base k "_law_sign" ["_law_n"] (fun vs H Q _ => ∃ n, vs = [.int n] ∧ Q (.int (sgi n)) H) f1 fd1) (dcompare : Def P w K mg base k "compare" ["a", "b"] (spTest2 K fun p q => .int (sg p q)) f2 fd2)
    (d_law_same : Def P w K mg base k "_law_same" ["_law_value", "_law_due"] (spSame K 4) f3 fd3) (dsmaller : Def P w K mg base k "smaller" ["a", "b"] (spSel K fun p q => if p ≤ q then p else q) f4 fd4) (dlarger : Def P w K mg base k "larger" ["a", "b"] (spSel K fun p q => if q ≤ p then p else q) f5 fd5)
    (dadd : Def P w K mg base k "add" ["a", "b"] (spOp2 K (· + ·)) f6 fd6) (d_law_is_frac : Def P w K mg base k "_law_is_frac" ["_law_value"] (spIsFrac K) f7 fd7) (dfloor_of : Def P w K mg base k "floor_of" ["a"] (fun vs H Q _ => ∃ (x : V) (q : Rat) (m : Nat), vs = [x] ∧ Rq K H x q ∧ Sz m q ∧ m ≤ 9000 ∧ Q (.int q.floor) H) f8 fd8)
    (d_law_is_int : Def P w K mg base k "_law_is_int" ["_law_value"] (spIsInt K) f9 fd9) : Def P w K mg base (k + 1) "_law_order_right" ps__law_order_right (sp2 K) f fd := by
  refine ⟨F.F.ok sc__law_order_right (fun vs H Q E h => ?_) (fun cdv A outer s H vs Q E hr h => ?_), F.m, F.F.kp, F.b⟩
  · obtain ⟨_, _, _, _, rfl, _⟩ := h
    rfl
  obtain ⟨x, y, pp, qq, rfl, hx, hy, zp, zq, z⟩ := h
  obtain ⟨xa, rfl, hxa⟩ := id hx
  obtain ⟨ya, rfl, hya⟩ := id hy
  have zs := (zp.add zq).mono (show 1000 + 1000 + 1 ≤ 2500 by decide)
  have pn := ab_up zp.1 (show 1000 ≤ 2500 by decide)
  have qn := ab_up zq.1 (show 1000 ≤ 2500 by decide)
  have pd := ab_up (dA zp) (show 1000 ≤ 2500 by decide)
  have qd := ab_up (dA zq) (show 1000 ≤ 2500 by decide)
  have e1 := sg_sgi pp qq
  have e2 := sg_swap pp qq
  have e3 := sg_add pp qq
  have e4 := sg_self (pp + qq)
  have tq : ∀ i, Tree 4 (PyData.int i) := fun i => .int i
  refine ⟨_, (pss_cons (ps_set (i := 2) sc__law_order_right.nd rfl (Or.inl rfl) (pcall d_law_sign hr (pa_cons (pe_op op_sub (pe_op op_mulW (pe_ix ix_tup (pv 0) pe_int (fun _ _ => rfl)) (pe_ix ix_tup (pv 1) pe_int (fun _ _ => rfl))) (pe_op op_mulW (pe_ix ix_tup (pv 1) pe_int (fun _ _ => rfl)) (pe_ix ix_tup (pv 0) pe_int (fun _ _ => rfl)))) pa_nil)))
      (pss_cons (ps_if (PW.pt (pw_or (pt_not (pt_val (pcall d_law_same hr (pa_cons (pcall dcompare hr (pa_cons (pv 0) (pa_cons (pv 1) pa_nil))) (pa_cons (pv 2) pa_nil))))) (pw_or1 (pt_not (pt_val (pcall d_law_same hr (pa_cons (pcall dcompare hr (pa_cons (pv 1) (pa_cons (pv 0) pa_nil))) (pa_cons (pe_op op_sub pe_int (pv 2)) pa_nil))))))))
        (pss_one (ps_ret pe_bl))
        pss_nil)
      (pss_cons (ps_if (PW.pt (pw_or (pt_not (pt_val (pcall d_law_same hr (pa_cons (pcall dsmaller hr (pa_cons (pv 0) (pa_cons (pv 1) pa_nil))) (pa_cons (pe_ifExp (pt_cmpR op_lt (pv 2) pe_int (nomark _)) (pv 0) (pv 1)) pa_nil))))) (pw_or1 (pt_not (pt_val (pcall d_law_same hr (pa_cons (pcall dlarger hr (pa_cons (pv 0) (pa_cons (pv 1) pa_nil))) (pa_cons (pe_ifExp (pt_cmpR op_lt (pv 2) pe_int (nomark _)) (pv 1) (pv 0)) pa_nil))))))))
        (pss_one (ps_ret pe_bl))
        pss_nil)
      (pss_cons (ps_set (i := 3) sc__law_order_right.nd rfl (Or.inl rfl) (pcall dadd hr (pa_cons (pv 0) (pa_cons (pv 1) pa_nil))))
      (pss_cons (ps_if (PW.pt (pw_or (pt_not (pt_val (pcall d_law_is_frac hr (pa_cons (pv 3) pa_nil)))) (pw_or (pt_not (pt_val (pcall d_law_same hr (pa_cons (pcall dcompare hr (pa_cons (pv 3) (pa_cons (pv 0) pa_nil))) (pa_cons (pcall d_law_sign hr (pa_cons (pe_ix ix_tup (pv 1) pe_int (fun _ _ => rfl)) pa_nil)) pa_nil))))) (pw_or1 (pt_not (pt_val (pcall d_law_same hr (pa_cons (pcall dcompare hr (pa_cons (pv 3) (pa_cons (pv 3) pa_nil))) (pa_cons pe_int pa_nil)))))))))
        (pss_one (ps_ret pe_bl))
        pss_nil)
      (pss_cons (ps_for PassesOwn.never rfl (pi_list (pe_lst (pa_cons (pv 0) (pa_cons (pv 1) (pa_cons (pv 3) pa_nil))))) (pg_name (i := 4) sc__law_order_right.nd rfl (Or.inl rfl))
        (pss_cons (ps_set (i := 5) sc__law_order_right.nd rfl (Or.inl rfl) (pcall dfloor_of hr (pa_cons (pv 4) pa_nil)))
        (pss_one (ps_if (PW.pt (pw_or (pt_not (pt_val (pcall d_law_is_int hr (pa_cons (pv 5) pa_nil)))) (pw_or (pt_cmpR op_gt (pe_op op_mulW (pv 5) (pe_ix ix_tup (pv 4) pe_int (fun _ _ => rfl))) (pe_ix ix_tup (pv 4) pe_int (fun _ _ => rfl)) (nomark _)) (pw_or1 (pt_cmpR op_le (pe_op op_mulW (pe_op op_add (pv 5) pe_int) (pe_ix ix_tup (pv 4) pe_int (fun _ _ => rfl))) (pe_ix ix_tup (pv 4) pe_int (fun _ _ => rfl)) (nomark _))))))
          (pss_one (ps_ret pe_bl))
          pss_nil))))
      (pss_one (ps_ret pe_bl)))))))), ?_⟩
  refine ⟨_, rfl, xa, _, _, _, rfl, rfl, hxa, at0 rfl, _, rfl, ya, _, _, _, rfl, rfl, hya, at1 rfl, _, _, rfl, rfl, cmw pn qd (by decide), ?_⟩
  refine ⟨_, rfl, ya, _, _, _, rfl, rfl, hya, at0 rfl, _, rfl, xa, _, _, _, rfl, rfl, hxa, at1 rfl, _, _, rfl, rfl, cmw qn pd (by decide), _, _, rfl, rfl, _, rfl, ?_⟩
  have es : sg pp qq = sgi (pp.num * (qq.den : Int) - qq.num * (pp.den : Int)) := e1
  have s1 : (pp < qq ∧ sg pp qq = -1 ∧ (if pp ≤ qq then pp else qq) = pp ∧ (if qq ≤ pp then pp else qq) = qq) ∨ (¬ pp < qq ∧ (sg pp qq = 0 ∨ sg pp qq = 1) ∧ (if pp ≤ qq then pp else qq) = qq ∧ (if qq ≤ pp then pp else qq) = pp) := by
    unfold sg
    by_cases h1 : pp = qq
    · subst h1
      refine .inr ⟨Rat.lt_irrefl, .inl (if_pos rfl), ?_, ?_⟩ <;> simp
    · rw [if_neg h1]
      by_cases h2 : pp < qq
      · refine .inl ⟨h2, if_pos h2, if_pos (Rat.le_of_lt h2), if_neg (fun c => ?_)⟩
        grind
      · refine .inr ⟨h2, .inr (if_neg h2), if_neg (fun c => ?_), if_pos ?_⟩ <;> grind
  show gName 2 (V.int (sgi (pp.num * (qq.den : Int) - qq.num * (pp.den : Int)))) _ _ _
  rw [← es]
  have trp : Tree 4 (dq pp) := tree_dq _ _
  have trq : Tree 4 (dq qq) := tree_dq _ _
  have fl := fun (m : Nat) (u : Rat) (z : Sz m u) => fl_ab z
  clear es
  have two : ∀ {α : Prop}, α → α := fun h => h
  obtain ⟨lt, en, m1, m2⟩ | ⟨lt, en, m1, m2⟩ := s1
  · have ng : sg pp qq < 0 := by omega
    (walk_at "vk_vc")
    · show Dp K H (V.int (0 - sg pp qq)) (PyData.int (sg qq pp))
      rw [e2]; exact .int _
    intro v hv
    replace hv : Rq K H v (if pp ≤ qq then pp else qq) := hv
    rw [m1] at hv
    obtain ⟨va, rfl, hva⟩ := id hv
    (walk_at "vk_vc")
    intro v2 hv2
    replace hv2 : Rq K H v2 (if qq ≤ pp then pp else qq) := hv2
    rw [m2] at hv2
    obtain ⟨va2, rfl, hva2⟩ := id hv2
    (walk_at "vk_vc")
    · show Dp K H' (V.int (sgi qq.num)) (PyData.int (sg (pp + qq) pp))
      rw [e3]; exact .int _
    · show Dp K H' (V.int 0) (PyData.int (sg (pp + qq) (pp + qq)))
      rw [e4]; exact .int _
    · have zz1 := zp.mono (show 1000 ≤ 2500 by decide)
      have zz2 := zq.mono (show 1000 ≤ 2500 by decide)
      have sG := (show Same H H' from (by (walk_at "vk_same"))).trans (same_new np (HO.lst [.ref xa, .ref ya, .ref a]))
      have items : ∀ x ∈ [V.ref xa, V.ref ya, V.ref a], ∃ u, Rq K (upd H' p (HO.lst [.ref xa, .ref ya, .ref a])) x u ∧ Sz 2500 u := fun x hx9 => by
        simp only [List.mem_cons, List.not_mem_nil, or_false] at hx9
        rcases hx9 with rfl | rfl | rfl
        · exact ⟨pp, hx.same sG, zz1⟩
        · exact ⟨qq, hy.same sG, zz2⟩
        · have hs9 : Rq K H' (.ref a) (pp + qq) := by (walk_at "vk_cl")
          exact ⟨pp + qq, hs9.same (same_new np _), zs⟩
      have hl9 : SqL K (upd H' p (HO.lst [.ref xa, .ref ya, .ref a])) p [.ref xa, .ref ya, .ref a] := SqL.of upd_same
      generalize upd H' p (HO.lst [.ref xa, .ref ya, .ref a]) = G at sG items hl9 ⊢
      refine forL (K := K) (a := p) (xs := [V.ref xa, V.ref ya, V.ref a]) (fun i σ G' => Hold (∃ k4 k5, σ = [some (.ref xa), some (.ref ya), some (.int (sg pp qq)), some (.ref a), k4, k5] ∧ G' = G)) ⟨none, none, rfl, rfl⟩ (fun i σ G' _ h => by obtain ⟨_, _, _, rfl⟩ := h; exact hl9) ?_ ?_
      · rintro i x σ G' hx9 ⟨k4, k5, rfl, rfl⟩
        obtain ⟨u, ru, zu⟩ := items x (List.mem_of_getElem? hx9)
        obtain ⟨ua, rfl, hua⟩ := id ru
        have a1 := fl_lo u
        have a2 := fl_hi u
        have fb := fl_ab zu
        have fb1 : (u.floor + 1).natAbs < 2 ^ (2500 + 1) := ab_add fb (by decide +kernel)
        have ud := dA zu
        clear hx hy hxa hya hva hva2 hv hv2 h h' e items e1 e2 e3 e4 trp trq fl
        (walk_at "vk_vc")
        all_goals first
          | exact cmw (by assumption) (by assumption) (by decide)
          | exact ⟨⟨_, _, rfl, rfl⟩⟩
          | trace_state
      · rintro σ G' ⟨k4, k5, rfl, rfl⟩
        exact z _ sG
  · have ng : ¬ sg pp qq < 0 := by omega
    (walk_at "vk_vc")
    · show Dp K H (V.int (0 - sg pp qq)) (PyData.int (sg qq pp))
      rw [e2]; exact .int _
    intro v hv
    replace hv : Rq K H v (if pp ≤ qq then pp else qq) := hv
    rw [m1] at hv
    obtain ⟨va, rfl, hva⟩ := id hv
    (walk_at "vk_vc")
    intro v2 hv2
    replace hv2 : Rq K H v2 (if qq ≤ pp then pp else qq) := hv2
    rw [m2] at hv2
    obtain ⟨va2, rfl, hva2⟩ := id hv2
    (walk_at "vk_vc")
    · show Dp K H' (V.int (sgi qq.num)) (PyData.int (sg (pp + qq) pp))
      rw [e3]; exact .int _
    · show Dp K H' (V.int 0) (PyData.int (sg (pp + qq) (pp + qq)))
      rw [e4]; exact .int _
    · have zz1 := zp.mono (show 1000 ≤ 2500 by decide)
      have zz2 := zq.mono (show 1000 ≤ 2500 by decide)
      have sG := (show Same H H' from (by (walk_at "vk_same"))).trans (same_new np (HO.lst [.ref xa, .ref ya, .ref a]))
      have items : ∀ x ∈ [V.ref xa, V.ref ya, V.ref a], ∃ u, Rq K (upd H' p (HO.lst [.ref xa, .ref ya, .ref a])) x u ∧ Sz 2500 u := fun x hx9 => by
        simp only [List.mem_cons, List.not_mem_nil, or_false] at hx9
        rcases hx9 with rfl | rfl | rfl
        · exact ⟨pp, hx.same sG, zz1⟩
        · exact ⟨qq, hy.same sG, zz2⟩
        · have hs9 : Rq K H' (.ref a) (pp + qq) := by (walk_at "vk_cl")
          exact ⟨pp + qq, hs9.same (same_new np _), zs⟩
      have hl9 : SqL K (upd H' p (HO.lst [.ref xa, .ref ya, .ref a])) p [.ref xa, .ref ya, .ref a] := SqL.of upd_same
      generalize upd H' p (HO.lst [.ref xa, .ref ya, .ref a]) = G at sG items hl9 ⊢
      refine forL (K := K) (a := p) (xs := [V.ref xa, V.ref ya, V.ref a]) (fun i σ G' => Hold (∃ k4 k5, σ = [some (.ref xa), some (.ref ya), some (.int (sg pp qq)), some (.ref a), k4, k5] ∧ G' = G)) ⟨none, none, rfl, rfl⟩ (fun i σ G' _ h => by obtain ⟨_, _, _, rfl⟩ := h; exact hl9) ?_ ?_
      · rintro i x σ G' hx9 ⟨k4, k5, rfl, rfl⟩
        obtain ⟨u, ru, zu⟩ := items x (List.mem_of_getElem? hx9)
        obtain ⟨ua, rfl, hua⟩ := id ru
        have a1 := fl_lo u
        have a2 := fl_hi u
        have fb := fl_ab zu
        have fb1 : (u.floor + 1).natAbs < 2 ^ (2500 + 1) := ab_add fb (by decide +kernel)
        have ud := dA zu
        clear hx hy hxa hya hva hva2 hv hv2 h h' e items e1 e2 e3 e4 trp trq fl
        (walk_at "vk_vc")
        all_goals first
          | exact cmw (by assumption) (by assumption) (by decide)
          | exact ⟨⟨_, _, rfl, rfl⟩⟩
          | trace_state
      · rintro σ G' ⟨k4, k5, rfl, rfl⟩
        exact z _ sG
end Vk

set_option maxHeartbeats 4000000
namespace Vk
open PySem L2 Vm Vl
variable {l aZERO : Addr} {P : Program} {w : World} {K : PySem.W.Frag} {mg : Str → Option Value} {base : Heap} {k : Nat} {f f1 f2 f3 f4 f5 f6 f7 f8 f9 : Addr} {fd fd1 fd2 fd3 fd4 fd5 fd6 fd7 fd8 fd9 : FuncData}
theorem All2.append {α : Type} {R : V → α → Prop} {xs ys : List V} {c d : List α} (h : All2 R xs c) (g : All2 R ys d) : All2 R (xs ++ ys) (c ++ d) := by
  refine ⟨by rw [List.length_append, List.length_append, h.1, g.1], fun i x p a b => ?_⟩
  have hl := h.1
  by_cases hi : i < xs.length
  · rw [List.getElem?_append_left hi] at a
    rw [List.getElem?_append_left (by omega)] at b
    exact h.2 i x p a b
  · rw [List.getElem?_append_right (by omega)] at a
    rw [List.getElem?_append_right (by omega), ← hl] at b
    exact g.2 _ x p a b
theorem All2.take {α : Type} {R : V → α → Prop} {xs : List V} {c : List α} (h : All2 R xs c) (m : Nat) : All2 R (xs.take m) (c.take m) := by
  refine ⟨by rw [List.length_take, List.length_take, h.1], fun i x p a b => ?_⟩
  rw [List.getElem?_take] at a b
  split at a
  · rename_i hi
    rw [if_pos hi] at b
    exact h.2 i x p a b
  · cases a
theorem All2.drop {α : Type} {R : V → α → Prop} {xs : List V} {c : List α} (h : All2 R xs c) (m : Nat) : All2 R (xs.drop m) (c.drop m) := by
  refine ⟨by rw [List.length_drop, List.length_drop, h.1], fun i x p a b => ?_⟩
  rw [List.getElem?_drop] at a b
  exact h.2 _ x p a b
/-- a def told of by its positional values -/
structure DefR (P : Program) (w : World) (K : PySem.W.Frag) (mg : Str → Option Value) (base : Heap) (k : Nat) (x : Str) (sp : Sp) (f : Addr) : Prop where
  ok : FnR P w K mg base CX0 k f sp
  m : mg x = some (.ref f)
  kp : PySem.W.keepIn K (.ref f) = true
theorem DefR.up {j k : Nat} {x : Str} {sp : Sp} (d : DefR P w K mg base j x sp f) (h : j ≤ k) : DefR P w K mg base k x sp f := ⟨d.ok.mono h, d.m, d.kp⟩
theorem pcallR {X : Cx} {k : Nat} {f : Addr} {sp : Sp} {x : Str} {p pos : Pos} {e : Expr} {es : List Expr} {t : TA} (D : DefR X.prog X.w X.K X.mg X.base k x sp f) (hr : Room k X.A) (ha : PA X (e :: es) t)
    (hg : Gl X x := by rfl) (hdb : (x == ("__debug__" : Str)) = false := by decide) (he : starEach (e :: es) X.env = (false, eval e X.env) :: starEach es X.env := by rfl) (hpl : (backTo pos (starEach es X.env)).any (·.1) = false := by rfl) :
    PE X (.Call (.Name x p) (e :: es) [] pos) (fun σ H Q => t σ H fun vs H1 => sp vs H1 Q E0) := pe_callR D.ok hr D.kp hg D.m pass0 ha hdb he hpl
theorem pcallR0 {X : Cx} {k : Nat} {f : Addr} {sp : Sp} {x : Str} {p pos : Pos} (D : DefR X.prog X.w X.K X.mg X.base k x sp f) (hr : Room k X.A) (hg : Gl X x := by rfl) (hdb : (x == ("__debug__" : Str)) = false := by decide) :
    PE X (.Call (.Name x p) [] [] pos) (fun σ H Q => sp [] H Q E0) := pe_callR0 D.ok hr D.kp hg D.m pass0 hdb
/-- the sum of a row -/
def sm (qs : List Rat) : Rat := qs.foldl (· + ·) 0
theorem sm_snoc (qs : List Rat) (q : Rat) : sm (qs ++ [q]) = sm qs + q := by unfold sm; rw [List.foldl_append]; rfl
theorem sm_take {qs : List Rat} {i : Nat} {q : Rat} (h : qs[i]? = some q) : sm (qs.take (i + 1)) = sm (qs.take i) + q := by
  rw [List.take_add_one, h, ← sm_snoc]
  rfl
theorem sm_sz {qs : List Rat} (z : ∀ q ∈ qs, Sz 52 q) : ∀ i, Sz (53 * i + 1) (sm (qs.take i))
  | 0 => by rw [List.take_zero]; exact (show Sz 1 (0 : Rat) by decide +kernel)
  | i + 1 => by
    cases h : qs[i]? with
    | none =>
      have := List.getElem?_eq_none_iff.mp h
      have e : qs.take (i + 1) = qs.take i := by rw [List.take_of_length_le (by omega), List.take_of_length_le (by omega)]
      rw [e]
      exact (sm_sz z i).mono (by omega)
    | some q =>
      rw [sm_take h]
      exact ((sm_sz z i).add (z q (List.mem_of_getElem? h))).mono (by omega)
abbrev s_total : Stmt := top 47
abbrev N_total : List Str := ["parts", "result", "part"]
theorem sc_total : FnScope N_total ["parts"] (defScope s_total) := ⟨rfl, rfl, rfl, by decide +kernel, rfl, by decide +kernel, by decide +kernel⟩
abbrev ps_total : List Str := ["parts"]
def spTot (K : PySem.W.Frag) : Sp := fun vs H Q _ => ∃ (qs : List Rat), All2 (Rq K H) vs qs ∧ (∀ q ∈ qs, Sz 52 q) ∧ qs.length ≤ 40 ∧ ∀ r H', Same H H' → Rq K H' r (sm qs) → Q r H'
theorem ok_total (ZZERO : Cn K mg "ZERO" 0 aZERO) (F : Fun K "total" "total" s_total f fd) (hm : mg "total" = some (.ref f)) (dadd : Def P w K mg base k "add" ["a", "b"] (spOp2 K (· + ·)) f1 fd1) : DefR P w K mg base (k + 1) "total" (spTot K) f := by
  obtain ⟨⟨oc, od, kV, doc, pm, an, cdv, ct, osl, rfl, lk, hcd⟩, kp⟩ := F
  refine ⟨FnR.imp (StX.fn_star (pv := "parts") (ps := []) (N := N_total) (sp := fun vs H Q _ => ∃ (p : Addr) (xs : List V) (qs : List Rat), vs = [.ref p] ∧ SqT K H p xs ∧ All2 (Rq K H) xs qs ∧ (∀ q ∈ qs, Sz 52 q) ∧ qs.length ≤ 40 ∧ ∀ r H', Same H H' → Rq K H' r (sm qs) → Q r H') lk hcd sc_total StX.cxUp_none (fun us rest hl => ?_) fun A outer s H vs Q E hr h => ?_) ?_, hm, kp⟩
  · match us, hl, rest with
    | [], _, [] => rfl
    | [], _, r :: rs => rfl
  · obtain ⟨p, xs, qs, rfl, hp, hx, zq, lq, z⟩ := h
    suffices hh : ∃ t, PSs (cxOf CX0 P w K mg base N_total "total" (defScope s_total) f cdv A outer s H E).nox (defBody s_total) t ∧ t { nx := fun _ H' => Q .non H', rt := Q } (start N_total [.ref p]) H by
      obtain ⟨t, h1, h2⟩ := hh
      exact ⟨t, h1.nox, h2⟩
    refine ⟨_, (pss_cons (ps_set (i := 1) sc_total.nd rfl (Or.inl rfl) (pe_glob (v := .ref aZERO) (u := .ref aZERO) (by rfl) ZZERO.m rfl))
      (pss_cons (ps_for PassesOwn.never rfl (pi_tup (pv 0)) (pg_name (i := 2) sc_total.nd rfl (Or.inl rfl))
        (pss_one (ps_set (i := 1) sc_total.nd rfl (Or.inl rfl) (pcall dadd hr (pa_cons (pv 1) (pa_cons (pv 2) pa_nil))))))
      (pss_one (ps_ret (pv 1))))), ?_⟩
    have sz := sm_sz zq
    have hlx := hx.1
    refine ⟨_, rfl, p, rfl, ⟨_, hp⟩, forT (K := K) (a := p) (xs := xs) (fun i σ G => Hold (∃ ra k2, σ = [some (.ref p), some ra, k2] ∧ Same H G ∧ Rq K G ra (sm (qs.take i)))) ⟨.ref aZERO, none, rfl, Same.refl _, by rw [List.take_zero]; exact ZZERO.q _⟩ (fun i σ G _ h => by obtain ⟨_, _, _, s1, _⟩ := h; exact s1.sqt hp) ?_ ?_⟩
    · rintro i x σ G hxi ⟨ra, k2, rfl, s1, hra⟩
      have hi : i < qs.length := by have := (List.getElem?_eq_some_iff.mp hxi).1; omega
      have eq : qs[i]? = some qs[i] := List.getElem?_eq_getElem hi
      have rx := (hx.2 i x _ hxi eq).same s1
      have z1 := zq _ (List.mem_of_getElem? eq)
      refine ⟨_, rfl, _, rfl, _, _, _, _, _, _, rfl, hra, rx, sz i, z1, by omega, fun r H1 e hr9 => ?_⟩
      exact ⟨⟨r, _, rfl, s1.trans e, by rw [sm_take eq]; exact hr9⟩⟩
    · rintro σ G ⟨ra, k2, rfl, s1, hra⟩
      rw [List.take_of_length_le (by omega)] at hra
      exact ⟨_, rfl, z _ _ s1 hra⟩
  · rintro vs H Q E ⟨qs, hx, zq, lq, z⟩
    have hl := hx.1
    refine ⟨[], vs, rfl, rfl, by have : sizeLine = 16777216 := sizeLine_eq; omega, fun p hp => ?_⟩
    have s1 := same_new hp (.tup vs)
    exact ⟨p, vs, qs, rfl, SqT.of upd_same, hx.imp fun _ _ h => h.same s1, zq, lq, fun r H' e hr => z r H' (s1.trans e) hr⟩
def seg (qs : List Rat) (a n : Nat) : List Rat := (List.range n).map fun j => sm (qs.take (a + j))
theorem seg_succ (qs : List Rat) (a n : Nat) : seg qs a (n + 1) = seg qs a n ++ [sm (qs.take (a + n))] := by unfold seg; rw [List.range_succ, List.map_append]; rfl
theorem lastsRq : Lasts (Rq K) := fun e hs h => h.fr e hs
theorem tot_next {H G G' : Hp} {D : Addr} {us : List V} {qs : List Rat} {a n : Nat} {r : V} (gw : Gw (Rq K) H D us (seg qs a n) G) (e : Same G G') (hr : Rq K G' r (sm (qs.take (a + n)))) : Gw (Rq K) H D (us ++ [r]) (seg qs a (n + 1)) (upd G' D (.lst (us ++ [r]))) := by
  rw [seg_succ]
  exact Gw.app (R := Rq K) lastsRq (Gw.go (R := Rq K) lastsRq gw e) hr
end Vk

set_option maxHeartbeats 4000000
namespace Vk
open PySem L2 Vm Vl
variable {l aZERO : Addr} {P : Program} {w : World} {K : PySem.W.Frag} {mg : Str → Option Value} {base : Heap} {k : Nat} {f f1 f2 f3 f4 f5 f6 f7 f8 f9 : Addr} {fd fd1 fd2 fd3 fd4 fd5 fd6 fd7 fd8 fd9 : FuncData}
theorem cutG {t u : TS} {D : Ends} {σ : L2.St} {H : Hp} (mid : L2.St → Hp → Prop) (key : ∀ σ' H', mid σ' H' → u D σ' H') (h : ∀ u' : TS, (∀ σ' H', mid σ' H' → u' D σ' H') → tSeq t u' D σ H) : tSeq t u D σ H := h u key
theorem list_cons {xs : List V} {n : Nat} (h : xs.length = n + 1) : ∃ x ys, xs = x :: ys ∧ ys.length = n := by
  cases xs with
  | nil => cases h
  | cons x ys => exact ⟨x, ys, rfl, by simpa using h⟩
def spTots (K : PySem.W.Frag) (a n : Nat) : Sp := fun vs H Q _ => ∃ (p : Addr) (xs : List V) (qs : List Rat), vs = [.ref p] ∧ SqL K H p xs ∧ All2 (Rq K H) xs qs ∧ (∀ q ∈ qs, Sz 52 q) ∧ qs.length = 40 ∧
  ∀ D us H', Same H H' → H D = none → H' D = some (.lst us) → All2 (Rq K H') us (seg qs a n) → Q (.ref D) H'
abbrev s__law_few_totals : Stmt := top 73
abbrev N__law_few_totals : List Str := ["_law_row", "_law_a", "_law_b", "_law_c", "_law_d", "_law_e", "_law_f", "_law_g", "_law_h", "_law_i", "_law_j", "_law_k", "_law_l", "_law_m", "_law_n", "_law_o", "_law_p", "_law_q", "_law_r", "_law_s", "_law_t", "_law_told"]
theorem sc__law_few_totals : FnScope N__law_few_totals ["_law_row"] (defScope s__law_few_totals) := ⟨rfl, rfl, rfl, by decide +kernel, rfl, by decide +kernel, by decide +kernel⟩
abbrev ps__law_few_totals : List Str := ["_law_row"]
theorem ok_law_few_totals (F : Fn K mg "_law_few_totals" s__law_few_totals ps__law_few_totals f fd) (dtotal : DefR P w K mg base k "total" (spTot K) f1) : Def P w K mg base (k + 1) "_law_few_totals" ps__law_few_totals (spTots K 0 21) f fd := by
  refine ⟨F.F.ok sc__law_few_totals (fun vs H Q E h => ?_) (fun cdv A outer s H vs Q E hr h => ?_), F.m, F.F.kp, F.b⟩
  · obtain ⟨_, _, _, rfl, _⟩ := h
    rfl
  obtain ⟨ap, xs, qs, rfl, hp, hall, zq, lq, z⟩ := h
  have hl : xs.length = 40 := by rw [hall.1]; exact lq
  obtain ⟨x0, r0, rfl, l0⟩ := list_cons (n := 39) hl
  obtain ⟨x1, r1, rfl, l1⟩ := list_cons (n := 38) l0
  obtain ⟨x2, r2, rfl, l2⟩ := list_cons (n := 37) l1
  obtain ⟨x3, r3, rfl, l3⟩ := list_cons (n := 36) l2
  obtain ⟨x4, r4, rfl, l4⟩ := list_cons (n := 35) l3
  obtain ⟨x5, r5, rfl, l5⟩ := list_cons (n := 34) l4
  obtain ⟨x6, r6, rfl, l6⟩ := list_cons (n := 33) l5
  obtain ⟨x7, r7, rfl, l7⟩ := list_cons (n := 32) l6
  obtain ⟨x8, r8, rfl, l8⟩ := list_cons (n := 31) l7
  obtain ⟨x9, r9, rfl, l9⟩ := list_cons (n := 30) l8
  obtain ⟨x10, r10, rfl, l10⟩ := list_cons (n := 29) l9
  obtain ⟨x11, r11, rfl, l11⟩ := list_cons (n := 28) l10
  obtain ⟨x12, r12, rfl, l12⟩ := list_cons (n := 27) l11
  obtain ⟨x13, r13, rfl, l13⟩ := list_cons (n := 26) l12
  obtain ⟨x14, r14, rfl, l14⟩ := list_cons (n := 25) l13
  obtain ⟨x15, r15, rfl, l15⟩ := list_cons (n := 24) l14
  obtain ⟨x16, r16, rfl, l16⟩ := list_cons (n := 23) l15
  obtain ⟨x17, r17, rfl, l17⟩ := list_cons (n := 22) l16
  obtain ⟨x18, r18, rfl, l18⟩ := list_cons (n := 21) l17
  obtain ⟨x19, r19, rfl, l19⟩ := list_cons (n := 20) l18
  obtain ⟨x20, r20, rfl, l20⟩ := list_cons (n := 19) l19
  obtain ⟨x21, r21, rfl, l21⟩ := list_cons (n := 18) l20
  obtain ⟨x22, r22, rfl, l22⟩ := list_cons (n := 17) l21
  obtain ⟨x23, r23, rfl, l23⟩ := list_cons (n := 16) l22
  obtain ⟨x24, r24, rfl, l24⟩ := list_cons (n := 15) l23
  obtain ⟨x25, r25, rfl, l25⟩ := list_cons (n := 14) l24
  obtain ⟨x26, r26, rfl, l26⟩ := list_cons (n := 13) l25
  obtain ⟨x27, r27, rfl, l27⟩ := list_cons (n := 12) l26
  obtain ⟨x28, r28, rfl, l28⟩ := list_cons (n := 11) l27
  obtain ⟨x29, r29, rfl, l29⟩ := list_cons (n := 10) l28
  obtain ⟨x30, r30, rfl, l30⟩ := list_cons (n := 9) l29
  obtain ⟨x31, r31, rfl, l31⟩ := list_cons (n := 8) l30
  obtain ⟨x32, r32, rfl, l32⟩ := list_cons (n := 7) l31
  obtain ⟨x33, r33, rfl, l33⟩ := list_cons (n := 6) l32
  obtain ⟨x34, r34, rfl, l34⟩ := list_cons (n := 5) l33
  obtain ⟨x35, r35, rfl, l35⟩ := list_cons (n := 4) l34
  obtain ⟨x36, r36, rfl, l36⟩ := list_cons (n := 3) l35
  obtain ⟨x37, r37, rfl, l37⟩ := list_cons (n := 2) l36
  obtain ⟨x38, r38, rfl, l38⟩ := list_cons (n := 1) l37
  obtain ⟨x39, r39, rfl, l39⟩ := list_cons (n := 0) l38
  have rn : r39 = [] := List.eq_nil_of_length_eq_zero l39
  subst rn
  clear hl l0 l1 l2 l3 l4 l5 l6 l7 l8 l9 l10 l11 l12 l13 l14 l15 l16 l17 l18 l19 l20 l21 l22 l23 l24 l25 l26 l27 l28 l29 l30 l31 l32 l33 l34 l35 l36 l37 l38 l39
  refine ⟨_, (pss_cons (ps_asg (pe_slice sl_list (pv 0) po_none (po_some pe_int)) (pg_lst rfl (pgs_cons (pg_name (i := 1) sc__law_few_totals.nd rfl (Or.inl rfl)) (pgs_cons (pg_name (i := 2) sc__law_few_totals.nd rfl (Or.inl rfl)) (pgs_cons (pg_name (i := 3) sc__law_few_totals.nd rfl (Or.inl rfl)) (pgs_cons (pg_name (i := 4) sc__law_few_totals.nd rfl (Or.inl rfl)) (pgs_cons (pg_name (i := 5) sc__law_few_totals.nd rfl (Or.inl rfl)) (pgs_cons (pg_name (i := 6) sc__law_few_totals.nd rfl (Or.inl rfl)) (pgs_cons (pg_name (i := 7) sc__law_few_totals.nd rfl (Or.inl rfl)) (pgs_cons (pg_name (i := 8) sc__law_few_totals.nd rfl (Or.inl rfl)) (pgs_cons (pg_name (i := 9) sc__law_few_totals.nd rfl (Or.inl rfl)) (pgs_cons (pg_name (i := 10) sc__law_few_totals.nd rfl (Or.inl rfl)) (pgs_cons (pg_name (i := 11) sc__law_few_totals.nd rfl (Or.inl rfl)) (pgs_cons (pg_name (i := 12) sc__law_few_totals.nd rfl (Or.inl rfl)) (pgs_cons (pg_name (i := 13) sc__law_few_totals.nd rfl (Or.inl rfl)) (pgs_cons (pg_name (i := 14) sc__law_few_totals.nd rfl (Or.inl rfl)) (pgs_cons (pg_name (i := 15) sc__law_few_totals.nd rfl (Or.inl rfl)) (pgs_cons (pg_name (i := 16) sc__law_few_totals.nd rfl (Or.inl rfl)) (pgs_cons (pg_name (i := 17) sc__law_few_totals.nd rfl (Or.inl rfl)) (pgs_cons (pg_name (i := 18) sc__law_few_totals.nd rfl (Or.inl rfl)) (pgs_cons (pg_name (i := 19) sc__law_few_totals.nd rfl (Or.inl rfl)) (pgs_cons (pg_name (i := 20) sc__law_few_totals.nd rfl (Or.inl rfl)) pgs_nil))))))))))))))))))))))
      (pss_cons (ps_set (i := 21) sc__law_few_totals.nd rfl (Or.inl rfl) (pe_lst pa_nil))
      (pss_cons (ps_expr (pe_bm PySem.F.plainAttrs_list PySem.F.slot_list_append PySem.F.type_list_append mt_append (pv 21) (pa_cons (pcallR0 dtotal hr) pa_nil)))
      (pss_cons (ps_expr (pe_bm PySem.F.plainAttrs_list PySem.F.slot_list_append PySem.F.type_list_append mt_append (pv 21) (pa_cons (pcallR dtotal hr (pa_cons (pv 1) pa_nil)) pa_nil)))
      (pss_cons (ps_expr (pe_bm PySem.F.plainAttrs_list PySem.F.slot_list_append PySem.F.type_list_append mt_append (pv 21) (pa_cons (pcallR dtotal hr (pa_cons (pv 1) (pa_cons (pv 2) pa_nil))) pa_nil)))
      (pss_cons (ps_expr (pe_bm PySem.F.plainAttrs_list PySem.F.slot_list_append PySem.F.type_list_append mt_append (pv 21) (pa_cons (pcallR dtotal hr (pa_cons (pv 1) (pa_cons (pv 2) (pa_cons (pv 3) pa_nil)))) pa_nil)))
      (pss_cons (ps_expr (pe_bm PySem.F.plainAttrs_list PySem.F.slot_list_append PySem.F.type_list_append mt_append (pv 21) (pa_cons (pcallR dtotal hr (pa_cons (pv 1) (pa_cons (pv 2) (pa_cons (pv 3) (pa_cons (pv 4) pa_nil))))) pa_nil)))
      (pss_cons (ps_expr (pe_bm PySem.F.plainAttrs_list PySem.F.slot_list_append PySem.F.type_list_append mt_append (pv 21) (pa_cons (pcallR dtotal hr (pa_cons (pv 1) (pa_cons (pv 2) (pa_cons (pv 3) (pa_cons (pv 4) (pa_cons (pv 5) pa_nil)))))) pa_nil)))
      (pss_cons (ps_expr (pe_bm PySem.F.plainAttrs_list PySem.F.slot_list_append PySem.F.type_list_append mt_append (pv 21) (pa_cons (pcallR dtotal hr (pa_cons (pv 1) (pa_cons (pv 2) (pa_cons (pv 3) (pa_cons (pv 4) (pa_cons (pv 5) (pa_cons (pv 6) pa_nil))))))) pa_nil)))
      (pss_cons (ps_expr (pe_bm PySem.F.plainAttrs_list PySem.F.slot_list_append PySem.F.type_list_append mt_append (pv 21) (pa_cons (pcallR dtotal hr (pa_cons (pv 1) (pa_cons (pv 2) (pa_cons (pv 3) (pa_cons (pv 4) (pa_cons (pv 5) (pa_cons (pv 6) (pa_cons (pv 7) pa_nil)))))))) pa_nil)))
      (pss_cons (ps_expr (pe_bm PySem.F.plainAttrs_list PySem.F.slot_list_append PySem.F.type_list_append mt_append (pv 21) (pa_cons (pcallR dtotal hr (pa_cons (pv 1) (pa_cons (pv 2) (pa_cons (pv 3) (pa_cons (pv 4) (pa_cons (pv 5) (pa_cons (pv 6) (pa_cons (pv 7) (pa_cons (pv 8) pa_nil))))))))) pa_nil)))
      (pss_cons (ps_expr (pe_bm PySem.F.plainAttrs_list PySem.F.slot_list_append PySem.F.type_list_append mt_append (pv 21) (pa_cons (pcallR dtotal hr (pa_cons (pv 1) (pa_cons (pv 2) (pa_cons (pv 3) (pa_cons (pv 4) (pa_cons (pv 5) (pa_cons (pv 6) (pa_cons (pv 7) (pa_cons (pv 8) (pa_cons (pv 9) pa_nil)))))))))) pa_nil)))
      (pss_cons (ps_expr (pe_bm PySem.F.plainAttrs_list PySem.F.slot_list_append PySem.F.type_list_append mt_append (pv 21) (pa_cons (pcallR dtotal hr (pa_cons (pv 1) (pa_cons (pv 2) (pa_cons (pv 3) (pa_cons (pv 4) (pa_cons (pv 5) (pa_cons (pv 6) (pa_cons (pv 7) (pa_cons (pv 8) (pa_cons (pv 9) (pa_cons (pv 10) pa_nil))))))))))) pa_nil)))
      (pss_cons (ps_expr (pe_bm PySem.F.plainAttrs_list PySem.F.slot_list_append PySem.F.type_list_append mt_append (pv 21) (pa_cons (pcallR dtotal hr (pa_cons (pv 1) (pa_cons (pv 2) (pa_cons (pv 3) (pa_cons (pv 4) (pa_cons (pv 5) (pa_cons (pv 6) (pa_cons (pv 7) (pa_cons (pv 8) (pa_cons (pv 9) (pa_cons (pv 10) (pa_cons (pv 11) pa_nil)))))))))))) pa_nil)))
      (pss_cons (ps_expr (pe_bm PySem.F.plainAttrs_list PySem.F.slot_list_append PySem.F.type_list_append mt_append (pv 21) (pa_cons (pcallR dtotal hr (pa_cons (pv 1) (pa_cons (pv 2) (pa_cons (pv 3) (pa_cons (pv 4) (pa_cons (pv 5) (pa_cons (pv 6) (pa_cons (pv 7) (pa_cons (pv 8) (pa_cons (pv 9) (pa_cons (pv 10) (pa_cons (pv 11) (pa_cons (pv 12) pa_nil))))))))))))) pa_nil)))
      (pss_cons (ps_expr (pe_bm PySem.F.plainAttrs_list PySem.F.slot_list_append PySem.F.type_list_append mt_append (pv 21) (pa_cons (pcallR dtotal hr (pa_cons (pv 1) (pa_cons (pv 2) (pa_cons (pv 3) (pa_cons (pv 4) (pa_cons (pv 5) (pa_cons (pv 6) (pa_cons (pv 7) (pa_cons (pv 8) (pa_cons (pv 9) (pa_cons (pv 10) (pa_cons (pv 11) (pa_cons (pv 12) (pa_cons (pv 13) pa_nil)))))))))))))) pa_nil)))
      (pss_cons (ps_expr (pe_bm PySem.F.plainAttrs_list PySem.F.slot_list_append PySem.F.type_list_append mt_append (pv 21) (pa_cons (pcallR dtotal hr (pa_cons (pv 1) (pa_cons (pv 2) (pa_cons (pv 3) (pa_cons (pv 4) (pa_cons (pv 5) (pa_cons (pv 6) (pa_cons (pv 7) (pa_cons (pv 8) (pa_cons (pv 9) (pa_cons (pv 10) (pa_cons (pv 11) (pa_cons (pv 12) (pa_cons (pv 13) (pa_cons (pv 14) pa_nil))))))))))))))) pa_nil)))
      (pss_cons (ps_expr (pe_bm PySem.F.plainAttrs_list PySem.F.slot_list_append PySem.F.type_list_append mt_append (pv 21) (pa_cons (pcallR dtotal hr (pa_cons (pv 1) (pa_cons (pv 2) (pa_cons (pv 3) (pa_cons (pv 4) (pa_cons (pv 5) (pa_cons (pv 6) (pa_cons (pv 7) (pa_cons (pv 8) (pa_cons (pv 9) (pa_cons (pv 10) (pa_cons (pv 11) (pa_cons (pv 12) (pa_cons (pv 13) (pa_cons (pv 14) (pa_cons (pv 15) pa_nil)))))))))))))))) pa_nil)))
      (pss_cons (ps_expr (pe_bm PySem.F.plainAttrs_list PySem.F.slot_list_append PySem.F.type_list_append mt_append (pv 21) (pa_cons (pcallR dtotal hr (pa_cons (pv 1) (pa_cons (pv 2) (pa_cons (pv 3) (pa_cons (pv 4) (pa_cons (pv 5) (pa_cons (pv 6) (pa_cons (pv 7) (pa_cons (pv 8) (pa_cons (pv 9) (pa_cons (pv 10) (pa_cons (pv 11) (pa_cons (pv 12) (pa_cons (pv 13) (pa_cons (pv 14) (pa_cons (pv 15) (pa_cons (pv 16) pa_nil))))))))))))))))) pa_nil)))
      (pss_cons (ps_expr (pe_bm PySem.F.plainAttrs_list PySem.F.slot_list_append PySem.F.type_list_append mt_append (pv 21) (pa_cons (pcallR dtotal hr (pa_cons (pv 1) (pa_cons (pv 2) (pa_cons (pv 3) (pa_cons (pv 4) (pa_cons (pv 5) (pa_cons (pv 6) (pa_cons (pv 7) (pa_cons (pv 8) (pa_cons (pv 9) (pa_cons (pv 10) (pa_cons (pv 11) (pa_cons (pv 12) (pa_cons (pv 13) (pa_cons (pv 14) (pa_cons (pv 15) (pa_cons (pv 16) (pa_cons (pv 17) pa_nil)))))))))))))))))) pa_nil)))
      (pss_cons (ps_expr (pe_bm PySem.F.plainAttrs_list PySem.F.slot_list_append PySem.F.type_list_append mt_append (pv 21) (pa_cons (pcallR dtotal hr (pa_cons (pv 1) (pa_cons (pv 2) (pa_cons (pv 3) (pa_cons (pv 4) (pa_cons (pv 5) (pa_cons (pv 6) (pa_cons (pv 7) (pa_cons (pv 8) (pa_cons (pv 9) (pa_cons (pv 10) (pa_cons (pv 11) (pa_cons (pv 12) (pa_cons (pv 13) (pa_cons (pv 14) (pa_cons (pv 15) (pa_cons (pv 16) (pa_cons (pv 17) (pa_cons (pv 18) pa_nil))))))))))))))))))) pa_nil)))
      (pss_cons (ps_expr (pe_bm PySem.F.plainAttrs_list PySem.F.slot_list_append PySem.F.type_list_append mt_append (pv 21) (pa_cons (pcallR dtotal hr (pa_cons (pv 1) (pa_cons (pv 2) (pa_cons (pv 3) (pa_cons (pv 4) (pa_cons (pv 5) (pa_cons (pv 6) (pa_cons (pv 7) (pa_cons (pv 8) (pa_cons (pv 9) (pa_cons (pv 10) (pa_cons (pv 11) (pa_cons (pv 12) (pa_cons (pv 13) (pa_cons (pv 14) (pa_cons (pv 15) (pa_cons (pv 16) (pa_cons (pv 17) (pa_cons (pv 18) (pa_cons (pv 19) pa_nil)))))))))))))))))))) pa_nil)))
      (pss_cons (ps_expr (pe_bm PySem.F.plainAttrs_list PySem.F.slot_list_append PySem.F.type_list_append mt_append (pv 21) (pa_cons (pcallR dtotal hr (pa_cons (pv 1) (pa_cons (pv 2) (pa_cons (pv 3) (pa_cons (pv 4) (pa_cons (pv 5) (pa_cons (pv 6) (pa_cons (pv 7) (pa_cons (pv 8) (pa_cons (pv 9) (pa_cons (pv 10) (pa_cons (pv 11) (pa_cons (pv 12) (pa_cons (pv 13) (pa_cons (pv 14) (pa_cons (pv 15) (pa_cons (pv 16) (pa_cons (pv 17) (pa_cons (pv 18) (pa_cons (pv 19) (pa_cons (pv 20) pa_nil))))))))))))))))))))) pa_nil)))
      (pss_one (ps_ret (pv 21)))))))))))))))))))))))))), ?_⟩
  have s0 : Same H H := Same.refl _
  have lk : ∀ j, j ≤ 40 → (qs.take j).length ≤ 40 := fun j h => by rw [List.length_take]; omega
  have zk : ∀ j, ∀ q ∈ qs.take j, Sz 52 q := fun j q hq => zq q (List.mem_of_mem_take hq)
  have cut0 : ∀ {α : Prop}, α → α := fun h => h
  refine cutG (fun σ' G => σ' = [some (.ref ap), some x0, some x1, some x2, some x3, some x4, some x5, some x6, some x7, some x8, some x9, some x10, some x11, some x12, some x13, some x14, some x15, some x16, some x17, some x18, some x19, none] ∧ Same H G) ?_ ?_
  rotate_left
  · intro u' key
    refine ⟨_, rfl, _, rfl, ap, _, rfl, (s0.seq hp), fun p1 hp1 => ?_⟩
    refine ⟨p1, [x0, x1, x2, x3, x4, x5, x6, x7, x8, x9, x10, x11, x12, x13, x14, x15, x16, x17, x18, x19], rfl, SqL.of upd_same, rfl, ?_⟩
    refine ⟨_, _, rfl, ⟨_, _, rfl, ⟨_, _, rfl, ⟨_, _, rfl, ⟨_, _, rfl, ⟨_, _, rfl, ⟨_, _, rfl, ⟨_, _, rfl, ⟨_, _, rfl, ⟨_, _, rfl, ⟨_, _, rfl, ⟨_, _, rfl, ⟨_, _, rfl, ⟨_, _, rfl, ⟨_, _, rfl, ⟨_, _, rfl, ⟨_, _, rfl, ⟨_, _, rfl, ⟨_, _, rfl, ⟨_, _, rfl, ?_⟩⟩⟩⟩⟩⟩⟩⟩⟩⟩⟩⟩⟩⟩⟩⟩⟩⟩⟩⟩
    refine ⟨rfl, key _ _ ⟨?_, s0.trans (same_new hp1 _)⟩⟩
    kernel_rfl
  rintro σ G1 ⟨rfl, s1⟩
  refine cutG (fun σ' G => ∃ D us, σ' = [some (.ref ap), some x0, some x1, some x2, some x3, some x4, some x5, some x6, some x7, some x8, some x9, some x10, some x11, some x12, some x13, some x14, some x15, some x16, some x17, some x18, some x19, some (.ref D)] ∧ Gw (Rq K) H D us (seg qs 0 0) G ∧ us.length = 0) ?_ ?_
  rotate_left
  · intro u' key
    refine ⟨Nat.zero_le _, fun D hD => ?_⟩
    exact key _ _ ⟨D, [], rfl, Gw.start s1 hD, rfl⟩
  rintro σ G ⟨D, us, rfl, gw, lu⟩
  clear s0 s1
  refine cutG (fun σ' G => ∃ us, σ' = [some (.ref ap), some x0, some x1, some x2, some x3, some x4, some x5, some x6, some x7, some x8, some x9, some x10, some x11, some x12, some x13, some x14, some x15, some x16, some x17, some x18, some x19, some (.ref D)] ∧ Gw (Rq K) H D us (seg qs 0 1) G ∧ us.length = 1) ?_ ?_
  rotate_left
  · intro u' key
    refine ⟨_, rfl, .inl ⟨rfl, _, SqL.of gw.at_⟩, qs.take 0, (All2.take (R := Rq K H) hall 0).imp fun _ _ h => h.same gw.same, zk 0, lk 0 (by decide), fun r H1 e hr9 => ?_⟩
    exact ⟨D, us, r, rfl, rfl, (Gw.go (R := Rq K) lastsRq gw e).at_, le1000 (by omega), key _ _ ⟨_, rfl, tot_next gw e hr9, by rw [List.length_append, lu]; rfl⟩⟩
  clear gw lu
  rintro σ G ⟨us, rfl, gw, lu⟩
  refine cutG (fun σ' G => ∃ us, σ' = [some (.ref ap), some x0, some x1, some x2, some x3, some x4, some x5, some x6, some x7, some x8, some x9, some x10, some x11, some x12, some x13, some x14, some x15, some x16, some x17, some x18, some x19, some (.ref D)] ∧ Gw (Rq K) H D us (seg qs 0 2) G ∧ us.length = 2) ?_ ?_
  rotate_left
  · intro u' key
    refine ⟨_, rfl, .inl ⟨rfl, _, SqL.of gw.at_⟩, _, rfl, qs.take 1, (All2.take (R := Rq K H) hall 1).imp fun _ _ h => h.same gw.same, zk 1, lk 1 (by decide), fun r H1 e hr9 => ?_⟩
    exact ⟨D, us, r, rfl, rfl, (Gw.go (R := Rq K) lastsRq gw e).at_, le1000 (by omega), key _ _ ⟨_, rfl, tot_next gw e hr9, by rw [List.length_append, lu]; rfl⟩⟩
  clear gw lu
  rintro σ G ⟨us, rfl, gw, lu⟩
  refine cutG (fun σ' G => ∃ us, σ' = [some (.ref ap), some x0, some x1, some x2, some x3, some x4, some x5, some x6, some x7, some x8, some x9, some x10, some x11, some x12, some x13, some x14, some x15, some x16, some x17, some x18, some x19, some (.ref D)] ∧ Gw (Rq K) H D us (seg qs 0 3) G ∧ us.length = 3) ?_ ?_
  rotate_left
  · intro u' key
    refine ⟨_, rfl, .inl ⟨rfl, _, SqL.of gw.at_⟩, _, rfl, _, rfl, qs.take 2, (All2.take (R := Rq K H) hall 2).imp fun _ _ h => h.same gw.same, zk 2, lk 2 (by decide), fun r H1 e hr9 => ?_⟩
    exact ⟨D, us, r, rfl, rfl, (Gw.go (R := Rq K) lastsRq gw e).at_, le1000 (by omega), key _ _ ⟨_, rfl, tot_next gw e hr9, by rw [List.length_append, lu]; rfl⟩⟩
  clear gw lu
  rintro σ G ⟨us, rfl, gw, lu⟩
  refine cutG (fun σ' G => ∃ us, σ' = [some (.ref ap), some x0, some x1, some x2, some x3, some x4, some x5, some x6, some x7, some x8, some x9, some x10, some x11, some x12, some x13, some x14, some x15, some x16, some x17, some x18, some x19, some (.ref D)] ∧ Gw (Rq K) H D us (seg qs 0 4) G ∧ us.length = 4) ?_ ?_
  rotate_left
  · intro u' key
    refine ⟨_, rfl, .inl ⟨rfl, _, SqL.of gw.at_⟩, _, rfl, _, rfl, _, rfl, qs.take 3, (All2.take (R := Rq K H) hall 3).imp fun _ _ h => h.same gw.same, zk 3, lk 3 (by decide), fun r H1 e hr9 => ?_⟩
    exact ⟨D, us, r, rfl, rfl, (Gw.go (R := Rq K) lastsRq gw e).at_, le1000 (by omega), key _ _ ⟨_, rfl, tot_next gw e hr9, by rw [List.length_append, lu]; rfl⟩⟩
  clear gw lu
  rintro σ G ⟨us, rfl, gw, lu⟩
  refine cutG (fun σ' G => ∃ us, σ' = [some (.ref ap), some x0, some x1, some x2, some x3, some x4, some x5, some x6, some x7, some x8, some x9, some x10, some x11, some x12, some x13, some x14, some x15, some x16, some x17, some x18, some x19, some (.ref D)] ∧ Gw (Rq K) H D us (seg qs 0 5) G ∧ us.length = 5) ?_ ?_
  rotate_left
  · intro u' key
    refine ⟨_, rfl, .inl ⟨rfl, _, SqL.of gw.at_⟩, _, rfl, _, rfl, _, rfl, _, rfl, qs.take 4, (All2.take (R := Rq K H) hall 4).imp fun _ _ h => h.same gw.same, zk 4, lk 4 (by decide), fun r H1 e hr9 => ?_⟩
    exact ⟨D, us, r, rfl, rfl, (Gw.go (R := Rq K) lastsRq gw e).at_, le1000 (by omega), key _ _ ⟨_, rfl, tot_next gw e hr9, by rw [List.length_append, lu]; rfl⟩⟩
  clear gw lu
  rintro σ G ⟨us, rfl, gw, lu⟩
  refine cutG (fun σ' G => ∃ us, σ' = [some (.ref ap), some x0, some x1, some x2, some x3, some x4, some x5, some x6, some x7, some x8, some x9, some x10, some x11, some x12, some x13, some x14, some x15, some x16, some x17, some x18, some x19, some (.ref D)] ∧ Gw (Rq K) H D us (seg qs 0 6) G ∧ us.length = 6) ?_ ?_
  rotate_left
  · intro u' key
    refine ⟨_, rfl, .inl ⟨rfl, _, SqL.of gw.at_⟩, _, rfl, _, rfl, _, rfl, _, rfl, _, rfl, qs.take 5, (All2.take (R := Rq K H) hall 5).imp fun _ _ h => h.same gw.same, zk 5, lk 5 (by decide), fun r H1 e hr9 => ?_⟩
    exact ⟨D, us, r, rfl, rfl, (Gw.go (R := Rq K) lastsRq gw e).at_, le1000 (by omega), key _ _ ⟨_, rfl, tot_next gw e hr9, by rw [List.length_append, lu]; rfl⟩⟩
  clear gw lu
  rintro σ G ⟨us, rfl, gw, lu⟩
  refine cutG (fun σ' G => ∃ us, σ' = [some (.ref ap), some x0, some x1, some x2, some x3, some x4, some x5, some x6, some x7, some x8, some x9, some x10, some x11, some x12, some x13, some x14, some x15, some x16, some x17, some x18, some x19, some (.ref D)] ∧ Gw (Rq K) H D us (seg qs 0 7) G ∧ us.length = 7) ?_ ?_
  rotate_left
  · intro u' key
    refine ⟨_, rfl, .inl ⟨rfl, _, SqL.of gw.at_⟩, _, rfl, _, rfl, _, rfl, _, rfl, _, rfl, _, rfl, qs.take 6, (All2.take (R := Rq K H) hall 6).imp fun _ _ h => h.same gw.same, zk 6, lk 6 (by decide), fun r H1 e hr9 => ?_⟩
    exact ⟨D, us, r, rfl, rfl, (Gw.go (R := Rq K) lastsRq gw e).at_, le1000 (by omega), key _ _ ⟨_, rfl, tot_next gw e hr9, by rw [List.length_append, lu]; rfl⟩⟩
  clear gw lu
  rintro σ G ⟨us, rfl, gw, lu⟩
  refine cutG (fun σ' G => ∃ us, σ' = [some (.ref ap), some x0, some x1, some x2, some x3, some x4, some x5, some x6, some x7, some x8, some x9, some x10, some x11, some x12, some x13, some x14, some x15, some x16, some x17, some x18, some x19, some (.ref D)] ∧ Gw (Rq K) H D us (seg qs 0 8) G ∧ us.length = 8) ?_ ?_
  rotate_left
  · intro u' key
    refine ⟨_, rfl, .inl ⟨rfl, _, SqL.of gw.at_⟩, _, rfl, _, rfl, _, rfl, _, rfl, _, rfl, _, rfl, _, rfl, qs.take 7, (All2.take (R := Rq K H) hall 7).imp fun _ _ h => h.same gw.same, zk 7, lk 7 (by decide), fun r H1 e hr9 => ?_⟩
    exact ⟨D, us, r, rfl, rfl, (Gw.go (R := Rq K) lastsRq gw e).at_, le1000 (by omega), key _ _ ⟨_, rfl, tot_next gw e hr9, by rw [List.length_append, lu]; rfl⟩⟩
  clear gw lu
  rintro σ G ⟨us, rfl, gw, lu⟩
  refine cutG (fun σ' G => ∃ us, σ' = [some (.ref ap), some x0, some x1, some x2, some x3, some x4, some x5, some x6, some x7, some x8, some x9, some x10, some x11, some x12, some x13, some x14, some x15, some x16, some x17, some x18, some x19, some (.ref D)] ∧ Gw (Rq K) H D us (seg qs 0 9) G ∧ us.length = 9) ?_ ?_
  rotate_left
  · intro u' key
    refine ⟨_, rfl, .inl ⟨rfl, _, SqL.of gw.at_⟩, _, rfl, _, rfl, _, rfl, _, rfl, _, rfl, _, rfl, _, rfl, _, rfl, qs.take 8, (All2.take (R := Rq K H) hall 8).imp fun _ _ h => h.same gw.same, zk 8, lk 8 (by decide), fun r H1 e hr9 => ?_⟩
    exact ⟨D, us, r, rfl, rfl, (Gw.go (R := Rq K) lastsRq gw e).at_, le1000 (by omega), key _ _ ⟨_, rfl, tot_next gw e hr9, by rw [List.length_append, lu]; rfl⟩⟩
  clear gw lu
  rintro σ G ⟨us, rfl, gw, lu⟩
  refine cutG (fun σ' G => ∃ us, σ' = [some (.ref ap), some x0, some x1, some x2, some x3, some x4, some x5, some x6, some x7, some x8, some x9, some x10, some x11, some x12, some x13, some x14, some x15, some x16, some x17, some x18, some x19, some (.ref D)] ∧ Gw (Rq K) H D us (seg qs 0 10) G ∧ us.length = 10) ?_ ?_
  rotate_left
  · intro u' key
    refine ⟨_, rfl, .inl ⟨rfl, _, SqL.of gw.at_⟩, _, rfl, _, rfl, _, rfl, _, rfl, _, rfl, _, rfl, _, rfl, _, rfl, _, rfl, qs.take 9, (All2.take (R := Rq K H) hall 9).imp fun _ _ h => h.same gw.same, zk 9, lk 9 (by decide), fun r H1 e hr9 => ?_⟩
    exact ⟨D, us, r, rfl, rfl, (Gw.go (R := Rq K) lastsRq gw e).at_, le1000 (by omega), key _ _ ⟨_, rfl, tot_next gw e hr9, by rw [List.length_append, lu]; rfl⟩⟩
  clear gw lu
  rintro σ G ⟨us, rfl, gw, lu⟩
  refine cutG (fun σ' G => ∃ us, σ' = [some (.ref ap), some x0, some x1, some x2, some x3, some x4, some x5, some x6, some x7, some x8, some x9, some x10, some x11, some x12, some x13, some x14, some x15, some x16, some x17, some x18, some x19, some (.ref D)] ∧ Gw (Rq K) H D us (seg qs 0 11) G ∧ us.length = 11) ?_ ?_
  rotate_left
  · intro u' key
    refine ⟨_, rfl, .inl ⟨rfl, _, SqL.of gw.at_⟩, _, rfl, _, rfl, _, rfl, _, rfl, _, rfl, _, rfl, _, rfl, _, rfl, _, rfl, _, rfl, qs.take 10, (All2.take (R := Rq K H) hall 10).imp fun _ _ h => h.same gw.same, zk 10, lk 10 (by decide), fun r H1 e hr9 => ?_⟩
    exact ⟨D, us, r, rfl, rfl, (Gw.go (R := Rq K) lastsRq gw e).at_, le1000 (by omega), key _ _ ⟨_, rfl, tot_next gw e hr9, by rw [List.length_append, lu]; rfl⟩⟩
  clear gw lu
  rintro σ G ⟨us, rfl, gw, lu⟩
  refine cutG (fun σ' G => ∃ us, σ' = [some (.ref ap), some x0, some x1, some x2, some x3, some x4, some x5, some x6, some x7, some x8, some x9, some x10, some x11, some x12, some x13, some x14, some x15, some x16, some x17, some x18, some x19, some (.ref D)] ∧ Gw (Rq K) H D us (seg qs 0 12) G ∧ us.length = 12) ?_ ?_
  rotate_left
  · intro u' key
    refine ⟨_, rfl, .inl ⟨rfl, _, SqL.of gw.at_⟩, _, rfl, _, rfl, _, rfl, _, rfl, _, rfl, _, rfl, _, rfl, _, rfl, _, rfl, _, rfl, _, rfl, qs.take 11, (All2.take (R := Rq K H) hall 11).imp fun _ _ h => h.same gw.same, zk 11, lk 11 (by decide), fun r H1 e hr9 => ?_⟩
    exact ⟨D, us, r, rfl, rfl, (Gw.go (R := Rq K) lastsRq gw e).at_, le1000 (by omega), key _ _ ⟨_, rfl, tot_next gw e hr9, by rw [List.length_append, lu]; rfl⟩⟩
  clear gw lu
  rintro σ G ⟨us, rfl, gw, lu⟩
  refine cutG (fun σ' G => ∃ us, σ' = [some (.ref ap), some x0, some x1, some x2, some x3, some x4, some x5, some x6, some x7, some x8, some x9, some x10, some x11, some x12, some x13, some x14, some x15, some x16, some x17, some x18, some x19, some (.ref D)] ∧ Gw (Rq K) H D us (seg qs 0 13) G ∧ us.length = 13) ?_ ?_
  rotate_left
  · intro u' key
    refine ⟨_, rfl, .inl ⟨rfl, _, SqL.of gw.at_⟩, _, rfl, _, rfl, _, rfl, _, rfl, _, rfl, _, rfl, _, rfl, _, rfl, _, rfl, _, rfl, _, rfl, _, rfl, qs.take 12, (All2.take (R := Rq K H) hall 12).imp fun _ _ h => h.same gw.same, zk 12, lk 12 (by decide), fun r H1 e hr9 => ?_⟩
    exact ⟨D, us, r, rfl, rfl, (Gw.go (R := Rq K) lastsRq gw e).at_, le1000 (by omega), key _ _ ⟨_, rfl, tot_next gw e hr9, by rw [List.length_append, lu]; rfl⟩⟩
  clear gw lu
  rintro σ G ⟨us, rfl, gw, lu⟩
  refine cutG (fun σ' G => ∃ us, σ' = [some (.ref ap), some x0, some x1, some x2, some x3, some x4, some x5, some x6, some x7, some x8, some x9, some x10, some x11, some x12, some x13, some x14, some x15, some x16, some x17, some x18, some x19, some (.ref D)] ∧ Gw (Rq K) H D us (seg qs 0 14) G ∧ us.length = 14) ?_ ?_
  rotate_left
  · intro u' key
    refine ⟨_, rfl, .inl ⟨rfl, _, SqL.of gw.at_⟩, _, rfl, _, rfl, _, rfl, _, rfl, _, rfl, _, rfl, _, rfl, _, rfl, _, rfl, _, rfl, _, rfl, _, rfl, _, rfl, qs.take 13, (All2.take (R := Rq K H) hall 13).imp fun _ _ h => h.same gw.same, zk 13, lk 13 (by decide), fun r H1 e hr9 => ?_⟩
    exact ⟨D, us, r, rfl, rfl, (Gw.go (R := Rq K) lastsRq gw e).at_, le1000 (by omega), key _ _ ⟨_, rfl, tot_next gw e hr9, by rw [List.length_append, lu]; rfl⟩⟩
  clear gw lu
  rintro σ G ⟨us, rfl, gw, lu⟩
  refine cutG (fun σ' G => ∃ us, σ' = [some (.ref ap), some x0, some x1, some x2, some x3, some x4, some x5, some x6, some x7, some x8, some x9, some x10, some x11, some x12, some x13, some x14, some x15, some x16, some x17, some x18, some x19, some (.ref D)] ∧ Gw (Rq K) H D us (seg qs 0 15) G ∧ us.length = 15) ?_ ?_
  rotate_left
  · intro u' key
    refine ⟨_, rfl, .inl ⟨rfl, _, SqL.of gw.at_⟩, _, rfl, _, rfl, _, rfl, _, rfl, _, rfl, _, rfl, _, rfl, _, rfl, _, rfl, _, rfl, _, rfl, _, rfl, _, rfl, _, rfl, qs.take 14, (All2.take (R := Rq K H) hall 14).imp fun _ _ h => h.same gw.same, zk 14, lk 14 (by decide), fun r H1 e hr9 => ?_⟩
    exact ⟨D, us, r, rfl, rfl, (Gw.go (R := Rq K) lastsRq gw e).at_, le1000 (by omega), key _ _ ⟨_, rfl, tot_next gw e hr9, by rw [List.length_append, lu]; rfl⟩⟩
  clear gw lu
  rintro σ G ⟨us, rfl, gw, lu⟩
  refine cutG (fun σ' G => ∃ us, σ' = [some (.ref ap), some x0, some x1, some x2, some x3, some x4, some x5, some x6, some x7, some x8, some x9, some x10, some x11, some x12, some x13, some x14, some x15, some x16, some x17, some x18, some x19, some (.ref D)] ∧ Gw (Rq K) H D us (seg qs 0 16) G ∧ us.length = 16) ?_ ?_
  rotate_left
  · intro u' key
    refine ⟨_, rfl, .inl ⟨rfl, _, SqL.of gw.at_⟩, _, rfl, _, rfl, _, rfl, _, rfl, _, rfl, _, rfl, _, rfl, _, rfl, _, rfl, _, rfl, _, rfl, _, rfl, _, rfl, _, rfl, _, rfl, qs.take 15, (All2.take (R := Rq K H) hall 15).imp fun _ _ h => h.same gw.same, zk 15, lk 15 (by decide), fun r H1 e hr9 => ?_⟩
    exact ⟨D, us, r, rfl, rfl, (Gw.go (R := Rq K) lastsRq gw e).at_, le1000 (by omega), key _ _ ⟨_, rfl, tot_next gw e hr9, by rw [List.length_append, lu]; rfl⟩⟩
  clear gw lu
  rintro σ G ⟨us, rfl, gw, lu⟩
  refine cutG (fun σ' G => ∃ us, σ' = [some (.ref ap), some x0, some x1, some x2, some x3, some x4, some x5, some x6, some x7, some x8, some x9, some x10, some x11, some x12, some x13, some x14, some x15, some x16, some x17, some x18, some x19, some (.ref D)] ∧ Gw (Rq K) H D us (seg qs 0 17) G ∧ us.length = 17) ?_ ?_
  rotate_left
  · intro u' key
    refine ⟨_, rfl, .inl ⟨rfl, _, SqL.of gw.at_⟩, _, rfl, _, rfl, _, rfl, _, rfl, _, rfl, _, rfl, _, rfl, _, rfl, _, rfl, _, rfl, _, rfl, _, rfl, _, rfl, _, rfl, _, rfl, _, rfl, qs.take 16, (All2.take (R := Rq K H) hall 16).imp fun _ _ h => h.same gw.same, zk 16, lk 16 (by decide), fun r H1 e hr9 => ?_⟩
    exact ⟨D, us, r, rfl, rfl, (Gw.go (R := Rq K) lastsRq gw e).at_, le1000 (by omega), key _ _ ⟨_, rfl, tot_next gw e hr9, by rw [List.length_append, lu]; rfl⟩⟩
  clear gw lu
  rintro σ G ⟨us, rfl, gw, lu⟩
  refine cutG (fun σ' G => ∃ us, σ' = [some (.ref ap), some x0, some x1, some x2, some x3, some x4, some x5, some x6, some x7, some x8, some x9, some x10, some x11, some x12, some x13, some x14, some x15, some x16, some x17, some x18, some x19, some (.ref D)] ∧ Gw (Rq K) H D us (seg qs 0 18) G ∧ us.length = 18) ?_ ?_
  rotate_left
  · intro u' key
    refine ⟨_, rfl, .inl ⟨rfl, _, SqL.of gw.at_⟩, _, rfl, _, rfl, _, rfl, _, rfl, _, rfl, _, rfl, _, rfl, _, rfl, _, rfl, _, rfl, _, rfl, _, rfl, _, rfl, _, rfl, _, rfl, _, rfl, _, rfl, qs.take 17, (All2.take (R := Rq K H) hall 17).imp fun _ _ h => h.same gw.same, zk 17, lk 17 (by decide), fun r H1 e hr9 => ?_⟩
    exact ⟨D, us, r, rfl, rfl, (Gw.go (R := Rq K) lastsRq gw e).at_, le1000 (by omega), key _ _ ⟨_, rfl, tot_next gw e hr9, by rw [List.length_append, lu]; rfl⟩⟩
  clear gw lu
  rintro σ G ⟨us, rfl, gw, lu⟩
  refine cutG (fun σ' G => ∃ us, σ' = [some (.ref ap), some x0, some x1, some x2, some x3, some x4, some x5, some x6, some x7, some x8, some x9, some x10, some x11, some x12, some x13, some x14, some x15, some x16, some x17, some x18, some x19, some (.ref D)] ∧ Gw (Rq K) H D us (seg qs 0 19) G ∧ us.length = 19) ?_ ?_
  rotate_left
  · intro u' key
    refine ⟨_, rfl, .inl ⟨rfl, _, SqL.of gw.at_⟩, _, rfl, _, rfl, _, rfl, _, rfl, _, rfl, _, rfl, _, rfl, _, rfl, _, rfl, _, rfl, _, rfl, _, rfl, _, rfl, _, rfl, _, rfl, _, rfl, _, rfl, _, rfl, qs.take 18, (All2.take (R := Rq K H) hall 18).imp fun _ _ h => h.same gw.same, zk 18, lk 18 (by decide), fun r H1 e hr9 => ?_⟩
    exact ⟨D, us, r, rfl, rfl, (Gw.go (R := Rq K) lastsRq gw e).at_, le1000 (by omega), key _ _ ⟨_, rfl, tot_next gw e hr9, by rw [List.length_append, lu]; rfl⟩⟩
  clear gw lu
  rintro σ G ⟨us, rfl, gw, lu⟩
  refine cutG (fun σ' G => ∃ us, σ' = [some (.ref ap), some x0, some x1, some x2, some x3, some x4, some x5, some x6, some x7, some x8, some x9, some x10, some x11, some x12, some x13, some x14, some x15, some x16, some x17, some x18, some x19, some (.ref D)] ∧ Gw (Rq K) H D us (seg qs 0 20) G ∧ us.length = 20) ?_ ?_
  rotate_left
  · intro u' key
    refine ⟨_, rfl, .inl ⟨rfl, _, SqL.of gw.at_⟩, _, rfl, _, rfl, _, rfl, _, rfl, _, rfl, _, rfl, _, rfl, _, rfl, _, rfl, _, rfl, _, rfl, _, rfl, _, rfl, _, rfl, _, rfl, _, rfl, _, rfl, _, rfl, _, rfl, qs.take 19, (All2.take (R := Rq K H) hall 19).imp fun _ _ h => h.same gw.same, zk 19, lk 19 (by decide), fun r H1 e hr9 => ?_⟩
    exact ⟨D, us, r, rfl, rfl, (Gw.go (R := Rq K) lastsRq gw e).at_, le1000 (by omega), key _ _ ⟨_, rfl, tot_next gw e hr9, by rw [List.length_append, lu]; rfl⟩⟩
  clear gw lu
  rintro σ G ⟨us, rfl, gw, lu⟩
  refine cutG (fun σ' G => ∃ us, σ' = [some (.ref ap), some x0, some x1, some x2, some x3, some x4, some x5, some x6, some x7, some x8, some x9, some x10, some x11, some x12, some x13, some x14, some x15, some x16, some x17, some x18, some x19, some (.ref D)] ∧ Gw (Rq K) H D us (seg qs 0 21) G ∧ us.length = 21) ?_ ?_
  rotate_left
  · intro u' key
    refine ⟨_, rfl, .inl ⟨rfl, _, SqL.of gw.at_⟩, _, rfl, _, rfl, _, rfl, _, rfl, _, rfl, _, rfl, _, rfl, _, rfl, _, rfl, _, rfl, _, rfl, _, rfl, _, rfl, _, rfl, _, rfl, _, rfl, _, rfl, _, rfl, _, rfl, _, rfl, qs.take 20, (All2.take (R := Rq K H) hall 20).imp fun _ _ h => h.same gw.same, zk 20, lk 20 (by decide), fun r H1 e hr9 => ?_⟩
    exact ⟨D, us, r, rfl, rfl, (Gw.go (R := Rq K) lastsRq gw e).at_, le1000 (by omega), key _ _ ⟨_, rfl, tot_next gw e hr9, by rw [List.length_append, lu]; rfl⟩⟩
  clear gw lu
  rintro σ G ⟨us, rfl, gw, lu⟩
  exact ⟨_, rfl, z D us G gw.same gw.fresh gw.at_ gw.all⟩
end Vk

set_option maxHeartbeats 4000000
namespace Vk
open PySem L2 Vm Vl
variable {l aZERO : Addr} {P : Program} {w : World} {K : PySem.W.Frag} {mg : Str → Option Value} {base : Heap} {k : Nat} {f f1 f2 f3 f4 f5 f6 f7 f8 f9 : Addr} {fd fd1 fd2 fd3 fd4 fd5 fd6 fd7 fd8 fd9 : FuncData}
abbrev s__law_many_totals : Stmt := top 74
abbrev N__law_many_totals : List Str := (("_law_row" : Str) :: ("_law_a" : Str) :: ("_law_b" : Str) :: ("_law_c" : Str) :: ("_law_d" : Str) :: ("_law_e" : Str) :: ("_law_f" : Str) :: ("_law_g" : Str) :: ("_law_h" : Str) :: ("_law_i" : Str) :: ("_law_j" : Str) :: ("_law_k" : Str) :: ("_law_l" : Str) :: ("_law_m" : Str) :: ("_law_n" : Str) :: ("_law_o" : Str) :: ("_law_p" : Str) :: ("_law_q" : Str) :: ("_law_r" : Str) :: ("_law_s" : Str) :: ("_law_t" : Str) :: ("_law_u" : Str) :: ("_law_v" : Str) :: ("_law_w" : Str) :: ("_law_x" : Str) :: ("_law_y" : Str) :: ("_law_z" : Str) :: ("_law_aa" : Str) :: ("_law_bb" : Str) :: ("_law_cc" : Str) :: ("_law_dd" : Str) :: ("_law_told" : Str) :: ([] : List Str))
theorem sc__law_many_totals : FnScope N__law_many_totals ["_law_row"] (defScope s__law_many_totals) := ⟨rfl, rfl, rfl, by decide +kernel, rfl, by decide +kernel, by decide +kernel⟩
abbrev ps__law_many_totals : List Str := ["_law_row"]
theorem ok_law_many_totals (F : Fn K mg "_law_many_totals" s__law_many_totals ps__law_many_totals f fd) (dtotal : DefR P w K mg base k "total" (spTot K) f1) : Def P w K mg base (k + 1) "_law_many_totals" ps__law_many_totals (spTots K 21 10) f fd := by
  refine ⟨F.F.ok sc__law_many_totals (fun vs H Q E h => ?_) (fun cdv A outer s H vs Q E hr h => ?_), F.m, F.F.kp, F.b⟩
  · obtain ⟨_, _, _, rfl, _⟩ := h
    rfl
  obtain ⟨ap, xs, qs, rfl, hp, hall, zq, lq, z⟩ := h
  have hl : xs.length = 40 := by rw [hall.1]; exact lq
  obtain ⟨x0, r0, rfl, l0⟩ := list_cons (n := 39) hl
  obtain ⟨x1, r1, rfl, l1⟩ := list_cons (n := 38) l0
  obtain ⟨x2, r2, rfl, l2⟩ := list_cons (n := 37) l1
  obtain ⟨x3, r3, rfl, l3⟩ := list_cons (n := 36) l2
  obtain ⟨x4, r4, rfl, l4⟩ := list_cons (n := 35) l3
  obtain ⟨x5, r5, rfl, l5⟩ := list_cons (n := 34) l4
  obtain ⟨x6, r6, rfl, l6⟩ := list_cons (n := 33) l5
  obtain ⟨x7, r7, rfl, l7⟩ := list_cons (n := 32) l6
  obtain ⟨x8, r8, rfl, l8⟩ := list_cons (n := 31) l7
  obtain ⟨x9, r9, rfl, l9⟩ := list_cons (n := 30) l8
  obtain ⟨x10, r10, rfl, l10⟩ := list_cons (n := 29) l9
  obtain ⟨x11, r11, rfl, l11⟩ := list_cons (n := 28) l10
  obtain ⟨x12, r12, rfl, l12⟩ := list_cons (n := 27) l11
  obtain ⟨x13, r13, rfl, l13⟩ := list_cons (n := 26) l12
  obtain ⟨x14, r14, rfl, l14⟩ := list_cons (n := 25) l13
  obtain ⟨x15, r15, rfl, l15⟩ := list_cons (n := 24) l14
  obtain ⟨x16, r16, rfl, l16⟩ := list_cons (n := 23) l15
  obtain ⟨x17, r17, rfl, l17⟩ := list_cons (n := 22) l16
  obtain ⟨x18, r18, rfl, l18⟩ := list_cons (n := 21) l17
  obtain ⟨x19, r19, rfl, l19⟩ := list_cons (n := 20) l18
  obtain ⟨x20, r20, rfl, l20⟩ := list_cons (n := 19) l19
  obtain ⟨x21, r21, rfl, l21⟩ := list_cons (n := 18) l20
  obtain ⟨x22, r22, rfl, l22⟩ := list_cons (n := 17) l21
  obtain ⟨x23, r23, rfl, l23⟩ := list_cons (n := 16) l22
  obtain ⟨x24, r24, rfl, l24⟩ := list_cons (n := 15) l23
  obtain ⟨x25, r25, rfl, l25⟩ := list_cons (n := 14) l24
  obtain ⟨x26, r26, rfl, l26⟩ := list_cons (n := 13) l25
  obtain ⟨x27, r27, rfl, l27⟩ := list_cons (n := 12) l26
  obtain ⟨x28, r28, rfl, l28⟩ := list_cons (n := 11) l27
  obtain ⟨x29, r29, rfl, l29⟩ := list_cons (n := 10) l28
  obtain ⟨x30, r30, rfl, l30⟩ := list_cons (n := 9) l29
  obtain ⟨x31, r31, rfl, l31⟩ := list_cons (n := 8) l30
  obtain ⟨x32, r32, rfl, l32⟩ := list_cons (n := 7) l31
  obtain ⟨x33, r33, rfl, l33⟩ := list_cons (n := 6) l32
  obtain ⟨x34, r34, rfl, l34⟩ := list_cons (n := 5) l33
  obtain ⟨x35, r35, rfl, l35⟩ := list_cons (n := 4) l34
  obtain ⟨x36, r36, rfl, l36⟩ := list_cons (n := 3) l35
  obtain ⟨x37, r37, rfl, l37⟩ := list_cons (n := 2) l36
  obtain ⟨x38, r38, rfl, l38⟩ := list_cons (n := 1) l37
  obtain ⟨x39, r39, rfl, l39⟩ := list_cons (n := 0) l38
  have rn : r39 = [] := List.eq_nil_of_length_eq_zero l39
  subst rn
  clear hl l0 l1 l2 l3 l4 l5 l6 l7 l8 l9 l10 l11 l12 l13 l14 l15 l16 l17 l18 l19 l20 l21 l22 l23 l24 l25 l26 l27 l28 l29 l30 l31 l32 l33 l34 l35 l36 l37 l38 l39
  refine ⟨_, (pss_cons (ps_asg (pe_slice sl_list (pv 0) (po_some pe_int) (po_some pe_int)) (pg_lst rfl (pgs_cons (pg_name (i := 1) sc__law_many_totals.nd rfl (Or.inl rfl)) (pgs_cons (pg_name (i := 2) sc__law_many_totals.nd rfl (Or.inl rfl)) (pgs_cons (pg_name (i := 3) sc__law_many_totals.nd rfl (Or.inl rfl)) (pgs_cons (pg_name (i := 4) sc__law_many_totals.nd rfl (Or.inl rfl)) (pgs_cons (pg_name (i := 5) sc__law_many_totals.nd rfl (Or.inl rfl)) (pgs_cons (pg_name (i := 6) sc__law_many_totals.nd rfl (Or.inl rfl)) (pgs_cons (pg_name (i := 7) sc__law_many_totals.nd rfl (Or.inl rfl)) (pgs_cons (pg_name (i := 8) sc__law_many_totals.nd rfl (Or.inl rfl)) (pgs_cons (pg_name (i := 9) sc__law_many_totals.nd rfl (Or.inl rfl)) (pgs_cons (pg_name (i := 10) sc__law_many_totals.nd rfl (Or.inl rfl)) (pgs_cons (pg_name (i := 11) sc__law_many_totals.nd rfl (Or.inl rfl)) (pgs_cons (pg_name (i := 12) sc__law_many_totals.nd rfl (Or.inl rfl)) (pgs_cons (pg_name (i := 13) sc__law_many_totals.nd rfl (Or.inl rfl)) pgs_nil)))))))))))))))
      (pss_cons (ps_asg (pe_slice sl_list (pv 0) (po_some pe_int) (po_some pe_int)) (pg_lst rfl (pgs_cons (pg_name (i := 14) sc__law_many_totals.nd rfl (Or.inl rfl)) (pgs_cons (pg_name (i := 15) sc__law_many_totals.nd rfl (Or.inl rfl)) (pgs_cons (pg_name (i := 16) sc__law_many_totals.nd rfl (Or.inl rfl)) (pgs_cons (pg_name (i := 17) sc__law_many_totals.nd rfl (Or.inl rfl)) (pgs_cons (pg_name (i := 18) sc__law_many_totals.nd rfl (Or.inl rfl)) (pgs_cons (pg_name (i := 19) sc__law_many_totals.nd rfl (Or.inl rfl)) (pgs_cons (pg_name (i := 20) sc__law_many_totals.nd rfl (Or.inl rfl)) (pgs_cons (pg_name (i := 21) sc__law_many_totals.nd rfl (Or.inl rfl)) (pgs_cons (pg_name (i := 22) sc__law_many_totals.nd rfl (Or.inl rfl)) (pgs_cons (pg_name (i := 23) sc__law_many_totals.nd rfl (Or.inl rfl)) (pgs_cons (pg_name (i := 24) sc__law_many_totals.nd rfl (Or.inl rfl)) (pgs_cons (pg_name (i := 25) sc__law_many_totals.nd rfl (Or.inl rfl)) (pgs_cons (pg_name (i := 26) sc__law_many_totals.nd rfl (Or.inl rfl)) pgs_nil)))))))))))))))
      (pss_cons (ps_asg (pe_slice sl_list (pv 0) (po_some pe_int) (po_some pe_int)) (pg_lst rfl (pgs_cons (pg_name (i := 27) sc__law_many_totals.nd rfl (Or.inl rfl)) (pgs_cons (pg_name (i := 28) sc__law_many_totals.nd rfl (Or.inl rfl)) (pgs_cons (pg_name (i := 29) sc__law_many_totals.nd rfl (Or.inl rfl)) (pgs_cons (pg_name (i := 30) sc__law_many_totals.nd rfl (Or.inl rfl)) pgs_nil))))))
      (pss_cons (ps_set (i := 31) sc__law_many_totals.nd rfl (Or.inl rfl) (pe_lst pa_nil))
      (pss_cons (ps_expr (pe_bm PySem.F.plainAttrs_list PySem.F.slot_list_append PySem.F.type_list_append mt_append (pv 31) (pa_cons (pcallR dtotal hr (pa_cons (pv 1) (pa_cons (pv 2) (pa_cons (pv 3) (pa_cons (pv 4) (pa_cons (pv 5) (pa_cons (pv 6) (pa_cons (pv 7) (pa_cons (pv 8) (pa_cons (pv 9) (pa_cons (pv 10) (pa_cons (pv 11) (pa_cons (pv 12) (pa_cons (pv 13) (pa_cons (pv 14) (pa_cons (pv 15) (pa_cons (pv 16) (pa_cons (pv 17) (pa_cons (pv 18) (pa_cons (pv 19) (pa_cons (pv 20) (pa_cons (pv 21) pa_nil)))))))))))))))))))))) pa_nil)))
      (pss_cons (ps_expr (pe_bm PySem.F.plainAttrs_list PySem.F.slot_list_append PySem.F.type_list_append mt_append (pv 31) (pa_cons (pcallR dtotal hr (pa_cons (pv 1) (pa_cons (pv 2) (pa_cons (pv 3) (pa_cons (pv 4) (pa_cons (pv 5) (pa_cons (pv 6) (pa_cons (pv 7) (pa_cons (pv 8) (pa_cons (pv 9) (pa_cons (pv 10) (pa_cons (pv 11) (pa_cons (pv 12) (pa_cons (pv 13) (pa_cons (pv 14) (pa_cons (pv 15) (pa_cons (pv 16) (pa_cons (pv 17) (pa_cons (pv 18) (pa_cons (pv 19) (pa_cons (pv 20) (pa_cons (pv 21) (pa_cons (pv 22) pa_nil))))))))))))))))))))))) pa_nil)))
      (pss_cons (ps_expr (pe_bm PySem.F.plainAttrs_list PySem.F.slot_list_append PySem.F.type_list_append mt_append (pv 31) (pa_cons (pcallR dtotal hr (pa_cons (pv 1) (pa_cons (pv 2) (pa_cons (pv 3) (pa_cons (pv 4) (pa_cons (pv 5) (pa_cons (pv 6) (pa_cons (pv 7) (pa_cons (pv 8) (pa_cons (pv 9) (pa_cons (pv 10) (pa_cons (pv 11) (pa_cons (pv 12) (pa_cons (pv 13) (pa_cons (pv 14) (pa_cons (pv 15) (pa_cons (pv 16) (pa_cons (pv 17) (pa_cons (pv 18) (pa_cons (pv 19) (pa_cons (pv 20) (pa_cons (pv 21) (pa_cons (pv 22) (pa_cons (pv 23) pa_nil)))))))))))))))))))))))) pa_nil)))
      (pss_cons (ps_expr (pe_bm PySem.F.plainAttrs_list PySem.F.slot_list_append PySem.F.type_list_append mt_append (pv 31) (pa_cons (pcallR dtotal hr (pa_cons (pv 1) (pa_cons (pv 2) (pa_cons (pv 3) (pa_cons (pv 4) (pa_cons (pv 5) (pa_cons (pv 6) (pa_cons (pv 7) (pa_cons (pv 8) (pa_cons (pv 9) (pa_cons (pv 10) (pa_cons (pv 11) (pa_cons (pv 12) (pa_cons (pv 13) (pa_cons (pv 14) (pa_cons (pv 15) (pa_cons (pv 16) (pa_cons (pv 17) (pa_cons (pv 18) (pa_cons (pv 19) (pa_cons (pv 20) (pa_cons (pv 21) (pa_cons (pv 22) (pa_cons (pv 23) (pa_cons (pv 24) pa_nil))))))))))))))))))))))))) pa_nil)))
      (pss_cons (ps_expr (pe_bm PySem.F.plainAttrs_list PySem.F.slot_list_append PySem.F.type_list_append mt_append (pv 31) (pa_cons (pcallR dtotal hr (pa_cons (pv 1) (pa_cons (pv 2) (pa_cons (pv 3) (pa_cons (pv 4) (pa_cons (pv 5) (pa_cons (pv 6) (pa_cons (pv 7) (pa_cons (pv 8) (pa_cons (pv 9) (pa_cons (pv 10) (pa_cons (pv 11) (pa_cons (pv 12) (pa_cons (pv 13) (pa_cons (pv 14) (pa_cons (pv 15) (pa_cons (pv 16) (pa_cons (pv 17) (pa_cons (pv 18) (pa_cons (pv 19) (pa_cons (pv 20) (pa_cons (pv 21) (pa_cons (pv 22) (pa_cons (pv 23) (pa_cons (pv 24) (pa_cons (pv 25) pa_nil)))))))))))))))))))))))))) pa_nil)))
      (pss_cons (ps_expr (pe_bm PySem.F.plainAttrs_list PySem.F.slot_list_append PySem.F.type_list_append mt_append (pv 31) (pa_cons (pcallR dtotal hr (pa_cons (pv 1) (pa_cons (pv 2) (pa_cons (pv 3) (pa_cons (pv 4) (pa_cons (pv 5) (pa_cons (pv 6) (pa_cons (pv 7) (pa_cons (pv 8) (pa_cons (pv 9) (pa_cons (pv 10) (pa_cons (pv 11) (pa_cons (pv 12) (pa_cons (pv 13) (pa_cons (pv 14) (pa_cons (pv 15) (pa_cons (pv 16) (pa_cons (pv 17) (pa_cons (pv 18) (pa_cons (pv 19) (pa_cons (pv 20) (pa_cons (pv 21) (pa_cons (pv 22) (pa_cons (pv 23) (pa_cons (pv 24) (pa_cons (pv 25) (pa_cons (pv 26) pa_nil))))))))))))))))))))))))))) pa_nil)))
      (pss_cons (ps_expr (pe_bm PySem.F.plainAttrs_list PySem.F.slot_list_append PySem.F.type_list_append mt_append (pv 31) (pa_cons (pcallR dtotal hr (pa_cons (pv 1) (pa_cons (pv 2) (pa_cons (pv 3) (pa_cons (pv 4) (pa_cons (pv 5) (pa_cons (pv 6) (pa_cons (pv 7) (pa_cons (pv 8) (pa_cons (pv 9) (pa_cons (pv 10) (pa_cons (pv 11) (pa_cons (pv 12) (pa_cons (pv 13) (pa_cons (pv 14) (pa_cons (pv 15) (pa_cons (pv 16) (pa_cons (pv 17) (pa_cons (pv 18) (pa_cons (pv 19) (pa_cons (pv 20) (pa_cons (pv 21) (pa_cons (pv 22) (pa_cons (pv 23) (pa_cons (pv 24) (pa_cons (pv 25) (pa_cons (pv 26) (pa_cons (pv 27) pa_nil)))))))))))))))))))))))))))) pa_nil)))
      (pss_cons (ps_expr (pe_bm PySem.F.plainAttrs_list PySem.F.slot_list_append PySem.F.type_list_append mt_append (pv 31) (pa_cons (pcallR dtotal hr (pa_cons (pv 1) (pa_cons (pv 2) (pa_cons (pv 3) (pa_cons (pv 4) (pa_cons (pv 5) (pa_cons (pv 6) (pa_cons (pv 7) (pa_cons (pv 8) (pa_cons (pv 9) (pa_cons (pv 10) (pa_cons (pv 11) (pa_cons (pv 12) (pa_cons (pv 13) (pa_cons (pv 14) (pa_cons (pv 15) (pa_cons (pv 16) (pa_cons (pv 17) (pa_cons (pv 18) (pa_cons (pv 19) (pa_cons (pv 20) (pa_cons (pv 21) (pa_cons (pv 22) (pa_cons (pv 23) (pa_cons (pv 24) (pa_cons (pv 25) (pa_cons (pv 26) (pa_cons (pv 27) (pa_cons (pv 28) pa_nil))))))))))))))))))))))))))))) pa_nil)))
      (pss_cons (ps_expr (pe_bm PySem.F.plainAttrs_list PySem.F.slot_list_append PySem.F.type_list_append mt_append (pv 31) (pa_cons (pcallR dtotal hr (pa_cons (pv 1) (pa_cons (pv 2) (pa_cons (pv 3) (pa_cons (pv 4) (pa_cons (pv 5) (pa_cons (pv 6) (pa_cons (pv 7) (pa_cons (pv 8) (pa_cons (pv 9) (pa_cons (pv 10) (pa_cons (pv 11) (pa_cons (pv 12) (pa_cons (pv 13) (pa_cons (pv 14) (pa_cons (pv 15) (pa_cons (pv 16) (pa_cons (pv 17) (pa_cons (pv 18) (pa_cons (pv 19) (pa_cons (pv 20) (pa_cons (pv 21) (pa_cons (pv 22) (pa_cons (pv 23) (pa_cons (pv 24) (pa_cons (pv 25) (pa_cons (pv 26) (pa_cons (pv 27) (pa_cons (pv 28) (pa_cons (pv 29) pa_nil)))))))))))))))))))))))))))))) pa_nil)))
      (pss_cons (ps_expr (pe_bm PySem.F.plainAttrs_list PySem.F.slot_list_append PySem.F.type_list_append mt_append (pv 31) (pa_cons (pcallR dtotal hr (pa_cons (pv 1) (pa_cons (pv 2) (pa_cons (pv 3) (pa_cons (pv 4) (pa_cons (pv 5) (pa_cons (pv 6) (pa_cons (pv 7) (pa_cons (pv 8) (pa_cons (pv 9) (pa_cons (pv 10) (pa_cons (pv 11) (pa_cons (pv 12) (pa_cons (pv 13) (pa_cons (pv 14) (pa_cons (pv 15) (pa_cons (pv 16) (pa_cons (pv 17) (pa_cons (pv 18) (pa_cons (pv 19) (pa_cons (pv 20) (pa_cons (pv 21) (pa_cons (pv 22) (pa_cons (pv 23) (pa_cons (pv 24) (pa_cons (pv 25) (pa_cons (pv 26) (pa_cons (pv 27) (pa_cons (pv 28) (pa_cons (pv 29) (pa_cons (pv 30) pa_nil))))))))))))))))))))))))))))))) pa_nil)))
      (pss_one (ps_ret (pv 31))))))))))))))))), ?_⟩
  have s0 : Same H H := Same.refl _
  have lk : ∀ j, j ≤ 40 → (qs.take j).length ≤ 40 := fun j h => by rw [List.length_take]; omega
  have zk : ∀ j, ∀ q ∈ qs.take j, Sz 52 q := fun j q hq => zq q (List.mem_of_mem_take hq)
  have cut0 : ∀ {α : Prop}, α → α := fun h => h
  refine cutG (fun σ' G => σ' = [some (.ref ap), some x0, some x1, some x2, some x3, some x4, some x5, some x6, some x7, some x8, some x9, some x10, some x11, some x12, none, none, none, none, none, none, none, none, none, none, none, none, none, none, none, none, none, none] ∧ Same H G) ?_ ?_
  rotate_left
  · intro u' key
    refine ⟨_, rfl, _, rfl, _, rfl, ap, _, rfl, (s0.seq hp), fun p1 hp1 => ?_⟩
    refine ⟨p1, [x0, x1, x2, x3, x4, x5, x6, x7, x8, x9, x10, x11, x12], rfl, SqL.of upd_same, rfl, ?_⟩
    refine ⟨_, _, rfl, ⟨_, _, rfl, ⟨_, _, rfl, ⟨_, _, rfl, ⟨_, _, rfl, ⟨_, _, rfl, ⟨_, _, rfl, ⟨_, _, rfl, ⟨_, _, rfl, ⟨_, _, rfl, ⟨_, _, rfl, ⟨_, _, rfl, ⟨_, _, rfl, ?_⟩⟩⟩⟩⟩⟩⟩⟩⟩⟩⟩⟩⟩
    refine ⟨rfl, key _ _ ⟨?_, s0.trans (same_new hp1 _)⟩⟩
    kernel_rfl
  rintro σ G1 ⟨rfl, s1⟩
  refine cutG (fun σ' G => σ' = [some (.ref ap), some x0, some x1, some x2, some x3, some x4, some x5, some x6, some x7, some x8, some x9, some x10, some x11, some x12, some x13, some x14, some x15, some x16, some x17, some x18, some x19, some x20, some x21, some x22, some x23, some x24, some x25, none, none, none, none, none] ∧ Same H G) ?_ ?_
  rotate_left
  · intro u' key
    refine ⟨_, rfl, _, rfl, _, rfl, ap, _, rfl, (s1.seq hp), fun p1 hp1 => ?_⟩
    refine ⟨p1, [x13, x14, x15, x16, x17, x18, x19, x20, x21, x22, x23, x24, x25], rfl, SqL.of upd_same, rfl, ?_⟩
    refine ⟨_, _, rfl, ⟨_, _, rfl, ⟨_, _, rfl, ⟨_, _, rfl, ⟨_, _, rfl, ⟨_, _, rfl, ⟨_, _, rfl, ⟨_, _, rfl, ⟨_, _, rfl, ⟨_, _, rfl, ⟨_, _, rfl, ⟨_, _, rfl, ⟨_, _, rfl, ?_⟩⟩⟩⟩⟩⟩⟩⟩⟩⟩⟩⟩⟩
    refine ⟨rfl, key _ _ ⟨?_, s1.trans (same_new hp1 _)⟩⟩
    kernel_rfl
  rintro σ G2 ⟨rfl, s2⟩
  refine cutG (fun σ' G => σ' = [some (.ref ap), some x0, some x1, some x2, some x3, some x4, some x5, some x6, some x7, some x8, some x9, some x10, some x11, some x12, some x13, some x14, some x15, some x16, some x17, some x18, some x19, some x20, some x21, some x22, some x23, some x24, some x25, some x26, some x27, some x28, some x29, none] ∧ Same H G) ?_ ?_
  rotate_left
  · intro u' key
    refine ⟨_, rfl, _, rfl, _, rfl, ap, _, rfl, (s2.seq hp), fun p1 hp1 => ?_⟩
    refine ⟨p1, [x26, x27, x28, x29], rfl, SqL.of upd_same, rfl, ?_⟩
    refine ⟨_, _, rfl, ⟨_, _, rfl, ⟨_, _, rfl, ⟨_, _, rfl, ?_⟩⟩⟩⟩
    refine ⟨rfl, key _ _ ⟨?_, s2.trans (same_new hp1 _)⟩⟩
    kernel_rfl
  rintro σ G3 ⟨rfl, s3⟩
  refine cutG (fun σ' G => ∃ D us, σ' = [some (.ref ap), some x0, some x1, some x2, some x3, some x4, some x5, some x6, some x7, some x8, some x9, some x10, some x11, some x12, some x13, some x14, some x15, some x16, some x17, some x18, some x19, some x20, some x21, some x22, some x23, some x24, some x25, some x26, some x27, some x28, some x29, some (.ref D)] ∧ Gw (Rq K) H D us (seg qs 21 0) G ∧ us.length = 0) ?_ ?_
  rotate_left
  · intro u' key
    refine ⟨Nat.zero_le _, fun D hD => ?_⟩
    exact key _ _ ⟨D, [], rfl, Gw.start s3 hD, rfl⟩
  rintro σ G ⟨D, us, rfl, gw, lu⟩
  clear s0 s1 s2 s3
  refine cutG (fun σ' G => ∃ us, σ' = [some (.ref ap), some x0, some x1, some x2, some x3, some x4, some x5, some x6, some x7, some x8, some x9, some x10, some x11, some x12, some x13, some x14, some x15, some x16, some x17, some x18, some x19, some x20, some x21, some x22, some x23, some x24, some x25, some x26, some x27, some x28, some x29, some (.ref D)] ∧ Gw (Rq K) H D us (seg qs 21 1) G ∧ us.length = 1) ?_ ?_
  rotate_left
  · intro u' key
    refine ⟨_, rfl, .inl ⟨rfl, _, SqL.of gw.at_⟩, _, rfl, _, rfl, _, rfl, _, rfl, _, rfl, _, rfl, _, rfl, _, rfl, _, rfl, _, rfl, _, rfl, _, rfl, _, rfl, _, rfl, _, rfl, _, rfl, _, rfl, _, rfl, _, rfl, _, rfl, _, rfl, qs.take 21, (All2.take (R := Rq K H) hall 21).imp fun _ _ h => h.same gw.same, zk 21, lk 21 (by decide), fun r H1 e hr9 => ?_⟩
    exact ⟨D, us, r, rfl, rfl, (Gw.go (R := Rq K) lastsRq gw e).at_, le1000 (by omega), key _ _ ⟨_, rfl, tot_next gw e hr9, by rw [List.length_append, lu]; rfl⟩⟩
  clear gw lu
  rintro σ G ⟨us, rfl, gw, lu⟩
  refine cutG (fun σ' G => ∃ us, σ' = [some (.ref ap), some x0, some x1, some x2, some x3, some x4, some x5, some x6, some x7, some x8, some x9, some x10, some x11, some x12, some x13, some x14, some x15, some x16, some x17, some x18, some x19, some x20, some x21, some x22, some x23, some x24, some x25, some x26, some x27, some x28, some x29, some (.ref D)] ∧ Gw (Rq K) H D us (seg qs 21 2) G ∧ us.length = 2) ?_ ?_
  rotate_left
  · intro u' key
    refine ⟨_, rfl, .inl ⟨rfl, _, SqL.of gw.at_⟩, _, rfl, _, rfl, _, rfl, _, rfl, _, rfl, _, rfl, _, rfl, _, rfl, _, rfl, _, rfl, _, rfl, _, rfl, _, rfl, _, rfl, _, rfl, _, rfl, _, rfl, _, rfl, _, rfl, _, rfl, _, rfl, _, rfl, qs.take 22, (All2.take (R := Rq K H) hall 22).imp fun _ _ h => h.same gw.same, zk 22, lk 22 (by decide), fun r H1 e hr9 => ?_⟩
    exact ⟨D, us, r, rfl, rfl, (Gw.go (R := Rq K) lastsRq gw e).at_, le1000 (by omega), key _ _ ⟨_, rfl, tot_next gw e hr9, by rw [List.length_append, lu]; rfl⟩⟩
  clear gw lu
  rintro σ G ⟨us, rfl, gw, lu⟩
  refine cutG (fun σ' G => ∃ us, σ' = [some (.ref ap), some x0, some x1, some x2, some x3, some x4, some x5, some x6, some x7, some x8, some x9, some x10, some x11, some x12, some x13, some x14, some x15, some x16, some x17, some x18, some x19, some x20, some x21, some x22, some x23, some x24, some x25, some x26, some x27, some x28, some x29, some (.ref D)] ∧ Gw (Rq K) H D us (seg qs 21 3) G ∧ us.length = 3) ?_ ?_
  rotate_left
  · intro u' key
    refine ⟨_, rfl, .inl ⟨rfl, _, SqL.of gw.at_⟩, _, rfl, _, rfl, _, rfl, _, rfl, _, rfl, _, rfl, _, rfl, _, rfl, _, rfl, _, rfl, _, rfl, _, rfl, _, rfl, _, rfl, _, rfl, _, rfl, _, rfl, _, rfl, _, rfl, _, rfl, _, rfl, _, rfl, _, rfl, qs.take 23, (All2.take (R := Rq K H) hall 23).imp fun _ _ h => h.same gw.same, zk 23, lk 23 (by decide), fun r H1 e hr9 => ?_⟩
    exact ⟨D, us, r, rfl, rfl, (Gw.go (R := Rq K) lastsRq gw e).at_, le1000 (by omega), key _ _ ⟨_, rfl, tot_next gw e hr9, by rw [List.length_append, lu]; rfl⟩⟩
  clear gw lu
  rintro σ G ⟨us, rfl, gw, lu⟩
  refine cutG (fun σ' G => ∃ us, σ' = [some (.ref ap), some x0, some x1, some x2, some x3, some x4, some x5, some x6, some x7, some x8, some x9, some x10, some x11, some x12, some x13, some x14, some x15, some x16, some x17, some x18, some x19, some x20, some x21, some x22, some x23, some x24, some x25, some x26, some x27, some x28, some x29, some (.ref D)] ∧ Gw (Rq K) H D us (seg qs 21 4) G ∧ us.length = 4) ?_ ?_
  rotate_left
  · intro u' key
    refine ⟨_, rfl, .inl ⟨rfl, _, SqL.of gw.at_⟩, _, rfl, _, rfl, _, rfl, _, rfl, _, rfl, _, rfl, _, rfl, _, rfl, _, rfl, _, rfl, _, rfl, _, rfl, _, rfl, _, rfl, _, rfl, _, rfl, _, rfl, _, rfl, _, rfl, _, rfl, _, rfl, _, rfl, _, rfl, _, rfl, qs.take 24, (All2.take (R := Rq K H) hall 24).imp fun _ _ h => h.same gw.same, zk 24, lk 24 (by decide), fun r H1 e hr9 => ?_⟩
    exact ⟨D, us, r, rfl, rfl, (Gw.go (R := Rq K) lastsRq gw e).at_, le1000 (by omega), key _ _ ⟨_, rfl, tot_next gw e hr9, by rw [List.length_append, lu]; rfl⟩⟩
  clear gw lu
  rintro σ G ⟨us, rfl, gw, lu⟩
  refine cutG (fun σ' G => ∃ us, σ' = [some (.ref ap), some x0, some x1, some x2, some x3, some x4, some x5, some x6, some x7, some x8, some x9, some x10, some x11, some x12, some x13, some x14, some x15, some x16, some x17, some x18, some x19, some x20, some x21, some x22, some x23, some x24, some x25, some x26, some x27, some x28, some x29, some (.ref D)] ∧ Gw (Rq K) H D us (seg qs 21 5) G ∧ us.length = 5) ?_ ?_
  rotate_left
  · intro u' key
    refine ⟨_, rfl, .inl ⟨rfl, _, SqL.of gw.at_⟩, _, rfl, _, rfl, _, rfl, _, rfl, _, rfl, _, rfl, _, rfl, _, rfl, _, rfl, _, rfl, _, rfl, _, rfl, _, rfl, _, rfl, _, rfl, _, rfl, _, rfl, _, rfl, _, rfl, _, rfl, _, rfl, _, rfl, _, rfl, _, rfl, _, rfl, qs.take 25, (All2.take (R := Rq K H) hall 25).imp fun _ _ h => h.same gw.same, zk 25, lk 25 (by decide), fun r H1 e hr9 => ?_⟩
    exact ⟨D, us, r, rfl, rfl, (Gw.go (R := Rq K) lastsRq gw e).at_, le1000 (by omega), key _ _ ⟨_, rfl, tot_next gw e hr9, by rw [List.length_append, lu]; rfl⟩⟩
  clear gw lu
  rintro σ G ⟨us, rfl, gw, lu⟩
  refine cutG (fun σ' G => ∃ us, σ' = [some (.ref ap), some x0, some x1, some x2, some x3, some x4, some x5, some x6, some x7, some x8, some x9, some x10, some x11, some x12, some x13, some x14, some x15, some x16, some x17, some x18, some x19, some x20, some x21, some x22, some x23, some x24, some x25, some x26, some x27, some x28, some x29, some (.ref D)] ∧ Gw (Rq K) H D us (seg qs 21 6) G ∧ us.length = 6) ?_ ?_
  rotate_left
  · intro u' key
    refine ⟨_, rfl, .inl ⟨rfl, _, SqL.of gw.at_⟩, _, rfl, _, rfl, _, rfl, _, rfl, _, rfl, _, rfl, _, rfl, _, rfl, _, rfl, _, rfl, _, rfl, _, rfl, _, rfl, _, rfl, _, rfl, _, rfl, _, rfl, _, rfl, _, rfl, _, rfl, _, rfl, _, rfl, _, rfl, _, rfl, _, rfl, _, rfl, qs.take 26, (All2.take (R := Rq K H) hall 26).imp fun _ _ h => h.same gw.same, zk 26, lk 26 (by decide), fun r H1 e hr9 => ?_⟩
    exact ⟨D, us, r, rfl, rfl, (Gw.go (R := Rq K) lastsRq gw e).at_, le1000 (by omega), key _ _ ⟨_, rfl, tot_next gw e hr9, by rw [List.length_append, lu]; rfl⟩⟩
  clear gw lu
  rintro σ G ⟨us, rfl, gw, lu⟩
  refine cutG (fun σ' G => ∃ us, σ' = [some (.ref ap), some x0, some x1, some x2, some x3, some x4, some x5, some x6, some x7, some x8, some x9, some x10, some x11, some x12, some x13, some x14, some x15, some x16, some x17, some x18, some x19, some x20, some x21, some x22, some x23, some x24, some x25, some x26, some x27, some x28, some x29, some (.ref D)] ∧ Gw (Rq K) H D us (seg qs 21 7) G ∧ us.length = 7) ?_ ?_
  rotate_left
  · intro u' key
    refine ⟨_, rfl, .inl ⟨rfl, _, SqL.of gw.at_⟩, _, rfl, _, rfl, _, rfl, _, rfl, _, rfl, _, rfl, _, rfl, _, rfl, _, rfl, _, rfl, _, rfl, _, rfl, _, rfl, _, rfl, _, rfl, _, rfl, _, rfl, _, rfl, _, rfl, _, rfl, _, rfl, _, rfl, _, rfl, _, rfl, _, rfl, _, rfl, _, rfl, qs.take 27, (All2.take (R := Rq K H) hall 27).imp fun _ _ h => h.same gw.same, zk 27, lk 27 (by decide), fun r H1 e hr9 => ?_⟩
    exact ⟨D, us, r, rfl, rfl, (Gw.go (R := Rq K) lastsRq gw e).at_, le1000 (by omega), key _ _ ⟨_, rfl, tot_next gw e hr9, by rw [List.length_append, lu]; rfl⟩⟩
  clear gw lu
  rintro σ G ⟨us, rfl, gw, lu⟩
  refine cutG (fun σ' G => ∃ us, σ' = [some (.ref ap), some x0, some x1, some x2, some x3, some x4, some x5, some x6, some x7, some x8, some x9, some x10, some x11, some x12, some x13, some x14, some x15, some x16, some x17, some x18, some x19, some x20, some x21, some x22, some x23, some x24, some x25, some x26, some x27, some x28, some x29, some (.ref D)] ∧ Gw (Rq K) H D us (seg qs 21 8) G ∧ us.length = 8) ?_ ?_
  rotate_left
  · intro u' key
    refine ⟨_, rfl, .inl ⟨rfl, _, SqL.of gw.at_⟩, _, rfl, _, rfl, _, rfl, _, rfl, _, rfl, _, rfl, _, rfl, _, rfl, _, rfl, _, rfl, _, rfl, _, rfl, _, rfl, _, rfl, _, rfl, _, rfl, _, rfl, _, rfl, _, rfl, _, rfl, _, rfl, _, rfl, _, rfl, _, rfl, _, rfl, _, rfl, _, rfl, _, rfl, qs.take 28, (All2.take (R := Rq K H) hall 28).imp fun _ _ h => h.same gw.same, zk 28, lk 28 (by decide), fun r H1 e hr9 => ?_⟩
    exact ⟨D, us, r, rfl, rfl, (Gw.go (R := Rq K) lastsRq gw e).at_, le1000 (by omega), key _ _ ⟨_, rfl, tot_next gw e hr9, by rw [List.length_append, lu]; rfl⟩⟩
  clear gw lu
  rintro σ G ⟨us, rfl, gw, lu⟩
  refine cutG (fun σ' G => ∃ us, σ' = [some (.ref ap), some x0, some x1, some x2, some x3, some x4, some x5, some x6, some x7, some x8, some x9, some x10, some x11, some x12, some x13, some x14, some x15, some x16, some x17, some x18, some x19, some x20, some x21, some x22, some x23, some x24, some x25, some x26, some x27, some x28, some x29, some (.ref D)] ∧ Gw (Rq K) H D us (seg qs 21 9) G ∧ us.length = 9) ?_ ?_
  rotate_left
  · intro u' key
    refine ⟨_, rfl, .inl ⟨rfl, _, SqL.of gw.at_⟩, _, rfl, _, rfl, _, rfl, _, rfl, _, rfl, _, rfl, _, rfl, _, rfl, _, rfl, _, rfl, _, rfl, _, rfl, _, rfl, _, rfl, _, rfl, _, rfl, _, rfl, _, rfl, _, rfl, _, rfl, _, rfl, _, rfl, _, rfl, _, rfl, _, rfl, _, rfl, _, rfl, _, rfl, _, rfl, qs.take 29, (All2.take (R := Rq K H) hall 29).imp fun _ _ h => h.same gw.same, zk 29, lk 29 (by decide), fun r H1 e hr9 => ?_⟩
    exact ⟨D, us, r, rfl, rfl, (Gw.go (R := Rq K) lastsRq gw e).at_, le1000 (by omega), key _ _ ⟨_, rfl, tot_next gw e hr9, by rw [List.length_append, lu]; rfl⟩⟩
  clear gw lu
  rintro σ G ⟨us, rfl, gw, lu⟩
  refine cutG (fun σ' G => ∃ us, σ' = [some (.ref ap), some x0, some x1, some x2, some x3, some x4, some x5, some x6, some x7, some x8, some x9, some x10, some x11, some x12, some x13, some x14, some x15, some x16, some x17, some x18, some x19, some x20, some x21, some x22, some x23, some x24, some x25, some x26, some x27, some x28, some x29, some (.ref D)] ∧ Gw (Rq K) H D us (seg qs 21 10) G ∧ us.length = 10) ?_ ?_
  rotate_left
  · intro u' key
    refine ⟨_, rfl, .inl ⟨rfl, _, SqL.of gw.at_⟩, _, rfl, _, rfl, _, rfl, _, rfl, _, rfl, _, rfl, _, rfl, _, rfl, _, rfl, _, rfl, _, rfl, _, rfl, _, rfl, _, rfl, _, rfl, _, rfl, _, rfl, _, rfl, _, rfl, _, rfl, _, rfl, _, rfl, _, rfl, _, rfl, _, rfl, _, rfl, _, rfl, _, rfl, _, rfl, _, rfl, qs.take 30, (All2.take (R := Rq K H) hall 30).imp fun _ _ h => h.same gw.same, zk 30, lk 30 (by decide), fun r H1 e hr9 => ?_⟩
    exact ⟨D, us, r, rfl, rfl, (Gw.go (R := Rq K) lastsRq gw e).at_, le1000 (by omega), key _ _ ⟨_, rfl, tot_next gw e hr9, by rw [List.length_append, lu]; rfl⟩⟩
  clear gw lu
  rintro σ G ⟨us, rfl, gw, lu⟩
  exact ⟨_, rfl, z D us G gw.same gw.fresh gw.at_ gw.all⟩
end Vk

set_option maxHeartbeats 4000000
namespace Vk
open PySem L2 Vm Vl
variable {l aZERO : Addr} {P : Program} {w : World} {K : PySem.W.Frag} {mg : Str → Option Value} {base : Heap} {k : Nat} {f f1 f2 f3 f4 f5 f6 f7 f8 f9 : Addr} {fd fd1 fd2 fd3 fd4 fd5 fd6 fd7 fd8 fd9 : FuncData}
abbrev s__law_most_totals : Stmt := top 75
abbrev N__law_most_totals : List Str := (("_law_row" : Str) :: ("_law_a" : Str) :: ("_law_b" : Str) :: ("_law_c" : Str) :: ("_law_d" : Str) :: ("_law_e" : Str) :: ("_law_f" : Str) :: ("_law_g" : Str) :: ("_law_h" : Str) :: ("_law_i" : Str) :: ("_law_j" : Str) :: ("_law_k" : Str) :: ("_law_l" : Str) :: ("_law_m" : Str) :: ("_law_n" : Str) :: ("_law_o" : Str) :: ("_law_p" : Str) :: ("_law_q" : Str) :: ("_law_r" : Str) :: ("_law_s" : Str) :: ("_law_t" : Str) :: ("_law_u" : Str) :: ("_law_v" : Str) :: ("_law_w" : Str) :: ("_law_x" : Str) :: ("_law_y" : Str) :: ("_law_z" : Str) :: ("_law_aa" : Str) :: ("_law_bb" : Str) :: ("_law_cc" : Str) :: ("_law_dd" : Str) :: ("_law_ee" : Str) :: ("_law_ff" : Str) :: ("_law_gg" : Str) :: ("_law_hh" : Str) :: ("_law_ii" : Str) :: ("_law_jj" : Str) :: ("_law_kk" : Str) :: ("_law_ll" : Str) :: ("_law_mm" : Str) :: ("_law_nn" : Str) :: ("_law_told" : Str) :: ([] : List Str))
theorem sc__law_most_totals : FnScope N__law_most_totals ["_law_row"] (defScope s__law_most_totals) := ⟨rfl, rfl, rfl, by decide +kernel, rfl, by decide +kernel, by decide +kernel⟩
abbrev ps__law_most_totals : List Str := ["_law_row"]
theorem ok_law_most_totals (F : Fn K mg "_law_most_totals" s__law_most_totals ps__law_most_totals f fd) (dtotal : DefR P w K mg base k "total" (spTot K) f1) : Def P w K mg base (k + 1) "_law_most_totals" ps__law_most_totals (spTots K 31 10) f fd := by
  refine ⟨F.F.ok sc__law_most_totals (fun vs H Q E h => ?_) (fun cdv A outer s H vs Q E hr h => ?_), F.m, F.F.kp, F.b⟩
  · obtain ⟨_, _, _, rfl, _⟩ := h
    rfl
  obtain ⟨ap, xs, qs, rfl, hp, hall, zq, lq, z⟩ := h
  have hl : xs.length = 40 := by rw [hall.1]; exact lq
  obtain ⟨x0, r0, rfl, l0⟩ := list_cons (n := 39) hl
  obtain ⟨x1, r1, rfl, l1⟩ := list_cons (n := 38) l0
  obtain ⟨x2, r2, rfl, l2⟩ := list_cons (n := 37) l1
  obtain ⟨x3, r3, rfl, l3⟩ := list_cons (n := 36) l2
  obtain ⟨x4, r4, rfl, l4⟩ := list_cons (n := 35) l3
  obtain ⟨x5, r5, rfl, l5⟩ := list_cons (n := 34) l4
  obtain ⟨x6, r6, rfl, l6⟩ := list_cons (n := 33) l5
  obtain ⟨x7, r7, rfl, l7⟩ := list_cons (n := 32) l6
  obtain ⟨x8, r8, rfl, l8⟩ := list_cons (n := 31) l7
  obtain ⟨x9, r9, rfl, l9⟩ := list_cons (n := 30) l8
  obtain ⟨x10, r10, rfl, l10⟩ := list_cons (n := 29) l9
  obtain ⟨x11, r11, rfl, l11⟩ := list_cons (n := 28) l10
  obtain ⟨x12, r12, rfl, l12⟩ := list_cons (n := 27) l11
  obtain ⟨x13, r13, rfl, l13⟩ := list_cons (n := 26) l12
  obtain ⟨x14, r14, rfl, l14⟩ := list_cons (n := 25) l13
  obtain ⟨x15, r15, rfl, l15⟩ := list_cons (n := 24) l14
  obtain ⟨x16, r16, rfl, l16⟩ := list_cons (n := 23) l15
  obtain ⟨x17, r17, rfl, l17⟩ := list_cons (n := 22) l16
  obtain ⟨x18, r18, rfl, l18⟩ := list_cons (n := 21) l17
  obtain ⟨x19, r19, rfl, l19⟩ := list_cons (n := 20) l18
  obtain ⟨x20, r20, rfl, l20⟩ := list_cons (n := 19) l19
  obtain ⟨x21, r21, rfl, l21⟩ := list_cons (n := 18) l20
  obtain ⟨x22, r22, rfl, l22⟩ := list_cons (n := 17) l21
  obtain ⟨x23, r23, rfl, l23⟩ := list_cons (n := 16) l22
  obtain ⟨x24, r24, rfl, l24⟩ := list_cons (n := 15) l23
  obtain ⟨x25, r25, rfl, l25⟩ := list_cons (n := 14) l24
  obtain ⟨x26, r26, rfl, l26⟩ := list_cons (n := 13) l25
  obtain ⟨x27, r27, rfl, l27⟩ := list_cons (n := 12) l26
  obtain ⟨x28, r28, rfl, l28⟩ := list_cons (n := 11) l27
  obtain ⟨x29, r29, rfl, l29⟩ := list_cons (n := 10) l28
  obtain ⟨x30, r30, rfl, l30⟩ := list_cons (n := 9) l29
  obtain ⟨x31, r31, rfl, l31⟩ := list_cons (n := 8) l30
  obtain ⟨x32, r32, rfl, l32⟩ := list_cons (n := 7) l31
  obtain ⟨x33, r33, rfl, l33⟩ := list_cons (n := 6) l32
  obtain ⟨x34, r34, rfl, l34⟩ := list_cons (n := 5) l33
  obtain ⟨x35, r35, rfl, l35⟩ := list_cons (n := 4) l34
  obtain ⟨x36, r36, rfl, l36⟩ := list_cons (n := 3) l35
  obtain ⟨x37, r37, rfl, l37⟩ := list_cons (n := 2) l36
  obtain ⟨x38, r38, rfl, l38⟩ := list_cons (n := 1) l37
  obtain ⟨x39, r39, rfl, l39⟩ := list_cons (n := 0) l38
  have rn : r39 = [] := List.eq_nil_of_length_eq_zero l39
  subst rn
  clear hl l0 l1 l2 l3 l4 l5 l6 l7 l8 l9 l10 l11 l12 l13 l14 l15 l16 l17 l18 l19 l20 l21 l22 l23 l24 l25 l26 l27 l28 l29 l30 l31 l32 l33 l34 l35 l36 l37 l38 l39
  refine ⟨_, (pss_cons (ps_asg (pe_slice sl_list (pv 0) (po_some pe_int) (po_some pe_int)) (pg_lst rfl (pgs_cons (pg_name (i := 1) sc__law_most_totals.nd rfl (Or.inl rfl)) (pgs_cons (pg_name (i := 2) sc__law_most_totals.nd rfl (Or.inl rfl)) (pgs_cons (pg_name (i := 3) sc__law_most_totals.nd rfl (Or.inl rfl)) (pgs_cons (pg_name (i := 4) sc__law_most_totals.nd rfl (Or.inl rfl)) (pgs_cons (pg_name (i := 5) sc__law_most_totals.nd rfl (Or.inl rfl)) (pgs_cons (pg_name (i := 6) sc__law_most_totals.nd rfl (Or.inl rfl)) (pgs_cons (pg_name (i := 7) sc__law_most_totals.nd rfl (Or.inl rfl)) (pgs_cons (pg_name (i := 8) sc__law_most_totals.nd rfl (Or.inl rfl)) (pgs_cons (pg_name (i := 9) sc__law_most_totals.nd rfl (Or.inl rfl)) (pgs_cons (pg_name (i := 10) sc__law_most_totals.nd rfl (Or.inl rfl)) (pgs_cons (pg_name (i := 11) sc__law_most_totals.nd rfl (Or.inl rfl)) (pgs_cons (pg_name (i := 12) sc__law_most_totals.nd rfl (Or.inl rfl)) (pgs_cons (pg_name (i := 13) sc__law_most_totals.nd rfl (Or.inl rfl)) pgs_nil)))))))))))))))
      (pss_cons (ps_asg (pe_slice sl_list (pv 0) (po_some pe_int) (po_some pe_int)) (pg_lst rfl (pgs_cons (pg_name (i := 14) sc__law_most_totals.nd rfl (Or.inl rfl)) (pgs_cons (pg_name (i := 15) sc__law_most_totals.nd rfl (Or.inl rfl)) (pgs_cons (pg_name (i := 16) sc__law_most_totals.nd rfl (Or.inl rfl)) (pgs_cons (pg_name (i := 17) sc__law_most_totals.nd rfl (Or.inl rfl)) (pgs_cons (pg_name (i := 18) sc__law_most_totals.nd rfl (Or.inl rfl)) (pgs_cons (pg_name (i := 19) sc__law_most_totals.nd rfl (Or.inl rfl)) (pgs_cons (pg_name (i := 20) sc__law_most_totals.nd rfl (Or.inl rfl)) (pgs_cons (pg_name (i := 21) sc__law_most_totals.nd rfl (Or.inl rfl)) (pgs_cons (pg_name (i := 22) sc__law_most_totals.nd rfl (Or.inl rfl)) (pgs_cons (pg_name (i := 23) sc__law_most_totals.nd rfl (Or.inl rfl)) (pgs_cons (pg_name (i := 24) sc__law_most_totals.nd rfl (Or.inl rfl)) (pgs_cons (pg_name (i := 25) sc__law_most_totals.nd rfl (Or.inl rfl)) (pgs_cons (pg_name (i := 26) sc__law_most_totals.nd rfl (Or.inl rfl)) pgs_nil)))))))))))))))
      (pss_cons (ps_asg (pe_slice sl_list (pv 0) (po_some pe_int) (po_some pe_int)) (pg_lst rfl (pgs_cons (pg_name (i := 27) sc__law_most_totals.nd rfl (Or.inl rfl)) (pgs_cons (pg_name (i := 28) sc__law_most_totals.nd rfl (Or.inl rfl)) (pgs_cons (pg_name (i := 29) sc__law_most_totals.nd rfl (Or.inl rfl)) (pgs_cons (pg_name (i := 30) sc__law_most_totals.nd rfl (Or.inl rfl)) (pgs_cons (pg_name (i := 31) sc__law_most_totals.nd rfl (Or.inl rfl)) (pgs_cons (pg_name (i := 32) sc__law_most_totals.nd rfl (Or.inl rfl)) (pgs_cons (pg_name (i := 33) sc__law_most_totals.nd rfl (Or.inl rfl)) (pgs_cons (pg_name (i := 34) sc__law_most_totals.nd rfl (Or.inl rfl)) (pgs_cons (pg_name (i := 35) sc__law_most_totals.nd rfl (Or.inl rfl)) (pgs_cons (pg_name (i := 36) sc__law_most_totals.nd rfl (Or.inl rfl)) (pgs_cons (pg_name (i := 37) sc__law_most_totals.nd rfl (Or.inl rfl)) (pgs_cons (pg_name (i := 38) sc__law_most_totals.nd rfl (Or.inl rfl)) (pgs_cons (pg_name (i := 39) sc__law_most_totals.nd rfl (Or.inl rfl)) (pgs_cons (pg_name (i := 40) sc__law_most_totals.nd rfl (Or.inl rfl)) pgs_nil))))))))))))))))
      (pss_cons (ps_set (i := 41) sc__law_most_totals.nd rfl (Or.inl rfl) (pe_lst pa_nil))
      (pss_cons (ps_expr (pe_bm PySem.F.plainAttrs_list PySem.F.slot_list_append PySem.F.type_list_append mt_append (pv 41) (pa_cons (pcallR dtotal hr (pa_cons (pv 1) (pa_cons (pv 2) (pa_cons (pv 3) (pa_cons (pv 4) (pa_cons (pv 5) (pa_cons (pv 6) (pa_cons (pv 7) (pa_cons (pv 8) (pa_cons (pv 9) (pa_cons (pv 10) (pa_cons (pv 11) (pa_cons (pv 12) (pa_cons (pv 13) (pa_cons (pv 14) (pa_cons (pv 15) (pa_cons (pv 16) (pa_cons (pv 17) (pa_cons (pv 18) (pa_cons (pv 19) (pa_cons (pv 20) (pa_cons (pv 21) (pa_cons (pv 22) (pa_cons (pv 23) (pa_cons (pv 24) (pa_cons (pv 25) (pa_cons (pv 26) (pa_cons (pv 27) (pa_cons (pv 28) (pa_cons (pv 29) (pa_cons (pv 30) (pa_cons (pv 31) pa_nil)))))))))))))))))))))))))))))))) pa_nil)))
      (pss_cons (ps_expr (pe_bm PySem.F.plainAttrs_list PySem.F.slot_list_append PySem.F.type_list_append mt_append (pv 41) (pa_cons (pcallR dtotal hr (pa_cons (pv 1) (pa_cons (pv 2) (pa_cons (pv 3) (pa_cons (pv 4) (pa_cons (pv 5) (pa_cons (pv 6) (pa_cons (pv 7) (pa_cons (pv 8) (pa_cons (pv 9) (pa_cons (pv 10) (pa_cons (pv 11) (pa_cons (pv 12) (pa_cons (pv 13) (pa_cons (pv 14) (pa_cons (pv 15) (pa_cons (pv 16) (pa_cons (pv 17) (pa_cons (pv 18) (pa_cons (pv 19) (pa_cons (pv 20) (pa_cons (pv 21) (pa_cons (pv 22) (pa_cons (pv 23) (pa_cons (pv 24) (pa_cons (pv 25) (pa_cons (pv 26) (pa_cons (pv 27) (pa_cons (pv 28) (pa_cons (pv 29) (pa_cons (pv 30) (pa_cons (pv 31) (pa_cons (pv 32) pa_nil))))))))))))))))))))))))))))))))) pa_nil)))
      (pss_cons (ps_expr (pe_bm PySem.F.plainAttrs_list PySem.F.slot_list_append PySem.F.type_list_append mt_append (pv 41) (pa_cons (pcallR dtotal hr (pa_cons (pv 1) (pa_cons (pv 2) (pa_cons (pv 3) (pa_cons (pv 4) (pa_cons (pv 5) (pa_cons (pv 6) (pa_cons (pv 7) (pa_cons (pv 8) (pa_cons (pv 9) (pa_cons (pv 10) (pa_cons (pv 11) (pa_cons (pv 12) (pa_cons (pv 13) (pa_cons (pv 14) (pa_cons (pv 15) (pa_cons (pv 16) (pa_cons (pv 17) (pa_cons (pv 18) (pa_cons (pv 19) (pa_cons (pv 20) (pa_cons (pv 21) (pa_cons (pv 22) (pa_cons (pv 23) (pa_cons (pv 24) (pa_cons (pv 25) (pa_cons (pv 26) (pa_cons (pv 27) (pa_cons (pv 28) (pa_cons (pv 29) (pa_cons (pv 30) (pa_cons (pv 31) (pa_cons (pv 32) (pa_cons (pv 33) pa_nil)))))))))))))))))))))))))))))))))) pa_nil)))
      (pss_cons (ps_expr (pe_bm PySem.F.plainAttrs_list PySem.F.slot_list_append PySem.F.type_list_append mt_append (pv 41) (pa_cons (pcallR dtotal hr (pa_cons (pv 1) (pa_cons (pv 2) (pa_cons (pv 3) (pa_cons (pv 4) (pa_cons (pv 5) (pa_cons (pv 6) (pa_cons (pv 7) (pa_cons (pv 8) (pa_cons (pv 9) (pa_cons (pv 10) (pa_cons (pv 11) (pa_cons (pv 12) (pa_cons (pv 13) (pa_cons (pv 14) (pa_cons (pv 15) (pa_cons (pv 16) (pa_cons (pv 17) (pa_cons (pv 18) (pa_cons (pv 19) (pa_cons (pv 20) (pa_cons (pv 21) (pa_cons (pv 22) (pa_cons (pv 23) (pa_cons (pv 24) (pa_cons (pv 25) (pa_cons (pv 26) (pa_cons (pv 27) (pa_cons (pv 28) (pa_cons (pv 29) (pa_cons (pv 30) (pa_cons (pv 31) (pa_cons (pv 32) (pa_cons (pv 33) (pa_cons (pv 34) pa_nil))))))))))))))))))))))))))))))))))) pa_nil)))
      (pss_cons (ps_expr (pe_bm PySem.F.plainAttrs_list PySem.F.slot_list_append PySem.F.type_list_append mt_append (pv 41) (pa_cons (pcallR dtotal hr (pa_cons (pv 1) (pa_cons (pv 2) (pa_cons (pv 3) (pa_cons (pv 4) (pa_cons (pv 5) (pa_cons (pv 6) (pa_cons (pv 7) (pa_cons (pv 8) (pa_cons (pv 9) (pa_cons (pv 10) (pa_cons (pv 11) (pa_cons (pv 12) (pa_cons (pv 13) (pa_cons (pv 14) (pa_cons (pv 15) (pa_cons (pv 16) (pa_cons (pv 17) (pa_cons (pv 18) (pa_cons (pv 19) (pa_cons (pv 20) (pa_cons (pv 21) (pa_cons (pv 22) (pa_cons (pv 23) (pa_cons (pv 24) (pa_cons (pv 25) (pa_cons (pv 26) (pa_cons (pv 27) (pa_cons (pv 28) (pa_cons (pv 29) (pa_cons (pv 30) (pa_cons (pv 31) (pa_cons (pv 32) (pa_cons (pv 33) (pa_cons (pv 34) (pa_cons (pv 35) pa_nil)))))))))))))))))))))))))))))))))))) pa_nil)))
      (pss_cons (ps_expr (pe_bm PySem.F.plainAttrs_list PySem.F.slot_list_append PySem.F.type_list_append mt_append (pv 41) (pa_cons (pcallR dtotal hr (pa_cons (pv 1) (pa_cons (pv 2) (pa_cons (pv 3) (pa_cons (pv 4) (pa_cons (pv 5) (pa_cons (pv 6) (pa_cons (pv 7) (pa_cons (pv 8) (pa_cons (pv 9) (pa_cons (pv 10) (pa_cons (pv 11) (pa_cons (pv 12) (pa_cons (pv 13) (pa_cons (pv 14) (pa_cons (pv 15) (pa_cons (pv 16) (pa_cons (pv 17) (pa_cons (pv 18) (pa_cons (pv 19) (pa_cons (pv 20) (pa_cons (pv 21) (pa_cons (pv 22) (pa_cons (pv 23) (pa_cons (pv 24) (pa_cons (pv 25) (pa_cons (pv 26) (pa_cons (pv 27) (pa_cons (pv 28) (pa_cons (pv 29) (pa_cons (pv 30) (pa_cons (pv 31) (pa_cons (pv 32) (pa_cons (pv 33) (pa_cons (pv 34) (pa_cons (pv 35) (pa_cons (pv 36) pa_nil))))))))))))))))))))))))))))))))))))) pa_nil)))
      (pss_cons (ps_expr (pe_bm PySem.F.plainAttrs_list PySem.F.slot_list_append PySem.F.type_list_append mt_append (pv 41) (pa_cons (pcallR dtotal hr (pa_cons (pv 1) (pa_cons (pv 2) (pa_cons (pv 3) (pa_cons (pv 4) (pa_cons (pv 5) (pa_cons (pv 6) (pa_cons (pv 7) (pa_cons (pv 8) (pa_cons (pv 9) (pa_cons (pv 10) (pa_cons (pv 11) (pa_cons (pv 12) (pa_cons (pv 13) (pa_cons (pv 14) (pa_cons (pv 15) (pa_cons (pv 16) (pa_cons (pv 17) (pa_cons (pv 18) (pa_cons (pv 19) (pa_cons (pv 20) (pa_cons (pv 21) (pa_cons (pv 22) (pa_cons (pv 23) (pa_cons (pv 24) (pa_cons (pv 25) (pa_cons (pv 26) (pa_cons (pv 27) (pa_cons (pv 28) (pa_cons (pv 29) (pa_cons (pv 30) (pa_cons (pv 31) (pa_cons (pv 32) (pa_cons (pv 33) (pa_cons (pv 34) (pa_cons (pv 35) (pa_cons (pv 36) (pa_cons (pv 37) pa_nil)))))))))))))))))))))))))))))))))))))) pa_nil)))
      (pss_cons (ps_expr (pe_bm PySem.F.plainAttrs_list PySem.F.slot_list_append PySem.F.type_list_append mt_append (pv 41) (pa_cons (pcallR dtotal hr (pa_cons (pv 1) (pa_cons (pv 2) (pa_cons (pv 3) (pa_cons (pv 4) (pa_cons (pv 5) (pa_cons (pv 6) (pa_cons (pv 7) (pa_cons (pv 8) (pa_cons (pv 9) (pa_cons (pv 10) (pa_cons (pv 11) (pa_cons (pv 12) (pa_cons (pv 13) (pa_cons (pv 14) (pa_cons (pv 15) (pa_cons (pv 16) (pa_cons (pv 17) (pa_cons (pv 18) (pa_cons (pv 19) (pa_cons (pv 20) (pa_cons (pv 21) (pa_cons (pv 22) (pa_cons (pv 23) (pa_cons (pv 24) (pa_cons (pv 25) (pa_cons (pv 26) (pa_cons (pv 27) (pa_cons (pv 28) (pa_cons (pv 29) (pa_cons (pv 30) (pa_cons (pv 31) (pa_cons (pv 32) (pa_cons (pv 33) (pa_cons (pv 34) (pa_cons (pv 35) (pa_cons (pv 36) (pa_cons (pv 37) (pa_cons (pv 38) pa_nil))))))))))))))))))))))))))))))))))))))) pa_nil)))
      (pss_cons (ps_expr (pe_bm PySem.F.plainAttrs_list PySem.F.slot_list_append PySem.F.type_list_append mt_append (pv 41) (pa_cons (pcallR dtotal hr (pa_cons (pv 1) (pa_cons (pv 2) (pa_cons (pv 3) (pa_cons (pv 4) (pa_cons (pv 5) (pa_cons (pv 6) (pa_cons (pv 7) (pa_cons (pv 8) (pa_cons (pv 9) (pa_cons (pv 10) (pa_cons (pv 11) (pa_cons (pv 12) (pa_cons (pv 13) (pa_cons (pv 14) (pa_cons (pv 15) (pa_cons (pv 16) (pa_cons (pv 17) (pa_cons (pv 18) (pa_cons (pv 19) (pa_cons (pv 20) (pa_cons (pv 21) (pa_cons (pv 22) (pa_cons (pv 23) (pa_cons (pv 24) (pa_cons (pv 25) (pa_cons (pv 26) (pa_cons (pv 27) (pa_cons (pv 28) (pa_cons (pv 29) (pa_cons (pv 30) (pa_cons (pv 31) (pa_cons (pv 32) (pa_cons (pv 33) (pa_cons (pv 34) (pa_cons (pv 35) (pa_cons (pv 36) (pa_cons (pv 37) (pa_cons (pv 38) (pa_cons (pv 39) pa_nil)))))))))))))))))))))))))))))))))))))))) pa_nil)))
      (pss_cons (ps_expr (pe_bm PySem.F.plainAttrs_list PySem.F.slot_list_append PySem.F.type_list_append mt_append (pv 41) (pa_cons (pcallR dtotal hr (pa_cons (pv 1) (pa_cons (pv 2) (pa_cons (pv 3) (pa_cons (pv 4) (pa_cons (pv 5) (pa_cons (pv 6) (pa_cons (pv 7) (pa_cons (pv 8) (pa_cons (pv 9) (pa_cons (pv 10) (pa_cons (pv 11) (pa_cons (pv 12) (pa_cons (pv 13) (pa_cons (pv 14) (pa_cons (pv 15) (pa_cons (pv 16) (pa_cons (pv 17) (pa_cons (pv 18) (pa_cons (pv 19) (pa_cons (pv 20) (pa_cons (pv 21) (pa_cons (pv 22) (pa_cons (pv 23) (pa_cons (pv 24) (pa_cons (pv 25) (pa_cons (pv 26) (pa_cons (pv 27) (pa_cons (pv 28) (pa_cons (pv 29) (pa_cons (pv 30) (pa_cons (pv 31) (pa_cons (pv 32) (pa_cons (pv 33) (pa_cons (pv 34) (pa_cons (pv 35) (pa_cons (pv 36) (pa_cons (pv 37) (pa_cons (pv 38) (pa_cons (pv 39) (pa_cons (pv 40) pa_nil))))))))))))))))))))))))))))))))))))))))) pa_nil)))
      (pss_one (ps_ret (pv 41))))))))))))))))), ?_⟩
  have s0 : Same H H := Same.refl _
  have lk : ∀ j, j ≤ 40 → (qs.take j).length ≤ 40 := fun j h => by rw [List.length_take]; omega
  have zk : ∀ j, ∀ q ∈ qs.take j, Sz 52 q := fun j q hq => zq q (List.mem_of_mem_take hq)
  have cut0 : ∀ {α : Prop}, α → α := fun h => h
  refine cutG (fun σ' G => σ' = (some (V.ref ap) :: some x0 :: some x1 :: some x2 :: some x3 :: some x4 :: some x5 :: some x6 :: some x7 :: some x8 :: some x9 :: some x10 :: some x11 :: some x12 :: none :: none :: none :: none :: none :: none :: none :: none :: none :: none :: none :: none :: none :: none :: none :: none :: none :: none :: none :: none :: none :: none :: none :: none :: none :: none :: none :: none :: ([] : List (Option V))) ∧ Same H G) ?_ ?_
  rotate_left
  · intro u' key
    refine ⟨_, rfl, _, rfl, _, rfl, ap, _, rfl, (s0.seq hp), fun p1 hp1 => ?_⟩
    refine ⟨p1, [x0, x1, x2, x3, x4, x5, x6, x7, x8, x9, x10, x11, x12], rfl, SqL.of upd_same, rfl, ?_⟩
    refine ⟨_, _, rfl, ⟨_, _, rfl, ⟨_, _, rfl, ⟨_, _, rfl, ⟨_, _, rfl, ⟨_, _, rfl, ⟨_, _, rfl, ⟨_, _, rfl, ⟨_, _, rfl, ⟨_, _, rfl, ⟨_, _, rfl, ⟨_, _, rfl, ⟨_, _, rfl, ?_⟩⟩⟩⟩⟩⟩⟩⟩⟩⟩⟩⟩⟩
    refine ⟨rfl, key _ _ ⟨?_, s0.trans (same_new hp1 _)⟩⟩
    kernel_rfl
  rintro σ G1 ⟨rfl, s1⟩
  refine cutG (fun σ' G => σ' = (some (V.ref ap) :: some x0 :: some x1 :: some x2 :: some x3 :: some x4 :: some x5 :: some x6 :: some x7 :: some x8 :: some x9 :: some x10 :: some x11 :: some x12 :: some x13 :: some x14 :: some x15 :: some x16 :: some x17 :: some x18 :: some x19 :: some x20 :: some x21 :: some x22 :: some x23 :: some x24 :: some x25 :: none :: none :: none :: none :: none :: none :: none :: none :: none :: none :: none :: none :: none :: none :: none :: ([] : List (Option V))) ∧ Same H G) ?_ ?_
  rotate_left
  · intro u' key
    refine ⟨_, rfl, _, rfl, _, rfl, ap, _, rfl, (s1.seq hp), fun p1 hp1 => ?_⟩
    refine ⟨p1, [x13, x14, x15, x16, x17, x18, x19, x20, x21, x22, x23, x24, x25], rfl, SqL.of upd_same, rfl, ?_⟩
    refine ⟨_, _, rfl, ⟨_, _, rfl, ⟨_, _, rfl, ⟨_, _, rfl, ⟨_, _, rfl, ⟨_, _, rfl, ⟨_, _, rfl, ⟨_, _, rfl, ⟨_, _, rfl, ⟨_, _, rfl, ⟨_, _, rfl, ⟨_, _, rfl, ⟨_, _, rfl, ?_⟩⟩⟩⟩⟩⟩⟩⟩⟩⟩⟩⟩⟩
    refine ⟨rfl, key _ _ ⟨?_, s1.trans (same_new hp1 _)⟩⟩
    kernel_rfl
  rintro σ G2 ⟨rfl, s2⟩
  refine cutG (fun σ' G => σ' = (some (V.ref ap) :: some x0 :: some x1 :: some x2 :: some x3 :: some x4 :: some x5 :: some x6 :: some x7 :: some x8 :: some x9 :: some x10 :: some x11 :: some x12 :: some x13 :: some x14 :: some x15 :: some x16 :: some x17 :: some x18 :: some x19 :: some x20 :: some x21 :: some x22 :: some x23 :: some x24 :: some x25 :: some x26 :: some x27 :: some x28 :: some x29 :: some x30 :: some x31 :: some x32 :: some x33 :: some x34 :: some x35 :: some x36 :: some x37 :: some x38 :: some x39 :: none :: ([] : List (Option V))) ∧ Same H G) ?_ ?_
  rotate_left
  · intro u' key
    refine ⟨_, rfl, _, rfl, _, rfl, ap, _, rfl, (s2.seq hp), fun p1 hp1 => ?_⟩
    refine ⟨p1, [x26, x27, x28, x29, x30, x31, x32, x33, x34, x35, x36, x37, x38, x39], rfl, SqL.of upd_same, rfl, ?_⟩
    refine ⟨_, _, rfl, ⟨_, _, rfl, ⟨_, _, rfl, ⟨_, _, rfl, ⟨_, _, rfl, ⟨_, _, rfl, ⟨_, _, rfl, ⟨_, _, rfl, ⟨_, _, rfl, ⟨_, _, rfl, ⟨_, _, rfl, ⟨_, _, rfl, ⟨_, _, rfl, ⟨_, _, rfl, ?_⟩⟩⟩⟩⟩⟩⟩⟩⟩⟩⟩⟩⟩⟩
    refine ⟨rfl, key _ _ ⟨?_, s2.trans (same_new hp1 _)⟩⟩
    kernel_rfl
  rintro σ G3 ⟨rfl, s3⟩
  refine cutG (fun σ' G => ∃ D us, σ' = (some (V.ref ap) :: some x0 :: some x1 :: some x2 :: some x3 :: some x4 :: some x5 :: some x6 :: some x7 :: some x8 :: some x9 :: some x10 :: some x11 :: some x12 :: some x13 :: some x14 :: some x15 :: some x16 :: some x17 :: some x18 :: some x19 :: some x20 :: some x21 :: some x22 :: some x23 :: some x24 :: some x25 :: some x26 :: some x27 :: some x28 :: some x29 :: some x30 :: some x31 :: some x32 :: some x33 :: some x34 :: some x35 :: some x36 :: some x37 :: some x38 :: some x39 :: some (V.ref D) :: ([] : List (Option V))) ∧ Gw (Rq K) H D us (seg qs 31 0) G ∧ us.length = 0) ?_ ?_
  rotate_left
  · intro u' key
    refine ⟨Nat.zero_le _, fun D hD => ?_⟩
    exact key _ _ ⟨D, [], rfl, Gw.start s3 hD, rfl⟩
  rintro σ G ⟨D, us, rfl, gw, lu⟩
  clear s0 s1 s2 s3
  refine cutG (fun σ' G => ∃ us, σ' = (some (V.ref ap) :: some x0 :: some x1 :: some x2 :: some x3 :: some x4 :: some x5 :: some x6 :: some x7 :: some x8 :: some x9 :: some x10 :: some x11 :: some x12 :: some x13 :: some x14 :: some x15 :: some x16 :: some x17 :: some x18 :: some x19 :: some x20 :: some x21 :: some x22 :: some x23 :: some x24 :: some x25 :: some x26 :: some x27 :: some x28 :: some x29 :: some x30 :: some x31 :: some x32 :: some x33 :: some x34 :: some x35 :: some x36 :: some x37 :: some x38 :: some x39 :: some (V.ref D) :: ([] : List (Option V))) ∧ Gw (Rq K) H D us (seg qs 31 1) G ∧ us.length = 1) ?_ ?_
  rotate_left
  · intro u' key
    refine ⟨_, rfl, .inl ⟨rfl, _, SqL.of gw.at_⟩, _, rfl, _, rfl, _, rfl, _, rfl, _, rfl, _, rfl, _, rfl, _, rfl, _, rfl, _, rfl, _, rfl, _, rfl, _, rfl, _, rfl, _, rfl, _, rfl, _, rfl, _, rfl, _, rfl, _, rfl, _, rfl, _, rfl, _, rfl, _, rfl, _, rfl, _, rfl, _, rfl, _, rfl, _, rfl, _, rfl, _, rfl, qs.take 31, (All2.take (R := Rq K H) hall 31).imp fun _ _ h => h.same gw.same, zk 31, lk 31 (by decide), fun r H1 e hr9 => ?_⟩
    exact ⟨D, us, r, rfl, rfl, (Gw.go (R := Rq K) lastsRq gw e).at_, le1000 (by omega), key _ _ ⟨_, rfl, tot_next gw e hr9, by rw [List.length_append, lu]; rfl⟩⟩
  clear gw lu
  rintro σ G ⟨us, rfl, gw, lu⟩
  refine cutG (fun σ' G => ∃ us, σ' = (some (V.ref ap) :: some x0 :: some x1 :: some x2 :: some x3 :: some x4 :: some x5 :: some x6 :: some x7 :: some x8 :: some x9 :: some x10 :: some x11 :: some x12 :: some x13 :: some x14 :: some x15 :: some x16 :: some x17 :: some x18 :: some x19 :: some x20 :: some x21 :: some x22 :: some x23 :: some x24 :: some x25 :: some x26 :: some x27 :: some x28 :: some x29 :: some x30 :: some x31 :: some x32 :: some x33 :: some x34 :: some x35 :: some x36 :: some x37 :: some x38 :: some x39 :: some (V.ref D) :: ([] : List (Option V))) ∧ Gw (Rq K) H D us (seg qs 31 2) G ∧ us.length = 2) ?_ ?_
  rotate_left
  · intro u' key
    refine ⟨_, rfl, .inl ⟨rfl, _, SqL.of gw.at_⟩, _, rfl, _, rfl, _, rfl, _, rfl, _, rfl, _, rfl, _, rfl, _, rfl, _, rfl, _, rfl, _, rfl, _, rfl, _, rfl, _, rfl, _, rfl, _, rfl, _, rfl, _, rfl, _, rfl, _, rfl, _, rfl, _, rfl, _, rfl, _, rfl, _, rfl, _, rfl, _, rfl, _, rfl, _, rfl, _, rfl, _, rfl, _, rfl, qs.take 32, (All2.take (R := Rq K H) hall 32).imp fun _ _ h => h.same gw.same, zk 32, lk 32 (by decide), fun r H1 e hr9 => ?_⟩
    exact ⟨D, us, r, rfl, rfl, (Gw.go (R := Rq K) lastsRq gw e).at_, le1000 (by omega), key _ _ ⟨_, rfl, tot_next gw e hr9, by rw [List.length_append, lu]; rfl⟩⟩
  clear gw lu
  rintro σ G ⟨us, rfl, gw, lu⟩
  refine cutG (fun σ' G => ∃ us, σ' = (some (V.ref ap) :: some x0 :: some x1 :: some x2 :: some x3 :: some x4 :: some x5 :: some x6 :: some x7 :: some x8 :: some x9 :: some x10 :: some x11 :: some x12 :: some x13 :: some x14 :: some x15 :: some x16 :: some x17 :: some x18 :: some x19 :: some x20 :: some x21 :: some x22 :: some x23 :: some x24 :: some x25 :: some x26 :: some x27 :: some x28 :: some x29 :: some x30 :: some x31 :: some x32 :: some x33 :: some x34 :: some x35 :: some x36 :: some x37 :: some x38 :: some x39 :: some (V.ref D) :: ([] : List (Option V))) ∧ Gw (Rq K) H D us (seg qs 31 3) G ∧ us.length = 3) ?_ ?_
  rotate_left
  · intro u' key
    refine ⟨_, rfl, .inl ⟨rfl, _, SqL.of gw.at_⟩, _, rfl, _, rfl, _, rfl, _, rfl, _, rfl, _, rfl, _, rfl, _, rfl, _, rfl, _, rfl, _, rfl, _, rfl, _, rfl, _, rfl, _, rfl, _, rfl, _, rfl, _, rfl, _, rfl, _, rfl, _, rfl, _, rfl, _, rfl, _, rfl, _, rfl, _, rfl, _, rfl, _, rfl, _, rfl, _, rfl, _, rfl, _, rfl, _, rfl, qs.take 33, (All2.take (R := Rq K H) hall 33).imp fun _ _ h => h.same gw.same, zk 33, lk 33 (by decide), fun r H1 e hr9 => ?_⟩
    exact ⟨D, us, r, rfl, rfl, (Gw.go (R := Rq K) lastsRq gw e).at_, le1000 (by omega), key _ _ ⟨_, rfl, tot_next gw e hr9, by rw [List.length_append, lu]; rfl⟩⟩
  clear gw lu
  rintro σ G ⟨us, rfl, gw, lu⟩
  refine cutG (fun σ' G => ∃ us, σ' = (some (V.ref ap) :: some x0 :: some x1 :: some x2 :: some x3 :: some x4 :: some x5 :: some x6 :: some x7 :: some x8 :: some x9 :: some x10 :: some x11 :: some x12 :: some x13 :: some x14 :: some x15 :: some x16 :: some x17 :: some x18 :: some x19 :: some x20 :: some x21 :: some x22 :: some x23 :: some x24 :: some x25 :: some x26 :: some x27 :: some x28 :: some x29 :: some x30 :: some x31 :: some x32 :: some x33 :: some x34 :: some x35 :: some x36 :: some x37 :: some x38 :: some x39 :: some (V.ref D) :: ([] : List (Option V))) ∧ Gw (Rq K) H D us (seg qs 31 4) G ∧ us.length = 4) ?_ ?_
  rotate_left
  · intro u' key
    refine ⟨_, rfl, .inl ⟨rfl, _, SqL.of gw.at_⟩, _, rfl, _, rfl, _, rfl, _, rfl, _, rfl, _, rfl, _, rfl, _, rfl, _, rfl, _, rfl, _, rfl, _, rfl, _, rfl, _, rfl, _, rfl, _, rfl, _, rfl, _, rfl, _, rfl, _, rfl, _, rfl, _, rfl, _, rfl, _, rfl, _, rfl, _, rfl, _, rfl, _, rfl, _, rfl, _, rfl, _, rfl, _, rfl, _, rfl, _, rfl, qs.take 34, (All2.take (R := Rq K H) hall 34).imp fun _ _ h => h.same gw.same, zk 34, lk 34 (by decide), fun r H1 e hr9 => ?_⟩
    exact ⟨D, us, r, rfl, rfl, (Gw.go (R := Rq K) lastsRq gw e).at_, le1000 (by omega), key _ _ ⟨_, rfl, tot_next gw e hr9, by rw [List.length_append, lu]; rfl⟩⟩
  clear gw lu
  rintro σ G ⟨us, rfl, gw, lu⟩
  refine cutG (fun σ' G => ∃ us, σ' = (some (V.ref ap) :: some x0 :: some x1 :: some x2 :: some x3 :: some x4 :: some x5 :: some x6 :: some x7 :: some x8 :: some x9 :: some x10 :: some x11 :: some x12 :: some x13 :: some x14 :: some x15 :: some x16 :: some x17 :: some x18 :: some x19 :: some x20 :: some x21 :: some x22 :: some x23 :: some x24 :: some x25 :: some x26 :: some x27 :: some x28 :: some x29 :: some x30 :: some x31 :: some x32 :: some x33 :: some x34 :: some x35 :: some x36 :: some x37 :: some x38 :: some x39 :: some (V.ref D) :: ([] : List (Option V))) ∧ Gw (Rq K) H D us (seg qs 31 5) G ∧ us.length = 5) ?_ ?_
  rotate_left
  · intro u' key
    refine ⟨_, rfl, .inl ⟨rfl, _, SqL.of gw.at_⟩, _, rfl, _, rfl, _, rfl, _, rfl, _, rfl, _, rfl, _, rfl, _, rfl, _, rfl, _, rfl, _, rfl, _, rfl, _, rfl, _, rfl, _, rfl, _, rfl, _, rfl, _, rfl, _, rfl, _, rfl, _, rfl, _, rfl, _, rfl, _, rfl, _, rfl, _, rfl, _, rfl, _, rfl, _, rfl, _, rfl, _, rfl, _, rfl, _, rfl, _, rfl, _, rfl, qs.take 35, (All2.take (R := Rq K H) hall 35).imp fun _ _ h => h.same gw.same, zk 35, lk 35 (by decide), fun r H1 e hr9 => ?_⟩
    exact ⟨D, us, r, rfl, rfl, (Gw.go (R := Rq K) lastsRq gw e).at_, le1000 (by omega), key _ _ ⟨_, rfl, tot_next gw e hr9, by rw [List.length_append, lu]; rfl⟩⟩
  clear gw lu
  rintro σ G ⟨us, rfl, gw, lu⟩
  refine cutG (fun σ' G => ∃ us, σ' = (some (V.ref ap) :: some x0 :: some x1 :: some x2 :: some x3 :: some x4 :: some x5 :: some x6 :: some x7 :: some x8 :: some x9 :: some x10 :: some x11 :: some x12 :: some x13 :: some x14 :: some x15 :: some x16 :: some x17 :: some x18 :: some x19 :: some x20 :: some x21 :: some x22 :: some x23 :: some x24 :: some x25 :: some x26 :: some x27 :: some x28 :: some x29 :: some x30 :: some x31 :: some x32 :: some x33 :: some x34 :: some x35 :: some x36 :: some x37 :: some x38 :: some x39 :: some (V.ref D) :: ([] : List (Option V))) ∧ Gw (Rq K) H D us (seg qs 31 6) G ∧ us.length = 6) ?_ ?_
  rotate_left
  · intro u' key
    refine ⟨_, rfl, .inl ⟨rfl, _, SqL.of gw.at_⟩, _, rfl, _, rfl, _, rfl, _, rfl, _, rfl, _, rfl, _, rfl, _, rfl, _, rfl, _, rfl, _, rfl, _, rfl, _, rfl, _, rfl, _, rfl, _, rfl, _, rfl, _, rfl, _, rfl, _, rfl, _, rfl, _, rfl, _, rfl, _, rfl, _, rfl, _, rfl, _, rfl, _, rfl, _, rfl, _, rfl, _, rfl, _, rfl, _, rfl, _, rfl, _, rfl, _, rfl, qs.take 36, (All2.take (R := Rq K H) hall 36).imp fun _ _ h => h.same gw.same, zk 36, lk 36 (by decide), fun r H1 e hr9 => ?_⟩
    exact ⟨D, us, r, rfl, rfl, (Gw.go (R := Rq K) lastsRq gw e).at_, le1000 (by omega), key _ _ ⟨_, rfl, tot_next gw e hr9, by rw [List.length_append, lu]; rfl⟩⟩
  clear gw lu
  rintro σ G ⟨us, rfl, gw, lu⟩
  refine cutG (fun σ' G => ∃ us, σ' = (some (V.ref ap) :: some x0 :: some x1 :: some x2 :: some x3 :: some x4 :: some x5 :: some x6 :: some x7 :: some x8 :: some x9 :: some x10 :: some x11 :: some x12 :: some x13 :: some x14 :: some x15 :: some x16 :: some x17 :: some x18 :: some x19 :: some x20 :: some x21 :: some x22 :: some x23 :: some x24 :: some x25 :: some x26 :: some x27 :: some x28 :: some x29 :: some x30 :: some x31 :: some x32 :: some x33 :: some x34 :: some x35 :: some x36 :: some x37 :: some x38 :: some x39 :: some (V.ref D) :: ([] : List (Option V))) ∧ Gw (Rq K) H D us (seg qs 31 7) G ∧ us.length = 7) ?_ ?_
  rotate_left
  · intro u' key
    refine ⟨_, rfl, .inl ⟨rfl, _, SqL.of gw.at_⟩, _, rfl, _, rfl, _, rfl, _, rfl, _, rfl, _, rfl, _, rfl, _, rfl, _, rfl, _, rfl, _, rfl, _, rfl, _, rfl, _, rfl, _, rfl, _, rfl, _, rfl, _, rfl, _, rfl, _, rfl, _, rfl, _, rfl, _, rfl, _, rfl, _, rfl, _, rfl, _, rfl, _, rfl, _, rfl, _, rfl, _, rfl, _, rfl, _, rfl, _, rfl, _, rfl, _, rfl, _, rfl, qs.take 37, (All2.take (R := Rq K H) hall 37).imp fun _ _ h => h.same gw.same, zk 37, lk 37 (by decide), fun r H1 e hr9 => ?_⟩
    exact ⟨D, us, r, rfl, rfl, (Gw.go (R := Rq K) lastsRq gw e).at_, le1000 (by omega), key _ _ ⟨_, rfl, tot_next gw e hr9, by rw [List.length_append, lu]; rfl⟩⟩
  clear gw lu
  rintro σ G ⟨us, rfl, gw, lu⟩
  refine cutG (fun σ' G => ∃ us, σ' = (some (V.ref ap) :: some x0 :: some x1 :: some x2 :: some x3 :: some x4 :: some x5 :: some x6 :: some x7 :: some x8 :: some x9 :: some x10 :: some x11 :: some x12 :: some x13 :: some x14 :: some x15 :: some x16 :: some x17 :: some x18 :: some x19 :: some x20 :: some x21 :: some x22 :: some x23 :: some x24 :: some x25 :: some x26 :: some x27 :: some x28 :: some x29 :: some x30 :: some x31 :: some x32 :: some x33 :: some x34 :: some x35 :: some x36 :: some x37 :: some x38 :: some x39 :: some (V.ref D) :: ([] : List (Option V))) ∧ Gw (Rq K) H D us (seg qs 31 8) G ∧ us.length = 8) ?_ ?_
  rotate_left
  · intro u' key
    refine ⟨_, rfl, .inl ⟨rfl, _, SqL.of gw.at_⟩, _, rfl, _, rfl, _, rfl, _, rfl, _, rfl, _, rfl, _, rfl, _, rfl, _, rfl, _, rfl, _, rfl, _, rfl, _, rfl, _, rfl, _, rfl, _, rfl, _, rfl, _, rfl, _, rfl, _, rfl, _, rfl, _, rfl, _, rfl, _, rfl, _, rfl, _, rfl, _, rfl, _, rfl, _, rfl, _, rfl, _, rfl, _, rfl, _, rfl, _, rfl, _, rfl, _, rfl, _, rfl, _, rfl, qs.take 38, (All2.take (R := Rq K H) hall 38).imp fun _ _ h => h.same gw.same, zk 38, lk 38 (by decide), fun r H1 e hr9 => ?_⟩
    exact ⟨D, us, r, rfl, rfl, (Gw.go (R := Rq K) lastsRq gw e).at_, le1000 (by omega), key _ _ ⟨_, rfl, tot_next gw e hr9, by rw [List.length_append, lu]; rfl⟩⟩
  clear gw lu
  rintro σ G ⟨us, rfl, gw, lu⟩
  refine cutG (fun σ' G => ∃ us, σ' = (some (V.ref ap) :: some x0 :: some x1 :: some x2 :: some x3 :: some x4 :: some x5 :: some x6 :: some x7 :: some x8 :: some x9 :: some x10 :: some x11 :: some x12 :: some x13 :: some x14 :: some x15 :: some x16 :: some x17 :: some x18 :: some x19 :: some x20 :: some x21 :: some x22 :: some x23 :: some x24 :: some x25 :: some x26 :: some x27 :: some x28 :: some x29 :: some x30 :: some x31 :: some x32 :: some x33 :: some x34 :: some x35 :: some x36 :: some x37 :: some x38 :: some x39 :: some (V.ref D) :: ([] : List (Option V))) ∧ Gw (Rq K) H D us (seg qs 31 9) G ∧ us.length = 9) ?_ ?_
  rotate_left
  · intro u' key
    refine ⟨_, rfl, .inl ⟨rfl, _, SqL.of gw.at_⟩, _, rfl, _, rfl, _, rfl, _, rfl, _, rfl, _, rfl, _, rfl, _, rfl, _, rfl, _, rfl, _, rfl, _, rfl, _, rfl, _, rfl, _, rfl, _, rfl, _, rfl, _, rfl, _, rfl, _, rfl, _, rfl, _, rfl, _, rfl, _, rfl, _, rfl, _, rfl, _, rfl, _, rfl, _, rfl, _, rfl, _, rfl, _, rfl, _, rfl, _, rfl, _, rfl, _, rfl, _, rfl, _, rfl, _, rfl, qs.take 39, (All2.take (R := Rq K H) hall 39).imp fun _ _ h => h.same gw.same, zk 39, lk 39 (by decide), fun r H1 e hr9 => ?_⟩
    exact ⟨D, us, r, rfl, rfl, (Gw.go (R := Rq K) lastsRq gw e).at_, le1000 (by omega), key _ _ ⟨_, rfl, tot_next gw e hr9, by rw [List.length_append, lu]; rfl⟩⟩
  clear gw lu
  rintro σ G ⟨us, rfl, gw, lu⟩
  refine cutG (fun σ' G => ∃ us, σ' = (some (V.ref ap) :: some x0 :: some x1 :: some x2 :: some x3 :: some x4 :: some x5 :: some x6 :: some x7 :: some x8 :: some x9 :: some x10 :: some x11 :: some x12 :: some x13 :: some x14 :: some x15 :: some x16 :: some x17 :: some x18 :: some x19 :: some x20 :: some x21 :: some x22 :: some x23 :: some x24 :: some x25 :: some x26 :: some x27 :: some x28 :: some x29 :: some x30 :: some x31 :: some x32 :: some x33 :: some x34 :: some x35 :: some x36 :: some x37 :: some x38 :: some x39 :: some (V.ref D) :: ([] : List (Option V))) ∧ Gw (Rq K) H D us (seg qs 31 10) G ∧ us.length = 10) ?_ ?_
  rotate_left
  · intro u' key
    refine ⟨_, rfl, .inl ⟨rfl, _, SqL.of gw.at_⟩, _, rfl, _, rfl, _, rfl, _, rfl, _, rfl, _, rfl, _, rfl, _, rfl, _, rfl, _, rfl, _, rfl, _, rfl, _, rfl, _, rfl, _, rfl, _, rfl, _, rfl, _, rfl, _, rfl, _, rfl, _, rfl, _, rfl, _, rfl, _, rfl, _, rfl, _, rfl, _, rfl, _, rfl, _, rfl, _, rfl, _, rfl, _, rfl, _, rfl, _, rfl, _, rfl, _, rfl, _, rfl, _, rfl, _, rfl, _, rfl, qs.take 40, (All2.take (R := Rq K H) hall 40).imp fun _ _ h => h.same gw.same, zk 40, lk 40 (by decide), fun r H1 e hr9 => ?_⟩
    exact ⟨D, us, r, rfl, rfl, (Gw.go (R := Rq K) lastsRq gw e).at_, le1000 (by omega), key _ _ ⟨_, rfl, tot_next gw e hr9, by rw [List.length_append, lu]; rfl⟩⟩
  clear gw lu
  rintro σ G ⟨us, rfl, gw, lu⟩
  exact ⟨_, rfl, z D us G gw.same gw.fresh gw.at_ gw.all⟩
end Vk

set_option maxHeartbeats 4000000
namespace Vk
open PySem L2 Vm Vl
variable {l aZERO : Addr} {P : Program} {w : World} {K : PySem.W.Frag} {mg : Str → Option Value} {base : Heap} {k : Nat} {f f1 f2 f3 f4 f5 f6 f7 f8 f9 : Addr} {fd fd1 fd2 fd3 fd4 fd5 fd6 fd7 fd8 fd9 : FuncData}
theorem seg_all (qs : List Rat) : seg qs 0 21 ++ seg qs 21 10 ++ seg qs 31 10 = seg qs 0 41 := rfl
theorem seg_at (qs : List Rat) {i : Nat} (h : i < 41) : (seg qs 0 41)[i]? = some (sm (qs.take i)) := by
  unfold seg
  rw [List.getElem?_map, List.getElem?_range h]
  show some (sm (qs.take (0 + i))) = _
  rw [Nat.zero_add]
/-- the sums by integers -/
theorem frac_next {n : Int} {d : Nat} {s q : Rat} (hd : d ≠ 0) (h : mkRat n d = s) : mkRat (n * (q.den : Int) + q.num * (d : Int)) (d * q.den) = s + q := by
  have h2 : mkRat q.num q.den = q := Rat.mkRat_self q
  rw [← h, ← Rat.mkRat_add_mkRat n q.num hd (dn0 q), h2]
abbrev s__law_totals_right : Stmt := top 76
abbrev N__law_totals_right : List Str := ["_law_row", "_law_told", "_law_n", "_law_d", "_law_k"]
theorem sc__law_totals_right : FnScope N__law_totals_right ["_law_row"] (defScope s__law_totals_right) := ⟨rfl, rfl, rfl, by decide +kernel, rfl, by decide +kernel, by decide +kernel⟩
abbrev ps__law_totals_right : List Str := ["_law_row"]
def spTR (K : PySem.W.Frag) : Sp := fun vs H Q _ => ∃ (p : Addr) (xs : List V) (qs : List Rat), vs = [.ref p] ∧ SqL K H p xs ∧ All2 (Rq K H) xs qs ∧ (∀ q ∈ qs, Sz 52 q) ∧ qs.length = 40 ∧ ∀ H', Same H H' → Q (.bl true) H'
theorem ok_totals_right (T : Bn mg) (F : Fn K mg "_law_totals_right" s__law_totals_right ps__law_totals_right f fd) (d_law_few_totals : Def P w K mg base k "_law_few_totals" ["_law_row"] (spTots K 0 21) f1 fd1) (d_law_many_totals : Def P w K mg base k "_law_many_totals" ["_law_row"] (spTots K 21 10) f2 fd2)
    (d_law_most_totals : Def P w K mg base k "_law_most_totals" ["_law_row"] (spTots K 31 10) f3 fd3) (d_law_worth : Def P w K mg base k "_law_worth" ["_law_value", "_law_n", "_law_d"] (spWorth K) f4 fd4) : Def P w K mg base (k + 1) "_law_totals_right" ps__law_totals_right (spTR K) f fd := by
  refine ⟨F.F.ok sc__law_totals_right (fun vs H Q E h => ?_) (fun cdv A outer s H vs Q E hr h => ?_), F.m, F.F.kp, F.b⟩
  · obtain ⟨_, _, _, rfl, _⟩ := h
    rfl
  obtain ⟨ap, xs, qs, rfl, hp, hall, zq, lq, z⟩ := h
  have hlx : xs.length = 40 := by rw [hall.1]; exact lq
  refine ⟨_, (pss_cons (ps_set (i := 1) sc__law_totals_right.nd rfl (Or.inl rfl) (pe_op op_cat (pe_op op_cat (pcall d_law_few_totals hr (pa_cons (pv 0) pa_nil)) (pcall d_law_many_totals hr (pa_cons (pv 0) pa_nil))) (pcall d_law_most_totals hr (pa_cons (pv 0) pa_nil))))
      (pss_cons (ps_set (i := 2) sc__law_totals_right.nd rfl (Or.inl rfl) pe_int)
      (pss_cons (ps_set (i := 3) sc__law_totals_right.nd rfl (Or.inl rfl) pe_int)
      (pss_cons (ps_for PassesOwn.never rfl (pi_range1 (by rfl) T.range_ (pa_cons pe_int pa_nil)) (pg_name (i := 4) sc__law_totals_right.nd rfl (Or.inl rfl))
        (pss_cons (ps_if (pt_not (pt_val (pcall d_law_worth hr (pa_cons (pe_ix ix_list (pv 1) (pv 4) (fun _ _ => rfl)) (pa_cons (pv 2) (pa_cons (pv 3) pa_nil))))))
          (pss_one (ps_ret pe_bl))
          pss_nil)
        (pss_one (ps_if (pt_cmpR op_lt (pv 4) pe_int (nomark _))
          (pss_cons (ps_set (i := 2) sc__law_totals_right.nd rfl (Or.inl rfl) (pe_op op_add (pe_op op_mulW (pv 2) (pe_ix ix_tup (pe_ix ix_list (pv 0) (pv 4) (fun _ _ => rfl)) pe_int (fun _ _ => rfl))) (pe_op op_mulW (pe_ix ix_tup (pe_ix ix_list (pv 0) (pv 4) (fun _ _ => rfl)) pe_int (fun _ _ => rfl)) (pv 3))))
          (pss_one (ps_set (i := 3) sc__law_totals_right.nd rfl (Or.inl rfl) (pe_op op_mulW (pv 3) (pe_ix ix_tup (pe_ix ix_list (pv 0) (pv 4) (fun _ _ => rfl)) pe_int (fun _ _ => rfl))))))
          pss_nil))))
      (pss_one (ps_ret pe_bl)))))), ?_⟩
  refine ⟨_, rfl, ap, xs, qs, rfl, hp, hall, zq, lq, fun D1 us1 H1 s1 n1 h1 a1 => ?_⟩
  refine ⟨_, rfl, ap, xs, qs, rfl, s1.seq hp, hall.imp (fun _ _ h => h.same s1), zq, lq, fun D2 us2 H2 s2 n2 h2 a2 => ?_⟩
  have s12 := s1.trans s2
  have h12 := s2 _ _ h1
  have a12 := a1.imp fun _ _ h => h.same s2
  have l1 : us1.length = 21 := a12.1
  have l2 : us2.length = 10 := a2.1
  refine ⟨D1, D2, us1, us2, rfl, rfl, h12, h2, by have : sizeLine = 16777216 := sizeLine_eq; omega, fun D3 h3 => ?_⟩
  have s3 := same_new h3 (.lst (us1 ++ us2))
  have s123 := s12.trans s3
  refine ⟨_, rfl, ap, xs, qs, rfl, s123.seq hp, hall.imp (fun _ _ h => h.same s123), zq, lq, fun D4 us4 H4 s4 n4 h4 a4 => ?_⟩
  have l4 : us4.length = 10 := a4.1
  have h34 : H4 D3 = some (.lst (us1 ++ us2)) := s4 _ _ upd_same
  refine ⟨D3, D4, us1 ++ us2, us4, rfl, rfl, h34, h4, by have : sizeLine = 16777216 := sizeLine_eq; rw [List.length_append]; omega, fun D5 h5 => ?_⟩
  have s5 := same_new h5 (.lst (us1 ++ us2 ++ us4))
  have sG : Same H (upd H4 D5 (.lst (us1 ++ us2 ++ us4))) := (s123.trans s4).trans s5
  have hA : All2 (Rq K (upd H4 D5 (.lst (us1 ++ us2 ++ us4)))) (us1 ++ us2 ++ us4) (seg qs 0 41) := by
    rw [← seg_all]
    have st := (s3.trans s4).trans s5
    exact ((a12.imp fun _ _ h => h.same st).append (a2.imp fun _ _ h => h.same st)).append (a4.imp fun _ _ h => h.same s5)
  have hD : SqL K (upd H4 D5 (.lst (us1 ++ us2 ++ us4))) D5 (us1 ++ us2 ++ us4) := SqL.of upd_same
  have lu : (us1 ++ us2 ++ us4).length = 41 := by rw [List.length_append, List.length_append]; omega
  generalize upd H4 D5 (.lst (us1 ++ us2 ++ us4)) = G at sG hA hD ⊢
  generalize us1 ++ us2 ++ us4 = us at hA hD lu ⊢
  clear h1 h2 h3 h4 h5 a1 a2 a4 a12 s1 s2 s3 s4 s5 s12 s123 h12 h34 n1 n2 n4 l1 l2 l4
  have hall' := hall.imp fun _ _ h => Rq.same sG h
  have hp' := sG.seq hp
  have sms := sm_sz zq
  (walk_at "vk_vc")
  refine forR (lo := 0) (n := Int.toNat 41) (fun i σ G' => Hold (∃ (n : Int) (d : Nat) (k4 : Option V), σ = [some (.ref ap), some (.ref D5), some (.int n), some (.int (d : Int)), k4] ∧ Same G G' ∧ d ≠ 0 ∧ n.natAbs < 2 ^ (53 * i + 1) ∧ d < 2 ^ (53 * i + 1) ∧ mkRat n d = sm (qs.take i)))
    ⟨0, 1, none, rfl, Same.refl _, by decide, by decide, by decide, by rw [List.take_zero]; decide +kernel⟩ ?_ ?_
  · rintro i σ G' hi ⟨n, d, k4, rfl, s6, d0, zn, zd, hv⟩
    have hi41 : i < 41 := hi
    obtain ⟨v, hv1, rv⟩ := hA.at (seg_at qs hi41)
    have rv := rv.same s6
    have i1 : atI us (0 + (i : Int)) = some v := at_of (j := i) (by omega) hv1
    have zs := sms i
    have e1 : (sm (qs.take i)).num * ((d : Nat) : Int) = n * ((sm (qs.take i)).den : Int) := by rw [← hv]; exact worth_mk d0
    have b9 : 53 * i + 1 ≤ 9000 := by omega
    have bn : n.natAbs < 2 ^ 10000 := ab_up zn (by omega)
    have bd : ((d : Nat) : Int).natAbs < 2 ^ 10000 := ab_up (show ((d : Nat) : Int).natAbs < 2 ^ (53 * i + 1) from zd) (by omega)
    have hD6 := s6.seq hD
    have hp6 := s6.seq hp'
    by_cases g : i < 40
    · have eq : qs[i]? = some qs[i] := List.getElem?_eq_getElem (by omega)
      have z1 := zq _ (List.mem_of_getElem? eq)
      obtain ⟨x1, hx1, rx⟩ := hall'.at eq
      have es := sm_take eq
      generalize qs[i] = q1 at eq z1 rx es
      have rx := rx.same s6
      obtain ⟨xa, rfl, hxa⟩ := id rx
      have i2 : atI xs (0 + (i : Int)) = some (.ref xa) := at_of (j := i) (by omega) hx1
      have g40 : 0 + (i : Int) < 40 := by omega
      have zn1 : q1.num.natAbs < 2 ^ 52 := z1.1
      have zd1 : ((q1.den : Nat) : Int).natAbs < 2 ^ 52 := z1.2
      have bd' : ((d : Nat) : Int).natAbs < 2 ^ (53 * i + 1) := zd
      have s7 : ∀ H', Same G' H' → Same G H' := fun H' e => s6.trans e
      (walk_at "vk_vc")
      · exact cmw zn zd1 (by omega)
      · exact cmw zn1 bd' (by omega)
      · exact cmw bd' zd1 (by omega)
      · refine ⟨⟨n * (q1.den : Int) + q1.num * (d : Int), d * q1.den, some (V.int (0 + (i : Int))), ?_, s7 _ e, Nat.mul_ne_zero d0 (dn0 q1), ?_, ?_, by rw [es]; exact frac_next d0 hv⟩⟩
        · show [some (V.ref ap), some (V.ref D5), some (V.int (n * (q1.den : Int) + q1.num * (d : Int))), some (V.int ((d : Int) * (q1.den : Int))), some (V.int (0 + (i : Int)))] = _
          rw [← Int.natCast_mul]
        · have h1 := ab_add (ab_mul zn zd1) (ab_up (ab_mul zn1 bd') (show 52 + (53 * i + 1) ≤ 53 * i + 1 + 52 by omega))
          exact ab_up h1 (by omega)
        · have h1 := ab_mul bd' zd1
          rw [← Int.natCast_mul, Int.natAbs_natCast] at h1
          exact Nat.lt_of_lt_of_le h1 (Nat.pow_le_pow_right (by decide) (by omega))
    · have g40 : ¬ 0 + (i : Int) < 40 := by omega
      have et : qs.take (i + 1) = qs.take i := by rw [List.take_of_length_le (by omega), List.take_of_length_le (by omega)]
      (walk_at "vk_vc")
      exact ⟨⟨n, d, _, rfl, s6.trans e, d0, ab_up zn (by omega), Nat.lt_of_lt_of_le zd (Nat.pow_le_pow_right (by decide) (by omega)), by rw [et]; exact hv⟩⟩
  · rintro σ G' ⟨n, d, k4, rfl, s6, _⟩
    exact z _ (sG.trans s6)
end Vk

set_option maxHeartbeats 4000000
namespace Vk
open PySem L2 Vm Vl
variable {l aZERO : Addr} {P : Program} {w : World} {K : PySem.W.Frag} {mg : Str → Option Value} {base : Heap} {k : Nat} {f f1 f2 f3 f4 f5 f6 f7 f8 f9 f10 : Addr} {fd fd1 fd2 fd3 fd4 fd5 fd6 fd7 fd8 fd9 fd10 : FuncData}
abbrev s_is_whole : Stmt := top 35
abbrev N_is_whole : List Str := ["value"]
theorem sc_is_whole : FnScope N_is_whole ["value"] (defScope s_is_whole) := ⟨rfl, rfl, rfl, by decide +kernel, rfl, by decide +kernel, by decide +kernel⟩
abbrev ps_is_whole : List Str := ["value"]
theorem ok_whole (T : Bn mg) (F : Fn K mg "is_whole" s_is_whole ps_is_whole f fd) : Def P w K mg base (k + 1) "is_whole" ps_is_whole (spIsInt K) f fd := by
  refine ⟨F.F.ok sc_is_whole (fun vs H Q E h => ?_) (fun cdv A outer s H vs Q E hr h => ?_), F.m, F.F.kp, F.b⟩
  · obtain ⟨i, rfl, _⟩ := h
    rfl
  obtain ⟨i, rfl, z⟩ := h
  refine ⟨_, (pss_one (ps_ret (pe_and (pe_callB call_isi (by rfl) T.isinstance_ (by decide +kernel) (pa_cons (pv 0) (pa_cons (pe_bltn (v := .ty "int") (by rfl) T.int_ (by decide +kernel) rfl) pa_nil))) (pe_one (pe_not (pe_callB call_isi (by rfl) T.isinstance_ (by decide +kernel) (pa_cons (pv 0) (pa_cons (pe_bltn (v := .ty "bool") (by rfl) T.bool_ (by decide +kernel) rfl) pa_nil)))))))), ?_⟩
  exact ⟨_, rfl, _, _, _, _, true, rfl, .ty _, (.base (.int i)), kit_ty (by decide +kernel), true, rfl, ifT rfl ⟨_, rfl, _, _, _, _, false, rfl, .ty _, (.base (.int i)), kit_ty (by decide +kernel), _, rfl, z⟩⟩
abbrev s_is_rational : Stmt := top 36
abbrev N_is_rational : List Str := ["value", "n", "d"]
theorem sc_is_rational : FnScope N_is_rational ["value"] (defScope s_is_rational) := ⟨rfl, rfl, rfl, by decide +kernel, rfl, by decide +kernel, by decide +kernel⟩
abbrev ps_is_rational : List Str := ["value"]
theorem ok_is_rational (T : Bn mg) (F : Fn K mg "is_rational" s_is_rational ps_is_rational f fd) (dis_whole : Def P w K mg base k "is_whole" ["value"] (spIsInt K) f1 fd1) : Def P w K mg base (k + 1) "is_rational" ps_is_rational (spIsFrac K) f fd := by
  refine ⟨F.F.ok sc_is_rational (fun vs H Q E h => ?_) (fun cdv A outer s H vs Q E hr h => ?_), F.m, F.F.kp, F.b⟩
  · obtain ⟨_, _, _, rfl, _⟩ := h
    rfl
  obtain ⟨v, q, m, rfl, hv, zq, hm, z⟩ := h
  obtain ⟨a, rfl, ha⟩ := id hv
  have ta := sqt_ty ha
  have dp := q.den_pos
  refine ⟨_, (pss_cons (ps_if (PW.pt (pw_or (pt_not (pt_val (pe_callB call_isi (by rfl) T.isinstance_ (by decide +kernel) (pa_cons (pv 0) (pa_cons (pe_bltn (v := .ty "tuple") (by rfl) T.tuple_ (by decide +kernel) rfl) pa_nil))))) (pw_or1 (pt_cmpR op_ne (pe_callB call_len_seq (by rfl) T.len_ PySem.boot_len (pa_cons (pv 0) pa_nil)) pe_int (nomark _)))))
        (pss_one (ps_ret pe_bl))
        pss_nil)
      (pss_cons (ps_asg (pv 0) (pg_tup rfl (pgs_cons (pg_name (i := 1) sc_is_rational.nd rfl (Or.inl rfl)) (pgs_cons (pg_name (i := 2) sc_is_rational.nd rfl (Or.inl rfl)) pgs_nil))))
      (pss_one (ps_ret (pe_and (pcall dis_whole hr (pa_cons (pv 1) pa_nil)) (pe_and (pcall dis_whole hr (pa_cons (pv 2) pa_nil)) (pe_and (pe_cmpR op_ge (pv 2) pe_int (nomark _)) (pe_one (pe_cmpR op_eq (pe_callBfun cr_gcd (by rfl) T.gcd_ (pa_cons (pv 1) (pa_cons (pv 2) pa_nil))) pe_int (nomark _)))))))))), ?_⟩
  refine ⟨_, rfl, _, _, _, _, true, rfl, .ty _, ta, kit_ty (by decide +kernel), _, rfl, ifF rfl ?_⟩
  refine ⟨_, rfl, a, _, rfl, .inr ha, rfl, _, rfl, ifF rfl ?_⟩
  refine ⟨_, rfl, a, _, rfl, ha, rfl, _, _, rfl, _, _, rfl, rfl, ?_⟩
  refine ⟨_, rfl, _, rfl, true, rfl, ifT rfl ⟨_, rfl, _, rfl, true, rfl, ifT rfl ⟨_, rfl, _, _, rfl, rfl, _, rfl, ifT (dT (by omega)) ?_⟩⟩⟩
  refine ⟨_, rfl, _, rfl, _, _, rfl, rfl, ?_⟩
  have e1 : Nat.gcd q.num.natAbs ((q.den : Nat) : Int).natAbs = 1 := by rw [Int.natAbs_natCast]; exact q.reduced
  show Q (V.bl (decide (V.int (((Nat.gcd q.num.natAbs ((q.den : Nat) : Int).natAbs : Nat)) : Int) = V.int 1))) H
  rw [e1, show decide (V.int ((1 : Nat) : Int) = V.int 1) = true from dT rfl]
  exact z _ (Same.refl _)
abbrev s__law_product : Stmt := top 77
abbrev N__law_product : List Str := ["_law_store_here", "_law_many", "_law_told", "_law_n", "_law_d", "_law_k", "_law_over", "_law_one"]
theorem sc__law_product : FnScope N__law_product ["_law_store_here", "_law_many"] (defScope s__law_product) := ⟨rfl, rfl, rfl, by decide +kernel, rfl, by decide +kernel, by decide +kernel⟩
abbrev ps__law_product : List Str := ["_law_store_here", "_law_many"]
/-- sixteen drawn numbers multiplied -/
def spProd (K : PySem.W.Frag) (l : Addr) : Sp := fun vs H Q _ => ∃ (s : Addr) (n : Nat), vs = [.ref s, .int n] ∧ Sto l s H ∧ n ≤ 20 ∧ ∀ a q H', Rq K H' (.ref a) q → Sz 1000 q → Sto l s H' → Fr s H H' → Q (.ref a) H'
theorem ok_product (T : Bn mg) (F : Fn K mg "_law_product" s__law_product ps__law_product f fd) (d_law_take : Def P w K mg base k "_law_take" ["_law_store_here", "_law_many"] (spTake K l) f1 fd1) (d_law_pick : Def P w K mg base k "_law_pick" ["_law_store_here", "_law_things"] (spPick K l) f2 fd2)
    (d_law_frac : Def P w K mg base k "_law_frac" ["_law_n", "_law_d"] (spFrac K) f3 fd3) (dmultiply : Def P w K mg base k "multiply" ["a", "b"] (spOp2 K (· * ·)) f4 fd4) (d_law_worth : Def P w K mg base k "_law_worth" ["_law_value", "_law_n", "_law_d"] (spWorth K) f5 fd5) :
    Def P w K mg base (k + 1) "_law_product" ps__law_product (spProd K l) f fd := by
  refine ⟨F.F.ok sc__law_product (fun vs H Q E h => ?_) (fun cdv A outer s H vs Q E hr h => ?_), F.m, F.F.kp, F.b⟩
  · obtain ⟨_, _, rfl, _⟩ := h
    rfl
  obtain ⟨s, m, rfl, hS, hm, z⟩ := h
  refine ⟨_, (pss_cons (ps_set (i := 2) sc__law_product.nd rfl (Or.inl rfl) (pe_tup (pa_cons pe_int (pa_cons pe_int pa_nil))))
      (pss_cons (ps_set (i := 3) sc__law_product.nd rfl (Or.inl rfl) pe_int)
      (pss_cons (ps_set (i := 4) sc__law_product.nd rfl (Or.inl rfl) pe_int)
      (pss_cons (ps_for PassesOwn.never rfl (pi_range1 (by rfl) T.range_ (pa_cons (pv 1) pa_nil)) (pg_name (i := 5) sc__law_product.nd rfl (Or.inl rfl))
        (pss_cons (ps_set (i := 6) sc__law_product.nd rfl (Or.inl rfl) (pe_op op_mulW (pe_op op_add (pe_op op_pow pe_int pe_int) (pcall d_law_take hr (pa_cons (pv 0) (pa_cons (pe_op op_mul pe_int (pe_op op_pow pe_int pe_int)) pa_nil)))) (pcall d_law_pick hr (pa_cons (pv 0) (pa_cons (pe_lst (pa_cons pe_int (pa_cons (pe_op op_sub pe_int pe_int) pa_nil))) pa_nil)))))
        (pss_cons (ps_set (i := 7) sc__law_product.nd rfl (Or.inl rfl) (pcall d_law_frac hr (pa_cons (pv 6) (pa_cons (pe_op op_add (pe_op op_pow pe_int pe_int) (pcall d_law_take hr (pa_cons (pv 0) (pa_cons (pe_op op_mul pe_int (pe_op op_pow pe_int pe_int)) pa_nil)))) pa_nil))))
        (pss_cons (ps_set (i := 2) sc__law_product.nd rfl (Or.inl rfl) (pcall dmultiply hr (pa_cons (pv 2) (pa_cons (pv 7) pa_nil))))
        (pss_cons (ps_set (i := 3) sc__law_product.nd rfl (Or.inl rfl) (pe_op op_mulW (pv 3) (pe_ix ix_tup (pv 7) pe_int (fun _ _ => rfl))))
        (pss_cons (ps_set (i := 4) sc__law_product.nd rfl (Or.inl rfl) (pe_op op_mulW (pv 4) (pe_ix ix_tup (pv 7) pe_int (fun _ _ => rfl))))
        (pss_one (ps_if (pt_not (pt_val (pcall d_law_worth hr (pa_cons (pv 2) (pa_cons (pv 3) (pa_cons (pv 4) pa_nil))))))
          (pss_one (ps_ret pe_non))
          pss_nil))))))))
      (pss_one (ps_ret (pv 2))))))), ?_⟩
  have t9 : (9 * 10 ^ Int.toNat 11 : Int) < 2 ^ 64 := by decide
  have p62 : (2 : Int) ^ 62 = 4611686018427387904 := by decide
  (walk_at "vk_vc")
  refine forR (lo := 0) (n := Int.toNat (m : Int)) (fun i σ G => Hold (∃ (ta : Addr) (t : Rat) (n : Int) (d : Nat) (k5 k6 k7 : Option V), σ = [some (.ref s), some (.int m), some (.ref ta), some (.int n), some (.int (d : Int)), k5, k6, k7] ∧ Sto l s G ∧ Fr s H G ∧ Rq K G (.ref ta) t ∧ Sz (41 * i + 1) t ∧ mkRat n d = t ∧ d ≠ 0 ∧ n.natAbs < 2 ^ (41 * i + 1) ∧ d < 2 ^ (41 * i + 1)))
    ⟨_, 1, 1, 1, none, none, none, rfl, hS.same (same_new ‹_› _), Fr.of (same_new ‹_› _), rl11, by decide +kernel, by decide +kernel, by decide, by decide, by decide⟩ ?_ ?_
  · rintro i σ G hi ⟨ta, t, n, d, k5, k6, k7, rfl, SG, fG, rt, zt, ht, d0, zn, zd⟩
    have hi20 : i < 20 := by omega
    obtain ⟨_, ea, hta⟩ := id rt
    cases ea
    have cm9 : CMul 9 (10 ^ Int.toNat 11) := .inl (by decide)
    have p11 : (10 : Int) ^ Int.toNat 11 = 100000000000 := by decide
    (walk_at "vk_vc")
    intro v G6 hv S6x e6
    have hsg : ∃ u : Int, v = .int u ∧ u.natAbs = 1 := by
      simp only [List.mem_cons, List.not_mem_nil, or_false] at hv
      rcases hv with rfl | rfl
      · exact ⟨1, rfl, rfl⟩
      · exact ⟨0 - 1, rfl, rfl⟩
    obtain ⟨u, rfl, hu⟩ := hsg
    have ro : ((10 : Int) ^ Int.toNat 11 + r).natAbs < 2 ^ 40 := by
      rw [p11] at r1 ⊢
      have : (2 : Nat) ^ 40 = 1099511627776 := by decide
      omega
    have zo : (((10 : Int) ^ Int.toNat 11 + r) * u).natAbs < 2 ^ 40 := by rw [Int.natAbs_mul, hu, Nat.mul_one]; exact ro
    refine ⟨_, _, rfl, rfl, cmw ro (show u.natAbs < 2 ^ 1 by omega) (by decide), ?_⟩
    show gName 6 (.int (((10 : Int) ^ Int.toNat 11 + r) * u)) _ _ _
    generalize ((10 : Int) ^ Int.toNat 11 + r) * u = o at zo ⊢
    clear ro hu
    have rt6 : Rq K G6 (.ref ta) t := by (walk_at "vk_cl")
    have fG6 : Fr s H G6 := fG.trans (by focus (walk_at "vk_fr"))
    clear hv hta rt SG S np
    have rt7 : ∀ G7, Fr s G6 G7 → Rq K G7 (.ref ta) t := fun G7 e => rt6.fr e S6x.some
    dsimp only [gName]
    refine cutG (fun σ' G => ∃ (oa : Addr) (q : Rat) (k6 : Option V), σ' = [some (.ref s), some (.int m), some (.ref ta), some (.int n), some (.int (d : Int)), some (.int (0 + (i : Int))), k6, some (.ref oa)] ∧ Rq K G (.ref oa) q ∧ Sz 40 q ∧ Sto l s G ∧ Fr s G6 G) ?_ ?_
    rotate_left
    · intro u' key
      (walk_at "vk_vc")
      refine key _ _ ⟨_, _, _, rfl, h, ?_, ?_, ?_⟩
      · refine sz_mk (by omega) zo ?_
        rw [p11] at *
        have : (2 : Nat) ^ 40 = 1099511627776 := by decide
        omega
      · (walk_at "vk_sto")
      · (walk_at "vk_fr")
    clear rt6 r0 r1 r cm9 p11 t9
    rintro σ G ⟨oa, q, k6', rfl, rq, zq, SG, e8⟩
    have rt8 := rt7 _ e8
    clear rt7 S6x
    obtain ⟨_, ea, hoa⟩ := id rq
    cases ea
    have zm : Sz (41 * i + 1 + 40) (t * q) := zt.mul zq
    have en : mkRat (n * q.num) (d * q.den) = t * q := by
      have h2 : mkRat q.num q.den = q := Rat.mkRat_self q
      rw [← ht, ← Rat.mkRat_mul_mkRat, h2]
    have dq0 : d * q.den ≠ 0 := Nat.mul_ne_zero d0 (dn0 q)
    have hw : (t * q).num * ((d : Int) * (q.den : Int)) = n * q.num * ((t * q).den : Int) := by
      have := worth_mk (n := n * q.num) dq0
      rw [en, Int.natCast_mul] at this
      exact this
    have bd' : ((d : Nat) : Int).natAbs < 2 ^ (41 * i + 1) := zd
    have qd' : ((q.den : Nat) : Int).natAbs < 2 ^ 40 := zq.2
    have b1 := ab_mul zn zq.1
    have b2 := ab_mul bd' qd'
    have b1' : (n * q.num).natAbs < 2 ^ 10000 := ab_up b1 (by omega)
    have b2' : ((d : Int) * (q.den : Int)).natAbs < 2 ^ 10000 := ab_up b2 (by omega)
    have c1 : CMulW n q.num := cmw zn zq.1 (by omega)
    have c2 : CMulW (d : Int) (q.den : Int) := cmw bd' qd' (by omega)
    (walk_at "vk_vc")
    refine ⟨⟨_, t * q, n * q.num, d * q.den, some (V.int (0 + (i : Int))), k6', some (V.ref oa), ?_, by (walk_at "vk_sto"), (fG6.trans e8).trans (by focus (walk_at "vk_fr")), by (walk_at "vk_cl"), zm.mono (by omega), en, dq0, ab_up b1 (by omega), ?_⟩⟩
    · rw [Int.natCast_mul]
      rfl
    · rw [← Int.natCast_mul, Int.natAbs_natCast] at b2
      exact Nat.lt_of_lt_of_le b2 (Nat.pow_le_pow_right (by decide) (by omega))
  · rintro σ G ⟨ta, t, n, d, k5, k6, k7, rfl, SG, fG, rt, zt, ht, d0, zn, zd⟩
    exact ⟨_, rfl, z ta t G rt (zt.mono (by omega)) SG fG⟩
end Vk

set_option maxHeartbeats 4000000
namespace Vk
open PySem L2 Vm Vl
variable {l aZERO : Addr} {P : Program} {w : World} {K : PySem.W.Frag} {mg : Str → Option Value} {base : Heap} {k : Nat} {f f1 f2 f3 f4 f5 f6 f7 f8 f9 f10 : Addr} {fd fd1 fd2 fd3 fd4 fd5 fd6 fd7 fd8 fd9 fd10 : FuncData}
/-- a pair of rationals -/
def Pr (K : PySem.W.Frag) (H : Hp) (v : V) (p : Rat × Rat) : Prop := ∃ a x y, v = .ref a ∧ SqT K H a [.ref x, .ref y] ∧ Rq K H (.ref x) p.1 ∧ Rq K H (.ref y) p.2
theorem Pr.fr {s : Addr} {H H' : Hp} {v : V} {p : Rat × Rat} (e : Fr s H H') (hs : ∃ ys, H s = some (.lst ys)) (h : Pr K H v p) : Pr K H' v p := by
  obtain ⟨a, x, y, rfl, h1, h2, h3⟩ := h
  exact ⟨a, x, y, rfl, sqt_fr e hs h1, h2.fr e hs, h3.fr e hs⟩
theorem lastsPr : Lasts (Pr K) := fun e hs h => h.fr e hs
abbrev s__law_two : Stmt := top 66
abbrev N__law_two : List Str := ["_law_store_here", "_law_sort", "_law_a", "_law_b"]
theorem sc__law_two : FnScope N__law_two ["_law_store_here"] (defScope s__law_two) := ⟨rfl, rfl, rfl, by decide +kernel, rfl, by decide +kernel, by decide +kernel⟩
abbrev ps__law_two : List Str := ["_law_store_here"]
def spTwo (K : PySem.W.Frag) (l : Addr) : Sp := fun vs H Q _ => ∃ (s : Addr), vs = [.ref s] ∧ Sto l s H ∧ ∀ v p H', Pr K H' v p → Sz 52 p.1 → Sz 52 p.2 → Sto l s H' → Fr s H H' → Q v H'
theorem ok_two (T : Bn mg) (F : Fn K mg "_law_two" s__law_two ps__law_two f fd) (d_law_take : Def P w K mg base k "_law_take" ["_law_store_here", "_law_many"] (spTake K l) f1 fd1) (d_law_ratio : Def P w K mg base k "_law_ratio" ["_law_store_here", "_law_top"] (spRatio K l) f2 fd2)
    (d_law_part : Def P w K mg base k "_law_part" ["_law_store_here"] (spDraw K l 5 anyQ) f3 fd3) (d_law_near : Def P w K mg base k "_law_near" ["_law_store_here", "_law_value"] (spNear K l) f4 fd4) : Def P w K mg base (k + 1) "_law_two" ps__law_two (spTwo K l) f fd := by
  refine ⟨F.F.ok sc__law_two (fun vs H Q E h => ?_) (fun cdv A outer s H vs Q E hr h => ?_), F.m, F.F.kp, F.b⟩
  · obtain ⟨_, rfl, _⟩ := h
    rfl
  obtain ⟨s, rfl, hS, z⟩ := h
  refine ⟨_, (pss_cons (ps_set (i := 1) sc__law_two.nd rfl (Or.inl rfl) (pcall d_law_take hr (pa_cons (pv 0) (pa_cons pe_int pa_nil))))
      (pss_cons (ps_set (i := 2) sc__law_two.nd rfl (Or.inl rfl) (pcall d_law_ratio hr (pa_cons (pv 0) (pa_cons (pe_op op_sub (pe_op op_pow pe_int pe_int) pe_int) pa_nil))))
      (pss_cons (ps_set (i := 3) sc__law_two.nd rfl (Or.inl rfl) (pcall d_law_ratio hr (pa_cons (pv 0) (pa_cons (pe_op op_sub (pe_op op_pow pe_int pe_int) pe_int) pa_nil))))
      (pss_cons (ps_if (pt_cmpR op_lt (pv 1) pe_int (nomark _))
        (pss_cons (ps_set (i := 2) sc__law_two.nd rfl (Or.inl rfl) (pcall d_law_part hr (pa_cons (pv 0) pa_nil)))
        (pss_one (ps_set (i := 3) sc__law_two.nd rfl (Or.inl rfl) (pcall d_law_part hr (pa_cons (pv 0) pa_nil)))))
        pss_nil)
      (pss_cons (ps_if (pt_cmpR op_eq (pv 1) pe_int (nomark _))
        (pss_one (ps_set (i := 3) sc__law_two.nd rfl (Or.inl rfl) (pv 2)))
        pss_nil)
      (pss_cons (ps_if (pt_cmpR op_eq (pv 1) pe_int (nomark _))
        (pss_one (ps_set (i := 3) sc__law_two.nd rfl (Or.inl rfl) (pe_tup (pa_cons (pe_op op_sub pe_int (pe_ix ix_tup (pv 2) pe_int (fun _ _ => rfl))) (pa_cons (pe_ix ix_tup (pv 2) pe_int (fun _ _ => rfl)) pa_nil)))))
        pss_nil)
      (pss_cons (ps_if (pt_cmpR op_eq (pv 1) pe_int (nomark _))
        (pss_cons (ps_set (i := 2) sc__law_two.nd rfl (Or.inl rfl) (pcall d_law_ratio hr (pa_cons (pv 0) (pa_cons pe_int pa_nil))))
        (pss_one (ps_set (i := 3) sc__law_two.nd rfl (Or.inl rfl) (pcall d_law_near hr (pa_cons (pv 0) (pa_cons (pv 2) pa_nil))))))
        pss_nil)
      (pss_one (ps_ret (pe_tup (pa_cons (pv 2) (pa_cons (pv 3) pa_nil)))))))))))), ?_⟩
  have t12 : (1 : Int) ≤ 10 ^ Int.toNat 12 - 1 := by decide
  have t13 : (10 : Int) ^ Int.toNat 12 - 1 < 2 ^ 40 := by decide
  have t14 : (9999999 : Int) < 2 ^ 40 := by decide
  refine ⟨_, rfl, s, 6, rfl, hS, by decide, fun so G0 so0 so1 S0 e0 => ?_⟩
  dsimp only [gName]
  have st : ∀ (va vb : Addr) (p q : Rat), L2.St := fun va vb p q => []
  let mid : L2.St → Hp → Prop := fun σ' G => ∃ (va vb : Addr) (p q : Rat), σ' = [some (.ref s), some (.int so), some (.ref va), some (.ref vb)] ∧ Rq K G (.ref va) p ∧ Rq K G (.ref vb) q ∧ Sz 51 p ∧ Sz 51 q ∧ Sto l s G ∧ Fr s H G
  refine cutG (fun σ' G => ∃ (va : Addr) (p : Rat), σ' = [some (.ref s), some (.int so), some (.ref va), none] ∧ Rq K G (.ref va) p ∧ Sz 40 p ∧ Sto l s G ∧ Fr s H G) ?_ ?_
  rotate_left
  · intro u' key
    (walk_at "vk_vc")
    exact key _ _ ⟨_, _, rfl, h, zq, S, e0.trans e⟩
  clear S0
  rintro σ G1 ⟨va, p, rfl, rp, zp, S1, e1⟩
  refine cutG mid ?_ ?_
  rotate_left
  · intro u' key
    (walk_at "vk_vc")
    exact key _ _ ⟨_, _, _, _, rfl, rp.fr e S1.some, h, zp.mono (by decide), zq.mono (by decide), S, e1.trans e⟩
  clear rp zp S1 e1 e0
  rintro σ G2 ⟨va, vb, pa, qa, rfl, rp, rq, zp, zq, S1, e1⟩
  obtain ⟨_, ea, hva⟩ := id rp
  cases ea
  refine cutG mid ?_ ?_
  rotate_left
  · intro u' key
    (walk_at "vk_vc")
    · rename_i a2 q2 G7 h2 h2' zq2 ok2 S2 e2
      exact key _ _ ⟨a2, a, q2, q, rfl, h2.fr e S2.some, h, zq2.mono (by decide), zq.mono (by decide), S, (e1.trans e2).trans e⟩
    · exact key _ _ ⟨va, vb, pa, qa, rfl, rp, rq, zp, zq, S1, e1⟩
  clear rp rq zp zq S1 e1 hva
  rintro σ G3 ⟨va, vb, pa, qa, rfl, rp, rq, zp, zq, S1, e1⟩
  obtain ⟨_, ea, hva⟩ := id rp
  cases ea
  refine cutG mid ?_ ?_
  rotate_left
  · intro u' key
    (walk_at "vk_vc")
    · exact key _ _ ⟨va, va, pa, pa, rfl, rp, rp, zp, zp, S1, e1⟩
    · exact key _ _ ⟨va, vb, pa, qa, rfl, rp, rq, zp, zq, S1, e1⟩
  clear rp rq zp zq S1 e1 hva
  rintro σ G4 ⟨va, vb, pa, qa, rfl, rp, rq, zp, zq, S1, e1⟩
  obtain ⟨_, ea, hva⟩ := id rp
  cases ea
  refine cutG mid ?_ ?_
  rotate_left
  · intro u' key
    (walk_at "vk_vc")
    · have st := same_new np (HO.tup [.int (0 - pa.num), .int (pa.den : Int)])
      exact key _ _ ⟨va, p, pa, -pa, rfl, rp.same st, rlneg, zp, zp.neg, S1.same st, e1.trans (Fr.of st)⟩
    · exact key _ _ ⟨va, vb, pa, qa, rfl, rp, rq, zp, zq, S1, e1⟩
  clear rp rq zp zq S1 e1 hva
  rintro σ G5 ⟨va, vb, pa, qa, rfl, rp, rq, zp, zq, S1, e1⟩
  obtain ⟨_, ea, hva⟩ := id rp
  cases ea
  refine cutG mid ?_ ?_
  rotate_left
  · intro u' key
    (walk_at "vk_vc")
    · decide
    · rename_i a2 q2 G7 h2 h2' zq2 ok2 S2 e2
      exact key _ _ ⟨a2, a, q2, q, rfl, h2.fr e S2.some, h, zq2.mono (by decide), zq.mono (by decide), S, (e1.trans e2).trans e⟩
    · exact key _ _ ⟨va, vb, pa, qa, rfl, rp, rq, zp, zq, S1, e1⟩
  clear rp rq zp zq S1 e1 hva
  rintro σ G6 ⟨va, vb, pa, qa, rfl, rp, rq, zp, zq, S1, e1⟩
  refine ⟨_, rfl, _, rfl, sz2, fun t ht => ?_⟩
  have st := same_new ht (.tup [.ref va, .ref vb])
  exact z _ (pa, qa) _ ⟨t, va, vb, rfl, SqT.of upd_same, rp.same st, rq.same st⟩ (zp.mono (by decide)) (zq.mono (by decide)) (S1.same st) (e1.trans (Fr.of st))
end Vk

set_option maxHeartbeats 4000000
namespace Vk
open PySem L2 Vm Vl
variable {l aZERO : Addr} {P : Program} {w : World} {K : PySem.W.Frag} {mg : Str → Option Value} {base : Heap} {k : Nat} {f f1 f2 f3 f4 f5 f6 f7 f8 f9 f10 f11 : Addr} {fd fd1 fd2 fd3 fd4 fd5 fd6 fd7 fd8 fd9 fd10 fd11 : FuncData}
theorem All2.erase {α : Type} {R : V → α → Prop} {xs : List V} {c : List α} (h : All2 R xs c) (m : Nat) : All2 R (xs.eraseIdx m) (c.eraseIdx m) := by
  rw [List.eraseIdx_eq_take_drop_succ, List.eraseIdx_eq_take_drop_succ]
  have hd : All2 R (xs.drop (m + 1)) (c.drop (m + 1)) := ⟨by rw [List.length_drop, List.length_drop, h.1], fun i x p a b => by
    rw [List.getElem?_drop] at a b
    exact h.2 _ x p a b⟩
  exact (All2.take (R := R) h m).append hd
abbrev s__law_shuffled : Stmt := top 55
abbrev N__law_shuffled : List Str := ["_law_store_here", "_law_things", "_law_rest", "_law_row", "_law_k"]
theorem sc__law_shuffled : FnScope N__law_shuffled ["_law_store_here", "_law_things"] (defScope s__law_shuffled) := ⟨rfl, rfl, rfl, by decide +kernel, rfl, by decide +kernel, by decide +kernel⟩
abbrev ps__law_shuffled : List Str := ["_law_store_here", "_law_things"]
def spShuf (K : PySem.W.Frag) (l : Addr) : Sp := fun vs H Q _ => ∃ (s a : Addr) (xs : List V) (qs : List Rat), vs = [.ref s, .ref a] ∧ Sto l s H ∧ a ≠ s ∧ H a = some (.lst xs) ∧ All2 (Rq K H) xs qs ∧ (∀ q ∈ qs, Sz 52 q) ∧ qs.length ≤ 100 ∧
  ∀ D us os H', Sto l s H' → Fr s H H' → H' D = some (.lst us) → All2 (Rq K H') us os → (∀ q ∈ os, Sz 52 q) → os.length = qs.length → D ≠ s → Q (.ref D) H'
theorem ok_shuffled (T : Bn mg) (F : Fn K mg "_law_shuffled" s__law_shuffled ps__law_shuffled f fd) (d_law_take : Def P w K mg base k "_law_take" ["_law_store_here", "_law_many"] (spTake K l) f1 fd1) : Def P w K mg base (k + 1) "_law_shuffled" ps__law_shuffled (spShuf K l) f fd := by
  refine ⟨F.F.ok sc__law_shuffled (fun vs H Q E h => ?_) (fun cdv A outer s H vs Q E hr h => ?_), F.m, F.F.kp, F.b⟩
  · obtain ⟨_, _, _, _, rfl, _⟩ := h
    rfl
  obtain ⟨s, a, xs, qs, rfl, hS, ns, ha, hall, zq, lq, z⟩ := h
  have hlx := hall.1
  refine ⟨_, (pss_cons (ps_set (i := 2) sc__law_shuffled.nd rfl (Or.inl rfl) (pe_callTy call_list_of (by rfl) T.list_ (by decide +kernel) (pa_cons (pv 1) pa_nil)))
      (pss_cons (ps_set (i := 3) sc__law_shuffled.nd rfl (Or.inl rfl) (pe_lst pa_nil))
      (pss_cons (ps_for PassesOwn.never rfl (pi_range1 (by rfl) T.range_ (pa_cons (pe_callB call_len_seq (by rfl) T.len_ PySem.boot_len (pa_cons (pv 2) pa_nil)) pa_nil)) (pg_name (i := 4) sc__law_shuffled.nd rfl (Or.inl rfl))
        (pss_one (ps_expr (pe_bm PySem.F.plainAttrs_list PySem.F.slot_list_append PySem.F.type_list_append mt_append (pv 3) (pa_cons (pe_bm PySem.F.plainAttrs_list PySem.F.slot_list_pop PySem.F.type_list_pop mt_popAt (pv 2) (pa_cons (pcall d_law_take hr (pa_cons (pv 0) (pa_cons (pe_callB call_len_seq (by rfl) T.len_ PySem.boot_len (pa_cons (pv 2) pa_nil)) pa_nil))) pa_nil)) pa_nil)))))
      (pss_one (ps_ret (pv 3)))))), ?_⟩
  refine ⟨_, rfl, a, xs, rfl, .inl (SqL.of ha), fun R hR => ?_⟩
  have s1 := same_new hR (.lst xs)
  have hR1 : (upd H R (.lst xs)) R = some (.lst xs) := upd_same
  have S1 := hS.same s1
  have nRs := hS.ne hR
  have nRl := hS.nl hR
  have a1 := hall.imp fun _ _ h => h.same s1
  generalize upd H R (.lst xs) = G1 at s1 hR1 S1 a1 ⊢
  refine ⟨Nat.zero_le _, fun D hD => ?_⟩
  have s2 := same_new hD (.lst [])
  have hR2 := s2 _ _ hR1
  have hD2 : (upd G1 D (.lst [])) D = some (.lst []) := upd_same
  have S2 := S1.same s2
  have nDs := S1.ne hD
  have nDl := S1.nl hD
  have nRD : R ≠ D := ne_at hR1 hD
  have a2 := a1.imp fun _ _ h => h.same s2
  have s12 := s1.trans s2
  generalize upd G1 D (.lst []) = G2 at s2 hR2 hD2 S2 a2 s12 ⊢
  have p62 : (2 : Int) ^ 62 = 4611686018427387904 := by decide
  have hDH : H D = none := sameFree s1 hD
  have x62 : ((xs.length : Nat) : Int) < 2 ^ 62 := by omega
  refine ⟨_, rfl, R, _, rfl, .inl (SqL.of hR2), _, rfl, by omega, by omega, for_range (n := ((xs.length : Nat) : Int).toNat) (fun i σ G => ∃ (ys us : List V) (rs os : List Rat) (k4 : Option V), σ = [some (.ref s), some (.ref a), some (.ref R), some (.ref D), k4] ∧ Sto l s G ∧ (∀ b o, H b = some o → b ≠ s → G b = some o) ∧ G R = some (.lst ys) ∧ G D = some (.lst us) ∧ All2 (Rq K G) ys rs ∧ All2 (Rq K G) us os ∧ (∀ q ∈ rs, Sz 52 q) ∧ (∀ q ∈ os, Sz 52 q) ∧ rs.length + i = qs.length ∧ os.length = i)
    ⟨xs, [], qs, [], none, rfl, S2, fun b o h _ => s12 b o h, hR2, hD2, a2, All2.nil, zq, nofun, rfl, rfl⟩ ?_ ?_⟩
  · rintro i σ G hi ⟨ys, us, rs, os, k4, rfl, SG, fG, gR, gD, aR, aD, zr, zo, lr, lo⟩
    have hly := aR.1
    have hlu := aD.1
    have hi1 : i < xs.length := by omega
    refine ⟨_, rfl, .inl ⟨rfl, _, SqL.of gD⟩, _, rfl, .inl ⟨rfl, _, SqL.of gR⟩, _, rfl, _, rfl, R, _, rfl, .inl (SqL.of gR), s, _, rfl, SG, by omega, fun r G3 r0 r1 S3 e3 => ?_⟩
    have gR3 := e3 _ _ gR nRs
    have gD3 := e3 _ _ gD nDs
    have aR3 := aR.imp fun _ _ h => Rq.fr e3 SG.some h
    have aD3 := aD.imp fun _ _ h => Rq.fr e3 SG.some h
    have fG3 : ∀ b o, H b = some o → b ≠ s → G3 b = some o := fun b o h n => e3 b o (fG b o h n) n
    obtain ⟨n, rfl⟩ : ∃ n : Nat, r = (n : Int) := ⟨r.toNat, by omega⟩
    have hn : n < ys.length := by omega
    have ey : ys[n]? = some ys[n] := List.getElem?_eq_getElem hn
    have er : rs[n]? = some rs[n] := List.getElem?_eq_getElem (by omega)
    have ry := aR3.2 n _ _ ey er
    have zn := zr _ (List.mem_of_getElem? er)
    generalize ys[n] = y at ey ry
    generalize rs[n] = q at er ry zn
    have hix : seqIndex? (n : Int) ys.length = some n := by
      have h9 := PySem.StrLaws.seqIndex_nonneg (i := (n : Int)) (n := ys.length) (by omega) (by omega)
      rw [h9]
      rfl
    refine ⟨R, ys, (n : Int), n, y, rfl, rfl, gR3, by omega, by omega, hix, ey, ?_⟩
    have f4 : Fr R G3 (upd G3 R (.lst (ys.eraseIdx n))) := Fr.upd _
    have gD4 := f4 _ _ gD3 nRD.symm
    have gR4 : (upd G3 R (.lst (ys.eraseIdx n))) R = some (.lst (ys.eraseIdx n)) := upd_same
    have S4 := S3.upd (o := .lst (ys.eraseIdx n)) nRs nRl
    have aR4 := aR3.imp fun _ _ h => Rq.fr f4 ⟨_, gR3⟩ h
    have aD4 := aD3.imp fun _ _ h => Rq.fr f4 ⟨_, gR3⟩ h
    have ry4 := ry.fr f4 ⟨_, gR3⟩
    have fG4 : ∀ b o, H b = some o → b ≠ s → (upd G3 R (.lst (ys.eraseIdx n))) b = some o := fun b o h nb => by
      rw [upd_ne (ne_of_none h hR)]; exact fG3 b o h nb
    generalize upd G3 R (.lst (ys.eraseIdx n)) = G4 at gD4 gR4 S4 aR4 aD4 ry4 fG4 ⊢
    refine ⟨D, us, y, rfl, rfl, gD4, le1000 (by omega), ?_⟩
    have f5 : Fr D G4 (upd G4 D (.lst (us ++ [y]))) := Fr.upd _
    refine ⟨ys.eraseIdx n, us ++ [y], rs.eraseIdx n, os ++ [q], _, rfl, S4.upd nDs nDl, fun b o h nb => ?_, f5 _ _ gR4 nRD, upd_same, All2.erase (R := Rq K _) (aR4.imp fun _ _ h => Rq.fr f5 ⟨_, gD4⟩ h) n, ((aD4.imp fun _ _ h => Rq.fr f5 ⟨_, gD4⟩ h).snoc (ry4.fr f5 ⟨_, gD4⟩)), fun q hq => zr q (List.mem_of_mem_eraseIdx hq), fun x hx => ?_, ?_, by rw [List.length_append, lo]; rfl⟩
    · rw [upd_ne (ne_of_none h hDH)]; exact fG4 b o h nb
    · rcases List.mem_append.mp hx with hx | hx
      · exact zo x hx
      · rw [List.mem_singleton.mp hx]; exact zn
    · rw [List.length_eraseIdx, if_pos (by omega)]; omega
  · rintro σ G ⟨ys, us, rs, os, k4, rfl, SG, fG, gR, gD, aR, aD, zr, zo, lr, lo⟩
    exact ⟨_, rfl, z D us os G SG fG gD aD zo (by omega) nDs⟩
abbrev s__law_great_right : Stmt := top 78
abbrev N__law_great_right : List Str := ["_law_store_here", "_law_many", "_law_p", "_law_q", "_law_s"]
theorem sc__law_great_right : FnScope N__law_great_right ["_law_store_here"] (defScope s__law_great_right) := ⟨rfl, rfl, rfl, by decide +kernel, rfl, by decide +kernel, by decide +kernel⟩
abbrev ps__law_great_right : List Str := ["_law_store_here"]
theorem ok_great (T : Bn mg) (F : Fn K mg "_law_great_right" s__law_great_right ps__law_great_right f fd) (d_law_pick : Def P w K mg base k "_law_pick" ["_law_store_here", "_law_things"] (spPick K l) f1 fd1) (d_law_product : Def P w K mg base k "_law_product" ["_law_store_here", "_law_many"] (spProd K l) f2 fd2)
    (d_law_signs_right : Def P w K mg base k "_law_signs_right" ["_law_a", "_law_b"] (sp2 K) f3 fd3) (d_law_quotient_right : Def P w K mg base k "_law_quotient_right" ["_law_a", "_law_b"] (sp2 K) f4 fd4) (d_law_order_right : Def P w K mg base k "_law_order_right" ["_law_a", "_law_b"] (sp2 K) f5 fd5)
    (dadd : Def P w K mg base k "add" ["a", "b"] (spOp2 K (· + ·)) f6 fd6) (dsubtract : Def P w K mg base k "subtract" ["a", "b"] (spOp2 K (· - ·)) f7 fd7) (dmultiply : Def P w K mg base k "multiply" ["a", "b"] (spOp2 K (· * ·)) f8 fd8) (d_law_same : Def P w K mg base k "_law_same" ["_law_value", "_law_due"] (spSame K 4) f9 fd9)
    (dis_rational : Def P w K mg base k "is_rational" ["value"] (spIsFrac K) f10 fd10) : Def P w K mg base (k + 1) "_law_great_right" ps__law_great_right (fun vs H Q _ => ∃ s, vs = [.ref s] ∧ Sto l s H ∧ ∀ H', Q (.bl true) H') f fd := by
  refine ⟨F.F.ok sc__law_great_right (fun vs H Q E h => ?_) (fun cdv A outer s H vs Q E hr h => ?_), F.m, F.F.kp, F.b⟩
  · obtain ⟨_, rfl, _⟩ := h
    rfl
  obtain ⟨s, rfl, hS, z⟩ := h
  refine ⟨_, (pss_cons (ps_set (i := 1) sc__law_great_right.nd rfl (Or.inl rfl) (pcall d_law_pick hr (pa_cons (pv 0) (pa_cons (pe_lst (pa_cons pe_int (pa_cons pe_int (pa_cons pe_int pa_nil)))) pa_nil))))
      (pss_cons (ps_set (i := 2) sc__law_great_right.nd rfl (Or.inl rfl) (pcall d_law_product hr (pa_cons (pv 0) (pa_cons (pv 1) pa_nil))))
      (pss_cons (ps_set (i := 3) sc__law_great_right.nd rfl (Or.inl rfl) (pcall d_law_product hr (pa_cons (pv 0) (pa_cons (pv 1) pa_nil))))
      (pss_cons (ps_if (PW.pt (pw_or (pt_cmpR op_isN (pv 2) pe_non (nomark _)) (pw_or1 (pt_cmpR op_isN (pv 3) pe_non (nomark _)))))
        (pss_one (ps_ret pe_bl))
        pss_nil)
      (pss_cons (ps_if (PW.pt (pw_or (pt_not (pt_val (pcall d_law_signs_right hr (pa_cons (pv 2) (pa_cons (pv 3) pa_nil))))) (pw_or (pt_not (pt_val (pcall d_law_quotient_right hr (pa_cons (pv 2) (pa_cons (pv 3) pa_nil))))) (pw_or1 (pt_not (pt_val (pcall d_law_order_right hr (pa_cons (pv 2) (pa_cons (pv 3) pa_nil)))))))))
        (pss_one (ps_ret pe_bl))
        pss_nil)
      (pss_cons (ps_set (i := 4) sc__law_great_right.nd rfl (Or.inl rfl) (pcall dadd hr (pa_cons (pv 2) (pa_cons (pv 3) pa_nil))))
      (pss_cons (ps_if (PW.pt (pw_or (pt_not (pt_val (pcall d_law_same hr (pa_cons (pcall dsubtract hr (pa_cons (pv 4) (pa_cons (pv 3) pa_nil))) (pa_cons (pv 2) pa_nil))))) (pw_or1 (pt_not (pt_val (pcall d_law_same hr (pa_cons (pcall dsubtract hr (pa_cons (pv 4) (pa_cons (pv 4) pa_nil))) (pa_cons (pe_tup (pa_cons pe_int (pa_cons pe_int pa_nil))) pa_nil))))))))
        (pss_one (ps_ret pe_bl))
        pss_nil)
      (pss_one (ps_ret (pe_and (pe_cmpR op_isB (pcall dis_rational hr (pa_cons (pv 4) pa_nil)) pe_bl (nomark _)) (pe_and (pe_cmpR op_isB (pcall dis_rational hr (pa_cons (pv 2) pa_nil)) pe_bl (nomark _)) (pe_one (pe_cmpR op_isB (pcall dis_rational hr (pa_cons (pcall dmultiply hr (pa_cons (pv 2) (pa_cons (pv 3) pa_nil))) pa_nil)) pe_bl (nomark _)))))))))))))), ?_⟩
  (walk_at "vk_vc")
  intro v G1 hv S1 e1
  have hm : ∃ m : Nat, v = .int m ∧ m ≤ 20 := by
    simp only [List.mem_cons, List.not_mem_nil, or_false] at hv
    rcases hv with rfl | rfl | rfl
    · exact ⟨12, rfl, by decide⟩
    · exact ⟨12, rfl, by decide⟩
    · exact ⟨20, rfl, by decide⟩
  obtain ⟨m, rfl, hm⟩ := hm
  clear hv e1 hS
  (walk_at "vk_vc")
  intro pa p G2 rp zp S2 e2
  have nn1 : ¬ V.ref pa = V.non := nofun
  (walk_at "vk_vc")
  intro qa q G3 rq zq S3 e3
  have nn2 : ¬ V.ref qa = V.non := nofun
  replace rp := rp.fr e3 S2.some
  clear e3 S2 S3 S1
  have zs := (zp.add zq).mono (show 1000 + 1000 + 1 ≤ 2500 by decide)
  have zm := (zp.mul zq).mono (show 1000 + 1000 ≤ 2500 by decide)
  have e5 : p + q - q = p := by grind
  have e6 : p + q - (p + q) = 0 := by grind
  have t1 : Tree 4 (dq (p + q - q)) := tree_dq _ _
  have t2 : Tree 4 (dq (p + q - (p + q))) := tree_dq _ _
  (walk_at "vk_vc")
  · show Dp K H' (.ref pa) (dq (p + q - q))
    rw [e5]
    exact Rq.dp (by (walk_at "vk_cl"))
  · have h9 : Dp K (upd H' p (HO.tup [V.int 0, V.int 1])) (V.ref p) (dq 0) := Rq.dp rl01
    rw [← e6] at h9
    exact h9
  · exact z _
end Vk

set_option maxHeartbeats 4000000
namespace Vk
open PySem L2 Vm Vl
variable {P : Program} {w : World} {K : PySem.W.Frag} {mg : Str → Option Value} {base : Heap} {k : Nat} {f f1 f2 f3 f4 f5 f6 f7 f8 f9 f10 f11 f12 : Addr} {fd fd1 fd2 fd3 fd4 fd5 fd6 fd7 fd8 fd9 fd10 fd11 fd12 : FuncData}
def spLaw (K : PySem.W.Frag) : Sp := fun vs H Q _ => ∃ (a : Addr) (ns : List Int), vs = [.ref a] ∧ SqL K H a (ns.map V.int) ∧ ns.length ≤ 63 ∧ ∀ H', Q (.bl true) H'
theorem Pr.same {H H' : Hp} {v : V} {p : Rat × Rat} (e : Same H H') (h : Pr K H v p) : Pr K H' v p := by
  obtain ⟨a, x, y, rfl, h1, h2, h3⟩ := h
  exact ⟨a, x, y, rfl, e.sqt h1, h2.same e, h3.same e⟩
theorem tyes {σ : L2.St} {H : Hp} {A B : Hp → Prop} (h : A H) : tYes σ H (fun b H3 => if b = true then A H3 else B H3) := by
  show (if true = true then A H else B H)
  rw [if_pos rfl]
  exact h
abbrev s_law : Stmt := top 79
abbrev N_law : List Str := ["_law_script", "_law_store_here", "_law_pairs", "_law_k", "_law_row", "_law_pair"]
theorem sc_law : FnScope N_law ["_law_script"] (defScope s_law) := ⟨rfl, rfl, rfl, by decide +kernel, rfl, by decide +kernel, by decide +kernel⟩
abbrev ps_law : List Str := ["_law_script"]
theorem ok_law (T : Bn mg) (F : Fn K mg "law" s_law ps_law f fd) (d_law_store : Def P w K mg base k "_law_store" ["_law_script"] (spStore K) f1 fd1) (d_law_two : ∀ l, Def P w K mg base k "_law_two" ["_law_store_here"] (spTwo K l) f2 fd2) (d_law_part : ∀ l, Def P w K mg base k "_law_part" ["_law_store_here"] (spDraw K l 5 anyQ) f3 fd3)
    (d_law_signs_right : Def P w K mg base k "_law_signs_right" ["_law_a", "_law_b"] (sp2 K) f4 fd4) (d_law_quotient_right : Def P w K mg base k "_law_quotient_right" ["_law_a", "_law_b"] (sp2 K) f5 fd5) (d_law_order_right : Def P w K mg base k "_law_order_right" ["_law_a", "_law_b"] (sp2 K) f6 fd6)
    (d_law_totals_right : Def P w K mg base k "_law_totals_right" ["_law_row"] (spTR K) f7 fd7) (d_law_shuffled : ∀ l, Def P w K mg base k "_law_shuffled" ["_law_store_here", "_law_things"] (spShuf K l) f8 fd8) (d_law_great_right : ∀ l, Def P w K mg base k "_law_great_right" ["_law_store_here"] (fun vs H Q _ => ∃ s, vs = [.ref s] ∧ Sto l s H ∧ ∀ H', Q (.bl true) H') f9 fd9) :
    Def P w K mg base (k + 1) "law" ps_law (spLaw K) f fd := by
  have d_law_two := Def.ex d_law_two
  have d_law_part := Def.ex d_law_part
  have d_law_shuffled := Def.ex d_law_shuffled
  have d_law_great_right := Def.ex d_law_great_right
  refine ⟨F.F.ok sc_law (fun vs H Q E h => ?_) (fun cdv A outer s H vs Q E hr h => ?_), F.m, F.F.kp, F.b⟩
  · obtain ⟨_, _, rfl, _⟩ := h
    rfl
  obtain ⟨sa, ns, rfl, hS, hl, z⟩ := h
  refine ⟨_, (pss_cons (ps_set (i := 1) sc_law.nd rfl (Or.inr rfl) (pcall d_law_store hr (pa_cons (pv 0) pa_nil)))
      (pss_cons (ps_setLc (i := 2) (own := [("_law_k", 3)]) (g := gName 3) (tt := tYes) rfl sc_law.nd rfl rfl (sw_true rfl rfl rfl (by decide +kernel)) (pi_range1 (by rfl) T.range_ (pa_cons pe_int pa_nil)) (blkOk_by (N := N_law) (sc := defScope s_law) (by decide +kernel)) (fun _ _ _ _ _ => pg_name (i := 3) sc_law.nd rfl (Or.inl rfl)) (fun _ _ _ _ _ => pts_nil) (fun _ _ _ _ _ => (pcall d_law_two hr (pa_cons (pv 1) pa_nil))))
      (pss_cons (ps_set (i := 4) sc_law.nd rfl (Or.inl rfl) (pe_op op_cat (pe_op op_cat (pe_lst (pa_cons (pe_ix ix_tup (pe_ix ix_list (pv 2) pe_int (fun _ _ => rfl)) pe_int (fun _ _ => rfl)) (pa_cons (pe_ix ix_tup (pe_ix ix_list (pv 2) pe_int (fun _ _ => rfl)) pe_int (fun _ _ => rfl)) (pa_cons (pe_ix ix_tup (pe_ix ix_list (pv 2) pe_int (fun _ _ => rfl)) pe_int (fun _ _ => rfl)) pa_nil)))) (pe_lc (own := [("_law_k", 3)]) (g := gName 3) (tt := tYes) rfl sc_law.nd (pi_range1 (by rfl) T.range_ (pa_cons pe_int pa_nil)) (blkOk_by (N := N_law) (sc := defScope s_law) (by decide +kernel)) (fun _ _ _ _ _ => pg_name (i := 3) sc_law.nd rfl (Or.inl rfl)) (fun _ _ _ _ _ => pts_nil) (fun _ _ _ _ _ => (pcall d_law_part hr (pa_cons (pv 1) pa_nil))))) (pe_lst (pa_cons (pe_ix ix_tup (pe_ix ix_list (pv 2) pe_int (fun _ _ => rfl)) pe_int (fun _ _ => rfl)) pa_nil))))
      (pss_cons (ps_for PassesOwn.never rfl (pi_list (pv 2)) (pg_name (i := 5) sc_law.nd rfl (Or.inl rfl))
        (pss_cons (ps_if (PW.pt (pw_or (pt_not (pt_val (pcall d_law_signs_right hr (pa_cons (pe_ix ix_tup (pv 5) pe_int (fun _ _ => rfl)) (pa_cons (pe_ix ix_tup (pv 5) pe_int (fun _ _ => rfl)) pa_nil))))) (pw_or1 (pt_not (pt_val (pcall d_law_signs_right hr (pa_cons (pe_ix ix_tup (pv 5) pe_int (fun _ _ => rfl)) (pa_cons (pe_ix ix_tup (pv 5) pe_int (fun _ _ => rfl)) pa_nil))))))))
          (pss_one (ps_ret pe_bl))
          pss_nil)
        (pss_cons (ps_if (PW.pt (pw_or (pt_not (pt_val (pcall d_law_quotient_right hr (pa_cons (pe_ix ix_tup (pv 5) pe_int (fun _ _ => rfl)) (pa_cons (pe_ix ix_tup (pv 5) pe_int (fun _ _ => rfl)) pa_nil))))) (pw_or1 (pt_not (pt_val (pcall d_law_quotient_right hr (pa_cons (pe_ix ix_tup (pv 5) pe_int (fun _ _ => rfl)) (pa_cons (pe_ix ix_tup (pv 5) pe_int (fun _ _ => rfl)) pa_nil))))))))
          (pss_one (ps_ret pe_bl))
          pss_nil)
        (pss_cons (ps_if (PW.pt (pw_or (pt_not (pt_val (pcall d_law_quotient_right hr (pa_cons (pe_ix ix_tup (pv 5) pe_int (fun _ _ => rfl)) (pa_cons (pe_tup (pa_cons pe_int (pa_cons pe_int pa_nil))) pa_nil))))) (pw_or1 (pt_not (pt_val (pcall d_law_quotient_right hr (pa_cons (pe_tup (pa_cons pe_int (pa_cons pe_int pa_nil))) (pa_cons (pe_ix ix_tup (pv 5) pe_int (fun _ _ => rfl)) pa_nil))))))))
          (pss_one (ps_ret pe_bl))
          pss_nil)
        (pss_one (ps_if (PW.pt (pw_or (pt_not (pt_val (pcall d_law_order_right hr (pa_cons (pe_ix ix_tup (pv 5) pe_int (fun _ _ => rfl)) (pa_cons (pe_ix ix_tup (pv 5) pe_int (fun _ _ => rfl)) pa_nil))))) (pw_or1 (pt_not (pt_val (pcall d_law_order_right hr (pa_cons (pe_ix ix_tup (pv 5) pe_int (fun _ _ => rfl)) (pa_cons (pe_ix ix_tup (pv 5) pe_int (fun _ _ => rfl)) pa_nil))))))))
          (pss_one (ps_ret pe_bl))
          pss_nil))))))
      (pss_cons (ps_if (PW.pt (pw_or (pt_not (pt_val (pcall d_law_totals_right hr (pa_cons (pv 4) pa_nil)))) (pw_or1 (pt_not (pt_val (pcall d_law_totals_right hr (pa_cons (pcall d_law_shuffled hr (pa_cons (pv 1) (pa_cons (pv 4) pa_nil))) pa_nil)))))))
        (pss_one (ps_ret pe_bl))
        pss_nil)
      (pss_one (ps_ret (pcall d_law_great_right hr (pa_cons (pv 1) pa_nil))))))))), ?_⟩
  refine ⟨_, rfl, sa, ns, rfl, hS, hl, fun s l H1 e1 _ S1 => ?_⟩
  refine ⟨3, rfl, by decide, by decide, fun D hD => lc_range (lo := 0) (n := 3) (fun i G => ∃ (us : List V) (ps : List (Rat × Rat)), Bun (Pr K) l s D H1 us ps G ∧ ps.length = i ∧ ∀ p ∈ ps, Sz 52 p.1 ∧ Sz 52 p.2)
    ⟨[], [], Bun.start S1 (Fr.refl _ _) hD, rfl, nofun⟩ ?_ ?_⟩
  · rintro i G hi ⟨us, ps, B, hl9, zq⟩
    have hul : us.length ≤ 1000 := by have := B.len; omega
    refine ⟨rfl, tyes ?_⟩
    refine ⟨_, rfl, l, s, rfl, B.1, fun v p G' hp z1 z2 S' e' => ?_⟩
    have B1 := B.fr lastsPr e' S'
    refine ⟨us, B1.at, le1000 hul, _, _, B1.app lastsPr hp, by rw [List.length_append, hl9]; rfl, fun x hx => ?_⟩
    rcases List.mem_append.mp hx with hx | hx
    · exact zq x hx
    · rw [List.mem_singleton.mp hx]
      exact ⟨z1, z2⟩
  rintro G0 ⟨us, ps, B, hl9, zq⟩
  have nDs := B.2.2.1
  have hlu := B.len
  have SG := B.1
  have atD := B.at
  have allp := B.all
  clear B S1 e1 hS
  match ps, hl9 with
  | [p1, p2, p3], _ =>
  match us, hlu with
  | [v1, v2, v3], _ =>
  obtain ⟨b1, x1, y1, rfl, k1, q1, r1⟩ := allp.2 0 _ _ rfl rfl
  obtain ⟨b2, x2, y2, rfl, k2, q2, r2⟩ := allp.2 1 _ _ rfl rfl
  obtain ⟨b3, x3, y3, rfl, k3, q3, r3⟩ := allp.2 2 _ _ rfl rfl
  obtain ⟨z11, z12⟩ := zq p1 (by simp)
  obtain ⟨z21, z22⟩ := zq p2 (by simp)
  obtain ⟨z31, z32⟩ := zq p3 (by simp)
  clear allp zq
  have hDx : SqL K G0 D [.ref b1, .ref b2, .ref b3] := SqL.of atD
  dsimp only [gName]
  refine cutG (fun σ' G => ∃ (R : Addr) (rs : List V) (qs : List Rat), σ' = [some (.ref sa), some (.ref s), some (.ref D), none, some (.ref R), none] ∧ Sto l s G ∧ Fr s G0 G ∧ G R = some (.lst rs) ∧ R ≠ s ∧ All2 (Rq K G) rs qs ∧ (∀ q ∈ qs, Sz 52 q) ∧ qs.length = 40) ?_ ?_
  rotate_left
  · intro u' key
    refine ⟨_, rfl, D, _, _, _, rfl, rfl, hDx, at0 rfl, b1, _, _, _, rfl, rfl, k1, at0 rfl, _, rfl, D, _, _, _, rfl, rfl, hDx, at0 rfl, b1, _, _, _, rfl, rfl, k1, at1 rfl, _, rfl, D, _, _, _, rfl, rfl, hDx, at1 rfl, b2, _, _, _, rfl, rfl, k2, at0 rfl, sz3, fun L1 hL1 => ?_⟩
    have s1 := same_new hL1 (.lst [.ref x1, .ref y1, .ref x2])
    have hL : (upd G0 L1 (.lst [.ref x1, .ref y1, .ref x2])) L1 = some (.lst [.ref x1, .ref y1, .ref x2]) := upd_same
    have SG1 := SG.same s1
    have nL1 := SG.ne hL1
    generalize upd G0 L1 (.lst [.ref x1, .ref y1, .ref x2]) = G1 at s1 hL SG1 ⊢
    refine ⟨36, rfl, by decide, by decide, fun L2 hL2 => lc_range (lo := 0) (n := 36) (fun i G => ∃ (us : List V) (qs : List Rat), Bun (Rq K) l s L2 G1 us qs G ∧ qs.length = i ∧ ∀ q ∈ qs, Sz 52 q)
      ⟨[], [], Bun.start SG1 (Fr.refl _ _) hL2, rfl, nofun⟩ ?_ ?_⟩
    · rintro i G hi ⟨us, qs, B, hl9, zq⟩
      have hul : us.length ≤ 1000 := by have := B.len; omega
      refine ⟨rfl, tyes ?_⟩
      refine ⟨_, rfl, l, s, rfl, B.1, fun v G' qv S' e' => ?_⟩
      obtain ⟨q, rq, zq1, _⟩ := qv
      have B1 := B.fr lastsQ e' S'
      refine ⟨us, B1.at, le1000 hul, _, _, B1.app lastsQ rq, by rw [List.length_append, hl9]; rfl, fun x hx => ?_⟩
      rcases List.mem_append.mp hx with hx | hx
      · exact zq x hx
      · rw [List.mem_singleton.mp hx]
        exact zq1.mono (by decide)
    rintro G2 ⟨us, qs, B, hl9, zq⟩
    have SG2 := B.1
    have f2 := (Fr.of (s := s) s1).trans B.2.1
    have at2 := B.at
    have hL2' := B.2.1 _ _ hL nL1
    have hlu := B.len
    refine ⟨L1, L2, [.ref x1, .ref y1, .ref x2], us, rfl, rfl, hL2', at2, by have : sizeLine = 16777216 := sizeLine_eq; show 3 + us.length ≤ _; omega, fun L3 hL3 => ?_⟩
    have s3 := same_new hL3 (.lst ([.ref x1, .ref y1, .ref x2] ++ us))
    have f3 := f2.trans (Fr.of s3)
    have hk2 := sqt_fr f3 SG.some k2
    have hDx3 := seq_fr f3 nDs hDx
    have h3 : (upd G2 L3 (.lst ([.ref x1, .ref y1, .ref x2] ++ us))) L3 = some (.lst ([.ref x1, .ref y1, .ref x2] ++ us)) := upd_same
    have all3 : All2 (Rq K (upd G2 L3 (.lst ([.ref x1, .ref y1, .ref x2] ++ us)))) us qs := B.all.imp fun _ _ h => h.same s3
    have SG3 := SG2.same s3
    have nL3 := SG2.ne hL3
    generalize upd G2 L3 (.lst ([.ref x1, .ref y1, .ref x2] ++ us)) = G3 at s3 f3 hk2 hDx3 h3 all3 SG3 ⊢
    refine ⟨_, rfl, D, _, _, _, rfl, rfl, hDx3, at1 rfl, b2, _, _, _, rfl, rfl, hk2, at1 rfl, sz1, fun L4 hL4 => ?_⟩
    have s4 := same_new hL4 (.lst [V.ref y2])
    have h34 := s4 _ _ h3
    refine ⟨L3, L4, _, [.ref y2], rfl, rfl, h34, upd_same, by have : sizeLine = 16777216 := sizeLine_eq; rw [List.length_append]; show 3 + us.length + 1 ≤ _; omega, fun L5 hL5 => ?_⟩
    have s5 := same_new hL5 (.lst ([.ref x1, .ref y1, .ref x2] ++ us ++ [.ref y2]))
    have s45 := s4.trans s5
    have f5 := f3.trans (Fr.of s45)
    have SG5 := SG3.same s45
    refine key _ _ ⟨L5, _, [p1.1, p1.2, p2.1] ++ qs ++ [p2.2], rfl, SG5, f5, upd_same, (SG3.same s4).ne hL5, ?_, ?_, ?_⟩
    · have e1 := q1.fr f5 SG.some
      have e2 := r1.fr f5 SG.some
      have e3 := q2.fr f5 SG.some
      have e4 := r2.fr f5 SG.some
      exact ((all2_3 e1 e2 e3).append (all3.imp fun _ _ h => h.same s45)).snoc e4
    · intro q hq
      rcases List.mem_append.mp hq with hq | hq
      · rcases List.mem_append.mp hq with hq | hq
        · simp only [List.mem_cons, List.not_mem_nil, or_false] at hq
          rcases hq with rfl | rfl | rfl
          · exact z11
          · exact z12
          · exact z21
        · exact zq q hq
      · rw [List.mem_singleton.mp hq]; exact z22
    · rw [List.length_append, List.length_append, hl9]; rfl
  rintro σ G1 ⟨R, rs, qs, rfl, S1, f1, hR, nRs, allR, zR, lR⟩
  have hDx1 := seq_fr f1 nDs hDx
  have pairs : ∀ x ∈ [V.ref b1, V.ref b2, V.ref b3], ∃ p, Pr K G1 x p ∧ Sz 52 p.1 ∧ Sz 52 p.2 := fun x hx => by
    simp only [List.mem_cons, List.not_mem_nil, or_false] at hx
    rcases hx with rfl | rfl | rfl
    · exact ⟨p1, Pr.fr f1 SG.some ⟨b1, x1, y1, rfl, k1, q1, r1⟩, z11, z12⟩
    · exact ⟨p2, Pr.fr f1 SG.some ⟨b2, x2, y2, rfl, k2, q2, r2⟩, z21, z22⟩
    · exact ⟨p3, Pr.fr f1 SG.some ⟨b3, x3, y3, rfl, k3, q3, r3⟩, z31, z32⟩
  clear k1 k2 k3 q1 q2 q3 r1 r2 r3 z11 z12 z21 z22 z31 z32 hDx atD SG
  refine cutG (fun σ' G => ∃ k5, σ' = [some (.ref sa), some (.ref s), some (.ref D), none, some (.ref R), k5] ∧ Same G1 G) ?_ ?_
  rotate_left
  · intro u' key
    refine ⟨_, rfl, D, rfl, ⟨_, hDx1⟩, forL (K := K) (a := D) (xs := [V.ref b1, V.ref b2, V.ref b3]) (fun i σ G => Hold (∃ k5, σ = [some (.ref sa), some (.ref s), some (.ref D), none, some (.ref R), k5] ∧ Same G1 G)) ⟨none, rfl, Same.refl _⟩ (fun i σ G _ h => by obtain ⟨_, _, s⟩ := h; exact s.seq hDx1) ?_ ?_⟩
    · rintro i x σ G hx ⟨k5, rfl, s2⟩
      obtain ⟨p, hp, z1, z2⟩ := pairs x (List.mem_of_getElem? hx)
      obtain ⟨pa, xa, ya, rfl, h1, h2, h3⟩ := hp.same s2
      have w1 := z1.mono (show 52 ≤ 1000 by decide)
      have w2 := z2.mono (show 52 ≤ 1000 by decide)
      have w0 : Sz 1000 (0 : Rat) := by decide +kernel
      clear hx pairs z1 z2 hp
      (walk_at "vk_vc")
      exact ⟨⟨_, rfl, s2.trans (by (walk_at "vk_same"))⟩⟩
    · rintro σ G ⟨k5, rfl, s2⟩
      exact key _ _ ⟨k5, rfl, s2⟩
  rintro σ G2 ⟨k5, rfl, s2⟩
  have S2 := S1.same s2
  have hR2 := s2 _ _ hR
  have allR2 := allR.imp fun _ _ h => h.same s2
  have hRx : SqL K G2 R rs := SqL.of hR2
  (walk_at "vk_vc")
  · exact allR2.imp fun _ _ h => Rq.same e h
  intro D3 us3 os3 G3 S3 e3 h3 all3 z3 l3 n3
  have l3' : os3.length = 40 := by rw [l3]; exact lR
  have h3x : SqL K G3 D3 us3 := SqL.of h3
  (walk_at "vk_vc")
end Vk

namespace Vk
open PySem PySem.Calls PySem.HandSPX L2 Vm Vl
variable {K : PySem.W.Frag} {mg : Str → Option Value}
abbrev CnZERO (K : PySem.W.Frag) (mg : Str → Option Value) (a : Addr) := Cn K mg "ZERO" 0 a
theorem cnZERO {a : Addr} (m : mg "ZERO" = some (.ref a)) (h : ∀ H, SqT K H a [.int 0, .int 1]) : CnZERO K mg a := ⟨m, fun H => ⟨a, rfl, by rw [show (0 : Rat).num = 0 by decide +kernel, show ((0 : Rat).den : Int) = 1 by decide +kernel]; exact h H⟩⟩
theorem fun_of_d {x : Str} {st : Stmt} {f : Addr} {fd : FuncData} (F : FunD K x x (defArgs st) (defBody st) (defScope st) [] [] f fd) : Fun K x x st f fd := by
  obtain ⟨oc, od, dV, kV, doc, pm, an, cdv, ct, osl, rfl, lk, hcd, hD, hK⟩ := F.ex
  rcases hD with ⟨_, rfl⟩ | ⟨e, _⟩
  · exact ⟨⟨oc, od, kV, doc, pm, an, cdv, ct, osl, rfl, lk, hcd⟩, F.kp⟩
  · cases e rfl
end Vk

namespace Vk
open PySem PySem.Calls PySem.HandSPX L2 Vm Vl

theorem law_ok {P : Program} {w : World} {K : PySem.W.Frag} {mg : Str → Option Value} {base : Heap} {f_is_whole : Addr} {fd_is_whole : FuncData} {f_is_rational : Addr} {fd_is_rational : FuncData} {f_rational : Addr} {fd_rational : FuncData} {f_add : Addr} {fd_add : FuncData} {f_subtract : Addr} {fd_subtract : FuncData} {f_multiply : Addr} {fd_multiply : FuncData} {f_negate : Addr} {fd_negate : FuncData} {f_divide : Addr} {fd_divide : FuncData} {f_distance : Addr} {fd_distance : FuncData} {f_compare : Addr} {fd_compare : FuncData} {f_smaller : Addr} {fd_smaller : FuncData} {f_larger : Addr} {fd_larger : FuncData} {f_total : Addr} {fd_total : FuncData} {f_floor_of : Addr} {fd_floor_of : FuncData} {f__law_store : Addr} {fd__law_store : FuncData} {f__law_feed : Addr} {fd__law_feed : FuncData} {f__law_mixed : Addr} {fd__law_mixed : FuncData} {f__law_take : Addr} {fd__law_take : FuncData} {f__law_pick : Addr} {fd__law_pick : FuncData} {f__law_shuffled : Addr} {fd__law_shuffled : FuncData} {f__law_is_int : Addr} {fd__law_is_int : FuncData} {f__law_same : Addr} {fd__law_same : FuncData} {f__law_frac : Addr} {fd__law_frac : FuncData} {f__law_plus : Addr} {fd__law_plus : FuncData} {f__law_minus : Addr} {fd__law_minus : FuncData} {f__law_is_frac : Addr} {fd__law_is_frac : FuncData} {f__law_ratio : Addr} {fd__law_ratio : FuncData} {f__law_part : Addr} {fd__law_part : FuncData} {f__law_near : Addr} {fd__law_near : FuncData} {f__law_alone : Addr} {fd__law_alone : FuncData} {f__law_two : Addr} {fd__law_two : FuncData} {f__law_worth : Addr} {fd__law_worth : FuncData} {f__law_sign : Addr} {fd__law_sign : FuncData} {f__law_divided : Addr} {fd__law_divided : FuncData} {f__law_signs_right : Addr} {fd__law_signs_right : FuncData} {f__law_quotient_right : Addr} {fd__law_quotient_right : FuncData} {f__law_order_right : Addr} {fd__law_order_right : FuncData} {f__law_few_totals : Addr} {fd__law_few_totals : FuncData} {f__law_many_totals : Addr} {fd__law_many_totals : FuncData} {f__law_most_totals : Addr} {fd__law_most_totals : FuncData} {f__law_totals_right : Addr} {fd__law_totals_right : FuncData} {f__law_product : Addr} {fd__law_product : FuncData} {f__law_great_right : Addr} {fd__law_great_right : FuncData} {f_law : Addr} {fd_law : FuncData} (T : Bn mg) {aZERO : Addr} (ZZERO : CnZERO K mg aZERO)
    (h_rational : FunA K "rational" "rational" s_rational f_rational fd_rational) (m_rational : mg "rational" = some (.ref f_rational)) (b_rational : Binds K fd_rational ps_rational [])
    (h_total : Fun K "total" "total" s_total f_total fd_total) (m_total : mg "total" = some (.ref f_total))
    {C_VerdictError : Addr}
    {C_ZeroDivisor : Addr}
    {C_BadNumber : Addr}
    {C_EmptySpan : Addr}
    {C_BeforeStart : Addr}
    {C_TurnsBack : Addr}
    {C_BadRate : Addr}
    {C_BadBound : Addr}
    {C_BadName : Addr}
    {C_DuplicateName : Addr}
    {C_UnknownName : Addr}
    {C_BadLink : Addr}
    {C_UnknownLink : Addr}
    {C_BadNote : Addr}
    {C_UnknownMoment : Addr}
    {C_NoWorld : Addr}
    {C_OutsideSpan : Addr}
    {C_TooManyLiars : Addr}
    {C_RootFollows : Addr}
    {C_Condemned : Addr}
    {C_BadDate : Addr}
    {C_BadLeap : Addr}
    {C_BadLabel : Addr}
    {C_NoSuchSecond : Addr}
    {C_BadCells : Addr}
    {C_RefusedEntry : Addr}
    {C_DuplicateTag : Addr}
    {C_UnknownTag : Addr}
    {C_BadLine : Addr}
    {C_NothingToUndo : Addr}
    {C_NothingToRedo : Addr}
    (EZeroDivisor : ExcC K C_ZeroDivisor)
    (GVerdictError : mg "VerdictError" = some (.ref C_VerdictError))
    (GZeroDivisor : mg "ZeroDivisor" = some (.ref C_ZeroDivisor))
    (GBadNumber : mg "BadNumber" = some (.ref C_BadNumber))
    (GEmptySpan : mg "EmptySpan" = some (.ref C_EmptySpan))
    (GBeforeStart : mg "BeforeStart" = some (.ref C_BeforeStart))
    (GTurnsBack : mg "TurnsBack" = some (.ref C_TurnsBack))
    (GBadRate : mg "BadRate" = some (.ref C_BadRate))
    (GBadBound : mg "BadBound" = some (.ref C_BadBound))
    (GBadName : mg "BadName" = some (.ref C_BadName))
    (GDuplicateName : mg "DuplicateName" = some (.ref C_DuplicateName))
    (GUnknownName : mg "UnknownName" = some (.ref C_UnknownName))
    (GBadLink : mg "BadLink" = some (.ref C_BadLink))
    (GUnknownLink : mg "UnknownLink" = some (.ref C_UnknownLink))
    (GBadNote : mg "BadNote" = some (.ref C_BadNote))
    (GUnknownMoment : mg "UnknownMoment" = some (.ref C_UnknownMoment))
    (GNoWorld : mg "NoWorld" = some (.ref C_NoWorld))
    (GOutsideSpan : mg "OutsideSpan" = some (.ref C_OutsideSpan))
    (GTooManyLiars : mg "TooManyLiars" = some (.ref C_TooManyLiars))
    (GRootFollows : mg "RootFollows" = some (.ref C_RootFollows))
    (GCondemned : mg "Condemned" = some (.ref C_Condemned))
    (GBadDate : mg "BadDate" = some (.ref C_BadDate))
    (GBadLeap : mg "BadLeap" = some (.ref C_BadLeap))
    (GBadLabel : mg "BadLabel" = some (.ref C_BadLabel))
    (GNoSuchSecond : mg "NoSuchSecond" = some (.ref C_NoSuchSecond))
    (GBadCells : mg "BadCells" = some (.ref C_BadCells))
    (GRefusedEntry : mg "RefusedEntry" = some (.ref C_RefusedEntry))
    (GDuplicateTag : mg "DuplicateTag" = some (.ref C_DuplicateTag))
    (GUnknownTag : mg "UnknownTag" = some (.ref C_UnknownTag))
    (GBadLine : mg "BadLine" = some (.ref C_BadLine))
    (GNothingToUndo : mg "NothingToUndo" = some (.ref C_NothingToUndo))
    (GNothingToRedo : mg "NothingToRedo" = some (.ref C_NothingToRedo))
    (Ie_ZeroDivisor_VerdictError : PySem.W.exmOne K (.ref C_ZeroDivisor) (.ref C_VerdictError) = some true)
    (Ik_ZeroDivisor_ZeroDivisor : PySem.W.kitOne K (.ref C_ZeroDivisor) (.ref C_ZeroDivisor) = some true)
    (Ik_ZeroDivisor_BadNumber : PySem.W.kitOne K (.ref C_ZeroDivisor) (.ref C_BadNumber) = some false)
    (Ik_ZeroDivisor_EmptySpan : PySem.W.kitOne K (.ref C_ZeroDivisor) (.ref C_EmptySpan) = some false)
    (Ik_ZeroDivisor_BeforeStart : PySem.W.kitOne K (.ref C_ZeroDivisor) (.ref C_BeforeStart) = some false)
    (Ik_ZeroDivisor_TurnsBack : PySem.W.kitOne K (.ref C_ZeroDivisor) (.ref C_TurnsBack) = some false)
    (Ik_ZeroDivisor_BadRate : PySem.W.kitOne K (.ref C_ZeroDivisor) (.ref C_BadRate) = some false)
    (Ik_ZeroDivisor_BadBound : PySem.W.kitOne K (.ref C_ZeroDivisor) (.ref C_BadBound) = some false)
    (Ik_ZeroDivisor_BadName : PySem.W.kitOne K (.ref C_ZeroDivisor) (.ref C_BadName) = some false)
    (Ik_ZeroDivisor_DuplicateName : PySem.W.kitOne K (.ref C_ZeroDivisor) (.ref C_DuplicateName) = some false)
    (Ik_ZeroDivisor_UnknownName : PySem.W.kitOne K (.ref C_ZeroDivisor) (.ref C_UnknownName) = some false)
    (Ik_ZeroDivisor_BadLink : PySem.W.kitOne K (.ref C_ZeroDivisor) (.ref C_BadLink) = some false)
    (Ik_ZeroDivisor_UnknownLink : PySem.W.kitOne K (.ref C_ZeroDivisor) (.ref C_UnknownLink) = some false)
    (Ik_ZeroDivisor_BadNote : PySem.W.kitOne K (.ref C_ZeroDivisor) (.ref C_BadNote) = some false)
    (Ik_ZeroDivisor_UnknownMoment : PySem.W.kitOne K (.ref C_ZeroDivisor) (.ref C_UnknownMoment) = some false)
    (Ik_ZeroDivisor_NoWorld : PySem.W.kitOne K (.ref C_ZeroDivisor) (.ref C_NoWorld) = some false)
    (Ik_ZeroDivisor_OutsideSpan : PySem.W.kitOne K (.ref C_ZeroDivisor) (.ref C_OutsideSpan) = some false)
    (Ik_ZeroDivisor_TooManyLiars : PySem.W.kitOne K (.ref C_ZeroDivisor) (.ref C_TooManyLiars) = some false)
    (Ik_ZeroDivisor_RootFollows : PySem.W.kitOne K (.ref C_ZeroDivisor) (.ref C_RootFollows) = some false)
    (Ik_ZeroDivisor_Condemned : PySem.W.kitOne K (.ref C_ZeroDivisor) (.ref C_Condemned) = some false)
    (Ik_ZeroDivisor_BadDate : PySem.W.kitOne K (.ref C_ZeroDivisor) (.ref C_BadDate) = some false)
    (Ik_ZeroDivisor_BadLeap : PySem.W.kitOne K (.ref C_ZeroDivisor) (.ref C_BadLeap) = some false)
    (Ik_ZeroDivisor_BadLabel : PySem.W.kitOne K (.ref C_ZeroDivisor) (.ref C_BadLabel) = some false)
    (Ik_ZeroDivisor_NoSuchSecond : PySem.W.kitOne K (.ref C_ZeroDivisor) (.ref C_NoSuchSecond) = some false)
    (Ik_ZeroDivisor_BadCells : PySem.W.kitOne K (.ref C_ZeroDivisor) (.ref C_BadCells) = some false)
    (Ik_ZeroDivisor_RefusedEntry : PySem.W.kitOne K (.ref C_ZeroDivisor) (.ref C_RefusedEntry) = some false)
    (Ik_ZeroDivisor_DuplicateTag : PySem.W.kitOne K (.ref C_ZeroDivisor) (.ref C_DuplicateTag) = some false)
    (Ik_ZeroDivisor_UnknownTag : PySem.W.kitOne K (.ref C_ZeroDivisor) (.ref C_UnknownTag) = some false)
    (Ik_ZeroDivisor_BadLine : PySem.W.kitOne K (.ref C_ZeroDivisor) (.ref C_BadLine) = some false)
    (Ik_ZeroDivisor_NothingToUndo : PySem.W.kitOne K (.ref C_ZeroDivisor) (.ref C_NothingToUndo) = some false)
    (Ik_ZeroDivisor_NothingToRedo : PySem.W.kitOne K (.ref C_ZeroDivisor) (.ref C_NothingToRedo) = some false)
    (h_is_whole : Fn K mg "is_whole" s_is_whole ps_is_whole f_is_whole fd_is_whole)
    (h_is_rational : Fn K mg "is_rational" s_is_rational ps_is_rational f_is_rational fd_is_rational)
    (h_add : Fn K mg "add" s_add ps_add f_add fd_add)
    (h_subtract : Fn K mg "subtract" s_subtract ps_subtract f_subtract fd_subtract)
    (h_multiply : Fn K mg "multiply" s_multiply ps_multiply f_multiply fd_multiply)
    (h_negate : Fn K mg "negate" s_negate ps_negate f_negate fd_negate)
    (h_divide : Fn K mg "divide" s_divide ps_divide f_divide fd_divide)
    (h_distance : Fn K mg "distance" s_distance ps_distance f_distance fd_distance)
    (h_compare : Fn K mg "compare" s_compare ps_compare f_compare fd_compare)
    (h_smaller : Fn K mg "smaller" s_smaller ps_smaller f_smaller fd_smaller)
    (h_larger : Fn K mg "larger" s_larger ps_larger f_larger fd_larger)
    (h_floor_of : Fn K mg "floor_of" s_floor_of ps_floor_of f_floor_of fd_floor_of)
    (h__law_store : Fn K mg "_law_store" s__law_store ps__law_store f__law_store fd__law_store)
    (h__law_feed : Fn K mg "_law_feed" s__law_feed ps__law_feed f__law_feed fd__law_feed)
    (h__law_mixed : Fn K mg "_law_mixed" s__law_mixed ps__law_mixed f__law_mixed fd__law_mixed)
    (h__law_take : Fn K mg "_law_take" s__law_take ps__law_take f__law_take fd__law_take)
    (h__law_pick : Fn K mg "_law_pick" s__law_pick ps__law_pick f__law_pick fd__law_pick)
    (h__law_shuffled : Fn K mg "_law_shuffled" s__law_shuffled ps__law_shuffled f__law_shuffled fd__law_shuffled)
    (h__law_is_int : Fn K mg "_law_is_int" s__law_is_int ps__law_is_int f__law_is_int fd__law_is_int)
    (h__law_same : Fn K mg "_law_same" s__law_same ps__law_same f__law_same fd__law_same)
    (h__law_frac : Fn K mg "_law_frac" s__law_frac ps__law_frac f__law_frac fd__law_frac)
    (h__law_plus : Fn K mg "_law_plus" s__law_plus ps__law_plus f__law_plus fd__law_plus)
    (h__law_minus : Fn K mg "_law_minus" s__law_minus ps__law_minus f__law_minus fd__law_minus)
    (h__law_is_frac : Fn K mg "_law_is_frac" s__law_is_frac ps__law_is_frac f__law_is_frac fd__law_is_frac)
    (h__law_ratio : Fn K mg "_law_ratio" s__law_ratio ps__law_ratio f__law_ratio fd__law_ratio)
    (h__law_part : Fn K mg "_law_part" s__law_part ps__law_part f__law_part fd__law_part)
    (h__law_near : Fn K mg "_law_near" s__law_near ps__law_near f__law_near fd__law_near)
    (h__law_alone : Fn K mg "_law_alone" s__law_alone ps__law_alone f__law_alone fd__law_alone)
    (h__law_two : Fn K mg "_law_two" s__law_two ps__law_two f__law_two fd__law_two)
    (h__law_worth : Fn K mg "_law_worth" s__law_worth ps__law_worth f__law_worth fd__law_worth)
    (h__law_sign : Fn K mg "_law_sign" s__law_sign ps__law_sign f__law_sign fd__law_sign)
    (h__law_divided : Fn K mg "_law_divided" s__law_divided ps__law_divided f__law_divided fd__law_divided)
    (h__law_signs_right : Fn K mg "_law_signs_right" s__law_signs_right ps__law_signs_right f__law_signs_right fd__law_signs_right)
    (h__law_quotient_right : Fn K mg "_law_quotient_right" s__law_quotient_right ps__law_quotient_right f__law_quotient_right fd__law_quotient_right)
    (h__law_order_right : Fn K mg "_law_order_right" s__law_order_right ps__law_order_right f__law_order_right fd__law_order_right)
    (h__law_few_totals : Fn K mg "_law_few_totals" s__law_few_totals ps__law_few_totals f__law_few_totals fd__law_few_totals)
    (h__law_many_totals : Fn K mg "_law_many_totals" s__law_many_totals ps__law_many_totals f__law_many_totals fd__law_many_totals)
    (h__law_most_totals : Fn K mg "_law_most_totals" s__law_most_totals ps__law_most_totals f__law_most_totals fd__law_most_totals)
    (h__law_totals_right : Fn K mg "_law_totals_right" s__law_totals_right ps__law_totals_right f__law_totals_right fd__law_totals_right)
    (h__law_product : Fn K mg "_law_product" s__law_product ps__law_product f__law_product fd__law_product)
    (h__law_great_right : Fn K mg "_law_great_right" s__law_great_right ps__law_great_right f__law_great_right fd__law_great_right)
    (h_law : Fn K mg "law" s_law ps_law f_law fd_law)
    (XV : mg "ValueError" = none) (XKZ : PySem.W.kitOne K (.ref C_ZeroDivisor) (.type "ValueError") = some true) (XX : PySem.W.excIn K C_ZeroDivisor [.type "ValueError", .type "Exception", .type "BaseException", .type "object"] "ValueError.__new__" = true) (XP : PySem.W.keepIn K (.ref C_ZeroDivisor) = true) (XB : PySem.W.subIn K (.ref C_ZeroDivisor) (.type "BaseException") = some true) (XT : PySem.W.typeIn K (.ref C_ZeroDivisor) = some (.type "type"))
    : FnOk P w K mg base CX0 9 f_law fd_law ps_law (spLaw K) := by
  have CL : CG mg C_ZeroDivisor C_BadNumber C_EmptySpan C_BeforeStart C_TurnsBack C_BadRate C_BadBound C_BadName C_DuplicateName C_UnknownName C_BadLink C_UnknownLink C_BadNote C_UnknownMoment C_NoWorld C_OutsideSpan C_TooManyLiars C_RootFollows C_Condemned C_BadDate C_BadLeap C_BadLabel C_NoSuchSecond C_BadCells C_RefusedEntry C_DuplicateTag C_UnknownTag C_BadLine C_NothingToUndo C_NothingToRedo C_VerdictError := ⟨GZeroDivisor, GBadNumber, GEmptySpan, GBeforeStart, GTurnsBack, GBadRate, GBadBound, GBadName, GDuplicateName, GUnknownName, GBadLink, GUnknownLink, GBadNote, GUnknownMoment, GNoWorld, GOutsideSpan, GTooManyLiars, GRootFollows, GCondemned, GBadDate, GBadLeap, GBadLabel, GNoSuchSecond, GBadCells, GRefusedEntry, GDuplicateTag, GUnknownTag, GBadLine, GNothingToUndo, GNothingToRedo, GVerdictError, XV⟩
  have AZ : Ak K C_ZeroDivisor C_BadNumber C_EmptySpan C_BeforeStart C_TurnsBack C_BadRate C_BadBound C_BadName C_DuplicateName C_UnknownName C_BadLink C_UnknownLink C_BadNote C_UnknownMoment C_NoWorld C_OutsideSpan C_TooManyLiars C_RootFollows C_Condemned C_BadDate C_BadLeap C_BadLabel C_NoSuchSecond C_BadCells C_RefusedEntry C_DuplicateTag C_UnknownTag C_BadLine C_NothingToUndo C_NothingToRedo 0 C_ZeroDivisor := ⟨EZeroDivisor, Ik_ZeroDivisor_ZeroDivisor, Ik_ZeroDivisor_BadNumber, Ik_ZeroDivisor_EmptySpan, Ik_ZeroDivisor_BeforeStart, Ik_ZeroDivisor_TurnsBack, Ik_ZeroDivisor_BadRate, Ik_ZeroDivisor_BadBound, Ik_ZeroDivisor_BadName, Ik_ZeroDivisor_DuplicateName, Ik_ZeroDivisor_UnknownName, Ik_ZeroDivisor_BadLink, Ik_ZeroDivisor_UnknownLink, Ik_ZeroDivisor_BadNote, Ik_ZeroDivisor_UnknownMoment, Ik_ZeroDivisor_NoWorld, Ik_ZeroDivisor_OutsideSpan, Ik_ZeroDivisor_TooManyLiars, Ik_ZeroDivisor_RootFollows, Ik_ZeroDivisor_Condemned, Ik_ZeroDivisor_BadDate, Ik_ZeroDivisor_BadLeap, Ik_ZeroDivisor_BadLabel, Ik_ZeroDivisor_NoSuchSecond, Ik_ZeroDivisor_BadCells, Ik_ZeroDivisor_RefusedEntry, Ik_ZeroDivisor_DuplicateTag, Ik_ZeroDivisor_UnknownTag, Ik_ZeroDivisor_BadLine, Ik_ZeroDivisor_NothingToUndo, Ik_ZeroDivisor_NothingToRedo, XKZ⟩
  have TZ : Zt K mg C_ZeroDivisor := ⟨GZeroDivisor, ⟨_, _, _, _, PySem.F.excBase_ValueError, XX⟩, XP, XB, XT⟩
  have rational := ok_rational (P := P) (w := w) (base := base) (k := 0) T h_rational m_rational b_rational
  have add := ok_add (P := P) (w := w) (base := base) (k := 0) T h_add
  have negate := ok_negate (P := P) (w := w) (base := base) (k := 0) h_negate
  have compare := ok_compare (P := P) (w := w) (base := base) (k := 0) h_compare
  have floor := ok_floor_of (P := P) (w := w) (base := base) (k := 0) h_floor_of
  have whole := ok_whole (P := P) (w := w) (base := base) (k := 0) T h_is_whole
  have israt := ok_is_rational T h_is_rational whole
  have subtract := ok_subtract h_subtract add negate
  have multiply := ok_multiply h_multiply rational
  have distance := ok_distance T h_distance subtract
  have smaller := ok_smaller h_smaller compare
  have larger := ok_larger h_larger compare
  have total := ok_total ZZERO h_total m_total add
  have rationalX := ok_rationalX (P := P) (w := w) (base := base) (k := 0) T TZ h_rational m_rational b_rational
  have divideX := ok_divideX h_divide rationalX
  have alone := ok_alone (P := P) (w := w) (base := base) (k := 1) T CL h__law_alone
  have divided := ok_divided T TZ GVerdictError AZ Ie_ZeroDivisor_VerdictError h__law_divided divideX alone
  have store := ok_store (P := P) (w := w) (base := base) (k := 0) T h__law_store
  have mixed := fun l => ok_mixed (l := l) (P := P) (w := w) (base := base) (k := 0) T h__law_mixed
  have feed := fun l => ok_feed (l := l) (P := P) (w := w) (base := base) (k := 0) T h__law_feed
  have take := fun l => ok_take T h__law_take (feed l) (mixed l)
  have pick := fun l => ok_pick T h__law_pick (take l)
  have is_int := ok_is_int (P := P) (w := w) (base := base) (k := 0) T h__law_is_int
  have same4 := ok_same T h__law_same is_int 4
  have frac := ok_frac (P := P) (w := w) (base := base) (k := 0) T h__law_frac
  have plus := ok_plus h__law_plus frac
  have minus := ok_minus h__law_minus frac
  have is_frac := ok_is_frac T h__law_is_frac is_int frac
  have ratio := fun l => ok_ratio h__law_ratio ((take l).up (by decide)) (pick l) (frac.up (by decide))
  have part := fun l => ok_part h__law_part ((take l).up (by decide)) (pick l) (frac.up (by decide))
  have near := fun l => ok_near h__law_near ((take l).up (by decide)) (pick l) (plus.up (by decide)) (minus.up (by decide))
  have worth := ok_worth h__law_worth is_frac
  have sign := ok_sign (P := P) (w := w) (base := base) (k := 0) T h__law_sign
  have signs := ok_signs (k := 6) T h__law_signs_right (add.up (by decide)) (subtract.up (by decide)) (multiply.up (by decide)) (negate.up (by decide)) (distance.up (by decide)) (is_frac.up (by decide)) (same4.up (by decide)) (worth.up (by decide))
  have quotient := ok_quotient (k := 6) T h__law_quotient_right (divided.up (by decide)) (same4.up (by decide)) (is_frac.up (by decide))
  have order := ok_order (k := 6) T h__law_order_right (sign.up (by decide)) (compare.up (by decide)) (same4.up (by decide)) (smaller.up (by decide)) (larger.up (by decide)) (add.up (by decide)) (is_frac.up (by decide)) (floor.up (by decide)) (is_int.up (by decide))
  have few := ok_law_few_totals h__law_few_totals total
  have many := ok_law_many_totals h__law_many_totals total
  have most := ok_law_most_totals h__law_most_totals total
  have totals := ok_totals_right T h__law_totals_right few many most (worth.up (by decide))
  have product := fun l => ok_product T h__law_product ((take l).up (by decide)) (pick l) (frac.up (by decide)) (multiply.up (by decide)) (worth.up (by decide))
  have great := fun l => ok_great (k := 7) T h__law_great_right ((pick l).up (by decide)) ((product l).up (by decide)) signs quotient order (add.up (by decide)) (subtract.up (by decide)) (multiply.up (by decide)) (same4.up (by decide)) (israt.up (by decide))
  have two := fun l => ok_two T h__law_two ((take l).up (by decide)) (ratio l) (part l) (near l)
  have shuffled := fun l => ok_shuffled T h__law_shuffled (take l)
  exact (ok_law (k := 8) T h_law (store.up (by decide)) (fun l => (two l).up (by decide)) (fun l => (part l).up (by decide)) (signs.up (by decide)) (quotient.up (by decide)) (order.up (by decide)) (totals.up (by decide)) (fun l => (shuffled l).up (by decide)) great).ok

section
open PySem PySem.W PySem.Calls PySem.HandSPX PyProof.Rows L2
set_option maxHeartbeats 0 in
theorem all_mkV {P : Program} {w : World} {K : PySem.W.Frag} {h : Heap} {mg : Str → Option Value} {fa : Addr} (X : K.In h) (G : h.Ns mainGlobals mg) (hfa : mg "law" = some (.ref fa)) (c : obsV faH fnH exK K = valV fnH) :
    ∃ fd : FuncData, (∀ (s : Shared) (v : Value), BindsTo s fd ⟨[v], []⟩ [("_law_script", v)]) ∧ ∀ base : Heap, K.In base → base.Ns mainGlobals mg → FnOk P w K mg base CX0 9 fa fd ["_law_script"] (spLaw K) := by
  have ex := saysV_ex c
  have g_is_whole : mg "is_whole" = some (.ref (He.ga K "is_whole")) := He.glo_ok X G (saysV_fact c 0 (f := .glo "is_whole") rfl)
  have g_is_rational : mg "is_rational" = some (.ref (He.ga K "is_rational")) := He.glo_ok X G (saysV_fact c 1 (f := .glo "is_rational") rfl)
  have g_rational : mg "rational" = some (.ref (He.ga K "rational")) := He.glo_ok X G (saysV_fact c 2 (f := .glo "rational") rfl)
  have g_add : mg "add" = some (.ref (He.ga K "add")) := He.glo_ok X G (saysV_fact c 3 (f := .glo "add") rfl)
  have g_subtract : mg "subtract" = some (.ref (He.ga K "subtract")) := He.glo_ok X G (saysV_fact c 4 (f := .glo "subtract") rfl)
  have g_multiply : mg "multiply" = some (.ref (He.ga K "multiply")) := He.glo_ok X G (saysV_fact c 5 (f := .glo "multiply") rfl)
  have g_negate : mg "negate" = some (.ref (He.ga K "negate")) := He.glo_ok X G (saysV_fact c 6 (f := .glo "negate") rfl)
  have g_divide : mg "divide" = some (.ref (He.ga K "divide")) := He.glo_ok X G (saysV_fact c 7 (f := .glo "divide") rfl)
  have g_distance : mg "distance" = some (.ref (He.ga K "distance")) := He.glo_ok X G (saysV_fact c 8 (f := .glo "distance") rfl)
  have g_compare : mg "compare" = some (.ref (He.ga K "compare")) := He.glo_ok X G (saysV_fact c 9 (f := .glo "compare") rfl)
  have g_smaller : mg "smaller" = some (.ref (He.ga K "smaller")) := He.glo_ok X G (saysV_fact c 10 (f := .glo "smaller") rfl)
  have g_larger : mg "larger" = some (.ref (He.ga K "larger")) := He.glo_ok X G (saysV_fact c 11 (f := .glo "larger") rfl)
  have g_total : mg "total" = some (.ref (He.ga K "total")) := He.glo_ok X G (saysV_fact c 12 (f := .glo "total") rfl)
  have g_floor_of : mg "floor_of" = some (.ref (He.ga K "floor_of")) := He.glo_ok X G (saysV_fact c 13 (f := .glo "floor_of") rfl)
  have g__law_store : mg "_law_store" = some (.ref (He.ga K "_law_store")) := He.glo_ok X G (saysV_fact c 14 (f := .glo "_law_store") rfl)
  have g__law_feed : mg "_law_feed" = some (.ref (He.ga K "_law_feed")) := He.glo_ok X G (saysV_fact c 15 (f := .glo "_law_feed") rfl)
  have g__law_mixed : mg "_law_mixed" = some (.ref (He.ga K "_law_mixed")) := He.glo_ok X G (saysV_fact c 16 (f := .glo "_law_mixed") rfl)
  have g__law_take : mg "_law_take" = some (.ref (He.ga K "_law_take")) := He.glo_ok X G (saysV_fact c 17 (f := .glo "_law_take") rfl)
  have g__law_pick : mg "_law_pick" = some (.ref (He.ga K "_law_pick")) := He.glo_ok X G (saysV_fact c 18 (f := .glo "_law_pick") rfl)
  have g__law_shuffled : mg "_law_shuffled" = some (.ref (He.ga K "_law_shuffled")) := He.glo_ok X G (saysV_fact c 19 (f := .glo "_law_shuffled") rfl)
  have g__law_is_int : mg "_law_is_int" = some (.ref (He.ga K "_law_is_int")) := He.glo_ok X G (saysV_fact c 20 (f := .glo "_law_is_int") rfl)
  have g__law_same : mg "_law_same" = some (.ref (He.ga K "_law_same")) := He.glo_ok X G (saysV_fact c 21 (f := .glo "_law_same") rfl)
  have g__law_frac : mg "_law_frac" = some (.ref (He.ga K "_law_frac")) := He.glo_ok X G (saysV_fact c 22 (f := .glo "_law_frac") rfl)
  have g__law_plus : mg "_law_plus" = some (.ref (He.ga K "_law_plus")) := He.glo_ok X G (saysV_fact c 23 (f := .glo "_law_plus") rfl)
  have g__law_minus : mg "_law_minus" = some (.ref (He.ga K "_law_minus")) := He.glo_ok X G (saysV_fact c 24 (f := .glo "_law_minus") rfl)
  have g__law_is_frac : mg "_law_is_frac" = some (.ref (He.ga K "_law_is_frac")) := He.glo_ok X G (saysV_fact c 25 (f := .glo "_law_is_frac") rfl)
  have g__law_ratio : mg "_law_ratio" = some (.ref (He.ga K "_law_ratio")) := He.glo_ok X G (saysV_fact c 26 (f := .glo "_law_ratio") rfl)
  have g__law_part : mg "_law_part" = some (.ref (He.ga K "_law_part")) := He.glo_ok X G (saysV_fact c 27 (f := .glo "_law_part") rfl)
  have g__law_near : mg "_law_near" = some (.ref (He.ga K "_law_near")) := He.glo_ok X G (saysV_fact c 28 (f := .glo "_law_near") rfl)
  have g__law_alone : mg "_law_alone" = some (.ref (He.ga K "_law_alone")) := He.glo_ok X G (saysV_fact c 29 (f := .glo "_law_alone") rfl)
  have g__law_two : mg "_law_two" = some (.ref (He.ga K "_law_two")) := He.glo_ok X G (saysV_fact c 30 (f := .glo "_law_two") rfl)
  have g__law_worth : mg "_law_worth" = some (.ref (He.ga K "_law_worth")) := He.glo_ok X G (saysV_fact c 31 (f := .glo "_law_worth") rfl)
  have g__law_sign : mg "_law_sign" = some (.ref (He.ga K "_law_sign")) := He.glo_ok X G (saysV_fact c 32 (f := .glo "_law_sign") rfl)
  have g__law_divided : mg "_law_divided" = some (.ref (He.ga K "_law_divided")) := He.glo_ok X G (saysV_fact c 33 (f := .glo "_law_divided") rfl)
  have g__law_signs_right : mg "_law_signs_right" = some (.ref (He.ga K "_law_signs_right")) := He.glo_ok X G (saysV_fact c 34 (f := .glo "_law_signs_right") rfl)
  have g__law_quotient_right : mg "_law_quotient_right" = some (.ref (He.ga K "_law_quotient_right")) := He.glo_ok X G (saysV_fact c 35 (f := .glo "_law_quotient_right") rfl)
  have g__law_order_right : mg "_law_order_right" = some (.ref (He.ga K "_law_order_right")) := He.glo_ok X G (saysV_fact c 36 (f := .glo "_law_order_right") rfl)
  have g__law_few_totals : mg "_law_few_totals" = some (.ref (He.ga K "_law_few_totals")) := He.glo_ok X G (saysV_fact c 37 (f := .glo "_law_few_totals") rfl)
  have g__law_many_totals : mg "_law_many_totals" = some (.ref (He.ga K "_law_many_totals")) := He.glo_ok X G (saysV_fact c 38 (f := .glo "_law_many_totals") rfl)
  have g__law_most_totals : mg "_law_most_totals" = some (.ref (He.ga K "_law_most_totals")) := He.glo_ok X G (saysV_fact c 39 (f := .glo "_law_most_totals") rfl)
  have g__law_totals_right : mg "_law_totals_right" = some (.ref (He.ga K "_law_totals_right")) := He.glo_ok X G (saysV_fact c 40 (f := .glo "_law_totals_right") rfl)
  have g__law_product : mg "_law_product" = some (.ref (He.ga K "_law_product")) := He.glo_ok X G (saysV_fact c 41 (f := .glo "_law_product") rfl)
  have g__law_great_right : mg "_law_great_right" = some (.ref (He.ga K "_law_great_right")) := He.glo_ok X G (saysV_fact c 42 (f := .glo "_law_great_right") rfl)
  have g_law : mg "law" = some (.ref (He.ga K "law")) := He.glo_ok X G (saysV_fact c 43 (f := .glo "law") rfl)
  have g_VerdictError : mg "VerdictError" = some (.ref (He.ga K "VerdictError")) := He.glo_ok X G (saysV_fact c 44 (f := .glo "VerdictError") rfl)
  have g_ZeroDivisor : mg "ZeroDivisor" = some (.ref (He.ga K "ZeroDivisor")) := He.glo_ok X G (saysV_fact c 45 (f := .glo "ZeroDivisor") rfl)
  have g_BadNumber : mg "BadNumber" = some (.ref (He.ga K "BadNumber")) := He.glo_ok X G (saysV_fact c 46 (f := .glo "BadNumber") rfl)
  have g_EmptySpan : mg "EmptySpan" = some (.ref (He.ga K "EmptySpan")) := He.glo_ok X G (saysV_fact c 47 (f := .glo "EmptySpan") rfl)
  have g_BeforeStart : mg "BeforeStart" = some (.ref (He.ga K "BeforeStart")) := He.glo_ok X G (saysV_fact c 48 (f := .glo "BeforeStart") rfl)
  have g_TurnsBack : mg "TurnsBack" = some (.ref (He.ga K "TurnsBack")) := He.glo_ok X G (saysV_fact c 49 (f := .glo "TurnsBack") rfl)
  have g_BadRate : mg "BadRate" = some (.ref (He.ga K "BadRate")) := He.glo_ok X G (saysV_fact c 50 (f := .glo "BadRate") rfl)
  have g_BadBound : mg "BadBound" = some (.ref (He.ga K "BadBound")) := He.glo_ok X G (saysV_fact c 51 (f := .glo "BadBound") rfl)
  have g_BadName : mg "BadName" = some (.ref (He.ga K "BadName")) := He.glo_ok X G (saysV_fact c 52 (f := .glo "BadName") rfl)
  have g_DuplicateName : mg "DuplicateName" = some (.ref (He.ga K "DuplicateName")) := He.glo_ok X G (saysV_fact c 53 (f := .glo "DuplicateName") rfl)
  have g_UnknownName : mg "UnknownName" = some (.ref (He.ga K "UnknownName")) := He.glo_ok X G (saysV_fact c 54 (f := .glo "UnknownName") rfl)
  have g_BadLink : mg "BadLink" = some (.ref (He.ga K "BadLink")) := He.glo_ok X G (saysV_fact c 55 (f := .glo "BadLink") rfl)
  have g_UnknownLink : mg "UnknownLink" = some (.ref (He.ga K "UnknownLink")) := He.glo_ok X G (saysV_fact c 56 (f := .glo "UnknownLink") rfl)
  have g_BadNote : mg "BadNote" = some (.ref (He.ga K "BadNote")) := He.glo_ok X G (saysV_fact c 57 (f := .glo "BadNote") rfl)
  have g_UnknownMoment : mg "UnknownMoment" = some (.ref (He.ga K "UnknownMoment")) := He.glo_ok X G (saysV_fact c 58 (f := .glo "UnknownMoment") rfl)
  have g_NoWorld : mg "NoWorld" = some (.ref (He.ga K "NoWorld")) := He.glo_ok X G (saysV_fact c 59 (f := .glo "NoWorld") rfl)
  have g_OutsideSpan : mg "OutsideSpan" = some (.ref (He.ga K "OutsideSpan")) := He.glo_ok X G (saysV_fact c 60 (f := .glo "OutsideSpan") rfl)
  have g_TooManyLiars : mg "TooManyLiars" = some (.ref (He.ga K "TooManyLiars")) := He.glo_ok X G (saysV_fact c 61 (f := .glo "TooManyLiars") rfl)
  have g_RootFollows : mg "RootFollows" = some (.ref (He.ga K "RootFollows")) := He.glo_ok X G (saysV_fact c 62 (f := .glo "RootFollows") rfl)
  have g_Condemned : mg "Condemned" = some (.ref (He.ga K "Condemned")) := He.glo_ok X G (saysV_fact c 63 (f := .glo "Condemned") rfl)
  have g_BadDate : mg "BadDate" = some (.ref (He.ga K "BadDate")) := He.glo_ok X G (saysV_fact c 64 (f := .glo "BadDate") rfl)
  have g_BadLeap : mg "BadLeap" = some (.ref (He.ga K "BadLeap")) := He.glo_ok X G (saysV_fact c 65 (f := .glo "BadLeap") rfl)
  have g_BadLabel : mg "BadLabel" = some (.ref (He.ga K "BadLabel")) := He.glo_ok X G (saysV_fact c 66 (f := .glo "BadLabel") rfl)
  have g_NoSuchSecond : mg "NoSuchSecond" = some (.ref (He.ga K "NoSuchSecond")) := He.glo_ok X G (saysV_fact c 67 (f := .glo "NoSuchSecond") rfl)
  have g_BadCells : mg "BadCells" = some (.ref (He.ga K "BadCells")) := He.glo_ok X G (saysV_fact c 68 (f := .glo "BadCells") rfl)
  have g_RefusedEntry : mg "RefusedEntry" = some (.ref (He.ga K "RefusedEntry")) := He.glo_ok X G (saysV_fact c 69 (f := .glo "RefusedEntry") rfl)
  have g_DuplicateTag : mg "DuplicateTag" = some (.ref (He.ga K "DuplicateTag")) := He.glo_ok X G (saysV_fact c 70 (f := .glo "DuplicateTag") rfl)
  have g_UnknownTag : mg "UnknownTag" = some (.ref (He.ga K "UnknownTag")) := He.glo_ok X G (saysV_fact c 71 (f := .glo "UnknownTag") rfl)
  have g_BadLine : mg "BadLine" = some (.ref (He.ga K "BadLine")) := He.glo_ok X G (saysV_fact c 72 (f := .glo "BadLine") rfl)
  have g_NothingToUndo : mg "NothingToUndo" = some (.ref (He.ga K "NothingToUndo")) := He.glo_ok X G (saysV_fact c 73 (f := .glo "NothingToUndo") rfl)
  have g_NothingToRedo : mg "NothingToRedo" = some (.ref (He.ga K "NothingToRedo")) := He.glo_ok X G (saysV_fact c 74 (f := .glo "NothingToRedo") rfl)
  have g_ZERO : mg "ZERO" = some (.ref (He.ga K "ZERO")) := He.glo_ok X G (saysV_fact c 75 (f := .glo "ZERO") rfl)
  have z_len : mg "len" = none := He.free_ok X G (saysV_fact c 76 (f := .free "len") rfl)
  have z_abs : mg "abs" = none := He.free_ok X G (saysV_fact c 77 (f := .free "abs") rfl)
  have z_max : mg "max" = none := He.free_ok X G (saysV_fact c 78 (f := .free "max") rfl)
  have z_int : mg "int" = none := He.free_ok X G (saysV_fact c 79 (f := .free "int") rfl)
  have z_isinstance : mg "isinstance" = none := He.free_ok X G (saysV_fact c 80 (f := .free "isinstance") rfl)
  have z_range : mg "range" = none := He.free_ok X G (saysV_fact c 81 (f := .free "range") rfl)
  have z_enumerate : mg "enumerate" = none := He.free_ok X G (saysV_fact c 82 (f := .free "enumerate") rfl)
  have z_list : mg "list" = none := He.free_ok X G (saysV_fact c 83 (f := .free "list") rfl)
  have z_tuple : mg "tuple" = none := He.free_ok X G (saysV_fact c 84 (f := .free "tuple") rfl)
  have z_str : mg "str" = none := He.free_ok X G (saysV_fact c 85 (f := .free "str") rfl)
  have z_bool : mg "bool" = none := He.free_ok X G (saysV_fact c 86 (f := .free "bool") rfl)
  have z_dict : mg "dict" = none := He.free_ok X G (saysV_fact c 87 (f := .free "dict") rfl)
  have z_ValueError : mg "ValueError" = none := He.free_ok X G (saysV_fact c 88 (f := .free "ValueError") rfl)
  obtain ⟨fd_is_whole, F_is_whole⟩ := saysV_def c 0 (d := dH_is_whole) rfl
  obtain ⟨fd_is_rational, F_is_rational⟩ := saysV_def c 1 (d := dH_is_rational) rfl
  obtain ⟨fd_rational, F_rational⟩ := saysV_def c 2 (d := dH_rational) rfl
  obtain ⟨fd_add, F_add⟩ := saysV_def c 3 (d := dH_add) rfl
  obtain ⟨fd_subtract, F_subtract⟩ := saysV_def c 4 (d := dH_subtract) rfl
  obtain ⟨fd_multiply, F_multiply⟩ := saysV_def c 5 (d := dH_multiply) rfl
  obtain ⟨fd_negate, F_negate⟩ := saysV_def c 6 (d := dH_negate) rfl
  obtain ⟨fd_divide, F_divide⟩ := saysV_def c 7 (d := dH_divide) rfl
  obtain ⟨fd_distance, F_distance⟩ := saysV_def c 8 (d := dH_distance) rfl
  obtain ⟨fd_compare, F_compare⟩ := saysV_def c 9 (d := dH_compare) rfl
  obtain ⟨fd_smaller, F_smaller⟩ := saysV_def c 10 (d := dH_smaller) rfl
  obtain ⟨fd_larger, F_larger⟩ := saysV_def c 11 (d := dH_larger) rfl
  obtain ⟨fd_total, F_total⟩ := saysV_def c 12 (d := dH_total) rfl
  obtain ⟨fd_floor_of, F_floor_of⟩ := saysV_def c 13 (d := dH_floor_of) rfl
  obtain ⟨fd__law_store, F__law_store⟩ := saysV_def c 14 (d := dH__law_store) rfl
  obtain ⟨fd__law_feed, F__law_feed⟩ := saysV_def c 15 (d := dH__law_feed) rfl
  obtain ⟨fd__law_mixed, F__law_mixed⟩ := saysV_def c 16 (d := dH__law_mixed) rfl
  obtain ⟨fd__law_take, F__law_take⟩ := saysV_def c 17 (d := dH__law_take) rfl
  obtain ⟨fd__law_pick, F__law_pick⟩ := saysV_def c 18 (d := dH__law_pick) rfl
  obtain ⟨fd__law_shuffled, F__law_shuffled⟩ := saysV_def c 19 (d := dH__law_shuffled) rfl
  obtain ⟨fd__law_is_int, F__law_is_int⟩ := saysV_def c 20 (d := dH__law_is_int) rfl
  obtain ⟨fd__law_same, F__law_same⟩ := saysV_def c 21 (d := dH__law_same) rfl
  obtain ⟨fd__law_frac, F__law_frac⟩ := saysV_def c 22 (d := dH__law_frac) rfl
  obtain ⟨fd__law_plus, F__law_plus⟩ := saysV_def c 23 (d := dH__law_plus) rfl
  obtain ⟨fd__law_minus, F__law_minus⟩ := saysV_def c 24 (d := dH__law_minus) rfl
  obtain ⟨fd__law_is_frac, F__law_is_frac⟩ := saysV_def c 25 (d := dH__law_is_frac) rfl
  obtain ⟨fd__law_ratio, F__law_ratio⟩ := saysV_def c 26 (d := dH__law_ratio) rfl
  obtain ⟨fd__law_part, F__law_part⟩ := saysV_def c 27 (d := dH__law_part) rfl
  obtain ⟨fd__law_near, F__law_near⟩ := saysV_def c 28 (d := dH__law_near) rfl
  obtain ⟨fd__law_alone, F__law_alone⟩ := saysV_def c 29 (d := dH__law_alone) rfl
  obtain ⟨fd__law_two, F__law_two⟩ := saysV_def c 30 (d := dH__law_two) rfl
  obtain ⟨fd__law_worth, F__law_worth⟩ := saysV_def c 31 (d := dH__law_worth) rfl
  obtain ⟨fd__law_sign, F__law_sign⟩ := saysV_def c 32 (d := dH__law_sign) rfl
  obtain ⟨fd__law_divided, F__law_divided⟩ := saysV_def c 33 (d := dH__law_divided) rfl
  obtain ⟨fd__law_signs_right, F__law_signs_right⟩ := saysV_def c 34 (d := dH__law_signs_right) rfl
  obtain ⟨fd__law_quotient_right, F__law_quotient_right⟩ := saysV_def c 35 (d := dH__law_quotient_right) rfl
  obtain ⟨fd__law_order_right, F__law_order_right⟩ := saysV_def c 36 (d := dH__law_order_right) rfl
  obtain ⟨fd__law_few_totals, F__law_few_totals⟩ := saysV_def c 37 (d := dH__law_few_totals) rfl
  obtain ⟨fd__law_many_totals, F__law_many_totals⟩ := saysV_def c 38 (d := dH__law_many_totals) rfl
  obtain ⟨fd__law_most_totals, F__law_most_totals⟩ := saysV_def c 39 (d := dH__law_most_totals) rfl
  obtain ⟨fd__law_totals_right, F__law_totals_right⟩ := saysV_def c 40 (d := dH__law_totals_right) rfl
  obtain ⟨fd__law_product, F__law_product⟩ := saysV_def c 41 (d := dH__law_product) rfl
  obtain ⟨fd__law_great_right, F__law_great_right⟩ := saysV_def c 42 (d := dH__law_great_right) rfl
  obtain ⟨fd_law, F_law⟩ := saysV_def c 43 (d := dH_law) rfl
  have e := hfa.symm.trans g_law
  cases e
  have T : Bn mg := ⟨gcd_ok X G (exK_at ex 0 rfl), z_len, z_abs, z_max, z_int, z_isinstance, z_range, z_enumerate, z_list, z_tuple, z_str, z_bool, z_dict⟩
  have ZZERO : CnZERO K mg (He.ga K "ZERO") := cnZERO g_ZERO (He.tupB_ok (exK_at ex 1 rfl))
  obtain ⟨ds_rational, rds_rational, bR_rational⟩ := FunD.binds1 (ps := ["n", "d"]) F_rational 2 1 nofun rfl fun T kV doc pm an cdv ct us its hu hi => match us, its, hu, hi with | [_, _], [_], _, _ => ⟨_, rfl, rfl⟩
  cases rds_rational
  have b := FunD.bindsA (ps := ["_law_script"]) F_law fun _ _ _ _ _ _ us hl => match us, hl with | [_], _ => rfl
  refine ⟨fd_law, fun s v => b s [v] rfl, fun base _ _ => ?_⟩
  exact law_ok T ZZERO (funA_of_d (st := s_rational) F_rational) g_rational bR_rational (fun_of_d (st := s_total) F_total) g_total
    (excB_ok (exK_at ex 2 rfl))
    g_VerdictError
    g_ZeroDivisor
    g_BadNumber
    g_EmptySpan
    g_BeforeStart
    g_TurnsBack
    g_BadRate
    g_BadBound
    g_BadName
    g_DuplicateName
    g_UnknownName
    g_BadLink
    g_UnknownLink
    g_BadNote
    g_UnknownMoment
    g_NoWorld
    g_OutsideSpan
    g_TooManyLiars
    g_RootFollows
    g_Condemned
    g_BadDate
    g_BadLeap
    g_BadLabel
    g_NoSuchSecond
    g_BadCells
    g_RefusedEntry
    g_DuplicateTag
    g_UnknownTag
    g_BadLine
    g_NothingToUndo
    g_NothingToRedo
    (of_decide_eq_true (exK_at ex 3 rfl))
    (of_decide_eq_true (exK_at ex 4 rfl))
    (of_decide_eq_true (exK_at ex 5 rfl))
    (of_decide_eq_true (exK_at ex 6 rfl))
    (of_decide_eq_true (exK_at ex 7 rfl))
    (of_decide_eq_true (exK_at ex 8 rfl))
    (of_decide_eq_true (exK_at ex 9 rfl))
    (of_decide_eq_true (exK_at ex 10 rfl))
    (of_decide_eq_true (exK_at ex 11 rfl))
    (of_decide_eq_true (exK_at ex 12 rfl))
    (of_decide_eq_true (exK_at ex 13 rfl))
    (of_decide_eq_true (exK_at ex 14 rfl))
    (of_decide_eq_true (exK_at ex 15 rfl))
    (of_decide_eq_true (exK_at ex 16 rfl))
    (of_decide_eq_true (exK_at ex 17 rfl))
    (of_decide_eq_true (exK_at ex 18 rfl))
    (of_decide_eq_true (exK_at ex 19 rfl))
    (of_decide_eq_true (exK_at ex 20 rfl))
    (of_decide_eq_true (exK_at ex 21 rfl))
    (of_decide_eq_true (exK_at ex 22 rfl))
    (of_decide_eq_true (exK_at ex 23 rfl))
    (of_decide_eq_true (exK_at ex 24 rfl))
    (of_decide_eq_true (exK_at ex 25 rfl))
    (of_decide_eq_true (exK_at ex 26 rfl))
    (of_decide_eq_true (exK_at ex 27 rfl))
    (of_decide_eq_true (exK_at ex 28 rfl))
    (of_decide_eq_true (exK_at ex 29 rfl))
    (of_decide_eq_true (exK_at ex 30 rfl))
    (of_decide_eq_true (exK_at ex 31 rfl))
    (of_decide_eq_true (exK_at ex 32 rfl))
    (of_decide_eq_true (exK_at ex 33 rfl))
    (fn_of_d (st := s_is_whole) F_is_whole g_is_whole fun _ _ _ _ _ _ us hl => match us, hl with | [_], _ => rfl)
    (fn_of_d (st := s_is_rational) F_is_rational g_is_rational fun _ _ _ _ _ _ us hl => match us, hl with | [_], _ => rfl)
    (fn_of_d (st := s_add) F_add g_add fun _ _ _ _ _ _ us hl => match us, hl with | [_, _], _ => rfl)
    (fn_of_d (st := s_subtract) F_subtract g_subtract fun _ _ _ _ _ _ us hl => match us, hl with | [_, _], _ => rfl)
    (fn_of_d (st := s_multiply) F_multiply g_multiply fun _ _ _ _ _ _ us hl => match us, hl with | [_, _], _ => rfl)
    (fn_of_d (st := s_negate) F_negate g_negate fun _ _ _ _ _ _ us hl => match us, hl with | [_], _ => rfl)
    (fn_of_d (st := s_divide) F_divide g_divide fun _ _ _ _ _ _ us hl => match us, hl with | [_, _], _ => rfl)
    (fn_of_d (st := s_distance) F_distance g_distance fun _ _ _ _ _ _ us hl => match us, hl with | [_, _], _ => rfl)
    (fn_of_d (st := s_compare) F_compare g_compare fun _ _ _ _ _ _ us hl => match us, hl with | [_, _], _ => rfl)
    (fn_of_d (st := s_smaller) F_smaller g_smaller fun _ _ _ _ _ _ us hl => match us, hl with | [_, _], _ => rfl)
    (fn_of_d (st := s_larger) F_larger g_larger fun _ _ _ _ _ _ us hl => match us, hl with | [_, _], _ => rfl)
    (fn_of_d (st := s_floor_of) F_floor_of g_floor_of fun _ _ _ _ _ _ us hl => match us, hl with | [_], _ => rfl)
    (fn_of_d (st := s__law_store) F__law_store g__law_store fun _ _ _ _ _ _ us hl => match us, hl with | [_], _ => rfl)
    (fn_of_d (st := s__law_feed) F__law_feed g__law_feed fun _ _ _ _ _ _ us hl => match us, hl with | [_], _ => rfl)
    (fn_of_d (st := s__law_mixed) F__law_mixed g__law_mixed fun _ _ _ _ _ _ us hl => match us, hl with | [_], _ => rfl)
    (fn_of_d (st := s__law_take) F__law_take g__law_take fun _ _ _ _ _ _ us hl => match us, hl with | [_, _], _ => rfl)
    (fn_of_d (st := s__law_pick) F__law_pick g__law_pick fun _ _ _ _ _ _ us hl => match us, hl with | [_, _], _ => rfl)
    (fn_of_d (st := s__law_shuffled) F__law_shuffled g__law_shuffled fun _ _ _ _ _ _ us hl => match us, hl with | [_, _], _ => rfl)
    (fn_of_d (st := s__law_is_int) F__law_is_int g__law_is_int fun _ _ _ _ _ _ us hl => match us, hl with | [_], _ => rfl)
    (fn_of_d (st := s__law_same) F__law_same g__law_same fun _ _ _ _ _ _ us hl => match us, hl with | [_, _], _ => rfl)
    (fn_of_d (st := s__law_frac) F__law_frac g__law_frac fun _ _ _ _ _ _ us hl => match us, hl with | [_, _], _ => rfl)
    (fn_of_d (st := s__law_plus) F__law_plus g__law_plus fun _ _ _ _ _ _ us hl => match us, hl with | [_, _], _ => rfl)
    (fn_of_d (st := s__law_minus) F__law_minus g__law_minus fun _ _ _ _ _ _ us hl => match us, hl with | [_, _], _ => rfl)
    (fn_of_d (st := s__law_is_frac) F__law_is_frac g__law_is_frac fun _ _ _ _ _ _ us hl => match us, hl with | [_], _ => rfl)
    (fn_of_d (st := s__law_ratio) F__law_ratio g__law_ratio fun _ _ _ _ _ _ us hl => match us, hl with | [_, _], _ => rfl)
    (fn_of_d (st := s__law_part) F__law_part g__law_part fun _ _ _ _ _ _ us hl => match us, hl with | [_], _ => rfl)
    (fn_of_d (st := s__law_near) F__law_near g__law_near fun _ _ _ _ _ _ us hl => match us, hl with | [_, _], _ => rfl)
    (fn_of_d (st := s__law_alone) F__law_alone g__law_alone fun _ _ _ _ _ _ us hl => match us, hl with | [_], _ => rfl)
    (fn_of_d (st := s__law_two) F__law_two g__law_two fun _ _ _ _ _ _ us hl => match us, hl with | [_], _ => rfl)
    (fn_of_d (st := s__law_worth) F__law_worth g__law_worth fun _ _ _ _ _ _ us hl => match us, hl with | [_, _, _], _ => rfl)
    (fn_of_d (st := s__law_sign) F__law_sign g__law_sign fun _ _ _ _ _ _ us hl => match us, hl with | [_], _ => rfl)
    (fn_of_d (st := s__law_divided) F__law_divided g__law_divided fun _ _ _ _ _ _ us hl => match us, hl with | [_, _], _ => rfl)
    (fn_of_d (st := s__law_signs_right) F__law_signs_right g__law_signs_right fun _ _ _ _ _ _ us hl => match us, hl with | [_, _], _ => rfl)
    (fn_of_d (st := s__law_quotient_right) F__law_quotient_right g__law_quotient_right fun _ _ _ _ _ _ us hl => match us, hl with | [_, _], _ => rfl)
    (fn_of_d (st := s__law_order_right) F__law_order_right g__law_order_right fun _ _ _ _ _ _ us hl => match us, hl with | [_, _], _ => rfl)
    (fn_of_d (st := s__law_few_totals) F__law_few_totals g__law_few_totals fun _ _ _ _ _ _ us hl => match us, hl with | [_], _ => rfl)
    (fn_of_d (st := s__law_many_totals) F__law_many_totals g__law_many_totals fun _ _ _ _ _ _ us hl => match us, hl with | [_], _ => rfl)
    (fn_of_d (st := s__law_most_totals) F__law_most_totals g__law_most_totals fun _ _ _ _ _ _ us hl => match us, hl with | [_], _ => rfl)
    (fn_of_d (st := s__law_totals_right) F__law_totals_right g__law_totals_right fun _ _ _ _ _ _ us hl => match us, hl with | [_], _ => rfl)
    (fn_of_d (st := s__law_product) F__law_product g__law_product fun _ _ _ _ _ _ us hl => match us, hl with | [_, _], _ => rfl)
    (fn_of_d (st := s__law_great_right) F__law_great_right g__law_great_right fun _ _ _ _ _ _ us hl => match us, hl with | [_], _ => rfl)
    (fn_of_d (st := s_law) F_law g_law fun _ _ _ _ _ _ us hl => match us, hl with | [_], _ => rfl)
    z_ValueError
    (of_decide_eq_true (exK_at ex 34 rfl))
    (exK_at ex 35 rfl)
    (exK_at ex 36 rfl)
    (of_decide_eq_true (exK_at ex 37 rfl))
    (of_decide_eq_true (exK_at ex 38 rfl))
end
end Vk
open PySem PySem.W PySem.Calls PyProof.Rows
set_option maxRecDepth 100000 in
set_option maxHeartbeats 0 in
theorem PySem.Challenge.cw_clockverdict_k01_exact_arithmetic_holds : PySem.Challenge.rw_clockverdict_k01_exact_arithmetic.Holds := by
  w_on; o_law
  refine HandSHeadRun.head_imp (r := Vk.RH) (q := Vk.qH) (H := Vk.hkH) (ob := Vk.obH) (M := 20000) (loose := Vk.looseH) (d := HandSHeadRun.topDef (OpenLaw.row PySem.Challenge.rw_clockverdict_k01_exact_arithmetic).prog 79) (kwd := []) Vk.obV_eq Vk.runH
    (by kernel_rfl) (by kernel_rfl) (by kernel_rfl) (by rfl) (by first | assumption | decide +kernel) (by decide +kernel) ⟨rfl, rfl, rfl, rfl, rfl, by decide +kernel⟩ ?hw ?hc
  case hw => w_witness2
  case hc =>
    refine L2.walk_ofE (l := PySem.Challenge.rw_clockverdict_k01_exact_arithmetic) (n := 63) (k := 9) (x := "_law_script") (CX := L2.CX0) rfl (by decide) (by kernel_rfl) ⟨rfl, by decide, by decide⟩ ?F (fun _ _ _ _ z => z)
    intro w mg fa h Y G hmg0
    obtain ⟨K, KX, c⟩ := Y
    have hmg : mg ("law" : PySem.Str) = some (.ref fa) := by
      have e : (HandSHeadRun.topDef (OpenLaw.row PySem.Challenge.rw_clockverdict_k01_exact_arithmetic).prog 79).name = ("law" : PySem.Str) := by kernel_rfl
      rw [← e]
      exact hmg0
    obtain ⟨fd, hb, hF⟩ := Vk.all_mkV (P := (PySem.Challenge.rw_clockverdict_k01_exact_arithmetic).prog) (w := w) KX G hmg c
    exact ⟨K, fd, Vk.spLaw K, KX, hb, fun H a ns hl _ hS => ⟨a, ns, rfl, hS, hl, fun _ => rfl⟩, hF⟩

