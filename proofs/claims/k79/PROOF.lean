import PyProof.Rows.All
import Wide.All
import OpenK.AllK
import Wide.FinOn
import HandS.ForMost
import HandS.Wide
import HandS.Gcd
import HandS.IsInst
import HandS.Deep
import HandS.Flow
import HandS.More
import HandS.SetFor
import HandS.Defaults
import PyProof.EqAt
import PyProof.EqKinds
import PyProof.TupleCall
import Open.SpecLaws
import KE.OsGo
import HandS.ForSpec
import HandS.ExcCtx
import HandS.ExcInit
import HandS.ForExc
import HandS.TryMany
import HandS.ExcIs
import HandS.ExcField
import HandS.Base
import HandS.Call
import HandS.Exc
import HandS.ExcOwn
import HandS.WordsExc
import HandS.HotCalls
import HandS.MakeKwOnly
import HandS.Property
import PySem.Challenge.RW_clockverdict_k79_steering_comes_in
set_option Elab.async false
set_option linter.all false
set_option maxRecDepth 100000
set_option hygiene false in
local macro_rules | `(tactic| walk_at "vk_raw") => `(tactic| ((focus ((repeat first | with_reducible assumption | with_reducible exact upd_same | (with_reducible refine' (upd_ne ?_).trans ?_; with_reducible assumption) | (with_reducible apply sameAt; first | with_reducible assumption | with_reducible exact same_new (by with_reducible assumption) _) | (with_reducible apply Vk.frAt; with_reducible assumption; with_reducible assumption)); done))))
set_option hygiene false in
local macro_rules | `(tactic| walk_at "vk_same") => `(tactic| ((focus ((repeat first | with_reducible assumption | with_reducible exact Same.refl _ | (refine' Same.trans ?_ (same_new (by with_reducible assumption) _)) | (with_reducible refine' same_upd ?_ (by with_reducible assumption) _) | (refine' Same.trans ?_ (by with_reducible assumption))); done))))
set_option hygiene false in
local macro_rules | `(tactic| walk_at "vk_up") => `(tactic| ((first | with_reducible assumption | with_reducible exact same_new (by with_reducible assumption) _)))
set_option hygiene false in
local macro_rules | `(tactic| walk_at "vk_upd") => `(tactic| ((with_reducible refine' same_upd ?_ (by with_reducible assumption) _; (walk_at "vk_same"))))
set_option hygiene false in
local macro_rules | `(tactic| walk_at "vk_sto") => `(tactic| ((focus ((repeat first | with_reducible assumption | (with_reducible apply Sto.same; (walk_at "vk_up"))); done))))
set_option hygiene false in
local macro_rules | `(tactic| walk_at "vk_some") => `(tactic| ((first | with_reducible exact ⟨_, by (walk_at "vk_raw")⟩ | with_reducible exact Sto.some (by (walk_at "vk_sto")))))
set_option hygiene false in
local macro_rules | `(tactic| walk_at "vk_cl") => `(tactic| ((focus ((repeat first | with_reducible assumption | with_reducible exact SqT.of upd_same | with_reducible exact SqL.of upd_same | with_reducible exact optV_rq (by with_reducible assumption) (by with_reducible assumption) | with_reducible exact Ct.cq (by with_reducible assumption) | with_reducible exact rq_ab | (with_reducible apply Vk.Ct.copyq; with_reducible assumption) | (with_reducible apply Vk.Ct.copy; with_reducible assumption) | with_reducible exact rl11000 | with_reducible exact rl91 | with_reducible exact rl32 | with_reducible exact rl301 | with_reducible exact rl72 | with_reducible exact rl160 | with_reducible exact rl13 | with_reducible exact rl73 | with_reducible exact rl15 | with_reducible exact rl11 | with_reducible exact rl12 | with_reducible exact rl01 | with_reducible exact rl1m | with_reducible exact rlnm | with_reducible exact rln1 | with_reducible exact rlh1 | with_reducible exact rl910 | with_reducible exact rl1110 | with_reducible exact rl21 | with_reducible exact rln12 | with_reducible exact rln31 | with_reducible exact rlneg | (with_reducible apply Rq.same; (walk_at "vk_up")) | (with_reducible apply Rq.fr; (first | with_reducible exact Fr.upd _ | with_reducible assumption); (walk_at "vk_some")) | (with_reducible apply Rq.same; (walk_at "vk_upd")) | (with_reducible apply L2.Same.sqt; (walk_at "vk_up")) | (with_reducible apply sqt_fr; (first | with_reducible exact Fr.upd _ | with_reducible assumption); (walk_at "vk_some")) | (with_reducible apply L2.Same.sqt; (walk_at "vk_upd")) | (with_reducible apply L2.Same.seq; (walk_at "vk_up")) | (with_reducible apply seq_fr; (first | with_reducible exact Fr.upd _ | with_reducible assumption); with_reducible assumption) | (with_reducible apply L2.Same.seq; (walk_at "vk_upd")) | (with_reducible apply Pq.same; (walk_at "vk_up")) | (with_reducible apply Pq.fr; (first | with_reducible exact Fr.upd _ | with_reducible assumption); (walk_at "vk_some")) | (with_reducible apply Pq.same; (walk_at "vk_upd")) | (with_reducible apply Cq.same; (walk_at "vk_up")) | (with_reducible apply Cq.fr; (first | with_reducible exact Fr.upd _ | with_reducible assumption); (walk_at "vk_some"); with_reducible assumption) | (with_reducible apply Cq.same; (walk_at "vk_upd")) | (with_reducible apply Ct.same; (walk_at "vk_up")) | (with_reducible apply Ct.fr; (first | with_reducible exact Fr.upd _ | with_reducible assumption); (walk_at "vk_some"); with_reducible assumption) | (with_reducible apply Ct.same; (walk_at "vk_upd")) | (with_reducible apply optV.same; (walk_at "vk_up")) | (with_reducible apply optV.same; (walk_at "vk_upd")) | (with_reducible apply SgA.sm; (walk_at "vk_up")) | (with_reducible apply SgA.sm; (walk_at "vk_upd")) | (with_reducible apply Agv.sm; (walk_at "vk_up")) | (with_reducible apply Agv.frm; (first | with_reducible exact Fr.upd _ | with_reducible assumption); (walk_at "vk_some")) | (with_reducible apply Agv.sm; (walk_at "vk_upd")) | (with_reducible apply Lsv.sm; (walk_at "vk_up")) | (with_reducible apply Lsv.frm; (first | with_reducible exact Fr.upd _ | with_reducible assumption); (walk_at "vk_some")) | (with_reducible apply Lsv.sm; (walk_at "vk_upd")) | (with_reducible apply oSp.same; (walk_at "vk_up")) | (with_reducible apply fr_osp; (first | with_reducible exact Fr.upd _ | with_reducible assumption); (walk_at "vk_some")) | (with_reducible apply oSp.same; (walk_at "vk_upd")) | (with_reducible apply TrnV.sm; (walk_at "vk_up")) | (with_reducible apply TrnV.frm; (first | with_reducible exact Fr.upd _ | with_reducible assumption); (walk_at "vk_some")) | (with_reducible apply TrnV.sm; (walk_at "vk_upd"))); done))))
set_option hygiene false in
local macro_rules | `(tactic| walk_at "vk_sql") => `(tactic| ((first | (walk_at "vk_cl") | (focus (with_reducible apply L2.SqL.of; (walk_at "vk_raw"))))))
set_option hygiene false in
local macro_rules | `(tactic| walk_at "vk_atom") => `(tactic| ((first | with_reducible show Rq _ _ _ _ | with_reducible show SqT _ _ _ _ | with_reducible show SqL _ _ _ _ | with_reducible show Pq _ _ _ _ | with_reducible show Cq _ _ _ _ | with_reducible show Ct _ _ _ _ _ | with_reducible show Cz _ _ _ _ | with_reducible show Cok _ | with_reducible show Sz _ _ | with_reducible show Sto _ _ _ | with_reducible show Fr _ _ _ | with_reducible show Same _ _ | with_reducible show tyV _ _ _ _ | with_reducible show All2 _ _ _ | with_reducible show Gw _ _ _ _ _ _ | with_reducible show L2.Dp _ _ _ _ | with_reducible show L2.DpAll _ _ _ _ | with_reducible show Tree _ _ | with_reducible show optV _ _ _ _ | with_reducible show SgA _ _ _ _ _ | with_reducible show Agv _ _ _ _ _ _ _ _ _ | with_reducible show Lsv _ _ _ _ | with_reducible show oSp _ _ _ _ | with_reducible show TrnV _ _ _ _)))
set_option hygiene false in
local macro_rules | `(tactic| walk_at "vk_formsa") => `(tactic| ((first | with_reducible apply And.intro | ((fail_if_success first | with_reducible show ∃ _ : Nat → Nat → L2.St → Hp → Prop, _ | with_reducible show ∃ _ : Nat → Nat → Hp → Prop, _ | with_reducible show ∃ _ : Nat → L2.St → Hp → Prop, _); with_reducible apply Exists.intro) | (with_reducible refine ifT rfl ?_) | (with_reducible refine ifF rfl ?_) | (with_reducible refine ifT (dT (by with_reducible assumption)) ?_) | (with_reducible refine ifF (dF (by with_reducible assumption)) ?_) | (with_reducible refine ifD (fun gc => ?_) (fun gc => ?_)) | (with_reducible refine ifNF (by first | with_reducible assumption | with_reducible exact rfl) ?_) | (with_reducible refine ifNT (by with_reducible assumption) ?_) | (with_reducible refine ifN (fun gc => ?_) (fun gc => ?_)) | (with_reducible refine ifNF (by first | with_reducible assumption | with_reducible exact rfl) ?_) | ((first | rw [eqv_odp] | rw [eqv_odq]); first | (with_reducible refine ifT (dT (by with_reducible assumption)) ?_) | (with_reducible refine ifNF (by first | with_reducible assumption | with_reducible exact rfl) ?_) | (with_reducible refine ifD (fun gc => ?_) (fun gc => ?_)) | (with_reducible refine ifN (fun gc => ?_) (fun gc => ?_))) | (rw [eqv_dq]; first | (with_reducible refine ifT (dT (by with_reducible assumption)) ?_) | (with_reducible refine ifNF (by first | with_reducible assumption | with_reducible exact rfl) ?_) | (with_reducible refine ifD (fun gc => ?_) (fun gc => ?_)) | (with_reducible refine ifN (fun gc => ?_) (fun gc => ?_))) | (with_reducible refine ifT (by with_reducible assumption) ?_) | (with_reducible refine ifF (by with_reducible assumption) ?_) | (with_reducible refine ifT (by decide +kernel) ?_) | (with_reducible refine ifF (by decide +kernel) ?_) | (with_reducible refine Or.inl (Exists.intro _ (And.intro (rfl : [V.int _] = [V.int _]) ?_))) | ((with_reducible show ∀ p : Addr, _ = none → _); intro p np) | ((with_reducible show ∀ r : Int, ∀ H' : Hp, 0 ≤ r → _ → Sto _ _ H' → _ → _); intro r H' r0 r1 S e) | ((with_reducible show ∀ v : V, ∀ H' : Hp, Qd _ _ _ H' v → _ → _ → _); refine aQd (K := K) fun a q H' h h' zq okq S e => ?_) | ((with_reducible show ∀ H' : Hp, Same _ H' → _); intro H' e) | ((with_reducible show ∀ v : V, ∀ H' : Hp, Same _ H' → optV _ _ _ _ → _); intro v H' e h) | ((with_reducible show ∀ _ : V, ∀ _ : Hp, _ → _); refine aRq (K := K) fun a H' e h h' => ?_) | ((with_reducible show ∀ v : V, Rq _ _ v _ → _); refine aRq0 (K := K) fun a h h' => ?_))))
set_option hygiene false in
local macro_rules | `(tactic| walk_at "vk_forms") => `(tactic| ((first | with_reducible apply And.intro | ((fail_if_success first | with_reducible show ∃ l : Addr, ∃ xs : List V, ∃ y : V, _ = V.ref l ∧ _ = [y] ∧ _ = some (HO.lst xs) ∧ _ | with_reducible show ∃ _ : Nat → Nat → L2.St → Hp → Prop, _ | with_reducible show ∃ _ : Nat → Nat → Hp → Prop, _ | with_reducible show ∃ _ : Nat → L2.St → Hp → Prop, _); with_reducible apply Exists.intro) | (with_reducible refine ifT rfl ?_) | (with_reducible refine ifF rfl ?_) | (with_reducible refine ifT (dT (by with_reducible assumption)) ?_) | (with_reducible refine ifF (dF (by with_reducible assumption)) ?_) | (with_reducible refine ifD (fun gc => ?_) (fun gc => ?_)) | (with_reducible refine ifNF (by first | with_reducible assumption | with_reducible exact rfl) ?_) | (with_reducible refine ifNT (by with_reducible assumption) ?_) | (with_reducible refine ifN (fun gc => ?_) (fun gc => ?_)) | (with_reducible refine ifNF (by first | with_reducible assumption | with_reducible exact rfl) ?_) | ((first | rw [eqv_odp] | rw [eqv_odq]); first | (with_reducible refine ifT (dT (by with_reducible assumption)) ?_) | (with_reducible refine ifNF (by first | with_reducible assumption | with_reducible exact rfl) ?_) | (with_reducible refine ifD (fun gc => ?_) (fun gc => ?_)) | (with_reducible refine ifN (fun gc => ?_) (fun gc => ?_))) | (rw [eqv_dq]; first | (with_reducible refine ifT (dT (by with_reducible assumption)) ?_) | (with_reducible refine ifNF (by first | with_reducible assumption | with_reducible exact rfl) ?_) | (with_reducible refine ifD (fun gc => ?_) (fun gc => ?_)) | (with_reducible refine ifN (fun gc => ?_) (fun gc => ?_))) | (with_reducible refine ifT (by with_reducible assumption) ?_) | (with_reducible refine ifF (by with_reducible assumption) ?_) | (with_reducible refine ifT (by decide +kernel) ?_) | (with_reducible refine ifF (by decide +kernel) ?_) | (with_reducible refine Or.inl (Exists.intro _ (And.intro (rfl : [V.int _] = [V.int _]) ?_))) | ((with_reducible show ∀ p : Addr, _ = none → _); intro p np) | ((with_reducible show ∀ r : Int, ∀ H' : Hp, 0 ≤ r → _ → Sto _ _ H' → _ → _); intro r H' r0 r1 S e) | ((with_reducible show ∀ v : V, ∀ H' : Hp, Qd _ _ _ H' v → _ → _ → _); refine aQd (K := K) fun a q H' h h' zq okq S e => ?_) | ((with_reducible show ∀ H' : Hp, Same _ H' → _); intro H' e) | ((with_reducible show ∀ v : V, ∀ H' : Hp, Same _ H' → optV _ _ _ _ → _); intro v H' e h) | ((with_reducible show ∀ _ : V, ∀ _ : Hp, _ → _); refine aRq (K := K) fun a H' e h h' => ?_) | ((with_reducible show ∀ v : V, Rq _ _ v _ → _); refine aRq0 (K := K) fun a h h' => ?_))))
set_option hygiene false in
local macro_rules | `(tactic| walk_at "vk_va") => `(tactic| (((try dsimp only [cxOf_K, Cx.nox, Cx.wish]); repeat' (show (_ : Prop); first | with_reducible exact rfl | with_reducible assumption | (walk_at "vk_formsa") | ((with_reducible show ∀ d ∈ _, Tree _ d); first | exact treeAll_nil | refine treeAll_cons ?_ ?_) | (with_reducible exact ClsV.ty _) | ((with_reducible show TyX _ _ _ _); first | (apply sql_ty; (walk_at "vk_sql")) | (apply sqt_ty; (walk_at "vk_cl")) | exact .base (.int _)) | ((with_reducible show PySem.W.kitOne _ _ _ = some _); first | exact kit_ty (r := true) (by decide +kernel) | exact kit_ty (r := false) (by decide +kernel)) | ((with_reducible show SeqAt.shaped _ = true); first | with_reducible exact sh_dq _ | with_reducible exact sh_odp _ | decide +kernel) | ((with_reducible show _ = _); first | exact at0 rfl | exact at1 rfl | exact at2 rfl | exact rfl | (walk_at "vk_raw") | assumption) | ((with_reducible show (_ : Addr) ≠ _); (refine' Sto.ne (l := l) ?_ (by with_reducible assumption); (walk_at "vk_sto"))) | (with_reducible exact cdv2) | (with_reducible exact cdv4) | (with_reducible exact cdv8) | ((with_reducible show 0 < List.length _); first | omega | exact Nat.succ_pos _) | ((with_reducible show List.length _ < 2 ^ 32); first | omega | exact Nat.le_of_ble_eq_true rfl) | ((with_reducible show List.length _ ≤ sizeLine); first | exact Nat.zero_le _ | exact sz1 | exact sz2 | exact sz3 | exact sz4 | exact sm5 | exact sm6) | ((with_reducible show List.length _ < sizeLine); exact le1000 (by omega)) | ((with_reducible show _ ≤ _); omega) | ((with_reducible show (_ : Nat) < _); omega) | ((with_reducible show (_ : Int) < _); omega) | ((walk_at "vk_atom"); first | (walk_at "vk_cl") | (focus (with_reducible apply L2.SqL.of; (walk_at "vk_raw"))) | ((with_reducible show tyV _ _ _ _); apply Or.inl; apply And.intro rfl; apply Exists.intro; (walk_at "vk_sql")) | with_reducible exact L2.Dp.str _ | with_reducible exact L2.Dp.int _ | with_reducible exact L2.Dp.non | with_reducible exact L2.Dp.bl _ | (with_reducible apply Rq.dp; (walk_at "vk_cl")) | (with_reducible apply optV.dp; (walk_at "vk_cl")) | (with_reducible apply Vk.Ct.dd; (walk_at "vk_cl")) | (with_reducible apply L2.Dp.tup; (walk_at "vk_cl")) | (with_reducible apply L2.Dp.lst; (walk_at "vk_sql")) | exact tree_dq _ _ | exact Tree.str (by decide +kernel) | exact Tree.int _ | exact Tree.non | exact Tree.bl _ | (refine Tree.tup (Nat.le_of_ble_eq_true rfl) ?_) | with_reducible apply L2.DpAll.cons | with_reducible exact L2.DpAll.nil | with_reducible exact zz1 | with_reducible exact zo1 | with_reducible exact zl12 | with_reducible exact zl1m | with_reducible exact zlnm | with_reducible exact zln1 | with_reducible exact zlh1 | (with_reducible show Sz _ _; refine Sz.mono (by with_reducible assumption) (Nat.le_of_ble_eq_true rfl)) | with_reducible apply Sz.add | with_reducible apply Sz.sub | with_reducible apply Sz.mul | with_reducible apply Sz.neg | ((with_reducible show Sto _ _ _); (focus ((repeat first | with_reducible assumption | (with_reducible apply Sto.same; (walk_at "vk_up"))); done))) | ((with_reducible show Fr _ _ _); (focus ((repeat first | with_reducible assumption | with_reducible exact Fr.refl _ _ | (refine' Fr.trans ?_ (Fr.of (same_new (by with_reducible assumption) _))) | (refine' Fr.trans ?_ (by with_reducible assumption)) | (refine' Fr.trans ?_ (Fr.of (by with_reducible assumption)))); done))) | ((with_reducible show Same _ _); (walk_at "vk_same")) | assumption) | ((with_reducible show L2.SqL _ _ _ _ ∨ L2.SqT _ _ _ _); first | (apply Or.inl; (walk_at "vk_sql")) | (apply Or.inr; (walk_at "vk_cl"))) | ((fail_if_success (walk_at "vk_atom")); (fail_if_success with_reducible show rAppend _ _ _ _); (conv => whnf); first | (walk_at "vk_formsa") | with_reducible exact rfl | with_reducible assumption | ((with_reducible show _ = _); exact rfl)) ))))
set_option hygiene false in
local macro_rules | `(tactic| walk_at "vk_vc") => `(tactic| (((try dsimp only [cxOf_K, Cx.nox, Cx.wish]); repeat' (show (_ : Prop); first | with_reducible exact rfl | with_reducible assumption | (walk_at "vk_forms") | ((with_reducible show ∀ d ∈ _, Tree _ d); first | exact treeAll_nil | refine treeAll_cons ?_ ?_) | (with_reducible exact ClsV.ty _) | ((with_reducible show TyX _ _ _ _); first | (apply sql_ty; (walk_at "vk_sql")) | (apply sqt_ty; (walk_at "vk_cl")) | exact .base (.int _)) | ((with_reducible show PySem.W.kitOne _ _ _ = some _); first | exact kit_ty (r := true) (by decide +kernel) | exact kit_ty (r := false) (by decide +kernel)) | ((with_reducible show SeqAt.shaped _ = true); first | with_reducible exact sh_dq _ | with_reducible exact sh_odp _ | decide +kernel) | ((with_reducible show _ = _); first | exact at0 rfl | exact at1 rfl | exact at2 rfl | exact rfl | (walk_at "vk_raw") | assumption) | ((with_reducible show (_ : Addr) ≠ _); (refine' Sto.ne (l := l) ?_ (by with_reducible assumption); (walk_at "vk_sto"))) | (with_reducible exact cdv2) | (with_reducible exact cdv4) | (with_reducible exact cdv8) | ((with_reducible show 0 < List.length _); first | omega | exact Nat.succ_pos _) | ((with_reducible show List.length _ < 2 ^ 32); first | omega | exact Nat.le_of_ble_eq_true rfl) | ((with_reducible show List.length _ ≤ sizeLine); first | exact Nat.zero_le _ | exact sz1 | exact sz2 | exact sz3 | exact sz4 | exact sm5 | exact sm6) | ((with_reducible show List.length _ < sizeLine); exact le1000 (by omega)) | ((with_reducible show _ ≤ _); omega) | ((with_reducible show (_ : Nat) < _); omega) | ((with_reducible show (_ : Int) < _); omega) | ((walk_at "vk_atom"); first | (walk_at "vk_cl") | (focus (with_reducible apply L2.SqL.of; (walk_at "vk_raw"))) | ((with_reducible show tyV _ _ _ _); apply Or.inl; apply And.intro rfl; apply Exists.intro; (walk_at "vk_sql")) | with_reducible exact L2.Dp.str _ | with_reducible exact L2.Dp.int _ | with_reducible exact L2.Dp.non | with_reducible exact L2.Dp.bl _ | (with_reducible apply Rq.dp; (walk_at "vk_cl")) | (with_reducible apply optV.dp; (walk_at "vk_cl")) | (with_reducible apply Vk.Ct.dd; (walk_at "vk_cl")) | (with_reducible apply L2.Dp.tup; (walk_at "vk_cl")) | (with_reducible apply L2.Dp.lst; (walk_at "vk_sql")) | exact tree_dq _ _ | exact Tree.str (by decide +kernel) | exact Tree.int _ | exact Tree.non | exact Tree.bl _ | (refine Tree.tup (Nat.le_of_ble_eq_true rfl) ?_) | with_reducible apply L2.DpAll.cons | with_reducible exact L2.DpAll.nil | with_reducible exact zz1 | with_reducible exact zo1 | with_reducible exact zl12 | with_reducible exact zl1m | with_reducible exact zlnm | with_reducible exact zln1 | with_reducible exact zlh1 | (with_reducible show Sz _ _; refine Sz.mono (by with_reducible assumption) (Nat.le_of_ble_eq_true rfl)) | with_reducible apply Sz.add | with_reducible apply Sz.sub | with_reducible apply Sz.mul | with_reducible apply Sz.neg | ((with_reducible show Sto _ _ _); (focus ((repeat first | with_reducible assumption | (with_reducible apply Sto.same; (walk_at "vk_up"))); done))) | ((with_reducible show Fr _ _ _); (focus ((repeat first | with_reducible assumption | with_reducible exact Fr.refl _ _ | (refine' Fr.trans ?_ (Fr.of (same_new (by with_reducible assumption) _))) | (refine' Fr.trans ?_ (by with_reducible assumption)) | (refine' Fr.trans ?_ (Fr.of (by with_reducible assumption)))); done))) | ((with_reducible show Same _ _); (walk_at "vk_same")) | assumption) | ((with_reducible show L2.SqL _ _ _ _ ∨ L2.SqT _ _ _ _); first | (apply Or.inl; (walk_at "vk_sql")) | (apply Or.inr; (walk_at "vk_cl"))) | ((fail_if_success (walk_at "vk_atom")); (fail_if_success with_reducible show rAppend _ _ _ _); (conv => whnf); first | (walk_at "vk_forms") | with_reducible exact rfl | with_reducible assumption | ((with_reducible show _ = _); exact rfl)) ))))
set_option hygiene false in
local macro_rules | `(tactic| walk_at "vk_fr") => `(tactic| ((focus ((repeat first | with_reducible assumption | with_reducible exact Fr.refl _ _ | (refine' Fr.trans ?_ (Fr.of (same_new (by with_reducible assumption) _))) | (refine' Fr.trans ?_ (by with_reducible assumption)) | (refine' Fr.trans ?_ (Fr.of (by with_reducible assumption)))); done))))
namespace Vm
/-! ### sizes of rationals -/
def Sz (k : Nat) (q : Rat) : Prop := q.num.natAbs < 2 ^ k ∧ q.den < 2 ^ k
theorem Sz.mono {a b : Nat} {q : Rat} (h : Sz a q) (l : a ≤ b) : Sz b q :=
  ⟨Nat.lt_of_lt_of_le h.1 (Nat.pow_le_pow_right (by decide) l), Nat.lt_of_lt_of_le h.2 (Nat.pow_le_pow_right (by decide) l)⟩
theorem mk_num (n : Int) {d : Nat} (hd : d ≠ 0) : (mkRat n d).num = n / ((Nat.gcd n.natAbs d : Nat) : Int) := by
  rw [Rat.num_mkRat, if_neg hd, Nat.gcd_comm]
theorem mk_den (n : Int) {d : Nat} (hd : d ≠ 0) : (mkRat n d).den = d / Nat.gcd n.natAbs d := by
  rw [Rat.den_mkRat, if_neg hd, Nat.gcd_comm]
theorem sz_mk {n : Int} {d k : Nat} (h : d ≠ 0) (hn : n.natAbs < 2 ^ k) (hd : d < 2 ^ k) : Sz k (mkRat n d) := by
  have e : ∀ (z : Int) (g : Nat), (z / (g : Int)).natAbs ≤ z.natAbs := fun z g => Int.natAbs_ediv_le_natAbs z g
  exact ⟨by rw [mk_num n h]; exact Nat.lt_of_le_of_lt (e _ _) hn, by rw [mk_den n h]; exact Nat.lt_of_le_of_lt (Nat.div_le_self _ _) hd⟩
theorem lt_mul {a b i j : Nat} (h : a < 2 ^ i) (l : b < 2 ^ j) : a * b < 2 ^ (i + j) := by
  rw [Nat.pow_add]
  exact Nat.mul_lt_mul'' h l
theorem Sz.add {a b : Nat} {p q : Rat} (h : Sz a p) (l : Sz b q) : Sz (a + b + 1) (p + q) := by
  rw [Rat.add_def']
  have h1 := lt_mul h.1 l.2
  have h2 := lt_mul l.1 h.2
  have h3 := lt_mul h.2 l.2
  rw [Nat.add_comm b a] at h2
  refine sz_mk (Nat.ne_of_gt (Nat.mul_pos p.den_pos q.den_pos)) ?_ ?_
  · rw [Nat.pow_succ]
    have q1 := Int.natAbs_add_le (p.num * q.den) (q.num * p.den)
    rw [Int.natAbs_mul, Int.natAbs_mul, Int.natAbs_natCast, Int.natAbs_natCast] at q1
    omega
  · rw [Nat.pow_succ]
    omega
theorem Sz.neg {a : Nat} {p : Rat} (h : Sz a p) : Sz a (-p) := ⟨by rw [Rat.neg_num, Int.natAbs_neg]; exact h.1, h.2⟩
theorem Sz.sub {a b : Nat} {p q : Rat} (h : Sz a p) (l : Sz b q) : Sz (a + b + 1) (p - q) := by
  rw [Rat.sub_eq_add_neg]
  exact h.add l.neg
theorem Sz.mul {a b : Nat} {p q : Rat} (h : Sz a p) (l : Sz b q) : Sz (a + b) (p * q) := by
  rw [Rat.mul_def']
  refine sz_mk (Nat.ne_of_gt (Nat.mul_pos p.den_pos q.den_pos)) ?_ (lt_mul h.2 l.2)
  rw [Int.natAbs_mul]
  exact lt_mul h.1 l.1
theorem num_pos {q : Rat} (h : 0 < q) : 0 < q.num := by
  have z := (Rat.lt_iff 0 q).mp h
  simp at z
  exact z
theorem pos_of_num {q : Rat} (h : 0 < q.num) : 0 < q := by
  rw [Rat.lt_iff]
  simp
  exact h
theorem Sz.inv {a : Nat} {q : Rat} (h : Sz a q) (hq : 0 < q) : Sz a q⁻¹ := by
  have hn := num_pos hq
  refine ⟨?_, ?_⟩
  · rw [Rat.num_inv, Int.sign_eq_one_of_pos hn, Int.one_mul, Int.natAbs_natCast]
    exact h.2
  · rw [Rat.den_inv, if_neg (by omega)]
    exact h.1
theorem Sz.div {a b : Nat} {p q : Rat} (h : Sz a p) (l : Sz b q) (hq : 0 < q) : Sz (a + b) (p / q) := by
  rw [Rat.div_def]
  exact h.mul (l.inv hq)
/-! ### normal forms -/
theorem nf {n : Int} {d : Nat} (hd : d ≠ 0) (hc : Nat.gcd n.natAbs d = 1) : (mkRat n d).num = n ∧ (mkRat n d).den = d := by
  rw [mk_num n hd, mk_den n hd, hc]
  simp
theorem div_mk (p q : Rat) (hq : 0 < q) : p / q = mkRat (p.num * q.den) (p.den * q.num.toNat) := by
  have hn := num_pos hq
  rw [Rat.div_def, Rat.mul_def', Rat.num_inv, Rat.den_inv, if_neg (by omega), Int.sign_eq_one_of_pos hn, Int.one_mul]
  congr 2
  omega
/-- the sum by the divisors of the denominators alone -/
theorem add_parts (a b : Rat) (g f : Nat) (n : Int) (r : Nat) (hg : g = Nat.gcd a.den b.den) (hf : f = b.den / g) (hn : n = a.num * f + b.num * ((a.den / g : Nat) : Int)) (hr : r = Nat.gcd n.natAbs g) :
    (a + b).num = n / (r : Int) ∧ (a + b).den = a.den / r * f := by
  have gp : 0 < g := by rw [hg]; exact Nat.gcd_pos_of_pos_left _ a.den_pos
  obtain ⟨u, hu⟩ : g ∣ a.den := by rw [hg]; exact Nat.gcd_dvd_left _ _
  obtain ⟨v, hv⟩ : g ∣ b.den := by rw [hg]; exact Nat.gcd_dvd_right _ _
  have eu : a.den / g = u := by rw [hu]; exact Nat.mul_div_cancel_left _ gp
  have ev : f = v := by rw [hf, hv]; exact Nat.mul_div_cancel_left _ gp
  subst ev
  rw [eu] at hn
  have up : 0 < u := Nat.pos_of_ne_zero fun z => by rw [z, Nat.mul_zero] at hu; exact absurd hu (Nat.ne_of_gt a.den_pos)
  have fp : 0 < f := Nat.pos_of_ne_zero fun z => by rw [z, Nat.mul_zero] at hv; exact absurd hv (Nat.ne_of_gt b.den_pos)
  have cuf : Nat.Coprime u f := by
    have z : g * Nat.gcd u f = g := by rw [← Nat.gcd_mul_left, ← hu, ← hv, ← hg]
    exact Nat.eq_of_mul_eq_mul_left gp (by rw [z, Nat.mul_one])
  have ca : Nat.Coprime a.num.natAbs u := (Nat.Coprime.coprime_dvd_right ⟨g, by rw [hu, Nat.mul_comm]⟩ a.reduced)
  have cb : Nat.Coprime b.num.natAbs f := (Nat.Coprime.coprime_dvd_right ⟨g, by rw [hv, Nat.mul_comm]⟩ b.reduced)
  have key : ∀ (x y z : Int) (m : Nat), x = y + z * m → Nat.gcd x.natAbs m = Nat.gcd y.natAbs m := by
    intro x y z m h
    have e : ∀ t : Int, Nat.gcd t.natAbs m = Int.gcd t m := fun t => by rw [Int.gcd]; simp
    rw [e, e, h, Int.gcd_add_mul_right_left]
  have cnu : Nat.Coprime n.natAbs u := by
    have z := key n (a.num * f) b.num u hn
    unfold Nat.Coprime
    rw [z, Int.natAbs_mul, Int.natAbs_natCast]
    exact Nat.Coprime.mul_left ca cuf.symm
  have cnf : Nat.Coprime n.natAbs f := by
    have z := key n (b.num * u) a.num f (by rw [hn, Int.add_comm])
    unfold Nat.Coprime
    rw [z, Int.natAbs_mul, Int.natAbs_natCast]
    exact Nat.Coprime.mul_left cb cuf
  have cn : Nat.Coprime n.natAbs (u * f) := Nat.Coprime.mul_right cnu cnf
  have er : Nat.gcd n.natAbs (g * (u * f)) = r := by
    rw [hr]
    exact Nat.Coprime.gcd_mul_right_cancel_right g cn.symm
  have es : a + b = mkRat n (g * (u * f)) := by
    rw [Rat.add_def', hu, hv, hn]
    have z := Rat.mkRat_mul_left (n := a.num * f + b.num * u) (d := g * (u * f)) (a := g) (by omega)
    rw [← z]
    congr 1
    · push_cast
      grind
    · grind
  have dn : g * (u * f) ≠ 0 := Nat.ne_of_gt (Nat.mul_pos gp (Nat.mul_pos up fp))
  have rg : r ∣ g := by rw [hr]; exact Nat.gcd_dvd_right _ _
  refine ⟨by rw [es, mk_num n dn, er], ?_⟩
  rw [es, mk_den n dn, er, hu]
  obtain ⟨w, hw⟩ := rg
  have rp : 0 < r := Nat.pos_of_ne_zero fun z => by rw [z, Nat.zero_mul] at hw; omega
  rw [hw, Nat.mul_assoc, Nat.mul_div_cancel_left _ rp, Nat.mul_assoc, Nat.mul_div_cancel_left _ rp, Nat.mul_assoc]
/-! ### what the cross products make -/
theorem tn (a b : Nat) : ((a : Int) * (b : Int)).toNat = a * b := by
  rw [← Int.natCast_mul]
  rfl
theorem mk_add (p q : Rat) : mkRat (p.num * (q.den : Int) + q.num * (p.den : Int)) ((p.den : Int) * (q.den : Int)).toNat = p + q := by rw [tn, Rat.add_def']
theorem mk_sub (p q : Rat) : mkRat (p.num * (q.den : Int) - q.num * (p.den : Int)) ((p.den : Int) * (q.den : Int)).toNat = p - q := by rw [tn, Rat.sub_def']
theorem mk_mul (p q : Rat) : mkRat (p.num * q.num) ((p.den : Int) * (q.den : Int)).toNat = p * q := by rw [tn, Rat.mul_def']
theorem dd_pos (p q : Rat) : 0 < (p.den : Int) * (q.den : Int) := Int.mul_pos (by have := p.den_pos; omega) (by have := q.den_pos; omega)
theorem ab_mul {i j : Int} {a b : Nat} (h : i.natAbs < 2 ^ a) (l : j.natAbs < 2 ^ b) : (i * j).natAbs < 2 ^ (a + b) := by
  rw [Int.natAbs_mul]
  exact lt_mul h l
theorem ab_add {i j : Int} {a : Nat} (h : i.natAbs < 2 ^ a) (l : j.natAbs < 2 ^ a) : (i + j).natAbs < 2 ^ (a + 1) := by
  rw [Nat.pow_succ]
  omega
theorem ab_sub {i j : Int} {a : Nat} (h : i.natAbs < 2 ^ a) (l : j.natAbs < 2 ^ a) : (i - j).natAbs < 2 ^ (a + 1) := by
  rw [Nat.pow_succ]
  omega
theorem ab_up {i : Int} {a b : Nat} (h : i.natAbs < 2 ^ a) (l : a ≤ b) : i.natAbs < 2 ^ b := Nat.lt_of_lt_of_le h (Nat.pow_le_pow_right (by decide) l)
theorem ab_le {i j : Int} {a : Nat} (h : i.natAbs < 2 ^ a) (l : j.natAbs ≤ i.natAbs) : j.natAbs < 2 ^ a := Nat.lt_of_le_of_lt l h
theorem nn {m : Nat} {p : Rat} (h : Sz m p) : 0 < m := by
  cases m with
  | zero => have := h.2; have := p.den_pos; simp at *; omega
  | succ m => exact Nat.succ_pos _
theorem dA {m : Nat} {p : Rat} (h : Sz m p) : ((p.den : Nat) : Int).natAbs < 2 ^ m := h.2
theorem lt_num {p q : Rat} : p < q ↔ p.num * (q.den : Int) < q.num * (p.den : Int) := Rat.lt_iff p q
theorem eq_num {p q : Rat} : p = q ↔ p.num * (q.den : Int) = q.num * (p.den : Int) := Rat.eq_iff_mul_eq_mul
end Vm

namespace Vk
open PySem L2
/-! ### defs as they stand, and with a promise -/
structure Fn (K : PySem.W.Frag) (mg : Str → Option Value) (x : Str) (st : Stmt) (ps : List Str) (f : Addr) (fd : FuncData) : Prop where
  F : Fun K x x st f fd
  m : mg x = some (.ref f)
  b : Binds K fd ps []
structure Def (P : Program) (w : World) (K : PySem.W.Frag) (mg : Str → Option Value) (base : Heap) (k : Nat) (x : Str) (ps : List Str) (sp : Sp) (f : Addr) (fd : FuncData) : Prop where
  ok : FnOk P w K mg base CX0 k f fd ps sp
  m : mg x = some (.ref f)
  kp : PySem.W.keepIn K (.ref f) = true
  b : Binds K fd ps []
theorem Def.up {P : Program} {w : World} {K : PySem.W.Frag} {mg : Str → Option Value} {base : Heap} {j k : Nat} {x : Str} {ps : List Str} {sp : Sp} {f : Addr} {fd : FuncData} (d : Def P w K mg base j x ps sp f fd) (h : j ≤ k) : Def P w K mg base k x ps sp f fd := ⟨d.ok.mono h, d.m, d.kp, d.b⟩
theorem pcall {X : Cx} {k : Nat} {f : Addr} {fd : FuncData} {ps : List Str} {sp : Sp} {x : Str} {p pos : Pos} {e : Expr} {es : List Expr} {t : TA} (D : Def X.prog X.w X.K X.mg X.base k x ps sp f fd) (hr : Room k X.A) (ha : PA X (e :: es) t)
    (hg : Gl X x := by rfl) (hdb : (x == ("__debug__" : Str)) = false := by decide) (he : starEach (e :: es) X.env = (false, eval e X.env) :: starEach es X.env := by rfl) (hpl : (backTo pos (starEach es X.env)).any (·.1) = false := by rfl) :
    PE X (.Call (.Name x p) (e :: es) [] pos) (tCall sp [] E0 t) := pe_call D.ok hr hg D.m D.kp D.b .nil pass0 ha hdb he hpl
/-- a def as it stands, whatever its defaults are -/
structure FunA (K : PySem.W.Frag) (x qual : Str) (st : Stmt) (f : Addr) (fd : FuncData) : Prop where
  ex : ∃ (oc : Value) (od : Option Addr) (dV kV doc pm : Value) (an : Option Addr) (cdv ct : Value) (osl : Array (Option Value)),
    fd = PySem.W.fnOf x qual (defArgs st) (defBody st) (defScope st) dV kV doc pm an cdv ct ∧ K.lookup f = some ⟨oc, od, .func fd, osl⟩ ∧ PySem.W.codeIn K cdv qual = true
  kp : PySem.W.keepIn K (.ref f) = true
theorem FunA.ok {P : Program} {w : World} {K : PySem.W.Frag} {mg : Str → Option Value} {base : Heap} {x qual : Str} {st : Stmt} {f : Addr} {fd : FuncData} {N ps : List Str} {k : Nat} {sp : Sp} (F : FunA K x qual st f fd) (S : FnScope N ps (defScope st)) (len : ∀ vs H Q E, sp vs H Q E → vs.length = ps.length)
    (hbody : ∀ (cdv : Value) (A : Around) (outer : List Env) (s : Shared) (H : Hp) (vs : List V) (Q : VK) (E : XK), Room k (A.deeper (PyProof.Rows.envOfC qual (defScope st) s.heap.objs.size f cdv)) → sp vs H Q E →
      ∃ t, PSs (cxOf CX0 P w K mg base N qual (defScope st) f cdv A outer s H E).nox (defBody st) t ∧ t { nx := fun _ H' => Q .non H', rt := Q } (start N vs) H) : FnOk P w K mg base CX0 (k + 1) f fd ps sp := by
  obtain ⟨oc, od, dV, kV, doc, pm, an, cdv, ct, osl, rfl, lk, hcd⟩ := F.ex
  refine fn_of lk hcd S len fun A outer s H vs Q E hr hsp => ?_
  obtain ⟨t, h, q⟩ := hbody cdv A outer s H vs Q E hr hsp
  exact ⟨t, h.nox, q⟩
/-- the built-in names as the top leaves them -/
structure Bn (mg : Str → Option Value) : Prop where
  gcd_ : mg "gcd" = some (.builtin "math.gcd")
  len_ : mg "len" = none
  abs_ : mg "abs" = none
  max_ : mg "max" = none
  int_ : mg "int" = none
  isinstance_ : mg "isinstance" = none
  range_ : mg "range" = none
  enumerate_ : mg "enumerate" = none
  list_ : mg "list" = none
  tuple_ : mg "tuple" = none
  str_ : mg "str" = none
  bool_ : mg "bool" = none
  dict_ : mg "dict" = none
/-! ### heaps -/
theorem _root_.L2.Same.sqt {K : PySem.W.Frag} {H H' : Hp} {a : Addr} {xs : List V} (e : Same H H') (h : SqT K H a xs) : SqT K H' a xs := by
  rcases h with (h | ⟨o, h⟩) | h
  · exact .inl (.inl (e _ _ h))
  · exact .inl (.inr ⟨o, e _ _ h⟩)
  · exact .inr h
theorem same_new {H : Hp} {p : Addr} (h : H p = none) (o : HO) : Same H (upd H p o) := fun b u q => by rw [upd_ne (ne_of_none q h)]; exact q
/-- a pair of ints that stands for q -/
def Rq (K : PySem.W.Frag) (H : Hp) (v : V) (q : Rat) : Prop := ∃ a, v = .ref a ∧ SqT K H a [.int q.num, .int (q.den : Int)]
theorem Rq.same {K : PySem.W.Frag} {H H' : Hp} {v : V} {q : Rat} (e : Same H H') (h : Rq K H v q) : Rq K H' v q := by
  obtain ⟨a, rfl, h⟩ := h
  exact ⟨a, rfl, e.sqt h⟩
theorem sz2 : 2 ≤ sizeLine := by decide
theorem at0 {xs : List V} {v : V} (h : xs[0]? = some v) : atI xs 0 = some v := atI_nat (j := 0) h
theorem at1 {xs : List V} {v : V} (h : xs[1]? = some v) : atI xs 1 = some v := atI_nat (j := 1) h
theorem at2 {xs : List V} {v : V} (h : xs[2]? = some v) : atI xs 2 = some v := atI_nat (j := 2) h
theorem ifT {c : Bool} {A B : Prop} (hc : c = true) (h : A) : if c = true then A else B := by
  rw [if_pos hc]
  exact h
theorem ifF {c : Bool} {A B : Prop} (hc : c = false) (h : B) : if c = true then A else B := by
  rw [hc, if_neg Bool.false_ne_true]
  exact h
theorem dF {p : Prop} [Decidable p] (h : ¬ p) : decide p = false := decide_eq_false h
theorem dT {p : Prop} [Decidable p] (h : p) : decide p = true := decide_eq_true h
theorem ifD {p : Prop} [Decidable p] {A B : Prop} (h1 : p → A) (h2 : ¬ p → B) : if decide p = true then A else B := by
  by_cases h : p
  · exact ifT (decide_eq_true h) (h1 h)
  · exact ifF (decide_eq_false h) (h2 h)
theorem fmod_nat (x m : Nat) : (x : Int).fmod (m : Int) = ((x % m : Nat) : Int) := by
  rw [Int.fmod_eq_emod_of_nonneg _ (by omega)]
  rfl
/-- what stands behind a statement, said once for all its ways -/
theorem cut {t u : TS} {D : Ends} {σ : L2.St} {H : Hp} (mid : L2.St → Hp → Prop) (key : ∀ σ' H', mid σ' H' → u D σ' H') (h : (∀ σ' H', mid σ' H' → u D σ' H') → tSeq t u D σ H) : tSeq t u D σ H := h key
/-! ### the store of draws -/
/-- at s stands a store: the script's list at l, five counters -/
def Sto (l s : Addr) (H : Hp) : Prop := ∃ (ns : List Int) (pos num seed hold cnt : Int), H s = some (.lst [.ref l, .int pos, .int num, .int seed, .int hold, .int cnt]) ∧ l ≠ s ∧ H l = some (.lst (ns.map V.int)) ∧ ns.length ≤ 63 ∧ 0 ≤ pos ∧ 0 ≤ num ∧ 0 ≤ seed ∧ seed < 1000000007
/-- all but what stands at s is as it was -/
def Fr (s : Addr) (H H' : Hp) : Prop := ∀ b o, H b = some o → b ≠ s → H' b = some o
theorem Fr.refl (s : Addr) (H : Hp) : Fr s H H := fun _ _ h _ => h
theorem Fr.trans {s : Addr} {H H1 H2 : Hp} (a : Fr s H H1) (b : Fr s H1 H2) : Fr s H H2 := fun c o h n => b c o (a c o h n) n
theorem Fr.of {s : Addr} {H H' : Hp} (e : Same H H') : Fr s H H' := fun b o h _ => e b o h
theorem Fr.upd {s : Addr} {H : Hp} (o : HO) : Fr s H (upd H s o) := fun b u h n => by rw [upd_ne n]; exact h
theorem Fr.free {s : Addr} {H H' : Hp} (e : Fr s H H') {p : Addr} (h : H' p = none) (n : p ≠ s) : H p = none := by
  cases q : H p with
  | none => rfl
  | some o =>
    rw [e p o q n] at h
    cases h
theorem Sto.some {l s : Addr} {H : Hp} (h : Sto l s H) : ∃ xs, H s = some (.lst xs) := by
  obtain ⟨_, _, _, _, _, _, h, _⟩ := h
  exact ⟨_, h⟩
theorem Sto.ne {l s : Addr} {H : Hp} (h : Sto l s H) {p : Addr} (n : H p = none) : p ≠ s := by
  obtain ⟨xs, h⟩ := h.some
  exact fun z => by rw [z, h] at n; cases n
theorem Sto.nl {l s : Addr} {H : Hp} (h : Sto l s H) {p : Addr} (n : H p = none) : p ≠ l := by
  obtain ⟨_, _, _, _, _, _, _, _, h, _⟩ := h
  exact fun z => by rw [z, h] at n; cases n
theorem Sto.same {l s : Addr} {H H' : Hp} (e : Same H H') (h : Sto l s H) : Sto l s H' := by
  obtain ⟨ns, pos, num, seed, hold, cnt, h1, h2, h3, r⟩ := h
  exact ⟨ns, pos, num, seed, hold, cnt, e _ _ h1, h2, e _ _ h3, r⟩
/-- what becomes of another list does not matter -/
theorem Sto.upd {l s D : Addr} {H : Hp} {o : HO} (h : Sto l s H) (n1 : D ≠ s) (n2 : D ≠ l) : Sto l s (upd H D o) := by
  obtain ⟨ns, pos, num, seed, hold, cnt, h1, h2, h3, r⟩ := h
  exact ⟨ns, pos, num, seed, hold, cnt, by rw [upd_ne (Ne.symm n1)]; exact h1, h2, by rw [upd_ne (Ne.symm n2)]; exact h3, r⟩
/-- a tuple outlives what becomes of a list -/
theorem sqt_fr {K : PySem.W.Frag} {s a : Addr} {H H' : Hp} {xs : List V} (e : Fr s H H') (hs : ∃ ys, H s = some (.lst ys)) (h : SqT K H a xs) : SqT K H' a xs := by
  obtain ⟨ys, hs⟩ := hs
  have n : ∀ {o : HO}, H a = some o → (∀ ys, o ≠ .lst ys) → a ≠ s := fun {o} h1 h2 z => by
    rw [z, hs] at h1
    exact h2 ys (Option.some.inj h1).symm
  rcases h with (h | ⟨o, h⟩) | h
  · exact .inl (.inl (e _ _ h (n h fun _ z => by cases z)))
  · exact .inl (.inr ⟨o, e _ _ h (n h fun _ z => by cases z)⟩)
  · exact .inr h
theorem Rq.fr {K : PySem.W.Frag} {s : Addr} {H H' : Hp} {v : V} {q : Rat} (e : Fr s H H') (hs : ∃ ys, H s = some (.lst ys)) (h : Rq K H v q) : Rq K H' v q := by
  obtain ⟨a, rfl, h⟩ := h
  exact ⟨a, rfl, sqt_fr e hs h⟩
theorem seq_fr {K : PySem.W.Frag} {s a : Addr} {H H' : Hp} {xs : List V} (e : Fr s H H') (n : a ≠ s) (h : SqL K H a xs) : SqL K H' a xs := by
  rcases h with (h | ⟨o, h⟩) | h
  · exact .inl (.inl (e _ _ h n))
  · exact .inl (.inr ⟨o, e _ _ h n⟩)
  · exact .inr h
theorem sm6 : 6 ≤ sizeLine := by decide
theorem sm4 : 4 ≤ sizeLine := by decide
theorem sm3 : 3 ≤ sizeLine := by decide
theorem sm5 : 5 ≤ sizeLine := by decide
end Vk

namespace Vk
open PySem L2 Vm
/-! ### what a question asks, said so that it is answered by looks at the context -/
variable {K : PySem.W.Frag}
theorem aTup {H : Hp} {xs : List V} {Q : VK} (h : ∀ p H', H p = none → Same H H' → SqT K H' p xs → Q (.ref p) H') : ∀ p, H p = none → Q (.ref p) (upd H p (.tup xs)) := fun p hp => h p _ hp (same_new hp _) (SqT.of upd_same)
theorem aLst {H : Hp} {xs : List V} {Q : VK} (h : ∀ p H', H p = none → Same H H' → H' p = some (.lst xs) → Q (.ref p) H') : ∀ p, H p = none → Q (.ref p) (upd H p (.lst xs)) := fun p hp => h p _ hp (same_new hp _) upd_same
theorem aRq {H : Hp} {q : Rat} {Q : VK} (h : ∀ a H', Same H H' → Rq K H' (.ref a) q → SqT K H' a [.int q.num, .int (q.den : Int)] → Q (.ref a) H') : ∀ r H', Same H H' → Rq K H' r q → Q r H' := fun r H' e hr => by
  obtain ⟨a, rfl, ha⟩ := id hr
  exact h a H' e hr ha
theorem same_new2 {H : Hp} {p q : Addr} {o u : HO} (h : H p = none) (g : upd H p o q = none) : Same H (upd (upd H p o) q u) := (same_new h o).trans (same_new g u)
theorem same_new3 {H : Hp} {p q r : Addr} {o u x : HO} (h : H p = none) (g : upd H p o q = none) (f : upd (upd H p o) q u r = none) : Same H (upd (upd (upd H p o) q u) r x) := (same_new2 h g).trans (same_new f x)
theorem sameFree {H H' : Hp} {p : Addr} (e : Same H H') (h : H' p = none) : H p = none := by
  cases q : H p with
  | none => rfl
  | some o => rw [e _ _ q] at h; cases h
theorem sameAt {H H' : Hp} {a : Addr} {o : HO} (e : Same H H') (h : H a = some o) : H' a = some o := e _ _ h
theorem psNox {X : Cx} {s : Stmt} {t : TS} (h : PS X.nox s t) : PS X s t := ⟨fun pins st σ H D I hw => PySem.wpAny_mono (h.run pins st σ H D (I.wish _) hw) (fun _ _ q => q.unwish) fun _ _ z => False.elim z⟩
theorem cxOf_K {CX : CXT} {P : Program} {w : World} {K : PySem.W.Frag} {mg : Str → Option Value} {base : Heap} {N : List Str} {q : Str} {sc : Scope} {f : Addr} {cdv : Value} {A : Around} {outer : List Env} {s : Shared} {H : Hp} {E : XK} : (cxOf CX P w K mg base N q sc f cdv A outer s H E).K = K := rfl
theorem cxOf_noxK {CX : CXT} {P : Program} {w : World} {K : PySem.W.Frag} {mg : Str → Option Value} {base : Heap} {N : List Str} {q : Str} {sc : Scope} {f : Addr} {cdv : Value} {A : Around} {outer : List Env} {s : Shared} {H : Hp} {E : XK} : (cxOf CX P w K mg base N q sc f cdv A outer s H E).nox.K = K := rfl
theorem sz3 : 3 ≤ sizeLine := by decide
theorem sz1 : 1 ≤ sizeLine := by decide
theorem sz4 : 4 ≤ sizeLine := by decide
end Vk

set_option maxHeartbeats 2000000
namespace PySem
namespace ValX
open PySem.W PySem.Calls PyProof.Rows PySem.HandSPX
/-! ### the text of __init__ -/
def iA (p1 p2 : Pos) : Arguments := { posonlyargs := [], args := [{ arg := "self", annotation := none, pos := p1 }, { arg := "value", annotation := none, pos := p2 }], vararg := none, kwonlyargs := [], kw_defaults := [], kwarg := none, defaults := [] }
def iB (q1 q2 q3 q4 : Pos) : List Stmt := [.Assign [.Attribute (.Name "self" q1) "value" q2] (.Name "value" q3) q4]
def iS : Scope := { kind := .function, names := [(PySem.Str.ofString "self", .local), (PySem.Str.ofString "value", .local)], isGenerator := false, isCoroutine := false, more := [] }
/-- what the written part says of the class, at C, and of its __init__, at fI -/
structure ValTxt (K : Frag) (mg : Str → Option Value) (nm : Str) (C fI : Addr) : Prop where
  gC : mg nm = some (.ref C)
  cls : ∃ nm q N bs bm sn sub ab col dd k0 k1 k2 k3 k5, K.lookup C = some (excClassObj nm q C N bs bm true sn sub ab col dd k0 k1 k2 k3 k5 "ValueError.__new__") ∧ refsVE bm = true
  sa : findIn K (.ref C) "__setattr__" = some (some (.builtin "object.__setattr__"))
  ga : findIn K (.ref C) "__getattribute__" = some (some (.builtin "BaseException.__getattribute__"))
  gg : findIn K (.ref C) "__getattr__" = some none
  noN : findIn K (.ref C) "value" = some none
  iC : findIn K (.ref C) "__init__" = some (some (.ref fI))
  tC : typeIn K (.ref fI) = some (.type "function")
  kC : keepIn K (.ref C) = true
  exC : subIn K (.ref C) (.type "BaseException") = some true
  tyC : typeIn K (.ref C) = some (.type "type")
  hdC : hasDictIn K C = true
  te : exmOne K (.ref C) (.ref C) = some true
  fn : ∃ (q : Str) (oc : Value) (od : Option Addr) (doc pm : Value) (an : Option Addr) (cdv ct : Value) (osl : Array (Option Value)) (p1 p2 q1 q2 q3 q4 : Pos),
    K.lookup fI = some ⟨oc, od, .func (fnOf "__init__" q (iA p1 p2) (iB q1 q2 q3 q4) iS .none .none doc pm an cdv ct), osl⟩ ∧ codeIn K cdv q = true
theorem one_size (v : Value) : [v].length ≤ sizeLine := by
  rw [sizeLine_eq]
  exact (by decide : 1 ≤ 16777216)
theorem kept_but {K : Frag} {h h' : Heap} {x : Addr} (X : K.In h) (hx : K.lookup x = none) (k : ∀ b o, b ≠ x → h.get? b = some o → h'.get? b = some o) : K.In h' := fun a o e =>
  k a o (fun z => by rw [z, hx] at e; cases e) (X a o e)
theorem ldC {M : Model} {s : Shared} {name : Str} {scope : Scope} {L a : Addr} {cd : Value} {m : Str → Option Value} {x : Str} {pos : Pos} {v : Value} {Q : Value → Shared → Prop} {A : Around} {E : Value → Shared → Prop} (hn : s.heap.Ns L m) (hv : m x = some v) (h : Q v s)
    (hk : scope.kind = .function := by rfl) (hl : (envOfC name scope L a cd).kindOf x = some .local := by rfl) (hd : (x == ("__debug__" : Str)) = false := by decide) :
    wpAny M A (eval (.Name x pos) (envOfC name scope L a cd)) Q E s := wpAny_Name (wpAny_loadName_local hk hl hn hv h) hd
/-- what __init__ leaves of a fresh exception at x -/
structure InitEnd (h h' : Heap) (x C dx t1 : Addr) (v : Value) : Prop where
  keep : ∀ b o, b ≠ x → h.get? b = some o → h'.get? b = some o
  obj : h'.get? x = some { cls := .ref C, dict := some dx, data := .fields #[.ref t1, .none, .none, .none, .bool false, .none] }
  dbig : h.objs.size ≤ dx
  dne : dx ≠ x
  ns : h'.Ns1 dx (fun y => if y = "value" then some v else none)
/-- a made error -/
structure OwnMade (h h' : Heap) (e C d : Addr) (v : Value) : Prop where
  keep : ∀ b o, h.get? b = some o → h'.get? b = some o
  new : h.objs.size ≤ e
  obj : ∃ oe vs, h'.get? e = some oe ∧ oe.cls = .ref C ∧ oe.dict = some d ∧ oe.data = .fields vs ∧ vs[1]? = some .none ∧ vs[2]? = some .none
  dbig : h.objs.size ≤ d
  dne : d ≠ e
  ns : h'.Ns1 d (fun y => if y = "value" then some v else none)
section
variable {prog : Program} {w : World} {A : Around} {E : Value → Shared → Prop} {R : Result → Shared → Prop} {s : Shared} {K : Frag} {mg : Str → Option Value} {nm : Str} {C fI : Addr}
theorem val_init (T : ValTxt K mg nm C fI) {x t0 : Addr} {v : Value} (X : K.In s.heap) (hlim : s.heap.NoLimit) (hx : s.heap.get? x = some (excO C t0)) (hnx : K.lookup x = none) (hroom : A.depth < recursionLimit)
    (hq : ∀ h' tk dx, InitEnd s.heap h' x C dx t0 v → R (.ok (.ret .none)) { s with heap := h', toks := tk }) :
    codeAny (model prog w) A (.call (.ref fI) ⟨[.ref x, v], []⟩) R s := by
  obtain ⟨qn, oc, od, doc, pm, an, cdv, ct, osl, p1, p2, q1, q2, q3, q4, ho, hcd⟩ := T.fn
  obtain ⟨cnm, q, N, bs, bm, sn, sub, ab, col, dd, k0, k1, k2, k3, k5, hC, hbm⟩ := T.cls
  have hcl : clsIn K C = some { name := cnm, bases := bs, mro := .ref C :: bm, ns := N, qualname := q, hasDict := true, slotNames := sn, subclasses := sub, abstract := ab, collection := col, hasDel := false } := by unfold clsIn; rw [hC] <;> rfl
  refine Att.call_fn (binds := [("self", .ref x), ("value", v)]) X hlim ho hcd hroom (BindsTo.of_eq (by first | rfl | with_unfolding_all rfl)) (by first | rfl | decide | with_unfolding_all rfl) (fun s₁ IC => ?_) rfl rfl rfl
  obtain ⟨h₁, tk₁, rfl⟩ := IC.toInCall.same
  have k : ∀ b o, s.heap.get? b = some o → h₁.get? b = some o := IC.toInCall.keep
  have hn := IC.toInCall.ns
  have hxL : s.heap.objs.size ≠ x := Nat.ne_of_gt (Heap.lt_size hx)
  have X₁ : K.In h₁ := X.keeps k
  have hx₁ := k _ _ hx
  -- self.by = by
  show wpAny _ _ (execs _ _) _ _ _
  refine wpAny_execs_cons (plainObj_wpAny_Assign_Attribute ?_)
  refine ldC (v := v) hn (by first | rfl | with_unfolding_all rfl | kernel_rfl) (ldC (v := .ref x) hn (by first | rfl | with_unfolding_all rfl | kernel_rfl) ?_)
  refine set_plain X₁ (ox := excO C t0) (od := none) ⟨hx₁, rfl, rfl, trivial⟩ T.sa ?_
  refine exc_osa X₁ hx₁ hcl (show refsVE (.ref C :: bm) = true from hbm) rfl T.noN (fun h₃ tk₃ dx k₃ dn dne hx₃ hn₃ => ?_)
  show wpAny _ _ (execs _ _) _ _ _
  have z : s.heap.objs.size < h₁.objs.size := hn.lt
  exact wpAny_execs_nil (hq h₃ tk₃ dx ⟨fun b o hb e => k₃ b o hb (k b o e), hx₃, Nat.le_of_lt (Nat.lt_of_lt_of_le z dn), dne, hn₃⟩)
theorem val_made (T : ValTxt K mg nm C fI) {v : Value} (X : K.In s.heap) (hlim : s.heap.NoLimit) (hroom : A.depth + 1 < recursionLimit)
    (hq : ∀ h' tk e d, OwnMade s.heap h' e C d v → R (.ok (.ret (.ref e))) { s with heap := h', toks := tk }) :
    codeAny (model prog w) A (.call (.ref C) ⟨[v], []⟩) R s := by
  obtain ⟨cnm, q, N, bs, bm, sn, sub, ab, col, dd, k0, k1, k2, k3, k5, hC, hbm⟩ := T.cls
  obtain ⟨hp, g, dr, tk, os⟩ := s
  have k : ∀ b o, hp.get? b = some o → ((hp.push (kdv_tup [v])).push (excO C hp.objs.size)).get? b = some o := fun b o e => Heap.get?_push_of_some _ (Heap.get?_push_of_some _ e)
  have hget : ((hp.push (kdv_tup [v])).push (excO C hp.objs.size)).get? (hp.objs.size + 1) = some (excO C hp.objs.size) := by heap_get
  have hnx : K.lookup (hp.objs.size + 1) = none := by
    cases e : K.lookup (hp.objs.size + 1) with
    | none => rfl
    | some o =>
      have z : hp.get? (hp.objs.size + 1) = some o := X _ _ e
      exact absurd (Nat.lt_of_succ_lt (Heap.lt_size z)) (Nat.lt_irrefl _)
  refine call_own F.excBase_ValueError (fun X => refsVE_contains X bm hbm) (X _ _ hC) (looks_findIn X T.iC) (fun self => bind_fn X self T.tC) (one_size v) ?_
  refine val_init (s := ⟨(hp.push (kdv_tup [v])).push (excO C hp.objs.size), g, dr, tk, os⟩) T (X.keeps k) (hlim.keeps k) hget hnx ?_ fun h' tk' dx ⟨k', hx, dn, dne, hns⟩ => ?_
  · show A.depth + 1 < recursionLimit
    exact hroom
  · have old : ∀ b o, hp.get? b = some o → h'.get? b = some o := fun b o e => k' b o (Nat.ne_of_lt (Nat.lt_succ_of_lt (Heap.lt_size e))) (k b o e)
    have z : hp.objs.size + 1 + 1 ≤ dx := by
      first
        | (simpa only [Heap.size_push] using dn)
        | exact dn
        | (have q := dn; rw [Heap.size_push, Heap.size_push] at q; exact q)
    exact ⟨rfl, hq h' tk' (hp.objs.size + 1) dx ⟨old, Nat.le_succ _, ⟨_, _, hx, rfl, rfl, rfl, rfl, rfl⟩, Nat.le_trans (Nat.le_trans (Nat.le_succ _) (Nat.le_succ _)) z, dne, hns⟩⟩
end
end ValX
end PySem
namespace L2
open PySem PySem.Spec PyProof.Rows
theorem relO_val {v : V} {v' : Value} (r : RelV v v') (f : Str) : RelO (List.lookup f [(("value" : Str), v)]) (if f = "value" then some v' else none) := by
  by_cases hw : f = "value"
  · subst hw
    rw [if_pos rfl]
    have q : List.lookup ("value" : Str) [(("value" : Str), v)] = some v := by simp [List.lookup]
    rw [q]
    exact r
  · rw [if_neg hw]
    have qw : (f == ("value" : Str)) = false := by simpa using hw
    have q2 : List.lookup f [(("value" : Str), v)] = none := by simp [List.lookup, qw]
    rw [q2]
    trivial
section
variable {X : Cx} {nm : Str} {C fI : Addr}
/-- X(e) -/
def tMkVal (C : Addr) (ta : TA) : St → Hp → XK → Prop := fun σ H Q => ta σ H fun vs H1 => ∃ v, vs = [v] ∧ ∀ d, H1 d = none → Q (.ref C) (some d) (upd H1 d (.xd [(("value" : Str), v)]))
theorem pmk_val {a : Expr} {ta : TA} {p pos : Pos} {k : Nat} (T : PySem.ValX.ValTxt X.K X.mg nm C fI) (hr : Room k X.A) (ha : PA X [a] ta) (hg : Gl X nm := by rfl) (hdb : (nm == ("__debug__" : Str)) = false := by decide)
    (he : starEach (a :: []) X.env = (false, eval a X.env) :: starEach [] X.env := by rfl) (hpl : (backTo pos (starEach [] X.env)).any (·.1) = false := by rfl) :
    PMk X (.Call (.Name nm p) [a] [] pos) (tMkVal C ta) := by
  intro pins s σ H Q I h
  refine wpAny_Call_Name_kw (ld_glob I hg T.gC ?_ hdb)
  refine PySem.W.callWith_K (h₀ := X.base) I.ok.mod.kin T.kC (thn (ha.run pos pins s σ H _ I h) fun us s1 hh => ?_) he hpl
  obtain ⟨vs, H1, I1, r1, v, ev, q1⟩ := hh
  subst ev
  refine ⟨I1.kIn, ?_⟩
  cases r1 with
  | cons rv rn =>
    rename_i v' us'
    cases rn
    show wpAny _ _ (call (.ref C) [v']) _ _ _
    have hlim := I1.nolimit
    obtain ⟨hp, g, dr, tk, os⟩ := s1
    refine wpAny_call (PySem.ValX.val_made T I1.kIn hlim (by have := hr.dp; omega) fun h' tk' e d M => ?_)
    show MkP X pins σ Q (.ref e) ⟨h', g, dr, tk', os⟩
    obtain ⟨oe, fv, hoe, hc, hd, hdat, h1, h2⟩ := M.obj
    have hns := M.ns
    obtain ⟨G', g1, g2⟩ := restrict h' fun b => decide (b ≠ e)
    have gk : ∀ b, b ≠ e → G'.get? b = h'.get? b := fun b hb => g1 b (decide_eq_true hb)
    have ge : G'.get? e = none := g2 e (by simp)
    have old : ∀ b o, hp.get? b = some o → G'.get? b = some o := fun b o q => (gk b (Nat.ne_of_lt (Nat.lt_of_lt_of_le (Heap.lt_size q) M.new))).trans (M.keep b o q)
    have ob : ObjOk X.prog X.w (upd H1 d (.xd [(("value" : Str), v)])) G' d (.xd [(("value" : Str), v)]) :=
      ⟨_, hns.at (fun o q => (gk d M.dne).trans q), fun f => relO_val rv f⟩
    have J : Inv X pins σ (upd H1 d (.xd [(("value" : Str), v)])) ⟨G', g, dr, tk', os⟩ := I1.laid (t' := tk') old M.dbig ob
    refine ⟨e, oe, fv, ⟨G', g, dr, tk', os⟩, _, .ref C, some d, rfl, J, fun b o q => ?_, ge, hoe, ⟨hc, hd⟩, hdat, h1, ?_, rfl, I1.bare, raises_own T.exC T.tyC, q1 d (I1.hok.fresh M.dbig)⟩
    · by_cases hb : b = e
      · have q' : G'.get? b = some o := q
        rw [hb, ge] at q'; cases q'
      · exact (gk b hb).symm.trans q
    · rw [upd_ne (Ne.symm M.dne)]
      exact I1.hok.fresh M.new
/-- raise X(e) -/
def tRaiseVal (C : Addr) (W : WX) (ta : TA) : TS := fun _ σ H => tMkVal C ta σ H fun cls d H' => W cls d σ H'
theorem ps_raiseVal {a : Expr} {ta : TA} {W : WX} {p pos pos2 : Pos} {k : Nat} (hc : X.calm = true) (T : PySem.ValX.ValTxt X.K X.mg nm C fI) (hr : Room k X.A) (tk : Takes X W) (ha : PA X [a] ta) (hg : Gl X nm := by rfl) (hdb : (nm == ("__debug__" : Str)) = false := by decide)
    (he : starEach (a :: []) X.env = (false, eval a X.env) :: starEach [] X.env := by rfl) (hpl : (backTo pos (starEach [] X.env)).any (·.1) = false := by rfl) :
    PS X (.Raise (some (.Call (.Name nm p) [a] [] pos)) none pos2) (tRaiseVal C W ta) := ps_raise hc tk (pmk_val T hr ha hg hdb he hpl)
theorem pmk_valN {a : Expr} {ta : TA} {p pos : Pos} {k : Nat} (T : PySem.ValX.ValTxt X.K X.mg nm C fI) (hr : Room k X.A) (ha : PA X [a] ta) (hg : Gl X nm := by rfl) (hdb : (nm == ("__debug__" : Str)) = false := by decide)
    (he : starEach (a :: []) X.env = (false, eval a X.env) :: starEach [] X.env := by rfl) (hpl : (backTo pos (starEach [] X.env)).any (·.1) = false := by rfl) :
    L2N.PMk X (.Call (.Name nm p) [a] [] pos) (tMkVal C ta) := by
  intro pins s σ H Q I h
  refine wpAny_Call_Name_kw (ld_glob I hg T.gC ?_ hdb)
  refine PySem.W.callWith_K (h₀ := X.base) I.ok.mod.kin T.kC (thn (ha.run pos pins s σ H _ I h) fun us s1 hh => ?_) he hpl
  obtain ⟨vs, H1, I1, r1, v, ev, q1⟩ := hh
  subst ev
  refine ⟨I1.kIn, ?_⟩
  cases r1 with
  | cons rv rn =>
    rename_i v' us'
    cases rn
    show wpAny _ _ (call (.ref C) [v']) _ _ _
    have hlim := I1.nolimit
    obtain ⟨hp, g, dr, tk, os⟩ := s1
    refine wpAny_call (PySem.ValX.val_made T I1.kIn hlim (by have := hr.dp; omega) fun h' tk' e d M => ?_)
    show L2N.MkP X pins σ Q (.ref e) ⟨h', g, dr, tk', os⟩
    obtain ⟨oe, fv, hoe, hc, hd, hdat, h1, h2⟩ := M.obj
    have hns := M.ns
    obtain ⟨G', g1, g2⟩ := restrict h' fun b => decide (b ≠ e)
    have gk : ∀ b, b ≠ e → G'.get? b = h'.get? b := fun b hb => g1 b (decide_eq_true hb)
    have ge : G'.get? e = none := g2 e (by simp)
    have old : ∀ b o, hp.get? b = some o → G'.get? b = some o := fun b o q => (gk b (Nat.ne_of_lt (Nat.lt_of_lt_of_le (Heap.lt_size q) M.new))).trans (M.keep b o q)
    have ob : ObjOk X.prog X.w (upd H1 d (.xd [(("value" : Str), v)])) G' d (.xd [(("value" : Str), v)]) :=
      ⟨_, hns.at (fun o q => (gk d M.dne).trans q), fun f => relO_val rv f⟩
    have J : Inv X pins σ (upd H1 d (.xd [(("value" : Str), v)])) ⟨G', g, dr, tk', os⟩ := I1.laid (t' := tk') old M.dbig ob
    refine ⟨e, oe, fv, ⟨G', g, dr, tk', os⟩, _, .ref C, some d, rfl, J, fun b o q => ?_, ge, hoe, ⟨hc, hd, fun vs ev => by rw [hdat] at ev; cases ev; exact h2⟩, hdat, h1, ?_, rfl, I1.bare, raises_own T.exC T.tyC, q1 d (I1.hok.fresh M.dbig)⟩
    · by_cases hb : b = e
      · have q' : G'.get? b = some o := q
        rw [hb, ge] at q'; cases q'
      · exact (gk b hb).symm.trans q
    · rw [upd_ne (Ne.symm M.dne)]
      exact I1.hok.fresh M.new
/-- raise X(e), where the context of exceptions is told, too -/
theorem ps_raiseValN {a : Expr} {ta : TA} {W : WX} {p pos pos2 : Pos} {k : Nat} (hc : X.calm = true) (T : PySem.ValX.ValTxt X.K X.mg nm C fI) (hr : Room k X.A) (tk : L2N.Takes X W) (ha : PA X [a] ta) (hg : Gl X nm := by rfl) (hdb : (nm == ("__debug__" : Str)) = false := by decide)
    (he : starEach (a :: []) X.env = (false, eval a X.env) :: starEach [] X.env := by rfl) (hpl : (backTo pos (starEach [] X.env)).any (·.1) = false := by rfl) :
    PS X (.Raise (some (.Call (.Name nm p) [a] [] pos)) none pos2) (tRaiseVal C W ta) := L2N.ps_raise hc tk (pmk_valN T hr ha hg hdb he hpl)
/-- e.value, e the exception that the suite holds (at a; its class cls, its dict d) -/
def tByVal (C : Addr) (a : Addr) (cls : Value) (d : Option Addr) (te : TE) : TE := fun σ H Q => te σ H fun x H1 => x = .ref a ∧ cls = .ref C ∧ ∃ (dd : Addr) (v : V), d = some dd ∧ H1 dd = some (.xd [(("value" : Str), v)]) ∧ Q v H1
theorem pe_byVal {a : Addr} {oe : Obj} {cls : Value} {d : Option Addr} {pn : List (Addr × Obj)} {e : Expr} {te : TE} {pos : Pos} (T : PySem.ValX.ValTxt X.K X.mg nm C fI) (hz : Zc cls d oe) (hf : ∃ vs, oe.data = .fields vs) (he : PE (X.suite a ((a, oe) :: pn)) e te)
    (hb : attributeBase e "value" X.env (eval e X.env) = eval e X.env := by rfl) :
    PE (X.suite a ((a, oe) :: pn)) (.Attribute e "value" pos) (tByVal C a cls d te) := by
  refine ⟨fun pins s σ H Q I h => ?_⟩
  refine attr_of hb (thn (he.run pins s σ H _ I h) fun u s1 hh => ?_)
  obtain ⟨x, H1, I1, rx, ex, ec, dd, v, ed, ea, q⟩ := hh
  subst ex
  obtain rfl : u = Value.ref a := rx
  subst ec
  subst ed
  obtain ⟨ha, _⟩ := I1.pin (a, oe) (List.mem_append_left _ List.mem_cons_self)
  obtain ⟨vs, hd⟩ := hf
  have hx : ObjOk X.prog X.w H1 s1.heap dd (.xd [(("value" : Str), v)]) := I1.hok dd _ ea
  obtain ⟨mA, hns, hr⟩ := hx
  obtain ⟨od, ho, hl⟩ := lookIn_ns hns
  have l : List.lookup ("value" : Str) [(("value" : Str), v)] = some v := by simp [List.lookup]
  obtain ⟨u, hu, ru⟩ := RelO.some_of (v := v) (o := mA "value") (by rw [← l]; exact hr "value")
  have J : PySem.W.InstAt s1.heap a oe C (some od) := ⟨ha, hz.1, by unfold PySem.W.notCls; rw [hd] <;> rfl, by rw [hz.2]; exact ho⟩
  exact HandSPX.exc_get I1.kIn J T.ga T.gg T.exC (PySem.W.findObj_own T.hdC T.noN rfl (by rw [hl, hu])) (handed_of ru) ⟨v, H1, I1.tok _, ru, q⟩
end
end L2

set_option maxHeartbeats 2000000
/-! a class whose __init__ stores its two arguments as self.low and self.high -/
namespace PySem
namespace Val2
open PySem.W PySem.Calls PyProof.Rows PySem.HandSPX PySem.ValX
def iA (p1 p2 p3 : Pos) : Arguments := { posonlyargs := [], args := [{ arg := "self", annotation := none, pos := p1 }, { arg := "low", annotation := none, pos := p2 }, { arg := "high", annotation := none, pos := p3 }], vararg := none, kwonlyargs := [], kw_defaults := [], kwarg := none, defaults := [] }
def iB (q1 q2 q3 q4 r1 r2 r3 r4 : Pos) : List Stmt := [.Assign [.Attribute (.Name "self" q1) "low" q2] (.Name "low" q3) q4, .Assign [.Attribute (.Name "self" r1) "high" r2] (.Name "high" r3) r4]
def iS : Scope := { kind := .function, names := [(PySem.Str.ofString "self", .local), (PySem.Str.ofString "low", .local), (PySem.Str.ofString "high", .local)], isGenerator := false, isCoroutine := false, more := [] }
structure Txt (K : Frag) (mg : Str → Option Value) (nm : Str) (C fI : Addr) : Prop where
  gC : mg nm = some (.ref C)
  cls : ∃ nm q N bs bm sn sub ab col dd k0 k1 k2 k3 k5, K.lookup C = some (excClassObj nm q C N bs bm true sn sub ab col dd k0 k1 k2 k3 k5 "ValueError.__new__") ∧ refsVE bm = true
  sa : findIn K (.ref C) "__setattr__" = some (some (.builtin "object.__setattr__"))
  ga : findIn K (.ref C) "__getattribute__" = some (some (.builtin "BaseException.__getattribute__"))
  gg : findIn K (.ref C) "__getattr__" = some none
  noL : findIn K (.ref C) "low" = some none
  noH : findIn K (.ref C) "high" = some none
  iC : findIn K (.ref C) "__init__" = some (some (.ref fI))
  tC : typeIn K (.ref fI) = some (.type "function")
  kC : keepIn K (.ref C) = true
  exC : subIn K (.ref C) (.type "BaseException") = some true
  tyC : typeIn K (.ref C) = some (.type "type")
  hdC : hasDictIn K C = true
  te : exmOne K (.ref C) (.ref C) = some true
  fn : ∃ (q : Str) (oc : Value) (od : Option Addr) (doc pm : Value) (an : Option Addr) (cdv ct : Value) (osl : Array (Option Value)) (p1 p2 p3 q1 q2 q3 q4 r1 r2 r3 r4 : Pos),
    K.lookup fI = some ⟨oc, od, .func (fnOf "__init__" q (iA p1 p2 p3) (iB q1 q2 q3 q4 r1 r2 r3 r4) iS .none .none doc pm an cdv ct), osl⟩ ∧ codeIn K cdv q = true
theorem two_size (u v : Value) : [u, v].length ≤ sizeLine := by
  rw [sizeLine_eq]
  exact (by decide : 2 ≤ 16777216)
abbrev m2 (u v : Value) : Str → Option Value := fun y => if y = "high" then some v else if y = "low" then some u else none
structure InitEnd (h h' : Heap) (x C dx t1 : Addr) (u v : Value) : Prop where
  keep : ∀ b o, b ≠ x → h.get? b = some o → h'.get? b = some o
  obj : h'.get? x = some { cls := .ref C, dict := some dx, data := .fields #[.ref t1, .none, .none, .none, .bool false, .none] }
  dbig : h.objs.size ≤ dx
  dne : dx ≠ x
  ns : h'.Ns1 dx (m2 u v)
structure OwnMade (h h' : Heap) (e C d : Addr) (u v : Value) : Prop where
  keep : ∀ b o, h.get? b = some o → h'.get? b = some o
  new : h.objs.size ≤ e
  obj : ∃ oe vs, h'.get? e = some oe ∧ oe.cls = .ref C ∧ oe.dict = some d ∧ oe.data = .fields vs ∧ vs[1]? = some .none ∧ vs[2]? = some .none
  dbig : h.objs.size ≤ d
  dne : d ≠ e
  ns : h'.Ns1 d (m2 u v)
section
variable {prog : Program} {w : World} {A : Around} {E : Value → Shared → Prop} {R : Result → Shared → Prop} {s : Shared} {K : Frag} {mg : Str → Option Value} {nm : Str} {C fI : Addr}
theorem val_init (T : Txt K mg nm C fI) {x t0 : Addr} {u v : Value} (X : K.In s.heap) (hlim : s.heap.NoLimit) (hx : s.heap.get? x = some (excO C t0)) (hnx : K.lookup x = none) (hroom : A.depth < recursionLimit)
    (hq : ∀ h' tk dx, InitEnd s.heap h' x C dx t0 u v → R (.ok (.ret .none)) { s with heap := h', toks := tk }) :
    codeAny (model prog w) A (.call (.ref fI) ⟨[.ref x, u, v], []⟩) R s := by
  obtain ⟨qn, oc, od, doc, pm, an, cdv, ct, osl, p1, p2, p3, q1, q2, q3, q4, r1, r2, r3, r4, ho, hcd⟩ := T.fn
  obtain ⟨cnm, q, N, bs, bm, sn, sub, ab, col, dd, k0, k1, k2, k3, k5, hC, hbm⟩ := T.cls
  have hcl : clsIn K C = some { name := cnm, bases := bs, mro := .ref C :: bm, ns := N, qualname := q, hasDict := true, slotNames := sn, subclasses := sub, abstract := ab, collection := col, hasDel := false } := by unfold clsIn; rw [hC] <;> rfl
  refine Att.call_fn (binds := [("self", .ref x), ("low", u), ("high", v)]) X hlim ho hcd hroom (BindsTo.of_eq (by first | rfl | with_unfolding_all rfl)) (by first | rfl | decide | with_unfolding_all rfl) (fun s₁ IC => ?_) rfl rfl rfl
  obtain ⟨h₁, tk₁, rfl⟩ := IC.toInCall.same
  have k : ∀ b o, s.heap.get? b = some o → h₁.get? b = some o := IC.toInCall.keep
  have hn := IC.toInCall.ns
  have hxL : s.heap.objs.size ≠ x := Nat.ne_of_gt (Heap.lt_size hx)
  have X₁ : K.In h₁ := X.keeps k
  have hx₁ := k _ _ hx
  show wpAny _ _ (execs _ _) _ _ _
  refine wpAny_execs_cons (plainObj_wpAny_Assign_Attribute ?_)
  refine ldC (v := u) hn (by first | rfl | with_unfolding_all rfl | kernel_rfl) (ldC (v := .ref x) hn (by first | rfl | with_unfolding_all rfl | kernel_rfl) ?_)
  refine set_plain X₁ (ox := excO C t0) (od := none) ⟨hx₁, rfl, rfl, trivial⟩ T.sa ?_
  refine exc_osa X₁ hx₁ hcl (show refsVE (.ref C :: bm) = true from hbm) rfl T.noL (fun h₃ tk₃ dx k₃ dn dne hx₃ hn₃ => ?_)
  have z : s.heap.objs.size < h₁.objs.size := hn.lt
  have X₃ : K.In h₃ := kept_but X₁ hnx k₃
  have dL : dx ≠ s.heap.objs.size := fun e => absurd (Nat.lt_of_lt_of_le z dn) (by rw [e]; exact Nat.lt_irrefl _)
  have hnL : h₃.Ns s.heap.objs.size _ := hn.at fun o e => k₃ _ o hxL e
  show wpAny _ _ (execs _ _) _ _ _
  refine wpAny_execs_cons (plainObj_wpAny_Assign_Attribute ?_)
  refine ldC (v := v) hnL (by first | rfl | with_unfolding_all rfl | kernel_rfl) (ldC (v := .ref x) hnL (by first | rfl | with_unfolding_all rfl | kernel_rfl) ?_)
  have hw : Within (fun y => if y = "low" then some u else none) ["low"] := fun y hy => by
    by_cases e : y = "low"
    · rw [e]; exact List.mem_cons_self
    · exact absurd (if_neg e) hy
  obtain ⟨oD, _, _, hoD, _, _⟩ := hn₃.count hw
  refine set_plain X₃ (ox := { cls := .ref C, dict := some dx, data := .fields #[.ref t0, .none, .none, .none, .bool false, .none] }) (od := some oD) ⟨hx₃, rfl, rfl, hoD⟩ T.sa ?_
  refine PySem.OEX.osa_old X₃ hx₃ hn₃ hw (by decide) hcl (show refsVE (.ref C :: bm) = true from hbm) rfl T.noH (fun h₄ tk₄ k₄ hn₄ => ?_)
  show wpAny _ _ (execs _ _) _ _ _
  have old : ∀ b o, b ≠ x → s.heap.get? b = some o → h₄.get? b = some o := fun b o hb e =>
    k₄ b o (Nat.ne_of_lt (Nat.lt_of_lt_of_le (Nat.lt_trans (Heap.lt_size e) z) dn)) (k₃ b o hb (k b o e))
  exact wpAny_execs_nil (hq h₄ tk₄ dx ⟨old, k₄ _ _ (Ne.symm dne) hx₃, Nat.le_of_lt (Nat.lt_of_lt_of_le z dn), dne, hn₄⟩)
theorem val_made (T : Txt K mg nm C fI) {u v : Value} (X : K.In s.heap) (hlim : s.heap.NoLimit) (hroom : A.depth + 1 < recursionLimit)
    (hq : ∀ h' tk e d, OwnMade s.heap h' e C d u v → R (.ok (.ret (.ref e))) { s with heap := h', toks := tk }) :
    codeAny (model prog w) A (.call (.ref C) ⟨[u, v], []⟩) R s := by
  obtain ⟨cnm, q, N, bs, bm, sn, sub, ab, col, dd, k0, k1, k2, k3, k5, hC, hbm⟩ := T.cls
  obtain ⟨hp, g, dr, tk, os⟩ := s
  have k : ∀ b o, hp.get? b = some o → ((hp.push (kdv_tup [u, v])).push (excO C hp.objs.size)).get? b = some o := fun b o e => Heap.get?_push_of_some _ (Heap.get?_push_of_some _ e)
  have hget : ((hp.push (kdv_tup [u, v])).push (excO C hp.objs.size)).get? (hp.objs.size + 1) = some (excO C hp.objs.size) := by heap_get
  have hnx : K.lookup (hp.objs.size + 1) = none := by
    cases e : K.lookup (hp.objs.size + 1) with
    | none => rfl
    | some o =>
      have z : hp.get? (hp.objs.size + 1) = some o := X _ _ e
      exact absurd (Nat.lt_of_succ_lt (Heap.lt_size z)) (Nat.lt_irrefl _)
  refine call_own F.excBase_ValueError (fun X => refsVE_contains X bm hbm) (X _ _ hC) (looks_findIn X T.iC) (fun self => bind_fn X self T.tC) (two_size u v) ?_
  refine val_init (s := ⟨(hp.push (kdv_tup [u, v])).push (excO C hp.objs.size), g, dr, tk, os⟩) T (X.keeps k) (hlim.keeps k) hget hnx ?_ fun h' tk' dx ⟨k', hx, dn, dne, hns⟩ => ?_
  · show A.depth + 1 < recursionLimit
    exact hroom
  · have old : ∀ b o, hp.get? b = some o → h'.get? b = some o := fun b o e => k' b o (Nat.ne_of_lt (Nat.lt_succ_of_lt (Heap.lt_size e))) (k b o e)
    have z : hp.objs.size + 1 + 1 ≤ dx := by
      first
        | (simpa only [Heap.size_push] using dn)
        | exact dn
        | (have q := dn; rw [Heap.size_push, Heap.size_push] at q; exact q)
    exact ⟨rfl, hq h' tk' (hp.objs.size + 1) dx ⟨old, Nat.le_succ _, ⟨_, _, hx, rfl, rfl, rfl, rfl, rfl⟩, Nat.le_trans (Nat.le_trans (Nat.le_succ _) (Nat.le_succ _)) z, dne, hns⟩⟩
end
end Val2
end PySem
namespace L2
open PySem PySem.Spec PyProof.Rows
/-- the two fields -/
abbrev xd2 (u v : V) : HO := .xd [(("high" : Str), v), (("low" : Str), u)]
theorem relO_nil (f : Str) : RelO (List.lookup f ([] : List (Str × V))) (none : Option Value) := trivial
section
variable {X : Cx} {nm : Str} {C fI : Addr}
def tMk2 (C : Addr) (ta : TA) : St → Hp → XK → Prop := fun σ H Q => ta σ H fun vs H1 => ∃ u v, vs = [u, v] ∧ ∀ d, H1 d = none → Q (.ref C) (some d) (upd H1 d (xd2 u v))
theorem relO_2 {u v : V} {u' v' : Value} (ru : RelV u u') (rv : RelV v v') (f : Str) : RelO (List.lookup f [(("high" : Str), v), (("low" : Str), u)]) (PySem.Val2.m2 u' v' f) := by
  have r := relO_put (f := ("high" : Str)) rv (relO_put (f := ("low" : Str)) ru relO_nil) f
  exact r
theorem pmk_2N {a b : Expr} {ta : TA} {p pos : Pos} {k : Nat} (T : PySem.Val2.Txt X.K X.mg nm C fI) (hr : Room k X.A) (ha : PA X [a, b] ta) (hg : Gl X nm := by rfl) (hdb : (nm == ("__debug__" : Str)) = false := by decide)
    (he : starEach (a :: [b]) X.env = (false, eval a X.env) :: starEach [b] X.env := by rfl) (hpl : (backTo pos (starEach [b] X.env)).any (·.1) = false := by rfl) :
    L2N.PMk X (.Call (.Name nm p) [a, b] [] pos) (tMk2 C ta) := by
  intro pins s σ H Q I h
  refine wpAny_Call_Name_kw (ld_glob I hg T.gC ?_ hdb)
  refine PySem.W.callWith_K (h₀ := X.base) I.ok.mod.kin T.kC (thn (ha.run pos pins s σ H _ I h) fun us s1 hh => ?_) he hpl
  obtain ⟨vs, H1, I1, r1, u, v, ev, q1⟩ := hh
  subst ev
  refine ⟨I1.kIn, ?_⟩
  obtain ⟨u', v', rfl, ru, rv⟩ := vals2 r1
  show wpAny _ _ (call (.ref C) [u', v']) _ _ _
  have hlim := I1.nolimit
  obtain ⟨hp, g, dr, tk, os⟩ := s1
  refine wpAny_call (PySem.Val2.val_made T I1.kIn hlim (by have := hr.dp; omega) fun h' tk' e d M => ?_)
  show L2N.MkP X pins σ Q (.ref e) ⟨h', g, dr, tk', os⟩
  obtain ⟨oe, fv, hoe, hc, hd, hdat, h1, h2⟩ := M.obj
  have hns := M.ns
  obtain ⟨G', g1, g2⟩ := restrict h' fun b => decide (b ≠ e)
  have gk : ∀ b, b ≠ e → G'.get? b = h'.get? b := fun b hb => g1 b (decide_eq_true hb)
  have ge : G'.get? e = none := g2 e (by simp)
  have old : ∀ b o, hp.get? b = some o → G'.get? b = some o := fun b o q => (gk b (Nat.ne_of_lt (Nat.lt_of_lt_of_le (Heap.lt_size q) M.new))).trans (M.keep b o q)
  have ob : ObjOk X.prog X.w (upd H1 d (xd2 u v)) G' d (xd2 u v) :=
    ⟨_, hns.at (fun o q => (gk d M.dne).trans q), fun f => relO_2 ru rv f⟩
  have J : Inv X pins σ (upd H1 d (xd2 u v)) ⟨G', g, dr, tk', os⟩ := I1.laid (t' := tk') old M.dbig ob
  refine ⟨e, oe, fv, ⟨G', g, dr, tk', os⟩, _, .ref C, some d, rfl, J, fun b o q => ?_, ge, hoe, ⟨hc, hd, fun vs ev => by rw [hdat] at ev; cases ev; exact h2⟩, hdat, h1, ?_, rfl, I1.bare, raises_own T.exC T.tyC, q1 d (I1.hok.fresh M.dbig)⟩
  · by_cases hb : b = e
    · have q' : G'.get? b = some o := q
      rw [hb, ge] at q'; cases q'
    · exact (gk b hb).symm.trans q
  · rw [upd_ne (Ne.symm M.dne)]
    exact I1.hok.fresh M.new
def tRaise2 (C : Addr) (W : WX) (ta : TA) : TS := fun _ σ H => tMk2 C ta σ H fun cls d H' => W cls d σ H'
theorem ps_raise2N {a b : Expr} {ta : TA} {W : WX} {p pos pos2 : Pos} {k : Nat} (hc : X.calm = true) (T : PySem.Val2.Txt X.K X.mg nm C fI) (hr : Room k X.A) (tk : L2N.Takes X W) (ha : PA X [a, b] ta) (hg : Gl X nm := by rfl) (hdb : (nm == ("__debug__" : Str)) = false := by decide)
    (he : starEach (a :: [b]) X.env = (false, eval a X.env) :: starEach [b] X.env := by rfl) (hpl : (backTo pos (starEach [b] X.env)).any (·.1) = false := by rfl) :
    PS X (.Raise (some (.Call (.Name nm p) [a, b] [] pos)) none pos2) (tRaise2 C W ta) := L2N.ps_raise hc tk (pmk_2N T hr ha hg hdb he hpl)
end
end L2

set_option maxHeartbeats 4000000
/-! isinstance of a caught error of an own class that has a dict of its own -/
namespace Vk
open PySem PySem.W PySem.Spec PySem.Calls PyProof.Rows
section
variable {prog : Program} {w : World} {A : Around} {E : Value → Shared → Prop} {s : Shared} {K : Frag} {x D : Addr} {ox : Obj} {od : Option Obj}
theorem found_data {C : Addr} {name : Str} {a g : Value} (hc : (clsIn K C).isSome = true) (ha : findIn K (.ref C) name = some (some a)) (hg : specialIn K a "__get__" = some (some g)) (ht : takesIn K a = some true) : findObj K C od name = some (.bind g a) := by
  obtain ⟨cd, hc⟩ := Option.isSome_iff_exists.mp hc
  simp only [findObj, hc, ha, Option.bind_some, hg, ht]
/-- what the class must say -/
abbrev Ec (K : Frag) (D : Addr) : Prop := L2.ExcC K D
theorem class_asked {Q : Option Value → Shared → Prop} (C : Ec K D) (X : K.In s.heap) (I : InstAt s.heap x ox D od) (h : Q (some (.ref D)) { s with toks := s.toks + 1 }) : wpAny (model prog w) A (getAttr? (.ref x) "__class__") Q E s := by
  have isC : (clsIn K D).isSome = true := by
    obtain ⟨cd, e, _⟩ := any_some C.hd
    rw [e]
    rfl
  obtain ⟨hp, g, d, t, os⟩ := s
  have T0 := I.type (M := model prog w)
  have F1 := looks_findIn (M := model prog w) X C.hg
  have F2 := looks_findIn (M := model prog w) X C.hk
  have F3 := looks_find (M := model prog w) X I (found_data isC C.ha C.hn C.ht)
  have below : Looks (model prog w) hp (isInstance (.ref x) (.type "BaseException")) true := T0.andThen (looks_subIn X C.hs)
  have q1 : (Value.builtin "BaseException.__getattribute__" == Value.builtin "object.__getattribute__") = false := by decide +kernel
  have q2 : (onTheHeap (Value.ref D) && Value.builtin "BaseException.__getattribute__" == Value.builtin "object.__getattribute__") = false := by rw [q1]; rfl
  unfold getAttr? getAttrBy? getAttrBy
  refine wpAny_bind (wpAny_mkText (wpAny_bind (wpAny_attempt (wpAny_holding (wpAny_bind (T0.at (wpAny_bind (F1.at ?_))))))))
  show wpAny _ _ (if (onTheHeap (Value.ref D) && Value.builtin "BaseException.__getattribute__" == Value.builtin "object.__getattribute__") = true then _ else _) _ _ _
  rw [q2, if_neg Bool.false_ne_true]
  unfold getAttrByItsOwn hookBefore
  refine wpAny_bind ?_
  rw [if_pos (show onTheHeap (Value.ref D) = true from rfl)]
  refine F2.at (wpAny_bind (wpAny_attempt (wpAny_holding ?_)))
  unfold callGetattribute
  rw [show (false && onTheHeap (Value.builtin "BaseException.__getattribute__")) = false from rfl, if_neg Bool.false_ne_true]
  unfold boundAndCalled
  rw [PySem.F.excAttr_ValueError.ga.bind (.ref x)]
  refine wpAny_bind (wpAny_pure ?_)
  show wpAny _ _ (call (.builtin "BaseException.__getattribute__") [.ref x, .str "__class__" t]) _ _ _
  refine wpAny_call (codeAny_call_builtin PySem.F.excAttr_ValueError.ga.plain PySem.F.entry_bexc_ga ?_)
  refine @check_slot (model prog w) _ _ ⟨hp, g, d, t + 1, os⟩ "BaseException.__getattribute__" "BaseException" "__getattribute__" (.ref x) [.str "__class__" t] [] _ (by decide +kernel) (by decide +kernel) below (PySem.F.args_bexc_ga (.ref x) (.str "__class__" t)) ?_
  unfold Builtin.«object.__getattribute__»
  refine wpAny_bind (wpAny_of_eq (a := ((Value.ref x : Value), [Value.str "__class__" t])) (by first | rfl | (simp only [slotArgs]; rfl)) ?_)
  refine wpAny_bind (wpAny_pure (wpAny_bind (T0.at (wpAny_bind (F3.at ?_)))))
  show wpAny _ _ (holding [Value.builtin "object.__class__"] (call (.builtin "getset_descriptor.__get__") [.builtin "object.__class__", .ref x, .ref D]) >>= ret) _ _ _
  refine wpAny_bind (wpAny_holding (wpAny_call (class_get (s := ⟨hp, g, d, t + 1, os⟩) (ox := ox) (od := od) X I C.hm ?_)))
  refine wpAny_pure ?_
  show wpAny _ _ (handedOut (.ref D)) _ _ _
  rw [handedOut_of (v := .ref D) rfl]
  first
    | exact wpAny_pure (wpAny_pure h)
    | exact wpAny_pure h
    | exact wpAny_pure (wpAny_bind (wpAny_pure (wpAny_pure h)))
theorem kit_exc (C : Ec K D) : KitX K (.ref x) (.ref D) (fun h => InstAt h x ox D od) where
  ty := fun _ _ _ I => I.type
  it := fun _ _ X _ => by
    obtain ⟨cdD, hcD, _⟩ := any_some C.hd
    unfold clsIn at hcD
    split at hcD
    · rename_i c' d' cd' sl' ho
      intro A' Q' E' s' k q
      unfold isType loadHead
      exact wpAny_bind (wpAny_loadPart (k _ _ (X _ _ ho)) (wpAny_pure q))
    · cases hcD
  ne := fun h tp dd its n sl X htp => by
    obtain ⟨cdD, hcD, _⟩ := any_some C.hd
    unfold clsIn at hcD
    split at hcD
    · rename_i c' d' cd' sl' ho
      refine Bool.eq_false_iff.mpr fun q => ?_
      have e : D = tp := Value.ref.inj (beq_iff_eq.mp q)
      rw [← e] at htp
      cases (X _ _ ho).symm.trans htp
    · cases hcD
  ca := fun X I k => class_asked C X I k
end
end Vk
namespace Vk
open PySem PySem.Spec PyProof.Rows L2
/-- isinstance(e, c), e the exception that the suite holds, its dict tracked (or none) -/
def rIsG (K : PySem.W.Frag) (D a : Addr) (d : Option Addr) : List V → Hp → VK → Prop := fun xs H Q => ∃ (c : V) (cv : Value) (b : Bool), xs = [.ref a, c] ∧ ClsV c cv ∧ (d = none ∨ ∃ dd fs, d = some dd ∧ H dd = some (.xd fs)) ∧ PySem.W.kitOne K (.ref D) cv = some b ∧ Q (.bl b) H
theorem call_isG {X : Cx} {a D : Addr} {oe : Obj} {d : Option Addr} {pn : List (Addr × Obj)} (C : ExcC X.K D) (hz : Zc (.ref D) d oe) (hf : ∃ vs, oe.data = .fields vs) : CallR (X.suite a ((a, oe) :: pn)) (.builtin "isinstance") (rIsG X.K D a d) := by
  intro pins s σ H xs us Q I r h
  obtain ⟨c, cv, b, rfl, hcv, hd, e, q⟩ := h
  obtain ⟨u1, u2, rfl, r1, r2⟩ := vals2 r
  obtain rfl : u1 = Value.ref a := r1
  have ec := hcv.eq r2
  subst ec
  obtain ⟨hget, _⟩ := I.pin (a, oe) (List.mem_append_left _ List.mem_cons_self)
  obtain ⟨vs, hv⟩ := hf
  obtain ⟨od, J⟩ : ∃ od, PySem.W.InstAt s.heap a oe D od := by
    have no : PySem.W.notCls oe = true := by unfold PySem.W.notCls; rw [hv] <;> rfl
    rcases hd with rfl | ⟨dd, fs, rfl, hdd⟩
    · exact ⟨none, hget, hz.1, no, by rw [hz.2]; trivial⟩
    · have hx : ObjOk X.prog X.w H s.heap dd (.xd fs) := I.hok dd _ hdd
      obtain ⟨mA, hns, _⟩ := hx
      obtain ⟨o, ho, _⟩ := lookIn_ns hns
      exact ⟨some o, hget, hz.1, no, by rw [hz.2]; exact ho⟩
  exact PySem.W.kia_one (kit_exc C) I.kIn J e (fun z => nomatch z) fun tk => ⟨.bl b, H, I.kept (t' := tk) fun _ _ z => z, rfl, q⟩
end Vk

set_option maxHeartbeats 2000000
/-! several clauses «except X as n» behind one try -/
namespace L2
open PySem PySem.Spec PyProof.Rows
abbrev Clause := Value × Nat × (Addr → Value → Option Addr → TS)
/-- behind a suite its name is gone -/
def Ends.off (i : Nat) (D : Ends) : Ends := ⟨fun τ G => D.nx (τ.set i none) G, D.rt, fun τ G => D.bk (τ.set i none) G, fun τ G => D.ct (τ.set i none) G⟩
def wAses (K : PySem.W.Frag) (W0 : WX) (D : Ends) : List Clause → WX
  | [] => W0
  | q :: more => fun k dd τ G => ∃ hit, PySem.W.exmOne K k q.1 = some hit ∧ (hit = true → ∀ z, G z = none → q.2.2 z k dd (D.off q.2.1) (τ.set q.2.1 (some (.ref z))) G) ∧ (hit = false → wAses K W0 D more k dd τ G)
inductive AsOk (X : Cx) : List ExceptHandler → List Clause → Prop
  | nil : AsOk X [] []
  | cons {x n : Str} {c : Value} {i : Nat} {ts : Addr → Value → Option Addr → TS} {b0 : Stmt} {bs : List Stmt} {p1 p2 : Pos} {es : List ExceptHandler} {qs : List Clause} (hc : Names X x c) (hi : X.N[i]? = some n) (hk : X.env.kindOf n = some .local)
      (hsu : ∀ (z : Addr) (oz : Obj) (k : Value) (dd : Option Addr) (pn : List (Addr × Obj)), Zc k dd oz → (∃ vs, oz.data = .fields vs) → PSs (X.suite z ((z, oz) :: pn)) (b0 :: bs) (ts z k dd)) (more : AsOk X es qs) :
      AsOk X (.ExceptHandler (some (.Name x p1)) (some n) (b0 :: bs) p2 :: es) ((c, i, ts) :: qs)
section
variable {X : Cx} {body : List Stmt} {e0 : ExceptHandler} {es : List ExceptHandler} {qs : List Clause} {pos : Pos} {tb : WX → TS} {W0 : WX}
theorem ps_try_ases (hst : X.stack = X.env :: X.outer) (hfr : X.env.frame = some X.env.locals) (hnd : X.N.Nodup) (tk : Takes X W0)
    (hb : ∀ (W : WX) (pn : List (Addr × Obj)) (xe : Value → Shared → Prop), Takes (X.tr pn xe) W → PassesOwn (model X.prog X.w) X.A X.env xe → PSs (X.tr pn xe) body (tb W))
    (hh : AsOk X (e0 :: es) qs) : PS X (.Try body (e0 :: es) [] [] pos) (fun D τ G => tb (wAses X.K W0 D qs) D τ G) := by
  refine ⟨fun pins s τ0 G0 D inv0 wish => ?_⟩
  have okk := inv0.ok
  have frm : X.A.frames = some (X.env :: X.outer) := okk.frames.trans (congrArg some hst)
  refine wpAny_Try_except (wpAny_mono ((hb (wAses X.K W0 D qs) (X.pn ++ pins) (fun u t1 => wpAny (model X.prog X.w) X.A (noteFrame u X.env) (fun _ t2 => wpAny (model X.prog X.w) X.A (setFlight u none) (fun _ t3 =>
    wpAny (model X.prog X.w) X.A (handleBy u X.env (e0 :: es)) (SP X pins D) X.xe t3) X.xe t2) X.xe t1) (fun u t raised => ?caught) PassesOwn.looking).run [] s τ0 G0 D (inv0.toTry _) wish) (fun fl t got => ?through) (fun _ _ y => y))
  case through =>
    cases fl with
    | next => obtain ⟨τ, G, J, q⟩ := got; exact wpAny_execs_nil ⟨τ, G, J.ofTry okk, q⟩
    | brk => obtain ⟨τ, G, J, q⟩ := got; exact ⟨τ, G, J.ofTry okk, q⟩
    | cont => obtain ⟨τ, G, J, q⟩ := got; exact ⟨τ, G, J.ofTry okk, q⟩
    | ret u => obtain ⟨v, τ, G, J, r, q⟩ := got; exact ⟨v, τ, G, J.ofTry okk, r, q⟩
  case caught =>
    obtain ⟨z, B, sB, pins1, τ, G, k, dd, rfl, jT, bare, upB, inSky, zfree, os1, same1, wants⟩ := raised
    have j0 : Inv X pins τ G sB := jT.ofTry okk
    have inSky1 : Sky B (X.env :: X.outer) z (Zc k dd) X.env.locals t.heap := hst ▸ inSky
    show wpAny (model X.prog X.w) X.A (noteFrame (.ref z) X.env) _ _ _
    refine Sky.land Zc.steady frm hfr inSky1 fun hA flA upA => ?_
    have jA : Inv X pins τ G { t with heap := hA } := j0.landed bare flA.1 (upB.trans upA) os1 same1
    obtain ⟨oA, vA, getA, zcA, datA⟩ := flA.there
    have notF : z ∉ frs (X.env :: X.outer) := by
      intro hm
      obtain ⟨_, o', e', hnf⟩ := flA.2.2.1.mem hm
      rw [getA] at e'
      cases e'
      exact hnf _ datA
    have zL : z ≠ X.env.locals := fun y => notF (List.mem_filterMap.mpr ⟨X.env, List.mem_cons_self, hfr.trans (congrArg some y.symm)⟩)
    have zF : z ∉ X.fs := fun hm => by
      obtain ⟨en, hen, y⟩ := List.mem_filterMap.mp hm
      exact notF (List.mem_filterMap.mpr ⟨en, List.mem_cons_of_mem _ hen, y⟩)
    have jS := jA.suite getA datA zfree zL zF
    have turn : ∀ {es1 : List ExceptHandler} {qs1 : List Clause}, AsOk X es1 qs1 → wAses X.K W0 D qs1 k dd τ G → wpAny (model X.prog X.w) X.A (handleBy (.ref z) X.env es1) (SP X pins D) X.xe { t with heap := hA } := by
      intro es1 qs1 kk
      induction kk with
      | nil =>
        intro out
        refine wpAny_handleBy_nil ?_
        obtain ⟨_, _, _, oz, vs, Tr, oTr, tsr, geto, zco, dato, one, _⟩ := id flA
        unfold PySem.passOn
        refine wpAny_bind (wpAny_field geto dato one ?_)
        rw [if_neg (by simp : ¬ ((Value.ref Tr == Value.none) = true))]
        have away : wpAny (model X.prog X.w) X.A (setFlight (.ref z) X.env.frame) (fun _ t4 => wpAny (model X.prog X.w) X.A (throw (.ref z) : Sem Flow) (SP X pins D) X.xe t4) X.xe { t with heap := hA } := by
          rw [hfr]
          exact HandSPX.setFlight_upZ flA fun h4 sk4 up4 => wpAny_throw (tk _ _ ⟨z, B, sB, pins, τ, G, k, dd, rfl, j0, bare, (upB.trans upA).trans up4, .inr (.inr (hst.symm ▸ sk4)), zfree, os1, same1, out⟩)
        first | exact wpAny_bind (wpAny_pure (wpAny_bind away)) | exact wpAny_bind away
      | @cons x n c i ts b0 bs p1 p2 es2 qs2 hc hi hk hsu more ih =>
        rintro ⟨hit, isHit, onHit, offHit⟩
        refine wpAny_handleBy_cons (codeAny_handlers_test ?_) (by intro y; cases y)
        have looksT : PySem.W.Looks (model X.prog X.w) hA (typeOf (.ref z)) k := fun A Q E s kp y => wpAny_typeOf_ref (kp _ _ getA) (by rw [zcA.1]; exact y)
        have looksM := PySem.W.exm_one (M := model X.prog X.w) jA.kIn looksT isHit
        have named : ∀ {Q : Value → Shared → Prop} {E : Value → Shared → Prop}, Q c { t with heap := hA } → wpAny (model X.prog X.w) (X.A.mark (some (.ref z))) (eval (.Name x p1) X.env) Q E { t with heap := hA } := fun {Q E} y =>
          match hc with
          | ⟨hg, hdb, .inl hm⟩ => ld_glob (X := X.suite z ((z, oA) :: (X.pn ++ pins))) jS hg hm y hdb
          | ⟨hg, hdb, .inr ⟨hm, hv, hnn⟩⟩ => ld_blt (X := X.suite z ((z, oA) :: (X.pn ++ pins))) jS hg hm hv y hnn hdb
        refine named (looksM.here ?_)
        cases hit with
        | false => exact ih (offHit rfl)
        | true =>
          refine codeAny_handlers_suite_as (HandSPX.lands_againZ flA fun hB flB upB2 => ?_)
          have jB : Inv X pins τ G { t with heap := hB } := j0.landed bare flB.1 ((upB.trans upA).trans upB2) os1 same1
          obtain ⟨oB, vB, getB, zcB, datB⟩ := flB.there
          have jSB := jB.suite getB datB zfree zL zF
          refine store_ok (X := X.suite z ((z, oB) :: (X.pn ++ pins))) (v := .ref z) jSB hnd hi (.inl hk) rfl (fun t5 S5 => ?_) (.inr hk)
          refine wpAny_mono ((hsu z oB k dd (X.pn ++ pins) zcB ⟨_, datB⟩).run [] t5 _ G _ S5 (onHit rfl z zfree)) (fun fl t6 got => ?_) (fun _ _ y => y.elim)
          have fin : ∀ {τ6 : St} {G6 : Hp} {Q : Shared → Prop}, Inv (X.suite z ((z, oB) :: (X.pn ++ pins))) [] τ6 G6 t6 → (∀ t7, Inv X pins (τ6.set i none) G6 t7 → Q t7) →
              wpAny (model X.prog X.w) X.A (do bindName X.env n .none; unbindBehindTheSuite X.env n p2) (fun _ t7 => Q t7) X.xe t6 := fun S6 hq => gone_ok (S6.unsuite okk) hnd hi hk hq
          cases fl with
          | next => obtain ⟨_, _, S6, q6⟩ := got; exact fin S6 fun _ J7 => ⟨_, _, J7, q6⟩
          | brk => obtain ⟨_, _, S6, q6⟩ := got; exact fin S6 fun _ J7 => ⟨_, _, J7, q6⟩
          | cont => obtain ⟨_, _, S6, q6⟩ := got; exact fin S6 fun _ J7 => ⟨_, _, J7, q6⟩
          | ret u => obtain ⟨_, _, _, S6, r6, q6⟩ := got; exact fin S6 fun _ J7 => ⟨_, _, _, J7, r6, q6⟩
    exact turn hh wants
end
end L2

/-! defs that may raise, and calls with keywords -/
namespace Vk
open PySem L2 PyProof.Rows
/-- a def that may raise: its promise says when -/
structure DefX (P : Program) (w : World) (K : PySem.W.Frag) (mg : Str → Option Value) (base : Heap) (k : Nat) (x : Str) (ps : List Str) (sp : Sp) (f : Addr) (fd : FuncData) : Prop where
  ok : FnOk P w K mg base (L2.CX P w) k f fd ps sp
  m : mg x = some (.ref f)
  kp : PySem.W.keepIn K (.ref f) = true
  b : Binds K fd ps []
theorem DefX.up {P : Program} {w : World} {K : PySem.W.Frag} {mg : Str → Option Value} {base : Heap} {j k : Nat} {x : Str} {ps : List Str} {sp : Sp} {f : Addr} {fd : FuncData} (d : DefX P w K mg base j x ps sp f fd) (h : j ≤ k) : DefX P w K mg base k x ps sp f fd := ⟨d.ok.mono h, d.m, d.kp, d.b⟩
/-- with n values by place and keywords ks -/
structure DefXN (P : Program) (w : World) (K : PySem.W.Frag) (mg : Str → Option Value) (base : Heap) (k : Nat) (x : Str) (ps : List Str) (n : Nat) (ks : List Str) (sp : Sp) (f : Addr) (fd : FuncData) : Prop where
  ok : FnOk P w K mg base (L2.CX P w) k f fd ps sp
  m : mg x = some (.ref f)
  kp : PySem.W.keepIn K (.ref f) = true
  b : KBn K fd ps n ks (fun us ws => us ++ ws) (fun vs zs => vs ++ zs)
theorem DefXN.up {P : Program} {w : World} {K : PySem.W.Frag} {mg : Str → Option Value} {base : Heap} {j k n : Nat} {x : Str} {ps ks : List Str} {sp : Sp} {f : Addr} {fd : FuncData} (d : DefXN P w K mg base j x ps n ks sp f fd) (h : j ≤ k) : DefXN P w K mg base k x ps n ks sp f fd := ⟨d.ok.mono h, d.m, d.kp, d.b⟩
theorem vals_app : ∀ {vs : List V} {us : List Value} {zs : List V} {ws : List Value}, Vals vs us → Vals zs ws → Vals (vs ++ zs) (us ++ ws)
  | _, _, _, _, .nil, h => h
  | _, _, _, _, .cons r t, h => .cons r (vals_app t h)
/-- keyword-only parameters without defaults, all given -/
theorem kbn_of {K : PySem.W.Frag} {x qual : Str} {st : Stmt} {f : Addr} {fd : FuncData} {ps ks : List Str} {n : Nat} (F : Fun K x qual st f fd)
    (h : ∀ (kV doc pm : Value) (an : Option Addr) (cdv ct : Value) (us ws : List Value), us.length = n → ws.length = ks.length → bindArgs (PySem.W.fnOf x qual (defArgs st) (defBody st) (defScope st) .none kV doc pm an cdv ct) ⟨us, ks.zip ws⟩ = pure (ps.zip (us ++ ws))) :
    KBn K fd ps n ks (fun us ws => us ++ ws) (fun vs zs => vs ++ zs) := by
  obtain ⟨oc, od, kV, doc, pm, an, cdv, ct, osl, rfl, lk, hcd⟩ := F.ex
  exact ⟨fun s us ws _ l1 l2 => BindsTo.of_eq (h kV doc pm an cdv ct us ws l1 l2), vals_app⟩
section
variable {X : Cx} {k n : Nat} {f : Addr} {fd : FuncData} {ps ks : List Str} {sp : Sp} {x : Str} {p pos : Pos} {e : Expr} {es : List Expr} {kws : List Keyword} {t tkw : TA} {W : WX}
/-- called where nothing is let out -/
theorem pcallL (D : DefX X.prog X.w X.K X.mg X.base k x ps sp f fd) (hr : Room k X.A) (ha : PA X (e :: es) t)
    (hg : Gl X x := by rfl) (hdb : (x == ("__debug__" : Str)) = false := by decide) (he : starEach (e :: es) X.env = (false, eval e X.env) :: starEach es X.env := by rfl) (hpl : (backTo pos (starEach es X.env)).any (·.1) = false := by rfl) :
    PE X (.Call (.Name x p) (e :: es) [] pos) (tCall sp [] E0 t) := pe_call D.ok hr hg D.m D.kp D.b .nil passL ha hdb he hpl
/-- called where the wish W takes what it raises -/
theorem pcallX (D : DefX X.prog X.w X.K X.mg X.base k x ps sp f fd) (hr : Room k X.A) (tk : Takes X W) (ha : PA X (e :: es) t)
    (hg : Gl X x := by rfl) (hdb : (x == ("__debug__" : Str)) = false := by decide) (he : starEach (e :: es) X.env = (false, eval e X.env) :: starEach es X.env := by rfl) (hpl : (backTo pos (starEach es X.env)).any (·.1) = false := by rfl) :
    PE X (.Call (.Name x p) (e :: es) [] pos) (tCallS sp (WE W) t) := pe_callS D.ok hr hg D.m D.kp D.b (fun σ => passAt tk σ) ha hdb he hpl
theorem pcallLN (D : DefXN X.prog X.w X.K X.mg X.base k x ps n ks sp f fd) (hr : Room k X.A) (ha : PA X (e :: es) t) (hkw : PK X kws tkw)
    (hg : Gl X x := by rfl) (hall : (backToKw pos (keywordEach kws X.env)).all (·.1.isSome) = true := by rfl) (hks : (backToKw pos (keywordEach kws X.env)).filterMap (·.1) = ks := by rfl)
    (hdb : (x == ("__debug__" : Str)) = false := by decide) (he : starEach (e :: es) X.env = (false, eval e X.env) :: starEach es X.env := by rfl)
    (hpl : ((backTo pos (starEach (e :: es) X.env)).any (·.1) || (backToKw pos (keywordEach kws X.env)).any (·.1.isNone)) = false := by rfl) :
    PE X (.Call (.Name x p) (e :: es) kws pos) (tCallN n ks.length sp (fun vs zs => vs ++ zs) E0 t tkw) := pe_callN D.ok hr hg D.m D.kp D.b passL ha hkw hall hks hdb he hpl
def tCallNS (n m : Nat) (sp : Sp) (E : L2.St → XK) (t tkw : TA) : TE := fun σ H Q => t σ H fun vs H1 => tkw σ H1 fun zs H2 => vs.length = n ∧ zs.length = m ∧ sp (vs ++ zs) H2 Q (E σ)
theorem pcallXN (D : DefXN X.prog X.w X.K X.mg X.base k x ps n ks sp f fd) (hr : Room k X.A) (tk : Takes X W) (ha : PA X (e :: es) t) (hkw : PK X kws tkw)
    (hg : Gl X x := by rfl) (hall : (backToKw pos (keywordEach kws X.env)).all (·.1.isSome) = true := by rfl) (hks : (backToKw pos (keywordEach kws X.env)).filterMap (·.1) = ks := by rfl)
    (hdb : (x == ("__debug__" : Str)) = false := by decide) (he : starEach (e :: es) X.env = (false, eval e X.env) :: starEach es X.env := by rfl)
    (hpl : ((backTo pos (starEach (e :: es) X.env)).any (·.1) || (backToKw pos (keywordEach kws X.env)).any (·.1.isNone)) = false := by rfl) :
    PE X (.Call (.Name x p) (e :: es) kws pos) (tCallNS n ks.length sp (WE W) t tkw) := by
  refine ⟨fun pins s σ H Q I wish => wpAny_Call_Name_kw (ld_glob I hg D.m ?_ hdb)⟩
  refine PySem.W.callWith_KW (h₀ := X.base) I.ok.mod.kin D.kp hall (thn (ha.run pos pins s σ H _ I wish) fun us s1 ⟨vs, H1, I1, r1, q1⟩ => ?_) hpl he
  refine thn (hkw.run pos pins s1 σ H1 _ I1 q1) fun ws s2 ⟨zs, H2, I2, r2, l1, l2, q2⟩ => ⟨I2.kIn, ?_⟩
  rw [hks]
  refine wpAny_call (codeAny_mono (D.ok.run X.A X.stack s2 H2 ⟨us, ks.zip ws⟩ (us ++ ws) (vs ++ zs) Q _ hr I2.env0 (D.b.to s2 us ws I2.kIn (r1.length.symm.trans l1) (r2.length.symm.trans l2)) (D.b.rel r1 r2) q2) fun r s' hq => ?_)
  match r with
  | .error u => exact passAt tk σ pins H2 s2 u s' I2 hq
  | .ok (.ret u) => exact I2.after hq
  | .ok .next => exact hq.elim
  | .ok .brk => exact hq.elim
  | .ok .cont => exact hq.elim
end
/-- a def with keyword-only parameters, as it stands -/
structure FnK (K : PySem.W.Frag) (mg : Str → Option Value) (x : Str) (st : Stmt) (f : Addr) (fd : FuncData) : Prop where
  F : Fun K x x st f fd
  m : mg x = some (.ref f)
/-- what a raised error of the class C with this value wishes -/
def eV (E : XK) (C : Addr) (H : Hp) (v : V) : Prop := ∀ d, H d = none → E (.ref C) (some d) (upd H d (.xd [(("value" : Str), v)]))
end Vk

set_option maxHeartbeats 4000000
/-! A def that a caught error is passed to, from within the suite that holds it. -/
namespace Vk
open PySem PySem.Spec PyProof.Rows L2 L2H
/-- a def's promise about the error at hand -/
structure FnP (P : Program) (w : World) (K : PySem.W.Frag) (mg : Str → Option Value) (base : Heap) (k : Nat) (f : Addr) (fd : FuncData) (ps : List Str) (sp : Addr × Obj → Sp) : Prop where
  many : ∀ p vs H Q E, sp p vs H Q E → vs.length = ps.length
  go : ∀ (A : Around) (outer : List Env) (s : Shared) (H : Hp) (args : Args) (us : List Value) (vs : List V) (Q : VK) (E : XK) (p : Addr × Obj), RoomH k A → Hot1 A p → PinOk outer H s p →
    Env0 P w K mg base A outer s H → BindsTo s fd args (ps.zip us) → Vals vs us → sp p vs H Q E → codeAny (model P w) A (.call (.ref f) args) (CR CX0 outer P w H s Q E) s
theorem fnp_mk {P : Program} {w : World} {K : PySem.W.Frag} {mg : Str → Option Value} {base : Heap} {k : Nat} {f : Addr} {nm qual : Str} {pars : Arguments} {bod : List Stmt} {sco : Scope} {dV kV doc pm cdv ct oc : Value} {an od : Option Addr} {osl : Array (Option Value)} {N ps : List Str}
    {sp : Addr × Obj → Sp} (at_ : K.lookup f = some ⟨oc, od, .func (PySem.W.fnOf nm qual pars bod sco dV kV doc pm an cdv ct), osl⟩) (code : PySem.W.codeIn K cdv qual = true) (S : FnScope N ps sco) (many : ∀ p vs H Q E, sp p vs H Q E → vs.length = ps.length)
    (runs : ∀ (A : Around) (outer : List Env) (s : Shared) (H : Hp) (vs : List V) (Q : VK) (E : XK) (p : Addr × Obj), Hot1 A p → RoomH k (A.deeper (envOfC qual sco s.heap.objs.size f cdv)) → sp p vs H Q E →
      ∃ t, PSs (cxH CX0 P w K mg base N qual sco f cdv A outer s H E p) bod t ∧ t { nx := fun _ G => Q .non G, rt := Q } (L2.start N vs) H) : FnP P w K mg base (k + 1) f (PySem.W.fnOf nm qual pars bod sco dV kV doc pm an cdv ct) ps sp := by
  refine ⟨many, ?_⟩
  intro A outer s H args us vs Q E p room hot pin e0 bound rel want
  have cnt := many _ _ _ _ _ want
  have old : ∀ b o, base.get? b = some o → s.heap.get? b = some o := fun b o e => (e0.bs b o e).1
  have kin := e0.mod.kin.keeps old
  have nol := e0.mod.nolimit.keeps old
  have kinds : ∀ y ∈ ps.zip us, sco.names.lookup y.1 = some .local ∨ (sco.names.lookup y.1 = some .cell ∧ ((cellsFrom (s.heap.objs.size + 1) sco.names []).lookup y.1).isSome = true) := by
    rintro ⟨n, v⟩ hy
    rcases S.par n (List.of_mem_zip hy).1 with c | c
    · exact Or.inl c
    · exact Or.inr ⟨c, PySem.W.cellsFrom_some _ _ _ (.inl c)⟩
  refine codeAny_call_function room.depth (kin _ _ at_) rfl S.co S.gen rfl (PySem.W.codeRec_of kin code) (bound _ _ _ _ ?_)
  refine wpAny_newFunctionEnv_cells S.kind kinds fun env eenv s1 inC => ?_
  subst eenv
  refine ⟨nol.keeps inC.toInCall.keep, codeAny_func ?_⟩
  obtain ⟨t, ht, q⟩ := runs A outer s H vs Q E p hot (room.deeper _) want
  have I := inv_startH (CX := CX0) (E := E) S pin e0 cnt rel inC
  refine wpAny_mono (ht.run [] s1 (L2.start N vs) H _ I q) (fun fl s2 hs => ?_) fun _ _ h => h
  have out : ∀ {σ2 : L2.St} {G : Hp} {v : V} {u : Value}, Inv (cxH CX0 P w K mg base N qual sco f cdv A outer s H E p) [] σ2 G s2 → RelV v u → Q v G → CE outer P w H s Q u s2 := by
    intro σ2 G v u J r z
    exact ⟨v, G, J.os, J.bare, J.base, J.hok, r, z⟩
  cases fl with
  | ret u =>
    obtain ⟨v, _, _, J, r, z⟩ := hs
    exact out J r z
  | next =>
    obtain ⟨_, _, J, z⟩ := hs
    exact out (v := V.non) (u := Value.none) J rfl z
  | brk =>
    obtain ⟨_, _, _, z⟩ := hs
    exact z.elim
  | cont =>
    obtain ⟨_, _, _, z⟩ := hs
    exact z.elim
/-- f(e), e the error that is at hand -/
theorem pe_callP {X : Cx} {k : Nat} {f : Addr} {fd : FuncData} {ps : List Str} {sp : Addr × Obj → Sp} {p : Addr × Obj} {x : Str} {q pos : Pos} {e : Expr} {es : List Expr} {t : TA} (F : FnP X.prog X.w X.K X.mg X.base k f fd ps sp) (room : RoomH k X.A) (hot : Hot1 X.A p) (hp : p ∈ X.pn)
    (hg : Gl X x) (hm : X.mg x = some (.ref f)) (kp : PySem.W.keepIn X.K (.ref f) = true) (hb : Binds X.K fd ps []) (ha : PA X (e :: es) t) (hdb : (x == ("__debug__" : Str)) = false := by decide)
    (he : starEach (e :: es) X.env = (false, eval e X.env) :: starEach es X.env := by rfl) (hpl : (backTo pos (starEach es X.env)).any (·.1) = false := by rfl) : PE X (.Call (.Name x q) (e :: es) [] pos) (tCall (sp p) [] E0 t) := by
  refine ⟨?_⟩
  intro pins s σ H Q I want
  refine wpAny_Call_Name_kw (ld_glob I hg hm ?_ hdb)
  refine PySem.W.callWith_K (h₀ := X.base) I.ok.mod.kin kp (thn (ha.run pos pins s σ H _ I want) ?_) he hpl
  rintro us s1 ⟨vs, H1, I1, r, z⟩
  refine ⟨I1.kIn, ?_⟩
  have z : sp p vs H1 Q E0 := by rw [List.append_nil] at z; exact z
  have cnt : us.length = ps.length := by rw [← r.length]; exact F.many _ _ _ _ _ z
  have bound := hb s1 us I1.kIn (by rw [List.append_nil]; exact cnt)
  rw [List.append_nil] at bound
  have at1 := I1.pin p (List.mem_append_left _ hp)
  have pin : PinOk X.stack H1 s1 p := ⟨at1.1, at1.2.1, fun m => (List.mem_cons.mp (I1.stkSub p.1 m)).elim at1.2.2.1 at1.2.2.2.1, at1.2.2.2.2⟩
  refine wpAny_call (codeAny_mono (F.go X.A X.stack s1 H1 ⟨us, []⟩ us vs Q E0 p room hot pin I1.env0 bound r z) ?_)
  intro res s2 out
  cases res with
  | error _ => exact out.elim
  | ok fl =>
    cases fl with
    | ret u => exact I1.after out
    | next => exact out.elim
    | brk => exact out.elim
    | cont => exact out.elim
/-- isinstance of an error that the context holds -/
theorem call_isP {X : Cx} {a D : Addr} {oe : Obj} {d : Option Addr} (C : ExcC X.K D) (hz : Zc (.ref D) d oe) (hf : ∃ vs, oe.data = .fields vs) (hp : (a, oe) ∈ X.pn) : CallR X (.builtin "isinstance") (rIsG X.K D a d) := by
  intro pins s σ H xs us Q I r h
  obtain ⟨c, cv, b, rfl, hcv, hd, e, q⟩ := h
  obtain ⟨u1, u2, rfl, r1, r2⟩ := vals2 r
  obtain rfl : u1 = Value.ref a := r1
  have ec := hcv.eq r2
  subst ec
  obtain ⟨hget, _⟩ := I.pin (a, oe) (List.mem_append_left _ hp)
  obtain ⟨vs, hv⟩ := hf
  obtain ⟨od, J⟩ : ∃ od, PySem.W.InstAt s.heap a oe D od := by
    have no : PySem.W.notCls oe = true := by unfold PySem.W.notCls; rw [hv] <;> rfl
    rcases hd with rfl | ⟨dd, fs, rfl, hdd⟩
    · exact ⟨none, hget, hz.1, no, by rw [hz.2]; trivial⟩
    · have hx : ObjOk X.prog X.w H s.heap dd (.xd fs) := I.hok dd _ hdd
      obtain ⟨mA, hns, _⟩ := hx
      obtain ⟨o, ho, _⟩ := lookIn_ns hns
      exact ⟨some o, hget, hz.1, no, by rw [hz.2]; exact ho⟩
  exact PySem.W.kia_one (kit_exc C) I.kIn J e (fun z => nomatch z) fun tk => ⟨.bl b, H, I.kept (t' := tk) fun _ _ z => z, rfl, q⟩
end Vk

set_option maxHeartbeats 2000000
/-! several clauses «except X as n» behind one try -/
namespace L2N
open PySem PySem.Spec PyProof.Rows L2
inductive AsOk (X : Cx) : List ExceptHandler → List Clause → Prop
  | nil : AsOk X [] []
  | cons {x n : Str} {c : Value} {i : Nat} {ts : Addr → Value → Option Addr → TS} {b0 : Stmt} {bs : List Stmt} {p1 p2 : Pos} {es : List ExceptHandler} {qs : List Clause} (hc : Names X x c) (hi : X.N[i]? = some n) (hk : X.env.kindOf n = some .local)
      (hsu : ∀ (z : Addr) (oz : Obj) (k : Value) (dd : Option Addr) (pn : List (Addr × Obj)), Zn k dd oz → (∃ vs, oz.data = .fields vs) → PSs (X.suite z ((z, oz) :: pn)) (b0 :: bs) (ts z k dd)) (more : AsOk X es qs) :
      AsOk X (.ExceptHandler (some (.Name x p1)) (some n) (b0 :: bs) p2 :: es) ((c, i, ts) :: qs)
section
variable {X : Cx} {body : List Stmt} {e0 : ExceptHandler} {es : List ExceptHandler} {qs : List Clause} {pos : Pos} {tb : WX → TS} {W0 : WX}
theorem ps_try_ases (hst : X.stack = X.env :: X.outer) (hfr : X.env.frame = some X.env.locals) (hnd : X.N.Nodup) (tk : Takes X W0)
    (hb : ∀ (W : WX) (pn : List (Addr × Obj)) (xe : Value → Shared → Prop), Takes (X.tr pn xe) W → PassesOwn (model X.prog X.w) X.A X.env xe → PSs (X.tr pn xe) body (tb W))
    (hh : AsOk X (e0 :: es) qs) : PS X (.Try body (e0 :: es) [] [] pos) (fun D τ G => tb (wAses X.K W0 D qs) D τ G) := by
  refine ⟨fun pins s τ0 G0 D inv0 wish => ?_⟩
  have okk := inv0.ok
  have frm : X.A.frames = some (X.env :: X.outer) := okk.frames.trans (congrArg some hst)
  refine wpAny_Try_except (wpAny_mono ((hb (wAses X.K W0 D qs) (X.pn ++ pins) (fun u t1 => wpAny (model X.prog X.w) X.A (noteFrame u X.env) (fun _ t2 => wpAny (model X.prog X.w) X.A (setFlight u none) (fun _ t3 =>
    wpAny (model X.prog X.w) X.A (handleBy u X.env (e0 :: es)) (SP X pins D) X.xe t3) X.xe t2) X.xe t1) (fun u t raised => ?caught) PassesOwn.looking).run [] s τ0 G0 D (inv0.toTry _) wish) (fun fl t got => ?through) (fun _ _ y => y))
  case through =>
    cases fl with
    | next => obtain ⟨τ, G, J, q⟩ := got; exact wpAny_execs_nil ⟨τ, G, J.ofTry okk, q⟩
    | brk => obtain ⟨τ, G, J, q⟩ := got; exact ⟨τ, G, J.ofTry okk, q⟩
    | cont => obtain ⟨τ, G, J, q⟩ := got; exact ⟨τ, G, J.ofTry okk, q⟩
    | ret u => obtain ⟨v, τ, G, J, r, q⟩ := got; exact ⟨v, τ, G, J.ofTry okk, r, q⟩
  case caught =>
    obtain ⟨z, B, sB, pins1, τ, G, k, dd, rfl, jT, bare, upB, inSky, zfree, os1, same1, wants⟩ := raised
    have j0 : Inv X pins τ G sB := jT.ofTry okk
    have inSky1 : Sky B (X.env :: X.outer) z (Zn k dd) X.env.locals t.heap := hst ▸ inSky
    show wpAny (model X.prog X.w) X.A (noteFrame (.ref z) X.env) _ _ _
    refine Sky.land Zn.steady frm hfr inSky1 fun hA flA upA => ?_
    have jA : Inv X pins τ G { t with heap := hA } := j0.landed bare flA.1 (upB.trans upA) os1 same1
    obtain ⟨oA, vA, getA, zcA, datA⟩ := flA.there
    have notF : z ∉ frs (X.env :: X.outer) := by
      intro hm
      obtain ⟨_, o', e', hnf⟩ := flA.2.2.1.mem hm
      rw [getA] at e'
      cases e'
      exact hnf _ datA
    have zL : z ≠ X.env.locals := fun y => notF (List.mem_filterMap.mpr ⟨X.env, List.mem_cons_self, hfr.trans (congrArg some y.symm)⟩)
    have zF : z ∉ X.fs := fun hm => by
      obtain ⟨en, hen, y⟩ := List.mem_filterMap.mp hm
      exact notF (List.mem_filterMap.mpr ⟨en, List.mem_cons_of_mem _ hen, y⟩)
    have jS := jA.suite getA datA zfree zL zF
    have turn : ∀ {es1 : List ExceptHandler} {qs1 : List Clause}, AsOk X es1 qs1 → wAses X.K W0 D qs1 k dd τ G → wpAny (model X.prog X.w) X.A (handleBy (.ref z) X.env es1) (SP X pins D) X.xe { t with heap := hA } := by
      intro es1 qs1 kk
      induction kk with
      | nil =>
        intro out
        refine wpAny_handleBy_nil ?_
        obtain ⟨_, _, _, oz, vs, Tr, oTr, tsr, geto, zco, dato, one, _⟩ := id flA
        unfold PySem.passOn
        refine wpAny_bind (wpAny_field geto dato one ?_)
        rw [if_neg (by simp : ¬ ((Value.ref Tr == Value.none) = true))]
        have away : wpAny (model X.prog X.w) X.A (setFlight (.ref z) X.env.frame) (fun _ t4 => wpAny (model X.prog X.w) X.A (throw (.ref z) : Sem Flow) (SP X pins D) X.xe t4) X.xe { t with heap := hA } := by
          rw [hfr]
          exact HandSPX.setFlight_upZ flA fun h4 sk4 up4 => wpAny_throw (tk _ _ ⟨z, B, sB, pins, τ, G, k, dd, rfl, j0, bare, (upB.trans upA).trans up4, .inr (.inr (hst.symm ▸ sk4)), zfree, os1, same1, out⟩)
        first | exact wpAny_bind (wpAny_pure (wpAny_bind away)) | exact wpAny_bind away
      | @cons x n c i ts b0 bs p1 p2 es2 qs2 hc hi hk hsu more ih =>
        rintro ⟨hit, isHit, onHit, offHit⟩
        refine wpAny_handleBy_cons (codeAny_handlers_test ?_) (by intro y; cases y)
        have looksT : PySem.W.Looks (model X.prog X.w) hA (typeOf (.ref z)) k := fun A Q E s kp y => wpAny_typeOf_ref (kp _ _ getA) (by rw [zcA.1]; exact y)
        have looksM := PySem.W.exm_one (M := model X.prog X.w) jA.kIn looksT isHit
        have named : ∀ {Q : Value → Shared → Prop} {E : Value → Shared → Prop}, Q c { t with heap := hA } → wpAny (model X.prog X.w) (X.A.mark (some (.ref z))) (eval (.Name x p1) X.env) Q E { t with heap := hA } := fun {Q E} y =>
          match hc with
          | ⟨hg, hdb, .inl hm⟩ => ld_glob (X := X.suite z ((z, oA) :: (X.pn ++ pins))) jS hg hm y hdb
          | ⟨hg, hdb, .inr ⟨hm, hv, hnn⟩⟩ => ld_blt (X := X.suite z ((z, oA) :: (X.pn ++ pins))) jS hg hm hv y hnn hdb
        refine named (looksM.here ?_)
        cases hit with
        | false => exact ih (offHit rfl)
        | true =>
          refine codeAny_handlers_suite_as (HandSPX.lands_againZ flA fun hB flB upB2 => ?_)
          have jB : Inv X pins τ G { t with heap := hB } := j0.landed bare flB.1 ((upB.trans upA).trans upB2) os1 same1
          obtain ⟨oB, vB, getB, zcB, datB⟩ := flB.there
          have jSB := jB.suite getB datB zfree zL zF
          refine store_ok (X := X.suite z ((z, oB) :: (X.pn ++ pins))) (v := .ref z) jSB hnd hi (.inl hk) rfl (fun t5 S5 => ?_) (.inr hk)
          refine wpAny_mono ((hsu z oB k dd (X.pn ++ pins) zcB ⟨_, datB⟩).run [] t5 _ G _ S5 (onHit rfl z zfree)) (fun fl t6 got => ?_) (fun _ _ y => y.elim)
          have fin : ∀ {τ6 : St} {G6 : Hp} {Q : Shared → Prop}, Inv (X.suite z ((z, oB) :: (X.pn ++ pins))) [] τ6 G6 t6 → (∀ t7, Inv X pins (τ6.set i none) G6 t7 → Q t7) →
              wpAny (model X.prog X.w) X.A (do bindName X.env n .none; unbindBehindTheSuite X.env n p2) (fun _ t7 => Q t7) X.xe t6 := fun S6 hq => gone_ok (S6.unsuite okk) hnd hi hk hq
          cases fl with
          | next => obtain ⟨_, _, S6, q6⟩ := got; exact fin S6 fun _ J7 => ⟨_, _, J7, q6⟩
          | brk => obtain ⟨_, _, S6, q6⟩ := got; exact fin S6 fun _ J7 => ⟨_, _, J7, q6⟩
          | cont => obtain ⟨_, _, S6, q6⟩ := got; exact fin S6 fun _ J7 => ⟨_, _, J7, q6⟩
          | ret u => obtain ⟨_, _, _, S6, r6, q6⟩ := got; exact fin S6 fun _ J7 => ⟨_, _, _, J7, r6, q6⟩
    exact turn hh wants
end
end L2N

/-! defs that may raise, where the context of exceptions is told, too -/
namespace Vk
open PySem L2 PyProof.Rows
theorem passLY {X : Cx} : Passes (L2N.CX X.prog X.w) X E0 := fun _ _ _ _ _ _ _ h => by
  obtain ⟨_, _, _, _, _, _, _, _, _, _, _, _, z⟩ := h
  exact z.elim
theorem takes0Y {X : Cx} : L2N.Takes X (fun _ _ _ _ => False) := fun _ _ x => by
  obtain ⟨_, _, _, _, _, _, _, _, _, _, _, _, _, _, _, _, z⟩ := x
  exact z.elim
structure DefY (P : Program) (w : World) (K : PySem.W.Frag) (mg : Str → Option Value) (base : Heap) (k : Nat) (x : Str) (ps : List Str) (sp : Sp) (f : Addr) (fd : FuncData) : Prop where
  ok : FnOk P w K mg base (L2N.CX P w) k f fd ps sp
  m : mg x = some (.ref f)
  kp : PySem.W.keepIn K (.ref f) = true
  b : Binds K fd ps []
theorem DefY.up {P : Program} {w : World} {K : PySem.W.Frag} {mg : Str → Option Value} {base : Heap} {j k : Nat} {x : Str} {ps : List Str} {sp : Sp} {f : Addr} {fd : FuncData} (d : DefY P w K mg base j x ps sp f fd) (h : j ≤ k) : DefY P w K mg base k x ps sp f fd := ⟨d.ok.mono h, d.m, d.kp, d.b⟩
structure DefYN (P : Program) (w : World) (K : PySem.W.Frag) (mg : Str → Option Value) (base : Heap) (k : Nat) (x : Str) (ps : List Str) (n : Nat) (ks : List Str) (sp : Sp) (f : Addr) (fd : FuncData) : Prop where
  ok : FnOk P w K mg base (L2N.CX P w) k f fd ps sp
  m : mg x = some (.ref f)
  kp : PySem.W.keepIn K (.ref f) = true
  b : KBn K fd ps n ks (fun us ws => us ++ ws) (fun vs zs => vs ++ zs)
theorem DefYN.up {P : Program} {w : World} {K : PySem.W.Frag} {mg : Str → Option Value} {base : Heap} {j k n : Nat} {x : Str} {ps ks : List Str} {sp : Sp} {f : Addr} {fd : FuncData} (d : DefYN P w K mg base j x ps n ks sp f fd) (h : j ≤ k) : DefYN P w K mg base k x ps n ks sp f fd := ⟨d.ok.mono h, d.m, d.kp, d.b⟩
/-- a def that an error at hand is passed to -/
structure DefP (P : Program) (w : World) (K : PySem.W.Frag) (mg : Str → Option Value) (base : Heap) (k : Nat) (x : Str) (ps : List Str) (sp : Addr × Obj → Sp) (f : Addr) (fd : FuncData) : Prop where
  ok : FnP P w K mg base k f fd ps sp
  m : mg x = some (.ref f)
  kp : PySem.W.keepIn K (.ref f) = true
  b : Binds K fd ps []
section
variable {X : Cx} {k n : Nat} {f : Addr} {fd : FuncData} {ps ks : List Str} {sp : Sp} {x : Str} {p pos : Pos} {e : Expr} {es : List Expr} {kws : List Keyword} {t tkw : TA} {W : WX}
theorem pcallYL (D : DefY X.prog X.w X.K X.mg X.base k x ps sp f fd) (hr : Room k X.A) (ha : PA X (e :: es) t)
    (hg : Gl X x := by rfl) (hdb : (x == ("__debug__" : Str)) = false := by decide) (he : starEach (e :: es) X.env = (false, eval e X.env) :: starEach es X.env := by rfl) (hpl : (backTo pos (starEach es X.env)).any (·.1) = false := by rfl) :
    PE X (.Call (.Name x p) (e :: es) [] pos) (tCall sp [] E0 t) := pe_call D.ok hr hg D.m D.kp D.b .nil passLY ha hdb he hpl
theorem pcallY (D : DefY X.prog X.w X.K X.mg X.base k x ps sp f fd) (hr : Room k X.A) (tk : L2N.Takes X W) (ha : PA X (e :: es) t)
    (hg : Gl X x := by rfl) (hdb : (x == ("__debug__" : Str)) = false := by decide) (he : starEach (e :: es) X.env = (false, eval e X.env) :: starEach es X.env := by rfl) (hpl : (backTo pos (starEach es X.env)).any (·.1) = false := by rfl) :
    PE X (.Call (.Name x p) (e :: es) [] pos) (tCallS sp (WE W) t) := pe_callS D.ok hr hg D.m D.kp D.b (fun σ => L2N.passAt tk σ) ha hdb he hpl
theorem pcallYLN (D : DefYN X.prog X.w X.K X.mg X.base k x ps n ks sp f fd) (hr : Room k X.A) (ha : PA X (e :: es) t) (hkw : PK X kws tkw)
    (hg : Gl X x := by rfl) (hall : (backToKw pos (keywordEach kws X.env)).all (·.1.isSome) = true := by rfl) (hks : (backToKw pos (keywordEach kws X.env)).filterMap (·.1) = ks := by rfl)
    (hdb : (x == ("__debug__" : Str)) = false := by decide) (he : starEach (e :: es) X.env = (false, eval e X.env) :: starEach es X.env := by rfl)
    (hpl : ((backTo pos (starEach (e :: es) X.env)).any (·.1) || (backToKw pos (keywordEach kws X.env)).any (·.1.isNone)) = false := by rfl) :
    PE X (.Call (.Name x p) (e :: es) kws pos) (tCallN n ks.length sp (fun vs zs => vs ++ zs) E0 t tkw) := pe_callN D.ok hr hg D.m D.kp D.b passLY ha hkw hall hks hdb he hpl
theorem pcallYN (D : DefYN X.prog X.w X.K X.mg X.base k x ps n ks sp f fd) (hr : Room k X.A) (tk : L2N.Takes X W) (ha : PA X (e :: es) t) (hkw : PK X kws tkw)
    (hg : Gl X x := by rfl) (hall : (backToKw pos (keywordEach kws X.env)).all (·.1.isSome) = true := by rfl) (hks : (backToKw pos (keywordEach kws X.env)).filterMap (·.1) = ks := by rfl)
    (hdb : (x == ("__debug__" : Str)) = false := by decide) (he : starEach (e :: es) X.env = (false, eval e X.env) :: starEach es X.env := by rfl)
    (hpl : ((backTo pos (starEach (e :: es) X.env)).any (·.1) || (backToKw pos (keywordEach kws X.env)).any (·.1.isNone)) = false := by rfl) :
    PE X (.Call (.Name x p) (e :: es) kws pos) (tCallNS n ks.length sp (WE W) t tkw) := by
  refine ⟨fun pins s σ H Q I wish => wpAny_Call_Name_kw (ld_glob I hg D.m ?_ hdb)⟩
  refine PySem.W.callWith_KW (h₀ := X.base) I.ok.mod.kin D.kp hall (thn (ha.run pos pins s σ H _ I wish) fun us s1 ⟨vs, H1, I1, r1, q1⟩ => ?_) hpl he
  refine thn (hkw.run pos pins s1 σ H1 _ I1 q1) fun ws s2 ⟨zs, H2, I2, r2, l1, l2, q2⟩ => ⟨I2.kIn, ?_⟩
  rw [hks]
  refine wpAny_call (codeAny_mono (D.ok.run X.A X.stack s2 H2 ⟨us, ks.zip ws⟩ (us ++ ws) (vs ++ zs) Q _ hr I2.env0 (D.b.to s2 us ws I2.kIn (r1.length.symm.trans l1) (r2.length.symm.trans l2)) (D.b.rel r1 r2) q2) fun r s' hq => ?_)
  match r with
  | .error u => exact L2N.passAt tk σ pins H2 s2 u s' I2 hq
  | .ok (.ret u) => exact I2.after hq
  | .ok .next => exact hq.elim
  | .ok .brk => exact hq.elim
  | .ok .cont => exact hq.elim
end
section
variable {P : Program} {w : World} {K : PySem.W.Frag} {mg : Str → Option Value} {base : Heap}
theorem okY {x qual : Str} {st : Stmt} {f : Addr} {fd : FuncData} {N ps : List Str} {k : Nat} {sp : Sp} (F : Fun K x qual st f fd) (S : FnScope N ps (defScope st)) (len : ∀ vs H Q E, sp vs H Q E → vs.length = ps.length)
    (hbody : ∀ (cdv : Value) (A : Around) (outer : List Env) (s : Shared) (H : Hp) (vs : List V) (Q : VK) (E : XK), Room k (A.deeper (envOfC qual (defScope st) s.heap.objs.size f cdv)) → sp vs H Q E →
      ∃ t, PSs (cxOf (L2N.CX P w) P w K mg base N qual (defScope st) f cdv A outer s H E) (defBody st) t ∧ t { nx := fun _ H' => Q .non H', rt := Q } (start N vs) H) : FnOk P w K mg base (L2N.CX P w) (k + 1) f fd ps sp := by
  obtain ⟨oc, od, kV, doc, pm, an, cdv, ct, osl, rfl, lk, hcd⟩ := F.ex
  exact fn_of lk hcd S len fun A outer s H vs Q E hr hsp => hbody cdv A outer s H vs Q E hr hsp
theorem okP {x qual : Str} {st : Stmt} {f : Addr} {fd : FuncData} {N ps : List Str} {k : Nat} {sp : Addr × Obj → Sp} (F : Fun K x qual st f fd) (S : FnScope N ps (defScope st)) (len : ∀ p vs H Q E, sp p vs H Q E → vs.length = ps.length)
    (hbody : ∀ (cdv : Value) (A : Around) (outer : List Env) (s : Shared) (H : Hp) (vs : List V) (Q : VK) (E : XK) (p : Addr × Obj), L2H.Hot1 A p → L2H.RoomH k (A.deeper (envOfC qual (defScope st) s.heap.objs.size f cdv)) → sp p vs H Q E →
      ∃ t, PSs (L2H.cxH CX0 P w K mg base N qual (defScope st) f cdv A outer s H E p) (defBody st) t ∧ t { nx := fun _ H' => Q .non H', rt := Q } (start N vs) H) : FnP P w K mg base (k + 1) f fd ps sp := by
  obtain ⟨oc, od, kV, doc, pm, an, cdv, ct, osl, rfl, lk, hcd⟩ := F.ex
  exact fnp_mk lk hcd S len fun A outer s H vs Q E p hot hr hsp => hbody cdv A outer s H vs Q E p hot hr hsp
end
end Vk

/-! what the written part says of classes of errors -/
namespace Vk
open PySem PySem.W PySem.Calls PySem.HandSPX L2
theorem cls_both {K : Frag} {C : Addr} (h2 : isClsIn K C = true) (h3 : typeIn K (.ref C) = some (.type "type")) : ((clsIn K C).isSome && typeIn K (.ref C) == some (.type "type")) = true := by
  have h2' : (clsIn K C).isSome = true := h2
  rw [h2', h3]
  rfl
theorem exm_of {K : Frag} {S C : Addr} {b : Bool} (h1 : subIn K (.ref C) (.type "BaseException") = some true) (h2 : isClsIn K C = true) (h3 : typeIn K (.ref C) = some (.type "type")) (h4 : subIn K (.ref S) (.ref C) = some b) : exmOne K (.ref S) (.ref C) = some b := by
  have e1 : (subIn K (.ref C) (.type "BaseException") == some true) = true := by rw [h1]; rfl
  unfold exmOne kitCls
  rw [if_pos e1]
  dsimp only
  rw [if_pos (cls_both h2 h3)]
  exact h4
theorem kit_of1 {K : Frag} {S C : Addr} {b : Bool} (n : (S == C) = false) (h2 : isClsIn K C = true) (h3 : typeIn K (.ref C) = some (.type "type")) (h4 : subIn K (.ref S) (.ref C) = some b) : kitOne K (.ref S) (.ref C) = some b := by
  have e1 : (Value.ref S == Value.ref C) = false := beq_false_of_ne fun e => by
    have := Value.ref.inj e
    rw [this, beq_self_eq_true] at n
    cases n
  unfold kitOne kitCls
  rw [e1, if_neg Bool.false_ne_true]
  dsimp only
  rw [if_pos (cls_both h2 h3)]
  exact h4
theorem errTxt {K : Frag} {mg : Str → Option Value} {x nm q iq : Str} {C fi N : Addr} {bs bm sub : List Value} {sn : List Str} {ab : Bool} {col : Option Bool} {dd : Option Addr} {m0 m1 m2 m3 m5 : Option Value} {iod ian : Option Addr} {isl : Array (Option Value)} {ioc idc ipm icd ict : Value} {p1 p2 q1 q2 q3 q4 : Pos}
    (aC : mg x = some (.ref C)) (xL : K.lookup C = some (excClassObj nm q C N bs bm true sn sub ab col dd m0 m1 m2 m3 m5 "ValueError.__new__")) (rv : refsVE bm = true)
    (sa : findIn K (.ref C) "__setattr__" = some (some (.builtin "object.__setattr__"))) (ga : findIn K (.ref C) "__getattribute__" = some (some (.builtin "BaseException.__getattribute__"))) (gg : findIn K (.ref C) "__getattr__" = some none) (nb : findIn K (.ref C) "value" = some none)
    (a1 : findIn K (.ref C) "__init__" = some (some (.ref fi))) (t1 : typeIn K (.ref fi) = some (.type "function"))
    (l1 : K.lookup fi = some ⟨ioc, iod, .func (fnOf "__init__" iq (PySem.ValX.iA p1 p2) (PySem.ValX.iB q1 q2 q3 q4) PySem.ValX.iS .none .none idc ipm ian icd ict), isl⟩) (c1 : codeIn K icd iq = true)
    (kC : keepIn K (.ref C) = true) (eC : subIn K (.ref C) (.type "BaseException") = some true) (tC : typeIn K (.ref C) = some (.type "type")) (hC : hasDictIn K C = true) (te : exmOne K (.ref C) (.ref C) = some true) : PySem.ValX.ValTxt K mg x C fi :=
  { gC := aC, cls := ⟨nm, q, N, bs, bm, sn, sub, ab, col, dd, m0, m1, m2, m3, m5, xL, rv⟩, sa := sa, ga := ga, gg := gg, noN := nb, iC := a1, tC := t1, kC := kC, exC := eC, tyC := tC, hdC := hC, te := te, fn := ⟨iq, ioc, iod, idc, ipm, ian, icd, ict, isl, p1, p2, q1, q2, q3, q4, l1, c1⟩ }
end Vk

namespace Vs
/-! ### spans of offsets -/
abbrev Spn := Option Rat × Option Rat
def maxO : Option Rat → Option Rat → Option Rat
  | none, b => b
  | some p, none => some p
  | some p, some q => some (if q ≤ p then p else q)
def minO : Option Rat → Option Rat → Option Rat
  | none, b => b
  | some p, none => some p
  | some p, some q => some (if p ≤ q then p else q)
def crossed : Option Rat → Option Rat → Bool
  | some l, some h => decide (h < l)
  | _, _ => false
def meetO (a b : Spn) : Option Spn := if crossed (maxO a.1 b.1) (minO a.2 b.2) = true then none else some (maxO a.1 b.1, minO a.2 b.2)
def aboveO (o : Option Rat) (t : Rat) : Bool := match o with | none => true | some l => !decide (t < l)
def belowO (o : Option Rat) (t : Rat) : Bool := match o with | none => true | some h => !decide (h < t)
def inS (s : Spn) (t : Rat) : Bool := aboveO s.1 t && belowO s.2 t
def movO (o : Option Rat) (d : Rat) : Option Rat := match o with | none => none | some q => some (q + d)
def negO (o : Option Rat) : Option Rat := match o with | none => none | some q => some (-q)
def shO (s : Spn) (d : Rat) : Spn := (movO s.1 d, movO s.2 d)
def offO (x y : Rat) (fo ba : Spn) : Option Spn := meetO (shO (negO fo.2, negO fo.1) x) (shO ba y)
theorem above_max (a b : Option Rat) (t : Rat) : aboveO (maxO a b) t = (aboveO a t && aboveO b t) := by
  cases a with
  | none => simp [maxO, aboveO]
  | some p => cases b with
    | none => simp [maxO, aboveO]
    | some q =>
      simp only [maxO, aboveO]
      split <;> by_cases h1 : t < p <;> by_cases h2 : t < q <;> simp [h1, h2] <;> grind
theorem below_min (a b : Option Rat) (t : Rat) : belowO (minO a b) t = (belowO a t && belowO b t) := by
  cases a with
  | none => simp [minO, belowO]
  | some p => cases b with
    | none => simp [minO, belowO]
    | some q =>
      simp only [minO, belowO]
      split <;> by_cases h1 : p < t <;> by_cases h2 : q < t <;> simp [h1, h2] <;> grind
theorem crossed_in {l h : Option Rat} (c : crossed l h = true) (t : Rat) : (aboveO l t && belowO h t) = false := by
  cases l with
  | none => simp [crossed] at c
  | some p => cases h with
    | none => simp [crossed] at c
    | some q =>
      simp only [crossed, decide_eq_true_eq] at c
      simp only [aboveO, belowO]
      by_cases h1 : t < p <;> by_cases h2 : q < t <;> simp [h1, h2] <;> grind
theorem meet_in (a b : Spn) (t : Rat) : (inS a t && inS b t) = (match meetO a b with | none => false | some s => inS s t) := by
  have e : (inS a t && inS b t) = (aboveO (maxO a.1 b.1) t && belowO (minO a.2 b.2) t) := by
    rw [above_max, below_min]
    unfold inS
    cases aboveO a.1 t <;> cases aboveO b.1 t <;> cases belowO a.2 t <;> cases belowO b.2 t <;> rfl
  rw [e]
  unfold meetO
  by_cases c : crossed (maxO a.1 b.1) (minO a.2 b.2) = true
  · rw [if_pos c]
    exact crossed_in c t
  · rw [if_neg c]
    rfl
theorem above_mov (o : Option Rat) (x f : Rat) : aboveO (movO (negO o) x) f = belowO o (x - f) := by
  cases o with
  | none => rfl
  | some q =>
    simp only [negO, movO, aboveO, belowO]
    congr 1
    exact decide_eq_decide.mpr (by grind)
theorem below_mov (o : Option Rat) (x f : Rat) : belowO (movO (negO o) x) f = aboveO o (x - f) := by
  cases o with
  | none => rfl
  | some q =>
    simp only [negO, movO, aboveO, belowO]
    congr 1
    exact decide_eq_decide.mpr (by grind)
theorem above_mov2 (o : Option Rat) {y z : Rat} (f : Rat) (h : y = -z) : aboveO (movO o y) f = aboveO o (z + f) := by
  cases o with
  | none => rfl
  | some q =>
    simp only [movO, aboveO]
    congr 1
    exact decide_eq_decide.mpr (by grind)
theorem below_mov2 (o : Option Rat) {y z : Rat} (f : Rat) (h : y = -z) : belowO (movO o y) f = belowO o (z + f) := by
  cases o with
  | none => rfl
  | some q =>
    simp only [movO, belowO]
    congr 1
    exact decide_eq_decide.mpr (by grind)
theorem off_in (x y z : Rat) (fo ba : Spn) (f : Rat) (h : y = -z) : (inS fo (x - f) && inS ba (z + f)) = (match offO x y fo ba with | none => false | some s => inS s f) := by
  unfold offO
  rw [← meet_in]
  unfold inS shO
  simp only [above_mov, below_mov, above_mov2 _ f h, below_mov2 _ f h]
  cases aboveO fo.1 (x - f) <;> cases belowO fo.2 (x - f) <;> cases aboveO ba.1 (z + f) <;> cases belowO ba.2 (z + f) <;> rfl
theorem off_ok {x y : Rat} {fo ba s : Spn} (h : offO x y fo ba = some s) : crossed s.1 s.2 = false := by
  unfold offO meetO at h
  split at h
  · cases h
  · rename_i c
    cases h
    simpa using c
/-- both ends known: no end is farther from the plain offset than half the width -/
theorem off_half {x y lo hi : Rat} {s : Spn} (h : offO x y (some lo, some hi) (some lo, some hi) = some s) :
    ∃ l u, s = (some l, some u) ∧ ∀ f, f = l ∨ f = u → ¬ (hi - lo < 2 * ((x + y) / 2 - f)) ∧ ¬ (hi - lo < 2 * (f - (x + y) / 2)) := by
  have c := off_ok h
  unfold offO meetO at h
  split at h
  · cases h
  · simp only [shO, negO, movO, maxO, minO] at h
    obtain rfl := (Option.some.inj h).symm
    refine ⟨_, _, rfl, fun f hf => ?_⟩
    simp only [crossed, decide_eq_false_iff_not] at c
    have e2 : (x + y) / 2 + (x + y) / 2 = x + y := by grind
    generalize (x + y) / 2 = p at e2
    have e3 : ∀ q : Rat, 2 * q = q + q := fun q => by grind
    rw [e3, e3]
    split at hf <;> split at hf <;> rename_i h1 h2 <;> simp only [h1, h2, if_true, if_false] at c <;> rcases hf with rfl | rfl <;> constructor <;> grind
/-! ### sizes and items -/
def itemsO : Spn → List Rat := fun s => s.1.toList ++ s.2.toList
end Vs

namespace Vl
/-! ### laps -/
/-- the six numbers: bound, half, lap, slew, drift, goal -/
structure A6 where
  b : Rat
  h : Rat
  l : Rat
  s : Rat
  d : Rat
def ahead (x : A6) : Rat := x.h + x.d * x.l
def gain (x : A6) : Rat := (x.s - x.d) * x.l
structure Good (x : A6) : Prop where
  b0 : 0 ≤ x.b
  h0 : 0 ≤ x.h
  l0 : 0 < x.l
  s0 : 0 < x.s
  s1 : x.s < 1
  d0 : 0 ≤ x.d
  ds : x.d < x.s
theorem mul_pos' {a b : Rat} (ha : 0 < a) (hb : 0 < b) : 0 < a * b := Rat.mul_pos ha hb
theorem mul_nn {a b : Rat} (ha : 0 ≤ a) (hb : 0 ≤ b) : 0 ≤ a * b := Rat.mul_nonneg ha hb
theorem Good.gp {x : A6} (g : Good x) : 0 < gain x := mul_pos' (by have := g.ds; grind) g.l0
theorem Good.an {x : A6} (g : Good x) : 0 ≤ ahead x := by
  have h1 := g.h0
  have h2 : 0 ≤ x.d * x.l := mul_nn g.d0 (by have := g.l0; grind)
  unfold ahead
  grind
def lapsP (x : A6) (g : Rat) : Option Int := if x.b ≤ g then some 0 else if g < ahead x then none else some (-((g - x.b) / gain x).floor)
def mx (a b : Rat) : Rat := if a < b then b else a
def after (x : A6) (k : Int) : Rat := if k = 0 then x.b else mx (x.b + (k : Rat) * ((x.d - x.s) * x.l)) (ahead x)
def LapsOk (x : A6) (g : Rat) : Option Int → Prop
  | none => g < x.b ∧ g < ahead x
  | some k => 0 ≤ k ∧ k ≤ 1000 ∧ ¬ g < after x k ∧ (0 < k → g < x.b) ∧ (2 ≤ k → g < after x (k - 1))
theorem neg_gain (x : A6) (k : Rat) : k * ((x.d - x.s) * x.l) = - (k * gain x) := by unfold gain; grind
theorem laps_ok {x : A6} {g : Rat} (G : Good x) (top : x.b - g ≤ 1000 * gain x ∨ x.b = 0) : LapsOk x g (lapsP x g) := by
  have gp := G.gp
  have an := G.an
  unfold lapsP
  split
  · rename_i h
    refine ⟨by decide, by decide, ?_, fun z => absurd z (by decide), fun z => absurd z (by decide)⟩
    unfold after
    rw [if_pos rfl]
    exact Rat.not_lt.mpr h
  · rename_i h1
    split
    · rename_i h2
      exact ⟨Rat.not_le.mp h1, h2⟩
    · rename_i h2
      have h1 : g < x.b := Rat.not_le.mp h1
      have h2 : ahead x ≤ g := Rat.not_lt.mp h2
      have top : x.b - g ≤ 1000 * gain x := by
        rcases top with h | h
        · exact h
        · exfalso; grind
      obtain ⟨t, ht⟩ : ∃ t, t = (g - x.b) / gain x := ⟨_, rfl⟩
      have te : t * gain x = g - x.b := by
        rw [ht]
        exact Rat.div_mul_cancel (by grind)
      rw [← ht]
      have f1 := Rat.floor_le t
      have f2 := Rat.lt_floor_add_one t
      obtain ⟨k, hk⟩ : ∃ k : Int, k = -t.floor := ⟨_, rfl⟩
      have ek : ((t.floor : Int) : Rat) = -(k : Rat) := by rw [hk]; push_cast; grind
      have ek1 : ((t.floor + 1 : Int) : Rat) = -(k : Rat) + 1 := by rw [hk]; push_cast; grind
      rw [ek] at f1
      rw [ek1] at f2
      rw [← hk]
      -- k gain between
      have m1 : -(k : Rat) * gain x ≤ t * gain x := Rat.mul_le_mul_of_nonneg_right f1 (by grind)
      have m2 : t * gain x < (-(k : Rat) + 1) * gain x := Rat.mul_lt_mul_of_pos_right f2 gp
      have tneg : t < 0 := by
        by_cases z : t < 0
        · exact z
        · exfalso
          have := mul_nn (Rat.not_lt.mp z) (show (0 : Rat) ≤ gain x by grind)
          grind
      have t1000 : -1000 ≤ t := by
        by_cases z : -1000 ≤ t
        · exact z
        · exfalso
          have := Rat.mul_lt_mul_of_pos_right (Rat.not_le.mp z) gp
          grind
      have k1 : 0 < k := by
        have : (0 : Rat) < (k : Rat) := by grind
        exact_mod_cast this
      have k2 : k ≤ 1000 := by
        have : (k : Rat) < ((1001 : Int) : Rat) := by
          have e : ((1001 : Int) : Rat) = 1001 := rfl
          rw [e]
          grind
        have := Rat.intCast_lt_intCast.mp this
        omega
      have key : x.b - (k : Rat) * gain x ≤ g := by grind
      refine ⟨by omega, k2, ?_, fun _ => h1, fun k3 => ?_⟩
      · unfold after mx
        rw [if_neg (by omega), neg_gain]
        split <;> grind
      · unfold after mx
        rw [if_neg (by omega), neg_gain]
        have e : ((k - 1 : Int) : Rat) = (k : Rat) - 1 := by push_cast; rfl
        rw [e]
        split <;> grind
/-- one lap -/
def nextB (x : A6) (b : Rat) : Rat := x.d * x.l + (if x.h ≤ b - x.s * x.l then b - x.s * x.l else x.h)
theorem next_eq (x : A6) (b : Rat) : nextB x b = mx (b + (1 : Rat) * ((x.d - x.s) * x.l)) (ahead x) := by
  rw [neg_gain]
  unfold nextB mx ahead gain
  split <;> split <;> grind
theorem after_next {x : A6} (G : Good x) (b : Rat) (i : Int) (hi : 0 ≤ i) : nextB x (after { x with b := b } i) = after { x with b := b } (i + 1) := by
  rw [next_eq, neg_gain]
  have gp := G.gp
  have e1 : ahead { x with b := b } = ahead x := rfl
  have e2 : gain { x with b := b } = gain x := rfl
  unfold after
  rw [if_neg (show ¬ i + 1 = 0 by omega)]
  rw [neg_gain, e2, e1]
  have e3 : ((i + 1 : Int) : Rat) = (i : Rat) + 1 := by push_cast; rfl
  rw [e3]
  split
  · rename_i h
    subst h
    simp only [Rat.intCast_zero]
    congr 1
    have := neg_gain x 1
    grind
  · rw [neg_gain, e2]
    unfold mx
    split <;> split <;> split <;> grind
theorem after_le {x : A6} {g : Rat} (G : Good x) (b : Rat) (hb : b ≤ g) (ha : ahead x ≤ g) (i : Int) (hi : 0 ≤ i) : ¬ g < after { x with b := b } i := by
  have gp := G.gp
  have e1 : ahead { x with b := b } = ahead x := rfl
  have e2 : gain { x with b := b } = gain x := rfl
  unfold after mx
  split
  · exact Rat.not_lt.mpr hb
  · rw [neg_gain, e2, e1]
    have : (0 : Rat) ≤ (i : Rat) * gain x := mul_nn (by exact_mod_cast hi) (by grind)
    split <;> grind
theorem after_nn {x : A6} (G : Good x) (k : Int) : 0 ≤ after x k := by
  have := G.an
  have := G.b0
  unfold after mx
  split
  · exact G.b0
  · split <;> grind
end Vl

namespace Vk
open PySem L2 Vm
def top (i : Nat) : Stmt := PySem.Challenge.pw_clockverdict_k79_steering_comes_in.main.body.getD i (.Pass ⟨0, 0, 0, 0⟩)
variable {P : Program} {w : World} {K : PySem.W.Frag} {mg : Str → Option Value} {base : Heap} {k : Nat} {f f1 f2 f3 f4 f5 f6 f7 f8 f9 : Addr} {fd fd1 fd2 fd3 fd4 fd5 fd6 fd7 fd8 fd9 : FuncData}
/-! ### the law's own rationals -/
def spFrac (K : PySem.W.Frag) : Sp := fun vs H Q _ => ∃ (n d : Int) (b : Nat), vs = [.int n, .int d] ∧ 0 < d ∧ n.natAbs < 2 ^ b ∧ d.natAbs < 2 ^ b ∧ b ≤ 9000 ∧
  ∀ r H', Same H H' → Rq K H' r (mkRat n d.toNat) → Q r H'
abbrev s__law_frac : Stmt := top 55
abbrev N__law_frac : List Str := ["_law_n", "_law_d", "_law_a", "_law_b"]
theorem sc__law_frac : FnScope N__law_frac ["_law_n", "_law_d"] (defScope s__law_frac) := ⟨rfl, rfl, rfl, by decide +kernel, rfl, by decide +kernel, by decide +kernel⟩
abbrev ps__law_frac : List Str := ["_law_n", "_law_d"]
theorem ok_frac (T : Bn mg) (F : Fn K mg "_law_frac" s__law_frac ps__law_frac f fd) : Def P w K mg base (k + 1) "_law_frac" ps__law_frac (spFrac K) f fd := by
  refine ⟨F.F.ok sc__law_frac (fun vs H Q E h => ?_) (fun cdv A outer s H vs Q E hr h => ?_), F.m, F.F.kp, F.b⟩
  · obtain ⟨n, d, b, rfl, _⟩ := h
    rfl
  obtain ⟨n, d, b, rfl, hd, hn, hdb, hb, q⟩ := h
  refine ⟨_, (pss_cons (ps_if (pt_cmpR op_eq (pv 1) pe_int (nomark _))
        (pss_one (ps_ret (pe_tup (pa_cons pe_int (pa_cons pe_int pa_nil)))))
        pss_nil)
      (pss_cons (ps_set (i := 2) sc__law_frac.nd rfl (Or.inl rfl) (pe_callB call_abs (by rfl) T.abs_ (by decide +kernel) (pa_cons (pv 0) pa_nil)))
      (pss_cons (ps_set (i := 3) sc__law_frac.nd rfl (Or.inl rfl) (pe_callB call_abs (by rfl) T.abs_ (by decide +kernel) (pa_cons (pv 1) pa_nil)))
      (pss_cons (ps_while PassesOwn.never (pt_cmpR op_gt (pv 3) pe_int (nomark _))
        (pss_one (ps_par (i := 2) (j := 3) (by rfl) sc__law_frac.nd rfl rfl (by decide) rfl rfl (pa_cons (pv 3) (pa_cons (pe_op op_modN (pe_callTy call_int1 (by rfl) T.int_ (by decide +kernel) (pa_cons (pv 2) pa_nil)) (pv 3)) pa_nil)) (by rfl))))
      (pss_cons (ps_if (pt_cmpR op_lt (pv 1) pe_int (nomark _))
        (pss_one (ps_set (i := 2) sc__law_frac.nd rfl (Or.inl rfl) (pe_op op_sub pe_int (pv 2))))
        pss_nil)
      (pss_one (ps_ret (pe_tup (pa_cons (pe_op op_fdivW (pv 0) (pv 2)) (pa_cons (pe_op op_fdivW (pv 1) (pv 2)) pa_nil)))))))))), ?_⟩
  have b0 : 0 < b := by
    cases b with
    | zero => simp at hdb; omega
    | succ b => exact Nat.succ_pos _
  -- if _law_d == 0
  refine ⟨_, rfl, rfl, _, rfl, ifF (dF fun c => by cases c; omega) ?_⟩
  have ea : ∀ z : Int, (if z < 0 then -z else z) = (z.natAbs : Int) := fun z => by split <;> omega
  refine ⟨_, rfl, _, rfl, _, rfl, _, rfl, (fun m σ H' => ∃ x y : Nat, m = y ∧ σ = [some (.int n), some (.int d), some (.int x), some (.int y)] ∧ H' = H ∧ Nat.gcd x y = Nat.gcd n.natAbs d.natAbs),
    ⟨_, n.natAbs, d.natAbs, rfl, by rw [ea, ea]; rfl, rfl, rfl⟩, ?_⟩
  rintro m σ H' ⟨x, y, em, rfl, rfl, hg⟩
  subst em
  -- while _law_b > 0
  refine ⟨_, rfl, _, _, rfl, rfl, _, rfl, ifD (fun c => ?_) (fun c => ?_)⟩
  · refine ⟨_, fun _ _ z => z, _, rfl, _, rfl, .inl ⟨_, rfl, _, rfl, _, _, rfl, rfl, by omega, _, _, rfl, ?_⟩⟩
    refine ⟨x % m, Nat.mod_lt _ (by omega), m, x % m, rfl, ?_, rfl, ?_⟩
    · show [some (V.int n), some (V.int d), some (V.int (m : Int)), some (V.int ((x : Int).fmod (m : Int)))] = _
      rw [fmod_nat]
    · rw [← hg, Nat.gcd_comm x m, Nat.gcd_rec m x, Nat.gcd_comm]
  have y0 : m = 0 := by omega
  subst y0
  rw [Nat.gcd_zero_right] at hg
  subst hg
  have dn : d.toNat ≠ 0 := by omega
  have gp : 0 < Nat.gcd n.natAbs d.natAbs := Nat.gcd_pos_of_pos_right _ (by omega)
  have gb : (((Nat.gcd n.natAbs d.natAbs : Nat) : Int)).natAbs < 2 ^ b := by
    rw [Int.natAbs_natCast]
    exact Nat.lt_of_le_of_lt (Nat.gcd_le_right _ (by omega)) hdb
  have w : CDivW n ((Nat.gcd n.natAbs d.natAbs : Nat) : Int) := wide_div (by omega) gb b0 (by omega)
  have w2 : CDivW d ((Nat.gcd n.natAbs d.natAbs : Nat) : Int) := wide_div (by omega) gb b0 (by omega)
  have ed : d.toNat = d.natAbs := by omega
  refine ⟨_, rfl, _, _, rfl, rfl, _, rfl, ifF (dF (by omega)) ?_⟩
  refine ⟨_, rfl, _, rfl, _, _, rfl, rfl, w, _, rfl, _, rfl, _, _, rfl, rfl, w2, sz2, fun p hp => ?_⟩
  refine q _ _ (same_new hp _) ⟨p, rfl, SqT.of ?_⟩
  rw [upd_same, mk_num n dn, mk_den n dn, ed]
  congr 4
  have e : d = (d.natAbs : Int) := by omega
  rw [show (((d.natAbs / Nat.gcd n.natAbs d.natAbs : Nat)) : Int) = (d.natAbs : Int) / ((Nat.gcd n.natAbs d.natAbs : Nat) : Int) from Int.natCast_ediv _ _]
  rw [← e]
/-- two rationals in, their f out -/
def spOp2 (K : PySem.W.Frag) (g : Rat → Rat → Rat) : Sp := fun vs H Q _ => ∃ (x y : V) (p q : Rat) (m l : Nat), vs = [x, y] ∧ Rq K H x p ∧ Rq K H y q ∧ Sz m p ∧ Sz l q ∧ m + l + 1 ≤ 9000 ∧
  ∀ r H', Same H H' → Rq K H' r (g p q) → Q r H'
/-- two rationals in, a test of them out -/
def spTest2 (K : PySem.W.Frag) (g : Rat → Rat → V) : Sp := fun vs H Q _ => ∃ (x y : V) (p q : Rat) (m l : Nat), vs = [x, y] ∧ Rq K H x p ∧ Rq K H y q ∧ Sz m p ∧ Sz l q ∧ m + l + 1 ≤ 900000 ∧ Q (g p q) H
theorem mulW {m l : Nat} {i j : Int} (hi : i.natAbs < 2 ^ m) (hj : j.natAbs < 2 ^ l) (h0 : 0 < m) (h1 : 0 < l) (h : m + l ≤ 900000) : CMulW i j := wide_mul hi hj h0 h1 (by omega)
abbrev s__law_plus : Stmt := top 56
abbrev N__law_plus : List Str := ["_law_a", "_law_b"]
theorem sc__law_plus : FnScope N__law_plus ["_law_a", "_law_b"] (defScope s__law_plus) := ⟨rfl, rfl, rfl, by decide +kernel, rfl, by decide +kernel, by decide +kernel⟩
abbrev ps__law_plus : List Str := ["_law_a", "_law_b"]
theorem ok_plus (F : Fn K mg "_law_plus" s__law_plus ps__law_plus f fd) (d_law_frac : Def P w K mg base k "_law_frac" ["_law_n", "_law_d"] (spFrac K) f1 fd1) : Def P w K mg base (k + 1) "_law_plus" ps__law_plus (spOp2 K (· + ·)) f fd := by
  refine ⟨F.F.ok sc__law_plus (fun vs H Q E h => ?_) (fun cdv A outer s H vs Q E hr h => ?_), F.m, F.F.kp, F.b⟩
  · obtain ⟨x, y, p, q, m, l, rfl, _⟩ := h
    rfl
  obtain ⟨x, y, p, q, m, l, rfl, ⟨a, rfl, ha⟩, ⟨b, rfl, hb⟩, zp, zq, hm, z⟩ := h
  have m0 := nn zp
  have l0 := nn zq
  refine ⟨_, (pss_one (ps_ret (pcall d_law_frac hr (pa_cons (pe_op op_add (pe_op op_mulW (pe_ix ix_tup (pv 0) pe_int (fun _ _ => rfl)) (pe_ix ix_tup (pv 1) pe_int (fun _ _ => rfl))) (pe_op op_mulW (pe_ix ix_tup (pv 1) pe_int (fun _ _ => rfl)) (pe_ix ix_tup (pv 0) pe_int (fun _ _ => rfl)))) (pa_cons (pe_op op_mulW (pe_ix ix_tup (pv 0) pe_int (fun _ _ => rfl)) (pe_ix ix_tup (pv 1) pe_int (fun _ _ => rfl))) pa_nil))))), ?_⟩
  refine ⟨_, rfl, a, _, _, _, rfl, rfl, ha, at0 rfl, _, rfl, b, _, _, _, rfl, rfl, hb, at1 rfl, _, _, rfl, rfl, mulW zp.1 (dA zq) m0 l0 (by omega), ?_⟩
  refine ⟨_, rfl, b, _, _, _, rfl, rfl, hb, at0 rfl, _, rfl, a, _, _, _, rfl, rfl, ha, at1 rfl, _, _, rfl, rfl, mulW zq.1 (dA zp) l0 m0 (by omega), _, _, rfl, rfl, ?_⟩
  refine ⟨_, rfl, a, _, _, _, rfl, rfl, ha, at1 rfl, _, rfl, b, _, _, _, rfl, rfl, hb, at1 rfl, _, _, rfl, rfl, mulW (dA zp) (dA zq) m0 l0 (by omega), ?_⟩
  refine ⟨_, _, m + l + 1, rfl, dd_pos p q, ab_add (ab_mul zp.1 (dA zq)) (ab_up (ab_mul zq.1 (dA zp)) (by omega)), ab_up (ab_mul (dA zp) (dA zq)) (by omega), by omega, fun r H' e hr => z r H' e ?_⟩
  rw [mk_add] at hr
  exact hr
abbrev s__law_minus : Stmt := top 57
abbrev N__law_minus : List Str := ["_law_a", "_law_b"]
theorem sc__law_minus : FnScope N__law_minus ["_law_a", "_law_b"] (defScope s__law_minus) := ⟨rfl, rfl, rfl, by decide +kernel, rfl, by decide +kernel, by decide +kernel⟩
abbrev ps__law_minus : List Str := ["_law_a", "_law_b"]
theorem ok_minus (F : Fn K mg "_law_minus" s__law_minus ps__law_minus f fd) (d_law_frac : Def P w K mg base k "_law_frac" ["_law_n", "_law_d"] (spFrac K) f1 fd1) : Def P w K mg base (k + 1) "_law_minus" ps__law_minus (spOp2 K (· - ·)) f fd := by
  refine ⟨F.F.ok sc__law_minus (fun vs H Q E h => ?_) (fun cdv A outer s H vs Q E hr h => ?_), F.m, F.F.kp, F.b⟩
  · obtain ⟨x, y, p, q, m, l, rfl, _⟩ := h
    rfl
  obtain ⟨x, y, p, q, m, l, rfl, ⟨a, rfl, ha⟩, ⟨b, rfl, hb⟩, zp, zq, hm, z⟩ := h
  have m0 := nn zp
  have l0 := nn zq
  refine ⟨_, (pss_one (ps_ret (pcall d_law_frac hr (pa_cons (pe_op op_sub (pe_op op_mulW (pe_ix ix_tup (pv 0) pe_int (fun _ _ => rfl)) (pe_ix ix_tup (pv 1) pe_int (fun _ _ => rfl))) (pe_op op_mulW (pe_ix ix_tup (pv 1) pe_int (fun _ _ => rfl)) (pe_ix ix_tup (pv 0) pe_int (fun _ _ => rfl)))) (pa_cons (pe_op op_mulW (pe_ix ix_tup (pv 0) pe_int (fun _ _ => rfl)) (pe_ix ix_tup (pv 1) pe_int (fun _ _ => rfl))) pa_nil))))), ?_⟩
  refine ⟨_, rfl, a, _, _, _, rfl, rfl, ha, at0 rfl, _, rfl, b, _, _, _, rfl, rfl, hb, at1 rfl, _, _, rfl, rfl, mulW zp.1 (dA zq) m0 l0 (by omega), ?_⟩
  refine ⟨_, rfl, b, _, _, _, rfl, rfl, hb, at0 rfl, _, rfl, a, _, _, _, rfl, rfl, ha, at1 rfl, _, _, rfl, rfl, mulW zq.1 (dA zp) l0 m0 (by omega), _, _, rfl, rfl, ?_⟩
  refine ⟨_, rfl, a, _, _, _, rfl, rfl, ha, at1 rfl, _, rfl, b, _, _, _, rfl, rfl, hb, at1 rfl, _, _, rfl, rfl, mulW (dA zp) (dA zq) m0 l0 (by omega), ?_⟩
  refine ⟨_, _, m + l + 1, rfl, dd_pos p q, ab_sub (ab_mul zp.1 (dA zq)) (ab_up (ab_mul zq.1 (dA zp)) (by omega)), ab_up (ab_mul (dA zp) (dA zq)) (by omega), by omega, fun r H' e hr => z r H' e ?_⟩
  rw [mk_sub] at hr
  exact hr
abbrev s__law_times : Stmt := top 58
abbrev N__law_times : List Str := ["_law_a", "_law_b"]
theorem sc__law_times : FnScope N__law_times ["_law_a", "_law_b"] (defScope s__law_times) := ⟨rfl, rfl, rfl, by decide +kernel, rfl, by decide +kernel, by decide +kernel⟩
abbrev ps__law_times : List Str := ["_law_a", "_law_b"]
theorem ok_times (F : Fn K mg "_law_times" s__law_times ps__law_times f fd) (d_law_frac : Def P w K mg base k "_law_frac" ["_law_n", "_law_d"] (spFrac K) f1 fd1) : Def P w K mg base (k + 1) "_law_times" ps__law_times (spOp2 K (· * ·)) f fd := by
  refine ⟨F.F.ok sc__law_times (fun vs H Q E h => ?_) (fun cdv A outer s H vs Q E hr h => ?_), F.m, F.F.kp, F.b⟩
  · obtain ⟨x, y, p, q, m, l, rfl, _⟩ := h
    rfl
  obtain ⟨x, y, p, q, m, l, rfl, ⟨a, rfl, ha⟩, ⟨b, rfl, hb⟩, zp, zq, hm, z⟩ := h
  have m0 := nn zp
  have l0 := nn zq
  refine ⟨_, (pss_one (ps_ret (pcall d_law_frac hr (pa_cons (pe_op op_mulW (pe_ix ix_tup (pv 0) pe_int (fun _ _ => rfl)) (pe_ix ix_tup (pv 1) pe_int (fun _ _ => rfl))) (pa_cons (pe_op op_mulW (pe_ix ix_tup (pv 0) pe_int (fun _ _ => rfl)) (pe_ix ix_tup (pv 1) pe_int (fun _ _ => rfl))) pa_nil))))), ?_⟩
  refine ⟨_, rfl, a, _, _, _, rfl, rfl, ha, at0 rfl, _, rfl, b, _, _, _, rfl, rfl, hb, at0 rfl, _, _, rfl, rfl, mulW zp.1 zq.1 m0 l0 (by omega), ?_⟩
  refine ⟨_, rfl, a, _, _, _, rfl, rfl, ha, at1 rfl, _, rfl, b, _, _, _, rfl, rfl, hb, at1 rfl, _, _, rfl, rfl, mulW (dA zp) (dA zq) m0 l0 (by omega), ?_⟩
  refine ⟨_, _, m + l + 1, rfl, dd_pos p q, ab_up (ab_mul zp.1 zq.1) (by omega), ab_up (ab_mul (dA zp) (dA zq)) (by omega), by omega, fun r H' e hr => z r H' e ?_⟩
  rw [mk_mul] at hr
  exact hr
abbrev s__law_below : Stmt := top 60
abbrev N__law_below : List Str := ["_law_a", "_law_b"]
theorem sc__law_below : FnScope N__law_below ["_law_a", "_law_b"] (defScope s__law_below) := ⟨rfl, rfl, rfl, by decide +kernel, rfl, by decide +kernel, by decide +kernel⟩
abbrev ps__law_below : List Str := ["_law_a", "_law_b"]
theorem ok_below (F : Fn K mg "_law_below" s__law_below ps__law_below f fd) : Def P w K mg base (k + 1) "_law_below" ps__law_below (spTest2 K fun p q => .bl (decide (p < q))) f fd := by
  refine ⟨F.F.ok sc__law_below (fun vs H Q E h => ?_) (fun cdv A outer s H vs Q E hr h => ?_), F.m, F.F.kp, F.b⟩
  · obtain ⟨x, y, p, q, m, l, rfl, _⟩ := h
    rfl
  obtain ⟨x, y, p, q, m, l, rfl, ⟨a, rfl, ha⟩, ⟨b, rfl, hb⟩, zp, zq, hm, z⟩ := h
  have m0 := nn zp
  have l0 := nn zq
  refine ⟨_, (pss_one (ps_ret (pe_cmpR op_lt (pe_op op_mulW (pe_ix ix_tup (pv 0) pe_int (fun _ _ => rfl)) (pe_ix ix_tup (pv 1) pe_int (fun _ _ => rfl))) (pe_op op_mulW (pe_ix ix_tup (pv 1) pe_int (fun _ _ => rfl)) (pe_ix ix_tup (pv 0) pe_int (fun _ _ => rfl))) (nomark _)))), ?_⟩
  refine ⟨_, rfl, a, _, _, _, rfl, rfl, ha, at0 rfl, _, rfl, b, _, _, _, rfl, rfl, hb, at1 rfl, _, _, rfl, rfl, mulW zp.1 (dA zq) m0 l0 (by omega), ?_⟩
  refine ⟨_, rfl, b, _, _, _, rfl, rfl, hb, at0 rfl, _, rfl, a, _, _, _, rfl, rfl, ha, at1 rfl, _, _, rfl, rfl, mulW zq.1 (dA zp) l0 m0 (by omega), _, _, rfl, rfl, ?_⟩
  show Q (.bl (decide (p.num * (q.den : Int) < q.num * (p.den : Int)))) H
  rw [decide_eq_decide.mpr (lt_num (p := p) (q := q)).symm]
  exact z
/-! ### the program's rationals -/
def sg (p q : Rat) : Int := if p = q then 0 else if p < q then -1 else 1
abbrev s_compare : Stmt := top 20
abbrev N_compare : List Str := ["a", "b", "left", "right"]
theorem sc_compare : FnScope N_compare ["a", "b"] (defScope s_compare) := ⟨rfl, rfl, rfl, by decide +kernel, rfl, by decide +kernel, by decide +kernel⟩
abbrev ps_compare : List Str := ["a", "b"]
theorem ok_compare (F : Fn K mg "compare" s_compare ps_compare f fd) : Def P w K mg base (k + 1) "compare" ps_compare (spTest2 K fun p q => .int (sg p q)) f fd := by
  refine ⟨F.F.ok sc_compare (fun vs H Q E h => ?_) (fun cdv A outer s H vs Q E hr h => ?_), F.m, F.F.kp, F.b⟩
  · obtain ⟨x, y, p, q, m, l, rfl, _⟩ := h
    rfl
  obtain ⟨x, y, p, q, m, l, rfl, ⟨a, rfl, ha⟩, ⟨b, rfl, hb⟩, zp, zq, hm, z⟩ := h
  have m0 := nn zp
  have l0 := nn zq
  refine ⟨_, (pss_cons (ps_set (i := 2) sc_compare.nd rfl (Or.inl rfl) (pe_op op_mulW (pe_ix ix_tup (pv 0) pe_int (fun _ _ => rfl)) (pe_ix ix_tup (pv 1) pe_int (fun _ _ => rfl))))
      (pss_cons (ps_set (i := 3) sc_compare.nd rfl (Or.inl rfl) (pe_op op_mulW (pe_ix ix_tup (pv 1) pe_int (fun _ _ => rfl)) (pe_ix ix_tup (pv 0) pe_int (fun _ _ => rfl))))
      (pss_cons (ps_if (pt_cmpR op_eq (pv 2) (pv 3) (nomark _))
        (pss_one (ps_ret pe_int))
        pss_nil)
      (pss_one (ps_ret (pe_ifExp (pt_cmpR op_lt (pv 2) (pv 3) (nomark _)) (pe_un un_neg pe_int) pe_int)))))), ?_⟩
  refine ⟨_, rfl, a, _, _, _, rfl, rfl, ha, at0 rfl, _, rfl, b, _, _, _, rfl, rfl, hb, at1 rfl, _, _, rfl, rfl, mulW zp.1 (dA zq) m0 l0 (by omega), ?_⟩
  refine ⟨_, rfl, b, _, _, _, rfl, rfl, hb, at0 rfl, _, rfl, a, _, _, _, rfl, rfl, ha, at1 rfl, _, _, rfl, rfl, mulW zq.1 (dA zp) l0 m0 (by omega), ?_⟩
  refine ⟨_, rfl, _, rfl, rfl, _, rfl, ifD (fun c => ?_) (fun c => ?_)⟩
  · have e : p = q := eq_num.mpr (V.int.inj c)
    have z' : Q (.int (sg p q)) H := z
    unfold sg at z'
    rw [if_pos e] at z'
    exact z'
  · have e : ¬ p = q := fun e => c (congrArg V.int (eq_num.mp e))
    have z' : Q (.int (sg p q)) H := z
    unfold sg at z'
    rw [if_neg e] at z'
    refine ⟨_, rfl, _, rfl, _, _, rfl, rfl, _, rfl, ifD (fun c => ?_) (fun c => ?_)⟩
    · rw [if_pos (lt_num.mpr c)] at z'
      exact ⟨_, rfl, z'⟩
    · rw [if_neg (fun e => c (lt_num.mp e))] at z'
      exact z'
abbrev s_negate : Stmt := top 17
abbrev N_negate : List Str := ["a"]
theorem sc_negate : FnScope N_negate ["a"] (defScope s_negate) := ⟨rfl, rfl, rfl, by decide +kernel, rfl, by decide +kernel, by decide +kernel⟩
abbrev ps_negate : List Str := ["a"]
def spOp1 (K : PySem.W.Frag) (g : Rat → Rat) : Sp := fun vs H Q _ => ∃ (x : V) (p : Rat), vs = [x] ∧ Rq K H x p ∧ ∀ r H', Same H H' → Rq K H' r (g p) → Q r H'
theorem ok_negate (F : Fn K mg "negate" s_negate ps_negate f fd) : Def P w K mg base (k + 1) "negate" ps_negate (spOp1 K fun p => -p) f fd := by
  refine ⟨F.F.ok sc_negate (fun vs H Q E h => ?_) (fun cdv A outer s H vs Q E hr h => ?_), F.m, F.F.kp, F.b⟩
  · obtain ⟨x, p, rfl, _⟩ := h
    rfl
  obtain ⟨x, p, rfl, ⟨a, rfl, ha⟩, z⟩ := h
  refine ⟨_, (pss_one (ps_ret (pe_tup (pa_cons (pe_un un_neg (pe_ix ix_tup (pv 0) pe_int (fun _ _ => rfl))) (pa_cons (pe_ix ix_tup (pv 0) pe_int (fun _ _ => rfl)) pa_nil))))), ?_⟩
  refine ⟨_, rfl, a, _, _, _, rfl, rfl, ha, at0 rfl, _, rfl, _, rfl, a, _, _, _, rfl, rfl, ha, at1 rfl, sz2, fun r hr' => ?_⟩
  exact z _ _ (same_new hr' _) ⟨r, rfl, SqT.of upd_same⟩
abbrev s_add : Stmt := top 14
abbrev N_add : List Str := ["a", "b", "common", "factor", "n", "rest"]
theorem sc_add : FnScope N_add ["a", "b"] (defScope s_add) := ⟨rfl, rfl, rfl, by decide +kernel, rfl, by decide +kernel, by decide +kernel⟩
abbrev ps_add : List Str := ["a", "b"]
theorem ok_add (T : Bn mg) (F : Fn K mg "add" s_add ps_add f fd) : Def P w K mg base (k + 1) "add" ps_add (spOp2 K (· + ·)) f fd := by
  refine ⟨F.F.ok sc_add (fun vs H Q E h => ?_) (fun cdv A outer s H vs Q E hr h => ?_), F.m, F.F.kp, F.b⟩
  · obtain ⟨x, y, p, q, m, l, rfl, _⟩ := h
    rfl
  obtain ⟨x, y, p, q, m, l, rfl, ⟨a, rfl, ha⟩, ⟨b, rfl, hb⟩, zp, zq, hm, z⟩ := h
  have m0 := nn zp
  have l0 := nn zq
  refine ⟨_, (pss_cons (ps_set (i := 2) sc_add.nd rfl (Or.inl rfl) (pe_callBfun cr_gcd (by rfl) T.gcd_ (pa_cons (pe_ix ix_tup (pv 0) pe_int (fun _ _ => rfl)) (pa_cons (pe_ix ix_tup (pv 1) pe_int (fun _ _ => rfl)) pa_nil))))
      (pss_cons (ps_set (i := 3) sc_add.nd rfl (Or.inl rfl) (pe_op op_fdivW (pe_ix ix_tup (pv 1) pe_int (fun _ _ => rfl)) (pv 2)))
      (pss_cons (ps_set (i := 4) sc_add.nd rfl (Or.inl rfl) (pe_op op_add (pe_op op_mulW (pe_ix ix_tup (pv 0) pe_int (fun _ _ => rfl)) (pv 3)) (pe_op op_mulW (pe_ix ix_tup (pv 1) pe_int (fun _ _ => rfl)) (pe_op op_fdivW (pe_ix ix_tup (pv 0) pe_int (fun _ _ => rfl)) (pv 2)))))
      (pss_cons (ps_set (i := 5) sc_add.nd rfl (Or.inl rfl) (pe_callBfun cr_gcd (by rfl) T.gcd_ (pa_cons (pv 4) (pa_cons (pv 2) pa_nil))))
      (pss_one (ps_ret (pe_tup (pa_cons (pe_op op_fdivW (pv 4) (pv 5)) (pa_cons (pe_op op_mulW (pe_op op_fdivW (pe_ix ix_tup (pv 0) pe_int (fun _ _ => rfl)) (pv 5)) (pv 3)) pa_nil))))))))), ?_⟩
  have gp : 0 < Nat.gcd p.den q.den := Nat.gcd_pos_of_pos_left _ p.den_pos
  have gb : (((Nat.gcd p.den q.den : Nat) : Int)).natAbs < 2 ^ m := Nat.lt_of_le_of_lt (Nat.gcd_le_left _ p.den_pos) zp.2
  have wg : ∀ x : Int, CDivW x ((Nat.gcd p.den q.den : Nat) : Int) := fun x => wide_div (by omega) gb m0 (by omega)
  have fb : (((q.den / Nat.gcd p.den q.den : Nat)) : Int).natAbs < 2 ^ l := Nat.lt_of_le_of_lt (Nat.div_le_self _ _) zq.2
  have hb' : (((p.den / Nat.gcd p.den q.den : Nat)) : Int).natAbs < 2 ^ m := Nat.lt_of_le_of_lt (Nat.div_le_self _ _) zp.2
  refine ⟨_, rfl, a, _, _, _, rfl, rfl, ha, at1 rfl, _, rfl, b, _, _, _, rfl, rfl, hb, at1 rfl, _, _, rfl, ?_⟩
  -- factor; n
  refine ⟨_, rfl, b, _, _, _, rfl, rfl, hb, at1 rfl, _, rfl, _, _, rfl, rfl, wg _, ?_⟩
  refine ⟨_, rfl, a, _, _, _, rfl, rfl, ha, at0 rfl, _, rfl, _, _, rfl, rfl, mulW zp.1 fb m0 l0 (by omega), ?_⟩
  refine ⟨_, rfl, b, _, _, _, rfl, rfl, hb, at0 rfl, _, rfl, a, _, _, _, rfl, rfl, ha, at1 rfl, _, rfl, _, _, rfl, rfl, wg _, _, _, rfl, rfl, mulW zq.1 hb' l0 m0 (by omega), _, _, rfl, rfl, ?_⟩
  -- rest
  refine ⟨_, rfl, _, rfl, _, _, rfl, ?_⟩
  obtain ⟨n, en⟩ : ∃ n : Int, n = p.num * ((q.den / Nat.gcd p.den q.den : Nat) : Int) + q.num * ((p.den / Nat.gcd p.den q.den : Nat) : Int) := ⟨_, rfl⟩
  obtain ⟨r, er⟩ : ∃ r : Nat, r = Nat.gcd n.natAbs (Nat.gcd p.den q.den) := ⟨_, rfl⟩
  have A := add_parts p q _ _ n r rfl rfl en er
  have rp : 0 < r := by rw [er]; exact Nat.gcd_pos_of_pos_right _ gp
  have rb : ((r : Nat) : Int).natAbs < 2 ^ m := by rw [er]; exact Nat.lt_of_le_of_lt (Nat.gcd_le_right _ gp) gb
  have wr : ∀ x : Int, CDivW x (r : Int) := fun x => wide_div (by omega) rb m0 (by omega)
  have db : (((p.den / r : Nat)) : Int).natAbs < 2 ^ m := Nat.lt_of_le_of_lt (Nat.div_le_self _ _) zp.2
  have en' : (fun i j : Int => i + j) ((fun i j : Int => i * j) p.num ((q.den : Int) / ((Nat.gcd p.den q.den : Nat) : Int))) ((fun i j : Int => i * j) q.num ((p.den : Int) / ((Nat.gcd p.den q.den : Nat) : Int))) = n := en.symm
  suffices hz : ∀ n' : Int, n' = n → ∀ r' : Int, r' = (r : Int) → tRet (tTup (tCons (tOp (rI CDivW fun i j => V.int (i / j)) (tVar 4) (tVar 5)) (tCons (tOp (rI CMulW fun i j => V.int (i * j)) (tOp (rI CDivW fun i j => V.int (i / j)) (tOp (rIxT K) (tVar 0) (tC (V.int 1))) (tVar 5)) (tVar 3)) tNil)))
      { nx := fun _ H' => Q V.non H', rt := Q } [some (.ref a), some (.ref b), some (.int ((Nat.gcd p.den q.den : Nat) : Int)), some (.int ((q.den / Nat.gcd p.den q.den : Nat) : Int)), some (.int n'), some (.int r')] H from hz _ en' _ (by rw [er, ← en']; rfl)
  rintro n' e1 r' e2
  subst e1 e2
  refine ⟨_, rfl, _, rfl, _, _, rfl, rfl, wr _, _, rfl, a, _, _, _, rfl, rfl, ha, at1 rfl, _, rfl, _, _, rfl, rfl, wr _, _, rfl, _, _, rfl, rfl, mulW db fb m0 l0 (by omega), sz2, fun t ht => ?_⟩
  refine z _ _ (same_new ht _) ⟨t, rfl, SqT.of ?_⟩
  rw [upd_same]
  show some (HO.tup [V.int (n' / (r : Int)), V.int (((p.den / r : Nat) : Int) * ((q.den / Nat.gcd p.den q.den : Nat) : Int))]) = some (HO.tup [V.int (p + q).num, V.int ((p + q).den : Int)])
  rw [A.1, A.2]
  rfl
abbrev s_subtract : Stmt := top 15
abbrev N_subtract : List Str := ["a", "b"]
theorem sc_subtract : FnScope N_subtract ["a", "b"] (defScope s_subtract) := ⟨rfl, rfl, rfl, by decide +kernel, rfl, by decide +kernel, by decide +kernel⟩
abbrev ps_subtract : List Str := ["a", "b"]
theorem ok_subtract (F : Fn K mg "subtract" s_subtract ps_subtract f fd) (dadd : Def P w K mg base k "add" ["a", "b"] (spOp2 K (· + ·)) f1 fd1) (dnegate : Def P w K mg base k "negate" ["a"] (spOp1 K fun p => -p) f2 fd2) :
    Def P w K mg base (k + 1) "subtract" ps_subtract (spOp2 K (· - ·)) f fd := by
  refine ⟨F.F.ok sc_subtract (fun vs H Q E h => ?_) (fun cdv A outer s H vs Q E hr h => ?_), F.m, F.F.kp, F.b⟩
  · obtain ⟨x, y, p, q, m, l, rfl, _⟩ := h
    rfl
  obtain ⟨x, y, p, q, m, l, rfl, ha, hb, zp, zq, hm, z⟩ := h
  refine ⟨_, (pss_one (ps_ret (pcall dadd hr (pa_cons (pv 0) (pa_cons (pcall dnegate hr (pa_cons (pv 1) pa_nil)) pa_nil))))), ?_⟩
  refine ⟨_, rfl, _, rfl, _, q, rfl, hb, fun r H' e hr' => ?_⟩
  refine ⟨_, _, p, -q, m, l, rfl, ha.same e, hr', zp, zq.neg, hm, fun r2 H2 e2 hr2 => z _ _ (e.trans e2) ?_⟩
  show Rq K H2 r2 (p - q)
  rw [Rat.sub_eq_add_neg]
  exact hr2
/-- rational(n, d) where d is above zero; its second argument is always written -/
abbrev s_rational : Stmt := top 13
abbrev N_rational : List Str := ["n", "d", "common"]
theorem sc_rational : FnScope N_rational ["n", "d"] (defScope s_rational) := ⟨rfl, rfl, rfl, by decide +kernel, rfl, by decide +kernel, by decide +kernel⟩
abbrev ps_rational : List Str := ["n", "d"]
theorem ok_rational (T : Bn mg) (F : FunA K "rational" "rational" s_rational f fd) (hm : mg "rational" = some (.ref f)) (hb : Binds K fd ps_rational []) : Def P w K mg base (k + 1) "rational" ps_rational (spFrac K) f fd := by
  refine ⟨F.ok sc_rational (fun vs H Q E h => ?_) (fun cdv A outer s H vs Q E hr h => ?_), hm, F.kp, hb⟩
  · obtain ⟨n, d, b, rfl, _⟩ := h
    rfl
  obtain ⟨n, d, b, rfl, hd, hn, hdb, hb, q⟩ := h
  refine ⟨_, (pss_cons (ps_if (pt_cmpR op_eq (pv 1) pe_int (nomark _))
        (pss_one ps_never)
        pss_nil)
      (pss_cons (ps_set (i := 2) sc_rational.nd rfl (Or.inl rfl) (pe_callBfun cr_gcd (by rfl) T.gcd_ (pa_cons (pv 0) (pa_cons (pv 1) pa_nil))))
      (pss_cons (ps_if (pt_cmpR op_lt (pv 1) pe_int (nomark _))
        (pss_one (ps_set (i := 2) sc_rational.nd rfl (Or.inl rfl) (pe_un un_neg (pv 2))))
        pss_nil)
      (pss_one (ps_ret (pe_tup (pa_cons (pe_op op_fdivW (pv 0) (pv 2)) (pa_cons (pe_op op_fdivW (pv 1) (pv 2)) pa_nil)))))))), ?_⟩
  have b0 : 0 < b := by
    cases b with
    | zero => simp at hdb; omega
    | succ b => exact Nat.succ_pos _
  have dn : d.toNat ≠ 0 := by omega
  have gp : 0 < Nat.gcd n.natAbs d.natAbs := Nat.gcd_pos_of_pos_right _ (by omega)
  have gb : (((Nat.gcd n.natAbs d.natAbs : Nat) : Int)).natAbs < 2 ^ b := by
    rw [Int.natAbs_natCast]
    exact Nat.lt_of_le_of_lt (Nat.gcd_le_right _ (by omega)) hdb
  have w : ∀ x : Int, CDivW x ((Nat.gcd n.natAbs d.natAbs : Nat) : Int) := fun x => wide_div (by omega) gb b0 (by omega)
  have ed : d.toNat = d.natAbs := by omega
  refine ⟨_, rfl, rfl, _, rfl, ifF (dF fun c => by cases c; omega) ?_⟩
  refine ⟨_, rfl, _, rfl, _, _, rfl, ?_⟩
  refine ⟨_, rfl, _, _, rfl, rfl, _, rfl, ifF (dF (by omega)) ?_⟩
  refine ⟨_, rfl, _, rfl, _, _, rfl, rfl, w _, _, rfl, _, rfl, _, _, rfl, rfl, w _, sz2, fun p hp => ?_⟩
  refine q _ _ (same_new hp _) ⟨p, rfl, SqT.of ?_⟩
  rw [upd_same, mk_num n dn, mk_den n dn, ed]
  congr 4
  have e : d = (d.natAbs : Int) := by omega
  rw [show (((d.natAbs / Nat.gcd n.natAbs d.natAbs : Nat)) : Int) = (d.natAbs : Int) / ((Nat.gcd n.natAbs d.natAbs : Nat) : Int) from Int.natCast_ediv _ _]
  rw [← e]
abbrev s_divide : Stmt := top 18
abbrev N_divide : List Str := ["a", "b"]
theorem sc_divide : FnScope N_divide ["a", "b"] (defScope s_divide) := ⟨rfl, rfl, rfl, by decide +kernel, rfl, by decide +kernel, by decide +kernel⟩
abbrev ps_divide : List Str := ["a", "b"]
def spDiv (K : PySem.W.Frag) : Sp := fun vs H Q _ => ∃ (x y : V) (p q : Rat) (m l : Nat), vs = [x, y] ∧ Rq K H x p ∧ Rq K H y q ∧ Sz m p ∧ Sz l q ∧ m + l + 1 ≤ 9000 ∧ 0 < q ∧ ∀ r H', Same H H' → Rq K H' r (p / q) → Q r H'
theorem ok_divide (F : Fn K mg "divide" s_divide ps_divide f fd) (drational : Def P w K mg base k "rational" ["n", "d"] (spFrac K) f1 fd1) : Def P w K mg base (k + 1) "divide" ps_divide (spDiv K) f fd := by
  refine ⟨F.F.ok sc_divide (fun vs H Q E h => ?_) (fun cdv A outer s H vs Q E hr h => ?_), F.m, F.F.kp, F.b⟩
  · obtain ⟨x, y, p, q, m, l, rfl, _⟩ := h
    rfl
  obtain ⟨x, y, p, q, m, l, rfl, ⟨a, rfl, ha⟩, ⟨b, rfl, hb⟩, zp, zq, hm, q0, z⟩ := h
  have m0 := nn zp
  have l0 := nn zq
  have hn := num_pos q0
  refine ⟨_, (pss_one (ps_ret (pcall drational hr (pa_cons (pe_op op_mulW (pe_ix ix_tup (pv 0) pe_int (fun _ _ => rfl)) (pe_ix ix_tup (pv 1) pe_int (fun _ _ => rfl))) (pa_cons (pe_op op_mulW (pe_ix ix_tup (pv 0) pe_int (fun _ _ => rfl)) (pe_ix ix_tup (pv 1) pe_int (fun _ _ => rfl))) pa_nil))))), ?_⟩
  refine ⟨_, rfl, a, _, _, _, rfl, rfl, ha, at0 rfl, _, rfl, b, _, _, _, rfl, rfl, hb, at1 rfl, _, _, rfl, rfl, mulW zp.1 (dA zq) m0 l0 (by omega), ?_⟩
  refine ⟨_, rfl, a, _, _, _, rfl, rfl, ha, at1 rfl, _, rfl, b, _, _, _, rfl, rfl, hb, at0 rfl, _, _, rfl, rfl, mulW (dA zp) zq.1 m0 l0 (by omega), ?_⟩
  refine ⟨_, _, m + l, rfl, Int.mul_pos (by have := p.den_pos; omega) hn, ab_mul zp.1 (dA zq), ab_mul (dA zp) zq.1, by omega, fun r H' e hr => z r H' e ?_⟩
  have e2 : ((p.den : Int) * q.num).toNat = p.den * q.num.toNat := by
    have e3 : q.num = (q.num.toNat : Int) := by omega
    rw [e3, tn]
    rfl
  rw [e2, ← div_mk p q q0] at hr
  exact hr
end Vk
namespace Vk
open PySem L2 Vm
variable {l : Addr} {P : Program} {w : World} {K : PySem.W.Frag} {mg : Str → Option Value} {base : Heap} {k : Nat} {f f1 f2 f3 f4 f5 f6 f7 f8 f9 : Addr} {fd fd1 fd2 fd3 fd4 fd5 fd6 fd7 fd8 fd9 : FuncData}
abbrev s__law_store : Stmt := top 48
abbrev N__law_store : List Str := ["_law_script"]
theorem sc__law_store : FnScope N__law_store ["_law_script"] (defScope s__law_store) := ⟨rfl, rfl, rfl, by decide +kernel, rfl, by decide +kernel, by decide +kernel⟩
abbrev ps__law_store : List Str := ["_law_script"]
def spStore (K : PySem.W.Frag) : Sp := fun vs H Q _ => ∃ (a : Addr) (ns : List Int), vs = [.ref a] ∧ SqL K H a (ns.map V.int) ∧ ns.length ≤ 63 ∧ ∀ (s l : Addr) H', Same H H' → H s = none → Sto l s H' → Q (.ref s) H'
theorem ok_store (T : Bn mg) (F : Fn K mg "_law_store" s__law_store ps__law_store f fd) : Def P w K mg base (k + 1) "_law_store" ps__law_store (spStore K) f fd := by
  refine ⟨F.F.ok sc__law_store (fun vs H Q E h => ?_) (fun cdv A outer s H vs Q E hr h => ?_), F.m, F.F.kp, F.b⟩
  · obtain ⟨a, ns, rfl, _⟩ := h
    rfl
  obtain ⟨a, ns, rfl, ha, hl, z⟩ := h
  refine ⟨_, (pss_one (ps_ret (pe_lst (pa_cons (pe_callTy call_list_of (by rfl) T.list_ (by decide +kernel) (pa_cons (pv 0) pa_nil)) (pa_cons pe_int (pa_cons pe_int (pa_cons pe_int (pa_cons pe_int (pa_cons pe_int pa_nil))))))))), ?_⟩
  refine ⟨_, rfl, a, _, rfl, .inl ha, fun l l0 => ?_⟩
  refine ⟨sm6, fun p p0 => ?_⟩
  have lp : l ≠ p := fun e => by rw [e, upd_same] at p0; cases p0
  have e1 : Same H (upd H l (.lst (ns.map V.int))) := same_new l0 _
  refine z _ l _ (e1.trans (same_new p0 _)) (e1.free p0) ⟨ns, 0, 0, 1, 0, 0, upd_same, lp, ?_, hl, by omega, by omega, by omega, by omega⟩
  rw [upd_ne lp, upd_same]
abbrev s__law_mixed : Stmt := top 50
abbrev N__law_mixed : List Str := ["_law_store_here"]
theorem sc__law_mixed : FnScope N__law_mixed ["_law_store_here"] (defScope s__law_mixed) := ⟨rfl, rfl, rfl, by decide +kernel, rfl, by decide +kernel, by decide +kernel⟩
abbrev ps__law_mixed : List Str := ["_law_store_here"]
def spMixed (K : PySem.W.Frag) (l : Addr) : Sp := fun vs H Q _ => ∃ (s : Addr), vs = [.ref s] ∧ Sto l s H ∧ ∀ (r : Int) H', 0 ≤ r → r < 1000000009 → Sto l s H' → Fr s H H' → Q (.int r) H'
theorem ok_mixed (T : Bn mg) (F : Fn K mg "_law_mixed" s__law_mixed ps__law_mixed f fd) : Def P w K mg base (k + 1) "_law_mixed" ps__law_mixed (spMixed K l) f fd := by
  refine ⟨F.F.ok sc__law_mixed (fun vs H Q E h => ?_) (fun cdv A outer s H vs Q E hr h => ?_), F.m, F.F.kp, F.b⟩
  · obtain ⟨a, rfl, _⟩ := h
    rfl
  obtain ⟨s, rfl, ⟨ns, pos, num, seed, hold, cnt, h1, h2, h3, h4, h5, h6, h7, h8⟩, z⟩ := h
  refine ⟨_, (pss_cons (ps_asg (pe_op op_add (pe_ix ix_list (pv 0) pe_int (fun _ _ => rfl)) pe_int) (pg_sub (pv 0) pe_int set_list))
      (pss_cons (ps_asg (pe_op op_mod (pe_callTy call_int1 (by rfl) T.int_ (by decide +kernel) (pa_cons (pe_op op_add (pe_op op_add (pe_op op_mul (pe_ix ix_list (pv 0) pe_int (fun _ _ => rfl)) pe_int) (pe_op op_mul (pe_ix ix_list (pv 0) pe_int (fun _ _ => rfl)) pe_int)) pe_int) pa_nil)) pe_int) (pg_sub (pv 0) pe_int set_list))
      (pss_one (ps_ret (pe_op op_mod (pe_callTy call_int1 (by rfl) T.int_ (by decide +kernel) (pa_cons (pe_op op_add (pe_op op_mul (pe_ix ix_list (pv 0) pe_int (fun _ _ => rfl)) pe_int) (pe_op op_fdiv (pe_ix ix_list (pv 0) pe_int (fun _ _ => rfl)) pe_int)) pa_nil)) pe_int))))), ?_⟩
  refine ⟨_, rfl, s, _, _, _, rfl, rfl, SqL.of h1, atI_nat (j := 5) rfl, _, _, rfl, rfl, _, rfl, s, _, _, _, rfl, rfl, h1, rfl, ?_⟩
  refine ⟨_, rfl, s, _, _, _, rfl, rfl, SqL.of upd_same, atI_nat (j := 3) rfl, _, _, rfl, rfl, .inr ⟨by decide, by decide⟩, ?_⟩
  refine ⟨_, rfl, s, _, _, _, rfl, rfl, SqL.of upd_same, atI_nat (j := 5) rfl, _, _, rfl, rfl, .inr ⟨by decide, by decide⟩, _, _, rfl, rfl, ?_⟩
  refine ⟨_, _, rfl, rfl, .inl ⟨_, rfl, _, _, rfl, rfl, (by show (0 : Int) < 1000000007; decide), _, rfl, s, _, _, _, rfl, rfl, upd_same, rfl, ?_⟩⟩
  refine ⟨_, rfl, s, _, _, _, rfl, rfl, SqL.of upd_same, atI_nat (j := 3) rfl, _, _, rfl, rfl, .inr ⟨by decide, by decide⟩, ?_⟩
  refine ⟨_, rfl, s, _, _, _, rfl, rfl, SqL.of upd_same, atI_nat (j := 3) rfl, _, _, rfl, rfl, ⟨by decide, by decide⟩, _, _, rfl, rfl, .inl ⟨_, rfl, _, _, rfl, rfl, (by show (0 : Int) < 1000000009; decide), ?_⟩⟩
  have e2 : ∀ o1 o2, Fr s H (upd (upd H s o1) s o2) := fun _ _ => (Fr.upd _).trans (Fr.upd _)
  exact z _ _ (Int.emod_nonneg _ (by decide)) (Int.emod_lt_of_pos _ (by decide)) ⟨ns, pos, num, _, hold, _, upd_same, h2, (e2 _ _) _ _ h3 h2, h4, h5, h6, Int.emod_nonneg _ (by decide), Int.emod_lt_of_pos _ (by decide)⟩ (e2 _ _)
abbrev s__law_feed : Stmt := top 49
abbrev N__law_feed : List Str := ["_law_store_here", "_law_cell"]
theorem sc__law_feed : FnScope N__law_feed ["_law_store_here"] (defScope s__law_feed) := ⟨rfl, rfl, rfl, by decide +kernel, rfl, by decide +kernel, by decide +kernel⟩
abbrev ps__law_feed : List Str := ["_law_store_here"]
def spFeed (K : PySem.W.Frag) (l : Addr) : Sp := fun vs H Q _ => ∃ (s : Addr) (ns : List Int) (pos num seed hold cnt : Int), vs = [.ref s] ∧ H s = some (.lst [.ref l, .int pos, .int num, .int seed, .int hold, .int cnt]) ∧ l ≠ s ∧ H l = some (.lst (ns.map V.int)) ∧ ns.length ≤ 63 ∧ 0 ≤ pos ∧ 0 ≤ num ∧ 0 ≤ seed ∧ seed < 1000000007 ∧ pos < (ns.length : Int) ∧
  ∀ H', Sto l s H' → Fr s H H' → Q .non H'
theorem ok_feed (T : Bn mg) (F : Fn K mg "_law_feed" s__law_feed ps__law_feed f fd) : Def P w K mg base (k + 1) "_law_feed" ps__law_feed (spFeed K l) f fd := by
  refine ⟨F.F.ok sc__law_feed (fun vs H Q E h => ?_) (fun cdv A outer s H vs Q E hr h => ?_), F.m, F.F.kp, F.b⟩
  · obtain ⟨_, _, _, _, _, _, _, rfl, _⟩ := h
    rfl
  obtain ⟨s, ns, pos, num, seed, hold, cnt, rfl, h1, h2, h3, h4, h5, h6, h7, h8, h9, z⟩ := h
  refine ⟨_, (pss_cons (ps_set (i := 1) sc__law_feed.nd rfl (Or.inl rfl) (pe_callTy call_int1 (by rfl) T.int_ (by decide +kernel) (pa_cons (pe_ix ix_list (pe_ix ix_list (pv 0) pe_int (fun _ _ => rfl)) (pe_ix ix_list (pv 0) pe_int (fun _ _ => rfl)) (fun _ _ => rfl)) pa_nil)))
      (pss_cons (ps_asg (pe_op op_add (pe_ix ix_list (pv 0) pe_int (fun _ _ => rfl)) pe_int) (pg_sub (pv 0) pe_int set_list))
      (pss_cons (ps_asg (pe_op op_mod (pe_callTy call_int1 (by rfl) T.int_ (by decide +kernel) (pa_cons (pe_op op_add (pe_op op_mul (pe_ix ix_list (pv 0) pe_int (fun _ _ => rfl)) pe_int) (pv 1)) pa_nil)) pe_int) (pg_sub (pv 0) pe_int set_list))
      (pss_one (ps_if (PW.pt (pw_or (pt_cmpR op_ge (pv 1) (pe_op op_pow pe_int pe_int) (nomark _)) (pw_or1 (pt_cmpR op_le (pv 1) (pe_op op_sub pe_int (pe_op op_pow pe_int pe_int)) (nomark _)))))
        (pss_one (ps_asg (pe_callB call_abs (by rfl) T.abs_ (by decide +kernel) (pa_cons (pv 1) pa_nil)) (pg_sub (pv 0) pe_int set_list)))
        (pss_one (ps_asg pe_int (pg_sub (pv 0) pe_int set_list)))))))), ?_⟩
  have hp : pos.toNat < ns.length := by omega
  have ea : atI (ns.map V.int) pos = some (.int ns[pos.toNat]) := at_of (j := pos.toNat) (by omega) (by rw [List.getElem?_map, List.getElem?_eq_getElem hp]; rfl)
  obtain ⟨c, hc⟩ : ∃ c, c = ns[pos.toNat] := ⟨_, rfl⟩
  rw [← hc] at ea
  refine ⟨_, rfl, s, _, _, _, rfl, rfl, SqL.of h1, at0 rfl, _, rfl, s, _, _, _, rfl, rfl, SqL.of h1, at1 rfl, l, _, _, _, rfl, rfl, SqL.of h3, ea, .inl ⟨_, rfl, ?_⟩⟩
  refine ⟨_, rfl, s, _, _, _, rfl, rfl, SqL.of h1, at1 rfl, _, _, rfl, rfl, _, rfl, s, _, _, _, rfl, rfl, h1, rfl, ?_⟩
  refine ⟨_, rfl, s, _, _, _, rfl, rfl, SqL.of upd_same, atI_nat (j := 3) rfl, _, _, rfl, rfl, .inr ⟨by decide, by decide⟩, _, rfl, _, _, rfl, rfl, .inl ⟨_, rfl, _, _, rfl, rfl, (by show (0 : Int) < 1000000007; decide), _, rfl, s, _, _, _, rfl, rfl, upd_same, rfl, ?_⟩⟩
  have e2 : ∀ o1 o2, Fr s H (upd (upd H s o1) s o2) := fun _ _ => (Fr.upd _).trans (Fr.upd _)
  have e3 : ∀ o1 o2 o3, Fr s H (upd (upd (upd H s o1) s o2) s o3) := fun _ _ _ => (e2 _ _).trans (Fr.upd _)
  have pw : (0 : Int) ≤ 18 ∧ (18 : Int) ≤ 1000000 ∧ (10 : Int).natAbs < 2 ^ 64 := ⟨by decide, by decide, by decide⟩
  have big : ∀ H', H' s = _ → Fr s H H' → Q .non H' := fun H' (e : H' s = some (.lst [.ref l, .int (pos + 1), .int (if c < 0 then -c else c), .int ((seed * 30011 + c) % 1000000007), .int hold, .int cnt])) e' =>
    z H' ⟨ns, pos + 1, _, _, hold, cnt, e, h2, e' _ _ h3 h2, h4, by omega, by split <;> omega, Int.emod_nonneg _ (by decide), Int.emod_lt_of_pos _ (by decide)⟩ e'
  refine ⟨_, rfl, _, _, rfl, rfl, pw, _, _, rfl, rfl, _, rfl, ifD (fun _ => ?_) (fun _ => ⟨_, rfl, _, _, rfl, rfl, pw, _, _, rfl, rfl, _, _, rfl, rfl, _, rfl, ifD (fun _ => ?_) (fun _ => ?_)⟩)⟩
  · exact ⟨_, rfl, _, rfl, _, rfl, s, _, _, _, rfl, rfl, upd_same, rfl, big _ upd_same (e3 _ _ _)⟩
  · exact ⟨_, rfl, _, rfl, _, rfl, s, _, _, _, rfl, rfl, upd_same, rfl, big _ upd_same (e3 _ _ _)⟩
  · exact ⟨_, rfl, s, _, _, _, rfl, rfl, upd_same, rfl, z _ ⟨ns, pos + 1, num, _, 3, cnt, upd_same, h2, (e3 _ _ _) _ _ h3 h2, h4, by omega, h6, Int.emod_nonneg _ (by decide), Int.emod_lt_of_pos _ (by decide)⟩ (e3 _ _ _)⟩
abbrev s__law_take : Stmt := top 51
abbrev N__law_take : List Str := ["_law_store_here", "_law_many", "_law_number"]
theorem sc__law_take : FnScope N__law_take ["_law_store_here", "_law_many"] (defScope s__law_take) := ⟨rfl, rfl, rfl, by decide +kernel, rfl, by decide +kernel, by decide +kernel⟩
abbrev ps__law_take : List Str := ["_law_store_here", "_law_many"]
def spTake (K : PySem.W.Frag) (l : Addr) : Sp := fun vs H Q _ => ∃ (s : Addr) (many : Int), vs = [.ref s, .int many] ∧ Sto l s H ∧ many < 2 ^ 64 ∧ ∀ (r : Int) H', 0 ≤ r → (r < many ∨ r = 0) → Sto l s H' → Fr s H H' → Q (.int r) H'
theorem ok_take (T : Bn mg) (F : Fn K mg "_law_take" s__law_take ps__law_take f fd) (d_law_feed : Def P w K mg base k "_law_feed" ["_law_store_here"] (spFeed K l) f1 fd1) (d_law_mixed : Def P w K mg base k "_law_mixed" ["_law_store_here"] (spMixed K l) f2 fd2) :
    Def P w K mg base (k + 1) "_law_take" ps__law_take (spTake K l) f fd := by
  refine ⟨F.F.ok sc__law_take (fun vs H Q E h => ?_) (fun cdv A outer s H vs Q E hr h => ?_), F.m, F.F.kp, F.b⟩
  · obtain ⟨_, _, rfl, _⟩ := h
    rfl
  obtain ⟨s, many, rfl, hS, hm, z⟩ := h
  refine ⟨_, (pss_cons (ps_set (i := 1) sc__law_take.nd rfl (Or.inl rfl) (pe_callB (call_max2 rfl) (by rfl) T.max_ (by decide +kernel) (pa_cons pe_int (pa_cons (pv 1) pa_nil))))
      (pss_cons (ps_if (PW.pt (pw_and (pt_cmpR op_eq (pe_ix ix_list (pv 0) pe_int (fun _ _ => rfl)) pe_int (nomark _)) (pw_and (pt_cmpR op_eq (pe_ix ix_list (pv 0) pe_int (fun _ _ => rfl)) pe_int (nomark _)) (pw_and1 (pt_cmpR op_lt (pe_ix ix_list (pv 0) pe_int (fun _ _ => rfl)) (pe_callB call_len_seq (by rfl) T.len_ PySem.boot_len (pa_cons (pe_ix ix_list (pv 0) pe_int (fun _ _ => rfl)) pa_nil)) (nomark _))))))
        (pss_one (ps_expr (pcall d_law_feed hr (pa_cons (pv 0) pa_nil))))
        pss_nil)
      (pss_cons (ps_if (pt_cmpR op_gt (pe_ix ix_list (pv 0) pe_int (fun _ _ => rfl)) pe_int (nomark _))
        (pss_cons (ps_set (i := 2) sc__law_take.nd rfl (Or.inl rfl) (pe_ix ix_list (pv 0) pe_int (fun _ _ => rfl)))
        (pss_cons (ps_asg (pe_op op_fdivW (pv 2) (pv 1)) (pg_sub (pv 0) pe_int set_list))
        (pss_one (ps_ret (pe_op op_mod (pe_callTy call_int1 (by rfl) T.int_ (by decide +kernel) (pa_cons (pv 2) pa_nil)) (pv 1))))))
        pss_nil)
      (pss_cons (ps_asg (pe_callB (call_max2 rfl) (by rfl) T.max_ (by decide +kernel) (pa_cons pe_int (pa_cons (pe_op op_sub (pe_ix ix_list (pv 0) pe_int (fun _ _ => rfl)) pe_int) pa_nil))) (pg_sub (pv 0) pe_int set_list))
      (pss_cons (ps_set (i := 2) sc__law_take.nd rfl (Or.inl rfl) (pcall d_law_mixed hr (pa_cons (pv 0) pa_nil)))
      (pss_cons (ps_if (pt_cmpR op_gt (pv 1) pe_int (nomark _))
        (pss_one (ps_set (i := 2) sc__law_take.nd rfl (Or.inl rfl) (pe_op op_add (pv 2) (pe_op op_mul (pcall d_law_mixed hr (pa_cons (pv 0) pa_nil)) pe_int))))
        pss_nil)
      (pss_one (ps_ret (pe_op op_mod (pe_callTy call_int1 (by rfl) T.int_ (by decide +kernel) (pa_cons (pv 2) pa_nil)) (pv 1)))))))))), ?_⟩
  refine ⟨_, rfl, _, _, rfl, ?_⟩
  obtain ⟨M, eM⟩ : ∃ M : Int, M = if many > 1 then many else 1 := ⟨_, rfl⟩
  have M1 : 1 ≤ M := by rw [eM]; split <;> omega
  have M2 : M.natAbs < 2 ^ 64 := by
    have : (2 : Nat) ^ 64 = 18446744073709551616 := by decide
    have : (2 : Int) ^ 64 = 18446744073709551616 := by decide
    rw [eM]; split <;> omega
  have hz : ∀ (r : Int) H', 0 ≤ r → r < M → Sto l s H' → Fr s H H' → Q (.int r) H' := fun r H' a b => z r H' a (by rw [eM] at b; split at b <;> omega)
  rw [← eM]
  dsimp only [gName]
  refine cut (fun σ' H' => σ' = [some (.ref s), some (.int M), none] ∧ Sto l s H' ∧ Fr s H H') ?_ ?_
  · rintro σ H1 ⟨rfl, hS1, e1⟩
    obtain ⟨ns, pos, num, seed, hold, cnt, h1, h2, h3, h4, h5, h6, h7, h8⟩ := id hS1
    refine ⟨_, rfl, s, _, _, _, rfl, rfl, SqL.of h1, at2 rfl, _, _, rfl, rfl, _, rfl, ifD (fun c => ?_) (fun c => ?_)⟩
    · refine ⟨_, rfl, s, _, _, _, rfl, rfl, SqL.of h1, at2 rfl, ?_⟩
      refine ⟨_, rfl, _, rfl, _, _, rfl, rfl, wide_div (by omega) M2 (by decide) (by decide), _, rfl, s, _, _, _, rfl, rfl, h1, rfl, ?_⟩
      refine ⟨_, rfl, .inl ⟨_, rfl, _, rfl, _, _, rfl, rfl, (by show 0 < M; omega), ?_⟩⟩
      have e2 : ∀ o, Fr s H1 (upd H1 s o) := fun _ => Fr.upd _
      exact hz _ _ (Int.emod_nonneg _ (by omega)) (Int.emod_lt_of_pos _ (by omega)) ⟨ns, pos, num / M, seed, hold, cnt, upd_same, h2, (e2 _) _ _ h3 h2, h4, h5, Int.ediv_nonneg (by omega) (by omega), h7, h8⟩ (e1.trans (e2 _))
    refine ⟨_, rfl, s, _, _, _, rfl, rfl, SqL.of h1, atI_nat (j := 4) rfl, _, _, rfl, rfl, _, _, rfl, _, rfl, s, _, _, _, rfl, rfl, h1, rfl, ?_⟩
    have e2 : ∀ o, Fr s H1 (upd H1 s o) := fun _ => Fr.upd _
    refine ⟨_, rfl, s, rfl, ⟨ns, pos, num, seed, _, cnt, upd_same, h2, (e2 _) _ _ h3 h2, h4, h5, h6, h7, h8⟩, fun r H2 r0 r1 S2 e3 => ?_⟩
    refine ⟨_, rfl, _, _, rfl, rfl, _, rfl, ifD (fun c => ?_) (fun c => ?_)⟩
    · refine ⟨_, rfl, _, rfl, s, rfl, S2, fun r' H3 _ _ S3 e4 => ⟨_, _, rfl, rfl, .inr ⟨by decide, by decide⟩, _, _, rfl, rfl, ?_⟩⟩
      refine ⟨_, rfl, .inl ⟨_, rfl, _, rfl, _, _, rfl, rfl, (by show 0 < M; omega), ?_⟩⟩
      exact hz _ _ (Int.emod_nonneg _ (by omega)) (Int.emod_lt_of_pos _ (by omega)) S3 (e1.trans ((e2 _).trans (e3.trans e4)))
    · refine ⟨_, rfl, .inl ⟨_, rfl, _, rfl, _, _, rfl, rfl, (by show 0 < M; omega), ?_⟩⟩
      exact hz _ _ (Int.emod_nonneg _ (by omega)) (Int.emod_lt_of_pos _ (by omega)) S2 (e1.trans ((e2 _).trans e3))
  · intro key
    obtain ⟨ns, pos, num, seed, hold, cnt, h1, h2, h3, h4, h5, h6, h7, h8⟩ := id hS
    refine ⟨_, rfl, s, _, _, _, rfl, rfl, SqL.of h1, at2 rfl, rfl, _, rfl, ifD (fun _ => ?_) (fun _ => ifF rfl (key _ _ ⟨rfl, hS, Fr.refl _ _⟩))⟩
    refine ⟨_, rfl, s, _, _, _, rfl, rfl, SqL.of h1, atI_nat (j := 4) rfl, rfl, _, rfl, ifD (fun _ => ?_) (fun _ => ifF rfl (key _ _ ⟨rfl, hS, Fr.refl _ _⟩))⟩
    refine ⟨_, rfl, s, _, _, _, rfl, rfl, SqL.of h1, at1 rfl, _, rfl, s, _, _, _, rfl, rfl, SqL.of h1, at0 rfl, l, _, rfl, .inl (SqL.of h3), _, _, rfl, rfl, _, rfl, ifD (fun c => ?_) (fun _ => key _ _ ⟨rfl, hS, Fr.refl _ _⟩)⟩
    rw [List.length_map] at c
    exact ⟨_, rfl, s, ns, pos, num, seed, hold, cnt, rfl, h1, h2, h3, h4, h5, h6, h7, h8, c, fun H' S' e' => key _ _ ⟨rfl, S', e'⟩⟩
abbrev s__law_pick : Stmt := top 52
abbrev N__law_pick : List Str := ["_law_store_here", "_law_things"]
theorem sc__law_pick : FnScope N__law_pick ["_law_store_here", "_law_things"] (defScope s__law_pick) := ⟨rfl, rfl, rfl, by decide +kernel, rfl, by decide +kernel, by decide +kernel⟩
abbrev ps__law_pick : List Str := ["_law_store_here", "_law_things"]
/-- a list that is not the store; one of its things is handed back -/
def spPick (K : PySem.W.Frag) (l : Addr) : Sp := fun vs H Q _ => ∃ (s a : Addr) (xs : List V), vs = [.ref s, .ref a] ∧ Sto l s H ∧ a ≠ s ∧ SqL K H a xs ∧ 0 < xs.length ∧ xs.length < 2 ^ 32 ∧ ∀ (v : V) H', v ∈ xs → Sto l s H' → Fr s H H' → Q v H'
theorem ok_pick (T : Bn mg) (F : Fn K mg "_law_pick" s__law_pick ps__law_pick f fd) (d_law_take : Def P w K mg base k "_law_take" ["_law_store_here", "_law_many"] (spTake K l) f1 fd1) : Def P w K mg base (k + 1) "_law_pick" ps__law_pick (spPick K l) f fd := by
  refine ⟨F.F.ok sc__law_pick (fun vs H Q E h => ?_) (fun cdv A outer s H vs Q E hr h => ?_), F.m, F.F.kp, F.b⟩
  · obtain ⟨_, _, _, rfl, _⟩ := h
    rfl
  obtain ⟨s, a, xs, rfl, hS, n, ha, h0, hl, z⟩ := h
  refine ⟨_, (pss_one (ps_ret (pe_ix ix_list (pv 1) (pcall d_law_take hr (pa_cons (pv 0) (pa_cons (pe_callB call_len_seq (by rfl) T.len_ PySem.boot_len (pa_cons (pv 1) pa_nil)) pa_nil))) (fun _ _ => rfl)))), ?_⟩
  have p32 : (2 : Nat) ^ 32 = 4294967296 := by decide
  have p64 : (2 : Int) ^ 64 = 18446744073709551616 := by decide
  refine ⟨_, rfl, _, rfl, _, rfl, a, _, rfl, .inl ha, s, _, rfl, hS, by omega, fun r H' r0 r1 S' e => ?_⟩
  have hr : r.toNat < xs.length := by omega
  refine ⟨a, _, _, xs[r.toNat], rfl, rfl, seq_fr e n ha, at_of (j := r.toNat) (by omega) (List.getElem?_eq_getElem hr), z _ _ (List.getElem_mem hr) S' e⟩
end Vk
namespace Vk
open PySem L2 Vm
variable {l : Addr} {P : Program} {w : World} {K : PySem.W.Frag} {mg : Str → Option Value} {base : Heap} {k : Nat} {f f1 f2 f3 f4 f5 f6 f7 f8 f9 : Addr} {fd fd1 fd2 fd3 fd4 fd5 fd6 fd7 fd8 fd9 : FuncData}
/-! ### data -/
def dq (q : Rat) : PyData := .tuple [.int q.num, .int (q.den : Int)]
theorem Rq.dp {H : Hp} {v : V} {q : Rat} (h : Rq K H v q) : Dp K H v (dq q) := by
  obtain ⟨a, rfl, h⟩ := h
  exact .tup h (.cons (.int _) (.cons (.int _) .nil))
theorem sh_dq (q : Rat) : SeqAt.shaped (dq q) = true := rfl
theorem eqv_dq (p q : Rat) : PyData.eqv (dq p) (dq q) = decide (p = q) := by
  show ((p.num == q.num) && (((p.den : Int) == (q.den : Int)) && true)) = decide (p = q)
  by_cases h : p = q
  · subst h
    simp
  · rw [decide_eq_false h]
    by_cases h1 : p.num = q.num
    · by_cases h2 : p.den = q.den
      · exact absurd (Rat.ext h1 h2) h
      · have : ((p.den : Int) == (q.den : Int)) = false := beq_false_of_ne (by omega)
        rw [this]
        simp
    · have : (p.num == q.num) = false := by simpa using h1
      rw [this]
      simp
inductive Tree : Nat → PyData → Prop
  | int {n} (i : Int) : Tree n (.int i)
  | non {n} : Tree n .none
  | bl {n} (b : Bool) : Tree n (.bool b)
  | str {n} {s : Str} (h : SeqAt.shaped (.str s) = true) : Tree n (.str s)
  | tup {n} {ds : List PyData} : ds.length ≤ 1000 → (∀ d ∈ ds, Tree n d) → Tree (n + 1) (.tuple ds)
  | lst {n} {ds : List PyData} : ds.length ≤ 1000 → (∀ d ∈ ds, Tree n d) → Tree (n + 1) (.list ds)
theorem tree_dq (n : Nat) (q : Rat) : Tree (n + 1) (dq q) := .tup (by show 2 ≤ 1000; decide) fun d h => by
  rcases List.mem_cons.mp h with rfl | h
  · exact .int _
  · rcases List.mem_cons.mp h with rfl | h
    · exact .int _
    · cases h
theorem sql_ty {H : Hp} {a : Addr} {xs : List V} (h : SqL K H a xs) : TyX K H (.ref a) (.type "list") := by
  rcases h with (h | ⟨o, h⟩) | ⟨o, its, n, h, c, _⟩
  · exact .base (.lst h)
  · exact .base (.frz h)
  · exact .kList h c
theorem sqt_ty {H : Hp} {a : Addr} {xs : List V} (h : SqT K H a xs) : TyX K H (.ref a) (.type "tuple") := by
  rcases h with (h | ⟨o, h⟩) | ⟨o, its, n, h, c, _⟩
  · exact .base (.tup h)
  · exact .fTuple h
  · exact .kTuple h c
theorem dpall_len {H : Hp} : ∀ {vs : List V} {ds : List PyData}, DpAll K H vs ds → vs.length = ds.length
  | _, _, .nil => rfl
  | _, _, .cons _ t => by simp [dpall_len t]
theorem dpall_at {H : Hp} : ∀ {vs : List V} {ds : List PyData}, DpAll K H vs ds → ∀ {i : Nat} {d : PyData}, ds[i]? = some d → ∃ v, vs[i]? = some v ∧ Dp K H v d
  | _, _, .nil, i, d, h => by simp at h
  | _, _, .cons r t, 0, d, h => ⟨_, rfl, by rw [← Option.some.inj h]; exact r⟩
  | _, _, .cons r t, i + 1, d, h => dpall_at t h
abbrev s__law_is_int : Stmt := top 53
abbrev N__law_is_int : List Str := ["_law_value"]
theorem sc__law_is_int : FnScope N__law_is_int ["_law_value"] (defScope s__law_is_int) := ⟨rfl, rfl, rfl, by decide +kernel, rfl, by decide +kernel, by decide +kernel⟩
abbrev ps__law_is_int : List Str := ["_law_value"]
def spIsInt (K : PySem.W.Frag) : Sp := fun vs H Q _ => ∃ i : Int, vs = [.int i] ∧ Q (.bl true) H
theorem ok_is_int (T : Bn mg) (F : Fn K mg "_law_is_int" s__law_is_int ps__law_is_int f fd) : Def P w K mg base (k + 1) "_law_is_int" ps__law_is_int (spIsInt K) f fd := by
  refine ⟨F.F.ok sc__law_is_int (fun vs H Q E h => ?_) (fun cdv A outer s H vs Q E hr h => ?_), F.m, F.F.kp, F.b⟩
  · obtain ⟨i, rfl, _⟩ := h
    rfl
  obtain ⟨i, rfl, z⟩ := h
  refine ⟨_, (pss_one (ps_ret (pe_and (pe_callB call_isi (by rfl) T.isinstance_ (by decide +kernel) (pa_cons (pv 0) (pa_cons (pe_bltn (v := .ty "int") (by rfl) T.int_ (by decide +kernel) rfl) pa_nil))) (pe_one (pe_not (pe_callB call_isi (by rfl) T.isinstance_ (by decide +kernel) (pa_cons (pv 0) (pa_cons (pe_bltn (v := .ty "bool") (by rfl) T.bool_ (by decide +kernel) rfl) pa_nil)))))))), ?_⟩
  exact ⟨_, rfl, _, _, _, _, true, rfl, .ty _, (.base (.int i)), kit_ty (by decide +kernel), _, rfl, ifT rfl ⟨_, rfl, _, _, _, _, false, rfl, .ty _, (.base (.int i)), kit_ty (by decide +kernel), _, rfl, z⟩⟩
abbrev s__law_same : Stmt := top 54
abbrev N__law_same : List Str := ["_law_value", "_law_due", "_law_keys", "_law_name", "_law_k"]
theorem sc__law_same : FnScope N__law_same ["_law_value", "_law_due"] (defScope s__law_same) := ⟨rfl, rfl, rfl, by decide +kernel, rfl, by decide +kernel, by decide +kernel⟩
abbrev ps__law_same : List Str := ["_law_value", "_law_due"]
def spSame (K : PySem.W.Frag) (n : Nat) : Sp := fun vs H Q _ => ∃ (v u : V) (d : PyData), vs = [v, u] ∧ Dp K H v d ∧ Dp K H u d ∧ Tree n d ∧ Q (.bl true) H
theorem ok_same1 (T : Bn mg) (n : Nat) (F : Fn K mg "_law_same" s__law_same ps__law_same f fd) (d_law_is_int : Def P w K mg base (k + n) "_law_is_int" ["_law_value"] (spIsInt K) f1 fd1)
    (d_law_same : Def P w K mg base (k + n) "_law_same" ["_law_value", "_law_due"] (fun vs H Q E => ∃ m, m + 1 = n ∧ spSame K m vs H Q E) f fd) : Def P w K mg base (k + n + 1) "_law_same" ps__law_same (spSame K n) f fd := by
  refine ⟨F.F.ok sc__law_same (fun vs H Q E h => ?_) (fun cdv A outer s H vs Q E hr h => ?_), F.m, F.F.kp, F.b⟩
  · obtain ⟨v, u, d, rfl, _⟩ := h
    rfl
  obtain ⟨v, u, d, rfl, hv, hu, ht, z⟩ := h
  refine ⟨_, (pss_cons (ps_if (pt_cmpR op_isN (pv 1) pe_non (nomark _))
        (pss_one (ps_ret (pe_cmpR op_isN (pv 0) pe_non (nomark _))))
        pss_nil)
      (pss_cons (ps_if (pt_val (pe_callB call_isi (by rfl) T.isinstance_ (by decide +kernel) (pa_cons (pv 1) (pa_cons (pe_bltn (v := .ty "bool") (by rfl) T.bool_ (by decide +kernel) rfl) pa_nil))))
        (pss_one (ps_ret (pe_and (pe_callB call_isi (by rfl) T.isinstance_ (by decide +kernel) (pa_cons (pv 0) (pa_cons (pe_bltn (v := .ty "bool") (by rfl) T.bool_ (by decide +kernel) rfl) pa_nil))) (pe_one (pe_cmpR (op_eqD hr.units) (pv 0) (pv 1) (nomark _))))))
        pss_nil)
      (pss_cons (ps_if (pt_val (pe_callB call_isi (by rfl) T.isinstance_ (by decide +kernel) (pa_cons (pv 1) (pa_cons (pe_bltn (v := .ty "int") (by rfl) T.int_ (by decide +kernel) rfl) pa_nil))))
        (pss_one (ps_ret (pe_and (pcall d_law_is_int hr (pa_cons (pv 0) pa_nil)) (pe_one (pe_cmpR (op_eqD hr.units) (pv 0) (pv 1) (nomark _))))))
        pss_nil)
      (pss_cons (ps_if (pt_val (pe_callB call_isi (by rfl) T.isinstance_ (by decide +kernel) (pa_cons (pv 1) (pa_cons (pe_bltn (v := .ty "str") (by rfl) T.str_ (by decide +kernel) rfl) pa_nil))))
        (pss_one (ps_ret (pe_and (pe_callB call_isi (by rfl) T.isinstance_ (by decide +kernel) (pa_cons (pv 0) (pa_cons (pe_bltn (v := .ty "str") (by rfl) T.str_ (by decide +kernel) rfl) pa_nil))) (pe_one (pe_cmpR (op_eqD hr.units) (pv 0) (pv 1) (nomark _))))))
        pss_nil)
      (pss_cons (ps_if (pt_val (pe_callB call_isi (by rfl) T.isinstance_ (by decide +kernel) (pa_cons (pv 1) (pa_cons (pe_bltn (v := .ty "dict") (by rfl) T.dict_ (by decide +kernel) rfl) pa_nil))))
        pss_never
        pss_nil)
      (pss_cons (ps_if (PW.pt (pw_and (pt_val (pe_callB call_isi (by rfl) T.isinstance_ (by decide +kernel) (pa_cons (pv 1) (pa_cons (pe_bltn (v := .ty "list") (by rfl) T.list_ (by decide +kernel) rfl) pa_nil)))) (pw_and1 (pt_not (pt_val (pe_callB call_isi (by rfl) T.isinstance_ (by decide +kernel) (pa_cons (pv 0) (pa_cons (pe_bltn (v := .ty "list") (by rfl) T.list_ (by decide +kernel) rfl) pa_nil))))))))
        (pss_one (ps_ret pe_bl))
        pss_nil)
      (pss_cons (ps_if (PW.pt (pw_and (pt_val (pe_callB call_isi (by rfl) T.isinstance_ (by decide +kernel) (pa_cons (pv 1) (pa_cons (pe_bltn (v := .ty "tuple") (by rfl) T.tuple_ (by decide +kernel) rfl) pa_nil)))) (pw_and1 (pt_not (pt_val (pe_callB call_isi (by rfl) T.isinstance_ (by decide +kernel) (pa_cons (pv 0) (pa_cons (pe_bltn (v := .ty "tuple") (by rfl) T.tuple_ (by decide +kernel) rfl) pa_nil))))))))
        (pss_one (ps_ret pe_bl))
        pss_nil)
      (pss_cons (ps_if (pt_cmpR op_ne (pe_callB call_len_seq (by rfl) T.len_ PySem.boot_len (pa_cons (pv 0) pa_nil)) (pe_callB call_len_seq (by rfl) T.len_ PySem.boot_len (pa_cons (pv 1) pa_nil)) (nomark _))
        (pss_one (ps_ret pe_bl))
        pss_nil)
      (pss_cons (ps_for PassesOwn.never rfl (pi_range1 (by rfl) T.range_ (pa_cons (pe_callB call_len_seq (by rfl) T.len_ PySem.boot_len (pa_cons (pv 1) pa_nil)) pa_nil)) (pg_name (i := 4) sc__law_same.nd rfl (Or.inl rfl))
        (pss_one (ps_if (pt_not (pt_val (pcall d_law_same hr (pa_cons (pe_ix ix_seq (pv 0) (pv 4) (fun _ _ => rfl)) (pa_cons (pe_ix ix_seq (pv 1) (pv 4) (fun _ _ => rfl)) pa_nil)))))
          (pss_one (ps_ret pe_bl))
          pss_nil)))
      (pss_one (ps_ret pe_bl))))))))))), ?_⟩
  cases ht with
  | int i =>
    cases hv
    cases hu
    refine ⟨_, rfl, rfl, _, rfl, ifF (dF nofun) ⟨_, rfl, _, _, _, _, false, rfl, .ty _, (.base (.int i)), kit_ty (by decide +kernel), _, rfl, ifF rfl ⟨_, rfl, _, _, _, _, true, rfl, .ty _, (.base (.int i)), kit_ty (by decide +kernel), _, rfl, ifT rfl ?_⟩⟩⟩
    refine ⟨_, rfl, i, rfl, _, rfl, ifT rfl ⟨_, rfl, _, rfl, _, _, .int i, .int i, rfl, rfl, ?_⟩⟩
    rw [show PyData.eqv (.int i) (.int i) = true from beq_self_eq_true i]
    exact z
  | non =>
    cases hv
    cases hu
    exact ⟨_, rfl, rfl, _, rfl, ifT (dT rfl) ⟨_, rfl, rfl, z⟩⟩
  | bl b =>
    cases hv
    cases hu
    refine ⟨_, rfl, rfl, _, rfl, ifF (dF nofun) ⟨_, rfl, _, _, _, _, true, rfl, .ty _, (.base (.bl b)), kit_ty (by decide +kernel), _, rfl, ifT rfl ?_⟩⟩
    refine ⟨_, rfl, _, _, _, _, true, rfl, .ty _, (.base (.bl b)), kit_ty (by decide +kernel), _, rfl, ifT rfl ⟨_, rfl, _, rfl, _, _, .bl b, .bl b, rfl, rfl, ?_⟩⟩
    rw [show PyData.eqv (.bool b) (.bool b) = true from beq_self_eq_true b]
    exact z
  | @str _ s hs =>
    cases hv
    cases hu
    refine ⟨_, rfl, rfl, _, rfl, ifF (dF nofun) ⟨_, rfl, _, _, _, _, false, rfl, .ty _, (.base (.str s)), kit_ty (by decide +kernel), _, rfl, ifF rfl ⟨_, rfl, _, _, _, _, false, rfl, .ty _, (.base (.str s)), kit_ty (by decide +kernel), _, rfl, ifF rfl ⟨_, rfl, _, _, _, _, true, rfl, .ty _, (.base (.str s)), kit_ty (by decide +kernel), _, rfl, ifT rfl ?_⟩⟩⟩⟩
    refine ⟨_, rfl, _, _, _, _, true, rfl, .ty _, (.base (.str s)), kit_ty (by decide +kernel), _, rfl, ifT rfl ⟨_, rfl, _, rfl, _, _, .str s, .str s, hs, hs, ?_⟩⟩
    rw [show PyData.eqv (.str s) (.str s) = true from beq_self_eq_true s]
    exact z
  | tup hl hall =>
    rename_i m ds
    cases hv with
    | tup ha da =>
    rename_i a xs
    cases hu with
    | tup hb db =>
    rename_i b ys
    have lx := dpall_len da
    have ly := dpall_len db
    have ta := sqt_ty ha
    have tb := sqt_ty hb
    refine ⟨_, rfl, rfl, _, rfl, ifF (dF nofun) ⟨_, rfl, _, _, _, _, false, rfl, .ty _, tb, kit_ty (by decide +kernel), _, rfl, ifF rfl ⟨_, rfl, _, _, _, _, false, rfl, .ty _, tb, kit_ty (by decide +kernel), _, rfl, ifF rfl ⟨_, rfl, _, _, _, _, false, rfl, .ty _, tb, kit_ty (by decide +kernel), _, rfl, ifF rfl ⟨_, rfl, _, _, _, _, false, rfl, .ty _, tb, kit_ty (by decide +kernel), _, rfl, ifF rfl ?_⟩⟩⟩⟩⟩
    refine ⟨_, rfl, _, _, _, _, false, rfl, .ty _, tb, kit_ty (by decide +kernel), _, rfl, ifF rfl (ifF rfl ⟨_, rfl, _, _, _, _, true, rfl, .ty _, tb, kit_ty (by decide +kernel), _, rfl, ifT rfl ⟨_, rfl, _, _, _, _, true, rfl, .ty _, ta, kit_ty (by decide +kernel), _, rfl, ifF rfl ?_⟩⟩)⟩
    refine ⟨_, rfl, a, _, rfl, .inr ha, _, rfl, b, _, rfl, .inr hb, rfl, _, rfl, ifF ?_ ?_⟩
    · rw [lx, ly]
      simp
    have p62 : (2 : Int) ^ 62 = 4611686018427387904 := by decide
    refine ⟨_, rfl, b, _, rfl, .inr hb, _, rfl, by omega, by omega, for_range (n := ((ys.length : Nat) : Int).toNat) (fun i σ H' => ∃ kk, σ = [some (.ref a), some (.ref b), none, none, kk] ∧ H' = H) ⟨none, rfl, rfl⟩ ?_ ?_⟩
    · rintro i σ H' hi ⟨kk, rfl, rfl⟩
      have hi' : i < ds.length := by omega
      obtain ⟨v, hv, dv⟩ := dpall_at da (List.getElem?_eq_getElem hi')
      obtain ⟨u, hu, du⟩ := dpall_at db (List.getElem?_eq_getElem hi')
      refine ⟨_, rfl, _, rfl, .inr (.inl ⟨a, _, _, v, rfl, rfl, ha, at_of (j := i) (by omega) hv, _, rfl, _, rfl, .inr (.inl ⟨b, _, _, u, rfl, rfl, hb, at_of (j := i) (by omega) hu, m, rfl, v, u, _, rfl, dv, du, hall _ (List.getElem_mem hi'), ?_⟩)⟩)⟩
      exact ⟨_, rfl, ifF rfl ⟨_, rfl, rfl⟩⟩
    · rintro σ H' ⟨kk, rfl, rfl⟩
      exact z
  | lst hl hall =>
    rename_i m ds
    cases hv with
    | lst ha da =>
    rename_i a xs
    cases hu with
    | lst hb db =>
    rename_i b ys
    have lx := dpall_len da
    have ly := dpall_len db
    have ta := sql_ty ha
    have tb := sql_ty hb
    refine ⟨_, rfl, rfl, _, rfl, ifF (dF nofun) ⟨_, rfl, _, _, _, _, false, rfl, .ty _, tb, kit_ty (by decide +kernel), _, rfl, ifF rfl ⟨_, rfl, _, _, _, _, false, rfl, .ty _, tb, kit_ty (by decide +kernel), _, rfl, ifF rfl ⟨_, rfl, _, _, _, _, false, rfl, .ty _, tb, kit_ty (by decide +kernel), _, rfl, ifF rfl ⟨_, rfl, _, _, _, _, false, rfl, .ty _, tb, kit_ty (by decide +kernel), _, rfl, ifF rfl ?_⟩⟩⟩⟩⟩
    refine ⟨_, rfl, _, _, _, _, true, rfl, .ty _, tb, kit_ty (by decide +kernel), _, rfl, ifT rfl ⟨_, rfl, _, _, _, _, true, rfl, .ty _, ta, kit_ty (by decide +kernel), _, rfl, ifF rfl ⟨_, rfl, _, _, _, _, false, rfl, .ty _, tb, kit_ty (by decide +kernel), _, rfl, ifF rfl (ifF rfl ?_)⟩⟩⟩
    refine ⟨_, rfl, a, _, rfl, .inl ha, _, rfl, b, _, rfl, .inl hb, rfl, _, rfl, ifF ?_ ?_⟩
    · rw [lx, ly]
      simp
    have p62 : (2 : Int) ^ 62 = 4611686018427387904 := by decide
    refine ⟨_, rfl, b, _, rfl, .inl hb, _, rfl, by omega, by omega, for_range (n := ((ys.length : Nat) : Int).toNat) (fun i σ H' => ∃ kk, σ = [some (.ref a), some (.ref b), none, none, kk] ∧ H' = H) ⟨none, rfl, rfl⟩ ?_ ?_⟩
    · rintro i σ H' hi ⟨kk, rfl, rfl⟩
      have hi' : i < ds.length := by omega
      obtain ⟨v, hv, dv⟩ := dpall_at da (List.getElem?_eq_getElem hi')
      obtain ⟨u, hu, du⟩ := dpall_at db (List.getElem?_eq_getElem hi')
      refine ⟨_, rfl, _, rfl, .inl ⟨a, _, _, v, rfl, rfl, ha, at_of (j := i) (by omega) hv, _, rfl, _, rfl, .inl ⟨b, _, _, u, rfl, rfl, hb, at_of (j := i) (by omega) hu, m, rfl, v, u, _, rfl, dv, du, hall _ (List.getElem_mem hi'), ?_⟩⟩⟩
      exact ⟨_, rfl, ifF rfl ⟨_, rfl, rfl⟩⟩
    · rintro σ H' ⟨kk, rfl, rfl⟩
      exact z
def spSize (K : PySem.W.Frag) (l : Addr) : Sp := fun vs H Q _ => ∃ (s : Addr) (lo hi : Int), vs = [.ref s, .int lo, .int hi] ∧ Sto l s H ∧ lo ≤ hi ∧ hi - lo < 2 ^ 32 ∧ ∀ (r : Int) H', lo ≤ r → r ≤ hi → Sto l s H' → Fr s H H' → Q (.int r) H'
theorem ok_same (T : Bn mg) (F : Fn K mg "_law_same" s__law_same ps__law_same f fd) (d_law_is_int : Def P w K mg base k "_law_is_int" ["_law_value"] (spIsInt K) f1 fd1) : ∀ n, Def P w K mg base (k + n + 1) "_law_same" ps__law_same (spSame K n) f fd
  | 0 => ok_same1 T 0 F (d_law_is_int.up (Nat.le_refl _)) ⟨⟨fun vs H Q E h => by obtain ⟨m, h, _⟩ := h; omega, fun A outer s H args us vs Q E _ _ _ _ h => by obtain ⟨m, h, _⟩ := h; omega⟩, F.m, F.F.kp, F.b⟩
  | n + 1 => by
    have ih := ok_same T F d_law_is_int n
    exact ok_same1 T (n + 1) F (d_law_is_int.up (by omega)) ⟨ih.ok.imp fun vs H Q E h => by
      obtain ⟨m, h, q⟩ := h
      have e : m = n := by omega
      subst e
      exact q, F.m, F.F.kp, F.b⟩
end Vk
namespace Vk
open PySem L2 Vm
variable {l : Addr} {P : Program} {w : World} {K : PySem.W.Frag} {mg : Str → Option Value} {base : Heap} {k : Nat} {f f1 f2 f3 f4 f5 f6 f7 f8 f9 : Addr} {fd fd1 fd2 fd3 fd4 fd5 fd6 fd7 fd8 fd9 : FuncData}
/-! ### drawn rationals -/
def Qd (K : PySem.W.Frag) (m : Nat) (ok : Rat → Prop) (H : Hp) (v : V) : Prop := ∃ q, Rq K H v q ∧ Sz m q ∧ ok q
theorem Qd.same {m : Nat} {ok : Rat → Prop} {H H' : Hp} {v : V} (e : Same H H') (h : Qd K m ok H v) : Qd K m ok H' v := by
  obtain ⟨q, h, r⟩ := h
  exact ⟨q, h.same e, r⟩
theorem Qd.fr {m : Nat} {ok : Rat → Prop} {s : Addr} {H H' : Hp} {v : V} (e : Fr s H H') (hs : Sto l s H) (h : Qd K m ok H v) : Qd K m ok H' v := by
  obtain ⟨q, h, r⟩ := h
  exact ⟨q, h.fr e hs.some, r⟩
theorem Qd.new {m : Nat} {ok : Rat → Prop} {H : Hp} {t : Addr} (n d : Int) (q : Rat) (en : q.num = n) (ed : (q.den : Int) = d) (z : Sz m q) (o : ok q) : Qd K m ok (upd H t (.tup [.int n, .int d])) (.ref t) :=
  ⟨q, ⟨t, rfl, SqT.of (by rw [upd_same, en, ed])⟩, z, o⟩
theorem rq_new {H : Hp} {t : Addr} (n d : Int) (q : Rat) (en : q.num = n) (ed : (q.den : Int) = d) : Rq K (upd H t (.tup [.int n, .int d])) (.ref t) q := ⟨t, rfl, SqT.of (by rw [upd_same, en, ed])⟩
instance (k : Nat) (q : Rat) : Decidable (Sz k q) := inferInstanceAs (Decidable (_ ∧ _))
/-- a written pair: from then on a drawn rational -/
theorem newq {m : Nat} {ok : Rat → Prop} {H : Hp} {Q : V → Hp → Prop} (n d : Int) (q : Rat) (en : q.num = n) (ed : (q.den : Int) = d) (z : Sz m q) (o : ok q) (h : ∀ v H', Same H H' → Qd K m ok H' v → Q v H') : ∀ t, H t = none → Q (.ref t) (upd H t (.tup [.int n, .int d])) :=
  fun t ht => h _ _ (same_new ht _) (Qd.new n d q en ed z o)
def anyQ : Rat → Prop := fun _ => True
def posQ : Rat → Prop := fun q => 0 < q
instance (q : Rat) : Decidable (posQ q) := inferInstanceAs (Decidable (0 < q))
/-- a rational is drawn -/
def spDraw (K : PySem.W.Frag) (l : Addr) (m : Nat) (ok : Rat → Prop) : Sp := fun vs H Q _ => ∃ (s : Addr), vs = [.ref s] ∧ Sto l s H ∧ ∀ (v : V) H', Qd K m ok H' v → Sto l s H' → Fr s H H' → Q v H'
theorem mk_pos {n d : Int} (hn : 0 < n) (hd : 0 < d) : 0 < mkRat n d.toNat := by
  refine pos_of_num ?_
  have dn : d.toNat ≠ 0 := by omega
  rw [mk_num n dn]
  have g := Nat.gcd_le_left d.toNat (show 0 < n.natAbs by omega)
  have gp : 0 < Nat.gcd n.natAbs d.toNat := Nat.gcd_pos_of_pos_left _ (by omega)
  exact Int.ediv_pos_of_pos_of_dvd hn (by omega) (by
    have := Nat.gcd_dvd_left n.natAbs d.toNat
    have e : n = (n.natAbs : Int) := by omega
    rw [e]
    exact Int.natCast_dvd_natCast.mpr (by rw [Int.natAbs_natCast]; exact this))
theorem lt2 {i : Int} {b : Nat} (c : Nat) (h : i.natAbs < c) (e : c ≤ 2 ^ b) : i.natAbs < 2 ^ b := Nat.lt_of_lt_of_le h e
abbrev s__law_part : Stmt := top 62
abbrev N__law_part : List Str := ["_law_store_here", "_law_sort"]
theorem sc__law_part : FnScope N__law_part ["_law_store_here"] (defScope s__law_part) := ⟨rfl, rfl, rfl, by decide +kernel, rfl, by decide +kernel, by decide +kernel⟩
abbrev ps__law_part : List Str := ["_law_store_here"]
theorem ok_part (F : Fn K mg "_law_part" s__law_part ps__law_part f fd) (d_law_take : Def P w K mg base k "_law_take" ["_law_store_here", "_law_many"] (spTake K l) f1 fd1) (d_law_pick : Def P w K mg base k "_law_pick" ["_law_store_here", "_law_things"] (spPick K l) f2 fd2)
    (d_law_frac : Def P w K mg base k "_law_frac" ["_law_n", "_law_d"] (spFrac K) f3 fd3) : Def P w K mg base (k + 1) "_law_part" ps__law_part (spDraw K l 5 anyQ) f fd := by
  refine ⟨F.F.ok sc__law_part (fun vs H Q E h => ?_) (fun cdv A outer s H vs Q E hr h => ?_), F.m, F.F.kp, F.b⟩
  · obtain ⟨_, rfl, _⟩ := h
    rfl
  obtain ⟨s, rfl, hS, z⟩ := h
  refine ⟨_, (pss_cons (ps_set (i := 1) sc__law_part.nd rfl (Or.inl rfl) (pcall d_law_take hr (pa_cons (pv 0) (pa_cons pe_int pa_nil))))
      (pss_cons (ps_if (pt_cmpR op_lt (pv 1) pe_int (nomark _))
        (pss_one (ps_ret (pcall d_law_pick hr (pa_cons (pv 0) (pa_cons (pe_lst (pa_cons (pe_tup (pa_cons pe_int (pa_cons pe_int pa_nil))) (pa_cons (pe_tup (pa_cons pe_int (pa_cons pe_int pa_nil))) (pa_cons (pe_tup (pa_cons pe_int (pa_cons pe_int pa_nil))) (pa_cons (pe_tup (pa_cons (pe_un un_neg pe_int) (pa_cons pe_int pa_nil))) (pa_cons (pe_tup (pa_cons pe_int (pa_cons pe_int pa_nil))) (pa_cons (pe_tup (pa_cons (pe_un un_neg pe_int) (pa_cons pe_int pa_nil))) pa_nil))))))) pa_nil)))))
        pss_nil)
      (pss_one (ps_ret (pcall d_law_frac hr (pa_cons (pe_op op_sub (pcall d_law_take hr (pa_cons (pv 0) (pa_cons pe_int pa_nil))) pe_int) (pa_cons (pe_op op_add pe_int (pcall d_law_take hr (pa_cons (pv 0) (pa_cons pe_int pa_nil)))) pa_nil))))))), ?_⟩
  refine ⟨_, rfl, s, 6, rfl, hS, by decide, fun r H1 r0 r1 S1 e1 => ?_⟩
  refine ⟨_, rfl, _, _, rfl, rfl, _, rfl, ifD (fun _ => ?_) (fun _ => ?_)⟩
  · refine ⟨_, rfl, sz2, fun t1 h1 => ?_⟩
    have c1 := same_new h1 (.tup [.int 0, .int 1]); have q1 := Qd.new (K := K) (m := 5) (ok := anyQ) (H := H1) (t := t1) 0 1 (0) (by decide) (by decide) (by decide) trivial; generalize upd H1 t1 (.tup [.int 0, .int 1]) = G1 at c1 q1 ⊢
    refine ⟨sz2, fun t2 h2 => ?_⟩
    have c2 := same_new h2 (.tup [.int 0, .int 1]); have q2 := Qd.new (K := K) (m := 5) (ok := anyQ) (H := G1) (t := t2) 0 1 (0) (by decide) (by decide) (by decide) trivial; generalize upd G1 t2 (.tup [.int 0, .int 1]) = G2 at c2 q2 ⊢
    refine ⟨sz2, fun t3 h3 => ?_⟩
    have c3 := same_new h3 (.tup [.int 1, .int 1]); have q3 := Qd.new (K := K) (m := 5) (ok := anyQ) (H := G2) (t := t3) 1 1 (1) (by decide) (by decide) (by decide) trivial; generalize upd G2 t3 (.tup [.int 1, .int 1]) = G3 at c3 q3 ⊢
    refine ⟨_, rfl, sz2, fun t4 h4 => ?_⟩
    have c4 := same_new h4 (.tup [.int (-1), .int 1]); have q4 := Qd.new (K := K) (m := 5) (ok := anyQ) (H := G3) (t := t4) (-1) 1 (-1) (by decide) (by decide) (by decide) trivial; generalize upd G3 t4 (.tup [.int (-1), .int 1]) = G4 at c4 q4 ⊢
    refine ⟨sz2, fun t5 h5 => ?_⟩
    have c5 := same_new h5 (.tup [.int 1, .int 2]); have q5 := Qd.new (K := K) (m := 5) (ok := anyQ) (H := G4) (t := t5) 1 2 (mkRat 1 2) (by decide) (by decide) (by decide) trivial; generalize upd G4 t5 (.tup [.int 1, .int 2]) = G5 at c5 q5 ⊢
    refine ⟨_, rfl, sz2, fun t6 h6 => ?_⟩
    have c6 := same_new h6 (.tup [.int (-1), .int 2]); have q6 := Qd.new (K := K) (m := 5) (ok := anyQ) (H := G5) (t := t6) (-1) 2 (mkRat (-1) 2) (by decide) (by decide) (by decide) trivial; generalize upd G5 t6 (.tup [.int (-1), .int 2]) = G6 at c6 q6 ⊢
    refine ⟨sm6, fun p h7 => ?_⟩
    have c7 := same_new h7 (.lst [.ref t1, .ref t2, .ref t3, .ref t4, .ref t5, .ref t6])
    have d6 := c6.trans c7; have d5 := c5.trans d6; have d4 := c4.trans d5; have d3 := c3.trans d4; have d2 := c2.trans d3; have d1 := c1.trans d2
    have S7 := S1.same d1
    have q1 := q1.same d2; have q2 := q2.same d3; have q3 := q3.same d4; have q4 := q4.same d5; have q5 := q5.same d6; have q6 := q6.same c7
    refine ⟨s, p, _, rfl, S7, (S1.same (c1.trans (c2.trans (c3.trans (c4.trans (c5.trans c6)))))).ne h7, SqL.of upd_same, (by show 0 < 6; decide), (by show 6 < 2 ^ 32; decide), fun v H' hv S' e' => z _ _ ?_ S' (e1.trans ((Fr.of d1).trans e'))⟩
    refine Qd.fr e' S7 ?_
    simp only [List.mem_cons, List.mem_nil_iff, or_false] at hv
    rcases hv with rfl | rfl | rfl | rfl | rfl | rfl <;> assumption
  · refine ⟨_, rfl, s, 49, rfl, S1, by decide, fun r2 H2 r3 r4 S2 e2 => ⟨_, _, rfl, rfl, ?_⟩⟩
    refine ⟨_, rfl, s, 6, rfl, S2, by decide, fun r5 H3 r6 r7 S3 e3 => ⟨_, _, rfl, rfl, ?_⟩⟩
    refine ⟨_, _, 5, rfl, by omega, lt2 25 (by omega) (by decide), lt2 7 (by omega) (by decide), by decide, fun v H' e hv => z _ _ ⟨_, hv, sz_mk (by omega) ?_ ?_, trivial⟩ (S3.same e) (e1.trans (e2.trans (e3.trans (Fr.of e))))⟩
    · exact lt2 25 (by omega) (by decide)
    · have : (2 : Nat) ^ 5 = 32 := by decide
      omega
abbrev s__law_above : Stmt := top 64
abbrev N__law_above : List Str := ["_law_store_here"]
theorem sc__law_above : FnScope N__law_above ["_law_store_here"] (defScope s__law_above) := ⟨rfl, rfl, rfl, by decide +kernel, rfl, by decide +kernel, by decide +kernel⟩
abbrev ps__law_above : List Str := ["_law_store_here"]
theorem ok_above (F : Fn K mg "_law_above" s__law_above ps__law_above f fd) (d_law_take : Def P w K mg base k "_law_take" ["_law_store_here", "_law_many"] (spTake K l) f1 fd1) (d_law_frac : Def P w K mg base k "_law_frac" ["_law_n", "_law_d"] (spFrac K) f3 fd3) : Def P w K mg base (k + 1) "_law_above" ps__law_above (spDraw K l 5 posQ) f fd := by
  refine ⟨F.F.ok sc__law_above (fun vs H Q E h => ?_) (fun cdv A outer s H vs Q E hr h => ?_), F.m, F.F.kp, F.b⟩
  · obtain ⟨_, rfl, _⟩ := h
    rfl
  obtain ⟨s, rfl, hS, z⟩ := h
  refine ⟨_, (pss_cons (ps_if (pt_cmpR op_eq (pcall d_law_take hr (pa_cons (pv 0) (pa_cons pe_int pa_nil))) pe_int (nomark _))
        (pss_one (ps_ret (pe_tup (pa_cons pe_int (pa_cons pe_int pa_nil)))))
        pss_nil)
      (pss_one (ps_ret (pcall d_law_frac hr (pa_cons (pe_op op_add pe_int (pcall d_law_take hr (pa_cons (pv 0) (pa_cons pe_int pa_nil)))) (pa_cons (pe_op op_add pe_int (pcall d_law_take hr (pa_cons (pv 0) (pa_cons pe_int pa_nil)))) pa_nil)))))), ?_⟩
  refine ⟨_, rfl, s, 4, rfl, hS, by decide, fun r H1 r0 r1 S1 e1 => ?_⟩
  refine ⟨rfl, _, rfl, ifD (fun _ => ?_) (fun _ => ?_)⟩
  · exact ⟨sz2, fun t ht => z _ _ (Qd.new 1 1 1 rfl rfl (by decide) (by decide)) (S1.same (same_new ht _)) (e1.trans (Fr.of (same_new ht _)))⟩
  refine ⟨_, rfl, s, 24, rfl, S1, by decide, fun r2 H2 r3 r4 S2 e2 => ⟨_, _, rfl, rfl, ?_⟩⟩
  refine ⟨_, rfl, s, 6, rfl, S2, by decide, fun r5 H3 r6 r7 S3 e3 => ⟨_, _, rfl, rfl, ?_⟩⟩
  refine ⟨_, _, 5, rfl, by omega, lt2 25 (by omega) (by decide), lt2 7 (by omega) (by decide), by decide, fun v H' e hv => z _ _ ⟨_, hv, sz_mk (by omega) ?_ ?_, mk_pos (by omega) (by omega)⟩ (S3.same e) (e1.trans (e2.trans (e3.trans (Fr.of e))))⟩
  · exact lt2 25 (by omega) (by decide)
  · have : (2 : Nat) ^ 5 = 32 := by decide
    omega
/-- one rational in, one near it out -/
def spNear (K : PySem.W.Frag) (l : Addr) : Sp := fun vs H Q _ => ∃ (s : Addr) (x : V) (m : Nat), vs = [.ref s, x] ∧ Sto l s H ∧ m + 11 ≤ 9000 ∧ Qd K m anyQ H x ∧ ∀ (v : V) H', Qd K (m + 11) anyQ H' v → Sto l s H' → Fr s H H' → Q v H'
end Vk
namespace Vk
open PySem L2 Vm
variable {P : Program} {w : World} {K : PySem.W.Frag} {mg : Str → Option Value} {base : Heap} {k : Nat} {f f1 f2 f3 f4 f5 f6 f7 f8 f9 : Addr} {fd fd1 fd2 fd3 fd4 fd5 fd6 fd7 fd8 fd9 : FuncData}
/-! ### courses -/
structure Pc where
  s : Rat
  v : Rat
  r : Rat
def Pq (K : PySem.W.Frag) (H : Hp) (x : V) (p : Pc) : Prop := ∃ a xs xv xr, x = .ref a ∧ SqT K H a [xs, xv, xr] ∧ Rq K H xs p.s ∧ Rq K H xv p.v ∧ Rq K H xr p.r
theorem Pq.same {H H' : Hp} {x : V} {p : Pc} (e : Same H H') (h : Pq K H x p) : Pq K H' x p := by
  obtain ⟨a, xs, xv, xr, rfl, h, h1, h2, h3⟩ := h
  exact ⟨a, xs, xv, xr, rfl, e.sqt h, h1.same e, h2.same e, h3.same e⟩
theorem Pq.fr {s : Addr} {H H' : Hp} {x : V} {p : Pc} (e : Fr s H H') (hs : ∃ ys, H s = some (.lst ys)) (h : Pq K H x p) : Pq K H' x p := by
  obtain ⟨a, xs, xv, xr, rfl, h, h1, h2, h3⟩ := h
  exact ⟨a, xs, xv, xr, rfl, sqt_fr e hs h, h1.fr e hs, h2.fr e hs, h3.fr e hs⟩
def All2 {α : Type} (R : V → α → Prop) (xs : List V) (c : List α) : Prop := xs.length = c.length ∧ ∀ (i : Nat) x p, xs[i]? = some x → c[i]? = some p → R x p
theorem All2.nil {α : Type} {R : V → α → Prop} : All2 R [] [] := ⟨rfl, fun i x p h => by simp at h⟩
theorem All2.imp {α : Type} {R R' : V → α → Prop} {xs : List V} {c : List α} (h : All2 R xs c) (g : ∀ x p, R x p → R' x p) : All2 R' xs c := ⟨h.1, fun i x p a b => g _ _ (h.2 i x p a b)⟩
theorem All2.snoc {α : Type} {R : V → α → Prop} {xs : List V} {c : List α} {x : V} {p : α} (h : All2 R xs c) (r : R x p) : All2 R (xs ++ [x]) (c ++ [p]) := by
  refine ⟨by simp [h.1], fun i y q a b => ?_⟩
  by_cases hi : i < xs.length
  · rw [List.getElem?_append_left hi] at a
    rw [List.getElem?_append_left (by rw [← h.1]; exact hi)] at b
    exact h.2 i y q a b
  · rw [List.getElem?_append_right (by omega)] at a
    rw [List.getElem?_append_right (by rw [← h.1]; omega)] at b
    have e : i - xs.length = 0 := by
      have := (List.getElem?_eq_some_iff.mp a).1
      simp at this
      omega
    rw [e] at a
    rw [← h.1, e] at b
    cases a
    cases b
    exact r
theorem All2.at {α : Type} {R : V → α → Prop} {xs : List V} {c : List α} (h : All2 R xs c) {i : Nat} {p : α} (e : c[i]? = some p) : ∃ x, xs[i]? = some x ∧ R x p := by
  have hi := (List.getElem?_eq_some_iff.mp e).1
  rw [← h.1] at hi
  exact ⟨xs[i], List.getElem?_eq_getElem hi, h.2 i _ _ (List.getElem?_eq_getElem hi) e⟩
/-- a list at a holds the course c -/
def Cq (K : PySem.W.Frag) (H : Hp) (a : Addr) (c : List Pc) : Prop := ∃ xs, SqL K H a xs ∧ All2 (Pq K H) xs c
theorem Cq.same {H H' : Hp} {a : Addr} {c : List Pc} (e : Same H H') (h : Cq K H a c) : Cq K H' a c := by
  obtain ⟨xs, h, g⟩ := h
  exact ⟨xs, e.seq h, g.imp fun _ _ h => h.same e⟩
theorem Cq.fr {s : Addr} {H H' : Hp} {a : Addr} {c : List Pc} (e : Fr s H H') (hs : ∃ ys, H s = some (.lst ys)) (n : a ≠ s) (h : Cq K H a c) : Cq K H' a c := by
  obtain ⟨xs, h, g⟩ := h
  exact ⟨xs, seq_fr e n h, g.imp fun _ _ h => h.fr e hs⟩
/-- sizes: starts, values, rates -/
def Cz (i j l : Nat) (c : List Pc) : Prop := ∀ p ∈ c, Sz i p.s ∧ Sz j p.v ∧ Sz l p.r
/-- a course's form -/
def Cok (c : List Pc) : Prop := (∀ p ∈ c, 0 < p.r) ∧ ∀ (i : Nat) p q, c[i]? = some p → c[i + 1]? = some q → p.s < q.s
def tm (p : Pc) (y : Rat) : Rat := p.s + (y - p.v) / p.r
def before (c : List Pc) (k : Nat) (t : Rat) : Bool := match c[k]? with
  | none => true
  | some q => decide (t < q.s)
def hit (c : List Pc) (y : Rat) (k : Nat) : Option Rat := match c[k]? with
  | none => none
  | some p => if p.s ≤ tm p y ∧ before c (k + 1) (tm p y) = true then some (tm p y) else none
def hits (c : List Pc) (y : Rat) (n : Nat) : List Rat := (List.range n).filterMap (hit c y)
theorem hits_succ (c : List Pc) (y : Rat) (n : Nat) : hits c y (n + 1) = hits c y n ++ (hit c y n).toList := by
  unfold hits
  rw [List.range_succ, List.filterMap_append]
  cases h : hit c y n <;> simp [h]
abbrev s__law_is_frac : Stmt := top 61
abbrev N__law_is_frac : List Str := ["_law_value"]
theorem sc__law_is_frac : FnScope N__law_is_frac ["_law_value"] (defScope s__law_is_frac) := ⟨rfl, rfl, rfl, by decide +kernel, rfl, by decide +kernel, by decide +kernel⟩
abbrev ps__law_is_frac : List Str := ["_law_value"]
def spIsFrac (K : PySem.W.Frag) : Sp := fun vs H Q _ => ∃ (x : V) (q : Rat) (m : Nat), vs = [x] ∧ Rq K H x q ∧ Sz m q ∧ m ≤ 9000 ∧ ∀ H', Same H H' → Q (.bl true) H'
theorem ok_is_frac (T : Bn mg) (F : Fn K mg "_law_is_frac" s__law_is_frac ps__law_is_frac f fd) (d_law_is_int : Def P w K mg base k "_law_is_int" ["_law_value"] (spIsInt K) f1 fd1) (d_law_frac : Def P w K mg base k "_law_frac" ["_law_n", "_law_d"] (spFrac K) f2 fd2) :
    Def P w K mg base (k + 1) "_law_is_frac" ps__law_is_frac (spIsFrac K) f fd := by
  refine ⟨F.F.ok sc__law_is_frac (fun vs H Q E h => ?_) (fun cdv A outer s H vs Q E hr h => ?_), F.m, F.F.kp, F.b⟩
  · obtain ⟨x, q, m, rfl, _⟩ := h
    rfl
  obtain ⟨x, q, m, rfl, hx, zq, hm, z⟩ := h
  obtain ⟨a, rfl, ha⟩ := id hx
  refine ⟨_, (pss_cons (ps_if (PW.pt (pw_or (pt_not (pt_val (pe_callB call_isi (by rfl) T.isinstance_ (by decide +kernel) (pa_cons (pv 0) (pa_cons (pe_bltn (v := .ty "tuple") (by rfl) T.tuple_ (by decide +kernel) rfl) pa_nil))))) (pw_or1 (pt_cmpR op_ne (pe_callB call_len_seq (by rfl) T.len_ PySem.boot_len (pa_cons (pv 0) pa_nil)) pe_int (nomark _)))))
        (pss_one (ps_ret pe_bl))
        pss_nil)
      (pss_cons (ps_if (PW.pt (pw_or (pt_not (pt_val (pcall d_law_is_int hr (pa_cons (pe_ix ix_tup (pv 0) pe_int (fun _ _ => rfl)) pa_nil)))) (pw_or (pt_not (pt_val (pcall d_law_is_int hr (pa_cons (pe_ix ix_tup (pv 0) pe_int (fun _ _ => rfl)) pa_nil)))) (pw_or1 (pt_cmpR op_lt (pe_ix ix_tup (pv 0) pe_int (fun _ _ => rfl)) pe_int (nomark _))))))
        (pss_one (ps_ret pe_bl))
        pss_nil)
      (pss_one (ps_ret (pe_cmpR (op_eqD hr.units) (pcall d_law_frac hr (pa_cons (pe_ix ix_tup (pv 0) pe_int (fun _ _ => rfl)) (pa_cons (pe_ix ix_tup (pv 0) pe_int (fun _ _ => rfl)) pa_nil))) (pv 0) (nomark _)))))), ?_⟩
  have ta := sqt_ty ha
  have dp := q.den_pos
  refine ⟨_, rfl, _, _, _, _, true, rfl, .ty _, ta, kit_ty (by decide +kernel), _, rfl, ifF rfl ⟨_, rfl, a, _, rfl, .inr ha, rfl, _, rfl, ifF rfl ?_⟩⟩
  refine ⟨_, rfl, a, _, _, _, rfl, rfl, ha, at0 rfl, _, rfl, _, rfl, ifF rfl ⟨_, rfl, a, _, _, _, rfl, rfl, ha, at1 rfl, _, rfl, _, rfl, ifF rfl ⟨_, rfl, a, _, _, _, rfl, rfl, ha, at1 rfl, _, _, rfl, rfl, _, rfl, ifF (dF (by omega)) ?_⟩⟩⟩
  refine ⟨_, rfl, a, _, _, _, rfl, rfl, ha, at0 rfl, _, rfl, a, _, _, _, rfl, rfl, ha, at1 rfl, _, _, m, rfl, by omega, zq.1, dA zq, hm, fun r H' e hr => ?_⟩
  have er : mkRat q.num ((q.den : Int)).toNat = q := Rat.mkRat_self q
  rw [er] at hr
  refine ⟨_, rfl, _, _, hr.dp, (hx.same e).dp, sh_dq _, sh_dq _, ?_⟩
  rw [eqv_dq, dT rfl]
  exact z _ e
def spTimeOf (K : PySem.W.Frag) : Sp := fun vs H Q _ => ∃ (x y : V) (p : Pc) (q : Rat) (i j l m : Nat), vs = [x, y] ∧ Pq K H x p ∧ Rq K H y q ∧ Sz i p.s ∧ Sz j p.v ∧ Sz l p.r ∧ Sz m q ∧ 0 < p.r ∧ m + j + l + i + 3 ≤ 9000 ∧
  ∀ r H', Same H H' → Rq K H' r (tm p q) → Q r H'
def endV (K : PySem.W.Frag) (H : Hp) (c : List Pc) (n : Nat) (v : V) : Prop := match c[n]? with
  | none => v = .non
  | some p => Rq K H v p.s
def spEndOf (K : PySem.W.Frag) : Sp := fun vs H Q _ => ∃ (a : Addr) (n : Nat) (c : List Pc), vs = [.ref a, .int n] ∧ Cq K H a c ∧ ∀ v, endV K H c (n + 1) v → Q v H
end Vk
namespace Vk
open PySem L2 Vm
variable {P : Program} {w : World} {K : PySem.W.Frag} {mg : Str → Option Value} {base : Heap} {k : Nat} {f f1 f2 f3 f4 f5 f6 f7 f8 f9 : Addr} {fd fd1 fd2 fd3 fd4 fd5 fd6 fd7 fd8 fd9 : FuncData}
theorem for_enum {K : PySem.W.Frag} {a : Addr} {xs : List V} {g : TG} {tb : TS} {D : Ends} {σ : L2.St} {H : Hp} (Pv : Nat → L2.St → Hp → Prop) (h0 : Pv 0 σ H) (hq : ∀ i σ H, Pv i σ H → SqL K H a xs)
    (hs : ∀ (i : Nat) (x : V) (T : Addr) (σ : L2.St) (H : Hp), xs[i]? = some x → Pv i σ H → H T = none → g (.ref T) σ (upd H T (.tup [.int (i : Nat), x])) fun σ2 H2 => tb { D with nx := Pv (i + 1), ct := Pv (i + 1), bk := D.nx } σ2 H2) (hd : ∀ σ H, Pv xs.length σ H → D.nx σ H) :
    ∃ W : Nat → Nat → L2.St → Hp → Prop, (∃ m, W 0 m σ H) ∧ ∀ i m σ H, W i m σ H →
      ((Ite K a).stop i H ∧ D.nx σ H) ∨ ((Ite K a).go i H ∧ ∃ N : L2.St → Hp → Prop, (∀ σ' H', N σ' H' → ∃ m', m' < m ∧ W (i + 1) m' σ' H') ∧ ∀ v H', (Ite K a).yld i H v H' → g v σ H' fun σ2 H2 => tb { D with nx := N, ct := N, bk := D.nx } σ2 H2) := by
  refine ⟨fun i m σ H => m = xs.length - i ∧ i ≤ xs.length ∧ Pv i σ H, ⟨xs.length, rfl, Nat.zero_le _, h0⟩, ?_⟩
  rintro i m σ H ⟨rfl, hi, p⟩
  have qx := hq i σ H p
  by_cases hlt : i < xs.length
  · have hx : xs[i]? = some xs[i] := List.getElem?_eq_getElem hlt
    refine .inr ⟨⟨xs, _, qx, hx⟩, Pv (i + 1), fun σ' H' p' => ⟨xs.length - (i + 1), by omega, rfl, hlt, p'⟩, fun v H' y => ?_⟩
    obtain ⟨T, x', rfl, hT, rfl, f1⟩ := y
    exact hs i x' T σ H (f1 xs qx) p hT
  · have e : i = xs.length := by omega
    subst e
    exact .inl ⟨⟨xs, qx, Nat.le_refl _⟩, hd σ H p⟩
theorem sg_ge {p q : Rat} : 0 ≤ sg p q ↔ q ≤ p := by
  unfold sg
  split
  · rename_i h
    subst h
    simp [Rat.le_refl]
  · split
    · rename_i h1 h2
      constructor
      · intro h; omega
      · intro h; exact absurd (Rat.not_lt.mpr h) (fun g => g h2)
    · rename_i h1 h2
      constructor
      · intro _; exact Rat.not_lt.mp h2
      · intro _; omega
theorem sg_lt {p q : Rat} : sg p q < 0 ↔ p < q := by
  unfold sg
  split
  · rename_i h
    subst h
    constructor
    · intro h; omega
    · intro h; exact absurd h Rat.lt_irrefl
  · split
    · rename_i h1 h2
      exact ⟨fun _ => h2, fun _ => by omega⟩
    · rename_i h1 h2
      exact ⟨fun h => by omega, fun h => absurd h h2⟩
theorem same_upd {H H' : Hp} {D : Addr} (e : Same H H') (h : H D = none) (o : HO) : Same H (upd H' D o) := fun b u q => by rw [upd_ne (ne_of_none q h)]; exact e b u q
theorem hits_len (c : List Pc) (y : Rat) (n : Nat) : (hits c y n).length ≤ n := by
  have := List.length_filterMap_le (hit c y) (List.range n)
  rw [List.length_range] at this
  exact this
theorem le1000 {n : Nat} (h : n ≤ 1000) : n < sizeLine := Nat.lt_of_le_of_lt h (by decide)
def spTimes (K : PySem.W.Frag) : Sp := fun vs H Q _ => ∃ (a : Addr) (y : V) (c : List Pc) (q : Rat) (i j l m : Nat), vs = [.ref a, y] ∧ Cq K H a c ∧ Rq K H y q ∧ Cz i j l c ∧ Sz m q ∧ (∀ p ∈ c, 0 < p.r) ∧ c.length ≤ 1000 ∧ m + j + l + i + i + 4 ≤ 9000 ∧
  ∀ D us H', Same H H' → H D = none → H' D = some (.lst us) → All2 (Rq K H') us (hits c q c.length) → Q (.ref D) H'
end Vk
namespace Vk
open PySem L2 Vm
variable {P : Program} {w : World} {K : PySem.W.Frag} {mg : Str → Option Value} {base : Heap} {k : Nat} {f f1 f2 f3 f4 f5 f6 f7 f8 f9 : Addr} {fd fd1 fd2 fd3 fd4 fd5 fd6 fd7 fd8 fd9 : FuncData}
def optV (K : PySem.W.Frag) (H : Hp) (v : V) : Option Rat → Prop
  | none => v = .non
  | some q => Rq K H v q
def lim (c : List Pc) (n : Nat) : Option Rat := match c[n]? with
  | none => none
  | some p => match c[n + 1]? with
    | none => none
    | some q => some (p.v + p.r * (q.s - p.s))
def spLimit (K : PySem.W.Frag) : Sp := fun vs H Q _ => ∃ (a : Addr) (n : Nat) (c : List Pc) (i j l : Nat), vs = [.ref a, .int n] ∧ Cq K H a c ∧ n < c.length ∧ Cz i j l c ∧ i + i + l + j + 3 ≤ 9000 ∧ ∀ v H', Same H H' → optV K H' v (lim c n) → Q v H'
def on (t : Rat) (p : Pc) : Bool := !decide (t < p.s)
def nowf (c : List Pc) (t : Rat) : Option Rat := ((c.filter (on t)).getLast?).map fun p => p.v + p.r * (t - p.s)
theorem filter_more {α : Type} {c : List α} {i : Nat} {p : α} (g : α → Bool) (h : c[i]? = some p) : (c.take (i + 1)).filter g = (c.take i).filter g ++ (if g p = true then [p] else []) := by
  rw [List.take_add_one, h, List.filter_append]
  congr 1
  simp only [Option.toList]
  cases e : g p <;> simp [e]
def spNow (K : PySem.W.Frag) : Sp := fun vs H Q _ => ∃ (a : Addr) (y : V) (c : List Pc) (t : Rat) (i j l m : Nat), vs = [.ref a, y] ∧ Cq K H a c ∧ Rq K H y t ∧ Cz i j l c ∧ Sz m t ∧ c.length ≤ 1000 ∧ m + i + l + j + 3 ≤ 9000 ∧ ∀ v H', Same H H' → optV K H' v (nowf c t) → Q v H'
end Vk
namespace Vk
open PySem L2 Vm
variable {l : Addr} {P : Program} {w : World} {K : PySem.W.Frag} {mg : Str → Option Value} {base : Heap} {k : Nat} {f f1 f2 f3 f4 f5 f6 f7 f8 f9 : Addr} {fd fd1 fd2 fd3 fd4 fd5 fd6 fd7 fd8 fd9 : FuncData}
def spRatio (K : PySem.W.Frag) (l : Addr) : Sp := fun vs H Q _ => ∃ (s : Addr) (top : Int), vs = [.ref s, .int top] ∧ Sto l s H ∧ 1 ≤ top ∧ top < 2 ^ 40 ∧ ∀ (v : V) H', Qd K 40 anyQ H' v → Sto l s H' → Fr s H H' → Q v H'
theorem int_q {H : Hp} {t : Addr} (n : Int) (h : n.natAbs < 2 ^ 40) : Qd K 40 anyQ (upd H t (.tup [.int n, .int 1])) (.ref t) := Qd.new n 1 (n : Rat) rfl rfl ⟨h, by show 1 < 2 ^ 40; decide⟩ trivial
end Vk
namespace Vk
open PySem L2 Vm
variable {l : Addr} {P : Program} {w : World} {K : PySem.W.Frag} {mg : Str → Option Value} {base : Heap} {k : Nat} {f f1 f2 f3 f4 f5 f6 f7 f8 f9 : Addr} {fd fd1 fd2 fd3 fd4 fd5 fd6 fd7 fd8 fd9 : FuncData}
/-- while a list of things is being made at D -/
def Bun {α : Type} (R : Hp → V → α → Prop) (l s D : Addr) (H0 : Hp) (us : List V) (c : List α) (G : Hp) : Prop := Sto l s G ∧ Fr s H0 G ∧ D ≠ s ∧ D ≠ l ∧ H0 D = none ∧ G D = some (.lst us) ∧ All2 (R G) us c
section
variable {α : Type} {R : Hp → V → α → Prop} {s D : Addr} {H0 G G' : Hp} {us : List V} {c : List α}
/-- what R says outlives what becomes of a list -/
def Lasts (R : Hp → V → α → Prop) : Prop := ∀ {s : Addr} {H H' : Hp} {x : V} {p : α}, Fr s H H' → (∃ ys, H s = some (.lst ys)) → R H x p → R H' x p
theorem Bun.fr (h : Bun R l s D H0 us c G) (L : Lasts R) (e : Fr s G G') (S : Sto l s G') : Bun R l s D H0 us c G' := by
  obtain ⟨h1, h2, h3, h4, h5, h6, h7⟩ := h
  exact ⟨S, h2.trans e, h3, h4, h5, e _ _ h6 h3, h7.imp fun _ _ r => L e h1.some r⟩
theorem Bun.same (h : Bun R l s D H0 us c G) (L : Lasts R) (e : Same G G') : Bun R l s D H0 us c G' := h.fr L (Fr.of e) (h.1.same e)
theorem Bun.app {x : V} {p : α} (h : Bun R l s D H0 us c G) (L : Lasts R) (r : R G x p) : Bun R l s D H0 (us ++ [x]) (c ++ [p]) (upd G D (.lst (us ++ [x]))) := by
  obtain ⟨h1, h2, h3, h4, h5, h6, h7⟩ := h
  have fr : Fr D G (upd G D (.lst (us ++ [x]))) := Fr.upd _
  refine ⟨h1.upd h3 h4, fun b o hb hn => ?_, h3, h4, h5, upd_same, (h7.imp fun _ _ r => L fr ⟨_, h6⟩ r).snoc (L fr ⟨_, h6⟩ r)⟩
  rw [upd_ne (ne_of_none hb h5)]
  exact h2 b o hb hn
theorem Bun.start (S : Sto l s G) (e : Fr s H0 G) (hD : G D = none) : Bun R l s D H0 [] [] (upd G D (.lst [])) := by
  have nD := S.ne hD
  have f := same_new hD (.lst [])
  exact ⟨S.same f, e.trans (Fr.of f), nD, S.nl hD, e.free hD nD, upd_same, All2.nil⟩
end
theorem Bun.at {α : Type} {R : Hp → V → α → Prop} {s D : Addr} {H0 G : Hp} {us : List V} {c : List α} (h : Bun R l s D H0 us c G) : G D = some (.lst us) := h.2.2.2.2.2.1
theorem Bun.len {α : Type} {R : Hp → V → α → Prop} {s D : Addr} {H0 G : Hp} {us : List V} {c : List α} (h : Bun R l s D H0 us c G) : us.length = c.length := h.2.2.2.2.2.2.1
theorem Bun.all {α : Type} {R : Hp → V → α → Prop} {s D : Addr} {H0 G : Hp} {us : List V} {c : List α} (h : Bun R l s D H0 us c G) : All2 (R G) us c := h.2.2.2.2.2.2
theorem lastsP : Lasts (Pq K) := fun e hs h => h.fr e hs
theorem lastsQ : Lasts (Rq K) := fun e hs h => h.fr e hs
theorem Cok.snoc {c : List Pc} {x : Pc} (h : Cok c) (hx : ∀ p ∈ c, p.s < x.s) (r : 0 < x.r) : Cok (c ++ [x]) := by
  refine ⟨fun p hp => ?_, fun i p q e1 e2 => ?_⟩
  · rcases List.mem_append.mp hp with hp | hp
    · exact h.1 p hp
    · rw [List.mem_singleton.mp hp]
      exact r
  · by_cases hi : i + 1 < c.length
    · rw [List.getElem?_append_left (by omega)] at e1
      rw [List.getElem?_append_left hi] at e2
      exact h.2 i p q e1 e2
    · have hl := (List.getElem?_eq_some_iff.mp e2).1
      rw [List.length_append, List.length_singleton] at hl
      rw [List.getElem?_append_left (by omega)] at e1
      rw [List.getElem?_append_right (by omega)] at e2
      have e0 : i + 1 - c.length = 0 := by omega
      rw [e0] at e2
      cases e2
      exact hx p (List.mem_of_getElem? e1)
theorem Cz.snoc {i j m : Nat} {c : List Pc} {x : Pc} (h : Cz i j m c) (z : Sz i x.s ∧ Sz j x.v ∧ Sz m x.r) : Cz i j m (c ++ [x]) := fun p hp => by
  rcases List.mem_append.mp hp with hp | hp
  · exact h p hp
  · rw [List.mem_singleton.mp hp]
    exact z
theorem lt_add_pos {a b : Rat} (h : 0 < b) : a < a + b := by grind
def spCourse (K : PySem.W.Frag) (l : Addr) : Sp := fun vs H Q _ => ∃ (s : Addr) (many : Nat) (fall : Bool), vs = [.ref s, .int many, .bl fall] ∧ Sto l s H ∧ many ≤ 40 ∧
  ∀ D us c H', Bun (Pq K) l s D H us c H' → c.length = many → Cok c → Cz 245 925 5 c → Q (.ref D) H'
end Vk
namespace Vk
open PySem L2 Vm
variable {l : Addr} {P : Program} {w : World} {K : PySem.W.Frag} {mg : Str → Option Value} {base : Heap} {k : Nat} {f f1 f2 f3 f4 f5 f6 f7 f8 f9 : Addr} {fd fd1 fd2 fd3 fd4 fd5 fd6 fd7 fd8 fd9 : FuncData}
theorem All2.append {α : Type} {R : V → α → Prop} {xs ys : List V} {c d : List α} (h : All2 R xs c) (g : All2 R ys d) : All2 R (xs ++ ys) (c ++ d) := by
  refine ⟨by rw [List.length_append, List.length_append, h.1, g.1], fun i x p a b => ?_⟩
  have hl := h.1
  by_cases hi : i < xs.length
  · rw [List.getElem?_append_left hi] at a
    rw [List.getElem?_append_left (by omega)] at b
    exact h.2 i x p a b
  · rw [List.getElem?_append_right (by omega)] at a
    rw [List.getElem?_append_right (by omega), ← hl] at b
    exact g.2 _ x p a b
theorem All2.take {α : Type} {R : V → α → Prop} {xs : List V} {c : List α} (h : All2 R xs c) (m : Nat) : All2 R (xs.take m) (c.take m) := by
  refine ⟨by rw [List.length_take, List.length_take, h.1], fun i x p a b => ?_⟩
  rw [List.getElem?_take] at a b
  split at a
  · rename_i hi
    rw [if_pos hi] at b
    exact h.2 i x p a b
  · cases a
theorem All2.drop {α : Type} {R : V → α → Prop} {xs : List V} {c : List α} (h : All2 R xs c) (m : Nat) : All2 R (xs.drop m) (c.drop m) := by
  refine ⟨by rw [List.length_drop, List.length_drop, h.1], fun i x p a b => ?_⟩
  rw [List.getElem?_drop] at a b
  exact h.2 _ x p a b
theorem All2.one {α : Type} {R : V → α → Prop} {x : V} {p : α} (r : R x p) : All2 R [x] [p] := by
  have h : All2 R ([] ++ [x]) ([] ++ [p]) := All2.nil.snoc r
  exact h
def Asc (os : List Rat) : Prop := os.Pairwise (· < ·)
theorem asc_at {os : List Rat} (h : Asc os) {i j : Nat} {a b : Rat} (ha : os[i]? = some a) (hb : os[j]? = some b) (hij : i < j) : a < b := by
  obtain ⟨h1, rfl⟩ := List.getElem?_eq_some_iff.mp ha
  obtain ⟨h2, rfl⟩ := List.getElem?_eq_some_iff.mp hb
  exact List.pairwise_iff_getElem.mp h i j h1 h2 hij
/-- the place of one among os -/
def Spot (os : List Rat) (one : Rat) (j m : Nat) : Prop := m ≤ j ∧ ∀ (t : Nat) o, t < j → os[t]? = some o → (o < one ↔ t < m)
theorem rlt_trans {a b c : Rat} (h : a < b) (g : b < c) : a < c := by grind
theorem spot_next {os : List Rat} {one o : Rat} {j m : Nat} (ha : Asc os) (h : Spot os one j m) (ho : os[j]? = some o) : Spot os one (j + 1) (if o < one then j + 1 else m) := by
  split
  · rename_i g
    refine ⟨Nat.le_refl _, fun t x ht hx => ⟨fun _ => ht, fun _ => ?_⟩⟩
    by_cases e : t = j
    · subst e
      rw [ho] at hx
      cases hx
      exact g
    · exact rlt_trans (asc_at ha hx ho (by omega)) g
  · rename_i g
    refine ⟨by have := h.1; omega, fun t x ht hx => ?_⟩
    by_cases e : t = j
    · subst e
      rw [ho] at hx
      cases hx
      exact ⟨fun z => absurd z g, fun z => absurd z (by have := h.1; omega)⟩
    · exact h.2 t x (by omega) hx
theorem asc_insert {os : List Rat} {one : Rat} {m : Nat} (ha : Asc os) (h : Spot os one os.length m) (hn : os[m]? ≠ some one) : Asc (os.take m ++ [one] ++ os.drop m) := by
  have hlt : ∀ o ∈ os.take m, o < one := fun o ho => by
    obtain ⟨t, ht, rfl⟩ := List.mem_iff_getElem.mp ho
    rw [List.length_take] at ht
    have e : os[t]? = some (os.take m)[t] := by
      rw [List.getElem_take]
      exact List.getElem?_eq_getElem (by omega)
    exact (h.2 t _ (by omega) e).mpr (by omega)
  have hgt : ∀ o ∈ os.drop m, one < o := fun o ho => by
    obtain ⟨t, ht, rfl⟩ := List.mem_iff_getElem.mp ho
    rw [List.length_drop] at ht
    have e : os[m + t]? = some (os.drop m)[t] := by
      rw [List.getElem_drop]
      exact List.getElem?_eq_getElem (by omega)
    have h1 : ¬ (os.drop m)[t] < one := fun z => absurd ((h.2 (m + t) _ (by omega) e).mp z) (by omega)
    by_cases t0 : t = 0
    · have h2 : (os.drop m)[t] ≠ one := fun z => hn (by rw [← z, ← e, t0, Nat.add_zero])
      grind
    · have hm : m < os.length := by omega
      have h3 := asc_at ha (List.getElem?_eq_getElem hm) e (by omega)
      have h4 : ¬ os[m] < one := fun z => absurd ((h.2 m _ hm (List.getElem?_eq_getElem hm)).mp z) (by omega)
      grind
  unfold Asc
  rw [List.append_assoc, List.pairwise_append]
  refine ⟨ha.sublist (List.take_sublist _ _), ?_, fun a h1 b h2 => ?_⟩
  · rw [List.singleton_append, List.pairwise_cons]
    exact ⟨hgt, ha.sublist (List.drop_sublist _ _)⟩
  · rw [List.singleton_append] at h2
    rcases List.mem_cons.mp h2 with rfl | h2
    · exact hlt a h1
    · exact rlt_trans (hlt a h1) (hgt b h2)
def spOrdered (K : PySem.W.Frag) : Sp := fun vs H Q _ => ∃ (a : Addr) (xs : List V) (qs : List Rat), vs = [.ref a] ∧ SqL K H a xs ∧ All2 (Rq K H) xs qs ∧ (∀ q ∈ qs, Sz 40 q) ∧ qs.length ≤ 900 ∧
  ∀ D us os H', Same H H' → H D = none → H' D = some (.lst us) → All2 (Rq K H') us os → Asc os → (∀ o ∈ os, o ∈ qs) → os.length ≤ qs.length → (qs ≠ [] → os ≠ []) → Q (.ref D) H'
end Vk
namespace Vk
open PySem L2 Vm
variable {l : Addr} {P : Program} {w : World} {K : PySem.W.Frag} {mg : Str → Option Value} {base : Heap} {k : Nat} {f f1 f2 f3 f4 f5 f6 f7 f8 f9 : Addr} {fd fd1 fd2 fd3 fd4 fd5 fd6 fd7 fd8 fd9 : FuncData}
theorem tyes {σ : L2.St} {H : Hp} {A B : Hp → Prop} (h : A H) : tYes σ H (fun b H3 => if b = true then A H3 else B H3) := by
  show (if true = true then A H else B H)
  rw [if_pos rfl]
  exact h
def spWide (K : PySem.W.Frag) (l : Addr) : Sp := fun vs H Q _ => ∃ (s : Addr), vs = [.ref s] ∧ Sto l s H ∧
  ∀ D us c H', Bun (Pq K) l s D H us c H' → 1 ≤ c.length → c.length ≤ 40 → Cok c → Cz 40 40 40 c → Q (.ref D) H'
theorem abs_nf {q : Rat} (h : q.num ≠ 0) : (mkRat (q.num.natAbs : Int) q.den).num = (q.num.natAbs : Int) ∧ (mkRat (q.num.natAbs : Int) q.den).den = q.den := nf q.den_nz (by rw [Int.natAbs_natCast]; exact q.reduced)
end Vk
namespace Vk
open PySem L2 Vm
/-! ### the mathematics of hits -/
theorem cok_lt {c : List Pc} (h : Cok c) : ∀ {j i : Nat} {p q : Pc}, i < j → c[i]? = some p → c[j]? = some q → p.s < q.s
  | 0, i, p, q, hij, _, _ => absurd hij (by omega)
  | j + 1, i, p, q, hij, hp, hq => by
    have hj : j < c.length := by have := (List.getElem?_eq_some_iff.mp hq).1; omega
    have e : c[j]? = some c[j] := List.getElem?_eq_getElem hj
    have h2 := h.2 j _ _ e hq
    by_cases hi : i = j
    · subst hi
      rw [e] at hp
      cases hp
      exact h2
    · exact rlt_trans (cok_lt h (by omega) hp e) h2
theorem hit_some {c : List Pc} {q t : Rat} {k : Nat} (h : hit c q k = some t) : ∃ p, c[k]? = some p ∧ t = tm p q ∧ p.s ≤ t ∧ before c (k + 1) t = true := by
  unfold hit at h
  cases e : c[k]? with
  | none => rw [e] at h; cases h
  | some p =>
    rw [e] at h
    dsimp only at h
    split at h
    · rename_i g
      cases h
      exact ⟨p, rfl, rfl, g.1, g.2⟩
    · cases h
/-- t lies in the k-th stretch -/
def inI (c : List Pc) (k : Nat) (t : Rat) : Bool := (match c[k]? with
  | none => false
  | some p => !decide (t < p.s)) && before c (k + 1) t
theorem before_lt {c : List Pc} {k : Nat} {t : Rat} {p : Pc} (h : before c k t = true) (e : c[k]? = some p) : t < p.s := by
  unfold before at h
  rw [e] at h
  exact of_decide_eq_true h
theorem hit_in {c : List Pc} {q t : Rat} {k : Nat} (h : hit c q k = some t) : inI c k t = true := by
  obtain ⟨p, e, _, h1, h2⟩ := hit_some h
  unfold inI
  rw [e, h2]
  have : ¬ t < p.s := by grind
  simp [this]
theorem hit_out {c : List Pc} (ok : Cok c) {q t : Rat} {k n : Nat} (h : hit c q n = some t) (hk : k ≠ n) : inI c k t = false := by
  obtain ⟨p, e, _, h1, h2⟩ := hit_some h
  unfold inI
  cases e2 : c[k]? with
  | none => rfl
  | some p2 =>
    dsimp only
    by_cases g : k < n
    · have hk1 : k + 1 < c.length := by have := (List.getElem?_eq_some_iff.mp e).1; omega
      have e3 : c[k + 1]? = some c[k + 1] := List.getElem?_eq_getElem hk1
      have : c[k + 1].s ≤ p.s := by
        by_cases g2 : k + 1 = n
        · subst g2
          rw [e3] at e
          cases e
          exact Rat.le_refl
        · have := cok_lt ok (show k + 1 < n by omega) e3 e
          grind
      have nb : before c (k + 1) t = false := by
        unfold before
        rw [e3]
        exact dF (by grind)
      rw [nb, Bool.and_false]
    · have h3 : before c (n + 1) t = true := h2
      have hn1 : n + 1 < c.length := by have := (List.getElem?_eq_some_iff.mp e2).1; omega
      have e3 : c[n + 1]? = some c[n + 1] := List.getElem?_eq_getElem hn1
      have h4 := before_lt h3 e3
      have : c[n + 1].s ≤ p2.s := by
        by_cases g2 : n + 1 = k
        · subst g2
          rw [e3] at e2
          cases e2
          exact Rat.le_refl
        · have := cok_lt ok (show n + 1 < k by omega) e3 e2
          grind
      have : t < p2.s := by grind
      simp [this]
theorem hits_in {c : List Pc} (ok : Cok c) (q : Rat) (k : Nat) : ∀ n, (hits c q n).filter (inI c k) = if k < n then (hit c q k).toList else []
  | 0 => by simp [hits]
  | n + 1 => by
    rw [hits_succ, List.filter_append, hits_in ok q k n]
    cases h : hit c q n with
    | none =>
      simp only [Option.toList, List.filter_nil, List.append_nil]
      by_cases e : k = n
      · subst e
        rw [if_neg (by omega), if_pos (by omega), h]
      · by_cases g : k < n
        · rw [if_pos g, if_pos (by omega)]
        · rw [if_neg g, if_neg (by omega)]
    | some t =>
      simp only [Option.toList]
      by_cases e : k = n
      · subst e
        rw [if_neg (by omega), if_pos (by omega), h, List.nil_append]
        simp [hit_in h]
      · have := hit_out ok h e
        simp only [List.filter_cons, this, Bool.false_eq_true, if_false, List.filter_nil, List.append_nil]
        by_cases g : k < n
        · rw [if_pos g, if_pos (by omega)]
        · rw [if_neg g, if_neg (by omega)]
theorem hits_mem {c : List Pc} {q t : Rat} {n : Nat} (h : t ∈ hits c q n) : ∃ k, k < n ∧ hit c q k = some t := by
  unfold hits at h
  obtain ⟨k, hk, e⟩ := List.mem_filterMap.mp h
  exact ⟨k, List.mem_range.mp hk, e⟩
theorem hits_asc {c : List Pc} (ok : Cok c) (q : Rat) : ∀ n, Asc (hits c q n)
  | 0 => by unfold hits; exact List.Pairwise.nil
  | n + 1 => by
    rw [hits_succ]
    unfold Asc
    rw [List.pairwise_append]
    refine ⟨hits_asc ok q n, ?_, fun a ha b hb => ?_⟩
    · cases hit c q n <;> simp [Option.toList]
    · cases h : hit c q n with
      | none => rw [h] at hb; cases hb
      | some t =>
        rw [h] at hb
        simp only [Option.toList, List.mem_singleton] at hb
        subst hb
        obtain ⟨k, hk, e⟩ := hits_mem ha
        obtain ⟨p, e1, _, g1, g2⟩ := hit_some e
        obtain ⟨p2, e2, _, g3, _⟩ := hit_some h
        have hn := (List.getElem?_eq_some_iff.mp e2).1
        have e3 : c[k + 1]? = some c[k + 1] := List.getElem?_eq_getElem (by omega)
        have g4 := before_lt g2 e3
        have : c[k + 1].s ≤ p2.s := by
          by_cases g5 : k + 1 = n
          · subst g5
            rw [e3] at e2
            cases e2
            exact Rat.le_refl
          · have := cok_lt ok (show k + 1 < n by omega) e3 e2
            grind
        grind
theorem tm_ge {p : Pc} {q : Rat} (r : 0 < p.r) : p.s ≤ tm p q ↔ p.v ≤ q := by
  have h : (q - p.v) / p.r * p.r = q - p.v := Rat.div_mul_cancel (by grind)
  unfold tm
  constructor
  · intro g
    have g1 : 0 ≤ (q - p.v) / p.r := by grind
    have g2 := Rat.mul_nonneg g1 (Rat.le_of_lt r)
    grind
  · intro g
    have g2 : ¬ (q - p.v) / p.r < 0 := fun z => by
      have := (Rat.mul_lt_mul_right r).mpr z
      grind
    grind
theorem tm_lt {p : Pc} {q s : Rat} (r : 0 < p.r) : tm p q < s ↔ q < p.v + p.r * (s - p.s) := by
  have h : (q - p.v) / p.r * p.r = q - p.v := Rat.div_mul_cancel (by grind)
  have e : tm p q < s ↔ (q - p.v) / p.r < s - p.s := by
    unfold tm
    constructor <;> intro g <;> grind
  rw [e, ← Rat.mul_lt_mul_right r, h]
  constructor <;> intro g <;> grind
theorem tm_back {p : Pc} {q : Rat} (r : 0 < p.r) : p.v + p.r * (tm p q - p.s) = q := by
  have h : (q - p.v) / p.r * p.r = q - p.v := Rat.div_mul_cancel (by grind)
  unfold tm
  grind
theorem filter_take {α : Type} (g : α → Bool) : ∀ {c : List α} {m : Nat}, (∀ i x, c[i]? = some x → (g x = true ↔ i < m)) → c.filter g = c.take m
  | [], m, _ => by simp
  | x :: r, 0, h => by
    have h0 := h 0 x rfl
    have : g x = false := by
      cases e : g x with
      | false => rfl
      | true => exact absurd (h0.mp e) (by omega)
    rw [List.filter_cons, this]
    simp only [Bool.false_eq_true, if_false]
    rw [filter_take g (m := 0) fun i y hy => by
      have := h (i + 1) y hy
      constructor
      · intro z; exact absurd (this.mp z) (by omega)
      · intro z; omega]
    simp
  | x :: r, m + 1, h => by
    have h0 := (h 0 x rfl).mpr (by omega)
    rw [List.filter_cons, if_pos h0, List.take_succ_cons, filter_take g (m := m) fun i y hy => by
      have := h (i + 1) y hy
      constructor
      · intro z; have := this.mp z; omega
      · intro z; exact this.mpr (by omega)]
theorem now_hit {c : List Pc} (ok : Cok c) {q t : Rat} {k : Nat} (h : hit c q k = some t) : nowf c t = some q := by
  obtain ⟨p, e, et, h1, h2⟩ := hit_some h
  have hk := (List.getElem?_eq_some_iff.mp e).1
  have ef : c.filter (on t) = c.take (k + 1) := filter_take _ fun i x hx => by
    unfold on
    constructor
    · intro z
      refine Nat.lt_of_not_le fun g => ?_
      have hk1 : k + 1 < c.length := by have := (List.getElem?_eq_some_iff.mp hx).1; omega
      have e3 : c[k + 1]? = some c[k + 1] := List.getElem?_eq_getElem hk1
      have h4 := before_lt h2 e3
      have : c[k + 1].s ≤ x.s := by
        by_cases g5 : k + 1 = i
        · subst g5
          rw [e3] at hx
          cases hx
          exact Rat.le_refl
        · have := cok_lt ok (show k + 1 < i by omega) e3 hx
          grind
      have : t < x.s := by grind
      simp [this] at z
    · intro z
      have : x.s ≤ p.s := by
        by_cases g5 : i = k
        · subst g5
          rw [e] at hx
          cases hx
          exact Rat.le_refl
        · have := cok_lt ok (show i < k by omega) hx e
          grind
      have : ¬ t < x.s := by grind
      simp [this]
  unfold nowf
  rw [ef, List.getLast?_eq_getElem?, List.length_take, List.getElem?_take]
  have e1 : min (k + 1) c.length - 1 = k := by omega
  rw [e1, if_pos (by omega), e]
  show some (p.v + p.r * (t - p.s)) = some q
  rw [et, tm_back (ok.1 p (List.mem_of_getElem? e))]
/-- whether the k-th piece shows the reading -/
theorem due_hit {c : List Pc} (ok : Cok c) {q : Rat} {k : Nat} {p : Pc} (e : c[k]? = some p) : (hit c q k).isSome = (!decide (q < p.v) && (match lim c k with
  | none => true
  | some b => decide (q < b))) := by
  have r := ok.1 p (List.mem_of_getElem? e)
  unfold hit lim
  rw [e]
  dsimp only
  have h1 := tm_ge (p := p) (q := q) r
  cases e2 : c[k + 1]? with
  | none =>
    have hb : before c (k + 1) (tm p q) = true := by unfold before; rw [e2]
    rw [hb]
    dsimp only
    by_cases g : q < p.v
    · have : ¬ p.s ≤ tm p q := fun z => by have := h1.mp z; grind
      simp [this, g]
    · have : p.s ≤ tm p q := h1.mpr (by grind)
      simp [this, g]
  | some p2 =>
    have h2 := tm_lt (p := p) (q := q) (s := p2.s) r
    have hb : before c (k + 1) (tm p q) = decide (tm p q < p2.s) := by unfold before; rw [e2]
    rw [hb]
    dsimp only
    by_cases g : q < p.v
    · have : ¬ p.s ≤ tm p q := fun z => by have := h1.mp z; grind
      simp [this, g]
    · have a1 : p.s ≤ tm p q := h1.mpr (by grind)
      by_cases g2 : tm p q < p2.s
      · have := h2.mp g2
        simp [a1, g, g2, this]
      · have : ¬ q < p.v + p.r * (p2.s - p.s) := fun z => g2 (h2.mpr z)
        simp [a1, g, g2, this]
theorem opt_len {α : Type} (o : Option α) : o.toList.length = if o.isSome = true then 1 else 0 := by cases o <;> rfl
theorem row_last {c : List Pc} (ok : Cok c) {q : Rat} {k : Nat} {p : Pc} (e : c[k]? = some p) (e2 : c[k + 1]? = none) :
    ((hits c q c.length).filter fun t => !decide (t < p.s)).length = if (!decide (q < p.v)) = true then 1 else 0 := by
  have hk := (List.getElem?_eq_some_iff.mp e).1
  have h1 := hits_in ok q k c.length
  rw [if_pos hk] at h1
  have h2 : (fun t => !decide (t < p.s)) = inI c k := by
    funext t
    unfold inI before
    rw [e, e2]
    simp
  have h3 := due_hit ok (q := q) e
  unfold lim at h3
  rw [e, e2] at h3
  dsimp only at h3
  rw [Bool.and_true] at h3
  rw [h2, h1, opt_len, h3]
theorem row_more {c : List Pc} (ok : Cok c) {q : Rat} {k : Nat} {p p2 : Pc} (e : c[k]? = some p) (e2 : c[k + 1]? = some p2) :
    (((hits c q c.length).filter fun t => !decide (t < p.s)).filter fun t => decide (t < p2.s)).length = if (!decide (q < p.v) && decide (q < p.v + p.r * (p2.s - p.s))) = true then 1 else 0 := by
  have hk := (List.getElem?_eq_some_iff.mp e).1
  have h1 := hits_in ok q k c.length
  rw [if_pos hk] at h1
  have h2 : (fun t => decide (t < p2.s) && !decide (t < p.s)) = inI c k := by
    funext t
    unfold inI before
    rw [e, e2]
    exact Bool.and_comm _ _
  have h3 := due_hit ok (q := q) e
  unfold lim at h3
  rw [e, e2] at h3
  dsimp only at h3
  rw [List.filter_filter, h2, h1, opt_len, h3]
end Vk
namespace Vk
open PySem L2 Vm
variable {l : Addr} {P : Program} {w : World} {K : PySem.W.Frag} {mg : Str → Option Value} {base : Heap} {k : Nat} {f f1 f2 f3 f4 f5 f6 f7 f8 f9 : Addr} {fd fd1 fd2 fd3 fd4 fd5 fd6 fd7 fd8 fd9 : FuncData}
theorem sz_hit {i j m n : Nat} {c : List Pc} (ok : Cok c) (cz : Cz i j m c) {q t : Rat} (zq : Sz n q) {k : Nat} (h : hit c q k = some t) : Sz (i + (n + j + 1 + m) + 1) t := by
  obtain ⟨p, e, rfl, _, _⟩ := hit_some h
  have hm := List.mem_of_getElem? e
  obtain ⟨z1, z2, z3⟩ := cz p hm
  exact z1.add ((zq.sub z2).div z3 (ok.1 p hm))
def spTR (K : PySem.W.Frag) : Sp := fun vs H Q _ => ∃ (a b : Addr) (y : V) (us : List V) (c : List Pc) (q : Rat) (i j l m : Nat), vs = [.ref a, y, .ref b] ∧ Cq K H a c ∧ Rq K H y q ∧ SqL K H b us ∧ All2 (Rq K H) us (hits c q c.length) ∧ Cok c ∧ Cz i j l c ∧ Sz m q ∧ c.length ≤ 1000 ∧ i + i + j + j + l + l + m + 20 ≤ 9000 ∧
  ∀ H', Same H H' → Q (.bl true) H'
end Vk
namespace Vk
open PySem PySem.Spec PyProof.Rows L2
section
variable {X : Cx}
/-- xs.count(y), data of any depth -/
def rCountD (K : PySem.W.Frag) : V → List V → Hp → VK → Prop := fun x xs H Q => ∃ (a : Addr) (y : V) (d : PyData) (ds : List PyData), x = V.ref a ∧ xs = [y] ∧ Dp K H (V.ref a) (.list ds) ∧ Dp K H y d ∧
  SeqAt.shaped (.list ds) = true ∧ SeqAt.shaped d = true ∧ Q (.int ((ds.countP fun z => PyData.eqv z d : Nat) : Int)) H
theorem mt_countD (hu : X.A.units + 65 < cLine) : MtR X "list.count" (rCountD X.K) := by
  intro pins s σ H x xs v us Q I rx rxs h
  obtain ⟨a, y, d, ds, rfl, rfl, hl, hy, sl, sd, q⟩ := h
  cases rx
  cases rxs with
  | cons ry rt =>
    rename_i uy ut
    cases rt
    obtain ⟨bs, r1⟩ := Dp.reads I d y uy hy ry
    have hxs : PyData.canLayAll0 ds = true := SeqAt.canLay_of_shaped sl
    have hroom : X.A.units + 1 + min (PyData.depthAll ds) d.depth < cLine := room_in_shaped sd hu
    cases hl with
    | lst hs ha =>
      obtain ⟨its, rv, ⟨⟨cls, dd, data, sls⟩, n, ho, hc, hdn, hdt⟩, hlen⟩ := I.list hs
      simp only at hc hdt
      subst hc hdt
      obtain ⟨as, h4⟩ := Dp.readsAll I ds _ its ha rv
      have hmap : its.map (SeqAt.readOf s.heap) = ds := SeqAt.readsAll_map ds its as hxs h4
      refine call_meets PySem.F.slot_list_count ⟨_, ho, rfl⟩ PySem.F.entry_list_count (PySem.F.args_list_count_2 _ _)
        (SeqAt.list_countAt a its.toArray n dd sls uy (fun u => PyData.eqv (SeqAt.readOf s.heap u) d)) ⟨ho, SeqAt.items_eqAt (vs := its.toArray) (show ReadsAll s.heap its.toArray.toList ds as from h4) r1 hxs (SeqAt.canLay_of_shaped sd) hroom, ?_⟩
      refine ⟨.int ((ds.countP fun z => PyData.eqv z d : Nat) : Int), H, I.tok _, ⟨s.toks, ?_⟩, q⟩
      have e : (its.toArray.toList.countP fun u => PyData.eqv (SeqAt.readOf s.heap u) d) = ds.countP fun z => PyData.eqv z d := by
        rw [← hmap, List.countP_map]
        rfl
      show Value.int ((its.toArray.toList.countP (fun u => PyData.eqv (SeqAt.readOf s.heap u) d) : Nat) : Int) s.toks = _
      rw [e]
end
end Vk
namespace Vk
open PySem L2 Vm
variable {l : Addr} {P : Program} {w : World} {K : PySem.W.Frag} {mg : Str → Option Value} {base : Heap} {k : Nat} {f f1 f2 f3 f4 f5 f6 f7 f8 f9 : Addr} {fd fd1 fd2 fd3 fd4 fd5 fd6 fd7 fd8 fd9 : FuncData}
theorem sm1 : 1 ≤ sizeLine := by decide
theorem Bun.made {α : Type} {R : Hp → V → α → Prop} {s D : Addr} {H0 G : Hp} {us : List V} {c : List α} (S : Sto l s G) (e : Fr s H0 G) (hD : G D = none) (h : All2 (R (upd G D (.lst us))) us c) : Bun R l s D H0 us c (upd G D (.lst us)) := by
  have nD := S.ne hD
  have f := same_new hD (.lst us)
  exact ⟨S.same f, e.trans (Fr.of f), nD, S.nl hD, e.free hD nD, upd_same, h⟩
/-- a tracked list with a course -/
def Ct (K : PySem.W.Frag) (H : Hp) (a : Addr) (xs : List V) (c : List Pc) : Prop := H a = some (.lst xs) ∧ All2 (Pq K H) xs c
theorem Ct.cq {H : Hp} {a : Addr} {xs : List V} {c : List Pc} (h : Ct K H a xs c) : Cq K H a c := ⟨xs, SqL.of h.1, h.2⟩
theorem Ct.same {H H' : Hp} {a : Addr} {xs : List V} {c : List Pc} (e : Same H H') (h : Ct K H a xs c) : Ct K H' a xs c := ⟨e _ _ h.1, h.2.imp fun _ _ h => h.same e⟩
theorem Ct.fr {s : Addr} {H H' : Hp} {a : Addr} {xs : List V} {c : List Pc} (e : Fr s H H') (hs : ∃ ys, H s = some (.lst ys)) (n : a ≠ s) (h : Ct K H a xs c) : Ct K H' a xs c := ⟨e _ _ h.1 n, h.2.imp fun _ _ h => h.fr e hs⟩
theorem all2_3 {α : Type} {R : V → α → Prop} {x y z : V} {a b c : α} (h1 : R x a) (h2 : R y b) (h3 : R z c) : All2 R [x, y, z] [a, b, c] := (((All2.nil.snoc h1).snoc h2).snoc h3 : All2 R ([] ++ [x] ++ [y] ++ [z]) ([] ++ [a] ++ [b] ++ [c]))
def spValues (K : PySem.W.Frag) (l : Addr) : Sp := fun vs H Q _ => ∃ (s a : Addr) (xs : List V) (c : List Pc), vs = [.ref s, .ref a] ∧ Sto l s H ∧ a ≠ s ∧ a ≠ l ∧ Ct K H a xs c ∧ Cz 245 925 5 c ∧ 1 ≤ c.length ∧ c.length ≤ 1000 ∧
  ∀ D us qs H', Bun (Rq K) l s D H us qs H' → (∀ q ∈ qs, Sz 2350 q) → 0 < qs.length → qs.length ≤ 100 → Q (.ref D) H'
end Vk
namespace Vk
open PySem L2 Vm
variable {l : Addr} {P : Program} {w : World} {K : PySem.W.Frag} {mg : Str → Option Value} {base : Heap} {k : Nat} {f f1 f2 f3 f4 f5 f6 f7 f8 f9 f10 f11 f12 f13 f14 : Addr} {fd fd1 fd2 fd3 fd4 fd5 fd6 fd7 fd8 fd9 fd10 fd11 fd12 fd13 fd14 : FuncData}
theorem hu65 {k : Nat} {A : Around} (hr : Room k A) : A.units + 65 < cLine := by have := hr.un; omega
/-- a promise with something left open -/
def exS {α : Type} (sp : α → Sp) : Sp := fun vs H Q E => ∃ x, sp x vs H Q E
theorem Def.ex {α : Type} [Inhabited α] {x : Str} {ps : List Str} {sp : α → Sp} (h : ∀ a, Def P w K mg base k x ps (sp a) f fd) : Def P w K mg base k x ps (exS sp) f fd :=
  ⟨⟨fun vs H Q E ⟨a, z⟩ => (h a).ok.len vs H Q E z, fun A outer s H args us vs Q E hr he hb hv ⟨a, z⟩ => (h a).ok.run A outer s H args us vs Q E hr he hb hv z⟩, (h default).m, (h default).kp, (h default).b⟩
theorem ixN_last {n : Nat} (h : 0 < n) {i : Int} (e : i = (n : Int) - 1) : ixN n i = some (n - 1) := by
  subst e
  unfold ixN
  rw [if_pos (by omega), if_pos (by omega)]
  congr 1
  omega
/-! ### data -/
def dpc (p : Pc) : PyData := .tuple [dq p.s, dq p.v, dq p.r]
theorem Pq.dp {H : Hp} {v : V} {p : Pc} (h : Pq K H v p) : Dp K H v (dpc p) := by
  obtain ⟨a, xs, xv, xr, rfl, h, h1, h2, h3⟩ := h
  exact .tup h (.cons h1.dp (.cons h2.dp (.cons h3.dp .nil)))
theorem dpall_of {α : Type} {R : V → α → Prop} {d : α → PyData} {H : Hp} (g : ∀ v p, R v p → Dp K H v (d p)) : ∀ {xs : List V} {c : List α}, All2 R xs c → DpAll K H xs (c.map d)
  | [], [], _ => .nil
  | [], _ :: _, h => absurd h.1 (by simp)
  | _ :: _, [], h => absurd h.1 (by simp)
  | x :: xs, p :: c, h => .cons (g _ _ (h.2 0 x p rfl rfl)) (dpall_of g ⟨by have := h.1; simp at this; exact this, fun i x p a b => h.2 (i + 1) x p a b⟩)
theorem tree_dpc (n : Nat) (p : Pc) : Tree (n + 2) (dpc p) := .tup (by show 3 ≤ 1000; decide) fun d h => by
  simp only [List.mem_cons, List.mem_nil_iff, or_false] at h
  rcases h with rfl | rfl | rfl <;> exact tree_dq _ _
theorem depth_dqs : ∀ T : List Rat, PyData.depthAll (T.map dq) ≤ 2
  | [] => by simp [PyData.depthAll]
  | t :: T => by
    have := depth_dqs T
    simp only [List.map_cons, PyData.depthAll]
    have : (dq t).depth ≤ 2 := by show PyData.depth (.tuple [.int t.num, .int (t.den : Int)]) ≤ 2; simp [PyData.depth, PyData.depthAll]
    omega
theorem lay_dqs : ∀ T : List Rat, PyData.canLayAll0 (T.map dq) = true
  | [] => rfl
  | t :: T => by
    have := lay_dqs T
    show (PyData.canLay0 (dq t) && PyData.canLayAll0 (T.map dq)) = true
    rw [this]
    rfl
theorem sh_dqs (T : List Rat) : SeqAt.shaped (.list (T.map dq)) = true := by
  have h1 := depth_dqs T
  have h2 := lay_dqs T
  show (PyData.canLay0 (.list (T.map dq)) && decide (PyData.depth (.list (T.map dq)) ≤ 64)) = true
  have h3 : PyData.canLay0 (.list (T.map dq)) = true := h2
  have h4 : PyData.depth (.list (T.map dq)) ≤ 64 := by simp only [PyData.depth]; omega
  rw [h3, decide_eq_true h4]
  rfl
/-! ### the course whose last piece is set -/
theorem hits_set {c : List Pc} (ok : Cok c) (hn : 0 < c.length) {q : Rat} {p : Pc} (hp : c[c.length - 1]? = some p) (hv : p.v = q) : (hits c q c.length).countP (fun t => decide (t = p.s)) = 1 := by
  have r := ok.1 p (List.mem_of_getElem? hp)
  have et : tm p q = p.s := by
    unfold tm
    rw [hv, show q - q = 0 from Rat.sub_self, Rat.div_def, Rat.zero_mul]
    grind
  have eh : hit c q (c.length - 1) = some p.s := by
    unfold hit before
    rw [hp, List.getElem?_eq_none (show c.length ≤ c.length - 1 + 1 by omega)]
    simp only [et, and_true]
    rw [if_pos Rat.le_refl]
  have e1 : c.length = c.length - 1 + 1 := by omega
  have e2 : hits c q c.length = hits c q (c.length - 1) ++ [p.s] := by
    conv => lhs; rw [e1]
    rw [hits_succ, eh]
    rfl
  have z : ∀ t ∈ hits c q (c.length - 1), t < p.s := fun t ht => by
    obtain ⟨j, hj, e⟩ := hits_mem ht
    obtain ⟨p1, g1, _, _, g2⟩ := hit_some e
    have hj1 : j + 1 < c.length := by omega
    have e3 : c[j + 1]? = some c[j + 1] := List.getElem?_eq_getElem hj1
    have g3 := before_lt g2 e3
    by_cases g : j + 1 = c.length - 1
    · rw [← g] at hp
      rw [e3] at hp
      have := Option.some.inj hp
      rw [this] at g3
      exact g3
    · have := cok_lt ok (show j + 1 < c.length - 1 by omega) e3 hp
      grind
  rw [e2, List.countP_append, List.countP_eq_zero.mpr fun t ht => by
    have := z t ht
    have : ¬ t = p.s := by grind
    simp [this]]
  simp
theorem all2_set {α : Type} {R : V → α → Prop} {xs : List V} {c : List α} {x : V} {p : α} (h : All2 R xs c) (n : Nat) (r : R x p) : All2 R (xs.set n x) (c.set n p) := by
  refine ⟨by rw [List.length_set, List.length_set, h.1], fun i y q a b => ?_⟩
  by_cases e : n = i
  · subst e
    rw [List.getElem?_set] at a b
    simp only [if_true] at a b
    split at a
    · split at b
      · cases a
        cases b
        exact r
      · cases b
    · cases a
  · rw [List.getElem?_set_ne e] at a b
    exact h.2 i y q a b
theorem cok_set {c : List Pc} (ok : Cok c) {n : Nat} {p p' : Pc} (hp : c[n]? = some p) (hs : p'.s = p.s) (hr : p'.r = p.r) : Cok (c.set n p') := by
  have key : ∀ (i : Nat) (x : Pc), (c.set n p')[i]? = some x → ∃ y, c[i]? = some y ∧ x.s = y.s ∧ x.r = y.r := fun i x h => by
    by_cases e : n = i
    · subst e
      rw [List.getElem?_set] at h
      simp only [if_true] at h
      split at h
      · cases h
        exact ⟨p, hp, hs, hr⟩
      · cases h
    · rw [List.getElem?_set_ne e] at h
      exact ⟨x, h, rfl, rfl⟩
  refine ⟨fun x hx => ?_, fun i x y hx hy => ?_⟩
  · obtain ⟨i, hi, rfl⟩ := List.mem_iff_getElem.mp hx
    obtain ⟨y, e1, _, e2⟩ := key i _ (List.getElem?_eq_getElem hi)
    rw [e2]
    exact ok.1 y (List.mem_of_getElem? e1)
  · obtain ⟨x1, a1, b1, _⟩ := key i x hx
    obtain ⟨y1, a2, b2, _⟩ := key (i + 1) y hy
    rw [b1, b2]
    exact ok.2 i x1 y1 a1 a2
theorem cz_set {c : List Pc} {i j j' m : Nat} (cz : Cz i j m c) (hj : j ≤ j') {n : Nat} {p' : Pc} (h : Sz i p'.s ∧ Sz j' p'.v ∧ Sz m p'.r) : Cz i j' m (c.set n p') := fun x hx => by
  rcases List.mem_or_eq_of_mem_set hx with hx | rfl
  · obtain ⟨z1, z2, z3⟩ := cz x hx
    exact ⟨z1, z2.mono hj, z3⟩
  · exact h
/-! ### what stands while the law goes on -/
structure St0 (K : PySem.W.Frag) (l s D1 D2 D3 : Addr) (us1 us2 : List V) (c1 c2 : List Pc) (G : Hp) : Prop where
  st : Sto l s G
  a1 : Ct K G D1 us1 c1
  a2 : Ct K G D2 us2 c2
  a3 : Ct K G D3 us1 c1
  n1 : D1 ≠ s
  n2 : D2 ≠ s
  n3 : D3 ≠ s
  m3 : D3 ≠ l
  n31 : D3 ≠ D1
  n32 : D3 ≠ D2
theorem St0.same {s D1 D2 D3 : Addr} {us1 us2 : List V} {c1 c2 : List Pc} {G G' : Hp} (h : St0 K l s D1 D2 D3 us1 us2 c1 c2 G) (e : Same G G') : St0 K l s D1 D2 D3 us1 us2 c1 c2 G' :=
  { h with st := h.st.same e, a1 := h.a1.same e, a2 := h.a2.same e, a3 := h.a3.same e }
theorem St0.fr {s D1 D2 D3 : Addr} {us1 us2 : List V} {c1 c2 : List Pc} {G G' : Hp} (h : St0 K l s D1 D2 D3 us1 us2 c1 c2 G) (e : Fr s G G') (S : Sto l s G') : St0 K l s D1 D2 D3 us1 us2 c1 c2 G' :=
  { h with st := S, a1 := h.a1.fr e h.st.some h.n1, a2 := h.a2.fr e h.st.some h.n2, a3 := h.a3.fr e h.st.some h.n3 }
theorem St0.app {s D1 D2 D3 D : Addr} {us1 us2 ys zs : List V} {c1 c2 : List Pc} {G : Hp} (h : St0 K l s D1 D2 D3 us1 us2 c1 c2 G) (hD : G D = some (.lst ys)) (ns : D ≠ s) (nl : D ≠ l) (k1 : D1 ≠ D) (k2 : D2 ≠ D) (k3 : D3 ≠ D) : St0 K l s D1 D2 D3 us1 us2 c1 c2 (upd G D (.lst zs)) :=
  { h with st := h.st.upd ns nl, a1 := h.a1.fr (Fr.upd _) ⟨_, hD⟩ k1, a2 := h.a2.fr (Fr.upd _) ⟨_, hD⟩ k2, a3 := h.a3.fr (Fr.upd _) ⟨_, hD⟩ k3 }
/-- a list of rationals -/
def Lq (K : PySem.W.Frag) (G : Hp) (D : Addr) (us : List V) (qs : List Rat) : Prop := G D = some (.lst us) ∧ All2 (Rq K G) us qs
theorem Lq.same {G G' : Hp} {D : Addr} {us : List V} {qs : List Rat} (h : Lq K G D us qs) (e : Same G G') : Lq K G' D us qs := ⟨e _ _ h.1, h.2.imp fun _ _ h => h.same e⟩
theorem Lq.fr {s : Addr} {G G' : Hp} {D : Addr} {us : List V} {qs : List Rat} (h : Lq K G D us qs) (e : Fr s G G') (hs : ∃ ys, G s = some (.lst ys)) (n : D ≠ s) : Lq K G' D us qs := ⟨e _ _ h.1 n, h.2.imp fun _ _ h => h.fr e hs⟩
theorem ne_at {G : Hp} {a b : Addr} {o : HO} (h : G a = some o) (n : G b = none) : a ≠ b := fun e => by rw [e, n] at h; cases h
end Vk
namespace Vk
open PySem L2 Vm
/-! ### lines, what stays of a course, jumps -/
def ky (p : Pc) : Rat × Rat := (p.r, p.v - p.r * p.s)
def jmp (k : Rat × Rat) (q : Pc) : Rat := q.v - (k.2 + k.1 * q.s)
def vl (t : Rat) (p : Pc) : Rat := p.v + p.r * (t - p.s)
theorem ky_eq {p q : Pc} : ky q = ky p ↔ q.r = p.r ∧ jmp (ky p) q = 0 := by
  unfold jmp ky
  constructor
  · intro h
    have h1 := congrArg Prod.fst h
    have h2 := congrArg Prod.snd h
    dsimp only at h1 h2 ⊢
    exact ⟨h1, by rw [h1] at h2; grind⟩
  · rintro ⟨h1, h2⟩
    dsimp only at h2
    rw [h1]
    congr 1
    grind
theorem jmp_at (p q : Pc) : q.v - (p.v + p.r * (q.s - p.s)) = jmp (ky p) q := by
  unfold jmp ky
  dsimp only
  grind
theorem vl_ky {p q : Pc} (h : ky q = ky p) (t : Rat) : vl t q = vl t p := by
  have h1 := congrArg Prod.fst h
  have h2 := congrArg Prod.snd h
  unfold ky at h1 h2
  dsimp only at h1 h2
  unfold vl
  grind
def tlG : Rat × Rat → List Pc → List Pc
  | _, [] => []
  | k, q :: c => if ky q = k then tlG k c else q :: tlG (ky q) c
def tl : List Pc → List Pc
  | [] => []
  | p :: c => p :: tlG (ky p) c
def jlG : Rat × Rat → List Pc → List (Rat × Rat)
  | _, [] => []
  | k, q :: c => if jmp k q = 0 then jlG (ky q) c else (q.s, jmp k q) :: jlG (ky q) c
def jl : List Pc → List (Rat × Rat)
  | [] => []
  | p :: c => jlG (ky p) c
theorem jmp0 {k : Rat × Rat} {q : Pc} (h : ky q = k) : jmp k q = 0 := by
  subst h
  unfold jmp ky
  dsimp only
  grind
theorem tlG_snoc (p q : Pc) : ∀ (c : List Pc) (k : Rat × Rat), tlG k (c ++ [p, q]) = tlG k (c ++ [p]) ++ if ky q = ky p then [] else [q]
  | [], k => by
    show tlG k [p, q] = tlG k [p] ++ _
    unfold tlG
    by_cases h : ky p = k
    · rw [if_pos h, if_pos h]
      unfold tlG
      rw [← h]
      by_cases g : ky q = ky p
      · rw [if_pos g, if_pos g]; rfl
      · rw [if_neg g, if_neg g]; rfl
    · rw [if_neg h, if_neg h]
      unfold tlG
      by_cases g : ky q = ky p
      · rw [if_pos g, if_pos g]; rfl
      · rw [if_neg g, if_neg g]; rfl
  | x :: c, k => by
    show tlG k (x :: (c ++ [p, q])) = tlG k (x :: (c ++ [p])) ++ _
    unfold tlG
    by_cases h : ky x = k
    · rw [if_pos h, if_pos h, tlG_snoc p q c k]
    · rw [if_neg h, if_neg h, tlG_snoc p q c (ky x)]
      rfl
theorem jlG_snoc (p q : Pc) : ∀ (c : List Pc) (k : Rat × Rat), jlG k (c ++ [p, q]) = jlG k (c ++ [p]) ++ if jmp (ky p) q = 0 then [] else [(q.s, jmp (ky p) q)]
  | [], k => by
    show jlG k [p, q] = jlG k [p] ++ _
    unfold jlG
    by_cases h : jmp k p = 0
    · rw [if_pos h, if_pos h]
      unfold jlG
      by_cases g : jmp (ky p) q = 0
      · rw [if_pos g, if_pos g]; rfl
      · rw [if_neg g, if_neg g]; rfl
    · rw [if_neg h, if_neg h]
      unfold jlG
      by_cases g : jmp (ky p) q = 0
      · rw [if_pos g, if_pos g]; rfl
      · rw [if_neg g, if_neg g]; rfl
  | x :: c, k => by
    show jlG k (x :: (c ++ [p, q])) = jlG k (x :: (c ++ [p])) ++ _
    unfold jlG
    by_cases h : jmp k x = 0
    · rw [if_pos h, if_pos h, jlG_snoc p q c (ky x)]
    · rw [if_neg h, if_neg h, jlG_snoc p q c (ky x)]
      rfl
theorem take_two {c : List Pc} {i : Nat} {p q : Pc} (e1 : c[i]? = some p) (e2 : c[i + 1]? = some q) : c.take (i + 1) = c.take i ++ [p] ∧ c.take (i + 2) = c.take i ++ [p, q] := by
  have h1 : c.take (i + 1) = c.take i ++ [p] := by rw [List.take_add_one, e1]; rfl
  refine ⟨h1, ?_⟩
  rw [List.take_add_one, h1, e2, List.append_assoc]
  rfl
theorem tl_next {c : List Pc} {i : Nat} {p q : Pc} (e1 : c[i]? = some p) (e2 : c[i + 1]? = some q) : tl (c.take (i + 2)) = tl (c.take (i + 1)) ++ if ky q = ky p then [] else [q] := by
  obtain ⟨h1, h2⟩ := take_two e1 e2
  rw [h1, h2]
  cases h : c.take i with
  | nil =>
    show p :: tlG (ky p) [q] = _
    unfold tlG
    by_cases g : ky q = ky p
    · rw [if_pos g, if_pos g]; rfl
    · rw [if_neg g, if_neg g]; rfl
  | cons x d =>
    show x :: tlG (ky x) (d ++ [p, q]) = x :: tlG (ky x) (d ++ [p]) ++ _
    rw [tlG_snoc]
    rfl
theorem jl_next {c : List Pc} {i : Nat} {p q : Pc} (e1 : c[i]? = some p) (e2 : c[i + 1]? = some q) : jl (c.take (i + 2)) = jl (c.take (i + 1)) ++ if jmp (ky p) q = 0 then [] else [(q.s, jmp (ky p) q)] := by
  obtain ⟨h1, h2⟩ := take_two e1 e2
  rw [h1, h2]
  cases h : c.take i with
  | nil =>
    show jlG (ky p) [q] = _
    unfold jlG
    by_cases g : jmp (ky p) q = 0
    · rw [if_pos g, if_pos g]; rfl
    · rw [if_neg g, if_neg g]; rfl
  | cons x d =>
    show jlG (ky x) (d ++ [p, q]) = jlG (ky x) (d ++ [p]) ++ _
    rw [jlG_snoc]
theorem tlG_tlG : ∀ (c : List Pc) (k : Rat × Rat), tlG k (tlG k c) = tlG k c
  | [], k => rfl
  | q :: c, k => by
    by_cases h : ky q = k
    · have e1 : tlG k (q :: c) = tlG k c := by rw [tlG, if_pos h]
      rw [e1, tlG_tlG c k]
    · have e1 : ∀ d, tlG k (q :: d) = q :: tlG (ky q) d := fun d => by rw [tlG, if_neg h]
      rw [e1, e1, tlG_tlG c (ky q)]
theorem tl_tl (c : List Pc) : tl (tl c) = tl c := by
  cases c with
  | nil => rfl
  | cons p c =>
    show p :: tlG (ky p) (tlG (ky p) c) = _
    rw [tlG_tlG]
    rfl
theorem jlG_tlG : ∀ (c : List Pc) (k : Rat × Rat), jlG k (tlG k c) = jlG k c
  | [], k => rfl
  | q :: c, k => by
    by_cases h : ky q = k
    · have e1 : tlG k (q :: c) = tlG k c := by rw [tlG, if_pos h]
      have e2 : jlG k (q :: c) = jlG (ky q) c := by rw [jlG, if_pos (jmp0 h)]
      rw [e1, e2, h, jlG_tlG c k]
    · have e1 : tlG k (q :: c) = q :: tlG (ky q) c := by rw [tlG, if_neg h]
      rw [e1, jlG, jlG, jlG_tlG c (ky q)]
theorem jl_tl (c : List Pc) : jl (tl c) = jl c := by
  cases c with
  | nil => rfl
  | cons p c => exact jlG_tlG c (ky p)
theorem tlG_mem : ∀ (c : List Pc) (k : Rat × Rat), (tlG k c).Sublist c
  | [], k => List.Sublist.slnil
  | q :: c, k => by
    rw [tlG]
    split
    · exact (tlG_mem c k).cons q
    · exact (tlG_mem c (ky q)).cons₂ q
theorem tl_sub (c : List Pc) : (tl c).Sublist c := by
  cases c with
  | nil => exact List.Sublist.slnil
  | cons p c => exact (tlG_mem c (ky p)).cons₂ p
theorem tl_pos {c : List Pc} (h : 0 < c.length) : 0 < (tl c).length := by
  cases c with
  | nil => exact absurd h (by simp)
  | cons p c => exact Nat.succ_pos _
/-! ### ascending -/
def AscP (c : List Pc) : Prop := c.Pairwise fun p q => p.s < q.s
theorem ascP_of {c : List Pc} (ok : Cok c) : AscP c := by
  unfold AscP
  rw [List.pairwise_iff_getElem]
  intro i j hi hj hij
  exact cok_lt ok hij (List.getElem?_eq_getElem hi) (List.getElem?_eq_getElem hj)
theorem cok_of {c : List Pc} (a : AscP c) (r : ∀ p ∈ c, 0 < p.r) : Cok c := by
  refine ⟨r, fun i p q e1 e2 => ?_⟩
  have h1 := List.getElem?_eq_some_iff.mp e1
  have h2 := List.getElem?_eq_some_iff.mp e2
  have := (List.pairwise_iff_getElem.mp a) i (i + 1) h1.1 h2.1 (by omega)
  rw [h1.2, h2.2] at this
  exact this
theorem cok_tl {c : List Pc} (ok : Cok c) : Cok (tl c) := cok_of ((ascP_of ok).sublist (tl_sub c)) fun p hp => ok.1 p ((tl_sub c).subset hp)
theorem cz_tl {i j m : Nat} {c : List Pc} (z : Cz i j m c) : Cz i j m (tl c) := fun p hp => z p ((tl_sub c).subset hp)
/-! ### what is shown -/
def nG (t : Rat) : Option Rat → List Pc → Option Rat
  | d, [] => d
  | d, q :: c => nG t (if on t q = true then some (vl t q) else d) c
theorem nG_now (t : Rat) : ∀ (c : List Pc) (d : Option Rat), nG t d c = (((c.filter (on t)).getLast?).map (vl t)).or d
  | [], d => rfl
  | q :: c, d => by
    show nG t _ c = _
    rw [nG_now t c, List.filter_cons]
    by_cases h : on t q = true
    · rw [if_pos h, if_pos h, List.getLast?_cons]
      cases (c.filter (on t)).getLast? <;> rfl
    · rw [if_neg h, if_neg h]
theorem now_nG (c : List Pc) (t : Rat) : nowf c t = nG t none c := by
  rw [nG_now, Option.or_none]
  rfl
theorem on_le {t : Rat} {p q : Pc} (h : on t q = true) (l : p.s < q.s) : on t p = true := by
  unfold on at h ⊢
  have : ¬ t < q.s := by simpa using h
  have : ¬ t < p.s := by grind
  simpa using this
theorem nG_tlG (t : Rat) : ∀ (c : List Pc) (p : Pc) (d : Option Rat), AscP (p :: c) → (∀ q ∈ c, on t q = true → d = some (vl t p)) → nG t d (tlG (ky p) c) = nG t d c
  | [], p, d, _, _ => rfl
  | q :: c, p, d, a, h => by
    have a1 : AscP (q :: c) := (List.pairwise_cons.mp a).2
    have a2 : AscP (p :: c) := a.sublist ((List.sublist_cons_self q c).cons₂ p)
    by_cases g : ky q = ky p
    · rw [tlG, if_pos g]
      have e : (if on t q = true then some (vl t q) else d) = d := by
        split
        · rename_i o
          rw [h q (List.mem_cons_self ..) o, vl_ky g]
        · rfl
      show _ = nG t (if on t q = true then some (vl t q) else d) c
      rw [e]
      exact nG_tlG t c p d a2 fun x hx => h x (List.mem_cons_of_mem _ hx)
    · rw [tlG, if_neg g]
      show nG t (if on t q = true then some (vl t q) else d) (tlG (ky q) c) = nG t (if on t q = true then some (vl t q) else d) c
      refine nG_tlG t c q _ a1 fun x hx o => ?_
      rw [if_pos (on_le o ((List.pairwise_cons.mp a1).1 x hx))]
theorem now_tl {c : List Pc} (ok : Cok c) (t : Rat) : nowf (tl c) t = nowf c t := by
  rw [now_nG, now_nG]
  cases c with
  | nil => rfl
  | cons p c =>
    show nG t (if on t p = true then some (vl t p) else none) (tlG (ky p) c) = nG t (if on t p = true then some (vl t p) else none) c
    refine nG_tlG t c p _ (ascP_of ok) fun x hx o => ?_
    rw [if_pos (on_le o ((List.pairwise_cons.mp (ascP_of ok)).1 x hx))]
theorem now_at {c : List Pc} (ok : Cok c) {t : Rat} {k : Nat} {p : Pc} (e : c[k]? = some p) (h1 : ¬ t < p.s) (h2 : ∀ q, c[k + 1]? = some q → t < q.s) : nowf c t = some (vl t p) := by
  have hk := (List.getElem?_eq_some_iff.mp e).1
  have ef : c.filter (on t) = c.take (k + 1) := filter_take _ fun i x hx => by
    unfold on
    constructor
    · intro z
      refine Nat.lt_of_not_le fun g => ?_
      have hk1 : k + 1 < c.length := by have := (List.getElem?_eq_some_iff.mp hx).1; omega
      have e3 : c[k + 1]? = some c[k + 1] := List.getElem?_eq_getElem hk1
      have h4 := h2 _ e3
      have : c[k + 1].s ≤ x.s := by
        by_cases g5 : k + 1 = i
        · subst g5
          rw [e3] at hx
          cases hx
          exact Rat.le_refl
        · have := cok_lt ok (show k + 1 < i by omega) e3 hx
          grind
      have : t < x.s := by grind
      simp [this] at z
    · intro z
      have : x.s ≤ p.s := by
        by_cases g5 : i = k
        · subst g5
          rw [e] at hx
          cases hx
          exact Rat.le_refl
        · have := cok_lt ok (show i < k by omega) hx e
          grind
      have : ¬ t < x.s := by grind
      simp [this]
  unfold nowf
  rw [ef, List.getLast?_eq_getElem?, List.length_take, List.getElem?_take]
  have e1 : min (k + 1) c.length - 1 = k := by omega
  rw [e1, if_pos (by omega), e]
  rfl
/-! ### pieces that continue -/
def goes (c : List Pc) (i : Nat) : Bool := match i with
  | 0 => false
  | j + 1 => match c[j]?, c[j + 1]? with
    | some p, some q => decide (ky q = ky p)
    | _, _ => false
theorem goes_succ (c : List Pc) (j : Nat) : goes c (j + 1) = match c[j]?, c[j + 1]? with
    | some p, some q => decide (ky q = ky p)
    | _, _ => false := rfl
theorem goes_at {c : List Pc} {j : Nat} {p q : Pc} (e1 : c[j]? = some p) (e2 : c[j + 1]? = some q) : goes c (j + 1) = decide (ky q = ky p) := by
  rw [goes_succ, e1, e2]
def gl (c : List Pc) (n : Nat) : List Nat := (List.range n).filter (goes c)
theorem gl_succ (c : List Pc) (n : Nat) : gl c (n + 1) = gl c n ++ if goes c n = true then [n] else [] := by
  unfold gl
  rw [List.range_succ, List.filter_append]
  congr 1
  by_cases h : goes c n = true <;> simp [h]
def Nc : Rat × Rat → List Pc → Prop
  | _, [] => True
  | k, q :: c => ky q ≠ k ∧ Nc (ky q) c
theorem nc_tlG : ∀ (c : List Pc) (k : Rat × Rat), Nc k (tlG k c)
  | [], k => trivial
  | q :: c, k => by
    rw [tlG]
    split
    · exact nc_tlG c k
    · rename_i h
      exact ⟨h, nc_tlG c (ky q)⟩
theorem nc_at : ∀ (c : List Pc) (p : Pc), Nc (ky p) c → ∀ i x y, (p :: c)[i]? = some x → (p :: c)[i + 1]? = some y → ky y ≠ ky x
  | [], p, _, i, x, y, _, e2 => by simp at e2
  | q :: c, p, h, 0, x, y, e1, e2 => by
    simp at e1 e2
    subst e1 e2
    exact h.1
  | q :: c, p, h, i + 1, x, y, e1, e2 => nc_at c q h.2 i x y (by simpa using e1) (by simpa using e2)
theorem goes_tl (c : List Pc) (i : Nat) : goes (tl c) i = false := by
  cases i with
  | zero => rfl
  | succ j =>
    rw [goes_succ]
    cases e1 : (tl c)[j]? with
    | none => rfl
    | some x =>
      cases e2 : (tl c)[j + 1]? with
      | none => rfl
      | some y =>
        cases c with
        | nil => simp [tl] at e1
        | cons p c => exact dF (nc_at _ p (nc_tlG c (ky p)) j x y e1 e2)
theorem gl_tl (c : List Pc) (n : Nat) : gl (tl c) n = [] := by
  unfold gl
  rw [List.filter_eq_nil_iff]
  intro i _
  rw [goes_tl]
  exact Bool.false_ne_true
/-! ### a piece more that continues -/
theorem tlG_ins {p x : Pc} (h : ky x = ky p) : ∀ (a b : List Pc) (k : Rat × Rat), tlG k (a ++ p :: x :: b) = tlG k (a ++ p :: b)
  | [], b, k => by
    show tlG k (p :: x :: b) = tlG k (p :: b)
    by_cases g : ky p = k
    · rw [tlG, if_pos g, tlG, if_pos (h.trans g), tlG, if_pos g]
    · rw [tlG, if_neg g, tlG, if_pos h, tlG, if_neg g]
  | y :: a, b, k => by
    show tlG k (y :: (a ++ p :: x :: b)) = tlG k (y :: (a ++ p :: b))
    by_cases g : ky y = k
    · rw [tlG, if_pos g, tlG, if_pos g, tlG_ins h a b k]
    · rw [tlG, if_neg g, tlG, if_neg g, tlG_ins h a b (ky y)]
theorem tl_ins {p x : Pc} (h : ky x = ky p) (a b : List Pc) : tl (a ++ p :: x :: b) = tl (a ++ p :: b) := by
  cases a with
  | nil =>
    show p :: tlG (ky p) (x :: b) = p :: tlG (ky p) b
    rw [tlG, if_pos h]
  | cons y a =>
    show y :: tlG (ky y) (a ++ p :: x :: b) = y :: tlG (ky y) (a ++ p :: b)
    rw [tlG_ins h]
theorem jlG_ins {p x : Pc} (h : ky x = ky p) : ∀ (a b : List Pc) (k : Rat × Rat), jlG k (a ++ p :: x :: b) = jlG k (a ++ p :: b)
  | [], b, k => by
    show jlG k (p :: x :: b) = jlG k (p :: b)
    rw [jlG, jlG, if_pos (jmp0 h), h, jlG]
  | y :: a, b, k => by
    show jlG k (y :: (a ++ p :: x :: b)) = jlG k (y :: (a ++ p :: b))
    rw [jlG, jlG, jlG_ins h a b (ky y)]
theorem jl_ins {p x : Pc} (h : ky x = ky p) (a b : List Pc) : jl (a ++ p :: x :: b) = jl (a ++ p :: b) := by
  cases a with
  | nil =>
    show jlG (ky p) (x :: b) = jlG (ky p) b
    rw [jlG, if_pos (jmp0 h), h]
  | cons y a =>
    show jlG (ky y) (a ++ p :: x :: b) = jlG (ky y) (a ++ p :: b)
    rw [jlG_ins h]
end Vk
namespace Vk
open PySem L2 Vm
variable {l az : Addr} {P : Program} {w : World} {K : PySem.W.Frag} {mg : Str → Option Value} {base : Heap} {k : Nat} {f f1 f2 f3 f4 f5 f6 f7 f8 f9 : Addr} {fd fd1 fd2 fd3 fd4 fd5 fd6 fd7 fd8 fd9 : FuncData}
/-! ### the program's side -/
structure Zr (K : PySem.W.Frag) (mg : Str → Option Value) (az : Addr) : Prop where
  m : mg "ZERO" = some (.ref az)
  q : ∀ H, Rq K H (.ref az) 0
abbrev s_multiply : Stmt := top 16
abbrev N_multiply : List Str := ["a", "b"]
theorem sc_multiply : FnScope N_multiply ["a", "b"] (defScope s_multiply) := ⟨rfl, rfl, rfl, by decide +kernel, rfl, by decide +kernel, by decide +kernel⟩
abbrev ps_multiply : List Str := ["a", "b"]
theorem ok_multiply (F : Fn K mg "multiply" s_multiply ps_multiply f fd) (drational : Def P w K mg base k "rational" ["n", "d"] (spFrac K) f1 fd1) : Def P w K mg base (k + 1) "multiply" ps_multiply (spOp2 K (· * ·)) f fd := by
  refine ⟨F.F.ok sc_multiply (fun vs H Q E h => ?_) (fun cdv A outer s H vs Q E hr h => ?_), F.m, F.F.kp, F.b⟩
  · obtain ⟨x, y, p, q, m, l, rfl, _⟩ := h
    rfl
  obtain ⟨x, y, p, q, m, l, rfl, ⟨a, rfl, ha⟩, ⟨b, rfl, hb⟩, zp, zq, hm, z⟩ := h
  have m0 := nn zp
  have l0 := nn zq
  refine ⟨_, (pss_one (ps_ret (pcall drational hr (pa_cons (pe_op op_mulW (pe_ix ix_tup (pv 0) pe_int (fun _ _ => rfl)) (pe_ix ix_tup (pv 1) pe_int (fun _ _ => rfl))) (pa_cons (pe_op op_mulW (pe_ix ix_tup (pv 0) pe_int (fun _ _ => rfl)) (pe_ix ix_tup (pv 1) pe_int (fun _ _ => rfl))) pa_nil))))), ?_⟩
  refine ⟨_, rfl, a, _, _, _, rfl, rfl, ha, at0 rfl, _, rfl, b, _, _, _, rfl, rfl, hb, at0 rfl, _, _, rfl, rfl, mulW zp.1 zq.1 m0 l0 (by omega), ?_⟩
  refine ⟨_, rfl, a, _, _, _, rfl, rfl, ha, at1 rfl, _, rfl, b, _, _, _, rfl, rfl, hb, at1 rfl, _, _, rfl, rfl, mulW (dA zp) (dA zq) m0 l0 (by omega), ?_⟩
  refine ⟨_, _, m + l, rfl, dd_pos p q, ab_mul zp.1 zq.1, ab_mul (dA zp) (dA zq), by omega, fun r H' e hr => z r H' e ?_⟩
  rw [mk_mul] at hr
  exact hr
abbrev s__shown_by : Stmt := top 25
abbrev N__shown_by : List Str := ["piece", "t", "start", "shown", "rate"]
theorem sc__shown_by : FnScope N__shown_by ["piece", "t"] (defScope s__shown_by) := ⟨rfl, rfl, rfl, by decide +kernel, rfl, by decide +kernel, by decide +kernel⟩
abbrev ps__shown_by : List Str := ["piece", "t"]
def spShown (K : PySem.W.Frag) : Sp := fun vs H Q _ => ∃ (x y : V) (p : Pc) (t : Rat) (i j l m : Nat), vs = [x, y] ∧ Pq K H x p ∧ Rq K H y t ∧ Sz i p.s ∧ Sz j p.v ∧ Sz l p.r ∧ Sz m t ∧ j + l + m + i + 3 ≤ 9000 ∧
  ∀ r H', Same H H' → Rq K H' r (p.v + p.r * (t - p.s)) → Q r H'
theorem ok_shown_by (F : Fn K mg "_shown_by" s__shown_by ps__shown_by f fd) (dadd : Def P w K mg base k "add" ["a", "b"] (spOp2 K (· + ·)) f1 fd1) (dmultiply : Def P w K mg base k "multiply" ["a", "b"] (spOp2 K (· * ·)) f2 fd2) (dsubtract : Def P w K mg base k "subtract" ["a", "b"] (spOp2 K (· - ·)) f3 fd3) :
    Def P w K mg base (k + 1) "_shown_by" ps__shown_by (spShown K) f fd := by
  refine ⟨F.F.ok sc__shown_by (fun vs H Q E h => ?_) (fun cdv A outer s H vs Q E hr h => ?_), F.m, F.F.kp, F.b⟩
  · obtain ⟨x, y, p, q, i, j, l, m, rfl, _⟩ := h
    rfl
  obtain ⟨x, y, p, t, i, j, l, m, rfl, ⟨a, xs, xv, xr, rfl, ha, hs, hv, hr'⟩, hy, zs, zv, zr, zt, hb, z⟩ := h
  refine ⟨_, (pss_cons (ps_asg (pv 0) (pg_tup rfl (pgs_cons (pg_name (i := 2) sc__shown_by.nd rfl (Or.inl rfl)) (pgs_cons (pg_name (i := 3) sc__shown_by.nd rfl (Or.inl rfl)) (pgs_cons (pg_name (i := 4) sc__shown_by.nd rfl (Or.inl rfl)) pgs_nil)))))
      (pss_one (ps_ret (pcall dadd hr (pa_cons (pv 3) (pa_cons (pcall dmultiply hr (pa_cons (pv 4) (pa_cons (pcall dsubtract hr (pa_cons (pv 1) (pa_cons (pv 2) pa_nil))) pa_nil))) pa_nil)))))), ?_⟩
  refine ⟨_, rfl, a, _, rfl, ha, rfl, _, _, rfl, _, _, rfl, _, _, rfl, rfl, ?_⟩
  refine ⟨_, rfl, _, rfl, _, rfl, _, rfl, _, _, t, p.s, m, i, rfl, hy, hs, zt, zs, by omega, fun r1 H1 e1 h1 => ?_⟩
  refine ⟨_, _, p.r, t - p.s, l, m + i + 1, rfl, hr'.same e1, h1, zr, zt.sub zs, by omega, fun r2 H2 e2 h2 => ?_⟩
  exact ⟨_, _, p.v, p.r * (t - p.s), j, l + (m + i + 1), rfl, hv.same (e1.trans e2), h2, zv, zr.mul (zt.sub zs), by omega, fun r3 H3 e3 h3 => z _ _ (e1.trans (e2.trans e3)) h3⟩
abbrev s__jump_at : Stmt := top 29
abbrev N__jump_at : List Str := ["course", "at", "piece"]
theorem sc__jump_at : FnScope N__jump_at ["course", "at"] (defScope s__jump_at) := ⟨rfl, rfl, rfl, by decide +kernel, rfl, by decide +kernel, by decide +kernel⟩
abbrev ps__jump_at : List Str := ["course", "at"]
def spJumpAt (K : PySem.W.Frag) : Sp := fun vs H Q _ => ∃ (a : Addr) (n : Nat) (c : List Pc) (p q : Pc) (i j l : Nat), vs = [.ref a, .int ((n + 1 : Nat) : Int)] ∧ Cq K H a c ∧ c[n]? = some p ∧ c[n + 1]? = some q ∧ Cz i j l c ∧ j + j + l + i + i + 5 ≤ 9000 ∧
  ∀ r H', Same H H' → Rq K H' r (jmp (ky p) q) → Q r H'
theorem ok_jump_at (F : Fn K mg "_jump_at" s__jump_at ps__jump_at f fd) (dsubtract : Def P w K mg base k "subtract" ["a", "b"] (spOp2 K (· - ·)) f1 fd1) (d_shown_by : Def P w K mg base k "_shown_by" ["piece", "t"] (spShown K) f2 fd2) :
    Def P w K mg base (k + 1) "_jump_at" ps__jump_at (spJumpAt K) f fd := by
  refine ⟨F.F.ok sc__jump_at (fun vs H Q E h => ?_) (fun cdv A outer s H vs Q E hr h => ?_), F.m, F.F.kp, F.b⟩
  · obtain ⟨_, _, _, _, _, _, _, _, rfl, _⟩ := h
    rfl
  obtain ⟨a, n, c, p, q, i, j, l, rfl, ⟨xs, hx, hc⟩, e1, e2, cz, hb, z⟩ := h
  refine ⟨_, (pss_cons (ps_set (i := 2) sc__jump_at.nd rfl (Or.inl rfl) (pe_ix ix_list (pv 0) (pv 1) (fun _ _ => rfl)))
      (pss_one (ps_ret (pcall dsubtract hr (pa_cons (pe_ix ix_tup (pv 2) pe_int (fun _ _ => rfl)) (pa_cons (pcall d_shown_by hr (pa_cons (pe_ix ix_list (pv 0) (pe_op op_sub (pv 1) pe_int) (fun _ _ => rfl)) (pa_cons (pe_ix ix_tup (pv 2) pe_int (fun _ _ => rfl)) pa_nil))) pa_nil)))))), ?_⟩
  obtain ⟨zs1, zv1, zr1⟩ := cz p (List.mem_of_getElem? e1)
  obtain ⟨zs2, zv2, zr2⟩ := cz q (List.mem_of_getElem? e2)
  obtain ⟨x1, hx1, pp⟩ := hc.at e1
  obtain ⟨x2, hx2, pq⟩ := hc.at e2
  obtain ⟨b, bs, bv, br, rfl, hb2, r1, r2, r3⟩ := pq
  refine ⟨_, rfl, _, rfl, a, _, _, _, rfl, rfl, hx, at_of (j := n + 1) rfl hx2, ?_⟩
  refine ⟨_, rfl, b, _, _, _, rfl, rfl, hb2, at1 rfl, _, rfl, _, rfl, _, _, rfl, rfl, a, _, _, _, rfl, rfl, hx, at_of (j := n) (by omega) hx1, _, rfl, b, _, _, _, rfl, rfl, hb2, at0 rfl, ?_⟩
  refine ⟨_, _, p, q.s, i, j, l, i, rfl, pp, r1, zs1, zv1, zr1, zs2, by omega, fun w1 H1 s1 g1 => ?_⟩
  refine ⟨_, _, q.v, _, j, j + (l + (i + i + 1)) + 1, rfl, r2.same s1, g1, zv2, zv1.add (zr1.mul (zs2.sub zs1)), by omega, fun w2 H2 s2 g2 => z _ _ (s1.trans s2) ?_⟩
  rw [← jmp_at]
  exact g2
/-- a start and a jump -/
def Jq (K : PySem.W.Frag) (H : Hp) (x : V) (p : Rat × Rat) : Prop := ∃ a xs xj, x = .ref a ∧ SqT K H a [xs, xj] ∧ Rq K H xs p.1 ∧ Rq K H xj p.2
theorem Jq.same {H H' : Hp} {x : V} {p : Rat × Rat} (e : Same H H') (h : Jq K H x p) : Jq K H' x p := by
  obtain ⟨a, xs, xj, rfl, h, h1, h2⟩ := h
  exact ⟨a, xs, xj, rfl, e.sqt h, h1.same e, h2.same e⟩
theorem Jq.fr {s : Addr} {H H' : Hp} {x : V} {p : Rat × Rat} (e : Fr s H H') (hs : ∃ ys, H s = some (.lst ys)) (h : Jq K H x p) : Jq K H' x p := by
  obtain ⟨a, xs, xj, rfl, h, h1, h2⟩ := h
  exact ⟨a, xs, xj, rfl, sqt_fr e hs h, h1.fr e hs, h2.fr e hs⟩
def djp (p : Rat × Rat) : PyData := .tuple [dq p.1, dq p.2]
theorem Jq.dp {H : Hp} {v : V} {p : Rat × Rat} (h : Jq K H v p) : Dp K H v (djp p) := by
  obtain ⟨a, xs, xj, rfl, h, h1, h2⟩ := h
  exact .tup h (.cons h1.dp (.cons h2.dp .nil))
theorem jl_len (c : List Pc) : (jl c).length ≤ c.length := by
  have g : ∀ (c : List Pc) k, (jlG k c).length ≤ c.length := fun c => by
    induction c with
    | nil => exact fun _ => Nat.le_refl _
    | cons q c ih =>
      intro k
      have := ih (ky q)
      rw [jlG]
      split
      · rw [List.length_cons]; omega
      · rw [List.length_cons, List.length_cons]; omega
  cases c with
  | nil => exact Nat.le_refl _
  | cons p c =>
    have := g c (ky p)
    show (jlG (ky p) c).length ≤ _
    rw [List.length_cons]
    omega
def spJumps (K : PySem.W.Frag) : Sp := fun vs H Q _ => ∃ (a : Addr) (c : List Pc) (i j l : Nat), vs = [.ref a] ∧ Cq K H a c ∧ Cz i j l c ∧ 1 ≤ c.length ∧ c.length ≤ 900 ∧ j + j + l + i + i + 5 ≤ 9000 ∧
  ∀ D us H', Same H H' → H D = none → H' D = some (.lst us) → All2 (Jq K H') us (jl c) → Q (.ref D) H'
abbrev s_tidy : Stmt := top 30
abbrev N_tidy : List Str := ["course", "kept", "at"]
theorem sc_tidy : FnScope N_tidy ["course"] (defScope s_tidy) := ⟨rfl, rfl, rfl, by decide +kernel, rfl, by decide +kernel, by decide +kernel⟩
abbrev ps_tidy : List Str := ["course"]
def spTidy (K : PySem.W.Frag) : Sp := fun vs H Q _ => ∃ (a : Addr) (c : List Pc) (i j l : Nat), vs = [.ref a] ∧ Cq K H a c ∧ Cz i j l c ∧ 1 ≤ c.length ∧ c.length ≤ 900 ∧ j + j + l + i + i + 5 ≤ 9000 ∧
  ∀ D us H', Same H H' → H D = none → Ct K H' D us (tl c) → Q (.ref D) H'
end Vk
namespace Vk
open PySem L2 Vm
variable {l az : Addr} {P : Program} {w : World} {K : PySem.W.Frag} {mg : Str → Option Value} {base : Heap} {k : Nat} {f f1 f2 f3 f4 f5 f6 f7 f8 f9 : Addr} {fd fd1 fd2 fd3 fd4 fd5 fd6 fd7 fd8 fd9 : FuncData}
theorem num0 (q : Rat) : (V.int q.num = V.int 0) ↔ q = 0 := by
  constructor
  · intro h
    exact Rat.num_eq_zero.mp (V.int.inj h)
  · intro h
    rw [h]
    rfl
def spJD (K : PySem.W.Frag) : Sp := fun vs H Q _ => ∃ (a : Addr) (c : List Pc) (i j l : Nat), vs = [.ref a] ∧ Cq K H a c ∧ Cok c ∧ Cz i j l c ∧ 1 ≤ c.length ∧ c.length ≤ 900 ∧ i + j + l ≤ 500 ∧
  ∀ D us H', Same H H' → H D = none → H' D = some (.lst us) → All2 (Jq K H') us (jl c) → Q (.ref D) H'
def nV (n : Nat) : V := .int (n : Int)
def spCont (K : PySem.W.Frag) : Sp := fun vs H Q _ => ∃ (a : Addr) (c : List Pc) (i j l : Nat), vs = [.ref a] ∧ Cq K H a c ∧ Cok c ∧ Cz i j l c ∧ 1 ≤ c.length ∧ c.length ≤ 900 ∧ i + j + l ≤ 500 ∧
  ∀ D H', Same H H' → H D = none → H' D = some (.lst ((gl c c.length).map nV)) → Q (.ref D) H'
def spIsC (K : PySem.W.Frag) : Sp := fun vs H Q _ => ∃ (a : Addr) (c : List Pc) (i j l : Nat), vs = [.ref a] ∧ Cq K H a c ∧ Cok c ∧ Cz i j l c ∧ 1 ≤ c.length ∧ c.length ≤ 900 ∧ i + j + l ≤ 500 ∧ ∀ H', Same H H' → Q (.bl true) H'
end Vk
namespace Vk
open PySem L2 Vm
variable {l az : Addr} {P : Program} {w : World} {K : PySem.W.Frag} {mg : Str → Option Value} {base : Heap} {k : Nat} {f f1 f2 f3 f4 f5 f6 f7 f8 f9 : Addr} {fd fd1 fd2 fd3 fd4 fd5 fd6 fd7 fd8 fd9 : FuncData}
def spOrd8 (K : PySem.W.Frag) : Sp := fun vs H Q _ => ∃ (a : Addr) (xs : List V) (qs : List Rat) (m : Nat), vs = [.ref a] ∧ SqL K H a xs ∧ All2 (Rq K H) xs qs ∧ (∀ q ∈ qs, Sz m q) ∧ m ≤ 4000 ∧ qs.length ≤ 900 ∧
  ∀ D us os H', Same H H' → H D = none → H' D = some (.lst us) → All2 (Rq K H') us os → Asc os → (∀ o ∈ os, o ∈ qs) → os.length ≤ qs.length → (∀ q ∈ qs, q ∈ os) → Q (.ref D) H'
/-- a start and None -/
def Sn (K : PySem.W.Frag) (H : Hp) (x : V) (q : Rat) : Prop := ∃ a xs, x = .ref a ∧ SqT K H a [xs, .non] ∧ Rq K H xs q
theorem Sn.same {H H' : Hp} {x : V} {q : Rat} (e : Same H H') (h : Sn K H x q) : Sn K H' x q := by
  obtain ⟨a, xs, rfl, h, h1⟩ := h
  exact ⟨a, xs, rfl, e.sqt h, h1.same e⟩
theorem Sn.fr {s : Addr} {H H' : Hp} {x : V} {q : Rat} (e : Fr s H H') (hs : ∃ ys, H s = some (.lst ys)) (h : Sn K H x q) : Sn K H' x q := by
  obtain ⟨a, xs, rfl, h, h1⟩ := h
  exact ⟨a, xs, rfl, sqt_fr e hs h, h1.fr e hs⟩
def spProbes (K : PySem.W.Frag) : Sp := fun vs H Q _ => ∃ (a : Addr) (xs : List V) (qs : List Rat) (m : Nat), vs = [.ref a] ∧ SqL K H a xs ∧ All2 (Sn K H) xs qs ∧ (∀ q ∈ qs, Sz m q) ∧ m ≤ 500 ∧ 1 ≤ qs.length ∧ qs.length ≤ 100 ∧
  ∀ D us ts H', Same H H' → H D = none → H' D = some (.lst us) → All2 (Rq K H') us ts → (∀ t ∈ ts, Sz (m + m + 4) t) → (∃ t ∈ ts, ∀ q ∈ qs, q < t) → ts.length ≤ 400 → Q (.ref D) H'
end Vk
namespace Vk
open PySem L2 Vm
variable {l az : Addr} {P : Program} {w : World} {K : PySem.W.Frag} {mg : Str → Option Value} {base : Heap} {k : Nat} {f f1 f2 f3 f4 f5 f6 f7 f8 f9 : Addr} {fd fd1 fd2 fd3 fd4 fd5 fd6 fd7 fd8 fd9 : FuncData}
/-! ### rationals over a common denominator -/
def Fx (M B : Nat) (q : Rat) : Prop := ∃ z : Int, q * (M : Rat) = (z : Rat) ∧ z.natAbs ≤ M * B
theorem Fx.mono {M B C : Nat} {q : Rat} (h : Fx M B q) (l : B ≤ C) : Fx M C q := by
  obtain ⟨z, e, hz⟩ := h
  exact ⟨z, e, Nat.le_trans hz (Nat.mul_le_mul_left M l)⟩
theorem Fx.add {M B C : Nat} {p q : Rat} (h : Fx M B p) (g : Fx M C q) : Fx M (B + C) (p + q) := by
  obtain ⟨z, e, hz⟩ := h
  obtain ⟨y, d, hy⟩ := g
  refine ⟨z + y, by rw [Rat.add_mul, e, d, Rat.intCast_add], ?_⟩
  rw [Nat.mul_add]
  omega
theorem Fx.neg {M B : Nat} {p : Rat} (h : Fx M B p) : Fx M B (-p) := by
  obtain ⟨z, e, hz⟩ := h
  exact ⟨-z, by rw [Rat.neg_mul, e, Rat.intCast_neg], by rw [Int.natAbs_neg]; exact hz⟩
theorem Fx.sub {M B C : Nat} {p q : Rat} (h : Fx M B p) (g : Fx M C q) : Fx M (B + C) (p - q) := by
  rw [Rat.sub_eq_add_neg]
  exact h.add g.neg
theorem Fx.mul {M N B C : Nat} {p q : Rat} (h : Fx M B p) (g : Fx N C q) : Fx (M * N) (B * C) (p * q) := by
  obtain ⟨z, e, hz⟩ := h
  obtain ⟨y, d, hy⟩ := g
  refine ⟨z * y, ?_, ?_⟩
  · rw [Rat.intCast_mul, ← e, ← d, Rat.natCast_mul]
    grind
  · rw [Int.natAbs_mul]
    calc z.natAbs * y.natAbs ≤ (M * B) * (N * C) := Nat.mul_le_mul hz hy
      _ = (M * N) * (B * C) := by grind
theorem Fx.lift {M B : Nat} {q : Rat} (N : Nat) (h : Fx M B q) : Fx (M * N) B q := by
  obtain ⟨z, e, hz⟩ := h
  refine ⟨z * (N : Int), ?_, ?_⟩
  · rw [Rat.intCast_mul, ← e, Rat.natCast_mul]
    have : (((N : Int)) : Rat) = (N : Rat) := rfl
    rw [this]
    grind
  · rw [Int.natAbs_mul, Int.natAbs_natCast]
    calc z.natAbs * N ≤ (M * B) * N := Nat.mul_le_mul_right N hz
      _ = (M * N) * B := by grind
theorem Fx.half {M B : Nat} {q : Rat} (h : Fx M B q) : Fx (M * 2) B (q * mkRat 1 2) := by
  obtain ⟨z, e, hz⟩ := h
  have eh : mkRat 1 2 = (1 : Rat) / 2 := by decide +kernel
  refine ⟨z, ?_, ?_⟩
  · rw [← e, eh, Rat.natCast_mul]
    have : ((2 : Nat) : Rat) = 2 := rfl
    rw [this]
    grind
  · have : M * 2 * B = M * B + M * B := by grind
    omega
theorem Fx.sz {M B k : Nat} {q : Rat} (h : Fx M B q) (m0 : M ≠ 0) (hb : M * B < 2 ^ k) (hm : M < 2 ^ k) : Sz k q := by
  obtain ⟨z, e, hz⟩ := h
  have mr : ((M : Nat) : Rat) ≠ 0 := by
    intro h
    exact m0 (by exact_mod_cast h)
  have eq : q = mkRat z M := by
    rw [Rat.mkRat_eq_div]
    have : (((M : Int)) : Rat) = (M : Rat) := rfl
    rw [← e]
    grind
  rw [eq]
  exact sz_mk m0 (by omega) hm
/-- what each number below 32 divides -/
def LL : Nat := 72201776446800
theorem LL_dvd : ∀ d, d < 32 → 0 < d → d ∣ LL := by decide +kernel
theorem fx5 {q : Rat} (h : Sz 5 q) : Fx LL 31 q := by
  have p5 : (2 : Nat) ^ 5 = 32 := by decide
  have h1 := h.1
  have h2 := h.2
  rw [p5] at h1 h2
  obtain ⟨m, hm⟩ := LL_dvd q.den h2 q.den_pos
  refine ⟨q.num * (m : Int), ?_, ?_⟩
  · have e : q * (q.den : Rat) = (q.num : Rat) := by
      have d := Rat.mkRat_eq_div q.num q.den
      rw [Rat.mkRat_self] at d
      have nz : ((q.den : Nat) : Rat) ≠ 0 := by
        intro h
        exact q.den_nz (by exact_mod_cast h)
      have e2 : ((q.den : Int) : Rat) = (q.den : Rat) := rfl
      generalize ((q.den : Nat) : Rat) = x at d nz ⊢
      generalize ((q.num : Int) : Rat) = y at d ⊢
      grind
    rw [hm, Rat.natCast_mul, Rat.intCast_mul, ← e]
    have : (((m : Int)) : Rat) = (m : Rat) := rfl
    rw [this]
    grind
  · rw [Int.natAbs_mul, Int.natAbs_natCast]
    have : m ≤ LL := Nat.le_of_dvd (by decide) ⟨q.den, by rw [hm, Nat.mul_comm]⟩
    calc q.num.natAbs * m ≤ 31 * LL := Nat.mul_le_mul (by omega) this
      _ = LL * 31 := Nat.mul_comm _ _
theorem Fx.szL {B : Nat} {q : Rat} (h : Fx LL B q) (l : B ≤ 1300) : Sz 62 q := (h.mono l).sz (by decide) (by decide +kernel) (by decide +kernel)
theorem Fx.szW {B : Nat} {q : Rat} (h : Fx (LL * LL) B q) (l : B ≤ 50000) : Sz 115 q := (h.mono l).sz (by decide +kernel) (by decide +kernel) (by decide +kernel)
/-- a course's sizes, cut n times -/
def Fz (n : Nat) (c : List Pc) : Prop := ∀ p ∈ c, Fx (LL * 2 ^ n) (1300 + 40 * n) p.s ∧ Fx (LL * LL * 2 ^ n) (50000 + 100000 * n) p.v ∧ Sz 5 p.r
theorem Fz.snoc {n : Nat} {c : List Pc} {x : Pc} (h : Fz n c) (z : Fx (LL * 2 ^ n) (1300 + 40 * n) x.s ∧ Fx (LL * LL * 2 ^ n) (50000 + 100000 * n) x.v ∧ Sz 5 x.r) : Fz n (c ++ [x]) := fun p hp => by
  rcases List.mem_append.mp hp with hp | hp
  · exact h p hp
  · rw [List.mem_singleton.mp hp]
    exact z
theorem fz0 {s v r : Rat} (h1 : Fx LL 1300 s) (h2 : Fx (LL * LL) 50000 v) (h3 : Sz 5 r) : Fx (LL * 2 ^ 0) (1300 + 40 * 0) s ∧ Fx (LL * LL * 2 ^ 0) (50000 + 100000 * 0) v ∧ Sz 5 r := by
  refine ⟨?_, ?_, h3⟩
  · rw [Nat.pow_zero, Nat.mul_one]; exact h1
  · rw [Nat.pow_zero, Nat.mul_one]; exact h2
theorem fzz_s {n : Nat} (h : n ≤ 4) {q : Rat} (z : Fx (LL * 2 ^ n) (1300 + 40 * n) q) : Sz 62 q := by
  have h16 : 2 ^ n ≤ 16 := by
    have := Nat.pow_le_pow_right (show 0 < 2 by decide) h
    exact this
  have hn : (2 : Nat) ^ n ≠ 0 := by have := Nat.two_pow_pos n; omega
  have hm : LL * 2 ^ n ≤ LL * 16 := Nat.mul_le_mul_left _ h16
  refine (z.mono (show 1300 + 40 * n ≤ 1500 by omega)).sz (Nat.mul_ne_zero (by decide) hn) (Nat.lt_of_le_of_lt (Nat.mul_le_mul_right 1500 hm) (by decide +kernel)) (Nat.lt_of_le_of_lt hm (by decide +kernel))
theorem fzz_v {n : Nat} (h : n ≤ 4) {q : Rat} (z : Fx (LL * LL * 2 ^ n) (50000 + 100000 * n) q) : Sz 115 q := by
  have h16 : 2 ^ n ≤ 16 := by
    have := Nat.pow_le_pow_right (show 0 < 2 by decide) h
    exact this
  have hn : (2 : Nat) ^ n ≠ 0 := by have := Nat.two_pow_pos n; omega
  have hm : LL * LL * 2 ^ n ≤ LL * LL * 16 := Nat.mul_le_mul_left _ h16
  refine (z.mono (show 50000 + 100000 * n ≤ 450000 by omega)).sz (Nat.mul_ne_zero (by decide +kernel) hn) (Nat.lt_of_le_of_lt (Nat.mul_le_mul_right 450000 hm) (by decide +kernel)) (Nat.lt_of_le_of_lt hm (by decide +kernel))
theorem Fz.cz {n : Nat} {c : List Pc} (h : n ≤ 4) (z : Fz n c) : Cz 62 115 5 c := fun p hp => ⟨fzz_s h (z p hp).1, fzz_v h (z p hp).2.1, (z p hp).2.2⟩
def spCourse8 (K : PySem.W.Frag) (l : Addr) : Sp := fun vs H Q _ => ∃ (s : Addr) (many : Nat) (fall : Bool), vs = [.ref s, .int many, .bl fall] ∧ Sto l s H ∧ many ≤ 40 ∧
  ∀ D us c H', Bun (Pq K) l s D H us c H' → c.length = many → Cok c → Fz 0 c → Q (.ref D) H'
end Vk
namespace Vk
open PySem L2 Vm Vs
variable {l az : Addr} {P : Program} {w : World} {K : PySem.W.Frag} {mg : Str → Option Value} {base : Heap} {k : Nat} {f f1 f2 f3 f4 f5 f6 f7 f8 f9 : Addr} {fd fd1 fd2 fd3 fd4 fd5 fd6 fd7 fd8 fd9 : FuncData}
/-! ### ends and spans -/
def OSz (m : Nat) (o : Option Rat) : Prop := ∀ q, o = some q → Sz m q
def SSz (m : Nat) (s : Spn) : Prop := OSz m s.1 ∧ OSz m s.2
theorem optV.same {H H' : Hp} {v : V} {o : Option Rat} (e : Same H H') (h : optV K H v o) : optV K H' v o := by
  cases o with
  | none => exact h
  | some q => exact Rq.same e h
theorem optV.fr {s : Addr} {H H' : Hp} {v : V} {o : Option Rat} (e : Fr s H H') (hs : ∃ ys, H s = some (.lst ys)) (h : optV K H v o) : optV K H' v o := by
  cases o with
  | none => exact h
  | some q => exact Rq.fr e hs h
def Spq (K : PySem.W.Frag) (H : Hp) (x : V) (s : Spn) : Prop := ∃ a u v, x = .ref a ∧ SqT K H a [u, v] ∧ optV K H u s.1 ∧ optV K H v s.2
theorem Spq.same {H H' : Hp} {x : V} {s : Spn} (e : Same H H') (h : Spq K H x s) : Spq K H' x s := by
  obtain ⟨a, u, v, rfl, h, h1, h2⟩ := h
  exact ⟨a, u, v, rfl, e.sqt h, h1.same e, h2.same e⟩
theorem Spq.fr {s : Addr} {H H' : Hp} {x : V} {p : Spn} (e : Fr s H H') (hs : ∃ ys, H s = some (.lst ys)) (h : Spq K H x p) : Spq K H' x p := by
  obtain ⟨a, u, v, rfl, h, h1, h2⟩ := h
  exact ⟨a, u, v, rfl, sqt_fr e hs h, h1.fr e hs, h2.fr e hs⟩
def oSp (K : PySem.W.Frag) (H : Hp) (x : V) : Option Spn → Prop
  | none => x = .non
  | some s => Spq K H x s
theorem oSp.same {H H' : Hp} {x : V} {o : Option Spn} (e : Same H H') (h : oSp K H x o) : oSp K H' x o := by
  cases o with
  | none => exact h
  | some q => exact Spq.same e h
theorem osz_max {m : Nat} {a b : Option Rat} (h : OSz m a) (g : OSz m b) : OSz m (maxO a b) := by
  cases a with
  | none => exact g
  | some p => cases b with
    | none => exact h
    | some q =>
      intro r e
      simp only [maxO] at e
      cases Option.some.inj e
      split
      · exact h _ rfl
      · exact g _ rfl
theorem osz_min {m : Nat} {a b : Option Rat} (h : OSz m a) (g : OSz m b) : OSz m (minO a b) := by
  cases a with
  | none => exact g
  | some p => cases b with
    | none => exact h
    | some q =>
      intro r e
      simp only [minO] at e
      cases Option.some.inj e
      split
      · exact h _ rfl
      · exact g _ rfl
theorem osz_mov {m j : Nat} {o : Option Rat} {d : Rat} (h : OSz m o) (g : Sz j d) : OSz (m + j + 1) (movO o d) := by
  cases o with
  | none => nofun
  | some q => intro r e; cases Option.some.inj e; exact (h _ rfl).add g
theorem osz_neg {m : Nat} {o : Option Rat} (h : OSz m o) : OSz m (negO o) := by
  cases o with
  | none => nofun
  | some q => intro r e; cases Option.some.inj e; exact (h _ rfl).neg
theorem osz_up {m j : Nat} {o : Option Rat} (h : OSz m o) (e : m ≤ j) : OSz j o := fun q g => (h q g).mono e
theorem ssz_meet {m : Nat} {a b s : Spn} (h : SSz m a) (g : SSz m b) (e : meetO a b = some s) : SSz m s := by
  unfold meetO at e
  split at e
  · cases e
  · cases e
    exact ⟨osz_max h.1 g.1, osz_min h.2 g.2⟩
theorem ssz_off {x y : Rat} {i j : Nat} {fo ba s : Spn} (hx : Sz j x) (hy : Sz j y) (h : SSz i fo) (g : SSz i ba) (e : offO x y fo ba = some s) : SSz (i + j + 1) s :=
  ssz_meet ⟨osz_mov (osz_neg h.2) hx, osz_mov (osz_neg h.1) hx⟩ ⟨osz_mov g.1 hy, osz_mov g.2 hy⟩ e
/-- the written half -/
structure Hf (K : PySem.W.Frag) (mg : Str → Option Value) (az : Addr) : Prop where
  m : mg "HALF" = some (.ref az)
  q : ∀ H, Rq K H (.ref az) (1 / 2)
/-! ### the lesser and the greater one -/
def spSel (K : PySem.W.Frag) (g : Rat → Rat → Rat) : Sp := fun vs H Q _ => ∃ (x y : V) (p q : Rat) (m l : Nat), vs = [x, y] ∧ Rq K H x p ∧ Rq K H y q ∧ Sz m p ∧ Sz l q ∧ m + l + 1 ≤ 9000 ∧ ∀ v, Rq K H v (g p q) → Q v H
theorem sg_le {p q : Rat} : sg p q ≤ 0 ↔ p ≤ q := by
  unfold sg
  split
  · rename_i h
    subst h
    simp [Rat.le_refl]
  · split
    · rename_i h1 h2
      exact ⟨fun _ => by grind, fun _ => by omega⟩
    · rename_i h1 h2
      exact ⟨fun h => by omega, fun h => absurd h (by grind)⟩
abbrev s_smaller : Stmt := top 21
abbrev N_smaller : List Str := ["a", "b"]
theorem sc_smaller : FnScope N_smaller ["a", "b"] (defScope s_smaller) := ⟨rfl, rfl, rfl, by decide +kernel, rfl, by decide +kernel, by decide +kernel⟩
abbrev ps_smaller : List Str := ["a", "b"]
theorem ok_smaller (F : Fn K mg "smaller" s_smaller ps_smaller f fd) (dcompare : Def P w K mg base k "compare" ["a", "b"] (spTest2 K fun p q => .int (sg p q)) f1 fd1) : Def P w K mg base (k + 1) "smaller" ps_smaller (spSel K fun p q => if p ≤ q then p else q) f fd := by
  refine ⟨F.F.ok sc_smaller (fun vs H Q E h => ?_) (fun cdv A outer s H vs Q E hr h => ?_), F.m, F.F.kp, F.b⟩
  · obtain ⟨x, y, p, q, m, l, rfl, _⟩ := h
    rfl
  obtain ⟨x, y, p, q, m, l, rfl, ha, hb, zp, zq, hm, z⟩ := h
  refine ⟨_, (pss_one (ps_ret (pe_ifExp (pt_cmpR op_le (pcall dcompare hr (pa_cons (pv 0) (pa_cons (pv 1) pa_nil))) pe_int (nomark _)) (pv 0) (pv 1)))), ?_⟩
  refine ⟨_, rfl, _, rfl, x, y, p, q, m, l, rfl, ha, hb, zp, zq, by omega, _, _, rfl, rfl, _, rfl, ifD (fun c => ⟨_, rfl, z _ ?_⟩) (fun c => ⟨_, rfl, z _ ?_⟩)⟩
  · dsimp only; rw [if_pos (sg_le.mp c)]; exact ha
  · dsimp only; rw [if_neg (fun e => c (sg_le.mpr e))]; exact hb
abbrev s_larger : Stmt := top 22
abbrev N_larger : List Str := ["a", "b"]
theorem sc_larger : FnScope N_larger ["a", "b"] (defScope s_larger) := ⟨rfl, rfl, rfl, by decide +kernel, rfl, by decide +kernel, by decide +kernel⟩
abbrev ps_larger : List Str := ["a", "b"]
theorem ok_larger (F : Fn K mg "larger" s_larger ps_larger f fd) (dcompare : Def P w K mg base k "compare" ["a", "b"] (spTest2 K fun p q => .int (sg p q)) f1 fd1) : Def P w K mg base (k + 1) "larger" ps_larger (spSel K fun p q => if q ≤ p then p else q) f fd := by
  refine ⟨F.F.ok sc_larger (fun vs H Q E h => ?_) (fun cdv A outer s H vs Q E hr h => ?_), F.m, F.F.kp, F.b⟩
  · obtain ⟨x, y, p, q, m, l, rfl, _⟩ := h
    rfl
  obtain ⟨x, y, p, q, m, l, rfl, ha, hb, zp, zq, hm, z⟩ := h
  refine ⟨_, (pss_one (ps_ret (pe_ifExp (pt_cmpR op_ge (pcall dcompare hr (pa_cons (pv 0) (pa_cons (pv 1) pa_nil))) pe_int (nomark _)) (pv 0) (pv 1)))), ?_⟩
  refine ⟨_, rfl, _, rfl, x, y, p, q, m, l, rfl, ha, hb, zp, zq, by omega, _, _, rfl, rfl, _, rfl, ifD (fun c => ⟨_, rfl, z _ ?_⟩) (fun c => ⟨_, rfl, z _ ?_⟩)⟩
  · dsimp only; rw [if_pos (sg_ge.mp c)]; exact ha
  · dsimp only; rw [if_neg (fun e => c (sg_ge.mpr e))]; exact hb
def spEnd2 (K : PySem.W.Frag) (g : Option Rat → Option Rat → Option Rat) : Sp := fun vs H Q _ => ∃ (x y : V) (p q : Option Rat) (m : Nat), vs = [x, y] ∧ optV K H x p ∧ optV K H y q ∧ OSz m p ∧ OSz m q ∧ m + m + 1 ≤ 9000 ∧ ∀ v, optV K H v (g p q) → Q v H
abbrev s__higher_low : Stmt := top 35
abbrev N__higher_low : List Str := ["a", "b"]
theorem sc__higher_low : FnScope N__higher_low ["a", "b"] (defScope s__higher_low) := ⟨rfl, rfl, rfl, by decide +kernel, rfl, by decide +kernel, by decide +kernel⟩
abbrev ps__higher_low : List Str := ["a", "b"]
theorem ok_higher_low (F : Fn K mg "_higher_low" s__higher_low ps__higher_low f fd) (dlarger : Def P w K mg base k "larger" ["a", "b"] (spSel K fun p q => if q ≤ p then p else q) f1 fd1) : Def P w K mg base (k + 1) "_higher_low" ps__higher_low (spEnd2 K maxO) f fd := by
  refine ⟨F.F.ok sc__higher_low (fun vs H Q E h => ?_) (fun cdv A outer s H vs Q E hr h => ?_), F.m, F.F.kp, F.b⟩
  · obtain ⟨x, y, p, q, m, rfl, _⟩ := h
    rfl
  obtain ⟨x, y, p, q, m, rfl, ha, hb, zp, zq, hm, z⟩ := h
  refine ⟨_, (pss_cons (ps_if (pt_cmpR op_isN (pv 0) pe_non (nomark _))
        (pss_one (ps_ret (pv 1)))
        pss_nil)
      (pss_one (ps_ret (pe_ifExp (pt_cmpR op_isN (pv 1) pe_non (nomark _)) (pv 0) (pcall dlarger hr (pa_cons (pv 0) (pa_cons (pv 1) pa_nil))))))), ?_⟩
  cases p with
  | none =>
    cases (show x = .non from ha)
    exact ⟨_, rfl, rfl, _, rfl, ifT (dT rfl) ⟨_, rfl, z _ hb⟩⟩
  | some p =>
    have ha : Rq K H x p := ha
    obtain ⟨a, rfl, ha'⟩ := id ha
    refine ⟨_, rfl, rfl, _, rfl, ifF (dF nofun) ?_⟩
    cases q with
    | none =>
      cases (show y = .non from hb)
      exact ⟨_, rfl, rfl, _, rfl, ifT (dT rfl) ⟨_, rfl, z _ ha⟩⟩
    | some q =>
      have hb : Rq K H y q := hb
      obtain ⟨b, rfl, hb'⟩ := id hb
      exact ⟨_, rfl, rfl, _, rfl, ifF (dF nofun) ⟨_, rfl, _, rfl, _, _, p, q, m, m, rfl, ha, hb, zp _ rfl, zq _ rfl, hm, fun v hv => z _ hv⟩⟩
abbrev s__lower_high : Stmt := top 36
abbrev N__lower_high : List Str := ["a", "b"]
theorem sc__lower_high : FnScope N__lower_high ["a", "b"] (defScope s__lower_high) := ⟨rfl, rfl, rfl, by decide +kernel, rfl, by decide +kernel, by decide +kernel⟩
abbrev ps__lower_high : List Str := ["a", "b"]
theorem ok_lower_high (F : Fn K mg "_lower_high" s__lower_high ps__lower_high f fd) (dsmaller : Def P w K mg base k "smaller" ["a", "b"] (spSel K fun p q => if p ≤ q then p else q) f1 fd1) : Def P w K mg base (k + 1) "_lower_high" ps__lower_high (spEnd2 K minO) f fd := by
  refine ⟨F.F.ok sc__lower_high (fun vs H Q E h => ?_) (fun cdv A outer s H vs Q E hr h => ?_), F.m, F.F.kp, F.b⟩
  · obtain ⟨x, y, p, q, m, rfl, _⟩ := h
    rfl
  obtain ⟨x, y, p, q, m, rfl, ha, hb, zp, zq, hm, z⟩ := h
  refine ⟨_, (pss_cons (ps_if (pt_cmpR op_isN (pv 0) pe_non (nomark _))
        (pss_one (ps_ret (pv 1)))
        pss_nil)
      (pss_one (ps_ret (pe_ifExp (pt_cmpR op_isN (pv 1) pe_non (nomark _)) (pv 0) (pcall dsmaller hr (pa_cons (pv 0) (pa_cons (pv 1) pa_nil))))))), ?_⟩
  cases p with
  | none =>
    cases (show x = .non from ha)
    exact ⟨_, rfl, rfl, _, rfl, ifT (dT rfl) ⟨_, rfl, z _ hb⟩⟩
  | some p =>
    have ha : Rq K H x p := ha
    obtain ⟨a, rfl, ha'⟩ := id ha
    refine ⟨_, rfl, rfl, _, rfl, ifF (dF nofun) ?_⟩
    cases q with
    | none =>
      cases (show y = .non from hb)
      exact ⟨_, rfl, rfl, _, rfl, ifT (dT rfl) ⟨_, rfl, z _ ha⟩⟩
    | some q =>
      have hb : Rq K H y q := hb
      obtain ⟨b, rfl, hb'⟩ := id hb
      exact ⟨_, rfl, rfl, _, rfl, ifF (dF nofun) ⟨_, rfl, _, rfl, _, _, p, q, m, m, rfl, ha, hb, zp _ rfl, zq _ rfl, hm, fun v hv => z _ hv⟩⟩
abbrev s_meet : Stmt := top 37
abbrev N_meet : List Str := ["a", "b", "low", "high"]
theorem sc_meet : FnScope N_meet ["a", "b"] (defScope s_meet) := ⟨rfl, rfl, rfl, by decide +kernel, rfl, by decide +kernel, by decide +kernel⟩
abbrev ps_meet : List Str := ["a", "b"]
def spMeet (K : PySem.W.Frag) : Sp := fun vs H Q _ => ∃ (x y : V) (s t : Spn) (m : Nat), vs = [x, y] ∧ Spq K H x s ∧ Spq K H y t ∧ SSz m s ∧ SSz m t ∧ m + m + 1 ≤ 9000 ∧ ∀ v H', Same H H' → oSp K H' v (meetO s t) → Q v H'
theorem sg_gt {p q : Rat} : 0 < sg p q ↔ q < p := by
  have := @sg_le p q
  constructor
  · intro h; exact Rat.not_le.mp fun e => by have := this.mpr e; omega
  · intro h; exact Int.not_le.mp fun e => absurd (this.mp e) (Rat.not_le.mpr h)
theorem ok_meet (F : Fn K mg "meet" s_meet ps_meet f fd) (d_higher_low : Def P w K mg base k "_higher_low" ["a", "b"] (spEnd2 K maxO) f1 fd1) (d_lower_high : Def P w K mg base k "_lower_high" ["a", "b"] (spEnd2 K minO) f2 fd2) (dcompare : Def P w K mg base k "compare" ["a", "b"] (spTest2 K fun p q => .int (sg p q)) f3 fd3) :
    Def P w K mg base (k + 1) "meet" ps_meet (spMeet K) f fd := by
  refine ⟨F.F.ok sc_meet (fun vs H Q E h => ?_) (fun cdv A outer s H vs Q E hr h => ?_), F.m, F.F.kp, F.b⟩
  · obtain ⟨x, y, p, q, m, rfl, _⟩ := h
    rfl
  obtain ⟨x, y, s, t, m, rfl, ⟨a, u1, v1, rfl, ha, hu1, hv1⟩, ⟨b, u2, v2, rfl, hb, hu2, hv2⟩, zs, zt, hm, z⟩ := h
  refine ⟨_, (pss_cons (ps_set (i := 2) sc_meet.nd rfl (Or.inl rfl) (pcall d_higher_low hr (pa_cons (pe_ix ix_tup (pv 0) pe_int (fun _ _ => rfl)) (pa_cons (pe_ix ix_tup (pv 1) pe_int (fun _ _ => rfl)) pa_nil))))
      (pss_cons (ps_set (i := 3) sc_meet.nd rfl (Or.inl rfl) (pcall d_lower_high hr (pa_cons (pe_ix ix_tup (pv 0) pe_int (fun _ _ => rfl)) (pa_cons (pe_ix ix_tup (pv 1) pe_int (fun _ _ => rfl)) pa_nil))))
      (pss_cons (ps_if (PW.pt (pw_and (pt_cmpR op_notN (pv 2) pe_non (nomark _)) (pw_and (pt_cmpR op_notN (pv 3) pe_non (nomark _)) (pw_and1 (pt_cmpR op_gt (pcall dcompare hr (pa_cons (pv 2) (pa_cons (pv 3) pa_nil))) pe_int (nomark _))))))
        (pss_one (ps_ret pe_non))
        pss_nil)
      (pss_one (ps_ret (pe_tup (pa_cons (pv 2) (pa_cons (pv 3) pa_nil)))))))), ?_⟩
  refine ⟨_, rfl, a, _, _, _, rfl, rfl, ha, at0 rfl, _, rfl, b, _, _, _, rfl, rfl, hb, at0 rfl, _, _, s.1, t.1, m, rfl, hu1, hu2, zs.1, zt.1, hm, fun lo hlo => ?_⟩
  refine ⟨_, rfl, a, _, _, _, rfl, rfl, ha, at1 rfl, _, rfl, b, _, _, _, rfl, rfl, hb, at1 rfl, _, _, s.2, t.2, m, rfl, hv1, hv2, zs.2, zt.2, hm, fun hi hhi => ?_⟩
  have zl := osz_max zs.1 zt.1
  have zh := osz_min zs.2 zt.2
  have em : meetO s t = if crossed (maxO s.1 t.1) (minO s.2 t.2) = true then none else some (maxO s.1 t.1, minO s.2 t.2) := rfl
  have fin : crossed (maxO s.1 t.1) (minO s.2 t.2) = false → ∀ T, H T = none → Q (.ref T) (upd H T (.tup [lo, hi])) := fun c T hT => by
    have sT := same_new hT (.tup [lo, hi])
    refine z _ _ sT ?_
    rw [em, c]
    exact ⟨T, _, _, rfl, SqT.of upd_same, hlo.same sT, hhi.same sT⟩
  generalize maxO s.1 t.1 = oL at hlo zl em fin
  generalize minO s.2 t.2 = oH at hhi zh em fin
  cases oL with
  | none =>
    cases (show lo = .non from hlo)
    exact ⟨_, rfl, rfl, _, rfl, ifF rfl (ifF rfl ⟨_, rfl, _, rfl, sz2, fin rfl⟩)⟩
  | some p =>
    have hlo' : Rq K H lo p := hlo
    obtain ⟨c, rfl, _⟩ := id hlo'
    refine ⟨_, rfl, rfl, _, rfl, ifT rfl ?_⟩
    cases oH with
    | none =>
      cases (show hi = .non from hhi)
      exact ⟨_, rfl, rfl, _, rfl, ifF rfl (ifF rfl ⟨_, rfl, _, rfl, sz2, fin rfl⟩)⟩
    | some q =>
      have hhi' : Rq K H hi q := hhi
      obtain ⟨d, rfl, _⟩ := id hhi'
      refine ⟨_, rfl, rfl, _, rfl, ifT rfl ?_⟩
      refine ⟨_, rfl, _, rfl, _, _, p, q, m, m, rfl, hlo', hhi', zl _ rfl, zh _ rfl, by omega, _, _, rfl, rfl, _, rfl, ?_⟩
      by_cases c : q < p
      · refine ifT (dT (sg_gt.mpr c)) ?_
        refine z _ _ (Same.refl _) ?_
        rw [em, show crossed (some p) (some q) = true from dT c]
        rfl
      · exact ifF (dF fun e => c (sg_gt.mp e)) (⟨_, rfl, _, rfl, sz2, fin (dF c)⟩)
end Vk
namespace Vk
open PySem L2 Vm Vs
variable {l az : Addr} {P : Program} {w : World} {K : PySem.W.Frag} {mg : Str → Option Value} {base : Heap} {k : Nat} {f f1 f2 f3 f4 f5 f6 f7 f8 f9 : Addr} {fd fd1 fd2 fd3 fd4 fd5 fd6 fd7 fd8 fd9 : FuncData}
def spMoved (K : PySem.W.Frag) : Sp := fun vs H Q _ => ∃ (x y : V) (o : Option Rat) (d : Rat) (m j : Nat), vs = [x, y] ∧ optV K H x o ∧ Rq K H y d ∧ OSz m o ∧ Sz j d ∧ m + j + 1 ≤ 9000 ∧ ∀ v H', Same H H' → optV K H' v (movO o d) → Q v H'
def spShift (K : PySem.W.Frag) : Sp := fun vs H Q _ => ∃ (x y : V) (s : Spn) (d : Rat) (m j : Nat), vs = [x, y] ∧ Spq K H x s ∧ Rq K H y d ∧ SSz m s ∧ Sz j d ∧ m + j + 1 ≤ 9000 ∧ ∀ v H', Same H H' → Spq K H' v (shO s d) → Q v H'
def spNegO (K : PySem.W.Frag) : Sp := fun vs H Q _ => ∃ (x : V) (o : Option Rat), vs = [x] ∧ optV K H x o ∧ ∀ v H', Same H H' → optV K H' v (negO o) → Q v H'
/-! ### stamps -/
structure St4 where
  a : Rat
  b : Rat
  c : Rat
  d : Rat
def T4 (K : PySem.W.Frag) (H : Hp) (x : V) (t : St4) : Prop := ∃ r xa xb xc xd, x = .ref r ∧ SqT K H r [xa, xb, xc, xd] ∧ Rq K H xa t.a ∧ Rq K H xb t.b ∧ Rq K H xc t.c ∧ Rq K H xd t.d
theorem T4.same {H H' : Hp} {x : V} {t : St4} (e : Same H H') (h : T4 K H x t) : T4 K H' x t := by
  obtain ⟨r, xa, xb, xc, xd, rfl, h, h1, h2, h3, h4⟩ := h
  exact ⟨r, xa, xb, xc, xd, rfl, e.sqt h, h1.same e, h2.same e, h3.same e, h4.same e⟩
theorem T4.fr {s : Addr} {H H' : Hp} {x : V} {t : St4} (e : Fr s H H') (hs : ∃ ys, H s = some (.lst ys)) (h : T4 K H x t) : T4 K H' x t := by
  obtain ⟨r, xa, xb, xc, xd, rfl, h, h1, h2, h3, h4⟩ := h
  exact ⟨r, xa, xb, xc, xd, rfl, sqt_fr e hs h, h1.fr e hs, h2.fr e hs, h3.fr e hs, h4.fr e hs⟩
def Z4 (m : Nat) (t : St4) : Prop := Sz m t.a ∧ Sz m t.b ∧ Sz m t.c ∧ Sz m t.d
def plainOf (t : St4) : Rat := ((t.b - t.a) + (t.c - t.d)) * (1 / 2)
def spT4 (K : PySem.W.Frag) (g : St4 → Rat) : Sp := fun vs H Q _ => ∃ (x : V) (t : St4), vs = [x] ∧ T4 K H x t ∧ Z4 40 t ∧ ∀ v H', Same H H' → Rq K H' v (g t) → Q v H'
def spOff (K : PySem.W.Frag) : Sp := fun vs H Q _ => ∃ (x y u : V) (t : St4) (fo ba : Spn), vs = [x, y, u] ∧ T4 K H x t ∧ Z4 40 t ∧ Spq K H y fo ∧ Spq K H u ba ∧ SSz 100 fo ∧ SSz 100 ba ∧ ∀ v H', Same H H' → oSp K H' v (offO (t.b - t.a) (t.c - t.d) fo ba) → Q v H'
end Vk
namespace Vk
open PySem L2 Vm Vs
variable {l az : Addr} {P : Program} {w : World} {K : PySem.W.Frag} {mg : Str → Option Value} {base : Heap} {k : Nat} {f f1 f2 f3 f4 f5 f6 f7 f8 f9 : Addr} {fd fd1 fd2 fd3 fd4 fd5 fd6 fd7 fd8 fd9 : FuncData}
/-- a drawn span -/
def Sd (K : PySem.W.Frag) (m : Nat) (H : Hp) (v : V) : Prop := ∃ s, Spq K H v s ∧ SSz m s
theorem Sd.same {m : Nat} {H H' : Hp} {v : V} (e : Same H H') (h : Sd K m H v) : Sd K m H' v := by
  obtain ⟨q, h, r⟩ := h
  exact ⟨q, h.same e, r⟩
theorem Sd.fr {m : Nat} {s : Addr} {H H' : Hp} {v : V} (e : Fr s H H') (hs : ∃ ys, H s = some (.lst ys)) (h : Sd K m H v) : Sd K m H' v := by
  obtain ⟨q, h, r⟩ := h
  exact ⟨q, h.fr e hs, r⟩
theorem Sd.up {m j : Nat} {H : Hp} {v : V} (h : Sd K m H v) (e : m ≤ j) : Sd K j H v := by
  obtain ⟨q, h, r⟩ := h
  exact ⟨q, h, osz_up r.1 e, osz_up r.2 e⟩
theorem sd_new {m : Nat} {H : Hp} {t : Addr} {u v : V} {a b : Option Rat} (ht : H t = none) (hu : optV K H u a) (hv : optV K H v b) (za : OSz m a) (zb : OSz m b) : Sd K m (upd H t (.tup [u, v])) (.ref t) :=
  ⟨(a, b), ⟨t, u, v, rfl, SqT.of upd_same, hu.same (same_new ht _), hv.same (same_new ht _)⟩, za, zb⟩
theorem osz_none {m : Nat} : OSz m none := nofun
theorem osz_some {m : Nat} {q : Rat} (h : Sz m q) : OSz m (some q) := fun r e => by cases Option.some.inj e; exact h
def spSpan (K : PySem.W.Frag) (l : Addr) : Sp := fun vs H Q _ => ∃ (s : Addr), vs = [.ref s, .int 48] ∧ Sto l s H ∧ ∀ (v : V) H', Sd K 100 H' v → Sto l s H' → Fr s H H' → Q v H'
def spIn (K : PySem.W.Frag) : Sp := fun vs H Q _ => ∃ (x y : V) (s : Spn) (t : Rat) (m j : Nat), vs = [x, y] ∧ Spq K H x s ∧ Rq K H y t ∧ SSz m s ∧ Sz j t ∧ m + j + 1 ≤ 900000 ∧ Q (.bl (inS s t)) H
end Vk


namespace Vk
open PySem L2 Vm Vl
variable {l aZERO aONE CB CR fB fR : Addr} {P : Program} {w : World} {K : PySem.W.Frag} {mg : Str → Option Value} {base : Heap} {k : Nat} {f f1 f2 f3 f4 f5 f6 f7 f8 f9 : Addr} {fd fd1 fd2 fd3 fd4 fd5 fd6 fd7 fd8 fd9 : FuncData}
/-- a rational of the module -/
structure Cn (K : PySem.W.Frag) (mg : Str → Option Value) (x : Str) (p : Rat) (a : Addr) : Prop where
  m : mg x = some (.ref a)
  q : ∀ H, Rq K H (.ref a) p
theorem zz1 : Sz 1 (0 : Rat) := by decide +kernel
theorem zo1 : Sz 1 (1 : Rat) := by decide +kernel
def spNB (K : PySem.W.Frag) (CB : Addr) : Sp := fun vs H Q E => ∃ (x : V) (q : Rat) (m : Nat), vs = [x] ∧ Rq K H x q ∧ Sz m q ∧ m ≤ 8000 ∧ (0 ≤ q → Q .non H) ∧ (q < 0 → eV E CB H x)
abbrev s_require_not_below_zero : Stmt := top 39
abbrev N_require_not_below_zero : List Str := ["bound"]
theorem sc_require_not_below_zero : FnScope N_require_not_below_zero ["bound"] (defScope s_require_not_below_zero) := ⟨rfl, rfl, rfl, by decide +kernel, rfl, by decide +kernel, by decide +kernel⟩
abbrev ps_require_not_below_zero : List Str := ["bound"]
theorem ok_not_below (ZZERO : Cn K mg "ZERO" 0 aZERO) (TBadBound : PySem.ValX.ValTxt K mg "BadBound" CB fB) (F : Fn K mg "require_not_below_zero" s_require_not_below_zero ps_require_not_below_zero f fd) (dcompare : Def P w K mg base k "compare" ["a", "b"] (spTest2 K fun p q => .int (sg p q)) f1 fd1) :
    DefY P w K mg base (k + 1) "require_not_below_zero" ps_require_not_below_zero (spNB K CB) f fd := by
  refine ⟨okY F.F sc_require_not_below_zero (fun vs H Q E h => ?_) (fun cdv A outer s H vs Q E hr h => ?_), F.m, F.F.kp, F.b⟩
  · obtain ⟨_, _, _, rfl, _⟩ := h
    rfl
  obtain ⟨x, q, m, rfl, hx, zq, hm, z, e⟩ := h
  refine ⟨_, (pss_one (ps_if (pt_cmpR op_lt (pcall dcompare hr (pa_cons (pv 0) (pa_cons (pe_glob (v := .ref aZERO) (u := .ref aZERO) (by rfl) ZZERO.m rfl) pa_nil))) pe_int (nomark _))
        (pss_one (ps_raiseValN rfl TBadBound hr (L2N.takes_of rfl rfl rfl rfl) (pa_cons (pv 0) pa_nil)))
        pss_nil)), ?_⟩
  refine ⟨_, rfl, _, _, q, 0, m, 1, rfl, hx, ZZERO.q _, zq, zz1, by omega, _, _, rfl, rfl, _, rfl, ifD (fun c => ?_) (fun c => ?_)⟩
  · exact ⟨_, rfl, x, rfl, fun d hd => e (sg_lt.mp c) d hd⟩
  · exact z (Rat.not_lt.mp fun g => c (sg_lt.mpr g))
def spSD (K : PySem.W.Frag) (CR : Addr) : Sp := fun vs H Q E => ∃ (x y : V) (s d : Rat) (m : Nat), vs = [x, y] ∧ Rq K H x s ∧ Rq K H y d ∧ Sz m s ∧ Sz m d ∧ m ≤ 4000 ∧
  (0 < s → s < 1 → 0 ≤ d → d < s → Q .non H) ∧ (s ≤ 0 ∨ 1 ≤ s → eV E CR H x) ∧ (0 < s → s < 1 → d < 0 ∨ s ≤ d → eV E CR H y)
theorem sg_le' {p q : Rat} : sg p q ≤ 0 ↔ p ≤ q := by
  have h := @sg_lt p q
  have g := @sg_ge p q
  constructor
  · intro e
    by_cases z : sg p q < 0
    · have := h.mp z; grind
    · have e0 : sg p q = 0 := by omega
      unfold sg at e0
      split at e0
      · rename_i hh; rw [hh]; exact Rat.le_refl
      · split at e0 <;> omega
  · intro e
    by_cases z : p < q
    · have := h.mpr z; omega
    · have e2 : p = q := by grind
      unfold sg
      rw [if_pos e2]
      omega
abbrev s__require_slew_and_drift : Stmt := top 40
abbrev N__require_slew_and_drift : List Str := ["slew", "drift"]
theorem sc__require_slew_and_drift : FnScope N__require_slew_and_drift ["slew", "drift"] (defScope s__require_slew_and_drift) := ⟨rfl, rfl, rfl, by decide +kernel, rfl, by decide +kernel, by decide +kernel⟩
abbrev ps__require_slew_and_drift : List Str := ["slew", "drift"]
theorem ok_slew_drift (ZZERO : Cn K mg "ZERO" 0 aZERO) (ZONE : Cn K mg "ONE" 1 aONE) (TBadRate : PySem.ValX.ValTxt K mg "BadRate" CR fR) (F : Fn K mg "_require_slew_and_drift" s__require_slew_and_drift ps__require_slew_and_drift f fd) (dcompare : Def P w K mg base k "compare" ["a", "b"] (spTest2 K fun p q => .int (sg p q)) f1 fd1) :
    DefY P w K mg base (k + 1) "_require_slew_and_drift" ps__require_slew_and_drift (spSD K CR) f fd := by
  refine ⟨okY F.F sc__require_slew_and_drift (fun vs H Q E h => ?_) (fun cdv A outer s H vs Q E hr h => ?_), F.m, F.F.kp, F.b⟩
  · obtain ⟨_, _, _, _, _, rfl, _⟩ := h
    rfl
  obtain ⟨x, y, s', d', m, rfl, hx, hy, zs, zd, hm, z, e1, e2⟩ := h
  refine ⟨_, (pss_cons (ps_if (PW.pt (pw_or (pt_cmpR op_le (pcall dcompare hr (pa_cons (pv 0) (pa_cons (pe_glob (v := .ref aZERO) (u := .ref aZERO) (by rfl) ZZERO.m rfl) pa_nil))) pe_int (nomark _)) (pw_or1 (pt_cmpR op_ge (pcall dcompare hr (pa_cons (pv 0) (pa_cons (pe_glob (v := .ref aONE) (u := .ref aONE) (by rfl) ZONE.m rfl) pa_nil))) pe_int (nomark _)))))
        (pss_one (ps_raiseValN rfl TBadRate hr (L2N.takes_of rfl rfl rfl rfl) (pa_cons (pv 0) pa_nil)))
        pss_nil)
      (pss_one (ps_if (PW.pt (pw_or (pt_cmpR op_lt (pcall dcompare hr (pa_cons (pv 1) (pa_cons (pe_glob (v := .ref aZERO) (u := .ref aZERO) (by rfl) ZZERO.m rfl) pa_nil))) pe_int (nomark _)) (pw_or1 (pt_cmpR op_ge (pcall dcompare hr (pa_cons (pv 1) (pa_cons (pv 0) pa_nil))) pe_int (nomark _)))))
        (pss_one (ps_raiseValN rfl TBadRate hr (L2N.takes_of rfl rfl rfl rfl) (pa_cons (pv 1) pa_nil)))
        pss_nil))), ?_⟩
  have up1 : (s' ≤ 0 ∨ 1 ≤ s') → ∃ v, [x] = [v] ∧ ∀ d, H d = none → E (.ref CR) (some d) (upd H d (.xd [(("value" : Str), v)])) := fun h => ⟨x, rfl, fun d hd => e1 h d hd⟩
  refine ⟨_, rfl, _, _, s', 0, m, 1, rfl, hx, ZZERO.q _, zs, zz1, by omega, _, _, rfl, rfl, _, rfl, ifD (fun c => ?_) (fun c => ?_)⟩
  · exact ifT rfl ⟨_, rfl, up1 (.inl (sg_le'.mp c))⟩
  have c1 : 0 < s' := by have := fun g => c (sg_le'.mpr g); exact Rat.not_le.mp this
  refine ⟨_, rfl, _, _, s', 1, m, 1, rfl, hx, ZONE.q _, zs, zo1, by omega, _, _, rfl, rfl, _, rfl, ifD (fun c => ?_) (fun c => ?_)⟩
  · exact ⟨_, rfl, up1 (.inr (sg_ge.mp c))⟩
  have c2 : s' < 1 := by have := fun g => c (sg_ge.mpr g); exact Rat.not_le.mp this
  have up2 : (d' < 0 ∨ s' ≤ d') → ∃ v, [y] = [v] ∧ ∀ d, H d = none → E (.ref CR) (some d) (upd H d (.xd [(("value" : Str), v)])) := fun h => ⟨y, rfl, fun d hd => e2 c1 c2 h d hd⟩
  refine ⟨_, rfl, _, _, d', 0, m, 1, rfl, hy, ZZERO.q _, zd, zz1, by omega, _, _, rfl, rfl, _, rfl, ifD (fun c => ?_) (fun c => ?_)⟩
  · exact ifT rfl ⟨_, rfl, up2 (.inl (sg_lt.mp c))⟩
  have c3 : 0 ≤ d' := Rat.not_lt.mp fun g => c (sg_lt.mpr g)
  refine ⟨_, rfl, _, rfl, _, _, d', s', m, m, rfl, hy, hx, zd, zs, by omega, _, _, rfl, rfl, _, rfl, ifD (fun c => ?_) (fun c => ?_)⟩
  · exact ⟨_, rfl, up2 (.inr (sg_ge.mp c))⟩
  · exact z c1 c2 c3 (by have := fun g => c (sg_ge.mpr g); exact Rat.not_le.mp this)
/-- the five arguments of a lap -/
structure L5 (K : PySem.W.Frag) (H : Hp) (xb xh xl xs xd : V) (x : A6) (m : Nat) : Prop where
  b : Rq K H xb x.b
  h : Rq K H xh x.h
  l : Rq K H xl x.l
  s : Rq K H xs x.s
  d : Rq K H xd x.d
  zb : Sz m x.b
  zh : Sz m x.h
  zl : Sz m x.l
  zs : Sz m x.s
  zd : Sz m x.d
theorem L5.same {H H' : Hp} {xb xh xl xs xd : V} {x : A6} {m : Nat} (h : L5 K H xb xh xl xs xd x m) (e : Same H H') : L5 K H' xb xh xl xs xd x m := { h with b := h.b.same e, h := h.h.same e, l := h.l.same e, s := h.s.same e, d := h.d.same e }
theorem L5.fr {s : Addr} {H H' : Hp} {xb xh xl xs xd : V} {x : A6} {m : Nat} (h : L5 K H xb xh xl xs xd x m) (e : Fr s H H') (hs : ∃ ys, H s = some (.lst ys)) : L5 K H' xb xh xl xs xd x m := { h with b := h.b.fr e hs, h := h.h.fr e hs, l := h.l.fr e hs, s := h.s.fr e hs, d := h.d.fr e hs }
/-- the first wrong argument: what it wishes of an error -/
def Fault (x : A6) (W : Bool → Nat → Prop) : Prop :=
  (x.b < 0 → W true 0) ∧ (0 ≤ x.b → x.h < 0 → W true 1) ∧ (0 ≤ x.b → 0 ≤ x.h → x.l ≤ 0 → W true 2) ∧ (0 ≤ x.b → 0 ≤ x.h → 0 < x.l → x.s ≤ 0 ∨ 1 ≤ x.s → W false 3) ∧
    (0 ≤ x.b → 0 ≤ x.h → 0 < x.l → 0 < x.s → x.s < 1 → x.d < 0 ∨ x.s ≤ x.d → W false 4)
def eF (E : XK) (CB CR : Addr) (H : Hp) (ys : List V) : Bool → Nat → Prop := fun b i => ∀ y, ys[i]? = some y → eV E (if b = true then CB else CR) H y
def spLap (K : PySem.W.Frag) (CB CR : Addr) : Sp := fun vs H Q E => ∃ (xb xh xl xs xd : V) (x : A6) (m : Nat), vs = [xb, xh, xl, xs, xd] ∧ L5 K H xb xh xl xs xd x m ∧ m ≤ 4000 ∧ (Good x → Q .non H) ∧ Fault x (eF E CB CR H [xb, xh, xl, xs, xd])
abbrev s__require_lap : Stmt := top 41
abbrev N__require_lap : List Str := ["bound", "half", "lap", "slew", "drift"]
theorem sc__require_lap : FnScope N__require_lap ["bound", "half", "lap", "slew", "drift"] (defScope s__require_lap) := ⟨rfl, rfl, rfl, by decide +kernel, rfl, by decide +kernel, by decide +kernel⟩
abbrev ps__require_lap : List Str := ["bound", "half", "lap", "slew", "drift"]
theorem ok_require_lap (ZZERO : Cn K mg "ZERO" 0 aZERO) (TBadBound : PySem.ValX.ValTxt K mg "BadBound" CB fB) (F : Fn K mg "_require_lap" s__require_lap ps__require_lap f fd) (drequire_not_below_zero : DefY P w K mg base k "require_not_below_zero" ["bound"] (spNB K CB) f1 fd1) (dcompare : Def P w K mg base k "compare" ["a", "b"] (spTest2 K fun p q => .int (sg p q)) f2 fd2)
    (d_require_slew_and_drift : DefY P w K mg base k "_require_slew_and_drift" ["slew", "drift"] (spSD K CR) f3 fd3) : DefY P w K mg base (k + 1) "_require_lap" ps__require_lap (spLap K CB CR) f fd := by
  refine ⟨okY F.F sc__require_lap (fun vs H Q E h => ?_) (fun cdv A outer s H vs Q E hr h => ?_), F.m, F.F.kp, F.b⟩
  · obtain ⟨_, _, _, _, _, _, _, rfl, _⟩ := h
    rfl
  obtain ⟨xb, xh, xl, xs, xd, x, m, rfl, L, hm, z, w1, w2, w3, w4, w5⟩ := h
  refine ⟨_, (pss_cons (ps_expr (pcallY drequire_not_below_zero hr (L2N.takes_of rfl rfl rfl rfl) (pa_cons (pv 0) pa_nil)))
      (pss_cons (ps_expr (pcallY drequire_not_below_zero hr (L2N.takes_of rfl rfl rfl rfl) (pa_cons (pv 1) pa_nil)))
      (pss_cons (ps_if (pt_cmpR op_le (pcall dcompare hr (pa_cons (pv 2) (pa_cons (pe_glob (v := .ref aZERO) (u := .ref aZERO) (by rfl) ZZERO.m rfl) pa_nil))) pe_int (nomark _))
        (pss_one (ps_raiseValN rfl TBadBound hr (L2N.takes_of rfl rfl rfl rfl) (pa_cons (pv 2) pa_nil)))
        pss_nil)
      (pss_one (ps_expr (pcallY d_require_slew_and_drift hr (L2N.takes_of rfl rfl rfl rfl) (pa_cons (pv 3) (pa_cons (pv 4) pa_nil)))))))), ?_⟩
  refine ⟨_, rfl, xb, x.b, m, rfl, L.b, L.zb, by omega, fun c1 => ?_, fun c1 => w1 c1 _ rfl⟩
  refine ⟨_, rfl, xh, x.h, m, rfl, L.h, L.zh, by omega, fun c2 => ?_, fun c2 => w2 c1 c2 _ rfl⟩
  refine ⟨_, rfl, _, _, x.l, 0, m, 1, rfl, L.l, ZZERO.q _, L.zl, zz1, by omega, _, _, rfl, rfl, _, rfl, ifD (fun c => ?_) (fun c => ?_)⟩
  · exact ⟨_, rfl, xl, rfl, fun d hd => w3 c1 c2 (sg_le'.mp c) _ rfl d hd⟩
  have c3 : 0 < x.l := by have := fun g => c (sg_le'.mpr g); exact Rat.not_le.mp this
  exact ⟨_, rfl, _, rfl, xs, xd, x.s, x.d, m, rfl, L.s, L.d, L.zs, L.zd, hm, fun a b c d => z ⟨c1, c2, c3, a, b, c, d⟩, fun c => w4 c1 c2 c3 c _ rfl, fun a b c => w5 c1 c2 c3 a b c _ rfl⟩
def spBehind (K : PySem.W.Frag) : Sp := fun vs H Q _ => ∃ (xb xh xl xs xd : V) (x : A6) (m : Nat), vs = [xb, xh, xl, xs, xd] ∧ L5 K H xb xh xl xs xd x m ∧ m ≤ 1500 ∧ ∀ v H', Same H H' → Rq K H' v (nextB x x.b) → Q v H'
abbrev s__bound_behind : Stmt := top 42
abbrev N__bound_behind : List Str := ["bound", "half", "raw_units", "slew", "drift", "rest"]
theorem sc__bound_behind : FnScope N__bound_behind ["bound", "half", "raw_units", "slew", "drift"] (defScope s__bound_behind) := ⟨rfl, rfl, rfl, by decide +kernel, rfl, by decide +kernel, by decide +kernel⟩
abbrev ps__bound_behind : List Str := ["bound", "half", "raw_units", "slew", "drift"]
theorem ok_bound_behind (F : Fn K mg "_bound_behind" s__bound_behind ps__bound_behind f fd) (dlarger : Def P w K mg base k "larger" ["a", "b"] (spSel K fun p q => if q ≤ p then p else q) f1 fd1) (dsubtract : Def P w K mg base k "subtract" ["a", "b"] (spOp2 K (· - ·)) f2 fd2) (dmultiply : Def P w K mg base k "multiply" ["a", "b"] (spOp2 K (· * ·)) f3 fd3) (dadd : Def P w K mg base k "add" ["a", "b"] (spOp2 K (· + ·)) f4 fd4) :
    Def P w K mg base (k + 1) "_bound_behind" ps__bound_behind (spBehind K) f fd := by
  refine ⟨F.F.ok sc__bound_behind (fun vs H Q E h => ?_) (fun cdv A outer s H vs Q E hr h => ?_), F.m, F.F.kp, F.b⟩
  · obtain ⟨_, _, _, _, _, _, _, rfl, _⟩ := h
    rfl
  obtain ⟨xb, xh, xl, xs, xd, x, m, rfl, L, hm, z⟩ := h
  refine ⟨_, (pss_cons (ps_set (i := 5) sc__bound_behind.nd rfl (Or.inl rfl) (pcall dlarger hr (pa_cons (pcall dsubtract hr (pa_cons (pv 0) (pa_cons (pcall dmultiply hr (pa_cons (pv 3) (pa_cons (pv 2) pa_nil))) pa_nil))) (pa_cons (pv 1) pa_nil))))
      (pss_one (ps_ret (pcall dadd hr (pa_cons (pcall dmultiply hr (pa_cons (pv 4) (pa_cons (pv 2) pa_nil))) (pa_cons (pv 5) pa_nil)))))), ?_⟩
  refine ⟨_, rfl, _, rfl, _, rfl, _, _, x.s, x.l, m, m, rfl, L.s, L.l, L.zs, L.zl, by omega, fun v1 H1 e1 h1 => ?_⟩
  have z1 : Sz (m + m) (x.s * x.l) := L.zs.mul L.zl
  refine ⟨_, _, x.b, x.s * x.l, m, m + m, rfl, L.b.same e1, h1, L.zb, z1, by omega, fun v2 H2 e2 h2 => ?_⟩
  have z2 : Sz (m + (m + m) + 1) (x.b - x.s * x.l) := L.zb.sub z1
  refine ⟨_, rfl, _, _, x.b - x.s * x.l, x.h, _, m, rfl, h2, L.h.same (e1.trans e2), z2, L.zh, by omega, fun v3 h3 => ?_⟩
  refine ⟨_, rfl, _, rfl, _, _, x.d, x.l, m, m, rfl, L.d.same (e1.trans e2), L.l.same (e1.trans e2), L.zd, L.zl, by omega, fun v4 H4 e4 h4 => ?_⟩
  have z3 : Sz (m + (m + m) + 1) (if x.h ≤ x.b - x.s * x.l then x.b - x.s * x.l else x.h) := by
    split
    · exact z2
    · exact L.zh.mono (by omega)
  exact ⟨_, rfl, _, _, x.d * x.l, _, m + m, _, rfl, h4, Rq.same e4 h3, L.zd.mul L.zl, z3, by omega, fun v5 H5 e5 h5 => z _ _ (e1.trans (e2.trans (e4.trans e5))) h5⟩
def spAfter (K : PySem.W.Frag) (CB CR : Addr) : Sp := fun vs H Q E => ∃ (xb xh xl xs xd : V) (x : A6) (m : Nat), vs = [xb, xh, xl, xs, xd] ∧ L5 K H xb xh xl xs xd x m ∧ m ≤ 1500 ∧ (Good x → ∀ v H', Same H H' → Rq K H' v (nextB x x.b) → Q v H') ∧ Fault x (eF E CB CR H [xb, xh, xl, xs, xd])
abbrev s_bound_after : Stmt := top 43
abbrev N_bound_after : List Str := ["bound", "half", "lap", "slew", "drift"]
theorem sc_bound_after : FnScope N_bound_after ["bound", "half", "lap", "slew", "drift"] (defScope s_bound_after) := ⟨rfl, rfl, rfl, by decide +kernel, rfl, by decide +kernel, by decide +kernel⟩
abbrev ps_bound_after : List Str := ["bound", "half", "lap", "slew", "drift"]
theorem ok_bound_after (F : FnK K mg "bound_after" s_bound_after f fd) (hb : KBn K fd ps_bound_after 2 ["lap", "slew", "drift"] (fun us ws => us ++ ws) (fun vs zs => vs ++ zs)) (d_require_lap : DefY P w K mg base k "_require_lap" ["bound", "half", "lap", "slew", "drift"] (spLap K CB CR) f1 fd1) (d_bound_behind : Def P w K mg base k "_bound_behind" ["bound", "half", "raw_units", "slew", "drift"] (spBehind K) f2 fd2) :
    DefYN P w K mg base (k + 1) "bound_after" ps_bound_after 2 ["lap", "slew", "drift"] (spAfter K CB CR) f fd := by
  refine ⟨okY F.F sc_bound_after (fun vs H Q E h => ?_) (fun cdv A outer s H vs Q E hr h => ?_), F.m, F.F.kp, hb⟩
  · obtain ⟨_, _, _, _, _, _, _, rfl, _⟩ := h
    rfl
  obtain ⟨xb, xh, xl, xs, xd, x, m, rfl, L, hm, z, fl⟩ := h
  refine ⟨_, (pss_cons (ps_expr (pcallY d_require_lap hr (L2N.takes_of rfl rfl rfl rfl) (pa_cons (pv 0) (pa_cons (pv 1) (pa_cons (pv 2) (pa_cons (pv 3) (pa_cons (pv 4) pa_nil)))))))
      (pss_one (ps_ret (pcall d_bound_behind hr (pa_cons (pv 0) (pa_cons (pv 1) (pa_cons (pv 2) (pa_cons (pv 3) (pa_cons (pv 4) pa_nil))))))))), ?_⟩
  refine ⟨_, rfl, _, rfl, _, rfl, _, rfl, _, rfl, xb, xh, xl, xs, xd, x, m, rfl, L, by omega, fun G => ?_, fl⟩
  exact ⟨_, rfl, _, rfl, _, rfl, _, rfl, _, rfl, xb, xh, xl, xs, xd, x, m, rfl, L, hm, z G⟩
end Vk
namespace Vk
open PySem L2 Vm Vl
variable {l : Addr} {P : Program} {w : World} {K : PySem.W.Frag} {mg : Str → Option Value} {base : Heap} {k : Nat} {f f1 f2 f3 f4 f5 f6 f7 f8 f9 : Addr} {fd fd1 fd2 fd3 fd4 fd5 fd6 fd7 fd8 fd9 : FuncData}
/-! ### written fractions compared -/
theorem mkm {n d : Int} (hd : 0 < d) : mkRat n d.toNat * (d : Rat) = (n : Rat) := by
  obtain ⟨m, rfl⟩ : ∃ m : Nat, d = (m : Int) := ⟨d.toNat, by omega⟩
  rw [Int.toNat_natCast, Rat.mkRat_eq_div]
  have h : ((m : Nat) : Rat) = (((m : Nat) : Int) : Rat) := rfl
  rw [h]
  refine Rat.div_mul_cancel fun e => ?_
  have : ((m : Int) : Rat) = ((0 : Int) : Rat) := e
  have := Rat.intCast_inj.mp this
  omega
theorem qle {n d m e : Int} (hd : 0 < d) (he : 0 < e) (h : n * e ≤ m * d) : mkRat n d.toNat ≤ mkRat m e.toNat := by
  have p := mkm (n := n) hd
  have q := mkm (n := m) he
  generalize mkRat n d.toNat = a at p
  generalize mkRat m e.toNat = b at q
  have hd' : (0 : Rat) < (d : Rat) := by exact_mod_cast hd
  have he' : (0 : Rat) < (e : Rat) := by exact_mod_cast he
  have h' : (n : Rat) * (e : Rat) ≤ (m : Rat) * (d : Rat) := by exact_mod_cast h
  by_cases z : a ≤ b
  · exact z
  · exfalso
    have z := Rat.not_le.mp z
    have de := Rat.mul_pos hd' he'
    have := Rat.mul_lt_mul_of_pos_right z de
    have e1 : a * ((d : Rat) * (e : Rat)) = (n : Rat) * (e : Rat) := by rw [← p]; grind
    have e2 : b * ((d : Rat) * (e : Rat)) = (m : Rat) * (d : Rat) := by rw [← q]; grind
    rw [e1, e2] at this
    exact absurd this (Rat.not_lt.mpr h')
theorem qlt {n d m e : Int} (hd : 0 < d) (he : 0 < e) (h : n * e < m * d) : mkRat n d.toNat < mkRat m e.toNat := by
  have p := mkm (n := n) hd
  have q := mkm (n := m) he
  generalize mkRat n d.toNat = a at p
  generalize mkRat m e.toNat = b at q
  have hd' : (0 : Rat) < (d : Rat) := by exact_mod_cast hd
  have he' : (0 : Rat) < (e : Rat) := by exact_mod_cast he
  have h' : (n : Rat) * (e : Rat) < (m : Rat) * (d : Rat) := by exact_mod_cast h
  by_cases z : a < b
  · exact z
  · exfalso
    have z := Rat.not_lt.mp z
    have de := Rat.mul_pos hd' he'
    have := Rat.mul_le_mul_of_nonneg_right z (show (0 : Rat) ≤ (d : Rat) * (e : Rat) by grind)
    have e1 : a * ((d : Rat) * (e : Rat)) = (n : Rat) * (e : Rat) := by rw [← p]; grind
    have e2 : b * ((d : Rat) * (e : Rat)) = (m : Rat) * (d : Rat) := by rw [← q]; grind
    rw [e1, e2] at this
    exact absurd this (Rat.not_le.mpr h')
def ge6 : Rat → Prop := fun q => mkRat 1 6 ≤ q
def nnQ : Rat → Prop := fun q => 0 ≤ q
def negQ : Rat → Prop := fun q => q < 0
def npQ : Rat → Prop := fun q => q ≤ 0
def outQ : Rat → Prop := fun q => q ≤ 0 ∨ 1 ≤ q
instance (q : Rat) : Decidable (ge6 q) := inferInstanceAs (Decidable (_ ≤ _))
instance (q : Rat) : Decidable (nnQ q) := inferInstanceAs (Decidable (_ ≤ _))
instance (q : Rat) : Decidable (negQ q) := inferInstanceAs (Decidable (_ < _))
instance (q : Rat) : Decidable (npQ q) := inferInstanceAs (Decidable (_ ≤ _))
instance (q : Rat) : Decidable (outQ q) := inferInstanceAs (Decidable (_ ∨ _))
theorem r01 : mkRat 0 1 = 0 := by decide +kernel
theorem Qd.imp {m j : Nat} {ok ok' : Rat → Prop} {H : Hp} {v : V} (h : Qd K m ok H v) (e : m ≤ j) (g : ∀ q, ok q → ok' q) : Qd K j ok' H v := by
  obtain ⟨q, r, z, o⟩ := h
  exact ⟨q, r, z.mono e, g q o⟩
theorem ok_above6 (F : Fn K mg "_law_above" s__law_above ps__law_above f fd) (d_law_take : Def P w K mg base k "_law_take" ["_law_store_here", "_law_many"] (spTake K l) f1 fd1) (d_law_frac : Def P w K mg base k "_law_frac" ["_law_n", "_law_d"] (spFrac K) f3 fd3) : Def P w K mg base (k + 1) "_law_above" ps__law_above (spDraw K l 5 ge6) f fd := by
  refine ⟨F.F.ok sc__law_above (fun vs H Q E h => ?_) (fun cdv A outer s H vs Q E hr h => ?_), F.m, F.F.kp, F.b⟩
  · obtain ⟨_, rfl, _⟩ := h
    rfl
  obtain ⟨s, rfl, hS, z⟩ := h
  refine ⟨_, (pss_cons (ps_if (pt_cmpR op_eq (pcall d_law_take hr (pa_cons (pv 0) (pa_cons pe_int pa_nil))) pe_int (nomark _))
        (pss_one (ps_ret (pe_tup (pa_cons pe_int (pa_cons pe_int pa_nil)))))
        pss_nil)
      (pss_one (ps_ret (pcall d_law_frac hr (pa_cons (pe_op op_add pe_int (pcall d_law_take hr (pa_cons (pv 0) (pa_cons pe_int pa_nil)))) (pa_cons (pe_op op_add pe_int (pcall d_law_take hr (pa_cons (pv 0) (pa_cons pe_int pa_nil)))) pa_nil)))))), ?_⟩
  refine ⟨_, rfl, s, 4, rfl, hS, by decide, fun r H1 r0 r1 S1 e1 => ?_⟩
  refine ⟨rfl, _, rfl, ifD (fun _ => ?_) (fun _ => ?_)⟩
  · exact ⟨sz2, fun t ht => z _ _ (Qd.new 1 1 1 rfl rfl (by decide) (by decide +kernel)) (S1.same (same_new ht _)) (e1.trans (Fr.of (same_new ht _)))⟩
  refine ⟨_, rfl, s, 24, rfl, S1, by decide, fun r2 H2 r3 r4 S2 e2 => ⟨_, _, rfl, rfl, ?_⟩⟩
  refine ⟨_, rfl, s, 6, rfl, S2, by decide, fun r5 H3 r6 r7 S3 e3 => ⟨_, _, rfl, rfl, ?_⟩⟩
  refine ⟨_, _, 5, rfl, by omega, lt2 25 (by omega) (by decide), lt2 7 (by omega) (by decide), by decide, fun v H' e hv => z _ _ ⟨_, hv, sz_mk (by omega) ?_ ?_, ?_⟩ (S3.same e) (e1.trans (e2.trans (e3.trans (Fr.of e))))⟩
  · exact lt2 25 (by omega) (by decide)
  · have : (2 : Nat) ^ 5 = 32 := by decide
    omega
  · exact qle (n := 1) (d := 6) (by decide) (by omega) (by omega)
abbrev s__law_spare : Stmt := top 63
abbrev N__law_spare : List Str := ["_law_store_here"]
theorem sc__law_spare : FnScope N__law_spare ["_law_store_here"] (defScope s__law_spare) := ⟨rfl, rfl, rfl, by decide +kernel, rfl, by decide +kernel, by decide +kernel⟩
abbrev ps__law_spare : List Str := ["_law_store_here"]
theorem ok_spareN (F : Fn K mg "_law_spare" s__law_spare ps__law_spare f fd) (d_law_take : Def P w K mg base k "_law_take" ["_law_store_here", "_law_many"] (spTake K l) f1 fd1) (d_law_frac : Def P w K mg base k "_law_frac" ["_law_n", "_law_d"] (spFrac K) f3 fd3) : Def P w K mg base (k + 1) "_law_spare" ps__law_spare (spDraw K l 5 nnQ) f fd := by
  refine ⟨F.F.ok sc__law_spare (fun vs H Q E h => ?_) (fun cdv A outer s H vs Q E hr h => ?_), F.m, F.F.kp, F.b⟩
  · obtain ⟨_, rfl, _⟩ := h
    rfl
  obtain ⟨s, rfl, hS, z⟩ := h
  refine ⟨_, (pss_cons (ps_if (pt_cmpR op_eq (pcall d_law_take hr (pa_cons (pv 0) (pa_cons pe_int pa_nil))) pe_int (nomark _))
        (pss_one (ps_ret (pe_tup (pa_cons pe_int (pa_cons pe_int pa_nil)))))
        pss_nil)
      (pss_one (ps_ret (pcall d_law_frac hr (pa_cons (pcall d_law_take hr (pa_cons (pv 0) (pa_cons pe_int pa_nil))) (pa_cons (pe_op op_add pe_int (pcall d_law_take hr (pa_cons (pv 0) (pa_cons pe_int pa_nil)))) pa_nil)))))), ?_⟩
  refine ⟨_, rfl, s, 4, rfl, hS, by decide, fun r H1 r0 r1 S1 e1 => ?_⟩
  refine ⟨rfl, _, rfl, ifD (fun _ => ?_) (fun _ => ?_)⟩
  · exact ⟨sz2, fun t ht => z _ _ (Qd.new 0 1 0 rfl rfl (by decide) (by decide +kernel)) (S1.same (same_new ht _)) (e1.trans (Fr.of (same_new ht _)))⟩
  refine ⟨_, rfl, s, 25, rfl, S1, by decide, fun r2 H2 r3 r4 S2 e2 => ?_⟩
  refine ⟨_, rfl, s, 6, rfl, S2, by decide, fun r5 H3 r6 r7 S3 e3 => ⟨_, _, rfl, rfl, ?_⟩⟩
  refine ⟨_, _, 5, rfl, by omega, lt2 25 (by omega) (by decide), lt2 7 (by omega) (by decide), by decide, fun v H' e hv => z _ _ ⟨_, hv, sz_mk (by omega) ?_ ?_, ?_⟩ (S3.same e) (e1.trans (e2.trans (e3.trans (Fr.of e))))⟩
  · exact lt2 25 (by omega) (by decide)
  · have : (2 : Nat) ^ 5 = 32 := by decide
    omega
  · have := qle (n := 0) (d := 1) (m := r2) (e := 1 + r5) (by decide) (by omega) (by omega)
    show (0 : Rat) ≤ _
    rw [← r01]
    exact this
/-! ### slews -/
def SlOk (s d : Rat) : Prop := mkRat 1 20 ≤ s ∧ s < 1 ∧ 0 ≤ d ∧ 8 * d ≤ 7 * s
def Sl (K : PySem.W.Frag) (m : Nat) (ok : Rat → Rat → Prop) (H : Hp) (v : V) : Prop := ∃ r xs xd s d, v = .ref r ∧ SqT K H r [xs, xd] ∧ Rq K H xs s ∧ Rq K H xd d ∧ Sz m s ∧ Sz m d ∧ ok s d
theorem Sl.same {m : Nat} {ok : Rat → Rat → Prop} {H H' : Hp} {v : V} (e : Same H H') (h : Sl K m ok H v) : Sl K m ok H' v := by
  obtain ⟨r, xs, xd, s, d, rfl, h, h1, h2, r'⟩ := h
  exact ⟨r, xs, xd, s, d, rfl, e.sqt h, h1.same e, h2.same e, r'⟩
theorem Sl.fr {m : Nat} {ok : Rat → Rat → Prop} {s : Addr} {H H' : Hp} {v : V} (e : Fr s H H') (hs : ∃ ys, H s = some (.lst ys)) (h : Sl K m ok H v) : Sl K m ok H' v := by
  obtain ⟨r, xs, xd, s, d, rfl, h, h1, h2, r'⟩ := h
  exact ⟨r, xs, xd, s, d, rfl, sqt_fr e hs h, h1.fr e hs, h2.fr e hs, r'⟩
theorem sl_new {m : Nat} {ok : Rat → Rat → Prop} {H : Hp} {t : Addr} {u v : V} {s d : Rat} (ht : H t = none) (hu : Rq K H u s) (hv : Rq K H v d) (zs : Sz m s) (zd : Sz m d) (o : ok s d) : Sl K m ok (upd H t (.tup [u, v])) (.ref t) :=
  ⟨t, u, v, s, d, rfl, SqT.of upd_same, hu.same (same_new ht _), hv.same (same_new ht _), zs, zd, o⟩
def spSl (K : PySem.W.Frag) (l : Addr) : Sp := fun vs H Q _ => ∃ (s : Addr), vs = [.ref s] ∧ Sto l s H ∧ ∀ (v : V) H', Sl K 24 SlOk H' v → Sto l s H' → Fr s H H' → Q v H'
abbrev s__law_slews : Stmt := top 65
abbrev N__law_slews : List Str := ["_law_store_here", "_law_parts", "_law_bend"]
theorem sc__law_slews : FnScope N__law_slews ["_law_store_here"] (defScope s__law_slews) := ⟨rfl, rfl, rfl, by decide +kernel, rfl, by decide +kernel, by decide +kernel⟩
abbrev ps__law_slews : List Str := ["_law_store_here"]
theorem ok_slews (F : Fn K mg "_law_slews" s__law_slews ps__law_slews f fd) (d_law_take : Def P w K mg base k "_law_take" ["_law_store_here", "_law_many"] (spTake K l) f1 fd1) (d_law_frac : Def P w K mg base k "_law_frac" ["_law_n", "_law_d"] (spFrac K) f2 fd2) (d_law_times : Def P w K mg base k "_law_times" ["_law_a", "_law_b"] (spOp2 K (· * ·)) f3 fd3) :
    Def P w K mg base (k + 1) "_law_slews" ps__law_slews (spSl K l) f fd := by
  refine ⟨F.F.ok sc__law_slews (fun vs H Q E h => ?_) (fun cdv A outer s H vs Q E hr h => ?_), F.m, F.F.kp, F.b⟩
  · obtain ⟨_, rfl, _⟩ := h
    rfl
  obtain ⟨s, rfl, hS, z⟩ := h
  refine ⟨_, (pss_cons (ps_set (i := 1) sc__law_slews.nd rfl (Or.inl rfl) (pe_op op_add pe_int (pcall d_law_take hr (pa_cons (pv 0) (pa_cons pe_int pa_nil)))))
      (pss_cons (ps_set (i := 2) sc__law_slews.nd rfl (Or.inl rfl) (pcall d_law_frac hr (pa_cons (pe_op op_add pe_int (pcall d_law_take hr (pa_cons (pv 0) (pa_cons (pe_op op_sub (pv 1) pe_int) pa_nil)))) (pa_cons (pv 1) pa_nil))))
      (pss_cons (ps_if (pt_cmpR op_eq (pcall d_law_take hr (pa_cons (pv 0) (pa_cons pe_int pa_nil))) pe_int (nomark _))
        (pss_one (ps_ret (pe_tup (pa_cons (pv 2) (pa_cons (pe_tup (pa_cons pe_int (pa_cons pe_int pa_nil))) pa_nil)))))
        pss_nil)
      (pss_one (ps_ret (pe_tup (pa_cons (pv 2) (pa_cons (pcall d_law_times hr (pa_cons (pv 2) (pa_cons (pcall d_law_frac hr (pa_cons (pcall d_law_take hr (pa_cons (pv 0) (pa_cons pe_int pa_nil))) (pa_cons pe_int pa_nil))) pa_nil))) pa_nil)))))))), ?_⟩
  refine ⟨_, rfl, s, 19, rfl, hS, by decide, fun r H1 r0 r1 S1 e1 => ⟨_, _, rfl, rfl, ?_⟩⟩
  have p64 : (2 : Int) ^ 64 = 18446744073709551616 := by decide
  refine ⟨_, rfl, _, rfl, _, _, rfl, rfl, s, _, rfl, S1, by omega, fun i H2 i0 i1 S2 e2 => ⟨_, _, rfl, rfl, _, rfl, ?_⟩⟩
  have i1 : i < 2 + r - 1 ∨ i = 0 := i1
  have z20 : (2 : Nat) ^ 20 = 1048576 := by decide
  refine ⟨_, _, 20, rfl, by omega, by omega, by omega, by decide, fun vb H3 e3 hb => ?_⟩
  have zb : Sz 20 (mkRat (1 + i) (2 + r).toNat) := sz_mk (by omega) (by omega) (by omega)
  have b1 : mkRat 1 20 ≤ mkRat (1 + i) (2 + r).toNat := qle (n := 1) (d := 20) (by decide) (by omega) (by omega)
  have b2 : mkRat (1 + i) (2 + r).toNat < 1 := by
    have := qlt (n := 1 + i) (d := 2 + r) (m := 1) (e := 1) (by omega) (by decide) (by omega)
    rw [show mkRat 1 (1 : Int).toNat = 1 by decide +kernel] at this
    exact this
  generalize mkRat (1 + i) (2 + r).toNat = q at hb zb b1 b2
  have S3 := S2.same e3
  have e13 := e1.trans (e2.trans (Fr.of e3))
  refine ⟨_, rfl, s, 4, rfl, S3, by decide, fun r2 H4 _ _ S4 e4 => ⟨rfl, _, rfl, ?_⟩⟩
  have hb4 := hb.fr e4 S3.some
  refine ifD (fun _ => ?_) (fun _ => ?_)
  · refine ⟨_, rfl, sz2, fun t ht => ⟨sz2, fun t2 ht2 => ?_⟩⟩
    have st := same_new ht (.tup [.int 0, .int 1])
    have q0 : (0 : Rat) ≤ q := by
      have : (0 : Rat) ≤ mkRat 1 20 := by decide +kernel
      grind
    exact z _ _ (sl_new (m := 24) (ok := SlOk) ht2 (hb4.same st) (rq_new 0 1 0 (by decide +kernel) (by decide +kernel)) (zb.mono (by decide)) (by decide +kernel) ⟨b1, b2, Rat.le_refl, by grind⟩) ((S4.same st).same (same_new ht2 _)) (e13.trans (e4.trans (Fr.of (st.trans (same_new ht2 _)))))
  · refine ⟨_, rfl, _, rfl, _, rfl, s, 8, rfl, S4, by decide, fun j H5 j0 j1 S5 e5 => ?_⟩
    refine ⟨_, _, 4, rfl, by decide, lt2 9 (by omega) (by decide), by decide, by decide, fun vj H6 e6 hj => ?_⟩
    have p4 : (2 : Nat) ^ 4 = 16 := by decide
    have zj : Sz 4 (mkRat j (8 : Int).toNat) := sz_mk (by decide) (by omega) (by decide)
    have m1 := mkm (n := j) (d := 8) (by decide)
    generalize mkRat j (8 : Int).toNat = qj at hj zj m1
    have j0' : (0 : Rat) ≤ (j : Rat) := by exact_mod_cast j0
    have j7' : (j : Rat) ≤ ((7 : Int) : Rat) := by
      have : j ≤ 7 := by omega
      exact_mod_cast this
    have c7 : ((7 : Int) : Rat) = 7 := rfl
    have c8 : ((8 : Int) : Rat) = 8 := rfl
    rw [c7] at j7'
    rw [c8] at m1
    have hb6 : Rq K H6 vb q := (hb4.fr e5 S4.some).same e6
    refine ⟨_, _, q, qj, 20, 4, rfl, hb6, hj, zb, zj, by decide, fun vd H7 e7 hd => ⟨sz2, fun t ht => ?_⟩⟩
    have q0 : (0 : Rat) ≤ q := by
      have : (0 : Rat) ≤ mkRat 1 20 := by decide +kernel
      grind
    have o1 : 0 ≤ q * qj := mul_nn q0 (by grind)
    have o2 : 8 * (q * qj) ≤ 7 * q := by
      have : q * (8 * qj) ≤ q * 7 := Rat.mul_le_mul_of_nonneg_left (by grind) q0
      grind
    have S7 := (S5.same e6).same e7
    exact z _ _ (sl_new (m := 24) (ok := SlOk) ht (hb6.same e7) hd (zb.mono (by decide)) (zb.mul zj) ⟨b1, b2, o1, o2⟩) (S7.same (same_new ht _)) (e13.trans (e4.trans (e5.trans (Fr.of (e6.trans (e7.trans (same_new ht _)))))))
end Vk
namespace Vk
open PySem L2 Vm Vl
variable {l : Addr} {P : Program} {w : World} {K : PySem.W.Frag} {mg : Str → Option Value} {base : Heap} {k : Nat} {f f1 f2 f3 f4 f5 f6 f7 f8 f9 : Addr} {fd fd1 fd2 fd3 fd4 fd5 fd6 fd7 fd8 fd9 : FuncData}
theorem z1000 : Sz 10 (mkRat 1 1000) := by decide +kernel
def overQ (b : Rat) : Rat → Prop := fun q => q < 0 ∨ b ≤ q
def spBadD (K : PySem.W.Frag) (l : Addr) : Sp := fun vs H Q _ => ∃ (s : Addr) (x : V) (b : Rat), vs = [.ref s, x] ∧ Sto l s H ∧ Rq K H x b ∧ Sz 24 b ∧ b < 1 ∧ ∀ (v : V) H', Qd K 40 (overQ b) H' v → Sto l s H' → Fr s H H' → Q v H'
end Vk
namespace Vk
open PySem L2 Vm Vl
variable {l aZERO aONE CB CR fB fR : Addr} {P : Program} {w : World} {K : PySem.W.Frag} {mg : Str → Option Value} {base : Heap} {k : Nat} {f f1 f2 f3 f4 f5 f6 f7 f8 f9 : Addr} {fd fd1 fd2 fd3 fd4 fd5 fd6 fd7 fd8 fd9 : FuncData}
/-! ### rates -/
def ab (q : Rat) : Rat := if q < 0 then -q else q
theorem ab_num (q : Rat) : (ab q).num = if q.num < 0 then -q.num else q.num := by
  unfold ab
  have h : q < 0 ↔ q.num < 0 := by rw [← Rat.not_le, ← Rat.num_nonneg]; omega
  by_cases c : q < 0
  · rw [if_pos c, if_pos (h.mp c), Rat.neg_num]
  · rw [if_neg c, if_neg fun e => c (h.mpr e)]
theorem ab_den (q : Rat) : (ab q).den = q.den := by
  unfold ab
  split
  · exact Rat.neg_den q
  · rfl
theorem Sz.ab {m : Nat} {q : Rat} (h : Sz m q) : Sz m (ab q) := by
  unfold Vk.ab
  split
  · exact h.neg
  · exact h
theorem rq_ab {H : Hp} {t : Addr} {q : Rat} : Rq K (upd H t (.tup [.int (if q.num < 0 then -q.num else q.num), .int q.den])) (.ref t) (ab q) := by
  refine ⟨t, rfl, ?_⟩
  rw [ab_num, ab_den]
  exact SqT.of upd_same
abbrev s_distance : Stmt := top 19
abbrev N_distance : List Str := ["a", "b", "gap"]
theorem sc_distance : FnScope N_distance ["a", "b"] (defScope s_distance) := ⟨rfl, rfl, rfl, by decide +kernel, rfl, by decide +kernel, by decide +kernel⟩
abbrev ps_distance : List Str := ["a", "b"]
theorem ok_distance (T : Bn mg) (F : Fn K mg "distance" s_distance ps_distance f fd) (dsubtract : Def P w K mg base k "subtract" ["a", "b"] (spOp2 K (· - ·)) f1 fd1) : Def P w K mg base (k + 1) "distance" ps_distance (spOp2 K fun p q => ab (p - q)) f fd := by
  refine ⟨F.F.ok sc_distance (fun vs H Q E h => ?_) (fun cdv A outer s H vs Q E hr h => ?_), F.m, F.F.kp, F.b⟩
  · obtain ⟨x, y, p, q, m, l, rfl, _⟩ := h
    rfl
  obtain ⟨x, y, p, q, m, l, rfl, hx, hy, zp, zq, hm, z⟩ := h
  refine ⟨_, (pss_cons (ps_set (i := 2) sc_distance.nd rfl (Or.inl rfl) (pcall dsubtract hr (pa_cons (pv 0) (pa_cons (pv 1) pa_nil))))
      (pss_one (ps_ret (pe_tup (pa_cons (pe_callB call_abs (by rfl) T.abs_ (by decide +kernel) (pa_cons (pe_ix ix_tup (pv 2) pe_int (fun _ _ => rfl)) pa_nil)) (pa_cons (pe_ix ix_tup (pv 2) pe_int (fun _ _ => rfl)) pa_nil)))))), ?_⟩
  refine ⟨_, rfl, _, rfl, x, y, p, q, m, l, rfl, hx, hy, zp, zq, hm, fun v H1 e1 ⟨a, ea, ha⟩ => ?_⟩
  subst ea
  refine ⟨_, rfl, a, _, _, _, rfl, rfl, ha, at0 rfl, _, rfl, _, rfl, a, _, _, _, rfl, rfl, ha, at1 rfl, sz2, fun t ht => ?_⟩
  exact z _ _ (e1.trans (same_new ht _)) rq_ab
def spRates (K : PySem.W.Frag) (CR : Addr) : Sp := fun vs H Q E => ∃ (x y : V) (s d : Rat) (m : Nat), vs = [x, y] ∧ Rq K H x s ∧ Rq K H y d ∧ Sz m s ∧ Sz m d ∧ m ≤ 2000 ∧
  (0 < s → s ≤ d → Q .non H) ∧ (s ≤ 0 → eV E CR H x) ∧ (0 < s → d < s → eV E CR H y)
/-- the drift between two rates -/
def dri (s d : Rat) : Rat := if ab (1 - 1 / s) ≤ ab (1 - 1 / d) then ab (1 - 1 / d) else ab (1 - 1 / s)
def spDrift (K : PySem.W.Frag) (CR : Addr) : Sp := fun vs H Q E => ∃ (x y : V) (s d : Rat) (m : Nat), vs = [x, y] ∧ Rq K H x s ∧ Rq K H y d ∧ Sz m s ∧ Sz m d ∧ m ≤ 2000 ∧
  (0 < s → s ≤ d → ∀ v H', Same H H' → Rq K H' v (dri s d) → Q v H') ∧ (s ≤ 0 → eV E CR H x) ∧ (0 < s → d < s → eV E CR H y)
abbrev s__law_over : Stmt := top 59
abbrev N__law_over : List Str := ["_law_a", "_law_b"]
theorem sc__law_over : FnScope N__law_over ["_law_a", "_law_b"] (defScope s__law_over) := ⟨rfl, rfl, rfl, by decide +kernel, rfl, by decide +kernel, by decide +kernel⟩
abbrev ps__law_over : List Str := ["_law_a", "_law_b"]
theorem ok_over (F : Fn K mg "_law_over" s__law_over ps__law_over f fd) (d_law_frac : Def P w K mg base k "_law_frac" ["_law_n", "_law_d"] (spFrac K) f1 fd1) : Def P w K mg base (k + 1) "_law_over" ps__law_over (spDiv K) f fd := by
  refine ⟨F.F.ok sc__law_over (fun vs H Q E h => ?_) (fun cdv A outer s H vs Q E hr h => ?_), F.m, F.F.kp, F.b⟩
  · obtain ⟨x, y, p, q, m, l, rfl, _⟩ := h
    rfl
  obtain ⟨x, y, p, q, m, l, rfl, ⟨a, rfl, ha⟩, ⟨b, rfl, hb⟩, zp, zq, hm, q0, z⟩ := h
  have m0 := nn zp
  have l0 := nn zq
  have hn := num_pos q0
  refine ⟨_, (pss_one (ps_ret (pcall d_law_frac hr (pa_cons (pe_op op_mulW (pe_ix ix_tup (pv 0) pe_int (fun _ _ => rfl)) (pe_ix ix_tup (pv 1) pe_int (fun _ _ => rfl))) (pa_cons (pe_op op_mulW (pe_ix ix_tup (pv 0) pe_int (fun _ _ => rfl)) (pe_ix ix_tup (pv 1) pe_int (fun _ _ => rfl))) pa_nil))))), ?_⟩
  refine ⟨_, rfl, a, _, _, _, rfl, rfl, ha, at0 rfl, _, rfl, b, _, _, _, rfl, rfl, hb, at1 rfl, _, _, rfl, rfl, mulW zp.1 (dA zq) m0 l0 (by omega), ?_⟩
  refine ⟨_, rfl, a, _, _, _, rfl, rfl, ha, at1 rfl, _, rfl, b, _, _, _, rfl, rfl, hb, at0 rfl, _, _, rfl, rfl, mulW (dA zp) zq.1 m0 l0 (by omega), ?_⟩
  refine ⟨_, _, m + l, rfl, Int.mul_pos (by have := p.den_pos; omega) hn, ab_mul zp.1 (dA zq), ab_mul (dA zp) zq.1, by omega, fun r H' e hr => z r H' e ?_⟩
  have e2 : ((p.den : Int) * q.num).toNat = p.den * q.num.toNat := by
    have e3 : q.num = (q.num.toNat : Int) := by omega
    rw [e3, tn]
    rfl
  rw [e2, ← div_mk p q q0] at hr
  exact hr
/-- wrong rates, and which of them is told -/
def Br (K : PySem.W.Frag) (H : Hp) (v : V) : Prop := ∃ r x y t u s d, v = .ref r ∧ SqT K H r [x, y, .ref t] ∧ SqT K H t [.str "BadRate", u] ∧ Rq K H x s ∧ Rq K H y d ∧ Sz 40 s ∧ Sz 40 d ∧ ((s ≤ 0 ∧ u = x) ∨ (0 < s ∧ d < s ∧ u = y))
end Vk


set_option hygiene false in
local macro_rules | `(tactic| walk_at "vk_raw") => `(tactic| ((focus ((repeat first | with_reducible assumption | with_reducible exact upd_same | (with_reducible refine' (upd_ne ?_).trans ?_; with_reducible assumption) | (with_reducible apply sameAt; first | with_reducible assumption | with_reducible exact same_new (by with_reducible assumption) _) | (with_reducible apply Vk.frAt; with_reducible assumption; with_reducible assumption)); done))))
set_option hygiene false in
local macro_rules | `(tactic| walk_at "vk_same") => `(tactic| ((focus ((repeat first | with_reducible assumption | with_reducible exact Same.refl _ | (refine' Same.trans ?_ (same_new (by with_reducible assumption) _)) | (with_reducible refine' same_upd ?_ (by with_reducible assumption) _) | (refine' Same.trans ?_ (by with_reducible assumption))); done))))
set_option hygiene false in
local macro_rules | `(tactic| walk_at "vk_up") => `(tactic| ((first | with_reducible assumption | with_reducible exact same_new (by with_reducible assumption) _)))
set_option hygiene false in
local macro_rules | `(tactic| walk_at "vk_upd") => `(tactic| ((with_reducible refine' same_upd ?_ (by with_reducible assumption) _; (walk_at "vk_same"))))
set_option hygiene false in
local macro_rules | `(tactic| walk_at "vk_sto") => `(tactic| ((focus ((repeat first | with_reducible assumption | (with_reducible apply Sto.same; (walk_at "vk_up"))); done))))
set_option hygiene false in
local macro_rules | `(tactic| walk_at "vk_some") => `(tactic| ((first | with_reducible exact ⟨_, by (walk_at "vk_raw")⟩ | with_reducible exact Sto.some (by (walk_at "vk_sto")))))
set_option hygiene false in
local macro_rules | `(tactic| walk_at "vk_cl") => `(tactic| ((focus ((repeat first | with_reducible assumption | with_reducible exact SqT.of upd_same | with_reducible exact SqL.of upd_same | with_reducible exact optV_rq (by with_reducible assumption) (by with_reducible assumption) | with_reducible exact Ct.cq (by with_reducible assumption) | with_reducible exact rq_ab | (with_reducible apply Vk.Ct.copyq; with_reducible assumption) | (with_reducible apply Vk.Ct.copy; with_reducible assumption) | with_reducible exact rl11000 | with_reducible exact rl91 | with_reducible exact rl32 | with_reducible exact rl301 | with_reducible exact rl72 | with_reducible exact rl160 | with_reducible exact rl13 | with_reducible exact rl73 | with_reducible exact rl15 | with_reducible exact rl11 | with_reducible exact rl12 | with_reducible exact rl01 | with_reducible exact rl1m | with_reducible exact rlnm | with_reducible exact rln1 | with_reducible exact rlh1 | with_reducible exact rl910 | with_reducible exact rl1110 | with_reducible exact rl21 | with_reducible exact rln12 | with_reducible exact rln31 | with_reducible exact rlneg | (with_reducible apply Rq.same; (walk_at "vk_up")) | (with_reducible apply Rq.fr; (first | with_reducible exact Fr.upd _ | with_reducible assumption); (walk_at "vk_some")) | (with_reducible apply Rq.same; (walk_at "vk_upd")) | (with_reducible apply L2.Same.sqt; (walk_at "vk_up")) | (with_reducible apply sqt_fr; (first | with_reducible exact Fr.upd _ | with_reducible assumption); (walk_at "vk_some")) | (with_reducible apply L2.Same.sqt; (walk_at "vk_upd")) | (with_reducible apply L2.Same.seq; (walk_at "vk_up")) | (with_reducible apply seq_fr; (first | with_reducible exact Fr.upd _ | with_reducible assumption); with_reducible assumption) | (with_reducible apply L2.Same.seq; (walk_at "vk_upd")) | (with_reducible apply Pq.same; (walk_at "vk_up")) | (with_reducible apply Pq.fr; (first | with_reducible exact Fr.upd _ | with_reducible assumption); (walk_at "vk_some")) | (with_reducible apply Pq.same; (walk_at "vk_upd")) | (with_reducible apply Cq.same; (walk_at "vk_up")) | (with_reducible apply Cq.fr; (first | with_reducible exact Fr.upd _ | with_reducible assumption); (walk_at "vk_some"); with_reducible assumption) | (with_reducible apply Cq.same; (walk_at "vk_upd")) | (with_reducible apply Ct.same; (walk_at "vk_up")) | (with_reducible apply Ct.fr; (first | with_reducible exact Fr.upd _ | with_reducible assumption); (walk_at "vk_some"); with_reducible assumption) | (with_reducible apply Ct.same; (walk_at "vk_upd")) | (with_reducible apply optV.same; (walk_at "vk_up")) | (with_reducible apply optV.same; (walk_at "vk_upd")) | (with_reducible apply SgA.sm; (walk_at "vk_up")) | (with_reducible apply SgA.sm; (walk_at "vk_upd")) | (with_reducible apply Agv.sm; (walk_at "vk_up")) | (with_reducible apply Agv.frm; (first | with_reducible exact Fr.upd _ | with_reducible assumption); (walk_at "vk_some")) | (with_reducible apply Agv.sm; (walk_at "vk_upd")) | (with_reducible apply Lsv.sm; (walk_at "vk_up")) | (with_reducible apply Lsv.frm; (first | with_reducible exact Fr.upd _ | with_reducible assumption); (walk_at "vk_some")) | (with_reducible apply Lsv.sm; (walk_at "vk_upd")) | (with_reducible apply oSp.same; (walk_at "vk_up")) | (with_reducible apply fr_osp; (first | with_reducible exact Fr.upd _ | with_reducible assumption); (walk_at "vk_some")) | (with_reducible apply oSp.same; (walk_at "vk_upd")) | (with_reducible apply TrnV.sm; (walk_at "vk_up")) | (with_reducible apply TrnV.frm; (first | with_reducible exact Fr.upd _ | with_reducible assumption); (walk_at "vk_some")) | (with_reducible apply TrnV.sm; (walk_at "vk_upd"))); done))))
set_option hygiene false in
local macro_rules | `(tactic| walk_at "vk_sql") => `(tactic| ((first | (walk_at "vk_cl") | (focus (with_reducible apply L2.SqL.of; (walk_at "vk_raw"))))))
set_option hygiene false in
local macro_rules | `(tactic| walk_at "vk_atom") => `(tactic| ((first | with_reducible show Rq _ _ _ _ | with_reducible show SqT _ _ _ _ | with_reducible show SqL _ _ _ _ | with_reducible show Pq _ _ _ _ | with_reducible show Cq _ _ _ _ | with_reducible show Ct _ _ _ _ _ | with_reducible show Cz _ _ _ _ | with_reducible show Cok _ | with_reducible show Sz _ _ | with_reducible show Sto _ _ _ | with_reducible show Fr _ _ _ | with_reducible show Same _ _ | with_reducible show tyV _ _ _ _ | with_reducible show All2 _ _ _ | with_reducible show Gw _ _ _ _ _ _ | with_reducible show L2.Dp _ _ _ _ | with_reducible show L2.DpAll _ _ _ _ | with_reducible show Tree _ _ | with_reducible show optV _ _ _ _ | with_reducible show SgA _ _ _ _ _ | with_reducible show Agv _ _ _ _ _ _ _ _ _ | with_reducible show Lsv _ _ _ _ | with_reducible show oSp _ _ _ _ | with_reducible show TrnV _ _ _ _)))
set_option hygiene false in
local macro_rules | `(tactic| walk_at "vk_formsa") => `(tactic| ((first | with_reducible apply And.intro | ((fail_if_success first | with_reducible show ∃ _ : Nat → Nat → L2.St → Hp → Prop, _ | with_reducible show ∃ _ : Nat → Nat → Hp → Prop, _ | with_reducible show ∃ _ : Nat → L2.St → Hp → Prop, _); with_reducible apply Exists.intro) | (with_reducible refine ifT rfl ?_) | (with_reducible refine ifF rfl ?_) | (with_reducible refine ifT (dT (by with_reducible assumption)) ?_) | (with_reducible refine ifF (dF (by with_reducible assumption)) ?_) | (with_reducible refine ifD (fun gc => ?_) (fun gc => ?_)) | (with_reducible refine ifNF (by first | with_reducible assumption | with_reducible exact rfl) ?_) | (with_reducible refine ifNT (by with_reducible assumption) ?_) | (with_reducible refine ifN (fun gc => ?_) (fun gc => ?_)) | (with_reducible refine ifNF (by first | with_reducible assumption | with_reducible exact rfl) ?_) | ((first | rw [eqv_odp] | rw [eqv_odq]); first | (with_reducible refine ifT (dT (by with_reducible assumption)) ?_) | (with_reducible refine ifNF (by first | with_reducible assumption | with_reducible exact rfl) ?_) | (with_reducible refine ifD (fun gc => ?_) (fun gc => ?_)) | (with_reducible refine ifN (fun gc => ?_) (fun gc => ?_))) | (rw [eqv_dq]; first | (with_reducible refine ifT (dT (by with_reducible assumption)) ?_) | (with_reducible refine ifNF (by first | with_reducible assumption | with_reducible exact rfl) ?_) | (with_reducible refine ifD (fun gc => ?_) (fun gc => ?_)) | (with_reducible refine ifN (fun gc => ?_) (fun gc => ?_))) | (with_reducible refine ifT (by with_reducible assumption) ?_) | (with_reducible refine ifF (by with_reducible assumption) ?_) | (with_reducible refine ifT (by decide +kernel) ?_) | (with_reducible refine ifF (by decide +kernel) ?_) | (with_reducible refine Or.inl (Exists.intro _ (And.intro (rfl : [V.int _] = [V.int _]) ?_))) | ((with_reducible show ∀ p : Addr, _ = none → _); intro p np) | ((with_reducible show ∀ r : Int, ∀ H' : Hp, 0 ≤ r → _ → Sto _ _ H' → _ → _); intro r H' r0 r1 S e) | ((with_reducible show ∀ v : V, ∀ H' : Hp, Qd _ _ _ H' v → _ → _ → _); refine aQd (K := K) fun a q H' h h' zq okq S e => ?_) | ((with_reducible show ∀ H' : Hp, Same _ H' → _); intro H' e) | ((with_reducible show ∀ v : V, ∀ H' : Hp, Same _ H' → optV _ _ _ _ → _); intro v H' e h) | ((with_reducible show ∀ _ : V, ∀ _ : Hp, _ → _); refine aRq (K := K) fun a H' e h h' => ?_) | ((with_reducible show ∀ v : V, Rq _ _ v _ → _); refine aRq0 (K := K) fun a h h' => ?_))))
set_option hygiene false in
local macro_rules | `(tactic| walk_at "vk_forms") => `(tactic| ((first | with_reducible apply And.intro | ((fail_if_success first | with_reducible show ∃ l : Addr, ∃ xs : List V, ∃ y : V, _ = V.ref l ∧ _ = [y] ∧ _ = some (HO.lst xs) ∧ _ | with_reducible show ∃ _ : Nat → Nat → L2.St → Hp → Prop, _ | with_reducible show ∃ _ : Nat → Nat → Hp → Prop, _ | with_reducible show ∃ _ : Nat → L2.St → Hp → Prop, _); with_reducible apply Exists.intro) | (with_reducible refine ifT rfl ?_) | (with_reducible refine ifF rfl ?_) | (with_reducible refine ifT (dT (by with_reducible assumption)) ?_) | (with_reducible refine ifF (dF (by with_reducible assumption)) ?_) | (with_reducible refine ifD (fun gc => ?_) (fun gc => ?_)) | (with_reducible refine ifNF (by first | with_reducible assumption | with_reducible exact rfl) ?_) | (with_reducible refine ifNT (by with_reducible assumption) ?_) | (with_reducible refine ifN (fun gc => ?_) (fun gc => ?_)) | (with_reducible refine ifNF (by first | with_reducible assumption | with_reducible exact rfl) ?_) | ((first | rw [eqv_odp] | rw [eqv_odq]); first | (with_reducible refine ifT (dT (by with_reducible assumption)) ?_) | (with_reducible refine ifNF (by first | with_reducible assumption | with_reducible exact rfl) ?_) | (with_reducible refine ifD (fun gc => ?_) (fun gc => ?_)) | (with_reducible refine ifN (fun gc => ?_) (fun gc => ?_))) | (rw [eqv_dq]; first | (with_reducible refine ifT (dT (by with_reducible assumption)) ?_) | (with_reducible refine ifNF (by first | with_reducible assumption | with_reducible exact rfl) ?_) | (with_reducible refine ifD (fun gc => ?_) (fun gc => ?_)) | (with_reducible refine ifN (fun gc => ?_) (fun gc => ?_))) | (with_reducible refine ifT (by with_reducible assumption) ?_) | (with_reducible refine ifF (by with_reducible assumption) ?_) | (with_reducible refine ifT (by decide +kernel) ?_) | (with_reducible refine ifF (by decide +kernel) ?_) | (with_reducible refine Or.inl (Exists.intro _ (And.intro (rfl : [V.int _] = [V.int _]) ?_))) | ((with_reducible show ∀ p : Addr, _ = none → _); intro p np) | ((with_reducible show ∀ r : Int, ∀ H' : Hp, 0 ≤ r → _ → Sto _ _ H' → _ → _); intro r H' r0 r1 S e) | ((with_reducible show ∀ v : V, ∀ H' : Hp, Qd _ _ _ H' v → _ → _ → _); refine aQd (K := K) fun a q H' h h' zq okq S e => ?_) | ((with_reducible show ∀ H' : Hp, Same _ H' → _); intro H' e) | ((with_reducible show ∀ v : V, ∀ H' : Hp, Same _ H' → optV _ _ _ _ → _); intro v H' e h) | ((with_reducible show ∀ _ : V, ∀ _ : Hp, _ → _); refine aRq (K := K) fun a H' e h h' => ?_) | ((with_reducible show ∀ v : V, Rq _ _ v _ → _); refine aRq0 (K := K) fun a h h' => ?_))))
set_option hygiene false in
local macro_rules | `(tactic| walk_at "vk_va") => `(tactic| (((try dsimp only [cxOf_K, Cx.nox, Cx.wish]); repeat' (show (_ : Prop); first | with_reducible exact rfl | with_reducible assumption | (walk_at "vk_formsa") | ((with_reducible show ∀ d ∈ _, Tree _ d); first | exact treeAll_nil | refine treeAll_cons ?_ ?_) | (with_reducible exact ClsV.ty _) | ((with_reducible show TyX _ _ _ _); first | (apply sql_ty; (walk_at "vk_sql")) | (apply sqt_ty; (walk_at "vk_cl")) | exact .base (.int _)) | ((with_reducible show PySem.W.kitOne _ _ _ = some _); first | exact kit_ty (r := true) (by decide +kernel) | exact kit_ty (r := false) (by decide +kernel)) | ((with_reducible show SeqAt.shaped _ = true); first | with_reducible exact sh_dq _ | with_reducible exact sh_odp _ | decide +kernel) | ((with_reducible show _ = _); first | exact at0 rfl | exact at1 rfl | exact at2 rfl | exact rfl | (walk_at "vk_raw") | assumption) | ((with_reducible show (_ : Addr) ≠ _); (refine' Sto.ne (l := l) ?_ (by with_reducible assumption); (walk_at "vk_sto"))) | (with_reducible exact cdv2) | (with_reducible exact cdv4) | (with_reducible exact cdv8) | ((with_reducible show 0 < List.length _); first | omega | exact Nat.succ_pos _) | ((with_reducible show List.length _ < 2 ^ 32); first | omega | exact Nat.le_of_ble_eq_true rfl) | ((with_reducible show List.length _ ≤ sizeLine); first | exact Nat.zero_le _ | exact sz1 | exact sz2 | exact sz3 | exact sz4 | exact sm5 | exact sm6) | ((with_reducible show List.length _ < sizeLine); exact le1000 (by omega)) | ((with_reducible show _ ≤ _); omega) | ((with_reducible show (_ : Nat) < _); omega) | ((with_reducible show (_ : Int) < _); omega) | ((walk_at "vk_atom"); first | (walk_at "vk_cl") | (focus (with_reducible apply L2.SqL.of; (walk_at "vk_raw"))) | ((with_reducible show tyV _ _ _ _); apply Or.inl; apply And.intro rfl; apply Exists.intro; (walk_at "vk_sql")) | with_reducible exact L2.Dp.str _ | with_reducible exact L2.Dp.int _ | with_reducible exact L2.Dp.non | with_reducible exact L2.Dp.bl _ | (with_reducible apply Rq.dp; (walk_at "vk_cl")) | (with_reducible apply optV.dp; (walk_at "vk_cl")) | (with_reducible apply Vk.Ct.dd; (walk_at "vk_cl")) | (with_reducible apply L2.Dp.tup; (walk_at "vk_cl")) | (with_reducible apply L2.Dp.lst; (walk_at "vk_sql")) | exact tree_dq _ _ | exact Tree.str (by decide +kernel) | exact Tree.int _ | exact Tree.non | exact Tree.bl _ | (refine Tree.tup (Nat.le_of_ble_eq_true rfl) ?_) | with_reducible apply L2.DpAll.cons | with_reducible exact L2.DpAll.nil | with_reducible exact zz1 | with_reducible exact zo1 | with_reducible exact zl12 | with_reducible exact zl1m | with_reducible exact zlnm | with_reducible exact zln1 | with_reducible exact zlh1 | (with_reducible show Sz _ _; refine Sz.mono (by with_reducible assumption) (Nat.le_of_ble_eq_true rfl)) | with_reducible apply Sz.add | with_reducible apply Sz.sub | with_reducible apply Sz.mul | with_reducible apply Sz.neg | ((with_reducible show Sto _ _ _); (focus ((repeat first | with_reducible assumption | (with_reducible apply Sto.same; (walk_at "vk_up"))); done))) | ((with_reducible show Fr _ _ _); (focus ((repeat first | with_reducible assumption | with_reducible exact Fr.refl _ _ | (refine' Fr.trans ?_ (Fr.of (same_new (by with_reducible assumption) _))) | (refine' Fr.trans ?_ (by with_reducible assumption)) | (refine' Fr.trans ?_ (Fr.of (by with_reducible assumption)))); done))) | ((with_reducible show Same _ _); (walk_at "vk_same")) | assumption) | ((with_reducible show L2.SqL _ _ _ _ ∨ L2.SqT _ _ _ _); first | (apply Or.inl; (walk_at "vk_sql")) | (apply Or.inr; (walk_at "vk_cl"))) | ((fail_if_success (walk_at "vk_atom")); (fail_if_success with_reducible show rAppend _ _ _ _); (conv => whnf); first | (walk_at "vk_formsa") | with_reducible exact rfl | with_reducible assumption | ((with_reducible show _ = _); exact rfl)) ))))
set_option hygiene false in
local macro_rules | `(tactic| walk_at "vk_vc") => `(tactic| (((try dsimp only [cxOf_K, Cx.nox, Cx.wish]); repeat' (show (_ : Prop); first | with_reducible exact rfl | with_reducible assumption | (walk_at "vk_forms") | ((with_reducible show ∀ d ∈ _, Tree _ d); first | exact treeAll_nil | refine treeAll_cons ?_ ?_) | (with_reducible exact ClsV.ty _) | ((with_reducible show TyX _ _ _ _); first | (apply sql_ty; (walk_at "vk_sql")) | (apply sqt_ty; (walk_at "vk_cl")) | exact .base (.int _)) | ((with_reducible show PySem.W.kitOne _ _ _ = some _); first | exact kit_ty (r := true) (by decide +kernel) | exact kit_ty (r := false) (by decide +kernel)) | ((with_reducible show SeqAt.shaped _ = true); first | with_reducible exact sh_dq _ | with_reducible exact sh_odp _ | decide +kernel) | ((with_reducible show _ = _); first | exact at0 rfl | exact at1 rfl | exact at2 rfl | exact rfl | (walk_at "vk_raw") | assumption) | ((with_reducible show (_ : Addr) ≠ _); (refine' Sto.ne (l := l) ?_ (by with_reducible assumption); (walk_at "vk_sto"))) | (with_reducible exact cdv2) | (with_reducible exact cdv4) | (with_reducible exact cdv8) | ((with_reducible show 0 < List.length _); first | omega | exact Nat.succ_pos _) | ((with_reducible show List.length _ < 2 ^ 32); first | omega | exact Nat.le_of_ble_eq_true rfl) | ((with_reducible show List.length _ ≤ sizeLine); first | exact Nat.zero_le _ | exact sz1 | exact sz2 | exact sz3 | exact sz4 | exact sm5 | exact sm6) | ((with_reducible show List.length _ < sizeLine); exact le1000 (by omega)) | ((with_reducible show _ ≤ _); omega) | ((with_reducible show (_ : Nat) < _); omega) | ((with_reducible show (_ : Int) < _); omega) | ((walk_at "vk_atom"); first | (walk_at "vk_cl") | (focus (with_reducible apply L2.SqL.of; (walk_at "vk_raw"))) | ((with_reducible show tyV _ _ _ _); apply Or.inl; apply And.intro rfl; apply Exists.intro; (walk_at "vk_sql")) | with_reducible exact L2.Dp.str _ | with_reducible exact L2.Dp.int _ | with_reducible exact L2.Dp.non | with_reducible exact L2.Dp.bl _ | (with_reducible apply Rq.dp; (walk_at "vk_cl")) | (with_reducible apply optV.dp; (walk_at "vk_cl")) | (with_reducible apply Vk.Ct.dd; (walk_at "vk_cl")) | (with_reducible apply L2.Dp.tup; (walk_at "vk_cl")) | (with_reducible apply L2.Dp.lst; (walk_at "vk_sql")) | exact tree_dq _ _ | exact Tree.str (by decide +kernel) | exact Tree.int _ | exact Tree.non | exact Tree.bl _ | (refine Tree.tup (Nat.le_of_ble_eq_true rfl) ?_) | with_reducible apply L2.DpAll.cons | with_reducible exact L2.DpAll.nil | with_reducible exact zz1 | with_reducible exact zo1 | with_reducible exact zl12 | with_reducible exact zl1m | with_reducible exact zlnm | with_reducible exact zln1 | with_reducible exact zlh1 | (with_reducible show Sz _ _; refine Sz.mono (by with_reducible assumption) (Nat.le_of_ble_eq_true rfl)) | with_reducible apply Sz.add | with_reducible apply Sz.sub | with_reducible apply Sz.mul | with_reducible apply Sz.neg | ((with_reducible show Sto _ _ _); (focus ((repeat first | with_reducible assumption | (with_reducible apply Sto.same; (walk_at "vk_up"))); done))) | ((with_reducible show Fr _ _ _); (focus ((repeat first | with_reducible assumption | with_reducible exact Fr.refl _ _ | (refine' Fr.trans ?_ (Fr.of (same_new (by with_reducible assumption) _))) | (refine' Fr.trans ?_ (by with_reducible assumption)) | (refine' Fr.trans ?_ (Fr.of (by with_reducible assumption)))); done))) | ((with_reducible show Same _ _); (walk_at "vk_same")) | assumption) | ((with_reducible show L2.SqL _ _ _ _ ∨ L2.SqT _ _ _ _); first | (apply Or.inl; (walk_at "vk_sql")) | (apply Or.inr; (walk_at "vk_cl"))) | ((fail_if_success (walk_at "vk_atom")); (fail_if_success with_reducible show rAppend _ _ _ _); (conv => whnf); first | (walk_at "vk_forms") | with_reducible exact rfl | with_reducible assumption | ((with_reducible show _ = _); exact rfl)) ))))
set_option hygiene false in
local macro_rules | `(tactic| walk_at "vk_fr") => `(tactic| ((focus ((repeat first | with_reducible assumption | with_reducible exact Fr.refl _ _ | (refine' Fr.trans ?_ (Fr.of (same_new (by with_reducible assumption) _))) | (refine' Fr.trans ?_ (by with_reducible assumption)) | (refine' Fr.trans ?_ (Fr.of (by with_reducible assumption)))); done))))
namespace Vk
open PySem L2 Vm Vl
variable {K : PySem.W.Frag}
/-- a comprehension over a list: what each item gives, if it gives anything -/
theorem lcAll {α β : Type} {R : Hp → V → α → Prop} {R' : Hp → V → β → Prop} (L : Lasts R') (φ : α → Option β) {a : Addr} {xs : List V} {c : List α} {H : Hp} {g : TG} {tt : TT} {te : TE} {vs : List Nat} {σ : L2.St} {Qd : Hp → Prop} {D : Addr} (hD : H D = none)
    (hx : SqL K H a xs) (hc : All2 (R H) xs c) (hl : c.length ≤ 1000)
    (hs : ∀ (i : Nat) x p G, c[i]? = some p → R H x p → Same H G → ∀ (Y : V → Hp → Prop) (N : Hp → Prop), (∀ y G' b, Same G G' → φ p = some b → R' G' y b → Y y G') → (∀ G', φ p = none → Same G G' → N G') →
      g x (wipe σ vs) G fun σ2 H2 => wipe σ2 vs = wipe σ vs ∧ tt σ2 H2 fun b H3 => if b = true then te σ2 H3 Y else N H3)
    (hd : ∀ us H', Same H H' → H' D = some (.lst us) → All2 (R' H') us (c.filterMap φ) → Qd H') :
    ∃ W : Nat → Nat → Hp → Prop, (∃ m, W 0 m (upd H D (.lst []))) ∧ ∀ i m H, W i m H →
      ((Itl K a).stop i H ∧ Qd H) ∨ ((Itl K a).go i H ∧ ∃ Nx : Hp → Prop, (∀ H', Nx H' → ∃ m', m' < m ∧ W (i + 1) m' H') ∧ ∀ x H', (Itl K a).yld i H x H' → g x (wipe σ vs) H' fun σ2 H2 => wipe σ2 vs = wipe σ vs ∧ tt σ2 H2 fun b H3 =>
        if b = true then te σ2 H3 fun y H4 => ∃ acc, H4 D = some (.lst acc) ∧ acc.length < sizeLine ∧ Nx (upd H4 D (.lst (acc ++ [y]))) else Nx H3) := by
  refine lc_list (xs := xs) (fun i G => ∃ acc, G D = some (.lst acc) ∧ Same H G ∧ All2 (R' G) acc ((c.take i).filterMap φ)) ⟨[], upd_same, same_new hD _, by rw [List.take_zero]; exact All2.nil⟩ (fun i G _ h => by obtain ⟨_, _, s1, _⟩ := h; exact s1.seq hx) ?_ ?_
  · rintro i x G hxi ⟨acc, h1, s1, h2⟩
    have hi : i < c.length := by have := (List.getElem?_eq_some_iff.mp hxi).1; rw [hc.1] at this; exact this
    have ec : c[i]? = some c[i] := List.getElem?_eq_getElem hi
    have et : c.take (i + 1) = c.take i ++ [c[i]] := by rw [List.take_add_one, ec]; rfl
    refine hs i x c[i] G ec (hc.2 i x _ hxi ec) s1 _ _ (fun y G' b e1 eb r => ?_) (fun G' eb e1 => ?_)
    · have hD2 := e1 _ _ h1
      have fr : Fr D G' (upd G' D (.lst (acc ++ [y]))) := Fr.upd _
      refine ⟨acc, hD2, ?_, acc ++ [y], upd_same, same_upd (s1.trans e1) hD _, ?_⟩
      · have q := h2.1
        have q2 := List.length_filterMap_le φ (c.take i)
        rw [List.length_take] at q2
        have : sizeLine = 16777216 := sizeLine_eq
        omega
      · rw [et, List.filterMap_append]
        have : [c[i]].filterMap φ = [b] := by simp [List.filterMap, eb]
        rw [this]
        exact (h2.imp fun _ _ q => L fr ⟨_, hD2⟩ (L (Fr.of (s := D) e1) ⟨_, h1⟩ q)).snoc (L fr ⟨_, hD2⟩ r)
    · refine ⟨acc, e1 _ _ h1, s1.trans e1, ?_⟩
      rw [et, List.filterMap_append]
      have : [c[i]].filterMap φ = [] := by simp [List.filterMap, eb]
      rw [this, List.append_nil]
      exact h2.imp fun _ _ q => L (Fr.of (s := D) e1) ⟨_, h1⟩ q
  · rintro G ⟨acc, h1, s1, h2⟩
    rw [List.take_of_length_le (by rw [hc.1]; exact Nat.le_refl _)] at h2
    exact hd acc G s1 h1 h2
/-- a comprehension over a tuple: what each item gives, if it gives anything -/
theorem lcAllT {α β : Type} {R : Hp → V → α → Prop} {R' : Hp → V → β → Prop} (L : Lasts R') (φ : α → Option β) {a : Addr} {xs : List V} {c : List α} {H : Hp} {g : TG} {tt : TT} {te : TE} {vs : List Nat} {σ : L2.St} {Qd : Hp → Prop} {D : Addr} (hD : H D = none)
    (hx : SqT K H a xs) (hc : All2 (R H) xs c) (hl : c.length ≤ 1000)
    (hs : ∀ (i : Nat) x p G, c[i]? = some p → R H x p → Same H G → ∀ (Y : V → Hp → Prop) (N : Hp → Prop), (∀ y G' b, Same G G' → φ p = some b → R' G' y b → Y y G') → (∀ G', φ p = none → Same G G' → N G') →
      g x (wipe σ vs) G fun σ2 H2 => wipe σ2 vs = wipe σ vs ∧ tt σ2 H2 fun b H3 => if b = true then te σ2 H3 Y else N H3)
    (hd : ∀ us H', Same H H' → H' D = some (.lst us) → All2 (R' H') us (c.filterMap φ) → Qd H') :
    ∃ W : Nat → Nat → Hp → Prop, (∃ m, W 0 m (upd H D (.lst []))) ∧ ∀ i m H, W i m H →
      ((Itt K a).stop i H ∧ Qd H) ∨ ((Itt K a).go i H ∧ ∃ Nx : Hp → Prop, (∀ H', Nx H' → ∃ m', m' < m ∧ W (i + 1) m' H') ∧ ∀ x H', (Itt K a).yld i H x H' → g x (wipe σ vs) H' fun σ2 H2 => wipe σ2 vs = wipe σ vs ∧ tt σ2 H2 fun b H3 =>
        if b = true then te σ2 H3 fun y H4 => ∃ acc, H4 D = some (.lst acc) ∧ acc.length < sizeLine ∧ Nx (upd H4 D (.lst (acc ++ [y]))) else Nx H3) := by
  refine lc_tup (xs := xs) (fun i G => ∃ acc, G D = some (.lst acc) ∧ Same H G ∧ All2 (R' G) acc ((c.take i).filterMap φ)) ⟨[], upd_same, same_new hD _, by rw [List.take_zero]; exact All2.nil⟩ (fun i G _ h => by obtain ⟨_, _, s1, _⟩ := h; exact s1.sqt hx) ?_ ?_
  · rintro i x G hxi ⟨acc, h1, s1, h2⟩
    have hi : i < c.length := by have := (List.getElem?_eq_some_iff.mp hxi).1; rw [hc.1] at this; exact this
    have ec : c[i]? = some c[i] := List.getElem?_eq_getElem hi
    have et : c.take (i + 1) = c.take i ++ [c[i]] := by rw [List.take_add_one, ec]; rfl
    refine hs i x c[i] G ec (hc.2 i x _ hxi ec) s1 _ _ (fun y G' b e1 eb r => ?_) (fun G' eb e1 => ?_)
    · have hD2 := e1 _ _ h1
      have fr : Fr D G' (upd G' D (.lst (acc ++ [y]))) := Fr.upd _
      refine ⟨acc, hD2, ?_, acc ++ [y], upd_same, same_upd (s1.trans e1) hD _, ?_⟩
      · have q := h2.1
        have q2 := List.length_filterMap_le φ (c.take i)
        rw [List.length_take] at q2
        have : sizeLine = 16777216 := sizeLine_eq
        omega
      · rw [et, List.filterMap_append]
        have : [c[i]].filterMap φ = [b] := by simp [List.filterMap, eb]
        rw [this]
        exact (h2.imp fun _ _ q => L fr ⟨_, hD2⟩ (L (Fr.of (s := D) e1) ⟨_, h1⟩ q)).snoc (L fr ⟨_, hD2⟩ r)
    · refine ⟨acc, e1 _ _ h1, s1.trans e1, ?_⟩
      rw [et, List.filterMap_append]
      have : [c[i]].filterMap φ = [] := by simp [List.filterMap, eb]
      rw [this, List.append_nil]
      exact h2.imp fun _ _ q => L (Fr.of (s := D) e1) ⟨_, h1⟩ q
  · rintro G ⟨acc, h1, s1, h2⟩
    rw [List.take_of_length_le (by rw [hc.1]; exact Nat.le_refl _)] at h2
    exact hd acc G s1 h1 h2
theorem forL {a : Addr} {xs : List V} {g : TG} {tb : TS} {nx : L2.St → Hp → Prop} {rt : VK} {σ : L2.St} {H : Hp} (Pv : Nat → L2.St → Hp → Prop) (h0 : Pv 0 σ H) (hl : ∀ i σ H, i ≤ xs.length → Pv i σ H → SqL K H a xs) (hs : ∀ i x σ H, xs[i]? = some x → Pv i σ H → g x σ H fun σ2 H2 => tb { nx := Pv (i + 1), rt := rt, bk := nx, ct := Pv (i + 1) } σ2 H2)
    (hd : ∀ σ H, Pv xs.length σ H → nx σ H) :
    ∃ W : Nat → Nat → L2.St → Hp → Prop, (∃ m, W 0 m σ H) ∧ ∀ i m σ H, W i m σ H →
      ((Itl K a).stop i H ∧ nx σ H) ∨ ((Itl K a).go i H ∧ ∃ N : L2.St → Hp → Prop, (∀ σ' H', N σ' H' → ∃ m', m' < m ∧ W (i + 1) m' σ' H') ∧ ∀ x H', (Itl K a).yld i H x H' → g x σ H' fun σ2 H2 => tb { nx := N, rt := rt, bk := nx, ct := N } σ2 H2) :=
  for_list (D := { nx := nx, rt := rt }) Pv h0 hl hs hd
theorem forT {a : Addr} {xs : List V} {g : TG} {tb : TS} {nx : L2.St → Hp → Prop} {rt : VK} {σ : L2.St} {H : Hp} (Pv : Nat → L2.St → Hp → Prop) (h0 : Pv 0 σ H) (hl : ∀ i σ H, i ≤ xs.length → Pv i σ H → SqT K H a xs) (hs : ∀ i x σ H, xs[i]? = some x → Pv i σ H → g x σ H fun σ2 H2 => tb { nx := Pv (i + 1), rt := rt, bk := nx, ct := Pv (i + 1) } σ2 H2)
    (hd : ∀ σ H, Pv xs.length σ H → nx σ H) :
    ∃ W : Nat → Nat → L2.St → Hp → Prop, (∃ m, W 0 m σ H) ∧ ∀ i m σ H, W i m σ H →
      ((Itt K a).stop i H ∧ nx σ H) ∨ ((Itt K a).go i H ∧ ∃ N : L2.St → Hp → Prop, (∀ σ' H', N σ' H' → ∃ m', m' < m ∧ W (i + 1) m' σ' H') ∧ ∀ x H', (Itt K a).yld i H x H' → g x σ H' fun σ2 H2 => tb { nx := N, rt := rt, bk := nx, ct := N } σ2 H2) :=
  for_tup (D := { nx := nx, rt := rt }) Pv h0 hl hs hd
theorem forR {lo : Int} {n : Nat} {g : TG} {tb : TS} {nx : L2.St → Hp → Prop} {rt : VK} {σ : L2.St} {H : Hp} (Pv : Nat → L2.St → Hp → Prop) (h0 : Pv 0 σ H) (hs : ∀ i σ H, i < n → Pv i σ H → g (.int (lo + i)) σ H fun σ2 H2 => tb { nx := Pv (i + 1), rt := rt, bk := nx, ct := Pv (i + 1) } σ2 H2)
    (hd : ∀ σ H, Pv n σ H → nx σ H) :
    ∃ W : Nat → Nat → L2.St → Hp → Prop, (∃ m, W 0 m σ H) ∧ ∀ i m σ H, W i m σ H →
      ((Itr lo n).stop i H ∧ nx σ H) ∨ ((Itr lo n).go i H ∧ ∃ N : L2.St → Hp → Prop, (∀ σ' H', N σ' H' → ∃ m', m' < m ∧ W (i + 1) m' σ' H') ∧ ∀ x H', (Itr lo n).yld i H x H' → g x σ H' fun σ2 H2 => tb { nx := N, rt := rt, bk := nx, ct := N } σ2 H2) :=
  for_range (D := { nx := nx, rt := rt }) Pv h0 hs hd
theorem forE {a : Addr} {xs : List V} {g : TG} {tb : TS} {nx : L2.St → Hp → Prop} {rt : VK} {σ : L2.St} {H : Hp} (Pv : Nat → L2.St → Hp → Prop) (h0 : Pv 0 σ H) (hq : ∀ i σ H, Pv i σ H → SqL K H a xs) (hs : ∀ (i : Nat) (x : V) (T : Addr) (σ : L2.St) (H : Hp), xs[i]? = some x → Pv i σ H → H T = none → g (.ref T) σ (upd H T (.tup [.int (i : Nat), x])) fun σ2 H2 => tb { nx := Pv (i + 1), rt := rt, bk := nx, ct := Pv (i + 1) } σ2 H2)
    (hd : ∀ σ H, Pv xs.length σ H → nx σ H) :
    ∃ W : Nat → Nat → L2.St → Hp → Prop, (∃ m, W 0 m σ H) ∧ ∀ i m σ H, W i m σ H →
      ((Ite K a).stop i H ∧ nx σ H) ∨ ((Ite K a).go i H ∧ ∃ N : L2.St → Hp → Prop, (∀ σ' H', N σ' H' → ∃ m', m' < m ∧ W (i + 1) m' σ' H') ∧ ∀ v H', (Ite K a).yld i H v H' → g v σ H' fun σ2 H2 => tb { nx := N, rt := rt, bk := nx, ct := N } σ2 H2) :=
  for_enum (D := { nx := nx, rt := rt }) Pv h0 hq hs hd
theorem ifN {p : Prop} [Decidable p] {A B : Prop} (h1 : ¬ p → A) (h2 : p → B) : if (!decide p) = true then A else B := by
  by_cases h : p
  · rw [decide_eq_true h]; exact h2 h
  · rw [decide_eq_false h]; exact h1 h
def odp : Option Rat → PyData
  | none => .none
  | some q => dq q
theorem optV.dp {H : Hp} {v : V} {o : Option Rat} (h : optV K H v o) : Dp K H v (odp o) := by
  cases o with
  | none =>
    have h : v = .non := h
    rw [h]
    exact .non
  | some q => exact Rq.dp h
theorem sh_odp (o : Option Rat) : SeqAt.shaped (odp o) = true := by cases o <;> rfl
theorem eqv_odp (o u : Option Rat) : PyData.eqv (odp o) (odp u) = decide (o = u) := by
  cases o with
  | none =>
    cases u with
    | none => rfl
    | some q => rfl
  | some p =>
    cases u with
    | none => rfl
    | some q =>
      show PyData.eqv (dq p) (dq q) = _
      rw [eqv_dq]
      by_cases h : p = q
      · rw [dT h, dT (congrArg some h)]
      · rw [dF h, dF fun e => h (Option.some.inj e)]
theorem eqv_odq (o : Option Rat) (q : Rat) : PyData.eqv (odp o) (dq q) = decide (o = some q) := eqv_odp o (some q)
theorem treeAll_nil {n : Nat} : ∀ d ∈ ([] : List PyData), Tree n d := nofun
theorem treeAll_cons {n : Nat} {d : PyData} {ds : List PyData} (h : Tree n d) (g : ∀ d ∈ ds, Tree n d) : ∀ e ∈ d :: ds, Tree n e := fun e he => by
  rcases List.mem_cons.mp he with rfl | he
  · exact h
  · exact g e he
theorem ifNT {p : Prop} [Decidable p] {A B : Prop} (h : ¬ p) (hA : A) : if (!decide p) = true then A else B := by rw [decide_eq_false h]; exact hA
theorem ifNF {p : Prop} [Decidable p] {A B : Prop} (h : p) (hB : B) : if (!decide p) = true then A else B := by rw [decide_eq_true h]; exact hB
theorem optV_rq {H : Hp} {v : V} {o : Option Rat} {q : Rat} (h : optV K H v o) (e : o = some q) : Rq K H v q := by subst e; exact h
theorem aQd {l s : Addr} {m : Nat} {ok : Rat → Prop} {H : Hp} {Q : VK} (h : ∀ a q H', Rq K H' (.ref a) q → SqT K H' a [.int q.num, .int (q.den : Int)] → Sz m q → ok q → Sto l s H' → Fr s H H' → Q (.ref a) H') : ∀ v H', Qd K m ok H' v → Sto l s H' → Fr s H H' → Q v H' := fun v H' hq S e => by
  obtain ⟨q, hr, z, o⟩ := hq
  obtain ⟨a, rfl, ha⟩ := id hr
  exact h a q H' hr ha z o S e
theorem aRq0 {q : Rat} {H : Hp} {Q : VK} (h : ∀ a, Rq K H (.ref a) q → SqT K H a [.int q.num, .int (q.den : Int)] → Q (.ref a) H) : ∀ v, Rq K H v q → Q v H := fun v hq => by
  obtain ⟨a, rfl, ha⟩ := id hq
  exact h a hq ha
structure Hold (p : Prop) : Prop where
  out : p
theorem rl11 {H : Hp} {t : Addr} : Rq K (upd H t (.tup [.int 1, .int 1])) (.ref t) (1) := rq_new 1 1 _ (by decide +kernel) (by decide +kernel)
theorem zl11 : Sz 10 (1 : Rat) := by decide +kernel
theorem rl12 {H : Hp} {t : Addr} : Rq K (upd H t (.tup [.int 1, .int 2])) (.ref t) (mkRat 1 2) := rq_new 1 2 _ (by decide +kernel) (by decide +kernel)
theorem zl12 : Sz 10 (mkRat 1 2 : Rat) := by decide +kernel
theorem rl01 {H : Hp} {t : Addr} : Rq K (upd H t (.tup [.int 0, .int 1])) (.ref t) (0) := rq_new 0 1 _ (by decide +kernel) (by decide +kernel)
theorem zl01 : Sz 10 (0 : Rat) := by decide +kernel
theorem rl1m {H : Hp} {t : Addr} : Rq K (upd H t (.tup [.int 1, .int 1000])) (.ref t) (mkRat 1 1000) := rq_new 1 1000 _ (by decide +kernel) (by decide +kernel)
theorem zl1m : Sz 10 (mkRat 1 1000 : Rat) := by decide +kernel
theorem rlnm {H : Hp} {t : Addr} : Rq K (upd H t (.tup [.int (-1), .int 1000])) (.ref t) (mkRat (-1) 1000) := rq_new (-1) 1000 _ (by decide +kernel) (by decide +kernel)
theorem zlnm : Sz 10 (mkRat (-1) 1000 : Rat) := by decide +kernel
theorem rln1 {H : Hp} {t : Addr} : Rq K (upd H t (.tup [.int (-1), .int 1])) (.ref t) (-1) := rq_new (-1) 1 _ (by decide +kernel) (by decide +kernel)
theorem zln1 : Sz 10 (-1 : Rat) := by decide +kernel
theorem rlh1 {H : Hp} {t : Addr} : Rq K (upd H t (.tup [.int 100, .int 1])) (.ref t) (100) := rq_new 100 1 _ (by decide +kernel) (by decide +kernel)
theorem zlh1 : Sz 10 (100 : Rat) := by decide +kernel
/-- a list that grows -/
structure Gw {α : Type} (R : Hp → V → α → Prop) (H : Hp) (D : Addr) (us : List V) (os : List α) (G : Hp) : Prop where
  fresh : H D = none
  same : Same H G
  at_ : G D = some (.lst us)
  all : All2 (R G) us os
theorem Gw.go {α : Type} {R : Hp → V → α → Prop} {H G G1 : Hp} {D : Addr} {us : List V} {os : List α} (L : Lasts R) (h : Gw R H D us os G) (e : Same G G1) : Gw R H D us os G1 :=
  ⟨h.fresh, h.same.trans e, e _ _ h.at_, h.all.imp fun _ _ q => L (Fr.of (s := D) e) ⟨_, h.at_⟩ q⟩
theorem Gw.app {α : Type} {R : Hp → V → α → Prop} {H G : Hp} {D : Addr} {us : List V} {os : List α} {x : V} {q : α} (L : Lasts R) (h : Gw R H D us os G) (r : R G x q) : Gw R H D (us ++ [x]) (os ++ [q]) (upd G D (.lst (us ++ [x]))) :=
  ⟨h.fresh, same_upd h.same h.fresh _, upd_same, (h.all.imp fun _ _ q => L (Fr.upd _) ⟨_, h.at_⟩ q).snoc (L (Fr.upd _) ⟨_, h.at_⟩ r)⟩
theorem appGw {α : Type} {R : Hp → V → α → Prop} {H G : Hp} {D : Addr} {us : List V} {os : List α} {x : V} {q : α} {C : Addr → List V → V → Prop} (L : Lasts R) (gw : Gw R H D us os G) (r : R G x q) (hl : us.length < sizeLine) (k : Gw R H D (us ++ [x]) (os ++ [q]) (upd G D (.lst (us ++ [x]))) → Fr D G (upd G D (.lst (us ++ [x]))) → C D us x) :
    ∃ (l : Addr) (xs : List V) (y : V), V.ref D = .ref l ∧ [x] = [y] ∧ G l = some (.lst xs) ∧ xs.length < sizeLine ∧ C l xs y := ⟨D, us, x, rfl, rfl, gw.at_, hl, k (gw.app L r) (Fr.upd _)⟩
theorem Gw.start {α : Type} {R : Hp → V → α → Prop} {H G : Hp} {D : Addr} (e : Same H G) (h : G D = none) : Gw R H D [] [] (upd G D (.lst [])) := ⟨sameFree e h, e.trans (same_new h _), upd_same, All2.nil⟩
end Vk
set_option maxHeartbeats 4000000
namespace Vk
open PySem L2 Vm Vl
variable {l aZERO aONE CB CR CV fB fR : Addr} {P : Program} {w : World} {K : PySem.W.Frag} {mg : Str → Option Value} {base : Heap} {k : Nat} {f f1 f2 f3 f4 f5 f6 f7 f8 f9 : Addr} {fd fd1 fd2 fd3 fd4 fd5 fd6 fd7 fd8 fd9 : FuncData}
theorem place_cut {c : List Pc} {t : Rat} {i : Nat} {p : Pc} (ok : Cok c) (done : ∀ (j : Nat) (p : Pc), j < i → c[j]? = some p → ¬ t < p.s) (ec : c[i]? = some p) (g : t < p.s) : (c.filter (on t)).length = i := by
  have hi := (List.getElem?_eq_some_iff.mp ec).1
  have e : c.filter (on t) = c.take i := filter_take _ fun j x hx => by
    constructor
    · intro o
      refine Nat.lt_of_not_le fun l => ?_
      have : p.s ≤ x.s := by
        by_cases e : i = j
        · subst e; rw [ec] at hx; cases hx; exact Rat.le_refl
        · have := cok_lt ok (show i < j by omega) ec hx; grind
      simp [on] at o
      grind
    · intro l
      simp [on, done j x l hx]
  rw [e, List.length_take]
  omega
abbrev s__place_at : Stmt := top 26
abbrev N__place_at : List Str := ["course", "t", "place", "start", "shown", "rate"]
theorem sc__place_at : FnScope N__place_at ["course", "t"] (defScope s__place_at) := ⟨rfl, rfl, rfl, by decide +kernel, rfl, by decide +kernel, by decide +kernel⟩
abbrev ps__place_at : List Str := ["course", "t"]
def spPlace (K : PySem.W.Frag) : Sp := fun vs H Q _ => ∃ (a : Addr) (y : V) (c : List Pc) (t : Rat) (i j l m : Nat), vs = [.ref a, y] ∧ Cq K H a c ∧ Rq K H y t ∧ Cz i j l c ∧ Sz m t ∧ Cok c ∧ i + m + 1 ≤ 9000 ∧ Q (.int (((c.filter (on t)).length : Int) - 1)) H
theorem ok_place_at (F : Fn K mg "_place_at" s__place_at ps__place_at f fd) (dcompare : Def P w K mg base k "compare" ["a", "b"] (spTest2 K fun p q => .int (sg p q)) f1 fd1) : Def P w K mg base (k + 1) "_place_at" ps__place_at (spPlace K) f fd := by
  refine ⟨F.F.ok sc__place_at (fun vs H Q E h => ?_) (fun cdv A outer s H vs Q E hr h => ?_), F.m, F.F.kp, F.b⟩
  · obtain ⟨_, _, _, _, _, _, _, _, rfl, _⟩ := h
    rfl
  obtain ⟨a, y, c, t, i0, j0, l0, m, rfl, ⟨xs, hxs, hc⟩, hy, cz, zt, ok, hb, z⟩ := h
  refine ⟨_, (pss_cons (ps_set (i := 2) sc__place_at.nd rfl (Or.inl rfl) (pe_un un_neg pe_int))
      (pss_cons (ps_for PassesOwn.never rfl (pi_list (pv 0)) (pg_tup rfl (pgs_cons (pg_name (i := 3) sc__place_at.nd rfl (Or.inl rfl)) (pgs_cons (pg_name (i := 4) sc__place_at.nd rfl (Or.inl rfl)) (pgs_cons (pg_name (i := 5) sc__place_at.nd rfl (Or.inl rfl)) pgs_nil))))
        (pss_cons (ps_if (pt_cmpR op_gt (pcall dcompare hr (pa_cons (pv 3) (pa_cons (pv 1) pa_nil))) pe_int (nomark _))
          (pss_one ps_break)
          pss_nil)
        (pss_one (ps_aug (i := 2) sc__place_at.nd rfl (Or.inl rfl) pe_int ip_add))))
      (pss_one (ps_ret (pv 2))))), ?_⟩
  (walk_at "vk_vc")
  refine forL (K := K) (a := a) (xs := xs) (fun i σ G => ∃ k3 k4 k5, σ = [some (.ref a), some y, some (.int ((i : Int) - 1)), k3, k4, k5] ∧ G = H ∧ ∀ (j : Nat) (p : Pc), j < i → c[j]? = some p → ¬ t < p.s)
      ⟨none, none, none, rfl, rfl, fun j p h => absurd h (by omega)⟩ (fun i σ G _ h => by obtain ⟨_, _, _, _, rfl, _⟩ := h; exact hxs) ?_ ?_
  · rintro i u σ G hu ⟨k3, k4, k5, rfl, rfl, done⟩
    have hi : i < c.length := by have := (List.getElem?_eq_some_iff.mp hu).1; rw [hc.1] at this; exact this
    have ec : c[i]? = some c[i] := List.getElem?_eq_getElem hi
    obtain ⟨pa, ps, pv, pr, rfl, hpa, r1, r2, r3⟩ := hc.2 i u _ hu ec
    generalize c[i] = p at ec r1 r2 r3
    have zp := (cz p (List.mem_of_getElem? ec)).1
    (walk_at "vk_vc")
    · have e := place_cut ok done ec (sg_gt.mp gc)
      rw [e] at z; exact z
    · show [some (V.ref a), some y, some (V.int ((i : Int) - 1 + 1)), some ps, some pv, some pr] = [some (V.ref a), some y, some (V.int (((i + 1 : Nat) : Int) - 1)), some ps, some pv, some pr]
      rw [show (i : Int) - 1 + 1 = ((i + 1 : Nat) : Int) - 1 by omega]
    · intro j q hj hq
      by_cases e : j = i
      · subst e; rw [ec] at hq; cases hq
        exact fun g => gc (sg_gt.mpr g)
      · exact done j q (by omega) hq
  · rintro σ G ⟨k3, k4, k5, rfl, rfl, done⟩
    have e : (c.filter (on t)) = c := List.filter_eq_self.mpr fun p hp => by
      obtain ⟨j, hj⟩ := List.mem_iff_getElem?.mp hp
      have := done j p (by have := (List.getElem?_eq_some_iff.mp hj).1; rw [hc.1]; exact this) hj
      simp [on, this]
    rw [e, ← hc.1] at z
    (walk_at "vk_vc")
theorem on_take {c : List Pc} (ok : Cok c) (t : Rat) : c.filter (on t) = c.take (c.filter (on t)).length := by
  by_cases h : ∃ i p, c[i]? = some p ∧ t < p.s ∧ ∀ (j : Nat) (q : Pc), j < i → c[j]? = some q → ¬ t < q.s
  · obtain ⟨i, p, ec, g, done⟩ := h
    have e := place_cut ok done ec g
    rw [e]
    refine filter_take _ fun j x hx => ?_
    constructor
    · intro o
      refine Nat.lt_of_not_le fun l => ?_
      have : p.s ≤ x.s := by
        by_cases e : i = j
        · subst e; rw [ec] at hx; cases hx; exact Rat.le_refl
        · have := cok_lt ok (show i < j by omega) ec hx; grind
      simp [on] at o
      grind
    · intro l
      simp [on, done j x l hx]
  · have e : c.filter (on t) = c := List.filter_eq_self.mpr fun p hp => by
      obtain ⟨j, hj⟩ := List.mem_iff_getElem?.mp hp
      have key : ∀ (n : Nat) (q : Pc), c[n]? = some q → ¬ t < q.s := by
        intro n
        induction n using Nat.strongRecOn with
        | ind n ih =>
          intro q hq g
          exact h ⟨n, q, hq, g, fun m r hm hr => ih m hm r hr⟩
      simp [on, key j p hj]
    rw [e, List.take_length]
/-- the piece in force -/
def pcAt (c : List Pc) (t : Rat) : Option Pc := (c.filter (on t)).getLast?
theorem now_pc (c : List Pc) (t : Rat) : nowf c t = (pcAt c t).map (vl t) := rfl
theorem pcAt_at {c : List Pc} {t : Rat} (h : 0 < (c.filter (on t)).length) : ∃ p, p ∈ c ∧ pcAt c t = some p ∧ ∀ ok : Cok c, c[(c.filter (on t)).length - 1]? = some p := by
  obtain ⟨p, hp⟩ : ∃ p, pcAt c t = some p := by
    unfold pcAt
    cases e : (c.filter (on t)).getLast? with
    | none => rw [List.getLast?_eq_none_iff] at e; rw [e] at h; exact absurd h (by simp)
    | some p => exact ⟨p, rfl⟩
  refine ⟨p, (List.mem_filter.mp (List.mem_of_getLast? hp)).1, hp, fun ok => ?_⟩
  have e := on_take ok t
  unfold pcAt at hp
  rw [List.getLast?_eq_getElem?, e, List.getElem?_take, List.length_take] at hp
  have hm : (c.filter (on t)).length ≤ c.length := List.length_filter_le _ _
  rw [Nat.min_eq_left hm] at hp
  rw [if_pos (by omega)] at hp
  exact hp
theorem pcAt_none {c : List Pc} {t : Rat} (h : (c.filter (on t)).length = 0) : pcAt c t = none := by
  unfold pcAt
  rw [List.eq_nil_of_length_eq_zero h]
  rfl
abbrev s__piece_at : Stmt := top 27
abbrev N__piece_at : List Str := ["course", "t", "place"]
theorem sc__piece_at : FnScope N__piece_at ["course", "t"] (defScope s__piece_at) := ⟨rfl, rfl, rfl, by decide +kernel, rfl, by decide +kernel, by decide +kernel⟩
abbrev ps__piece_at : List Str := ["course", "t"]
def spPieceAt (K : PySem.W.Frag) (CB : Addr) : Sp := fun vs H Q E => ∃ (a : Addr) (y : V) (c : List Pc) (t : Rat) (i j l m : Nat), vs = [.ref a, y] ∧ Cq K H a c ∧ Rq K H y t ∧ Cz i j l c ∧ Sz m t ∧ Cok c ∧ i + m + 1 ≤ 9000 ∧ c.length ≤ 900 ∧ (∀ p v, p ∈ c → pcAt c t = some p → Pq K H v p → Q v H) ∧ (pcAt c t = none → eV E CB H y)
theorem ok_piece_at (TBeforeStart : PySem.ValX.ValTxt K mg "BeforeStart" CB fB) (F : Fn K mg "_piece_at" s__piece_at ps__piece_at f fd) (d_place_at : Def P w K mg base k "_place_at" ["course", "t"] (spPlace K) f1 fd1) : DefY P w K mg base (k + 1) "_piece_at" ps__piece_at (spPieceAt K CB) f fd := by
  refine ⟨okY F.F sc__piece_at (fun vs H Q E h => ?_) (fun cdv A outer s H vs Q E hr h => ?_), F.m, F.F.kp, F.b⟩
  · obtain ⟨_, _, _, _, _, _, _, _, rfl, _⟩ := h
    rfl
  obtain ⟨a, y, c, t, i0, j0, l0, m, rfl, hC, hy, cz, zt, ok, hb, hl, z, e⟩ := h
  obtain ⟨xs, hxs, hc⟩ := id hC
  refine ⟨_, (pss_cons (ps_set (i := 2) sc__piece_at.nd rfl (Or.inl rfl) (pcall d_place_at hr (pa_cons (pv 0) (pa_cons (pv 1) pa_nil))))
      (pss_cons (ps_if (pt_cmpR op_lt (pv 2) pe_int (nomark _))
        (pss_one (ps_raiseValN rfl TBeforeStart hr (L2N.takes_of rfl rfl rfl rfl) (pa_cons (pv 1) pa_nil)))
        pss_nil)
      (pss_one (ps_ret (pe_ix ix_list (pv 0) (pv 2) (fun _ _ => rfl)))))), ?_⟩
  by_cases h0 : (c.filter (on t)).length = 0
  · (walk_at "vk_vc")
    · exact e (pcAt_none h0) p np
    all_goals (exfalso; omega)
  · obtain ⟨p, hm, hp, hi⟩ := pcAt_at (c := c) (t := t) (by omega)
    obtain ⟨v, hv, pq⟩ := hc.at (hi ok)
    have ha : atI xs (((c.filter (on t)).length : Int) - 1) = some v := at_of (j := (c.filter (on t)).length - 1) (by omega) hv
    have key := z p v hm hp pq
    (walk_at "vk_vc")
    omega
abbrev s_shown_at : Stmt := top 28
abbrev N_shown_at : List Str := ["course", "t"]
theorem sc_shown_at : FnScope N_shown_at ["course", "t"] (defScope s_shown_at) := ⟨rfl, rfl, rfl, by decide +kernel, rfl, by decide +kernel, by decide +kernel⟩
abbrev ps_shown_at : List Str := ["course", "t"]
def spShownAt (K : PySem.W.Frag) (CB : Addr) : Sp := fun vs H Q E => ∃ (a : Addr) (y : V) (c : List Pc) (t : Rat) (i j l m : Nat), vs = [.ref a, y] ∧ Cq K H a c ∧ Rq K H y t ∧ Cz i j l c ∧ Sz m t ∧ Cok c ∧ j + l + m + i + 3 ≤ 9000 ∧ c.length ≤ 900 ∧ (∀ q a H', nowf c t = some q → Same H H' → Rq K H' (.ref a) q → Q (.ref a) H') ∧ (nowf c t = none → eV E CB H y)
theorem ok_shown_at (F : Fn K mg "shown_at" s_shown_at ps_shown_at f fd) (d_piece_at : DefY P w K mg base k "_piece_at" ["course", "t"] (spPieceAt K CB) f1 fd1) (d_shown_by : Def P w K mg base k "_shown_by" ["piece", "t"] (spShown K) f2 fd2) : DefY P w K mg base (k + 1) "shown_at" ps_shown_at (spShownAt K CB) f fd := by
  refine ⟨okY F.F sc_shown_at (fun vs H Q E h => ?_) (fun cdv A outer s H vs Q E hr h => ?_), F.m, F.F.kp, F.b⟩
  · obtain ⟨_, _, _, _, _, _, _, _, rfl, _⟩ := h
    rfl
  obtain ⟨a, y, c, t, i0, j0, l0, m, rfl, hC, hy, cz, zt, ok, hb, hl, z, e⟩ := h
  refine ⟨_, (pss_one (ps_ret (pcall d_shown_by hr (pa_cons (pcallY d_piece_at hr (L2N.takes_of rfl rfl rfl rfl) (pa_cons (pv 0) (pa_cons (pv 1) pa_nil))) (pa_cons (pv 1) pa_nil))))), ?_⟩
  (walk_at "vk_vc")
  · intro p v hm hp pq
    obtain ⟨z1, z2, z3⟩ := cz p hm
    (walk_at "vk_vc")
    exact z _ _ _ (by rw [now_pc, hp]; rfl) e h
  · intro hn d hd
    refine e ?_ d hd
    rw [now_pc, hn]; rfl
theorem filterMap_if {α : Type} (b : α → Prop) [DecidablePred b] (c : List α) : (c.filterMap fun p => if b p then some p else none) = c.filter fun p => decide (b p) := by
  induction c with
  | nil => rfl
  | cons p c ih =>
    rw [List.filterMap_cons, List.filter_cons]
    by_cases h : b p
    · simp [h, ih]
    · simp [h, ih]
theorem ok_tidy (T : Bn mg) (ZZERO : Cn K mg "ZERO" 0 aZERO) (F : Fn K mg "tidy" s_tidy ps_tidy f fd) (d_jump_at : Def P w K mg base k "_jump_at" ["course", "at"] (spJumpAt K) f1 fd1) : Def P w K mg base (k + 1) "tidy" ps_tidy (spTidy K) f fd := by
  refine ⟨F.F.ok sc_tidy (fun vs H Q E h => ?_) (fun cdv A outer s H vs Q E hr h => ?_), F.m, F.F.kp, F.b⟩
  · obtain ⟨_, _, _, _, _, rfl, _⟩ := h
    rfl
  obtain ⟨a, c, i0, j0, l0, rfl, hC, cz, hp, hl, hb, z⟩ := h
  obtain ⟨xs, hx, hc⟩ := id hC
  have hxl := hc.1
  refine ⟨_, (pss_cons (ps_set (i := 1) sc_tidy.nd rfl (Or.inl rfl) (pe_lst (pa_cons (pe_ix ix_list (pv 0) pe_int (fun _ _ => rfl)) pa_nil)))
      (pss_cons (ps_for PassesOwn.never rfl (pi_range2 (by rfl) T.range_ (pa_cons pe_int (pa_cons (pe_callB call_len_seq (by rfl) T.len_ PySem.boot_len (pa_cons (pv 0) pa_nil)) pa_nil))) (pg_name (i := 2) sc_tidy.nd rfl (Or.inl rfl))
        (pss_one (ps_if (PW.pt (pw_or (pt_cmpR (op_neD hr.units) (pe_ix ix_tup (pe_ix ix_list (pv 0) (pv 2) (fun _ _ => rfl)) pe_int (fun _ _ => rfl)) (pe_ix ix_tup (pe_ix ix_list (pv 0) (pe_op op_sub (pv 2) pe_int) (fun _ _ => rfl)) pe_int (fun _ _ => rfl)) (nomark _)) (pw_or1 (pt_cmpR (op_neD hr.units) (pcall d_jump_at hr (pa_cons (pv 0) (pa_cons (pv 2) pa_nil))) (pe_glob (v := .ref aZERO) (u := .ref aZERO) (by rfl) ZZERO.m rfl) (nomark _)))))
          (pss_one (ps_expr (pe_bm PySem.F.plainAttrs_list PySem.F.slot_list_append PySem.F.type_list_append mt_append (pv 1) (pa_cons (pe_ix ix_list (pv 0) (pv 2) (fun _ _ => rfl)) pa_nil))))
          pss_nil)))
      (pss_one (ps_ret (pv 1))))), ?_⟩
  have p62 : (2 : Int) ^ 62 = 4611686018427387904 := by decide
  have e0 : c[0]? = some c[0] := List.getElem?_eq_getElem (by omega)
  obtain ⟨x0, hx0, p0⟩ := hc.at e0
  refine ⟨_, rfl, a, _, _, _, rfl, rfl, hx, at0 hx0, sm1, fun D hD => ?_⟩
  have s0 := same_new hD (.lst [x0])
  refine ⟨_, rfl, a, _, rfl, .inl (s0.seq hx), _, _, rfl, ⟨by omega, by omega, by omega, by omega⟩, for_range (lo := 1) (n := (((xs.length : Nat) : Int) - 1).toNat) (fun i σ G => ∃ (us : List V) (k2 : Option V), σ = [some (.ref a), some (.ref D), k2] ∧ Same H G ∧ Ct K G D us (tl (c.take (i + 1))))
    ⟨[x0], none, rfl, s0, upd_same, ?_⟩ ?_ ?_⟩
  · have : tl (c.take 1) = [c[0]] := by
      cases c with
      | nil => simp at hp
      | cons p c => rfl
    rw [this]
    exact All2.one (p0.same s0)
  · rintro i σ G hi ⟨us, k2, rfl, s1, hD1, hA⟩
    have hi1 : i + 1 < c.length := by omega
    have e1 : c[i]? = some c[i] := List.getElem?_eq_getElem (by omega)
    have e2 : c[i + 1]? = some c[i + 1] := List.getElem?_eq_getElem hi1
    obtain ⟨p, ep⟩ : ∃ p, p = c[i] := ⟨_, rfl⟩
    obtain ⟨q, eq⟩ : ∃ q, q = c[i + 1] := ⟨_, rfl⟩
    rw [← ep] at e1
    rw [← eq] at e2
    have en := tl_next e1 e2
    obtain ⟨x1, hx1, pp⟩ := hc.at e1
    obtain ⟨x2, hx2, pq⟩ := hc.at e2
    obtain ⟨d1, ds1, dv1, dr1, rfl, hd1, r11, r12, r13⟩ := pp.same s1
    obtain ⟨d2, ds2, dv2, dr2, rfl, hd2, r21, r22, r23⟩ := pq.same s1
    have hul := hA.1
    have htl := (tl_sub (c.take (i + 1))).length_le
    rw [List.length_take] at htl
    -- the piece is kept
    have keep : ∀ G1 (f1 : Same G G1), ky q ≠ ky p → ∃ (us' : List V) (k2 : Option V), [some (V.ref a), some (.ref D), some (.int (1 + (i : Int)))] = [some (.ref a), some (.ref D), k2] ∧ Same H (upd G1 D (.lst (us ++ [.ref d2]))) ∧ Ct K (upd G1 D (.lst (us ++ [.ref d2]))) D us' (tl (c.take (i + 1 + 1))) := fun G1 f1 g => by
      have hD2 := f1 _ _ hD1
      have fr : Fr D G1 (upd G1 D (.lst (us ++ [.ref d2]))) := Fr.upd _
      refine ⟨_, _, rfl, same_upd (s1.trans f1) hD _, upd_same, ?_⟩
      rw [en, if_neg g]
      exact (hA.imp fun _ _ h => (h.same f1).fr fr ⟨_, hD2⟩).snoc ((pq.same (s1.trans f1)).fr fr ⟨_, hD2⟩)
    refine ⟨_, rfl, _, rfl, a, _, _, _, rfl, rfl, s1.seq hx, at_of (j := i + 1) (by omega) hx2, d2, _, _, _, rfl, rfl, hd2, at2 rfl, _, rfl, _, rfl, _, _, rfl, rfl, a, _, _, _, rfl, rfl, s1.seq hx, at_of (j := i) (by omega) hx1, d1, _, _, _, rfl, rfl, hd1, at2 rfl, ?_⟩
    refine ⟨_, _, r23.dp, r13.dp, sh_dq _, sh_dq _, _, rfl, ?_⟩
    rw [eqv_dq]
    by_cases g : q.r = p.r
    · refine ifF (by rw [dT g]; rfl) ⟨_, rfl, _, rfl, a, i, c, p, q, i0, j0, l0, by rw [show (1 + (i : Int)) = ((i + 1 : Nat) : Int) by omega]; rfl, hC.same s1, e1, e2, cz, hb, fun jv G1 f1 rj => ?_⟩
      refine ⟨_, _, rj.dp, (ZZERO.q _).dp, sh_dq _, sh_dq _, _, rfl, ?_⟩
      rw [eqv_dq]
      by_cases g2 : jmp (ky p) q = 0
      · refine ifF (by rw [dT g2]; rfl) ⟨us, _, rfl, s1.trans f1, f1 _ _ hD1, ?_⟩
        rw [en, if_pos (ky_eq.mpr ⟨g, g2⟩), List.append_nil]
        exact hA.imp fun _ _ h => h.same f1
      · refine ifT (by rw [dF g2]; rfl) ⟨_, rfl, .inl ⟨rfl, _, SqL.of (f1 _ _ hD1)⟩, _, rfl, _, rfl, a, _, _, _, rfl, rfl, (s1.trans f1).seq hx, at_of (j := i + 1) (by omega) hx2, D, _, _, rfl, rfl, f1 _ _ hD1, le1000 (by omega), keep G1 f1 fun h => g2 (ky_eq.mp h).2⟩
    · refine ifT (by rw [dF g]; rfl) ⟨_, rfl, .inl ⟨rfl, _, SqL.of hD1⟩, _, rfl, _, rfl, a, _, _, _, rfl, rfl, s1.seq hx, at_of (j := i + 1) (by omega) hx2, D, _, _, rfl, rfl, hD1, le1000 (by omega), keep G (Same.refl _) fun h => g (ky_eq.mp h).1⟩
  · rintro σ G ⟨us, k2, rfl, s1, hD1, hA⟩
    rw [List.take_of_length_le (by omega)] at hA
    exact ⟨_, rfl, z D us G s1 hD ⟨hD1, hA⟩⟩
end Vk
set_option maxHeartbeats 4000000
namespace Vk
open PySem L2 Vm Vl
/-! ### objects: methods, properties, making -/
/-- a method, its class told -/
structure Mth (P : Program) (w : World) (K : PySem.W.Frag) (mg : Str → Option Value) (base : Heap) (k : Nat) (C : Addr) (m : Str) (ps : List Str) (sp : Sp) (f : Addr) (fd : FuncData) : Prop where
  ok : FnOk P w K mg base CX0 k f fd ps sp
  c : Cls K C
  m : Meth K C m f
  b : Binds K fd ps []
structure MthY (P : Program) (w : World) (K : PySem.W.Frag) (mg : Str → Option Value) (base : Heap) (k : Nat) (C : Addr) (m : Str) (ps : List Str) (sp : Sp) (f : Addr) (fd : FuncData) : Prop where
  ok : FnOk P w K mg base (L2N.CX P w) k f fd ps sp
  c : Cls K C
  m : Meth K C m f
  b : Binds K fd ps []
section
variable {P : Program} {w : World} {K : PySem.W.Frag} {mg : Str → Option Value} {base : Heap} {j k : Nat} {C f : Addr} {fd : FuncData} {ps : List Str} {sp : Sp} {m : Str}
theorem Mth.up (d : Mth P w K mg base j C m ps sp f fd) (h : j ≤ k) : Mth P w K mg base k C m ps sp f fd := ⟨d.ok.mono h, d.c, d.m, d.b⟩
theorem MthY.up (d : MthY P w K mg base j C m ps sp f fd) (h : j ≤ k) : MthY P w K mg base k C m ps sp f fd := ⟨d.ok.mono h, d.c, d.m, d.b⟩
end
section
variable {X : Cx} {k n : Nat} {C f : Addr} {fd : FuncData} {ps ks : List Str} {sp : Sp} {x m : Str} {p pos apos : Pos} {o e : Expr} {es : List Expr} {kws : List Keyword} {ta : TE} {t tkw : TA} {W : WX} {pl : Sem Bool}
theorem pmeth (D : Mth X.prog X.w X.K X.mg X.base k C m ps sp f fd) (hr : Room k X.A) (he : PE X o ta) (ha : PA X (e :: es) t)
    (hst : starEach (e :: es) X.env = (false, eval e X.env) :: starEach es X.env := by rfl) (hpl : (backTo pos (starEach es X.env)).any (·.1) = false := by rfl)
    (ht : eval (.Call (.Attribute o m apos) (e :: es) [] pos) X.env = (do
      let ov ← eval o X.env
      standAt apos.atName
      let (f, first) ← holding [ov] (getMethod ov m pl)
      callWith pos f first (backTo pos (starEach (e :: es) X.env)) (backToKw pos (keywordEach [] X.env))) := by rfl) :
    PE X (.Call (.Attribute o m apos) (e :: es) [] pos) (tMeth C m sp [] E0 ta t) := pe_meth he D.c D.m D.ok hr D.b .nil pass0 ha hst hpl ht
theorem pmeth0 (D : Mth X.prog X.w X.K X.mg X.base k C m ps sp f fd) (hr : Room k X.A) (he : PE X o ta)
    (ht : eval (.Call (.Attribute o m apos) [] [] pos) X.env = (do
      let ov ← eval o X.env
      standAt apos.atName
      let (f, first) ← holding [ov] (getMethod ov m pl)
      callWith pos f first (backTo pos (starEach [] X.env)) (backToKw pos (keywordEach [] X.env))) := by rfl) :
    PE X (.Call (.Attribute o m apos) [] [] pos) (tMeth C m sp [] E0 ta tNil) := pe_meth0 he D.c D.m D.ok hr D.b .nil pass0 ht
theorem pmethYL (D : MthY X.prog X.w X.K X.mg X.base k C m ps sp f fd) (hr : Room k X.A) (he : PE X o ta) (ha : PA X (e :: es) t)
    (hst : starEach (e :: es) X.env = (false, eval e X.env) :: starEach es X.env := by rfl) (hpl : (backTo pos (starEach es X.env)).any (·.1) = false := by rfl)
    (ht : eval (.Call (.Attribute o m apos) (e :: es) [] pos) X.env = (do
      let ov ← eval o X.env
      standAt apos.atName
      let (f, first) ← holding [ov] (getMethod ov m pl)
      callWith pos f first (backTo pos (starEach (e :: es) X.env)) (backToKw pos (keywordEach [] X.env))) := by rfl) :
    PE X (.Call (.Attribute o m apos) (e :: es) [] pos) (tMeth C m sp [] E0 ta t) := pe_meth he D.c D.m D.ok hr D.b .nil passLY ha hst hpl ht
/-- a method called where the wish W takes what it raises -/
def tMethS (C : Addr) (m : Str) (sp : Sp) (E : L2.St → XK) (ta : TE) (t : TA) : TE := fun σ H Q => ta σ H fun x H1 => ∃ a dx fs, x = .ref a ∧ H1 a = some (.ins C dx fs) ∧ fs.lookup m = none ∧
  t σ H1 fun vs H2 => sp (x :: vs) H2 Q (E σ)
theorem pmethY (D : MthY X.prog X.w X.K X.mg X.base k C m ps sp f fd) (hr : Room k X.A) (tk : L2N.Takes X W) (he : PE X o ta) (ha : PA X (e :: es) t)
    (hst : starEach (e :: es) X.env = (false, eval e X.env) :: starEach es X.env := by rfl) (hpl : (backTo pos (starEach es X.env)).any (·.1) = false := by rfl)
    (ht : eval (.Call (.Attribute o m apos) (e :: es) [] pos) X.env = (do
      let ov ← eval o X.env
      standAt apos.atName
      let (f, first) ← holding [ov] (getMethod ov m pl)
      callWith pos f first (backTo pos (starEach (e :: es) X.env)) (backToKw pos (keywordEach [] X.env))) := by rfl) :
    PE X (.Call (.Attribute o m apos) (e :: es) [] pos) (tMethS C m sp (WE W) ta t) := by
  refine ⟨fun pins s σ H Q I h => ?_⟩
  refine PySem.W.methodCall_KW (pl := pl) (thn (he.run pins s σ H _ I h) fun u s1 ⟨x, H1, I1, rx, a, dx, fs, ex, ea, l, q⟩ => ?_) ht
  subst ex
  obtain rfl : u = Value.ref a := rx
  refine getmeth_ok I1 ea D.c D.m l ?_
  refine PySem.W.callWith_K (first := [.ref a]) (h₀ := X.base) I1.ok.mod.kin D.m.kp (thn (ha.run pos pins s1 σ H1 _ I1 q) fun us s2 ⟨vs, H2, I2, r, q2⟩ => ⟨I2.kIn, ?_⟩) hst hpl
  exact run_fnS (us := .ref a :: us) (vs := .ref a :: vs) D.ok hr D.b (L2N.passAt tk σ) I2 (.cons rfl r) q2
end
/-- a class whose __init__ is a def -/
structure MkY (P : Program) (w : World) (K : PySem.W.Frag) (mg : Str → Option Value) (base : Heap) (k : Nat) (x : Str) (C : Addr) (ps : List Str) (sp : Sp) (f : Addr) (fd : FuncData) : Prop where
  ok : FnOk P w K mg base (L2N.CX P w) k f fd ps sp
  m : mg x = some (.ref C)
  kk : Mk K C f
section
variable {P : Program} {w : World} {K : PySem.W.Frag} {mg : Str → Option Value} {base : Heap} {j k : Nat} {C f : Addr} {fd : FuncData} {ps : List Str} {sp : Sp} {x : Str}
theorem MkY.up (d : MkY P w K mg base j x C ps sp f fd) (h : j ≤ k) : MkY P w K mg base k x C ps sp f fd := ⟨d.ok.mono h, d.m, d.kk⟩
end
section
variable {X : Cx} {k n : Nat} {C f : Addr} {fd : FuncData} {ps ks : List Str} {sp : Sp} {x m : Str} {p pos apos : Pos} {o e : Expr} {es : List Expr} {kws : List Keyword} {ta : TE} {t tkw : TA} {W : WX} {g : List Value → List Value → List Value} {gV : List V → List V → List V}
theorem pmakeK (D : MkY X.prog X.w X.K X.mg X.base k x C ps sp f fd) (hb : KBn X.K fd ps (n + 1) ks g gV) (hr : Room (k + 1) X.A) (ha : PA X (e :: es) t) (hkw : PK X kws tkw) (hg : Gl X x := by rfl)
    (hall : (backToKw pos (keywordEach kws X.env)).all (·.1.isSome) = true := by rfl) (hks : (backToKw pos (keywordEach kws X.env)).filterMap (·.1) = ks := by rfl) (hdb : (x == ("__debug__" : Str)) = false := by decide)
    (he : starEach (e :: es) X.env = (false, eval e X.env) :: starEach es X.env := by rfl) (hpl : ((backTo pos (starEach (e :: es) X.env)).any (·.1) || (backToKw pos (keywordEach kws X.env)).any (·.1.isNone)) = false := by rfl) :
    PE X (.Call (.Name x p) (e :: es) kws pos) (tMakeK C n ks.length sp gV E0 t tkw) := pe_makeK D.kk D.ok hr hg D.m hb passLY ha hkw hall hks hdb he hpl
end
/-- a property read -/
structure Prp (P : Program) (w : World) (K : PySem.W.Frag) (mg : Str → Option Value) (base : Heap) (k : Nat) (C : Addr) (x : Str) (ps : List Str) (sp : Sp) (f : Addr) (fd : FuncData) : Prop where
  ok : FnOk P w K mg base CX0 k f fd ps sp
  c : Cls K C
  p : ∃ q, PropOf K C x q f
  b : Binds K fd ps []
theorem Prp.up {P : Program} {w : World} {K : PySem.W.Frag} {mg : Str → Option Value} {base : Heap} {j k : Nat} {C f : Addr} {fd : FuncData} {ps : List Str} {sp : Sp} {x : Str} (d : Prp P w K mg base j C x ps sp f fd) (h : j ≤ k) : Prp P w K mg base k C x ps sp f fd := ⟨d.ok.mono h, d.c, d.p, d.b⟩
theorem pprop {X : Cx} {k : Nat} {C f : Addr} {fd : FuncData} {ps : List Str} {sp : Sp} {x : Str} {e : Expr} {pos : Pos} {ta : TE} (D : Prp X.prog X.w X.K X.mg X.base k C x ps sp f fd) (hr : Room (k + 1) X.A) (he : PE X e ta) (hab : attributeBase e x X.env (eval e X.env) = eval e X.env := by rfl) :
    PE X (.Attribute e x pos) (tProp C sp [] E0 ta) := by
  obtain ⟨q, hq⟩ := D.p
  exact pe_prop he D.c hq D.ok hr D.b .nil pass0 hab
/-! ### what stands where an object changes -/
theorem frI_sqt {K : PySem.W.Frag} {s a : Addr} {H H' : Hp} {xs : List V} (e : Fr s H H') (hs : ∃ C d fs, H s = some (.ins C d fs)) (h : SqT K H a xs) : SqT K H' a xs := by
  obtain ⟨C, d, fs, hs⟩ := hs
  have n : ∀ {o : HO}, H a = some o → (∀ C d fs, o ≠ .ins C d fs) → a ≠ s := fun {o} h1 h2 z => by
    rw [z, hs] at h1
    exact h2 C d fs (Option.some.inj h1).symm
  rcases h with (h | ⟨o, h⟩) | h
  · exact .inl (.inl (e _ _ h (n h fun _ _ _ z => by cases z)))
  · exact .inl (.inr ⟨o, e _ _ h (n h fun _ _ _ z => by cases z)⟩)
  · exact .inr h
theorem frI_seq {K : PySem.W.Frag} {s a : Addr} {H H' : Hp} {xs : List V} (e : Fr s H H') (hs : ∃ C d fs, H s = some (.ins C d fs)) (h : SqL K H a xs) : SqL K H' a xs := by
  obtain ⟨C, d, fs, hs⟩ := hs
  have n : ∀ {o : HO}, H a = some o → (∀ C d fs, o ≠ .ins C d fs) → a ≠ s := fun {o} h1 h2 z => by
    rw [z, hs] at h1
    exact h2 C d fs (Option.some.inj h1).symm
  rcases h with (h | ⟨o, h⟩) | h
  · exact .inl (.inl (e _ _ h (n h fun _ _ _ z => by cases z)))
  · exact .inl (.inr ⟨o, e _ _ h (n h fun _ _ _ z => by cases z)⟩)
  · exact .inr h
theorem frI_rq {K : PySem.W.Frag} {s : Addr} {H H' : Hp} {v : V} {q : Rat} (e : Fr s H H') (hs : ∃ C d fs, H s = some (.ins C d fs)) (h : Rq K H v q) : Rq K H' v q := by
  obtain ⟨a, rfl, h⟩ := h
  exact ⟨a, rfl, frI_sqt e hs h⟩
theorem frI_opt {K : PySem.W.Frag} {s : Addr} {H H' : Hp} {v : V} {o : Option Rat} (e : Fr s H H') (hs : ∃ C d fs, H s = some (.ins C d fs)) (h : optV K H v o) : optV K H' v o := by
  cases o with
  | none => exact h
  | some q => exact frI_rq e hs h
theorem frI_pq {K : PySem.W.Frag} {s : Addr} {H H' : Hp} {x : V} {p : Pc} (e : Fr s H H') (hs : ∃ C d fs, H s = some (.ins C d fs)) (h : Pq K H x p) : Pq K H' x p := by
  obtain ⟨a, xs, xv, xr, rfl, h, h1, h2, h3⟩ := h
  exact ⟨a, xs, xv, xr, rfl, frI_sqt e hs h, frI_rq e hs h1, frI_rq e hs h2, frI_rq e hs h3⟩
theorem frI_cq {K : PySem.W.Frag} {s : Addr} {H H' : Hp} {a : Addr} {c : List Pc} (e : Fr s H H') (hs : ∃ C d fs, H s = some (.ins C d fs)) (h : Cq K H a c) : Cq K H' a c := by
  obtain ⟨xs, h, g⟩ := h
  exact ⟨xs, frI_seq e hs h, g.imp fun _ _ h => frI_pq e hs h⟩
theorem frI_spq {K : PySem.W.Frag} {s : Addr} {H H' : Hp} {x : V} {p : Vs.Spn} (e : Fr s H H') (hs : ∃ C d fs, H s = some (.ins C d fs)) (h : Spq K H x p) : Spq K H' x p := by
  obtain ⟨a, u, v, rfl, h, h1, h2⟩ := h
  exact ⟨a, u, v, rfl, frI_sqt e hs h, frI_opt e hs h1, frI_opt e hs h2⟩
/-! ### a steering -/
structure SgV where
  vs : V
  vd : V
  vo : V
  l : Addr
  va : V
  vl : V
  vb : V
  vh : V
def sgf (x : SgV) : List (Str × V) := [(("_slew" : Str), x.vs), (("_drift" : Str), x.vd), (("_step_over" : Str), x.vo), (("_course" : Str), .ref x.l), (("_aim" : Str), x.va), (("_last" : Str), x.vl), (("_bound" : Str), x.vb), (("_half" : Str), x.vh)]
theorem sgf_at (x : SgV) : (sgf x).lookup ("_slew" : Str) = some x.vs ∧ (sgf x).lookup ("_drift" : Str) = some x.vd ∧ (sgf x).lookup ("_step_over" : Str) = some x.vo ∧ (sgf x).lookup ("_course" : Str) = some (.ref x.l) ∧ (sgf x).lookup ("_aim" : Str) = some x.va ∧ (sgf x).lookup ("_last" : Str) = some x.vl ∧ (sgf x).lookup ("_bound" : Str) = some x.vb ∧ (sgf x).lookup ("_half" : Str) = some x.vh := by
  unfold sgf
  refine ⟨?_, ?_, ?_, ?_, ?_, ?_, ?_, ?_⟩ <;> kernel_rfl
theorem sgf_no (x : SgV) : (sgf x).lookup ("steer" : Str) = none ∧ (sgf x).lookup ("display" : Str) = none ∧ (sgf x).lookup ("error_at" : Str) = none ∧ (sgf x).lookup ("course_of" : Str) = none ∧ (sgf x).lookup ("_plan" : Str) = none ∧ (sgf x).lookup ("_jumps_to" : Str) = none := by
  unfold sgf
  refine ⟨?_, ?_, ?_, ?_, ?_, ?_⟩ <;> kernel_rfl
theorem sgf_len (x : SgV) : (sgf x).length < 1000 := by show 8 < 1000; decide
theorem putF_course (x : SgV) (b : Addr) : putF "_course" (.ref b) (sgf x) = sgf { x with l := b } := by unfold sgf; kernel_rfl
theorem putF_aim (x : SgV) (v : V) : putF "_aim" v (sgf x) = sgf { x with va := v } := by unfold sgf; kernel_rfl
theorem putF_last (x : SgV) (v : V) : putF "_last" v (sgf x) = sgf { x with vl := v } := by unfold sgf; kernel_rfl
theorem putF_bound (x : SgV) (v : V) : putF "_bound" v (sgf x) = sgf { x with vb := v } := by unfold sgf; kernel_rfl
theorem putF_half (x : SgV) (v : V) : putF "_half" v (sgf x) = sgf { x with vh := v } := by unfold sgf; kernel_rfl
/-- what the written part says of the class -/
structure Stg (K : PySem.W.Frag) (C : Addr) : Prop where
  c : Cls K C
  n1 : NoAttr K C "_slew"
  n2 : NoAttr K C "_drift"
  n3 : NoAttr K C "_step_over"
  n4 : NoAttr K C "_course"
  n5 : NoAttr K C "_aim"
  n6 : NoAttr K C "_last"
  n7 : NoAttr K C "_bound"
  n8 : NoAttr K C "_half"
/-- a steering's state -/
structure Sr where
  sl : Rat
  dr : Rat
  ov : Option Rat
  c : List Pc
  aim : Option Rat
  la : Rat
  bd : Rat
  hf : Rat
structure Sg (K : PySem.W.Frag) (H : Hp) (x : SgV) (r : Sr) : Prop where
  sl : Rq K H x.vs r.sl
  dr : Rq K H x.vd r.dr
  ov : optV K H x.vo r.ov
  c : ∃ us, Ct K H x.l us r.c
  aim : optV K H x.va r.aim
  la : Rq K H x.vl r.la
  bd : Rq K H x.vb r.bd
  hf : Rq K H x.vh r.hf
def SgA (K : PySem.W.Frag) (C o : Addr) (H : Hp) (r : Sr) : Prop := ∃ dx x, H o = some (.ins C dx (sgf x)) ∧ Sg K H x r
theorem frI_lst {s a : Addr} {H H' : Hp} {xs : List V} (e : Fr s H H') (hs : ∃ C d fs, H s = some (.ins C d fs)) (h : H a = some (.lst xs)) : H' a = some (.lst xs) := by
  obtain ⟨C, d, fs, hs⟩ := hs
  exact e _ _ h fun z => by rw [z, hs] at h; cases h
theorem Sg.cq {K : PySem.W.Frag} {H : Hp} {x : SgV} {r : Sr} (h : Sg K H x r) : Cq K H x.l r.c := h.c.elim fun _ q => q.cq
/-- its course is not the store -/
theorem Sg.ns {K : PySem.W.Frag} {l s : Addr} {H : Hp} {x : SgV} {r : Sr} (h : Sg K H x r) (S : Sto l s H) : x.l ≠ s := fun z => by
  obtain ⟨us, hl, hc⟩ := h.c
  rw [z] at hl
  obtain ⟨_, pos, _, _, _, _, hs, _⟩ := S
  rw [hs] at hl
  have e := Option.some.inj hl
  injection e with e
  have h1 : us[1]? = some (.int pos) := by rw [← e]; rfl
  have hi : 1 < r.c.length := by rw [← hc.1, ← e]; show 1 < 6; decide
  obtain ⟨_, _, _, _, e2, _⟩ := hc.2 1 _ _ h1 (List.getElem?_eq_getElem hi)
  cases e2
theorem Sg.same {K : PySem.W.Frag} {H H' : Hp} {x : SgV} {r : Sr} (h : Sg K H x r) (e : Same H H') : Sg K H' x r := ⟨h.sl.same e, h.dr.same e, h.ov.same e, h.c.elim fun us q => ⟨us, e _ _ q.1, q.2.imp fun _ _ z => z.same e⟩, h.aim.same e, h.la.same e, h.bd.same e, h.hf.same e⟩
theorem Sg.frI {K : PySem.W.Frag} {s : Addr} {H H' : Hp} {x : SgV} {r : Sr} (h : Sg K H x r) (e : Fr s H H') (hs : ∃ C d fs, H s = some (.ins C d fs)) : Sg K H' x r := ⟨frI_rq e hs h.sl, frI_rq e hs h.dr, frI_opt e hs h.ov, h.c.elim fun us q => ⟨us, frI_lst e hs q.1, q.2.imp fun _ _ z => frI_pq e hs z⟩, frI_opt e hs h.aim, frI_rq e hs h.la, frI_rq e hs h.bd, frI_rq e hs h.hf⟩
theorem SgA.same {K : PySem.W.Frag} {C o : Addr} {H H' : Hp} {r : Sr} (h : SgA K C o H r) (e : Same H H') : SgA K C o H' r := by
  obtain ⟨dx, x, h1, h2⟩ := h
  exact ⟨dx, x, e _ _ h1, h2.same e⟩
theorem SgA.frI {K : PySem.W.Frag} {C o s : Addr} {H H' : Hp} {r : Sr} (h : SgA K C o H r) (e : Fr s H H') (n : o ≠ s) (hs : ∃ C d fs, H s = some (.ins C d fs)) : SgA K C o H' r := by
  obtain ⟨dx, x, h1, h2⟩ := h
  exact ⟨dx, x, e _ _ h1 n, h2.frI e hs⟩
theorem SgA.ins {K : PySem.W.Frag} {C o : Addr} {H : Hp} {r : Sr} (h : SgA K C o H r) : ∃ C d fs, H o = some (.ins C d fs) := by
  obtain ⟨dx, x, h1, _⟩ := h
  exact ⟨_, _, _, h1⟩
end Vk
set_option maxHeartbeats 4000000
namespace Vk
open PySem L2 Vm Vl
variable {l aZERO aONE aHALF CB CR CT CV fB fR fT : Addr} {P : Program} {w : World} {K : PySem.W.Frag} {mg : Str → Option Value} {base : Heap} {k : Nat} {f f1 f2 f3 f4 f5 f6 f7 f8 f9 : Addr} {fd fd1 fd2 fd3 fd4 fd5 fd6 fd7 fd8 fd9 : FuncData}
def widO (s : Vs.Spn) : Option Rat := match s.1, s.2 with
  | some a, some b => some (b - a)
  | _, _ => none
def spWidth (K : PySem.W.Frag) : Sp := fun vs H Q _ => ∃ (x : V) (s : Vs.Spn) (m : Nat), vs = [x] ∧ Spq K H x s ∧ SSz m s ∧ m + m + 1 ≤ 9000 ∧ ∀ v H', Same H H' → optV K H' v (widO s) → Q v H'
abbrev s_width_of : Stmt := top 32
abbrev N_width_of : List Str := ["span", "low", "high"]
theorem sc_width_of : FnScope N_width_of ["span"] (defScope s_width_of) := ⟨rfl, rfl, rfl, by decide +kernel, rfl, by decide +kernel, by decide +kernel⟩
abbrev ps_width_of : List Str := ["span"]
theorem ok_width_of (F : Fn K mg "width_of" s_width_of ps_width_of f fd) (dsubtract : Def P w K mg base k "subtract" ["a", "b"] (spOp2 K (· - ·)) f1 fd1) : Def P w K mg base (k + 1) "width_of" ps_width_of (spWidth K) f fd := by
  refine ⟨F.F.ok sc_width_of (fun vs H Q E h => ?_) (fun cdv A outer s H vs Q E hr h => ?_), F.m, F.F.kp, F.b⟩
  · obtain ⟨_, _, _, rfl, _⟩ := h
    rfl
  obtain ⟨x, ⟨lo, hi⟩, m, rfl, ⟨a, u, v, rfl, ha, hu, hv⟩, ⟨z1, z2⟩, hm, z⟩ := h
  refine ⟨_, (pss_cons (ps_asg (pv 0) (pg_tup rfl (pgs_cons (pg_name (i := 1) sc_width_of.nd rfl (Or.inl rfl)) (pgs_cons (pg_name (i := 2) sc_width_of.nd rfl (Or.inl rfl)) pgs_nil))))
      (pss_cons (ps_if (PW.pt (pw_or (pt_cmpR op_isN (pv 1) pe_non (nomark _)) (pw_or1 (pt_cmpR op_isN (pv 2) pe_non (nomark _)))))
        (pss_one (ps_ret pe_non))
        pss_nil)
      (pss_one (ps_ret (pcall dsubtract hr (pa_cons (pv 2) (pa_cons (pv 1) pa_nil))))))), ?_⟩
  cases lo with
  | none =>
    cases (show u = .non from hu)
    have key := z .non _ (Same.refl _) rfl
    (walk_at "vk_vc")
  | some p =>
    have hu' : Rq K H u p := hu
    obtain ⟨b, rfl, _⟩ := id hu'
    cases hi with
    | none =>
      cases (show v = .non from hv)
      have key := z .non _ (Same.refl _) rfl
      (walk_at "vk_vc")
    | some q =>
      have hv' : Rq K H v q := hv
      obtain ⟨c, rfl, _⟩ := id hv'
      have zp : Sz m p := z1 _ rfl
      have zq : Sz m q := z2 _ rfl
      (walk_at "vk_vc")
      exact z _ _ (by assumption) (by assumption)
def spMiddle (K : PySem.W.Frag) : Sp := fun vs H Q _ => ∃ (x : V) (p q : Rat) (m : Nat), vs = [x] ∧ Spq K H x (some p, some q) ∧ Sz m p ∧ Sz m q ∧ m ≤ 4000 ∧ ∀ v H', Same H H' → Rq K H' v ((p + q) * (1 / 2)) → Q v H'
theorem zhf : Sz 2 (1 / 2 : Rat) := by decide +kernel
abbrev s_middle_of : Stmt := top 33
abbrev N_middle_of : List Str := ["span", "low", "high"]
theorem sc_middle_of : FnScope N_middle_of ["span"] (defScope s_middle_of) := ⟨rfl, rfl, rfl, by decide +kernel, rfl, by decide +kernel, by decide +kernel⟩
abbrev ps_middle_of : List Str := ["span"]
theorem ok_middle_of (ZHALF : Cn K mg "HALF" (1 / 2) aHALF) (F : Fn K mg "middle_of" s_middle_of ps_middle_of f fd) (dadd : Def P w K mg base k "add" ["a", "b"] (spOp2 K (· + ·)) f1 fd1) (dmultiply : Def P w K mg base k "multiply" ["a", "b"] (spOp2 K (· * ·)) f2 fd2) : Def P w K mg base (k + 1) "middle_of" ps_middle_of (spMiddle K) f fd := by
  refine ⟨F.F.ok sc_middle_of (fun vs H Q E h => ?_) (fun cdv A outer s H vs Q E hr h => ?_), F.m, F.F.kp, F.b⟩
  · obtain ⟨_, _, _, _, rfl, _⟩ := h
    rfl
  obtain ⟨x, p, q, m, rfl, ⟨a, u, v, rfl, ha, hu, hv⟩, zp, zq, hm, z⟩ := h
  refine ⟨_, (pss_cons (ps_asg (pv 0) (pg_tup rfl (pgs_cons (pg_name (i := 1) sc_middle_of.nd rfl (Or.inl rfl)) (pgs_cons (pg_name (i := 2) sc_middle_of.nd rfl (Or.inl rfl)) pgs_nil))))
      (pss_cons (ps_if (PW.pt (pw_or (pt_cmpR op_isN (pv 1) pe_non (nomark _)) (pw_or1 (pt_cmpR op_isN (pv 2) pe_non (nomark _)))))
        (pss_one (ps_ret pe_non))
        pss_nil)
      (pss_one (ps_ret (pcall dmultiply hr (pa_cons (pcall dadd hr (pa_cons (pv 1) (pa_cons (pv 2) pa_nil))) (pa_cons (pe_glob (v := .ref aHALF) (u := .ref aHALF) (by rfl) ZHALF.m rfl) pa_nil))))))), ?_⟩
  have hu' : Rq K H u p := hu
  obtain ⟨b, rfl, _⟩ := id hu'
  have hv' : Rq K H v q := hv
  obtain ⟨c, rfl, _⟩ := id hv'
  have hZ : Rq K H (.ref aHALF) (1 / 2) := ZHALF.q H
  have zh := zhf
  (walk_at "vk_vc")
  all_goals first
    | exact z _ _ (by assumption) (by assumption)
    | exact z _ _ (Same.trans (by assumption) (by assumption)) (by assumption)
def farE (p q t : Rat) : Rat := if ab (t - q) ≤ ab (t - p) then ab (t - p) else ab (t - q)
def spFar (K : PySem.W.Frag) : Sp := fun vs H Q _ => ∃ (x y : V) (p q t : Rat) (m : Nat), vs = [x, y] ∧ Spq K H x (some p, some q) ∧ Rq K H y t ∧ Sz m p ∧ Sz m q ∧ Sz m t ∧ m ≤ 2000 ∧ ∀ v H', Same H H' → Rq K H' v (farE p q t) → Q v H'
abbrev s_far_end : Stmt := top 34
abbrev N_far_end : List Str := ["span", "t", "low", "high"]
theorem sc_far_end : FnScope N_far_end ["span", "t"] (defScope s_far_end) := ⟨rfl, rfl, rfl, by decide +kernel, rfl, by decide +kernel, by decide +kernel⟩
abbrev ps_far_end : List Str := ["span", "t"]
theorem ok_far_end (F : Fn K mg "far_end" s_far_end ps_far_end f fd) (ddistance : Def P w K mg base k "distance" ["a", "b"] (spOp2 K fun p q => ab (p - q)) f1 fd1) (dlarger : Def P w K mg base k "larger" ["a", "b"] (spSel K fun p q => if q ≤ p then p else q) f2 fd2) : Def P w K mg base (k + 1) "far_end" ps_far_end (spFar K) f fd := by
  refine ⟨F.F.ok sc_far_end (fun vs H Q E h => ?_) (fun cdv A outer s H vs Q E hr h => ?_), F.m, F.F.kp, F.b⟩
  · obtain ⟨_, _, _, _, _, _, rfl, _⟩ := h
    rfl
  obtain ⟨x, y, p, q, t, m, rfl, ⟨a, u, v, rfl, ha, hu, hv⟩, hy, zp, zq, zt, hm, z⟩ := h
  refine ⟨_, (pss_cons (ps_asg (pv 0) (pg_tup rfl (pgs_cons (pg_name (i := 2) sc_far_end.nd rfl (Or.inl rfl)) (pgs_cons (pg_name (i := 3) sc_far_end.nd rfl (Or.inl rfl)) pgs_nil))))
      (pss_cons (ps_if (PW.pt (pw_or (pt_cmpR op_isN (pv 2) pe_non (nomark _)) (pw_or1 (pt_cmpR op_isN (pv 3) pe_non (nomark _)))))
        (pss_one (ps_ret pe_non))
        pss_nil)
      (pss_one (ps_ret (pcall dlarger hr (pa_cons (pcall ddistance hr (pa_cons (pv 1) (pa_cons (pv 2) pa_nil))) (pa_cons (pcall ddistance hr (pa_cons (pv 1) (pa_cons (pv 3) pa_nil))) pa_nil))))))), ?_⟩
  have hu' : Rq K H u p := hu
  obtain ⟨b, rfl, _⟩ := id hu'
  have hv' : Rq K H v q := hv
  obtain ⟨c, rfl, _⟩ := id hv'
  have y1 : Sz (m + m + 1) (ab (t - p)) := Vk.Sz.ab (zt.sub zp)
  have y2 : Sz (m + m + 1) (ab (t - q)) := Vk.Sz.ab (zt.sub zq)
  (walk_at "vk_vc")
  all_goals first
    | exact z _ _ (Same.trans (by assumption) (by assumption)) (by assumption)
    | skip
def plan (r s a l : Rat) : List Pc := if a = s then [⟨r, s, 1⟩] else [⟨r, s, if s < a then 1 + l else 1 - l⟩, ⟨r + ab (a - s) / l, a + ab (a - s) / l, 1⟩]
def spPlanned (K : PySem.W.Frag) : Sp := fun vs H Q _ => ∃ (xr xs xa xl : V) (r s a l : Rat) (m : Nat), vs = [xr, xs, xa, xl] ∧ Rq K H xr r ∧ Rq K H xs s ∧ Rq K H xa a ∧ Rq K H xl l ∧ Sz m r ∧ Sz m s ∧ Sz m a ∧ Sz m l ∧ m ≤ 1500 ∧ 0 < l ∧
  ∀ D us H', Same H H' → H D = none → Ct K H' D us (plan r s a l) → Q (.ref D) H'
theorem ctOne {H : Hp} {D : Addr} {x : V} {p : Pc} (h : H D = some (.lst [x])) (g : Pq K H x p) : Ct K H D [x] [p] := ⟨h, (All2.nil.snoc g : All2 (Pq K H) ([] ++ [x]) ([] ++ [p]))⟩
theorem ctTwo {H : Hp} {D : Addr} {x y : V} {p q : Pc} (h : H D = some (.lst [x, y])) (g : Pq K H x p) (i : Pq K H y q) : Ct K H D [x, y] [p, q] := ⟨h, ((All2.nil.snoc g).snoc i : All2 (Pq K H) ([] ++ [x] ++ [y]) ([] ++ [p] ++ [q]))⟩
theorem pqNew {H : Hp} {t : Addr} {v1 v2 v3 : V} {a b c : Rat} (ht : H t = none) (h1 : Rq K H v1 a) (h2 : Rq K H v2 b) (h3 : Rq K H v3 c) : Pq K (upd H t (.tup [v1, v2, v3])) (.ref t) ⟨a, b, c⟩ := by
  have s1 := same_new ht (.tup [v1, v2, v3])
  exact ⟨t, _, _, _, rfl, SqT.of upd_same, h1.same s1, h2.same s1, h3.same s1⟩
theorem planFin1 {H H1 : Hp} {Q : VK} {t D : Addr} {v1 v2 v3 : V} {a b c : Rat} (z : ∀ D us H', Same H H' → H D = none → Ct K H' D us [⟨a, b, c⟩] → Q (.ref D) H') (e : Same H H1) (ht : H1 t = none) (hD : upd H1 t (.tup [v1, v2, v3]) D = none) (h1 : Rq K H1 v1 a) (h2 : Rq K H1 v2 b) (h3 : Rq K H1 v3 c) :
    Q (.ref D) (upd (upd H1 t (.tup [v1, v2, v3])) D (.lst [.ref t])) := by
  have s1 := same_new ht (.tup [v1, v2, v3])
  have s2 := same_new hD (.lst [.ref t])
  exact z D _ _ ((e.trans s1).trans s2) ((e.trans s1).free hD) (ctOne upd_same ((pqNew ht h1 h2 h3).same s2))
theorem planFin2 {H G0 H1 : Hp} {Q : VK} {t1 t2 D : Addr} {v1 v2 v3 u1 u2 u3 : V} {a b c a' b' c' : Rat} (z : ∀ D us H', Same H H' → H D = none → Ct K H' D us [⟨a, b, c⟩, ⟨a', b', c'⟩] → Q (.ref D) H') (e : Same H G0) (ht1 : G0 t1 = none) (e1 : Same (upd G0 t1 (.tup [v1, v2, v3])) H1) (ht2 : H1 t2 = none) (hD : upd H1 t2 (.tup [u1, u2, u3]) D = none)
    (h1 : Rq K G0 v1 a) (h2 : Rq K G0 v2 b) (h3 : Rq K G0 v3 c) (i1 : Rq K H1 u1 a') (i2 : Rq K H1 u2 b') (i3 : Rq K H1 u3 c') :
    Q (.ref D) (upd (upd H1 t2 (.tup [u1, u2, u3])) D (.lst [.ref t1, .ref t2])) := by
  have s1 := same_new ht1 (.tup [v1, v2, v3])
  have s2 := same_new ht2 (.tup [u1, u2, u3])
  have s3 := same_new hD (.lst [.ref t1, .ref t2])
  have sA := ((e.trans s1).trans e1).trans s2
  exact z D _ _ (sA.trans s3) (sA.free hD) (ctTwo upd_same ((((pqNew ht1 h1 h2 h3).same e1).same s2).same s3) ((pqNew ht2 i1 i2 i3).same s3))
abbrev s__planned : Stmt := top 45
abbrev N__planned : List Str := ["raw", "shown", "aim", "slew", "way", "rate", "needed"]
theorem sc__planned : FnScope N__planned ["raw", "shown", "aim", "slew"] (defScope s__planned) := ⟨rfl, rfl, rfl, by decide +kernel, rfl, by decide +kernel, by decide +kernel⟩
abbrev ps__planned : List Str := ["raw", "shown", "aim", "slew"]
theorem ok_planned (ZONE : Cn K mg "ONE" 1 aONE) (F : Fn K mg "_planned" s__planned ps__planned f fd) (dcompare : Def P w K mg base k "compare" ["a", "b"] (spTest2 K fun p q => .int (sg p q)) f1 fd1) (dadd : Def P w K mg base k "add" ["a", "b"] (spOp2 K (· + ·)) f2 fd2) (dsubtract : Def P w K mg base k "subtract" ["a", "b"] (spOp2 K (· - ·)) f3 fd3)
    (ddistance : Def P w K mg base k "distance" ["a", "b"] (spOp2 K fun p q => ab (p - q)) f4 fd4) (ddivide : Def P w K mg base k "divide" ["a", "b"] (spDiv K) f5 fd5) : Def P w K mg base (k + 1) "_planned" ps__planned (spPlanned K) f fd := by
  refine ⟨F.F.ok sc__planned (fun vs H Q E h => ?_) (fun cdv A outer s H vs Q E hr h => ?_), F.m, F.F.kp, F.b⟩
  · obtain ⟨_, _, _, _, _, _, _, _, _, rfl, _⟩ := h
    rfl
  obtain ⟨xr, xs, xa, xl, r0, s0, a0, l0, m, rfl, hr0, hs0, ha0, hl0, zr, zs, za, zl, hm, pl, z⟩ := h
  refine ⟨_, (pss_cons (ps_set (i := 4) sc__planned.nd rfl (Or.inl rfl) (pcall dcompare hr (pa_cons (pv 2) (pa_cons (pv 1) pa_nil))))
      (pss_cons (ps_if (pt_cmpR op_eq (pv 4) pe_int (nomark _))
        (pss_one (ps_ret (pe_lst (pa_cons (pe_tup (pa_cons (pv 0) (pa_cons (pv 1) (pa_cons (pe_glob (v := .ref aONE) (u := .ref aONE) (by rfl) ZONE.m rfl) pa_nil)))) pa_nil))))
        pss_nil)
      (pss_cons (ps_set (i := 5) sc__planned.nd rfl (Or.inl rfl) (pe_ifExp (pt_cmpR op_gt (pv 4) pe_int (nomark _)) (pcall dadd hr (pa_cons (pe_glob (v := .ref aONE) (u := .ref aONE) (by rfl) ZONE.m rfl) (pa_cons (pv 3) pa_nil))) (pcall dsubtract hr (pa_cons (pe_glob (v := .ref aONE) (u := .ref aONE) (by rfl) ZONE.m rfl) (pa_cons (pv 3) pa_nil)))))
      (pss_cons (ps_set (i := 6) sc__planned.nd rfl (Or.inl rfl) (pcall ddivide hr (pa_cons (pcall ddistance hr (pa_cons (pv 2) (pa_cons (pv 1) pa_nil))) (pa_cons (pv 3) pa_nil))))
      (pss_one (ps_ret (pe_lst (pa_cons (pe_tup (pa_cons (pv 0) (pa_cons (pv 1) (pa_cons (pv 5) pa_nil)))) (pa_cons (pe_tup (pa_cons (pcall dadd hr (pa_cons (pv 0) (pa_cons (pv 6) pa_nil))) (pa_cons (pcall dadd hr (pa_cons (pv 2) (pa_cons (pv 6) pa_nil))) (pa_cons (pe_glob (v := .ref aONE) (u := .ref aONE) (by rfl) ZONE.m rfl) pa_nil)))) pa_nil))))))))), ?_⟩
  obtain ⟨b1, rfl, _⟩ := id hr0
  obtain ⟨b2, rfl, _⟩ := id hs0
  obtain ⟨b3, rfl, _⟩ := id ha0
  obtain ⟨b4, rfl, _⟩ := id hl0
  have hO : Rq K H (.ref aONE) 1 := ZONE.q H
  have y1 : Sz (m + m + 1) (ab (a0 - s0)) := Vk.Sz.ab (za.sub zs)
  have y2 : Sz (m + m + 1 + m) (ab (a0 - s0) / l0) := y1.div zl pl
  have zo := zo1
  by_cases c1 : a0 = s0
  · have g0 : sg a0 s0 = 0 := by unfold sg; rw [if_pos c1]
    have g1 : V.int (sg a0 s0) = V.int 0 := by rw [g0]
    (walk_at "vk_vc")
    refine planFin1 (K := K) (a := r0) (b := s0) (c := 1) (H := H) (H1 := H) (fun D us H' e1 e2 e3 => z D us H' e1 e2 ?_) (Same.refl _) (by assumption) (by assumption) (by assumption) (by assumption) (by assumption)
    rw [plan, if_pos c1]
    exact e3
  by_cases c2 : s0 < a0
  · have g0 : 0 < sg a0 s0 := sg_gt.mpr c2
    have g1 : ¬ V.int (sg a0 s0) = V.int 0 := fun h => by have := V.int.inj h; omega
    (walk_at "vk_vc")
    refine planFin2 (K := K) (H := H) (a := r0) (b := s0) (c := 1 + l0) (a' := r0 + ab (a0 - s0) / l0) (b' := a0 + ab (a0 - s0) / l0) (c' := 1) (fun D us H' e1 e2 e3 => z D us H' e1 e2 ?_) (h1 := ?_) (h2 := ?_) (h3 := ?_) (i1 := ?_) (i2 := ?_) (i3 := ?_) (e := ?_) (ht1 := by assumption) (e1 := Same.trans (by assumption) (by assumption)) (ht2 := by assumption) (hD := by assumption)
    · rw [plan, if_neg c1, if_pos c2]
      exact e3
    all_goals first | exact (by (walk_at "vk_same")) | (walk_at "vk_cl")
  · have c3 : a0 < s0 := by grind
    have g0 : ¬ 0 < sg a0 s0 := fun h => c2 (sg_gt.mp h)
    have g1 : ¬ V.int (sg a0 s0) = V.int 0 := fun h => by
      have h0 := V.int.inj h
      have := sg_lt.mpr c3
      omega
    (walk_at "vk_vc")
    refine planFin2 (K := K) (H := H) (a := r0) (b := s0) (c := 1 - l0) (a' := r0 + ab (a0 - s0) / l0) (b' := a0 + ab (a0 - s0) / l0) (c' := 1) (fun D us H' e1 e2 e3 => z D us H' e1 e2 ?_) (h1 := ?_) (h2 := ?_) (h3 := ?_) (i1 := ?_) (i2 := ?_) (i3 := ?_) (e := ?_) (ht1 := by assumption) (e1 := Same.trans (by assumption) (by assumption)) (ht2 := by assumption) (hD := by assumption)
    · rw [plan, if_neg c1, if_neg c2]
      exact e3
    all_goals first | exact (by (walk_at "vk_same")) | (walk_at "vk_cl")
end Vk
set_option maxHeartbeats 4000000
namespace Vk
open PySem L2 Vm Vl
variable {l aZERO aONE aHALF C CB CR CT CV fB fR fT : Addr} {P : Program} {w : World} {K : PySem.W.Frag} {mg : Str → Option Value} {base : Heap} {k : Nat} {f f1 f2 f3 f4 f5 f6 f7 f8 f9 : Addr} {fd fd1 fd2 fd3 fd4 fd5 fd6 fd7 fd8 fd9 : FuncData}
/-- a method as it stands -/
structure FnM (K : PySem.W.Frag) (C : Addr) (x qual : Str) (st : Stmt) (ps : List Str) (f : Addr) (fd : FuncData) : Prop where
  F : Fun K x qual st f fd
  m : Meth K C x f
  b : Binds K fd ps []
def errS (r : Sr) (t : Rat) : Rat := nextB ⟨r.bd, r.hf, t - r.la, r.sl, r.dr⟩ r.bd
def spErrAt (K : PySem.W.Frag) (C CT : Addr) : Sp := fun vs H Q E => ∃ (o : Addr) (y : V) (r : Sr) (t : Rat) (m : Nat), vs = [.ref o, y] ∧ SgA K C o H r ∧ Rq K H y t ∧ Sz m t ∧ Sz m r.la ∧ Sz m r.bd ∧ Sz m r.hf ∧ Sz m r.sl ∧ Sz m r.dr ∧ m ≤ 700 ∧
  (r.la ≤ t → ∀ v H', Same H H' → Rq K H' v (errS r t) → Q v H') ∧ (t < r.la → eV E CT H y)
abbrev s_Steering_error_at : Stmt := inClass (top 46) 6
abbrev N_Steering_error_at : List Str := ["self", "raw"]
theorem sc_Steering_error_at : FnScope N_Steering_error_at ["self", "raw"] (defScope s_Steering_error_at) := ⟨rfl, rfl, rfl, by decide +kernel, rfl, by decide +kernel, by decide +kernel⟩
abbrev ps_Steering_error_at : List Str := ["self", "raw"]
theorem ok_error_at (S : Stg K C) (TTurnsBack : PySem.ValX.ValTxt K mg "TurnsBack" CT fT) (F : FnM K C "error_at" "Steering.error_at" s_Steering_error_at ps_Steering_error_at f fd) (dcompare : Def P w K mg base k "compare" ["a", "b"] (spTest2 K fun p q => .int (sg p q)) f1 fd1)
    (dsubtract : Def P w K mg base k "subtract" ["a", "b"] (spOp2 K (· - ·)) f2 fd2) (d_bound_behind : Def P w K mg base k "_bound_behind" ["bound", "half", "raw_units", "slew", "drift"] (spBehind K) f3 fd3) : MthY P w K mg base (k + 1) C "error_at" ps_Steering_error_at (spErrAt K C CT) f fd := by
  refine ⟨okY F.F sc_Steering_error_at (fun vs H Q E h => ?_) (fun cdv A outer s H vs Q E hr h => ?_), S.c, F.m, F.b⟩
  · obtain ⟨_, _, _, _, _, rfl, _⟩ := h
    rfl
  obtain ⟨o, y, r, t, m, rfl, ⟨dx, x, ho, G⟩, hy, zt, zla, zbd, zhf, zsl, zdr, hm, z, e⟩ := h
  obtain ⟨l1, l2, l3, l4, l5, l6, l7, l8⟩ := sgf_at x
  have S0 := S.c
  have S1 := S.n1
  have S2 := S.n2
  have S6 := S.n6
  have S7 := S.n7
  have S8 := S.n8
  refine ⟨_, (pss_cons (ps_if (pt_cmpR op_lt (pcall dcompare hr (pa_cons (pv 1) (pa_cons (pe_fld (pv 0) rfl) pa_nil))) pe_int (nomark _))
        (pss_one (ps_raiseValN rfl TTurnsBack hr (L2N.takes_of rfl rfl rfl rfl) (pa_cons (pv 1) pa_nil)))
        pss_nil)
      (pss_one (ps_ret (pcall d_bound_behind hr (pa_cons (pe_fld (pv 0) rfl) (pa_cons (pe_fld (pv 0) rfl) (pa_cons (pcall dsubtract hr (pa_cons (pv 1) (pa_cons (pe_fld (pv 0) rfl) pa_nil))) (pa_cons (pe_fld (pv 0) rfl) (pa_cons (pe_fld (pv 0) rfl) pa_nil))))))))), ?_⟩
  refine ⟨_, rfl, _, rfl, o, C, dx, _, _, rfl, ho, S0, S6, l6, _, _, t, r.la, m, m, rfl, hy, G.la, zt, zla, by omega, _, _, rfl, rfl, _, rfl, ifD (fun c => ?_) (fun c => ?_)⟩
  · exact ⟨_, rfl, y, rfl, fun d hd => e (sg_lt.mp c) d hd⟩
  have c1 : r.la ≤ t := Rat.not_lt.mp fun g => c (sg_lt.mpr g)
  refine ⟨_, rfl, o, C, dx, _, _, rfl, ho, S0, S7, l7, _, rfl, o, C, dx, _, _, rfl, ho, S0, S8, l8, _, rfl, _, rfl, o, C, dx, _, _, rfl, ho, S0, S6, l6, _, _, t, r.la, m, m, rfl, hy, G.la, zt, zla, by omega, fun v1 H1 e1 h1 => ?_⟩
  have ho1 := e1 _ _ ho
  refine ⟨_, rfl, o, C, dx, _, _, rfl, ho1, S0, S1, l1, _, rfl, o, C, dx, _, _, rfl, ho1, S0, S2, l2, ?_⟩
  exact ⟨_, _, _, _, _, ⟨r.bd, r.hf, t - r.la, r.sl, r.dr⟩, m + m + 1, rfl, ⟨G.bd.same e1, G.hf.same e1, h1, G.sl.same e1, G.dr.same e1, zbd.mono (by omega), zhf.mono (by omega), zt.sub zla, zsl.mono (by omega), zdr.mono (by omega)⟩, by omega, fun v H' e2 h2 => z c1 v H' (e1.trans e2) h2⟩
def jmpS (r : Sr) (a s : Rat) : Bool := match r.ov with
  | none => false
  | some w => decide (w < a - s)
def spJumps' (K : PySem.W.Frag) (C : Addr) : Sp := fun vs H Q _ => ∃ (o : Addr) (xa xs : V) (r : Sr) (a s : Rat) (m : Nat), vs = [.ref o, xa, xs] ∧ SgA K C o H r ∧ Rq K H xa a ∧ Rq K H xs s ∧ Sz m a ∧ Sz m s ∧ OSz m r.ov ∧ m ≤ 2000 ∧ ∀ H', Same H H' → Q (.bl (jmpS r a s)) H'
abbrev s_Steering__jumps_to : Stmt := inClass (top 46) 2
abbrev N_Steering__jumps_to : List Str := ["self", "aim", "shown"]
theorem sc_Steering__jumps_to : FnScope N_Steering__jumps_to ["self", "aim", "shown"] (defScope s_Steering__jumps_to) := ⟨rfl, rfl, rfl, by decide +kernel, rfl, by decide +kernel, by decide +kernel⟩
abbrev ps_Steering__jumps_to : List Str := ["self", "aim", "shown"]
theorem ok_jumps_to (S : Stg K C) (F : FnM K C "_jumps_to" "Steering._jumps_to" s_Steering__jumps_to ps_Steering__jumps_to f fd) (dcompare : Def P w K mg base k "compare" ["a", "b"] (spTest2 K fun p q => .int (sg p q)) f1 fd1)
    (dsubtract : Def P w K mg base k "subtract" ["a", "b"] (spOp2 K (· - ·)) f2 fd2) : Mth P w K mg base (k + 1) C "_jumps_to" ps_Steering__jumps_to (spJumps' K C) f fd := by
  refine ⟨F.F.ok sc_Steering__jumps_to (fun vs H Q E h => ?_) (fun cdv A outer s H vs Q E hr h => ?_), S.c, F.m, F.b⟩
  · obtain ⟨_, _, _, _, _, _, _, rfl, _⟩ := h
    rfl
  obtain ⟨o, xa, xs, r, a0, s', m, rfl, ⟨dx, x, ho, G⟩, ha, hs, za, zs, zo, hm, z⟩ := h
  obtain ⟨l1, l2, l3, l4, l5, l6, l7, l8⟩ := sgf_at x
  have S0 := S.c
  have S3 := S.n3
  refine ⟨_, (pss_one (ps_ret (pe_and (pe_cmpR op_notN (pe_fld (pv 0) rfl) pe_non (nomark _)) (pe_one (pe_cmpR op_gt (pcall dcompare hr (pa_cons (pcall dsubtract hr (pa_cons (pv 1) (pa_cons (pv 2) pa_nil))) (pa_cons (pe_fld (pv 0) rfl) pa_nil))) pe_int (nomark _)))))), ?_⟩
  have gov := G.ov
  cases eo : r.ov with
  | none =>
    rw [eo] at gov
    have gv : x.vo = .non := gov
    rw [gv] at l3
    have zz : ∀ H', Same H H' → Q (.bl false) H' := fun H' e => by have := z H' e; rwa [show jmpS r a0 s' = false by unfold jmpS; rw [eo]] at this
    have key := zz H (Same.refl _)
    (walk_at "vk_vc")
  | some q =>
    rw [eo] at gov
    have gv : Rq K H x.vo q := gov
    have zq : Sz m q := zo q eo
    have zz : ∀ H', Same H H' → Q (.bl (decide (q < a0 - s'))) H' := fun H' e => by have := z H' e; rwa [show jmpS r a0 s' = decide (q < a0 - s') by unfold jmpS; rw [eo]] at this
    obtain ⟨b, eb, _⟩ := id gv
    rw [eb] at l3 gv
    (walk_at "vk_vc")
    show Q (.bl (decide (0 < sg (a0 - s') q))) _
    rw [decide_eq_decide.mpr sg_gt]
    exact zz _ (by assumption)
def spDisplay (K : PySem.W.Frag) (C CB : Addr) : Sp := fun vs H Q E => ∃ (o : Addr) (y : V) (r : Sr) (t : Rat) (i j l m : Nat), vs = [.ref o, y] ∧ SgA K C o H r ∧ Rq K H y t ∧ Cz i j l r.c ∧ Sz m t ∧ Cok r.c ∧ j + l + m + i + 3 ≤ 9000 ∧ r.c.length ≤ 900 ∧ (∀ q a H', nowf r.c t = some q → Same H H' → Rq K H' (.ref a) q → Q (.ref a) H') ∧ (nowf r.c t = none → eV E CB H y)
abbrev s_Steering_display : Stmt := inClass (top 46) 5
abbrev N_Steering_display : List Str := ["self", "raw"]
theorem sc_Steering_display : FnScope N_Steering_display ["self", "raw"] (defScope s_Steering_display) := ⟨rfl, rfl, rfl, by decide +kernel, rfl, by decide +kernel, by decide +kernel⟩
abbrev ps_Steering_display : List Str := ["self", "raw"]
theorem ok_display (S : Stg K C) (F : FnM K C "display" "Steering.display" s_Steering_display ps_Steering_display f fd) (dshown_at : DefY P w K mg base k "shown_at" ["course", "t"] (spShownAt K CB) f1 fd1) : MthY P w K mg base (k + 1) C "display" ps_Steering_display (spDisplay K C CB) f fd := by
  refine ⟨okY F.F sc_Steering_display (fun vs H Q E h => ?_) (fun cdv A outer s H vs Q E hr h => ?_), S.c, F.m, F.b⟩
  · obtain ⟨_, _, _, _, _, _, _, _, rfl, _⟩ := h
    rfl
  obtain ⟨o, y, r, t, i, j, l, m, rfl, ⟨dx, x, ho, G⟩, hy, cz, zt, ok, hb, hl, z, e⟩ := h
  obtain ⟨l1, l2, l3, l4, l5, l6, l7, l8⟩ := sgf_at x
  refine ⟨_, (pss_one (ps_ret (pcallY dshown_at hr (L2N.takes_of rfl rfl rfl rfl) (pa_cons (pe_fld (pv 0) rfl) (pa_cons (pv 1) pa_nil))))), ?_⟩
  exact ⟨_, rfl, o, C, dx, _, _, rfl, ho, S.c, S.n4, l4, _, rfl, x.l, y, r.c, t, i, j, l, m, rfl, G.cq, hy, cz, zt, ok, hb, hl, z, e⟩
def spCourseOf (K : PySem.W.Frag) (C : Addr) : Sp := fun vs H Q _ => ∃ (o : Addr) (r : Sr), vs = [.ref o] ∧ SgA K C o H r ∧ r.c.length ≤ 900 ∧ ∀ D us H', Same H H' → H D = none → Ct K H' D us r.c → Q (.ref D) H'
abbrev s_Steering_course_of : Stmt := inClass (top 46) 7
abbrev N_Steering_course_of : List Str := ["self"]
theorem sc_Steering_course_of : FnScope N_Steering_course_of ["self"] (defScope s_Steering_course_of) := ⟨rfl, rfl, rfl, by decide +kernel, rfl, by decide +kernel, by decide +kernel⟩
abbrev ps_Steering_course_of : List Str := ["self"]
def spAim (K : PySem.W.Frag) (C : Addr) : Sp := fun vs H Q _ => ∃ (o : Addr) (r : Sr), vs = [.ref o] ∧ SgA K C o H r ∧ ∀ v, optV K H v r.aim → Q v H
abbrev s_Steering_aim : Stmt := inClass (top 46) 4
abbrev N_Steering_aim : List Str := ["self"]
theorem sc_Steering_aim : FnScope N_Steering_aim ["self"] (defScope s_Steering_aim) := ⟨rfl, rfl, rfl, by decide +kernel, rfl, by decide +kernel, by decide +kernel⟩
abbrev ps_Steering_aim : List Str := ["self"]
theorem ok_aim (S : Stg K C) (F : Fun K "aim" "Steering.aim" s_Steering_aim f fd) (hp : ∃ q, PropOf K C "aim" q f) (hb : Binds K fd ps_Steering_aim []) : Prp P w K mg base (k + 1) C "aim" ps_Steering_aim (spAim K C) f fd := by
  refine ⟨F.ok sc_Steering_aim (fun vs H Q E h => ?_) (fun cdv A outer s H vs Q E hr h => ?_), S.c, hp, hb⟩
  · obtain ⟨_, _, rfl, _⟩ := h
    rfl
  obtain ⟨o, r, rfl, ⟨dx, x, ho, G⟩, z⟩ := h
  obtain ⟨l1, l2, l3, l4, l5, l6, l7, l8⟩ := sgf_at x
  refine ⟨_, (pss_one (ps_ret (pe_fld (pv 0) rfl))), ?_⟩
  exact ⟨_, rfl, o, C, dx, _, _, rfl, ho, S.c, S.n5, l5, z _ G.aim⟩
def spInit (K : PySem.W.Frag) (C CB CR : Addr) : Sp := fun vs H Q E => ∃ (o dx : Addr) (xr xs xe xl xd xo : V) (r s e l d : Rat) (ov : Option Rat) (m : Nat), vs = [.ref o, xr, xs, xe, xl, xd, xo] ∧ H o = some (.ins C dx []) ∧ Rq K H xr r ∧ Rq K H xs s ∧ Rq K H xe e ∧ Rq K H xl l ∧ Rq K H xd d ∧ optV K H xo ov ∧ Sz m e ∧ Sz m l ∧ Sz m d ∧ OSz m ov ∧ m ≤ 4000 ∧
  (0 ≤ e → 0 < l → l < 1 → 0 ≤ d → d < l → (∀ q, ov = some q → 0 ≤ q) → ∀ H', Fr o H H' → SgA K C o H' ⟨l, d, ov, [⟨r, s, 1⟩], none, r, e, e⟩ → Q .non H') ∧
  (e < 0 → eV E CB H xe) ∧ (0 ≤ e → l ≤ 0 ∨ 1 ≤ l → eV E CR H xl) ∧ (0 ≤ e → 0 < l → l < 1 → d < 0 ∨ l ≤ d → eV E CR H xd) ∧ (0 ≤ e → 0 < l → l < 1 → 0 ≤ d → d < l → ∀ q, ov = some q → q < 0 → eV E CB H xo)
theorem putF_le {f : Str} {v : V} : ∀ {fs : List (Str × V)} {n : Nat}, fs.length ≤ n → (putF f v fs).length ≤ n + 1
  | [], n, _ => by show 1 ≤ n + 1; omega
  | (g, y) :: r, 0, h => absurd h (by simp)
  | (g, y) :: r, n + 1, h => by
    have h : r.length ≤ n := by simp at h; exact h
    unfold putF
    split
    · show r.length + 1 ≤ _; omega
    · have := putF_le (f := f) (v := v) h
      show (putF f v r).length + 1 ≤ _
      omega
theorem putF_all (v1 v2 v3 : V) (l : Addr) (v5 v6 v7 v8 : V) : putF "_half" v8 (putF "_bound" v7 (putF "_last" v6 (putF "_aim" v5 (putF "_course" (.ref l) (putF "_step_over" v3 (putF "_drift" v2 (putF "_slew" v1 []))))))) = sgf ⟨v1, v2, v3, l, v5, v6, v7, v8⟩ := by unfold sgf; kernel_rfl
abbrev s_Steering_init : Stmt := inClass (top 46) 0
abbrev N_Steering_init : List Str := ["self", "raw", "shown", "error", "slew", "drift", "step_over"]
theorem sc_Steering_init : FnScope N_Steering_init ["self", "raw", "shown", "error", "slew", "drift", "step_over"] (defScope s_Steering_init) := ⟨rfl, rfl, rfl, by decide +kernel, rfl, by decide +kernel, by decide +kernel⟩
abbrev ps_Steering_init : List Str := ["self", "raw", "shown", "error", "slew", "drift", "step_over"]
theorem ok_init (S : Stg K C) (ZONE : Cn K mg "ONE" 1 aONE) (F : Fun K "__init__" "Steering.__init__" s_Steering_init f fd) (drequire_not_below_zero : DefY P w K mg base k "require_not_below_zero" ["bound"] (spNB K CB) f1 fd1) (d_require_slew_and_drift : DefY P w K mg base k "_require_slew_and_drift" ["slew", "drift"] (spSD K CR) f2 fd2) :
    FnOk P w K mg base (L2N.CX P w) (k + 1) f fd ps_Steering_init (spInit K C CB CR) := by
  refine okY F sc_Steering_init (fun vs H Q E h => ?_) (fun cdv A outer s H vs Q E hr h => ?_)
  · obtain ⟨_, _, _, _, _, _, _, _, _, _, _, _, _, _, _, rfl, _⟩ := h
    rfl
  obtain ⟨o, dx, xr, xs, xe, xl, xd, xo, r0, s0, e0, l0, d0, ov, m, rfl, ho, hr0, hs0, he0, hl0, hd0, hov, ze, zl, zd, zo, hm, z, w1, w2, w3, w4⟩ := h
  refine ⟨_, (pss_cons (ps_expr (pcallY drequire_not_below_zero hr (L2N.takes_of rfl rfl rfl rfl) (pa_cons (pv 3) pa_nil)))
      (pss_cons (ps_expr (pcallY d_require_slew_and_drift hr (L2N.takes_of rfl rfl rfl rfl) (pa_cons (pv 4) (pa_cons (pv 5) pa_nil))))
      (pss_cons (ps_if (pt_cmpR op_notN (pv 6) pe_non (nomark _))
        (pss_one (ps_expr (pcallY drequire_not_below_zero hr (L2N.takes_of rfl rfl rfl rfl) (pa_cons (pv 6) pa_nil))))
        pss_nil)
      (pss_cons (ps_fld (pv 0) (pv 4) rfl)
      (pss_cons (ps_fld (pv 0) (pv 5) rfl)
      (pss_cons (ps_fld (pv 0) (pv 6) rfl)
      (pss_cons (ps_fld (pv 0) (pe_lst (pa_cons (pe_tup (pa_cons (pv 1) (pa_cons (pv 2) (pa_cons (pe_glob (v := .ref aONE) (u := .ref aONE) (by rfl) ZONE.m rfl) pa_nil)))) pa_nil)) rfl)
      (pss_cons (ps_fld (pv 0) pe_non rfl)
      (pss_cons (ps_fld (pv 0) (pv 1) rfl)
      (pss_cons (ps_fld (pv 0) (pv 3) rfl)
      (pss_one (ps_fld (pv 0) (pv 3) rfl)))))))))))), ?_⟩
  refine ⟨_, rfl, xe, e0, m, rfl, he0, ze, by omega, fun c1 => ?_, fun c1 => w1 c1⟩
  refine ⟨_, rfl, _, rfl, xl, xd, l0, d0, m, rfl, hl0, hd0, zl, zd, hm, fun c2 c3 c4 c5 => ?_, fun c => w2 c1 c, fun a b c => w3 c1 a b c⟩
  have go : (∃ b, xo = .ref b) ∨ xo = .non := by
    cases ov with
    | none => exact .inr hov
    | some q =>
      obtain ⟨b, eb, _⟩ : Rq K H xo q := hov
      exact .inl ⟨b, eb⟩
  have gq : ∀ q, ov = some q → Rq K H xo q := fun q e => by subst e; exact hov
  have g0 : (∀ q, ov = some q → 0 ≤ q) → ∀ H', Fr o H H' → SgA K C o H' ⟨l0, d0, ov, [⟨r0, s0, 1⟩], none, r0, e0, e0⟩ → Q .non H' := z c1 c2 c3 c4 c5
  clear z w1 w2 w3
  by_cases en : ov = none
  · have eo : xo = .non := by subst en; exact hov
    have z : ∀ H', Fr o H H' → SgA K C o H' ⟨l0, d0, ov, [⟨r0, s0, 1⟩], none, r0, e0, e0⟩ → Q .non H' := g0 fun q e => by rw [en] at e; cases e
    refine ⟨_, rfl, rfl, _, rfl, ifF (by rw [eo]; rfl) ?_⟩
    clear go gq g0 w4 en eo
    have L1 := putF_le (f := ("_slew" : Str)) (v := xl) (fs := []) (n := 0) (Nat.le_refl _)
    refine ⟨_, rfl, _, rfl, o, C, dx, _, rfl, ho, S.c, S.n1, by show 0 < 1000; decide, ?_⟩
    have e1 : Fr o H (upd H o (.ins C dx (putF ("_slew" : Str) xl []))) := Fr.upd _
    have g1 : (upd H o (.ins C dx (putF ("_slew" : Str) xl []))) o = some (.ins C dx (putF ("_slew" : Str) xl [])) := upd_same
    generalize upd H o (.ins C dx (putF ("_slew" : Str) xl [])) = G1 at e1 g1 ⊢
    refine ⟨_, rfl, _, rfl, o, C, dx, _, rfl, g1, S.c, S.n2, Nat.lt_of_le_of_lt L1 (by decide), ?_⟩
    have L2 := putF_le (f := ("_drift" : Str)) (v := xd) L1
    have e2 : Fr o G1 (upd G1 o (.ins C dx (putF ("_drift" : Str) xd (putF ("_slew" : Str) xl [])))) := Fr.upd _
    have g2 : (upd G1 o (.ins C dx (putF ("_drift" : Str) xd (putF ("_slew" : Str) xl [])))) o = some (.ins C dx (putF ("_drift" : Str) xd (putF ("_slew" : Str) xl []))) := upd_same
    generalize upd G1 o (.ins C dx (putF ("_drift" : Str) xd (putF ("_slew" : Str) xl []))) = G2 at e2 g2 ⊢
    refine ⟨_, rfl, _, rfl, o, C, dx, _, rfl, g2, S.c, S.n3, Nat.lt_of_le_of_lt L2 (by decide), ?_⟩
    have L3 := putF_le (f := ("_step_over" : Str)) (v := xo) L2
    have e3 : Fr o G2 (upd G2 o (.ins C dx (putF ("_step_over" : Str) xo (putF ("_drift" : Str) xd (putF ("_slew" : Str) xl []))))) := Fr.upd _
    have g3 : (upd G2 o (.ins C dx (putF ("_step_over" : Str) xo (putF ("_drift" : Str) xd (putF ("_slew" : Str) xl []))))) o = some (.ins C dx (putF ("_step_over" : Str) xo (putF ("_drift" : Str) xd (putF ("_slew" : Str) xl [])))) := upd_same
    generalize upd G2 o (.ins C dx (putF ("_step_over" : Str) xo (putF ("_drift" : Str) xd (putF ("_slew" : Str) xl [])))) = G3 at e3 g3 ⊢
    refine ⟨_, rfl, _, rfl, sm3, fun t ht => ⟨sm1, fun D hD => ?_⟩⟩
    have eT : Fr o G3 (upd G3 t (.tup [xr, xs, .ref aONE])) := Fr.of (same_new ht _)
    have gT := same_new ht (.tup [xr, xs, .ref aONE]) _ _ g3
    have uT : (upd G3 t (.tup [xr, xs, .ref aONE])) t = some (.tup [xr, xs, .ref aONE]) := upd_same
    generalize upd G3 t (.tup [xr, xs, .ref aONE]) = GT at eT gT uT hD ⊢
    have eD : Fr o GT (upd GT D (.lst [.ref t])) := Fr.of (same_new hD _)
    have gD := same_new hD (.lst [.ref t]) _ _ gT
    have uT2 := same_new hD (.lst [.ref t]) _ _ uT
    have uD : (upd GT D (.lst [.ref t])) D = some (.lst [.ref t]) := upd_same
    generalize upd GT D (.lst [.ref t]) = GD at eD gD uT2 uD ⊢
    refine ⟨_, rfl, o, C, dx, _, rfl, gD, S.c, S.n4, Nat.lt_of_le_of_lt L3 (by decide), ?_⟩
    have L4 := putF_le (f := ("_course" : Str)) (v := (.ref D)) L3
    have e4 : Fr o GD (upd GD o (.ins C dx (putF ("_course" : Str) (.ref D) (putF ("_step_over" : Str) xo (putF ("_drift" : Str) xd (putF ("_slew" : Str) xl [])))))) := Fr.upd _
    have g4 : (upd GD o (.ins C dx (putF ("_course" : Str) (.ref D) (putF ("_step_over" : Str) xo (putF ("_drift" : Str) xd (putF ("_slew" : Str) xl [])))))) o = some (.ins C dx (putF ("_course" : Str) (.ref D) (putF ("_step_over" : Str) xo (putF ("_drift" : Str) xd (putF ("_slew" : Str) xl []))))) := upd_same
    generalize upd GD o (.ins C dx (putF ("_course" : Str) (.ref D) (putF ("_step_over" : Str) xo (putF ("_drift" : Str) xd (putF ("_slew" : Str) xl []))))) = G4 at e4 g4 ⊢
    refine ⟨_, rfl, o, C, dx, _, rfl, g4, S.c, S.n5, Nat.lt_of_le_of_lt L4 (by decide), ?_⟩
    have L5 := putF_le (f := ("_aim" : Str)) (v := .non) L4
    have e5 : Fr o G4 (upd G4 o (.ins C dx (putF ("_aim" : Str) .non (putF ("_course" : Str) (.ref D) (putF ("_step_over" : Str) xo (putF ("_drift" : Str) xd (putF ("_slew" : Str) xl []))))))) := Fr.upd _
    have g5 : (upd G4 o (.ins C dx (putF ("_aim" : Str) .non (putF ("_course" : Str) (.ref D) (putF ("_step_over" : Str) xo (putF ("_drift" : Str) xd (putF ("_slew" : Str) xl []))))))) o = some (.ins C dx (putF ("_aim" : Str) .non (putF ("_course" : Str) (.ref D) (putF ("_step_over" : Str) xo (putF ("_drift" : Str) xd (putF ("_slew" : Str) xl [])))))) := upd_same
    generalize upd G4 o (.ins C dx (putF ("_aim" : Str) .non (putF ("_course" : Str) (.ref D) (putF ("_step_over" : Str) xo (putF ("_drift" : Str) xd (putF ("_slew" : Str) xl [])))))) = G5 at e5 g5 ⊢
    refine ⟨_, rfl, _, rfl, o, C, dx, _, rfl, g5, S.c, S.n6, Nat.lt_of_le_of_lt L5 (by decide), ?_⟩
    have L6 := putF_le (f := ("_last" : Str)) (v := xr) L5
    have e6 : Fr o G5 (upd G5 o (.ins C dx (putF ("_last" : Str) xr (putF ("_aim" : Str) .non (putF ("_course" : Str) (.ref D) (putF ("_step_over" : Str) xo (putF ("_drift" : Str) xd (putF ("_slew" : Str) xl [])))))))) := Fr.upd _
    have g6 : (upd G5 o (.ins C dx (putF ("_last" : Str) xr (putF ("_aim" : Str) .non (putF ("_course" : Str) (.ref D) (putF ("_step_over" : Str) xo (putF ("_drift" : Str) xd (putF ("_slew" : Str) xl [])))))))) o = some (.ins C dx (putF ("_last" : Str) xr (putF ("_aim" : Str) .non (putF ("_course" : Str) (.ref D) (putF ("_step_over" : Str) xo (putF ("_drift" : Str) xd (putF ("_slew" : Str) xl []))))))) := upd_same
    generalize upd G5 o (.ins C dx (putF ("_last" : Str) xr (putF ("_aim" : Str) .non (putF ("_course" : Str) (.ref D) (putF ("_step_over" : Str) xo (putF ("_drift" : Str) xd (putF ("_slew" : Str) xl []))))))) = G6 at e6 g6 ⊢
    refine ⟨_, rfl, _, rfl, o, C, dx, _, rfl, g6, S.c, S.n7, Nat.lt_of_le_of_lt L6 (by decide), ?_⟩
    have L7 := putF_le (f := ("_bound" : Str)) (v := xe) L6
    have e7 : Fr o G6 (upd G6 o (.ins C dx (putF ("_bound" : Str) xe (putF ("_last" : Str) xr (putF ("_aim" : Str) .non (putF ("_course" : Str) (.ref D) (putF ("_step_over" : Str) xo (putF ("_drift" : Str) xd (putF ("_slew" : Str) xl []))))))))) := Fr.upd _
    have g7 : (upd G6 o (.ins C dx (putF ("_bound" : Str) xe (putF ("_last" : Str) xr (putF ("_aim" : Str) .non (putF ("_course" : Str) (.ref D) (putF ("_step_over" : Str) xo (putF ("_drift" : Str) xd (putF ("_slew" : Str) xl []))))))))) o = some (.ins C dx (putF ("_bound" : Str) xe (putF ("_last" : Str) xr (putF ("_aim" : Str) .non (putF ("_course" : Str) (.ref D) (putF ("_step_over" : Str) xo (putF ("_drift" : Str) xd (putF ("_slew" : Str) xl [])))))))) := upd_same
    generalize upd G6 o (.ins C dx (putF ("_bound" : Str) xe (putF ("_last" : Str) xr (putF ("_aim" : Str) .non (putF ("_course" : Str) (.ref D) (putF ("_step_over" : Str) xo (putF ("_drift" : Str) xd (putF ("_slew" : Str) xl [])))))))) = G7 at e7 g7 ⊢
    refine ⟨_, rfl, _, rfl, o, C, dx, _, rfl, g7, S.c, S.n8, Nat.lt_of_le_of_lt L7 (by decide), ?_⟩
    have L8 := putF_le (f := ("_half" : Str)) (v := xe) L7
    have e8 : Fr o G7 (upd G7 o (.ins C dx (putF ("_half" : Str) xe (putF ("_bound" : Str) xe (putF ("_last" : Str) xr (putF ("_aim" : Str) .non (putF ("_course" : Str) (.ref D) (putF ("_step_over" : Str) xo (putF ("_drift" : Str) xd (putF ("_slew" : Str) xl [])))))))))) := Fr.upd _
    have g8 : (upd G7 o (.ins C dx (putF ("_half" : Str) xe (putF ("_bound" : Str) xe (putF ("_last" : Str) xr (putF ("_aim" : Str) .non (putF ("_course" : Str) (.ref D) (putF ("_step_over" : Str) xo (putF ("_drift" : Str) xd (putF ("_slew" : Str) xl [])))))))))) o = some (.ins C dx (putF ("_half" : Str) xe (putF ("_bound" : Str) xe (putF ("_last" : Str) xr (putF ("_aim" : Str) .non (putF ("_course" : Str) (.ref D) (putF ("_step_over" : Str) xo (putF ("_drift" : Str) xd (putF ("_slew" : Str) xl []))))))))) := upd_same
    generalize upd G7 o (.ins C dx (putF ("_half" : Str) xe (putF ("_bound" : Str) xe (putF ("_last" : Str) xr (putF ("_aim" : Str) .non (putF ("_course" : Str) (.ref D) (putF ("_step_over" : Str) xo (putF ("_drift" : Str) xd (putF ("_slew" : Str) xl []))))))))) = G8 at e8 g8 ⊢
    rw [putF_all] at g8
    have nT : t ≠ o := fun e => by subst e; rw [g3] at ht; cases ht
    have nD : D ≠ o := fun e => by subst e; rw [gT] at hD; cases hD
    have eA : Fr o GD G8 := (((e4.trans e5).trans e6).trans e7).trans e8
    have eB : Fr o G3 G8 := (eT.trans eD).trans eA
    have e0 : Fr o H G8 := ((e1.trans e2).trans e3).trans eB
    have hi : ∃ C d fs, H o = some (HO.ins C d fs) := ⟨_, _, _, ho⟩
    have r1 := frI_rq e0 hi hr0
    have r2 := frI_rq e0 hi hs0
    refine z G8 e0 ⟨dx, _, g8, ⟨frI_rq e0 hi hl0, frI_rq e0 hi hd0, frI_opt e0 hi hov, ⟨_, (eA _ _ uD nD), (All2.nil.snoc (R := Pq K G8) (x := .ref t) (p := ⟨r0, s0, 1⟩) ⟨t, _, _, _, rfl, SqT.of (eA _ _ uT2 nT), r1, r2, ZONE.q G8⟩ : All2 (Pq K G8) ([] ++ [.ref t]) ([] ++ [⟨r0, s0, 1⟩]))⟩, rfl, r1, frI_rq e0 hi he0, frI_rq e0 hi he0⟩⟩
  · obtain ⟨q, eq⟩ : ∃ q, ov = some q := by cases ov with | none => exact absurd rfl en | some q => exact ⟨q, rfl⟩
    have rq := gq q eq
    obtain ⟨b, eb, _⟩ := id rq
    refine ⟨_, rfl, rfl, _, rfl, ifT (by rw [eb]; rfl) ⟨_, rfl, xo, q, m, rfl, rq, zo q eq, by omega, fun c6 => ?_, fun c => w4 c1 c2 c3 c4 c5 q eq c⟩⟩
    have z : ∀ H', Fr o H H' → SgA K C o H' ⟨l0, d0, ov, [⟨r0, s0, 1⟩], none, r0, e0, e0⟩ → Q .non H' := g0 fun q' e => by rw [eq] at e; cases e; exact c6
    clear go gq g0 w4 en rq eb c6
    have L1 := putF_le (f := ("_slew" : Str)) (v := xl) (fs := []) (n := 0) (Nat.le_refl _)
    refine ⟨_, rfl, _, rfl, o, C, dx, _, rfl, ho, S.c, S.n1, by show 0 < 1000; decide, ?_⟩
    have e1 : Fr o H (upd H o (.ins C dx (putF ("_slew" : Str) xl []))) := Fr.upd _
    have g1 : (upd H o (.ins C dx (putF ("_slew" : Str) xl []))) o = some (.ins C dx (putF ("_slew" : Str) xl [])) := upd_same
    generalize upd H o (.ins C dx (putF ("_slew" : Str) xl [])) = G1 at e1 g1 ⊢
    refine ⟨_, rfl, _, rfl, o, C, dx, _, rfl, g1, S.c, S.n2, Nat.lt_of_le_of_lt L1 (by decide), ?_⟩
    have L2 := putF_le (f := ("_drift" : Str)) (v := xd) L1
    have e2 : Fr o G1 (upd G1 o (.ins C dx (putF ("_drift" : Str) xd (putF ("_slew" : Str) xl [])))) := Fr.upd _
    have g2 : (upd G1 o (.ins C dx (putF ("_drift" : Str) xd (putF ("_slew" : Str) xl [])))) o = some (.ins C dx (putF ("_drift" : Str) xd (putF ("_slew" : Str) xl []))) := upd_same
    generalize upd G1 o (.ins C dx (putF ("_drift" : Str) xd (putF ("_slew" : Str) xl []))) = G2 at e2 g2 ⊢
    refine ⟨_, rfl, _, rfl, o, C, dx, _, rfl, g2, S.c, S.n3, Nat.lt_of_le_of_lt L2 (by decide), ?_⟩
    have L3 := putF_le (f := ("_step_over" : Str)) (v := xo) L2
    have e3 : Fr o G2 (upd G2 o (.ins C dx (putF ("_step_over" : Str) xo (putF ("_drift" : Str) xd (putF ("_slew" : Str) xl []))))) := Fr.upd _
    have g3 : (upd G2 o (.ins C dx (putF ("_step_over" : Str) xo (putF ("_drift" : Str) xd (putF ("_slew" : Str) xl []))))) o = some (.ins C dx (putF ("_step_over" : Str) xo (putF ("_drift" : Str) xd (putF ("_slew" : Str) xl [])))) := upd_same
    generalize upd G2 o (.ins C dx (putF ("_step_over" : Str) xo (putF ("_drift" : Str) xd (putF ("_slew" : Str) xl [])))) = G3 at e3 g3 ⊢
    refine ⟨_, rfl, _, rfl, sm3, fun t ht => ⟨sm1, fun D hD => ?_⟩⟩
    have eT : Fr o G3 (upd G3 t (.tup [xr, xs, .ref aONE])) := Fr.of (same_new ht _)
    have gT := same_new ht (.tup [xr, xs, .ref aONE]) _ _ g3
    have uT : (upd G3 t (.tup [xr, xs, .ref aONE])) t = some (.tup [xr, xs, .ref aONE]) := upd_same
    generalize upd G3 t (.tup [xr, xs, .ref aONE]) = GT at eT gT uT hD ⊢
    have eD : Fr o GT (upd GT D (.lst [.ref t])) := Fr.of (same_new hD _)
    have gD := same_new hD (.lst [.ref t]) _ _ gT
    have uT2 := same_new hD (.lst [.ref t]) _ _ uT
    have uD : (upd GT D (.lst [.ref t])) D = some (.lst [.ref t]) := upd_same
    generalize upd GT D (.lst [.ref t]) = GD at eD gD uT2 uD ⊢
    refine ⟨_, rfl, o, C, dx, _, rfl, gD, S.c, S.n4, Nat.lt_of_le_of_lt L3 (by decide), ?_⟩
    have L4 := putF_le (f := ("_course" : Str)) (v := (.ref D)) L3
    have e4 : Fr o GD (upd GD o (.ins C dx (putF ("_course" : Str) (.ref D) (putF ("_step_over" : Str) xo (putF ("_drift" : Str) xd (putF ("_slew" : Str) xl [])))))) := Fr.upd _
    have g4 : (upd GD o (.ins C dx (putF ("_course" : Str) (.ref D) (putF ("_step_over" : Str) xo (putF ("_drift" : Str) xd (putF ("_slew" : Str) xl [])))))) o = some (.ins C dx (putF ("_course" : Str) (.ref D) (putF ("_step_over" : Str) xo (putF ("_drift" : Str) xd (putF ("_slew" : Str) xl []))))) := upd_same
    generalize upd GD o (.ins C dx (putF ("_course" : Str) (.ref D) (putF ("_step_over" : Str) xo (putF ("_drift" : Str) xd (putF ("_slew" : Str) xl []))))) = G4 at e4 g4 ⊢
    refine ⟨_, rfl, o, C, dx, _, rfl, g4, S.c, S.n5, Nat.lt_of_le_of_lt L4 (by decide), ?_⟩
    have L5 := putF_le (f := ("_aim" : Str)) (v := .non) L4
    have e5 : Fr o G4 (upd G4 o (.ins C dx (putF ("_aim" : Str) .non (putF ("_course" : Str) (.ref D) (putF ("_step_over" : Str) xo (putF ("_drift" : Str) xd (putF ("_slew" : Str) xl []))))))) := Fr.upd _
    have g5 : (upd G4 o (.ins C dx (putF ("_aim" : Str) .non (putF ("_course" : Str) (.ref D) (putF ("_step_over" : Str) xo (putF ("_drift" : Str) xd (putF ("_slew" : Str) xl []))))))) o = some (.ins C dx (putF ("_aim" : Str) .non (putF ("_course" : Str) (.ref D) (putF ("_step_over" : Str) xo (putF ("_drift" : Str) xd (putF ("_slew" : Str) xl [])))))) := upd_same
    generalize upd G4 o (.ins C dx (putF ("_aim" : Str) .non (putF ("_course" : Str) (.ref D) (putF ("_step_over" : Str) xo (putF ("_drift" : Str) xd (putF ("_slew" : Str) xl [])))))) = G5 at e5 g5 ⊢
    refine ⟨_, rfl, _, rfl, o, C, dx, _, rfl, g5, S.c, S.n6, Nat.lt_of_le_of_lt L5 (by decide), ?_⟩
    have L6 := putF_le (f := ("_last" : Str)) (v := xr) L5
    have e6 : Fr o G5 (upd G5 o (.ins C dx (putF ("_last" : Str) xr (putF ("_aim" : Str) .non (putF ("_course" : Str) (.ref D) (putF ("_step_over" : Str) xo (putF ("_drift" : Str) xd (putF ("_slew" : Str) xl [])))))))) := Fr.upd _
    have g6 : (upd G5 o (.ins C dx (putF ("_last" : Str) xr (putF ("_aim" : Str) .non (putF ("_course" : Str) (.ref D) (putF ("_step_over" : Str) xo (putF ("_drift" : Str) xd (putF ("_slew" : Str) xl [])))))))) o = some (.ins C dx (putF ("_last" : Str) xr (putF ("_aim" : Str) .non (putF ("_course" : Str) (.ref D) (putF ("_step_over" : Str) xo (putF ("_drift" : Str) xd (putF ("_slew" : Str) xl []))))))) := upd_same
    generalize upd G5 o (.ins C dx (putF ("_last" : Str) xr (putF ("_aim" : Str) .non (putF ("_course" : Str) (.ref D) (putF ("_step_over" : Str) xo (putF ("_drift" : Str) xd (putF ("_slew" : Str) xl []))))))) = G6 at e6 g6 ⊢
    refine ⟨_, rfl, _, rfl, o, C, dx, _, rfl, g6, S.c, S.n7, Nat.lt_of_le_of_lt L6 (by decide), ?_⟩
    have L7 := putF_le (f := ("_bound" : Str)) (v := xe) L6
    have e7 : Fr o G6 (upd G6 o (.ins C dx (putF ("_bound" : Str) xe (putF ("_last" : Str) xr (putF ("_aim" : Str) .non (putF ("_course" : Str) (.ref D) (putF ("_step_over" : Str) xo (putF ("_drift" : Str) xd (putF ("_slew" : Str) xl []))))))))) := Fr.upd _
    have g7 : (upd G6 o (.ins C dx (putF ("_bound" : Str) xe (putF ("_last" : Str) xr (putF ("_aim" : Str) .non (putF ("_course" : Str) (.ref D) (putF ("_step_over" : Str) xo (putF ("_drift" : Str) xd (putF ("_slew" : Str) xl []))))))))) o = some (.ins C dx (putF ("_bound" : Str) xe (putF ("_last" : Str) xr (putF ("_aim" : Str) .non (putF ("_course" : Str) (.ref D) (putF ("_step_over" : Str) xo (putF ("_drift" : Str) xd (putF ("_slew" : Str) xl [])))))))) := upd_same
    generalize upd G6 o (.ins C dx (putF ("_bound" : Str) xe (putF ("_last" : Str) xr (putF ("_aim" : Str) .non (putF ("_course" : Str) (.ref D) (putF ("_step_over" : Str) xo (putF ("_drift" : Str) xd (putF ("_slew" : Str) xl [])))))))) = G7 at e7 g7 ⊢
    refine ⟨_, rfl, _, rfl, o, C, dx, _, rfl, g7, S.c, S.n8, Nat.lt_of_le_of_lt L7 (by decide), ?_⟩
    have L8 := putF_le (f := ("_half" : Str)) (v := xe) L7
    have e8 : Fr o G7 (upd G7 o (.ins C dx (putF ("_half" : Str) xe (putF ("_bound" : Str) xe (putF ("_last" : Str) xr (putF ("_aim" : Str) .non (putF ("_course" : Str) (.ref D) (putF ("_step_over" : Str) xo (putF ("_drift" : Str) xd (putF ("_slew" : Str) xl [])))))))))) := Fr.upd _
    have g8 : (upd G7 o (.ins C dx (putF ("_half" : Str) xe (putF ("_bound" : Str) xe (putF ("_last" : Str) xr (putF ("_aim" : Str) .non (putF ("_course" : Str) (.ref D) (putF ("_step_over" : Str) xo (putF ("_drift" : Str) xd (putF ("_slew" : Str) xl [])))))))))) o = some (.ins C dx (putF ("_half" : Str) xe (putF ("_bound" : Str) xe (putF ("_last" : Str) xr (putF ("_aim" : Str) .non (putF ("_course" : Str) (.ref D) (putF ("_step_over" : Str) xo (putF ("_drift" : Str) xd (putF ("_slew" : Str) xl []))))))))) := upd_same
    generalize upd G7 o (.ins C dx (putF ("_half" : Str) xe (putF ("_bound" : Str) xe (putF ("_last" : Str) xr (putF ("_aim" : Str) .non (putF ("_course" : Str) (.ref D) (putF ("_step_over" : Str) xo (putF ("_drift" : Str) xd (putF ("_slew" : Str) xl []))))))))) = G8 at e8 g8 ⊢
    rw [putF_all] at g8
    have nT : t ≠ o := fun e => by subst e; rw [g3] at ht; cases ht
    have nD : D ≠ o := fun e => by subst e; rw [gT] at hD; cases hD
    have eA : Fr o GD G8 := (((e4.trans e5).trans e6).trans e7).trans e8
    have eB : Fr o G3 G8 := (eT.trans eD).trans eA
    have e0 : Fr o H G8 := ((e1.trans e2).trans e3).trans eB
    have hi : ∃ C d fs, H o = some (HO.ins C d fs) := ⟨_, _, _, ho⟩
    have r1 := frI_rq e0 hi hr0
    have r2 := frI_rq e0 hi hs0
    refine z G8 e0 ⟨dx, _, g8, ⟨frI_rq e0 hi hl0, frI_rq e0 hi hd0, frI_opt e0 hi hov, ⟨_, (eA _ _ uD nD), (All2.nil.snoc (R := Pq K G8) (x := .ref t) (p := ⟨r0, s0, 1⟩) ⟨t, _, _, _, rfl, SqT.of (eA _ _ uT2 nT), r1, r2, ZONE.q G8⟩ : All2 (Pq K G8) ([] ++ [.ref t]) ([] ++ [⟨r0, s0, 1⟩]))⟩, rfl, r1, frI_rq e0 hi he0, frI_rq e0 hi he0⟩⟩
end Vk
set_option maxHeartbeats 4000000
namespace Vk
open PySem L2 Vm Vl
variable {l aZERO aONE aHALF C CB CR CT CV fB fR fT : Addr} {P : Program} {w : World} {K : PySem.W.Frag} {mg : Str → Option Value} {base : Heap} {k : Nat} {f f1 f2 f3 f4 f5 f6 f7 f8 f9 : Addr} {fd fd1 fd2 fd3 fd4 fd5 fd6 fd7 fd8 fd9 : FuncData}
def kp (c : List Pc) (t : Rat) : List Pc := c.filter fun p => decide (p.s < t)
def spPlan (K : PySem.W.Frag) (C : Addr) : Sp := fun vs H Q _ => ∃ (o a : Addr) (ys : List V) (y va vb vh : V) (r : Sr) (t b h : Rat) (am : Option Rat) (c : List Pc) (i j l m : Nat), vs = [.ref o, y, .ref a, va, vb, vh] ∧ SgA K C o H r ∧ Rq K H y t ∧ Ct K H a ys c ∧ optV K H va am ∧ Rq K H vb b ∧ Rq K H vh h ∧ Cz i j l r.c ∧ Cz i j l c ∧ Sz m t ∧
  i + m + 1 ≤ 9000 ∧ j + j + l + i + i + 5 ≤ 9000 ∧ 1 ≤ c.length ∧ c.length ≤ 400 ∧ r.c.length ≤ 400 ∧ ∀ H', Fr o H H' → SgA K C o H' { r with c := tl (kp r.c t ++ c), aim := am, la := t, bd := b, hf := h } → Q .non H'
abbrev s_Steering__plan : Stmt := inClass (top 46) 3
abbrev N_Steering__plan : List Str := ["self", "raw", "pieces", "aim", "bound", "half", "kept", "piece"]
theorem sc_Steering__plan : FnScope N_Steering__plan ["self", "raw", "pieces", "aim", "bound", "half"] (defScope s_Steering__plan) := ⟨rfl, rfl, rfl, by decide +kernel, rfl, by decide +kernel, by decide +kernel⟩
abbrev ps_Steering__plan : List Str := ["self", "raw", "pieces", "aim", "bound", "half"]
theorem ok_plan (S : Stg K C) (F : FnM K C "_plan" "Steering._plan" s_Steering__plan ps_Steering__plan f fd) (dcompare : Def P w K mg base k "compare" ["a", "b"] (spTest2 K fun p q => .int (sg p q)) f1 fd1) (dtidy : Def P w K mg base k "tidy" ["course"] (spTidy K) f2 fd2) :
    Mth P w K mg base (k + 1) C "_plan" ps_Steering__plan (spPlan K C) f fd := by
  refine ⟨F.F.ok sc_Steering__plan (fun vs H Q E h => ?_) (fun cdv A outer s H vs Q E hr h => ?_), S.c, F.m, F.b⟩
  · obtain ⟨_, _, _, _, _, _, _, _, _, _, _, _, _, _, _, _, _, rfl, _⟩ := h
    rfl
  obtain ⟨o, a, ys, y, va, vb, vh, r, t, b, h, am, c, i, j, l, m, rfl, ⟨dx, x, ho, G⟩, hy, hC, hva, hvb, hvh, cz1, cz2, zt, hm1, hm2, hp, hl1, hl2, z⟩ := h
  obtain ⟨l1, l2, l3, l4, l5, l6, l7, l8⟩ := sgf_at x
  obtain ⟨xs, hx, hc⟩ := id G.cq
  obtain ⟨hY, hcy⟩ := id hC
  have hcl := hc.1
  have hcyl := hcy.1
  refine ⟨_, (pss_cons (ps_setLc (i := 6) (own := [("piece", 7)]) (g := gName 7) rfl sc_Steering__plan.nd rfl rfl (sw_true rfl rfl rfl (by decide +kernel)) (pi_list (pe_fld (pv 0) rfl)) (blkOk_by (N := N_Steering__plan) (sc := defScope s_Steering__plan) (by decide +kernel)) (fun _ _ _ _ _ => pg_name (i := 7) sc_Steering__plan.nd rfl (Or.inl rfl)) (fun _ _ _ _ _ => pts_one (pt_cmpR op_lt (pcall dcompare hr (pa_cons (pe_ix (show IxR _ (rIxT K) from ix_tup) (pv 7) pe_int (fun _ _ => rfl)) (pa_cons (pv 1) pa_nil))) pe_int (nomark _))) (fun _ _ _ _ _ => (pv 7)))
      (pss_cons (ps_fld (pv 0) (pcall dtidy hr (pa_cons (pe_op op_cat (pv 6) (pv 2)) pa_nil)) rfl)
      (pss_cons (ps_fld (pv 0) (pv 3) rfl)
      (pss_cons (ps_fld (pv 0) (pv 1) rfl)
      (pss_cons (ps_fld (pv 0) (pv 4) rfl)
      (pss_one (ps_fld (pv 0) (pv 5) rfl))))))), ?_⟩
  refine ⟨_, rfl, o, C, dx, _, _, rfl, ho, S.c, S.n4, l4, ?_⟩
  refine ⟨x.l, rfl, ⟨xs, hx⟩, fun D hD => lcAll (R := Pq K) (R' := Pq K) lastsP (fun p => if p.s < t then some p else none) hD hx hc (by omega) ?_ ?_⟩
  · intro i0 u p0 G0 ec pq s1 Y N hY hN
    obtain ⟨pa, ps, pv, pr, rfl, hpa, r1, r2, r3⟩ := pq.same s1
    have zp := (cz1 p0 (List.mem_of_getElem? ec)).1
    (walk_at "vk_vc")
    · exact hY _ _ p0 (by with_reducible exact Same.refl _) (if_pos (sg_lt.mp gc)) (pq.same s1)
    · exact hN _ (if_neg fun g => gc (sg_lt.mpr g)) (Same.refl _)
  intro us H1 s1 h1 h2
  rw [filterMap_if] at h2
  have h2 : All2 (Pq K H1) us (kp r.c t) := h2
  have hul := h2.1
  have hkl : (kp r.c t).length ≤ r.c.length := List.length_filter_le _ _
  have hx1 := s1.seq hx
  have hY1 := s1 _ _ hY
  have hcy1 := hcy.imp fun _ _ h => h.same s1
  have hsz : sizeLine = 16777216 := sizeLine_eq
  refine ⟨_, rfl, _, rfl, D, a, us, ys, rfl, rfl, h1, hY1, by omega, fun B hB => ?_⟩
  have hcat : All2 (Pq K H1) (us ++ ys) (kp r.c t ++ c) := h2.append hcy1
  have sB := same_new hB (.lst (us ++ ys))
  have tB : Ct K (upd H1 B (.lst (us ++ ys))) B (us ++ ys) (kp r.c t ++ c) := ⟨upd_same, hcat.imp fun _ _ h => h.same sB⟩
  have eB := s1.trans sB
  generalize upd H1 B (.lst (us ++ ys)) = HB at tB eB ⊢
  have czk : Cz i j l (kp r.c t ++ c) := fun p hp => by
    rcases List.mem_append.mp hp with h | h
    · exact cz1 p (List.mem_filter.mp h).1
    · exact cz2 p h
  refine ⟨B, kp r.c t ++ c, i, j, l, rfl, tB.cq, czk, by rw [List.length_append]; omega, by rw [List.length_append]; omega, hm2, fun B2 us2 H2 s2 hB2 t2 => ?_⟩
  have e2 := eB.trans s2
  have ho2 := e2 _ _ ho
  have G2 := G.same e2
  have y2 := hy.same e2
  have a2 := hva.same e2
  have b2 := hvb.same e2
  have h2' := hvh.same e2
  have F2 : Fr o H H2 := Fr.of e2
  clear hx hY hc hcy hx1 hY1 hcy1 h1 h2 hcat tB eB sB s1 s2 e2 G hC hD hB
  refine ⟨_, rfl, o, C, dx, _, rfl, ho2, S.c, S.n4, sgf_len _, ?_⟩
  rw [putF_course]
  have f0 : Fr o H2 (upd H2 o (.ins C dx (sgf { x with l := B2 }))) := Fr.upd _
  have q0 : (upd H2 o (.ins C dx (sgf { x with l := B2 }))) o = some (.ins C dx (sgf { x with l := B2 })) := upd_same
  generalize upd H2 o (.ins C dx (sgf { x with l := B2 })) = J0 at f0 q0 ⊢
  refine ⟨_, rfl, _, rfl, o, C, dx, _, rfl, q0, S.c, S.n5, sgf_len _, ?_⟩
  rw [putF_aim]
  have f1 : Fr o J0 (upd J0 o (.ins C dx (sgf { { x with l := B2 } with va := va }))) := Fr.upd _
  have q1 : (upd J0 o (.ins C dx (sgf { { x with l := B2 } with va := va }))) o = some (.ins C dx (sgf { { x with l := B2 } with va := va })) := upd_same
  generalize upd J0 o (.ins C dx (sgf { { x with l := B2 } with va := va })) = J1 at f1 q1 ⊢
  refine ⟨_, rfl, _, rfl, o, C, dx, _, rfl, q1, S.c, S.n6, sgf_len _, ?_⟩
  rw [putF_last]
  have f2 : Fr o J1 (upd J1 o (.ins C dx (sgf { { { x with l := B2 } with va := va } with vl := y }))) := Fr.upd _
  have q2 : (upd J1 o (.ins C dx (sgf { { { x with l := B2 } with va := va } with vl := y }))) o = some (.ins C dx (sgf { { { x with l := B2 } with va := va } with vl := y })) := upd_same
  generalize upd J1 o (.ins C dx (sgf { { { x with l := B2 } with va := va } with vl := y })) = J2 at f2 q2 ⊢
  refine ⟨_, rfl, _, rfl, o, C, dx, _, rfl, q2, S.c, S.n7, sgf_len _, ?_⟩
  rw [putF_bound]
  have f3 : Fr o J2 (upd J2 o (.ins C dx (sgf { { { { x with l := B2 } with va := va } with vl := y } with vb := vb }))) := Fr.upd _
  have q3 : (upd J2 o (.ins C dx (sgf { { { { x with l := B2 } with va := va } with vl := y } with vb := vb }))) o = some (.ins C dx (sgf { { { { x with l := B2 } with va := va } with vl := y } with vb := vb })) := upd_same
  generalize upd J2 o (.ins C dx (sgf { { { { x with l := B2 } with va := va } with vl := y } with vb := vb })) = J3 at f3 q3 ⊢
  refine ⟨_, rfl, _, rfl, o, C, dx, _, rfl, q3, S.c, S.n8, sgf_len _, ?_⟩
  rw [putF_half]
  have f4 : Fr o J3 (upd J3 o (.ins C dx (sgf { { { { { x with l := B2 } with va := va } with vl := y } with vb := vb } with vh := vh }))) := Fr.upd _
  have q4 : (upd J3 o (.ins C dx (sgf { { { { { x with l := B2 } with va := va } with vl := y } with vb := vb } with vh := vh }))) o = some (.ins C dx (sgf { { { { { x with l := B2 } with va := va } with vl := y } with vb := vb } with vh := vh })) := upd_same
  generalize upd J3 o (.ins C dx (sgf { { { { { x with l := B2 } with va := va } with vl := y } with vb := vb } with vh := vh })) = J4 at f4 q4 ⊢
  have eA : Fr o H2 J4 := (((f0.trans f1).trans f2).trans f3).trans f4
  have hi : ∃ C d fs, H2 o = some (HO.ins C d fs) := ⟨_, _, _, ho2⟩
  have c2 : ∃ us, Ct K J4 B2 us (tl (kp r.c t ++ c)) := ⟨_, frI_lst eA hi t2.1, t2.2.imp fun _ _ z => frI_pq eA hi z⟩
  exact z J4 (F2.trans eA) ⟨dx, _, q4, ⟨frI_rq eA hi G2.sl, frI_rq eA hi G2.dr, frI_opt eA hi G2.ov, c2, frI_opt eA hi a2, frI_rq eA hi y2, frI_rq eA hi b2, frI_rq eA hi h2'⟩⟩
end Vk
set_option maxHeartbeats 4000000
namespace Vk
open PySem L2 Vm Vl Vs
variable {l aZERO aONE aHALF C CB CR CT CV fB fR fT : Addr} {P : Program} {w : World} {K : PySem.W.Frag} {mg : Str → Option Value} {base : Heap} {k : Nat} {f f1 f2 f3 f4 f5 f6 f7 f8 f9 f10 f11 f12 : Addr} {fd fd1 fd2 fd3 fd4 fd5 fd6 fd7 fd8 fd9 fd10 fd11 fd12 : FuncData}
/-- the span that a steering goes by -/
def kLo (p n b : Rat) : Rat := if n - b ≤ p then p else n - b
def kHi (q n b : Rat) : Rat := if q ≤ n + b then q else n + b
def knw (p q n b : Rat) : Rat × Rat := if kHi q n b < kLo p n b then (p, q) else (kLo p n b, kHi q n b)
def mid (u : Rat × Rat) : Rat := (u.1 + u.2) * (1 / 2)
def haf (u : Rat × Rat) : Rat := (u.2 - u.1) * (1 / 2)
theorem meet_knw (p q n b : Rat) : meetO (some p, some q) (some (n - b), some (n + b)) = if kHi q n b < kLo p n b then none else some (some (kLo p n b), some (kHi q n b)) := by
  unfold meetO maxO minO crossed kLo kHi
  dsimp only
  by_cases h : (if q ≤ n + b then q else n + b) < (if n - b ≤ p then p else n - b)
  · rw [if_pos (decide_eq_true h), if_pos h]
  · rw [if_neg (by simpa using h), if_neg h]
/-- without a span -/
def str0 (r : Sr) (t n : Rat) : Sr := { r with c := tl (kp r.c t ++ [⟨t, n, 1⟩]), aim := none, la := t, bd := errS r t, hf := errS r t }
def str2 (r : Sr) (t n p q : Rat) : Sr :=
  if jmpS r (mid (knw p q n (errS r t))) n = true then { r with c := tl (kp r.c t ++ [⟨t, mid (knw p q n (errS r t)), 1⟩]), aim := some (mid (knw p q n (errS r t))), la := t, bd := haf (knw p q n (errS r t)), hf := haf (knw p q n (errS r t)) }
  else { r with c := tl (kp r.c t ++ plan t n (mid (knw p q n (errS r t))) r.sl), aim := some (mid (knw p q n (errS r t))), la := t, bd := farE (knw p q n (errS r t)).1 (knw p q n (errS r t)).2 n, hf := haf (knw p q n (errS r t)) }
def strS (r : Sr) (t n : Rat) : Option Vs.Spn → Sr
  | some (some p, some q) => str2 r t n p q
  | _ => str0 r t n
structure StOk (r : Sr) (t n : Rat) (os : Option Vs.Spn) : Prop where
  now : nowf r.c t = some n
  ok : Cok r.c
  cz : Cz 2162 2162 62 r.c
  len : r.c.length ≤ 300
  zn : Sz 700 n
  zb : Sz 700 (errS r t)
  p1 : 0 < r.sl
  zo : OSz 700 r.ov
  s0 : ∀ s, os = some s → SSz 700 s
  s2 : ∀ p q, os = some (some p, some q) → Sz 700 (knw p q n (errS r t)).1 ∧ Sz 700 (knw p q n (errS r t)).2 ∧ Sz 700 (mid (knw p q n (errS r t))) ∧ Sz 700 (haf (knw p q n (errS r t)))
def spSteer (K : PySem.W.Frag) (C CT : Addr) : Sp := fun vs H Q E => ∃ (o : Addr) (y xp : V) (r : Sr) (t n : Rat) (os : Option Vs.Spn), vs = [.ref o, y, xp] ∧ SgA K C o H r ∧ Rq K H y t ∧ oSp K H xp os ∧ Sz 700 t ∧ Sz 700 r.la ∧ Sz 700 r.bd ∧ Sz 700 r.hf ∧ Sz 60 r.sl ∧ Sz 60 r.dr ∧
  (r.la ≤ t → StOk r t n os ∧ ∀ H', Fr o H H' → SgA K C o H' (strS r t n os) → Q .non H') ∧ (t < r.la → eV E CT H y)
theorem pc1 {H : Hp} {t D : Addr} {v1 v2 v3 : V} {a b c : Rat} (ht : H t = none) (hD : upd H t (.tup [v1, v2, v3]) D = none) (h1 : Rq K H v1 a) (h2 : Rq K H v2 b) (h3 : Rq K H v3 c) :
    Same H (upd (upd H t (.tup [v1, v2, v3])) D (.lst [.ref t])) ∧ Ct K (upd (upd H t (.tup [v1, v2, v3])) D (.lst [.ref t])) D [.ref t] [⟨a, b, c⟩] := by
  have s1 := same_new ht (.tup [v1, v2, v3])
  have s2 := same_new hD (.lst [.ref t])
  exact ⟨s1.trans s2, ctOne upd_same ((pqNew ht h1 h2 h3).same s2)⟩
theorem cz_one {t n : Rat} (h : Sz 700 t) (g : Sz 700 n) : Cz 2162 2162 62 [(⟨t, n, 1⟩ : Pc)] := fun p hp => by
  rw [List.mem_singleton] at hp; subst hp
  exact ⟨h.mono (by decide), g.mono (by decide), zo1.mono (by decide)⟩
theorem cz_plan {t n a l : Rat} (h : Sz 700 t) (g : Sz 700 n) (ha : Sz 700 a) (hl : Sz 60 l) (p1 : 0 < l) : Cz 2162 2162 62 (plan t n a l) := fun p hp => by
  have y1 : Sz 1401 (ab (a - n)) := Vk.Sz.ab (ha.sub g)
  have y2 : Sz 1461 (ab (a - n) / l) := y1.div hl p1
  have r1 : Sz 62 (1 + l) := (zo1.add hl).mono (by decide)
  have r2 : Sz 62 (1 - l) := (zo1.sub hl).mono (by decide)
  unfold plan at hp
  split at hp
  · rw [List.mem_singleton] at hp; subst hp
    exact ⟨h.mono (by decide), g.mono (by decide), zo1.mono (by decide)⟩
  · rcases List.mem_cons.mp hp with rfl | hp
    · refine ⟨h.mono (by decide), g.mono (by decide), ?_⟩
      dsimp only
      split
      · exact r1
      · exact r2
    · rw [List.mem_singleton] at hp; subst hp
      exact ⟨(h.add y2).mono (by decide), (ha.add y2).mono (by decide), zo1.mono (by decide)⟩
theorem plan_len (t n a l : Rat) : 1 ≤ (plan t n a l).length ∧ (plan t n a l).length ≤ 400 := by
  unfold plan
  split <;> simp
abbrev s_Steering_steer : Stmt := inClass (top 46) 1
abbrev N_Steering_steer : List Str := ["self", "raw", "span", "bound", "shown", "known", "aim", "half"]
theorem sc_Steering_steer : FnScope N_Steering_steer ["self", "raw", "span"] (defScope s_Steering_steer) := ⟨rfl, rfl, rfl, by decide +kernel, rfl, by decide +kernel, by decide +kernel⟩
abbrev ps_Steering_steer : List Str := ["self", "raw", "span"]
theorem ok_steer (S : Stg K C) (ZONE : Cn K mg "ONE" 1 aONE) (ZHALF : Cn K mg "HALF" (1 / 2) aHALF) (F : FnM K C "steer" "Steering.steer" s_Steering_steer ps_Steering_steer f fd)
    (dSteering_error_at : MthY P w K mg base k C "error_at" ["self", "raw"] (spErrAt K C CT) f1 fd1) (dshown_at : DefY P w K mg base k "shown_at" ["course", "t"] (spShownAt K CB) f2 fd2) (dwidth_of : Def P w K mg base k "width_of" ["span"] (spWidth K) f3 fd3)
    (dSteering__plan : Mth P w K mg base k C "_plan" ["self", "raw", "pieces", "aim", "bound", "half"] (spPlan K C) f4 fd4) (dmeet : Def P w K mg base k "meet" ["a", "b"] (spMeet K) f5 fd5) (dsubtract : Def P w K mg base k "subtract" ["a", "b"] (spOp2 K (· - ·)) f6 fd6) (dadd : Def P w K mg base k "add" ["a", "b"] (spOp2 K (· + ·)) f7 fd7)
    (dmiddle_of : Def P w K mg base k "middle_of" ["span"] (spMiddle K) f8 fd8) (dmultiply : Def P w K mg base k "multiply" ["a", "b"] (spOp2 K (· * ·)) f9 fd9) (dSteering__jumps_to : Mth P w K mg base k C "_jumps_to" ["self", "aim", "shown"] (spJumps' K C) f10 fd10)
    (d_planned : Def P w K mg base k "_planned" ["raw", "shown", "aim", "slew"] (spPlanned K) f11 fd11) (dfar_end : Def P w K mg base k "far_end" ["span", "t"] (spFar K) f12 fd12) : MthY P w K mg base (k + 1) C "steer" ps_Steering_steer (spSteer K C CT) f fd := by
  refine ⟨okY F.F sc_Steering_steer (fun vs H Q E h => ?_) (fun cdv A outer s H vs Q E hr h => ?_), S.c, F.m, F.b⟩
  · obtain ⟨_, _, _, _, _, _, _, rfl, _⟩ := h
    rfl
  obtain ⟨o, y, xp, r, t, n, os, rfl, ⟨dx, x, ho, G⟩, hy, hos, zt, zla, zbd, zhf, zsl, zdr, z, e⟩ := h
  obtain ⟨l1, l2, l3, l4, l5, l6, l7, l8⟩ := sgf_at x
  obtain ⟨no1, no2, no3, no4, no5, no6⟩ := sgf_no x
  refine ⟨_, (pss_cons (ps_set (i := 3) sc_Steering_steer.nd rfl (Or.inl rfl) (pmethY dSteering_error_at hr (L2N.takes_of rfl rfl rfl rfl) (pv 0) (pa_cons (pv 1) pa_nil)))
      (pss_cons (ps_set (i := 4) sc_Steering_steer.nd rfl (Or.inl rfl) (pcallY dshown_at hr (L2N.takes_of rfl rfl rfl rfl) (pa_cons (pe_fld (pv 0) rfl) (pa_cons (pv 1) pa_nil))))
      (pss_cons (ps_if (PW.pt (pw_or (pt_cmpR op_isN (pv 2) pe_non (nomark _)) (pw_or1 (pt_cmpR op_isN (pcall dwidth_of hr (pa_cons (pv 2) pa_nil)) pe_non (nomark _)))))
        (pss_cons (ps_expr (pmeth dSteering__plan hr (pv 0) (pa_cons (pv 1) (pa_cons (pe_lst (pa_cons (pe_tup (pa_cons (pv 1) (pa_cons (pv 4) (pa_cons (pe_glob (v := .ref aONE) (u := .ref aONE) (by rfl) ZONE.m rfl) pa_nil)))) pa_nil)) (pa_cons pe_non (pa_cons (pv 3) (pa_cons (pv 3) pa_nil)))))))
        (pss_one ps_retN))
        pss_nil)
      (pss_cons (ps_set (i := 5) sc_Steering_steer.nd rfl (Or.inl rfl) (pcall dmeet hr (pa_cons (pv 2) (pa_cons (pe_tup (pa_cons (pcall dsubtract hr (pa_cons (pv 4) (pa_cons (pv 3) pa_nil))) (pa_cons (pcall dadd hr (pa_cons (pv 4) (pa_cons (pv 3) pa_nil))) pa_nil))) pa_nil))))
      (pss_cons (ps_if (pt_cmpR op_isN (pv 5) pe_non (nomark _))
        (pss_one (ps_set (i := 5) sc_Steering_steer.nd rfl (Or.inl rfl) (pv 2)))
        pss_nil)
      (pss_cons (ps_set (i := 6) sc_Steering_steer.nd rfl (Or.inl rfl) (pcall dmiddle_of hr (pa_cons (pv 5) pa_nil)))
      (pss_cons (ps_set (i := 7) sc_Steering_steer.nd rfl (Or.inl rfl) (pcall dmultiply hr (pa_cons (pcall dwidth_of hr (pa_cons (pv 5) pa_nil)) (pa_cons (pe_glob (v := .ref aHALF) (u := .ref aHALF) (by rfl) ZHALF.m rfl) pa_nil))))
      (pss_one (ps_if (pt_val (pmeth dSteering__jumps_to hr (pv 0) (pa_cons (pv 6) (pa_cons (pv 4) pa_nil))))
        (pss_one (ps_expr (pmeth dSteering__plan hr (pv 0) (pa_cons (pv 1) (pa_cons (pe_lst (pa_cons (pe_tup (pa_cons (pv 1) (pa_cons (pv 6) (pa_cons (pe_glob (v := .ref aONE) (u := .ref aONE) (by rfl) ZONE.m rfl) pa_nil)))) pa_nil)) (pa_cons (pv 6) (pa_cons (pv 7) (pa_cons (pv 7) pa_nil))))))))
        (pss_one (ps_expr (pmeth dSteering__plan hr (pv 0) (pa_cons (pv 1) (pa_cons (pcall d_planned hr (pa_cons (pv 1) (pa_cons (pv 4) (pa_cons (pv 6) (pa_cons (pe_fld (pv 0) rfl) pa_nil))))) (pa_cons (pv 6) (pa_cons (pcall dfar_end hr (pa_cons (pv 5) (pa_cons (pv 4) pa_nil))) (pa_cons (pv 7) pa_nil))))))))))))))))), ?_⟩
  refine ⟨_, rfl, o, dx, _, rfl, ho, no3, _, rfl, o, y, r, t, 700, rfl, ⟨dx, x, ho, G⟩, hy, zt, zla, zbd, zhf, zsl.mono (by decide), zdr.mono (by decide), by decide, fun c1 => ?_, fun c => e c⟩
  obtain ⟨st, z⟩ := z c1
  intro vb H1 e1 hb
  have ho1 := e1 _ _ ho
  have hy1 := hy.same e1
  refine ⟨_, rfl, o, C, dx, _, _, rfl, ho1, S.c, S.n4, l4, _, rfl, x.l, y, r.c, t, 2162, 2162, 62, 700, rfl, (G.same e1).cq, hy1, st.cz, zt, st.ok, by decide, by have := st.len; omega, fun q a H2 en e2 hn => ?_, fun en => absurd (st.now.symm.trans en) nofun⟩
  rw [st.now] at en
  cases en
  have e12 := e1.trans e2
  have ho2 := e12 _ _ ho
  have hy2 := hy.same e12
  have hb2 := hb.same e2
  have G2 : SgA K C o H2 r := ⟨dx, x, ho2, G.same e12⟩
  have czt : Cz 2162 2162 62 [(⟨t, n, 1⟩ : Pc)] := fun p hp => by
    rw [List.mem_singleton] at hp; subst hp
    exact ⟨zt.mono (by decide), st.zn.mono (by decide), zo1.mono (by decide)⟩
  have hO : Rq K H2 (.ref aONE) 1 := ZONE.q H2
  have no0 : ∀ (H3 : Hp), Same H2 H3 → strS r t n os = str0 r t n → ∀ (t0 D : Addr), H3 t0 = none → upd H3 t0 (.tup [y, .ref a, .ref aONE]) D = none → ∀ Q' : VK, (∀ H', Fr o H H' → SgA K C o H' (strS r t n os) → Q' .non H') →
      spPlan K C [.ref o, y, .ref D, .non, vb, vb] (upd (upd H3 t0 (.tup [y, .ref a, .ref aONE])) D (.lst [.ref t0])) Q' E0 := fun H3 e3 es t0 D ht hD Q' zz => by
    obtain ⟨sA, cA⟩ := pc1 (K := K) ht hD (hy2.same e3) (hn.same e3) (hO.same e3)
    have e4 := e3.trans sA
    refine ⟨o, D, _, y, .non, vb, vb, r, t, errS r t, errS r t, none, [⟨t, n, 1⟩], 2162, 2162, 62, 700, rfl, G2.same e4, hy2.same e4, cA, rfl, hb2.same e4, hb2.same e4, st.cz, czt, zt, by decide, by decide, by simp, by simp, by have := st.len; omega, fun H' ef g => zz H' ((Fr.of (e12.trans e4)).trans ef) ?_⟩
    rw [es]
    exact g
  cases os with
  | none =>
    cases (show xp = .non from hos)
    refine ⟨_, rfl, rfl, _, rfl, ifT rfl ?_⟩
    refine ⟨_, rfl, o, dx, _, rfl, ho2, no5, _, rfl, _, rfl, _, rfl, sm3, fun t0 ht => ⟨sm1, fun D hD => ?_⟩⟩
    exact ⟨_, rfl, _, rfl, no0 H2 (Same.refl _) rfl t0 D ht hD _ fun H' ef g => z H' ef g⟩
  | some s =>
    have hsp : Spq K H xp s := hos
    have hsp2 := hsp.same e12
    obtain ⟨b, u, v, rfl, hs, hu, hv⟩ := id hsp
    refine ⟨_, rfl, rfl, _, rfl, ifF (dF nofun) ⟨_, rfl, _, s, 700, rfl, hsp2, st.s0 s rfl, by decide, fun vw H3 e3 hw => ?_⟩⟩
    have ho3 := e3 _ _ ho2
    have hw0 : widO s = none → strS r t n (some s) = str0 r t n ∧ vw = .non := fun h => by
      rw [h] at hw
      refine ⟨?_, hw⟩
      obtain ⟨p, q⟩ := s
      cases p with
      | none => rfl
      | some p => cases q with
        | none => rfl
        | some q => cases h
    by_cases hn0 : widO s = none
    · obtain ⟨es, rfl⟩ := hw0 hn0
      refine ⟨rfl, _, rfl, ifT rfl ?_⟩
      refine ⟨_, rfl, o, dx, _, rfl, ho3, no5, _, rfl, _, rfl, _, rfl, sm3, fun t0 ht => ⟨sm1, fun D hD => ?_⟩⟩
      exact ⟨_, rfl, _, rfl, no0 H3 e3 es t0 D ht hD _ fun H' ef g => z H' ef g⟩
    obtain ⟨p, q, rfl⟩ : ∃ p q, s = (some p, some q) := by
      obtain ⟨p, q⟩ := s
      cases p with
      | none => exact absurd rfl hn0
      | some p => cases q with
        | none => exact absurd rfl hn0
        | some q => exact ⟨p, q, rfl⟩
    have hw : Rq K H3 vw (q - p) := hw
    obtain ⟨bw, rfl, _⟩ := id hw
    refine ⟨rfl, _, rfl, ifF (dF nofun) ?_⟩
    have zp : Sz 700 p := (st.s0 _ rfl).1 p rfl
    have zq : Sz 700 q := (st.s0 _ rfl).2 q rfl
    obtain ⟨zk1, zk2, zk3, zk4⟩ := st.s2 p q rfl
    have hn3 := hn.same e3
    have hb3 := hb2.same e3
    have hsp3 := hsp2.same e3
    refine ⟨_, rfl, _, rfl, _, rfl, _, _, n, errS r t, 700, 700, rfl, hn3, hb3, st.zn, st.zb, by decide, fun v1 H4 e4 h4 => ?_⟩
    refine ⟨_, rfl, _, rfl, _, _, n, errS r t, 700, 700, rfl, hn3.same e4, hb3.same e4, st.zn, st.zb, by decide, fun v2 H5 e5 h5 => ⟨sz2, fun t0 ht => ?_⟩⟩
    have sT := same_new ht (.tup [v1, v2])
    have e5' := e5.trans sT
    have hm : Spq K (upd H5 t0 (.tup [v1, v2])) (.ref t0) (some (n - errS r t), some (n + errS r t)) := ⟨t0, v1, v2, rfl, SqT.of upd_same, h4.same e5', h5.same sT⟩
    have e35 := (e3.trans e4).trans e5'
    have hsp5 := hsp2.same e35
    refine ⟨_, _, (some p, some q), (some (n - errS r t), some (n + errS r t)), 1401, rfl, hsp5, hm, ⟨fun q h => by cases h; exact zp.mono (by decide), fun q h => by cases h; exact zq.mono (by decide)⟩, ⟨fun q h => by cases h; exact st.zn.sub st.zb, fun q h => by cases h; exact st.zn.add st.zb⟩, by decide, fun vk H7 e7' hk => ?_⟩
    have e7 := e35.trans e7'
    have hsp7 := hsp2.same e7
    rw [meet_knw] at hk
    clear hm hsp5 hn3 hb3 hsp3 hw h4 h5
    by_cases cr : kHi q n (errS r t) < kLo p n (errS r t)
    · rw [if_pos cr] at hk
      cases (show vk = .non from hk)
      refine ⟨_, rfl, rfl, _, rfl, ifT rfl ⟨_, rfl, ?_⟩⟩
      obtain ⟨u1, u2, ek⟩ : ∃ u1 u2, knw p q n (errS r t) = (u1, u2) := ⟨_, _, rfl⟩
      have eu : (p, q) = (u1, u2) := by rw [← ek]; unfold knw; rw [if_pos cr]
      have hK : Spq K H7 (.ref b) (some u1, some u2) := by cases eu; exact hsp7
      rw [ek] at zk1 zk2 zk3 zk4
      refine ⟨_, rfl, _, u1, u2, 700, rfl, hK, zk1, zk2, by decide, fun v3 H8 e8 h8 => ?_⟩
      refine ⟨_, rfl, _, (some u1, some u2), 700, rfl, hK.same e8, ⟨fun q h => by cases h; exact zk1, fun q h => by cases h; exact zk2⟩, by decide, fun v4 H9 e9 h9 => ?_⟩
      refine ⟨_, _, u2 - u1, 1 / 2, 1401, 2, rfl, h9, ZHALF.q _, zk2.sub zk1, Vk.zhf, by decide, fun v5 H10 e10 h10 => ?_⟩
      have eX := (e8.trans e9).trans e10
      have eY := e7.trans eX
      have G10 := G2.same eY
      have hn10 := hn.same eY
      have hy10 := hy2.same eY
      have ha10 := h8.same (e9.trans e10)
      have hK10 := hK.same eX
      have ho10 := eY _ _ ho2
      refine ⟨_, rfl, o, dx, _, rfl, ho10, no6, _, rfl, _, rfl, o, _, _, r, (u1 + u2) * (1 / 2), n, 700, rfl, G10, ha10, hn10, zk3, st.zn, st.zo, by decide, fun H11 e11 => ?_⟩
      have eZ := eY.trans e11
      have G11 := G10.same e11
      have hn11 := hn10.same e11
      have hy11 := hy10.same e11
      have ha11 := ha10.same e11
      have hK11 := hK10.same e11
      have hh11 := Rq.same e11 h10
      have ho11 := e11 _ _ ho10
      clear G10 hn10 hy10 ha10 hK10 h10 ho10 hK h9 h8
      have z' : ∀ H', Fr o H H' → SgA K C o H' (str2 r t n p q) → Q .non H' := z
      unfold str2 at z'
      rw [ek] at z'
      cases ej : jmpS r ((u1 + u2) * (1 / 2)) n with
      | true =>
        rw [show mid (u1, u2) = (u1 + u2) * (1 / 2) from rfl, show haf (u1, u2) = (u2 - u1) * (1 / 2) from rfl, if_pos ej] at z'
        refine ⟨_, rfl, ifT rfl ?_⟩
        refine ⟨_, rfl, o, dx, _, rfl, ho11, no5, _, rfl, _, rfl, _, rfl, sm3, fun t1 ht1 => ⟨sm1, fun D hD => ?_⟩⟩
        obtain ⟨sA, cA⟩ := pc1 (K := K) ht1 hD hy11 ha11 (ZONE.q H11)
        refine ⟨_, rfl, _, rfl, _, rfl, o, D, _, _, _, _, _, r, t, (u2 - u1) * (1 / 2), (u2 - u1) * (1 / 2), some ((u1 + u2) * (1 / 2)), [⟨t, (u1 + u2) * (1 / 2), 1⟩], 2162, 2162, 62, 700, rfl, G11.same sA, hy11.same sA, cA, ha11.same sA, hh11.same sA, hh11.same sA, st.cz, cz_one zt zk3, zt, by decide, by decide, by simp, by simp, by have := st.len; omega, fun H' ef g => z' H' ((Fr.of ((e12.trans eZ).trans sA)).trans ef) g⟩
      | false =>
        rw [show mid (u1, u2) = (u1 + u2) * (1 / 2) from rfl, show haf (u1, u2) = (u2 - u1) * (1 / 2) from rfl, if_neg (by rw [ej]; decide)] at z'
        refine ⟨_, rfl, ifF rfl ?_⟩
        obtain ⟨dx', x', hq1, hq2⟩ := id G11
        refine ⟨_, rfl, o, dx, _, rfl, ho11, no5, _, rfl, _, rfl, _, rfl, _, rfl, _, rfl, o, C, dx, _, _, rfl, ho11, S.c, S.n1, l1, ?_⟩
        have hsl : Rq K H11 x.vs r.sl := G.sl.same (e12.trans eZ)
        refine ⟨_, _, _, _, t, n, (u1 + u2) * (1 / 2), r.sl, 700, rfl, hy11, hn11, ha11, hsl, zt, st.zn, zk3, zsl.mono (by decide), by decide, st.p1, fun D us HD eD hD cD => ?_⟩
        refine ⟨_, rfl, _, rfl, _, rfl, _, _, u1, u2, n, 700, rfl, hK11.same eD, hn11.same eD, zk1, zk2, st.zn, by decide, fun v6 HE eE hE => ?_⟩
        have eF := eD.trans eE
        have pl := plan_len t n ((u1 + u2) * (1 / 2)) r.sl
        refine ⟨_, rfl, o, D, _, _, _, _, _, r, t, farE u1 u2 n, (u2 - u1) * (1 / 2), some ((u1 + u2) * (1 / 2)), plan t n ((u1 + u2) * (1 / 2)) r.sl, 2162, 2162, 62, 700, rfl, G11.same eF, hy11.same eF, cD.same eE, ha11.same eF, hE, hh11.same eF, st.cz, cz_plan zt st.zn zk3 zsl st.p1, zt, by decide, by decide, pl.1, pl.2, by have := st.len; omega, fun H' ef g => z' H' ((Fr.of ((e12.trans eZ).trans eF)).trans ef) g⟩
    · rw [if_neg cr] at hk
      have hk : Spq K H7 vk (some (kLo p n (errS r t)), some (kHi q n (errS r t))) := hk
      obtain ⟨bk, _, _, rfl, _⟩ := id hk
      refine ⟨_, rfl, rfl, _, rfl, ifF (dF nofun) ?_⟩
      obtain ⟨u1, u2, ek⟩ : ∃ u1 u2, knw p q n (errS r t) = (u1, u2) := ⟨_, _, rfl⟩
      have eu : (kLo p n (errS r t), kHi q n (errS r t)) = (u1, u2) := by rw [← ek]; unfold knw; rw [if_neg cr]
      have hK : Spq K H7 (.ref bk) (some u1, some u2) := by cases eu; exact hk
      rw [ek] at zk1 zk2 zk3 zk4
      refine ⟨_, rfl, _, u1, u2, 700, rfl, hK, zk1, zk2, by decide, fun v3 H8 e8 h8 => ?_⟩
      refine ⟨_, rfl, _, (some u1, some u2), 700, rfl, hK.same e8, ⟨fun q h => by cases h; exact zk1, fun q h => by cases h; exact zk2⟩, by decide, fun v4 H9 e9 h9 => ?_⟩
      refine ⟨_, _, u2 - u1, 1 / 2, 1401, 2, rfl, h9, ZHALF.q _, zk2.sub zk1, Vk.zhf, by decide, fun v5 H10 e10 h10 => ?_⟩
      have eX := (e8.trans e9).trans e10
      have eY := e7.trans eX
      have G10 := G2.same eY
      have hn10 := hn.same eY
      have hy10 := hy2.same eY
      have ha10 := h8.same (e9.trans e10)
      have hK10 := hK.same eX
      have ho10 := eY _ _ ho2
      refine ⟨_, rfl, o, dx, _, rfl, ho10, no6, _, rfl, _, rfl, o, _, _, r, (u1 + u2) * (1 / 2), n, 700, rfl, G10, ha10, hn10, zk3, st.zn, st.zo, by decide, fun H11 e11 => ?_⟩
      have eZ := eY.trans e11
      have G11 := G10.same e11
      have hn11 := hn10.same e11
      have hy11 := hy10.same e11
      have ha11 := ha10.same e11
      have hK11 := hK10.same e11
      have hh11 := Rq.same e11 h10
      have ho11 := e11 _ _ ho10
      clear G10 hn10 hy10 ha10 hK10 h10 ho10 hK h9 h8
      have z' : ∀ H', Fr o H H' → SgA K C o H' (str2 r t n p q) → Q .non H' := z
      unfold str2 at z'
      rw [ek] at z'
      cases ej : jmpS r ((u1 + u2) * (1 / 2)) n with
      | true =>
        rw [show mid (u1, u2) = (u1 + u2) * (1 / 2) from rfl, show haf (u1, u2) = (u2 - u1) * (1 / 2) from rfl, if_pos ej] at z'
        refine ⟨_, rfl, ifT rfl ?_⟩
        refine ⟨_, rfl, o, dx, _, rfl, ho11, no5, _, rfl, _, rfl, _, rfl, sm3, fun t1 ht1 => ⟨sm1, fun D hD => ?_⟩⟩
        obtain ⟨sA, cA⟩ := pc1 (K := K) ht1 hD hy11 ha11 (ZONE.q H11)
        refine ⟨_, rfl, _, rfl, _, rfl, o, D, _, _, _, _, _, r, t, (u2 - u1) * (1 / 2), (u2 - u1) * (1 / 2), some ((u1 + u2) * (1 / 2)), [⟨t, (u1 + u2) * (1 / 2), 1⟩], 2162, 2162, 62, 700, rfl, G11.same sA, hy11.same sA, cA, ha11.same sA, hh11.same sA, hh11.same sA, st.cz, cz_one zt zk3, zt, by decide, by decide, by simp, by simp, by have := st.len; omega, fun H' ef g => z' H' ((Fr.of ((e12.trans eZ).trans sA)).trans ef) g⟩
      | false =>
        rw [show mid (u1, u2) = (u1 + u2) * (1 / 2) from rfl, show haf (u1, u2) = (u2 - u1) * (1 / 2) from rfl, if_neg (by rw [ej]; decide)] at z'
        refine ⟨_, rfl, ifF rfl ?_⟩
        obtain ⟨dx', x', hq1, hq2⟩ := id G11
        refine ⟨_, rfl, o, dx, _, rfl, ho11, no5, _, rfl, _, rfl, _, rfl, _, rfl, _, rfl, o, C, dx, _, _, rfl, ho11, S.c, S.n1, l1, ?_⟩
        have hsl : Rq K H11 x.vs r.sl := G.sl.same (e12.trans eZ)
        refine ⟨_, _, _, _, t, n, (u1 + u2) * (1 / 2), r.sl, 700, rfl, hy11, hn11, ha11, hsl, zt, st.zn, zk3, zsl.mono (by decide), by decide, st.p1, fun D us HD eD hD cD => ?_⟩
        refine ⟨_, rfl, _, rfl, _, rfl, _, _, u1, u2, n, 700, rfl, hK11.same eD, hn11.same eD, zk1, zk2, st.zn, by decide, fun v6 HE eE hE => ?_⟩
        have eF := eD.trans eE
        have pl := plan_len t n ((u1 + u2) * (1 / 2)) r.sl
        refine ⟨_, rfl, o, D, _, _, _, _, _, r, t, farE u1 u2 n, (u2 - u1) * (1 / 2), some ((u1 + u2) * (1 / 2)), plan t n ((u1 + u2) * (1 / 2)) r.sl, 2162, 2162, 62, 700, rfl, G11.same eF, hy11.same eF, cD.same eE, ha11.same eF, hE, hh11.same eF, st.cz, cz_plan zt st.zn zk3 zsl st.p1, zt, by decide, by decide, pl.1, pl.2, by have := st.len; omega, fun H' ef g => z' H' ((Fr.of ((e12.trans eZ).trans eF)).trans ef) g⟩
end Vk


set_option hygiene false in
local macro_rules | `(tactic| walk_at "vk_raw") => `(tactic| ((focus ((repeat first | with_reducible assumption | with_reducible exact upd_same | (with_reducible refine' (upd_ne ?_).trans ?_; with_reducible assumption) | (with_reducible apply sameAt; first | with_reducible assumption | with_reducible exact same_new (by with_reducible assumption) _) | (with_reducible apply Vk.frAt; with_reducible assumption; with_reducible assumption)); done))))
set_option hygiene false in
local macro_rules | `(tactic| walk_at "vk_same") => `(tactic| ((focus ((repeat first | with_reducible assumption | with_reducible exact Same.refl _ | (refine' Same.trans ?_ (same_new (by with_reducible assumption) _)) | (with_reducible refine' same_upd ?_ (by with_reducible assumption) _) | (refine' Same.trans ?_ (by with_reducible assumption))); done))))
set_option hygiene false in
local macro_rules | `(tactic| walk_at "vk_up") => `(tactic| ((first | with_reducible assumption | with_reducible exact same_new (by with_reducible assumption) _)))
set_option hygiene false in
local macro_rules | `(tactic| walk_at "vk_upd") => `(tactic| ((with_reducible refine' same_upd ?_ (by with_reducible assumption) _; (walk_at "vk_same"))))
set_option hygiene false in
local macro_rules | `(tactic| walk_at "vk_sto") => `(tactic| ((focus ((repeat first | with_reducible assumption | (with_reducible apply Sto.same; (walk_at "vk_up"))); done))))
set_option hygiene false in
local macro_rules | `(tactic| walk_at "vk_some") => `(tactic| ((first | with_reducible exact ⟨_, by (walk_at "vk_raw")⟩ | with_reducible exact Sto.some (by (walk_at "vk_sto")))))
set_option hygiene false in
local macro_rules | `(tactic| walk_at "vk_cl") => `(tactic| ((focus ((repeat first | with_reducible assumption | with_reducible exact SqT.of upd_same | with_reducible exact SqL.of upd_same | with_reducible exact optV_rq (by with_reducible assumption) (by with_reducible assumption) | with_reducible exact Ct.cq (by with_reducible assumption) | with_reducible exact rq_ab | (with_reducible apply Vk.Ct.copyq; with_reducible assumption) | (with_reducible apply Vk.Ct.copy; with_reducible assumption) | with_reducible exact rl11000 | with_reducible exact rl91 | with_reducible exact rl32 | with_reducible exact rl301 | with_reducible exact rl72 | with_reducible exact rl160 | with_reducible exact rl13 | with_reducible exact rl73 | with_reducible exact rl15 | with_reducible exact rl11 | with_reducible exact rl12 | with_reducible exact rl01 | with_reducible exact rl1m | with_reducible exact rlnm | with_reducible exact rln1 | with_reducible exact rlh1 | with_reducible exact rl910 | with_reducible exact rl1110 | with_reducible exact rl21 | with_reducible exact rln12 | with_reducible exact rln31 | with_reducible exact rlneg | (with_reducible apply Rq.same; (walk_at "vk_up")) | (with_reducible apply Rq.fr; (first | with_reducible exact Fr.upd _ | with_reducible assumption); (walk_at "vk_some")) | (with_reducible apply Rq.same; (walk_at "vk_upd")) | (with_reducible apply L2.Same.sqt; (walk_at "vk_up")) | (with_reducible apply sqt_fr; (first | with_reducible exact Fr.upd _ | with_reducible assumption); (walk_at "vk_some")) | (with_reducible apply L2.Same.sqt; (walk_at "vk_upd")) | (with_reducible apply L2.Same.seq; (walk_at "vk_up")) | (with_reducible apply seq_fr; (first | with_reducible exact Fr.upd _ | with_reducible assumption); with_reducible assumption) | (with_reducible apply L2.Same.seq; (walk_at "vk_upd")) | (with_reducible apply Pq.same; (walk_at "vk_up")) | (with_reducible apply Pq.fr; (first | with_reducible exact Fr.upd _ | with_reducible assumption); (walk_at "vk_some")) | (with_reducible apply Pq.same; (walk_at "vk_upd")) | (with_reducible apply Cq.same; (walk_at "vk_up")) | (with_reducible apply Cq.fr; (first | with_reducible exact Fr.upd _ | with_reducible assumption); (walk_at "vk_some"); with_reducible assumption) | (with_reducible apply Cq.same; (walk_at "vk_upd")) | (with_reducible apply Ct.same; (walk_at "vk_up")) | (with_reducible apply Ct.fr; (first | with_reducible exact Fr.upd _ | with_reducible assumption); (walk_at "vk_some"); with_reducible assumption) | (with_reducible apply Ct.same; (walk_at "vk_upd")) | (with_reducible apply optV.same; (walk_at "vk_up")) | (with_reducible apply optV.same; (walk_at "vk_upd")) | (with_reducible apply SgA.sm; (walk_at "vk_up")) | (with_reducible apply SgA.sm; (walk_at "vk_upd")) | (with_reducible apply Agv.sm; (walk_at "vk_up")) | (with_reducible apply Agv.frm; (first | with_reducible exact Fr.upd _ | with_reducible assumption); (walk_at "vk_some")) | (with_reducible apply Agv.sm; (walk_at "vk_upd")) | (with_reducible apply Lsv.sm; (walk_at "vk_up")) | (with_reducible apply Lsv.frm; (first | with_reducible exact Fr.upd _ | with_reducible assumption); (walk_at "vk_some")) | (with_reducible apply Lsv.sm; (walk_at "vk_upd")) | (with_reducible apply oSp.same; (walk_at "vk_up")) | (with_reducible apply fr_osp; (first | with_reducible exact Fr.upd _ | with_reducible assumption); (walk_at "vk_some")) | (with_reducible apply oSp.same; (walk_at "vk_upd")) | (with_reducible apply TrnV.sm; (walk_at "vk_up")) | (with_reducible apply TrnV.frm; (first | with_reducible exact Fr.upd _ | with_reducible assumption); (walk_at "vk_some")) | (with_reducible apply TrnV.sm; (walk_at "vk_upd"))); done))))
set_option hygiene false in
local macro_rules | `(tactic| walk_at "vk_sql") => `(tactic| ((first | (walk_at "vk_cl") | (focus (with_reducible apply L2.SqL.of; (walk_at "vk_raw"))))))
set_option hygiene false in
local macro_rules | `(tactic| walk_at "vk_atom") => `(tactic| ((first | with_reducible show Rq _ _ _ _ | with_reducible show SqT _ _ _ _ | with_reducible show SqL _ _ _ _ | with_reducible show Pq _ _ _ _ | with_reducible show Cq _ _ _ _ | with_reducible show Ct _ _ _ _ _ | with_reducible show Cz _ _ _ _ | with_reducible show Cok _ | with_reducible show Sz _ _ | with_reducible show Sto _ _ _ | with_reducible show Fr _ _ _ | with_reducible show Same _ _ | with_reducible show tyV _ _ _ _ | with_reducible show All2 _ _ _ | with_reducible show Gw _ _ _ _ _ _ | with_reducible show L2.Dp _ _ _ _ | with_reducible show L2.DpAll _ _ _ _ | with_reducible show Tree _ _ | with_reducible show optV _ _ _ _ | with_reducible show SgA _ _ _ _ _ | with_reducible show Agv _ _ _ _ _ _ _ _ _ | with_reducible show Lsv _ _ _ _ | with_reducible show oSp _ _ _ _ | with_reducible show TrnV _ _ _ _)))
set_option hygiene false in
local macro_rules | `(tactic| walk_at "vk_formsa") => `(tactic| ((first | with_reducible apply And.intro | ((fail_if_success first | with_reducible show ∃ _ : Nat → Nat → L2.St → Hp → Prop, _ | with_reducible show ∃ _ : Nat → Nat → Hp → Prop, _ | with_reducible show ∃ _ : Nat → L2.St → Hp → Prop, _); with_reducible apply Exists.intro) | (with_reducible refine ifT rfl ?_) | (with_reducible refine ifF rfl ?_) | (with_reducible refine ifT (dT (by with_reducible assumption)) ?_) | (with_reducible refine ifF (dF (by with_reducible assumption)) ?_) | (with_reducible refine ifD (fun gc => ?_) (fun gc => ?_)) | (with_reducible refine ifNF (by first | with_reducible assumption | with_reducible exact rfl) ?_) | (with_reducible refine ifNT (by with_reducible assumption) ?_) | (with_reducible refine ifN (fun gc => ?_) (fun gc => ?_)) | (with_reducible refine ifNF (by first | with_reducible assumption | with_reducible exact rfl) ?_) | ((first | rw [eqv_odp] | rw [eqv_odq]); first | (with_reducible refine ifT (dT (by with_reducible assumption)) ?_) | (with_reducible refine ifNF (by first | with_reducible assumption | with_reducible exact rfl) ?_) | (with_reducible refine ifD (fun gc => ?_) (fun gc => ?_)) | (with_reducible refine ifN (fun gc => ?_) (fun gc => ?_))) | (rw [eqv_dq]; first | (with_reducible refine ifT (dT (by with_reducible assumption)) ?_) | (with_reducible refine ifNF (by first | with_reducible assumption | with_reducible exact rfl) ?_) | (with_reducible refine ifD (fun gc => ?_) (fun gc => ?_)) | (with_reducible refine ifN (fun gc => ?_) (fun gc => ?_))) | (with_reducible refine ifT (by with_reducible assumption) ?_) | (with_reducible refine ifF (by with_reducible assumption) ?_) | (with_reducible refine ifT (by decide +kernel) ?_) | (with_reducible refine ifF (by decide +kernel) ?_) | (with_reducible refine Or.inl (Exists.intro _ (And.intro (rfl : [V.int _] = [V.int _]) ?_))) | ((with_reducible show ∀ p : Addr, _ = none → _); intro p np) | ((with_reducible show ∀ r : Int, ∀ H' : Hp, 0 ≤ r → _ → Sto _ _ H' → _ → _); intro r H' r0 r1 S e) | ((with_reducible show ∀ v : V, ∀ H' : Hp, Qd _ _ _ H' v → _ → _ → _); refine aQd (K := K) fun a q H' h h' zq okq S e => ?_) | ((with_reducible show ∀ H' : Hp, Same _ H' → _); intro H' e) | ((with_reducible show ∀ v : V, ∀ H' : Hp, Same _ H' → optV _ _ _ _ → _); intro v H' e h) | ((with_reducible show ∀ _ : V, ∀ _ : Hp, _ → _); refine aRq (K := K) fun a H' e h h' => ?_) | ((with_reducible show ∀ v : V, Rq _ _ v _ → _); refine aRq0 (K := K) fun a h h' => ?_))))
set_option hygiene false in
local macro_rules | `(tactic| walk_at "vk_forms") => `(tactic| ((first | with_reducible apply And.intro | ((fail_if_success first | with_reducible show ∃ l : Addr, ∃ xs : List V, ∃ y : V, _ = V.ref l ∧ _ = [y] ∧ _ = some (HO.lst xs) ∧ _ | with_reducible show ∃ _ : Nat → Nat → L2.St → Hp → Prop, _ | with_reducible show ∃ _ : Nat → Nat → Hp → Prop, _ | with_reducible show ∃ _ : Nat → L2.St → Hp → Prop, _); with_reducible apply Exists.intro) | (with_reducible refine ifT rfl ?_) | (with_reducible refine ifF rfl ?_) | (with_reducible refine ifT (dT (by with_reducible assumption)) ?_) | (with_reducible refine ifF (dF (by with_reducible assumption)) ?_) | (with_reducible refine ifD (fun gc => ?_) (fun gc => ?_)) | (with_reducible refine ifNF (by first | with_reducible assumption | with_reducible exact rfl) ?_) | (with_reducible refine ifNT (by with_reducible assumption) ?_) | (with_reducible refine ifN (fun gc => ?_) (fun gc => ?_)) | (with_reducible refine ifNF (by first | with_reducible assumption | with_reducible exact rfl) ?_) | ((first | rw [eqv_odp] | rw [eqv_odq]); first | (with_reducible refine ifT (dT (by with_reducible assumption)) ?_) | (with_reducible refine ifNF (by first | with_reducible assumption | with_reducible exact rfl) ?_) | (with_reducible refine ifD (fun gc => ?_) (fun gc => ?_)) | (with_reducible refine ifN (fun gc => ?_) (fun gc => ?_))) | (rw [eqv_dq]; first | (with_reducible refine ifT (dT (by with_reducible assumption)) ?_) | (with_reducible refine ifNF (by first | with_reducible assumption | with_reducible exact rfl) ?_) | (with_reducible refine ifD (fun gc => ?_) (fun gc => ?_)) | (with_reducible refine ifN (fun gc => ?_) (fun gc => ?_))) | (with_reducible refine ifT (by with_reducible assumption) ?_) | (with_reducible refine ifF (by with_reducible assumption) ?_) | (with_reducible refine ifT (by decide +kernel) ?_) | (with_reducible refine ifF (by decide +kernel) ?_) | (with_reducible refine Or.inl (Exists.intro _ (And.intro (rfl : [V.int _] = [V.int _]) ?_))) | ((with_reducible show ∀ p : Addr, _ = none → _); intro p np) | ((with_reducible show ∀ r : Int, ∀ H' : Hp, 0 ≤ r → _ → Sto _ _ H' → _ → _); intro r H' r0 r1 S e) | ((with_reducible show ∀ v : V, ∀ H' : Hp, Qd _ _ _ H' v → _ → _ → _); refine aQd (K := K) fun a q H' h h' zq okq S e => ?_) | ((with_reducible show ∀ H' : Hp, Same _ H' → _); intro H' e) | ((with_reducible show ∀ v : V, ∀ H' : Hp, Same _ H' → optV _ _ _ _ → _); intro v H' e h) | ((with_reducible show ∀ _ : V, ∀ _ : Hp, _ → _); refine aRq (K := K) fun a H' e h h' => ?_) | ((with_reducible show ∀ v : V, Rq _ _ v _ → _); refine aRq0 (K := K) fun a h h' => ?_))))
set_option hygiene false in
local macro_rules | `(tactic| walk_at "vk_va") => `(tactic| (((try dsimp only [cxOf_K, Cx.nox, Cx.wish]); repeat' (show (_ : Prop); first | with_reducible exact rfl | with_reducible assumption | (walk_at "vk_formsa") | ((with_reducible show ∀ d ∈ _, Tree _ d); first | exact treeAll_nil | refine treeAll_cons ?_ ?_) | (with_reducible exact ClsV.ty _) | ((with_reducible show TyX _ _ _ _); first | (apply sql_ty; (walk_at "vk_sql")) | (apply sqt_ty; (walk_at "vk_cl")) | exact .base (.int _)) | ((with_reducible show PySem.W.kitOne _ _ _ = some _); first | exact kit_ty (r := true) (by decide +kernel) | exact kit_ty (r := false) (by decide +kernel)) | ((with_reducible show SeqAt.shaped _ = true); first | with_reducible exact sh_dq _ | with_reducible exact sh_odp _ | decide +kernel) | ((with_reducible show _ = _); first | exact at0 rfl | exact at1 rfl | exact at2 rfl | exact rfl | (walk_at "vk_raw") | assumption) | ((with_reducible show (_ : Addr) ≠ _); (refine' Sto.ne (l := l) ?_ (by with_reducible assumption); (walk_at "vk_sto"))) | (with_reducible exact cdv2) | (with_reducible exact cdv4) | (with_reducible exact cdv8) | ((with_reducible show 0 < List.length _); first | omega | exact Nat.succ_pos _) | ((with_reducible show List.length _ < 2 ^ 32); first | omega | exact Nat.le_of_ble_eq_true rfl) | ((with_reducible show List.length _ ≤ sizeLine); first | exact Nat.zero_le _ | exact sz1 | exact sz2 | exact sz3 | exact sz4 | exact sm5 | exact sm6) | ((with_reducible show List.length _ < sizeLine); exact le1000 (by omega)) | ((with_reducible show _ ≤ _); omega) | ((with_reducible show (_ : Nat) < _); omega) | ((with_reducible show (_ : Int) < _); omega) | ((walk_at "vk_atom"); first | (walk_at "vk_cl") | (focus (with_reducible apply L2.SqL.of; (walk_at "vk_raw"))) | ((with_reducible show tyV _ _ _ _); apply Or.inl; apply And.intro rfl; apply Exists.intro; (walk_at "vk_sql")) | with_reducible exact L2.Dp.str _ | with_reducible exact L2.Dp.int _ | with_reducible exact L2.Dp.non | with_reducible exact L2.Dp.bl _ | (with_reducible apply Rq.dp; (walk_at "vk_cl")) | (with_reducible apply optV.dp; (walk_at "vk_cl")) | (with_reducible apply Vk.Ct.dd; (walk_at "vk_cl")) | (with_reducible apply L2.Dp.tup; (walk_at "vk_cl")) | (with_reducible apply L2.Dp.lst; (walk_at "vk_sql")) | exact tree_dq _ _ | exact Tree.str (by decide +kernel) | exact Tree.int _ | exact Tree.non | exact Tree.bl _ | (refine Tree.tup (Nat.le_of_ble_eq_true rfl) ?_) | with_reducible apply L2.DpAll.cons | with_reducible exact L2.DpAll.nil | with_reducible exact zz1 | with_reducible exact zo1 | with_reducible exact zl12 | with_reducible exact zl1m | with_reducible exact zlnm | with_reducible exact zln1 | with_reducible exact zlh1 | (with_reducible show Sz _ _; refine Sz.mono (by with_reducible assumption) (Nat.le_of_ble_eq_true rfl)) | with_reducible apply Sz.add | with_reducible apply Sz.sub | with_reducible apply Sz.mul | with_reducible apply Sz.neg | ((with_reducible show Sto _ _ _); (focus ((repeat first | with_reducible assumption | (with_reducible apply Sto.same; (walk_at "vk_up"))); done))) | ((with_reducible show Fr _ _ _); (focus ((repeat first | with_reducible assumption | with_reducible exact Fr.refl _ _ | (refine' Fr.trans ?_ (Fr.of (same_new (by with_reducible assumption) _))) | (refine' Fr.trans ?_ (by with_reducible assumption)) | (refine' Fr.trans ?_ (Fr.of (by with_reducible assumption)))); done))) | ((with_reducible show Same _ _); (walk_at "vk_same")) | assumption) | ((with_reducible show L2.SqL _ _ _ _ ∨ L2.SqT _ _ _ _); first | (apply Or.inl; (walk_at "vk_sql")) | (apply Or.inr; (walk_at "vk_cl"))) | ((fail_if_success (walk_at "vk_atom")); (fail_if_success with_reducible show rAppend _ _ _ _); (conv => whnf); first | (walk_at "vk_formsa") | with_reducible exact rfl | with_reducible assumption | ((with_reducible show _ = _); exact rfl)) ))))
set_option hygiene false in
local macro_rules | `(tactic| walk_at "vk_vc") => `(tactic| (((try dsimp only [cxOf_K, Cx.nox, Cx.wish]); repeat' (show (_ : Prop); first | with_reducible exact rfl | with_reducible assumption | (walk_at "vk_forms") | ((with_reducible show ∀ d ∈ _, Tree _ d); first | exact treeAll_nil | refine treeAll_cons ?_ ?_) | (with_reducible exact ClsV.ty _) | ((with_reducible show TyX _ _ _ _); first | (apply sql_ty; (walk_at "vk_sql")) | (apply sqt_ty; (walk_at "vk_cl")) | exact .base (.int _)) | ((with_reducible show PySem.W.kitOne _ _ _ = some _); first | exact kit_ty (r := true) (by decide +kernel) | exact kit_ty (r := false) (by decide +kernel)) | ((with_reducible show SeqAt.shaped _ = true); first | with_reducible exact sh_dq _ | with_reducible exact sh_odp _ | decide +kernel) | ((with_reducible show _ = _); first | exact at0 rfl | exact at1 rfl | exact at2 rfl | exact rfl | (walk_at "vk_raw") | assumption) | ((with_reducible show (_ : Addr) ≠ _); (refine' Sto.ne (l := l) ?_ (by with_reducible assumption); (walk_at "vk_sto"))) | (with_reducible exact cdv2) | (with_reducible exact cdv4) | (with_reducible exact cdv8) | ((with_reducible show 0 < List.length _); first | omega | exact Nat.succ_pos _) | ((with_reducible show List.length _ < 2 ^ 32); first | omega | exact Nat.le_of_ble_eq_true rfl) | ((with_reducible show List.length _ ≤ sizeLine); first | exact Nat.zero_le _ | exact sz1 | exact sz2 | exact sz3 | exact sz4 | exact sm5 | exact sm6) | ((with_reducible show List.length _ < sizeLine); exact le1000 (by omega)) | ((with_reducible show _ ≤ _); omega) | ((with_reducible show (_ : Nat) < _); omega) | ((with_reducible show (_ : Int) < _); omega) | ((walk_at "vk_atom"); first | (walk_at "vk_cl") | (focus (with_reducible apply L2.SqL.of; (walk_at "vk_raw"))) | ((with_reducible show tyV _ _ _ _); apply Or.inl; apply And.intro rfl; apply Exists.intro; (walk_at "vk_sql")) | with_reducible exact L2.Dp.str _ | with_reducible exact L2.Dp.int _ | with_reducible exact L2.Dp.non | with_reducible exact L2.Dp.bl _ | (with_reducible apply Rq.dp; (walk_at "vk_cl")) | (with_reducible apply optV.dp; (walk_at "vk_cl")) | (with_reducible apply Vk.Ct.dd; (walk_at "vk_cl")) | (with_reducible apply L2.Dp.tup; (walk_at "vk_cl")) | (with_reducible apply L2.Dp.lst; (walk_at "vk_sql")) | exact tree_dq _ _ | exact Tree.str (by decide +kernel) | exact Tree.int _ | exact Tree.non | exact Tree.bl _ | (refine Tree.tup (Nat.le_of_ble_eq_true rfl) ?_) | with_reducible apply L2.DpAll.cons | with_reducible exact L2.DpAll.nil | with_reducible exact zz1 | with_reducible exact zo1 | with_reducible exact zl12 | with_reducible exact zl1m | with_reducible exact zlnm | with_reducible exact zln1 | with_reducible exact zlh1 | (with_reducible show Sz _ _; refine Sz.mono (by with_reducible assumption) (Nat.le_of_ble_eq_true rfl)) | with_reducible apply Sz.add | with_reducible apply Sz.sub | with_reducible apply Sz.mul | with_reducible apply Sz.neg | ((with_reducible show Sto _ _ _); (focus ((repeat first | with_reducible assumption | (with_reducible apply Sto.same; (walk_at "vk_up"))); done))) | ((with_reducible show Fr _ _ _); (focus ((repeat first | with_reducible assumption | with_reducible exact Fr.refl _ _ | (refine' Fr.trans ?_ (Fr.of (same_new (by with_reducible assumption) _))) | (refine' Fr.trans ?_ (by with_reducible assumption)) | (refine' Fr.trans ?_ (Fr.of (by with_reducible assumption)))); done))) | ((with_reducible show Same _ _); (walk_at "vk_same")) | assumption) | ((with_reducible show L2.SqL _ _ _ _ ∨ L2.SqT _ _ _ _); first | (apply Or.inl; (walk_at "vk_sql")) | (apply Or.inr; (walk_at "vk_cl"))) | ((fail_if_success (walk_at "vk_atom")); (fail_if_success with_reducible show rAppend _ _ _ _); (conv => whnf); first | (walk_at "vk_forms") | with_reducible exact rfl | with_reducible assumption | ((with_reducible show _ = _); exact rfl)) ))))
set_option hygiene false in
local macro_rules | `(tactic| walk_at "vk_fr") => `(tactic| ((focus ((repeat first | with_reducible assumption | with_reducible exact Fr.refl _ _ | (refine' Fr.trans ?_ (Fr.of (same_new (by with_reducible assumption) _))) | (refine' Fr.trans ?_ (by with_reducible assumption)) | (refine' Fr.trans ?_ (Fr.of (by with_reducible assumption)))); done))))
set_option maxHeartbeats 4000000
namespace Vk
open PySem L2 Vm Vl Vs
variable {l aZERO aONE aHALF C CB CR CT CV fB fR fT : Addr} {P : Program} {w : World} {K : PySem.W.Frag} {mg : Str → Option Value} {base : Heap} {k : Nat} {f f1 f2 f3 f4 f5 f6 f7 f8 f9 f10 f11 f12 : Addr} {fd fd1 fd2 fd3 fd4 fd5 fd6 fd7 fd8 fd9 fd10 fd11 fd12 : FuncData}
def SlOk2 (s d : Rat) : Prop := 0 < s ∧ s < 1 ∧ 0 ≤ d ∧ d < s
def spSl2 (K : PySem.W.Frag) (l : Addr) : Sp := fun vs H Q _ => ∃ (s : Addr), vs = [.ref s] ∧ Sto l s H ∧ ∀ (v : V) H', Sl K 24 SlOk2 H' v → Sto l s H' → Fr s H H' → Q v H'

end Vk
set_option maxHeartbeats 4000000
namespace Vk
open PySem L2 Vm Vl Vs
variable {l aZERO aONE aHALF C CB CR CT CV fB fR fT : Addr} {P : Program} {w : World} {K : PySem.W.Frag} {mg : Str → Option Value} {base : Heap} {k : Nat} {f f1 f2 f3 f4 f5 f6 f7 f8 f9 f10 f11 f12 : Addr} {fd fd1 fd2 fd3 fd4 fd5 fd6 fd7 fd8 fd9 fd10 fd11 fd12 : FuncData}
theorem rq_raw {H : Hp} {t : Addr} {i j : Int} (q : Rat) (h : H t = some (.tup [.int i, .int j])) (e1 : q.num = i) (e2 : (q.den : Int) = j) : Rq K H (.ref t) q := by
  subst e1
  subst e2
  exact ⟨t, rfl, SqT.of h⟩
theorem rq_raw_fr {s : Addr} {G0 G : Hp} {t : Addr} {i j : Int} (q : Rat) (e : Fr s G0 G) (hs : Sto l s G0) (h : G0 t = some (.tup [.int i, .int j])) (e1 : q.num = i) (e2 : (q.den : Int) = j) : Rq K G (.ref t) q := Rq.fr e hs.some (rq_raw q h e1 e2)
def spOver (K : PySem.W.Frag) (l : Addr) : Sp := fun vs H Q _ => ∃ (s : Addr), vs = [.ref s] ∧ Sto l s H ∧ ∀ (v : V) H' (ov : Option Rat), optV K H' v ov → OSz 5 ov → (∀ q, ov = some q → 0 ≤ q) → Sto l s H' → Fr s H H' → Q v H'
abbrev s__law_over_step : Stmt := top 66
abbrev N__law_over_step : List Str := ["_law_store_here"]
theorem sc__law_over_step : FnScope N__law_over_step ["_law_store_here"] (defScope s__law_over_step) := ⟨rfl, rfl, rfl, by decide +kernel, rfl, by decide +kernel, by decide +kernel⟩
abbrev ps__law_over_step : List Str := ["_law_store_here"]
theorem ok_over_step (F : Fn K mg "_law_over_step" s__law_over_step ps__law_over_step f fd) (d_law_above : Def P w K mg base k "_law_above" ["_law_store_here"] (spDraw K l 5 ge6) f1 fd1) (d_law_pick : Def P w K mg base k "_law_pick" ["_law_store_here", "_law_things"] (spPick K l) f2 fd2) :
    Def P w K mg base (k + 1) "_law_over_step" ps__law_over_step (spOver K l) f fd := by
  refine ⟨F.F.ok sc__law_over_step (fun vs H Q E h => ?_) (fun cdv A outer s H vs Q E hr h => ?_), F.m, F.F.kp, F.b⟩
  · obtain ⟨_, rfl, _⟩ := h
    rfl
  obtain ⟨s, rfl, hS, z⟩ := h
  refine ⟨_, (pss_one (ps_ret (pcall d_law_pick hr (pa_cons (pv 0) (pa_cons (pe_lst (pa_cons pe_non (pa_cons pe_non (pa_cons (pe_tup (pa_cons pe_int (pa_cons pe_int pa_nil))) (pa_cons (pcall d_law_above hr (pa_cons (pv 0) pa_nil)) pa_nil))))) pa_nil))))), ?_⟩
  (walk_at "vk_vc")
  intro v G hv S2 e2
  have eG : Fr s H G := by focus (walk_at "vk_fr")
  simp only [List.mem_cons, List.not_mem_nil, or_false] at hv
  have n1 : OSz 5 none := nofun
  rcases hv with rfl | rfl | hv | rfl
  · exact z _ _ none rfl n1 nofun S2 eG
  · exact z _ _ none rfl n1 nofun S2 eG
  · have hr : Rq K G v 0 := by clear eG; rw [hv]; (walk_at "vk_cl")
    refine z _ _ (some 0) hr (fun q h => by cases h; decide +kernel) (fun q h => by cases h; exact Rat.le_refl) S2 eG
  · have hr : Rq K G (.ref a) q := by clear eG; (walk_at "vk_cl")
    exact z _ _ (some q) hr (fun q' h => by cases h; exact zq) (fun q' h => by cases h; exact Rat.le_trans (by decide +kernel) (show mkRat 1 6 ≤ q from okq)) S2 eG
/-- the arguments -/
structure Ag where
  r : Rat
  s : Rat
  e : Rat
  l : Rat
  d : Rat
  ov : Option Rat
structure Agv (K : PySem.W.Frag) (H : Hp) (v0 v1 v2 v3 v4 v5 : V) (x : Ag) : Prop where
  r : Rq K H v0 x.r
  s : Rq K H v1 x.s
  e : Rq K H v2 x.e
  l : Rq K H v3 x.l
  d : Rq K H v4 x.d
  ov : optV K H v5 x.ov
structure AgOk (x : Ag) : Prop where
  zr : Sz 20 x.r
  zs : Sz 26 x.s
  ze : Sz 120 x.e
  zl : Sz 24 x.l
  zd : Sz 24 x.d
  zo : OSz 200 x.ov
  e0 : 0 ≤ x.e
  l0 : 0 < x.l
  l1 : x.l < 1
  d0 : 0 ≤ x.d
  d1 : x.d < x.l
  o0 : ∀ q, x.ov = some q → 0 ≤ q
theorem Agv.same {H H' : Hp} {v0 v1 v2 v3 v4 v5 : V} {x : Ag} (h : Agv K H v0 v1 v2 v3 v4 v5 x) (e : Same H H') : Agv K H' v0 v1 v2 v3 v4 v5 x := ⟨h.r.same e, h.s.same e, h.e.same e, h.l.same e, h.d.same e, h.ov.same e⟩
theorem Agv.fr {s : Addr} {H H' : Hp} {v0 v1 v2 v3 v4 v5 : V} {x : Ag} (h : Agv K H v0 v1 v2 v3 v4 v5 x) (e : Fr s H H') (hs : ∃ ys, H s = some (.lst ys)) : Agv K H' v0 v1 v2 v3 v4 v5 x := ⟨h.r.fr e hs, h.s.fr e hs, h.e.fr e hs, h.l.fr e hs, h.d.fr e hs, h.ov.fr e hs⟩
theorem Agv.frI {s : Addr} {H H' : Hp} {v0 v1 v2 v3 v4 v5 : V} {x : Ag} (h : Agv K H v0 v1 v2 v3 v4 v5 x) (e : Fr s H H') (hs : ∃ C d fs, H s = some (.ins C d fs)) : Agv K H' v0 v1 v2 v3 v4 v5 x := ⟨frI_rq e hs h.r, frI_rq e hs h.s, frI_rq e hs h.e, frI_rq e hs h.l, frI_rq e hs h.d, frI_opt e hs h.ov⟩
def spBegin (K : PySem.W.Frag) (l : Addr) : Sp := fun vs H Q _ => ∃ (s : Addr), vs = [.ref s] ∧ Sto l s H ∧ ∀ (D : Addr) H' (v0 v1 v2 v3 v4 v5 : V) (x : Ag), H' D = some (.lst [v0, v1, v2, v3, v4, v5]) → H D = none → Agv K H' v0 v1 v2 v3 v4 v5 x → AgOk x → Sto l s H' → Fr s H H' → Q (.ref D) H'
end Vk
set_option maxHeartbeats 4000000
namespace Vk
open PySem L2 Vm Vl Vs
variable {l aZERO aONE aHALF aDR C CB CR CT CV fB fR fT : Addr} {P : Program} {w : World} {K : PySem.W.Frag} {mg : Str → Option Value} {base : Heap} {k : Nat} {f f1 f2 f3 f4 f5 f6 f7 f8 f9 f10 f11 f12 : Addr} {fd fd1 fd2 fd3 fd4 fd5 fd6 fd7 fd8 fd9 fd10 fd11 fd12 : FuncData}
def sr0 (x : Ag) : Sr := ⟨x.l, x.d, x.ov, [⟨x.r, x.s, 1⟩], none, x.r, x.e, x.e⟩
def spMade (K : PySem.W.Frag) (C : Addr) : Sp := fun vs H Q _ => ∃ (D : Addr) (v0 v1 v2 v3 v4 v5 : V) (x : Ag), vs = [.ref D] ∧ H D = some (.lst [v0, v1, v2, v3, v4, v5]) ∧ Agv K H v0 v1 v2 v3 v4 v5 x ∧ AgOk x ∧ ∀ o H', Same H H' → H o = none → SgA K C o H' (sr0 x) → Q (.ref o) H'
end Vk
set_option maxHeartbeats 4000000
namespace Vk
open PySem L2 Vm Vl Vs
variable {l aZERO aONE aHALF aDR C CB CR CT CV fB fR fT : Addr} {P : Program} {w : World} {K : PySem.W.Frag} {mg : Str → Option Value} {base : Heap} {k : Nat} {f f1 f2 f3 f4 f5 f6 f7 f8 f9 f10 f11 f12 : Addr} {fd fd1 fd2 fd3 fd4 fd5 fd6 fd7 fd8 fd9 fd10 fd11 fd12 : FuncData}
theorem nowf_next {c : List Pc} {t : Rat} {i : Nat} {p : Pc} (e : c[i]? = some p) : nowf (c.take (i + 1)) t = if t < p.s then nowf (c.take i) t else some (vl t p) := by
  rw [now_pc, now_pc]
  unfold pcAt
  rw [List.take_add_one, e, Option.toList_some, List.filter_append]
  by_cases h : t < p.s
  · have : [p].filter (on t) = [] := by simp [on, h]
    rw [this, List.append_nil, if_pos h]
  · have : [p].filter (on t) = [p] := by simp [on, h]
    rw [this, if_neg h, List.getLast?_append]
    rfl
def spLShown (K : PySem.W.Frag) : Sp := fun vs H Q _ => ∃ (a : Addr) (y : V) (c : List Pc) (t : Rat) (i j l m : Nat), vs = [.ref a, y] ∧ Cq K H a c ∧ Rq K H y t ∧ Cz i j l c ∧ Sz m t ∧ j + l + m + i + 3 ≤ 9000 ∧ ∀ v H', Same H H' → optV K H' v (nowf c t) → Q v H'
/-- the law's own state -/
structure Ls where
  ra : Rat
  no : Rat
  pa : Rat
  le : Rat
  bo : Rat
  ha : Option Rat
def Lsv (K : PySem.W.Frag) (H : Hp) (v : V) (x : Ls) : Prop := ∃ a w0 w1 w2 w3 w4 w5, v = .ref a ∧ SqT K H a [w0, w1, w2, w3, w4, w5] ∧ Rq K H w0 x.ra ∧ Rq K H w1 x.no ∧ Rq K H w2 x.pa ∧ Rq K H w3 x.le ∧ Rq K H w4 x.bo ∧ optV K H w5 x.ha
theorem Lsv.same {H H' : Hp} {v : V} {x : Ls} (h : Lsv K H v x) (e : Same H H') : Lsv K H' v x := by
  obtain ⟨a, w0, w1, w2, w3, w4, w5, rfl, h, h0, h1, h2, h3, h4, h5⟩ := h
  exact ⟨a, w0, w1, w2, w3, w4, w5, rfl, e.sqt h, h0.same e, h1.same e, h2.same e, h3.same e, h4.same e, h5.same e⟩
theorem Lsv.fr {s : Addr} {H H' : Hp} {v : V} {x : Ls} (h : Lsv K H v x) (e : Fr s H H') (hs : ∃ ys, H s = some (.lst ys)) : Lsv K H' v x := by
  obtain ⟨a, w0, w1, w2, w3, w4, w5, rfl, h, h0, h1, h2, h3, h4, h5⟩ := h
  exact ⟨a, w0, w1, w2, w3, w4, w5, rfl, sqt_fr e hs h, h0.fr e hs, h1.fr e hs, h2.fr e hs, h3.fr e hs, h4.fr e hs, h5.fr e hs⟩
theorem Lsv.frI {s : Addr} {H H' : Hp} {v : V} {x : Ls} (h : Lsv K H v x) (e : Fr s H H') (hs : ∃ C d fs, H s = some (.ins C d fs)) : Lsv K H' v x := by
  obtain ⟨a, w0, w1, w2, w3, w4, w5, rfl, h, h0, h1, h2, h3, h4, h5⟩ := h
  exact ⟨a, w0, w1, w2, w3, w4, w5, rfl, frI_sqt e hs h, frI_rq e hs h0, frI_rq e hs h1, frI_rq e hs h2, frI_rq e hs h3, frI_rq e hs h4, frI_opt e hs h5⟩
structure Lsz (m : Nat) (x : Ls) : Prop where
  ra : Sz m x.ra
  no : Sz m x.no
  pa : Sz m x.pa
  le : Sz m x.le
  bo : Sz m x.bo
  ha : OSz m x.ha
def yT (x : Ls) (t : Rat) : Rat := if t - x.ra < x.le then t - x.ra else x.le
def nowT (x : Ls) (t : Rat) : Rat := x.no + x.pa * yT x t + (t - x.ra - yT x t)
def spNowT (K : PySem.W.Frag) : Sp := fun vs H Q _ => ∃ (y v : V) (x : Ls) (t : Rat) (m : Nat), vs = [v, y] ∧ Lsv K H v x ∧ Rq K H y t ∧ Lsz m x ∧ Sz m t ∧ m ≤ 800 ∧ ∀ v H', Same H H' → Rq K H' v (nowT x t) → Q v H'
end Vk
set_option maxHeartbeats 4000000
namespace Vk
open PySem L2 Vm Vl Vs
variable {l aZERO aONE aHALF aDR C CB CR CT CV fB fR fT : Addr} {P : Program} {w : World} {K : PySem.W.Frag} {mg : Str → Option Value} {base : Heap} {k : Nat} {f f1 f2 f3 f4 f5 f6 f7 f8 f9 f10 f11 f12 : Addr} {fd fd1 fd2 fd3 fd4 fd5 fd6 fd7 fd8 fd9 fd10 fd11 fd12 : FuncData}
def bndT (x : Ag) (st : Ls) (t : Rat) : Rat := match st.ha with
  | none => st.bo + x.d * (t - st.ra)
  | some h => x.d * (t - st.ra) + (if st.bo - x.l * (t - st.ra) < h then h else st.bo - x.l * (t - st.ra))
def spBoundT (K : PySem.W.Frag) : Sp := fun vs H Q _ => ∃ (D : Addr) (v0 v1 v2 v3 v4 v5 v y : V) (x : Ag) (st : Ls) (t : Rat) (m : Nat), vs = [.ref D, v, y] ∧ H D = some (.lst [v0, v1, v2, v3, v4, v5]) ∧ Agv K H v0 v1 v2 v3 v4 v5 x ∧ Lsv K H v st ∧ Rq K H y t ∧ Sz 24 x.l ∧ Sz 24 x.d ∧ Lsz m st ∧ Sz m t ∧ m ≤ 800 ∧ ∀ v H', Same H H' → Rq K H' v (bndT x st t) → Q v H'
def bothT (p q u v : Rat) : Option Vs.Spn := if u < p then (if v < p then none else some (some p, some (if q < v then q else v))) else (if q < u then none else some (some u, some (if v < q then v else q)))
def spBothT (K : PySem.W.Frag) : Sp := fun vs H Q _ => ∃ (x y : V) (p q u v : Rat) (m : Nat), vs = [x, y] ∧ Spq K H x (some p, some q) ∧ Spq K H y (some u, some v) ∧ Sz m p ∧ Sz m q ∧ Sz m u ∧ Sz m v ∧ m ≤ 1500 ∧ ∀ v' H', Same H H' → oSp K H' v' (bothT p q u v) → Q v' H'
end Vk
set_option maxHeartbeats 12000000
namespace L2
open PySem PySem.Spec PyProof.Rows
section
variable {X : Cx}
def rInT (K : PySem.W.Frag) : R2 := fun x y H Q => ∃ d ds, Dp K H x d ∧ Dp K H y (.tuple ds) ∧ SeqAt.shaped d = true ∧ SeqAt.shaped (.tuple ds) = true ∧ Q (.bl (ds.any fun z => PyData.eqv z d)) H
theorem op_inT (hu : X.A.units + 65 < cLine) : OpR X (compareOp .In) (rInT X.K) := by
  intro pins s σ H x y v u Q I rx ry h
  obtain ⟨d, ds, hd, he, sd, se, q⟩ := h
  obtain ⟨as, r1⟩ := Dp.reads I d x v hd rx
  obtain ⟨bs, r2⟩ := Dp.reads I (.tuple ds) y u he ry
  exact SeqAt.in_tuple_reads r2 r1 (SeqAt.canLay_of_shaped se) (SeqAt.canLay_of_shaped sd) (room_in_shaped sd hu) ⟨.bl _, H, I, rfl, q⟩
end
end L2
namespace Vk
open PySem L2 Vm Vl Vs
variable {l aZERO aONE aHALF aDR C CB CR CT CV fB fR fT : Addr} {P : Program} {w : World} {K : PySem.W.Frag} {mg : Str → Option Value} {base : Heap} {k : Nat} {f f1 f2 f3 f4 f5 f6 f7 f8 f9 f10 f11 f12 : Addr} {fd fd1 fd2 fd3 fd4 fd5 fd6 fd7 fd8 fd9 fd10 fd11 fd12 : FuncData}
def knT (p q n b : Rat) : Rat × Rat := match bothT p q (n - b) (n + b) with
  | some (some u, some v) => (u, v)
  | _ => (p, q)
def midT (u : Rat × Rat) : Rat := (u.1 + u.2) * mkRat 1 2
def jmpT (x : Ag) (g : Rat) : Bool := match x.ov with
  | none => false
  | some w => decide (w < g)
def pacT (x : Ag) (g : Rat) : Rat := if g = 0 then 1 else 1 + (if 0 < g then x.l else 0 - x.l)
def trn0 (x : Ag) (st : Ls) (t : Rat) : Ls × Option Rat × Bool := (⟨t, nowT st t, 1, 0, bndT x st t, none⟩, none, false)
/-- turned to a span: u the span gone by, n what is shown -/
def trnU (x : Ag) (t n : Rat) (u : Rat × Rat) : Ls × Option Rat × Bool :=
  if jmpT x (midT u - n) = true then (⟨t, midT u, 1, 0, midT u - u.1, some (midT u - u.1)⟩, some (midT u), true)
  else (⟨t, n, pacT x (midT u - n), ab (midT u - n) / x.l, ab (midT u - n) + (midT u - u.1), some (midT u - u.1)⟩, some (midT u), false)
def trn (x : Ag) (st : Ls) (t : Rat) : Option Vs.Spn → Ls × Option Rat × Bool
  | some (some p, some q) => trnU x t (nowT st t) (knT p q (nowT st t) (bndT x st t))
  | _ => trn0 x st t
def TrnV (K : PySem.W.Frag) (H : Hp) (v : V) (r : Ls × Option Rat × Bool) : Prop := ∃ a ws wa, v = .ref a ∧ SqT K H a [ws, wa, .bl r.2.2] ∧ Lsv K H ws r.1 ∧ optV K H wa r.2.1
def spTurned (K : PySem.W.Frag) : Sp := fun vs H Q _ => ∃ (D : Addr) (v0 v1 v2 v3 v4 v5 v y xp : V) (x : Ag) (st : Ls) (t : Rat) (os : Option Vs.Spn), vs = [.ref D, v, y, xp] ∧ H D = some (.lst [v0, v1, v2, v3, v4, v5]) ∧ Agv K H v0 v1 v2 v3 v4 v5 x ∧ Lsv K H v st ∧ Rq K H y t ∧ oSp K H xp os ∧ Sz 24 x.l ∧ Sz 24 x.d ∧ 0 < x.l ∧ OSz 400 x.ov ∧ Lsz 400 st ∧ Sz 400 t ∧ Sz 200 (nowT st t) ∧ Sz 200 (bndT x st t) ∧ (∀ s, os = some s → SSz 401 s) ∧
  ∀ v H', Same H H' → TrnV K H' v (trn x st t os) → Q v H'
theorem trnMk {H : Hp} {a i : Addr} {w0 w1 w2 w3 w4 w5 wa : V} {j : Bool} {r0 r1 r2 r3 r4 : Rat} {r5 am : Option Rat} (h1 : SqT K H a [.ref i, wa, .bl j]) (h2 : SqT K H i [w0, w1, w2, w3, w4, w5]) (g0 : Rq K H w0 r0) (g1 : Rq K H w1 r1) (g2 : Rq K H w2 r2) (g3 : Rq K H w3 r3) (g4 : Rq K H w4 r4) (g5 : optV K H w5 r5) (ga : optV K H wa am) :
    TrnV K H (.ref a) (⟨r0, r1, r2, r3, r4, r5⟩, am, j) := ⟨a, _, _, rfl, h1, ⟨i, w0, w1, w2, w3, w4, w5, rfl, h2, g0, g1, g2, g3, g4, g5⟩, ga⟩
theorem trnMk2 {H : Hp} {a i : Addr} {w0 w1 w2 w3 w4 w5 wa : V} {j : Bool} {r0 r1 r2 r3 r4 r5 am : Rat} (h1 : SqT K H a [.ref i, wa, .bl j]) (h2 : SqT K H i [w0, w1, w2, w3, w4, w5]) (g0 : Rq K H w0 r0) (g1 : Rq K H w1 r1) (g2 : Rq K H w2 r2) (g3 : Rq K H w3 r3) (g4 : Rq K H w4 r4) (g5 : Rq K H w5 r5) (ga : Rq K H wa am) :
    TrnV K H (.ref a) (⟨r0, r1, r2, r3, r4, some r5⟩, some am, j) := ⟨a, _, _, rfl, h1, ⟨i, w0, w1, w2, w3, w4, w5, rfl, h2, g0, g1, g2, g3, g4, g5⟩, ga⟩
theorem both_or (p q u v : Rat) : bothT p q u v = none ∨ ∃ a b, bothT p q u v = some (some a, some b) ∧ (a = p ∨ a = u) ∧ (b = q ∨ b = v) := by
  unfold bothT
  split
  · split
    · exact .inl rfl
    · refine .inr ⟨_, _, rfl, .inl rfl, ?_⟩
      split
      · exact .inl rfl
      · exact .inr rfl
  · split
    · exact .inl rfl
    · refine .inr ⟨_, _, rfl, .inr rfl, ?_⟩
      split
      · exact .inr rfl
      · exact .inl rfl
end Vk
set_option maxHeartbeats 4000000
namespace Vk
open PySem L2 Vm Vl Vs
/-! ### the mathematics of one turn -/
theorem half_eq : (mkRat 1 2 : Rat) = 1 / 2 := by decide +kernel
/-- the two ways to meet agree -/
theorem both_knw {p q n b : Rat} (pq : p ≤ q) (b0 : 0 ≤ b) : (match bothT p q (n - b) (n + b) with | some (some u, some v) => (u, v) | _ => (p, q)) = knw p q n b := by
  unfold bothT knw kLo kHi
  by_cases c1 : n - b < p
  · have hlo : (if n - b ≤ p then p else n - b) = p := if_pos (by grind)
    have hhi : (if q ≤ n + b then q else n + b) = (if q < n + b then q else n + b) := by
      by_cases c : q < n + b
      · rw [if_pos c, if_pos (by grind)]
      · rw [if_neg c]
        by_cases c4 : q ≤ n + b
        · rw [if_pos c4]; grind
        · rw [if_neg c4]
    rw [if_pos c1, hlo, hhi]
    by_cases c2 : n + b < p
    · have h : (if q < n + b then q else n + b) < p := by split <;> grind
      rw [if_pos c2, if_pos h]
    · have h : ¬ (if q < n + b then q else n + b) < p := by split <;> grind
      rw [if_neg c2, if_neg h]
  · have hlo : (if n - b ≤ p then p else n - b) = n - b := by
      by_cases c : n - b ≤ p
      · rw [if_pos c]; grind
      · rw [if_neg c]
    have hhi : (if q ≤ n + b then q else n + b) = (if n + b < q then n + b else q) := by
      by_cases c : q ≤ n + b
      · rw [if_pos c, if_neg (by grind)]
      · rw [if_neg c, if_pos (by grind)]
    rw [if_neg c1, hlo, hhi]
    by_cases c2 : q < n - b
    · have h : (if n + b < q then n + b else q) < n - b := by split <;> grind
      rw [if_pos c2, if_pos h]
    · have h : ¬ (if n + b < q then n + b else q) < n - b := by split <;> grind
      rw [if_neg c2, if_neg h]
theorem ab_nn (q : Rat) : 0 ≤ ab q := by unfold ab; split <;> grind
theorem far_eq {u v n : Rat} (h : u ≤ v) : farE u v n = ab ((u + v) * (1 / 2) - n) + ((u + v) * (1 / 2) - u) := by
  unfold farE ab
  split <;> split <;> split <;> (try split) <;> grind
theorem knw_le {p q n b : Rat} (pq : p ≤ q) : (knw p q n b).1 ≤ (knw p q n b).2 := by
  unfold knw
  split
  · exact pq
  · show kLo p n b ≤ kHi q n b; grind
/-- the course that the law waits for -/
def dueC (x : Ag) (st : Ls) (j : Bool) : List Pc :=
  if j = false ∧ st.le = 0 then [⟨x.r, x.s, 1⟩]
  else (if st.ra = x.r then [] else [⟨x.r, x.s, 1⟩]) ++ (⟨st.ra, st.no, st.pa⟩ :: if j = true then [] else [⟨st.ra + st.le, nowT st (st.ra + st.le), 1⟩])
end Vk
set_option maxHeartbeats 4000000
namespace Vk
open PySem L2 Vm Vl Vs
theorem knT_eq {p q n b : Rat} (pq : p ≤ q) (b0 : 0 ≤ b) : knT p q n b = knw p q n b := both_knw pq b0
theorem midT_eq (u : Rat × Rat) : midT u = mid u := by unfold midT mid; rw [half_eq]
theorem haf_eq (u : Rat × Rat) : midT u - u.1 = haf u := by rw [midT_eq]; unfold mid haf; grind
/-- the first state -/
def ls0 (x : Ag) : Ls := ⟨x.r, x.s, 1, 0, x.e, none⟩
theorem now_ls0 {x : Ag} {t : Rat} (h : x.r ≤ t) : nowT (ls0 x) t = x.s + (t - x.r) := by
  unfold nowT yT ls0
  dsimp only
  rw [if_neg (by grind)]
  grind
theorem nowf_sr0 {x : Ag} {t : Rat} (h : x.r ≤ t) : nowf (sr0 x).c t = some (nowT (ls0 x) t) := by
  rw [now_ls0 h]
  have e := nowf_next (c := [(⟨x.r, x.s, 1⟩ : Pc)]) (t := t) (i := 0) rfl
  rw [if_neg (Rat.not_lt.mpr h)] at e
  have e2 : nowf [(⟨x.r, x.s, 1⟩ : Pc)] t = some (vl t ⟨x.r, x.s, 1⟩) := e
  show nowf [(⟨x.r, x.s, 1⟩ : Pc)] t = _
  rw [e2]
  unfold vl
  congr 1
  grind
theorem err_ls0 {x : Ag} {t : Rat} (h : x.r ≤ t) (l0 : 0 < x.l) : errS (sr0 x) t = bndT x (ls0 x) t := by
  have hm : 0 ≤ x.l * (t - x.r) := mul_nn (by grind) (by grind)
  unfold errS nextB bndT sr0 ls0
  dsimp only
  split <;> grind
theorem err_turn0 {x : Ag} {t t' n : Rat} (h : x.r ≤ t) (h' : t ≤ t') (l0 : 0 < x.l) : errS (str0 (sr0 x) t n) t' = bndT x (trn0 x (ls0 x) t).1 t' := by
  have hm : 0 ≤ x.l * (t' - t) := mul_nn (by grind) (by grind)
  have e := err_ls0 h l0
  show nextB ⟨errS (sr0 x) t, errS (sr0 x) t, t' - t, x.l, x.d⟩ (errS (sr0 x) t) = bndT x (ls0 x) t + x.d * (t' - t)
  rw [e]
  unfold nextB
  dsimp only
  split <;> grind
theorem jmp_eq {x : Ag} {a n : Rat} : jmpS (sr0 x) a n = jmpT x (a - n) := rfl
theorem err_turn2 {x : Ag} {t t' n p q : Rat} (pq : p ≤ q) : errS (str2 (sr0 x) t n p q) t' = bndT x (trnU x t n (knw p q n (errS (sr0 x) t))).1 t' := by
  have hu := knw_le (n := n) (b := errS (sr0 x) t) pq
  unfold str2 trnU
  generalize knw p q n (errS (sr0 x) t) = u at hu ⊢
  have em : mid u = midT u := (midT_eq u).symm
  have eh : haf u = midT u - u.1 := (haf_eq u).symm
  have ef : farE u.1 u.2 n = ab (midT u - n) + (midT u - u.1) := by
    rw [far_eq hu, midT_eq]; rfl
  rw [em, eh, ef, jmp_eq]
  by_cases c : jmpT x (midT u - n) = true
  · rw [if_pos c, if_pos c]
    show nextB ⟨_, _, t' - t, x.l, x.d⟩ _ = x.d * (t' - t) + _
    unfold nextB
    dsimp only
    split <;> split <;> grind
  · rw [if_neg c, if_neg c]
    show nextB ⟨_, _, t' - t, x.l, x.d⟩ _ = x.d * (t' - t) + _
    unfold nextB
    dsimp only
    split <;> split <;> grind
theorem aim_turn2 {x : Ag} {t n p q : Rat} : (str2 (sr0 x) t n p q).aim = (trnU x t n (knw p q n (errS (sr0 x) t))).2.1 := by
  unfold str2 trnU
  generalize knw p q n (errS (sr0 x) t) = u
  rw [(midT_eq u).symm, jmp_eq]
  by_cases c : jmpT x (midT u - n) = true
  · rw [if_pos c, if_pos c]
  · rw [if_neg c, if_neg c]
end Vk
set_option maxHeartbeats 4000000
namespace Vk
open PySem L2 Vm Vl Vs
theorem tl1 (p : Pc) : tl [p] = [p] := rfl
theorem tl2 {p q : Pc} (h : ky q ≠ ky p) : tl [p, q] = [p, q] := by
  show p :: tlG (ky p) [q] = _
  simp only [tlG]
  rw [if_neg h]
theorem tl2e {p q : Pc} (h : ky q = ky p) : tl [p, q] = [p] := by
  show p :: tlG (ky p) [q] = _
  simp only [tlG]
  rw [if_pos h]
theorem tl3 {p q r : Pc} (h : ky q ≠ ky p) (g : ky r ≠ ky q) : tl [p, q, r] = [p, q, r] := by
  show p :: tlG (ky p) [q, r] = _
  simp only [tlG]
  rw [if_neg h, if_neg g]
theorem kp1 {p : Pc} {t : Rat} : kp [p] t = if p.s < t then [p] else [] := by
  unfold kp
  by_cases h : p.s < t
  · simp [h]
  · simp [h]
theorem course_turn0 {x : Ag} {t n : Rat} (h : x.r ≤ t) (en : n = x.s + (t - x.r)) : (str0 (sr0 x) t n).c = dueC x (trn0 x (ls0 x) t).1 false := by
  show tl (kp [⟨x.r, x.s, 1⟩] t ++ [⟨t, n, 1⟩]) = _
  have ed : dueC x (trn0 x (ls0 x) t).1 false = [⟨x.r, x.s, 1⟩] := if_pos ⟨rfl, rfl⟩
  rw [kp1, ed]
  dsimp only
  by_cases c : x.r < t
  · rw [if_pos c]
    refine tl2e ?_
    unfold ky
    dsimp only
    rw [en]
    congr 1
    grind
  · rw [if_neg c]
    have : x.r = t := by grind
    show tl [_] = _
    rw [tl1, en, this]
    congr 2
    grind
theorem ab_zero {q : Rat} (h : ab q = 0) : q = 0 := by unfold ab at h; split at h <;> grind
theorem div_zero' {a l : Rat} (l0 : 0 < l) (h : a / l = 0) : a = 0 := by
  have : a = a / l * l := by rw [Rat.div_mul_cancel]; grind
  rw [this, h]; grind
theorem course_turn2 {x : Ag} {t n p q : Rat} (h : x.r ≤ t) (en : n = x.s + (t - x.r)) (l0 : 0 < x.l) (l1 : x.l < 1) (o0 : ∀ q, x.ov = some q → 0 ≤ q) : (str2 (sr0 x) t n p q).c = dueC x (trnU x t n (knw p q n (errS (sr0 x) t))).1 (trnU x t n (knw p q n (errS (sr0 x) t))).2.2 := by
  unfold str2 trnU
  generalize knw p q n (errS (sr0 x) t) = u
  rw [(midT_eq u).symm, jmp_eq]
  generalize ea : midT u = a
  have k1 : ∀ v r, ky ⟨t, v, r⟩ = ky ⟨x.r, x.s, 1⟩ → r = 1 ∧ v = n := fun v r e => by
    unfold ky at e
    have e1 := congrArg Prod.fst e
    have e2 := congrArg Prod.snd e
    dsimp only at e1 e2
    exact ⟨e1, by rw [e1] at e2; grind⟩
  by_cases c : jmpT x (a - n) = true
  · rw [if_pos c, if_pos c]
    obtain ⟨w, ew, cw⟩ : ∃ w, x.ov = some w ∧ w < a - n := by
      unfold jmpT at c
      cases e : x.ov with
      | none => rw [e] at c; cases c
      | some w => rw [e] at c; exact ⟨w, rfl, of_decide_eq_true c⟩
    have w0 := o0 w ew
    show tl (kp [⟨x.r, x.s, 1⟩] t ++ [⟨t, a, 1⟩]) = _
    have ed : dueC x (⟨t, a, 1, 0, a - u.1, some (a - u.1)⟩ : Ls) true = (if t = x.r then [] else [⟨x.r, x.s, 1⟩]) ++ [⟨t, a, 1⟩] := if_neg (by simp)
    dsimp only
    rw [kp1, ed]
    dsimp only
    by_cases d : x.r < t
    · rw [if_pos d, if_neg (show ¬ t = x.r by grind)]
      exact tl2 fun e => by have := (k1 _ _ e).2; grind
    · rw [if_neg d, if_pos (show t = x.r by grind)]
      rfl
  · rw [if_neg c, if_neg c]
    show tl (kp [⟨x.r, x.s, 1⟩] t ++ plan t n a x.l) = dueC x ⟨t, n, pacT x (a - n), ab (a - n) / x.l, ab (a - n) + (a - u.1), some (a - u.1)⟩ false
    rw [kp1]
    dsimp only
    by_cases g : a = n
    · have ez : ab (a - n) / x.l = 0 := by rw [g, show n - n = 0 by grind, show ab 0 = 0 by decide +kernel]; grind
      have ed : dueC x (⟨t, n, pacT x (a - n), ab (a - n) / x.l, ab (a - n) + (a - u.1), some (a - u.1)⟩ : Ls) false = [⟨x.r, x.s, 1⟩] := if_pos ⟨rfl, ez⟩
      have ep : plan t n a x.l = [⟨t, n, 1⟩] := if_pos g
      rw [ed, ep]
      have := course_turn0 h en
      rw [show (str0 (sr0 x) t n).c = tl (kp [⟨x.r, x.s, 1⟩] t ++ [⟨t, n, 1⟩]) from rfl, kp1, show dueC x (trn0 x (ls0 x) t).1 false = [⟨x.r, x.s, 1⟩] from if_pos ⟨rfl, rfl⟩] at this
      exact this
    · have ez : ¬ ab (a - n) / x.l = 0 := fun z => g (by have := ab_zero (div_zero' l0 z); grind)
      have ed : dueC x (⟨t, n, pacT x (a - n), ab (a - n) / x.l, ab (a - n) + (a - u.1), some (a - u.1)⟩ : Ls) false = (if t = x.r then [] else [⟨x.r, x.s, 1⟩]) ++ [⟨t, n, pacT x (a - n)⟩, ⟨t + ab (a - n) / x.l, nowT ⟨t, n, pacT x (a - n), ab (a - n) / x.l, ab (a - n) + (a - u.1), some (a - u.1)⟩ (t + ab (a - n) / x.l), 1⟩] := if_neg fun z => ez z.2
      have ep : plan t n a x.l = [⟨t, n, if n < a then 1 + x.l else 1 - x.l⟩, ⟨t + ab (a - n) / x.l, a + ab (a - n) / x.l, 1⟩] := if_neg g
      have epc : pacT x (a - n) = if n < a then 1 + x.l else 1 - x.l := by
        unfold pacT
        rw [if_neg (show ¬ a - n = 0 by grind)]
        by_cases c2 : n < a
        · rw [if_pos c2, if_pos (show 0 < a - n by grind)]
        · rw [if_neg c2, if_neg (show ¬ 0 < a - n by grind)]; grind
      have hL : x.l * (ab (a - n) / x.l) = ab (a - n) := by rw [Rat.mul_comm, Rat.div_mul_cancel]; grind
      have enow : nowT ⟨t, n, pacT x (a - n), ab (a - n) / x.l, ab (a - n) + (a - u.1), some (a - u.1)⟩ (t + ab (a - n) / x.l) = a + ab (a - n) / x.l := by
        unfold nowT yT
        rw [epc]
        dsimp only
        clear ed ep ez epc k1
        generalize ab (a - n) / x.l = y at hL
        have e1 : t + y - t = y := by grind
        rw [e1, if_neg (show ¬ y < y from Rat.lt_irrefl)]
        by_cases c2 : n < a
        · rw [if_pos c2]
          have e2 : ab (a - n) = a - n := if_neg (by grind)
          rw [e2] at hL
          have e3 : (1 + x.l) * y = y + x.l * y := by grind
          rw [e3, hL]
          grind
        · rw [if_neg c2]
          have e2 : ab (a - n) = -(a - n) := if_pos (by grind)
          rw [e2] at hL
          have e3 : (1 - x.l) * y = y - x.l * y := by grind
          rw [e3, hL]
          grind
      rw [ed, ep, enow, epc]
      have kne : (if n < a then 1 + x.l else 1 - x.l) ≠ 1 := by split <;> grind
      have kb : ∀ s v, ky ⟨s, v, 1⟩ ≠ ky ⟨t, n, if n < a then 1 + x.l else 1 - x.l⟩ := fun s v e => kne (congrArg Prod.fst e).symm
      by_cases d : x.r < t
      · rw [if_pos d, if_neg (show ¬ t = x.r by grind)]
        exact tl3 (fun e => kne (k1 _ _ e).1) (kb _ _)
      · rw [if_neg d, if_pos (show t = x.r by grind)]
        exact tl2 (kb _ _)
end Vk
set_option maxHeartbeats 4000000
namespace Vk
open PySem L2 Vm Vl Vs
variable {l aZERO aONE aHALF aDR C CB CR CT CV fB fR fT : Addr} {P : Program} {w : World} {K : PySem.W.Frag} {mg : Str → Option Value} {base : Heap} {k : Nat} {f f1 f2 f3 f4 f5 f6 f7 f8 f9 f10 f11 f12 : Addr} {fd fd1 fd2 fd3 fd4 fd5 fd6 fd7 fd8 fd9 fd10 fd11 fd12 : FuncData}
def cdat (c : List Pc) : PyData := .list (c.map dpc)
theorem dpall_of' {α : Type} {H : Hp} {R : Hp → V → α → Prop} {d : α → PyData} (hd : ∀ v p, R H v p → Dp K H v (d p)) : ∀ {xs : List V} {c : List α}, All2 (R H) xs c → DpAll K H xs (c.map d)
  | [], [], _ => .nil
  | [], _ :: _, h => absurd h.1 (by simp)
  | _ :: _, [], h => absurd h.1 (by simp)
  | x :: xs, p :: c, h => .cons (hd _ _ (h.2 0 _ _ rfl rfl)) (dpall_of' hd ⟨by have := h.1; simpa using this, fun i x p hx hp => h.2 (i + 1) x p hx hp⟩)
theorem Cq.dd {H : Hp} {a : Addr} {c : List Pc} (h : Cq K H a c) : Dp K H (.ref a) (cdat c) := by
  obtain ⟨xs, hx, hc⟩ := h
  exact .lst hx (dpall_of' (fun _ _ h => Pq.dp h) hc)
theorem tree_c (n : Nat) {c : List Pc} (h : c.length ≤ 900) : Tree (n + 3) (cdat c) := .lst (by rw [List.length_map]; omega) fun d hd => by
  obtain ⟨p, _, rfl⟩ := List.mem_map.mp hd
  exact .tup (by show 3 ≤ 1000; decide) fun d h => by
    rcases List.mem_cons.mp h with rfl | h
    · exact tree_dq _ _
    · rcases List.mem_cons.mp h with rfl | h
      · exact tree_dq _ _
      · rcases List.mem_cons.mp h with rfl | h
        · exact tree_dq _ _
        · cases h
theorem tree_odp (n : Nat) (o : Option Rat) : Tree (n + 1) (odp o) := by
  cases o with
  | none => exact .non
  | some q => exact tree_dq _ _
/-- a steering and the law's own state agree -/
structure Rel (x : Ag) (r : Sr) (st : Ls) (am : Option Rat) (c : List Pc) : Prop where
  eam : r.aim = am
  ec : r.c = c
  ela : r.la = st.ra
  er : ∀ t, st.ra ≤ t → errS r t = bndT x st t
  ok : Cok c
  cz : Cz 2162 2162 62 c
  len : c.length ≤ 300
  zla : Sz 700 r.la
  zbd : Sz 700 r.bd
  zhf : Sz 700 r.hf
  zsl : Sz 60 r.sl
  zdr : Sz 60 r.dr
  zst : Lsz 700 st
  h0 : ∀ t, x.r ≤ t → nowf c t ≠ none
def spAns (K : PySem.W.Frag) (C : Addr) : Sp := fun vs H Q _ => ∃ (D o B Pb : Addr) (v0 v1 v2 v3 v4 v5 v va : V) (ps : List V) (x : Ag) (r : Sr) (st : Ls) (am : Option Rat) (c : List Pc) (ts : List Rat), vs = [.ref D, .ref o, v, va, .ref B, .ref Pb] ∧ H D = some (.lst [v0, v1, v2, v3, v4, v5]) ∧ Agv K H v0 v1 v2 v3 v4 v5 x ∧ Sz 24 x.l ∧ Sz 24 x.d ∧ SgA K C o H r ∧ Lsv K H v st ∧ optV K H va am ∧ Cq K H B c ∧ SqL K H Pb ps ∧ All2 (Rq K H) ps ts ∧
  Rel x r st am c ∧ ts.length ≤ 20 ∧ (∀ t ∈ ts, x.r ≤ t ∧ Sz 700 t) ∧ ∀ H', Same H H' → Q (.bl true) H'
end Vk


set_option maxHeartbeats 4000000
namespace Vk
open PySem L2 Vm Vl Vs
variable {l aZERO aONE aHALF aDR C CB CR CT CV fB fR fT : Addr} {P : Program} {w : World} {K : PySem.W.Frag} {mg : Str → Option Value} {base : Heap} {k : Nat}
theorem now_ne {c : List Pc} {t : Rat} {p : Pc} (h : p ∈ c) (g : p.s ≤ t) : nowf c t ≠ none := by
  rw [now_pc]
  unfold pcAt
  have hm : p ∈ c.filter (on t) := List.mem_filter.mpr ⟨h, by simp [on, Rat.not_lt.mpr g]⟩
  cases e : (c.filter (on t)).getLast? with
  | none => rw [List.getLast?_eq_none_iff] at e; rw [e] at hm; cases hm
  | some q => exact nofun
theorem due_ok {x : Ag} {st : Ls} {j : Bool} (h : x.r ≤ st.ra) (p : 0 < st.pa) (hl : j = false → 0 ≤ st.le) (z : Lsz 350 st) (zp : Sz 62 st.pa) (zr : Sz 20 x.r) (zs : Sz 26 x.s) :
    Cok (dueC x st j) ∧ Cz 2162 2162 62 (dueC x st j) ∧ (dueC x st j).length ≤ 3 ∧ ∀ t, x.r ≤ t → nowf (dueC x st j) t ≠ none := by
  have z1 : Sz 62 (1 : Rat) := zo1.mono (by decide)
  have o1 : (0 : Rat) < 1 := by decide +kernel
  have c0 : Sz 2162 x.r ∧ Sz 2162 x.s ∧ Sz 62 (1 : Rat) := ⟨zr.mono (by decide), zs.mono (by decide), z1⟩
  have c1 : Sz 2162 st.ra ∧ Sz 2162 st.no ∧ Sz 62 st.pa := ⟨z.ra.mono (by decide), z.no.mono (by decide), zp⟩
  have en : nowT st (st.ra + st.le) = st.no + st.pa * st.le := by
    unfold nowT yT
    rw [if_neg (by grind)]
    grind
  have c2 : Sz 2162 (st.ra + st.le) ∧ Sz 2162 (nowT st (st.ra + st.le)) ∧ Sz 62 (1 : Rat) := ⟨(z.ra.add z.le).mono (by decide), by rw [en]; exact (z.no.add (zp.mul z.le)).mono (by decide), z1⟩
  unfold dueC
  by_cases d : j = false ∧ st.le = 0
  · rw [if_pos d]
    refine ⟨cok_of (List.pairwise_singleton _ _) ?_, ?_, by simp, fun t ht => now_ne (p := ⟨x.r, x.s, 1⟩) (by simp) ht⟩
    · intro q hq; rw [List.mem_singleton] at hq; subst hq; exact o1
    · intro q hq; rw [List.mem_singleton] at hq; subst hq; exact c0
  rw [if_neg d]
  cases j with
  | true =>
    rw [if_pos rfl]
    by_cases e : st.ra = x.r
    · rw [if_pos e]
      refine ⟨cok_of (List.pairwise_singleton _ _) ?_, ?_, by simp, fun t ht => now_ne (p := ⟨st.ra, st.no, st.pa⟩) (by simp) (by dsimp only; rw [e]; exact ht)⟩
      · intro q hq; rw [List.nil_append, List.mem_singleton] at hq; subst hq; exact p
      · intro q hq; rw [List.nil_append, List.mem_singleton] at hq; subst hq; exact c1
    · rw [if_neg e]
      refine ⟨cok_of ?_ ?_, ?_, by simp, fun t ht => now_ne (p := ⟨x.r, x.s, 1⟩) (by simp) ht⟩
      · unfold AscP
        simp
        grind
      · intro q hq; simp at hq; rcases hq with rfl | rfl <;> assumption
      · intro q hq; simp at hq; rcases hq with rfl | rfl <;> assumption
  | false =>
    have l0 : 0 < st.le := by have := hl rfl; have : ¬ st.le = 0 := fun h => d ⟨rfl, h⟩; grind
    rw [if_neg (show ¬ (false = true) by decide)]
    by_cases e : st.ra = x.r
    · rw [if_pos e]
      refine ⟨cok_of ?_ ?_, ?_, by simp, fun t ht => now_ne (p := ⟨st.ra, st.no, st.pa⟩) (by simp) (by dsimp only; rw [e]; exact ht)⟩
      · unfold AscP
        simp
        grind
      · intro q hq; simp at hq; rcases hq with rfl | rfl <;> assumption
      · intro q hq; simp at hq; rcases hq with rfl | rfl <;> assumption
    · rw [if_neg e]
      refine ⟨cok_of ?_ ?_, ?_, by simp, fun t ht => now_ne (p := ⟨x.r, x.s, 1⟩) (by simp) ht⟩
      · unfold AscP
        simp
        grind
      · intro q hq; simp at hq; rcases hq with rfl | rfl | rfl <;> assumption
      · intro q hq; simp at hq; rcases hq with rfl | rfl | rfl <;> assumption
/-- the time of the turn and what was drawn for it -/
structure Pt (x : Ag) (t q : Rat) (os : Option Spn) : Prop where
  e : t = x.r + q
  z : Sz 5 q
  q0 : 0 ≤ q
  zs : ∀ s, os = some s → SSz 75 s
  le : ∀ p q, os = some (some p, some q) → p ≤ q
section
variable {x : Ag} {t q : Rat} {os : Option Spn}
theorem Pt.xr (h : Pt x t q os) : x.r ≤ t := by have := h.e; have := h.q0; grind
theorem Pt.zt (h : Pt x t q os) (ok : AgOk x) : Sz 26 t := by rw [h.e]; exact ok.zr.add h.z
theorem Pt.now (h : Pt x t q os) : nowT (ls0 x) t = x.s + q := by rw [now_ls0 h.xr, h.e]; grind
theorem Pt.zn (h : Pt x t q os) (ok : AgOk x) : Sz 32 (nowT (ls0 x) t) := by rw [h.now]; exact ok.zs.add h.z
theorem Pt.bn (h : Pt x t q os) : bndT x (ls0 x) t = x.e + x.d * q := by
  show x.e + x.d * (t - x.r) = _
  rw [h.e]; grind
theorem Pt.zb (h : Pt x t q os) (ok : AgOk x) : Sz 150 (bndT x (ls0 x) t) := by rw [h.bn]; exact ok.ze.add (ok.zd.mul h.z)
theorem Pt.b0 (h : Pt x t q os) (ok : AgOk x) : 0 ≤ bndT x (ls0 x) t := by rw [h.bn]; have := mul_nn ok.d0 h.q0; have := ok.e0; grind
theorem ls0_z (ok : AgOk x) : Lsz 120 (ls0 x) := ⟨ok.zr.mono (by decide), ok.zs.mono (by decide), zo1.mono (by decide), zz1.mono (by decide), ok.ze.mono (by decide), nofun⟩
theorem knw_or (p q n b : Rat) : ((knw p q n b).1 = p ∨ (knw p q n b).1 = n - b) ∧ ((knw p q n b).2 = q ∨ (knw p q n b).2 = n + b) := by
  unfold knw
  split
  · exact ⟨.inl rfl, .inl rfl⟩
  · refine ⟨?_, ?_⟩
    · show kLo p n b = p ∨ kLo p n b = n - b
      unfold kLo; split
      · exact .inl rfl
      · exact .inr rfl
    · show kHi q n b = q ∨ kHi q n b = n + b
      unfold kHi; split
      · exact .inl rfl
      · exact .inr rfl
theorem midT_z {u : Rat × Rat} (h : Sz 75 u.1) (g : Sz 75 u.2) : Sz 153 (midT u) := by rw [midT_eq]; exact (h.add g).mul zhf
theorem haf_z {u : Rat × Rat} (h : Sz 75 u.1) (g : Sz 75 u.2) : Sz 153 (haf u) := (g.sub h).mul zhf
/-- what is said of a turned state -/
structure TrnOk (x : Ag) (t : Rat) (r : Ls × Option Rat × Bool) : Prop where
  ra : r.1.ra = t
  pa : 0 < r.1.pa
  le : 0 ≤ r.1.le
  z : Lsz 350 r.1
  zp : Sz 62 r.1.pa
  zl : Sz 210 r.1.le
  za : OSz 153 r.2.1
theorem trnU_ok {u : Rat × Rat} (ok : AgOk x) (h : Pt x t q os) (z1 : Sz 75 u.1) (z2 : Sz 75 u.2) : TrnOk x t (trnU x t (nowT (ls0 x) t) u) := by
  have zm := midT_z z1 z2
  have zh : Sz 153 (midT u - u.1) := by rw [haf_eq]; exact haf_z z1 z2
  have zt : Sz 26 t := h.zt ok
  have zn := h.zn ok
  have zg : Sz 186 (midT u - nowT (ls0 x) t) := zm.sub zn
  have zl : Sz 210 (ab (midT u - nowT (ls0 x) t) / x.l) := (Vk.Sz.ab zg).div ok.zl ok.l0
  unfold trnU
  split
  · exact ⟨rfl, by show (0 : Rat) < 1; decide +kernel, Rat.le_refl, ⟨zt.mono (by decide), zm.mono (by decide), zo1.mono (by decide), zz1.mono (by decide), zh.mono (by decide), fun q e => by cases e; exact zh.mono (by decide)⟩, zo1.mono (by decide), zz1.mono (by decide), fun q e => by cases e; exact zm⟩
  · have zp : Sz 62 (pacT x (midT u - nowT (ls0 x) t)) ∧ 0 < pacT x (midT u - nowT (ls0 x) t) := by
      have l0 := ok.l0
      have l1 := ok.l1
      unfold pacT
      split
      · exact ⟨zo1.mono (by decide), by decide +kernel⟩
      · split
        · exact ⟨(zo1.add ok.zl).mono (by decide), by grind⟩
        · exact ⟨(zo1.add (zz1.sub ok.zl)).mono (by decide), by grind⟩
    have l2 : 0 ≤ ab (midT u - nowT (ls0 x) t) / x.l := by
      have h1 := ab_nn (midT u - nowT (ls0 x) t)
      have e : ab (midT u - nowT (ls0 x) t) = ab (midT u - nowT (ls0 x) t) / x.l * x.l := by rw [Rat.div_mul_cancel]; have := ok.l0; grind
      rw [e] at h1
      refine Rat.not_lt.mp fun hh => ?_
      have := Rat.mul_lt_mul_of_pos_right hh ok.l0
      grind
    exact ⟨rfl, zp.2, l2, ⟨zt.mono (by decide), zn.mono (by decide), zp.1.mono (by decide), zl.mono (by decide), ((Vk.Sz.ab zg).add zh).mono (by decide), fun q e => by cases e; exact zh.mono (by decide)⟩, zp.1, zl, fun q e => by cases e; exact zm⟩
theorem trn0_ok (ok : AgOk x) (h : Pt x t q os) : TrnOk x t (trn0 x (ls0 x) t) := by
  have zt : Sz 26 t := h.zt ok
  exact ⟨rfl, by show (0 : Rat) < 1; decide +kernel, Rat.le_refl, ⟨zt.mono (by decide), (h.zn ok).mono (by decide), zo1.mono (by decide), zz1.mono (by decide), (h.zb ok).mono (by decide), nofun⟩, zo1.mono (by decide), zz1.mono (by decide), nofun⟩
theorem os_or (os : Option Spn) : (∃ p q, os = some (some p, some q)) ∨ ((∀ x st t, trn x st t os = trn0 x st t) ∧ ∀ r t n, strS r t n os = str0 r t n) := by
  cases os with
  | none => exact .inr ⟨fun _ _ _ => rfl, fun _ _ _ => rfl⟩
  | some s =>
    obtain ⟨p, q⟩ := s
    cases p with
    | none => exact .inr ⟨fun _ _ _ => rfl, fun _ _ _ => rfl⟩
    | some p =>
      cases q with
      | none => exact .inr ⟨fun _ _ _ => rfl, fun _ _ _ => rfl⟩
      | some q => exact .inl ⟨p, q, rfl⟩
theorem rel0 (ok : AgOk x) : Rel x (sr0 x) (ls0 x) none [⟨x.r, x.s, 1⟩] := by
  have d := due_ok (x := x) (st := ls0 x) (j := false) Rat.le_refl (by show (0 : Rat) < 1; decide +kernel) (fun _ => Rat.le_refl) ⟨ok.zr.mono (by decide), ok.zs.mono (by decide), zo1.mono (by decide), zz1.mono (by decide), ok.ze.mono (by decide), nofun⟩ (zo1.mono (by decide)) ok.zr ok.zs
  have e : dueC x (ls0 x) false = [⟨x.r, x.s, 1⟩] := if_pos ⟨rfl, rfl⟩
  rw [e] at d
  exact ⟨rfl, rfl, rfl, fun t ht => err_ls0 ht ok.l0, d.1, d.2.1, by show 1 ≤ 300; decide, ok.zr.mono (by decide), ok.ze.mono (by decide), ok.ze.mono (by decide), ok.zl.mono (by decide), ok.zd.mono (by decide), ⟨ok.zr.mono (by decide), ok.zs.mono (by decide), zo1.mono (by decide), zz1.mono (by decide), ok.ze.mono (by decide), nofun⟩, d.2.2.2⟩
theorem lsz_up {m n : Nat} {st : Ls} (h : Lsz m st) (le : m ≤ n) : Lsz n st := ⟨h.ra.mono le, h.no.mono le, h.pa.mono le, h.le.mono le, h.bo.mono le, fun q e => (h.ha q e).mono le⟩
theorem relA (ok : AgOk x) (h : Pt x t q os) : Rel x (str0 (sr0 x) t (nowT (ls0 x) t)) (trn0 x (ls0 x) t).1 none [⟨x.r, x.s, 1⟩] := by
  have r0 := rel0 ok
  have k := trn0_ok ok h
  have ec := course_turn0 (x := x) (t := t) (n := nowT (ls0 x) t) h.xr (now_ls0 h.xr)
  have ed : dueC x (trn0 x (ls0 x) t).1 false = [⟨x.r, x.s, 1⟩] := if_pos ⟨rfl, rfl⟩
  have zb : Sz 700 (errS (sr0 x) t) := by rw [err_ls0 h.xr ok.l0]; exact (h.zb ok).mono (by decide)
  exact ⟨rfl, by rw [ec, ed], rfl, fun t' ht => err_turn0 h.xr ht ok.l0, r0.ok, r0.cz, r0.len, (h.zt ok).mono (by decide), zb, zb, r0.zsl, r0.zdr, lsz_up k.z (by decide), r0.h0⟩
end
end Vk

namespace Vk
open PySem L2 Vm Vl Vs
/-! ### a steering and the law's own state, turn after turn -/
theorem now_app (a b : List Pc) (t : Rat) : nowf (a ++ b) t = (nowf b t).or (nowf a t) := by
  rw [now_pc, now_pc, now_pc]
  unfold pcAt
  rw [List.filter_append, List.getLast?_append]
  cases (b.filter (on t)).getLast? <;> rfl
theorem now_kp_before {c P : List Pc} {t t' : Rat} (h : t' < t) (hP : ∀ p ∈ P, t ≤ p.s) : nowf (kp c t ++ P) t' = nowf c t' := by
  have e1 : nowf P t' = none := by
    rw [now_pc]; unfold pcAt
    rw [List.filter_eq_nil_iff.mpr fun p hp => by have := hP p hp; simp [on]; grind]
    rfl
  rw [now_app, e1, Option.none_or, now_pc, now_pc]
  unfold pcAt kp
  rw [List.filter_filter]
  have : c.filter (fun p => on t' p && decide (p.s < t)) = c.filter (on t') := List.filter_congr fun p _ => by
    by_cases g : on t' p = true
    · have g' : ¬ t' < p.s := by simpa [on] using g
      rw [g, Bool.true_and]; exact decide_eq_true (by grind)
    · rw [Bool.eq_false_iff.mpr g, Bool.false_and]
  rw [this]
theorem now_kp_after {c P : List Pc} {t t' v : Rat} (h : nowf P t' = some v) : nowf (kp c t ++ P) t' = some v := by
  rw [now_app, h]; rfl
theorem cok_kp {c P : List Pc} {t : Rat} (ok : Cok c) (okP : Cok P) (hP : ∀ p ∈ P, t ≤ p.s) : Cok (kp c t ++ P) := by
  refine cok_of ?_ ?_
  · unfold AscP
    refine List.pairwise_append.mpr ⟨(ascP_of ok).sublist List.filter_sublist, ascP_of okP, fun a ha b hb => ?_⟩
    have := (List.mem_filter.mp ha).2
    have h1 : a.s < t := of_decide_eq_true this
    have h2 := hP b hb
    grind
  · intro p hp
    rcases List.mem_append.mp hp with h | h
    · exact ok.1 p (List.mem_filter.mp h).1
    · exact okP.1 p h
theorem now_one {t n t' : Rat} (h : t ≤ t') : nowf [(⟨t, n, 1⟩ : Pc)] t' = some (n + (t' - t)) := by
  have e := nowf_next (c := [(⟨t, n, 1⟩ : Pc)]) (t := t') (i := 0) rfl
  rw [if_neg (Rat.not_lt.mpr h)] at e
  have e2 : nowf [(⟨t, n, 1⟩ : Pc)] t' = some (vl t' ⟨t, n, 1⟩) := e
  rw [e2]; unfold vl
  congr 1
  grind
theorem now_two {t n r f m t' : Rat} (h : t ≤ t') : nowf [(⟨t, n, r⟩ : Pc), ⟨f, m, 1⟩] t' = some (if t' < f then n + r * (t' - t) else m + (t' - f)) := by
  have e := nowf_next (c := [(⟨t, n, r⟩ : Pc), ⟨f, m, 1⟩]) (t := t') (i := 1) rfl
  have e0 := nowf_next (c := [(⟨t, n, r⟩ : Pc), ⟨f, m, 1⟩]) (t := t') (i := 0) rfl
  rw [if_neg (Rat.not_lt.mpr h)] at e0
  have e1 : nowf [(⟨t, n, r⟩ : Pc), ⟨f, m, 1⟩] t' = if t' < f then nowf (List.take 1 [(⟨t, n, r⟩ : Pc), ⟨f, m, 1⟩]) t' else some (vl t' ⟨f, m, 1⟩) := e
  rw [e1]
  by_cases c : t' < f
  · rw [if_pos c, if_pos c]
    rw [show nowf (List.take 1 [(⟨t, n, r⟩ : Pc), ⟨f, m, 1⟩]) t' = some (vl t' ⟨t, n, r⟩) from e0]
    rfl
  · rw [if_neg c, if_neg c]; unfold vl
    congr 1
    dsimp only
    grind
theorem cz_one' {Z m : Nat} {t n : Rat} (hZ : 3 * m + 62 ≤ Z) (h : Sz m t) (g : Sz m n) : Cz Z Z 62 [(⟨t, n, 1⟩ : Pc)] := fun p hp => by
  rw [List.mem_singleton] at hp; subst hp
  exact ⟨h.mono (by omega), g.mono (by omega), zo1.mono (by decide)⟩
theorem cz_plan' {Z m : Nat} {t n a l : Rat} (hZ : 3 * m + 62 ≤ Z) (h : Sz m t) (g : Sz m n) (ha : Sz m a) (hl : Sz 60 l) (p1 : 0 < l) : Cz Z Z 62 (plan t n a l) := fun p hp => by
  have y1 : Sz (m + m + 1) (ab (a - n)) := Vk.Sz.ab (ha.sub g)
  have y2 : Sz (m + m + 1 + 60) (ab (a - n) / l) := y1.div hl p1
  have r1 : Sz 62 (1 + l) := (zo1.add hl).mono (by decide)
  have r2 : Sz 62 (1 - l) := (zo1.sub hl).mono (by decide)
  unfold plan at hp
  split at hp
  · rw [List.mem_singleton] at hp; subst hp
    exact ⟨h.mono (by omega), g.mono (by omega), zo1.mono (by decide)⟩
  · rcases List.mem_cons.mp hp with rfl | hp
    · refine ⟨h.mono (by omega), g.mono (by omega), ?_⟩
      dsimp only
      split
      · exact r1
      · exact r2
    · rw [List.mem_singleton] at hp; subst hp
      exact ⟨(h.add y2).mono (by omega), (ha.add y2).mono (by omega), zo1.mono (by decide)⟩
structure Rl (Z : Nat) (x : Ag) (r : Sr) (st : Ls) : Prop where
  la : r.la = st.ra
  now : ∀ t, st.ra ≤ t → nowf r.c t = some (nowT st t)
  er : ∀ t, st.ra ≤ t → errS r t = bndT x st t
  sl : r.sl = x.l
  dr : r.dr = x.d
  ov : r.ov = x.ov
  ok : Cok r.c
  cz : Cz Z Z 62 r.c
  h0 : ∀ t, x.r ≤ t → nowf r.c t ≠ none
  h1 : ∀ t, t < x.r → nowf r.c t = none
  xr : x.r ≤ st.ra
  bd : r.bd = st.bo
  hf : r.hf = st.ha.getD st.bo
  td : tl r.c = r.c
theorem rl0 {Z : Nat} {x : Ag} (hZ : 62 ≤ Z) (ok : AgOk x) : Rl Z x (sr0 x) (ls0 x) := by
  have r0 := rel0 ok
  exact ⟨rfl, fun t h => nowf_sr0 h, fun t h => err_ls0 h ok.l0, rfl, rfl, rfl, r0.ok, (fun p hp => by
    have : p = ⟨x.r, x.s, 1⟩ := List.mem_singleton.mp hp
    subst this
    exact ⟨ok.zr.mono (by omega), ok.zs.mono (by omega), zo1.mono (by decide)⟩), r0.h0, fun t h => by
    rw [now_pc]; unfold pcAt
    have : ((sr0 x).c.filter (on t)) = [] := List.filter_eq_nil_iff.mpr fun p hp => by
      have : p = ⟨x.r, x.s, 1⟩ := List.mem_singleton.mp hp
      subst this
      simp [on]
      exact h
    rw [this]; rfl, Rat.le_refl, rfl, rfl, rfl⟩
/-- the pieces of a plan show what the law's own state says -/
theorem now_plan {x : Ag} {t n a h bo : Rat} {t' : Rat} (l0 : 0 < x.l) (ht : t ≤ t') : nowf (plan t n a x.l) t' = some (nowT ⟨t, n, pacT x (a - n), ab (a - n) / x.l, bo, some h⟩ t') := by
  unfold plan nowT yT
  dsimp only
  by_cases g : a = n
  · rw [if_pos g, now_one ht]
    have ez : ab (a - n) / x.l = 0 := by rw [g, show n - n = 0 by grind, show ab 0 = 0 by decide +kernel]; grind
    have ep : pacT x (a - n) = 1 := if_pos (by grind)
    rw [ez, ep, if_neg (by grind)]
    congr 1
    grind
  · rw [if_neg g, now_two ht]
    have epc : pacT x (a - n) = if n < a then 1 + x.l else 1 - x.l := by
      unfold pacT
      rw [if_neg (show ¬ a - n = 0 by grind)]
      by_cases c2 : n < a
      · rw [if_pos c2, if_pos (show 0 < a - n by grind)]
      · rw [if_neg c2, if_neg (show ¬ 0 < a - n by grind)]; grind
    have hL : x.l * (ab (a - n) / x.l) = ab (a - n) := by rw [Rat.mul_comm, Rat.div_mul_cancel]; grind
    rw [epc]
    generalize ab (a - n) / x.l = y at hL ⊢
    by_cases c : t' < t + y
    · rw [if_pos c, if_pos (show t' - t < y by grind)]
      congr 1
      grind
    · rw [if_neg c, if_neg (show ¬ t' - t < y by grind)]
      congr 1
      by_cases c2 : n < a
      · rw [if_pos c2]
        have e2 : ab (a - n) = a - n := if_neg (by grind)
        rw [e2] at hL
        have e3 : (1 + x.l) * y = y + x.l * y := by grind
        rw [e3, hL]
        grind
      · rw [if_neg c2]
        have e2 : ab (a - n) = -(a - n) := if_pos (by grind)
        rw [e2] at hL
        have e3 : (1 - x.l) * y = y - x.l * y := by grind
        rw [e3, hL]
        grind
theorem plan_mem {t n a l : Rat} (l0 : 0 < l) : ∀ p ∈ plan t n a l, t ≤ p.s := fun p hp => by
  unfold plan at hp
  split at hp
  · rw [List.mem_singleton] at hp; subst hp; exact Rat.le_refl
  · have h2 : 0 ≤ ab (a - n) / l := by
      have h1 := ab_nn (a - n)
      have e : ab (a - n) = ab (a - n) / l * l := by rw [Rat.div_mul_cancel]; grind
      rw [e] at h1
      refine Rat.not_lt.mp fun hh => ?_
      have := Rat.mul_lt_mul_of_pos_right hh l0
      grind
    rcases List.mem_cons.mp hp with rfl | hp
    · exact Rat.le_refl
    · rw [List.mem_singleton] at hp; subst hp
      dsimp only
      grind
theorem plan_cok {t n a l : Rat} (l0 : 0 < l) (l1 : l < 1) : Cok (plan t n a l) := by
  unfold plan
  split
  · refine cok_of (List.pairwise_singleton _ _) fun q hq => ?_
    rw [List.mem_singleton] at hq; subst hq; show (0 : Rat) < 1; decide +kernel
  · rename_i g
    have h2 : 0 < ab (a - n) / l := by
      have h1 : 0 < ab (a - n) := by unfold ab; split <;> grind
      have e : ab (a - n) = ab (a - n) / l * l := by rw [Rat.div_mul_cancel]; grind
      rw [e] at h1
      refine Rat.not_le.mp fun hh => ?_
      have := Rat.mul_le_mul_of_nonneg_right hh (show 0 ≤ l by grind)
      grind
    refine cok_of ?_ fun q hq => ?_
    · unfold AscP
      simp
      grind
    · simp at hq
      rcases hq with rfl | rfl
      · dsimp only; split <;> grind
      · show (0 : Rat) < 1; decide +kernel
/-- what a turn leaves shown -/
structure Turn (Z : Nat) (x : Ag) (r : Sr) (t : Rat) (st' : Ls) (r' : Sr) : Prop where
  rl : Rl Z x r' st'
  old : ∀ t', t' < t → nowf r'.c t' = nowf r.c t'
  len : r'.c.length ≤ r.c.length + 2
theorem turn_of {Z : Nat} {x : Ag} {r : Sr} {st st' : Ls} {t n : Rat} {P : List Pc} {r' : Sr} (R : Rl Z x r st) (ht : st.ra ≤ t) (era : st'.ra = t) (ec : r'.c = tl (kp r.c t ++ P)) (ela : r'.la = t) (es : r'.sl = x.l) (ed : r'.dr = x.d) (eo : r'.ov = x.ov)
    (okP : Cok P) (hP : ∀ p ∈ P, t ≤ p.s) (czP : Cz Z Z 62 P) (hnow : ∀ t', t ≤ t' → nowf P t' = some (nowT st' t')) (her : ∀ t', t ≤ t' → errS r' t' = bndT x st' t') (hbd : r'.bd = st'.bo) (hhf : r'.hf = st'.ha.getD st'.bo) (hlen : P.length ≤ 2) : Turn Z x r t st' r' := by
  have okk := cok_kp (t := t) R.ok okP hP
  have old : ∀ t', t' < t → nowf r'.c t' = nowf r.c t' := fun t' h => by rw [ec, now_tl okk, now_kp_before h hP]
  have new : ∀ t', t ≤ t' → nowf r'.c t' = some (nowT st' t') := fun t' h => by rw [ec, now_tl okk]; exact now_kp_after (hnow t' h)
  have hxt : x.r ≤ t := by have := R.xr; grind
  refine ⟨⟨by rw [ela, era], fun t' h => new t' (by rw [era] at h; exact h), fun t' h => her t' (by rw [era] at h; exact h), es, ed, eo, by rw [ec]; exact cok_tl okk, ?_, ?_, ?_, by rw [era]; exact hxt, hbd, hhf, by rw [ec]; exact tl_tl _⟩, old, by
    rw [ec]
    have h1 := (tl_sub (kp r.c t ++ P)).length_le
    rw [List.length_append] at h1
    have h2 : (kp r.c t).length ≤ r.c.length := List.length_filter_le _ _
    omega⟩
  · rw [ec]
    refine cz_tl fun p hp => ?_
    rcases List.mem_append.mp hp with h | h
    · exact R.cz p (List.mem_filter.mp h).1
    · exact czP p h
  · intro t' h
    by_cases c : t' < t
    · rw [old t' c]; exact R.h0 t' h
    · rw [new t' (Rat.not_lt.mp c)]; exact nofun
  · intro t' h
    rw [old t' (by grind)]; exact R.h1 t' h
theorem err0' {Z : Nat} {x : Ag} {r : Sr} {st : Ls} {t t' n : Rat} (R : Rl Z x r st) (ht : st.ra ≤ t) (h' : t ≤ t') (l0 : 0 < x.l) : errS (str0 r t n) t' = bndT x (trn0 x st t).1 t' := by
  have hm : 0 ≤ x.l * (t' - t) := mul_nn (by grind) (by grind)
  have e := R.er t ht
  have es := R.sl
  have ed := R.dr
  show nextB ⟨errS r t, errS r t, t' - t, r.sl, r.dr⟩ (errS r t) = bndT x st t + x.d * (t' - t)
  rw [e, es, ed]
  unfold nextB
  dsimp only
  split <;> grind
theorem turn0 {Z m : Nat} {x : Ag} {r : Sr} {st : Ls} {t : Rat} (hZ : 3 * m + 62 ≤ Z) (R : Rl Z x r st) (ht : st.ra ≤ t) (l0 : 0 < x.l) (zt : Sz m t) (zn : Sz m (nowT st t)) : Turn Z x r t (trn0 x st t).1 (str0 r t (nowT st t)) := by
  refine turn_of (n := nowT st t) (P := [⟨t, nowT st t, 1⟩]) R ht rfl rfl rfl R.sl R.dr R.ov ?_ ?_ (cz_one' hZ zt zn) ?_ (fun t' h => err0' R ht h l0) (R.er t ht) (R.er t ht) (by show 1 ≤ 2; decide)
  · refine cok_of (List.pairwise_singleton _ _) fun q hq => ?_
    rw [List.mem_singleton] at hq; subst hq; show (0 : Rat) < 1; decide +kernel
  · intro p hp; rw [List.mem_singleton] at hp; subst hp; exact Rat.le_refl
  · intro t' h
    rw [now_one h]
    show _ = some (nowT ⟨t, nowT st t, 1, 0, bndT x st t, none⟩ t')
    generalize nowT st t = n
    unfold nowT yT
    dsimp only
    rw [if_neg (by grind)]
    congr 1
    grind
theorem jmp_eq' {x : Ag} {r : Sr} {a n : Rat} (h : r.ov = x.ov) : jmpS r a n = jmpT x (a - n) := by unfold jmpS jmpT; rw [h] <;> (cases x.ov <;> rfl)
theorem turn2 {Z m : Nat} {x : Ag} {r : Sr} {st : Ls} {t p q : Rat} (hZ : 3 * m + 62 ≤ Z) (R : Rl Z x r st) (ht : st.ra ≤ t) (ok : AgOk x) (pq : p ≤ q) (zt : Sz m t) (zn : Sz m (nowT st t)) (zm : Sz m (midT (knw p q (nowT st t) (bndT x st t)))) :
    Turn Z x r t (trnU x t (nowT st t) (knw p q (nowT st t) (bndT x st t))).1 (str2 r t (nowT st t) p q) ∧ (str2 r t (nowT st t) p q).aim = (trnU x t (nowT st t) (knw p q (nowT st t) (bndT x st t))).2.1 := by
  have l0 := ok.l0
  have hu := knw_le (n := nowT st t) (b := bndT x st t) pq
  unfold str2 trnU
  rw [R.er t ht]
  generalize knw p q (nowT st t) (bndT x st t) = u at hu zm ⊢
  have em : mid u = midT u := (midT_eq u).symm
  have eh : haf u = midT u - u.1 := (haf_eq u).symm
  have ef : farE u.1 u.2 (nowT st t) = ab (midT u - nowT st t) + (midT u - u.1) := by
    rw [far_eq hu, midT_eq]; rfl
  rw [em, eh, ef, jmp_eq' R.ov]
  by_cases c : jmpT x (midT u - nowT st t) = true
  · rw [if_pos c, if_pos c]
    refine ⟨?_, rfl⟩
    refine turn_of (n := midT u) (P := [⟨t, midT u, 1⟩]) R ht rfl rfl rfl R.sl R.dr R.ov ?_ ?_ (cz_one' hZ zt zm) ?_ (fun t' h => ?_) rfl rfl (by show 1 ≤ 2; decide)
    · refine cok_of (List.pairwise_singleton _ _) fun q hq => ?_
      rw [List.mem_singleton] at hq; subst hq; show (0 : Rat) < 1; decide +kernel
    · intro p hp; rw [List.mem_singleton] at hp; subst hp; exact Rat.le_refl
    · intro t' h
      rw [now_one h]
      unfold nowT yT
      dsimp only
      rw [if_neg (by grind)]
      congr 1
      grind
    · have es := R.sl
      have ed := R.dr
      show nextB ⟨_, _, t' - t, r.sl, r.dr⟩ _ = x.d * (t' - t) + _
      rw [es, ed]
      unfold nextB
      dsimp only
      split <;> split <;> grind
  · rw [if_neg c, if_neg c]
    refine ⟨?_, rfl⟩
    refine turn_of (n := nowT st t) (P := plan t (nowT st t) (midT u) r.sl) R ht rfl rfl rfl R.sl R.dr R.ov ?_ ?_ ?_ ?_ (fun t' h => ?_) rfl rfl (by unfold plan; split <;> simp)
    · rw [R.sl]; exact plan_cok l0 ok.l1
    · rw [R.sl]; exact plan_mem l0
    · rw [R.sl]; exact cz_plan' hZ zt zn zm (ok.zl.mono (by decide)) l0
    · intro t' h
      rw [R.sl]; exact now_plan l0 h
    · have es := R.sl
      have ed := R.dr
      show nextB ⟨_, _, t' - t, r.sl, r.dr⟩ _ = x.d * (t' - t) + _
      rw [es, ed]
      unfold nextB
      dsimp only
      split <;> split <;> grind
theorem bnd_nn {x : Ag} {st : Ls} {t : Rat} (ok : AgOk x) (ht : st.ra ≤ t) (b0 : 0 ≤ st.bo) (h0 : ∀ h, st.ha = some h → 0 ≤ h) : 0 ≤ bndT x st t := by
  have hm : 0 ≤ x.d * (t - st.ra) := mul_nn ok.d0 (by grind)
  unfold bndT
  cases e : st.ha with
  | none => dsimp only; grind
  | some h => dsimp only; have := h0 h e; split <;> grind
theorem turnS {Z m : Nat} {x : Ag} {r : Sr} {st : Ls} {t : Rat} {os : Option Spn} (hZ : 3 * m + 62 ≤ Z) (R : Rl Z x r st) (ht : st.ra ≤ t) (ok : AgOk x) (b0 : 0 ≤ bndT x st t) (le : ∀ p q, os = some (some p, some q) → p ≤ q) (zt : Sz m t) (zn : Sz m (nowT st t)) (zm : ∀ p q, os = some (some p, some q) → Sz m (midT (knw p q (nowT st t) (bndT x st t)))) :
    Turn Z x r t (trn x st t os).1 (strS r t (nowT st t) os) ∧ (strS r t (nowT st t) os).aim = (trn x st t os).2.1 := by
  rcases os_or os with ⟨p, q', rfl⟩ | ⟨e, e'⟩
  · have et : trn x st t (some (some p, some q')) = trnU x t (nowT st t) (knw p q' (nowT st t) (bndT x st t)) := by
      show trnU x t (nowT st t) (knT p q' (nowT st t) (bndT x st t)) = _
      rw [knT_eq (le _ _ rfl) b0]
    rw [et]
    exact turn2 hZ R ht ok (le _ _ rfl) zt zn (zm _ _ rfl)
  · rw [e, e']
    exact ⟨turn0 hZ R ht ok.l0 zt zn, rfl⟩
end Vk

namespace Vk
open PySem L2 Vm Vl Vs
theorem Fx.zero {M : Nat} : Fx M 0 0 := ⟨0, by rw [Rat.zero_mul]; rfl, Nat.zero_le _⟩
theorem Fx.ab {M B : Nat} {q : Rat} (h : Fx M B q) : Fx M B (ab q) := by
  unfold Vk.ab
  split
  · exact h.neg
  · exact h
theorem Fx.halfR {M B : Nat} {q : Rat} (h : Fx M B q) : Fx (2 * M) B (q * (1 / 2)) := by
  rw [Nat.mul_comm, ← half_eq]; exact h.half
theorem Fx.up2 {M B : Nat} {q : Rat} (h : Fx M B q) : Fx (2 * M) B q := by
  rw [Nat.mul_comm]; exact h.lift 2
/-- a state's numbers over a common denominator -/
structure Inv (x : Ag) (M B : Nat) (st : Ls) : Prop where
  o : Fx M B (st.no - st.ra)
  g : ∃ g, Fx M B g ∧ 0 ≤ g ∧ st.le = g / x.l
  pa : st.pa = 1 ∨ st.pa = 1 + x.l ∨ st.pa = 1 - x.l
  bo : Fx M B st.bo
  b0 : 0 ≤ st.bo
  ha : ∀ h, st.ha = some h → Fx M B h ∧ 0 ≤ h
section
variable {x : Ag} {M B : Nat} {st : Ls} {t : Rat}
theorem le_mul {g l : Rat} (l0 : 0 < l) : l * (g / l) = g := by rw [Rat.mul_comm, Rat.div_mul_cancel]; grind
theorem Inv.mono {C : Nat} (h : Inv x M B st) (l : B ≤ C) : Inv x M C st := by
  obtain ⟨g, g1, g2, g3⟩ := h.g
  exact ⟨h.o.mono l, ⟨g, g1.mono l, g2, g3⟩, h.pa, h.bo.mono l, h.b0, fun y e => ⟨(h.ha y e).1.mono l, (h.ha y e).2⟩⟩
theorem Inv.lift (N : Nat) (h : Inv x M B st) : Inv x (M * N) B st := by
  obtain ⟨g, g1, g2, g3⟩ := h.g
  exact ⟨h.o.lift N, ⟨g, g1.lift N, g2, g3⟩, h.pa, h.bo.lift N, h.b0, fun y e => ⟨(h.ha y e).1.lift N, (h.ha y e).2⟩⟩
theorem Inv.now (h : Inv x M B st) (l0 : 0 < x.l) (hl : Fx M B (x.l * (t - st.ra))) : Fx M (2 * B) (nowT st t - t) := by
  obtain ⟨g, g1, g2, g3⟩ := h.g
  have hy : Fx M B (x.l * yT st t) := by
    unfold yT
    split
    · exact hl
    · rw [g3, le_mul l0]; exact g1
  have e : nowT st t - t = (st.no - st.ra) + (st.pa - 1) * yT st t := by unfold nowT; grind
  rw [e, show 2 * B = B + B by omega]
  refine h.o.add ?_
  rcases h.pa with e | e | e
  · rw [e, show (1 - 1 : Rat) * yT st t = 0 by grind]; exact Fx.zero.mono (Nat.zero_le _)
  · rw [e, show (1 + x.l - 1) * yT st t = x.l * yT st t by grind]; exact hy
  · rw [e, show (1 - x.l - 1) * yT st t = -(x.l * yT st t) by grind]; exact hy.neg
theorem Inv.bnd (h : Inv x M B st) (hl : Fx M B (x.l * (t - st.ra))) (hd : Fx M B (x.d * (t - st.ra))) : Fx M (4 * B) (bndT x st t) := by
  unfold bndT
  cases e : st.ha with
  | none => dsimp only; exact (h.bo.add hd).mono (by omega)
  | some y =>
    dsimp only
    have hy := (h.ha y e).1
    split
    · exact (hd.add hy).mono (by omega)
    · exact (hd.add (h.bo.sub hl)).mono (by omega)
theorem Inv.bnn (h : Inv x M B st) (ok : AgOk x) (ht : st.ra ≤ t) : 0 ≤ bndT x st t := bnd_nn ok ht h.b0 fun y e => (h.ha y e).2
/-- what a span asks -/
structure SpF (M B : Nat) (t : Rat) (os : Option Spn) : Prop where
  f : ∀ p q, os = some (some p, some q) → Fx M B (p - t) ∧ Fx M B (q - t) ∧ p ≤ q
theorem Inv.knw {p q : Rat} (h : Inv x M B st) (ok : AgOk x) (hl : Fx M B (x.l * (t - st.ra))) (hd : Fx M B (x.d * (t - st.ra))) (hp : Fx M B (p - t)) (hq : Fx M B (q - t)) :
    Fx M (6 * B) ((knw p q (nowT st t) (bndT x st t)).1 - t) ∧ Fx M (6 * B) ((knw p q (nowT st t) (bndT x st t)).2 - t) := by
  obtain ⟨k1, k2⟩ := knw_or p q (nowT st t) (bndT x st t)
  have zn := h.now ok.l0 hl
  have zb := h.bnd hl hd
  constructor
  · rcases k1 with k1 | k1 <;> rw [k1]
    · exact hp.mono (by omega)
    · rw [show nowT st t - bndT x st t - t = (nowT st t - t) - bndT x st t by grind]
      exact (zn.sub zb).mono (by omega)
  · rcases k2 with k2 | k2 <;> rw [k2]
    · exact hq.mono (by omega)
    · rw [show nowT st t + bndT x st t - t = (nowT st t - t) + bndT x st t by grind]
      exact (zn.add zb).mono (by omega)
theorem mid_fx {u : Rat × Rat} (h : Fx M (6 * B) (u.1 - t)) (g : Fx M (6 * B) (u.2 - t)) : Fx (2 * M) (12 * B) (midT u - t) := by
  have e : midT u - t = ((u.1 - t) + (u.2 - t)) * (1 / 2) := by rw [midT_eq]; unfold mid; grind
  rw [e]
  exact (h.add g).halfR.mono (by omega)
theorem haf_fx {u : Rat × Rat} (h : Fx M (6 * B) (u.1 - t)) (g : Fx M (6 * B) (u.2 - t)) : Fx (2 * M) (12 * B) (midT u - u.1) := by
  have e : midT u - u.1 = ((u.2 - t) - (u.1 - t)) * (1 / 2) := by rw [midT_eq]; unfold mid; grind
  rw [e]
  exact (g.sub h).halfR.mono (by omega)
theorem Inv.turn {os : Option Spn} (h : Inv x M B st) (ok : AgOk x) (ht : st.ra ≤ t) (hl : Fx M B (x.l * (t - st.ra))) (hd : Fx M B (x.d * (t - st.ra))) (hs : SpF M B t os) : Inv x (2 * M) (32 * B) (trn x st t os).1 := by
  have zn : Fx (2 * M) (2 * B) (nowT st t - t) := (h.now ok.l0 hl).up2
  have zb : Fx (2 * M) (4 * B) (bndT x st t) := (h.bnd hl hd).up2
  have b0 := h.bnn ok ht
  have o1 : (0 : Rat) / x.l = 0 := by grind
  rcases os_or os with ⟨p, q, rfl⟩ | ⟨e, _⟩
  · obtain ⟨hp, hq, pq⟩ := hs.f p q rfl
    obtain ⟨k1, k2⟩ := h.knw ok hl hd hp hq
    have hu := knw_le (n := nowT st t) (b := bndT x st t) pq
    have et : trn x st t (some (some p, some q)) = trnU x t (nowT st t) (Vk.knw p q (nowT st t) (bndT x st t)) := by
      show trnU x t (nowT st t) (knT p q (nowT st t) (bndT x st t)) = _
      rw [knT_eq pq b0]
    rw [et]
    generalize Vk.knw p q (nowT st t) (bndT x st t) = u at k1 k2 hu
    have hm := mid_fx k1 k2
    have hh := haf_fx k1 k2
    have h0 : 0 ≤ midT u - u.1 := by rw [midT_eq]; unfold mid; grind
    have hg : Fx (2 * M) (14 * B) (midT u - nowT st t) := by
      rw [show midT u - nowT st t = (midT u - t) - (nowT st t - t) by grind]
      exact (hm.sub zn).mono (by omega)
    unfold trnU
    split
    · exact ⟨hm.mono (by omega), ⟨0, Fx.zero.mono (Nat.zero_le _), Rat.le_refl, o1.symm⟩, .inl rfl, hh.mono (by omega), h0, fun y e => by cases e; exact ⟨hh.mono (by omega), h0⟩⟩
    · refine ⟨zn.mono (by omega), ⟨_, hg.ab.mono (by omega), ab_nn _, rfl⟩, ?_, (hg.ab.add hh).mono (by omega), by have := ab_nn (midT u - nowT st t); show 0 ≤ ab _ + _; grind, fun y e => by cases e; exact ⟨hh.mono (by omega), h0⟩⟩
      show pacT _ _ = 1 ∨ _
      unfold pacT
      split
      · exact .inl rfl
      · split
        · exact .inr (.inl rfl)
        · exact .inr (.inr (by grind))
  · rw [e]
    exact ⟨zn.mono (by omega), ⟨0, Fx.zero.mono (Nat.zero_le _), Rat.le_refl, o1.symm⟩, .inl rfl, zb.mono (by omega), b0, nofun⟩
end
end Vk

namespace Vk
open PySem L2 Vm Vl Vs
/-- a denominator and a bound that are small enough -/
structure Lat (k M B : Nat) : Prop where
  m0 : M ≠ 0
  hb : 2 * M * (64 * B) < 2 ^ k
  b0 : 1 ≤ B
section
variable {x : Ag} {k Z M B C : Nat} {st : Ls} {t q : Rat} {r : Sr} {os : Option Spn}
theorem Lat.sz (L : Lat k M B) (h : Fx M C q) (hc : C ≤ 64 * B) : Sz k q := by
  have h1 : M * (64 * B) ≤ 2 * M * (64 * B) := Nat.mul_le_mul_right _ (by omega)
  have h2 : M * 1 ≤ M * (64 * B) := Nat.mul_le_mul_left _ (by have := L.b0; omega)
  have hb := L.hb
  refine (h.mono hc).sz L.m0 ?_ ?_ <;> omega
theorem Lat.sz2 (L : Lat k M B) (h : Fx (2 * M) C q) (hc : C ≤ 64 * B) : Sz k q := by
  have h2 : 2 * M * 1 ≤ 2 * M * (64 * B) := Nat.mul_le_mul_left _ (by have := L.b0; omega)
  have hb := L.hb
  have := L.m0
  refine (h.mono hc).sz (by omega) ?_ ?_ <;> omega
/-- the sizes of what a state shows -/
theorem Inv.zno (L : Lat k M B) (h : Inv x M B st) (hr : Fx M B st.ra) : Sz k st.no := by
  rw [show st.no = (st.no - st.ra) + st.ra by grind]
  exact L.sz (h.o.add hr) (by omega)
theorem Inv.zbo (L : Lat k M B) (h : Inv x M B st) : Sz k st.bo := L.sz h.bo (by omega)
theorem Inv.zha (L : Lat k M B) (h : Inv x M B st) : Sz k (st.ha.getD st.bo) := by
  cases e : st.ha with
  | none => exact h.zbo L
  | some y => exact L.sz (h.ha y e).1 (by omega)
theorem Inv.zn (L : Lat k M B) (h : Inv x M B st) (l0 : 0 < x.l) (hl : Fx M B (x.l * (t - st.ra))) (ht : Fx M B t) : Sz k (nowT st t) := by
  rw [show nowT st t = (nowT st t - t) + t by grind]
  exact L.sz ((h.now l0 hl).add ht) (by omega)
theorem Inv.zb (L : Lat k M B) (h : Inv x M B st) (hl : Fx M B (x.l * (t - st.ra))) (hd : Fx M B (x.d * (t - st.ra))) : Sz k (bndT x st t) := L.sz (h.bnd hl hd) (by omega)
theorem Inv.zk {p q : Rat} (L : Lat k M B) (h : Inv x M B st) (ok : AgOk x) (hl : Fx M B (x.l * (t - st.ra))) (hd : Fx M B (x.d * (t - st.ra))) (ht : Fx M B t) (hp : Fx M B (p - t)) (hq : Fx M B (q - t)) :
    Sz k (Vk.knw p q (nowT st t) (bndT x st t)).1 ∧ Sz k (Vk.knw p q (nowT st t) (bndT x st t)).2 ∧ Sz k (midT (Vk.knw p q (nowT st t) (bndT x st t))) ∧ Sz k (haf (Vk.knw p q (nowT st t) (bndT x st t))) := by
  obtain ⟨k1, k2⟩ := h.knw ok hl hd hp hq
  generalize Vk.knw p q (nowT st t) (bndT x st t) = u at k1 k2
  refine ⟨?_, ?_, ?_, ?_⟩
  · rw [show u.1 = (u.1 - t) + t by grind]; exact L.sz (k1.add ht) (by omega)
  · rw [show u.2 = (u.2 - t) + t by grind]; exact L.sz (k2.add ht) (by omega)
  · rw [show midT u = (midT u - t) + t by grind]; exact L.sz2 ((mid_fx k1 k2).add ht.up2) (by omega)
  · rw [← haf_eq]; exact L.sz2 (haf_fx k1 k2) (by omega)
/-- what a steer asks -/
theorem st_okS (k7 : k ≤ 700) (z2 : Z ≤ 2162) (L : Lat k M B) (R : Rl Z x r st) (h : Inv x M B st) (ok : AgOk x) (ht : st.ra ≤ t) (hl : Fx M B (x.l * (t - st.ra))) (hd : Fx M B (x.d * (t - st.ra))) (hr : Fx M B t) (hs : SpF M B t os) (zs : ∀ s, os = some s → SSz 700 s) (ln : r.c.length ≤ 300) : StOk r t (nowT st t) os := by
  refine ⟨R.now t ht, R.ok, fun p hp => ⟨(R.cz p hp).1.mono z2, (R.cz p hp).2.1.mono z2, (R.cz p hp).2.2⟩, ln, (h.zn L ok.l0 hl hr).mono k7, by rw [R.er t ht]; exact (h.zb L hl hd).mono k7, by rw [R.sl]; exact ok.l0, by rw [R.ov]; exact fun q e => (ok.zo q e).mono (by decide), zs, fun p q' e => ?_⟩
  subst e
  obtain ⟨hp, hq, _⟩ := hs.f p q' rfl
  obtain ⟨k1, k2, k3, k4⟩ := h.zk L ok hl hd hr hp hq
  rw [R.er t ht]
  rw [midT_eq] at k3
  exact ⟨k1.mono k7, k2.mono k7, k3.mono k7, k4.mono k7⟩
theorem turnI (hZ : 3 * k + 62 ≤ Z) (L : Lat k M B) (R : Rl Z x r st) (h : Inv x M B st) (ok : AgOk x) (ht : st.ra ≤ t) (hl : Fx M B (x.l * (t - st.ra))) (hd : Fx M B (x.d * (t - st.ra))) (hr : Fx M B t) (hs : SpF M B t os) :
    Turn Z x r t (trn x st t os).1 (strS r t (nowT st t) os) ∧ (strS r t (nowT st t) os).aim = (trn x st t os).2.1 := by
  refine turnS hZ R ht ok (h.bnn ok ht) (fun p q e => (hs.f p q e).2.2) (L.sz hr (by omega)) (h.zn L ok.l0 hl hr) fun p q e => ?_
  obtain ⟨hp, hq, _⟩ := hs.f p q e
  exact (h.zk L ok hl hd hr hp hq).2.2.1
theorem trn_ra {t : Rat} {os : Option Spn} : (trn x st t os).1.ra = t := by
  rcases os_or os with ⟨p, q, rfl⟩ | ⟨e, _⟩
  · show (trnU x t _ _).1.ra = t
    unfold trnU
    split <;> rfl
  · rw [e]; rfl
end
/-! ### times and spans over LL -/
def S2 (x : Ag) : Nat := LL * (x.l.den * x.d.den)
def Mn (x : Ag) (n : Nat) : Nat := 2 ^ n * S2 x
def Bn' (n : Nat) : Nat := 32 ^ n * 512
theorem fx_den (q : Rat) (B : Nat) (h : q.num.natAbs ≤ q.den * B) : Fx q.den B q := by
  refine ⟨q.num, ?_, h⟩
  have := Rat.mkRat_self q
  have d := Rat.mkRat_eq_div q.num q.den
  rw [Rat.mkRat_self] at d
  have nz : ((q.den : Nat) : Rat) ≠ 0 := fun h => q.den_nz (by exact_mod_cast h)
  have e2 : ((q.den : Int) : Rat) = (q.den : Rat) := rfl
  generalize ((q.den : Nat) : Rat) = x at d nz ⊢
  generalize ((q.num : Int) : Rat) = y at d ⊢
  grind
theorem fx_unit {q : Rat} (h0 : 0 ≤ q) (h1 : q ≤ 1) : Fx q.den 1 q := by
  refine fx_den q 1 ?_
  have n0 : 0 ≤ q.num := Rat.num_nonneg.mpr h0
  have := (Rat.le_iff q 1).mp h1
  simp at this
  omega
theorem fx_LL {n : Nat} {q : Rat} (h : Fx LL B q) : Fx (Mn x n) B q := by
  have := (h.lift (x.l.den * x.d.den)).lift (2 ^ n)
  unfold Mn S2
  rw [Nat.mul_comm]; exact this
theorem fx_l {x : Ag} {n B : Nat} {q : Rat} (ok : AgOk x) (h : Fx LL B q) : Fx (Mn x n) B (x.l * q) := by
  have hl := fx_unit (q := x.l) (by have := ok.l0; grind) (by have := ok.l1; grind)
  have e := (((hl.mul h).lift x.d.den).lift (2 ^ n)).mono (show 1 * B ≤ B by omega)
  have : x.l.den * LL * x.d.den * 2 ^ n = Mn x n := by unfold Mn S2; rw [Nat.mul_comm]; congr 1; rw [Nat.mul_comm x.l.den LL, Nat.mul_assoc]
  rw [this] at e
  exact e
theorem fx_d {x : Ag} {n B : Nat} {q : Rat} (ok : AgOk x) (h : Fx LL B q) : Fx (Mn x n) B (x.d * q) := by
  have hl := fx_unit (q := x.d) ok.d0 (by have := ok.d1; have := ok.l1; grind)
  have e := (((hl.mul h).lift x.l.den).lift (2 ^ n)).mono (show 1 * B ≤ B by omega)
  have : x.d.den * LL * x.l.den * 2 ^ n = Mn x n := by unfold Mn S2; rw [Nat.mul_comm]; congr 1; rw [Nat.mul_comm x.d.den LL, Nat.mul_assoc, Nat.mul_comm x.d.den]
  rw [this] at e
  exact e
theorem lat_n {x : Ag} {n : Nat} (ok : AgOk x) (h : n ≤ 6) : Lat 150 (Mn x n) (Bn' n) := by
  have h1 : 0 < x.l.den := x.l.den_pos
  have h2 : 0 < x.d.den := x.d.den_pos
  have z1 : x.l.den < 2 ^ 24 := ok.zl.2
  have z2 : x.d.den < 2 ^ 24 := ok.zd.2
  have p1 : 2 ^ n ≤ 2 ^ 6 := Nat.pow_le_pow_right (by decide) h
  have p2 : 32 ^ n ≤ 32 ^ 6 := Nat.pow_le_pow_right (by decide) h
  have m1 : x.l.den * x.d.den ≤ 2 ^ 24 * 2 ^ 24 := Nat.mul_le_mul (by omega) (by omega)
  have m2 : S2 x ≤ LL * (2 ^ 24 * 2 ^ 24) := Nat.mul_le_mul_left _ m1
  have m3 : Mn x n ≤ 2 ^ 6 * (LL * (2 ^ 24 * 2 ^ 24)) := Nat.mul_le_mul p1 m2
  have m4 : Bn' n ≤ 32 ^ 6 * 512 := Nat.mul_le_mul_right _ p2
  have m5 : 2 * Mn x n * (64 * Bn' n) ≤ 2 * (2 ^ 6 * (LL * (2 ^ 24 * 2 ^ 24))) * (64 * (32 ^ 6 * 512)) := Nat.mul_le_mul (Nat.mul_le_mul_left _ m3) (Nat.mul_le_mul_left _ m4)
  refine ⟨?_, Nat.lt_of_le_of_lt m5 (by decide +kernel), ?_⟩
  · unfold Mn S2
    have : 0 < 2 ^ n := Nat.two_pow_pos n
    exact Nat.mul_ne_zero (by omega) (Nat.mul_ne_zero (by decide) (Nat.mul_ne_zero (by omega) (by omega)))
  · unfold Bn'
    have : 0 < 32 ^ n := Nat.pow_pos (by decide)
    omega
theorem bn_ge (n : Nat) : 512 ≤ Bn' n := by unfold Bn'; have : 0 < 32 ^ n := Nat.pow_pos (by decide); omega
theorem mn_succ {x : Ag} (n : Nat) : 2 * Mn x n = Mn x (n + 1) := by unfold Mn; rw [Nat.pow_succ]; grind
theorem bn_succ (n : Nat) : 32 * Bn' n = Bn' (n + 1) := by unfold Bn'; rw [Nat.pow_succ]; grind
theorem inv0 {x : Ag} (ok : AgOk x) (h : Fx LL 512 (x.s - x.r)) (h2 : Fx (Mn x 0) (Bn' 0) x.e) : Inv x (Mn x 0) (Bn' 0) (ls0 x) := by
  have hb := bn_ge 0
  refine ⟨(fx_LL h).mono hb, ⟨0, Fx.zero.mono (Nat.zero_le _), Rat.le_refl, by show (0 : Rat) = 0 / x.l; grind⟩, .inl rfl, ?_, ok.e0, nofun⟩
  exact h2
/-- one turn more -/
structure At (x : Ag) (n : Nat) (r : Sr) (st : Ls) : Prop where
  R : Rl 512 x r st
  I : Inv x (Mn x n) (Bn' n) st
  ra : Fx LL 512 st.ra
  len : r.c.length ≤ 2 * n + 1
theorem At.up {x : Ag} {n : Nat} {r : Sr} {st : Ls} {t : Rat} {os : Option Spn} (A : At x n r st) (ok : AgOk x) (hn : n ≤ 5) (ht : st.ra ≤ t) (ft : Fx LL 512 t) (fd : Fx LL 512 (t - st.ra)) (hs : SpF LL 512 t os) (zs : ∀ s, os = some s → SSz 700 s) :
    StOk r t (nowT st t) os ∧ At x (n + 1) (strS r t (nowT st t) os) (trn x st t os).1 ∧ (∀ t', t' < t → nowf (strS r t (nowT st t) os).c t' = nowf r.c t') ∧ (strS r t (nowT st t) os).aim = (trn x st t os).2.1 ∧ OSz 150 (trn x st t os).2.1 := by
  have L := lat_n ok (show n ≤ 6 by omega)
  have hb := bn_ge n
  have hl : Fx (Mn x n) (Bn' n) (x.l * (t - st.ra)) := (fx_l ok fd).mono hb
  have hd : Fx (Mn x n) (Bn' n) (x.d * (t - st.ra)) := (fx_d ok fd).mono hb
  have hr : Fx (Mn x n) (Bn' n) t := (fx_LL ft).mono hb
  have hs' : SpF (Mn x n) (Bn' n) t os := ⟨fun p q e => ⟨(fx_LL (hs.f p q e).1).mono hb, (fx_LL (hs.f p q e).2.1).mono hb, (hs.f p q e).2.2⟩⟩
  obtain ⟨T, am⟩ := turnI (by decide) L A.R A.I ok ht hl hd hr hs'
  have I' := A.I.turn ok ht hl hd hs'
  rw [mn_succ, bn_succ] at I'
  refine ⟨st_okS (by decide) (by decide) L A.R A.I ok ht hl hd hr hs' zs (by have := A.len; omega), ⟨T.rl, I', by rw [trn_ra]; exact ft, by have := T.len; have := A.len; omega⟩, T.old, am, ?_⟩
  rcases os_or os with ⟨p, q, rfl⟩ | ⟨e, _⟩
  · obtain ⟨hp, hq, pq⟩ := hs'.f p q rfl
    have et : trn x st t (some (some p, some q)) = trnU x t (nowT st t) (Vk.knw p q (nowT st t) (bndT x st t)) := by
      show trnU x t (nowT st t) (knT p q (nowT st t) (bndT x st t)) = _
      rw [knT_eq pq (A.I.bnn ok ht)]
    rw [et]
    have zm := (A.I.zk L ok hl hd hr hp hq).2.2.1
    unfold trnU
    split <;> (intro y e; cases e; exact zm)
  · rw [e]; exact nofun
/-- the sizes that a call asks -/
theorem At.zs {x : Ag} {n : Nat} {r : Sr} {st : Ls} (A : At x n r st) (ok : AgOk x) (hn : n ≤ 6) : Sz 150 r.la ∧ Sz 150 r.bd ∧ Sz 150 r.hf ∧ Sz 60 r.sl ∧ Sz 60 r.dr := by
  have L := lat_n ok hn
  have hb := bn_ge n
  refine ⟨?_, ?_, ?_, ?_, ?_⟩
  · rw [A.R.la]; exact L.sz (fx_LL A.ra) (by omega)
  · rw [A.R.bd]; exact A.I.zbo L
  · rw [A.R.hf]; exact A.I.zha L
  · rw [A.R.sl]; exact ok.zl.mono (by decide)
  · rw [A.R.dr]; exact ok.zd.mono (by decide)
end Vk


set_option maxHeartbeats 4000000
namespace Vk
open PySem L2 Vm Vl Vs
variable {x : Ag} {st : Ls}
/-- what is shown is never further from the truth than told, where the truth goes at the raw rate but for the drift -/
def Hon (x : Ag) (st : Ls) (tr : Rat) : Prop := ∀ t tr', st.ra ≤ t → tr' - tr - (t - st.ra) ≤ x.d * (t - st.ra) → -(x.d * (t - st.ra)) ≤ tr' - tr - (t - st.ra) → nowT st t - tr' ≤ bndT x st t ∧ tr' - nowT st t ≤ bndT x st t
/-- its bound is at most b, the half width at most half -/
def Bdd (x : Ag) (st : Ls) (b half : Rat) : Prop := ∃ h, st.ha = some h ∧ h ≤ half ∧ h ≤ st.bo ∧ st.bo ≤ b
theorem hon0 {tr : Rat} (h1 : x.s - tr ≤ x.e) (h2 : tr - x.s ≤ x.e) : Hon x (ls0 x) tr := by
  intro t tr' ht g1 g2
  have ht : x.r ≤ t := ht
  rw [now_ls0 ht]
  have g1 : tr' - tr - (t - x.r) ≤ x.d * (t - x.r) := g1
  have g2 : -(x.d * (t - x.r)) ≤ tr' - tr - (t - x.r) := g2
  show _ ≤ x.e + x.d * (t - x.r) ∧ _ ≤ x.e + x.d * (t - x.r)
  generalize x.d * (t - x.r) = w at g1 g2
  constructor <;> grind
theorem bdd_le {b half t : Rat} (ok : AgOk x) (h : Bdd x st b half) (ht : st.ra ≤ t) : bndT x st t ≤ b + x.d * (t - st.ra) := by
  obtain ⟨h, e, _, h2, h3⟩ := h
  have w0 : 0 ≤ x.l * (t - st.ra) := mul_nn (by have := ok.l0; grind) (by grind)
  unfold bndT
  rw [e]
  dsimp only
  generalize x.l * (t - st.ra) = w at w0
  generalize x.d * (t - st.ra) = v
  split <;> grind
theorem bdd_next {b half t u : Rat} (h : Bdd x st b half) (ht : t - st.ra = u) : bndT x st t ≤ nextB ⟨b, half, u, x.l, x.d⟩ b := by
  obtain ⟨h, e, h1, h2, h3⟩ := h
  unfold bndT nextB
  rw [e, ht]
  dsimp only
  generalize x.l * u = w
  generalize x.d * u = v
  split <;> split <;> grind
theorem knT_in {p q n b tr : Rat} (p1 : p ≤ tr) (p2 : tr ≤ q) (n1 : n - tr ≤ b) (n2 : tr - n ≤ b) : ∃ u v, knT p q n b = (u, v) ∧ u ≤ tr ∧ tr ≤ v ∧ n - b ≤ u ∧ v ≤ n + b ∧ v - u ≤ q - p := by
  unfold knT bothT
  by_cases h1 : n - b < p
  · rw [if_pos h1, if_neg (show ¬ n + b < p by grind)]
    dsimp only
    refine ⟨_, _, rfl, p1, ?_, by grind, ?_, ?_⟩ <;> (split <;> grind)
  · rw [if_neg h1, if_neg (show ¬ q < n - b by grind)]
    dsimp only
    refine ⟨_, _, rfl, by grind, ?_, Rat.le_refl, ?_, ?_⟩ <;> (split <;> grind)
theorem hon_turn {t n b u v tr half : Rat} (ok : AgOk x) (u1 : u ≤ tr) (u2 : tr ≤ v) (k1 : n - b ≤ u) (k2 : v ≤ n + b) (k3 : v - u ≤ half + half) : Hon x (trnU x t n (u, v)).1 tr ∧ Bdd x (trnU x t n (u, v)).1 b half := by
  have l0 := ok.l0
  have em : midT (u, v) = (u + v) / 2 := by unfold midT; rw [half_eq]; grind
  have eh : midT (u, v) - u = (v - u) / 2 := by rw [em]; grind
  unfold trnU
  rw [em]
  show (Hon x (if _ then _ else _ : Ls × Option Rat × Bool).1 tr) ∧ _
  have e2 : (u + v) / 2 - u = (v - u) / 2 := by grind
  dsimp only
  rw [e2]
  split
  · constructor
    · intro t' tr' ht g1 g2
      have ht : t ≤ t' := ht
      have w0 : 0 ≤ x.l * (t' - t) := mul_nn (by grind) (by grind)
      have g1 : tr' - tr - (t' - t) ≤ x.d * (t' - t) := g1
      have g2 : -(x.d * (t' - t)) ≤ tr' - tr - (t' - t) := g2
      unfold nowT yT bndT
      dsimp only
      rw [if_neg (by grind)]
      generalize x.l * (t' - t) = w at w0
      generalize x.d * (t' - t) = c at g1 g2
      split <;> constructor <;> grind
    · exact ⟨_, rfl, by show (v - u) / 2 ≤ half; grind, Rat.le_refl, by show (v - u) / 2 ≤ b; grind⟩
  · generalize hg : (u + v) / 2 - n = g
    have a0 : 0 ≤ ab g := by unfold ab; split <;> grind
    have ea : x.l * (ab g / x.l) = ab g := le_mul l0
    constructor
    · intro t' tr' ht g1 g2
      have ht : t ≤ t' := ht
      have w0 : 0 ≤ x.l * (t' - t) := mul_nn (by grind) (by grind)
      have g1 : tr' - tr - (t' - t) ≤ x.d * (t' - t) := g1
      have g2 : -(x.d * (t' - t)) ≤ tr' - tr - (t' - t) := g2
      unfold nowT yT bndT
      dsimp only
      have ep : ∀ y : Rat, pacT x g * y = y + (if g = 0 then 0 else if 0 < g then x.l * y else -(x.l * y)) := fun y => by
        unfold pacT
        split
        · grind
        · split <;> grind
      split
      · rename_i hy
        have hw : x.l * (t' - t) < ab g := by
          rw [← ea]
          exact (Rat.mul_lt_mul_left l0).mpr hy
        rw [ep]
        generalize x.l * (t' - t) = w at w0 hw
        generalize x.d * (t' - t) = c at g1 g2
        rw [if_neg (show ¬ ab g + (v - u) / 2 - w < (v - u) / 2 by grind)]
        unfold ab at hw ⊢
        constructor <;> grind
      · rename_i hy
        rw [ep, ea]
        generalize x.l * (t' - t) = w at w0
        generalize x.d * (t' - t) = c at g1 g2
        unfold ab
        constructor <;> grind
    · refine ⟨_, rfl, by show (v - u) / 2 ≤ half; grind, by show (v - u) / 2 ≤ ab g + (v - u) / 2; grind, ?_⟩
      show ab g + (v - u) / 2 ≤ b
      unfold ab
      split <;> grind
/-- a turn to a span that holds the truth -/
theorem hon_trn {t p q tr half : Rat} (ok : AgOk x) (h1 : nowT st t - tr ≤ bndT x st t) (h2 : tr - nowT st t ≤ bndT x st t) (p1 : p ≤ tr) (p2 : tr ≤ q) (pq : q - p ≤ half + half) : Hon x (trn x st t (some (some p, some q))).1 tr ∧ Bdd x (trn x st t (some (some p, some q))).1 (bndT x st t) half := by
  obtain ⟨u, v, e, u1, u2, k1, k2, k3⟩ := knT_in p1 p2 h1 h2
  show Hon x (trnU x t (nowT st t) (knT p q (nowT st t) (bndT x st t))).1 tr ∧ _
  rw [show trn x st t (some (some p, some q)) = trnU x t (nowT st t) (knT p q (nowT st t) (bndT x st t)) from rfl, e]
  exact hon_turn ok u1 u2 k1 k2 (by grind)
/-- the bounds from the told number of laps on are at most the goal -/
theorem laps_after {y : A6} (G : Good y) {g : Rat} (hg : ahead y ≤ g) {m : Int} (h : lapsP y g = some m) : 0 ≤ m ∧ ∀ j : Int, m ≤ j → after y j ≤ g := by
  have gp := G.gp
  unfold lapsP at h
  split at h
  · rename_i h1
    cases h
    refine ⟨Int.le_refl 0, fun j hj => ?_⟩
    exact Rat.not_lt.mp (after_le (x := y) G y.b h1 hg j hj)
  · rename_i h1
    rw [if_neg (Rat.not_lt.mpr hg)] at h
    have h1 : g < y.b := Rat.not_le.mp h1
    obtain ⟨t, ht⟩ : ∃ t, t = (g - y.b) / gain y := ⟨_, rfl⟩
    have te : t * gain y = g - y.b := by
      rw [ht]
      exact Rat.div_mul_cancel (by grind)
    rw [← ht] at h
    have hm : m = -t.floor := by cases h; rfl
    have f1 := Rat.floor_le t
    have ek : ((t.floor : Int) : Rat) = -(m : Rat) := by rw [hm]; push_cast; grind
    rw [ek] at f1
    have m1 : -(m : Rat) * gain y ≤ t * gain y := Rat.mul_le_mul_of_nonneg_right f1 (by grind)
    have tneg : t < 0 := by
      by_cases z : t < 0
      · exact z
      · exfalso
        have := mul_nn (Rat.not_lt.mp z) (show (0 : Rat) ≤ gain y by grind)
        grind
    have m0 : 0 < m := by
      have : (0 : Rat) < (m : Rat) := by grind
      exact_mod_cast this
    refine ⟨by omega, fun j hj => ?_⟩
    have hj' : (m : Rat) ≤ (j : Rat) := by exact_mod_cast hj
    have m2 : (m : Rat) * gain y ≤ (j : Rat) * gain y := Rat.mul_le_mul_of_nonneg_right hj' (by grind)
    unfold after mx
    rw [if_neg (by omega), neg_gain]
    split <;> grind
/-- the k-th of the bounds -/
def bnds (y : A6) : Nat → Rat
  | 0 => y.b
  | k + 1 => nextB y (bnds y k)
theorem bnds_after {y : A6} (G : Good y) : ∀ k : Nat, bnds y k = after y k
  | 0 => rfl
  | k + 1 => by
    show nextB y (bnds y k) = _
    rw [bnds_after G k]
    have := after_next (x := y) G y.b k (by omega)
    rw [show ({ y with b := y.b } : A6) = y from rfl] at this
    rw [this]
    rfl
theorem bnds_nn {y : A6} (G : Good y) : ∀ k : Nat, 0 ≤ bnds y k := fun k => by rw [bnds_after G]; exact after_nn G k
end Vk

set_option maxHeartbeats 4000000
namespace Vk
open PySem L2 Vm Vl Vs
variable {l aZERO aONE aHALF aDR C CB CR CE CT fB fR fT : Addr} {P : Program} {w : World} {K : PySem.W.Frag} {mg : Str → Option Value} {base : Heap} {k n : Nat} {f f1 f2 f3 f4 f5 f6 f7 f8 f9 f10 f11 f12 : Addr} {fd fd1 fd2 fd3 fd4 fd5 fd6 fd7 fd8 fd9 fd10 fd11 fd12 : FuncData}
abbrev s_floor_of : Stmt := top 23
abbrev N_floor_of : List Str := ["a"]
theorem sc_floor_of : FnScope N_floor_of ["a"] (defScope s_floor_of) := ⟨rfl, rfl, rfl, by decide +kernel, rfl, by decide +kernel, by decide +kernel⟩
abbrev ps_floor_of : List Str := ["a"]
theorem ok_floor_of (F : Fn K mg "floor_of" s_floor_of ps_floor_of f fd) : Def P w K mg base (k + 1) "floor_of" ps_floor_of (fun vs H Q _ => ∃ (x : V) (q : Rat) (m : Nat), vs = [x] ∧ Rq K H x q ∧ Sz m q ∧ m ≤ 9000 ∧ Q (.int q.floor) H) f fd := by
  refine ⟨F.F.ok sc_floor_of (fun vs H Q E h => ?_) (fun cdv A outer s H vs Q E hr h => ?_), F.m, F.F.kp, F.b⟩
  · obtain ⟨_, _, _, rfl, _⟩ := h
    rfl
  obtain ⟨x, q, m, rfl, ⟨a, rfl, ha⟩, zq, hm, z⟩ := h
  refine ⟨_, (pss_one (ps_ret (pe_op op_fdivW (pe_ix ix_tup (pv 0) pe_int (fun _ _ => rfl)) (pe_ix ix_tup (pv 0) pe_int (fun _ _ => rfl))))), ?_⟩
  have dp := q.den_pos
  refine ⟨_, rfl, a, _, _, _, rfl, rfl, ha, at0 rfl, _, rfl, a, _, _, _, rfl, rfl, ha, at1 rfl, _, _, rfl, rfl, wide_div (by omega) (dA zq) (nn zq) hm, ?_⟩
  rw [Rat.floor_def] at z
  exact z
def lapV : Option Int → V
  | none => .non
  | some k => .int k
def spUntil (K : PySem.W.Frag) (CB CR : Addr) : Sp := fun vs H Q E => ∃ (xb xh xg xl xs xd : V) (x : A6) (g : Rat) (m : Nat), vs = [xb, xh, xg, xl, xs, xd] ∧ L5 K H xb xh xl xs xd x m ∧ Rq K H xg g ∧ Sz m g ∧ m ≤ 1500 ∧ (Good x → ∀ H', Same H H' → Q (lapV (lapsP x g)) H') ∧ Fault x (eF E CB CR H [xb, xh, xl, xs, xd])
abbrev s_laps_until : Stmt := top 44
abbrev N_laps_until : List Str := ["bound", "half", "goal", "lap", "slew", "drift", "gain"]
theorem sc_laps_until : FnScope N_laps_until ["bound", "half", "goal", "lap", "slew", "drift"] (defScope s_laps_until) := ⟨rfl, rfl, rfl, by decide +kernel, rfl, by decide +kernel, by decide +kernel⟩
abbrev ps_laps_until : List Str := ["bound", "half", "goal", "lap", "slew", "drift"]
theorem ok_laps_until (F : FnK K mg "laps_until" s_laps_until f fd) (hb : KBn K fd ps_laps_until 3 ["lap", "slew", "drift"] (fun us ws => us ++ ws) (fun vs zs => vs ++ zs)) (d_require_lap : DefY P w K mg base k "_require_lap" ["bound", "half", "lap", "slew", "drift"] (spLap K CB CR) f1 fd1) (dcompare : Def P w K mg base k "compare" ["a", "b"] (spTest2 K fun p q => .int (sg p q)) f2 fd2)
    (dadd : Def P w K mg base k "add" ["a", "b"] (spOp2 K (· + ·)) f3 fd3) (dmultiply : Def P w K mg base k "multiply" ["a", "b"] (spOp2 K (· * ·)) f4 fd4) (dsubtract : Def P w K mg base k "subtract" ["a", "b"] (spOp2 K (· - ·)) f5 fd5) (dfloor_of : Def P w K mg base k "floor_of" ["a"] (fun vs H Q _ => ∃ (x : V) (q : Rat) (m : Nat), vs = [x] ∧ Rq K H x q ∧ Sz m q ∧ m ≤ 9000 ∧ Q (.int q.floor) H) f6 fd6) (ddivide : Def P w K mg base k "divide" ["a", "b"] (spDiv K) f7 fd7) :
    DefYN P w K mg base (k + 1) "laps_until" ps_laps_until 3 ["lap", "slew", "drift"] (spUntil K CB CR) f fd := by
  refine ⟨okY F.F sc_laps_until (fun vs H Q E h => ?_) (fun cdv A outer s H vs Q E hr h => ?_), F.m, F.F.kp, hb⟩
  · obtain ⟨_, _, _, _, _, _, _, _, _, rfl, _⟩ := h
    rfl
  obtain ⟨xb, xh, xg, xl, xs, xd, x, g, m, rfl, L, hg, zg, hm, z, fl⟩ := h
  refine ⟨_, (pss_cons (ps_expr (pcallY d_require_lap hr (L2N.takes_of rfl rfl rfl rfl) (pa_cons (pv 0) (pa_cons (pv 1) (pa_cons (pv 3) (pa_cons (pv 4) (pa_cons (pv 5) pa_nil)))))))
      (pss_cons (ps_if (pt_cmpR op_le (pcall dcompare hr (pa_cons (pv 0) (pa_cons (pv 2) pa_nil))) pe_int (nomark _))
        (pss_one (ps_ret pe_int))
        pss_nil)
      (pss_cons (ps_if (pt_cmpR op_lt (pcall dcompare hr (pa_cons (pv 2) (pa_cons (pcall dadd hr (pa_cons (pv 1) (pa_cons (pcall dmultiply hr (pa_cons (pv 5) (pa_cons (pv 3) pa_nil))) pa_nil))) pa_nil))) pe_int (nomark _))
        (pss_one (ps_ret pe_non))
        pss_nil)
      (pss_cons (ps_set (i := 6) sc_laps_until.nd rfl (Or.inl rfl) (pcall dmultiply hr (pa_cons (pcall dsubtract hr (pa_cons (pv 4) (pa_cons (pv 5) pa_nil))) (pa_cons (pv 3) pa_nil))))
      (pss_one (ps_ret (pe_un un_neg (pcall dfloor_of hr (pa_cons (pcall ddivide hr (pa_cons (pcall dsubtract hr (pa_cons (pv 2) (pa_cons (pv 0) pa_nil))) (pa_cons (pv 6) pa_nil))) pa_nil))))))))), ?_⟩
  refine ⟨_, rfl, _, rfl, _, rfl, _, rfl, _, rfl, xb, xh, xl, xs, xd, x, m, rfl, L, by omega, fun G => ?_, fl⟩
  have z := z G
  refine ⟨_, rfl, _, rfl, _, _, x.b, g, m, m, rfl, L.b, hg, L.zb, zg, by omega, _, _, rfl, rfl, _, rfl, ifD (fun c => ?_) (fun c => ?_)⟩
  · have e : lapsP x g = some 0 := by unfold lapsP; rw [if_pos (sg_le'.mp c)]
    rw [e] at z
    exact z _ (Same.refl _)
  have c1 : ¬ x.b ≤ g := fun e => c (sg_le'.mpr e)
  refine ⟨_, rfl, _, rfl, _, rfl, _, rfl, _, _, x.d, x.l, m, m, rfl, L.d, L.l, L.zd, L.zl, by omega, fun v1 H1 e1 h1 => ?_⟩
  refine ⟨_, _, x.h, x.d * x.l, m, m + m, rfl, L.h.same e1, h1, L.zh, L.zd.mul L.zl, by omega, fun v2 H2 e2 h2 => ?_⟩
  have e12 := e1.trans e2
  have za : Sz (m + (m + m) + 1) (ahead x) := L.zh.add (L.zd.mul L.zl)
  refine ⟨_, _, g, ahead x, m, _, rfl, hg.same e12, h2, zg, za, by omega, _, _, rfl, rfl, _, rfl, ifD (fun c => ?_) (fun c => ?_)⟩
  · have e : lapsP x g = none := by unfold lapsP; rw [if_neg c1, if_pos (sg_lt.mp c)]
    rw [e] at z
    exact z _ e12
  have c2 : ¬ g < ahead x := fun e => c (sg_lt.mpr e)
  refine ⟨_, rfl, _, rfl, _, _, x.s, x.d, m, m, rfl, L.s.same e12, L.d.same e12, L.zs, L.zd, by omega, fun v3 H3 e3 h3 => ?_⟩
  have e13 := e12.trans e3
  refine ⟨_, rfl, _, _, x.s - x.d, x.l, _, m, rfl, h3, L.l.same e13, L.zs.sub L.zd, L.zl, by omega, fun v4 H4 e4 h4 => ?_⟩
  have e14 := e13.trans e4
  have zgn : Sz (m + m + 1 + m) (gain x) := (L.zs.sub L.zd).mul L.zl
  refine ⟨_, rfl, _, rfl, _, _, g, x.b, m, m, rfl, hg.same e14, L.b.same e14, zg, L.zb, by omega, fun v5 H5 e5 h5 => ?_⟩
  refine ⟨_, rfl, _, _, g - x.b, gain x, _, _, rfl, h5, Rq.same e5 h4, zg.sub L.zb, zgn, by omega, G.gp, fun v6 H6 e6 h6 => ?_⟩
  refine ⟨v6, _, _, rfl, h6, (zg.sub L.zb).div zgn G.gp, by omega, ?_⟩
  have e : lapsP x g = some (-((g - x.b) / gain x).floor) := by unfold lapsP; rw [if_neg c1, if_neg c2]
  rw [e] at z
  exact ⟨_, rfl, z _ (e14.trans (e5.trans e6))⟩
end Vk

set_option maxHeartbeats 4000000
namespace Vk
open PySem L2 Vm Vl Vs
variable {x : Ag} {r : Sr} {st : Ls}
theorem lat9 {x : Ag} {n : Nat} (ok : AgOk x) (h : n ≤ 7) : Lat 160 (Mn x (n + 2)) (Bn' (n + 1)) := by
  have h1 : 0 < x.l.den := x.l.den_pos
  have h2 : 0 < x.d.den := x.d.den_pos
  have z1 : x.l.den < 2 ^ 24 := ok.zl.2
  have z2 : x.d.den < 2 ^ 24 := ok.zd.2
  have p1 : 2 ^ (n + 2) ≤ 2 ^ 9 := Nat.pow_le_pow_right (by decide) (by omega)
  have p2 : 32 ^ (n + 1) ≤ 32 ^ 8 := Nat.pow_le_pow_right (by decide) (by omega)
  have m1 : x.l.den * x.d.den ≤ 2 ^ 24 * 2 ^ 24 := Nat.mul_le_mul (by omega) (by omega)
  have m2 : S2 x ≤ LL * (2 ^ 24 * 2 ^ 24) := Nat.mul_le_mul_left _ m1
  have m3 : Mn x (n + 2) ≤ 2 ^ 9 * (LL * (2 ^ 24 * 2 ^ 24)) := Nat.mul_le_mul p1 m2
  have m4 : Bn' (n + 1) ≤ 32 ^ 8 * 512 := Nat.mul_le_mul_right _ p2
  have m5 : 2 * Mn x (n + 2) * (64 * Bn' (n + 1)) ≤ 2 * (2 ^ 9 * (LL * (2 ^ 24 * 2 ^ 24))) * (64 * (32 ^ 8 * 512)) := Nat.mul_le_mul (Nat.mul_le_mul_left _ m3) (Nat.mul_le_mul_left _ m4)
  refine ⟨?_, Nat.lt_of_le_of_lt m5 (by decide +kernel), ?_⟩
  · unfold Mn S2
    have : 0 < 2 ^ (n + 2) := Nat.two_pow_pos _
    exact Nat.mul_ne_zero (by omega) (Nat.mul_ne_zero (by decide) (Nat.mul_ne_zero (by omega) (by omega)))
  · unfold Bn'
    have : 0 < 32 ^ (n + 1) := Nat.pow_pos (by decide)
    omega
theorem bn9 (n : Nat) : 16384 ≤ Bn' (n + 1) := by unfold Bn'; rw [Nat.pow_succ]; have : 0 < 32 ^ n := Nat.pow_pos (by decide); omega
/-- from 4 S2 on -/
theorem fx_up {n B : Nat} {q : Rat} (h : Fx (Mn x 2) B q) : Fx (Mn x (n + 2)) B q := by
  have e := h.lift (2 ^ n)
  have : Mn x 2 * 2 ^ n = Mn x (n + 2) := by unfold Mn; rw [Nat.pow_add]; grind
  rw [this] at e
  exact e
theorem fx_up1 {B : Nat} {q : Rat} (h : Fx (Mn x 1) B q) : Fx (Mn x 2) B q := by
  have e := h.lift 2
  have : Mn x 1 * 2 = Mn x 2 := by unfold Mn; grind
  rw [this] at e
  exact e
theorem fx_half {n B : Nat} {q : Rat} (h : Fx (Mn x n) B q) : Fx (Mn x (n + 1)) B (q * mkRat 1 2) := by
  have e := h.half
  rw [Nat.mul_comm, mn_succ] at e
  exact e
/-- the steering after n turns, lap after lap -/
structure A9 (x : Ag) (n : Nat) (r : Sr) (st : Ls) : Prop where
  R : Rl 600 x r st
  I : Inv x (Mn x (n + 2)) (Bn' (n + 1)) st
  ra : Fx LL 512 st.ra
  len : r.c.length ≤ 2 * n + 1
theorem A9.zero (ok : AgOk x) (f0 : Fx LL 512 x.r) (h : Fx LL 512 (x.s - x.r)) (h2 : Fx (Mn x 2) 16384 x.e) : A9 x 0 (sr0 x) (ls0 x) := by
  have hb := bn9 0
  refine ⟨rl0 (by decide) ok, ⟨(fx_LL h).mono (by omega), ⟨0, Fx.zero.mono (Nat.zero_le _), Rat.le_refl, by show (0 : Rat) = 0 / x.l; grind⟩, .inl rfl, ?_, ok.e0, nofun⟩, f0, by show 1 ≤ 1; decide⟩
  exact h2.mono hb
theorem A9.up {n : Nat} {t p q : Rat} (A : A9 x n r st) (ok : AgOk x) (hn : n ≤ 6) (ht : st.ra ≤ t) (ft : Fx LL 512 t) (fd : Fx LL 512 (t - st.ra)) (h1 : Fx (Mn x 2) 16384 (p - t)) (h2 : Fx (Mn x 2) 16384 (q - t)) (pq : p ≤ q) (zs : SSz 700 (some p, some q)) :
    StOk r t (nowT st t) (some (some p, some q)) ∧ A9 x (n + 1) (strS r t (nowT st t) (some (some p, some q))) (trn x st t (some (some p, some q))).1 := by
  have L := lat9 ok (show n ≤ 7 by omega)
  have hb := bn9 n
  have hl : Fx (Mn x (n + 2)) (Bn' (n + 1)) (x.l * (t - st.ra)) := (fx_l ok fd).mono (by omega)
  have hd : Fx (Mn x (n + 2)) (Bn' (n + 1)) (x.d * (t - st.ra)) := (fx_d ok fd).mono (by omega)
  have hr : Fx (Mn x (n + 2)) (Bn' (n + 1)) t := (fx_LL ft).mono (by omega)
  have hs' : SpF (Mn x (n + 2)) (Bn' (n + 1)) t (some (some p, some q)) := ⟨fun p q e => by cases e; exact ⟨(fx_up h1).mono hb, (fx_up h2).mono hb, pq⟩⟩
  obtain ⟨T, am⟩ := turnI (by decide) L A.R A.I ok ht hl hd hr hs'
  have I' := A.I.turn ok ht hl hd hs'
  rw [mn_succ, bn_succ] at I'
  exact ⟨st_okS (by decide) (by decide) L A.R A.I ok ht hl hd hr hs' (fun s e => by cases e; exact zs) (by have := A.len; omega), ⟨T.rl, I', by rw [trn_ra]; exact ft, by have := T.len; have := A.len; omega⟩⟩
theorem A9.zs {n : Nat} (A : A9 x n r st) (ok : AgOk x) (hn : n ≤ 7) : Sz 160 r.la ∧ Sz 160 r.bd ∧ Sz 160 r.hf ∧ Sz 60 r.sl ∧ Sz 60 r.dr := by
  have L := lat9 ok hn
  have hb := bn9 n
  refine ⟨?_, ?_, ?_, ?_, ?_⟩
  · rw [A.R.la]; exact L.sz (fx_LL A.ra) (by omega)
  · rw [A.R.bd]; exact A.I.zbo L
  · rw [A.R.hf]; exact A.I.zha L
  · rw [A.R.sl]; exact ok.zl.mono (by decide)
  · rw [A.R.dr]; exact ok.zd.mono (by decide)
/-- over 4 S2 and small: so many bits -/
theorem fx_sz9 {q : Rat} (ok : AgOk x) (h : Fx (Mn x 2) 16384 q) : Sz 130 q := by
  have h1 : 0 < x.l.den := x.l.den_pos
  have h2 : 0 < x.d.den := x.d.den_pos
  have z1 : x.l.den < 2 ^ 24 := ok.zl.2
  have z2 : x.d.den < 2 ^ 24 := ok.zd.2
  have m1 : x.l.den * x.d.den ≤ 2 ^ 24 * 2 ^ 24 := Nat.mul_le_mul (by omega) (by omega)
  have m2 : S2 x ≤ LL * (2 ^ 24 * 2 ^ 24) := Nat.mul_le_mul_left _ m1
  have m3 : Mn x 2 ≤ 2 ^ 2 * (LL * (2 ^ 24 * 2 ^ 24)) := Nat.mul_le_mul (Nat.le_refl _) m2
  refine h.sz ?_ (Nat.lt_of_le_of_lt (Nat.mul_le_mul_right _ m3) (by decide +kernel)) (Nat.lt_of_le_of_lt m3 (by decide +kernel))
  unfold Mn S2
  exact Nat.mul_ne_zero (by decide) (Nat.mul_ne_zero (by decide) (Nat.mul_ne_zero (by omega) (by omega)))
end Vk

set_option maxHeartbeats 4000000
namespace Vk
open PySem L2 Vm Vl Vs
variable {l aZERO aONE aHALF aDR C CB CR CE CT fB fR fT : Addr} {P : Program} {w : World} {K : PySem.W.Frag} {mg : Str → Option Value} {base : Heap} {k n : Nat} {f f1 f2 f3 f4 f5 f6 f7 f8 f9 f10 f11 f12 : Addr} {fd fd1 fd2 fd3 fd4 fd5 fd6 fd7 fd8 fd9 fd10 fd11 fd12 : FuncData}
def dueP (b g a n : Rat) : Option Int := if b ≤ g then some 0 else if g < a then none else some (-((g - b) / n).floor)
def spDue (K : PySem.W.Frag) : Sp := fun vs H Q _ => ∃ (xs xg xb xn : V) (b g a n : Rat) (m : Nat), vs = [xs, xg, xb, xn] ∧ Rq K H xs b ∧ Rq K H xg g ∧ Rq K H xb a ∧ Rq K H xn n ∧ Sz m b ∧ Sz m g ∧ Sz m a ∧ Sz m n ∧ m ≤ 500 ∧ 0 < n ∧ ∀ H', Same H H' → Q (lapV (dueP b g a n)) H'
abbrev s__law_due_laps : Stmt := top 68
abbrev N__law_due_laps : List Str := ["_law_spread", "_law_goal_here", "_law_base", "_law_gain", "_law_share"]
theorem sc__law_due_laps : FnScope N__law_due_laps ["_law_spread", "_law_goal_here", "_law_base", "_law_gain"] (defScope s__law_due_laps) := ⟨rfl, rfl, rfl, by decide +kernel, rfl, by decide +kernel, by decide +kernel⟩
abbrev ps__law_due_laps : List Str := ["_law_spread", "_law_goal_here", "_law_base", "_law_gain"]
theorem ok_due_laps (F : Fn K mg "_law_due_laps" s__law_due_laps ps__law_due_laps f fd) (d_law_below : Def P w K mg base k "_law_below" ["_law_a", "_law_b"] (spTest2 K fun p q => .bl (decide (p < q))) f1 fd1) (d_law_minus : Def P w K mg base k "_law_minus" ["_law_a", "_law_b"] (spOp2 K (· - ·)) f2 fd2)
    (d_law_over : Def P w K mg base k "_law_over" ["_law_a", "_law_b"] (spDiv K) f3 fd3) : Def P w K mg base (k + 1) "_law_due_laps" ps__law_due_laps (spDue K) f fd := by
  refine ⟨F.F.ok sc__law_due_laps (fun vs H Q E h => ?_) (fun cdv A outer s H vs Q E hr h => ?_), F.m, F.F.kp, F.b⟩
  · obtain ⟨_, _, _, _, _, _, _, _, _, rfl, _⟩ := h
    rfl
  obtain ⟨xs, xg, xb, xn, b, g, a, n, m, rfl, hs, hg, hb, hn, zs, zg, zb, zn, hm, n0, z⟩ := h
  refine ⟨_, (pss_cons (ps_if (pt_not (pt_val (pcall d_law_below hr (pa_cons (pv 1) (pa_cons (pv 0) pa_nil)))))
        (pss_one (ps_ret pe_int))
        pss_nil)
      (pss_cons (ps_if (pt_val (pcall d_law_below hr (pa_cons (pv 1) (pa_cons (pv 2) pa_nil))))
        (pss_one (ps_ret pe_non))
        pss_nil)
      (pss_cons (ps_set (i := 4) sc__law_due_laps.nd rfl (Or.inl rfl) (pcall d_law_over hr (pa_cons (pcall d_law_minus hr (pa_cons (pv 0) (pa_cons (pv 1) pa_nil))) (pa_cons (pv 3) pa_nil))))
      (pss_one (ps_ret (pe_op op_sub pe_int (pe_op op_fdivW (pe_op op_sub pe_int (pe_ix ix_tup (pv 4) pe_int (fun _ _ => rfl))) (pe_ix ix_tup (pv 4) pe_int (fun _ _ => rfl))))))))), ?_⟩
  by_cases c1 : g < b
  · have nb : ¬ b ≤ g := Rat.not_le.mpr c1
    by_cases c2 : g < a
    · rw [show dueP b g a n = none by unfold dueP; rw [if_neg nb, if_pos c2]] at z
      (walk_at "vk_vc")
      exact z _ (Same.refl _)
    · have ne : (g - b) / n = -((b - g) / n) := by grind
      rw [show dueP b g a n = some (-((g - b) / n).floor) by unfold dueP; rw [if_neg nb, if_neg c2], ne, Rat.floor_def, Rat.neg_num, Rat.neg_den] at z
      have zq : Sz (m + m + 1 + m) ((b - g) / n) := (zs.sub zg).div zn n0
      (walk_at "vk_vc")
      · exact Int.natCast_pos.mpr (Rat.den_pos _)
      · exact (wide_div (i := 0) (b := m + m + 1 + m) (by have := Rat.den_pos ((b - g) / n); omega) (dA zq) (nn zq) (by omega)).2
      · rename_i eA hA hA' 
        show Q (.int (0 - (0 - ((b - g) / n).num) / (((b - g) / n).den : Int))) _
        rw [Int.zero_sub, Int.zero_sub]
        exact z _ (by focus exact (by (walk_at "vk_same")))
  · rw [show dueP b g a n = some 0 by unfold dueP; rw [if_pos (Rat.not_lt.mp c1)]] at z
    (walk_at "vk_vc")
    exact z _ (Same.refl _)
end Vk

set_option maxHeartbeats 4000000
namespace Vk
open PySem L2 Vm Vl Vs
variable {l aZERO aONE aHALF aDR C CB CR CE CT fB fR fT : Addr} {P : Program} {w : World} {K : PySem.W.Frag} {mg : Str → Option Value} {base : Heap} {k n : Nat} {f f1 f2 f3 f4 f5 f6 f7 f8 f9 f10 f11 f12 : Addr} {fd fd1 fd2 fd3 fd4 fd5 fd6 fd7 fd8 fd9 fd10 fd11 fd12 : FuncData}
/-- times, where the second factor's pair need not be in lowest terms -/
def spTimesN (K : PySem.W.Frag) : Sp := fun vs H Q _ => ∃ (x : V) (b : Addr) (p : Rat) (n d : Int) (m : Nat), vs = [x, .ref b] ∧ Rq K H x p ∧ SqT K H b [.int n, .int d] ∧ Sz m p ∧ 0 < d ∧ n.natAbs < 1024 ∧ d.natAbs < 1024 ∧ m ≤ 3900 ∧ ∀ v H', Same H H' → Rq K H' v (p * mkRat n d.toNat) → Q v H'
theorem ok_timesN (F : Fn K mg "_law_times" s__law_times ps__law_times f fd) (d_law_frac : Def P w K mg base k "_law_frac" ["_law_n", "_law_d"] (spFrac K) f1 fd1) : Def P w K mg base (k + 1) "_law_times" ps__law_times (spTimesN K) f fd := by
  refine ⟨F.F.ok sc__law_times (fun vs H Q E h => ?_) (fun cdv A outer s H vs Q E hr h => ?_), F.m, F.F.kp, F.b⟩
  · obtain ⟨x, b, p, n, d, m, rfl, _⟩ := h
    rfl
  obtain ⟨x, b, p, n, d, m, rfl, ⟨a, rfl, ha⟩, hb, zp, d0, zn, zd, hm, z⟩ := h
  have e10 : (2 : Nat) ^ 10 = 1024 := by decide
  rw [← e10] at zn zd
  have l0 : 0 < 10 := by decide
  have m0 := nn zp
  refine ⟨_, (pss_one (ps_ret (pcall d_law_frac hr (pa_cons (pe_op op_mulW (pe_ix ix_tup (pv 0) pe_int (fun _ _ => rfl)) (pe_ix ix_tup (pv 1) pe_int (fun _ _ => rfl))) (pa_cons (pe_op op_mulW (pe_ix ix_tup (pv 0) pe_int (fun _ _ => rfl)) (pe_ix ix_tup (pv 1) pe_int (fun _ _ => rfl))) pa_nil))))), ?_⟩
  refine ⟨_, rfl, a, _, _, _, rfl, rfl, ha, at0 rfl, _, rfl, b, _, _, _, rfl, rfl, hb, at0 rfl, _, _, rfl, rfl, mulW zp.1 zn m0 l0 (by omega), ?_⟩
  refine ⟨_, rfl, a, _, _, _, rfl, rfl, ha, at1 rfl, _, rfl, b, _, _, _, rfl, rfl, hb, at1 rfl, _, _, rfl, rfl, mulW (dA zp) zd m0 l0 (by omega), ?_⟩
  refine ⟨_, _, m + 10 + 1, rfl, Int.mul_pos (Int.natCast_pos.mpr p.den_pos) d0, ab_up (ab_mul zp.1 zn) (by omega), ab_up (ab_mul (dA zp) zd) (by omega), by omega, fun r H' e hr => z r H' e ?_⟩
  have e : p * mkRat n d.toNat = mkRat (p.num * n) ((p.den : Int) * d).toNat := by
    rw [show ((p.den : Int) * d).toNat = p.den * d.toNat by
      obtain ⟨d', rfl⟩ := Int.eq_ofNat_of_zero_le (Int.le_of_lt d0)
      rw [← Int.natCast_mul, Int.toNat_natCast, Int.toNat_natCast], ← Rat.mkRat_mul_mkRat, Rat.mkRat_self]
  rw [e]
  exact hr
def spRound (K : PySem.W.Frag) (l : Addr) : Sp := fun vs H Q _ => ∃ (s : Addr) (xt xh : V) (tr half : Rat), vs = [.ref s, xt, xh] ∧ Sto l s H ∧ Rq K H xt tr ∧ Rq K H xh half ∧ Sz 300 tr ∧ Sz 5 half ∧
  ∀ (v : V) H' (i j : Int), 0 ≤ i → 0 ≤ j → i + j ≤ 8 → oSp K H' v (some (some (tr - half * mkRat i 4), some (tr + half * mkRat j 4))) → Sto l s H' → Fr s H H' → Q v H'
abbrev s__law_round : Stmt := top 71
abbrev N__law_round : List Str := ["_law_store_here", "_law_truth", "_law_half", "_law_down", "_law_up"]
theorem sc__law_round : FnScope N__law_round ["_law_store_here", "_law_truth", "_law_half"] (defScope s__law_round) := ⟨rfl, rfl, rfl, by decide +kernel, rfl, by decide +kernel, by decide +kernel⟩
abbrev ps__law_round : List Str := ["_law_store_here", "_law_truth", "_law_half"]
theorem ok_round (F : Fn K mg "_law_round" s__law_round ps__law_round f fd) (d_law_take : Def P w K mg base k "_law_take" ["_law_store_here", "_law_many"] (spTake K l) f1 fd1) (d_law_minus : Def P w K mg base k "_law_minus" ["_law_a", "_law_b"] (spOp2 K (· - ·)) f2 fd2)
    (d_law_times : Def P w K mg base k "_law_times" ["_law_a", "_law_b"] (spTimesN K) f3 fd3) (d_law_plus : Def P w K mg base k "_law_plus" ["_law_a", "_law_b"] (spOp2 K (· + ·)) f4 fd4) : Def P w K mg base (k + 1) "_law_round" ps__law_round (spRound K l) f fd := by
  refine ⟨F.F.ok sc__law_round (fun vs H Q E h => ?_) (fun cdv A outer s H vs Q E hr h => ?_), F.m, F.F.kp, F.b⟩
  · obtain ⟨_, _, _, _, _, rfl, _⟩ := h
    rfl
  obtain ⟨s, xt, xh, tr, half, rfl, hS, ht, hh, zt, zh, z⟩ := h
  refine ⟨_, (pss_cons (ps_set (i := 3) sc__law_round.nd rfl (Or.inl rfl) (pcall d_law_take hr (pa_cons (pv 0) (pa_cons pe_int pa_nil))))
      (pss_cons (ps_set (i := 4) sc__law_round.nd rfl (Or.inl rfl) (pcall d_law_take hr (pa_cons (pv 0) (pa_cons (pe_op op_sub pe_int (pv 3)) pa_nil))))
      (pss_one (ps_ret (pe_tup (pa_cons (pcall d_law_minus hr (pa_cons (pv 1) (pa_cons (pcall d_law_times hr (pa_cons (pv 2) (pa_cons (pe_tup (pa_cons (pv 3) (pa_cons pe_int pa_nil))) pa_nil))) pa_nil))) (pa_cons (pcall d_law_plus hr (pa_cons (pv 1) (pa_cons (pcall d_law_times hr (pa_cons (pv 2) (pa_cons (pe_tup (pa_cons (pv 4) (pa_cons pe_int pa_nil))) pa_nil))) pa_nil))) pa_nil))))))), ?_⟩
  refine ⟨_, rfl, s, 9, rfl, hS, by decide, fun i H1 i0 i1 S1 e1 => ?_⟩
  have p64 : (2 : Int) ^ 64 = 18446744073709551616 := by decide
  refine ⟨_, rfl, _, rfl, _, _, rfl, rfl, s, _, rfl, S1, by omega, fun j H2 j0 j1 S2 e2 => ?_⟩
  have e12 := e1.trans e2
  have ht2 := ht.fr e12 hS.some
  have hh2 := hh.fr e12 hS.some
  have ai : i.natAbs < 1024 := by omega
  have aj : j.natAbs < 1024 := by omega
  have a4 : Int.natAbs 4 < 1024 := by decide
  have szi : ∀ i : Int, i.natAbs < 1024 → Sz 10 (mkRat i 4) := fun i h => sz_mk (by decide) h (by decide)
  have zi : Sz 10 (mkRat i (Int.toNat 4)) := szi i ai
  have zj : Sz 10 (mkRat j (Int.toNat 4)) := szi j aj
  (walk_at "vk_vc")
  refine z _ _ i j i0 j0 (by omega) ⟨p, _, _, rfl, SqT.of upd_same, ?_, ?_⟩ ?_ (e12.trans (Fr.of ?_))
  · show Rq K _ _ ((fun x1 x2 => x1 - x2) tr (half * mkRat i (Int.toNat 4)))
    (walk_at "vk_cl")
  · show Rq K _ _ ((fun x1 x2 => x1 + x2) tr (half * mkRat j (Int.toNat 4)))
    (walk_at "vk_cl")
  · (walk_at "vk_sto")
  · focus exact (by (walk_at "vk_same"))
def spFloor (K : PySem.W.Frag) : Sp := fun vs H Q _ => ∃ (pr : Addr) (xl xd xh xt : V) (y : A6), vs = [.ref pr, xh, xt] ∧ SqT K H pr [xl, xd] ∧ Rq K H xl y.s ∧ Rq K H xd y.d ∧ Rq K H xh y.h ∧ Rq K H xt y.l ∧ Sz 24 y.s ∧ Sz 24 y.d ∧ Sz 5 y.h ∧ Sz 5 y.l ∧
  ∀ (a : Addr) (v1 v2 : V) H', SqT K H' a [v1, v2] → Rq K H' v1 (ahead y) → Rq K H' v2 (gain y) → Same H H' → Q (.ref a) H'
abbrev s__law_floor : Stmt := top 72
abbrev N__law_floor : List Str := ["_law_pair", "_law_half", "_law_turn", "_law_base"]
theorem sc__law_floor : FnScope N__law_floor ["_law_pair", "_law_half", "_law_turn"] (defScope s__law_floor) := ⟨rfl, rfl, rfl, by decide +kernel, rfl, by decide +kernel, by decide +kernel⟩
abbrev ps__law_floor : List Str := ["_law_pair", "_law_half", "_law_turn"]
theorem ok_floor (F : Fn K mg "_law_floor" s__law_floor ps__law_floor f fd) (d_law_plus : Def P w K mg base k "_law_plus" ["_law_a", "_law_b"] (spOp2 K (· + ·)) f1 fd1) (d_law_times : Def P w K mg base k "_law_times" ["_law_a", "_law_b"] (spOp2 K (· * ·)) f2 fd2) (d_law_minus : Def P w K mg base k "_law_minus" ["_law_a", "_law_b"] (spOp2 K (· - ·)) f3 fd3) : Def P w K mg base (k + 1) "_law_floor" ps__law_floor (spFloor K) f fd := by
  refine ⟨F.F.ok sc__law_floor (fun vs H Q E h => ?_) (fun cdv A outer s H vs Q E hr h => ?_), F.m, F.F.kp, F.b⟩
  · obtain ⟨_, _, _, _, _, _, rfl, _⟩ := h
    rfl
  obtain ⟨pr, xl, xd, xh, xt, y, rfl, hp, hl, hd, hh, ht, zl, zd, zh, zt, z⟩ := h
  refine ⟨_, (pss_cons (ps_set (i := 3) sc__law_floor.nd rfl (Or.inl rfl) (pcall d_law_plus hr (pa_cons (pv 1) (pa_cons (pcall d_law_times hr (pa_cons (pe_ix ix_tup (pv 0) pe_int (fun _ _ => rfl)) (pa_cons (pv 2) pa_nil))) pa_nil))))
      (pss_one (ps_ret (pe_tup (pa_cons (pv 3) (pa_cons (pcall d_law_times hr (pa_cons (pcall d_law_minus hr (pa_cons (pe_ix ix_tup (pv 0) pe_int (fun _ _ => rfl)) (pa_cons (pe_ix ix_tup (pv 0) pe_int (fun _ _ => rfl)) pa_nil))) (pa_cons (pv 2) pa_nil))) pa_nil)))))), ?_⟩
  have i0 : atI [xl, xd] 0 = some xl := rfl
  have i1 : atI [xl, xd] 1 = some xd := rfl
  (walk_at "vk_vc")
  refine z _ _ _ _ (SqT.of upd_same) ?_ ?_ (by focus exact (by (walk_at "vk_same")))
  · show Rq K _ _ ((fun x1 x2 => x1 + x2) y.h ((fun x1 x2 => x1 * x2) y.d y.l))
    (walk_at "vk_cl")
  · show Rq K _ _ ((fun x1 x2 => x1 * x2) ((fun x1 x2 => x1 - x2) y.s y.d) y.l)
    (walk_at "vk_cl")
end Vk

set_option maxHeartbeats 4000000
namespace Vk
open PySem L2 Vm Vl Vs
variable {l aZERO aONE aHALF aDR C CB CR CE CT fB fR fT : Addr} {P : Program} {w : World} {K : PySem.W.Frag} {mg : Str → Option Value} {base : Heap} {k n : Nat} {f f1 f2 f3 f4 f5 f6 f7 f8 f9 f10 f11 f12 : Addr} {fd fd1 fd2 fd3 fd4 fd5 fd6 fd7 fd8 fd9 fd10 fd11 fd12 : FuncData}
theorem cutG {t u : TS} {D : Ends} {σ : L2.St} {H : Hp} (mid : L2.St → Hp → Prop) (key : ∀ σ' H', mid σ' H' → u D σ' H') (h : ∀ u' : TS, (∀ σ' H', mid σ' H' → u' D σ' H') → tSeq t u' D σ H) : tSeq t u D σ H := h u key
theorem SgA.sm {o : Addr} {H H' : Hp} {r : Sr} (e : Same H H') (h : SgA K C o H r) : SgA K C o H' r := h.same e
theorem sz_bnds {y : A6} (zb : Sz 120 y.b) (zh : Sz 5 y.h) (zl : Sz 5 y.l) (zs : Sz 24 y.s) (zd : Sz 24 y.d) : ∀ k : Nat, Sz (120 + 61 * k) (bnds y k)
  | 0 => zb
  | k + 1 => by
    have ih := sz_bnds zb zh zl zs zd k
    show Sz _ (nextB y (bnds y k))
    unfold nextB
    split
    · exact ((zd.mul zl).add (ih.sub (zs.mul zl))).mono (by omega)
    · exact ((zd.mul zl).add zh).mono (by omega)
theorem good_fault {x : A6} {W : Bool → Nat → Prop} (G : Good x) : Fault x W := by
  obtain ⟨b0, h0, l0, s0, s1, d0, ds⟩ := G
  exact ⟨fun d => absurd b0 (Rat.not_le.mpr d), fun _ d => absurd h0 (Rat.not_le.mpr d), fun _ _ d => absurd l0 (Rat.not_lt.mpr d), fun _ _ _ d => by
    rcases d with d | d
    · exact absurd s0 (Rat.not_lt.mpr d)
    · exact absurd s1 (Rat.not_lt.mpr d), fun _ _ _ _ _ d => by
    rcases d with d | d
    · exact absurd d0 (Rat.not_le.mpr d)
    · exact absurd ds (Rat.not_lt.mpr d)⟩
def bl (y : A6) (n : Nat) : List Rat := (List.range n).map (bnds y)
theorem bl_len (y : A6) (n : Nat) : (bl y n).length = n := by simp [bl]
theorem bl_succ (y : A6) (n : Nat) : bl y (n + 1) = bl y n ++ [bnds y n] := by unfold bl; rw [List.range_succ, List.map_append]; rfl
theorem bl_at (y : A6) {n k : Nat} (h : k < n) : (bl y n)[k]? = some (bnds y k) := by unfold bl; rw [List.getElem?_map, List.getElem?_range h]; rfl
theorem lastsR : Lasts (Rq K) := fun e hs h => h.fr e hs
def spBnds (K : PySem.W.Frag) : Sp := fun vs H Q _ => ∃ (xs xh xt xl xd : V) (pr : Addr) (n : Nat) (y : A6), vs = [xs, xh, xt, .ref pr, .int n] ∧ Rq K H xs y.b ∧ Rq K H xh y.h ∧ Rq K H xt y.l ∧ SqT K H pr [xl, xd] ∧ Rq K H xl y.s ∧ Rq K H xd y.d ∧ Good y ∧ Sz 120 y.b ∧ Sz 5 y.h ∧ Sz 5 y.l ∧ Sz 24 y.s ∧ Sz 24 y.d ∧ n ≤ 6 ∧
  ∀ (D : Addr) us H', H D = none → Same H H' → H' D = some (.lst us) → All2 (Rq K H') us (bl y (n + 1)) → Q (.ref D) H'
abbrev s__law_bounds : Stmt := top 73
abbrev N__law_bounds : List Str := ["_law_spread", "_law_half", "_law_turn", "_law_pair", "_law_laps_here", "_law_bounds_here", "_law_k", "_law_then", "_law_rest", "_law_due"]
theorem sc__law_bounds : FnScope N__law_bounds ["_law_spread", "_law_half", "_law_turn", "_law_pair", "_law_laps_here"] (defScope s__law_bounds) := ⟨rfl, rfl, rfl, by decide +kernel, rfl, by decide +kernel, by decide +kernel⟩
abbrev ps__law_bounds : List Str := ["_law_spread", "_law_half", "_law_turn", "_law_pair", "_law_laps_here"]
theorem ok_bounds (T : Bn mg) (F : Fn K mg "_law_bounds" s__law_bounds ps__law_bounds f fd) (d_law_minus : Def P w K mg base k "_law_minus" ["_law_a", "_law_b"] (spOp2 K (· - ·)) f1 fd1) (d_law_times : Def P w K mg base k "_law_times" ["_law_a", "_law_b"] (spOp2 K (· * ·)) f2 fd2)
    (d_law_below : Def P w K mg base k "_law_below" ["_law_a", "_law_b"] (spTest2 K fun p q => .bl (decide (p < q))) f3 fd3) (d_law_plus : Def P w K mg base k "_law_plus" ["_law_a", "_law_b"] (spOp2 K (· + ·)) f4 fd4) (d_law_same : Def P w K mg base k "_law_same" ["_law_value", "_law_due"] (spSame K 4) f5 fd5)
    (dbound_after : DefYN P w K mg base k "bound_after" ["bound", "half", "lap", "slew", "drift"] 2 ["lap", "slew", "drift"] (spAfter K CB CR) f6 fd6) : Def P w K mg base (k + 1) "_law_bounds" ps__law_bounds (spBnds K) f fd := by
  refine ⟨F.F.ok sc__law_bounds (fun vs H Q E h => ?_) (fun cdv A outer s H vs Q E hr h => ?_), F.m, F.F.kp, F.b⟩
  · obtain ⟨_, _, _, _, _, _, _, _, rfl, _⟩ := h
    rfl
  obtain ⟨xs, xh, xt, xl, xd, pr, n, y, rfl, hs, hh, ht, hp, hl, hd, G, zb, zh, zt, zl, zd, hn, z⟩ := h
  refine ⟨_, (pss_cons (ps_set (i := 5) sc__law_bounds.nd rfl (Or.inl rfl) (pe_lst (pa_cons (pv 0) pa_nil)))
      (pss_cons (ps_for PassesOwn.never rfl (pi_range1 (by rfl) T.range_ (pa_cons (pv 4) pa_nil)) (pg_name (i := 6) sc__law_bounds.nd rfl (Or.inl rfl))
        (pss_cons (ps_set (i := 7) sc__law_bounds.nd rfl (Or.inl rfl) (pe_ix ix_list (pv 5) (pv 6) (fun _ _ => rfl)))
        (pss_cons (ps_set (i := 8) sc__law_bounds.nd rfl (Or.inl rfl) (pcall d_law_minus hr (pa_cons (pv 7) (pa_cons (pcall d_law_times hr (pa_cons (pe_ix ix_tup (pv 3) pe_int (fun _ _ => rfl)) (pa_cons (pv 2) pa_nil))) pa_nil))))
        (pss_cons (ps_if (pt_val (pcall d_law_below hr (pa_cons (pv 8) (pa_cons (pv 1) pa_nil))))
          (pss_one (ps_set (i := 8) sc__law_bounds.nd rfl (Or.inl rfl) (pv 1)))
          pss_nil)
        (pss_cons (ps_set (i := 9) sc__law_bounds.nd rfl (Or.inl rfl) (pcall d_law_plus hr (pa_cons (pv 8) (pa_cons (pcall d_law_times hr (pa_cons (pe_ix ix_tup (pv 3) pe_int (fun _ _ => rfl)) (pa_cons (pv 2) pa_nil))) pa_nil))))
        (pss_cons (ps_if (pt_not (pt_val (pcall d_law_same hr (pa_cons (pcallYLN dbound_after hr (pa_cons (pv 7) (pa_cons (pv 1) pa_nil)) (pk_cons (pv 2) (pk_cons (pe_ix ix_tup (pv 3) pe_int (fun _ _ => rfl)) (pk_cons (pe_ix ix_tup (pv 3) pe_int (fun _ _ => rfl)) pk_nil)))) (pa_cons (pv 9) pa_nil)))))
          (pss_one (ps_ret pe_non))
          pss_nil)
        (pss_one (ps_expr (pe_bm PySem.F.plainAttrs_list PySem.F.slot_list_append PySem.F.type_list_append mt_append (pv 5) (pa_cons (pv 9) pa_nil))))))))))
      (pss_one (ps_ret (pv 5))))), ?_⟩
  (walk_at "vk_vc")
  revert np
  revert p
  intro D nD
  have gw0 : Gw (Rq K) H D [xs] (bl y 1) (upd H D (.lst [xs])) := ⟨nD, same_new nD _, upd_same, All2.one (hs.same (same_new nD _))⟩
  refine forR (lo := 0) (n := n) (fun i σ G => Hold (∃ (us : List V) (k6 k7 k8 k9 : Option V), σ = [some xs, some xh, some xt, some (.ref pr), some (.int n), some (.ref D), k6, k7, k8, k9] ∧ Gw (Rq K) H D us (bl y (i + 1)) G)) ⟨[xs], none, none, none, none, rfl, gw0⟩ ?_ ?_
  · rintro i σ G1 hi ⟨us, k6, k7, k8, k9, rfl, gw⟩
    have lus : us.length = i + 1 := by rw [gw.all.1, bl_len]
    obtain ⟨u, hu⟩ : ∃ u, us[i]? = some u := ⟨_, List.getElem?_eq_getElem (by omega)⟩
    have hb := gw.all.2 i u _ hu (bl_at y (Nat.lt_succ_self i))
    have zbi := (sz_bnds zb zh zt zl zd i).mono (show 120 + 61 * i ≤ 500 by omega)
    have hh1 := hh.same gw.same
    have ht1 := ht.same gw.same
    have hp1 := gw.same.sqt hp
    have hl1 := hl.same gw.same
    have hd1 := hd.same gw.same
    have hD := gw.at_
    have i0 : atI [xl, xd] 0 = some xl := rfl
    have i1 : atI [xl, xd] 1 = some xd := rfl
    have hat : atI us (0 + (i : Int)) = some u := by rw [Int.zero_add]; exact atI_nat hu
    have gs := Gw.same gw
    dsimp only [gName]
    refine cutG (fun σ' G => σ' = [some xs, some xh, some xt, some (.ref pr), some (.int n), some (.ref D), some (.int (0 + i)), some u, k8, k9] ∧ G = G1) ?_ ?_
    rotate_left
    · intro u' key
      refine ⟨_, rfl, _, rfl, D, us, _, _, rfl, rfl, SqL.of hD, hat, ?_⟩
      exact key _ _ ⟨rfl, rfl⟩
    rintro σ G2 ⟨rfl, rfl⟩
    refine cutG (fun σ' G => ∃ v8, σ' = [some xs, some xh, some xt, some (.ref pr), some (.int n), some (.ref D), some (.int (0 + i)), some u, some v8, k9] ∧ Same G2 G ∧ Rq K G v8 (bnds y i - y.s * y.l)) ?_ ?_
    rotate_left
    · intro u' key
      (walk_at "vk_vc")
      exact key _ _ ⟨_, rfl, by focus exact (by (walk_at "vk_same")), h⟩
    rintro σ G3 ⟨v8, rfl, e3, h8⟩
    have z8 : Sz 600 (bnds y i - y.s * y.l) := (zbi.sub (zl.mul zt)).mono (by decide)
    replace hh1 := hh1.same e3
    replace ht1 := ht1.same e3
    replace hp1 := e3.sqt hp1
    replace hl1 := hl1.same e3
    replace hd1 := hd1.same e3
    replace hb := hb.same e3
    replace gw := Gw.go (R := Rq K) lastsR gw e3
    clear e3 hD gs
    refine cutG (fun σ' G => ∃ v8, σ' = [some xs, some xh, some xt, some (.ref pr), some (.int n), some (.ref D), some (.int (0 + i)), some u, some v8, k9] ∧ Same G3 G ∧ Rq K G v8 (if y.h ≤ bnds y i - y.s * y.l then bnds y i - y.s * y.l else y.h)) ?_ ?_
    rotate_left
    · intro u' key
      by_cases c : bnds y i - y.s * y.l < y.h
      · rw [if_neg (Rat.not_le.mpr c)] at key
        (walk_at "vk_vc")
        exact key _ _ ⟨_, rfl, by focus exact (by (walk_at "vk_same")), by (walk_at "vk_cl")⟩
      · rw [if_pos (Rat.not_lt.mp c)] at key
        (walk_at "vk_vc")
        dsimp only [tNext]
        exact key _ _ ⟨_, rfl, by focus exact (by (walk_at "vk_same")), by (walk_at "vk_cl")⟩
    rintro σ G4 ⟨v8, rfl, e4, h8'⟩
    have z8' : Sz 600 (if y.h ≤ bnds y i - y.s * y.l then bnds y i - y.s * y.l else y.h) := by
      split
      · exact z8
      · exact zh.mono (by decide)
    replace hh1 := hh1.same e4
    replace ht1 := ht1.same e4
    replace hp1 := e4.sqt hp1
    replace hl1 := hl1.same e4
    replace hd1 := hd1.same e4
    replace hb := hb.same e4
    replace gw := Gw.go (R := Rq K) lastsR gw e4
    clear e4 h8
    refine cutG (fun σ' G => ∃ v9, σ' = [some xs, some xh, some xt, some (.ref pr), some (.int n), some (.ref D), some (.int (0 + i)), some u, some v8, some v9] ∧ Same G4 G ∧ Rq K G v9 (bnds y (i + 1))) ?_ ?_
    rotate_left
    · intro u' key
      (walk_at "vk_vc")
      refine key _ _ ⟨_, rfl, by focus exact (by (walk_at "vk_same")), ?_⟩
      rw [show bnds y (i + 1) = (if y.h ≤ bnds y i - y.s * y.l then bnds y i - y.s * y.l else y.h) + y.d * y.l by show nextB y (bnds y i) = _; unfold nextB; exact Rat.add_comm _ _]
      exact h
    rintro σ G5 ⟨v9, rfl, e5, h9⟩
    replace hh1 := hh1.same e5
    replace ht1 := ht1.same e5
    replace hp1 := e5.sqt hp1
    replace hl1 := hl1.same e5
    replace hd1 := hd1.same e5
    replace hb := hb.same e5
    replace gw := Gw.go (R := Rq K) lastsR gw e5
    clear e5 h8'
    have G' : Good ⟨bnds y i, y.h, y.l, y.s, y.d⟩ := ⟨bnds_nn G i, G.h0, G.l0, G.s0, G.s1, G.d0, G.ds⟩
    have L : L5 K G5 u xh xt xl xd ⟨bnds y i, y.h, y.l, y.s, y.d⟩ 500 := ⟨hb, hh1, ht1, hl1, hd1, zbi, zh.mono (by decide), zt.mono (by decide), zl.mono (by decide), zd.mono (by decide)⟩
    refine cutG (fun σ' G => ∃ v8 v9, σ' = [some xs, some xh, some xt, some (.ref pr), some (.int n), some (.ref D), some (.int (0 + i)), some u, some v8, some v9] ∧ Same G5 G ∧ Rq K G v9 (bnds y (i + 1))) ?_ ?_
    rotate_left
    · intro u' key
      refine ⟨_, rfl, _, rfl, _, rfl, _, rfl, pr, _, _, _, rfl, rfl, hp1, at0 rfl, _, rfl, pr, _, _, _, rfl, rfl, hp1, at1 rfl, rfl, rfl, ?_⟩
      refine ⟨u, xh, xt, xl, xd, _, 500, rfl, L, by decide, fun _ v' H' e h => ?_, good_fault G'⟩
      replace h9 := h9.same e
      replace h : Rq K H' v' (bnds y (i + 1)) := h
      (walk_at "vk_vc")
      all_goals exact key _ _ ⟨_, _, rfl, by focus exact (by (walk_at "vk_same")), by (walk_at "vk_cl")⟩
    rintro σ G6 ⟨v8, v9, rfl, e6, h9⟩
    replace gw := Gw.go (R := Rq K) lastsR gw e6
    clear e6 L
    have hDl := gw.at_
    (walk_at "vk_vc")
    refine appGw (R := Rq K) lastsR gw h9 (by rw [sizeLine_eq]; omega) fun gw2 _ => ?_
    show Hold _
    rw [bl_succ y (i + 1)]
    exact ⟨_, _, _, _, _, rfl, gw2⟩
  · rintro σ G1 ⟨us, k6, k7, k8, k9, rfl, gw⟩
    (walk_at "vk_vc")
    exact z _ _ _ gw.fresh gw.same gw.at_ gw.all
end Vk

set_option maxHeartbeats 4000000
namespace Vk
open PySem L2 Vm Vl Vs
variable {l aZERO aONE aHALF aDR C CB CR CE CT fB fR fT : Addr} {P : Program} {w : World} {K : PySem.W.Frag} {mg : Str → Option Value} {base : Heap} {k n : Nat} {f f1 f2 f3 f4 f5 f6 f7 f8 f9 f10 f11 f12 : Addr} {fd fd1 fd2 fd3 fd4 fd5 fd6 fd7 fd8 fd9 fd10 fd11 fd12 : FuncData}
theorem sz_nowC {i j l m : Nat} {c : List Pc} {x a : Rat} (cz : Cz i j l c) (zx : Sz m x) (h : nowf c x = some a) : Sz (j + (l + (m + i + 1)) + 1) a := by
  unfold nowf at h
  obtain ⟨p, hp, rfl⟩ := Option.map_eq_some_iff.mp h
  have hm := (List.mem_filter.mp (List.mem_of_getLast? hp)).1
  obtain ⟨z1, z2, z3⟩ := cz p hm
  exact z2.add (z3.mul (zx.sub z1))
theorem sz_errS {r : Sr} {t : Rat} {m : Nat} (zt : Sz m t) (h1 : Sz m r.la) (h2 : Sz m r.bd) (h3 : Sz m r.hf) (h4 : Sz m r.sl) (h5 : Sz m r.dr) : Sz (7 * m + 4) (errS r t) := by
  have zu : Sz (m + m + 1) (t - r.la) := zt.sub h1
  have zb : Sz (4 * m + 2) (r.bd - r.sl * (t - r.la)) := (h2.sub (h4.mul zu)).mono (by omega)
  unfold errS nextB
  dsimp only
  split
  · exact ((h5.mul zu).add zb).mono (by omega)
  · exact ((h5.mul zu).add h3).mono (by omega)
/-- what is asked of a steering that is looked at -/
structure Wt (r : Sr) (t tr b v : Rat) : Prop where
  now : nowf r.c t = some v
  la : r.la ≤ t
  eb : errS r t ≤ b
  h1 : v - tr ≤ errS r t
  h2 : tr - v ≤ errS r t
  cz : Cz 600 600 62 r.c
  ok : Cok r.c
  ln : r.c.length ≤ 900
  zt : Sz 200 t
  ztr : Sz 300 tr
  zb : Sz 700 b
  z1 : Sz 200 r.la
  z2 : Sz 200 r.bd
  z3 : Sz 200 r.hf
  z4 : Sz 60 r.sl
  z5 : Sz 60 r.dr
def spWithin (K : PySem.W.Frag) (C : Addr) : Sp := fun vs H Q _ => ∃ (o : Addr) (xr xt xb : V) (r : Sr) (t tr b v : Rat), vs = [.ref o, xr, xt, xb] ∧ SgA K C o H r ∧ Rq K H xr t ∧ Rq K H xt tr ∧ Rq K H xb b ∧ Wt r t tr b v ∧ ∀ H', Same H H' → Q (.bl true) H'
abbrev s__law_within : Stmt := top 70
abbrev N__law_within : List Str := ["_law_steering_here", "_law_raw", "_law_truth", "_law_bound", "_law_told", "_law_value", "_law_away"]
theorem sc__law_within : FnScope N__law_within ["_law_steering_here", "_law_raw", "_law_truth", "_law_bound"] (defScope s__law_within) := ⟨rfl, rfl, rfl, by decide +kernel, rfl, by decide +kernel, by decide +kernel⟩
abbrev ps__law_within : List Str := ["_law_steering_here", "_law_raw", "_law_truth", "_law_bound"]
theorem ok_within (T : Bn mg) (F : Fn K mg "_law_within" s__law_within ps__law_within f fd) (dSteering_error_at : MthY P w K mg base k C "error_at" ps_Steering_error_at (spErrAt K C CT) f1 fd1) (dSteering_display : MthY P w K mg base k C "display" ps_Steering_display (spDisplay K C CE) f2 fd2)
    (d_law_is_frac : Def P w K mg base k "_law_is_frac" ["_law_value"] (spIsFrac K) f3 fd3) (d_law_below : Def P w K mg base k "_law_below" ["_law_a", "_law_b"] (spTest2 K fun p q => .bl (decide (p < q))) f4 fd4) (d_law_minus : Def P w K mg base k "_law_minus" ["_law_a", "_law_b"] (spOp2 K (· - ·)) f5 fd5) :
    Def P w K mg base (k + 1) "_law_within" ps__law_within (spWithin K C) f fd := by
  refine ⟨F.F.ok sc__law_within (fun vs H Q E h => ?_) (fun cdv A outer s H vs Q E hr h => ?_), F.m, F.F.kp, F.b⟩
  · obtain ⟨_, _, _, _, _, _, _, _, _, rfl, _⟩ := h
    rfl
  obtain ⟨o, xr, xt, xb, r, t, tr, b, v, rfl, g, hx, ht, hb, W, z⟩ := h
  obtain ⟨w1, w2, w3, w4, w5, cz, okc, ln, zt, ztr, zb, z1, z2, z3, z4, z5⟩ := W
  have zv : Sz 1500 v := (sz_nowC cz zt w1).mono (by decide)
  have ze : Sz 1500 (errS r t) := (sz_errS zt z1 z2 z3 (z4.mono (by decide)) (z5.mono (by decide))).mono (by decide)
  refine ⟨_, (pss_cons (ps_set (i := 4) sc__law_within.nd rfl (Or.inl rfl) (pmethYL dSteering_error_at hr (pv 0) (pa_cons (pv 1) pa_nil)))
      (pss_cons (ps_set (i := 5) sc__law_within.nd rfl (Or.inl rfl) (pmethYL dSteering_display hr (pv 0) (pa_cons (pv 1) pa_nil)))
      (pss_cons (ps_if (PW.pt (pw_or (pt_not (pt_val (pcall d_law_is_frac hr (pa_cons (pv 4) pa_nil)))) (pw_or (pt_not (pt_val (pcall d_law_is_frac hr (pa_cons (pv 5) pa_nil)))) (pw_or1 (pt_val (pcall d_law_below hr (pa_cons (pv 3) (pa_cons (pv 4) pa_nil))))))))
        (pss_one (ps_ret pe_bl))
        pss_nil)
      (pss_cons (ps_set (i := 6) sc__law_within.nd rfl (Or.inl rfl) (pcall d_law_minus hr (pa_cons (pv 5) (pa_cons (pv 2) pa_nil))))
      (pss_one (ps_ret (pe_not (pcall d_law_below hr (pa_cons (pv 4) (pa_cons (pe_tup (pa_cons (pe_callB call_abs (by rfl) T.abs_ (by decide +kernel) (pa_cons (pe_ix ix_tup (pv 6) pe_int (fun _ _ => rfl)) pa_nil)) (pa_cons (pe_ix ix_tup (pv 6) pe_int (fun _ _ => rfl)) pa_nil))) pa_nil)))))))))), ?_⟩
  refine cutG (fun σ' G => ∃ x4, σ' = [some (.ref o), some xr, some xt, some xb, some x4, none, none] ∧ Same H G ∧ Rq K G x4 (errS r t)) ?_ ?_
  rotate_left
  · intro u' key
    obtain ⟨dx, sx, ho, Gs⟩ := id g
    obtain ⟨no1, no2, no3, no4, no5, no6⟩ := sgf_no sx
    (walk_at "vk_vc")
    · intro _ v' H' e h
      exact key _ _ ⟨v', rfl, e, h⟩
    · exact fun c => absurd w2 (Rat.not_le.mpr c)
  rintro σ H1 ⟨x4, rfl, e1, h4⟩
  replace g := g.same e1
  replace hx := hx.same e1
  replace ht := ht.same e1
  replace hb := hb.same e1
  refine cutG (fun σ' G => ∃ x5, σ' = [some (.ref o), some xr, some xt, some xb, some x4, some (.ref x5), none] ∧ Same H1 G ∧ Rq K G (.ref x5) v) ?_ ?_
  rotate_left
  · intro u' key
    obtain ⟨dx, sx, ho, Gs⟩ := id g
    obtain ⟨no1, no2, no3, no4, no5, no6⟩ := sgf_no sx
    (walk_at "vk_vc")
    · intro q a' H' eq e h
      rw [w1] at eq
      cases eq
      exact key _ _ ⟨a', rfl, e, h⟩
    · intro c; rw [w1] at c; cases c
  rintro σ H2 ⟨x5, rfl, e2, h5⟩
  replace h4 := h4.same e2
  replace ht := ht.same e2
  replace hb := hb.same e2
  have z : ∀ H', Same H2 H' → Q (.bl true) H' := fun H' e => z H' (e1.trans (e2.trans e))
  have nb : ¬ b < errS r t := Rat.not_lt.mpr w3
  have zab : Sz 1900 (ab (v - tr)) := Vk.Sz.ab ((zv.sub ztr).mono (by decide))
  have nab : ¬ errS r t < ab (v - tr) := by
    unfold ab
    split <;> grind
  clear e1 e2 g hx
  (walk_at "vk_vc")
  show Q (.bl !decide (errS r t < ab (v - tr))) _
  rw [decide_eq_false nab]
  exact z _ (by focus exact (by (walk_at "vk_same")))
end Vk

set_option maxHeartbeats 4000000
namespace Vk
open PySem L2 Vm Vl Vs
variable {l aZERO aONE aHALF aDR C CB CR CT CV fB fR fT : Addr} {P : Program} {w : World} {K : PySem.W.Frag} {mg : Str → Option Value} {base : Heap} {k : Nat} {f f1 f2 f3 f4 f5 f6 f7 f8 f9 f10 f11 f12 : Addr} {fd fd1 fd2 fd3 fd4 fd5 fd6 fd7 fd8 fd9 fd10 fd11 fd12 : FuncData}
def spStg (K : PySem.W.Frag) (C : Addr) : Sp := fun vs H Q _ => ∃ (xr xs xe xo xl xd : V) (pr : Addr) (x : Ag), vs = [xr, xs, xe, .ref pr, xo] ∧ Rq K H xr x.r ∧ Rq K H xs x.s ∧ Rq K H xe x.e ∧ SqT K H pr [xl, xd] ∧ Rq K H xl x.l ∧ Rq K H xd x.d ∧ optV K H xo x.ov ∧ AgOk x ∧ ∀ o H', Same H H' → H o = none → SgA K C o H' (sr0 x) → Q (.ref o) H'
abbrev s__law_steering : Stmt := top 67
abbrev N__law_steering : List Str := ["_law_first", "_law_value", "_law_spread", "_law_pair", "_law_over_here"]
theorem sc__law_steering : FnScope N__law_steering ["_law_first", "_law_value", "_law_spread", "_law_pair", "_law_over_here"] (defScope s__law_steering) := ⟨rfl, rfl, rfl, by decide +kernel, rfl, by decide +kernel, by decide +kernel⟩
abbrev ps__law_steering : List Str := ["_law_first", "_law_value", "_law_spread", "_law_pair", "_law_over_here"]
theorem ok_steering {mvA : List Value} (hDR : ∀ H, Rq K H (.ref aDR) 0) (F : Fn K mg "_law_steering" s__law_steering ps__law_steering f fd) (dSteering : MkY P w K mg base k "Steering" C ps_Steering_init (spInit K C CB CR) f1 fd1)
    (kbSteering_slew : KBn K fd1 ps_Steering_init 4 ["slew"] (fun us ws => us ++ ws ++ mvA) (fun vs zs => vs ++ zs ++ [.ref aDR, .non]))
    (kbSteering_slew_drift_step_over : KBn K fd1 ps_Steering_init 4 ["slew", "drift", "step_over"] (fun us ws => us ++ ws) (fun vs zs => vs ++ zs)) : Def P w K mg base (k + 1 + 1) "_law_steering" ps__law_steering (spStg K C) f fd := by
  refine ⟨F.F.ok sc__law_steering (fun vs H Q E h => ?_) (fun cdv A outer s H vs Q E hr h => ?_), F.m, F.F.kp, F.b⟩
  · obtain ⟨_, _, _, _, _, _, _, _, rfl, _⟩ := h
    rfl
  obtain ⟨v0, v1, v2, v5, v3, v4, pr, x, rfl, g0, g1, g2, hpr, g3, g4, g5, ok, z⟩ := h
  refine ⟨_, (pss_cons (ps_if (PW.pt (pw_and (pt_cmpR (op_eqD hr.units) (pe_ix ix_tup (pv 3) pe_int (fun _ _ => rfl)) (pe_tup (pa_cons pe_int (pa_cons pe_int pa_nil))) (nomark _)) (pw_and1 (pt_cmpR op_isN (pv 4) pe_non (nomark _)))))
        (pss_one (ps_ret (pmakeK dSteering kbSteering_slew hr (pa_cons (pv 0) (pa_cons (pv 1) (pa_cons (pv 2) pa_nil))) (pk_cons (pe_ix ix_tup (pv 3) pe_int (fun _ _ => rfl)) pk_nil))))
        pss_nil)
      (pss_one (ps_ret (pmakeK dSteering kbSteering_slew_drift_step_over hr (pa_cons (pv 0) (pa_cons (pv 1) (pa_cons (pv 2) pa_nil))) (pk_cons (pe_ix ix_tup (pv 3) pe_int (fun _ _ => rfl)) (pk_cons (pe_ix ix_tup (pv 3) pe_int (fun _ _ => rfl)) (pk_cons (pv 4) pk_nil))))))), ?_⟩
  have fin : ∀ (H2 : Hp) (xd xo : V), Same H H2 → Rq K H2 xd x.d → optV K H2 xo x.ov → ∀ o dx, H2 o = none → H2 dx = none → dx ≠ o → spInit K C CB CR [.ref o, v0, v1, v2, v3, xd, xo] (upd (upd H2 dx (.own o)) o (.ins C dx [])) (fun v H3 => v = .non ∧ Q (.ref o) H3) E0 := fun H2 xd xo e2 hd ho o dx no ndx ne => by
    have s1 := same_new ndx (.own o)
    have no' : (upd H2 dx (.own o)) o = none := by rw [upd_ne ne.symm]; exact no
    have s2 := same_new no' (.ins C dx [])
    have sA := s1.trans s2
    have sB := e2.trans sA
    refine ⟨o, dx, v0, v1, v2, v3, xd, xo, x.r, x.s, x.e, x.l, x.d, x.ov, 200, rfl, upd_same, g0.same sB, g1.same sB, g2.same sB, g3.same sB, hd.same sA, ho.same sA, ok.ze.mono (by decide), ok.zl.mono (by decide), ok.zd.mono (by decide), fun q h => (ok.zo q h).mono (by decide), by decide, fun _ _ _ _ _ _ H' ef g => ⟨rfl, z o H' ?_ (e2.free no) g⟩, fun c => absurd ok.e0 (Rat.not_le.mpr c), fun _ c => ?_, fun _ _ _ c => ?_, fun _ _ _ _ _ q e c => absurd (ok.o0 q e) (Rat.not_le.mpr c)⟩
    · intro b u h
      exact ef b u (sB b u h) fun e => by subst e; rw [e2.free no] at h; cases h
    · rcases c with c | c
      · exact absurd ok.l0 (Rat.not_lt.mpr c)
      · exact absurd ok.l1 (Rat.not_lt.mpr c)
    · rcases c with c | c
      · exact absurd ok.d0 (Rat.not_le.mpr c)
      · exact absurd ok.d1 (Rat.not_lt.mpr c)
  obtain ⟨r', s', e', l', d', ov'⟩ := x
  dsimp only at g0 g1 g2 g3 g4 g5 fin
  have i0 : atI [v3, v4] 0 = some v3 := rfl
  have i1 : atI [v3, v4] 1 = some v4 := rfl
  cases ov' with
  | none =>
    cases (show v5 = .non from g5)
    by_cases hd0 : d' = 0
    · subst hd0
      (walk_at "vk_vc")
      all_goals first | exact fin _ _ _ (by (walk_at "vk_same")) (hDR _) rfl | exact fin _ _ _ (by (walk_at "vk_same")) (hDR _) (Rq.same (by (walk_at "vk_same")) g5) | exact fin _ _ _ (by (walk_at "vk_same")) (Rq.same (by (walk_at "vk_same")) g4) rfl | exact fin _ _ _ (by (walk_at "vk_same")) (Rq.same (by (walk_at "vk_same")) g4) (Rq.same (by (walk_at "vk_same")) g5) | exact absurd (by assumption) hd0
    · (walk_at "vk_vc")
      all_goals first | exact fin _ _ _ (by (walk_at "vk_same")) (hDR _) rfl | exact fin _ _ _ (by (walk_at "vk_same")) (hDR _) (Rq.same (by (walk_at "vk_same")) g5) | exact fin _ _ _ (by (walk_at "vk_same")) (Rq.same (by (walk_at "vk_same")) g4) rfl | exact fin _ _ _ (by (walk_at "vk_same")) (Rq.same (by (walk_at "vk_same")) g4) (Rq.same (by (walk_at "vk_same")) g5) | exact absurd (by assumption) hd0
  | some q =>
    have g5 : Rq K H v5 q := g5
    obtain ⟨b5, rfl, _⟩ := id g5
    by_cases hd0 : d' = 0
    · subst hd0
      (walk_at "vk_vc")
      all_goals first | exact fin _ _ _ (by (walk_at "vk_same")) (hDR _) rfl | exact fin _ _ _ (by (walk_at "vk_same")) (hDR _) (Rq.same (by (walk_at "vk_same")) g5) | exact fin _ _ _ (by (walk_at "vk_same")) (Rq.same (by (walk_at "vk_same")) g4) rfl | exact fin _ _ _ (by (walk_at "vk_same")) (Rq.same (by (walk_at "vk_same")) g4) (Rq.same (by (walk_at "vk_same")) g5) | exact absurd (by assumption) hd0
    · (walk_at "vk_vc")
      all_goals first | exact fin _ _ _ (by (walk_at "vk_same")) (hDR _) rfl | exact fin _ _ _ (by (walk_at "vk_same")) (hDR _) (Rq.same (by (walk_at "vk_same")) g5) | exact fin _ _ _ (by (walk_at "vk_same")) (Rq.same (by (walk_at "vk_same")) g4) rfl | exact fin _ _ _ (by (walk_at "vk_same")) (Rq.same (by (walk_at "vk_same")) g4) (Rq.same (by (walk_at "vk_same")) g5) | exact absurd (by assumption) hd0
end Vk

set_option maxHeartbeats 4000000
namespace Vk
open PySem L2 Vm Vl Vs
variable {l aZERO aONE aHALF aDR C CB CR CE CT fB fR fT : Addr} {P : Program} {w : World} {K : PySem.W.Frag} {mg : Str → Option Value} {base : Heap} {k n : Nat} {f f1 f2 f3 f4 f5 f6 f7 f8 f9 f10 f11 f12 : Addr} {fd fd1 fd2 fd3 fd4 fd5 fd6 fd7 fd8 fd9 fd10 fd11 fd12 : FuncData}
/-- its course is a list that was not there before -/
def CN (C o : Addr) (H H' : Hp) : Prop := ∃ dx sx, H' o = some (.ins C dx (sgf sx)) ∧ H sx.l = none
theorem CN.mono {C o : Addr} {H H1 H' : Hp} (h : CN C o H1 H') (e : Same H H1) : CN C o H H' := by
  obtain ⟨dx, sx, h1, h2⟩ := h
  exact ⟨dx, sx, h1, e.free h2⟩
def spPlanN (K : PySem.W.Frag) (C : Addr) : Sp := fun vs H Q _ => ∃ (o a : Addr) (ys : List V) (y va vb vh : V) (r : Sr) (t b h : Rat) (am : Option Rat) (c : List Pc) (i j l m : Nat), vs = [.ref o, y, .ref a, va, vb, vh] ∧ SgA K C o H r ∧ Rq K H y t ∧ Ct K H a ys c ∧ optV K H va am ∧ Rq K H vb b ∧ Rq K H vh h ∧ Cz i j l r.c ∧ Cz i j l c ∧ Sz m t ∧
  i + m + 1 ≤ 9000 ∧ j + j + l + i + i + 5 ≤ 9000 ∧ 1 ≤ c.length ∧ c.length ≤ 400 ∧ r.c.length ≤ 400 ∧ ∀ H', Fr o H H' → SgA K C o H' { r with c := tl (kp r.c t ++ c), aim := am, la := t, bd := b, hf := h } → CN C o H H' → Q .non H'
theorem ok_planN (S : Stg K C) (F : FnM K C "_plan" "Steering._plan" s_Steering__plan ps_Steering__plan f fd) (dcompare : Def P w K mg base k "compare" ["a", "b"] (spTest2 K fun p q => .int (sg p q)) f1 fd1) (dtidy : Def P w K mg base k "tidy" ["course"] (spTidy K) f2 fd2) :
    Mth P w K mg base (k + 1) C "_plan" ps_Steering__plan (spPlanN K C) f fd := by
  refine ⟨F.F.ok sc_Steering__plan (fun vs H Q E h => ?_) (fun cdv A outer s H vs Q E hr h => ?_), S.c, F.m, F.b⟩
  · obtain ⟨_, _, _, _, _, _, _, _, _, _, _, _, _, _, _, _, _, rfl, _⟩ := h
    rfl
  obtain ⟨o, a, ys, y, va, vb, vh, r, t, b, h, am, c, i, j, l, m, rfl, ⟨dx, x, ho, G⟩, hy, hC, hva, hvb, hvh, cz1, cz2, zt, hm1, hm2, hp, hl1, hl2, z⟩ := h
  obtain ⟨l1, l2, l3, l4, l5, l6, l7, l8⟩ := sgf_at x
  obtain ⟨xs, hx, hc⟩ := id G.cq
  obtain ⟨hY, hcy⟩ := id hC
  have hcl := hc.1
  have hcyl := hcy.1
  refine ⟨_, (pss_cons (ps_setLc (i := 6) (own := [("piece", 7)]) (g := gName 7) rfl sc_Steering__plan.nd rfl rfl (sw_true rfl rfl rfl (by decide +kernel)) (pi_list (pe_fld (pv 0) rfl)) (blkOk_by (N := N_Steering__plan) (sc := defScope s_Steering__plan) (by decide +kernel)) (fun _ _ _ _ _ => pg_name (i := 7) sc_Steering__plan.nd rfl (Or.inl rfl)) (fun _ _ _ _ _ => pts_one (pt_cmpR op_lt (pcall dcompare hr (pa_cons (pe_ix (show IxR _ (rIxT K) from ix_tup) (pv 7) pe_int (fun _ _ => rfl)) (pa_cons (pv 1) pa_nil))) pe_int (nomark _))) (fun _ _ _ _ _ => (pv 7)))
      (pss_cons (ps_fld (pv 0) (pcall dtidy hr (pa_cons (pe_op op_cat (pv 6) (pv 2)) pa_nil)) rfl)
      (pss_cons (ps_fld (pv 0) (pv 3) rfl)
      (pss_cons (ps_fld (pv 0) (pv 1) rfl)
      (pss_cons (ps_fld (pv 0) (pv 4) rfl)
      (pss_one (ps_fld (pv 0) (pv 5) rfl))))))), ?_⟩
  refine ⟨_, rfl, o, C, dx, _, _, rfl, ho, S.c, S.n4, l4, ?_⟩
  refine ⟨x.l, rfl, ⟨xs, hx⟩, fun D hD => lcAll (R := Pq K) (R' := Pq K) lastsP (fun p => if p.s < t then some p else none) hD hx hc (by omega) ?_ ?_⟩
  · intro i0 u p0 G0 ec pq s1 Y N hY hN
    obtain ⟨pa, ps, pv, pr, rfl, hpa, r1, r2, r3⟩ := pq.same s1
    have zp := (cz1 p0 (List.mem_of_getElem? ec)).1
    (walk_at "vk_vc")
    · exact hY _ _ p0 (by with_reducible exact Same.refl _) (if_pos (sg_lt.mp gc)) (pq.same s1)
    · exact hN _ (if_neg fun g => gc (sg_lt.mpr g)) (Same.refl _)
  intro us H1 s1 h1 h2
  rw [filterMap_if] at h2
  have h2 : All2 (Pq K H1) us (kp r.c t) := h2
  have hul := h2.1
  have hkl : (kp r.c t).length ≤ r.c.length := List.length_filter_le _ _
  have hx1 := s1.seq hx
  have hY1 := s1 _ _ hY
  have hcy1 := hcy.imp fun _ _ h => h.same s1
  have hsz : sizeLine = 16777216 := sizeLine_eq
  refine ⟨_, rfl, _, rfl, D, a, us, ys, rfl, rfl, h1, hY1, by omega, fun B hB => ?_⟩
  have hcat : All2 (Pq K H1) (us ++ ys) (kp r.c t ++ c) := h2.append hcy1
  have sB := same_new hB (.lst (us ++ ys))
  have tB : Ct K (upd H1 B (.lst (us ++ ys))) B (us ++ ys) (kp r.c t ++ c) := ⟨upd_same, hcat.imp fun _ _ h => h.same sB⟩
  have eB := s1.trans sB
  generalize upd H1 B (.lst (us ++ ys)) = HB at tB eB ⊢
  have czk : Cz i j l (kp r.c t ++ c) := fun p hp => by
    rcases List.mem_append.mp hp with h | h
    · exact cz1 p (List.mem_filter.mp h).1
    · exact cz2 p h
  refine ⟨B, kp r.c t ++ c, i, j, l, rfl, tB.cq, czk, by rw [List.length_append]; omega, by rw [List.length_append]; omega, hm2, fun B2 us2 H2 s2 hB2 t2 => ?_⟩
  have e2 := eB.trans s2
  have nB2 : H B2 = none := eB.free hB2
  have ho2 := e2 _ _ ho
  have G2 := G.same e2
  have y2 := hy.same e2
  have a2 := hva.same e2
  have b2 := hvb.same e2
  have h2' := hvh.same e2
  have F2 : Fr o H H2 := Fr.of e2
  clear hx hY hc hcy hx1 hY1 hcy1 h1 h2 hcat tB eB sB s1 s2 e2 G hC hD hB
  refine ⟨_, rfl, o, C, dx, _, rfl, ho2, S.c, S.n4, sgf_len _, ?_⟩
  rw [putF_course]
  have f0 : Fr o H2 (upd H2 o (.ins C dx (sgf { x with l := B2 }))) := Fr.upd _
  have q0 : (upd H2 o (.ins C dx (sgf { x with l := B2 }))) o = some (.ins C dx (sgf { x with l := B2 })) := upd_same
  generalize upd H2 o (.ins C dx (sgf { x with l := B2 })) = J0 at f0 q0 ⊢
  refine ⟨_, rfl, _, rfl, o, C, dx, _, rfl, q0, S.c, S.n5, sgf_len _, ?_⟩
  rw [putF_aim]
  have f1 : Fr o J0 (upd J0 o (.ins C dx (sgf { { x with l := B2 } with va := va }))) := Fr.upd _
  have q1 : (upd J0 o (.ins C dx (sgf { { x with l := B2 } with va := va }))) o = some (.ins C dx (sgf { { x with l := B2 } with va := va })) := upd_same
  generalize upd J0 o (.ins C dx (sgf { { x with l := B2 } with va := va })) = J1 at f1 q1 ⊢
  refine ⟨_, rfl, _, rfl, o, C, dx, _, rfl, q1, S.c, S.n6, sgf_len _, ?_⟩
  rw [putF_last]
  have f2 : Fr o J1 (upd J1 o (.ins C dx (sgf { { { x with l := B2 } with va := va } with vl := y }))) := Fr.upd _
  have q2 : (upd J1 o (.ins C dx (sgf { { { x with l := B2 } with va := va } with vl := y }))) o = some (.ins C dx (sgf { { { x with l := B2 } with va := va } with vl := y })) := upd_same
  generalize upd J1 o (.ins C dx (sgf { { { x with l := B2 } with va := va } with vl := y })) = J2 at f2 q2 ⊢
  refine ⟨_, rfl, _, rfl, o, C, dx, _, rfl, q2, S.c, S.n7, sgf_len _, ?_⟩
  rw [putF_bound]
  have f3 : Fr o J2 (upd J2 o (.ins C dx (sgf { { { { x with l := B2 } with va := va } with vl := y } with vb := vb }))) := Fr.upd _
  have q3 : (upd J2 o (.ins C dx (sgf { { { { x with l := B2 } with va := va } with vl := y } with vb := vb }))) o = some (.ins C dx (sgf { { { { x with l := B2 } with va := va } with vl := y } with vb := vb })) := upd_same
  generalize upd J2 o (.ins C dx (sgf { { { { x with l := B2 } with va := va } with vl := y } with vb := vb })) = J3 at f3 q3 ⊢
  refine ⟨_, rfl, _, rfl, o, C, dx, _, rfl, q3, S.c, S.n8, sgf_len _, ?_⟩
  rw [putF_half]
  have f4 : Fr o J3 (upd J3 o (.ins C dx (sgf { { { { { x with l := B2 } with va := va } with vl := y } with vb := vb } with vh := vh }))) := Fr.upd _
  have q4 : (upd J3 o (.ins C dx (sgf { { { { { x with l := B2 } with va := va } with vl := y } with vb := vb } with vh := vh }))) o = some (.ins C dx (sgf { { { { { x with l := B2 } with va := va } with vl := y } with vb := vb } with vh := vh })) := upd_same
  generalize upd J3 o (.ins C dx (sgf { { { { { x with l := B2 } with va := va } with vl := y } with vb := vb } with vh := vh })) = J4 at f4 q4 ⊢
  have eA : Fr o H2 J4 := (((f0.trans f1).trans f2).trans f3).trans f4
  have hi : ∃ C d fs, H2 o = some (HO.ins C d fs) := ⟨_, _, _, ho2⟩
  have c2 : ∃ us, Ct K J4 B2 us (tl (kp r.c t ++ c)) := ⟨_, frI_lst eA hi t2.1, t2.2.imp fun _ _ z => frI_pq eA hi z⟩
  exact z J4 (F2.trans eA) ⟨dx, _, q4, ⟨frI_rq eA hi G2.sl, frI_rq eA hi G2.dr, frI_opt eA hi G2.ov, c2, frI_opt eA hi a2, frI_rq eA hi y2, frI_rq eA hi b2, frI_rq eA hi h2'⟩⟩ ⟨dx, _, q4, nB2⟩
def spSteerN (K : PySem.W.Frag) (C CT : Addr) : Sp := fun vs H Q E => ∃ (o : Addr) (y xp : V) (r : Sr) (t n : Rat) (os : Option Vs.Spn), vs = [.ref o, y, xp] ∧ SgA K C o H r ∧ Rq K H y t ∧ oSp K H xp os ∧ Sz 700 t ∧ Sz 700 r.la ∧ Sz 700 r.bd ∧ Sz 700 r.hf ∧ Sz 60 r.sl ∧ Sz 60 r.dr ∧
  (r.la ≤ t → StOk r t n os ∧ ∀ H', Fr o H H' → SgA K C o H' (strS r t n os) → CN C o H H' → Q .non H') ∧ (t < r.la → eV E CT H y)
theorem ok_steerN (S : Stg K C) (ZONE : Cn K mg "ONE" 1 aONE) (ZHALF : Cn K mg "HALF" (1 / 2) aHALF) (F : FnM K C "steer" "Steering.steer" s_Steering_steer ps_Steering_steer f fd)
    (dSteering_error_at : MthY P w K mg base k C "error_at" ["self", "raw"] (spErrAt K C CT) f1 fd1) (dshown_at : DefY P w K mg base k "shown_at" ["course", "t"] (spShownAt K CB) f2 fd2) (dwidth_of : Def P w K mg base k "width_of" ["span"] (spWidth K) f3 fd3)
    (dSteering__plan : Mth P w K mg base k C "_plan" ["self", "raw", "pieces", "aim", "bound", "half"] (spPlanN K C) f4 fd4) (dmeet : Def P w K mg base k "meet" ["a", "b"] (spMeet K) f5 fd5) (dsubtract : Def P w K mg base k "subtract" ["a", "b"] (spOp2 K (· - ·)) f6 fd6) (dadd : Def P w K mg base k "add" ["a", "b"] (spOp2 K (· + ·)) f7 fd7)
    (dmiddle_of : Def P w K mg base k "middle_of" ["span"] (spMiddle K) f8 fd8) (dmultiply : Def P w K mg base k "multiply" ["a", "b"] (spOp2 K (· * ·)) f9 fd9) (dSteering__jumps_to : Mth P w K mg base k C "_jumps_to" ["self", "aim", "shown"] (spJumps' K C) f10 fd10)
    (d_planned : Def P w K mg base k "_planned" ["raw", "shown", "aim", "slew"] (spPlanned K) f11 fd11) (dfar_end : Def P w K mg base k "far_end" ["span", "t"] (spFar K) f12 fd12) : MthY P w K mg base (k + 1) C "steer" ps_Steering_steer (spSteerN K C CT) f fd := by
  refine ⟨okY F.F sc_Steering_steer (fun vs H Q E h => ?_) (fun cdv A outer s H vs Q E hr h => ?_), S.c, F.m, F.b⟩
  · obtain ⟨_, _, _, _, _, _, _, rfl, _⟩ := h
    rfl
  obtain ⟨o, y, xp, r, t, n, os, rfl, ⟨dx, x, ho, G⟩, hy, hos, zt, zla, zbd, zhf, zsl, zdr, z, e⟩ := h
  obtain ⟨l1, l2, l3, l4, l5, l6, l7, l8⟩ := sgf_at x
  obtain ⟨no1, no2, no3, no4, no5, no6⟩ := sgf_no x
  refine ⟨_, (pss_cons (ps_set (i := 3) sc_Steering_steer.nd rfl (Or.inl rfl) (pmethY dSteering_error_at hr (L2N.takes_of rfl rfl rfl rfl) (pv 0) (pa_cons (pv 1) pa_nil)))
      (pss_cons (ps_set (i := 4) sc_Steering_steer.nd rfl (Or.inl rfl) (pcallY dshown_at hr (L2N.takes_of rfl rfl rfl rfl) (pa_cons (pe_fld (pv 0) rfl) (pa_cons (pv 1) pa_nil))))
      (pss_cons (ps_if (PW.pt (pw_or (pt_cmpR op_isN (pv 2) pe_non (nomark _)) (pw_or1 (pt_cmpR op_isN (pcall dwidth_of hr (pa_cons (pv 2) pa_nil)) pe_non (nomark _)))))
        (pss_cons (ps_expr (pmeth dSteering__plan hr (pv 0) (pa_cons (pv 1) (pa_cons (pe_lst (pa_cons (pe_tup (pa_cons (pv 1) (pa_cons (pv 4) (pa_cons (pe_glob (v := .ref aONE) (u := .ref aONE) (by rfl) ZONE.m rfl) pa_nil)))) pa_nil)) (pa_cons pe_non (pa_cons (pv 3) (pa_cons (pv 3) pa_nil)))))))
        (pss_one ps_retN))
        pss_nil)
      (pss_cons (ps_set (i := 5) sc_Steering_steer.nd rfl (Or.inl rfl) (pcall dmeet hr (pa_cons (pv 2) (pa_cons (pe_tup (pa_cons (pcall dsubtract hr (pa_cons (pv 4) (pa_cons (pv 3) pa_nil))) (pa_cons (pcall dadd hr (pa_cons (pv 4) (pa_cons (pv 3) pa_nil))) pa_nil))) pa_nil))))
      (pss_cons (ps_if (pt_cmpR op_isN (pv 5) pe_non (nomark _))
        (pss_one (ps_set (i := 5) sc_Steering_steer.nd rfl (Or.inl rfl) (pv 2)))
        pss_nil)
      (pss_cons (ps_set (i := 6) sc_Steering_steer.nd rfl (Or.inl rfl) (pcall dmiddle_of hr (pa_cons (pv 5) pa_nil)))
      (pss_cons (ps_set (i := 7) sc_Steering_steer.nd rfl (Or.inl rfl) (pcall dmultiply hr (pa_cons (pcall dwidth_of hr (pa_cons (pv 5) pa_nil)) (pa_cons (pe_glob (v := .ref aHALF) (u := .ref aHALF) (by rfl) ZHALF.m rfl) pa_nil))))
      (pss_one (ps_if (pt_val (pmeth dSteering__jumps_to hr (pv 0) (pa_cons (pv 6) (pa_cons (pv 4) pa_nil))))
        (pss_one (ps_expr (pmeth dSteering__plan hr (pv 0) (pa_cons (pv 1) (pa_cons (pe_lst (pa_cons (pe_tup (pa_cons (pv 1) (pa_cons (pv 6) (pa_cons (pe_glob (v := .ref aONE) (u := .ref aONE) (by rfl) ZONE.m rfl) pa_nil)))) pa_nil)) (pa_cons (pv 6) (pa_cons (pv 7) (pa_cons (pv 7) pa_nil))))))))
        (pss_one (ps_expr (pmeth dSteering__plan hr (pv 0) (pa_cons (pv 1) (pa_cons (pcall d_planned hr (pa_cons (pv 1) (pa_cons (pv 4) (pa_cons (pv 6) (pa_cons (pe_fld (pv 0) rfl) pa_nil))))) (pa_cons (pv 6) (pa_cons (pcall dfar_end hr (pa_cons (pv 5) (pa_cons (pv 4) pa_nil))) (pa_cons (pv 7) pa_nil))))))))))))))))), ?_⟩
  refine ⟨_, rfl, o, dx, _, rfl, ho, no3, _, rfl, o, y, r, t, 700, rfl, ⟨dx, x, ho, G⟩, hy, zt, zla, zbd, zhf, zsl.mono (by decide), zdr.mono (by decide), by decide, fun c1 => ?_, fun c => e c⟩
  obtain ⟨st, z⟩ := z c1
  intro vb H1 e1 hb
  have ho1 := e1 _ _ ho
  have hy1 := hy.same e1
  refine ⟨_, rfl, o, C, dx, _, _, rfl, ho1, S.c, S.n4, l4, _, rfl, x.l, y, r.c, t, 2162, 2162, 62, 700, rfl, (G.same e1).cq, hy1, st.cz, zt, st.ok, by decide, by have := st.len; omega, fun q a H2 en e2 hn => ?_, fun en => absurd (st.now.symm.trans en) nofun⟩
  rw [st.now] at en
  cases en
  have e12 := e1.trans e2
  have ho2 := e12 _ _ ho
  have hy2 := hy.same e12
  have hb2 := hb.same e2
  have G2 : SgA K C o H2 r := ⟨dx, x, ho2, G.same e12⟩
  have czt : Cz 2162 2162 62 [(⟨t, n, 1⟩ : Pc)] := fun p hp => by
    rw [List.mem_singleton] at hp; subst hp
    exact ⟨zt.mono (by decide), st.zn.mono (by decide), zo1.mono (by decide)⟩
  have hO : Rq K H2 (.ref aONE) 1 := ZONE.q H2
  have no0 : ∀ (H3 : Hp), Same H2 H3 → strS r t n os = str0 r t n → ∀ (t0 D : Addr), H3 t0 = none → upd H3 t0 (.tup [y, .ref a, .ref aONE]) D = none → ∀ Q' : VK, (∀ H', Fr o H H' → SgA K C o H' (strS r t n os) → CN C o H H' → Q' .non H') →
      spPlanN K C [.ref o, y, .ref D, .non, vb, vb] (upd (upd H3 t0 (.tup [y, .ref a, .ref aONE])) D (.lst [.ref t0])) Q' E0 := fun H3 e3 es t0 D ht hD Q' zz => by
    obtain ⟨sA, cA⟩ := pc1 (K := K) ht hD (hy2.same e3) (hn.same e3) (hO.same e3)
    have e4 := e3.trans sA
    refine ⟨o, D, _, y, .non, vb, vb, r, t, errS r t, errS r t, none, [⟨t, n, 1⟩], 2162, 2162, 62, 700, rfl, G2.same e4, hy2.same e4, cA, rfl, hb2.same e4, hb2.same e4, st.cz, czt, zt, by decide, by decide, by simp, by simp, by have := st.len; omega, fun H' ef g cn => zz H' ((Fr.of (e12.trans e4)).trans ef) (by rw [es]; exact g) (cn.mono (e12.trans e4))⟩
  cases os with
  | none =>
    cases (show xp = .non from hos)
    refine ⟨_, rfl, rfl, _, rfl, ifT rfl ?_⟩
    refine ⟨_, rfl, o, dx, _, rfl, ho2, no5, _, rfl, _, rfl, _, rfl, sm3, fun t0 ht => ⟨sm1, fun D hD => ?_⟩⟩
    exact ⟨_, rfl, _, rfl, no0 H2 (Same.refl _) rfl t0 D ht hD _ fun H' ef g cn => z H' ef g cn⟩
  | some s =>
    have hsp : Spq K H xp s := hos
    have hsp2 := hsp.same e12
    obtain ⟨b, u, v, rfl, hs, hu, hv⟩ := id hsp
    refine ⟨_, rfl, rfl, _, rfl, ifF (dF nofun) ⟨_, rfl, _, s, 700, rfl, hsp2, st.s0 s rfl, by decide, fun vw H3 e3 hw => ?_⟩⟩
    have ho3 := e3 _ _ ho2
    have hw0 : widO s = none → strS r t n (some s) = str0 r t n ∧ vw = .non := fun h => by
      rw [h] at hw
      refine ⟨?_, hw⟩
      obtain ⟨p, q⟩ := s
      cases p with
      | none => rfl
      | some p => cases q with
        | none => rfl
        | some q => cases h
    by_cases hn0 : widO s = none
    · obtain ⟨es, rfl⟩ := hw0 hn0
      refine ⟨rfl, _, rfl, ifT rfl ?_⟩
      refine ⟨_, rfl, o, dx, _, rfl, ho3, no5, _, rfl, _, rfl, _, rfl, sm3, fun t0 ht => ⟨sm1, fun D hD => ?_⟩⟩
      exact ⟨_, rfl, _, rfl, no0 H3 e3 es t0 D ht hD _ fun H' ef g cn => z H' ef g cn⟩
    obtain ⟨p, q, rfl⟩ : ∃ p q, s = (some p, some q) := by
      obtain ⟨p, q⟩ := s
      cases p with
      | none => exact absurd rfl hn0
      | some p => cases q with
        | none => exact absurd rfl hn0
        | some q => exact ⟨p, q, rfl⟩
    have hw : Rq K H3 vw (q - p) := hw
    obtain ⟨bw, rfl, _⟩ := id hw
    refine ⟨rfl, _, rfl, ifF (dF nofun) ?_⟩
    have zp : Sz 700 p := (st.s0 _ rfl).1 p rfl
    have zq : Sz 700 q := (st.s0 _ rfl).2 q rfl
    obtain ⟨zk1, zk2, zk3, zk4⟩ := st.s2 p q rfl
    have hn3 := hn.same e3
    have hb3 := hb2.same e3
    have hsp3 := hsp2.same e3
    refine ⟨_, rfl, _, rfl, _, rfl, _, _, n, errS r t, 700, 700, rfl, hn3, hb3, st.zn, st.zb, by decide, fun v1 H4 e4 h4 => ?_⟩
    refine ⟨_, rfl, _, rfl, _, _, n, errS r t, 700, 700, rfl, hn3.same e4, hb3.same e4, st.zn, st.zb, by decide, fun v2 H5 e5 h5 => ⟨sz2, fun t0 ht => ?_⟩⟩
    have sT := same_new ht (.tup [v1, v2])
    have e5' := e5.trans sT
    have hm : Spq K (upd H5 t0 (.tup [v1, v2])) (.ref t0) (some (n - errS r t), some (n + errS r t)) := ⟨t0, v1, v2, rfl, SqT.of upd_same, h4.same e5', h5.same sT⟩
    have e35 := (e3.trans e4).trans e5'
    have hsp5 := hsp2.same e35
    refine ⟨_, _, (some p, some q), (some (n - errS r t), some (n + errS r t)), 1401, rfl, hsp5, hm, ⟨fun q h => by cases h; exact zp.mono (by decide), fun q h => by cases h; exact zq.mono (by decide)⟩, ⟨fun q h => by cases h; exact st.zn.sub st.zb, fun q h => by cases h; exact st.zn.add st.zb⟩, by decide, fun vk H7 e7' hk => ?_⟩
    have e7 := e35.trans e7'
    have hsp7 := hsp2.same e7
    rw [meet_knw] at hk
    clear hm hsp5 hn3 hb3 hsp3 hw h4 h5
    by_cases cr : kHi q n (errS r t) < kLo p n (errS r t)
    · rw [if_pos cr] at hk
      cases (show vk = .non from hk)
      refine ⟨_, rfl, rfl, _, rfl, ifT rfl ⟨_, rfl, ?_⟩⟩
      obtain ⟨u1, u2, ek⟩ : ∃ u1 u2, knw p q n (errS r t) = (u1, u2) := ⟨_, _, rfl⟩
      have eu : (p, q) = (u1, u2) := by rw [← ek]; unfold knw; rw [if_pos cr]
      have hK : Spq K H7 (.ref b) (some u1, some u2) := by cases eu; exact hsp7
      rw [ek] at zk1 zk2 zk3 zk4
      refine ⟨_, rfl, _, u1, u2, 700, rfl, hK, zk1, zk2, by decide, fun v3 H8 e8 h8 => ?_⟩
      refine ⟨_, rfl, _, (some u1, some u2), 700, rfl, hK.same e8, ⟨fun q h => by cases h; exact zk1, fun q h => by cases h; exact zk2⟩, by decide, fun v4 H9 e9 h9 => ?_⟩
      refine ⟨_, _, u2 - u1, 1 / 2, 1401, 2, rfl, h9, ZHALF.q _, zk2.sub zk1, Vk.zhf, by decide, fun v5 H10 e10 h10 => ?_⟩
      have eX := (e8.trans e9).trans e10
      have eY := e7.trans eX
      have G10 := G2.same eY
      have hn10 := hn.same eY
      have hy10 := hy2.same eY
      have ha10 := h8.same (e9.trans e10)
      have hK10 := hK.same eX
      have ho10 := eY _ _ ho2
      refine ⟨_, rfl, o, dx, _, rfl, ho10, no6, _, rfl, _, rfl, o, _, _, r, (u1 + u2) * (1 / 2), n, 700, rfl, G10, ha10, hn10, zk3, st.zn, st.zo, by decide, fun H11 e11 => ?_⟩
      have eZ := eY.trans e11
      have G11 := G10.same e11
      have hn11 := hn10.same e11
      have hy11 := hy10.same e11
      have ha11 := ha10.same e11
      have hK11 := hK10.same e11
      have hh11 := Rq.same e11 h10
      have ho11 := e11 _ _ ho10
      clear G10 hn10 hy10 ha10 hK10 h10 ho10 hK h9 h8
      have z' : ∀ H', Fr o H H' → SgA K C o H' (str2 r t n p q) → CN C o H H' → Q .non H' := z
      unfold str2 at z'
      rw [ek] at z'
      cases ej : jmpS r ((u1 + u2) * (1 / 2)) n with
      | true =>
        rw [show mid (u1, u2) = (u1 + u2) * (1 / 2) from rfl, show haf (u1, u2) = (u2 - u1) * (1 / 2) from rfl, if_pos ej] at z'
        refine ⟨_, rfl, ifT rfl ?_⟩
        refine ⟨_, rfl, o, dx, _, rfl, ho11, no5, _, rfl, _, rfl, _, rfl, sm3, fun t1 ht1 => ⟨sm1, fun D hD => ?_⟩⟩
        obtain ⟨sA, cA⟩ := pc1 (K := K) ht1 hD hy11 ha11 (ZONE.q H11)
        refine ⟨_, rfl, _, rfl, _, rfl, o, D, _, _, _, _, _, r, t, (u2 - u1) * (1 / 2), (u2 - u1) * (1 / 2), some ((u1 + u2) * (1 / 2)), [⟨t, (u1 + u2) * (1 / 2), 1⟩], 2162, 2162, 62, 700, rfl, G11.same sA, hy11.same sA, cA, ha11.same sA, hh11.same sA, hh11.same sA, st.cz, cz_one zt zk3, zt, by decide, by decide, by simp, by simp, by have := st.len; omega, fun H' ef g cn => z' H' ((Fr.of ((e12.trans eZ).trans sA)).trans ef) g (cn.mono ((e12.trans eZ).trans sA))⟩
      | false =>
        rw [show mid (u1, u2) = (u1 + u2) * (1 / 2) from rfl, show haf (u1, u2) = (u2 - u1) * (1 / 2) from rfl, if_neg (by rw [ej]; decide)] at z'
        refine ⟨_, rfl, ifF rfl ?_⟩
        obtain ⟨dx', x', hq1, hq2⟩ := id G11
        refine ⟨_, rfl, o, dx, _, rfl, ho11, no5, _, rfl, _, rfl, _, rfl, _, rfl, _, rfl, o, C, dx, _, _, rfl, ho11, S.c, S.n1, l1, ?_⟩
        have hsl : Rq K H11 x.vs r.sl := G.sl.same (e12.trans eZ)
        refine ⟨_, _, _, _, t, n, (u1 + u2) * (1 / 2), r.sl, 700, rfl, hy11, hn11, ha11, hsl, zt, st.zn, zk3, zsl.mono (by decide), by decide, st.p1, fun D us HD eD hD cD => ?_⟩
        refine ⟨_, rfl, _, rfl, _, rfl, _, _, u1, u2, n, 700, rfl, hK11.same eD, hn11.same eD, zk1, zk2, st.zn, by decide, fun v6 HE eE hE => ?_⟩
        have eF := eD.trans eE
        have pl := plan_len t n ((u1 + u2) * (1 / 2)) r.sl
        refine ⟨_, rfl, o, D, _, _, _, _, _, r, t, farE u1 u2 n, (u2 - u1) * (1 / 2), some ((u1 + u2) * (1 / 2)), plan t n ((u1 + u2) * (1 / 2)) r.sl, 2162, 2162, 62, 700, rfl, G11.same eF, hy11.same eF, cD.same eE, ha11.same eF, hE, hh11.same eF, st.cz, cz_plan zt st.zn zk3 zsl st.p1, zt, by decide, by decide, pl.1, pl.2, by have := st.len; omega, fun H' ef g cn => z' H' ((Fr.of ((e12.trans eZ).trans eF)).trans ef) g (cn.mono ((e12.trans eZ).trans eF))⟩
    · rw [if_neg cr] at hk
      have hk : Spq K H7 vk (some (kLo p n (errS r t)), some (kHi q n (errS r t))) := hk
      obtain ⟨bk, _, _, rfl, _⟩ := id hk
      refine ⟨_, rfl, rfl, _, rfl, ifF (dF nofun) ?_⟩
      obtain ⟨u1, u2, ek⟩ : ∃ u1 u2, knw p q n (errS r t) = (u1, u2) := ⟨_, _, rfl⟩
      have eu : (kLo p n (errS r t), kHi q n (errS r t)) = (u1, u2) := by rw [← ek]; unfold knw; rw [if_neg cr]
      have hK : Spq K H7 (.ref bk) (some u1, some u2) := by cases eu; exact hk
      rw [ek] at zk1 zk2 zk3 zk4
      refine ⟨_, rfl, _, u1, u2, 700, rfl, hK, zk1, zk2, by decide, fun v3 H8 e8 h8 => ?_⟩
      refine ⟨_, rfl, _, (some u1, some u2), 700, rfl, hK.same e8, ⟨fun q h => by cases h; exact zk1, fun q h => by cases h; exact zk2⟩, by decide, fun v4 H9 e9 h9 => ?_⟩
      refine ⟨_, _, u2 - u1, 1 / 2, 1401, 2, rfl, h9, ZHALF.q _, zk2.sub zk1, Vk.zhf, by decide, fun v5 H10 e10 h10 => ?_⟩
      have eX := (e8.trans e9).trans e10
      have eY := e7.trans eX
      have G10 := G2.same eY
      have hn10 := hn.same eY
      have hy10 := hy2.same eY
      have ha10 := h8.same (e9.trans e10)
      have hK10 := hK.same eX
      have ho10 := eY _ _ ho2
      refine ⟨_, rfl, o, dx, _, rfl, ho10, no6, _, rfl, _, rfl, o, _, _, r, (u1 + u2) * (1 / 2), n, 700, rfl, G10, ha10, hn10, zk3, st.zn, st.zo, by decide, fun H11 e11 => ?_⟩
      have eZ := eY.trans e11
      have G11 := G10.same e11
      have hn11 := hn10.same e11
      have hy11 := hy10.same e11
      have ha11 := ha10.same e11
      have hK11 := hK10.same e11
      have hh11 := Rq.same e11 h10
      have ho11 := e11 _ _ ho10
      clear G10 hn10 hy10 ha10 hK10 h10 ho10 hK h9 h8
      have z' : ∀ H', Fr o H H' → SgA K C o H' (str2 r t n p q) → CN C o H H' → Q .non H' := z
      unfold str2 at z'
      rw [ek] at z'
      cases ej : jmpS r ((u1 + u2) * (1 / 2)) n with
      | true =>
        rw [show mid (u1, u2) = (u1 + u2) * (1 / 2) from rfl, show haf (u1, u2) = (u2 - u1) * (1 / 2) from rfl, if_pos ej] at z'
        refine ⟨_, rfl, ifT rfl ?_⟩
        refine ⟨_, rfl, o, dx, _, rfl, ho11, no5, _, rfl, _, rfl, _, rfl, sm3, fun t1 ht1 => ⟨sm1, fun D hD => ?_⟩⟩
        obtain ⟨sA, cA⟩ := pc1 (K := K) ht1 hD hy11 ha11 (ZONE.q H11)
        refine ⟨_, rfl, _, rfl, _, rfl, o, D, _, _, _, _, _, r, t, (u2 - u1) * (1 / 2), (u2 - u1) * (1 / 2), some ((u1 + u2) * (1 / 2)), [⟨t, (u1 + u2) * (1 / 2), 1⟩], 2162, 2162, 62, 700, rfl, G11.same sA, hy11.same sA, cA, ha11.same sA, hh11.same sA, hh11.same sA, st.cz, cz_one zt zk3, zt, by decide, by decide, by simp, by simp, by have := st.len; omega, fun H' ef g cn => z' H' ((Fr.of ((e12.trans eZ).trans sA)).trans ef) g (cn.mono ((e12.trans eZ).trans sA))⟩
      | false =>
        rw [show mid (u1, u2) = (u1 + u2) * (1 / 2) from rfl, show haf (u1, u2) = (u2 - u1) * (1 / 2) from rfl, if_neg (by rw [ej]; decide)] at z'
        refine ⟨_, rfl, ifF rfl ?_⟩
        obtain ⟨dx', x', hq1, hq2⟩ := id G11
        refine ⟨_, rfl, o, dx, _, rfl, ho11, no5, _, rfl, _, rfl, _, rfl, _, rfl, _, rfl, o, C, dx, _, _, rfl, ho11, S.c, S.n1, l1, ?_⟩
        have hsl : Rq K H11 x.vs r.sl := G.sl.same (e12.trans eZ)
        refine ⟨_, _, _, _, t, n, (u1 + u2) * (1 / 2), r.sl, 700, rfl, hy11, hn11, ha11, hsl, zt, st.zn, zk3, zsl.mono (by decide), by decide, st.p1, fun D us HD eD hD cD => ?_⟩
        refine ⟨_, rfl, _, rfl, _, rfl, _, _, u1, u2, n, 700, rfl, hK11.same eD, hn11.same eD, zk1, zk2, st.zn, by decide, fun v6 HE eE hE => ?_⟩
        have eF := eD.trans eE
        have pl := plan_len t n ((u1 + u2) * (1 / 2)) r.sl
        refine ⟨_, rfl, o, D, _, _, _, _, _, r, t, farE u1 u2 n, (u2 - u1) * (1 / 2), some ((u1 + u2) * (1 / 2)), plan t n ((u1 + u2) * (1 / 2)) r.sl, 2162, 2162, 62, 700, rfl, G11.same eF, hy11.same eF, cD.same eE, ha11.same eF, hE, hh11.same eF, st.cz, cz_plan zt st.zn zk3 zsl st.p1, zt, by decide, by decide, pl.1, pl.2, by have := st.len; omega, fun H' ef g cn => z' H' ((Fr.of ((e12.trans eZ).trans eF)).trans ef) g (cn.mono ((e12.trans eZ).trans eF))⟩
end Vk

set_option maxHeartbeats 4000000
namespace Vk
open PySem L2 Vm Vl Vs
/-- what a law of laps is given -/
structure Ly (x : Ag) (y : A6) : Prop where
  ok : AgOk x
  G : Good y
  s : y.s = x.l
  d : y.d = x.d
  b : y.b = x.e
  zb : Sz 120 y.b
  zh : Sz 5 y.h
  zl : Sz 5 y.l
theorem Ly.zs {x : Ag} {y : A6} (h : Ly x y) : Sz 24 y.s := by rw [h.s]; exact h.ok.zl
theorem Ly.zd {x : Ag} {y : A6} (h : Ly x y) : Sz 24 y.d := by rw [h.d]; exact h.ok.zd
/-- where a lap begins -/
structure LapI (x : Ag) (y : A6) (i : Nat) (r : Sr) (st : Ls) (t tr : Rat) : Prop where
  A : A9 x i r st
  le : st.ra ≤ t
  fd : Fx LL 31 (t - st.ra)
  ft : Fx LL (31 + 31 * i) t
  ftr : Fx (Mn x 2) (600 + 31 * i) (tr - t)
  n1 : nowT st t - tr ≤ bndT x st t
  n2 : tr - nowT st t ≤ bndT x st t
  nb : bndT x st t ≤ bnds y i
theorem lap0 {x : Ag} {y : A6} (L : Ly x y) {tr : Rat} (fr : Fx LL 31 x.r) (fs : Fx LL 62 (x.s - x.r)) (fe : Fx (Mn x 2) 600 x.e) (ftr : Fx (Mn x 2) 600 (tr - x.r)) (h1 : x.s - tr ≤ x.e) (h2 : tr - x.s ≤ x.e) : LapI x y 0 (sr0 x) (ls0 x) x.r tr := by
  have ok := L.ok
  have eb : bndT x (ls0 x) x.r = x.e := by
    show x.e + x.d * (x.r - x.r) = x.e
    rw [show x.r - x.r = 0 by grind, Rat.mul_zero]; grind
  have en : nowT (ls0 x) x.r = x.s := by rw [now_ls0 Rat.le_refl]; grind
  refine ⟨A9.zero ok (fr.mono (by decide)) (fs.mono (by decide)) (fe.mono (by decide)), Rat.le_refl, ?_, fr, ftr, by rw [en, eb]; exact h1, by rw [en, eb]; exact h2, by rw [eb, ← L.b]; exact Rat.le_refl⟩
  show Fx LL 31 (x.r - x.r)
  rw [show x.r - x.r = 0 by grind]
  exact Fx.zero.mono (by decide)
def CsOk (c : Rat) : Prop := Sz 10 c ∧ -1 ≤ c ∧ c ≤ 1 ∧ Fx 2 1 c
theorem fx_quart {x : Ag} {h : Rat} {i : Int} (zh : Sz 5 h) (i0 : 0 ≤ i) (i8 : i ≤ 8) : Fx (Mn x 2) 248 (h * mkRat i 4) := by
  have f1 : Fx 4 8 (mkRat i 4) := ⟨i, by rw [Rat.mkRat_eq_div]; show (i : Rat) / 4 * 4 = i; grind, by omega⟩
  have f2 := (fx5 zh).mul f1
  have f3 := f2.lift (x.l.den * x.d.den)
  have : LL * 4 * (x.l.den * x.d.den) = Mn x 2 := by unfold Mn S2; grind
  rw [this] at f3
  exact f3.mono (by decide)
theorem fx_drift {x : Ag} {u c : Rat} (ok : AgOk x) (zu : Sz 5 u) (hc : CsOk c) : Fx (Mn x 2) 31 (u * (x.d * c)) := by
  have f1 := fx_d (n := 0) ok (fx5 zu)
  have f2 := f1.mul hc.2.2.2
  have f3 := f2.lift 2
  have : Mn x 0 * 2 * 2 = Mn x 2 := by unfold Mn; grind
  rw [this] at f3
  rw [show u * (x.d * c) = x.d * u * c by grind]
  exact f3.mono (by decide)
section
variable {x : Ag} {y : A6} {i : Nat} {r : Sr} {st : Ls} {t tr c : Rat} {a b : Int}
/-- the span of a lap -/
def loS (y : A6) (tr : Rat) (a : Int) : Rat := tr - y.h * mkRat a 4
def hiS (y : A6) (tr : Rat) (b : Int) : Rat := tr + y.h * mkRat b 4
def stp (y : A6) : Rat := y.l * mkRat 1 2
def pth (y : A6) (c : Rat) : Rat := stp y * (1 + y.d * c)
structure LapS (x : Ag) (y : A6) (i : Nat) (r : Sr) (st : Ls) (t tr c : Rat) (os : Option Spn) : Prop where
  so : StOk r t (nowT st t) os
  zt : Sz 62 t
  ra : r.la ≤ t
  w0 : Wt (strS r t (nowT st t) os) t tr (bnds y i) (nowT (trn x st t os).1 t)
  w1 : Wt (strS r t (nowT st t) os) (t + stp y) (tr + pth y c) (bnds y i + y.d * stp y) (nowT (trn x st t os).1 (t + stp y))
  w2 : Wt (strS r t (nowT st t) os) (t + stp y + stp y) (tr + pth y c + pth y c) (bnds y (i + 1)) (nowT (trn x st t os).1 (t + stp y + stp y))
  nx : LapI x y (i + 1) (strS r t (nowT st t) os) (trn x st t os).1 (t + stp y + stp y) (tr + pth y c + pth y c)
theorem LapI.step (I : LapI x y i r st t tr) (L : Ly x y) (hi : i ≤ 5) (hc : CsOk c) (a0 : 0 ≤ a) (b0 : 0 ≤ b) (ab8 : a + b ≤ 8) : LapS x y i r st t tr c (some (some (loS y tr a), some (hiS y tr b))) := by
  have ok := L.ok
  have h0 : 0 ≤ y.h := L.G.h0
  have l0 : 0 < y.l := L.G.l0
  have d0 : 0 ≤ y.d := L.G.d0
  have ea : (mkRat a 4 : Rat) = (a : Rat) / 4 := by rw [Rat.mkRat_eq_div]; rfl
  have eb : (mkRat b 4 : Rat) = (b : Rat) / 4 := by rw [Rat.mkRat_eq_div]; rfl
  have ca : (0 : Rat) ≤ (a : Rat) := by exact_mod_cast a0
  have cb : (0 : Rat) ≤ (b : Rat) := by exact_mod_cast b0
  have cab : (a : Rat) + (b : Rat) ≤ 8 := by
    have : ((a + b : Int) : Rat) ≤ ((8 : Int) : Rat) := by exact_mod_cast ab8
    have e8 : ((8 : Int) : Rat) = 8 := rfl
    rw [e8] at this
    push_cast at this
    exact this
  have pa : 0 ≤ y.h * mkRat a 4 := mul_nn h0 (by rw [ea]; grind)
  have pb : 0 ≤ y.h * mkRat b 4 := mul_nn h0 (by rw [eb]; grind)
  have pab : y.h * mkRat a 4 + y.h * mkRat b 4 ≤ y.h + y.h := by
    have : 0 ≤ y.h * (2 - (mkRat a 4 + mkRat b 4)) := mul_nn h0 (by rw [ea, eb]; grind)
    grind
  have zt : Sz 62 t := I.ft.szL (by omega)
  have zo : Sz 130 (tr - t) := fx_sz9 ok (I.ftr.mono (by omega))
  have ztr : Sz 193 tr := by have := zo.add zt; rw [show tr - t + t = tr by grind] at this; exact this
  have zqa : Sz 15 (y.h * mkRat a 4) := L.zh.mul (sz_mk (k := 10) (by decide) (by omega) (by decide))
  have zqb : Sz 15 (y.h * mkRat b 4) := L.zh.mul (sz_mk (k := 10) (by decide) (by omega) (by decide))
  have fa : Fx (Mn x 2) 16384 (loS y tr a - t) := by
    rw [show loS y tr a - t = (tr - t) - y.h * mkRat a 4 by unfold loS; grind]
    exact (I.ftr.sub (fx_quart L.zh a0 (by omega))).mono (by omega)
  have fb : Fx (Mn x 2) 16384 (hiS y tr b - t) := by
    rw [show hiS y tr b - t = (tr - t) + y.h * mkRat b 4 by unfold hiS; grind]
    exact (I.ftr.add (fx_quart L.zh b0 (by omega))).mono (by omega)
  have p1 : loS y tr a ≤ tr := by unfold loS; grind
  have p2 : tr ≤ hiS y tr b := by unfold hiS; grind
  have pq : hiS y tr b - loS y tr a ≤ y.h + y.h := by unfold loS hiS; grind
  obtain ⟨so, A'⟩ := I.A.up ok (by omega) I.le (I.ft.mono (by omega)) (I.fd.mono (by omega)) fa fb (by grind) ⟨fun q e => by cases e; exact (ztr.sub zqa).mono (by decide), fun q e => by cases e; exact (ztr.add zqb).mono (by decide)⟩
  obtain ⟨H, h, eh, hh1, hh2, hh3⟩ := hon_trn (st := st) ok I.n1 I.n2 p1 p2 pq
  have B : Bdd x (trn x st t (some (some (loS y tr a), some (hiS y tr b)))).1 (bnds y i) y.h := ⟨h, eh, hh1, hh2, Rat.le_trans hh3 I.nb⟩
  have era : (trn x st t (some (some (loS y tr a), some (hiS y tr b)))).1.ra = t := trn_ra
  generalize hst : (trn x st t (some (some (loS y tr a), some (hiS y tr b)))).1 = st' at A' H B era
  generalize hr : strS r t (nowT st t) (some (some (loS y tr a), some (hiS y tr b))) = r' at A'
  have zz := A'.zs ok (by omega)
  obtain ⟨z1, z2, z3, z4, z5⟩ := zz
  have es : stp y = y.l / 2 := by unfold stp; rw [half_eq]; grind
  have sp : 0 < stp y := by rw [es]; grind
  have zs15 : Sz 15 (stp y) := L.zl.mul (show Sz 10 (mkRat 1 2 : Rat) by decide +kernel)
  have zc : Sz 36 (1 + y.d * c) := by
    have z1' : Sz 1 (1 : Rat) := zo1
    exact (z1'.add (L.zd.mul hc.1)).mono (by decide)
  have zp : Sz 51 (pth y c) := zs15.mul zc
  have zbi : Sz 486 (bnds y i) := (sz_bnds L.zb L.zh L.zl L.zs L.zd i).mono (by omega)
  have zbi1 : Sz 547 (bnds y (i + 1)) := (sz_bnds L.zb L.zh L.zl L.zs L.zd (i + 1)).mono (by omega)
  -- a point of the lap
  have key : ∀ (u tr' b' : Rat), 0 ≤ u → tr' - tr - u ≤ x.d * u → -(x.d * u) ≤ tr' - tr - u → bndT x st' (t + u) ≤ b' → Sz 200 (t + u) → Sz 300 tr' → Sz 700 b' → Wt r' (t + u) tr' b' (nowT st' (t + u)) := by
    intro u tr' b' u0 g1 g2 gb zt' ztr' zb'
    have le : st'.ra ≤ t + u := by rw [era]; grind
    have eu : t + u - st'.ra = u := by rw [era]; grind
    obtain ⟨k1, k2⟩ := H (t + u) tr' le (by rw [eu]; exact g1) (by rw [eu]; exact g2)
    have ee := A'.R.er _ le
    exact ⟨A'.R.now _ le, by rw [A'.R.la]; exact le, by rw [ee]; exact gb, by rw [ee]; exact k1, by rw [ee]; exact k2, A'.R.cz, A'.R.ok, by have := A'.len; omega, zt', ztr', zb', z1.mono (by decide), z2.mono (by decide), z3.mono (by decide), z4, z5⟩
  -- the drift
  have dc : ∀ u : Rat, 0 ≤ u → u * (y.d * c) ≤ x.d * u ∧ -(x.d * u) ≤ u * (y.d * c) := fun u u0 => by
    rw [L.d]
    have w := mul_nn (L.ok.d0) u0
    have m1 : 0 ≤ x.d * u * (1 - c) := mul_nn w (by have := hc.2.2.1; grind)
    have m2 : 0 ≤ x.d * u * (1 + c) := mul_nn w (by have := hc.2.1; grind)
    constructor <;> grind
  have tt : t + stp y + stp y = t + (stp y + stp y) := by grind
  have s2 : stp y + stp y = y.l := by rw [es]; grind
  have ep : ∀ u : Rat, u * (1 + y.d * c) = u + u * (y.d * c) := fun u => by grind
  have w0 : Wt r' t tr (bnds y i) (nowT st' t) := by
    have := key 0 tr (bnds y i) Rat.le_refl (by rw [Rat.mul_zero]; grind) (by rw [Rat.mul_zero]; grind) (by
      have := bdd_le (t := t + 0) ok B (by rw [era]; grind)
      rw [era, show t + 0 - t = 0 by grind, Rat.mul_zero] at this
      grind) (by rw [Rat.add_zero]; exact zt.mono (by decide)) (ztr.mono (by decide)) (zbi.mono (by decide))
    rw [Rat.add_zero] at this
    exact this
  have bn2 : bndT x st' (t + (stp y + stp y)) ≤ bnds y (i + 1) := by
    have := bdd_next (t := t + (stp y + stp y)) (u := y.l) B (by rw [era, s2]; grind)
    rw [show bnds y (i + 1) = nextB y (bnds y i) from rfl]
    unfold nextB at this ⊢
    dsimp only at this
    rw [L.s, L.d]
    exact this
  have g2 := dc (stp y + stp y) (by grind)
  have e2 : tr + pth y c + pth y c - tr - (stp y + stp y) = (stp y + stp y) * (y.d * c) := by unfold pth; rw [ep]; grind
  have zt2 : Sz 200 (t + (stp y + stp y)) := by rw [s2]; exact (zt.add L.zl).mono (by decide)
  have ztr2 : Sz 300 (tr + pth y c + pth y c) := ((ztr.add zp).add zp).mono (by decide)
  refine ⟨so, zt, by rw [I.A.R.la]; exact I.le, ?_, ?_, ?_, ?_⟩
  · rw [hr, hst]; exact w0
  · rw [hr, hst]
    have g1 := dc (stp y) (by grind)
    have e1 : tr + pth y c - tr - stp y = stp y * (y.d * c) := by unfold pth; rw [ep]; grind
    refine key (stp y) _ _ (by grind) (by rw [e1]; exact g1.1) (by rw [e1]; exact g1.2) ?_ ((zt.add zs15).mono (by decide)) ((ztr.add zp).mono (by decide)) ((zbi.add (L.zd.mul zs15)).mono (by decide))
    have := bdd_le (t := t + stp y) ok B (by rw [era]; grind)
    rw [era, show t + stp y - t = stp y by grind, ← L.d] at this
    exact this
  · rw [hr, hst, tt]
    exact key (stp y + stp y) _ _ (by grind) (by rw [e2]; exact g2.1) (by rw [e2]; exact g2.2) bn2 zt2 ztr2 (zbi1.mono (by decide))
  · rw [hr, hst, tt]
    have le : st'.ra ≤ t + (stp y + stp y) := by rw [era]; grind
    have eu : t + (stp y + stp y) - st'.ra = y.l := by rw [era, s2]; grind
    obtain ⟨k1, k2⟩ := H (t + (stp y + stp y)) (tr + pth y c + pth y c) le (by rw [eu, ← s2, e2]; exact g2.1) (by rw [eu, ← s2, e2]; exact g2.2)
    refine ⟨A', le, by rw [eu]; exact fx5 L.zl, ?_, ?_, k1, k2, bn2⟩
    · rw [s2]
      exact (I.ft.add (fx5 L.zl)).mono (by omega)
    · have e3 : tr + pth y c + pth y c - (t + (stp y + stp y)) = (tr - t) + y.l * (x.d * c) := by
        have : tr + pth y c + pth y c - (t + (stp y + stp y)) = (tr - t) + (stp y + stp y) * (y.d * c) := by unfold pth; rw [ep]; grind
        rw [this, s2, L.d]
      rw [e3]
      exact (I.ftr.add (fx_drift ok L.zl hc)).mono (by omega)
end
end Vk

set_option maxHeartbeats 4000000
namespace Vk
open PySem L2 Vm Vl Vs
variable {l aZERO aONE aHALF aDR C CB CR CE CT fB fR fT : Addr} {P : Program} {w : World} {K : PySem.W.Frag} {mg : Str → Option Value} {base : Heap} {k n : Nat} {f f1 f2 f3 f4 f5 f6 f7 f8 f9 f10 f11 f12 : Addr} {fd fd1 fd2 fd3 fd4 fd5 fd6 fd7 fd8 fd9 fd10 fd11 fd12 : FuncData}

/-- all but the store and the steering is as it was -/
def Fr2 (s o : Addr) (H H' : Hp) : Prop := ∀ b u, H b = some u → b ≠ s → b ≠ o → H' b = some u
section
variable {s o : Addr} {H H' H2 : Hp}
theorem Fr2.refl : Fr2 s o H H := fun _ _ h _ _ => h
theorem Fr2.trans (a : Fr2 s o H H') (b : Fr2 s o H' H2) : Fr2 s o H H2 := fun c u h n m => b c u (a c u h n m) n m
theorem Fr2.same (e : Same H H') : Fr2 s o H H' := fun b u h _ _ => e b u h
theorem Fr2.fr (e : Fr s H H') : Fr2 s o H H' := fun b u h n _ => e b u h n
theorem Fr2.frI (e : Fr o H H') : Fr2 s o H H' := fun b u h _ n => e b u h n
theorem Fr2.frD {D : Addr} (h : Fr2 s o H H') (n : H D = none) (e : Fr D H' H2) : Fr2 s o H H2 := fun b u hb n1 n2 => e b u (h b u hb n1 n2) (fun z => by rw [z, n] at hb; cases hb)
theorem Fr2.sqt {a : Addr} {xs : List V} (e : Fr2 s o H H') (hs : ∃ ys, H s = some (.lst ys)) (ho : ∃ C d fs, H o = some (.ins C d fs)) (h : SqT K H a xs) : SqT K H' a xs := by
  obtain ⟨ys, hs⟩ := hs
  obtain ⟨C, d, fs, ho⟩ := ho
  have n : ∀ {u : HO}, H a = some u → (∀ ys, u ≠ .lst ys) → a ≠ s := fun {u} h1 h2 z => by
    rw [z, hs] at h1
    exact h2 ys (Option.some.inj h1).symm
  have m : ∀ {u : HO}, H a = some u → (∀ C d fs, u ≠ .ins C d fs) → a ≠ o := fun {u} h1 h2 z => by
    rw [z, ho] at h1
    exact h2 C d fs (Option.some.inj h1).symm
  rcases h with (h | ⟨u, h⟩) | h
  · exact .inl (.inl (e _ _ h (n h fun _ z => by cases z) (m h fun _ _ _ z => by cases z)))
  · exact .inl (.inr ⟨u, e _ _ h (n h fun _ z => by cases z) (m h fun _ _ _ z => by cases z)⟩)
  · exact .inr h
theorem Fr2.rq {v : V} {q : Rat} (e : Fr2 s o H H') (hs : ∃ ys, H s = some (.lst ys)) (ho : ∃ C d fs, H o = some (.ins C d fs)) (h : Rq K H v q) : Rq K H' v q := by
  obtain ⟨a, rfl, h⟩ := h
  exact ⟨a, rfl, e.sqt hs ho h⟩
end
theorem opt_fr {s : Addr} {H H' : Hp} {v : V} {o : Option Rat} (e : Fr s H H') (hs : ∃ ys, H s = some (.lst ys)) (h : optV K H v o) : optV K H' v o := by
  cases o with
  | none => exact h
  | some q => exact Rq.fr e hs h
theorem free_ne {s B : Addr} {H : Hp} (S : Sto l s H) (n : H B = none) : B ≠ s ∧ B ≠ l := by
  obtain ⟨ns, pos, num, seed, hold, cnt, h1, h2, h3, r⟩ := S
  exact ⟨fun e => (by rw [e, h1] at n; cases n), fun e => (by rw [e, h3] at n; cases n)⟩
theorem frI_at {s a : Addr} {H H' : Hp} {xs : List V} (e : Fr s H H') (hs : ∃ C d fs, H s = some (.ins C d fs)) (h : H a = some (.lst xs)) : H' a = some (.lst xs) := by
  obtain ⟨C, d, fs, hs⟩ := hs
  exact e _ _ h fun z => by rw [z, hs] at h; cases h
theorem sto_frI {s o : Addr} {H H' : Hp} (S : Sto l s H) (e : Fr o H H') (hs : ∃ C d fs, H o = some (.ins C d fs)) : Sto l s H' := by
  obtain ⟨ns, pos, num, seed, hold, cnt, h1, h2, h3, r⟩ := S
  exact ⟨ns, pos, num, seed, hold, cnt, frI_at e hs h1, h2, frI_at e hs h3, r⟩
theorem SgA.frS {s : Addr} {H H' : Hp} {o : Addr} {r : Sr} (h : SgA K C o H r) (S : Sto l s H) (e : Fr s H H') : SgA K C o H' r := by
  obtain ⟨dx, x, h1, h2⟩ := h
  have hs := S.some
  have n : o ≠ s := fun z => by obtain ⟨ys, hs⟩ := hs; rw [z, hs] at h1; cases h1
  exact ⟨dx, x, e _ _ h1 n, ⟨h2.sl.fr e hs, h2.dr.fr e hs, opt_fr e hs h2.ov, h2.c.elim fun us q => ⟨us, q.fr e hs (h2.ns S)⟩, opt_fr e hs h2.aim, h2.la.fr e hs, h2.bd.fr e hs, h2.hf.fr e hs⟩⟩
/-- the steering's course is not the list at D -/
def NC (D o : Addr) (G : Hp) : Prop := ∀ C dx sx, G o = some (.ins C dx (sgf sx)) → sx.l ≠ D
theorem nc_cn {C D o : Addr} {H H' : Hp} (h : CN C o H H') (hD : ∃ u, H D = some u) : NC D o H' := fun C' dx' sx' h' e => by
  obtain ⟨dx, sx, h1, h2⟩ := h
  obtain ⟨u, hD⟩ := hD
  have e1 := h1.symm.trans h'
  injection e1 with e1
  injection e1 with _ _ e2
  have l1 := (sgf_at sx).2.2.2.1
  rw [e2, (sgf_at sx').2.2.2.1] at l1
  injection l1 with l1
  injection l1 with l1
  rw [← l1, e, hD] at h2
  cases h2
theorem NC.same {D o C : Addr} {r : Sr} {G G' : Hp} (h : NC D o G) (g : SgA K C o G r) (e : Same G G') : NC D o G' := fun C' dx' sx' h' => by
  obtain ⟨dx, sx, h1, _⟩ := g
  rw [e _ _ h1, ← h1] at h'
  exact h C' dx' sx' h'
theorem NC.fr {D o C s : Addr} {r : Sr} {G G' : Hp} (h : NC D o G) (g : SgA K C o G r) (n : o ≠ s) (e : Fr s G G') : NC D o G' := fun C' dx' sx' h' => by
  obtain ⟨dx, sx, h1, _⟩ := g
  rw [e _ _ h1 n, ← h1] at h'
  exact h C' dx' sx' h'
theorem SgA.frD {D : Addr} {H H' : Hp} {o : Addr} {r : Sr} (h : SgA K C o H r) (hs : ∃ ys, H D = some (.lst ys)) (nc : NC D o H) (e : Fr D H H') : SgA K C o H' r := by
  obtain ⟨dx, x, h1, h2⟩ := h
  have n : o ≠ D := fun z => by obtain ⟨ys, hs⟩ := hs; rw [z, hs] at h1; cases h1
  exact ⟨dx, x, e _ _ h1 n, ⟨h2.sl.fr e hs, h2.dr.fr e hs, opt_fr e hs h2.ov, h2.c.elim fun us q => ⟨us, q.fr e hs (nc _ _ _ h1)⟩, opt_fr e hs h2.aim, h2.la.fr e hs, h2.bd.fr e hs, h2.hf.fr e hs⟩⟩
theorem SgA.ns {s : Addr} {H : Hp} {o : Addr} {r : Sr} (h : SgA K C o H r) (S : Sto l s H) : o ≠ s := fun z => by
  obtain ⟨dx, x, h1, h2⟩ := h
  obtain ⟨ys, hs⟩ := S.some
  rw [z, hs] at h1; cases h1
/-- what was told: no more than the bounds -/
def Tl (y : A6) (es : List Rat) (n : Nat) : Prop := es.length = n ∧ ∀ (k : Nat) (e : Rat), es[k]? = some e → e ≤ bnds y k ∧ (k = 0 → e = y.b) ∧ Sz 1500 e
theorem Tl.snoc {y : A6} {es : List Rat} {n : Nat} {e : Rat} (h : Tl y es (n + 1)) (g : e ≤ bnds y (n + 1)) (ze : Sz 1500 e) : Tl y (es ++ [e]) (n + 1 + 1) := by
  obtain ⟨h1, h2⟩ := h
  refine ⟨by rw [List.length_append, h1]; rfl, fun k q hk => ?_⟩
  by_cases c : k < es.length
  · rw [List.getElem?_append_left c] at hk
    exact h2 k q hk
  · rw [List.getElem?_append_right (by omega)] at hk
    have k0 : k - es.length = 0 := by
      have := (List.getElem?_eq_some_iff.mp hk).1
      simp at this
      omega
    rw [k0] at hk
    cases hk
    rw [show k = n + 1 by omega]
    exact ⟨g, nofun, ze⟩
def adds (q p : Rat) : Nat → Rat
  | 0 => q
  | n + 1 => adds q p n + p
/-- what a lap's law reads and never changes -/
structure LQ (K : PySem.W.Frag) (l s pr Bb : Addr) (xf xh xu xl xd : V) (ub : List V) (x : Ag) (y : A6) (N : Nat) (G : Hp) : Prop where
  S : Sto l s G
  hf : Rq K G xf x.r
  hh : Rq K G xh y.h
  hu : Rq K G xu y.l
  hp : SqT K G pr [xl, xd]
  hl : Rq K G xl y.s
  hd : Rq K G xd y.d
  hB : G Bb = some (.lst ub)
  nB : Bb ≠ s
  hb : All2 (Rq K G) ub (bl y (N + 1))
section
variable {s pr Bb : Addr} {xf xh xu xl xd : V} {ub : List V} {x : Ag} {y : A6} {N : Nat} {G G' : Hp}
theorem LQ.same (h : LQ K l s pr Bb xf xh xu xl xd ub x y N G) (e : Same G G') : LQ K l s pr Bb xf xh xu xl xd ub x y N G' := ⟨h.S.same e, h.hf.same e, h.hh.same e, h.hu.same e, e.sqt h.hp, h.hl.same e, h.hd.same e, e _ _ h.hB, h.nB, h.hb.imp fun _ _ q => Rq.same e q⟩
theorem LQ.fr (h : LQ K l s pr Bb xf xh xu xl xd ub x y N G) (e : Fr s G G') (S' : Sto l s G') : LQ K l s pr Bb xf xh xu xl xd ub x y N G' := ⟨S', h.hf.fr e h.S.some, h.hh.fr e h.S.some, h.hu.fr e h.S.some, sqt_fr e h.S.some h.hp, h.hl.fr e h.S.some, h.hd.fr e h.S.some, e _ _ h.hB h.nB, h.nB, h.hb.imp fun _ _ q => Rq.fr e h.S.some q⟩
theorem LQ.frI {o : Addr} (h : LQ K l s pr Bb xf xh xu xl xd ub x y N G) (e : Fr o G G') (hi : ∃ C d fs, G o = some (.ins C d fs)) : LQ K l s pr Bb xf xh xu xl xd ub x y N G' := ⟨sto_frI h.S e hi, frI_rq e hi h.hf, frI_rq e hi h.hh, frI_rq e hi h.hu, frI_sqt e hi h.hp, frI_rq e hi h.hl, frI_rq e hi h.hd, frI_at e hi h.hB, h.nB, h.hb.imp fun _ _ q => frI_rq e hi q⟩
theorem LQ.frD {D : Addr} (h : LQ K l s pr Bb xf xh xu xl xd ub x y N G) (e : Fr D G G') (hD : ∃ ys, G D = some (.lst ys)) (n1 : D ≠ s) (n2 : D ≠ l) (n3 : D ≠ Bb) : LQ K l s pr Bb xf xh xu xl xd ub x y N G' := ⟨by
  obtain ⟨ns, pos, num, seed, hold, cnt, h1, h2, h3, r⟩ := h.S
  exact ⟨ns, pos, num, seed, hold, cnt, e _ _ h1 n1.symm, h2, e _ _ h3 n2.symm, r⟩, h.hf.fr e hD, h.hh.fr e hD, h.hu.fr e hD, sqt_fr e hD h.hp, h.hl.fr e hD, h.hd.fr e hD, e _ _ h.hB n3.symm, h.nB, h.hb.imp fun _ _ q => Rq.fr e hD q⟩
theorem LQ.item (h : LQ K l s pr Bb xf xh xu xl xd ub x y N G) {k : Nat} (hk : k ≤ N) : ∃ u, ub[k]? = some u ∧ Rq K G u (bnds y k) := by
  have ln : ub.length = N + 1 := by rw [h.hb.1, bl_len]
  have e : ub[k]? = some ub[k] := List.getElem?_eq_getElem (by omega)
  exact ⟨_, e, h.hb.2 k _ _ e (bl_at y (by omega))⟩
end
theorem cs_mem {c : Rat} (h : c = 0 ∨ c = 1 ∨ c = -1 ∨ c = mkRat 1 2) : CsOk c := by
  rcases h with rfl | rfl | rfl | rfl
  · exact ⟨by decide +kernel, by decide +kernel, by decide +kernel, ⟨0, by decide +kernel, by decide⟩⟩
  · exact ⟨by decide +kernel, by decide +kernel, by decide +kernel, ⟨2, by decide +kernel, by decide⟩⟩
  · exact ⟨by decide +kernel, by decide +kernel, by decide +kernel, ⟨-2, by decide +kernel, by decide⟩⟩
  · exact ⟨by decide +kernel, by decide +kernel, by decide +kernel, ⟨1, by decide +kernel, by decide⟩⟩
def spLaps (K : PySem.W.Frag) (C l : Addr) : Sp := fun vs H Q _ => ∃ (s o : Addr) (xf xt xh xu : V) (pr Bb : Addr) (xl xd : V) (ub : List V) (x : Ag) (y : A6) (tr : Rat) (N : Nat), vs = [.ref s, .ref o, xf, xt, xh, xu, .ref pr, .ref Bb] ∧ SgA K C o H (sr0 x) ∧ Rq K H xt tr ∧ LQ K l s pr Bb xf xh xu xl xd ub x y N H ∧ N ≤ 6 ∧ Ly x y ∧ LapI x y 0 (sr0 x) (ls0 x) x.r tr ∧
  ∀ D us es H', H D = none → D ≠ s → D ≠ o → H' D = some (.lst us) → All2 (Rq K H') us es → Tl y es (N + 1) → Sto l s H' → Fr2 s o H H' → Q (.ref D) H'
abbrev s__law_laps : Stmt := top 74
abbrev N__law_laps : List Str := ["_law_store_here", "_law_steering_here", "_law_first", "_law_truth", "_law_half", "_law_turn", "_law_pair", "_law_bounds_here", "_law_raw", "_law_told", "_law_k", "_law_share", "_law_step", "_law_path", "_law_part_here", "_law_limit"]
theorem sc__law_laps : FnScope N__law_laps ["_law_store_here", "_law_steering_here", "_law_first", "_law_truth", "_law_half", "_law_turn", "_law_pair", "_law_bounds_here"] (defScope s__law_laps) := ⟨rfl, rfl, rfl, by decide +kernel, rfl, by decide +kernel, by decide +kernel⟩
abbrev ps__law_laps : List Str := ["_law_store_here", "_law_steering_here", "_law_first", "_law_truth", "_law_half", "_law_turn", "_law_pair", "_law_bounds_here"]
theorem ok_laps (T : Bn mg) (F : Fn K mg "_law_laps" s__law_laps ps__law_laps f fd) (d_law_within : Def P w K mg base k "_law_within" ["_law_steering_here", "_law_raw", "_law_truth", "_law_bound"] (spWithin K C) f1 fd1) (dSteering_error_at : MthY P w K mg base k C "error_at" ps_Steering_error_at (spErrAt K C CT) f2 fd2)
    (dSteering_steer : MthY P w K mg base k C "steer" ps_Steering_steer (spSteerN K C CT) f3 fd3) (d_law_round : Def P w K mg base k "_law_round" ["_law_store_here", "_law_truth", "_law_half"] (spRound K l) f4 fd4) (d_law_times : Def P w K mg base k "_law_times" ["_law_a", "_law_b"] (spOp2 K (· * ·)) f5 fd5)
    (d_law_pick : Def P w K mg base k "_law_pick" ["_law_store_here", "_law_things"] (spPick K l) f6 fd6) (d_law_plus : Def P w K mg base k "_law_plus" ["_law_a", "_law_b"] (spOp2 K (· + ·)) f7 fd7) : Def P w K mg base (k + 1) "_law_laps" ps__law_laps (spLaps K C l) f fd := by
  refine ⟨F.F.ok sc__law_laps (fun vs H Q E h => ?_) (fun cdv A outer s H vs Q E hr h => ?_), F.m, F.F.kp, F.b⟩
  · obtain ⟨_, _, _, _, _, _, _, _, _, _, _, _, _, _, _, rfl, _⟩ := h
    rfl
  obtain ⟨s, o, xf, xt, xh, xu, pr, Bb, xl, xd, ub, x, y, tr, N, rfl, g, ht, B, hN, L, I0, z⟩ := h
  refine ⟨_, (pss_cons (ps_set (i := 8) sc__law_laps.nd rfl (Or.inl rfl) (pv 2))
      (pss_cons (ps_if (pt_not (pt_val (pcall d_law_within hr (pa_cons (pv 1) (pa_cons (pv 8) (pa_cons (pv 3) (pa_cons (pe_ix ix_list (pv 7) pe_int (fun _ _ => rfl)) pa_nil)))))))
        (pss_one (ps_ret pe_non))
        pss_nil)
      (pss_cons (ps_set (i := 9) sc__law_laps.nd rfl (Or.inl rfl) (pe_lst (pa_cons (pmethYL dSteering_error_at hr (pv 1) (pa_cons (pv 8) pa_nil)) pa_nil)))
      (pss_cons (ps_for PassesOwn.never rfl (pi_range1 (by rfl) T.range_ (pa_cons (pe_op op_sub (pe_callB call_len_seq (by rfl) T.len_ PySem.boot_len (pa_cons (pv 7) pa_nil)) pe_int) pa_nil)) (pg_name (i := 10) sc__law_laps.nd rfl (Or.inl rfl))
        (pss_cons (ps_expr (pmethYL dSteering_steer hr (pv 1) (pa_cons (pv 8) (pa_cons (pcall d_law_round hr (pa_cons (pv 0) (pa_cons (pv 3) (pa_cons (pv 4) pa_nil)))) pa_nil))))
        (pss_cons (ps_if (pt_not (pt_val (pcall d_law_within hr (pa_cons (pv 1) (pa_cons (pv 8) (pa_cons (pv 3) (pa_cons (pe_ix ix_list (pv 7) (pv 10) (fun _ _ => rfl)) pa_nil)))))))
          (pss_one (ps_ret pe_non))
          pss_nil)
        (pss_cons (ps_set (i := 11) sc__law_laps.nd rfl (Or.inl rfl) (pcall d_law_times hr (pa_cons (pe_ix ix_tup (pv 6) pe_int (fun _ _ => rfl)) (pa_cons (pcall d_law_pick hr (pa_cons (pv 0) (pa_cons (pe_lst (pa_cons (pe_tup (pa_cons pe_int (pa_cons pe_int pa_nil))) (pa_cons (pe_tup (pa_cons pe_int (pa_cons pe_int pa_nil))) (pa_cons (pe_tup (pa_cons (pe_un un_neg pe_int) (pa_cons pe_int pa_nil))) (pa_cons (pe_tup (pa_cons pe_int (pa_cons pe_int pa_nil))) pa_nil))))) pa_nil))) pa_nil))))
        (pss_cons (ps_set (i := 12) sc__law_laps.nd rfl (Or.inl rfl) (pcall d_law_times hr (pa_cons (pv 5) (pa_cons (pe_tup (pa_cons pe_int (pa_cons pe_int pa_nil))) pa_nil))))
        (pss_cons (ps_set (i := 13) sc__law_laps.nd rfl (Or.inl rfl) (pcall d_law_times hr (pa_cons (pv 12) (pa_cons (pcall d_law_plus hr (pa_cons (pe_tup (pa_cons pe_int (pa_cons pe_int pa_nil))) (pa_cons (pv 11) pa_nil))) pa_nil))))
        (pss_cons (ps_for PassesOwn.never rfl (pi_range1 (by rfl) T.range_ (pa_cons pe_int pa_nil)) (pg_name (i := 14) sc__law_laps.nd rfl (Or.inl rfl))
          (pss_cons (ps_set (i := 8) sc__law_laps.nd rfl (Or.inl rfl) (pcall d_law_plus hr (pa_cons (pv 8) (pa_cons (pv 12) pa_nil))))
          (pss_cons (ps_set (i := 3) sc__law_laps.nd rfl (Or.inl rfl) (pcall d_law_plus hr (pa_cons (pv 3) (pa_cons (pv 13) pa_nil))))
          (pss_cons (ps_set (i := 15) sc__law_laps.nd rfl (Or.inl rfl) (pe_ifExp (pt_cmpR op_eq (pv 14) pe_int (nomark _)) (pe_ix ix_list (pv 7) (pe_op op_add (pv 10) pe_int) (fun _ _ => rfl)) (pcall d_law_plus hr (pa_cons (pe_ix ix_list (pv 7) (pv 10) (fun _ _ => rfl)) (pa_cons (pcall d_law_times hr (pa_cons (pe_ix ix_tup (pv 6) pe_int (fun _ _ => rfl)) (pa_cons (pv 12) pa_nil))) pa_nil)))))
          (pss_one (ps_if (pt_not (pt_val (pcall d_law_within hr (pa_cons (pv 1) (pa_cons (pv 8) (pa_cons (pv 3) (pa_cons (pv 15) pa_nil)))))))
            (pss_one (ps_ret pe_non))
            pss_nil))))))
        (pss_one (ps_expr (pe_bm PySem.F.plainAttrs_list PySem.F.slot_list_append PySem.F.type_list_append mt_append (pv 9) (pa_cons (pmethYL dSteering_error_at hr (pv 1) (pa_cons (pv 8) pa_nil)) pa_nil)))))))))))
      (pss_one (ps_ret (pv 9))))))), ?_⟩
  refine cutG (fun σ' G => σ' = [some (.ref s), some (.ref o), some xf, some xt, some xh, some xu, some (.ref pr), some (.ref Bb), some xf, none, none, none, none, none, none, none] ∧ G = H) ?_ ?_
  rotate_left
  · intro u' key
    exact ⟨_, rfl, key _ _ ⟨rfl, rfl⟩⟩
  rintro σ G0 ⟨rfl, rfl⟩
  have ok := L.ok
  have zr0 : Sz 62 x.r := I0.ft.szL (by decide)
  have ztr0 : Sz 200 tr := by
    have zo : Sz 130 (tr - x.r) := fx_sz9 ok (I0.ftr.mono (by decide))
    have := zo.add zr0
    rw [show tr - x.r + x.r = tr by grind] at this
    exact this.mono (by decide)
  have W0 : Wt (sr0 x) x.r tr (bnds y 0) (nowT (ls0 x) x.r) := by
    obtain ⟨z1, z2, z3, z4, z5⟩ := I0.A.zs ok (by decide)
    have ee := I0.A.R.er x.r Rat.le_refl
    exact ⟨I0.A.R.now _ Rat.le_refl, Rat.le_refl, by rw [ee]; exact I0.nb, by rw [ee]; exact I0.n1, by rw [ee]; exact I0.n2, I0.A.R.cz, I0.A.R.ok, by show 1 ≤ 900; decide, zr0.mono (by decide), ztr0.mono (by decide), (sz_bnds L.zb L.zh L.zl L.zs L.zd 0).mono (by decide), z1.mono (by decide), z2.mono (by decide), z3.mono (by decide), z4, z5⟩
  refine cutG (fun σ' G => σ' = [some (.ref s), some (.ref o), some xf, some xt, some xh, some xu, some (.ref pr), some (.ref Bb), some xf, none, none, none, none, none, none, none] ∧ Same G0 G) ?_ ?_
  rotate_left
  · intro u' key
    obtain ⟨u, hu, hbu⟩ := B.item (k := 0) (Nat.zero_le _)
    have hat : atI ub 0 = some u := atI_nat hu
    have hf := B.hf
    have hB := SqL.of (K := K) B.hB
    refine ⟨_, rfl, _, rfl, _, rfl, _, rfl, Bb, _, _, _, rfl, rfl, hB, hat, o, _, _, _, sr0 x, x.r, tr, bnds y 0, _, rfl, g, hf, ht, hbu, W0, fun H' e => ?_⟩
    (walk_at "vk_vc")
    all_goals exact key _ _ ⟨rfl, e⟩
  rintro σ G1 ⟨rfl, e1⟩
  replace g := g.same e1
  replace ht := ht.same e1
  replace B := B.same e1
  refine cutG (fun σ' G => ∃ (D : Addr) (x0 : V) (e0 : Rat), σ' = [some (.ref s), some (.ref o), some xf, some xt, some xh, some xu, some (.ref pr), some (.ref Bb), some xf, some (.ref D), none, none, none, none, none, none] ∧ Same G1 G ∧ G1 D = none ∧ G D = some (.lst [x0]) ∧ Rq K G x0 e0 ∧ e0 ≤ bnds y 0 ∧ e0 = y.b) ?_ ?_
  rotate_left
  · intro u' key
    obtain ⟨dx, sx, ho, Gs⟩ := id g
    obtain ⟨no1, no2, no3, no4, no5, no6⟩ := sgf_no sx
    obtain ⟨z1, z2, z3, z4, z5⟩ := I0.A.zs ok (by decide)
    have hf := B.hf
    have y1 : Sz 700 (sr0 x).la := z1.mono (by decide)
    have y2 : Sz 700 (sr0 x).bd := z2.mono (by decide)
    have y3 : Sz 700 (sr0 x).hf := z3.mono (by decide)
    have y4 : Sz 700 (sr0 x).sl := z4.mono (by decide)
    have y5 : Sz 700 (sr0 x).dr := z5.mono (by decide)
    have y0 : Sz 700 x.r := zr0.mono (by decide)
    (walk_at "vk_vc")
    · intro _ v' H' e h
      (walk_at "vk_vc")
      refine key _ _ ⟨p, v', errS (sr0 x) x.r, rfl, by focus exact (by (walk_at "vk_same")), sameFree e np, upd_same, by (walk_at "vk_cl"), W0.eb, ?_⟩
      rw [I0.A.R.er x.r Rat.le_refl, L.b]
      show x.e + x.d * (x.r - x.r) = x.e
      rw [show x.r - x.r = 0 by grind, Rat.mul_zero]; grind
    · exact fun c => absurd c Rat.lt_irrefl
  rintro σ G2 ⟨D, x0, e0, rfl, e2, nD, hD, hx0, le0, eq0⟩
  have nDs : D ≠ s := (free_ne B.S nD).1
  have nDo : D ≠ o := fun h => by
    obtain ⟨_, _, _, h1⟩ := g.ins
    rw [← h, nD] at h1
    cases h1
  have eH : Same G0 G2 := e1.trans e2
  have nD0 : G0 D = none := e1.free nD
  have nDl : D ≠ l := (free_ne B.S nD).2
  have nDB : D ≠ Bb := fun h => by have := B.hB; rw [← h, nD] at this; cases this
  have nc0 : NC D o G2 := fun C' dx' sx' h' ez => by
    obtain ⟨dx, sx, h1, h2⟩ := id g
    have h3 := e2 _ _ h1
    rw [h'] at h3
    injection h3 with h3
    injection h3 with _ _ h4
    have l1 := (sgf_at sx).2.2.2.1
    rw [← h4, (sgf_at sx').2.2.2.1] at l1
    injection l1 with l1
    injection l1 with l1
    obtain ⟨us, hc, _⟩ := h2.c
    rw [← l1, ez, nD] at hc
    cases hc
  replace g := g.same e2
  replace ht := ht.same e2
  replace B := B.same e2
  clear e1 e2 nD W0
  have T0 : Tl y [e0] 1 := ⟨rfl, fun k e hk => by
    have : k = 0 := by have := (List.getElem?_eq_some_iff.mp hk).1; simp at this; omega
    subst this
    cases hk
    exact ⟨le0, fun _ => eq0, by rw [eq0]; exact L.zb.mono (by decide)⟩⟩
  refine cutG (fun σ' G => ∃ (xt xr : V) (us : List V) (es : List Rat) (k10 k11 k12 k13 k14 k15 : Option V), σ' = [some (.ref s), some (.ref o), some xf, some xt, some xh, some xu, some (.ref pr), some (.ref Bb), some xr, some (.ref D), k10, k11, k12, k13, k14, k15] ∧ Sto l s G ∧ Fr2 s o G0 G ∧ G D = some (.lst us) ∧ All2 (Rq K G) us es ∧ Tl y es (N + 1)) ?_ ?_
  rotate_left
  · intro u' key
    have lub : ub.length = N + 1 := by rw [B.hb.1, bl_len]
    have hB := SqL.of (K := K) B.hB
    have lsz : ub.length < 2 ^ 32 := by omega
    (walk_at "vk_vc")
    have eN : ((ub.length : Int) - 1).toNat = N := by omega
    rw [eN]
    refine forR (lo := 0) (n := N) (fun i σ G => Hold (∃ (xt xr : V) (us : List V) (es : List Rat) (k10 k11 k12 k13 k14 k15 : Option V) (r : Sr) (st : Ls) (t tr : Rat), σ = [some (.ref s), some (.ref o), some xf, some xt, some xh, some xu, some (.ref pr), some (.ref Bb), some xr, some (.ref D), k10, k11, k12, k13, k14, k15] ∧ LapI x y i r st t tr ∧ SgA K C o G r ∧ Rq K G xt tr ∧ Rq K G xr t ∧ LQ K l s pr Bb xf xh xu xl xd ub x y N G ∧ G D = some (.lst us) ∧ All2 (Rq K G) us es ∧ Tl y es (i + 1) ∧ Fr2 s o G0 G ∧ NC D o G))
      ⟨xt, xf, [x0], [e0], none, none, none, none, none, none, _, _, _, _, rfl, I0, g, ht, B.hf, B, hD, All2.one hx0, T0, Fr2.same eH, nc0⟩ ?_ ?_
    · clear I0 g ht B hD hx0 T0 eH hB lsz
      rintro i σ G1 hi ⟨xt, xr, us, es, k10, k11, k12, k13, k14, k15, r, st, t, tr, rfl, I, g, ht, hx, B, hD, hes, tl, fr, nc⟩
      have i5 : i ≤ 5 := by omega
      have zz := I.A.zs ok (by omega)
      obtain ⟨y1, y2, y3, y4, y5⟩ := zz
      have zt : Sz 62 t := I.ft.szL (by omega)
      have ztr : Sz 200 tr := by
        have zo : Sz 130 (tr - t) := fx_sz9 ok (I.ftr.mono (by omega))
        have := zo.add zt
        rw [show tr - t + t = tr by grind] at this
        exact this.mono (by decide)
      have lus : us.length = i + 1 := by rw [hes.1, tl.1]
      dsimp only [gName]
      refine cutG (fun σ' G => ∃ (a b : Int), σ' = [some (.ref s), some (.ref o), some xf, some xt, some xh, some xu, some (.ref pr), some (.ref Bb), some xr, some (.ref D), some (.int (0 + i)), k11, k12, k13, k14, k15] ∧ 0 ≤ a ∧ 0 ≤ b ∧ a + b ≤ 8 ∧ SgA K C o G (strS r t (nowT st t) (some (some (loS y tr a), some (hiS y tr b)))) ∧ Rq K G xt tr ∧ Rq K G xr t ∧ LQ K l s pr Bb xf xh xu xl xd ub x y N G ∧ G D = some (.lst us) ∧ All2 (Rq K G) us es ∧ Fr2 s o G0 G ∧ NC D o G) ?_ ?_
      rotate_left
      · intro u' key
        obtain ⟨dx, sx, ho, Gs⟩ := id g
        obtain ⟨no1, no2, no3, no4, no5, no6⟩ := sgf_no sx
        refine ⟨_, rfl, o, dx, _, rfl, ho, no1, _, rfl, _, rfl, _, rfl, _, rfl, s, _, _, tr, y.h, rfl, B.S, ht, B.hh, ztr.mono (by decide), L.zh, fun v G2 a b a0 b0 ab hv S2 e2 => ?_⟩
        have g2 := g.frS B.S e2
        have ht2 := ht.fr e2 B.S.some
        have hx2 := hx.fr e2 B.S.some
        have B2 := B.fr e2 S2
        have hD2 := e2 _ _ hD nDs
        have hes2 := hes.imp fun _ _ q => Rq.fr e2 B.S.some q
        have LS := I.step L i5 (cs_mem (.inl rfl)) a0 b0 ab
        refine ⟨o, _, _, r, t, nowT st t, _, rfl, g2, hx2, hv, zt.mono (by decide), y1.mono (by decide), y2.mono (by decide), y3.mono (by decide), y4, y5, fun c => ⟨LS.so, fun G3 e3 g' cn => ?_⟩, fun c => absurd LS.ra (Rat.not_le.mpr c)⟩
        have hi3 := g2.ins
        exact key _ _ ⟨a, b, rfl, a0, b0, ab, g', frI_rq e3 hi3 ht2, frI_rq e3 hi3 hx2, B2.frI e3 hi3, frI_at e3 hi3 hD2, hes2.imp fun _ _ q => frI_rq e3 hi3 q, fr.trans ((Fr2.fr e2).trans (Fr2.frI e3)), nc_cn cn ⟨_, hD2⟩⟩
      rintro σ G2 ⟨a, b, rfl, a0, b0, ab, g', ht', hx', B', hD', hes', fr', nc'⟩
      clear g ht hx B hD hes fr nc
      have LS0 := I.step L i5 (cs_mem (.inl rfl)) a0 b0 ab
      refine cutG (fun σ' G => σ' = [some (.ref s), some (.ref o), some xf, some xt, some xh, some xu, some (.ref pr), some (.ref Bb), some xr, some (.ref D), some (.int (0 + i)), k11, k12, k13, k14, k15] ∧ Same G2 G) ?_ ?_
      rotate_left
      · intro u' key
        obtain ⟨u, hu, hbu⟩ := B'.item (k := i) (by omega)
        have hat : atI ub (0 + (i : Int)) = some u := by rw [Int.zero_add]; exact atI_nat hu
        have hB := SqL.of (K := K) B'.hB
        refine ⟨_, rfl, _, rfl, _, rfl, _, rfl, _, rfl, Bb, _, _, _, rfl, rfl, hB, hat, o, _, _, _, _, t, tr, bnds y i, _, rfl, g', hx', ht', hbu, LS0.w0, fun H' e => ?_⟩
        (walk_at "vk_vc")
        all_goals exact key _ _ ⟨rfl, e⟩
      rintro σ G3 ⟨rfl, e3⟩
      replace nc' := nc'.same g' e3
      replace g' := g'.same e3
      replace ht' := ht'.same e3
      replace hx' := hx'.same e3
      replace B' := B'.same e3
      replace hD' := e3 _ _ hD'
      replace hes' := hes'.imp fun _ _ q => Rq.same e3 q
      replace fr' := fr'.trans (Fr2.same e3)
      clear e3 LS0
      refine cutG (fun σ' G => ∃ (c : Rat) (v11 : V), σ' = [some (.ref s), some (.ref o), some xf, some xt, some xh, some xu, some (.ref pr), some (.ref Bb), some xr, some (.ref D), some (.int (0 + i)), some v11, k12, k13, k14, k15] ∧ CsOk c ∧ Rq K G v11 (y.d * c) ∧ Sto l s G ∧ Fr s G3 G) ?_ ?_
      rotate_left
      · intro u' key
        have hp := B'.hp
        have hdd := B'.hd
        have S3 := B'.S
        have i1 : atI [xl, xd] 1 = some xd := rfl
        have zd := L.zd
        (walk_at "vk_vc")
        intro v H' hv S' e'
        have eA : Fr s G3 H' := by focus (walk_at "vk_fr")
        have hdA := hdd.fr eA S3.some
        have hpA := sqt_fr eA S3.some hp
        obtain ⟨c, hc, hvc⟩ : ∃ c, CsOk c ∧ Rq K H' v c := by
          simp only [List.mem_cons, List.not_mem_nil, or_false] at hv
          rcases hv with rfl | rfl | rfl | rfl
          · exact ⟨0, cs_mem (.inl rfl), by clear eA hdA hpA; (walk_at "vk_cl")⟩
          · exact ⟨1, cs_mem (.inr (.inl rfl)), by clear eA hdA hpA; (walk_at "vk_cl")⟩
          · exact ⟨-1, cs_mem (.inr (.inr (.inl rfl))), by clear eA hdA hpA; (walk_at "vk_cl")⟩
          · exact ⟨mkRat 1 2, cs_mem (.inr (.inr (.inr rfl))), by clear eA hdA hpA; (walk_at "vk_cl")⟩
        have zc := hc.1
        clear hv hdd hp
        (walk_at "vk_vc")
        exact key _ _ ⟨c, _, rfl, hc, h, S'.same (by focus exact (by (walk_at "vk_same"))), eA.trans (Fr.of (by focus exact (by (walk_at "vk_same"))))⟩
      rintro σ G4 ⟨c, v11, rfl, hc, h11, S4, e4⟩
      have hsS := B'.S.some
      replace nc' := nc'.fr g' (g'.ns B'.S) e4
      replace g' := g'.frS B'.S e4
      replace ht' := ht'.fr e4 hsS
      replace hx' := hx'.fr e4 hsS
      replace hD' := e4 _ _ hD' nDs
      replace hes' := hes'.imp fun _ _ q => Rq.fr e4 hsS q
      replace fr' := fr'.trans (Fr2.fr e4)
      replace B' := B'.fr e4 S4
      clear e4 S4 hsS
      have LS := I.step L i5 hc a0 b0 ab
      refine cutG (fun σ' G => ∃ (v12 : V), σ' = [some (.ref s), some (.ref o), some xf, some xt, some xh, some xu, some (.ref pr), some (.ref Bb), some xr, some (.ref D), some (.int (0 + i)), some v11, some v12, k13, k14, k15] ∧ Same G4 G ∧ Rq K G v12 (stp y)) ?_ ?_
      rotate_left
      · intro u' key
        have hu := B'.hu
        have zu := L.zl
        (walk_at "vk_vc")
        exact key _ _ ⟨_, rfl, by focus exact (by (walk_at "vk_same")), h⟩
      rintro σ G5 ⟨v12, rfl, e5, h12⟩
      replace nc' := nc'.same g' e5
      replace g' := g'.same e5
      replace ht' := ht'.same e5
      replace hx' := hx'.same e5
      replace B' := B'.same e5
      replace hD' := e5 _ _ hD'
      replace hes' := hes'.imp fun _ _ q => Rq.same e5 q
      replace fr' := fr'.trans (Fr2.same e5)
      replace h11 := h11.same e5
      clear e5
      have zs15 : Sz 15 (stp y) := L.zl.mul (show Sz 10 (mkRat 1 2 : Rat) by decide +kernel)
      have zdc : Sz 34 (y.d * c) := L.zd.mul hc.1
      refine cutG (fun σ' G => ∃ (v13 : V), σ' = [some (.ref s), some (.ref o), some xf, some xt, some xh, some xu, some (.ref pr), some (.ref Bb), some xr, some (.ref D), some (.int (0 + i)), some v11, some v12, some v13, k14, k15] ∧ Same G5 G ∧ Rq K G v13 (pth y c)) ?_ ?_
      rotate_left
      · intro u' key
        (walk_at "vk_vc")
        exact key _ _ ⟨_, rfl, by focus exact (by (walk_at "vk_same")), h⟩
      rintro σ G6 ⟨v13, rfl, e6, h13⟩
      replace nc' := nc'.same g' e6
      replace g' := g'.same e6
      replace ht' := ht'.same e6
      replace hx' := hx'.same e6
      replace B' := B'.same e6
      replace hD' := e6 _ _ hD'
      replace hes' := hes'.imp fun _ _ q => Rq.same e6 q
      replace fr' := fr'.trans (Fr2.same e6)
      replace h12 := h12.same e6
      clear e6 h11
      have zpt : Sz 51 (pth y c) := zs15.mul (show Sz 36 (1 + y.d * c) from ((show Sz 1 (1 : Rat) from zo1).add zdc).mono (by decide))
      refine cutG (fun σ' G => ∃ (xt2 xr2 : V) (k14 k15 : Option V), σ' = [some (.ref s), some (.ref o), some xf, some xt2, some xh, some xu, some (.ref pr), some (.ref Bb), some xr2, some (.ref D), some (.int (0 + i)), some v11, some v12, some v13, k14, k15] ∧ Same G6 G ∧ Rq K G xt2 (tr + pth y c + pth y c) ∧ Rq K G xr2 (t + stp y + stp y)) ?_ ?_
      rotate_left
      · intro u' key
        (walk_at "vk_vc")
        refine forR (lo := 0) (n := 2) (fun j σ G => Hold (∃ (xt2 xr2 : V) (k14 k15 : Option V), σ = [some (.ref s), some (.ref o), some xf, some xt2, some xh, some xu, some (.ref pr), some (.ref Bb), some xr2, some (.ref D), some (.int (0 + i)), some v11, some v12, some v13, k14, k15] ∧ Same G6 G ∧ Rq K G xt2 (adds tr (pth y c) j) ∧ Rq K G xr2 (adds t (stp y) j))) ⟨xt, xr, k14, k15, rfl, Same.refl _, ht', hx'⟩ ?_ ?_
        · rintro j σ G7 hj ⟨xt2, xr2, k14, k15, rfl, e7, h3, h8⟩
          have g7 := g'.same e7
          have B7 := B'.same e7
          have h12' := h12.same e7
          have h13' := h13.same e7
          obtain ⟨u, hu, hbu⟩ := B7.item (k := i) (by omega)
          obtain ⟨u1, hu1, hbu1⟩ := B7.item (k := i + 1) (by omega)
          have hat : atI ub (0 + (i : Int)) = some u := by rw [Int.zero_add]; exact atI_nat hu
          have hat1 : atI ub (0 + (i : Int) + 1) = some u1 := by rw [show (0 + (i : Int) + 1) = ((i + 1 : Nat) : Int) by omega]; exact atI_nat hu1
          have hB := SqL.of (K := K) B7.hB
          have hp := B7.hp
          have hdd := B7.hd
          have zd := L.zd
          have i1 : atI [xl, xd] 1 = some xd := rfl
          have zbi : Sz 500 (bnds y i) := (sz_bnds L.zb L.zh L.zl L.zs L.zd i).mono (by omega)
          have w1 := LS.w1
          have w2 := LS.w2
          obtain rfl | rfl : j = 0 ∨ j = 1 := by omega
          · replace h3 : Rq K G7 xt2 tr := h3
            replace h8 : Rq K G7 xr2 t := h8
            (walk_at "vk_vc")
            dsimp only [tNext]
            show Hold _
            exact ⟨_, _, _, _, rfl, by focus exact (by (walk_at "vk_same")), (show Rq K _ _ ((fun x1 x2 => x1 + x2) tr (pth y c)) by (walk_at "vk_cl")), (show Rq K _ _ ((fun x1 x2 => x1 + x2) t (stp y)) by (walk_at "vk_cl"))⟩
          · replace h3 : Rq K G7 xt2 (tr + pth y c) := h3
            replace h8 : Rq K G7 xr2 (t + stp y) := h8
            have zt1 : Sz 200 (t + stp y) := w1.zt
            have ztr1 : Sz 300 (tr + pth y c) := w1.ztr
            (walk_at "vk_vc")
            dsimp only [tNext]
            show Hold _
            exact ⟨_, _, _, _, rfl, by focus exact (by (walk_at "vk_same")), (show Rq K _ _ ((fun x1 x2 => x1 + x2) (tr + pth y c) (pth y c)) by (walk_at "vk_cl")), (show Rq K _ _ ((fun x1 x2 => x1 + x2) (t + stp y) (stp y)) by (walk_at "vk_cl"))⟩
        · rintro σ G7 ⟨xt2, xr2, k14, k15, rfl, e7, h3, h8⟩
          exact key _ _ ⟨xt2, xr2, k14, k15, rfl, e7, h3, h8⟩
      rintro σ G7 ⟨xt2, xr2, k14', k15', rfl, e7, ht7, hx7⟩
      replace nc' := nc'.same g' e7
      replace g' := g'.same e7
      replace B' := B'.same e7
      replace hD' := e7 _ _ hD'
      replace hes' := hes'.imp fun _ _ q => Rq.same e7 q
      replace fr' := fr'.trans (Fr2.same e7)
      clear e7 h12 h13 ht' hx'
      obtain ⟨dx, sx, ho, Gs⟩ := id g'
      obtain ⟨no1, no2, no3, no4, no5, no6⟩ := sgf_no sx
      have w2 := LS.w2
      have q0 : Sz 700 (t + stp y + stp y) := w2.zt.mono (by decide)
      have q1 : Sz 700 (strS r t (nowT st t) (some (some (loS y tr a), some (hiS y tr b)))).la := w2.z1.mono (by decide)
      have q2 : Sz 700 (strS r t (nowT st t) (some (some (loS y tr a), some (hiS y tr b)))).bd := w2.z2.mono (by decide)
      have q3 : Sz 700 (strS r t (nowT st t) (some (some (loS y tr a), some (hiS y tr b)))).hf := w2.z3.mono (by decide)
      have q4 : Sz 700 (strS r t (nowT st t) (some (some (loS y tr a), some (hiS y tr b)))).sl := w2.z4.mono (by decide)
      have q5 : Sz 700 (strS r t (nowT st t) (some (some (loS y tr a), some (hiS y tr b)))).dr := w2.z5.mono (by decide)
      (walk_at "vk_vc")
      · intro _ v' H' e h
        have hDv := e _ _ hD'
        refine ⟨D, us, v', rfl, rfl, hDv, by rw [sizeLine_eq]; omega, ?_⟩
        have fD : Fr D H' (upd H' D (.lst (us ++ [v']))) := Fr.upd _
        have hDs : ∃ ys, H' D = some (.lst ys) := ⟨_, hDv⟩
        have g8 := g'.same e
        have nc8 := nc'.same g' e
        have nDo' : o ≠ D := fun z => nDo z.symm
        show Hold _
        exact ⟨xt2, xr2, us ++ [v'], es ++ [_], _, _, _, _, _, _, _, _, _, _, rfl, LS.nx, g8.frD hDs nc8 fD, Rq.fr fD hDs (ht7.same e), Rq.fr fD hDs (hx7.same e), (B'.same e).frD fD hDs nDs nDl nDB, upd_same, (hes'.imp fun _ _ q => Rq.fr fD hDs (Rq.same e q)).snoc (Rq.fr fD hDs h), tl.snoc w2.eb ((sz_errS w2.zt w2.z1 w2.z2 w2.z3 (w2.z4.mono (by decide)) (w2.z5.mono (by decide))).mono (by decide)), (fr'.trans (Fr2.same e)).frD nD0 fD, nc8.fr g8 nDo' fD⟩
      · exact fun c => absurd w2.la (Rat.not_le.mpr c)
    · rintro σ G1 ⟨xt, xr, us, es, k10, k11, k12, k13, k14, k15, r, st, t, tr, rfl, I, g, ht, hx, B, hD, hes, tl, fr, nc⟩
      exact key _ _ ⟨xt, xr, us, es, k10, k11, k12, k13, k14, k15, rfl, B.S, fr, hD, hes, tl⟩
  rintro σ G9 ⟨xt, xr, us, es, k10, k11, k12, k13, k14, k15, rfl, S9, e9, hD9, hes, tl⟩
  (walk_at "vk_vc")
  exact z _ _ _ _ nD0 nDs nDo hD9 hes tl S9 e9
end Vk

set_option maxHeartbeats 4000000
namespace Vk
open PySem L2 Vm Vl Vs
variable {l aZERO aONE aHALF aDR C CB CR CE CT fB fR fT : Addr} {P : Program} {w : World} {K : PySem.W.Frag} {mg : Str → Option Value} {base : Heap} {k n : Nat} {f f1 f2 f3 f4 f5 f6 f7 f8 f9 f10 f11 f12 : Addr} {fd fd1 fd2 fd3 fd4 fd5 fd6 fd7 fd8 fd9 fd10 fd11 fd12 : FuncData}

def Goo (K : PySem.W.Frag) (G : Hp) (v : V) : Prop := ∃ q, Rq K G v q ∧ Sz 500 q
theorem Goo.fr {s : Addr} {G G' : Hp} {v : V} (h : Goo K G v) (e : Fr s G G') (hs : ∃ ys, G s = some (.lst ys)) : Goo K G' v := by
  obtain ⟨q, h, z⟩ := h
  exact ⟨q, h.fr e hs, z⟩
theorem Goo.same {G G' : Hp} {v : V} (h : Goo K G v) (e : Same G G') : Goo K G' v := by
  obtain ⟨q, h, z⟩ := h
  exact ⟨q, h.same e, z⟩
def spGoal (K : PySem.W.Frag) (l : Addr) : Sp := fun vs H Q _ => ∃ (s Bb : Addr) (xs xb xn : V) (ub : List V) (b a n : Rat), vs = [.ref s, xs, xb, xn, .ref Bb] ∧ Sto l s H ∧ Rq K H xs b ∧ Rq K H xb a ∧ Rq K H xn n ∧ H Bb = some (.lst ub) ∧ Bb ≠ s ∧ ub ≠ [] ∧ ub.length ≤ 10 ∧ (∀ u ∈ ub, ∃ q, Rq K H u q ∧ Sz 486 q) ∧ Sz 120 b ∧ Sz 60 a ∧ Sz 60 n ∧ 0 < n ∧
  ∀ (p : Addr) (vg : V) (g : Rat) H', SqT K H' p [vg, lapV (dueP b g a n)] → Rq K H' vg g → Sz 500 g → Sto l s H' → Fr s H H' → Q (.ref p) H'
abbrev s__law_goal : Stmt := top 69
abbrev N__law_goal : List Str := ["_law_store_here", "_law_spread", "_law_base", "_law_gain", "_law_bounds_here", "_law_goal_here", "_law_due"]
theorem sc__law_goal : FnScope N__law_goal ["_law_store_here", "_law_spread", "_law_base", "_law_gain", "_law_bounds_here"] (defScope s__law_goal) := ⟨rfl, rfl, rfl, by decide +kernel, rfl, by decide +kernel, by decide +kernel⟩
abbrev ps__law_goal : List Str := ["_law_store_here", "_law_spread", "_law_base", "_law_gain", "_law_bounds_here"]
theorem ok_goal (T : Bn mg) (F : Fn K mg "_law_goal" s__law_goal ps__law_goal f fd) (d_law_pick : Def P w K mg base k "_law_pick" ["_law_store_here", "_law_things"] (spPick K l) f1 fd1) (d_law_minus : Def P w K mg base k "_law_minus" ["_law_a", "_law_b"] (spOp2 K (· - ·)) f2 fd2)
    (d_law_above : Def P w K mg base k "_law_above" ["_law_store_here"] (spDraw K l 5 ge6) f3 fd3) (d_law_take : Def P w K mg base k "_law_take" ["_law_store_here", "_law_many"] (spTake K l) f4 fd4) (d_law_plus : Def P w K mg base k "_law_plus" ["_law_a", "_law_b"] (spOp2 K (· + ·)) f5 fd5)
    (d_law_spare : Def P w K mg base k "_law_spare" ["_law_store_here"] (spDraw K l 5 nnQ) f6 fd6) (d_law_due_laps : Def P w K mg base k "_law_due_laps" ["_law_spread", "_law_goal_here", "_law_base", "_law_gain"] (spDue K) f7 fd7) : Def P w K mg base (k + 1) "_law_goal" ps__law_goal (spGoal K l) f fd := by
  refine ⟨F.F.ok sc__law_goal (fun vs H Q E h => ?_) (fun cdv A outer s H vs Q E hr h => ?_), F.m, F.F.kp, F.b⟩
  · obtain ⟨_, _, _, _, _, _, _, _, _, rfl, _⟩ := h
    rfl
  obtain ⟨s, Bb, xs, xb, xn, ub, b, a0, n0, rfl, hS, hs, hb, hn, hB, nB, ne, ln, hub, zb, za, zn, n00, z⟩ := h
  have hub0 : 0 < ub.length := by
    cases ub with
    | nil => exact absurd rfl ne
    | cons _ _ => exact Nat.succ_pos _
  refine ⟨_, (pss_cons (ps_set (i := 5) sc__law_goal.nd rfl (Or.inl rfl) (pcall d_law_pick hr (pa_cons (pv 0) (pa_cons (pe_lst (pa_cons (pv 2) (pa_cons (pv 2) (pa_cons (pcall d_law_pick hr (pa_cons (pv 0) (pa_cons (pv 4) pa_nil))) (pa_cons (pcall d_law_minus hr (pa_cons (pv 2) (pa_cons (pcall d_law_above hr (pa_cons (pv 0) pa_nil)) pa_nil))) pa_nil))))) pa_nil))))
      (pss_cons (ps_if (pt_cmpR op_eq (pcall d_law_take hr (pa_cons (pv 0) (pa_cons pe_int pa_nil))) pe_int (nomark _))
        (pss_one (ps_set (i := 5) sc__law_goal.nd rfl (Or.inl rfl) (pcall d_law_plus hr (pa_cons (pcall d_law_pick hr (pa_cons (pv 0) (pa_cons (pv 4) pa_nil))) (pa_cons (pcall d_law_spare hr (pa_cons (pv 0) pa_nil)) pa_nil)))))
        pss_nil)
      (pss_cons (ps_set (i := 6) sc__law_goal.nd rfl (Or.inl rfl) (pcall d_law_due_laps hr (pa_cons (pv 1) (pa_cons (pv 5) (pa_cons (pv 2) (pa_cons (pv 3) pa_nil))))))
      (pss_cons (ps_if (PW.pt (pw_and (pt_cmpR op_notN (pv 6) pe_non (nomark _)) (pw_and1 (pt_cmpR op_gt (pv 6) pe_int (nomark _)))))
        (pss_cons (ps_set (i := 5) sc__law_goal.nd rfl (Or.inl rfl) (pe_ix ix_list (pv 4) (pe_op op_sub (pe_callB call_len_seq (by rfl) T.len_ PySem.boot_len (pa_cons (pv 4) pa_nil)) pe_int) (fun _ _ => rfl)))
        (pss_one (ps_set (i := 6) sc__law_goal.nd rfl (Or.inl rfl) (pcall d_law_due_laps hr (pa_cons (pv 1) (pa_cons (pv 5) (pa_cons (pv 2) (pa_cons (pv 3) pa_nil))))))))
        pss_nil)
      (pss_one (ps_ret (pe_tup (pa_cons (pv 5) (pa_cons (pv 6) pa_nil))))))))), ?_⟩
  refine cutG (fun σ' G => ∃ (vg : V), σ' = [some (.ref s), some xs, some xb, some xn, some (.ref Bb), some vg, none] ∧ Sto l s G ∧ Fr s H G ∧ Goo K G vg) ?_ ?_
  rotate_left
  · intro u' key
    have hsB := SqL.of (K := K) hB
    have hsS := hS.some
    have za6 : Sz 60 a0 := za
    (walk_at "vk_vc")
    intro v1 G1 hv1 S1 e1
    have g1 : Goo K G1 v1 := by
      obtain ⟨q, h, zq⟩ := hub v1 hv1
      exact ⟨q, h.fr e1 hS.some, zq.mono (by decide)⟩
    have hb1 := hb.fr e1 hS.some
    (walk_at "vk_vc")
    intro v2 G2 hv2 S2 e2
    have f2 : Fr s H' G2 := (Fr.of (same_new np _)).trans e2
    have sH : Sto l s H' := by (walk_at "vk_sto")
    have f1 : Fr s G1 G2 := by focus (walk_at "vk_fr")
    have f0 : Fr s H G2 := e1.trans f1
    refine key _ _ ⟨v2, rfl, S2, f0, ?_⟩
    simp only [List.mem_cons, List.not_mem_nil, or_false] at hv2
    rcases hv2 with rfl | rfl | rfl | rfl
    · exact ⟨a0, hb.fr f0 hS.some, za.mono (by decide)⟩
    · exact ⟨a0, hb.fr f0 hS.some, za.mono (by decide)⟩
    · exact g1.fr f1 S1.some
    · exact ⟨_, Rq.fr f2 sH.some h, (za.sub zq).mono (by decide)⟩
  rintro σ H1 ⟨vg, rfl, S1, e1, hg⟩
  refine cutG (fun σ' G => ∃ (vg : V), σ' = [some (.ref s), some xs, some xb, some xn, some (.ref Bb), some vg, none] ∧ Sto l s G ∧ Fr s H G ∧ Goo K G vg) ?_ ?_
  rotate_left
  · intro u' key
    have hsB := SqL.of (K := K) (e1 _ _ hB nB)
    have hub1 : ∀ u ∈ ub, ∃ q, Rq K H1 u q ∧ Sz 486 q := fun u hu => by
      obtain ⟨q, h, z⟩ := hub u hu
      exact ⟨q, h.fr e1 hS.some, z⟩
    (walk_at "vk_vc")
    · intro v1 G1 hv1 S1' e1'
      obtain ⟨q1, hq1, zq1⟩ := hub1 v1 hv1
      replace hq1 : Rq K G1 v1 q1 := hq1.fr (by focus (walk_at "vk_fr")) S1.some
      (walk_at "vk_vc")
      exact key _ _ ⟨_, rfl, by (walk_at "vk_sto"), by focus (walk_at "vk_fr"), ⟨_, h, (zq1.add zq).mono (by decide)⟩⟩
    · dsimp only [tNext]
      exact key _ _ ⟨vg, rfl, by (walk_at "vk_sto"), by focus (walk_at "vk_fr"), hg.fr (by focus (walk_at "vk_fr")) S1.some⟩
  rintro σ H2 ⟨vg, rfl, S2, e2, g, hg, zg⟩
  replace hs := hs.fr e2 hS.some
  replace hb := hb.fr e2 hS.some
  replace hn := hn.fr e2 hS.some
  have zb5 : Sz 500 b := zb.mono (by decide)
  have za5 : Sz 500 a0 := za.mono (by decide)
  have zn5 : Sz 500 n0 := zn.mono (by decide)
  refine cutG (fun σ' G => σ' = [some (.ref s), some xs, some xb, some xn, some (.ref Bb), some vg, some (lapV (dueP b g a0 n0))] ∧ Same H2 G) ?_ ?_
  rotate_left
  · intro u' key
    refine ⟨_, rfl, _, rfl, _, rfl, _, rfl, xs, vg, xb, xn, b, g, a0, n0, 500, rfl, hs, hg, hb, hn, zb5, zg, za5, zn5, by decide, n00, fun H' e => ?_⟩
    exact key _ _ ⟨rfl, e⟩
  rintro σ H3 ⟨rfl, e3⟩
  refine cutG (fun σ' G => ∃ (vg : V) (g : Rat), σ' = [some (.ref s), some xs, some xb, some xn, some (.ref Bb), some vg, some (lapV (dueP b g a0 n0))] ∧ Same H3 G ∧ Rq K G vg g ∧ Sz 500 g) ?_ ?_
  rotate_left
  · intro u' key
    obtain ⟨u, hu⟩ : ∃ u, ub[ub.length - 1]? = some u := ⟨_, List.getElem?_eq_getElem (by omega)⟩
    obtain ⟨q, hq, zq⟩ := hub u (List.mem_of_getElem? hu)
    have hq3 := (hq.fr e2 hS.some).same e3
    have zq5 : Sz 500 q := zq.mono (by decide)
    have hB3 := e3 _ _ (e2 _ _ hB nB)
    have hsB := SqL.of (K := K) hB3
    have hat : atI ub ((ub.length : Int) - 1) = some u := by rw [show ((ub.length : Int) - 1) = ((ub.length - 1 : Nat) : Int) by omega]; exact atI_nat hu
    have hs3 := hs.same e3
    have hb3 := hb.same e3
    have hn3 := hn.same e3
    have hg3 := hg.same e3
    cases ed : dueP b g a0 n0 with
    | none =>
      (walk_at "vk_vc")
      dsimp only [tNext]
      exact key _ _ ⟨vg, g, by rw [ed], Same.refl _, hg3, zg⟩
    | some k =>
      (walk_at "vk_vc")
      · exact key _ _ ⟨u, q, rfl, by focus exact (by (walk_at "vk_same")), by (walk_at "vk_cl"), zq5⟩
      · dsimp only [tNext]
        exact key _ _ ⟨vg, g, by rw [ed], Same.refl _, hg3, zg⟩
  rintro σ H4 ⟨vg, g, rfl, e4, hg4, zg4⟩
  (walk_at "vk_vc")
  exact z p _ _ _ (SqT.of upd_same) (Rq.same (same_new np _) hg4) zg4 (S2.same ((e3.trans e4).trans (same_new np _))) (e2.trans (Fr.of ((e3.trans e4).trans (same_new np _))))
end Vk

set_option maxHeartbeats 4000000
namespace Vk
open PySem L2 Vm Vl Vs
variable {l aZERO aONE aHALF aDR C CB CR CE CT fB fR fT : Addr} {P : Program} {w : World} {K : PySem.W.Frag} {mg : Str → Option Value} {base : Heap} {k n : Nat} {f f1 f2 f3 f4 f5 f6 f7 f8 f9 f10 f11 f12 : Addr} {fd fd1 fd2 fd3 fd4 fd5 fd6 fd7 fd8 fd9 fd10 fd11 fd12 : FuncData}

/-- a spread of the law -/
structure Spr (x : Ag) (e : Rat) : Prop where
  n : 0 ≤ e
  z : Sz 120 e
  f : Fx (Mn x 1) 500 e
section
variable {x : Ag} {y : A6}
theorem fx_gain (ok : AgOk x) (zl : Sz 5 y.l) (hs : y.s = x.l) (hd : y.d = x.d) : Fx (Mn x 0) 62 (gain y) := by
  unfold gain
  rw [hs, hd, show (x.l - x.d) * y.l = x.l * y.l - x.d * y.l by grind]
  exact (fx_l ok (fx5 zl)).sub (fx_d ok (fx5 zl))
theorem fx_ahead (ok : AgOk x) (zl : Sz 5 y.l) (zh : Sz 5 y.h) (hd : y.d = x.d) : Fx (Mn x 0) 62 (ahead y) := by
  unfold ahead
  rw [hd]
  exact (fx_LL (fx5 zh)).add (fx_d ok (fx5 zl))
theorem fx01 {B : Nat} {q : Rat} (h : Fx (Mn x 0) B q) : Fx (Mn x 1) B q := by
  have e := h.lift 2
  rw [Nat.mul_comm, mn_succ] at e
  exact e
theorem sz_aheadY (zl : Sz 5 y.l) (zh : Sz 5 y.h) (zd : Sz 24 y.d) : Sz 35 (ahead y) := by unfold ahead; exact zh.add (zd.mul zl)
theorem sz_gainY (zl : Sz 5 y.l) (zs : Sz 24 y.s) (zd : Sz 24 y.d) : Sz 54 (gain y) := by unfold gain; exact (zs.sub zd).mul zl
theorem spr_above (ok : AgOk x) (zl : Sz 5 y.l) (zh : Sz 5 y.h) (zs : Sz 24 y.s) (zd : Sz 24 y.d) (hs : y.s = x.l) (hd : y.d = x.d) (a0 : 0 ≤ ahead y) (g0 : 0 < gain y) {j : Int} (j0 : 0 ≤ j) (j1 : j ≤ 11) : Spr x (ahead y + gain y * mkRat j 2) := by
  have ej : (mkRat j 2 : Rat) = (j : Rat) / 2 := by rw [Rat.mkRat_eq_div]; rfl
  have cj : (0 : Rat) ≤ (j : Rat) := by exact_mod_cast j0
  have zj : Sz 10 (mkRat j 2) := sz_mk (by decide) (by omega) (by decide)
  have fj : Fx 2 6 (mkRat j 2) := ⟨j, by rw [ej]; show (j : Rat) / 2 * 2 = j; grind, by omega⟩
  refine ⟨?_, ((sz_aheadY zl zh zd).add ((sz_gainY zl zs zd).mul zj)).mono (by decide), ?_⟩
  · have := mul_nn (show 0 ≤ gain y by grind) (show (0 : Rat) ≤ mkRat j 2 by rw [ej]; grind)
    grind
  · have f := (fx_gain ok zl hs hd).mul fj
    rw [Nat.mul_comm (Mn x 0) 2, mn_succ] at f
    exact ((fx01 (fx_ahead ok zl zh hd)).add f).mono (by decide)
theorem spr_base (ok : AgOk x) (zl : Sz 5 y.l) (zh : Sz 5 y.h) (zd : Sz 24 y.d) (hd : y.d = x.d) (a0 : 0 ≤ ahead y) : Spr x (ahead y * mkRat 1 2) := by
  refine ⟨by rw [half_eq]; grind, ((sz_aheadY zl zh zd).mul (show Sz 10 (mkRat 1 2 : Rat) by decide +kernel)).mono (by decide), ?_⟩
  exact (fx_half (fx_ahead ok zl zh hd)).mono (by decide)
theorem spr_h {h : Rat} (zh : Sz 5 h) (h0 : 0 ≤ h) : Spr x h := ⟨h0, zh.mono (by decide), (fx_LL (fx5 zh)).mono (by decide)⟩
end
/-- what the law keeps -/
structure LW (K : PySem.W.Frag) (l s pr lv : Addr) (xl xd xt xh v1 v2 : V) (y : A6) (G : Hp) : Prop where
  S : Sto l s G
  hp : SqT K G pr [xl, xd]
  hl : Rq K G xl y.s
  hd : Rq K G xd y.d
  ht : Rq K G xt y.l
  hh : Rq K G xh y.h
  hv : SqT K G lv [v1, v2]
  h1 : Rq K G v1 (ahead y)
  h2 : Rq K G v2 (gain y)
section
variable {s o pr lv : Addr} {xl xd xt xh v1 v2 : V} {y : A6} {G G' : Hp}
theorem LW.same (h : LW K l s pr lv xl xd xt xh v1 v2 y G) (e : Same G G') : LW K l s pr lv xl xd xt xh v1 v2 y G' := ⟨h.S.same e, e.sqt h.hp, h.hl.same e, h.hd.same e, h.ht.same e, h.hh.same e, e.sqt h.hv, h.h1.same e, h.h2.same e⟩
theorem LW.fr (h : LW K l s pr lv xl xd xt xh v1 v2 y G) (e : Fr s G G') (S' : Sto l s G') : LW K l s pr lv xl xd xt xh v1 v2 y G' := ⟨S', sqt_fr e h.S.some h.hp, h.hl.fr e h.S.some, h.hd.fr e h.S.some, h.ht.fr e h.S.some, h.hh.fr e h.S.some, sqt_fr e h.S.some h.hv, h.h1.fr e h.S.some, h.h2.fr e h.S.some⟩
theorem LW.fr2 (h : LW K l s pr lv xl xd xt xh v1 v2 y G) (e : Fr2 s o G G') (ho : ∃ C d fs, G o = some (.ins C d fs)) (S' : Sto l s G') : LW K l s pr lv xl xd xt xh v1 v2 y G' := ⟨S', e.sqt h.S.some ho h.hp, e.rq h.S.some ho h.hl, e.rq h.S.some ho h.hd, e.rq h.S.some ho h.ht, e.rq h.S.some ho h.hh, e.sqt h.S.some ho h.hv, e.rq h.S.some ho h.h1, e.rq h.S.some ho h.h2⟩
end
def spLaw (K : PySem.W.Frag) : Sp := fun vs H Q _ => ∃ (a : Addr) (ns : List Int), vs = [.ref a] ∧ SqL K H a (ns.map V.int) ∧ ns.length ≤ 63 ∧ ∀ H', Q (.bl true) H'
abbrev s_law : Stmt := top 75
abbrev N_law : List Str := ["_law_script", "_law_store_here", "_law_pair", "_law_turn", "_law_half", "_law_level", "_law_more", "_law_above_here", "_law_spread", "_law_bounds_here", "_law_first", "_law_value", "_law_truth", "_law_steering_here", "_law_told", "_law_pledge", "_law_laps_here", "_law_k"]
theorem sc_law : FnScope N_law ["_law_script"] (defScope s_law) := ⟨rfl, rfl, rfl, by decide +kernel, rfl, by decide +kernel, by decide +kernel⟩
abbrev ps_law : List Str := ["_law_script"]
theorem ok_law (T : Bn mg) (F : Fn K mg "law" s_law ps_law f fd) (d_law_store : Def P w K mg base (k + 1) "_law_store" ["_law_script"] (spStore K) f1 fd1) (d_law_slews : ∀ l, Def P w K mg base (k + 1) "_law_slews" ["_law_store_here"] (spSl K l) f2 fd2) (d_law_above : ∀ l, Def P w K mg base (k + 1) "_law_above" ["_law_store_here"] (spDraw K l 5 ge6) f3 fd3)
    (d_law_spare : ∀ l, Def P w K mg base (k + 1) "_law_spare" ["_law_store_here"] (spDraw K l 5 nnQ) f4 fd4) (d_law_floor : Def P w K mg base (k + 1) "_law_floor" ["_law_pair", "_law_half", "_law_turn"] (spFloor K) f5 fd5) (d_law_times : Def P w K mg base (k + 1) "_law_times" ["_law_a", "_law_b"] (spOp2 K (· * ·)) f6 fd6)
    (d_law_frac : Def P w K mg base (k + 1) "_law_frac" ["_law_n", "_law_d"] (spFrac K) f7 fd7) (d_law_take : ∀ l, Def P w K mg base (k + 1) "_law_take" ["_law_store_here", "_law_many"] (spTake K l) f8 fd8) (d_law_plus : Def P w K mg base (k + 1) "_law_plus" ["_law_a", "_law_b"] (spOp2 K (· + ·)) f9 fd9)
    (d_law_pick : ∀ l, Def P w K mg base (k + 1) "_law_pick" ["_law_store_here", "_law_things"] (spPick K l) f10 fd10) (d_law_bounds : Def P w K mg base (k + 1) "_law_bounds" ["_law_spread", "_law_half", "_law_turn", "_law_pair", "_law_laps_here"] (spBnds K) f11 fd11) (d_law_part : ∀ l, Def P w K mg base (k + 1) "_law_part" ["_law_store_here"] (spDraw K l 5 anyQ) f12 fd12)
    {f13 f14 f15 f16 f17 f18 f19 : Addr} {fd13 fd14 fd15 fd16 fd17 fd18 fd19 : FuncData} (d_law_steering : Def P w K mg base (k + 1) "_law_steering" ["_law_first", "_law_value", "_law_spread", "_law_pair", "_law_over_here"] (spStg K C) f13 fd13) (d_law_over_step : ∀ l, Def P w K mg base (k + 1) "_law_over_step" ["_law_store_here"] (spOver K l) f14 fd14)
    (d_law_laps : ∀ l, Def P w K mg base (k + 1) "_law_laps" ["_law_store_here", "_law_steering_here", "_law_first", "_law_truth", "_law_half", "_law_turn", "_law_pair", "_law_bounds_here"] (spLaps K C l) f15 fd15) (d_law_same : Def P w K mg base (k + 1) "_law_same" ["_law_value", "_law_due"] (spSame K 4) f16 fd16) (d_law_goal : ∀ l, Def P w K mg base (k + 1) "_law_goal" ["_law_store_here", "_law_spread", "_law_base", "_law_gain", "_law_bounds_here"] (spGoal K l) f17 fd17)
    (dlaps_until : DefYN P w K mg base (k + 1) "laps_until" ["bound", "half", "goal", "lap", "slew", "drift"] 3 ["lap", "slew", "drift"] (spUntil K CB CR) f18 fd18) (d_law_below : Def P w K mg base (k + 1) "_law_below" ["_law_a", "_law_b"] (spTest2 K fun p q => .bl (decide (p < q))) f19 fd19) :
    Def P w K mg base (k + 1 + 1) "law" ps_law (spLaw K) f fd := by
  have d_law_slews := Def.ex d_law_slews
  have d_law_above := Def.ex d_law_above
  have d_law_spare := Def.ex d_law_spare
  have d_law_take := Def.ex d_law_take
  have d_law_pick := Def.ex d_law_pick
  have d_law_part := Def.ex d_law_part
  have d_law_over_step := Def.ex d_law_over_step
  have d_law_laps := Def.ex d_law_laps
  have d_law_goal := Def.ex d_law_goal
  refine ⟨F.F.ok sc_law (fun vs H Q E h => ?_) (fun cdv A outer s H vs Q E hr h => ?_), F.m, F.F.kp, F.b⟩
  · obtain ⟨_, _, rfl, _⟩ := h
    rfl
  obtain ⟨sa, ns, rfl, hS, hl, z⟩ := h
  refine ⟨_, (pss_cons (ps_set (i := 1) sc_law.nd rfl (Or.inl rfl) (pcall d_law_store hr (pa_cons (pv 0) pa_nil)))
      (pss_cons (ps_set (i := 2) sc_law.nd rfl (Or.inl rfl) (pcall d_law_slews hr (pa_cons (pv 1) pa_nil)))
      (pss_cons (ps_set (i := 3) sc_law.nd rfl (Or.inl rfl) (pcall d_law_above hr (pa_cons (pv 1) pa_nil)))
      (pss_cons (ps_set (i := 4) sc_law.nd rfl (Or.inl rfl) (pcall d_law_spare hr (pa_cons (pv 1) pa_nil)))
      (pss_cons (ps_set (i := 5) sc_law.nd rfl (Or.inl rfl) (pcall d_law_floor hr (pa_cons (pv 2) (pa_cons (pv 4) (pa_cons (pv 3) pa_nil)))))
      (pss_cons (ps_set (i := 6) sc_law.nd rfl (Or.inl rfl) (pcall d_law_times hr (pa_cons (pe_ix ix_tup (pv 5) pe_int (fun _ _ => rfl)) (pa_cons (pcall d_law_frac hr (pa_cons (pcall d_law_take hr (pa_cons (pv 1) (pa_cons pe_int pa_nil))) (pa_cons pe_int pa_nil))) pa_nil))))
      (pss_cons (ps_set (i := 7) sc_law.nd rfl (Or.inl rfl) (pcall d_law_plus hr (pa_cons (pe_ix ix_tup (pv 5) pe_int (fun _ _ => rfl)) (pa_cons (pv 6) pa_nil))))
      (pss_cons (ps_set (i := 8) sc_law.nd rfl (Or.inl rfl) (pcall d_law_pick hr (pa_cons (pv 1) (pa_cons (pe_lst (pa_cons (pv 7) (pa_cons (pv 7) (pa_cons (pcall d_law_times hr (pa_cons (pe_ix ix_tup (pv 5) pe_int (fun _ _ => rfl)) (pa_cons (pe_tup (pa_cons pe_int (pa_cons pe_int pa_nil))) pa_nil))) (pa_cons (pv 4) pa_nil))))) pa_nil))))
      (pss_cons (ps_set (i := 9) sc_law.nd rfl (Or.inl rfl) (pcall d_law_bounds hr (pa_cons (pv 8) (pa_cons (pv 4) (pa_cons (pv 3) (pa_cons (pv 2) (pa_cons (pcall d_law_pick hr (pa_cons (pv 1) (pa_cons (pe_lst (pa_cons pe_int (pa_cons pe_int (pa_cons pe_int (pa_cons pe_int (pa_cons pe_int pa_nil)))))) pa_nil))) pa_nil)))))))
      (pss_cons (ps_if (pt_cmpR op_isN (pv 9) pe_non (nomark _))
        (pss_one (ps_ret pe_bl))
        pss_nil)
      (pss_cons (ps_set (i := 10) sc_law.nd rfl (Or.inl rfl) (pcall d_law_part hr (pa_cons (pv 1) pa_nil)))
      (pss_cons (ps_set (i := 11) sc_law.nd rfl (Or.inl rfl) (pcall d_law_part hr (pa_cons (pv 1) pa_nil)))
      (pss_cons (ps_set (i := 12) sc_law.nd rfl (Or.inl rfl) (pcall d_law_plus hr (pa_cons (pv 11) (pa_cons (pcall d_law_times hr (pa_cons (pv 8) (pa_cons (pcall d_law_pick hr (pa_cons (pv 1) (pa_cons (pe_lst (pa_cons (pe_tup (pa_cons pe_int (pa_cons pe_int pa_nil))) (pa_cons (pe_tup (pa_cons pe_int (pa_cons pe_int pa_nil))) (pa_cons (pe_tup (pa_cons (pe_un un_neg pe_int) (pa_cons pe_int pa_nil))) (pa_cons (pe_tup (pa_cons pe_int (pa_cons pe_int pa_nil))) pa_nil))))) pa_nil))) pa_nil))) pa_nil))))
      (pss_cons (ps_set (i := 13) sc_law.nd rfl (Or.inl rfl) (pcall d_law_steering hr (pa_cons (pv 10) (pa_cons (pv 11) (pa_cons (pv 8) (pa_cons (pv 2) (pa_cons (pcall d_law_over_step hr (pa_cons (pv 1) pa_nil)) pa_nil)))))))
      (pss_cons (ps_set (i := 14) sc_law.nd rfl (Or.inl rfl) (pcall d_law_laps hr (pa_cons (pv 1) (pa_cons (pv 13) (pa_cons (pv 10) (pa_cons (pv 12) (pa_cons (pv 4) (pa_cons (pv 3) (pa_cons (pv 2) (pa_cons (pv 9) pa_nil))))))))))
      (pss_cons (ps_if (PW.pt (pw_or (pt_cmpR op_isN (pv 14) pe_non (nomark _)) (pw_or1 (pt_not (pt_val (pcall d_law_same hr (pa_cons (pe_ix ix_list (pv 14) pe_int (fun _ _ => rfl)) (pa_cons (pv 8) pa_nil))))))))
        (pss_one (ps_ret pe_bl))
        pss_nil)
      (pss_cons (ps_set (i := 15) sc_law.nd rfl (Or.inl rfl) (pcall d_law_goal hr (pa_cons (pv 1) (pa_cons (pv 8) (pa_cons (pe_ix ix_tup (pv 5) pe_int (fun _ _ => rfl)) (pa_cons (pe_ix ix_tup (pv 5) pe_int (fun _ _ => rfl)) (pa_cons (pv 9) pa_nil)))))))
      (pss_cons (ps_set (i := 16) sc_law.nd rfl (Or.inl rfl) (pcallYLN dlaps_until hr (pa_cons (pv 8) (pa_cons (pv 4) (pa_cons (pe_ix ix_tup (pv 15) pe_int (fun _ _ => rfl)) pa_nil))) (pk_cons (pv 3) (pk_cons (pe_ix ix_tup (pv 2) pe_int (fun _ _ => rfl)) (pk_cons (pe_ix ix_tup (pv 2) pe_int (fun _ _ => rfl)) pk_nil)))))
      (pss_cons (ps_if (pt_not (pt_val (pcall d_law_same hr (pa_cons (pv 16) (pa_cons (pe_ix ix_tup (pv 15) pe_int (fun _ _ => rfl)) pa_nil)))))
        (pss_one (ps_ret pe_bl))
        pss_nil)
      (pss_cons (ps_if (PW.pt (pw_and (pt_cmpR op_notN (pv 16) pe_non (nomark _)) (pw_and1 (pt_not (pt_val (pcall d_law_below hr (pa_cons (pe_ix ix_tup (pv 15) pe_int (fun _ _ => rfl)) (pa_cons (pe_ix ix_tup (pv 5) pe_int (fun _ _ => rfl)) pa_nil))))))))
        (pss_one (ps_for PassesOwn.never rfl (pi_range2 (by rfl) T.range_ (pa_cons (pv 16) (pa_cons (pe_callB call_len_seq (by rfl) T.len_ PySem.boot_len (pa_cons (pv 14) pa_nil)) pa_nil))) (pg_name (i := 17) sc_law.nd rfl (Or.inl rfl))
          (pss_one (ps_if (pt_val (pcall d_law_below hr (pa_cons (pe_ix ix_tup (pv 15) pe_int (fun _ _ => rfl)) (pa_cons (pe_ix ix_list (pv 14) (pv 17) (fun _ _ => rfl)) pa_nil))))
            (pss_one (ps_ret pe_bl))
            pss_nil))))
        pss_nil)
      (pss_one (ps_ret pe_bl)))))))))))))))))))))), ?_⟩
  (walk_at "vk_vc")
  intro s l H1 e1 _ S1
  dsimp only [gName]
  refine cutG (fun σ' G => ∃ (pr : Addr) (xl xd : V) (l0 d0 : Rat), σ' = [some (.ref sa), some (.ref s), some (.ref pr), none, none, none, none, none, none, none, none, none, none, none, none, none, none, none] ∧ Sto l s G ∧ SqT K G pr [xl, xd] ∧ Rq K G xl l0 ∧ Rq K G xd d0 ∧ Sz 24 l0 ∧ Sz 24 d0 ∧ SlOk l0 d0) ?_ ?_
  rotate_left
  · intro u' key
    refine ⟨_, rfl, l, s, rfl, S1, fun vp H2 hp S2 e2 => ?_⟩
    obtain ⟨pr, xl, xd, l0, d0, rfl, h1, h2, h3, h4, h5, h6⟩ := hp
    exact key _ _ ⟨pr, xl, xd, l0, d0, rfl, S2, h1, h2, h3, h4, h5, h6⟩
  clear S1 e1 hS hl
  rintro σ H2 ⟨pr, xl, xd, l0, d0, rfl, S2, hp, hl, hd, zl, zd, slo⟩
  refine cutG (fun σ' G => ∃ (bt : Addr) (t0 : Rat), σ' = [some (.ref sa), some (.ref s), some (.ref pr), some (.ref bt), none, none, none, none, none, none, none, none, none, none, none, none, none, none] ∧ Sto l s G ∧ Fr s H2 G ∧ Rq K G (.ref bt) t0 ∧ Sz 5 t0 ∧ 0 < t0) ?_ ?_
  rotate_left
  · intro u' key
    (walk_at "vk_vc")
    rename_i okq
    exact key _ _ ⟨a, q, rfl, by (walk_at "vk_sto"), by focus (walk_at "vk_fr"), h, zq, (by
      have h1 : (0 : Rat) < mkRat 1 6 := by decide +kernel
      have h2 : mkRat 1 6 ≤ q := okq
      grind)⟩
  rintro σ H3 ⟨bt, t0, rfl, S3, e3, ht, zt, t00⟩
  replace hp := sqt_fr e3 S2.some hp
  replace hl := hl.fr e3 S2.some
  replace hd := hd.fr e3 S2.some
  clear e3 S2
  refine cutG (fun σ' G => ∃ (bh : Addr) (h0 : Rat), σ' = [some (.ref sa), some (.ref s), some (.ref pr), some (.ref bt), some (.ref bh), none, none, none, none, none, none, none, none, none, none, none, none, none] ∧ Sto l s G ∧ Fr s H3 G ∧ Rq K G (.ref bh) h0 ∧ Sz 5 h0 ∧ 0 ≤ h0) ?_ ?_
  rotate_left
  · intro u' key
    unfold nnQ at *
    (walk_at "vk_vc")
    exact key _ _ ⟨a, q, rfl, by (walk_at "vk_sto"), by focus (walk_at "vk_fr"), h, zq, okq⟩
  rintro σ H4 ⟨bh, h0, rfl, S4, e4, hh, zh, h00⟩
  replace hp := sqt_fr e4 S3.some hp
  replace hl := hl.fr e4 S3.some
  replace hd := hd.fr e4 S3.some
  replace ht := ht.fr e4 S3.some
  clear e4 S3
  obtain ⟨y0, hy0⟩ : ∃ y0 : A6, y0 = ⟨0, h0, t0, l0, d0⟩ := ⟨_, rfl⟩
  obtain ⟨x0, hx0⟩ : ∃ x0 : Ag, x0 = ⟨0, 0, 0, l0, d0, none⟩ := ⟨_, rfl⟩
  obtain ⟨o1, o2, o3, o4⟩ := slo
  have p20 : (0 : Rat) < mkRat 1 20 := by decide +kernel
  have zz0 : ∀ n, Sz n (0 : Rat) → True := fun _ _ => trivial
  have ok0 : AgOk x0 := by
    subst hx0
    exact ⟨(show Sz 20 (0 : Rat) by decide +kernel), (show Sz 26 (0 : Rat) by decide +kernel), (show Sz 120 (0 : Rat) by decide +kernel), zl, zd, nofun, Rat.le_refl, by show 0 < l0; grind, o2, o3, by show d0 < l0; grind, nofun⟩
  have G0 : Good y0 := by
    subst hy0
    exact ⟨Rat.le_refl, h00, t00, by show 0 < l0; grind, o2, o3, by show d0 < l0; grind⟩
  have ys : y0.s = x0.l := by subst hy0 hx0; rfl
  have yd : y0.d = x0.d := by subst hy0 hx0; rfl
  replace hl : Rq K H4 xl y0.s := by subst hy0; exact hl
  replace hd : Rq K H4 xd y0.d := by subst hy0; exact hd
  replace ht : Rq K H4 (.ref bt) y0.l := by subst hy0; exact ht
  replace hh : Rq K H4 (.ref bh) y0.h := by subst hy0; exact hh
  replace zl : Sz 24 y0.s := by subst hy0; exact zl
  replace zd : Sz 24 y0.d := by subst hy0; exact zd
  replace zt : Sz 5 y0.l := by subst hy0; exact zt
  replace zh : Sz 5 y0.h := by subst hy0; exact zh
  clear hy0 hx0 o1 o2 o3 o4 t00 h00 zz0
  clear l0 d0 t0 h0
  refine cutG (fun σ' G => ∃ (lv : Addr) (v1 v2 : V), σ' = [some (.ref sa), some (.ref s), some (.ref pr), some (.ref bt), some (.ref bh), some (.ref lv), none, none, none, none, none, none, none, none, none, none, none, none] ∧ LW K l s pr lv xl xd (.ref bt) (.ref bh) v1 v2 y0 G) ?_ ?_
  rotate_left
  · intro u' key
    refine ⟨_, rfl, _, rfl, _, rfl, pr, xl, xd, .ref bh, .ref bt, y0, rfl, hp, hl, hd, hh, ht, zl, zd, zh, zt, fun a v1 v2 H' h1 h2 h3 e => ?_⟩
    exact key _ _ ⟨a, v1, v2, rfl, S4.same e, e.sqt hp, hl.same e, hd.same e, ht.same e, hh.same e, h1, h2, h3⟩
  rintro σ H5 ⟨lv, v1, v2, rfl, W⟩
  clear S4 hp hl hd ht hh
  have za := sz_aheadY zt zh zd
  have zg := sz_gainY zt zl zd
  refine cutG (fun σ' G => ∃ (bm : Addr) (j : Int), σ' = [some (.ref sa), some (.ref s), some (.ref pr), some (.ref bt), some (.ref bh), some (.ref lv), some (.ref bm), none, none, none, none, none, none, none, none, none, none, none] ∧ LW K l s pr lv xl xd (.ref bt) (.ref bh) v1 v2 y0 G ∧ 0 ≤ j ∧ j ≤ 11 ∧ Rq K G (.ref bm) (gain y0 * mkRat j 2)) ?_ ?_
  rotate_left
  · intro u' key
    refine ⟨_, rfl, lv, _, _, _, rfl, rfl, W.hv, at1 rfl, _, rfl, l, s, 12, rfl, W.S, by decide, fun r G1 r0 r1 S' e' => ?_⟩
    have z10 : r.natAbs < 2 ^ 10 := by rw [show (2 : Nat) ^ 10 = 1024 from rfl]; omega
    refine ⟨r, 2, 10, rfl, by decide, z10, by decide, by decide, fun vq G2 e2 hq => ?_⟩
    have W2 := (W.fr e' S').same e2
    have h2 := W2.h2
    have zq : Sz 10 (mkRat r (Int.toNat 2)) := sz_mk (by decide) z10 (by decide)
    refine ⟨_, _, gain y0, mkRat r (Int.toNat 2), 54, 10, rfl, h2, hq, zg, zq, by decide, ?_⟩
    refine aRq (K := K) fun a G3 e3 h h' => ?_
    exact key _ _ ⟨a, r, rfl, W2.same e3, r0, by omega, h⟩
  clear W
  rintro σ H6 ⟨bm, j, rfl, W, j0, j1, hm⟩
  clear zg
  have zm : Sz 64 (gain y0 * mkRat j 2) := (sz_gainY zt zl zd).mul (show Sz 10 (mkRat j 2) from sz_mk (by decide) (by omega) (by decide))
  refine cutG (fun σ' G => ∃ (ba : Addr), σ' = [some (.ref sa), some (.ref s), some (.ref pr), some (.ref bt), some (.ref bh), some (.ref lv), some (.ref bm), some (.ref ba), none, none, none, none, none, none, none, none, none, none] ∧ Same H6 G ∧ Rq K G (.ref ba) (ahead y0 + gain y0 * mkRat j 2)) ?_ ?_
  rotate_left
  · intro u' key
    have hv := W.hv
    have h1 := W.h1
    have i0 : atI [v1, v2] 0 = some v1 := rfl
    (walk_at "vk_vc")
    exact key _ _ ⟨a, rfl, by focus exact (by (walk_at "vk_same")), h⟩
  rintro σ H7 ⟨ba, rfl, e7, hba⟩
  replace W := W.same e7
  clear e7 hm zm
  have an := G0.an
  have gp := G0.gp
  have top : ahead y0 + gain y0 * mkRat j 2 ≤ ahead y0 + 6 * gain y0 := by
    have ej : (mkRat j 2 : Rat) = (j : Rat) / 2 := by rw [Rat.mkRat_eq_div]; rfl
    have cj : (j : Rat) ≤ 11 := by
      have : (j : Rat) ≤ ((11 : Int) : Rat) := by exact_mod_cast j1
      exact this
    have m := mul_nn (show 0 ≤ gain y0 by grind) (show (0 : Rat) ≤ 6 - mkRat j 2 by rw [ej]; grind)
    grind
  refine cutG (fun σ' G => ∃ (xs : Addr) (e0 : Rat), σ' = [some (.ref sa), some (.ref s), some (.ref pr), some (.ref bt), some (.ref bh), some (.ref lv), some (.ref bm), some (.ref ba), some (.ref xs), none, none, none, none, none, none, none, none, none] ∧ LW K l s pr lv xl xd (.ref bt) (.ref bh) v1 v2 y0 G ∧ Rq K G (.ref xs) e0 ∧ Spr x0 e0 ∧ e0 ≤ ahead y0 + 6 * gain y0) ?_ ?_
  rotate_left
  · intro u' key
    have hv := W.hv
    have h1 := W.h1
    have S7 := W.S
    have i0 : atI [v1, v2] 0 = some v1 := rfl
    (walk_at "vk_vc")
    intro v G hv' S' e'
    have sH : Sto l s H' := by (walk_at "vk_sto")
    have f1 : Fr s H' G := (Fr.of (same_new np _)).trans e'
    have f0 : Fr s H7 G := by focus (walk_at "vk_fr")
    have W' := W.fr f0 S'
    simp only [List.mem_cons, List.not_mem_nil, or_false] at hv'
    rcases hv' with rfl | rfl | rfl | rfl
    · exact key _ _ ⟨ba, _, rfl, W', hba.fr f0 W.S.some, spr_above ok0 zt zh zl zd ys yd an gp j0 j1, top⟩
    · exact key _ _ ⟨ba, _, rfl, W', hba.fr f0 W.S.some, spr_above ok0 zt zh zl zd ys yd an gp j0 j1, top⟩
    · exact key _ _ ⟨a, _, rfl, W', Rq.fr f1 sH.some h, spr_base ok0 zt zh zd yd an, by rw [half_eq]; grind⟩
    · exact key _ _ ⟨bh, _, rfl, W', W'.hh, spr_h zh G0.h0, by
        have h1 : 0 ≤ y0.d * y0.l := mul_nn G0.d0 (by have := G0.l0; grind)
        have h2 : ahead y0 = y0.h + y0.d * y0.l := rfl
        grind⟩
  clear W hba
  clear top
  rintro σ H8 ⟨xs, e0, rfl, W, hs, sp, top⟩
  clear an gp j0 j1
  obtain ⟨y, hy⟩ : ∃ y : A6, y = { y0 with b := e0 } := ⟨_, rfl⟩
  have ey : y.h = y0.h ∧ y.l = y0.l ∧ y.s = y0.s ∧ y.d = y0.d ∧ y.b = e0 ∧ ahead y = ahead y0 ∧ gain y = gain y0 := by subst hy; exact ⟨rfl, rfl, rfl, rfl, rfl, rfl, rfl⟩
  obtain ⟨ey1, ey2, ey3, ey4, ey5, ey6, ey7⟩ := ey
  have Gy : Good y := ⟨by rw [ey5]; exact sp.n, by rw [ey1]; exact G0.h0, by rw [ey2]; exact G0.l0, by rw [ey3]; exact G0.s0, by rw [ey3]; exact G0.s1, by rw [ey4]; exact G0.d0, by rw [ey3, ey4]; exact G0.ds⟩
  have Wy : LW K l s pr lv xl xd (.ref bt) (.ref bh) v1 v2 y H8 := ⟨W.S, W.hp, by rw [ey3]; exact W.hl, by rw [ey4]; exact W.hd, by rw [ey2]; exact W.ht, by rw [ey1]; exact W.hh, W.hv, by rw [ey6]; exact W.h1, by rw [ey7]; exact W.h2⟩
  clear W
  have W := Wy
  clear Wy
  replace hs : Rq K H8 (.ref xs) y.b := by rw [ey5]; exact hs
  replace sp : Spr x0 y.b := by rw [ey5]; exact sp
  replace top : y.b ≤ ahead y + 6 * gain y := by rw [ey5, ey6, ey7]; exact top
  replace zl : Sz 24 y.s := by rw [ey3]; exact zl
  replace zd : Sz 24 y.d := by rw [ey4]; exact zd
  replace zt : Sz 5 y.l := by rw [ey2]; exact zt
  replace zh : Sz 5 y.h := by rw [ey1]; exact zh
  replace za : Sz 35 (ahead y) := by rw [ey6]; exact za
  replace ys : y.s = x0.l := by rw [ey3]; exact ys
  replace yd : y.d = x0.d := by rw [ey4]; exact yd
  clear G0 ey1 ey2 ey3 ey4 ey5 ey6 ey7 hy
  clear e0 y0
  refine cutG (fun σ' G => ∃ (Bb : Addr) (ub : List V) (N : Nat), σ' = [some (.ref sa), some (.ref s), some (.ref pr), some (.ref bt), some (.ref bh), some (.ref lv), some (.ref bm), some (.ref ba), some (.ref xs), some (.ref Bb), none, none, none, none, none, none, none, none] ∧ LW K l s pr lv xl xd (.ref bt) (.ref bh) v1 v2 y G ∧ Rq K G (.ref xs) y.b ∧ G Bb = some (.lst ub) ∧ Bb ≠ s ∧ All2 (Rq K G) ub (bl y (N + 1)) ∧ N ≤ 6) ?_ ?_
  rotate_left
  · intro u' key
    have S8 := W.S
    have hp := W.hp
    (walk_at "vk_vc")
    intro v G hv' S' e'
    have f0 : Fr s H8 G := by focus (walk_at "vk_fr")
    have W' := W.fr f0 S'
    have hs' := hs.fr f0 S8.some
    obtain ⟨N, rfl, hN⟩ : ∃ N : Nat, v = .int N ∧ N ≤ 6 := by
      simp only [List.mem_cons, List.not_mem_nil, or_false] at hv'
      rcases hv' with rfl | rfl | rfl | rfl | rfl
      · exact ⟨1, rfl, by decide⟩
      · exact ⟨2, rfl, by decide⟩
      · exact ⟨3, rfl, by decide⟩
      · exact ⟨4, rfl, by decide⟩
      · exact ⟨6, rfl, by decide⟩
    refine ⟨.ref xs, .ref bh, .ref bt, xl, xd, pr, N, y, rfl, hs', W'.hh, W'.ht, W'.hp, W'.hl, W'.hd, Gy, sp.z, zh, zt, zl, zd, hN, fun D us G2 nD e2 hD hb => ?_⟩
    exact key _ _ ⟨D, us, N, rfl, W'.same e2, hs'.same e2, hD, (free_ne S' nD).1, hb, hN⟩
  clear W hs
  rintro σ H9 ⟨Bb, ub, N, rfl, W, hs, hB, nB, hub, hN⟩
  refine cutG (fun σ' G => σ' = [some (.ref sa), some (.ref s), some (.ref pr), some (.ref bt), some (.ref bh), some (.ref lv), some (.ref bm), some (.ref ba), some (.ref xs), some (.ref Bb), none, none, none, none, none, none, none, none] ∧ G = H9) ?_ ?_
  rotate_left
  · intro u' key
    (walk_at "vk_vc")
    all_goals exact key _ _ ⟨rfl, rfl⟩
  rintro σ H10 ⟨rfl, rfl⟩
  refine cutG (fun σ' G => ∃ (bf : Addr) (r0 : Rat), σ' = [some (.ref sa), some (.ref s), some (.ref pr), some (.ref bt), some (.ref bh), some (.ref lv), some (.ref bm), some (.ref ba), some (.ref xs), some (.ref Bb), some (.ref bf), none, none, none, none, none, none, none] ∧ Sto l s G ∧ Fr s H10 G ∧ Rq K G (.ref bf) r0 ∧ Sz 5 r0) ?_ ?_
  rotate_left
  · intro u' key
    have S9 := W.S
    (walk_at "vk_vc")
    exact key _ _ ⟨a, q, rfl, by (walk_at "vk_sto"), by focus (walk_at "vk_fr"), h, zq⟩
  rintro σ H11 ⟨bf, r0, rfl, S11, e11, hf, zr⟩
  replace hs := hs.fr e11 W.S.some
  replace hB := e11 _ _ hB nB
  replace hub := hub.imp fun _ _ q => Rq.fr e11 W.S.some q
  replace W := W.fr e11 S11
  clear e11 S11
  refine cutG (fun σ' G => ∃ (bv : Addr) (s0 : Rat), σ' = [some (.ref sa), some (.ref s), some (.ref pr), some (.ref bt), some (.ref bh), some (.ref lv), some (.ref bm), some (.ref ba), some (.ref xs), some (.ref Bb), some (.ref bf), some (.ref bv), none, none, none, none, none, none] ∧ Sto l s G ∧ Fr s H11 G ∧ Rq K G (.ref bv) s0 ∧ Sz 5 s0) ?_ ?_
  rotate_left
  · intro u' key
    have S9 := W.S
    (walk_at "vk_vc")
    exact key _ _ ⟨a, q, rfl, by (walk_at "vk_sto"), by focus (walk_at "vk_fr"), h, zq⟩
  rintro σ H12 ⟨bv, s0, rfl, S12, e12, hv0, zs0⟩
  replace hs := hs.fr e12 W.S.some
  replace hB := e12 _ _ hB nB
  replace hub := hub.imp fun _ _ q => Rq.fr e12 W.S.some q
  replace hf := hf.fr e12 W.S.some
  replace W := W.fr e12 S12
  clear e12 S12
  refine cutG (fun σ' G => ∃ (xt : Addr) (c : Rat), σ' = [some (.ref sa), some (.ref s), some (.ref pr), some (.ref bt), some (.ref bh), some (.ref lv), some (.ref bm), some (.ref ba), some (.ref xs), some (.ref Bb), some (.ref bf), some (.ref bv), some (.ref xt), none, none, none, none, none] ∧ Sto l s G ∧ Fr s H12 G ∧ CsOk c ∧ Rq K G (.ref xt) (s0 + y.b * c)) ?_ ?_
  rotate_left
  · intro u' key
    have S9 := W.S
    have zb := sp.z
    (walk_at "vk_vc")
    intro v G hv' S' e'
    have f0 : Fr s H12 G := by focus (walk_at "vk_fr")
    have hsG := hs.fr f0 S9.some
    have hvG := hv0.fr f0 S9.some
    obtain ⟨c, hc, hvc⟩ : ∃ c, CsOk c ∧ Rq K G v c := by
      simp only [List.mem_cons, List.not_mem_nil, or_false] at hv'
      rcases hv' with rfl | rfl | rfl | rfl
      · exact ⟨0, cs_mem (.inl rfl), by clear f0 hsG hvG; (walk_at "vk_cl")⟩
      · exact ⟨1, cs_mem (.inr (.inl rfl)), by clear f0 hsG hvG; (walk_at "vk_cl")⟩
      · exact ⟨-1, cs_mem (.inr (.inr (.inl rfl))), by clear f0 hsG hvG; (walk_at "vk_cl")⟩
      · exact ⟨mkRat 1 2, cs_mem (.inr (.inr (.inr rfl))), by clear f0 hsG hvG; (walk_at "vk_cl")⟩
    have zc := hc.1
    clear hv' hs hv0
    (walk_at "vk_vc")
    exact key _ _ ⟨a, c, rfl, S'.same (by focus exact (by (walk_at "vk_same"))), f0.trans (Fr.of (by focus exact (by (walk_at "vk_same")))), hc, h⟩
  rintro σ H13 ⟨xt, c, rfl, S13, e13, hc, hxt⟩
  replace hs := hs.fr e13 W.S.some
  replace hB := e13 _ _ hB nB
  replace hub := hub.imp fun _ _ q => Rq.fr e13 W.S.some q
  replace hf := hf.fr e13 W.S.some
  replace hv0 := hv0.fr e13 W.S.some
  replace W := W.fr e13 S13
  clear e13 S13
  refine cutG (fun σ' G => ∃ (o : Addr) (x : Ag), σ' = [some (.ref sa), some (.ref s), some (.ref pr), some (.ref bt), some (.ref bh), some (.ref lv), some (.ref bm), some (.ref ba), some (.ref xs), some (.ref Bb), some (.ref bf), some (.ref bv), some (.ref xt), some (.ref o), none, none, none, none] ∧ LW K l s pr lv xl xd (.ref bt) (.ref bh) v1 v2 y G ∧ Rq K G (.ref xs) y.b ∧ G Bb = some (.lst ub) ∧ All2 (Rq K G) ub (bl y (N + 1)) ∧ Rq K G (.ref bf) x.r ∧ Rq K G (.ref xt) (x.s + y.b * c) ∧ SgA K C o G (sr0 x) ∧ x.r = r0 ∧ x.s = s0 ∧ x.e = y.b ∧ x.l = x0.l ∧ x.d = x0.d ∧ AgOk x) ?_ ?_
  rotate_left
  · intro u' key
    refine ⟨_, rfl, _, rfl, _, rfl, _, rfl, _, rfl, l, s, rfl, W.S, fun vo G ov hov zov oov S' e' => ?_⟩
    have W' := W.fr e' S'
    have hs' := hs.fr e' W.S.some
    have hf' := hf.fr e' W.S.some
    have hv' := hv0.fr e' W.S.some
    have hB' := e' _ _ hB nB
    have hub' := hub.imp fun _ _ q => Rq.fr e' W.S.some q
    have hxt' := hxt.fr e' W.S.some
    have okx : AgOk ⟨r0, s0, y.b, x0.l, x0.d, ov⟩ := ⟨zr.mono (by decide), zs0.mono (by decide), sp.z, ok0.zl, ok0.zd, fun q e => (zov q e).mono (by decide), sp.n, ok0.l0, ok0.l1, ok0.d0, ok0.d1, oov⟩
    refine ⟨_, _, _, vo, xl, xd, pr, ⟨r0, s0, y.b, x0.l, x0.d, ov⟩, rfl, hf', hv', hs', W'.hp, by rw [← ys]; exact W'.hl, by rw [← yd]; exact W'.hd, hov, okx, fun o G2 e2 no g2 => ?_⟩
    exact key _ _ ⟨o, _, rfl, W'.same e2, hs'.same e2, e2 _ _ hB', hub'.imp fun _ _ q => Rq.same e2 q, hf'.same e2, hxt'.same e2, g2, rfl, rfl, rfl, rfl, rfl, okx⟩
  clear W hs hB hub hf hv0 hxt
  rintro σ H14 ⟨o, x, rfl, W, hs, hB, hub, hf, hxt, g, xr, xs', xe, xl', xd', okx⟩
  have L : Ly x y := ⟨okx, Gy, by rw [xl']; exact ys, by rw [xd']; exact yd, xe.symm, sp.z, zh, zt⟩
  have eM : ∀ n, Mn x0 n = Mn x n := fun n => by unfold Mn S2; rw [xl', xd']
  have spf : Fx (Mn x 1) 500 y.b := by rw [← eM]; exact sp.f
  have I0 : LapI x y 0 (sr0 x) (ls0 x) x.r (x.s + y.b * c) := by
    have fc : Fx (Mn x 2) 500 (y.b * c) := by
      have f := spf.mul hc.2.2.2
      rw [Nat.mul_comm (Mn x 1) 2, mn_succ] at f
      exact f.mono (by decide)
    have m1 : 0 ≤ y.b * (1 - c) := mul_nn sp.n (by have := hc.2.2.1; grind)
    have m2 : 0 ≤ y.b * (1 + c) := mul_nn sp.n (by have := hc.2.1; grind)
    have fsr : Fx LL 62 (x.s - x.r) := by rw [xr, xs']; exact (fx5 zs0).sub (fx5 zr)
    refine lap0 L (by rw [xr]; exact fx5 zr) fsr ?_ ?_ ?_ ?_
    · rw [xe]; exact (fx_up1 spf).mono (by decide)
    · rw [show x.s + y.b * c - x.r = (x.s - x.r) + y.b * c by grind]
      exact ((fx_LL fsr).add fc).mono (by decide)
    · rw [xe]; grind
    · rw [xe]; grind
  refine cutG (fun σ' G => ∃ (D : Addr) (us : List V) (es : List Rat), σ' = [some (.ref sa), some (.ref s), some (.ref pr), some (.ref bt), some (.ref bh), some (.ref lv), some (.ref bm), some (.ref ba), some (.ref xs), some (.ref Bb), some (.ref bf), some (.ref bv), some (.ref xt), some (.ref o), some (.ref D), none, none, none] ∧ LW K l s pr lv xl xd (.ref bt) (.ref bh) v1 v2 y G ∧ Rq K G (.ref xs) y.b ∧ G Bb = some (.lst ub) ∧ All2 (Rq K G) ub (bl y (N + 1)) ∧ G D = some (.lst us) ∧ D ≠ s ∧ All2 (Rq K G) us es ∧ Tl y es (N + 1)) ?_ ?_
  rotate_left
  · intro u' key
    have ho := g.ins
    have nBo : Bb ≠ o := fun h => by
      obtain ⟨_, _, _, h1⟩ := ho
      rw [← h, hB] at h1
      cases h1
    have LQ0 : LQ K l s pr Bb (.ref bf) (.ref bh) (.ref bt) xl xd ub x y N H14 := ⟨W.S, hf, W.hh, W.ht, W.hp, W.hl, W.hd, hB, nB, hub⟩
    refine ⟨_, rfl, _, rfl, _, rfl, _, rfl, _, rfl, _, rfl, _, rfl, _, rfl, l, s, o, _, _, _, _, pr, Bb, xl, xd, ub, x, y, _, N, rfl, g, hxt, LQ0, hN, L, I0, fun D us es G nD nDs nDo hD hes tl S' fr => ?_⟩
    have hs' := fr.rq W.S.some ho hs
    exact key _ _ ⟨D, us, es, rfl, W.fr2 fr ho S', hs', fr _ _ hB nB nBo, hub.imp fun _ _ q => fr.rq W.S.some ho q, hD, nDs, hes, tl⟩
  clear W hs hB hub hf hxt g I0
  rintro σ H15 ⟨D, us, es, rfl, W, hs, hB, hub, hD, nDs, hes, tl⟩
  have les : es.length = N + 1 := tl.1
  have lus : us.length = N + 1 := by rw [hes.1, les]
  refine cutG (fun σ' G => σ' = [some (.ref sa), some (.ref s), some (.ref pr), some (.ref bt), some (.ref bh), some (.ref lv), some (.ref bm), some (.ref ba), some (.ref xs), some (.ref Bb), some (.ref bf), some (.ref bv), some (.ref xt), some (.ref o), some (.ref D), none, none, none] ∧ Same H15 G) ?_ ?_
  rotate_left
  · intro u' key
    obtain ⟨u, hu⟩ : ∃ u, us[0]? = some u := ⟨_, List.getElem?_eq_getElem (by omega)⟩
    obtain ⟨e, he⟩ : ∃ e, es[0]? = some e := ⟨_, List.getElem?_eq_getElem (by omega)⟩
    have hq := hes.2 0 u e hu he
    have ee : e = y.b := (tl.2 0 e he).2.1 rfl
    rw [ee] at hq
    have hDs := SqL.of (K := K) hD
    have hat : atI us 0 = some u := atI_nat hu
    have d1 : Dp K H15 u (dq y.b) := Rq.dp hq
    have d2 : Dp K H15 (.ref xs) (dq y.b) := Rq.dp hs
    (walk_at "vk_vc")
    all_goals exact key _ _ ⟨rfl, by focus exact (by (walk_at "vk_same"))⟩
  rintro σ H16 ⟨rfl, e16⟩
  replace hs := hs.same e16
  replace hB := e16 _ _ hB
  replace hub := hub.imp fun _ _ q => Rq.same e16 q
  replace hD := e16 _ _ hD
  replace hes := hes.imp fun _ _ q => Rq.same e16 q
  replace W := W.same e16
  clear e16
  have zg := sz_gainY zt zl zd
  refine cutG (fun σ' G => ∃ (pl : Addr) (vg : V) (q0 : Rat), σ' = [some (.ref sa), some (.ref s), some (.ref pr), some (.ref bt), some (.ref bh), some (.ref lv), some (.ref bm), some (.ref ba), some (.ref xs), some (.ref Bb), some (.ref bf), some (.ref bv), some (.ref xt), some (.ref o), some (.ref D), some (.ref pl), none, none] ∧ Sto l s G ∧ Fr s H16 G ∧ SqT K G pl [vg, lapV (dueP y.b q0 (ahead y) (gain y))] ∧ Rq K G vg q0 ∧ Sz 500 q0) ?_ ?_
  rotate_left
  · intro u' key
    have lub : ub.length = N + 1 := by rw [hub.1, bl_len]
    refine ⟨_, rfl, _, rfl, _, rfl, lv, _, _, _, rfl, rfl, W.hv, at0 rfl, _, rfl, lv, _, _, _, rfl, rfl, W.hv, at1 rfl, _, rfl, l, s, Bb, _, _, _, ub, y.b, ahead y, gain y, rfl, W.S, hs, W.h1, W.h2, hB, nB, (by intro h; rw [h] at lub; simp at lub), by omega, ?_, sp.z, za.mono (by decide), zg.mono (by decide), Gy.gp, fun p vg g G h1 h2 h3 S' e' => ?_⟩
    · intro u hu
      obtain ⟨k, hk⟩ := List.mem_iff_getElem?.mp hu
      have kl : k < N + 1 := by have := (List.getElem?_eq_some_iff.mp hk).1; omega
      exact ⟨_, hub.2 k u _ hk (bl_at y kl), (sz_bnds sp.z zh zt zl zd k).mono (by omega)⟩
    · exact key _ _ ⟨p, vg, g, rfl, S', e', h1, h2, h3⟩
  rintro σ H17 ⟨pl, vg, q0, rfl, S17, e17, hpl, hvg, zq0⟩
  replace hs := hs.fr e17 W.S.some
  replace hD := e17 _ _ hD nDs
  replace hes := hes.imp fun _ _ q => Rq.fr e17 W.S.some q
  replace W := W.fr e17 S17
  clear e17 S17 hB hub
  have edue : dueP y.b q0 (ahead y) (gain y) = lapsP y q0 := rfl
  refine cutG (fun σ' G => σ' = [some (.ref sa), some (.ref s), some (.ref pr), some (.ref bt), some (.ref bh), some (.ref lv), some (.ref bm), some (.ref ba), some (.ref xs), some (.ref Bb), some (.ref bf), some (.ref bv), some (.ref xt), some (.ref o), some (.ref D), some (.ref pl), some (lapV (lapsP y q0)), none] ∧ Same H17 G) ?_ ?_
  rotate_left
  · intro u' key
    have L5' : L5 K H17 (.ref xs) (.ref bh) (.ref bt) xl xd y 500 := ⟨hs, W.hh, W.ht, W.hl, W.hd, sp.z.mono (by decide), zh.mono (by decide), zt.mono (by decide), zl.mono (by decide), zd.mono (by decide)⟩
    refine ⟨_, rfl, _, rfl, _, rfl, pl, _, _, _, rfl, rfl, hpl, at0 rfl, _, rfl, _, rfl, pr, _, _, _, rfl, rfl, W.hp, at0 rfl, _, rfl, pr, _, _, _, rfl, rfl, W.hp, at1 rfl, rfl, rfl, ?_⟩
    refine ⟨_, _, vg, _, _, _, y, q0, 500, rfl, L5', hvg, zq0, by decide, fun _ G e => ?_, good_fault Gy⟩
    exact key _ _ ⟨rfl, e⟩
  rintro σ H18 ⟨rfl, e18⟩
  replace hs := hs.same e18
  replace hD := e18 _ _ hD
  replace hes := hes.imp fun _ _ q => Rq.same e18 q
  replace W := W.same e18
  replace hpl := e18.sqt hpl
  replace hvg := hvg.same e18
  clear e18
  refine cutG (fun σ' G => σ' = [some (.ref sa), some (.ref s), some (.ref pr), some (.ref bt), some (.ref bh), some (.ref lv), some (.ref bm), some (.ref ba), some (.ref xs), some (.ref Bb), some (.ref bf), some (.ref bv), some (.ref xt), some (.ref o), some (.ref D), some (.ref pl), some (lapV (lapsP y q0)), none] ∧ Same H18 G) ?_ ?_
  rotate_left
  · intro u' key
    have i1 : atI [vg, lapV (dueP y.b q0 (ahead y) (gain y))] 1 = some (lapV (lapsP y q0)) := rfl
    have dl : ∃ d, Dp K H18 (lapV (lapsP y q0)) d ∧ Tree 4 d := by
      cases lapsP y q0 with
      | none => exact ⟨.none, .non, .non⟩
      | some k => exact ⟨.int k, .int k, .int k⟩
    obtain ⟨d, d1, td⟩ := dl
    refine ⟨_, rfl, _, rfl, pl, _, _, _, rfl, rfl, hpl, i1, _, _, d, rfl, d1, d1, td, ?_⟩
    (walk_at "vk_vc")
    all_goals exact key _ _ ⟨rfl, Same.refl _⟩
  rintro σ H19 ⟨rfl, e19⟩
  replace hD := e19 _ _ hD
  replace hes := hes.imp fun _ _ q => Rq.same e19 q
  replace W := W.same e19
  replace hpl := e19.sqt hpl
  replace hvg := hvg.same e19
  clear e19 hs
  have z2 : ∀ H', Q (.bl true) H' := z
  refine cutG (fun σ' G => ∃ (k17 : Option V), σ' = [some (.ref sa), some (.ref s), some (.ref pr), some (.ref bt), some (.ref bh), some (.ref lv), some (.ref bm), some (.ref ba), some (.ref xs), some (.ref Bb), some (.ref bf), some (.ref bv), some (.ref xt), some (.ref o), some (.ref D), some (.ref pl), some (lapV (lapsP y q0)), k17] ∧ True) ?_ ?_
  rotate_left
  · intro u' key
    have hv := W.hv
    have h1 := W.h1
    have i0 : atI [v1, v2] 0 = some v1 := rfl
    have i0' : atI [vg, lapV (dueP y.b q0 (ahead y) (gain y))] 0 = some vg := rfl
    have hDs := SqL.of (K := K) hD
    cases el : lapsP y q0 with
    | none =>
      rw [el] at key
      (walk_at "vk_vc")
      dsimp only [tNext]
      exact key _ _ ⟨_, rfl, trivial⟩
    | some m =>
      rw [el] at key
      by_cases c1 : q0 < ahead y
      · (walk_at "vk_vc")
        dsimp only [tNext]
        exact key _ _ ⟨_, rfl, trivial⟩
      · obtain ⟨m0, low⟩ := laps_after Gy (Rat.not_lt.mp c1) el
        have m1000 : m ≤ 1000 := by
          have gp := Gy.gp
          have c2 := Rat.not_lt.mp c1
          have := laps_ok Gy (g := q0) (.inl (by grind))
          rw [el] at this
          exact this.2.1
        have m62 : m < 2 ^ 62 := by
          have : (2 : Int) ^ 62 = 4611686018427387904 := by decide
          omega
        (walk_at "vk_vc")
        refine forR (lo := m) (n := ((us.length : Int) - m).toNat) (fun i σ G => Hold (∃ k17, σ = [some (.ref sa), some (.ref s), some (.ref pr), some (.ref bt), some (.ref bh), some (.ref lv), some (.ref bm), some (.ref ba), some (.ref xs), some (.ref Bb), some (.ref bf), some (.ref bv), some (.ref xt), some (.ref o), some (.ref D), some (.ref pl), some (lapV (some m)), k17] ∧ G = H19)) ⟨none, rfl, rfl⟩ ?_ ?_
        · rintro i σ G hi ⟨k17, rfl, rfl⟩
          have ki : m.toNat + i < us.length := by omega
          obtain ⟨u, hu⟩ : ∃ u, us[m.toNat + i]? = some u := ⟨_, List.getElem?_eq_getElem ki⟩
          obtain ⟨e, he⟩ : ∃ e, es[m.toNat + i]? = some e := ⟨_, List.getElem?_eq_getElem (by omega)⟩
          have hq := hes.2 _ u e hu he
          have hat : atI us (m + (i : Int)) = some u := by rw [show m + (i : Int) = ((m.toNat + i : Nat) : Int) by omega]; exact atI_nat hu
          have le1 := (tl.2 _ e he).1
          have ze := (tl.2 _ e he).2.2
          rw [bnds_after Gy] at le1
          have le2 := low ((m.toNat + i : Nat) : Int) (by omega)
          have nlt : ¬ q0 < e := Rat.not_lt.mpr (Rat.le_trans le1 le2)
          (walk_at "vk_vc")
          dsimp only [tNext]
          show Hold _
          exact ⟨_, rfl, rfl⟩
        · rintro σ G ⟨k17, rfl, rfl⟩
          exact key _ _ ⟨_, rfl, trivial⟩
  rintro σ H20 ⟨k17, rfl, _⟩
  (walk_at "vk_vc")
  exact z2 _
end Vk

namespace Vk
open PySem L2 Vm Vl
variable {K : PySem.W.Frag} {mg : Str → Option Value}
abbrev CnZERO (K : PySem.W.Frag) (mg : Str → Option Value) (a : Addr) := Cn K mg "ZERO" 0 a
theorem cnZERO {a : Addr} (m : mg "ZERO" = some (.ref a)) (h : ∀ H, SqT K H a [.int 0, .int 1]) : CnZERO K mg a := ⟨m, fun H => ⟨a, rfl, by rw [show (0 : Rat).num = 0 by decide +kernel, show ((0 : Rat).den : Int) = 1 by decide +kernel]; exact h H⟩⟩
abbrev CnONE (K : PySem.W.Frag) (mg : Str → Option Value) (a : Addr) := Cn K mg "ONE" 1 a
theorem cnONE {a : Addr} (m : mg "ONE" = some (.ref a)) (h : ∀ H, SqT K H a [.int 1, .int 1]) : CnONE K mg a := ⟨m, fun H => ⟨a, rfl, by rw [show (1 : Rat).num = 1 by decide +kernel, show ((1 : Rat).den : Int) = 1 by decide +kernel]; exact h H⟩⟩
abbrev CnHALF (K : PySem.W.Frag) (mg : Str → Option Value) (a : Addr) := Cn K mg "HALF" (1 / 2) a
theorem cnHALF {a : Addr} (m : mg "HALF" = some (.ref a)) (h : ∀ H, SqT K H a [.int 1, .int 2]) : CnHALF K mg a := ⟨m, fun H => ⟨a, rfl, by rw [show ((1 / 2 : Rat)).num = 1 by decide +kernel, show (((1 / 2 : Rat)).den : Int) = 2 by decide +kernel]; exact h H⟩⟩
theorem rq_raw0 {H : Hp} {a : Addr} (h : SqT K H a [.int 0, .int 1]) : Rq K H (.ref a) 0 := ⟨a, rfl, by rw [show (0 : Rat).num = 0 by decide +kernel, show ((0 : Rat).den : Int) = 1 by decide +kernel]; exact h⟩
theorem kit_self {C : Addr} : PySem.W.kitOne K (.ref C) (.ref C) = some true := by
  unfold PySem.W.kitOne
  rw [if_pos (beq_self_eq_true _)]
theorem kit_ty2 {C : Addr} {T : String} (m : PySem.W.kitMeta T = true) (h : PySem.W.subIn K (.ref C) (.type T) = some true) : PySem.W.kitOne K (.ref C) (.type T) = some true := by
  have e : (Value.ref C == Value.type T) = false := beq_false_of_ne nofun
  unfold PySem.W.kitOne PySem.W.kitCls
  rw [e, if_neg Bool.false_ne_true]
  dsimp only
  rw [if_pos m]
  exact h
end Vk

namespace Vk
open PySem PySem.Calls PySem.HandSPX L2 Vm Vl

theorem law_ok {P : Program} {w : World} {K : PySem.W.Frag} {mg : Str → Option Value} {base : Heap} {f_rational : Addr} {fd_rational : FuncData} {f_add : Addr} {fd_add : FuncData} {f_subtract : Addr} {fd_subtract : FuncData} {f_multiply : Addr} {fd_multiply : FuncData} {f_negate : Addr} {fd_negate : FuncData} {f_divide : Addr} {fd_divide : FuncData} {f_distance : Addr} {fd_distance : FuncData} {f_compare : Addr} {fd_compare : FuncData} {f_smaller : Addr} {fd_smaller : FuncData} {f_larger : Addr} {fd_larger : FuncData} {f_floor_of : Addr} {fd_floor_of : FuncData} {f__shown_by : Addr} {fd__shown_by : FuncData} {f__place_at : Addr} {fd__place_at : FuncData} {f__piece_at : Addr} {fd__piece_at : FuncData} {f_shown_at : Addr} {fd_shown_at : FuncData} {f__jump_at : Addr} {fd__jump_at : FuncData} {f_tidy : Addr} {fd_tidy : FuncData} {f_width_of : Addr} {fd_width_of : FuncData} {f_middle_of : Addr} {fd_middle_of : FuncData} {f_far_end : Addr} {fd_far_end : FuncData} {f__higher_low : Addr} {fd__higher_low : FuncData} {f__lower_high : Addr} {fd__lower_high : FuncData} {f_meet : Addr} {fd_meet : FuncData} {f_require_not_below_zero : Addr} {fd_require_not_below_zero : FuncData} {f__require_slew_and_drift : Addr} {fd__require_slew_and_drift : FuncData} {f__require_lap : Addr} {fd__require_lap : FuncData} {f__bound_behind : Addr} {fd__bound_behind : FuncData} {f_bound_after : Addr} {fd_bound_after : FuncData} {f_laps_until : Addr} {fd_laps_until : FuncData} {f__planned : Addr} {fd__planned : FuncData} {f__law_store : Addr} {fd__law_store : FuncData} {f__law_feed : Addr} {fd__law_feed : FuncData} {f__law_mixed : Addr} {fd__law_mixed : FuncData} {f__law_take : Addr} {fd__law_take : FuncData} {f__law_pick : Addr} {fd__law_pick : FuncData} {f__law_is_int : Addr} {fd__law_is_int : FuncData} {f__law_same : Addr} {fd__law_same : FuncData} {f__law_frac : Addr} {fd__law_frac : FuncData} {f__law_plus : Addr} {fd__law_plus : FuncData} {f__law_minus : Addr} {fd__law_minus : FuncData} {f__law_times : Addr} {fd__law_times : FuncData} {f__law_over : Addr} {fd__law_over : FuncData} {f__law_below : Addr} {fd__law_below : FuncData} {f__law_is_frac : Addr} {fd__law_is_frac : FuncData} {f__law_part : Addr} {fd__law_part : FuncData} {f__law_spare : Addr} {fd__law_spare : FuncData} {f__law_above : Addr} {fd__law_above : FuncData} {f__law_slews : Addr} {fd__law_slews : FuncData} {f__law_over_step : Addr} {fd__law_over_step : FuncData} {f__law_steering : Addr} {fd__law_steering : FuncData} {f__law_due_laps : Addr} {fd__law_due_laps : FuncData} {f__law_goal : Addr} {fd__law_goal : FuncData} {f__law_within : Addr} {fd__law_within : FuncData} {f__law_round : Addr} {fd__law_round : FuncData} {f__law_floor : Addr} {fd__law_floor : FuncData} {f__law_bounds : Addr} {fd__law_bounds : FuncData} {f__law_laps : Addr} {fd__law_laps : FuncData} {f_law : Addr} {fd_law : FuncData} (T : Bn mg) {aZERO : Addr} (ZZERO : CnZERO K mg aZERO) {aONE : Addr} (ZONE : CnONE K mg aONE) {aHALF : Addr} (ZHALF : CnHALF K mg aHALF)
    (h_rational : FunA K "rational" "rational" s_rational f_rational fd_rational) (m_rational : mg "rational" = some (.ref f_rational)) (b_rational : Binds K fd_rational ps_rational [])
    {C_BeforeStart fi_BeforeStart : Addr}
    {C_TurnsBack fi_TurnsBack : Addr}
    {C_BadRate fi_BadRate : Addr}
    {C_BadBound fi_BadBound : Addr}
    (TBeforeStart : PySem.ValX.ValTxt K mg "BeforeStart" C_BeforeStart fi_BeforeStart)
    (TTurnsBack : PySem.ValX.ValTxt K mg "TurnsBack" C_TurnsBack fi_TurnsBack)
    (TBadRate : PySem.ValX.ValTxt K mg "BadRate" C_BadRate fi_BadRate)
    (TBadBound : PySem.ValX.ValTxt K mg "BadBound" C_BadBound fi_BadBound)
    (h_bound_after : FnK K mg "bound_after" s_bound_after f_bound_after fd_bound_after) (kb_bound_after : KBn K fd_bound_after ps_bound_after 2 ["lap", "slew", "drift"] (fun us ws => us ++ ws) (fun vs zs => vs ++ zs))
    (h_laps_until : FnK K mg "laps_until" s_laps_until f_laps_until fd_laps_until) (kb_laps_until : KBn K fd_laps_until ps_laps_until 3 ["lap", "slew", "drift"] (fun us ws => us ++ ws) (fun vs zs => vs ++ zs))
    (h_add : Fn K mg "add" s_add ps_add f_add fd_add)
    (h_subtract : Fn K mg "subtract" s_subtract ps_subtract f_subtract fd_subtract)
    (h_multiply : Fn K mg "multiply" s_multiply ps_multiply f_multiply fd_multiply)
    (h_negate : Fn K mg "negate" s_negate ps_negate f_negate fd_negate)
    (h_divide : Fn K mg "divide" s_divide ps_divide f_divide fd_divide)
    (h_distance : Fn K mg "distance" s_distance ps_distance f_distance fd_distance)
    (h_compare : Fn K mg "compare" s_compare ps_compare f_compare fd_compare)
    (h_smaller : Fn K mg "smaller" s_smaller ps_smaller f_smaller fd_smaller)
    (h_larger : Fn K mg "larger" s_larger ps_larger f_larger fd_larger)
    (h_floor_of : Fn K mg "floor_of" s_floor_of ps_floor_of f_floor_of fd_floor_of)
    (h__shown_by : Fn K mg "_shown_by" s__shown_by ps__shown_by f__shown_by fd__shown_by)
    (h__place_at : Fn K mg "_place_at" s__place_at ps__place_at f__place_at fd__place_at)
    (h__piece_at : Fn K mg "_piece_at" s__piece_at ps__piece_at f__piece_at fd__piece_at)
    (h_shown_at : Fn K mg "shown_at" s_shown_at ps_shown_at f_shown_at fd_shown_at)
    (h__jump_at : Fn K mg "_jump_at" s__jump_at ps__jump_at f__jump_at fd__jump_at)
    (h_tidy : Fn K mg "tidy" s_tidy ps_tidy f_tidy fd_tidy)
    (h_width_of : Fn K mg "width_of" s_width_of ps_width_of f_width_of fd_width_of)
    (h_middle_of : Fn K mg "middle_of" s_middle_of ps_middle_of f_middle_of fd_middle_of)
    (h_far_end : Fn K mg "far_end" s_far_end ps_far_end f_far_end fd_far_end)
    (h__higher_low : Fn K mg "_higher_low" s__higher_low ps__higher_low f__higher_low fd__higher_low)
    (h__lower_high : Fn K mg "_lower_high" s__lower_high ps__lower_high f__lower_high fd__lower_high)
    (h_meet : Fn K mg "meet" s_meet ps_meet f_meet fd_meet)
    (h_require_not_below_zero : Fn K mg "require_not_below_zero" s_require_not_below_zero ps_require_not_below_zero f_require_not_below_zero fd_require_not_below_zero)
    (h__require_slew_and_drift : Fn K mg "_require_slew_and_drift" s__require_slew_and_drift ps__require_slew_and_drift f__require_slew_and_drift fd__require_slew_and_drift)
    (h__require_lap : Fn K mg "_require_lap" s__require_lap ps__require_lap f__require_lap fd__require_lap)
    (h__bound_behind : Fn K mg "_bound_behind" s__bound_behind ps__bound_behind f__bound_behind fd__bound_behind)
    (h__planned : Fn K mg "_planned" s__planned ps__planned f__planned fd__planned)
    (h__law_store : Fn K mg "_law_store" s__law_store ps__law_store f__law_store fd__law_store)
    (h__law_feed : Fn K mg "_law_feed" s__law_feed ps__law_feed f__law_feed fd__law_feed)
    (h__law_mixed : Fn K mg "_law_mixed" s__law_mixed ps__law_mixed f__law_mixed fd__law_mixed)
    (h__law_take : Fn K mg "_law_take" s__law_take ps__law_take f__law_take fd__law_take)
    (h__law_pick : Fn K mg "_law_pick" s__law_pick ps__law_pick f__law_pick fd__law_pick)
    (h__law_is_int : Fn K mg "_law_is_int" s__law_is_int ps__law_is_int f__law_is_int fd__law_is_int)
    (h__law_same : Fn K mg "_law_same" s__law_same ps__law_same f__law_same fd__law_same)
    (h__law_frac : Fn K mg "_law_frac" s__law_frac ps__law_frac f__law_frac fd__law_frac)
    (h__law_plus : Fn K mg "_law_plus" s__law_plus ps__law_plus f__law_plus fd__law_plus)
    (h__law_minus : Fn K mg "_law_minus" s__law_minus ps__law_minus f__law_minus fd__law_minus)
    (h__law_times : Fn K mg "_law_times" s__law_times ps__law_times f__law_times fd__law_times)
    (h__law_over : Fn K mg "_law_over" s__law_over ps__law_over f__law_over fd__law_over)
    (h__law_below : Fn K mg "_law_below" s__law_below ps__law_below f__law_below fd__law_below)
    (h__law_is_frac : Fn K mg "_law_is_frac" s__law_is_frac ps__law_is_frac f__law_is_frac fd__law_is_frac)
    (h__law_part : Fn K mg "_law_part" s__law_part ps__law_part f__law_part fd__law_part)
    (h__law_spare : Fn K mg "_law_spare" s__law_spare ps__law_spare f__law_spare fd__law_spare)
    (h__law_above : Fn K mg "_law_above" s__law_above ps__law_above f__law_above fd__law_above)
    (h__law_slews : Fn K mg "_law_slews" s__law_slews ps__law_slews f__law_slews fd__law_slews)
    (h__law_over_step : Fn K mg "_law_over_step" s__law_over_step ps__law_over_step f__law_over_step fd__law_over_step)
    (h__law_steering : Fn K mg "_law_steering" s__law_steering ps__law_steering f__law_steering fd__law_steering)
    (h__law_due_laps : Fn K mg "_law_due_laps" s__law_due_laps ps__law_due_laps f__law_due_laps fd__law_due_laps)
    (h__law_goal : Fn K mg "_law_goal" s__law_goal ps__law_goal f__law_goal fd__law_goal)
    (h__law_within : Fn K mg "_law_within" s__law_within ps__law_within f__law_within fd__law_within)
    (h__law_round : Fn K mg "_law_round" s__law_round ps__law_round f__law_round fd__law_round)
    (h__law_floor : Fn K mg "_law_floor" s__law_floor ps__law_floor f__law_floor fd__law_floor)
    (h__law_bounds : Fn K mg "_law_bounds" s__law_bounds ps__law_bounds f__law_bounds fd__law_bounds)
    (h__law_laps : Fn K mg "_law_laps" s__law_laps ps__law_laps f__law_laps fd__law_laps)
    (h_law : Fn K mg "law" s_law ps_law f_law fd_law)
    {C_Steering : Addr} (SSteering : Stg K C_Steering) (mSteering : mg "Steering" = some (.ref C_Steering))
    {f_Steering_init : Addr} {fd_Steering_init : FuncData}
    (h_Steering_init : Fun K "__init__" "Steering.__init__" s_Steering_init f_Steering_init fd_Steering_init) (kkSteering : Mk K C_Steering f_Steering_init)
    {aDR : Addr} (haDR : ∀ H, Rq K H (.ref aDR) 0)
    {mvslew : List Value} (kb_Steering_slew : KBn K fd_Steering_init ps_Steering_init 4 ["slew"] (fun us ws => us ++ ws ++ mvslew) (fun vs zs => vs ++ zs ++ [.ref aDR, .non]))
    (kb_Steering_slew_drift_step_over : KBn K fd_Steering_init ps_Steering_init 4 ["slew", "drift", "step_over"] (fun us ws => us ++ ws) (fun vs zs => vs ++ zs))
    {f_Steering_steer : Addr} {fd_Steering_steer : FuncData}
    (h_Steering_steer : FnM K C_Steering "steer" "Steering.steer" s_Steering_steer ps_Steering_steer f_Steering_steer fd_Steering_steer)
    {f_Steering_display : Addr} {fd_Steering_display : FuncData}
    (h_Steering_display : FnM K C_Steering "display" "Steering.display" s_Steering_display ps_Steering_display f_Steering_display fd_Steering_display)
    {f_Steering_error_at : Addr} {fd_Steering_error_at : FuncData}
    (h_Steering_error_at : FnM K C_Steering "error_at" "Steering.error_at" s_Steering_error_at ps_Steering_error_at f_Steering_error_at fd_Steering_error_at)
    {f_Steering__plan : Addr} {fd_Steering__plan : FuncData}
    (h_Steering__plan : FnM K C_Steering "_plan" "Steering._plan" s_Steering__plan ps_Steering__plan f_Steering__plan fd_Steering__plan)
    {f_Steering__jumps_to : Addr} {fd_Steering__jumps_to : FuncData}
    (h_Steering__jumps_to : FnM K C_Steering "_jumps_to" "Steering._jumps_to" s_Steering__jumps_to ps_Steering__jumps_to f_Steering__jumps_to fd_Steering__jumps_to)
    : FnOk P w K mg base CX0 9 f_law fd_law ps_law (spLaw K) := by
  have p_law_store := ok_store (P := P) (w := w) (mg := mg) (base := base) (k := 0) T h__law_store
  have p_law_feed := fun l => ok_feed (P := P) (w := w) (mg := mg) (base := base) (k := 0) (l := l) T h__law_feed
  have p_law_mixed := fun l => ok_mixed (P := P) (w := w) (mg := mg) (base := base) (k := 0) (l := l) T h__law_mixed
  have p_law_take := fun l => ok_take (P := P) (w := w) (mg := mg) (base := base) (k := 1) (l := l) T h__law_take ((p_law_feed l).up (by decide)) ((p_law_mixed l).up (by decide))
  have p_law_frac := ok_frac (P := P) (w := w) (mg := mg) (base := base) (k := 0) T h__law_frac
  have p_law_times := ok_times (P := P) (w := w) (mg := mg) (base := base) (k := 1) h__law_times (p_law_frac.up (by decide))
  have p_law_slews := fun l => ok_slews (P := P) (w := w) (mg := mg) (base := base) (k := 2) (l := l) h__law_slews ((p_law_take l).up (by decide)) (p_law_frac.up (by decide)) (p_law_times.up (by decide))
  have p_law_above := fun l => ok_above6 (P := P) (w := w) (mg := mg) (base := base) (k := 2) (l := l) h__law_above ((p_law_take l).up (by decide)) (p_law_frac.up (by decide))
  have p_law_spare := fun l => ok_spareN (P := P) (w := w) (mg := mg) (base := base) (k := 2) (l := l) h__law_spare ((p_law_take l).up (by decide)) (p_law_frac.up (by decide))
  have p_law_plus := ok_plus (P := P) (w := w) (mg := mg) (base := base) (k := 1) h__law_plus (p_law_frac.up (by decide))
  have p_law_minus := ok_minus (P := P) (w := w) (mg := mg) (base := base) (k := 1) h__law_minus (p_law_frac.up (by decide))
  have p_law_floor := ok_floor (P := P) (w := w) (mg := mg) (base := base) (k := 2) h__law_floor (p_law_plus.up (by decide)) (p_law_times.up (by decide)) (p_law_minus.up (by decide))
  have p_law_pick := fun l => ok_pick (P := P) (w := w) (mg := mg) (base := base) (k := 2) (l := l) T h__law_pick ((p_law_take l).up (by decide))
  have p_law_below := ok_below (P := P) (w := w) (mg := mg) (base := base) (k := 0) h__law_below
  have p_law_is_int := ok_is_int (P := P) (w := w) (mg := mg) (base := base) (k := 0) T h__law_is_int
  have p_law_same4 := ok_same (P := P) (w := w) (mg := mg) (base := base) (k := 1) T h__law_same (p_law_is_int.up (by decide)) 4
  have pcompare := ok_compare (P := P) (w := w) (mg := mg) (base := base) (k := 0) h_compare
  have prequire_not_below_zero := ok_not_below (P := P) (w := w) (mg := mg) (base := base) (k := 1) ZZERO TBadBound h_require_not_below_zero (pcompare.up (by decide))
  have p_require_slew_and_drift := ok_slew_drift (P := P) (w := w) (mg := mg) (base := base) (k := 1) ZZERO ZONE TBadRate h__require_slew_and_drift (pcompare.up (by decide))
  have p_require_lap := ok_require_lap (P := P) (w := w) (mg := mg) (base := base) (k := 2) ZZERO TBadBound h__require_lap (prequire_not_below_zero.up (by decide)) (pcompare.up (by decide)) (p_require_slew_and_drift.up (by decide))
  have plarger := ok_larger (P := P) (w := w) (mg := mg) (base := base) (k := 1) h_larger (pcompare.up (by decide))
  have padd := ok_add (P := P) (w := w) (mg := mg) (base := base) (k := 0) T h_add
  have pnegate := ok_negate (P := P) (w := w) (mg := mg) (base := base) (k := 0) h_negate
  have psubtract := ok_subtract (P := P) (w := w) (mg := mg) (base := base) (k := 1) h_subtract (padd.up (by decide)) (pnegate.up (by decide))
  have prational := ok_rational (P := P) (w := w) (mg := mg) (base := base) (k := 0) T h_rational m_rational b_rational
  have pmultiply := ok_multiply (P := P) (w := w) (mg := mg) (base := base) (k := 1) h_multiply (prational.up (by decide))
  have p_bound_behind := ok_bound_behind (P := P) (w := w) (mg := mg) (base := base) (k := 2) h__bound_behind (plarger.up (by decide)) (psubtract.up (by decide)) (pmultiply.up (by decide)) (padd.up (by decide))
  have pbound_after := ok_bound_after (P := P) (w := w) (mg := mg) (base := base) (k := 3) h_bound_after kb_bound_after (p_require_lap.up (by decide)) (p_bound_behind.up (by decide))
  have p_law_bounds := ok_bounds (P := P) (w := w) (mg := mg) (base := base) (k := 6) T h__law_bounds (p_law_minus.up (by decide)) (p_law_times.up (by decide)) (p_law_below.up (by decide)) (p_law_plus.up (by decide)) (p_law_same4.up (by decide)) (pbound_after.up (by decide))
  have p_law_part := fun l => ok_part (P := P) (w := w) (mg := mg) (base := base) (k := 3) (l := l) h__law_part ((p_law_take l).up (by decide)) ((p_law_pick l).up (by decide)) (p_law_frac.up (by decide))
  have p_Steering : MkY P w K mg base 3 "Steering" _ _ _ _ _ := ⟨ok_init (P := P) (w := w) (mg := mg) (base := base) (k := 2) SSteering ZONE h_Steering_init (prequire_not_below_zero.up (by decide)) (p_require_slew_and_drift.up (by decide)), mSteering, kkSteering⟩
  have p_law_steering := ok_steering (P := P) (w := w) (mg := mg) (base := base) (k := 3) haDR h__law_steering (p_Steering.up (by decide)) kb_Steering_slew kb_Steering_slew_drift_step_over
  have p_law_over_step := fun l => ok_over_step (P := P) (w := w) (mg := mg) (base := base) (k := 3) (l := l) h__law_over_step ((p_law_above l).up (by decide)) ((p_law_pick l).up (by decide))
  have p_error_at := ok_error_at (P := P) (w := w) (mg := mg) (base := base) (k := 3) SSteering TTurnsBack h_Steering_error_at (pcompare.up (by decide)) (psubtract.up (by decide)) (p_bound_behind.up (by decide))
  have p_place_at := ok_place_at (P := P) (w := w) (mg := mg) (base := base) (k := 1) h__place_at (pcompare.up (by decide))
  have p_piece_at := ok_piece_at (P := P) (w := w) (mg := mg) (base := base) (k := 2) TBeforeStart h__piece_at (p_place_at.up (by decide))
  have p_shown_by := ok_shown_by (P := P) (w := w) (mg := mg) (base := base) (k := 2) h__shown_by (padd.up (by decide)) (pmultiply.up (by decide)) (psubtract.up (by decide))
  have pshown_at := ok_shown_at (P := P) (w := w) (mg := mg) (base := base) (k := 3) h_shown_at (p_piece_at.up (by decide)) (p_shown_by.up (by decide))
  have p_display := ok_display (P := P) (w := w) (mg := mg) (base := base) (k := 4) SSteering h_Steering_display (pshown_at.up (by decide))
  have p_law_is_frac := ok_is_frac (P := P) (w := w) (mg := mg) (base := base) (k := 1) T h__law_is_frac (p_law_is_int.up (by decide)) (p_law_frac.up (by decide))
  have p_law_within := ok_within (P := P) (w := w) (mg := mg) (base := base) (k := 5) T h__law_within (p_error_at.up (by decide)) (p_display.up (by decide)) (p_law_is_frac.up (by decide)) (p_law_below.up (by decide)) (p_law_minus.up (by decide))
  have pwidth_of := ok_width_of (P := P) (w := w) (mg := mg) (base := base) (k := 2) h_width_of (psubtract.up (by decide))
  have p_jump_at := ok_jump_at (P := P) (w := w) (mg := mg) (base := base) (k := 3) h__jump_at (psubtract.up (by decide)) (p_shown_by.up (by decide))
  have ptidy := ok_tidy (P := P) (w := w) (mg := mg) (base := base) (k := 4) T ZZERO h_tidy (p_jump_at.up (by decide))
  have p__plan := ok_planN (P := P) (w := w) (mg := mg) (base := base) (k := 5) SSteering h_Steering__plan (pcompare.up (by decide)) (ptidy.up (by decide))
  have p_higher_low := ok_higher_low (P := P) (w := w) (mg := mg) (base := base) (k := 2) h__higher_low (plarger.up (by decide))
  have psmaller := ok_smaller (P := P) (w := w) (mg := mg) (base := base) (k := 1) h_smaller (pcompare.up (by decide))
  have p_lower_high := ok_lower_high (P := P) (w := w) (mg := mg) (base := base) (k := 2) h__lower_high (psmaller.up (by decide))
  have pmeet := ok_meet (P := P) (w := w) (mg := mg) (base := base) (k := 3) h_meet (p_higher_low.up (by decide)) (p_lower_high.up (by decide)) (pcompare.up (by decide))
  have pmiddle_of := ok_middle_of (P := P) (w := w) (mg := mg) (base := base) (k := 2) ZHALF h_middle_of (padd.up (by decide)) (pmultiply.up (by decide))
  have p__jumps_to := ok_jumps_to (P := P) (w := w) (mg := mg) (base := base) (k := 2) SSteering h_Steering__jumps_to (pcompare.up (by decide)) (psubtract.up (by decide))
  have pdistance := ok_distance (P := P) (w := w) (mg := mg) (base := base) (k := 2) T h_distance (psubtract.up (by decide))
  have pdivide := ok_divide (P := P) (w := w) (mg := mg) (base := base) (k := 1) h_divide (prational.up (by decide))
  have p_planned := ok_planned (P := P) (w := w) (mg := mg) (base := base) (k := 3) ZONE h__planned (pcompare.up (by decide)) (padd.up (by decide)) (psubtract.up (by decide)) (pdistance.up (by decide)) (pdivide.up (by decide))
  have pfar_end := ok_far_end (P := P) (w := w) (mg := mg) (base := base) (k := 3) h_far_end (pdistance.up (by decide)) (plarger.up (by decide))
  have p_steer := ok_steerN (P := P) (w := w) (mg := mg) (base := base) (k := 6) SSteering ZONE ZHALF h_Steering_steer (p_error_at.up (by decide)) (pshown_at.up (by decide)) (pwidth_of.up (by decide)) (p__plan.up (by decide)) (pmeet.up (by decide)) (psubtract.up (by decide)) (padd.up (by decide)) (pmiddle_of.up (by decide)) (pmultiply.up (by decide)) (p__jumps_to.up (by decide)) (p_planned.up (by decide)) (pfar_end.up (by decide))
  have p_law_round := fun l => ok_round (P := P) (w := w) (mg := mg) (base := base) (k := 2) (l := l) h__law_round ((p_law_take l).up (by decide)) (p_law_minus.up (by decide)) ((ok_timesN (P := P) (w := w) (mg := mg) (base := base) (k := 1) h__law_times (p_law_frac.up (by decide))).up (by decide)) (p_law_plus.up (by decide))
  have p_law_laps := fun l => ok_laps (P := P) (w := w) (mg := mg) (base := base) (k := 7) (l := l) T h__law_laps (p_law_within.up (by decide)) (p_error_at.up (by decide)) (p_steer.up (by decide)) ((p_law_round l).up (by decide)) (p_law_times.up (by decide)) ((p_law_pick l).up (by decide)) (p_law_plus.up (by decide))
  have p_law_over := ok_over (P := P) (w := w) (mg := mg) (base := base) (k := 1) h__law_over (p_law_frac.up (by decide))
  have p_law_due_laps := ok_due_laps (P := P) (w := w) (mg := mg) (base := base) (k := 2) h__law_due_laps (p_law_below.up (by decide)) (p_law_minus.up (by decide)) (p_law_over.up (by decide))
  have p_law_goal := fun l => ok_goal (P := P) (w := w) (mg := mg) (base := base) (k := 3) (l := l) T h__law_goal ((p_law_pick l).up (by decide)) (p_law_minus.up (by decide)) ((p_law_above l).up (by decide)) ((p_law_take l).up (by decide)) (p_law_plus.up (by decide)) ((p_law_spare l).up (by decide)) (p_law_due_laps.up (by decide))
  have pfloor_of := ok_floor_of (P := P) (w := w) (mg := mg) (base := base) (k := 0) h_floor_of
  have plaps_until := ok_laps_until (P := P) (w := w) (mg := mg) (base := base) (k := 3) h_laps_until kb_laps_until (p_require_lap.up (by decide)) (pcompare.up (by decide)) (padd.up (by decide)) (pmultiply.up (by decide)) (psubtract.up (by decide)) (pfloor_of.up (by decide)) (pdivide.up (by decide))
  have plaw := ok_law (P := P) (w := w) (mg := mg) (base := base) (k := 7) T h_law (p_law_store.up (by decide)) (fun l => (p_law_slews l).up (by decide)) (fun l => (p_law_above l).up (by decide)) (fun l => (p_law_spare l).up (by decide)) (p_law_floor.up (by decide)) (p_law_times.up (by decide)) (p_law_frac.up (by decide)) (fun l => (p_law_take l).up (by decide)) (p_law_plus.up (by decide)) (fun l => (p_law_pick l).up (by decide)) (p_law_bounds.up (by decide)) (fun l => (p_law_part l).up (by decide)) (p_law_steering.up (by decide)) (fun l => (p_law_over_step l).up (by decide)) (fun l => (p_law_laps l).up (by decide)) (p_law_same4.up (by decide)) (fun l => (p_law_goal l).up (by decide)) (plaps_until.up (by decide)) (p_law_below.up (by decide))
  exact plaw.ok
set_option maxHeartbeats 0 in
theorem all_mk {l : PySem.W.OpenLaw} {w : World} {K : PySem.W.Frag} {h : Heap} {mg : Str → Option Value} {fa : Addr} (X : K.In h) (G : h.Ns mainGlobals mg) (hfa : mg "law" = some (.ref fa))
    {f_rational : Addr} {od_rational an_rational : Option Addr} {sl_rational : Array (Option Value)} {oc_rational kV_rational dc_rational pm_rational cd_rational ct_rational : Value}
    {f_add : Addr} {od_add an_add : Option Addr} {sl_add : Array (Option Value)} {oc_add kV_add dc_add pm_add cd_add ct_add : Value}
    {f_subtract : Addr} {od_subtract an_subtract : Option Addr} {sl_subtract : Array (Option Value)} {oc_subtract kV_subtract dc_subtract pm_subtract cd_subtract ct_subtract : Value}
    {f_multiply : Addr} {od_multiply an_multiply : Option Addr} {sl_multiply : Array (Option Value)} {oc_multiply kV_multiply dc_multiply pm_multiply cd_multiply ct_multiply : Value}
    {f_negate : Addr} {od_negate an_negate : Option Addr} {sl_negate : Array (Option Value)} {oc_negate kV_negate dc_negate pm_negate cd_negate ct_negate : Value}
    {f_divide : Addr} {od_divide an_divide : Option Addr} {sl_divide : Array (Option Value)} {oc_divide kV_divide dc_divide pm_divide cd_divide ct_divide : Value}
    {f_distance : Addr} {od_distance an_distance : Option Addr} {sl_distance : Array (Option Value)} {oc_distance kV_distance dc_distance pm_distance cd_distance ct_distance : Value}
    {f_compare : Addr} {od_compare an_compare : Option Addr} {sl_compare : Array (Option Value)} {oc_compare kV_compare dc_compare pm_compare cd_compare ct_compare : Value}
    {f_smaller : Addr} {od_smaller an_smaller : Option Addr} {sl_smaller : Array (Option Value)} {oc_smaller kV_smaller dc_smaller pm_smaller cd_smaller ct_smaller : Value}
    {f_larger : Addr} {od_larger an_larger : Option Addr} {sl_larger : Array (Option Value)} {oc_larger kV_larger dc_larger pm_larger cd_larger ct_larger : Value}
    {f_floor_of : Addr} {od_floor_of an_floor_of : Option Addr} {sl_floor_of : Array (Option Value)} {oc_floor_of kV_floor_of dc_floor_of pm_floor_of cd_floor_of ct_floor_of : Value}
    {f__shown_by : Addr} {od__shown_by an__shown_by : Option Addr} {sl__shown_by : Array (Option Value)} {oc__shown_by kV__shown_by dc__shown_by pm__shown_by cd__shown_by ct__shown_by : Value}
    {f__place_at : Addr} {od__place_at an__place_at : Option Addr} {sl__place_at : Array (Option Value)} {oc__place_at kV__place_at dc__place_at pm__place_at cd__place_at ct__place_at : Value}
    {f__piece_at : Addr} {od__piece_at an__piece_at : Option Addr} {sl__piece_at : Array (Option Value)} {oc__piece_at kV__piece_at dc__piece_at pm__piece_at cd__piece_at ct__piece_at : Value}
    {f_shown_at : Addr} {od_shown_at an_shown_at : Option Addr} {sl_shown_at : Array (Option Value)} {oc_shown_at kV_shown_at dc_shown_at pm_shown_at cd_shown_at ct_shown_at : Value}
    {f__jump_at : Addr} {od__jump_at an__jump_at : Option Addr} {sl__jump_at : Array (Option Value)} {oc__jump_at kV__jump_at dc__jump_at pm__jump_at cd__jump_at ct__jump_at : Value}
    {f_tidy : Addr} {od_tidy an_tidy : Option Addr} {sl_tidy : Array (Option Value)} {oc_tidy kV_tidy dc_tidy pm_tidy cd_tidy ct_tidy : Value}
    {f_width_of : Addr} {od_width_of an_width_of : Option Addr} {sl_width_of : Array (Option Value)} {oc_width_of kV_width_of dc_width_of pm_width_of cd_width_of ct_width_of : Value}
    {f_middle_of : Addr} {od_middle_of an_middle_of : Option Addr} {sl_middle_of : Array (Option Value)} {oc_middle_of kV_middle_of dc_middle_of pm_middle_of cd_middle_of ct_middle_of : Value}
    {f_far_end : Addr} {od_far_end an_far_end : Option Addr} {sl_far_end : Array (Option Value)} {oc_far_end kV_far_end dc_far_end pm_far_end cd_far_end ct_far_end : Value}
    {f__higher_low : Addr} {od__higher_low an__higher_low : Option Addr} {sl__higher_low : Array (Option Value)} {oc__higher_low kV__higher_low dc__higher_low pm__higher_low cd__higher_low ct__higher_low : Value}
    {f__lower_high : Addr} {od__lower_high an__lower_high : Option Addr} {sl__lower_high : Array (Option Value)} {oc__lower_high kV__lower_high dc__lower_high pm__lower_high cd__lower_high ct__lower_high : Value}
    {f_meet : Addr} {od_meet an_meet : Option Addr} {sl_meet : Array (Option Value)} {oc_meet kV_meet dc_meet pm_meet cd_meet ct_meet : Value}
    {f_require_not_below_zero : Addr} {od_require_not_below_zero an_require_not_below_zero : Option Addr} {sl_require_not_below_zero : Array (Option Value)} {oc_require_not_below_zero kV_require_not_below_zero dc_require_not_below_zero pm_require_not_below_zero cd_require_not_below_zero ct_require_not_below_zero : Value}
    {f__require_slew_and_drift : Addr} {od__require_slew_and_drift an__require_slew_and_drift : Option Addr} {sl__require_slew_and_drift : Array (Option Value)} {oc__require_slew_and_drift kV__require_slew_and_drift dc__require_slew_and_drift pm__require_slew_and_drift cd__require_slew_and_drift ct__require_slew_and_drift : Value}
    {f__require_lap : Addr} {od__require_lap an__require_lap : Option Addr} {sl__require_lap : Array (Option Value)} {oc__require_lap kV__require_lap dc__require_lap pm__require_lap cd__require_lap ct__require_lap : Value}
    {f__bound_behind : Addr} {od__bound_behind an__bound_behind : Option Addr} {sl__bound_behind : Array (Option Value)} {oc__bound_behind kV__bound_behind dc__bound_behind pm__bound_behind cd__bound_behind ct__bound_behind : Value}
    {f_bound_after : Addr} {od_bound_after an_bound_after : Option Addr} {sl_bound_after : Array (Option Value)} {oc_bound_after kV_bound_after dc_bound_after pm_bound_after cd_bound_after ct_bound_after : Value}
    {f_laps_until : Addr} {od_laps_until an_laps_until : Option Addr} {sl_laps_until : Array (Option Value)} {oc_laps_until kV_laps_until dc_laps_until pm_laps_until cd_laps_until ct_laps_until : Value}
    {f__planned : Addr} {od__planned an__planned : Option Addr} {sl__planned : Array (Option Value)} {oc__planned kV__planned dc__planned pm__planned cd__planned ct__planned : Value}
    {f__law_store : Addr} {od__law_store an__law_store : Option Addr} {sl__law_store : Array (Option Value)} {oc__law_store kV__law_store dc__law_store pm__law_store cd__law_store ct__law_store : Value}
    {f__law_feed : Addr} {od__law_feed an__law_feed : Option Addr} {sl__law_feed : Array (Option Value)} {oc__law_feed kV__law_feed dc__law_feed pm__law_feed cd__law_feed ct__law_feed : Value}
    {f__law_mixed : Addr} {od__law_mixed an__law_mixed : Option Addr} {sl__law_mixed : Array (Option Value)} {oc__law_mixed kV__law_mixed dc__law_mixed pm__law_mixed cd__law_mixed ct__law_mixed : Value}
    {f__law_take : Addr} {od__law_take an__law_take : Option Addr} {sl__law_take : Array (Option Value)} {oc__law_take kV__law_take dc__law_take pm__law_take cd__law_take ct__law_take : Value}
    {f__law_pick : Addr} {od__law_pick an__law_pick : Option Addr} {sl__law_pick : Array (Option Value)} {oc__law_pick kV__law_pick dc__law_pick pm__law_pick cd__law_pick ct__law_pick : Value}
    {f__law_is_int : Addr} {od__law_is_int an__law_is_int : Option Addr} {sl__law_is_int : Array (Option Value)} {oc__law_is_int kV__law_is_int dc__law_is_int pm__law_is_int cd__law_is_int ct__law_is_int : Value}
    {f__law_same : Addr} {od__law_same an__law_same : Option Addr} {sl__law_same : Array (Option Value)} {oc__law_same kV__law_same dc__law_same pm__law_same cd__law_same ct__law_same : Value}
    {f__law_frac : Addr} {od__law_frac an__law_frac : Option Addr} {sl__law_frac : Array (Option Value)} {oc__law_frac kV__law_frac dc__law_frac pm__law_frac cd__law_frac ct__law_frac : Value}
    {f__law_plus : Addr} {od__law_plus an__law_plus : Option Addr} {sl__law_plus : Array (Option Value)} {oc__law_plus kV__law_plus dc__law_plus pm__law_plus cd__law_plus ct__law_plus : Value}
    {f__law_minus : Addr} {od__law_minus an__law_minus : Option Addr} {sl__law_minus : Array (Option Value)} {oc__law_minus kV__law_minus dc__law_minus pm__law_minus cd__law_minus ct__law_minus : Value}
    {f__law_times : Addr} {od__law_times an__law_times : Option Addr} {sl__law_times : Array (Option Value)} {oc__law_times kV__law_times dc__law_times pm__law_times cd__law_times ct__law_times : Value}
    {f__law_over : Addr} {od__law_over an__law_over : Option Addr} {sl__law_over : Array (Option Value)} {oc__law_over kV__law_over dc__law_over pm__law_over cd__law_over ct__law_over : Value}
    {f__law_below : Addr} {od__law_below an__law_below : Option Addr} {sl__law_below : Array (Option Value)} {oc__law_below kV__law_below dc__law_below pm__law_below cd__law_below ct__law_below : Value}
    {f__law_is_frac : Addr} {od__law_is_frac an__law_is_frac : Option Addr} {sl__law_is_frac : Array (Option Value)} {oc__law_is_frac kV__law_is_frac dc__law_is_frac pm__law_is_frac cd__law_is_frac ct__law_is_frac : Value}
    {f__law_part : Addr} {od__law_part an__law_part : Option Addr} {sl__law_part : Array (Option Value)} {oc__law_part kV__law_part dc__law_part pm__law_part cd__law_part ct__law_part : Value}
    {f__law_spare : Addr} {od__law_spare an__law_spare : Option Addr} {sl__law_spare : Array (Option Value)} {oc__law_spare kV__law_spare dc__law_spare pm__law_spare cd__law_spare ct__law_spare : Value}
    {f__law_above : Addr} {od__law_above an__law_above : Option Addr} {sl__law_above : Array (Option Value)} {oc__law_above kV__law_above dc__law_above pm__law_above cd__law_above ct__law_above : Value}
    {f__law_slews : Addr} {od__law_slews an__law_slews : Option Addr} {sl__law_slews : Array (Option Value)} {oc__law_slews kV__law_slews dc__law_slews pm__law_slews cd__law_slews ct__law_slews : Value}
    {f__law_over_step : Addr} {od__law_over_step an__law_over_step : Option Addr} {sl__law_over_step : Array (Option Value)} {oc__law_over_step kV__law_over_step dc__law_over_step pm__law_over_step cd__law_over_step ct__law_over_step : Value}
    {f__law_steering : Addr} {od__law_steering an__law_steering : Option Addr} {sl__law_steering : Array (Option Value)} {oc__law_steering kV__law_steering dc__law_steering pm__law_steering cd__law_steering ct__law_steering : Value}
    {f__law_due_laps : Addr} {od__law_due_laps an__law_due_laps : Option Addr} {sl__law_due_laps : Array (Option Value)} {oc__law_due_laps kV__law_due_laps dc__law_due_laps pm__law_due_laps cd__law_due_laps ct__law_due_laps : Value}
    {f__law_goal : Addr} {od__law_goal an__law_goal : Option Addr} {sl__law_goal : Array (Option Value)} {oc__law_goal kV__law_goal dc__law_goal pm__law_goal cd__law_goal ct__law_goal : Value}
    {f__law_within : Addr} {od__law_within an__law_within : Option Addr} {sl__law_within : Array (Option Value)} {oc__law_within kV__law_within dc__law_within pm__law_within cd__law_within ct__law_within : Value}
    {f__law_round : Addr} {od__law_round an__law_round : Option Addr} {sl__law_round : Array (Option Value)} {oc__law_round kV__law_round dc__law_round pm__law_round cd__law_round ct__law_round : Value}
    {f__law_floor : Addr} {od__law_floor an__law_floor : Option Addr} {sl__law_floor : Array (Option Value)} {oc__law_floor kV__law_floor dc__law_floor pm__law_floor cd__law_floor ct__law_floor : Value}
    {f__law_bounds : Addr} {od__law_bounds an__law_bounds : Option Addr} {sl__law_bounds : Array (Option Value)} {oc__law_bounds kV__law_bounds dc__law_bounds pm__law_bounds cd__law_bounds ct__law_bounds : Value}
    {f__law_laps : Addr} {od__law_laps an__law_laps : Option Addr} {sl__law_laps : Array (Option Value)} {oc__law_laps kV__law_laps dc__law_laps pm__law_laps cd__law_laps ct__law_laps : Value}
    {f_law : Addr} {od_law an_law : Option Addr} {sl_law : Array (Option Value)} {oc_law kV_law dc_law pm_law cd_law ct_law : Value}
    {dV_rational : Addr} {dcls_rational : Value} {ddd_rational : Option Addr} {dtk_rational : Tok} {dn_rational : Nat} {dsl_rational : Array (Option Value)} (ldf_rational : K.lookup dV_rational = some ⟨dcls_rational, ddd_rational, .seq #[.int 1 dtk_rational] dn_rational, dsl_rational⟩)
    {aZERO : Addr} {addZERO : Option Addr} {tZERO0 tZERO1 : Tok} {znZERO : Nat} {zslZERO : Array (Option Value)} (a0ZERO : PySem.W.nsIn K mainGlobals "ZERO" = some (some (.ref aZERO))) (l0ZERO : K.lookup aZERO = some ⟨.type "tuple", addZERO, .seq #[.int 0 tZERO0, .int 1 tZERO1] znZERO, zslZERO⟩)
    {aONE : Addr} {addONE : Option Addr} {tONE0 tONE1 : Tok} {znONE : Nat} {zslONE : Array (Option Value)} (a0ONE : PySem.W.nsIn K mainGlobals "ONE" = some (some (.ref aONE))) (l0ONE : K.lookup aONE = some ⟨.type "tuple", addONE, .seq #[.int 1 tONE0, .int 1 tONE1] znONE, zslONE⟩)
    {aHALF : Addr} {addHALF : Option Addr} {tHALF0 tHALF1 : Tok} {znHALF : Nat} {zslHALF : Array (Option Value)} (a0HALF : PySem.W.nsIn K mainGlobals "HALF" = some (some (.ref aHALF))) (l0HALF : K.lookup aHALF = some ⟨.type "tuple", addHALF, .seq #[.int 1 tHALF0, .int 2 tHALF1] znHALF, zslHALF⟩)
    {C_BeforeStart fi_BeforeStart : Addr} {nm_BeforeStart q_BeforeStart iq_BeforeStart : Str} {N_BeforeStart : Addr} {bs_BeforeStart bm_BeforeStart sub_BeforeStart : List Value} {sn_BeforeStart : List Str} {ab_BeforeStart : Bool} {col_BeforeStart : Option Bool} {dd_BeforeStart : Option Addr} {m0_BeforeStart m1_BeforeStart m2_BeforeStart m3_BeforeStart m5_BeforeStart : Option Value} {iod_BeforeStart ian_BeforeStart : Option Addr} {isl_BeforeStart : Array (Option Value)} {ioc_BeforeStart idc_BeforeStart ipm_BeforeStart icd_BeforeStart ict_BeforeStart : Value} {p1_BeforeStart p2_BeforeStart q1_BeforeStart q2_BeforeStart q3_BeforeStart q4_BeforeStart : Pos}
    (aC_BeforeStart : PySem.W.nsIn K mainGlobals "BeforeStart" = some (some (.ref C_BeforeStart))) (xL_BeforeStart : K.lookup C_BeforeStart = some (excClassObj nm_BeforeStart q_BeforeStart C_BeforeStart N_BeforeStart bs_BeforeStart bm_BeforeStart true sn_BeforeStart sub_BeforeStart ab_BeforeStart col_BeforeStart dd_BeforeStart m0_BeforeStart m1_BeforeStart m2_BeforeStart m3_BeforeStart m5_BeforeStart "ValueError.__new__")) (rv_BeforeStart : refsVE bm_BeforeStart = true)
    (sa_BeforeStart : PySem.W.findIn K (.ref C_BeforeStart) "__setattr__" = some (some (.builtin "object.__setattr__"))) (ga_BeforeStart : PySem.W.findIn K (.ref C_BeforeStart) "__getattribute__" = some (some (.builtin "BaseException.__getattribute__"))) (gg_BeforeStart : PySem.W.findIn K (.ref C_BeforeStart) "__getattr__" = some none) (nb_BeforeStart : PySem.W.findIn K (.ref C_BeforeStart) "value" = some none)
    (a1_BeforeStart : PySem.W.findIn K (.ref C_BeforeStart) "__init__" = some (some (.ref fi_BeforeStart))) (t1_BeforeStart : PySem.W.typeIn K (.ref fi_BeforeStart) = some (.type "function"))
    (l1_BeforeStart : K.lookup fi_BeforeStart = some ⟨ioc_BeforeStart, iod_BeforeStart, .func (PySem.W.fnOf "__init__" iq_BeforeStart (PySem.ValX.iA p1_BeforeStart p2_BeforeStart) (PySem.ValX.iB q1_BeforeStart q2_BeforeStart q3_BeforeStart q4_BeforeStart) PySem.ValX.iS .none .none idc_BeforeStart ipm_BeforeStart ian_BeforeStart icd_BeforeStart ict_BeforeStart), isl_BeforeStart⟩) (c1_BeforeStart : PySem.W.codeIn K icd_BeforeStart iq_BeforeStart = true)
    (kC_BeforeStart : PySem.W.keepIn K (.ref C_BeforeStart) = true) (eC_BeforeStart : PySem.W.subIn K (.ref C_BeforeStart) (.type "BaseException") = some true) (tC_BeforeStart : PySem.W.typeIn K (.ref C_BeforeStart) = some (.type "type")) (hC_BeforeStart : PySem.W.hasDictIn K C_BeforeStart = true) (iC_BeforeStart : PySem.W.isClsIn K C_BeforeStart = true) (sC_BeforeStart : PySem.W.subIn K (.ref C_BeforeStart) (.ref C_BeforeStart) = some true)
    {C_TurnsBack fi_TurnsBack : Addr} {nm_TurnsBack q_TurnsBack iq_TurnsBack : Str} {N_TurnsBack : Addr} {bs_TurnsBack bm_TurnsBack sub_TurnsBack : List Value} {sn_TurnsBack : List Str} {ab_TurnsBack : Bool} {col_TurnsBack : Option Bool} {dd_TurnsBack : Option Addr} {m0_TurnsBack m1_TurnsBack m2_TurnsBack m3_TurnsBack m5_TurnsBack : Option Value} {iod_TurnsBack ian_TurnsBack : Option Addr} {isl_TurnsBack : Array (Option Value)} {ioc_TurnsBack idc_TurnsBack ipm_TurnsBack icd_TurnsBack ict_TurnsBack : Value} {p1_TurnsBack p2_TurnsBack q1_TurnsBack q2_TurnsBack q3_TurnsBack q4_TurnsBack : Pos}
    (aC_TurnsBack : PySem.W.nsIn K mainGlobals "TurnsBack" = some (some (.ref C_TurnsBack))) (xL_TurnsBack : K.lookup C_TurnsBack = some (excClassObj nm_TurnsBack q_TurnsBack C_TurnsBack N_TurnsBack bs_TurnsBack bm_TurnsBack true sn_TurnsBack sub_TurnsBack ab_TurnsBack col_TurnsBack dd_TurnsBack m0_TurnsBack m1_TurnsBack m2_TurnsBack m3_TurnsBack m5_TurnsBack "ValueError.__new__")) (rv_TurnsBack : refsVE bm_TurnsBack = true)
    (sa_TurnsBack : PySem.W.findIn K (.ref C_TurnsBack) "__setattr__" = some (some (.builtin "object.__setattr__"))) (ga_TurnsBack : PySem.W.findIn K (.ref C_TurnsBack) "__getattribute__" = some (some (.builtin "BaseException.__getattribute__"))) (gg_TurnsBack : PySem.W.findIn K (.ref C_TurnsBack) "__getattr__" = some none) (nb_TurnsBack : PySem.W.findIn K (.ref C_TurnsBack) "value" = some none)
    (a1_TurnsBack : PySem.W.findIn K (.ref C_TurnsBack) "__init__" = some (some (.ref fi_TurnsBack))) (t1_TurnsBack : PySem.W.typeIn K (.ref fi_TurnsBack) = some (.type "function"))
    (l1_TurnsBack : K.lookup fi_TurnsBack = some ⟨ioc_TurnsBack, iod_TurnsBack, .func (PySem.W.fnOf "__init__" iq_TurnsBack (PySem.ValX.iA p1_TurnsBack p2_TurnsBack) (PySem.ValX.iB q1_TurnsBack q2_TurnsBack q3_TurnsBack q4_TurnsBack) PySem.ValX.iS .none .none idc_TurnsBack ipm_TurnsBack ian_TurnsBack icd_TurnsBack ict_TurnsBack), isl_TurnsBack⟩) (c1_TurnsBack : PySem.W.codeIn K icd_TurnsBack iq_TurnsBack = true)
    (kC_TurnsBack : PySem.W.keepIn K (.ref C_TurnsBack) = true) (eC_TurnsBack : PySem.W.subIn K (.ref C_TurnsBack) (.type "BaseException") = some true) (tC_TurnsBack : PySem.W.typeIn K (.ref C_TurnsBack) = some (.type "type")) (hC_TurnsBack : PySem.W.hasDictIn K C_TurnsBack = true) (iC_TurnsBack : PySem.W.isClsIn K C_TurnsBack = true) (sC_TurnsBack : PySem.W.subIn K (.ref C_TurnsBack) (.ref C_TurnsBack) = some true)
    {C_BadRate fi_BadRate : Addr} {nm_BadRate q_BadRate iq_BadRate : Str} {N_BadRate : Addr} {bs_BadRate bm_BadRate sub_BadRate : List Value} {sn_BadRate : List Str} {ab_BadRate : Bool} {col_BadRate : Option Bool} {dd_BadRate : Option Addr} {m0_BadRate m1_BadRate m2_BadRate m3_BadRate m5_BadRate : Option Value} {iod_BadRate ian_BadRate : Option Addr} {isl_BadRate : Array (Option Value)} {ioc_BadRate idc_BadRate ipm_BadRate icd_BadRate ict_BadRate : Value} {p1_BadRate p2_BadRate q1_BadRate q2_BadRate q3_BadRate q4_BadRate : Pos}
    (aC_BadRate : PySem.W.nsIn K mainGlobals "BadRate" = some (some (.ref C_BadRate))) (xL_BadRate : K.lookup C_BadRate = some (excClassObj nm_BadRate q_BadRate C_BadRate N_BadRate bs_BadRate bm_BadRate true sn_BadRate sub_BadRate ab_BadRate col_BadRate dd_BadRate m0_BadRate m1_BadRate m2_BadRate m3_BadRate m5_BadRate "ValueError.__new__")) (rv_BadRate : refsVE bm_BadRate = true)
    (sa_BadRate : PySem.W.findIn K (.ref C_BadRate) "__setattr__" = some (some (.builtin "object.__setattr__"))) (ga_BadRate : PySem.W.findIn K (.ref C_BadRate) "__getattribute__" = some (some (.builtin "BaseException.__getattribute__"))) (gg_BadRate : PySem.W.findIn K (.ref C_BadRate) "__getattr__" = some none) (nb_BadRate : PySem.W.findIn K (.ref C_BadRate) "value" = some none)
    (a1_BadRate : PySem.W.findIn K (.ref C_BadRate) "__init__" = some (some (.ref fi_BadRate))) (t1_BadRate : PySem.W.typeIn K (.ref fi_BadRate) = some (.type "function"))
    (l1_BadRate : K.lookup fi_BadRate = some ⟨ioc_BadRate, iod_BadRate, .func (PySem.W.fnOf "__init__" iq_BadRate (PySem.ValX.iA p1_BadRate p2_BadRate) (PySem.ValX.iB q1_BadRate q2_BadRate q3_BadRate q4_BadRate) PySem.ValX.iS .none .none idc_BadRate ipm_BadRate ian_BadRate icd_BadRate ict_BadRate), isl_BadRate⟩) (c1_BadRate : PySem.W.codeIn K icd_BadRate iq_BadRate = true)
    (kC_BadRate : PySem.W.keepIn K (.ref C_BadRate) = true) (eC_BadRate : PySem.W.subIn K (.ref C_BadRate) (.type "BaseException") = some true) (tC_BadRate : PySem.W.typeIn K (.ref C_BadRate) = some (.type "type")) (hC_BadRate : PySem.W.hasDictIn K C_BadRate = true) (iC_BadRate : PySem.W.isClsIn K C_BadRate = true) (sC_BadRate : PySem.W.subIn K (.ref C_BadRate) (.ref C_BadRate) = some true)
    {C_BadBound fi_BadBound : Addr} {nm_BadBound q_BadBound iq_BadBound : Str} {N_BadBound : Addr} {bs_BadBound bm_BadBound sub_BadBound : List Value} {sn_BadBound : List Str} {ab_BadBound : Bool} {col_BadBound : Option Bool} {dd_BadBound : Option Addr} {m0_BadBound m1_BadBound m2_BadBound m3_BadBound m5_BadBound : Option Value} {iod_BadBound ian_BadBound : Option Addr} {isl_BadBound : Array (Option Value)} {ioc_BadBound idc_BadBound ipm_BadBound icd_BadBound ict_BadBound : Value} {p1_BadBound p2_BadBound q1_BadBound q2_BadBound q3_BadBound q4_BadBound : Pos}
    (aC_BadBound : PySem.W.nsIn K mainGlobals "BadBound" = some (some (.ref C_BadBound))) (xL_BadBound : K.lookup C_BadBound = some (excClassObj nm_BadBound q_BadBound C_BadBound N_BadBound bs_BadBound bm_BadBound true sn_BadBound sub_BadBound ab_BadBound col_BadBound dd_BadBound m0_BadBound m1_BadBound m2_BadBound m3_BadBound m5_BadBound "ValueError.__new__")) (rv_BadBound : refsVE bm_BadBound = true)
    (sa_BadBound : PySem.W.findIn K (.ref C_BadBound) "__setattr__" = some (some (.builtin "object.__setattr__"))) (ga_BadBound : PySem.W.findIn K (.ref C_BadBound) "__getattribute__" = some (some (.builtin "BaseException.__getattribute__"))) (gg_BadBound : PySem.W.findIn K (.ref C_BadBound) "__getattr__" = some none) (nb_BadBound : PySem.W.findIn K (.ref C_BadBound) "value" = some none)
    (a1_BadBound : PySem.W.findIn K (.ref C_BadBound) "__init__" = some (some (.ref fi_BadBound))) (t1_BadBound : PySem.W.typeIn K (.ref fi_BadBound) = some (.type "function"))
    (l1_BadBound : K.lookup fi_BadBound = some ⟨ioc_BadBound, iod_BadBound, .func (PySem.W.fnOf "__init__" iq_BadBound (PySem.ValX.iA p1_BadBound p2_BadBound) (PySem.ValX.iB q1_BadBound q2_BadBound q3_BadBound q4_BadBound) PySem.ValX.iS .none .none idc_BadBound ipm_BadBound ian_BadBound icd_BadBound ict_BadBound), isl_BadBound⟩) (c1_BadBound : PySem.W.codeIn K icd_BadBound iq_BadBound = true)
    (kC_BadBound : PySem.W.keepIn K (.ref C_BadBound) = true) (eC_BadBound : PySem.W.subIn K (.ref C_BadBound) (.type "BaseException") = some true) (tC_BadBound : PySem.W.typeIn K (.ref C_BadBound) = some (.type "type")) (hC_BadBound : PySem.W.hasDictIn K C_BadBound = true) (iC_BadBound : PySem.W.isClsIn K C_BadBound = true) (sC_BadBound : PySem.W.subIn K (.ref C_BadBound) (.ref C_BadBound) = some true)
    (a_rational : PySem.W.nsIn K mainGlobals "rational" = some (some (.ref f_rational))) (l_rational : K.lookup f_rational = some ⟨oc_rational, od_rational, .func (PySem.W.fnOf "rational" "rational" (defArgs s_rational) (defBody s_rational) (defScope s_rational) (.ref dV_rational) kV_rational dc_rational pm_rational an_rational cd_rational ct_rational), sl_rational⟩) (c_rational : PySem.W.codeIn K cd_rational "rational" = true) (k_rational : PySem.W.keepIn K (.ref f_rational) = true)
    (a_add : PySem.W.nsIn K mainGlobals "add" = some (some (.ref f_add))) (l_add : K.lookup f_add = some ⟨oc_add, od_add, .func (PySem.W.fnOf "add" "add" (defArgs s_add) (defBody s_add) (defScope s_add) .none kV_add dc_add pm_add an_add cd_add ct_add), sl_add⟩) (c_add : PySem.W.codeIn K cd_add "add" = true) (k_add : PySem.W.keepIn K (.ref f_add) = true)
    (a_subtract : PySem.W.nsIn K mainGlobals "subtract" = some (some (.ref f_subtract))) (l_subtract : K.lookup f_subtract = some ⟨oc_subtract, od_subtract, .func (PySem.W.fnOf "subtract" "subtract" (defArgs s_subtract) (defBody s_subtract) (defScope s_subtract) .none kV_subtract dc_subtract pm_subtract an_subtract cd_subtract ct_subtract), sl_subtract⟩) (c_subtract : PySem.W.codeIn K cd_subtract "subtract" = true) (k_subtract : PySem.W.keepIn K (.ref f_subtract) = true)
    (a_multiply : PySem.W.nsIn K mainGlobals "multiply" = some (some (.ref f_multiply))) (l_multiply : K.lookup f_multiply = some ⟨oc_multiply, od_multiply, .func (PySem.W.fnOf "multiply" "multiply" (defArgs s_multiply) (defBody s_multiply) (defScope s_multiply) .none kV_multiply dc_multiply pm_multiply an_multiply cd_multiply ct_multiply), sl_multiply⟩) (c_multiply : PySem.W.codeIn K cd_multiply "multiply" = true) (k_multiply : PySem.W.keepIn K (.ref f_multiply) = true)
    (a_negate : PySem.W.nsIn K mainGlobals "negate" = some (some (.ref f_negate))) (l_negate : K.lookup f_negate = some ⟨oc_negate, od_negate, .func (PySem.W.fnOf "negate" "negate" (defArgs s_negate) (defBody s_negate) (defScope s_negate) .none kV_negate dc_negate pm_negate an_negate cd_negate ct_negate), sl_negate⟩) (c_negate : PySem.W.codeIn K cd_negate "negate" = true) (k_negate : PySem.W.keepIn K (.ref f_negate) = true)
    (a_divide : PySem.W.nsIn K mainGlobals "divide" = some (some (.ref f_divide))) (l_divide : K.lookup f_divide = some ⟨oc_divide, od_divide, .func (PySem.W.fnOf "divide" "divide" (defArgs s_divide) (defBody s_divide) (defScope s_divide) .none kV_divide dc_divide pm_divide an_divide cd_divide ct_divide), sl_divide⟩) (c_divide : PySem.W.codeIn K cd_divide "divide" = true) (k_divide : PySem.W.keepIn K (.ref f_divide) = true)
    (a_distance : PySem.W.nsIn K mainGlobals "distance" = some (some (.ref f_distance))) (l_distance : K.lookup f_distance = some ⟨oc_distance, od_distance, .func (PySem.W.fnOf "distance" "distance" (defArgs s_distance) (defBody s_distance) (defScope s_distance) .none kV_distance dc_distance pm_distance an_distance cd_distance ct_distance), sl_distance⟩) (c_distance : PySem.W.codeIn K cd_distance "distance" = true) (k_distance : PySem.W.keepIn K (.ref f_distance) = true)
    (a_compare : PySem.W.nsIn K mainGlobals "compare" = some (some (.ref f_compare))) (l_compare : K.lookup f_compare = some ⟨oc_compare, od_compare, .func (PySem.W.fnOf "compare" "compare" (defArgs s_compare) (defBody s_compare) (defScope s_compare) .none kV_compare dc_compare pm_compare an_compare cd_compare ct_compare), sl_compare⟩) (c_compare : PySem.W.codeIn K cd_compare "compare" = true) (k_compare : PySem.W.keepIn K (.ref f_compare) = true)
    (a_smaller : PySem.W.nsIn K mainGlobals "smaller" = some (some (.ref f_smaller))) (l_smaller : K.lookup f_smaller = some ⟨oc_smaller, od_smaller, .func (PySem.W.fnOf "smaller" "smaller" (defArgs s_smaller) (defBody s_smaller) (defScope s_smaller) .none kV_smaller dc_smaller pm_smaller an_smaller cd_smaller ct_smaller), sl_smaller⟩) (c_smaller : PySem.W.codeIn K cd_smaller "smaller" = true) (k_smaller : PySem.W.keepIn K (.ref f_smaller) = true)
    (a_larger : PySem.W.nsIn K mainGlobals "larger" = some (some (.ref f_larger))) (l_larger : K.lookup f_larger = some ⟨oc_larger, od_larger, .func (PySem.W.fnOf "larger" "larger" (defArgs s_larger) (defBody s_larger) (defScope s_larger) .none kV_larger dc_larger pm_larger an_larger cd_larger ct_larger), sl_larger⟩) (c_larger : PySem.W.codeIn K cd_larger "larger" = true) (k_larger : PySem.W.keepIn K (.ref f_larger) = true)
    (a_floor_of : PySem.W.nsIn K mainGlobals "floor_of" = some (some (.ref f_floor_of))) (l_floor_of : K.lookup f_floor_of = some ⟨oc_floor_of, od_floor_of, .func (PySem.W.fnOf "floor_of" "floor_of" (defArgs s_floor_of) (defBody s_floor_of) (defScope s_floor_of) .none kV_floor_of dc_floor_of pm_floor_of an_floor_of cd_floor_of ct_floor_of), sl_floor_of⟩) (c_floor_of : PySem.W.codeIn K cd_floor_of "floor_of" = true) (k_floor_of : PySem.W.keepIn K (.ref f_floor_of) = true)
    (a__shown_by : PySem.W.nsIn K mainGlobals "_shown_by" = some (some (.ref f__shown_by))) (l__shown_by : K.lookup f__shown_by = some ⟨oc__shown_by, od__shown_by, .func (PySem.W.fnOf "_shown_by" "_shown_by" (defArgs s__shown_by) (defBody s__shown_by) (defScope s__shown_by) .none kV__shown_by dc__shown_by pm__shown_by an__shown_by cd__shown_by ct__shown_by), sl__shown_by⟩) (c__shown_by : PySem.W.codeIn K cd__shown_by "_shown_by" = true) (k__shown_by : PySem.W.keepIn K (.ref f__shown_by) = true)
    (a__place_at : PySem.W.nsIn K mainGlobals "_place_at" = some (some (.ref f__place_at))) (l__place_at : K.lookup f__place_at = some ⟨oc__place_at, od__place_at, .func (PySem.W.fnOf "_place_at" "_place_at" (defArgs s__place_at) (defBody s__place_at) (defScope s__place_at) .none kV__place_at dc__place_at pm__place_at an__place_at cd__place_at ct__place_at), sl__place_at⟩) (c__place_at : PySem.W.codeIn K cd__place_at "_place_at" = true) (k__place_at : PySem.W.keepIn K (.ref f__place_at) = true)
    (a__piece_at : PySem.W.nsIn K mainGlobals "_piece_at" = some (some (.ref f__piece_at))) (l__piece_at : K.lookup f__piece_at = some ⟨oc__piece_at, od__piece_at, .func (PySem.W.fnOf "_piece_at" "_piece_at" (defArgs s__piece_at) (defBody s__piece_at) (defScope s__piece_at) .none kV__piece_at dc__piece_at pm__piece_at an__piece_at cd__piece_at ct__piece_at), sl__piece_at⟩) (c__piece_at : PySem.W.codeIn K cd__piece_at "_piece_at" = true) (k__piece_at : PySem.W.keepIn K (.ref f__piece_at) = true)
    (a_shown_at : PySem.W.nsIn K mainGlobals "shown_at" = some (some (.ref f_shown_at))) (l_shown_at : K.lookup f_shown_at = some ⟨oc_shown_at, od_shown_at, .func (PySem.W.fnOf "shown_at" "shown_at" (defArgs s_shown_at) (defBody s_shown_at) (defScope s_shown_at) .none kV_shown_at dc_shown_at pm_shown_at an_shown_at cd_shown_at ct_shown_at), sl_shown_at⟩) (c_shown_at : PySem.W.codeIn K cd_shown_at "shown_at" = true) (k_shown_at : PySem.W.keepIn K (.ref f_shown_at) = true)
    (a__jump_at : PySem.W.nsIn K mainGlobals "_jump_at" = some (some (.ref f__jump_at))) (l__jump_at : K.lookup f__jump_at = some ⟨oc__jump_at, od__jump_at, .func (PySem.W.fnOf "_jump_at" "_jump_at" (defArgs s__jump_at) (defBody s__jump_at) (defScope s__jump_at) .none kV__jump_at dc__jump_at pm__jump_at an__jump_at cd__jump_at ct__jump_at), sl__jump_at⟩) (c__jump_at : PySem.W.codeIn K cd__jump_at "_jump_at" = true) (k__jump_at : PySem.W.keepIn K (.ref f__jump_at) = true)
    (a_tidy : PySem.W.nsIn K mainGlobals "tidy" = some (some (.ref f_tidy))) (l_tidy : K.lookup f_tidy = some ⟨oc_tidy, od_tidy, .func (PySem.W.fnOf "tidy" "tidy" (defArgs s_tidy) (defBody s_tidy) (defScope s_tidy) .none kV_tidy dc_tidy pm_tidy an_tidy cd_tidy ct_tidy), sl_tidy⟩) (c_tidy : PySem.W.codeIn K cd_tidy "tidy" = true) (k_tidy : PySem.W.keepIn K (.ref f_tidy) = true)
    (a_width_of : PySem.W.nsIn K mainGlobals "width_of" = some (some (.ref f_width_of))) (l_width_of : K.lookup f_width_of = some ⟨oc_width_of, od_width_of, .func (PySem.W.fnOf "width_of" "width_of" (defArgs s_width_of) (defBody s_width_of) (defScope s_width_of) .none kV_width_of dc_width_of pm_width_of an_width_of cd_width_of ct_width_of), sl_width_of⟩) (c_width_of : PySem.W.codeIn K cd_width_of "width_of" = true) (k_width_of : PySem.W.keepIn K (.ref f_width_of) = true)
    (a_middle_of : PySem.W.nsIn K mainGlobals "middle_of" = some (some (.ref f_middle_of))) (l_middle_of : K.lookup f_middle_of = some ⟨oc_middle_of, od_middle_of, .func (PySem.W.fnOf "middle_of" "middle_of" (defArgs s_middle_of) (defBody s_middle_of) (defScope s_middle_of) .none kV_middle_of dc_middle_of pm_middle_of an_middle_of cd_middle_of ct_middle_of), sl_middle_of⟩) (c_middle_of : PySem.W.codeIn K cd_middle_of "middle_of" = true) (k_middle_of : PySem.W.keepIn K (.ref f_middle_of) = true)
    (a_far_end : PySem.W.nsIn K mainGlobals "far_end" = some (some (.ref f_far_end))) (l_far_end : K.lookup f_far_end = some ⟨oc_far_end, od_far_end, .func (PySem.W.fnOf "far_end" "far_end" (defArgs s_far_end) (defBody s_far_end) (defScope s_far_end) .none kV_far_end dc_far_end pm_far_end an_far_end cd_far_end ct_far_end), sl_far_end⟩) (c_far_end : PySem.W.codeIn K cd_far_end "far_end" = true) (k_far_end : PySem.W.keepIn K (.ref f_far_end) = true)
    (a__higher_low : PySem.W.nsIn K mainGlobals "_higher_low" = some (some (.ref f__higher_low))) (l__higher_low : K.lookup f__higher_low = some ⟨oc__higher_low, od__higher_low, .func (PySem.W.fnOf "_higher_low" "_higher_low" (defArgs s__higher_low) (defBody s__higher_low) (defScope s__higher_low) .none kV__higher_low dc__higher_low pm__higher_low an__higher_low cd__higher_low ct__higher_low), sl__higher_low⟩) (c__higher_low : PySem.W.codeIn K cd__higher_low "_higher_low" = true) (k__higher_low : PySem.W.keepIn K (.ref f__higher_low) = true)
    (a__lower_high : PySem.W.nsIn K mainGlobals "_lower_high" = some (some (.ref f__lower_high))) (l__lower_high : K.lookup f__lower_high = some ⟨oc__lower_high, od__lower_high, .func (PySem.W.fnOf "_lower_high" "_lower_high" (defArgs s__lower_high) (defBody s__lower_high) (defScope s__lower_high) .none kV__lower_high dc__lower_high pm__lower_high an__lower_high cd__lower_high ct__lower_high), sl__lower_high⟩) (c__lower_high : PySem.W.codeIn K cd__lower_high "_lower_high" = true) (k__lower_high : PySem.W.keepIn K (.ref f__lower_high) = true)
    (a_meet : PySem.W.nsIn K mainGlobals "meet" = some (some (.ref f_meet))) (l_meet : K.lookup f_meet = some ⟨oc_meet, od_meet, .func (PySem.W.fnOf "meet" "meet" (defArgs s_meet) (defBody s_meet) (defScope s_meet) .none kV_meet dc_meet pm_meet an_meet cd_meet ct_meet), sl_meet⟩) (c_meet : PySem.W.codeIn K cd_meet "meet" = true) (k_meet : PySem.W.keepIn K (.ref f_meet) = true)
    (a_require_not_below_zero : PySem.W.nsIn K mainGlobals "require_not_below_zero" = some (some (.ref f_require_not_below_zero))) (l_require_not_below_zero : K.lookup f_require_not_below_zero = some ⟨oc_require_not_below_zero, od_require_not_below_zero, .func (PySem.W.fnOf "require_not_below_zero" "require_not_below_zero" (defArgs s_require_not_below_zero) (defBody s_require_not_below_zero) (defScope s_require_not_below_zero) .none kV_require_not_below_zero dc_require_not_below_zero pm_require_not_below_zero an_require_not_below_zero cd_require_not_below_zero ct_require_not_below_zero), sl_require_not_below_zero⟩) (c_require_not_below_zero : PySem.W.codeIn K cd_require_not_below_zero "require_not_below_zero" = true) (k_require_not_below_zero : PySem.W.keepIn K (.ref f_require_not_below_zero) = true)
    (a__require_slew_and_drift : PySem.W.nsIn K mainGlobals "_require_slew_and_drift" = some (some (.ref f__require_slew_and_drift))) (l__require_slew_and_drift : K.lookup f__require_slew_and_drift = some ⟨oc__require_slew_and_drift, od__require_slew_and_drift, .func (PySem.W.fnOf "_require_slew_and_drift" "_require_slew_and_drift" (defArgs s__require_slew_and_drift) (defBody s__require_slew_and_drift) (defScope s__require_slew_and_drift) .none kV__require_slew_and_drift dc__require_slew_and_drift pm__require_slew_and_drift an__require_slew_and_drift cd__require_slew_and_drift ct__require_slew_and_drift), sl__require_slew_and_drift⟩) (c__require_slew_and_drift : PySem.W.codeIn K cd__require_slew_and_drift "_require_slew_and_drift" = true) (k__require_slew_and_drift : PySem.W.keepIn K (.ref f__require_slew_and_drift) = true)
    (a__require_lap : PySem.W.nsIn K mainGlobals "_require_lap" = some (some (.ref f__require_lap))) (l__require_lap : K.lookup f__require_lap = some ⟨oc__require_lap, od__require_lap, .func (PySem.W.fnOf "_require_lap" "_require_lap" (defArgs s__require_lap) (defBody s__require_lap) (defScope s__require_lap) .none kV__require_lap dc__require_lap pm__require_lap an__require_lap cd__require_lap ct__require_lap), sl__require_lap⟩) (c__require_lap : PySem.W.codeIn K cd__require_lap "_require_lap" = true) (k__require_lap : PySem.W.keepIn K (.ref f__require_lap) = true)
    (a__bound_behind : PySem.W.nsIn K mainGlobals "_bound_behind" = some (some (.ref f__bound_behind))) (l__bound_behind : K.lookup f__bound_behind = some ⟨oc__bound_behind, od__bound_behind, .func (PySem.W.fnOf "_bound_behind" "_bound_behind" (defArgs s__bound_behind) (defBody s__bound_behind) (defScope s__bound_behind) .none kV__bound_behind dc__bound_behind pm__bound_behind an__bound_behind cd__bound_behind ct__bound_behind), sl__bound_behind⟩) (c__bound_behind : PySem.W.codeIn K cd__bound_behind "_bound_behind" = true) (k__bound_behind : PySem.W.keepIn K (.ref f__bound_behind) = true)
    (a_bound_after : PySem.W.nsIn K mainGlobals "bound_after" = some (some (.ref f_bound_after))) (l_bound_after : K.lookup f_bound_after = some ⟨oc_bound_after, od_bound_after, .func (PySem.W.fnOf "bound_after" "bound_after" (defArgs s_bound_after) (defBody s_bound_after) (defScope s_bound_after) .none kV_bound_after dc_bound_after pm_bound_after an_bound_after cd_bound_after ct_bound_after), sl_bound_after⟩) (c_bound_after : PySem.W.codeIn K cd_bound_after "bound_after" = true) (k_bound_after : PySem.W.keepIn K (.ref f_bound_after) = true)
    (a_laps_until : PySem.W.nsIn K mainGlobals "laps_until" = some (some (.ref f_laps_until))) (l_laps_until : K.lookup f_laps_until = some ⟨oc_laps_until, od_laps_until, .func (PySem.W.fnOf "laps_until" "laps_until" (defArgs s_laps_until) (defBody s_laps_until) (defScope s_laps_until) .none kV_laps_until dc_laps_until pm_laps_until an_laps_until cd_laps_until ct_laps_until), sl_laps_until⟩) (c_laps_until : PySem.W.codeIn K cd_laps_until "laps_until" = true) (k_laps_until : PySem.W.keepIn K (.ref f_laps_until) = true)
    (a__planned : PySem.W.nsIn K mainGlobals "_planned" = some (some (.ref f__planned))) (l__planned : K.lookup f__planned = some ⟨oc__planned, od__planned, .func (PySem.W.fnOf "_planned" "_planned" (defArgs s__planned) (defBody s__planned) (defScope s__planned) .none kV__planned dc__planned pm__planned an__planned cd__planned ct__planned), sl__planned⟩) (c__planned : PySem.W.codeIn K cd__planned "_planned" = true) (k__planned : PySem.W.keepIn K (.ref f__planned) = true)
    (a__law_store : PySem.W.nsIn K mainGlobals "_law_store" = some (some (.ref f__law_store))) (l__law_store : K.lookup f__law_store = some ⟨oc__law_store, od__law_store, .func (PySem.W.fnOf "_law_store" "_law_store" (defArgs s__law_store) (defBody s__law_store) (defScope s__law_store) .none kV__law_store dc__law_store pm__law_store an__law_store cd__law_store ct__law_store), sl__law_store⟩) (c__law_store : PySem.W.codeIn K cd__law_store "_law_store" = true) (k__law_store : PySem.W.keepIn K (.ref f__law_store) = true)
    (a__law_feed : PySem.W.nsIn K mainGlobals "_law_feed" = some (some (.ref f__law_feed))) (l__law_feed : K.lookup f__law_feed = some ⟨oc__law_feed, od__law_feed, .func (PySem.W.fnOf "_law_feed" "_law_feed" (defArgs s__law_feed) (defBody s__law_feed) (defScope s__law_feed) .none kV__law_feed dc__law_feed pm__law_feed an__law_feed cd__law_feed ct__law_feed), sl__law_feed⟩) (c__law_feed : PySem.W.codeIn K cd__law_feed "_law_feed" = true) (k__law_feed : PySem.W.keepIn K (.ref f__law_feed) = true)
    (a__law_mixed : PySem.W.nsIn K mainGlobals "_law_mixed" = some (some (.ref f__law_mixed))) (l__law_mixed : K.lookup f__law_mixed = some ⟨oc__law_mixed, od__law_mixed, .func (PySem.W.fnOf "_law_mixed" "_law_mixed" (defArgs s__law_mixed) (defBody s__law_mixed) (defScope s__law_mixed) .none kV__law_mixed dc__law_mixed pm__law_mixed an__law_mixed cd__law_mixed ct__law_mixed), sl__law_mixed⟩) (c__law_mixed : PySem.W.codeIn K cd__law_mixed "_law_mixed" = true) (k__law_mixed : PySem.W.keepIn K (.ref f__law_mixed) = true)
    (a__law_take : PySem.W.nsIn K mainGlobals "_law_take" = some (some (.ref f__law_take))) (l__law_take : K.lookup f__law_take = some ⟨oc__law_take, od__law_take, .func (PySem.W.fnOf "_law_take" "_law_take" (defArgs s__law_take) (defBody s__law_take) (defScope s__law_take) .none kV__law_take dc__law_take pm__law_take an__law_take cd__law_take ct__law_take), sl__law_take⟩) (c__law_take : PySem.W.codeIn K cd__law_take "_law_take" = true) (k__law_take : PySem.W.keepIn K (.ref f__law_take) = true)
    (a__law_pick : PySem.W.nsIn K mainGlobals "_law_pick" = some (some (.ref f__law_pick))) (l__law_pick : K.lookup f__law_pick = some ⟨oc__law_pick, od__law_pick, .func (PySem.W.fnOf "_law_pick" "_law_pick" (defArgs s__law_pick) (defBody s__law_pick) (defScope s__law_pick) .none kV__law_pick dc__law_pick pm__law_pick an__law_pick cd__law_pick ct__law_pick), sl__law_pick⟩) (c__law_pick : PySem.W.codeIn K cd__law_pick "_law_pick" = true) (k__law_pick : PySem.W.keepIn K (.ref f__law_pick) = true)
    (a__law_is_int : PySem.W.nsIn K mainGlobals "_law_is_int" = some (some (.ref f__law_is_int))) (l__law_is_int : K.lookup f__law_is_int = some ⟨oc__law_is_int, od__law_is_int, .func (PySem.W.fnOf "_law_is_int" "_law_is_int" (defArgs s__law_is_int) (defBody s__law_is_int) (defScope s__law_is_int) .none kV__law_is_int dc__law_is_int pm__law_is_int an__law_is_int cd__law_is_int ct__law_is_int), sl__law_is_int⟩) (c__law_is_int : PySem.W.codeIn K cd__law_is_int "_law_is_int" = true) (k__law_is_int : PySem.W.keepIn K (.ref f__law_is_int) = true)
    (a__law_same : PySem.W.nsIn K mainGlobals "_law_same" = some (some (.ref f__law_same))) (l__law_same : K.lookup f__law_same = some ⟨oc__law_same, od__law_same, .func (PySem.W.fnOf "_law_same" "_law_same" (defArgs s__law_same) (defBody s__law_same) (defScope s__law_same) .none kV__law_same dc__law_same pm__law_same an__law_same cd__law_same ct__law_same), sl__law_same⟩) (c__law_same : PySem.W.codeIn K cd__law_same "_law_same" = true) (k__law_same : PySem.W.keepIn K (.ref f__law_same) = true)
    (a__law_frac : PySem.W.nsIn K mainGlobals "_law_frac" = some (some (.ref f__law_frac))) (l__law_frac : K.lookup f__law_frac = some ⟨oc__law_frac, od__law_frac, .func (PySem.W.fnOf "_law_frac" "_law_frac" (defArgs s__law_frac) (defBody s__law_frac) (defScope s__law_frac) .none kV__law_frac dc__law_frac pm__law_frac an__law_frac cd__law_frac ct__law_frac), sl__law_frac⟩) (c__law_frac : PySem.W.codeIn K cd__law_frac "_law_frac" = true) (k__law_frac : PySem.W.keepIn K (.ref f__law_frac) = true)
    (a__law_plus : PySem.W.nsIn K mainGlobals "_law_plus" = some (some (.ref f__law_plus))) (l__law_plus : K.lookup f__law_plus = some ⟨oc__law_plus, od__law_plus, .func (PySem.W.fnOf "_law_plus" "_law_plus" (defArgs s__law_plus) (defBody s__law_plus) (defScope s__law_plus) .none kV__law_plus dc__law_plus pm__law_plus an__law_plus cd__law_plus ct__law_plus), sl__law_plus⟩) (c__law_plus : PySem.W.codeIn K cd__law_plus "_law_plus" = true) (k__law_plus : PySem.W.keepIn K (.ref f__law_plus) = true)
    (a__law_minus : PySem.W.nsIn K mainGlobals "_law_minus" = some (some (.ref f__law_minus))) (l__law_minus : K.lookup f__law_minus = some ⟨oc__law_minus, od__law_minus, .func (PySem.W.fnOf "_law_minus" "_law_minus" (defArgs s__law_minus) (defBody s__law_minus) (defScope s__law_minus) .none kV__law_minus dc__law_minus pm__law_minus an__law_minus cd__law_minus ct__law_minus), sl__law_minus⟩) (c__law_minus : PySem.W.codeIn K cd__law_minus "_law_minus" = true) (k__law_minus : PySem.W.keepIn K (.ref f__law_minus) = true)
    (a__law_times : PySem.W.nsIn K mainGlobals "_law_times" = some (some (.ref f__law_times))) (l__law_times : K.lookup f__law_times = some ⟨oc__law_times, od__law_times, .func (PySem.W.fnOf "_law_times" "_law_times" (defArgs s__law_times) (defBody s__law_times) (defScope s__law_times) .none kV__law_times dc__law_times pm__law_times an__law_times cd__law_times ct__law_times), sl__law_times⟩) (c__law_times : PySem.W.codeIn K cd__law_times "_law_times" = true) (k__law_times : PySem.W.keepIn K (.ref f__law_times) = true)
    (a__law_over : PySem.W.nsIn K mainGlobals "_law_over" = some (some (.ref f__law_over))) (l__law_over : K.lookup f__law_over = some ⟨oc__law_over, od__law_over, .func (PySem.W.fnOf "_law_over" "_law_over" (defArgs s__law_over) (defBody s__law_over) (defScope s__law_over) .none kV__law_over dc__law_over pm__law_over an__law_over cd__law_over ct__law_over), sl__law_over⟩) (c__law_over : PySem.W.codeIn K cd__law_over "_law_over" = true) (k__law_over : PySem.W.keepIn K (.ref f__law_over) = true)
    (a__law_below : PySem.W.nsIn K mainGlobals "_law_below" = some (some (.ref f__law_below))) (l__law_below : K.lookup f__law_below = some ⟨oc__law_below, od__law_below, .func (PySem.W.fnOf "_law_below" "_law_below" (defArgs s__law_below) (defBody s__law_below) (defScope s__law_below) .none kV__law_below dc__law_below pm__law_below an__law_below cd__law_below ct__law_below), sl__law_below⟩) (c__law_below : PySem.W.codeIn K cd__law_below "_law_below" = true) (k__law_below : PySem.W.keepIn K (.ref f__law_below) = true)
    (a__law_is_frac : PySem.W.nsIn K mainGlobals "_law_is_frac" = some (some (.ref f__law_is_frac))) (l__law_is_frac : K.lookup f__law_is_frac = some ⟨oc__law_is_frac, od__law_is_frac, .func (PySem.W.fnOf "_law_is_frac" "_law_is_frac" (defArgs s__law_is_frac) (defBody s__law_is_frac) (defScope s__law_is_frac) .none kV__law_is_frac dc__law_is_frac pm__law_is_frac an__law_is_frac cd__law_is_frac ct__law_is_frac), sl__law_is_frac⟩) (c__law_is_frac : PySem.W.codeIn K cd__law_is_frac "_law_is_frac" = true) (k__law_is_frac : PySem.W.keepIn K (.ref f__law_is_frac) = true)
    (a__law_part : PySem.W.nsIn K mainGlobals "_law_part" = some (some (.ref f__law_part))) (l__law_part : K.lookup f__law_part = some ⟨oc__law_part, od__law_part, .func (PySem.W.fnOf "_law_part" "_law_part" (defArgs s__law_part) (defBody s__law_part) (defScope s__law_part) .none kV__law_part dc__law_part pm__law_part an__law_part cd__law_part ct__law_part), sl__law_part⟩) (c__law_part : PySem.W.codeIn K cd__law_part "_law_part" = true) (k__law_part : PySem.W.keepIn K (.ref f__law_part) = true)
    (a__law_spare : PySem.W.nsIn K mainGlobals "_law_spare" = some (some (.ref f__law_spare))) (l__law_spare : K.lookup f__law_spare = some ⟨oc__law_spare, od__law_spare, .func (PySem.W.fnOf "_law_spare" "_law_spare" (defArgs s__law_spare) (defBody s__law_spare) (defScope s__law_spare) .none kV__law_spare dc__law_spare pm__law_spare an__law_spare cd__law_spare ct__law_spare), sl__law_spare⟩) (c__law_spare : PySem.W.codeIn K cd__law_spare "_law_spare" = true) (k__law_spare : PySem.W.keepIn K (.ref f__law_spare) = true)
    (a__law_above : PySem.W.nsIn K mainGlobals "_law_above" = some (some (.ref f__law_above))) (l__law_above : K.lookup f__law_above = some ⟨oc__law_above, od__law_above, .func (PySem.W.fnOf "_law_above" "_law_above" (defArgs s__law_above) (defBody s__law_above) (defScope s__law_above) .none kV__law_above dc__law_above pm__law_above an__law_above cd__law_above ct__law_above), sl__law_above⟩) (c__law_above : PySem.W.codeIn K cd__law_above "_law_above" = true) (k__law_above : PySem.W.keepIn K (.ref f__law_above) = true)
    (a__law_slews : PySem.W.nsIn K mainGlobals "_law_slews" = some (some (.ref f__law_slews))) (l__law_slews : K.lookup f__law_slews = some ⟨oc__law_slews, od__law_slews, .func (PySem.W.fnOf "_law_slews" "_law_slews" (defArgs s__law_slews) (defBody s__law_slews) (defScope s__law_slews) .none kV__law_slews dc__law_slews pm__law_slews an__law_slews cd__law_slews ct__law_slews), sl__law_slews⟩) (c__law_slews : PySem.W.codeIn K cd__law_slews "_law_slews" = true) (k__law_slews : PySem.W.keepIn K (.ref f__law_slews) = true)
    (a__law_over_step : PySem.W.nsIn K mainGlobals "_law_over_step" = some (some (.ref f__law_over_step))) (l__law_over_step : K.lookup f__law_over_step = some ⟨oc__law_over_step, od__law_over_step, .func (PySem.W.fnOf "_law_over_step" "_law_over_step" (defArgs s__law_over_step) (defBody s__law_over_step) (defScope s__law_over_step) .none kV__law_over_step dc__law_over_step pm__law_over_step an__law_over_step cd__law_over_step ct__law_over_step), sl__law_over_step⟩) (c__law_over_step : PySem.W.codeIn K cd__law_over_step "_law_over_step" = true) (k__law_over_step : PySem.W.keepIn K (.ref f__law_over_step) = true)
    (a__law_steering : PySem.W.nsIn K mainGlobals "_law_steering" = some (some (.ref f__law_steering))) (l__law_steering : K.lookup f__law_steering = some ⟨oc__law_steering, od__law_steering, .func (PySem.W.fnOf "_law_steering" "_law_steering" (defArgs s__law_steering) (defBody s__law_steering) (defScope s__law_steering) .none kV__law_steering dc__law_steering pm__law_steering an__law_steering cd__law_steering ct__law_steering), sl__law_steering⟩) (c__law_steering : PySem.W.codeIn K cd__law_steering "_law_steering" = true) (k__law_steering : PySem.W.keepIn K (.ref f__law_steering) = true)
    (a__law_due_laps : PySem.W.nsIn K mainGlobals "_law_due_laps" = some (some (.ref f__law_due_laps))) (l__law_due_laps : K.lookup f__law_due_laps = some ⟨oc__law_due_laps, od__law_due_laps, .func (PySem.W.fnOf "_law_due_laps" "_law_due_laps" (defArgs s__law_due_laps) (defBody s__law_due_laps) (defScope s__law_due_laps) .none kV__law_due_laps dc__law_due_laps pm__law_due_laps an__law_due_laps cd__law_due_laps ct__law_due_laps), sl__law_due_laps⟩) (c__law_due_laps : PySem.W.codeIn K cd__law_due_laps "_law_due_laps" = true) (k__law_due_laps : PySem.W.keepIn K (.ref f__law_due_laps) = true)
    (a__law_goal : PySem.W.nsIn K mainGlobals "_law_goal" = some (some (.ref f__law_goal))) (l__law_goal : K.lookup f__law_goal = some ⟨oc__law_goal, od__law_goal, .func (PySem.W.fnOf "_law_goal" "_law_goal" (defArgs s__law_goal) (defBody s__law_goal) (defScope s__law_goal) .none kV__law_goal dc__law_goal pm__law_goal an__law_goal cd__law_goal ct__law_goal), sl__law_goal⟩) (c__law_goal : PySem.W.codeIn K cd__law_goal "_law_goal" = true) (k__law_goal : PySem.W.keepIn K (.ref f__law_goal) = true)
    (a__law_within : PySem.W.nsIn K mainGlobals "_law_within" = some (some (.ref f__law_within))) (l__law_within : K.lookup f__law_within = some ⟨oc__law_within, od__law_within, .func (PySem.W.fnOf "_law_within" "_law_within" (defArgs s__law_within) (defBody s__law_within) (defScope s__law_within) .none kV__law_within dc__law_within pm__law_within an__law_within cd__law_within ct__law_within), sl__law_within⟩) (c__law_within : PySem.W.codeIn K cd__law_within "_law_within" = true) (k__law_within : PySem.W.keepIn K (.ref f__law_within) = true)
    (a__law_round : PySem.W.nsIn K mainGlobals "_law_round" = some (some (.ref f__law_round))) (l__law_round : K.lookup f__law_round = some ⟨oc__law_round, od__law_round, .func (PySem.W.fnOf "_law_round" "_law_round" (defArgs s__law_round) (defBody s__law_round) (defScope s__law_round) .none kV__law_round dc__law_round pm__law_round an__law_round cd__law_round ct__law_round), sl__law_round⟩) (c__law_round : PySem.W.codeIn K cd__law_round "_law_round" = true) (k__law_round : PySem.W.keepIn K (.ref f__law_round) = true)
    (a__law_floor : PySem.W.nsIn K mainGlobals "_law_floor" = some (some (.ref f__law_floor))) (l__law_floor : K.lookup f__law_floor = some ⟨oc__law_floor, od__law_floor, .func (PySem.W.fnOf "_law_floor" "_law_floor" (defArgs s__law_floor) (defBody s__law_floor) (defScope s__law_floor) .none kV__law_floor dc__law_floor pm__law_floor an__law_floor cd__law_floor ct__law_floor), sl__law_floor⟩) (c__law_floor : PySem.W.codeIn K cd__law_floor "_law_floor" = true) (k__law_floor : PySem.W.keepIn K (.ref f__law_floor) = true)
    (a__law_bounds : PySem.W.nsIn K mainGlobals "_law_bounds" = some (some (.ref f__law_bounds))) (l__law_bounds : K.lookup f__law_bounds = some ⟨oc__law_bounds, od__law_bounds, .func (PySem.W.fnOf "_law_bounds" "_law_bounds" (defArgs s__law_bounds) (defBody s__law_bounds) (defScope s__law_bounds) .none kV__law_bounds dc__law_bounds pm__law_bounds an__law_bounds cd__law_bounds ct__law_bounds), sl__law_bounds⟩) (c__law_bounds : PySem.W.codeIn K cd__law_bounds "_law_bounds" = true) (k__law_bounds : PySem.W.keepIn K (.ref f__law_bounds) = true)
    (a__law_laps : PySem.W.nsIn K mainGlobals "_law_laps" = some (some (.ref f__law_laps))) (l__law_laps : K.lookup f__law_laps = some ⟨oc__law_laps, od__law_laps, .func (PySem.W.fnOf "_law_laps" "_law_laps" (defArgs s__law_laps) (defBody s__law_laps) (defScope s__law_laps) .none kV__law_laps dc__law_laps pm__law_laps an__law_laps cd__law_laps ct__law_laps), sl__law_laps⟩) (c__law_laps : PySem.W.codeIn K cd__law_laps "_law_laps" = true) (k__law_laps : PySem.W.keepIn K (.ref f__law_laps) = true)
    (a_law : PySem.W.nsIn K mainGlobals "law" = some (some (.ref f_law))) (l_law : K.lookup f_law = some ⟨oc_law, od_law, .func (PySem.W.fnOf "law" "law" (defArgs s_law) (defBody s_law) (defScope s_law) .none kV_law dc_law pm_law an_law cd_law ct_law), sl_law⟩) (c_law : PySem.W.codeIn K cd_law "law" = true) (k_law : PySem.W.keepIn K (.ref f_law) = true)
    (zgcd : PySem.W.nsIn K mainGlobals "gcd" = some (some (.builtin "math.gcd")))
    (zlen : PySem.W.nsIn K mainGlobals "len" = some none)
    (zabs : PySem.W.nsIn K mainGlobals "abs" = some none)
    (zmax : PySem.W.nsIn K mainGlobals "max" = some none)
    (zint : PySem.W.nsIn K mainGlobals "int" = some none)
    (zisinstance : PySem.W.nsIn K mainGlobals "isinstance" = some none)
    (zrange : PySem.W.nsIn K mainGlobals "range" = some none)
    (zenumerate : PySem.W.nsIn K mainGlobals "enumerate" = some none)
    (zlist : PySem.W.nsIn K mainGlobals "list" = some none)
    (ztuple : PySem.W.nsIn K mainGlobals "tuple" = some none)
    (zstr : PySem.W.nsIn K mainGlobals "str" = some none)
    (zbool : PySem.W.nsIn K mainGlobals "bool" = some none)
    (zdict : PySem.W.nsIn K mainGlobals "dict" = some none)
    {C_Steering : Addr} (aCSteering : PySem.W.nsIn K mainGlobals "Steering" = some (some (.ref C_Steering)))
    (pgSteering : PySem.W.plainGet K C_Steering Str.empty = true) (hdSteering : PySem.W.hasDictIn K C_Steering = true) (poSteering : PySem.W.plainOver K C_Steering = true) (saSteering : PySem.W.findIn K (.ref C_Steering) "__setattr__" = some (some (.builtin "object.__setattr__"))) (mkSteering : PySem.W.makesIn K C_Steering = true) (kcSteering : PySem.W.keepIn K (.ref C_Steering) = true)
    (nSteering0 : PySem.W.findIn K (.ref C_Steering) "_slew" = some none) (nSteering1 : PySem.W.findIn K (.ref C_Steering) "_drift" = some none) (nSteering2 : PySem.W.findIn K (.ref C_Steering) "_step_over" = some none) (nSteering3 : PySem.W.findIn K (.ref C_Steering) "_course" = some none) (nSteering4 : PySem.W.findIn K (.ref C_Steering) "_aim" = some none) (nSteering5 : PySem.W.findIn K (.ref C_Steering) "_last" = some none) (nSteering6 : PySem.W.findIn K (.ref C_Steering) "_bound" = some none) (nSteering7 : PySem.W.findIn K (.ref C_Steering) "_half" = some none)
    {f_Steering_init : Addr} {od_Steering_init an_Steering_init : Option Addr} {sl_Steering_init : Array (Option Value)} {oc_Steering_init dc_Steering_init pm_Steering_init cd_Steering_init ct_Steering_init : Value} {kD_Steering : Addr}
    (a_Steering_init : PySem.W.findIn K (.ref C_Steering) "__init__" = some (some (.ref f_Steering_init))) (i_Steering_init : PySem.W.isFn K (.ref f_Steering_init) = true)
    (l_Steering_init : K.lookup f_Steering_init = some ⟨oc_Steering_init, od_Steering_init, .func (PySem.W.fnOf "__init__" "Steering.__init__" (defArgs s_Steering_init) (defBody s_Steering_init) (defScope s_Steering_init) .none (.ref kD_Steering) dc_Steering_init pm_Steering_init an_Steering_init cd_Steering_init ct_Steering_init), sl_Steering_init⟩) (c_Steering_init : PySem.W.codeIn K cd_Steering_init "Steering.__init__" = true) (k_Steering_init : PySem.W.keepIn K (.ref f_Steering_init) = true)
    {aDR : Addr}    (kw0Steering : PySem.W.nsIn K kD_Steering "drift" = some (some (.ref aDR)))
    {ddaDR : Option Addr} {taDR0 taDR1 : Tok} {znaDR : Nat} {zslaDR : Array (Option Value)} (l0aDR : K.lookup aDR = some ⟨.type "tuple", ddaDR, .seq #[.int 0 taDR0, .int 1 taDR1] znaDR, zslaDR⟩)
    (kw1Steering : PySem.W.nsIn K kD_Steering "step_over" = some (some (.none)))
    {f_Steering_steer : Addr} {od_Steering_steer an_Steering_steer : Option Addr} {sl_Steering_steer : Array (Option Value)} {oc_Steering_steer kV_Steering_steer dc_Steering_steer pm_Steering_steer cd_Steering_steer ct_Steering_steer : Value}
    (a_Steering_steer : PySem.W.findIn K (.ref C_Steering) "steer" = some (some (.ref f_Steering_steer))) (i_Steering_steer : PySem.W.isFn K (.ref f_Steering_steer) = true)
    (l_Steering_steer : K.lookup f_Steering_steer = some ⟨oc_Steering_steer, od_Steering_steer, .func (PySem.W.fnOf "steer" "Steering.steer" (defArgs s_Steering_steer) (defBody s_Steering_steer) (defScope s_Steering_steer) .none kV_Steering_steer dc_Steering_steer pm_Steering_steer an_Steering_steer cd_Steering_steer ct_Steering_steer), sl_Steering_steer⟩) (c_Steering_steer : PySem.W.codeIn K cd_Steering_steer "Steering.steer" = true) (k_Steering_steer : PySem.W.keepIn K (.ref f_Steering_steer) = true)
    {f_Steering_display : Addr} {od_Steering_display an_Steering_display : Option Addr} {sl_Steering_display : Array (Option Value)} {oc_Steering_display kV_Steering_display dc_Steering_display pm_Steering_display cd_Steering_display ct_Steering_display : Value}
    (a_Steering_display : PySem.W.findIn K (.ref C_Steering) "display" = some (some (.ref f_Steering_display))) (i_Steering_display : PySem.W.isFn K (.ref f_Steering_display) = true)
    (l_Steering_display : K.lookup f_Steering_display = some ⟨oc_Steering_display, od_Steering_display, .func (PySem.W.fnOf "display" "Steering.display" (defArgs s_Steering_display) (defBody s_Steering_display) (defScope s_Steering_display) .none kV_Steering_display dc_Steering_display pm_Steering_display an_Steering_display cd_Steering_display ct_Steering_display), sl_Steering_display⟩) (c_Steering_display : PySem.W.codeIn K cd_Steering_display "Steering.display" = true) (k_Steering_display : PySem.W.keepIn K (.ref f_Steering_display) = true)
    {f_Steering_error_at : Addr} {od_Steering_error_at an_Steering_error_at : Option Addr} {sl_Steering_error_at : Array (Option Value)} {oc_Steering_error_at kV_Steering_error_at dc_Steering_error_at pm_Steering_error_at cd_Steering_error_at ct_Steering_error_at : Value}
    (a_Steering_error_at : PySem.W.findIn K (.ref C_Steering) "error_at" = some (some (.ref f_Steering_error_at))) (i_Steering_error_at : PySem.W.isFn K (.ref f_Steering_error_at) = true)
    (l_Steering_error_at : K.lookup f_Steering_error_at = some ⟨oc_Steering_error_at, od_Steering_error_at, .func (PySem.W.fnOf "error_at" "Steering.error_at" (defArgs s_Steering_error_at) (defBody s_Steering_error_at) (defScope s_Steering_error_at) .none kV_Steering_error_at dc_Steering_error_at pm_Steering_error_at an_Steering_error_at cd_Steering_error_at ct_Steering_error_at), sl_Steering_error_at⟩) (c_Steering_error_at : PySem.W.codeIn K cd_Steering_error_at "Steering.error_at" = true) (k_Steering_error_at : PySem.W.keepIn K (.ref f_Steering_error_at) = true)
    {f_Steering__plan : Addr} {od_Steering__plan an_Steering__plan : Option Addr} {sl_Steering__plan : Array (Option Value)} {oc_Steering__plan kV_Steering__plan dc_Steering__plan pm_Steering__plan cd_Steering__plan ct_Steering__plan : Value}
    (a_Steering__plan : PySem.W.findIn K (.ref C_Steering) "_plan" = some (some (.ref f_Steering__plan))) (i_Steering__plan : PySem.W.isFn K (.ref f_Steering__plan) = true)
    (l_Steering__plan : K.lookup f_Steering__plan = some ⟨oc_Steering__plan, od_Steering__plan, .func (PySem.W.fnOf "_plan" "Steering._plan" (defArgs s_Steering__plan) (defBody s_Steering__plan) (defScope s_Steering__plan) .none kV_Steering__plan dc_Steering__plan pm_Steering__plan an_Steering__plan cd_Steering__plan ct_Steering__plan), sl_Steering__plan⟩) (c_Steering__plan : PySem.W.codeIn K cd_Steering__plan "Steering._plan" = true) (k_Steering__plan : PySem.W.keepIn K (.ref f_Steering__plan) = true)
    {f_Steering__jumps_to : Addr} {od_Steering__jumps_to an_Steering__jumps_to : Option Addr} {sl_Steering__jumps_to : Array (Option Value)} {oc_Steering__jumps_to kV_Steering__jumps_to dc_Steering__jumps_to pm_Steering__jumps_to cd_Steering__jumps_to ct_Steering__jumps_to : Value}
    (a_Steering__jumps_to : PySem.W.findIn K (.ref C_Steering) "_jumps_to" = some (some (.ref f_Steering__jumps_to))) (i_Steering__jumps_to : PySem.W.isFn K (.ref f_Steering__jumps_to) = true)
    (l_Steering__jumps_to : K.lookup f_Steering__jumps_to = some ⟨oc_Steering__jumps_to, od_Steering__jumps_to, .func (PySem.W.fnOf "_jumps_to" "Steering._jumps_to" (defArgs s_Steering__jumps_to) (defBody s_Steering__jumps_to) (defScope s_Steering__jumps_to) .none kV_Steering__jumps_to dc_Steering__jumps_to pm_Steering__jumps_to an_Steering__jumps_to cd_Steering__jumps_to ct_Steering__jumps_to), sl_Steering__jumps_to⟩) (c_Steering__jumps_to : PySem.W.codeIn K cd_Steering__jumps_to "Steering._jumps_to" = true) (k_Steering__jumps_to : PySem.W.keepIn K (.ref f_Steering__jumps_to) = true)
    : ∃ fd : FuncData, (∀ (s : Shared) (v : Value), BindsTo s fd ⟨[v], []⟩ [("_law_script", v)]) ∧ ∀ base : Heap, K.In base → base.Ns mainGlobals mg → FnOk l.prog w K mg base CX0 9 fa fd ["_law_script"] (spLaw K) := by
  have e := hfa.symm.trans (PySem.W.mg_of X G a_law)
  cases e
  have T : Bn mg := ⟨PySem.W.mg_of X G zgcd, PySem.W.mg_none_of X G zlen, PySem.W.mg_none_of X G zabs, PySem.W.mg_none_of X G zmax, PySem.W.mg_none_of X G zint, PySem.W.mg_none_of X G zisinstance, PySem.W.mg_none_of X G zrange, PySem.W.mg_none_of X G zenumerate, PySem.W.mg_none_of X G zlist, PySem.W.mg_none_of X G ztuple, PySem.W.mg_none_of X G zstr, PySem.W.mg_none_of X G zbool, PySem.W.mg_none_of X G zdict⟩
  have hR_rational : FunD K "rational" "rational" (defArgs s_rational) (defBody s_rational) (defScope s_rational) [.int 1] [] f_rational _ := ⟨⟨_, _, _, _, _, _, _, _, _, _, rfl, l_rational, c_rational, .inr ⟨nofun, dV_rational, _, [.int 1 dtk_rational], dn_rational, rfl, ldf_rational, rfl, .cons ⟨dtk_rational, rfl⟩ .nil⟩, .inl rfl⟩, k_rational⟩
  obtain ⟨ds_rational, rds_rational, bR_rational⟩ := hR_rational.binds1 (ps := ["n", "d"]) 2 1 nofun rfl fun T kV doc pm an cdv ct us its hu hi => match us, its, hu, hi with | [_, _], [_], _, _ => ⟨_, rfl, rfl⟩
  cases rds_rational
  have F_add := fun_mk (st := s_add) l_add c_add k_add
  have B_add := F_add.binds (ps := ["a", "b"]) fun _ _ _ _ _ _ us hl => match us, hl with | [_, _], _ => rfl
  have F_subtract := fun_mk (st := s_subtract) l_subtract c_subtract k_subtract
  have B_subtract := F_subtract.binds (ps := ["a", "b"]) fun _ _ _ _ _ _ us hl => match us, hl with | [_, _], _ => rfl
  have F_multiply := fun_mk (st := s_multiply) l_multiply c_multiply k_multiply
  have B_multiply := F_multiply.binds (ps := ["a", "b"]) fun _ _ _ _ _ _ us hl => match us, hl with | [_, _], _ => rfl
  have F_negate := fun_mk (st := s_negate) l_negate c_negate k_negate
  have B_negate := F_negate.binds (ps := ["a"]) fun _ _ _ _ _ _ us hl => match us, hl with | [_], _ => rfl
  have F_divide := fun_mk (st := s_divide) l_divide c_divide k_divide
  have B_divide := F_divide.binds (ps := ["a", "b"]) fun _ _ _ _ _ _ us hl => match us, hl with | [_, _], _ => rfl
  have F_distance := fun_mk (st := s_distance) l_distance c_distance k_distance
  have B_distance := F_distance.binds (ps := ["a", "b"]) fun _ _ _ _ _ _ us hl => match us, hl with | [_, _], _ => rfl
  have F_compare := fun_mk (st := s_compare) l_compare c_compare k_compare
  have B_compare := F_compare.binds (ps := ["a", "b"]) fun _ _ _ _ _ _ us hl => match us, hl with | [_, _], _ => rfl
  have F_smaller := fun_mk (st := s_smaller) l_smaller c_smaller k_smaller
  have B_smaller := F_smaller.binds (ps := ["a", "b"]) fun _ _ _ _ _ _ us hl => match us, hl with | [_, _], _ => rfl
  have F_larger := fun_mk (st := s_larger) l_larger c_larger k_larger
  have B_larger := F_larger.binds (ps := ["a", "b"]) fun _ _ _ _ _ _ us hl => match us, hl with | [_, _], _ => rfl
  have F_floor_of := fun_mk (st := s_floor_of) l_floor_of c_floor_of k_floor_of
  have B_floor_of := F_floor_of.binds (ps := ["a"]) fun _ _ _ _ _ _ us hl => match us, hl with | [_], _ => rfl
  have F__shown_by := fun_mk (st := s__shown_by) l__shown_by c__shown_by k__shown_by
  have B__shown_by := F__shown_by.binds (ps := ["piece", "t"]) fun _ _ _ _ _ _ us hl => match us, hl with | [_, _], _ => rfl
  have F__place_at := fun_mk (st := s__place_at) l__place_at c__place_at k__place_at
  have B__place_at := F__place_at.binds (ps := ["course", "t"]) fun _ _ _ _ _ _ us hl => match us, hl with | [_, _], _ => rfl
  have F__piece_at := fun_mk (st := s__piece_at) l__piece_at c__piece_at k__piece_at
  have B__piece_at := F__piece_at.binds (ps := ["course", "t"]) fun _ _ _ _ _ _ us hl => match us, hl with | [_, _], _ => rfl
  have F_shown_at := fun_mk (st := s_shown_at) l_shown_at c_shown_at k_shown_at
  have B_shown_at := F_shown_at.binds (ps := ["course", "t"]) fun _ _ _ _ _ _ us hl => match us, hl with | [_, _], _ => rfl
  have F__jump_at := fun_mk (st := s__jump_at) l__jump_at c__jump_at k__jump_at
  have B__jump_at := F__jump_at.binds (ps := ["course", "at"]) fun _ _ _ _ _ _ us hl => match us, hl with | [_, _], _ => rfl
  have F_tidy := fun_mk (st := s_tidy) l_tidy c_tidy k_tidy
  have B_tidy := F_tidy.binds (ps := ["course"]) fun _ _ _ _ _ _ us hl => match us, hl with | [_], _ => rfl
  have F_width_of := fun_mk (st := s_width_of) l_width_of c_width_of k_width_of
  have B_width_of := F_width_of.binds (ps := ["span"]) fun _ _ _ _ _ _ us hl => match us, hl with | [_], _ => rfl
  have F_middle_of := fun_mk (st := s_middle_of) l_middle_of c_middle_of k_middle_of
  have B_middle_of := F_middle_of.binds (ps := ["span"]) fun _ _ _ _ _ _ us hl => match us, hl with | [_], _ => rfl
  have F_far_end := fun_mk (st := s_far_end) l_far_end c_far_end k_far_end
  have B_far_end := F_far_end.binds (ps := ["span", "t"]) fun _ _ _ _ _ _ us hl => match us, hl with | [_, _], _ => rfl
  have F__higher_low := fun_mk (st := s__higher_low) l__higher_low c__higher_low k__higher_low
  have B__higher_low := F__higher_low.binds (ps := ["a", "b"]) fun _ _ _ _ _ _ us hl => match us, hl with | [_, _], _ => rfl
  have F__lower_high := fun_mk (st := s__lower_high) l__lower_high c__lower_high k__lower_high
  have B__lower_high := F__lower_high.binds (ps := ["a", "b"]) fun _ _ _ _ _ _ us hl => match us, hl with | [_, _], _ => rfl
  have F_meet := fun_mk (st := s_meet) l_meet c_meet k_meet
  have B_meet := F_meet.binds (ps := ["a", "b"]) fun _ _ _ _ _ _ us hl => match us, hl with | [_, _], _ => rfl
  have F_require_not_below_zero := fun_mk (st := s_require_not_below_zero) l_require_not_below_zero c_require_not_below_zero k_require_not_below_zero
  have B_require_not_below_zero := F_require_not_below_zero.binds (ps := ["bound"]) fun _ _ _ _ _ _ us hl => match us, hl with | [_], _ => rfl
  have F__require_slew_and_drift := fun_mk (st := s__require_slew_and_drift) l__require_slew_and_drift c__require_slew_and_drift k__require_slew_and_drift
  have B__require_slew_and_drift := F__require_slew_and_drift.binds (ps := ["slew", "drift"]) fun _ _ _ _ _ _ us hl => match us, hl with | [_, _], _ => rfl
  have F__require_lap := fun_mk (st := s__require_lap) l__require_lap c__require_lap k__require_lap
  have B__require_lap := F__require_lap.binds (ps := ["bound", "half", "lap", "slew", "drift"]) fun _ _ _ _ _ _ us hl => match us, hl with | [_, _, _, _, _], _ => rfl
  have F__bound_behind := fun_mk (st := s__bound_behind) l__bound_behind c__bound_behind k__bound_behind
  have B__bound_behind := F__bound_behind.binds (ps := ["bound", "half", "raw_units", "slew", "drift"]) fun _ _ _ _ _ _ us hl => match us, hl with | [_, _, _, _, _], _ => rfl
  have F__planned := fun_mk (st := s__planned) l__planned c__planned k__planned
  have B__planned := F__planned.binds (ps := ["raw", "shown", "aim", "slew"]) fun _ _ _ _ _ _ us hl => match us, hl with | [_, _, _, _], _ => rfl
  have F__law_store := fun_mk (st := s__law_store) l__law_store c__law_store k__law_store
  have B__law_store := F__law_store.binds (ps := ["_law_script"]) fun _ _ _ _ _ _ us hl => match us, hl with | [_], _ => rfl
  have F__law_feed := fun_mk (st := s__law_feed) l__law_feed c__law_feed k__law_feed
  have B__law_feed := F__law_feed.binds (ps := ["_law_store_here"]) fun _ _ _ _ _ _ us hl => match us, hl with | [_], _ => rfl
  have F__law_mixed := fun_mk (st := s__law_mixed) l__law_mixed c__law_mixed k__law_mixed
  have B__law_mixed := F__law_mixed.binds (ps := ["_law_store_here"]) fun _ _ _ _ _ _ us hl => match us, hl with | [_], _ => rfl
  have F__law_take := fun_mk (st := s__law_take) l__law_take c__law_take k__law_take
  have B__law_take := F__law_take.binds (ps := ["_law_store_here", "_law_many"]) fun _ _ _ _ _ _ us hl => match us, hl with | [_, _], _ => rfl
  have F__law_pick := fun_mk (st := s__law_pick) l__law_pick c__law_pick k__law_pick
  have B__law_pick := F__law_pick.binds (ps := ["_law_store_here", "_law_things"]) fun _ _ _ _ _ _ us hl => match us, hl with | [_, _], _ => rfl
  have F__law_is_int := fun_mk (st := s__law_is_int) l__law_is_int c__law_is_int k__law_is_int
  have B__law_is_int := F__law_is_int.binds (ps := ["_law_value"]) fun _ _ _ _ _ _ us hl => match us, hl with | [_], _ => rfl
  have F__law_same := fun_mk (st := s__law_same) l__law_same c__law_same k__law_same
  have B__law_same := F__law_same.binds (ps := ["_law_value", "_law_due"]) fun _ _ _ _ _ _ us hl => match us, hl with | [_, _], _ => rfl
  have F__law_frac := fun_mk (st := s__law_frac) l__law_frac c__law_frac k__law_frac
  have B__law_frac := F__law_frac.binds (ps := ["_law_n", "_law_d"]) fun _ _ _ _ _ _ us hl => match us, hl with | [_, _], _ => rfl
  have F__law_plus := fun_mk (st := s__law_plus) l__law_plus c__law_plus k__law_plus
  have B__law_plus := F__law_plus.binds (ps := ["_law_a", "_law_b"]) fun _ _ _ _ _ _ us hl => match us, hl with | [_, _], _ => rfl
  have F__law_minus := fun_mk (st := s__law_minus) l__law_minus c__law_minus k__law_minus
  have B__law_minus := F__law_minus.binds (ps := ["_law_a", "_law_b"]) fun _ _ _ _ _ _ us hl => match us, hl with | [_, _], _ => rfl
  have F__law_times := fun_mk (st := s__law_times) l__law_times c__law_times k__law_times
  have B__law_times := F__law_times.binds (ps := ["_law_a", "_law_b"]) fun _ _ _ _ _ _ us hl => match us, hl with | [_, _], _ => rfl
  have F__law_over := fun_mk (st := s__law_over) l__law_over c__law_over k__law_over
  have B__law_over := F__law_over.binds (ps := ["_law_a", "_law_b"]) fun _ _ _ _ _ _ us hl => match us, hl with | [_, _], _ => rfl
  have F__law_below := fun_mk (st := s__law_below) l__law_below c__law_below k__law_below
  have B__law_below := F__law_below.binds (ps := ["_law_a", "_law_b"]) fun _ _ _ _ _ _ us hl => match us, hl with | [_, _], _ => rfl
  have F__law_is_frac := fun_mk (st := s__law_is_frac) l__law_is_frac c__law_is_frac k__law_is_frac
  have B__law_is_frac := F__law_is_frac.binds (ps := ["_law_value"]) fun _ _ _ _ _ _ us hl => match us, hl with | [_], _ => rfl
  have F__law_part := fun_mk (st := s__law_part) l__law_part c__law_part k__law_part
  have B__law_part := F__law_part.binds (ps := ["_law_store_here"]) fun _ _ _ _ _ _ us hl => match us, hl with | [_], _ => rfl
  have F__law_spare := fun_mk (st := s__law_spare) l__law_spare c__law_spare k__law_spare
  have B__law_spare := F__law_spare.binds (ps := ["_law_store_here"]) fun _ _ _ _ _ _ us hl => match us, hl with | [_], _ => rfl
  have F__law_above := fun_mk (st := s__law_above) l__law_above c__law_above k__law_above
  have B__law_above := F__law_above.binds (ps := ["_law_store_here"]) fun _ _ _ _ _ _ us hl => match us, hl with | [_], _ => rfl
  have F__law_slews := fun_mk (st := s__law_slews) l__law_slews c__law_slews k__law_slews
  have B__law_slews := F__law_slews.binds (ps := ["_law_store_here"]) fun _ _ _ _ _ _ us hl => match us, hl with | [_], _ => rfl
  have F__law_over_step := fun_mk (st := s__law_over_step) l__law_over_step c__law_over_step k__law_over_step
  have B__law_over_step := F__law_over_step.binds (ps := ["_law_store_here"]) fun _ _ _ _ _ _ us hl => match us, hl with | [_], _ => rfl
  have F__law_steering := fun_mk (st := s__law_steering) l__law_steering c__law_steering k__law_steering
  have B__law_steering := F__law_steering.binds (ps := ["_law_first", "_law_value", "_law_spread", "_law_pair", "_law_over_here"]) fun _ _ _ _ _ _ us hl => match us, hl with | [_, _, _, _, _], _ => rfl
  have F__law_due_laps := fun_mk (st := s__law_due_laps) l__law_due_laps c__law_due_laps k__law_due_laps
  have B__law_due_laps := F__law_due_laps.binds (ps := ["_law_spread", "_law_goal_here", "_law_base", "_law_gain"]) fun _ _ _ _ _ _ us hl => match us, hl with | [_, _, _, _], _ => rfl
  have F__law_goal := fun_mk (st := s__law_goal) l__law_goal c__law_goal k__law_goal
  have B__law_goal := F__law_goal.binds (ps := ["_law_store_here", "_law_spread", "_law_base", "_law_gain", "_law_bounds_here"]) fun _ _ _ _ _ _ us hl => match us, hl with | [_, _, _, _, _], _ => rfl
  have F__law_within := fun_mk (st := s__law_within) l__law_within c__law_within k__law_within
  have B__law_within := F__law_within.binds (ps := ["_law_steering_here", "_law_raw", "_law_truth", "_law_bound"]) fun _ _ _ _ _ _ us hl => match us, hl with | [_, _, _, _], _ => rfl
  have F__law_round := fun_mk (st := s__law_round) l__law_round c__law_round k__law_round
  have B__law_round := F__law_round.binds (ps := ["_law_store_here", "_law_truth", "_law_half"]) fun _ _ _ _ _ _ us hl => match us, hl with | [_, _, _], _ => rfl
  have F__law_floor := fun_mk (st := s__law_floor) l__law_floor c__law_floor k__law_floor
  have B__law_floor := F__law_floor.binds (ps := ["_law_pair", "_law_half", "_law_turn"]) fun _ _ _ _ _ _ us hl => match us, hl with | [_, _, _], _ => rfl
  have F__law_bounds := fun_mk (st := s__law_bounds) l__law_bounds c__law_bounds k__law_bounds
  have B__law_bounds := F__law_bounds.binds (ps := ["_law_spread", "_law_half", "_law_turn", "_law_pair", "_law_laps_here"]) fun _ _ _ _ _ _ us hl => match us, hl with | [_, _, _, _, _], _ => rfl
  have F__law_laps := fun_mk (st := s__law_laps) l__law_laps c__law_laps k__law_laps
  have B__law_laps := F__law_laps.binds (ps := ["_law_store_here", "_law_steering_here", "_law_first", "_law_truth", "_law_half", "_law_turn", "_law_pair", "_law_bounds_here"]) fun _ _ _ _ _ _ us hl => match us, hl with | [_, _, _, _, _, _, _, _], _ => rfl
  have F_law := fun_mk (st := s_law) l_law c_law k_law
  have B_law := F_law.binds (ps := ["_law_script"]) fun _ _ _ _ _ _ us hl => match us, hl with | [_], _ => rfl
  have F_bound_after := fun_mk (st := s_bound_after) l_bound_after c_bound_after k_bound_after
  have B_bound_after := kbn_of (n := 2) (ps := ["bound", "half", "lap", "slew", "drift"]) (ks := ["lap", "slew", "drift"]) F_bound_after fun _ _ _ _ _ _ us ws h1 h2 => match us, h1, ws, h2 with | [_, _], _, [_, _, _], _ => rfl
  have F_laps_until := fun_mk (st := s_laps_until) l_laps_until c_laps_until k_laps_until
  have B_laps_until := kbn_of (n := 3) (ps := ["bound", "half", "goal", "lap", "slew", "drift"]) (ks := ["lap", "slew", "drift"]) F_laps_until fun _ _ _ _ _ _ us ws h1 h2 => match us, h1, ws, h2 with | [_, _, _], _, [_, _, _], _ => rfl
  refine ⟨PySem.W.fnOf "law" "law" (defArgs s_law) (defBody s_law) (defScope s_law) .none kV_law dc_law pm_law an_law cd_law ct_law, fun s v => .of_eq rfl, fun base _ _ => ?_⟩
  have ZZERO : CnZERO K mg aZERO := cnZERO (PySem.W.mg_of X G a0ZERO) fun H => .inr ⟨_, _, _, l0ZERO, rfl, rfl, (by show 2 ≤ sizeLine; decide), (.cons ⟨tZERO0, rfl⟩ (.cons ⟨tZERO1, rfl⟩ .nil))⟩
  have ZONE : CnONE K mg aONE := cnONE (PySem.W.mg_of X G a0ONE) fun H => .inr ⟨_, _, _, l0ONE, rfl, rfl, (by show 2 ≤ sizeLine; decide), (.cons ⟨tONE0, rfl⟩ (.cons ⟨tONE1, rfl⟩ .nil))⟩
  have ZHALF : CnHALF K mg aHALF := cnHALF (PySem.W.mg_of X G a0HALF) fun H => .inr ⟨_, _, _, l0HALF, rfl, rfl, (by show 2 ≤ sizeLine; decide), (.cons ⟨tHALF0, rfl⟩ (.cons ⟨tHALF1, rfl⟩ .nil))⟩
  have F_Steering_init := fun_mk (st := s_Steering_init) l_Steering_init c_Steering_init k_Steering_init
  have D_Steering_init : FunD K "__init__" "Steering.__init__" (defArgs s_Steering_init) (defBody s_Steering_init) (defScope s_Steering_init) [] [("drift", .ref aDR), ("step_over", .non)] f_Steering_init _ := ⟨⟨_, _, _, _, _, _, _, _, _, _, rfl, l_Steering_init, c_Steering_init, .inl ⟨rfl, rfl⟩, .inr ⟨_, rfl, fun q hq => by
    simp only [List.mem_cons, List.not_mem_nil, or_false] at hq
    rcases hq with rfl | rfl
    · exact ⟨_, kw0Steering, rfl⟩
    · exact ⟨_, kw1Steering, rfl⟩⟩⟩, k_Steering_init⟩
  obtain ⟨mvslew, kb_Steering_slew⟩ := D_Steering_init.kbinds0 (ps := ["self", "raw", "shown", "error", "slew", "drift", "step_over"]) 4 ["slew"] [("drift", .ref aDR), ("step_over", .non)] (fun us mv ws => us ++ ws ++ mv) nofun (by simp) (fun r1 r2 r3 => (Vals.append (Vals.append r1 r3) r2)) fun D doc pm an cdv ct us mv ws h1 h2 h3 => match us, h1, mv, h2, ws, h3 with | [_, _, _, _], _, [_, _], _, [_], _ => ⟨_, _, _, _, _, _, rfl, rfl, ⟨_, _, _, _, _, _, rfl, rfl, rfl⟩⟩
  have kb_Steering_slew_drift_step_over := kbn_of (n := 4) (ps := ["self", "raw", "shown", "error", "slew", "drift", "step_over"]) (ks := ["slew", "drift", "step_over"]) F_Steering_init fun _ _ _ _ _ _ us ws h1 h2 => match us, h1, ws, h2 with | [_, _, _, _], _, [_, _, _], _ => rfl
  have F_Steering_steer := fun_mk (st := s_Steering_steer) l_Steering_steer c_Steering_steer k_Steering_steer
  have B_Steering_steer := F_Steering_steer.binds (ps := ["self", "raw", "span"]) fun _ _ _ _ _ _ us hl => match us, hl with | [_, _, _], _ => rfl
  have F_Steering_display := fun_mk (st := s_Steering_display) l_Steering_display c_Steering_display k_Steering_display
  have B_Steering_display := F_Steering_display.binds (ps := ["self", "raw"]) fun _ _ _ _ _ _ us hl => match us, hl with | [_, _], _ => rfl
  have F_Steering_error_at := fun_mk (st := s_Steering_error_at) l_Steering_error_at c_Steering_error_at k_Steering_error_at
  have B_Steering_error_at := F_Steering_error_at.binds (ps := ["self", "raw"]) fun _ _ _ _ _ _ us hl => match us, hl with | [_, _], _ => rfl
  have F_Steering__plan := fun_mk (st := s_Steering__plan) l_Steering__plan c_Steering__plan k_Steering__plan
  have B_Steering__plan := F_Steering__plan.binds (ps := ["self", "raw", "pieces", "aim", "bound", "half"]) fun _ _ _ _ _ _ us hl => match us, hl with | [_, _, _, _, _, _], _ => rfl
  have F_Steering__jumps_to := fun_mk (st := s_Steering__jumps_to) l_Steering__jumps_to c_Steering__jumps_to k_Steering__jumps_to
  have B_Steering__jumps_to := F_Steering__jumps_to.binds (ps := ["self", "aim", "shown"]) fun _ _ _ _ _ _ us hl => match us, hl with | [_, _, _], _ => rfl
  exact law_ok T ZZERO ZONE ZHALF ⟨⟨_, _, _, _, _, _, _, _, _, _, rfl, l_rational, c_rational⟩, k_rational⟩ (PySem.W.mg_of X G a_rational) bR_rational
    (errTxt (PySem.W.mg_of X G aC_BeforeStart) xL_BeforeStart rv_BeforeStart sa_BeforeStart ga_BeforeStart gg_BeforeStart nb_BeforeStart a1_BeforeStart t1_BeforeStart l1_BeforeStart c1_BeforeStart kC_BeforeStart eC_BeforeStart tC_BeforeStart hC_BeforeStart (exm_of eC_BeforeStart iC_BeforeStart tC_BeforeStart sC_BeforeStart))
    (errTxt (PySem.W.mg_of X G aC_TurnsBack) xL_TurnsBack rv_TurnsBack sa_TurnsBack ga_TurnsBack gg_TurnsBack nb_TurnsBack a1_TurnsBack t1_TurnsBack l1_TurnsBack c1_TurnsBack kC_TurnsBack eC_TurnsBack tC_TurnsBack hC_TurnsBack (exm_of eC_TurnsBack iC_TurnsBack tC_TurnsBack sC_TurnsBack))
    (errTxt (PySem.W.mg_of X G aC_BadRate) xL_BadRate rv_BadRate sa_BadRate ga_BadRate gg_BadRate nb_BadRate a1_BadRate t1_BadRate l1_BadRate c1_BadRate kC_BadRate eC_BadRate tC_BadRate hC_BadRate (exm_of eC_BadRate iC_BadRate tC_BadRate sC_BadRate))
    (errTxt (PySem.W.mg_of X G aC_BadBound) xL_BadBound rv_BadBound sa_BadBound ga_BadBound gg_BadBound nb_BadBound a1_BadBound t1_BadBound l1_BadBound c1_BadBound kC_BadBound eC_BadBound tC_BadBound hC_BadBound (exm_of eC_BadBound iC_BadBound tC_BadBound sC_BadBound))
    ⟨F_bound_after, PySem.W.mg_of X G a_bound_after⟩ B_bound_after
    ⟨F_laps_until, PySem.W.mg_of X G a_laps_until⟩ B_laps_until
    ⟨F_add, PySem.W.mg_of X G a_add, B_add⟩
    ⟨F_subtract, PySem.W.mg_of X G a_subtract, B_subtract⟩
    ⟨F_multiply, PySem.W.mg_of X G a_multiply, B_multiply⟩
    ⟨F_negate, PySem.W.mg_of X G a_negate, B_negate⟩
    ⟨F_divide, PySem.W.mg_of X G a_divide, B_divide⟩
    ⟨F_distance, PySem.W.mg_of X G a_distance, B_distance⟩
    ⟨F_compare, PySem.W.mg_of X G a_compare, B_compare⟩
    ⟨F_smaller, PySem.W.mg_of X G a_smaller, B_smaller⟩
    ⟨F_larger, PySem.W.mg_of X G a_larger, B_larger⟩
    ⟨F_floor_of, PySem.W.mg_of X G a_floor_of, B_floor_of⟩
    ⟨F__shown_by, PySem.W.mg_of X G a__shown_by, B__shown_by⟩
    ⟨F__place_at, PySem.W.mg_of X G a__place_at, B__place_at⟩
    ⟨F__piece_at, PySem.W.mg_of X G a__piece_at, B__piece_at⟩
    ⟨F_shown_at, PySem.W.mg_of X G a_shown_at, B_shown_at⟩
    ⟨F__jump_at, PySem.W.mg_of X G a__jump_at, B__jump_at⟩
    ⟨F_tidy, PySem.W.mg_of X G a_tidy, B_tidy⟩
    ⟨F_width_of, PySem.W.mg_of X G a_width_of, B_width_of⟩
    ⟨F_middle_of, PySem.W.mg_of X G a_middle_of, B_middle_of⟩
    ⟨F_far_end, PySem.W.mg_of X G a_far_end, B_far_end⟩
    ⟨F__higher_low, PySem.W.mg_of X G a__higher_low, B__higher_low⟩
    ⟨F__lower_high, PySem.W.mg_of X G a__lower_high, B__lower_high⟩
    ⟨F_meet, PySem.W.mg_of X G a_meet, B_meet⟩
    ⟨F_require_not_below_zero, PySem.W.mg_of X G a_require_not_below_zero, B_require_not_below_zero⟩
    ⟨F__require_slew_and_drift, PySem.W.mg_of X G a__require_slew_and_drift, B__require_slew_and_drift⟩
    ⟨F__require_lap, PySem.W.mg_of X G a__require_lap, B__require_lap⟩
    ⟨F__bound_behind, PySem.W.mg_of X G a__bound_behind, B__bound_behind⟩
    ⟨F__planned, PySem.W.mg_of X G a__planned, B__planned⟩
    ⟨F__law_store, PySem.W.mg_of X G a__law_store, B__law_store⟩
    ⟨F__law_feed, PySem.W.mg_of X G a__law_feed, B__law_feed⟩
    ⟨F__law_mixed, PySem.W.mg_of X G a__law_mixed, B__law_mixed⟩
    ⟨F__law_take, PySem.W.mg_of X G a__law_take, B__law_take⟩
    ⟨F__law_pick, PySem.W.mg_of X G a__law_pick, B__law_pick⟩
    ⟨F__law_is_int, PySem.W.mg_of X G a__law_is_int, B__law_is_int⟩
    ⟨F__law_same, PySem.W.mg_of X G a__law_same, B__law_same⟩
    ⟨F__law_frac, PySem.W.mg_of X G a__law_frac, B__law_frac⟩
    ⟨F__law_plus, PySem.W.mg_of X G a__law_plus, B__law_plus⟩
    ⟨F__law_minus, PySem.W.mg_of X G a__law_minus, B__law_minus⟩
    ⟨F__law_times, PySem.W.mg_of X G a__law_times, B__law_times⟩
    ⟨F__law_over, PySem.W.mg_of X G a__law_over, B__law_over⟩
    ⟨F__law_below, PySem.W.mg_of X G a__law_below, B__law_below⟩
    ⟨F__law_is_frac, PySem.W.mg_of X G a__law_is_frac, B__law_is_frac⟩
    ⟨F__law_part, PySem.W.mg_of X G a__law_part, B__law_part⟩
    ⟨F__law_spare, PySem.W.mg_of X G a__law_spare, B__law_spare⟩
    ⟨F__law_above, PySem.W.mg_of X G a__law_above, B__law_above⟩
    ⟨F__law_slews, PySem.W.mg_of X G a__law_slews, B__law_slews⟩
    ⟨F__law_over_step, PySem.W.mg_of X G a__law_over_step, B__law_over_step⟩
    ⟨F__law_steering, PySem.W.mg_of X G a__law_steering, B__law_steering⟩
    ⟨F__law_due_laps, PySem.W.mg_of X G a__law_due_laps, B__law_due_laps⟩
    ⟨F__law_goal, PySem.W.mg_of X G a__law_goal, B__law_goal⟩
    ⟨F__law_within, PySem.W.mg_of X G a__law_within, B__law_within⟩
    ⟨F__law_round, PySem.W.mg_of X G a__law_round, B__law_round⟩
    ⟨F__law_floor, PySem.W.mg_of X G a__law_floor, B__law_floor⟩
    ⟨F__law_bounds, PySem.W.mg_of X G a__law_bounds, B__law_bounds⟩
    ⟨F__law_laps, PySem.W.mg_of X G a__law_laps, B__law_laps⟩
    ⟨F_law, PySem.W.mg_of X G a_law, B_law⟩
    ⟨⟨pgSteering, hdSteering, poSteering, saSteering⟩, nSteering0, nSteering1, nSteering2, nSteering3, nSteering4, nSteering5, nSteering6, nSteering7⟩ (PySem.W.mg_of X G aCSteering)
    F_Steering_init ⟨mkSteering, a_Steering_init, i_Steering_init, kcSteering⟩
    (fun H => rq_raw0 (.inr ⟨_, _, _, l0aDR, rfl, rfl, (by show 2 ≤ sizeLine; decide), (.cons ⟨taDR0, rfl⟩ (.cons ⟨taDR1, rfl⟩ .nil))⟩))
    kb_Steering_slew
    kb_Steering_slew_drift_step_over
    ⟨F_Steering_steer, ⟨a_Steering_steer, i_Steering_steer, k_Steering_steer⟩, B_Steering_steer⟩
    ⟨F_Steering_display, ⟨a_Steering_display, i_Steering_display, k_Steering_display⟩, B_Steering_display⟩
    ⟨F_Steering_error_at, ⟨a_Steering_error_at, i_Steering_error_at, k_Steering_error_at⟩, B_Steering_error_at⟩
    ⟨F_Steering__plan, ⟨a_Steering__plan, i_Steering__plan, k_Steering__plan⟩, B_Steering__plan⟩
    ⟨F_Steering__jumps_to, ⟨a_Steering__jumps_to, i_Steering__jumps_to, k_Steering__jumps_to⟩, B_Steering__jumps_to⟩
theorem walk {l : PySem.W.OpenLaw} {q : Program} {loose : List Str} {XP : (Str → Option Value) → Heap → Prop} {YP : World → Heap → Prop} {d : DefRec} {K : Params → PySem.W.Frag} (hn : l.most = some 63) (hdf : d.params.defaults = [])
    (hY : ∀ (w : World) (h : Heap), YP w h → (K w.params).In h)
    (F : ∀ (w : World) (mg : Str → Option Value) (fa : Addr) (h : Heap), (K w.params).In h → h.Ns mainGlobals mg → mg d.name = some (.ref fa) →
      ∃ fd : FuncData, (∀ (s : Shared) (u : Value), BindsTo s fd ⟨[u], []⟩ [("_law_script", u)]) ∧ ∀ base : Heap, (K w.params).In base → base.Ns mainGlobals mg → FnOk l.prog w (K w.params) mg base CX0 9 fa fd ["_law_script"] (spLaw (K w.params))) :
    PySem.W.WalkO q loose XP YP l.row.toRowW d [] (fun f vs => PySem.call f vs) :=
  L2.walk_of (n := 63) (k := 9) (x := "_law_script") (CX := fun _ => CX0) (sp := fun w => spLaw (K w.params)) hn (by decide) hdf ⟨rfl, by decide, by decide⟩ hY F (fun _ _ a ns hl _ hS => ⟨a, ns, rfl, hS, hl, fun _ => rfl⟩) fun _ _ _ _ _ z => z
end Vk
open PySem PySem.W PyProof.Rows
set_option maxRecDepth 100000 in
set_option maxHeartbeats 0 in
theorem PySem.Challenge.cw_clockverdict_k79_steering_comes_in_holds : PySem.Challenge.rw_clockverdict_k79_steering_comes_in.Holds := by
  w_on; o_law; k_head; (case hw => w_witness2)
  k_fill
  refine Vk.walk (l := PySem.Challenge.rw_clockverdict_k79_steering_comes_in) rfl rfl (fun w h Y => PySem.W.kIn_of Y) ?F
  case F =>
    intro w mg fa h KX G hmg
    refine' Vk.all_mk KX G hmg ?ldf_rational ?a0ZERO ?l0ZERO ?a0ONE ?l0ONE ?a0HALF ?l0HALF ?aC_BeforeStart ?xL_BeforeStart ?rv_BeforeStart ?sa_BeforeStart ?ga_BeforeStart ?gg_BeforeStart ?nb_BeforeStart ?a1_BeforeStart ?t1_BeforeStart ?l1_BeforeStart ?c1_BeforeStart ?kC_BeforeStart ?eC_BeforeStart ?tC_BeforeStart ?hC_BeforeStart ?iC_BeforeStart ?sC_BeforeStart ?aC_TurnsBack ?xL_TurnsBack ?rv_TurnsBack ?sa_TurnsBack ?ga_TurnsBack ?gg_TurnsBack ?nb_TurnsBack ?a1_TurnsBack ?t1_TurnsBack ?l1_TurnsBack ?c1_TurnsBack ?kC_TurnsBack ?eC_TurnsBack ?tC_TurnsBack ?hC_TurnsBack ?iC_TurnsBack ?sC_TurnsBack ?aC_BadRate ?xL_BadRate ?rv_BadRate ?sa_BadRate ?ga_BadRate ?gg_BadRate ?nb_BadRate ?a1_BadRate ?t1_BadRate ?l1_BadRate ?c1_BadRate ?kC_BadRate ?eC_BadRate ?tC_BadRate ?hC_BadRate ?iC_BadRate ?sC_BadRate ?aC_BadBound ?xL_BadBound ?rv_BadBound ?sa_BadBound ?ga_BadBound ?gg_BadBound ?nb_BadBound ?a1_BadBound ?t1_BadBound ?l1_BadBound ?c1_BadBound ?kC_BadBound ?eC_BadBound ?tC_BadBound ?hC_BadBound ?iC_BadBound ?sC_BadBound ?a_rational ?l_rational ?c_rational ?k_rational ?a_add ?l_add ?c_add ?k_add ?a_subtract ?l_subtract ?c_subtract ?k_subtract ?a_multiply ?l_multiply ?c_multiply ?k_multiply ?a_negate ?l_negate ?c_negate ?k_negate ?a_divide ?l_divide ?c_divide ?k_divide ?a_distance ?l_distance ?c_distance ?k_distance ?a_compare ?l_compare ?c_compare ?k_compare ?a_smaller ?l_smaller ?c_smaller ?k_smaller ?a_larger ?l_larger ?c_larger ?k_larger ?a_floor_of ?l_floor_of ?c_floor_of ?k_floor_of ?a__shown_by ?l__shown_by ?c__shown_by ?k__shown_by ?a__place_at ?l__place_at ?c__place_at ?k__place_at ?a__piece_at ?l__piece_at ?c__piece_at ?k__piece_at ?a_shown_at ?l_shown_at ?c_shown_at ?k_shown_at ?a__jump_at ?l__jump_at ?c__jump_at ?k__jump_at ?a_tidy ?l_tidy ?c_tidy ?k_tidy ?a_width_of ?l_width_of ?c_width_of ?k_width_of ?a_middle_of ?l_middle_of ?c_middle_of ?k_middle_of ?a_far_end ?l_far_end ?c_far_end ?k_far_end ?a__higher_low ?l__higher_low ?c__higher_low ?k__higher_low ?a__lower_high ?l__lower_high ?c__lower_high ?k__lower_high ?a_meet ?l_meet ?c_meet ?k_meet ?a_require_not_below_zero ?l_require_not_below_zero ?c_require_not_below_zero ?k_require_not_below_zero ?a__require_slew_and_drift ?l__require_slew_and_drift ?c__require_slew_and_drift ?k__require_slew_and_drift ?a__require_lap ?l__require_lap ?c__require_lap ?k__require_lap ?a__bound_behind ?l__bound_behind ?c__bound_behind ?k__bound_behind ?a_bound_after ?l_bound_after ?c_bound_after ?k_bound_after ?a_laps_until ?l_laps_until ?c_laps_until ?k_laps_until ?a__planned ?l__planned ?c__planned ?k__planned ?a__law_store ?l__law_store ?c__law_store ?k__law_store ?a__law_feed ?l__law_feed ?c__law_feed ?k__law_feed ?a__law_mixed ?l__law_mixed ?c__law_mixed ?k__law_mixed ?a__law_take ?l__law_take ?c__law_take ?k__law_take ?a__law_pick ?l__law_pick ?c__law_pick ?k__law_pick ?a__law_is_int ?l__law_is_int ?c__law_is_int ?k__law_is_int ?a__law_same ?l__law_same ?c__law_same ?k__law_same ?a__law_frac ?l__law_frac ?c__law_frac ?k__law_frac ?a__law_plus ?l__law_plus ?c__law_plus ?k__law_plus ?a__law_minus ?l__law_minus ?c__law_minus ?k__law_minus ?a__law_times ?l__law_times ?c__law_times ?k__law_times ?a__law_over ?l__law_over ?c__law_over ?k__law_over ?a__law_below ?l__law_below ?c__law_below ?k__law_below ?a__law_is_frac ?l__law_is_frac ?c__law_is_frac ?k__law_is_frac ?a__law_part ?l__law_part ?c__law_part ?k__law_part ?a__law_spare ?l__law_spare ?c__law_spare ?k__law_spare ?a__law_above ?l__law_above ?c__law_above ?k__law_above ?a__law_slews ?l__law_slews ?c__law_slews ?k__law_slews ?a__law_over_step ?l__law_over_step ?c__law_over_step ?k__law_over_step ?a__law_steering ?l__law_steering ?c__law_steering ?k__law_steering ?a__law_due_laps ?l__law_due_laps ?c__law_due_laps ?k__law_due_laps ?a__law_goal ?l__law_goal ?c__law_goal ?k__law_goal ?a__law_within ?l__law_within ?c__law_within ?k__law_within ?a__law_round ?l__law_round ?c__law_round ?k__law_round ?a__law_floor ?l__law_floor ?c__law_floor ?k__law_floor ?a__law_bounds ?l__law_bounds ?c__law_bounds ?k__law_bounds ?a__law_laps ?l__law_laps ?c__law_laps ?k__law_laps ?a_law ?l_law ?c_law ?k_law ?zgcd ?zlen ?zabs ?zmax ?zint ?zisinstance ?zrange ?zenumerate ?zlist ?ztuple ?zstr ?zbool ?zdict ?aCSteering ?pgSteering ?hdSteering ?poSteering ?saSteering ?mkSteering ?kcSteering ?nSteering0 ?nSteering1 ?nSteering2 ?nSteering3 ?nSteering4 ?nSteering5 ?nSteering6 ?nSteering7 ?a_Steering_init ?i_Steering_init ?l_Steering_init ?c_Steering_init ?k_Steering_init ?kw0Steering ?l0aDR ?kw1Steering ?a_Steering_steer ?i_Steering_steer ?l_Steering_steer ?c_Steering_steer ?k_Steering_steer ?a_Steering_display ?i_Steering_display ?l_Steering_display ?c_Steering_display ?k_Steering_display ?a_Steering_error_at ?i_Steering_error_at ?l_Steering_error_at ?c_Steering_error_at ?k_Steering_error_at ?a_Steering__plan ?i_Steering__plan ?l_Steering__plan ?c_Steering__plan ?k_Steering__plan ?a_Steering__jumps_to ?i_Steering__jumps_to ?l_Steering__jumps_to ?c_Steering__jumps_to ?k_Steering__jumps_to
    (case a_rational => k_is); (case l_rational => k_is); (case c_rational => k_is); (case k_rational => k_is)
    (case a_add => k_is); (case l_add => k_is); (case c_add => k_is); (case k_add => k_is)
    (case a_subtract => k_is); (case l_subtract => k_is); (case c_subtract => k_is); (case k_subtract => k_is)
    (case a_multiply => k_is); (case l_multiply => k_is); (case c_multiply => k_is); (case k_multiply => k_is)
    (case a_negate => k_is); (case l_negate => k_is); (case c_negate => k_is); (case k_negate => k_is)
    (case a_divide => k_is); (case l_divide => k_is); (case c_divide => k_is); (case k_divide => k_is)
    (case a_distance => k_is); (case l_distance => k_is); (case c_distance => k_is); (case k_distance => k_is)
    (case a_compare => k_is); (case l_compare => k_is); (case c_compare => k_is); (case k_compare => k_is)
    (case a_smaller => k_is); (case l_smaller => k_is); (case c_smaller => k_is); (case k_smaller => k_is)
    (case a_larger => k_is); (case l_larger => k_is); (case c_larger => k_is); (case k_larger => k_is)
    (case a_floor_of => k_is); (case l_floor_of => k_is); (case c_floor_of => k_is); (case k_floor_of => k_is)
    (case a__shown_by => k_is); (case l__shown_by => k_is); (case c__shown_by => k_is); (case k__shown_by => k_is)
    (case a__place_at => k_is); (case l__place_at => k_is); (case c__place_at => k_is); (case k__place_at => k_is)
    (case a__piece_at => k_is); (case l__piece_at => k_is); (case c__piece_at => k_is); (case k__piece_at => k_is)
    (case a_shown_at => k_is); (case l_shown_at => k_is); (case c_shown_at => k_is); (case k_shown_at => k_is)
    (case a__jump_at => k_is); (case l__jump_at => k_is); (case c__jump_at => k_is); (case k__jump_at => k_is)
    (case a_tidy => k_is); (case l_tidy => k_is); (case c_tidy => k_is); (case k_tidy => k_is)
    (case a_width_of => k_is); (case l_width_of => k_is); (case c_width_of => k_is); (case k_width_of => k_is)
    (case a_middle_of => k_is); (case l_middle_of => k_is); (case c_middle_of => k_is); (case k_middle_of => k_is)
    (case a_far_end => k_is); (case l_far_end => k_is); (case c_far_end => k_is); (case k_far_end => k_is)
    (case a__higher_low => k_is); (case l__higher_low => k_is); (case c__higher_low => k_is); (case k__higher_low => k_is)
    (case a__lower_high => k_is); (case l__lower_high => k_is); (case c__lower_high => k_is); (case k__lower_high => k_is)
    (case a_meet => k_is); (case l_meet => k_is); (case c_meet => k_is); (case k_meet => k_is)
    (case a_require_not_below_zero => k_is); (case l_require_not_below_zero => k_is); (case c_require_not_below_zero => k_is); (case k_require_not_below_zero => k_is)
    (case a__require_slew_and_drift => k_is); (case l__require_slew_and_drift => k_is); (case c__require_slew_and_drift => k_is); (case k__require_slew_and_drift => k_is)
    (case a__require_lap => k_is); (case l__require_lap => k_is); (case c__require_lap => k_is); (case k__require_lap => k_is)
    (case a__bound_behind => k_is); (case l__bound_behind => k_is); (case c__bound_behind => k_is); (case k__bound_behind => k_is)
    (case a_bound_after => k_is); (case l_bound_after => k_is); (case c_bound_after => k_is); (case k_bound_after => k_is)
    (case a_laps_until => k_is); (case l_laps_until => k_is); (case c_laps_until => k_is); (case k_laps_until => k_is)
    (case a__planned => k_is); (case l__planned => k_is); (case c__planned => k_is); (case k__planned => k_is)
    (case a__law_store => k_is); (case l__law_store => k_is); (case c__law_store => k_is); (case k__law_store => k_is)
    (case a__law_feed => k_is); (case l__law_feed => k_is); (case c__law_feed => k_is); (case k__law_feed => k_is)
    (case a__law_mixed => k_is); (case l__law_mixed => k_is); (case c__law_mixed => k_is); (case k__law_mixed => k_is)
    (case a__law_take => k_is); (case l__law_take => k_is); (case c__law_take => k_is); (case k__law_take => k_is)
    (case a__law_pick => k_is); (case l__law_pick => k_is); (case c__law_pick => k_is); (case k__law_pick => k_is)
    (case a__law_is_int => k_is); (case l__law_is_int => k_is); (case c__law_is_int => k_is); (case k__law_is_int => k_is)
    (case a__law_same => k_is); (case l__law_same => k_is); (case c__law_same => k_is); (case k__law_same => k_is)
    (case a__law_frac => k_is); (case l__law_frac => k_is); (case c__law_frac => k_is); (case k__law_frac => k_is)
    (case a__law_plus => k_is); (case l__law_plus => k_is); (case c__law_plus => k_is); (case k__law_plus => k_is)
    (case a__law_minus => k_is); (case l__law_minus => k_is); (case c__law_minus => k_is); (case k__law_minus => k_is)
    (case a__law_times => k_is); (case l__law_times => k_is); (case c__law_times => k_is); (case k__law_times => k_is)
    (case a__law_over => k_is); (case l__law_over => k_is); (case c__law_over => k_is); (case k__law_over => k_is)
    (case a__law_below => k_is); (case l__law_below => k_is); (case c__law_below => k_is); (case k__law_below => k_is)
    (case a__law_is_frac => k_is); (case l__law_is_frac => k_is); (case c__law_is_frac => k_is); (case k__law_is_frac => k_is)
    (case a__law_part => k_is); (case l__law_part => k_is); (case c__law_part => k_is); (case k__law_part => k_is)
    (case a__law_spare => k_is); (case l__law_spare => k_is); (case c__law_spare => k_is); (case k__law_spare => k_is)
    (case a__law_above => k_is); (case l__law_above => k_is); (case c__law_above => k_is); (case k__law_above => k_is)
    (case a__law_slews => k_is); (case l__law_slews => k_is); (case c__law_slews => k_is); (case k__law_slews => k_is)
    (case a__law_over_step => k_is); (case l__law_over_step => k_is); (case c__law_over_step => k_is); (case k__law_over_step => k_is)
    (case a__law_steering => k_is); (case l__law_steering => k_is); (case c__law_steering => k_is); (case k__law_steering => k_is)
    (case a__law_due_laps => k_is); (case l__law_due_laps => k_is); (case c__law_due_laps => k_is); (case k__law_due_laps => k_is)
    (case a__law_goal => k_is); (case l__law_goal => k_is); (case c__law_goal => k_is); (case k__law_goal => k_is)
    (case a__law_within => k_is); (case l__law_within => k_is); (case c__law_within => k_is); (case k__law_within => k_is)
    (case a__law_round => k_is); (case l__law_round => k_is); (case c__law_round => k_is); (case k__law_round => k_is)
    (case a__law_floor => k_is); (case l__law_floor => k_is); (case c__law_floor => k_is); (case k__law_floor => k_is)
    (case a__law_bounds => k_is); (case l__law_bounds => k_is); (case c__law_bounds => k_is); (case k__law_bounds => k_is)
    (case a__law_laps => k_is); (case l__law_laps => k_is); (case c__law_laps => k_is); (case k__law_laps => k_is)
    (case a_law => k_is); (case l_law => k_is); (case c_law => k_is); (case k_law => k_is)
    (case ldf_rational => k_is)
    (case a0ZERO => k_is); (case l0ZERO => k_is)
    (case a0ONE => k_is); (case l0ONE => k_is)
    (case a0HALF => k_is); (case l0HALF => k_is)
    (case aC_BeforeStart => first | k_is | rfl | decide +kernel | decide)
    (case xL_BeforeStart => first | k_is | rfl | decide +kernel | decide)
    (case rv_BeforeStart => first | k_is | rfl | decide +kernel | decide)
    (case sa_BeforeStart => first | k_is | rfl | decide +kernel | decide)
    (case ga_BeforeStart => first | k_is | rfl | decide +kernel | decide)
    (case gg_BeforeStart => first | k_is | rfl | decide +kernel | decide)
    (case nb_BeforeStart => first | k_is | rfl | decide +kernel | decide)
    (case a1_BeforeStart => first | k_is | rfl | decide +kernel | decide)
    (case t1_BeforeStart => first | k_is | rfl | decide +kernel | decide)
    (case l1_BeforeStart => first | k_is | rfl | decide +kernel | decide)
    (case c1_BeforeStart => first | k_is | rfl | decide +kernel | decide)
    (case kC_BeforeStart => first | k_is | rfl | decide +kernel | decide)
    (case eC_BeforeStart => first | k_is | rfl | decide +kernel | decide)
    (case tC_BeforeStart => first | k_is | rfl | decide +kernel | decide)
    (case hC_BeforeStart => first | k_is | rfl | decide +kernel | decide)
    (case iC_BeforeStart => first | k_is | rfl | decide +kernel | decide)
    (case sC_BeforeStart => first | k_is | rfl | decide +kernel | decide)
    (case aC_TurnsBack => first | k_is | rfl | decide +kernel | decide)
    (case xL_TurnsBack => first | k_is | rfl | decide +kernel | decide)
    (case rv_TurnsBack => first | k_is | rfl | decide +kernel | decide)
    (case sa_TurnsBack => first | k_is | rfl | decide +kernel | decide)
    (case ga_TurnsBack => first | k_is | rfl | decide +kernel | decide)
    (case gg_TurnsBack => first | k_is | rfl | decide +kernel | decide)
    (case nb_TurnsBack => first | k_is | rfl | decide +kernel | decide)
    (case a1_TurnsBack => first | k_is | rfl | decide +kernel | decide)
    (case t1_TurnsBack => first | k_is | rfl | decide +kernel | decide)
    (case l1_TurnsBack => first | k_is | rfl | decide +kernel | decide)
    (case c1_TurnsBack => first | k_is | rfl | decide +kernel | decide)
    (case kC_TurnsBack => first | k_is | rfl | decide +kernel | decide)
    (case eC_TurnsBack => first | k_is | rfl | decide +kernel | decide)
    (case tC_TurnsBack => first | k_is | rfl | decide +kernel | decide)
    (case hC_TurnsBack => first | k_is | rfl | decide +kernel | decide)
    (case iC_TurnsBack => first | k_is | rfl | decide +kernel | decide)
    (case sC_TurnsBack => first | k_is | rfl | decide +kernel | decide)
    (case aC_BadRate => first | k_is | rfl | decide +kernel | decide)
    (case xL_BadRate => first | k_is | rfl | decide +kernel | decide)
    (case rv_BadRate => first | k_is | rfl | decide +kernel | decide)
    (case sa_BadRate => first | k_is | rfl | decide +kernel | decide)
    (case ga_BadRate => first | k_is | rfl | decide +kernel | decide)
    (case gg_BadRate => first | k_is | rfl | decide +kernel | decide)
    (case nb_BadRate => first | k_is | rfl | decide +kernel | decide)
    (case a1_BadRate => first | k_is | rfl | decide +kernel | decide)
    (case t1_BadRate => first | k_is | rfl | decide +kernel | decide)
    (case l1_BadRate => first | k_is | rfl | decide +kernel | decide)
    (case c1_BadRate => first | k_is | rfl | decide +kernel | decide)
    (case kC_BadRate => first | k_is | rfl | decide +kernel | decide)
    (case eC_BadRate => first | k_is | rfl | decide +kernel | decide)
    (case tC_BadRate => first | k_is | rfl | decide +kernel | decide)
    (case hC_BadRate => first | k_is | rfl | decide +kernel | decide)
    (case iC_BadRate => first | k_is | rfl | decide +kernel | decide)
    (case sC_BadRate => first | k_is | rfl | decide +kernel | decide)
    (case aC_BadBound => first | k_is | rfl | decide +kernel | decide)
    (case xL_BadBound => first | k_is | rfl | decide +kernel | decide)
    (case rv_BadBound => first | k_is | rfl | decide +kernel | decide)
    (case sa_BadBound => first | k_is | rfl | decide +kernel | decide)
    (case ga_BadBound => first | k_is | rfl | decide +kernel | decide)
    (case gg_BadBound => first | k_is | rfl | decide +kernel | decide)
    (case nb_BadBound => first | k_is | rfl | decide +kernel | decide)
    (case a1_BadBound => first | k_is | rfl | decide +kernel | decide)
    (case t1_BadBound => first | k_is | rfl | decide +kernel | decide)
    (case l1_BadBound => first | k_is | rfl | decide +kernel | decide)
    (case c1_BadBound => first | k_is | rfl | decide +kernel | decide)
    (case kC_BadBound => first | k_is | rfl | decide +kernel | decide)
    (case eC_BadBound => first | k_is | rfl | decide +kernel | decide)
    (case tC_BadBound => first | k_is | rfl | decide +kernel | decide)
    (case hC_BadBound => first | k_is | rfl | decide +kernel | decide)
    (case iC_BadBound => first | k_is | rfl | decide +kernel | decide)
    (case sC_BadBound => first | k_is | rfl | decide +kernel | decide)
    (case zgcd => k_is)
    (case zlen => k_is)
    (case zabs => k_is)
    (case zmax => k_is)
    (case zint => k_is)
    (case zisinstance => k_is)
    (case zrange => k_is)
    (case zenumerate => k_is)
    (case zlist => k_is)
    (case ztuple => k_is)
    (case zstr => k_is)
    (case zbool => k_is)
    (case zdict => k_is)
    (case aCSteering => first | k_is | rfl | decide +kernel | decide)
    (case pgSteering => first | k_is | rfl | decide +kernel | decide)
    (case hdSteering => first | k_is | rfl | decide +kernel | decide)
    (case poSteering => first | k_is | rfl | decide +kernel | decide)
    (case saSteering => first | k_is | rfl | decide +kernel | decide)
    (case mkSteering => first | k_is | rfl | decide +kernel | decide)
    (case kcSteering => first | k_is | rfl | decide +kernel | decide)
    (case nSteering0 => first | k_is | rfl | decide +kernel | decide)
    (case nSteering1 => first | k_is | rfl | decide +kernel | decide)
    (case nSteering2 => first | k_is | rfl | decide +kernel | decide)
    (case nSteering3 => first | k_is | rfl | decide +kernel | decide)
    (case nSteering4 => first | k_is | rfl | decide +kernel | decide)
    (case nSteering5 => first | k_is | rfl | decide +kernel | decide)
    (case nSteering6 => first | k_is | rfl | decide +kernel | decide)
    (case nSteering7 => first | k_is | rfl | decide +kernel | decide)
    (case a_Steering_init => first | k_is | rfl | decide +kernel | decide)
    (case i_Steering_init => first | k_is | rfl | decide +kernel | decide)
    (case l_Steering_init => first | k_is | rfl | decide +kernel | decide)
    (case c_Steering_init => first | k_is | rfl | decide +kernel | decide)
    (case k_Steering_init => first | k_is | rfl | decide +kernel | decide)
    (case kw0Steering => first | k_is | rfl | decide +kernel | decide)
    (case l0aDR => first | k_is | rfl | decide +kernel | decide)
    (case kw1Steering => first | k_is | rfl | decide +kernel | decide)
    (case a_Steering_steer => first | k_is | rfl | decide +kernel | decide)
    (case i_Steering_steer => first | k_is | rfl | decide +kernel | decide)
    (case l_Steering_steer => first | k_is | rfl | decide +kernel | decide)
    (case c_Steering_steer => first | k_is | rfl | decide +kernel | decide)
    (case k_Steering_steer => first | k_is | rfl | decide +kernel | decide)
    (case a_Steering_display => first | k_is | rfl | decide +kernel | decide)
    (case i_Steering_display => first | k_is | rfl | decide +kernel | decide)
    (case l_Steering_display => first | k_is | rfl | decide +kernel | decide)
    (case c_Steering_display => first | k_is | rfl | decide +kernel | decide)
    (case k_Steering_display => first | k_is | rfl | decide +kernel | decide)
    (case a_Steering_error_at => first | k_is | rfl | decide +kernel | decide)
    (case i_Steering_error_at => first | k_is | rfl | decide +kernel | decide)
    (case l_Steering_error_at => first | k_is | rfl | decide +kernel | decide)
    (case c_Steering_error_at => first | k_is | rfl | decide +kernel | decide)
    (case k_Steering_error_at => first | k_is | rfl | decide +kernel | decide)
    (case a_Steering__plan => first | k_is | rfl | decide +kernel | decide)
    (case i_Steering__plan => first | k_is | rfl | decide +kernel | decide)
    (case l_Steering__plan => first | k_is | rfl | decide +kernel | decide)
    (case c_Steering__plan => first | k_is | rfl | decide +kernel | decide)
    (case k_Steering__plan => first | k_is | rfl | decide +kernel | decide)
    (case a_Steering__jumps_to => first | k_is | rfl | decide +kernel | decide)
    (case i_Steering__jumps_to => first | k_is | rfl | decide +kernel | decide)
    (case l_Steering__jumps_to => first | k_is | rfl | decide +kernel | decide)
    (case c_Steering__jumps_to => first | k_is | rfl | decide +kernel | decide)
    (case k_Steering__jumps_to => first | k_is | rfl | decide +kernel | decide)

