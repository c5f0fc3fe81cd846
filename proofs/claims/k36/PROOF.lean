import PyProof.Rows.All
import Wide.All
import OpenK.AllK
import Wide.FinOn
import HandS.ForMost
import HandS.Wide
import HandS.Gcd
import HandS.IsInst
import HandS.Deep
import HandS.Flow
import HandS.More
import HandS.SetFor
import HandS.Defaults
import PyProof.EqAt
import PyProof.EqKinds
import PyProof.TupleCall
import Open.SpecLaws
import KE.OsGo
import HandS.ForSpec
import HandS.ExcCtx
import HandS.ExcInit
import HandS.ForExc
import HandS.TryMany
import HandS.ExcIs
import HandS.ExcField
import HandS.Base
import HandS.Call
import HandS.Exc
import HandS.ExcOwn
import HandS.WordsExc
import HandS.HotCalls
import HandS.Words
import HandS.Head0
import HandS.Head1
import HandS.Head2
import HandS.Head3
import HandS.HeadEnd
import HandS.HeadHook1
import HandS.HeadHook2
import HandS.MakeKwOnly
import HandS.Property
import PySem.Challenge.RW_clockverdict_k36_steering_refusals
set_option Elab.async false
set_option linter.all false
set_option maxRecDepth 100000
set_option hygiene false in
local macro_rules | `(tactic| walk_at "vk_raw") => `(tactic| ((focus ((repeat first | with_reducible assumption | with_reducible exact upd_same | (with_reducible refine' (upd_ne ?_).trans ?_; with_reducible assumption) | (with_reducible apply sameAt; first | with_reducible assumption | with_reducible exact same_new (by with_reducible assumption) _) | (with_reducible apply Vk.frAt; with_reducible assumption; with_reducible assumption)); done))))
set_option hygiene false in
local macro_rules | `(tactic| walk_at "vk_same") => `(tactic| ((focus ((repeat first | with_reducible assumption | with_reducible exact Same.refl _ | (refine' Same.trans ?_ (same_new (by with_reducible assumption) _)) | (with_reducible refine' same_upd ?_ (by with_reducible assumption) _) | (refine' Same.trans ?_ (by with_reducible assumption))); done))))
set_option hygiene false in
local macro_rules | `(tactic| walk_at "vk_up") => `(tactic| ((first | with_reducible assumption | with_reducible exact same_new (by with_reducible assumption) _)))
set_option hygiene false in
local macro_rules | `(tactic| walk_at "vk_upd") => `(tactic| ((with_reducible refine' same_upd ?_ (by with_reducible assumption) _; (walk_at "vk_same"))))
set_option hygiene false in
local macro_rules | `(tactic| walk_at "vk_sto") => `(tactic| ((focus ((repeat first | with_reducible assumption | (with_reducible apply Sto.same; (walk_at "vk_up"))); done))))
set_option hygiene false in
local macro_rules | `(tactic| walk_at "vk_some") => `(tactic| ((first | with_reducible exact ⟨_, by (walk_at "vk_raw")⟩ | with_reducible exact Sto.some (by (walk_at "vk_sto")))))
set_option hygiene false in
local macro_rules | `(tactic| walk_at "vk_cl") => `(tactic| ((focus ((repeat first | with_reducible assumption | with_reducible exact SqT.of upd_same | with_reducible exact SqL.of upd_same | with_reducible exact optV_rq (by with_reducible assumption) (by with_reducible assumption) | with_reducible exact Ct.cq (by with_reducible assumption) | with_reducible exact rq_ab | (with_reducible apply Vk.Ct.copyq; with_reducible assumption) | (with_reducible apply Vk.Ct.copy; with_reducible assumption) | with_reducible exact rl11000 | with_reducible exact rl91 | with_reducible exact rl32 | with_reducible exact rl301 | with_reducible exact rl72 | with_reducible exact rl160 | with_reducible exact rl13 | with_reducible exact rl73 | with_reducible exact rl15 | with_reducible exact rl11 | with_reducible exact rl12 | with_reducible exact rl01 | with_reducible exact rl1m | with_reducible exact rlnm | with_reducible exact rln1 | with_reducible exact rlh1 | with_reducible exact rl910 | with_reducible exact rl1110 | with_reducible exact rl21 | with_reducible exact rln12 | with_reducible exact rln31 | with_reducible exact rlneg | (with_reducible apply Rq.same; (walk_at "vk_up")) | (with_reducible apply Rq.fr; (first | with_reducible exact Fr.upd _ | with_reducible assumption); (walk_at "vk_some")) | (with_reducible apply Rq.same; (walk_at "vk_upd")) | (with_reducible apply L2.Same.sqt; (walk_at "vk_up")) | (with_reducible apply sqt_fr; (first | with_reducible exact Fr.upd _ | with_reducible assumption); (walk_at "vk_some")) | (with_reducible apply L2.Same.sqt; (walk_at "vk_upd")) | (with_reducible apply L2.Same.seq; (walk_at "vk_up")) | (with_reducible apply seq_fr; (first | with_reducible exact Fr.upd _ | with_reducible assumption); with_reducible assumption) | (with_reducible apply L2.Same.seq; (walk_at "vk_upd")) | (with_reducible apply Pq.same; (walk_at "vk_up")) | (with_reducible apply Pq.fr; (first | with_reducible exact Fr.upd _ | with_reducible assumption); (walk_at "vk_some")) | (with_reducible apply Pq.same; (walk_at "vk_upd")) | (with_reducible apply Cq.same; (walk_at "vk_up")) | (with_reducible apply Cq.fr; (first | with_reducible exact Fr.upd _ | with_reducible assumption); (walk_at "vk_some"); with_reducible assumption) | (with_reducible apply Cq.same; (walk_at "vk_upd")) | (with_reducible apply Ct.same; (walk_at "vk_up")) | (with_reducible apply Ct.fr; (first | with_reducible exact Fr.upd _ | with_reducible assumption); (walk_at "vk_some"); with_reducible assumption) | (with_reducible apply Ct.same; (walk_at "vk_upd")) | (with_reducible apply optV.same; (walk_at "vk_up")) | (with_reducible apply optV.same; (walk_at "vk_upd")) | (with_reducible apply SgA.sm; (walk_at "vk_up")) | (with_reducible apply SgA.sm; (walk_at "vk_upd")) | (with_reducible apply Agv.sm; (walk_at "vk_up")) | (with_reducible apply Agv.frm; (first | with_reducible exact Fr.upd _ | with_reducible assumption); (walk_at "vk_some")) | (with_reducible apply Agv.sm; (walk_at "vk_upd")) | (with_reducible apply Lsv.sm; (walk_at "vk_up")) | (with_reducible apply Lsv.frm; (first | with_reducible exact Fr.upd _ | with_reducible assumption); (walk_at "vk_some")) | (with_reducible apply Lsv.sm; (walk_at "vk_upd")) | (with_reducible apply oSp.same; (walk_at "vk_up")) | (with_reducible apply fr_osp; (first | with_reducible exact Fr.upd _ | with_reducible assumption); (walk_at "vk_some")) | (with_reducible apply oSp.same; (walk_at "vk_upd")) | (with_reducible apply TrnV.sm; (walk_at "vk_up")) | (with_reducible apply TrnV.frm; (first | with_reducible exact Fr.upd _ | with_reducible assumption); (walk_at "vk_some")) | (with_reducible apply TrnV.sm; (walk_at "vk_upd"))); done))))
set_option hygiene false in
local macro_rules | `(tactic| walk_at "vk_sql") => `(tactic| ((first | (walk_at "vk_cl") | (focus (with_reducible apply L2.SqL.of; (walk_at "vk_raw"))))))
set_option hygiene false in
local macro_rules | `(tactic| walk_at "vk_atom") => `(tactic| ((first | with_reducible show Rq _ _ _ _ | with_reducible show SqT _ _ _ _ | with_reducible show SqL _ _ _ _ | with_reducible show Pq _ _ _ _ | with_reducible show Cq _ _ _ _ | with_reducible show Ct _ _ _ _ _ | with_reducible show Cz _ _ _ _ | with_reducible show Cok _ | with_reducible show Sz _ _ | with_reducible show Sto _ _ _ | with_reducible show Fr _ _ _ | with_reducible show Same _ _ | with_reducible show tyV _ _ _ _ | with_reducible show All2 _ _ _ | with_reducible show Gw _ _ _ _ _ _ | with_reducible show L2.Dp _ _ _ _ | with_reducible show L2.DpAll _ _ _ _ | with_reducible show Tree _ _ | with_reducible show optV _ _ _ _ | with_reducible show SgA _ _ _ _ _ | with_reducible show Agv _ _ _ _ _ _ _ _ _ | with_reducible show Lsv _ _ _ _ | with_reducible show oSp _ _ _ _ | with_reducible show TrnV _ _ _ _)))
set_option hygiene false in
local macro_rules | `(tactic| walk_at "vk_formsa") => `(tactic| ((first | with_reducible apply And.intro | ((fail_if_success first | with_reducible show ∃ _ : Nat → Nat → L2.St → Hp → Prop, _ | with_reducible show ∃ _ : Nat → Nat → Hp → Prop, _ | with_reducible show ∃ _ : Nat → L2.St → Hp → Prop, _); with_reducible apply Exists.intro) | (with_reducible refine ifT rfl ?_) | (with_reducible refine ifF rfl ?_) | (with_reducible refine ifT (dT (by with_reducible assumption)) ?_) | (with_reducible refine ifF (dF (by with_reducible assumption)) ?_) | (with_reducible refine ifD (fun gc => ?_) (fun gc => ?_)) | (with_reducible refine ifNF (by first | with_reducible assumption | with_reducible exact rfl) ?_) | (with_reducible refine ifNT (by with_reducible assumption) ?_) | (with_reducible refine ifN (fun gc => ?_) (fun gc => ?_)) | (with_reducible refine ifNF (by first | with_reducible assumption | with_reducible exact rfl) ?_) | ((first | rw [eqv_odp] | rw [eqv_odq]); first | (with_reducible refine ifT (dT (by with_reducible assumption)) ?_) | (with_reducible refine ifNF (by first | with_reducible assumption | with_reducible exact rfl) ?_) | (with_reducible refine ifD (fun gc => ?_) (fun gc => ?_)) | (with_reducible refine ifN (fun gc => ?_) (fun gc => ?_))) | (rw [eqv_dq]; first | (with_reducible refine ifT (dT (by with_reducible assumption)) ?_) | (with_reducible refine ifNF (by first | with_reducible assumption | with_reducible exact rfl) ?_) | (with_reducible refine ifD (fun gc => ?_) (fun gc => ?_)) | (with_reducible refine ifN (fun gc => ?_) (fun gc => ?_))) | (with_reducible refine ifT (by with_reducible assumption) ?_) | (with_reducible refine ifF (by with_reducible assumption) ?_) | (with_reducible refine ifT (by decide +kernel) ?_) | (with_reducible refine ifF (by decide +kernel) ?_) | (with_reducible refine Or.inl (Exists.intro _ (And.intro (rfl : [V.int _] = [V.int _]) ?_))) | ((with_reducible show ∀ p : Addr, _ = none → _); intro p np) | ((with_reducible show ∀ r : Int, ∀ H' : Hp, 0 ≤ r → _ → Sto _ _ H' → _ → _); intro r H' r0 r1 S e) | ((with_reducible show ∀ v : V, ∀ H' : Hp, Qd _ _ _ H' v → _ → _ → _); refine aQd (K := K) fun a q H' h h' zq okq S e => ?_) | ((with_reducible show ∀ H' : Hp, Same _ H' → _); intro H' e) | ((with_reducible show ∀ v : V, ∀ H' : Hp, Same _ H' → optV _ _ _ _ → _); intro v H' e h) | ((with_reducible show ∀ _ : V, ∀ _ : Hp, _ → _); refine aRq (K := K) fun a H' e h h' => ?_) | ((with_reducible show ∀ v : V, Rq _ _ v _ → _); refine aRq0 (K := K) fun a h h' => ?_))))
set_option hygiene false in
local macro_rules | `(tactic| walk_at "vk_forms") => `(tactic| ((first | with_reducible apply And.intro | ((fail_if_success first | with_reducible show ∃ l : Addr, ∃ xs : List V, ∃ y : V, _ = V.ref l ∧ _ = [y] ∧ _ = some (HO.lst xs) ∧ _ | with_reducible show ∃ _ : Nat → Nat → L2.St → Hp → Prop, _ | with_reducible show ∃ _ : Nat → Nat → Hp → Prop, _ | with_reducible show ∃ _ : Nat → L2.St → Hp → Prop, _); with_reducible apply Exists.intro) | (with_reducible refine ifT rfl ?_) | (with_reducible refine ifF rfl ?_) | (with_reducible refine ifT (dT (by with_reducible assumption)) ?_) | (with_reducible refine ifF (dF (by with_reducible assumption)) ?_) | (with_reducible refine ifD (fun gc => ?_) (fun gc => ?_)) | (with_reducible refine ifNF (by first | with_reducible assumption | with_reducible exact rfl) ?_) | (with_reducible refine ifNT (by with_reducible assumption) ?_) | (with_reducible refine ifN (fun gc => ?_) (fun gc => ?_)) | (with_reducible refine ifNF (by first | with_reducible assumption | with_reducible exact rfl) ?_) | ((first | rw [eqv_odp] | rw [eqv_odq]); first | (with_reducible refine ifT (dT (by with_reducible assumption)) ?_) | (with_reducible refine ifNF (by first | with_reducible assumption | with_reducible exact rfl) ?_) | (with_reducible refine ifD (fun gc => ?_) (fun gc => ?_)) | (with_reducible refine ifN (fun gc => ?_) (fun gc => ?_))) | (rw [eqv_dq]; first | (with_reducible refine ifT (dT (by with_reducible assumption)) ?_) | (with_reducible refine ifNF (by first | with_reducible assumption | with_reducible exact rfl) ?_) | (with_reducible refine ifD (fun gc => ?_) (fun gc => ?_)) | (with_reducible refine ifN (fun gc => ?_) (fun gc => ?_))) | (with_reducible refine ifT (by with_reducible assumption) ?_) | (with_reducible refine ifF (by with_reducible assumption) ?_) | (with_reducible refine ifT (by decide +kernel) ?_) | (with_reducible refine ifF (by decide +kernel) ?_) | (with_reducible refine Or.inl (Exists.intro _ (And.intro (rfl : [V.int _] = [V.int _]) ?_))) | ((with_reducible show ∀ p : Addr, _ = none → _); intro p np) | ((with_reducible show ∀ r : Int, ∀ H' : Hp, 0 ≤ r → _ → Sto _ _ H' → _ → _); intro r H' r0 r1 S e) | ((with_reducible show ∀ v : V, ∀ H' : Hp, Qd _ _ _ H' v → _ → _ → _); refine aQd (K := K) fun a q H' h h' zq okq S e => ?_) | ((with_reducible show ∀ H' : Hp, Same _ H' → _); intro H' e) | ((with_reducible show ∀ v : V, ∀ H' : Hp, Same _ H' → optV _ _ _ _ → _); intro v H' e h) | ((with_reducible show ∀ _ : V, ∀ _ : Hp, _ → _); refine aRq (K := K) fun a H' e h h' => ?_) | ((with_reducible show ∀ v : V, Rq _ _ v _ → _); refine aRq0 (K := K) fun a h h' => ?_))))
set_option hygiene false in
local macro_rules | `(tactic| walk_at "vk_va") => `(tactic| (((try dsimp only [cxOf_K, Cx.nox, Cx.wish]); repeat' (show (_ : Prop); first | with_reducible exact rfl | with_reducible assumption | (walk_at "vk_formsa") | ((with_reducible show ∀ d ∈ _, Tree _ d); first | exact treeAll_nil | refine treeAll_cons ?_ ?_) | (with_reducible exact ClsV.ty _) | ((with_reducible show TyX _ _ _ _); first | (apply sql_ty; (walk_at "vk_sql")) | (apply sqt_ty; (walk_at "vk_cl")) | exact .base (.int _)) | ((with_reducible show PySem.W.kitOne _ _ _ = some _); first | exact kit_ty (r := true) (by decide +kernel) | exact kit_ty (r := false) (by decide +kernel)) | ((with_reducible show SeqAt.shaped _ = true); first | with_reducible exact sh_dq _ | with_reducible exact sh_odp _ | decide +kernel) | ((with_reducible show _ = _); first | exact at0 rfl | exact at1 rfl | exact at2 rfl | exact rfl | (walk_at "vk_raw") | assumption) | ((with_reducible show (_ : Addr) ≠ _); (refine' Sto.ne (l := l) ?_ (by with_reducible assumption); (walk_at "vk_sto"))) | (with_reducible exact cdv2) | (with_reducible exact cdv4) | (with_reducible exact cdv8) | ((with_reducible show 0 < List.length _); first | omega | exact Nat.succ_pos _) | ((with_reducible show List.length _ < 2 ^ 32); first | omega | exact Nat.le_of_ble_eq_true rfl) | ((with_reducible show List.length _ ≤ sizeLine); first | exact Nat.zero_le _ | exact sz1 | exact sz2 | exact sz3 | exact sz4 | exact sm5 | exact sm6) | ((with_reducible show List.length _ < sizeLine); exact le1000 (by omega)) | ((with_reducible show _ ≤ _); omega) | ((with_reducible show (_ : Nat) < _); omega) | ((with_reducible show (_ : Int) < _); omega) | ((walk_at "vk_atom"); first | (walk_at "vk_cl") | (focus (with_reducible apply L2.SqL.of; (walk_at "vk_raw"))) | ((with_reducible show tyV _ _ _ _); apply Or.inl; apply And.intro rfl; apply Exists.intro; (walk_at "vk_sql")) | with_reducible exact L2.Dp.str _ | with_reducible exact L2.Dp.int _ | with_reducible exact L2.Dp.non | with_reducible exact L2.Dp.bl _ | (with_reducible apply Rq.dp; (walk_at "vk_cl")) | (with_reducible apply optV.dp; (walk_at "vk_cl")) | (with_reducible apply Vk.Ct.dd; (walk_at "vk_cl")) | (with_reducible apply L2.Dp.tup; (walk_at "vk_cl")) | (with_reducible apply L2.Dp.lst; (walk_at "vk_sql")) | exact tree_dq _ _ | exact Tree.str (by decide +kernel) | exact Tree.int _ | exact Tree.non | exact Tree.bl _ | (refine Tree.tup (Nat.le_of_ble_eq_true rfl) ?_) | with_reducible apply L2.DpAll.cons | with_reducible exact L2.DpAll.nil | with_reducible exact zz1 | with_reducible exact zo1 | with_reducible exact zl12 | with_reducible exact zl1m | with_reducible exact zlnm | with_reducible exact zln1 | with_reducible exact zlh1 | (with_reducible show Sz _ _; refine Sz.mono (by with_reducible assumption) (Nat.le_of_ble_eq_true rfl)) | with_reducible apply Sz.add | with_reducible apply Sz.sub | with_reducible apply Sz.mul | with_reducible apply Sz.neg | ((with_reducible show Sto _ _ _); (focus ((repeat first | with_reducible assumption | (with_reducible apply Sto.same; (walk_at "vk_up"))); done))) | ((with_reducible show Fr _ _ _); (focus ((repeat first | with_reducible assumption | with_reducible exact Fr.refl _ _ | (refine' Fr.trans ?_ (Fr.of (same_new (by with_reducible assumption) _))) | (refine' Fr.trans ?_ (by with_reducible assumption)) | (refine' Fr.trans ?_ (Fr.of (by with_reducible assumption)))); done))) | ((with_reducible show Same _ _); (walk_at "vk_same")) | assumption) | ((with_reducible show L2.SqL _ _ _ _ ∨ L2.SqT _ _ _ _); first | (apply Or.inl; (walk_at "vk_sql")) | (apply Or.inr; (walk_at "vk_cl"))) | ((fail_if_success (walk_at "vk_atom")); (fail_if_success with_reducible show rAppend _ _ _ _); (conv => whnf); first | (walk_at "vk_formsa") | with_reducible exact rfl | with_reducible assumption | ((with_reducible show _ = _); exact rfl)) ))))
set_option hygiene false in
local macro_rules | `(tactic| walk_at "vk_vc") => `(tactic| (((try dsimp only [cxOf_K, Cx.nox, Cx.wish]); repeat' (show (_ : Prop); first | with_reducible exact rfl | with_reducible assumption | (walk_at "vk_forms") | ((with_reducible show ∀ d ∈ _, Tree _ d); first | exact treeAll_nil | refine treeAll_cons ?_ ?_) | (with_reducible exact ClsV.ty _) | ((with_reducible show TyX _ _ _ _); first | (apply sql_ty; (walk_at "vk_sql")) | (apply sqt_ty; (walk_at "vk_cl")) | exact .base (.int _)) | ((with_reducible show PySem.W.kitOne _ _ _ = some _); first | exact kit_ty (r := true) (by decide +kernel) | exact kit_ty (r := false) (by decide +kernel)) | ((with_reducible show SeqAt.shaped _ = true); first | with_reducible exact sh_dq _ | with_reducible exact sh_odp _ | decide +kernel) | ((with_reducible show _ = _); first | exact at0 rfl | exact at1 rfl | exact at2 rfl | exact rfl | (walk_at "vk_raw") | assumption) | ((with_reducible show (_ : Addr) ≠ _); (refine' Sto.ne (l := l) ?_ (by with_reducible assumption); (walk_at "vk_sto"))) | (with_reducible exact cdv2) | (with_reducible exact cdv4) | (with_reducible exact cdv8) | ((with_reducible show 0 < List.length _); first | omega | exact Nat.succ_pos _) | ((with_reducible show List.length _ < 2 ^ 32); first | omega | exact Nat.le_of_ble_eq_true rfl) | ((with_reducible show List.length _ ≤ sizeLine); first | exact Nat.zero_le _ | exact sz1 | exact sz2 | exact sz3 | exact sz4 | exact sm5 | exact sm6) | ((with_reducible show List.length _ < sizeLine); exact le1000 (by omega)) | ((with_reducible show _ ≤ _); omega) | ((with_reducible show (_ : Nat) < _); omega) | ((with_reducible show (_ : Int) < _); omega) | ((walk_at "vk_atom"); first | (walk_at "vk_cl") | (focus (with_reducible apply L2.SqL.of; (walk_at "vk_raw"))) | ((with_reducible show tyV _ _ _ _); apply Or.inl; apply And.intro rfl; apply Exists.intro; (walk_at "vk_sql")) | with_reducible exact L2.Dp.str _ | with_reducible exact L2.Dp.int _ | with_reducible exact L2.Dp.non | with_reducible exact L2.Dp.bl _ | (with_reducible apply Rq.dp; (walk_at "vk_cl")) | (with_reducible apply optV.dp; (walk_at "vk_cl")) | (with_reducible apply Vk.Ct.dd; (walk_at "vk_cl")) | (with_reducible apply L2.Dp.tup; (walk_at "vk_cl")) | (with_reducible apply L2.Dp.lst; (walk_at "vk_sql")) | exact tree_dq _ _ | exact Tree.str (by decide +kernel) | exact Tree.int _ | exact Tree.non | exact Tree.bl _ | (refine Tree.tup (Nat.le_of_ble_eq_true rfl) ?_) | with_reducible apply L2.DpAll.cons | with_reducible exact L2.DpAll.nil | with_reducible exact zz1 | with_reducible exact zo1 | with_reducible exact zl12 | with_reducible exact zl1m | with_reducible exact zlnm | with_reducible exact zln1 | with_reducible exact zlh1 | (with_reducible show Sz _ _; refine Sz.mono (by with_reducible assumption) (Nat.le_of_ble_eq_true rfl)) | with_reducible apply Sz.add | with_reducible apply Sz.sub | with_reducible apply Sz.mul | with_reducible apply Sz.neg | ((with_reducible show Sto _ _ _); (focus ((repeat first | with_reducible assumption | (with_reducible apply Sto.same; (walk_at "vk_up"))); done))) | ((with_reducible show Fr _ _ _); (focus ((repeat first | with_reducible assumption | with_reducible exact Fr.refl _ _ | (refine' Fr.trans ?_ (Fr.of (same_new (by with_reducible assumption) _))) | (refine' Fr.trans ?_ (by with_reducible assumption)) | (refine' Fr.trans ?_ (Fr.of (by with_reducible assumption)))); done))) | ((with_reducible show Same _ _); (walk_at "vk_same")) | assumption) | ((with_reducible show L2.SqL _ _ _ _ ∨ L2.SqT _ _ _ _); first | (apply Or.inl; (walk_at "vk_sql")) | (apply Or.inr; (walk_at "vk_cl"))) | ((fail_if_success (walk_at "vk_atom")); (fail_if_success with_reducible show rAppend _ _ _ _); (conv => whnf); first | (walk_at "vk_forms") | with_reducible exact rfl | with_reducible assumption | ((with_reducible show _ = _); exact rfl)) ))))
set_option hygiene false in
local macro_rules | `(tactic| walk_at "vk_fr") => `(tactic| ((focus ((repeat first | with_reducible assumption | with_reducible exact Fr.refl _ _ | (refine' Fr.trans ?_ (Fr.of (same_new (by with_reducible assumption) _))) | (refine' Fr.trans ?_ (by with_reducible assumption)) | (refine' Fr.trans ?_ (Fr.of (by with_reducible assumption)))); done))))
namespace Vm
/-! ### sizes of rationals -/
def Sz (k : Nat) (q : Rat) : Prop := q.num.natAbs < 2 ^ k ∧ q.den < 2 ^ k
theorem Sz.mono {a b : Nat} {q : Rat} (h : Sz a q) (l : a ≤ b) : Sz b q :=
  ⟨Nat.lt_of_lt_of_le h.1 (Nat.pow_le_pow_right (by decide) l), Nat.lt_of_lt_of_le h.2 (Nat.pow_le_pow_right (by decide) l)⟩
theorem mk_num (n : Int) {d : Nat} (hd : d ≠ 0) : (mkRat n d).num = n / ((Nat.gcd n.natAbs d : Nat) : Int) := by
  rw [Rat.num_mkRat, if_neg hd, Nat.gcd_comm]
theorem mk_den (n : Int) {d : Nat} (hd : d ≠ 0) : (mkRat n d).den = d / Nat.gcd n.natAbs d := by
  rw [Rat.den_mkRat, if_neg hd, Nat.gcd_comm]
theorem sz_mk {n : Int} {d k : Nat} (h : d ≠ 0) (hn : n.natAbs < 2 ^ k) (hd : d < 2 ^ k) : Sz k (mkRat n d) := by
  have e : ∀ (z : Int) (g : Nat), (z / (g : Int)).natAbs ≤ z.natAbs := fun z g => Int.natAbs_ediv_le_natAbs z g
  exact ⟨by rw [mk_num n h]; exact Nat.lt_of_le_of_lt (e _ _) hn, by rw [mk_den n h]; exact Nat.lt_of_le_of_lt (Nat.div_le_self _ _) hd⟩
theorem lt_mul {a b i j : Nat} (h : a < 2 ^ i) (l : b < 2 ^ j) : a * b < 2 ^ (i + j) := by
  rw [Nat.pow_add]
  exact Nat.mul_lt_mul'' h l
theorem Sz.add {a b : Nat} {p q : Rat} (h : Sz a p) (l : Sz b q) : Sz (a + b + 1) (p + q) := by
  rw [Rat.add_def']
  have h1 := lt_mul h.1 l.2
  have h2 := lt_mul l.1 h.2
  have h3 := lt_mul h.2 l.2
  rw [Nat.add_comm b a] at h2
  refine sz_mk (Nat.ne_of_gt (Nat.mul_pos p.den_pos q.den_pos)) ?_ ?_
  · rw [Nat.pow_succ]
    have q1 := Int.natAbs_add_le (p.num * q.den) (q.num * p.den)
    rw [Int.natAbs_mul, Int.natAbs_mul, Int.natAbs_natCast, Int.natAbs_natCast] at q1
    omega
  · rw [Nat.pow_succ]
    omega
theorem Sz.neg {a : Nat} {p : Rat} (h : Sz a p) : Sz a (-p) := ⟨by rw [Rat.neg_num, Int.natAbs_neg]; exact h.1, h.2⟩
theorem Sz.sub {a b : Nat} {p q : Rat} (h : Sz a p) (l : Sz b q) : Sz (a + b + 1) (p - q) := by
  rw [Rat.sub_eq_add_neg]
  exact h.add l.neg
theorem Sz.mul {a b : Nat} {p q : Rat} (h : Sz a p) (l : Sz b q) : Sz (a + b) (p * q) := by
  rw [Rat.mul_def']
  refine sz_mk (Nat.ne_of_gt (Nat.mul_pos p.den_pos q.den_pos)) ?_ (lt_mul h.2 l.2)
  rw [Int.natAbs_mul]
  exact lt_mul h.1 l.1
theorem num_pos {q : Rat} (h : 0 < q) : 0 < q.num := by
  have z := (Rat.lt_iff 0 q).mp h
  simp at z
  exact z
theorem pos_of_num {q : Rat} (h : 0 < q.num) : 0 < q := by
  rw [Rat.lt_iff]
  simp
  exact h
theorem Sz.inv {a : Nat} {q : Rat} (h : Sz a q) (hq : 0 < q) : Sz a q⁻¹ := by
  have hn := num_pos hq
  refine ⟨?_, ?_⟩
  · rw [Rat.num_inv, Int.sign_eq_one_of_pos hn, Int.one_mul, Int.natAbs_natCast]
    exact h.2
  · rw [Rat.den_inv, if_neg (by omega)]
    exact h.1
theorem Sz.div {a b : Nat} {p q : Rat} (h : Sz a p) (l : Sz b q) (hq : 0 < q) : Sz (a + b) (p / q) := by
  rw [Rat.div_def]
  exact h.mul (l.inv hq)
/-! ### normal forms -/
theorem nf {n : Int} {d : Nat} (hd : d ≠ 0) (hc : Nat.gcd n.natAbs d = 1) : (mkRat n d).num = n ∧ (mkRat n d).den = d := by
  rw [mk_num n hd, mk_den n hd, hc]
  simp
theorem div_mk (p q : Rat) (hq : 0 < q) : p / q = mkRat (p.num * q.den) (p.den * q.num.toNat) := by
  have hn := num_pos hq
  rw [Rat.div_def, Rat.mul_def', Rat.num_inv, Rat.den_inv, if_neg (by omega), Int.sign_eq_one_of_pos hn, Int.one_mul]
  congr 2
  omega
/-- the sum by the divisors of the denominators alone -/
theorem add_parts (a b : Rat) (g f : Nat) (n : Int) (r : Nat) (hg : g = Nat.gcd a.den b.den) (hf : f = b.den / g) (hn : n = a.num * f + b.num * ((a.den / g : Nat) : Int)) (hr : r = Nat.gcd n.natAbs g) :
    (a + b).num = n / (r : Int) ∧ (a + b).den = a.den / r * f := by
  have gp : 0 < g := by rw [hg]; exact Nat.gcd_pos_of_pos_left _ a.den_pos
  obtain ⟨u, hu⟩ : g ∣ a.den := by rw [hg]; exact Nat.gcd_dvd_left _ _
  obtain ⟨v, hv⟩ : g ∣ b.den := by rw [hg]; exact Nat.gcd_dvd_right _ _
  have eu : a.den / g = u := by rw [hu]; exact Nat.mul_div_cancel_left _ gp
  have ev : f = v := by rw [hf, hv]; exact Nat.mul_div_cancel_left _ gp
  subst ev
  rw [eu] at hn
  have up : 0 < u := Nat.pos_of_ne_zero fun z => by rw [z, Nat.mul_zero] at hu; exact absurd hu (Nat.ne_of_gt a.den_pos)
  have fp : 0 < f := Nat.pos_of_ne_zero fun z => by rw [z, Nat.mul_zero] at hv; exact absurd hv (Nat.ne_of_gt b.den_pos)
  have cuf : Nat.Coprime u f := by
    have z : g * Nat.gcd u f = g := by rw [← Nat.gcd_mul_left, ← hu, ← hv, ← hg]
    exact Nat.eq_of_mul_eq_mul_left gp (by rw [z, Nat.mul_one])
  have ca : Nat.Coprime a.num.natAbs u := (Nat.Coprime.coprime_dvd_right ⟨g, by rw [hu, Nat.mul_comm]⟩ a.reduced)
  have cb : Nat.Coprime b.num.natAbs f := (Nat.Coprime.coprime_dvd_right ⟨g, by rw [hv, Nat.mul_comm]⟩ b.reduced)
  have key : ∀ (x y z : Int) (m : Nat), x = y + z * m → Nat.gcd x.natAbs m = Nat.gcd y.natAbs m := by
    intro x y z m h
    have e : ∀ t : Int, Nat.gcd t.natAbs m = Int.gcd t m := fun t => by rw [Int.gcd]; simp
    rw [e, e, h, Int.gcd_add_mul_right_left]
  have cnu : Nat.Coprime n.natAbs u := by
    have z := key n (a.num * f) b.num u hn
    unfold Nat.Coprime
    rw [z, Int.natAbs_mul, Int.natAbs_natCast]
    exact Nat.Coprime.mul_left ca cuf.symm
  have cnf : Nat.Coprime n.natAbs f := by
    have z := key n (b.num * u) a.num f (by rw [hn, Int.add_comm])
    unfold Nat.Coprime
    rw [z, Int.natAbs_mul, Int.natAbs_natCast]
    exact Nat.Coprime.mul_left cb cuf
  have cn : Nat.Coprime n.natAbs (u * f) := Nat.Coprime.mul_right cnu cnf
  have er : Nat.gcd n.natAbs (g * (u * f)) = r := by
    rw [hr]
    exact Nat.Coprime.gcd_mul_right_cancel_right g cn.symm
  have es : a + b = mkRat n (g * (u * f)) := by
    rw [Rat.add_def', hu, hv, hn]
    have z := Rat.mkRat_mul_left (n := a.num * f + b.num * u) (d := g * (u * f)) (a := g) (by omega)
    rw [← z]
    congr 1
    · push_cast
      grind
    · grind
  have dn : g * (u * f) ≠ 0 := Nat.ne_of_gt (Nat.mul_pos gp (Nat.mul_pos up fp))
  have rg : r ∣ g := by rw [hr]; exact Nat.gcd_dvd_right _ _
  refine ⟨by rw [es, mk_num n dn, er], ?_⟩
  rw [es, mk_den n dn, er, hu]
  obtain ⟨w, hw⟩ := rg
  have rp : 0 < r := Nat.pos_of_ne_zero fun z => by rw [z, Nat.zero_mul] at hw; omega
  rw [hw, Nat.mul_assoc, Nat.mul_div_cancel_left _ rp, Nat.mul_assoc, Nat.mul_div_cancel_left _ rp, Nat.mul_assoc]
/-! ### what the cross products make -/
theorem tn (a b : Nat) : ((a : Int) * (b : Int)).toNat = a * b := by
  rw [← Int.natCast_mul]
  rfl
theorem mk_add (p q : Rat) : mkRat (p.num * (q.den : Int) + q.num * (p.den : Int)) ((p.den : Int) * (q.den : Int)).toNat = p + q := by rw [tn, Rat.add_def']
theorem mk_sub (p q : Rat) : mkRat (p.num * (q.den : Int) - q.num * (p.den : Int)) ((p.den : Int) * (q.den : Int)).toNat = p - q := by rw [tn, Rat.sub_def']
theorem mk_mul (p q : Rat) : mkRat (p.num * q.num) ((p.den : Int) * (q.den : Int)).toNat = p * q := by rw [tn, Rat.mul_def']
theorem dd_pos (p q : Rat) : 0 < (p.den : Int) * (q.den : Int) := Int.mul_pos (by have := p.den_pos; omega) (by have := q.den_pos; omega)
theorem ab_mul {i j : Int} {a b : Nat} (h : i.natAbs < 2 ^ a) (l : j.natAbs < 2 ^ b) : (i * j).natAbs < 2 ^ (a + b) := by
  rw [Int.natAbs_mul]
  exact lt_mul h l
theorem ab_add {i j : Int} {a : Nat} (h : i.natAbs < 2 ^ a) (l : j.natAbs < 2 ^ a) : (i + j).natAbs < 2 ^ (a + 1) := by
  rw [Nat.pow_succ]
  omega
theorem ab_sub {i j : Int} {a : Nat} (h : i.natAbs < 2 ^ a) (l : j.natAbs < 2 ^ a) : (i - j).natAbs < 2 ^ (a + 1) := by
  rw [Nat.pow_succ]
  omega
theorem ab_up {i : Int} {a b : Nat} (h : i.natAbs < 2 ^ a) (l : a ≤ b) : i.natAbs < 2 ^ b := Nat.lt_of_lt_of_le h (Nat.pow_le_pow_right (by decide) l)
theorem ab_le {i j : Int} {a : Nat} (h : i.natAbs < 2 ^ a) (l : j.natAbs ≤ i.natAbs) : j.natAbs < 2 ^ a := Nat.lt_of_le_of_lt l h
theorem nn {m : Nat} {p : Rat} (h : Sz m p) : 0 < m := by
  cases m with
  | zero => have := h.2; have := p.den_pos; simp at *; omega
  | succ m => exact Nat.succ_pos _
theorem dA {m : Nat} {p : Rat} (h : Sz m p) : ((p.den : Nat) : Int).natAbs < 2 ^ m := h.2
theorem lt_num {p q : Rat} : p < q ↔ p.num * (q.den : Int) < q.num * (p.den : Int) := Rat.lt_iff p q
theorem eq_num {p q : Rat} : p = q ↔ p.num * (q.den : Int) = q.num * (p.den : Int) := Rat.eq_iff_mul_eq_mul
end Vm

namespace Vk
open PySem L2
/-! ### defs as they stand, and with a promise -/
structure Fn (K : PySem.W.Frag) (mg : Str → Option Value) (x : Str) (st : Stmt) (ps : List Str) (f : Addr) (fd : FuncData) : Prop where
  F : Fun K x x st f fd
  m : mg x = some (.ref f)
  b : Binds K fd ps []
structure Def (P : Program) (w : World) (K : PySem.W.Frag) (mg : Str → Option Value) (base : Heap) (k : Nat) (x : Str) (ps : List Str) (sp : Sp) (f : Addr) (fd : FuncData) : Prop where
  ok : FnOk P w K mg base CX0 k f fd ps sp
  m : mg x = some (.ref f)
  kp : PySem.W.keepIn K (.ref f) = true
  b : Binds K fd ps []
theorem Def.up {P : Program} {w : World} {K : PySem.W.Frag} {mg : Str → Option Value} {base : Heap} {j k : Nat} {x : Str} {ps : List Str} {sp : Sp} {f : Addr} {fd : FuncData} (d : Def P w K mg base j x ps sp f fd) (h : j ≤ k) : Def P w K mg base k x ps sp f fd := ⟨d.ok.mono h, d.m, d.kp, d.b⟩
theorem pcall {X : Cx} {k : Nat} {f : Addr} {fd : FuncData} {ps : List Str} {sp : Sp} {x : Str} {p pos : Pos} {e : Expr} {es : List Expr} {t : TA} (D : Def X.prog X.w X.K X.mg X.base k x ps sp f fd) (hr : Room k X.A) (ha : PA X (e :: es) t)
    (hg : Gl X x := by rfl) (hdb : (x == ("__debug__" : Str)) = false := by decide) (he : starEach (e :: es) X.env = (false, eval e X.env) :: starEach es X.env := by rfl) (hpl : (backTo pos (starEach es X.env)).any (·.1) = false := by rfl) :
    PE X (.Call (.Name x p) (e :: es) [] pos) (tCall sp [] E0 t) := pe_call D.ok hr hg D.m D.kp D.b .nil pass0 ha hdb he hpl
/-- a def as it stands, whatever its defaults are -/
structure FunA (K : PySem.W.Frag) (x qual : Str) (st : Stmt) (f : Addr) (fd : FuncData) : Prop where
  ex : ∃ (oc : Value) (od : Option Addr) (dV kV doc pm : Value) (an : Option Addr) (cdv ct : Value) (osl : Array (Option Value)),
    fd = PySem.W.fnOf x qual (defArgs st) (defBody st) (defScope st) dV kV doc pm an cdv ct ∧ K.lookup f = some ⟨oc, od, .func fd, osl⟩ ∧ PySem.W.codeIn K cdv qual = true
  kp : PySem.W.keepIn K (.ref f) = true
theorem FunA.ok {P : Program} {w : World} {K : PySem.W.Frag} {mg : Str → Option Value} {base : Heap} {x qual : Str} {st : Stmt} {f : Addr} {fd : FuncData} {N ps : List Str} {k : Nat} {sp : Sp} (F : FunA K x qual st f fd) (S : FnScope N ps (defScope st)) (len : ∀ vs H Q E, sp vs H Q E → vs.length = ps.length)
    (hbody : ∀ (cdv : Value) (A : Around) (outer : List Env) (s : Shared) (H : Hp) (vs : List V) (Q : VK) (E : XK), Room k (A.deeper (PyProof.Rows.envOfC qual (defScope st) s.heap.objs.size f cdv)) → sp vs H Q E →
      ∃ t, PSs (cxOf CX0 P w K mg base N qual (defScope st) f cdv A outer s H E).nox (defBody st) t ∧ t { nx := fun _ H' => Q .non H', rt := Q } (start N vs) H) : FnOk P w K mg base CX0 (k + 1) f fd ps sp := by
  obtain ⟨oc, od, dV, kV, doc, pm, an, cdv, ct, osl, rfl, lk, hcd⟩ := F.ex
  refine fn_of lk hcd S len fun A outer s H vs Q E hr hsp => ?_
  obtain ⟨t, h, q⟩ := hbody cdv A outer s H vs Q E hr hsp
  exact ⟨t, h.nox, q⟩
/-- the built-in names as the top leaves them -/
structure Bn (mg : Str → Option Value) : Prop where
  gcd_ : mg "gcd" = some (.builtin "math.gcd")
  len_ : mg "len" = none
  abs_ : mg "abs" = none
  max_ : mg "max" = none
  int_ : mg "int" = none
  isinstance_ : mg "isinstance" = none
  range_ : mg "range" = none
  enumerate_ : mg "enumerate" = none
  list_ : mg "list" = none
  tuple_ : mg "tuple" = none
  str_ : mg "str" = none
  bool_ : mg "bool" = none
  dict_ : mg "dict" = none
/-! ### heaps -/
theorem _root_.L2.Same.sqt {K : PySem.W.Frag} {H H' : Hp} {a : Addr} {xs : List V} (e : Same H H') (h : SqT K H a xs) : SqT K H' a xs := by
  rcases h with (h | ⟨o, h⟩) | h
  · exact .inl (.inl (e _ _ h))
  · exact .inl (.inr ⟨o, e _ _ h⟩)
  · exact .inr h
theorem same_new {H : Hp} {p : Addr} (h : H p = none) (o : HO) : Same H (upd H p o) := fun b u q => by rw [upd_ne (ne_of_none q h)]; exact q
/-- a pair of ints that stands for q -/
def Rq (K : PySem.W.Frag) (H : Hp) (v : V) (q : Rat) : Prop := ∃ a, v = .ref a ∧ SqT K H a [.int q.num, .int (q.den : Int)]
theorem Rq.same {K : PySem.W.Frag} {H H' : Hp} {v : V} {q : Rat} (e : Same H H') (h : Rq K H v q) : Rq K H' v q := by
  obtain ⟨a, rfl, h⟩ := h
  exact ⟨a, rfl, e.sqt h⟩
theorem sz2 : 2 ≤ sizeLine := by decide
theorem at0 {xs : List V} {v : V} (h : xs[0]? = some v) : atI xs 0 = some v := atI_nat (j := 0) h
theorem at1 {xs : List V} {v : V} (h : xs[1]? = some v) : atI xs 1 = some v := atI_nat (j := 1) h
theorem at2 {xs : List V} {v : V} (h : xs[2]? = some v) : atI xs 2 = some v := atI_nat (j := 2) h
theorem ifT {c : Bool} {A B : Prop} (hc : c = true) (h : A) : if c = true then A else B := by
  rw [if_pos hc]
  exact h
theorem ifF {c : Bool} {A B : Prop} (hc : c = false) (h : B) : if c = true then A else B := by
  rw [hc, if_neg Bool.false_ne_true]
  exact h
theorem dF {p : Prop} [Decidable p] (h : ¬ p) : decide p = false := decide_eq_false h
theorem dT {p : Prop} [Decidable p] (h : p) : decide p = true := decide_eq_true h
theorem ifD {p : Prop} [Decidable p] {A B : Prop} (h1 : p → A) (h2 : ¬ p → B) : if decide p = true then A else B := by
  by_cases h : p
  · exact ifT (decide_eq_true h) (h1 h)
  · exact ifF (decide_eq_false h) (h2 h)
theorem fmod_nat (x m : Nat) : (x : Int).fmod (m : Int) = ((x % m : Nat) : Int) := by
  rw [Int.fmod_eq_emod_of_nonneg _ (by omega)]
  rfl
/-- what stands behind a statement, said once for all its ways -/
theorem cut {t u : TS} {D : Ends} {σ : L2.St} {H : Hp} (mid : L2.St → Hp → Prop) (key : ∀ σ' H', mid σ' H' → u D σ' H') (h : (∀ σ' H', mid σ' H' → u D σ' H') → tSeq t u D σ H) : tSeq t u D σ H := h key
/-! ### the store of draws -/
/-- at s stands a store: the script's list at l, five counters -/
def Sto (l s : Addr) (H : Hp) : Prop := ∃ (ns : List Int) (pos num seed hold cnt : Int), H s = some (.lst [.ref l, .int pos, .int num, .int seed, .int hold, .int cnt]) ∧ l ≠ s ∧ H l = some (.lst (ns.map V.int)) ∧ ns.length ≤ 63 ∧ 0 ≤ pos ∧ 0 ≤ num ∧ 0 ≤ seed ∧ seed < 1000000007
/-- all but what stands at s is as it was -/
def Fr (s : Addr) (H H' : Hp) : Prop := ∀ b o, H b = some o → b ≠ s → H' b = some o
theorem Fr.refl (s : Addr) (H : Hp) : Fr s H H := fun _ _ h _ => h
theorem Fr.trans {s : Addr} {H H1 H2 : Hp} (a : Fr s H H1) (b : Fr s H1 H2) : Fr s H H2 := fun c o h n => b c o (a c o h n) n
theorem Fr.of {s : Addr} {H H' : Hp} (e : Same H H') : Fr s H H' := fun b o h _ => e b o h
theorem Fr.upd {s : Addr} {H : Hp} (o : HO) : Fr s H (upd H s o) := fun b u h n => by rw [upd_ne n]; exact h
theorem Fr.free {s : Addr} {H H' : Hp} (e : Fr s H H') {p : Addr} (h : H' p = none) (n : p ≠ s) : H p = none := by
  cases q : H p with
  | none => rfl
  | some o =>
    rw [e p o q n] at h
    cases h
theorem Sto.some {l s : Addr} {H : Hp} (h : Sto l s H) : ∃ xs, H s = some (.lst xs) := by
  obtain ⟨_, _, _, _, _, _, h, _⟩ := h
  exact ⟨_, h⟩
theorem Sto.ne {l s : Addr} {H : Hp} (h : Sto l s H) {p : Addr} (n : H p = none) : p ≠ s := by
  obtain ⟨xs, h⟩ := h.some
  exact fun z => by rw [z, h] at n; cases n
theorem Sto.nl {l s : Addr} {H : Hp} (h : Sto l s H) {p : Addr} (n : H p = none) : p ≠ l := by
  obtain ⟨_, _, _, _, _, _, _, _, h, _⟩ := h
  exact fun z => by rw [z, h] at n; cases n
theorem Sto.same {l s : Addr} {H H' : Hp} (e : Same H H') (h : Sto l s H) : Sto l s H' := by
  obtain ⟨ns, pos, num, seed, hold, cnt, h1, h2, h3, r⟩ := h
  exact ⟨ns, pos, num, seed, hold, cnt, e _ _ h1, h2, e _ _ h3, r⟩
/-- what becomes of another list does not matter -/
theorem Sto.upd {l s D : Addr} {H : Hp} {o : HO} (h : Sto l s H) (n1 : D ≠ s) (n2 : D ≠ l) : Sto l s (upd H D o) := by
  obtain ⟨ns, pos, num, seed, hold, cnt, h1, h2, h3, r⟩ := h
  exact ⟨ns, pos, num, seed, hold, cnt, by rw [upd_ne (Ne.symm n1)]; exact h1, h2, by rw [upd_ne (Ne.symm n2)]; exact h3, r⟩
/-- a tuple outlives what becomes of a list -/
theorem sqt_fr {K : PySem.W.Frag} {s a : Addr} {H H' : Hp} {xs : List V} (e : Fr s H H') (hs : ∃ ys, H s = some (.lst ys)) (h : SqT K H a xs) : SqT K H' a xs := by
  obtain ⟨ys, hs⟩ := hs
  have n : ∀ {o : HO}, H a = some o → (∀ ys, o ≠ .lst ys) → a ≠ s := fun {o} h1 h2 z => by
    rw [z, hs] at h1
    exact h2 ys (Option.some.inj h1).symm
  rcases h with (h | ⟨o, h⟩) | h
  · exact .inl (.inl (e _ _ h (n h fun _ z => by cases z)))
  · exact .inl (.inr ⟨o, e _ _ h (n h fun _ z => by cases z)⟩)
  · exact .inr h
theorem Rq.fr {K : PySem.W.Frag} {s : Addr} {H H' : Hp} {v : V} {q : Rat} (e : Fr s H H') (hs : ∃ ys, H s = some (.lst ys)) (h : Rq K H v q) : Rq K H' v q := by
  obtain ⟨a, rfl, h⟩ := h
  exact ⟨a, rfl, sqt_fr e hs h⟩
theorem seq_fr {K : PySem.W.Frag} {s a : Addr} {H H' : Hp} {xs : List V} (e : Fr s H H') (n : a ≠ s) (h : SqL K H a xs) : SqL K H' a xs := by
  rcases h with (h | ⟨o, h⟩) | h
  · exact .inl (.inl (e _ _ h n))
  · exact .inl (.inr ⟨o, e _ _ h n⟩)
  · exact .inr h
theorem sm6 : 6 ≤ sizeLine := by decide
theorem sm4 : 4 ≤ sizeLine := by decide
theorem sm3 : 3 ≤ sizeLine := by decide
theorem sm5 : 5 ≤ sizeLine := by decide
end Vk

namespace Vk
open PySem L2 Vm
/-! ### what a question asks, said so that it is answered by looks at the context -/
variable {K : PySem.W.Frag}
theorem aTup {H : Hp} {xs : List V} {Q : VK} (h : ∀ p H', H p = none → Same H H' → SqT K H' p xs → Q (.ref p) H') : ∀ p, H p = none → Q (.ref p) (upd H p (.tup xs)) := fun p hp => h p _ hp (same_new hp _) (SqT.of upd_same)
theorem aLst {H : Hp} {xs : List V} {Q : VK} (h : ∀ p H', H p = none → Same H H' → H' p = some (.lst xs) → Q (.ref p) H') : ∀ p, H p = none → Q (.ref p) (upd H p (.lst xs)) := fun p hp => h p _ hp (same_new hp _) upd_same
theorem aRq {H : Hp} {q : Rat} {Q : VK} (h : ∀ a H', Same H H' → Rq K H' (.ref a) q → SqT K H' a [.int q.num, .int (q.den : Int)] → Q (.ref a) H') : ∀ r H', Same H H' → Rq K H' r q → Q r H' := fun r H' e hr => by
  obtain ⟨a, rfl, ha⟩ := id hr
  exact h a H' e hr ha
theorem same_new2 {H : Hp} {p q : Addr} {o u : HO} (h : H p = none) (g : upd H p o q = none) : Same H (upd (upd H p o) q u) := (same_new h o).trans (same_new g u)
theorem same_new3 {H : Hp} {p q r : Addr} {o u x : HO} (h : H p = none) (g : upd H p o q = none) (f : upd (upd H p o) q u r = none) : Same H (upd (upd (upd H p o) q u) r x) := (same_new2 h g).trans (same_new f x)
theorem sameFree {H H' : Hp} {p : Addr} (e : Same H H') (h : H' p = none) : H p = none := by
  cases q : H p with
  | none => rfl
  | some o => rw [e _ _ q] at h; cases h
theorem sameAt {H H' : Hp} {a : Addr} {o : HO} (e : Same H H') (h : H a = some o) : H' a = some o := e _ _ h
theorem psNox {X : Cx} {s : Stmt} {t : TS} (h : PS X.nox s t) : PS X s t := ⟨fun pins st σ H D I hw => PySem.wpAny_mono (h.run pins st σ H D (I.wish _) hw) (fun _ _ q => q.unwish) fun _ _ z => False.elim z⟩
theorem cxOf_K {CX : CXT} {P : Program} {w : World} {K : PySem.W.Frag} {mg : Str → Option Value} {base : Heap} {N : List Str} {q : Str} {sc : Scope} {f : Addr} {cdv : Value} {A : Around} {outer : List Env} {s : Shared} {H : Hp} {E : XK} : (cxOf CX P w K mg base N q sc f cdv A outer s H E).K = K := rfl
theorem cxOf_noxK {CX : CXT} {P : Program} {w : World} {K : PySem.W.Frag} {mg : Str → Option Value} {base : Heap} {N : List Str} {q : Str} {sc : Scope} {f : Addr} {cdv : Value} {A : Around} {outer : List Env} {s : Shared} {H : Hp} {E : XK} : (cxOf CX P w K mg base N q sc f cdv A outer s H E).nox.K = K := rfl
theorem sz3 : 3 ≤ sizeLine := by decide
theorem sz1 : 1 ≤ sizeLine := by decide
theorem sz4 : 4 ≤ sizeLine := by decide
end Vk

set_option maxHeartbeats 2000000
namespace PySem
namespace ValX
open PySem.W PySem.Calls PyProof.Rows PySem.HandSPX
/-! ### the text of __init__ -/
def iA (p1 p2 : Pos) : Arguments := { posonlyargs := [], args := [{ arg := "self", annotation := none, pos := p1 }, { arg := "value", annotation := none, pos := p2 }], vararg := none, kwonlyargs := [], kw_defaults := [], kwarg := none, defaults := [] }
def iB (q1 q2 q3 q4 : Pos) : List Stmt := [.Assign [.Attribute (.Name "self" q1) "value" q2] (.Name "value" q3) q4]
def iS : Scope := { kind := .function, names := [(PySem.Str.ofString "self", .local), (PySem.Str.ofString "value", .local)], isGenerator := false, isCoroutine := false, more := [] }
/-- what the written part says of the class, at C, and of its __init__, at fI -/
structure ValTxt (K : Frag) (mg : Str → Option Value) (nm : Str) (C fI : Addr) : Prop where
  gC : mg nm = some (.ref C)
  cls : ∃ nm q N bs bm sn sub ab col dd k0 k1 k2 k3 k5, K.lookup C = some (excClassObj nm q C N bs bm true sn sub ab col dd k0 k1 k2 k3 k5 "ValueError.__new__") ∧ refsVE bm = true
  sa : findIn K (.ref C) "__setattr__" = some (some (.builtin "object.__setattr__"))
  ga : findIn K (.ref C) "__getattribute__" = some (some (.builtin "BaseException.__getattribute__"))
  gg : findIn K (.ref C) "__getattr__" = some none
  noN : findIn K (.ref C) "value" = some none
  iC : findIn K (.ref C) "__init__" = some (some (.ref fI))
  tC : typeIn K (.ref fI) = some (.type "function")
  kC : keepIn K (.ref C) = true
  exC : subIn K (.ref C) (.type "BaseException") = some true
  tyC : typeIn K (.ref C) = some (.type "type")
  hdC : hasDictIn K C = true
  te : exmOne K (.ref C) (.ref C) = some true
  fn : ∃ (q : Str) (oc : Value) (od : Option Addr) (doc pm : Value) (an : Option Addr) (cdv ct : Value) (osl : Array (Option Value)) (p1 p2 q1 q2 q3 q4 : Pos),
    K.lookup fI = some ⟨oc, od, .func (fnOf "__init__" q (iA p1 p2) (iB q1 q2 q3 q4) iS .none .none doc pm an cdv ct), osl⟩ ∧ codeIn K cdv q = true
theorem one_size (v : Value) : [v].length ≤ sizeLine := by
  rw [sizeLine_eq]
  exact (by decide : 1 ≤ 16777216)
theorem kept_but {K : Frag} {h h' : Heap} {x : Addr} (X : K.In h) (hx : K.lookup x = none) (k : ∀ b o, b ≠ x → h.get? b = some o → h'.get? b = some o) : K.In h' := fun a o e =>
  k a o (fun z => by rw [z, hx] at e; cases e) (X a o e)
theorem ldC {M : Model} {s : Shared} {name : Str} {scope : Scope} {L a : Addr} {cd : Value} {m : Str → Option Value} {x : Str} {pos : Pos} {v : Value} {Q : Value → Shared → Prop} {A : Around} {E : Value → Shared → Prop} (hn : s.heap.Ns L m) (hv : m x = some v) (h : Q v s)
    (hk : scope.kind = .function := by rfl) (hl : (envOfC name scope L a cd).kindOf x = some .local := by rfl) (hd : (x == ("__debug__" : Str)) = false := by decide) :
    wpAny M A (eval (.Name x pos) (envOfC name scope L a cd)) Q E s := wpAny_Name (wpAny_loadName_local hk hl hn hv h) hd
/-- what __init__ leaves of a fresh exception at x -/
structure InitEnd (h h' : Heap) (x C dx t1 : Addr) (v : Value) : Prop where
  keep : ∀ b o, b ≠ x → h.get? b = some o → h'.get? b = some o
  obj : h'.get? x = some { cls := .ref C, dict := some dx, data := .fields #[.ref t1, .none, .none, .none, .bool false, .none] }
  dbig : h.objs.size ≤ dx
  dne : dx ≠ x
  ns : h'.Ns1 dx (fun y => if y = "value" then some v else none)
/-- a made error -/
structure OwnMade (h h' : Heap) (e C d : Addr) (v : Value) : Prop where
  keep : ∀ b o, h.get? b = some o → h'.get? b = some o
  new : h.objs.size ≤ e
  obj : ∃ oe vs, h'.get? e = some oe ∧ oe.cls = .ref C ∧ oe.dict = some d ∧ oe.data = .fields vs ∧ vs[1]? = some .none ∧ vs[2]? = some .none
  dbig : h.objs.size ≤ d
  dne : d ≠ e
  ns : h'.Ns1 d (fun y => if y = "value" then some v else none)
section
variable {prog : Program} {w : World} {A : Around} {E : Value → Shared → Prop} {R : Result → Shared → Prop} {s : Shared} {K : Frag} {mg : Str → Option Value} {nm : Str} {C fI : Addr}
theorem val_init (T : ValTxt K mg nm C fI) {x t0 : Addr} {v : Value} (X : K.In s.heap) (hlim : s.heap.NoLimit) (hx : s.heap.get? x = some (excO C t0)) (hnx : K.lookup x = none) (hroom : A.depth < recursionLimit)
    (hq : ∀ h' tk dx, InitEnd s.heap h' x C dx t0 v → R (.ok (.ret .none)) { s with heap := h', toks := tk }) :
    codeAny (model prog w) A (.call (.ref fI) ⟨[.ref x, v], []⟩) R s := by
  obtain ⟨qn, oc, od, doc, pm, an, cdv, ct, osl, p1, p2, q1, q2, q3, q4, ho, hcd⟩ := T.fn
  obtain ⟨cnm, q, N, bs, bm, sn, sub, ab, col, dd, k0, k1, k2, k3, k5, hC, hbm⟩ := T.cls
  have hcl : clsIn K C = some { name := cnm, bases := bs, mro := .ref C :: bm, ns := N, qualname := q, hasDict := true, slotNames := sn, subclasses := sub, abstract := ab, collection := col, hasDel := false } := by unfold clsIn; rw [hC] <;> rfl
  refine Att.call_fn (binds := [("self", .ref x), ("value", v)]) X hlim ho hcd hroom (BindsTo.of_eq (by first | rfl | with_unfolding_all rfl)) (by first | rfl | decide | with_unfolding_all rfl) (fun s₁ IC => ?_) rfl rfl rfl
  obtain ⟨h₁, tk₁, rfl⟩ := IC.toInCall.same
  have k : ∀ b o, s.heap.get? b = some o → h₁.get? b = some o := IC.toInCall.keep
  have hn := IC.toInCall.ns
  have hxL : s.heap.objs.size ≠ x := Nat.ne_of_gt (Heap.lt_size hx)
  have X₁ : K.In h₁ := X.keeps k
  have hx₁ := k _ _ hx
  -- self.by = by
  show wpAny _ _ (execs _ _) _ _ _
  refine wpAny_execs_cons (plainObj_wpAny_Assign_Attribute ?_)
  refine ldC (v := v) hn (by first | rfl | with_unfolding_all rfl | kernel_rfl) (ldC (v := .ref x) hn (by first | rfl | with_unfolding_all rfl | kernel_rfl) ?_)
  refine set_plain X₁ (ox := excO C t0) (od := none) ⟨hx₁, rfl, rfl, trivial⟩ T.sa ?_
  refine exc_osa X₁ hx₁ hcl (show refsVE (.ref C :: bm) = true from hbm) rfl T.noN (fun h₃ tk₃ dx k₃ dn dne hx₃ hn₃ => ?_)
  show wpAny _ _ (execs _ _) _ _ _
  have z : s.heap.objs.size < h₁.objs.size := hn.lt
  exact wpAny_execs_nil (hq h₃ tk₃ dx ⟨fun b o hb e => k₃ b o hb (k b o e), hx₃, Nat.le_of_lt (Nat.lt_of_lt_of_le z dn), dne, hn₃⟩)
theorem val_made (T : ValTxt K mg nm C fI) {v : Value} (X : K.In s.heap) (hlim : s.heap.NoLimit) (hroom : A.depth + 1 < recursionLimit)
    (hq : ∀ h' tk e d, OwnMade s.heap h' e C d v → R (.ok (.ret (.ref e))) { s with heap := h', toks := tk }) :
    codeAny (model prog w) A (.call (.ref C) ⟨[v], []⟩) R s := by
  obtain ⟨cnm, q, N, bs, bm, sn, sub, ab, col, dd, k0, k1, k2, k3, k5, hC, hbm⟩ := T.cls
  obtain ⟨hp, g, dr, tk, os⟩ := s
  have k : ∀ b o, hp.get? b = some o → ((hp.push (kdv_tup [v])).push (excO C hp.objs.size)).get? b = some o := fun b o e => Heap.get?_push_of_some _ (Heap.get?_push_of_some _ e)
  have hget : ((hp.push (kdv_tup [v])).push (excO C hp.objs.size)).get? (hp.objs.size + 1) = some (excO C hp.objs.size) := by heap_get
  have hnx : K.lookup (hp.objs.size + 1) = none := by
    cases e : K.lookup (hp.objs.size + 1) with
    | none => rfl
    | some o =>
      have z : hp.get? (hp.objs.size + 1) = some o := X _ _ e
      exact absurd (Nat.lt_of_succ_lt (Heap.lt_size z)) (Nat.lt_irrefl _)
  refine call_own F.excBase_ValueError (fun X => refsVE_contains X bm hbm) (X _ _ hC) (looks_findIn X T.iC) (fun self => bind_fn X self T.tC) (one_size v) ?_
  refine val_init (s := ⟨(hp.push (kdv_tup [v])).push (excO C hp.objs.size), g, dr, tk, os⟩) T (X.keeps k) (hlim.keeps k) hget hnx ?_ fun h' tk' dx ⟨k', hx, dn, dne, hns⟩ => ?_
  · show A.depth + 1 < recursionLimit
    exact hroom
  · have old : ∀ b o, hp.get? b = some o → h'.get? b = some o := fun b o e => k' b o (Nat.ne_of_lt (Nat.lt_succ_of_lt (Heap.lt_size e))) (k b o e)
    have z : hp.objs.size + 1 + 1 ≤ dx := by
      first
        | (simpa only [Heap.size_push] using dn)
        | exact dn
        | (have q := dn; rw [Heap.size_push, Heap.size_push] at q; exact q)
    exact ⟨rfl, hq h' tk' (hp.objs.size + 1) dx ⟨old, Nat.le_succ _, ⟨_, _, hx, rfl, rfl, rfl, rfl, rfl⟩, Nat.le_trans (Nat.le_trans (Nat.le_succ _) (Nat.le_succ _)) z, dne, hns⟩⟩
end
end ValX
end PySem
namespace L2
open PySem PySem.Spec PyProof.Rows
theorem relO_val {v : V} {v' : Value} (r : RelV v v') (f : Str) : RelO (List.lookup f [(("value" : Str), v)]) (if f = "value" then some v' else none) := by
  by_cases hw : f = "value"
  · subst hw
    rw [if_pos rfl]
    have q : List.lookup ("value" : Str) [(("value" : Str), v)] = some v := by simp [List.lookup]
    rw [q]
    exact r
  · rw [if_neg hw]
    have qw : (f == ("value" : Str)) = false := by simpa using hw
    have q2 : List.lookup f [(("value" : Str), v)] = none := by simp [List.lookup, qw]
    rw [q2]
    trivial
section
variable {X : Cx} {nm : Str} {C fI : Addr}
/-- X(e) -/
def tMkVal (C : Addr) (ta : TA) : St → Hp → XK → Prop := fun σ H Q => ta σ H fun vs H1 => ∃ v, vs = [v] ∧ ∀ d, H1 d = none → Q (.ref C) (some d) (upd H1 d (.xd [(("value" : Str), v)]))
theorem pmk_val {a : Expr} {ta : TA} {p pos : Pos} {k : Nat} (T : PySem.ValX.ValTxt X.K X.mg nm C fI) (hr : Room k X.A) (ha : PA X [a] ta) (hg : Gl X nm := by rfl) (hdb : (nm == ("__debug__" : Str)) = false := by decide)
    (he : starEach (a :: []) X.env = (false, eval a X.env) :: starEach [] X.env := by rfl) (hpl : (backTo pos (starEach [] X.env)).any (·.1) = false := by rfl) :
    PMk X (.Call (.Name nm p) [a] [] pos) (tMkVal C ta) := by
  intro pins s σ H Q I h
  refine wpAny_Call_Name_kw (ld_glob I hg T.gC ?_ hdb)
  refine PySem.W.callWith_K (h₀ := X.base) I.ok.mod.kin T.kC (thn (ha.run pos pins s σ H _ I h) fun us s1 hh => ?_) he hpl
  obtain ⟨vs, H1, I1, r1, v, ev, q1⟩ := hh
  subst ev
  refine ⟨I1.kIn, ?_⟩
  cases r1 with
  | cons rv rn =>
    rename_i v' us'
    cases rn
    show wpAny _ _ (call (.ref C) [v']) _ _ _
    have hlim := I1.nolimit
    obtain ⟨hp, g, dr, tk, os⟩ := s1
    refine wpAny_call (PySem.ValX.val_made T I1.kIn hlim (by have := hr.dp; omega) fun h' tk' e d M => ?_)
    show MkP X pins σ Q (.ref e) ⟨h', g, dr, tk', os⟩
    obtain ⟨oe, fv, hoe, hc, hd, hdat, h1, h2⟩ := M.obj
    have hns := M.ns
    obtain ⟨G', g1, g2⟩ := restrict h' fun b => decide (b ≠ e)
    have gk : ∀ b, b ≠ e → G'.get? b = h'.get? b := fun b hb => g1 b (decide_eq_true hb)
    have ge : G'.get? e = none := g2 e (by simp)
    have old : ∀ b o, hp.get? b = some o → G'.get? b = some o := fun b o q => (gk b (Nat.ne_of_lt (Nat.lt_of_lt_of_le (Heap.lt_size q) M.new))).trans (M.keep b o q)
    have ob : ObjOk X.prog X.w (upd H1 d (.xd [(("value" : Str), v)])) G' d (.xd [(("value" : Str), v)]) :=
      ⟨_, hns.at (fun o q => (gk d M.dne).trans q), fun f => relO_val rv f⟩
    have J : Inv X pins σ (upd H1 d (.xd [(("value" : Str), v)])) ⟨G', g, dr, tk', os⟩ := I1.laid (t' := tk') old M.dbig ob
    refine ⟨e, oe, fv, ⟨G', g, dr, tk', os⟩, _, .ref C, some d, rfl, J, fun b o q => ?_, ge, hoe, ⟨hc, hd⟩, hdat, h1, ?_, rfl, I1.bare, raises_own T.exC T.tyC, q1 d (I1.hok.fresh M.dbig)⟩
    · by_cases hb : b = e
      · have q' : G'.get? b = some o := q
        rw [hb, ge] at q'; cases q'
      · exact (gk b hb).symm.trans q
    · rw [upd_ne (Ne.symm M.dne)]
      exact I1.hok.fresh M.new
/-- raise X(e) -/
def tRaiseVal (C : Addr) (W : WX) (ta : TA) : TS := fun _ σ H => tMkVal C ta σ H fun cls d H' => W cls d σ H'
theorem ps_raiseVal {a : Expr} {ta : TA} {W : WX} {p pos pos2 : Pos} {k : Nat} (hc : X.calm = true) (T : PySem.ValX.ValTxt X.K X.mg nm C fI) (hr : Room k X.A) (tk : Takes X W) (ha : PA X [a] ta) (hg : Gl X nm := by rfl) (hdb : (nm == ("__debug__" : Str)) = false := by decide)
    (he : starEach (a :: []) X.env = (false, eval a X.env) :: starEach [] X.env := by rfl) (hpl : (backTo pos (starEach [] X.env)).any (·.1) = false := by rfl) :
    PS X (.Raise (some (.Call (.Name nm p) [a] [] pos)) none pos2) (tRaiseVal C W ta) := ps_raise hc tk (pmk_val T hr ha hg hdb he hpl)
theorem pmk_valN {a : Expr} {ta : TA} {p pos : Pos} {k : Nat} (T : PySem.ValX.ValTxt X.K X.mg nm C fI) (hr : Room k X.A) (ha : PA X [a] ta) (hg : Gl X nm := by rfl) (hdb : (nm == ("__debug__" : Str)) = false := by decide)
    (he : starEach (a :: []) X.env = (false, eval a X.env) :: starEach [] X.env := by rfl) (hpl : (backTo pos (starEach [] X.env)).any (·.1) = false := by rfl) :
    L2N.PMk X (.Call (.Name nm p) [a] [] pos) (tMkVal C ta) := by
  intro pins s σ H Q I h
  refine wpAny_Call_Name_kw (ld_glob I hg T.gC ?_ hdb)
  refine PySem.W.callWith_K (h₀ := X.base) I.ok.mod.kin T.kC (thn (ha.run pos pins s σ H _ I h) fun us s1 hh => ?_) he hpl
  obtain ⟨vs, H1, I1, r1, v, ev, q1⟩ := hh
  subst ev
  refine ⟨I1.kIn, ?_⟩
  cases r1 with
  | cons rv rn =>
    rename_i v' us'
    cases rn
    show wpAny _ _ (call (.ref C) [v']) _ _ _
    have hlim := I1.nolimit
    obtain ⟨hp, g, dr, tk, os⟩ := s1
    refine wpAny_call (PySem.ValX.val_made T I1.kIn hlim (by have := hr.dp; omega) fun h' tk' e d M => ?_)
    show L2N.MkP X pins σ Q (.ref e) ⟨h', g, dr, tk', os⟩
    obtain ⟨oe, fv, hoe, hc, hd, hdat, h1, h2⟩ := M.obj
    have hns := M.ns
    obtain ⟨G', g1, g2⟩ := restrict h' fun b => decide (b ≠ e)
    have gk : ∀ b, b ≠ e → G'.get? b = h'.get? b := fun b hb => g1 b (decide_eq_true hb)
    have ge : G'.get? e = none := g2 e (by simp)
    have old : ∀ b o, hp.get? b = some o → G'.get? b = some o := fun b o q => (gk b (Nat.ne_of_lt (Nat.lt_of_lt_of_le (Heap.lt_size q) M.new))).trans (M.keep b o q)
    have ob : ObjOk X.prog X.w (upd H1 d (.xd [(("value" : Str), v)])) G' d (.xd [(("value" : Str), v)]) :=
      ⟨_, hns.at (fun o q => (gk d M.dne).trans q), fun f => relO_val rv f⟩
    have J : Inv X pins σ (upd H1 d (.xd [(("value" : Str), v)])) ⟨G', g, dr, tk', os⟩ := I1.laid (t' := tk') old M.dbig ob
    refine ⟨e, oe, fv, ⟨G', g, dr, tk', os⟩, _, .ref C, some d, rfl, J, fun b o q => ?_, ge, hoe, ⟨hc, hd, fun vs ev => by rw [hdat] at ev; cases ev; exact h2⟩, hdat, h1, ?_, rfl, I1.bare, raises_own T.exC T.tyC, q1 d (I1.hok.fresh M.dbig)⟩
    · by_cases hb : b = e
      · have q' : G'.get? b = some o := q
        rw [hb, ge] at q'; cases q'
      · exact (gk b hb).symm.trans q
    · rw [upd_ne (Ne.symm M.dne)]
      exact I1.hok.fresh M.new
/-- raise X(e), where the context of exceptions is told, too -/
theorem ps_raiseValN {a : Expr} {ta : TA} {W : WX} {p pos pos2 : Pos} {k : Nat} (hc : X.calm = true) (T : PySem.ValX.ValTxt X.K X.mg nm C fI) (hr : Room k X.A) (tk : L2N.Takes X W) (ha : PA X [a] ta) (hg : Gl X nm := by rfl) (hdb : (nm == ("__debug__" : Str)) = false := by decide)
    (he : starEach (a :: []) X.env = (false, eval a X.env) :: starEach [] X.env := by rfl) (hpl : (backTo pos (starEach [] X.env)).any (·.1) = false := by rfl) :
    PS X (.Raise (some (.Call (.Name nm p) [a] [] pos)) none pos2) (tRaiseVal C W ta) := L2N.ps_raise hc tk (pmk_valN T hr ha hg hdb he hpl)
/-- e.value, e the exception that the suite holds (at a; its class cls, its dict d) -/
def tByVal (C : Addr) (a : Addr) (cls : Value) (d : Option Addr) (te : TE) : TE := fun σ H Q => te σ H fun x H1 => x = .ref a ∧ cls = .ref C ∧ ∃ (dd : Addr) (v : V), d = some dd ∧ H1 dd = some (.xd [(("value" : Str), v)]) ∧ Q v H1
theorem pe_byVal {a : Addr} {oe : Obj} {cls : Value} {d : Option Addr} {pn : List (Addr × Obj)} {e : Expr} {te : TE} {pos : Pos} (T : PySem.ValX.ValTxt X.K X.mg nm C fI) (hz : Zc cls d oe) (hf : ∃ vs, oe.data = .fields vs) (he : PE (X.suite a ((a, oe) :: pn)) e te)
    (hb : attributeBase e "value" X.env (eval e X.env) = eval e X.env := by rfl) :
    PE (X.suite a ((a, oe) :: pn)) (.Attribute e "value" pos) (tByVal C a cls d te) := by
  refine ⟨fun pins s σ H Q I h => ?_⟩
  refine attr_of hb (thn (he.run pins s σ H _ I h) fun u s1 hh => ?_)
  obtain ⟨x, H1, I1, rx, ex, ec, dd, v, ed, ea, q⟩ := hh
  subst ex
  obtain rfl : u = Value.ref a := rx
  subst ec
  subst ed
  obtain ⟨ha, _⟩ := I1.pin (a, oe) (List.mem_append_left _ List.mem_cons_self)
  obtain ⟨vs, hd⟩ := hf
  have hx : ObjOk X.prog X.w H1 s1.heap dd (.xd [(("value" : Str), v)]) := I1.hok dd _ ea
  obtain ⟨mA, hns, hr⟩ := hx
  obtain ⟨od, ho, hl⟩ := lookIn_ns hns
  have l : List.lookup ("value" : Str) [(("value" : Str), v)] = some v := by simp [List.lookup]
  obtain ⟨u, hu, ru⟩ := RelO.some_of (v := v) (o := mA "value") (by rw [← l]; exact hr "value")
  have J : PySem.W.InstAt s1.heap a oe C (some od) := ⟨ha, hz.1, by unfold PySem.W.notCls; rw [hd] <;> rfl, by rw [hz.2]; exact ho⟩
  exact HandSPX.exc_get I1.kIn J T.ga T.gg T.exC (PySem.W.findObj_own T.hdC T.noN rfl (by rw [hl, hu])) (handed_of ru) ⟨v, H1, I1.tok _, ru, q⟩
end
end L2

set_option maxHeartbeats 2000000
/-! a class whose __init__ stores its two arguments as self.low and self.high -/
namespace PySem
namespace Val2
open PySem.W PySem.Calls PyProof.Rows PySem.HandSPX PySem.ValX
def iA (p1 p2 p3 : Pos) : Arguments := { posonlyargs := [], args := [{ arg := "self", annotation := none, pos := p1 }, { arg := "low", annotation := none, pos := p2 }, { arg := "high", annotation := none, pos := p3 }], vararg := none, kwonlyargs := [], kw_defaults := [], kwarg := none, defaults := [] }
def iB (q1 q2 q3 q4 r1 r2 r3 r4 : Pos) : List Stmt := [.Assign [.Attribute (.Name "self" q1) "low" q2] (.Name "low" q3) q4, .Assign [.Attribute (.Name "self" r1) "high" r2] (.Name "high" r3) r4]
def iS : Scope := { kind := .function, names := [(PySem.Str.ofString "self", .local), (PySem.Str.ofString "low", .local), (PySem.Str.ofString "high", .local)], isGenerator := false, isCoroutine := false, more := [] }
structure Txt (K : Frag) (mg : Str → Option Value) (nm : Str) (C fI : Addr) : Prop where
  gC : mg nm = some (.ref C)
  cls : ∃ nm q N bs bm sn sub ab col dd k0 k1 k2 k3 k5, K.lookup C = some (excClassObj nm q C N bs bm true sn sub ab col dd k0 k1 k2 k3 k5 "ValueError.__new__") ∧ refsVE bm = true
  sa : findIn K (.ref C) "__setattr__" = some (some (.builtin "object.__setattr__"))
  ga : findIn K (.ref C) "__getattribute__" = some (some (.builtin "BaseException.__getattribute__"))
  gg : findIn K (.ref C) "__getattr__" = some none
  noL : findIn K (.ref C) "low" = some none
  noH : findIn K (.ref C) "high" = some none
  iC : findIn K (.ref C) "__init__" = some (some (.ref fI))
  tC : typeIn K (.ref fI) = some (.type "function")
  kC : keepIn K (.ref C) = true
  exC : subIn K (.ref C) (.type "BaseException") = some true
  tyC : typeIn K (.ref C) = some (.type "type")
  hdC : hasDictIn K C = true
  te : exmOne K (.ref C) (.ref C) = some true
  fn : ∃ (q : Str) (oc : Value) (od : Option Addr) (doc pm : Value) (an : Option Addr) (cdv ct : Value) (osl : Array (Option Value)) (p1 p2 p3 q1 q2 q3 q4 r1 r2 r3 r4 : Pos),
    K.lookup fI = some ⟨oc, od, .func (fnOf "__init__" q (iA p1 p2 p3) (iB q1 q2 q3 q4 r1 r2 r3 r4) iS .none .none doc pm an cdv ct), osl⟩ ∧ codeIn K cdv q = true
theorem two_size (u v : Value) : [u, v].length ≤ sizeLine := by
  rw [sizeLine_eq]
  exact (by decide : 2 ≤ 16777216)
abbrev m2 (u v : Value) : Str → Option Value := fun y => if y = "high" then some v else if y = "low" then some u else none
structure InitEnd (h h' : Heap) (x C dx t1 : Addr) (u v : Value) : Prop where
  keep : ∀ b o, b ≠ x → h.get? b = some o → h'.get? b = some o
  obj : h'.get? x = some { cls := .ref C, dict := some dx, data := .fields #[.ref t1, .none, .none, .none, .bool false, .none] }
  dbig : h.objs.size ≤ dx
  dne : dx ≠ x
  ns : h'.Ns1 dx (m2 u v)
structure OwnMade (h h' : Heap) (e C d : Addr) (u v : Value) : Prop where
  keep : ∀ b o, h.get? b = some o → h'.get? b = some o
  new : h.objs.size ≤ e
  obj : ∃ oe vs, h'.get? e = some oe ∧ oe.cls = .ref C ∧ oe.dict = some d ∧ oe.data = .fields vs ∧ vs[1]? = some .none ∧ vs[2]? = some .none
  dbig : h.objs.size ≤ d
  dne : d ≠ e
  ns : h'.Ns1 d (m2 u v)
section
variable {prog : Program} {w : World} {A : Around} {E : Value → Shared → Prop} {R : Result → Shared → Prop} {s : Shared} {K : Frag} {mg : Str → Option Value} {nm : Str} {C fI : Addr}
theorem val_init (T : Txt K mg nm C fI) {x t0 : Addr} {u v : Value} (X : K.In s.heap) (hlim : s.heap.NoLimit) (hx : s.heap.get? x = some (excO C t0)) (hnx : K.lookup x = none) (hroom : A.depth < recursionLimit)
    (hq : ∀ h' tk dx, InitEnd s.heap h' x C dx t0 u v → R (.ok (.ret .none)) { s with heap := h', toks := tk }) :
    codeAny (model prog w) A (.call (.ref fI) ⟨[.ref x, u, v], []⟩) R s := by
  obtain ⟨qn, oc, od, doc, pm, an, cdv, ct, osl, p1, p2, p3, q1, q2, q3, q4, r1, r2, r3, r4, ho, hcd⟩ := T.fn
  obtain ⟨cnm, q, N, bs, bm, sn, sub, ab, col, dd, k0, k1, k2, k3, k5, hC, hbm⟩ := T.cls
  have hcl : clsIn K C = some { name := cnm, bases := bs, mro := .ref C :: bm, ns := N, qualname := q, hasDict := true, slotNames := sn, subclasses := sub, abstract := ab, collection := col, hasDel := false } := by unfold clsIn; rw [hC] <;> rfl
  refine Att.call_fn (binds := [("self", .ref x), ("low", u), ("high", v)]) X hlim ho hcd hroom (BindsTo.of_eq (by first | rfl | with_unfolding_all rfl)) (by first | rfl | decide | with_unfolding_all rfl) (fun s₁ IC => ?_) rfl rfl rfl
  obtain ⟨h₁, tk₁, rfl⟩ := IC.toInCall.same
  have k : ∀ b o, s.heap.get? b = some o → h₁.get? b = some o := IC.toInCall.keep
  have hn := IC.toInCall.ns
  have hxL : s.heap.objs.size ≠ x := Nat.ne_of_gt (Heap.lt_size hx)
  have X₁ : K.In h₁ := X.keeps k
  have hx₁ := k _ _ hx
  show wpAny _ _ (execs _ _) _ _ _
  refine wpAny_execs_cons (plainObj_wpAny_Assign_Attribute ?_)
  refine ldC (v := u) hn (by first | rfl | with_unfolding_all rfl | kernel_rfl) (ldC (v := .ref x) hn (by first | rfl | with_unfolding_all rfl | kernel_rfl) ?_)
  refine set_plain X₁ (ox := excO C t0) (od := none) ⟨hx₁, rfl, rfl, trivial⟩ T.sa ?_
  refine exc_osa X₁ hx₁ hcl (show refsVE (.ref C :: bm) = true from hbm) rfl T.noL (fun h₃ tk₃ dx k₃ dn dne hx₃ hn₃ => ?_)
  have z : s.heap.objs.size < h₁.objs.size := hn.lt
  have X₃ : K.In h₃ := kept_but X₁ hnx k₃
  have dL : dx ≠ s.heap.objs.size := fun e => absurd (Nat.lt_of_lt_of_le z dn) (by rw [e]; exact Nat.lt_irrefl _)
  have hnL : h₃.Ns s.heap.objs.size _ := hn.at fun o e => k₃ _ o hxL e
  show wpAny _ _ (execs _ _) _ _ _
  refine wpAny_execs_cons (plainObj_wpAny_Assign_Attribute ?_)
  refine ldC (v := v) hnL (by first | rfl | with_unfolding_all rfl | kernel_rfl) (ldC (v := .ref x) hnL (by first | rfl | with_unfolding_all rfl | kernel_rfl) ?_)
  have hw : Within (fun y => if y = "low" then some u else none) ["low"] := fun y hy => by
    by_cases e : y = "low"
    · rw [e]; exact List.mem_cons_self
    · exact absurd (if_neg e) hy
  obtain ⟨oD, _, _, hoD, _, _⟩ := hn₃.count hw
  refine set_plain X₃ (ox := { cls := .ref C, dict := some dx, data := .fields #[.ref t0, .none, .none, .none, .bool false, .none] }) (od := some oD) ⟨hx₃, rfl, rfl, hoD⟩ T.sa ?_
  refine PySem.OEX.osa_old X₃ hx₃ hn₃ hw (by decide) hcl (show refsVE (.ref C :: bm) = true from hbm) rfl T.noH (fun h₄ tk₄ k₄ hn₄ => ?_)
  show wpAny _ _ (execs _ _) _ _ _
  have old : ∀ b o, b ≠ x → s.heap.get? b = some o → h₄.get? b = some o := fun b o hb e =>
    k₄ b o (Nat.ne_of_lt (Nat.lt_of_lt_of_le (Nat.lt_trans (Heap.lt_size e) z) dn)) (k₃ b o hb (k b o e))
  exact wpAny_execs_nil (hq h₄ tk₄ dx ⟨old, k₄ _ _ (Ne.symm dne) hx₃, Nat.le_of_lt (Nat.lt_of_lt_of_le z dn), dne, hn₄⟩)
theorem val_made (T : Txt K mg nm C fI) {u v : Value} (X : K.In s.heap) (hlim : s.heap.NoLimit) (hroom : A.depth + 1 < recursionLimit)
    (hq : ∀ h' tk e d, OwnMade s.heap h' e C d u v → R (.ok (.ret (.ref e))) { s with heap := h', toks := tk }) :
    codeAny (model prog w) A (.call (.ref C) ⟨[u, v], []⟩) R s := by
  obtain ⟨cnm, q, N, bs, bm, sn, sub, ab, col, dd, k0, k1, k2, k3, k5, hC, hbm⟩ := T.cls
  obtain ⟨hp, g, dr, tk, os⟩ := s
  have k : ∀ b o, hp.get? b = some o → ((hp.push (kdv_tup [u, v])).push (excO C hp.objs.size)).get? b = some o := fun b o e => Heap.get?_push_of_some _ (Heap.get?_push_of_some _ e)
  have hget : ((hp.push (kdv_tup [u, v])).push (excO C hp.objs.size)).get? (hp.objs.size + 1) = some (excO C hp.objs.size) := by heap_get
  have hnx : K.lookup (hp.objs.size + 1) = none := by
    cases e : K.lookup (hp.objs.size + 1) with
    | none => rfl
    | some o =>
      have z : hp.get? (hp.objs.size + 1) = some o := X _ _ e
      exact absurd (Nat.lt_of_succ_lt (Heap.lt_size z)) (Nat.lt_irrefl _)
  refine call_own F.excBase_ValueError (fun X => refsVE_contains X bm hbm) (X _ _ hC) (looks_findIn X T.iC) (fun self => bind_fn X self T.tC) (two_size u v) ?_
  refine val_init (s := ⟨(hp.push (kdv_tup [u, v])).push (excO C hp.objs.size), g, dr, tk, os⟩) T (X.keeps k) (hlim.keeps k) hget hnx ?_ fun h' tk' dx ⟨k', hx, dn, dne, hns⟩ => ?_
  · show A.depth + 1 < recursionLimit
    exact hroom
  · have old : ∀ b o, hp.get? b = some o → h'.get? b = some o := fun b o e => k' b o (Nat.ne_of_lt (Nat.lt_succ_of_lt (Heap.lt_size e))) (k b o e)
    have z : hp.objs.size + 1 + 1 ≤ dx := by
      first
        | (simpa only [Heap.size_push] using dn)
        | exact dn
        | (have q := dn; rw [Heap.size_push, Heap.size_push] at q; exact q)
    exact ⟨rfl, hq h' tk' (hp.objs.size + 1) dx ⟨old, Nat.le_succ _, ⟨_, _, hx, rfl, rfl, rfl, rfl, rfl⟩, Nat.le_trans (Nat.le_trans (Nat.le_succ _) (Nat.le_succ _)) z, dne, hns⟩⟩
end
end Val2
end PySem
namespace L2
open PySem PySem.Spec PyProof.Rows
/-- the two fields -/
abbrev xd2 (u v : V) : HO := .xd [(("high" : Str), v), (("low" : Str), u)]
theorem relO_nil (f : Str) : RelO (List.lookup f ([] : List (Str × V))) (none : Option Value) := trivial
section
variable {X : Cx} {nm : Str} {C fI : Addr}
def tMk2 (C : Addr) (ta : TA) : St → Hp → XK → Prop := fun σ H Q => ta σ H fun vs H1 => ∃ u v, vs = [u, v] ∧ ∀ d, H1 d = none → Q (.ref C) (some d) (upd H1 d (xd2 u v))
theorem relO_2 {u v : V} {u' v' : Value} (ru : RelV u u') (rv : RelV v v') (f : Str) : RelO (List.lookup f [(("high" : Str), v), (("low" : Str), u)]) (PySem.Val2.m2 u' v' f) := by
  have r := relO_put (f := ("high" : Str)) rv (relO_put (f := ("low" : Str)) ru relO_nil) f
  exact r
theorem pmk_2N {a b : Expr} {ta : TA} {p pos : Pos} {k : Nat} (T : PySem.Val2.Txt X.K X.mg nm C fI) (hr : Room k X.A) (ha : PA X [a, b] ta) (hg : Gl X nm := by rfl) (hdb : (nm == ("__debug__" : Str)) = false := by decide)
    (he : starEach (a :: [b]) X.env = (false, eval a X.env) :: starEach [b] X.env := by rfl) (hpl : (backTo pos (starEach [b] X.env)).any (·.1) = false := by rfl) :
    L2N.PMk X (.Call (.Name nm p) [a, b] [] pos) (tMk2 C ta) := by
  intro pins s σ H Q I h
  refine wpAny_Call_Name_kw (ld_glob I hg T.gC ?_ hdb)
  refine PySem.W.callWith_K (h₀ := X.base) I.ok.mod.kin T.kC (thn (ha.run pos pins s σ H _ I h) fun us s1 hh => ?_) he hpl
  obtain ⟨vs, H1, I1, r1, u, v, ev, q1⟩ := hh
  subst ev
  refine ⟨I1.kIn, ?_⟩
  obtain ⟨u', v', rfl, ru, rv⟩ := vals2 r1
  show wpAny _ _ (call (.ref C) [u', v']) _ _ _
  have hlim := I1.nolimit
  obtain ⟨hp, g, dr, tk, os⟩ := s1
  refine wpAny_call (PySem.Val2.val_made T I1.kIn hlim (by have := hr.dp; omega) fun h' tk' e d M => ?_)
  show L2N.MkP X pins σ Q (.ref e) ⟨h', g, dr, tk', os⟩
  obtain ⟨oe, fv, hoe, hc, hd, hdat, h1, h2⟩ := M.obj
  have hns := M.ns
  obtain ⟨G', g1, g2⟩ := restrict h' fun b => decide (b ≠ e)
  have gk : ∀ b, b ≠ e → G'.get? b = h'.get? b := fun b hb => g1 b (decide_eq_true hb)
  have ge : G'.get? e = none := g2 e (by simp)
  have old : ∀ b o, hp.get? b = some o → G'.get? b = some o := fun b o q => (gk b (Nat.ne_of_lt (Nat.lt_of_lt_of_le (Heap.lt_size q) M.new))).trans (M.keep b o q)
  have ob : ObjOk X.prog X.w (upd H1 d (xd2 u v)) G' d (xd2 u v) :=
    ⟨_, hns.at (fun o q => (gk d M.dne).trans q), fun f => relO_2 ru rv f⟩
  have J : Inv X pins σ (upd H1 d (xd2 u v)) ⟨G', g, dr, tk', os⟩ := I1.laid (t' := tk') old M.dbig ob
  refine ⟨e, oe, fv, ⟨G', g, dr, tk', os⟩, _, .ref C, some d, rfl, J, fun b o q => ?_, ge, hoe, ⟨hc, hd, fun vs ev => by rw [hdat] at ev; cases ev; exact h2⟩, hdat, h1, ?_, rfl, I1.bare, raises_own T.exC T.tyC, q1 d (I1.hok.fresh M.dbig)⟩
  · by_cases hb : b = e
    · have q' : G'.get? b = some o := q
      rw [hb, ge] at q'; cases q'
    · exact (gk b hb).symm.trans q
  · rw [upd_ne (Ne.symm M.dne)]
    exact I1.hok.fresh M.new
def tRaise2 (C : Addr) (W : WX) (ta : TA) : TS := fun _ σ H => tMk2 C ta σ H fun cls d H' => W cls d σ H'
theorem ps_raise2N {a b : Expr} {ta : TA} {W : WX} {p pos pos2 : Pos} {k : Nat} (hc : X.calm = true) (T : PySem.Val2.Txt X.K X.mg nm C fI) (hr : Room k X.A) (tk : L2N.Takes X W) (ha : PA X [a, b] ta) (hg : Gl X nm := by rfl) (hdb : (nm == ("__debug__" : Str)) = false := by decide)
    (he : starEach (a :: [b]) X.env = (false, eval a X.env) :: starEach [b] X.env := by rfl) (hpl : (backTo pos (starEach [b] X.env)).any (·.1) = false := by rfl) :
    PS X (.Raise (some (.Call (.Name nm p) [a, b] [] pos)) none pos2) (tRaise2 C W ta) := L2N.ps_raise hc tk (pmk_2N T hr ha hg hdb he hpl)
end
end L2

set_option maxHeartbeats 4000000
/-! isinstance of a caught error of an own class that has a dict of its own -/
namespace Vk
open PySem PySem.W PySem.Spec PySem.Calls PyProof.Rows
section
variable {prog : Program} {w : World} {A : Around} {E : Value → Shared → Prop} {s : Shared} {K : Frag} {x D : Addr} {ox : Obj} {od : Option Obj}
theorem found_data {C : Addr} {name : Str} {a g : Value} (hc : (clsIn K C).isSome = true) (ha : findIn K (.ref C) name = some (some a)) (hg : specialIn K a "__get__" = some (some g)) (ht : takesIn K a = some true) : findObj K C od name = some (.bind g a) := by
  obtain ⟨cd, hc⟩ := Option.isSome_iff_exists.mp hc
  simp only [findObj, hc, ha, Option.bind_some, hg, ht]
/-- what the class must say -/
abbrev Ec (K : Frag) (D : Addr) : Prop := L2.ExcC K D
theorem class_asked {Q : Option Value → Shared → Prop} (C : Ec K D) (X : K.In s.heap) (I : InstAt s.heap x ox D od) (h : Q (some (.ref D)) { s with toks := s.toks + 1 }) : wpAny (model prog w) A (getAttr? (.ref x) "__class__") Q E s := by
  have isC : (clsIn K D).isSome = true := by
    obtain ⟨cd, e, _⟩ := any_some C.hd
    rw [e]
    rfl
  obtain ⟨hp, g, d, t, os⟩ := s
  have T0 := I.type (M := model prog w)
  have F1 := looks_findIn (M := model prog w) X C.hg
  have F2 := looks_findIn (M := model prog w) X C.hk
  have F3 := looks_find (M := model prog w) X I (found_data isC C.ha C.hn C.ht)
  have below : Looks (model prog w) hp (isInstance (.ref x) (.type "BaseException")) true := T0.andThen (looks_subIn X C.hs)
  have q1 : (Value.builtin "BaseException.__getattribute__" == Value.builtin "object.__getattribute__") = false := by decide +kernel
  have q2 : (onTheHeap (Value.ref D) && Value.builtin "BaseException.__getattribute__" == Value.builtin "object.__getattribute__") = false := by rw [q1]; rfl
  unfold getAttr? getAttrBy? getAttrBy
  refine wpAny_bind (wpAny_mkText (wpAny_bind (wpAny_attempt (wpAny_holding (wpAny_bind (T0.at (wpAny_bind (F1.at ?_))))))))
  show wpAny _ _ (if (onTheHeap (Value.ref D) && Value.builtin "BaseException.__getattribute__" == Value.builtin "object.__getattribute__") = true then _ else _) _ _ _
  rw [q2, if_neg Bool.false_ne_true]
  unfold getAttrByItsOwn hookBefore
  refine wpAny_bind ?_
  rw [if_pos (show onTheHeap (Value.ref D) = true from rfl)]
  refine F2.at (wpAny_bind (wpAny_attempt (wpAny_holding ?_)))
  unfold callGetattribute
  rw [show (false && onTheHeap (Value.builtin "BaseException.__getattribute__")) = false from rfl, if_neg Bool.false_ne_true]
  unfold boundAndCalled
  rw [PySem.F.excAttr_ValueError.ga.bind (.ref x)]
  refine wpAny_bind (wpAny_pure ?_)
  show wpAny _ _ (call (.builtin "BaseException.__getattribute__") [.ref x, .str "__class__" t]) _ _ _
  refine wpAny_call (codeAny_call_builtin PySem.F.excAttr_ValueError.ga.plain PySem.F.entry_bexc_ga ?_)
  refine @check_slot (model prog w) _ _ ⟨hp, g, d, t + 1, os⟩ "BaseException.__getattribute__" "BaseException" "__getattribute__" (.ref x) [.str "__class__" t] [] _ (by decide +kernel) (by decide +kernel) below (PySem.F.args_bexc_ga (.ref x) (.str "__class__" t)) ?_
  unfold Builtin.«object.__getattribute__»
  refine wpAny_bind (wpAny_of_eq (a := ((Value.ref x : Value), [Value.str "__class__" t])) (by first | rfl | (simp only [slotArgs]; rfl)) ?_)
  refine wpAny_bind (wpAny_pure (wpAny_bind (T0.at (wpAny_bind (F3.at ?_)))))
  show wpAny _ _ (holding [Value.builtin "object.__class__"] (call (.builtin "getset_descriptor.__get__") [.builtin "object.__class__", .ref x, .ref D]) >>= ret) _ _ _
  refine wpAny_bind (wpAny_holding (wpAny_call (class_get (s := ⟨hp, g, d, t + 1, os⟩) (ox := ox) (od := od) X I C.hm ?_)))
  refine wpAny_pure ?_
  show wpAny _ _ (handedOut (.ref D)) _ _ _
  rw [handedOut_of (v := .ref D) rfl]
  first
    | exact wpAny_pure (wpAny_pure h)
    | exact wpAny_pure h
    | exact wpAny_pure (wpAny_bind (wpAny_pure (wpAny_pure h)))
theorem kit_exc (C : Ec K D) : KitX K (.ref x) (.ref D) (fun h => InstAt h x ox D od) where
  ty := fun _ _ _ I => I.type
  it := fun _ _ X _ => by
    obtain ⟨cdD, hcD, _⟩ := any_some C.hd
    unfold clsIn at hcD
    split at hcD
    · rename_i c' d' cd' sl' ho
      intro A' Q' E' s' k q
      unfold isType loadHead
      exact wpAny_bind (wpAny_loadPart (k _ _ (X _ _ ho)) (wpAny_pure q))
    · cases hcD
  ne := fun h tp dd its n sl X htp => by
    obtain ⟨cdD, hcD, _⟩ := any_some C.hd
    unfold clsIn at hcD
    split at hcD
    · rename_i c' d' cd' sl' ho
      refine Bool.eq_false_iff.mpr fun q => ?_
      have e : D = tp := Value.ref.inj (beq_iff_eq.mp q)
      rw [← e] at htp
      cases (X _ _ ho).symm.trans htp
    · cases hcD
  ca := fun X I k => class_asked C X I k
end
end Vk
namespace Vk
open PySem PySem.Spec PyProof.Rows L2
/-- isinstance(e, c), e the exception that the suite holds, its dict tracked (or none) -/
def rIsG (K : PySem.W.Frag) (D a : Addr) (d : Option Addr) : List V → Hp → VK → Prop := fun xs H Q => ∃ (c : V) (cv : Value) (b : Bool), xs = [.ref a, c] ∧ ClsV c cv ∧ (d = none ∨ ∃ dd fs, d = some dd ∧ H dd = some (.xd fs)) ∧ PySem.W.kitOne K (.ref D) cv = some b ∧ Q (.bl b) H
theorem call_isG {X : Cx} {a D : Addr} {oe : Obj} {d : Option Addr} {pn : List (Addr × Obj)} (C : ExcC X.K D) (hz : Zc (.ref D) d oe) (hf : ∃ vs, oe.data = .fields vs) : CallR (X.suite a ((a, oe) :: pn)) (.builtin "isinstance") (rIsG X.K D a d) := by
  intro pins s σ H xs us Q I r h
  obtain ⟨c, cv, b, rfl, hcv, hd, e, q⟩ := h
  obtain ⟨u1, u2, rfl, r1, r2⟩ := vals2 r
  obtain rfl : u1 = Value.ref a := r1
  have ec := hcv.eq r2
  subst ec
  obtain ⟨hget, _⟩ := I.pin (a, oe) (List.mem_append_left _ List.mem_cons_self)
  obtain ⟨vs, hv⟩ := hf
  obtain ⟨od, J⟩ : ∃ od, PySem.W.InstAt s.heap a oe D od := by
    have no : PySem.W.notCls oe = true := by unfold PySem.W.notCls; rw [hv] <;> rfl
    rcases hd with rfl | ⟨dd, fs, rfl, hdd⟩
    · exact ⟨none, hget, hz.1, no, by rw [hz.2]; trivial⟩
    · have hx : ObjOk X.prog X.w H s.heap dd (.xd fs) := I.hok dd _ hdd
      obtain ⟨mA, hns, _⟩ := hx
      obtain ⟨o, ho, _⟩ := lookIn_ns hns
      exact ⟨some o, hget, hz.1, no, by rw [hz.2]; exact ho⟩
  exact PySem.W.kia_one (kit_exc C) I.kIn J e (fun z => nomatch z) fun tk => ⟨.bl b, H, I.kept (t' := tk) fun _ _ z => z, rfl, q⟩
end Vk

set_option maxHeartbeats 2000000
/-! several clauses «except X as n» behind one try -/
namespace L2
open PySem PySem.Spec PyProof.Rows
abbrev Clause := Value × Nat × (Addr → Value → Option Addr → TS)
/-- behind a suite its name is gone -/
def Ends.off (i : Nat) (D : Ends) : Ends := ⟨fun τ G => D.nx (τ.set i none) G, D.rt, fun τ G => D.bk (τ.set i none) G, fun τ G => D.ct (τ.set i none) G⟩
def wAses (K : PySem.W.Frag) (W0 : WX) (D : Ends) : List Clause → WX
  | [] => W0
  | q :: more => fun k dd τ G => ∃ hit, PySem.W.exmOne K k q.1 = some hit ∧ (hit = true → ∀ z, G z = none → q.2.2 z k dd (D.off q.2.1) (τ.set q.2.1 (some (.ref z))) G) ∧ (hit = false → wAses K W0 D more k dd τ G)
inductive AsOk (X : Cx) : List ExceptHandler → List Clause → Prop
  | nil : AsOk X [] []
  | cons {x n : Str} {c : Value} {i : Nat} {ts : Addr → Value → Option Addr → TS} {b0 : Stmt} {bs : List Stmt} {p1 p2 : Pos} {es : List ExceptHandler} {qs : List Clause} (hc : Names X x c) (hi : X.N[i]? = some n) (hk : X.env.kindOf n = some .local)
      (hsu : ∀ (z : Addr) (oz : Obj) (k : Value) (dd : Option Addr) (pn : List (Addr × Obj)), Zc k dd oz → (∃ vs, oz.data = .fields vs) → PSs (X.suite z ((z, oz) :: pn)) (b0 :: bs) (ts z k dd)) (more : AsOk X es qs) :
      AsOk X (.ExceptHandler (some (.Name x p1)) (some n) (b0 :: bs) p2 :: es) ((c, i, ts) :: qs)
section
variable {X : Cx} {body : List Stmt} {e0 : ExceptHandler} {es : List ExceptHandler} {qs : List Clause} {pos : Pos} {tb : WX → TS} {W0 : WX}
theorem ps_try_ases (hst : X.stack = X.env :: X.outer) (hfr : X.env.frame = some X.env.locals) (hnd : X.N.Nodup) (tk : Takes X W0)
    (hb : ∀ (W : WX) (pn : List (Addr × Obj)) (xe : Value → Shared → Prop), Takes (X.tr pn xe) W → PassesOwn (model X.prog X.w) X.A X.env xe → PSs (X.tr pn xe) body (tb W))
    (hh : AsOk X (e0 :: es) qs) : PS X (.Try body (e0 :: es) [] [] pos) (fun D τ G => tb (wAses X.K W0 D qs) D τ G) := by
  refine ⟨fun pins s τ0 G0 D inv0 wish => ?_⟩
  have okk := inv0.ok
  have frm : X.A.frames = some (X.env :: X.outer) := okk.frames.trans (congrArg some hst)
  refine wpAny_Try_except (wpAny_mono ((hb (wAses X.K W0 D qs) (X.pn ++ pins) (fun u t1 => wpAny (model X.prog X.w) X.A (noteFrame u X.env) (fun _ t2 => wpAny (model X.prog X.w) X.A (setFlight u none) (fun _ t3 =>
    wpAny (model X.prog X.w) X.A (handleBy u X.env (e0 :: es)) (SP X pins D) X.xe t3) X.xe t2) X.xe t1) (fun u t raised => ?caught) PassesOwn.looking).run [] s τ0 G0 D (inv0.toTry _) wish) (fun fl t got => ?through) (fun _ _ y => y))
  case through =>
    cases fl with
    | next => obtain ⟨τ, G, J, q⟩ := got; exact wpAny_execs_nil ⟨τ, G, J.ofTry okk, q⟩
    | brk => obtain ⟨τ, G, J, q⟩ := got; exact ⟨τ, G, J.ofTry okk, q⟩
    | cont => obtain ⟨τ, G, J, q⟩ := got; exact ⟨τ, G, J.ofTry okk, q⟩
    | ret u => obtain ⟨v, τ, G, J, r, q⟩ := got; exact ⟨v, τ, G, J.ofTry okk, r, q⟩
  case caught =>
    obtain ⟨z, B, sB, pins1, τ, G, k, dd, rfl, jT, bare, upB, inSky, zfree, os1, same1, wants⟩ := raised
    have j0 : Inv X pins τ G sB := jT.ofTry okk
    have inSky1 : Sky B (X.env :: X.outer) z (Zc k dd) X.env.locals t.heap := hst ▸ inSky
    show wpAny (model X.prog X.w) X.A (noteFrame (.ref z) X.env) _ _ _
    refine Sky.land Zc.steady frm hfr inSky1 fun hA flA upA => ?_
    have jA : Inv X pins τ G { t with heap := hA } := j0.landed bare flA.1 (upB.trans upA) os1 same1
    obtain ⟨oA, vA, getA, zcA, datA⟩ := flA.there
    have notF : z ∉ frs (X.env :: X.outer) := by
      intro hm
      obtain ⟨_, o', e', hnf⟩ := flA.2.2.1.mem hm
      rw [getA] at e'
      cases e'
      exact hnf _ datA
    have zL : z ≠ X.env.locals := fun y => notF (List.mem_filterMap.mpr ⟨X.env, List.mem_cons_self, hfr.trans (congrArg some y.symm)⟩)
    have zF : z ∉ X.fs := fun hm => by
      obtain ⟨en, hen, y⟩ := List.mem_filterMap.mp hm
      exact notF (List.mem_filterMap.mpr ⟨en, List.mem_cons_of_mem _ hen, y⟩)
    have jS := jA.suite getA datA zfree zL zF
    have turn : ∀ {es1 : List ExceptHandler} {qs1 : List Clause}, AsOk X es1 qs1 → wAses X.K W0 D qs1 k dd τ G → wpAny (model X.prog X.w) X.A (handleBy (.ref z) X.env es1) (SP X pins D) X.xe { t with heap := hA } := by
      intro es1 qs1 kk
      induction kk with
      | nil =>
        intro out
        refine wpAny_handleBy_nil ?_
        obtain ⟨_, _, _, oz, vs, Tr, oTr, tsr, geto, zco, dato, one, _⟩ := id flA
        unfold PySem.passOn
        refine wpAny_bind (wpAny_field geto dato one ?_)
        rw [if_neg (by simp : ¬ ((Value.ref Tr == Value.none) = true))]
        have away : wpAny (model X.prog X.w) X.A (setFlight (.ref z) X.env.frame) (fun _ t4 => wpAny (model X.prog X.w) X.A (throw (.ref z) : Sem Flow) (SP X pins D) X.xe t4) X.xe { t with heap := hA } := by
          rw [hfr]
          exact HandSPX.setFlight_upZ flA fun h4 sk4 up4 => wpAny_throw (tk _ _ ⟨z, B, sB, pins, τ, G, k, dd, rfl, j0, bare, (upB.trans upA).trans up4, .inr (.inr (hst.symm ▸ sk4)), zfree, os1, same1, out⟩)
        first | exact wpAny_bind (wpAny_pure (wpAny_bind away)) | exact wpAny_bind away
      | @cons x n c i ts b0 bs p1 p2 es2 qs2 hc hi hk hsu more ih =>
        rintro ⟨hit, isHit, onHit, offHit⟩
        refine wpAny_handleBy_cons (codeAny_handlers_test ?_) (by intro y; cases y)
        have looksT : PySem.W.Looks (model X.prog X.w) hA (typeOf (.ref z)) k := fun A Q E s kp y => wpAny_typeOf_ref (kp _ _ getA) (by rw [zcA.1]; exact y)
        have looksM := PySem.W.exm_one (M := model X.prog X.w) jA.kIn looksT isHit
        have named : ∀ {Q : Value → Shared → Prop} {E : Value → Shared → Prop}, Q c { t with heap := hA } → wpAny (model X.prog X.w) (X.A.mark (some (.ref z))) (eval (.Name x p1) X.env) Q E { t with heap := hA } := fun {Q E} y =>
          match hc with
          | ⟨hg, hdb, .inl hm⟩ => ld_glob (X := X.suite z ((z, oA) :: (X.pn ++ pins))) jS hg hm y hdb
          | ⟨hg, hdb, .inr ⟨hm, hv, hnn⟩⟩ => ld_blt (X := X.suite z ((z, oA) :: (X.pn ++ pins))) jS hg hm hv y hnn hdb
        refine named (looksM.here ?_)
        cases hit with
        | false => exact ih (offHit rfl)
        | true =>
          refine codeAny_handlers_suite_as (HandSPX.lands_againZ flA fun hB flB upB2 => ?_)
          have jB : Inv X pins τ G { t with heap := hB } := j0.landed bare flB.1 ((upB.trans upA).trans upB2) os1 same1
          obtain ⟨oB, vB, getB, zcB, datB⟩ := flB.there
          have jSB := jB.suite getB datB zfree zL zF
          refine store_ok (X := X.suite z ((z, oB) :: (X.pn ++ pins))) (v := .ref z) jSB hnd hi (.inl hk) rfl (fun t5 S5 => ?_) (.inr hk)
          refine wpAny_mono ((hsu z oB k dd (X.pn ++ pins) zcB ⟨_, datB⟩).run [] t5 _ G _ S5 (onHit rfl z zfree)) (fun fl t6 got => ?_) (fun _ _ y => y.elim)
          have fin : ∀ {τ6 : St} {G6 : Hp} {Q : Shared → Prop}, Inv (X.suite z ((z, oB) :: (X.pn ++ pins))) [] τ6 G6 t6 → (∀ t7, Inv X pins (τ6.set i none) G6 t7 → Q t7) →
              wpAny (model X.prog X.w) X.A (do bindName X.env n .none; unbindBehindTheSuite X.env n p2) (fun _ t7 => Q t7) X.xe t6 := fun S6 hq => gone_ok (S6.unsuite okk) hnd hi hk hq
          cases fl with
          | next => obtain ⟨_, _, S6, q6⟩ := got; exact fin S6 fun _ J7 => ⟨_, _, J7, q6⟩
          | brk => obtain ⟨_, _, S6, q6⟩ := got; exact fin S6 fun _ J7 => ⟨_, _, J7, q6⟩
          | cont => obtain ⟨_, _, S6, q6⟩ := got; exact fin S6 fun _ J7 => ⟨_, _, J7, q6⟩
          | ret u => obtain ⟨_, _, _, S6, r6, q6⟩ := got; exact fin S6 fun _ J7 => ⟨_, _, _, J7, r6, q6⟩
    exact turn hh wants
end
end L2

/-! defs that may raise, and calls with keywords -/
namespace Vk
open PySem L2 PyProof.Rows
/-- a def that may raise: its promise says when -/
structure DefX (P : Program) (w : World) (K : PySem.W.Frag) (mg : Str → Option Value) (base : Heap) (k : Nat) (x : Str) (ps : List Str) (sp : Sp) (f : Addr) (fd : FuncData) : Prop where
  ok : FnOk P w K mg base (L2.CX P w) k f fd ps sp
  m : mg x = some (.ref f)
  kp : PySem.W.keepIn K (.ref f) = true
  b : Binds K fd ps []
theorem DefX.up {P : Program} {w : World} {K : PySem.W.Frag} {mg : Str → Option Value} {base : Heap} {j k : Nat} {x : Str} {ps : List Str} {sp : Sp} {f : Addr} {fd : FuncData} (d : DefX P w K mg base j x ps sp f fd) (h : j ≤ k) : DefX P w K mg base k x ps sp f fd := ⟨d.ok.mono h, d.m, d.kp, d.b⟩
/-- with n values by place and keywords ks -/
structure DefXN (P : Program) (w : World) (K : PySem.W.Frag) (mg : Str → Option Value) (base : Heap) (k : Nat) (x : Str) (ps : List Str) (n : Nat) (ks : List Str) (sp : Sp) (f : Addr) (fd : FuncData) : Prop where
  ok : FnOk P w K mg base (L2.CX P w) k f fd ps sp
  m : mg x = some (.ref f)
  kp : PySem.W.keepIn K (.ref f) = true
  b : KBn K fd ps n ks (fun us ws => us ++ ws) (fun vs zs => vs ++ zs)
theorem DefXN.up {P : Program} {w : World} {K : PySem.W.Frag} {mg : Str → Option Value} {base : Heap} {j k n : Nat} {x : Str} {ps ks : List Str} {sp : Sp} {f : Addr} {fd : FuncData} (d : DefXN P w K mg base j x ps n ks sp f fd) (h : j ≤ k) : DefXN P w K mg base k x ps n ks sp f fd := ⟨d.ok.mono h, d.m, d.kp, d.b⟩
theorem vals_app : ∀ {vs : List V} {us : List Value} {zs : List V} {ws : List Value}, Vals vs us → Vals zs ws → Vals (vs ++ zs) (us ++ ws)
  | _, _, _, _, .nil, h => h
  | _, _, _, _, .cons r t, h => .cons r (vals_app t h)
/-- keyword-only parameters without defaults, all given -/
theorem kbn_of {K : PySem.W.Frag} {x qual : Str} {st : Stmt} {f : Addr} {fd : FuncData} {ps ks : List Str} {n : Nat} (F : Fun K x qual st f fd)
    (h : ∀ (kV doc pm : Value) (an : Option Addr) (cdv ct : Value) (us ws : List Value), us.length = n → ws.length = ks.length → bindArgs (PySem.W.fnOf x qual (defArgs st) (defBody st) (defScope st) .none kV doc pm an cdv ct) ⟨us, ks.zip ws⟩ = pure (ps.zip (us ++ ws))) :
    KBn K fd ps n ks (fun us ws => us ++ ws) (fun vs zs => vs ++ zs) := by
  obtain ⟨oc, od, kV, doc, pm, an, cdv, ct, osl, rfl, lk, hcd⟩ := F.ex
  exact ⟨fun s us ws _ l1 l2 => BindsTo.of_eq (h kV doc pm an cdv ct us ws l1 l2), vals_app⟩
section
variable {X : Cx} {k n : Nat} {f : Addr} {fd : FuncData} {ps ks : List Str} {sp : Sp} {x : Str} {p pos : Pos} {e : Expr} {es : List Expr} {kws : List Keyword} {t tkw : TA} {W : WX}
/-- called where nothing is let out -/
theorem pcallL (D : DefX X.prog X.w X.K X.mg X.base k x ps sp f fd) (hr : Room k X.A) (ha : PA X (e :: es) t)
    (hg : Gl X x := by rfl) (hdb : (x == ("__debug__" : Str)) = false := by decide) (he : starEach (e :: es) X.env = (false, eval e X.env) :: starEach es X.env := by rfl) (hpl : (backTo pos (starEach es X.env)).any (·.1) = false := by rfl) :
    PE X (.Call (.Name x p) (e :: es) [] pos) (tCall sp [] E0 t) := pe_call D.ok hr hg D.m D.kp D.b .nil passL ha hdb he hpl
/-- called where the wish W takes what it raises -/
theorem pcallX (D : DefX X.prog X.w X.K X.mg X.base k x ps sp f fd) (hr : Room k X.A) (tk : Takes X W) (ha : PA X (e :: es) t)
    (hg : Gl X x := by rfl) (hdb : (x == ("__debug__" : Str)) = false := by decide) (he : starEach (e :: es) X.env = (false, eval e X.env) :: starEach es X.env := by rfl) (hpl : (backTo pos (starEach es X.env)).any (·.1) = false := by rfl) :
    PE X (.Call (.Name x p) (e :: es) [] pos) (tCallS sp (WE W) t) := pe_callS D.ok hr hg D.m D.kp D.b (fun σ => passAt tk σ) ha hdb he hpl
theorem pcallLN (D : DefXN X.prog X.w X.K X.mg X.base k x ps n ks sp f fd) (hr : Room k X.A) (ha : PA X (e :: es) t) (hkw : PK X kws tkw)
    (hg : Gl X x := by rfl) (hall : (backToKw pos (keywordEach kws X.env)).all (·.1.isSome) = true := by rfl) (hks : (backToKw pos (keywordEach kws X.env)).filterMap (·.1) = ks := by rfl)
    (hdb : (x == ("__debug__" : Str)) = false := by decide) (he : starEach (e :: es) X.env = (false, eval e X.env) :: starEach es X.env := by rfl)
    (hpl : ((backTo pos (starEach (e :: es) X.env)).any (·.1) || (backToKw pos (keywordEach kws X.env)).any (·.1.isNone)) = false := by rfl) :
    PE X (.Call (.Name x p) (e :: es) kws pos) (tCallN n ks.length sp (fun vs zs => vs ++ zs) E0 t tkw) := pe_callN D.ok hr hg D.m D.kp D.b passL ha hkw hall hks hdb he hpl
def tCallNS (n m : Nat) (sp : Sp) (E : L2.St → XK) (t tkw : TA) : TE := fun σ H Q => t σ H fun vs H1 => tkw σ H1 fun zs H2 => vs.length = n ∧ zs.length = m ∧ sp (vs ++ zs) H2 Q (E σ)
theorem pcallXN (D : DefXN X.prog X.w X.K X.mg X.base k x ps n ks sp f fd) (hr : Room k X.A) (tk : Takes X W) (ha : PA X (e :: es) t) (hkw : PK X kws tkw)
    (hg : Gl X x := by rfl) (hall : (backToKw pos (keywordEach kws X.env)).all (·.1.isSome) = true := by rfl) (hks : (backToKw pos (keywordEach kws X.env)).filterMap (·.1) = ks := by rfl)
    (hdb : (x == ("__debug__" : Str)) = false := by decide) (he : starEach (e :: es) X.env = (false, eval e X.env) :: starEach es X.env := by rfl)
    (hpl : ((backTo pos (starEach (e :: es) X.env)).any (·.1) || (backToKw pos (keywordEach kws X.env)).any (·.1.isNone)) = false := by rfl) :
    PE X (.Call (.Name x p) (e :: es) kws pos) (tCallNS n ks.length sp (WE W) t tkw) := by
  refine ⟨fun pins s σ H Q I wish => wpAny_Call_Name_kw (ld_glob I hg D.m ?_ hdb)⟩
  refine PySem.W.callWith_KW (h₀ := X.base) I.ok.mod.kin D.kp hall (thn (ha.run pos pins s σ H _ I wish) fun us s1 ⟨vs, H1, I1, r1, q1⟩ => ?_) hpl he
  refine thn (hkw.run pos pins s1 σ H1 _ I1 q1) fun ws s2 ⟨zs, H2, I2, r2, l1, l2, q2⟩ => ⟨I2.kIn, ?_⟩
  rw [hks]
  refine wpAny_call (codeAny_mono (D.ok.run X.A X.stack s2 H2 ⟨us, ks.zip ws⟩ (us ++ ws) (vs ++ zs) Q _ hr I2.env0 (D.b.to s2 us ws I2.kIn (r1.length.symm.trans l1) (r2.length.symm.trans l2)) (D.b.rel r1 r2) q2) fun r s' hq => ?_)
  match r with
  | .error u => exact passAt tk σ pins H2 s2 u s' I2 hq
  | .ok (.ret u) => exact I2.after hq
  | .ok .next => exact hq.elim
  | .ok .brk => exact hq.elim
  | .ok .cont => exact hq.elim
end
/-- a def with keyword-only parameters, as it stands -/
structure FnK (K : PySem.W.Frag) (mg : Str → Option Value) (x : Str) (st : Stmt) (f : Addr) (fd : FuncData) : Prop where
  F : Fun K x x st f fd
  m : mg x = some (.ref f)
/-- what a raised error of the class C with this value wishes -/
def eV (E : XK) (C : Addr) (H : Hp) (v : V) : Prop := ∀ d, H d = none → E (.ref C) (some d) (upd H d (.xd [(("value" : Str), v)]))
end Vk

set_option maxHeartbeats 4000000
/-! A def that a caught error is passed to, from within the suite that holds it. -/
namespace Vk
open PySem PySem.Spec PyProof.Rows L2 L2H
/-- a def's promise about the error at hand -/
structure FnP (P : Program) (w : World) (K : PySem.W.Frag) (mg : Str → Option Value) (base : Heap) (k : Nat) (f : Addr) (fd : FuncData) (ps : List Str) (sp : Addr × Obj → Sp) : Prop where
  many : ∀ p vs H Q E, sp p vs H Q E → vs.length = ps.length
  go : ∀ (A : Around) (outer : List Env) (s : Shared) (H : Hp) (args : Args) (us : List Value) (vs : List V) (Q : VK) (E : XK) (p : Addr × Obj), RoomH k A → Hot1 A p → PinOk outer H s p →
    Env0 P w K mg base A outer s H → BindsTo s fd args (ps.zip us) → Vals vs us → sp p vs H Q E → codeAny (model P w) A (.call (.ref f) args) (CR CX0 outer P w H s Q E) s
theorem fnp_mk {P : Program} {w : World} {K : PySem.W.Frag} {mg : Str → Option Value} {base : Heap} {k : Nat} {f : Addr} {nm qual : Str} {pars : Arguments} {bod : List Stmt} {sco : Scope} {dV kV doc pm cdv ct oc : Value} {an od : Option Addr} {osl : Array (Option Value)} {N ps : List Str}
    {sp : Addr × Obj → Sp} (at_ : K.lookup f = some ⟨oc, od, .func (PySem.W.fnOf nm qual pars bod sco dV kV doc pm an cdv ct), osl⟩) (code : PySem.W.codeIn K cdv qual = true) (S : FnScope N ps sco) (many : ∀ p vs H Q E, sp p vs H Q E → vs.length = ps.length)
    (runs : ∀ (A : Around) (outer : List Env) (s : Shared) (H : Hp) (vs : List V) (Q : VK) (E : XK) (p : Addr × Obj), Hot1 A p → RoomH k (A.deeper (envOfC qual sco s.heap.objs.size f cdv)) → sp p vs H Q E →
      ∃ t, PSs (cxH CX0 P w K mg base N qual sco f cdv A outer s H E p) bod t ∧ t { nx := fun _ G => Q .non G, rt := Q } (L2.start N vs) H) : FnP P w K mg base (k + 1) f (PySem.W.fnOf nm qual pars bod sco dV kV doc pm an cdv ct) ps sp := by
  refine ⟨many, ?_⟩
  intro A outer s H args us vs Q E p room hot pin e0 bound rel want
  have cnt := many _ _ _ _ _ want
  have old : ∀ b o, base.get? b = some o → s.heap.get? b = some o := fun b o e => (e0.bs b o e).1
  have kin := e0.mod.kin.keeps old
  have nol := e0.mod.nolimit.keeps old
  have kinds : ∀ y ∈ ps.zip us, sco.names.lookup y.1 = some .local ∨ (sco.names.lookup y.1 = some .cell ∧ ((cellsFrom (s.heap.objs.size + 1) sco.names []).lookup y.1).isSome = true) := by
    rintro ⟨n, v⟩ hy
    rcases S.par n (List.of_mem_zip hy).1 with c | c
    · exact Or.inl c
    · exact Or.inr ⟨c, PySem.W.cellsFrom_some _ _ _ (.inl c)⟩
  refine codeAny_call_function room.depth (kin _ _ at_) rfl S.co S.gen rfl (PySem.W.codeRec_of kin code) (bound _ _ _ _ ?_)
  refine wpAny_newFunctionEnv_cells S.kind kinds fun env eenv s1 inC => ?_
  subst eenv
  refine ⟨nol.keeps inC.toInCall.keep, codeAny_func ?_⟩
  obtain ⟨t, ht, q⟩ := runs A outer s H vs Q E p hot (room.deeper _) want
  have I := inv_startH (CX := CX0) (E := E) S pin e0 cnt rel inC
  refine wpAny_mono (ht.run [] s1 (L2.start N vs) H _ I q) (fun fl s2 hs => ?_) fun _ _ h => h
  have out : ∀ {σ2 : L2.St} {G : Hp} {v : V} {u : Value}, Inv (cxH CX0 P w K mg base N qual sco f cdv A outer s H E p) [] σ2 G s2 → RelV v u → Q v G → CE outer P w H s Q u s2 := by
    intro σ2 G v u J r z
    exact ⟨v, G, J.os, J.bare, J.base, J.hok, r, z⟩
  cases fl with
  | ret u =>
    obtain ⟨v, _, _, J, r, z⟩ := hs
    exact out J r z
  | next =>
    obtain ⟨_, _, J, z⟩ := hs
    exact out (v := V.non) (u := Value.none) J rfl z
  | brk =>
    obtain ⟨_, _, _, z⟩ := hs
    exact z.elim
  | cont =>
    obtain ⟨_, _, _, z⟩ := hs
    exact z.elim
/-- f(e), e the error that is at hand -/
theorem pe_callP {X : Cx} {k : Nat} {f : Addr} {fd : FuncData} {ps : List Str} {sp : Addr × Obj → Sp} {p : Addr × Obj} {x : Str} {q pos : Pos} {e : Expr} {es : List Expr} {t : TA} (F : FnP X.prog X.w X.K X.mg X.base k f fd ps sp) (room : RoomH k X.A) (hot : Hot1 X.A p) (hp : p ∈ X.pn)
    (hg : Gl X x) (hm : X.mg x = some (.ref f)) (kp : PySem.W.keepIn X.K (.ref f) = true) (hb : Binds X.K fd ps []) (ha : PA X (e :: es) t) (hdb : (x == ("__debug__" : Str)) = false := by decide)
    (he : starEach (e :: es) X.env = (false, eval e X.env) :: starEach es X.env := by rfl) (hpl : (backTo pos (starEach es X.env)).any (·.1) = false := by rfl) : PE X (.Call (.Name x q) (e :: es) [] pos) (tCall (sp p) [] E0 t) := by
  refine ⟨?_⟩
  intro pins s σ H Q I want
  refine wpAny_Call_Name_kw (ld_glob I hg hm ?_ hdb)
  refine PySem.W.callWith_K (h₀ := X.base) I.ok.mod.kin kp (thn (ha.run pos pins s σ H _ I want) ?_) he hpl
  rintro us s1 ⟨vs, H1, I1, r, z⟩
  refine ⟨I1.kIn, ?_⟩
  have z : sp p vs H1 Q E0 := by rw [List.append_nil] at z; exact z
  have cnt : us.length = ps.length := by rw [← r.length]; exact F.many _ _ _ _ _ z
  have bound := hb s1 us I1.kIn (by rw [List.append_nil]; exact cnt)
  rw [List.append_nil] at bound
  have at1 := I1.pin p (List.mem_append_left _ hp)
  have pin : PinOk X.stack H1 s1 p := ⟨at1.1, at1.2.1, fun m => (List.mem_cons.mp (I1.stkSub p.1 m)).elim at1.2.2.1 at1.2.2.2.1, at1.2.2.2.2⟩
  refine wpAny_call (codeAny_mono (F.go X.A X.stack s1 H1 ⟨us, []⟩ us vs Q E0 p room hot pin I1.env0 bound r z) ?_)
  intro res s2 out
  cases res with
  | error _ => exact out.elim
  | ok fl =>
    cases fl with
    | ret u => exact I1.after out
    | next => exact out.elim
    | brk => exact out.elim
    | cont => exact out.elim
/-- isinstance of an error that the context holds -/
theorem call_isP {X : Cx} {a D : Addr} {oe : Obj} {d : Option Addr} (C : ExcC X.K D) (hz : Zc (.ref D) d oe) (hf : ∃ vs, oe.data = .fields vs) (hp : (a, oe) ∈ X.pn) : CallR X (.builtin "isinstance") (rIsG X.K D a d) := by
  intro pins s σ H xs us Q I r h
  obtain ⟨c, cv, b, rfl, hcv, hd, e, q⟩ := h
  obtain ⟨u1, u2, rfl, r1, r2⟩ := vals2 r
  obtain rfl : u1 = Value.ref a := r1
  have ec := hcv.eq r2
  subst ec
  obtain ⟨hget, _⟩ := I.pin (a, oe) (List.mem_append_left _ hp)
  obtain ⟨vs, hv⟩ := hf
  obtain ⟨od, J⟩ : ∃ od, PySem.W.InstAt s.heap a oe D od := by
    have no : PySem.W.notCls oe = true := by unfold PySem.W.notCls; rw [hv] <;> rfl
    rcases hd with rfl | ⟨dd, fs, rfl, hdd⟩
    · exact ⟨none, hget, hz.1, no, by rw [hz.2]; trivial⟩
    · have hx : ObjOk X.prog X.w H s.heap dd (.xd fs) := I.hok dd _ hdd
      obtain ⟨mA, hns, _⟩ := hx
      obtain ⟨o, ho, _⟩ := lookIn_ns hns
      exact ⟨some o, hget, hz.1, no, by rw [hz.2]; exact ho⟩
  exact PySem.W.kia_one (kit_exc C) I.kIn J e (fun z => nomatch z) fun tk => ⟨.bl b, H, I.kept (t' := tk) fun _ _ z => z, rfl, q⟩
end Vk

set_option maxHeartbeats 2000000
/-! several clauses «except X as n» behind one try -/
namespace L2N
open PySem PySem.Spec PyProof.Rows L2
inductive AsOk (X : Cx) : List ExceptHandler → List Clause → Prop
  | nil : AsOk X [] []
  | cons {x n : Str} {c : Value} {i : Nat} {ts : Addr → Value → Option Addr → TS} {b0 : Stmt} {bs : List Stmt} {p1 p2 : Pos} {es : List ExceptHandler} {qs : List Clause} (hc : Names X x c) (hi : X.N[i]? = some n) (hk : X.env.kindOf n = some .local)
      (hsu : ∀ (z : Addr) (oz : Obj) (k : Value) (dd : Option Addr) (pn : List (Addr × Obj)), Zn k dd oz → (∃ vs, oz.data = .fields vs) → PSs (X.suite z ((z, oz) :: pn)) (b0 :: bs) (ts z k dd)) (more : AsOk X es qs) :
      AsOk X (.ExceptHandler (some (.Name x p1)) (some n) (b0 :: bs) p2 :: es) ((c, i, ts) :: qs)
section
variable {X : Cx} {body : List Stmt} {e0 : ExceptHandler} {es : List ExceptHandler} {qs : List Clause} {pos : Pos} {tb : WX → TS} {W0 : WX}
theorem ps_try_ases (hst : X.stack = X.env :: X.outer) (hfr : X.env.frame = some X.env.locals) (hnd : X.N.Nodup) (tk : Takes X W0)
    (hb : ∀ (W : WX) (pn : List (Addr × Obj)) (xe : Value → Shared → Prop), Takes (X.tr pn xe) W → PassesOwn (model X.prog X.w) X.A X.env xe → PSs (X.tr pn xe) body (tb W))
    (hh : AsOk X (e0 :: es) qs) : PS X (.Try body (e0 :: es) [] [] pos) (fun D τ G => tb (wAses X.K W0 D qs) D τ G) := by
  refine ⟨fun pins s τ0 G0 D inv0 wish => ?_⟩
  have okk := inv0.ok
  have frm : X.A.frames = some (X.env :: X.outer) := okk.frames.trans (congrArg some hst)
  refine wpAny_Try_except (wpAny_mono ((hb (wAses X.K W0 D qs) (X.pn ++ pins) (fun u t1 => wpAny (model X.prog X.w) X.A (noteFrame u X.env) (fun _ t2 => wpAny (model X.prog X.w) X.A (setFlight u none) (fun _ t3 =>
    wpAny (model X.prog X.w) X.A (handleBy u X.env (e0 :: es)) (SP X pins D) X.xe t3) X.xe t2) X.xe t1) (fun u t raised => ?caught) PassesOwn.looking).run [] s τ0 G0 D (inv0.toTry _) wish) (fun fl t got => ?through) (fun _ _ y => y))
  case through =>
    cases fl with
    | next => obtain ⟨τ, G, J, q⟩ := got; exact wpAny_execs_nil ⟨τ, G, J.ofTry okk, q⟩
    | brk => obtain ⟨τ, G, J, q⟩ := got; exact ⟨τ, G, J.ofTry okk, q⟩
    | cont => obtain ⟨τ, G, J, q⟩ := got; exact ⟨τ, G, J.ofTry okk, q⟩
    | ret u => obtain ⟨v, τ, G, J, r, q⟩ := got; exact ⟨v, τ, G, J.ofTry okk, r, q⟩
  case caught =>
    obtain ⟨z, B, sB, pins1, τ, G, k, dd, rfl, jT, bare, upB, inSky, zfree, os1, same1, wants⟩ := raised
    have j0 : Inv X pins τ G sB := jT.ofTry okk
    have inSky1 : Sky B (X.env :: X.outer) z (Zn k dd) X.env.locals t.heap := hst ▸ inSky
    show wpAny (model X.prog X.w) X.A (noteFrame (.ref z) X.env) _ _ _
    refine Sky.land Zn.steady frm hfr inSky1 fun hA flA upA => ?_
    have jA : Inv X pins τ G { t with heap := hA } := j0.landed bare flA.1 (upB.trans upA) os1 same1
    obtain ⟨oA, vA, getA, zcA, datA⟩ := flA.there
    have notF : z ∉ frs (X.env :: X.outer) := by
      intro hm
      obtain ⟨_, o', e', hnf⟩ := flA.2.2.1.mem hm
      rw [getA] at e'
      cases e'
      exact hnf _ datA
    have zL : z ≠ X.env.locals := fun y => notF (List.mem_filterMap.mpr ⟨X.env, List.mem_cons_self, hfr.trans (congrArg some y.symm)⟩)
    have zF : z ∉ X.fs := fun hm => by
      obtain ⟨en, hen, y⟩ := List.mem_filterMap.mp hm
      exact notF (List.mem_filterMap.mpr ⟨en, List.mem_cons_of_mem _ hen, y⟩)
    have jS := jA.suite getA datA zfree zL zF
    have turn : ∀ {es1 : List ExceptHandler} {qs1 : List Clause}, AsOk X es1 qs1 → wAses X.K W0 D qs1 k dd τ G → wpAny (model X.prog X.w) X.A (handleBy (.ref z) X.env es1) (SP X pins D) X.xe { t with heap := hA } := by
      intro es1 qs1 kk
      induction kk with
      | nil =>
        intro out
        refine wpAny_handleBy_nil ?_
        obtain ⟨_, _, _, oz, vs, Tr, oTr, tsr, geto, zco, dato, one, _⟩ := id flA
        unfold PySem.passOn
        refine wpAny_bind (wpAny_field geto dato one ?_)
        rw [if_neg (by simp : ¬ ((Value.ref Tr == Value.none) = true))]
        have away : wpAny (model X.prog X.w) X.A (setFlight (.ref z) X.env.frame) (fun _ t4 => wpAny (model X.prog X.w) X.A (throw (.ref z) : Sem Flow) (SP X pins D) X.xe t4) X.xe { t with heap := hA } := by
          rw [hfr]
          exact HandSPX.setFlight_upZ flA fun h4 sk4 up4 => wpAny_throw (tk _ _ ⟨z, B, sB, pins, τ, G, k, dd, rfl, j0, bare, (upB.trans upA).trans up4, .inr (.inr (hst.symm ▸ sk4)), zfree, os1, same1, out⟩)
        first | exact wpAny_bind (wpAny_pure (wpAny_bind away)) | exact wpAny_bind away
      | @cons x n c i ts b0 bs p1 p2 es2 qs2 hc hi hk hsu more ih =>
        rintro ⟨hit, isHit, onHit, offHit⟩
        refine wpAny_handleBy_cons (codeAny_handlers_test ?_) (by intro y; cases y)
        have looksT : PySem.W.Looks (model X.prog X.w) hA (typeOf (.ref z)) k := fun A Q E s kp y => wpAny_typeOf_ref (kp _ _ getA) (by rw [zcA.1]; exact y)
        have looksM := PySem.W.exm_one (M := model X.prog X.w) jA.kIn looksT isHit
        have named : ∀ {Q : Value → Shared → Prop} {E : Value → Shared → Prop}, Q c { t with heap := hA } → wpAny (model X.prog X.w) (X.A.mark (some (.ref z))) (eval (.Name x p1) X.env) Q E { t with heap := hA } := fun {Q E} y =>
          match hc with
          | ⟨hg, hdb, .inl hm⟩ => ld_glob (X := X.suite z ((z, oA) :: (X.pn ++ pins))) jS hg hm y hdb
          | ⟨hg, hdb, .inr ⟨hm, hv, hnn⟩⟩ => ld_blt (X := X.suite z ((z, oA) :: (X.pn ++ pins))) jS hg hm hv y hnn hdb
        refine named (looksM.here ?_)
        cases hit with
        | false => exact ih (offHit rfl)
        | true =>
          refine codeAny_handlers_suite_as (HandSPX.lands_againZ flA fun hB flB upB2 => ?_)
          have jB : Inv X pins τ G { t with heap := hB } := j0.landed bare flB.1 ((upB.trans upA).trans upB2) os1 same1
          obtain ⟨oB, vB, getB, zcB, datB⟩ := flB.there
          have jSB := jB.suite getB datB zfree zL zF
          refine store_ok (X := X.suite z ((z, oB) :: (X.pn ++ pins))) (v := .ref z) jSB hnd hi (.inl hk) rfl (fun t5 S5 => ?_) (.inr hk)
          refine wpAny_mono ((hsu z oB k dd (X.pn ++ pins) zcB ⟨_, datB⟩).run [] t5 _ G _ S5 (onHit rfl z zfree)) (fun fl t6 got => ?_) (fun _ _ y => y.elim)
          have fin : ∀ {τ6 : St} {G6 : Hp} {Q : Shared → Prop}, Inv (X.suite z ((z, oB) :: (X.pn ++ pins))) [] τ6 G6 t6 → (∀ t7, Inv X pins (τ6.set i none) G6 t7 → Q t7) →
              wpAny (model X.prog X.w) X.A (do bindName X.env n .none; unbindBehindTheSuite X.env n p2) (fun _ t7 => Q t7) X.xe t6 := fun S6 hq => gone_ok (S6.unsuite okk) hnd hi hk hq
          cases fl with
          | next => obtain ⟨_, _, S6, q6⟩ := got; exact fin S6 fun _ J7 => ⟨_, _, J7, q6⟩
          | brk => obtain ⟨_, _, S6, q6⟩ := got; exact fin S6 fun _ J7 => ⟨_, _, J7, q6⟩
          | cont => obtain ⟨_, _, S6, q6⟩ := got; exact fin S6 fun _ J7 => ⟨_, _, J7, q6⟩
          | ret u => obtain ⟨_, _, _, S6, r6, q6⟩ := got; exact fin S6 fun _ J7 => ⟨_, _, _, J7, r6, q6⟩
    exact turn hh wants
end
end L2N

/-! defs that may raise, where the context of exceptions is told, too -/
namespace Vk
open PySem L2 PyProof.Rows
theorem passLY {X : Cx} : Passes (L2N.CX X.prog X.w) X E0 := fun _ _ _ _ _ _ _ h => by
  obtain ⟨_, _, _, _, _, _, _, _, _, _, _, _, z⟩ := h
  exact z.elim
theorem takes0Y {X : Cx} : L2N.Takes X (fun _ _ _ _ => False) := fun _ _ x => by
  obtain ⟨_, _, _, _, _, _, _, _, _, _, _, _, _, _, _, _, z⟩ := x
  exact z.elim
structure DefY (P : Program) (w : World) (K : PySem.W.Frag) (mg : Str → Option Value) (base : Heap) (k : Nat) (x : Str) (ps : List Str) (sp : Sp) (f : Addr) (fd : FuncData) : Prop where
  ok : FnOk P w K mg base (L2N.CX P w) k f fd ps sp
  m : mg x = some (.ref f)
  kp : PySem.W.keepIn K (.ref f) = true
  b : Binds K fd ps []
theorem DefY.up {P : Program} {w : World} {K : PySem.W.Frag} {mg : Str → Option Value} {base : Heap} {j k : Nat} {x : Str} {ps : List Str} {sp : Sp} {f : Addr} {fd : FuncData} (d : DefY P w K mg base j x ps sp f fd) (h : j ≤ k) : DefY P w K mg base k x ps sp f fd := ⟨d.ok.mono h, d.m, d.kp, d.b⟩
structure DefYN (P : Program) (w : World) (K : PySem.W.Frag) (mg : Str → Option Value) (base : Heap) (k : Nat) (x : Str) (ps : List Str) (n : Nat) (ks : List Str) (sp : Sp) (f : Addr) (fd : FuncData) : Prop where
  ok : FnOk P w K mg base (L2N.CX P w) k f fd ps sp
  m : mg x = some (.ref f)
  kp : PySem.W.keepIn K (.ref f) = true
  b : KBn K fd ps n ks (fun us ws => us ++ ws) (fun vs zs => vs ++ zs)
theorem DefYN.up {P : Program} {w : World} {K : PySem.W.Frag} {mg : Str → Option Value} {base : Heap} {j k n : Nat} {x : Str} {ps ks : List Str} {sp : Sp} {f : Addr} {fd : FuncData} (d : DefYN P w K mg base j x ps n ks sp f fd) (h : j ≤ k) : DefYN P w K mg base k x ps n ks sp f fd := ⟨d.ok.mono h, d.m, d.kp, d.b⟩
/-- a def that an error at hand is passed to -/
structure DefP (P : Program) (w : World) (K : PySem.W.Frag) (mg : Str → Option Value) (base : Heap) (k : Nat) (x : Str) (ps : List Str) (sp : Addr × Obj → Sp) (f : Addr) (fd : FuncData) : Prop where
  ok : FnP P w K mg base k f fd ps sp
  m : mg x = some (.ref f)
  kp : PySem.W.keepIn K (.ref f) = true
  b : Binds K fd ps []
section
variable {X : Cx} {k n : Nat} {f : Addr} {fd : FuncData} {ps ks : List Str} {sp : Sp} {x : Str} {p pos : Pos} {e : Expr} {es : List Expr} {kws : List Keyword} {t tkw : TA} {W : WX}
theorem pcallYL (D : DefY X.prog X.w X.K X.mg X.base k x ps sp f fd) (hr : Room k X.A) (ha : PA X (e :: es) t)
    (hg : Gl X x := by rfl) (hdb : (x == ("__debug__" : Str)) = false := by decide) (he : starEach (e :: es) X.env = (false, eval e X.env) :: starEach es X.env := by rfl) (hpl : (backTo pos (starEach es X.env)).any (·.1) = false := by rfl) :
    PE X (.Call (.Name x p) (e :: es) [] pos) (tCall sp [] E0 t) := pe_call D.ok hr hg D.m D.kp D.b .nil passLY ha hdb he hpl
theorem pcallY (D : DefY X.prog X.w X.K X.mg X.base k x ps sp f fd) (hr : Room k X.A) (tk : L2N.Takes X W) (ha : PA X (e :: es) t)
    (hg : Gl X x := by rfl) (hdb : (x == ("__debug__" : Str)) = false := by decide) (he : starEach (e :: es) X.env = (false, eval e X.env) :: starEach es X.env := by rfl) (hpl : (backTo pos (starEach es X.env)).any (·.1) = false := by rfl) :
    PE X (.Call (.Name x p) (e :: es) [] pos) (tCallS sp (WE W) t) := pe_callS D.ok hr hg D.m D.kp D.b (fun σ => L2N.passAt tk σ) ha hdb he hpl
theorem pcallYLN (D : DefYN X.prog X.w X.K X.mg X.base k x ps n ks sp f fd) (hr : Room k X.A) (ha : PA X (e :: es) t) (hkw : PK X kws tkw)
    (hg : Gl X x := by rfl) (hall : (backToKw pos (keywordEach kws X.env)).all (·.1.isSome) = true := by rfl) (hks : (backToKw pos (keywordEach kws X.env)).filterMap (·.1) = ks := by rfl)
    (hdb : (x == ("__debug__" : Str)) = false := by decide) (he : starEach (e :: es) X.env = (false, eval e X.env) :: starEach es X.env := by rfl)
    (hpl : ((backTo pos (starEach (e :: es) X.env)).any (·.1) || (backToKw pos (keywordEach kws X.env)).any (·.1.isNone)) = false := by rfl) :
    PE X (.Call (.Name x p) (e :: es) kws pos) (tCallN n ks.length sp (fun vs zs => vs ++ zs) E0 t tkw) := pe_callN D.ok hr hg D.m D.kp D.b passLY ha hkw hall hks hdb he hpl
theorem pcallYN (D : DefYN X.prog X.w X.K X.mg X.base k x ps n ks sp f fd) (hr : Room k X.A) (tk : L2N.Takes X W) (ha : PA X (e :: es) t) (hkw : PK X kws tkw)
    (hg : Gl X x := by rfl) (hall : (backToKw pos (keywordEach kws X.env)).all (·.1.isSome) = true := by rfl) (hks : (backToKw pos (keywordEach kws X.env)).filterMap (·.1) = ks := by rfl)
    (hdb : (x == ("__debug__" : Str)) = false := by decide) (he : starEach (e :: es) X.env = (false, eval e X.env) :: starEach es X.env := by rfl)
    (hpl : ((backTo pos (starEach (e :: es) X.env)).any (·.1) || (backToKw pos (keywordEach kws X.env)).any (·.1.isNone)) = false := by rfl) :
    PE X (.Call (.Name x p) (e :: es) kws pos) (tCallNS n ks.length sp (WE W) t tkw) := by
  refine ⟨fun pins s σ H Q I wish => wpAny_Call_Name_kw (ld_glob I hg D.m ?_ hdb)⟩
  refine PySem.W.callWith_KW (h₀ := X.base) I.ok.mod.kin D.kp hall (thn (ha.run pos pins s σ H _ I wish) fun us s1 ⟨vs, H1, I1, r1, q1⟩ => ?_) hpl he
  refine thn (hkw.run pos pins s1 σ H1 _ I1 q1) fun ws s2 ⟨zs, H2, I2, r2, l1, l2, q2⟩ => ⟨I2.kIn, ?_⟩
  rw [hks]
  refine wpAny_call (codeAny_mono (D.ok.run X.A X.stack s2 H2 ⟨us, ks.zip ws⟩ (us ++ ws) (vs ++ zs) Q _ hr I2.env0 (D.b.to s2 us ws I2.kIn (r1.length.symm.trans l1) (r2.length.symm.trans l2)) (D.b.rel r1 r2) q2) fun r s' hq => ?_)
  match r with
  | .error u => exact L2N.passAt tk σ pins H2 s2 u s' I2 hq
  | .ok (.ret u) => exact I2.after hq
  | .ok .next => exact hq.elim
  | .ok .brk => exact hq.elim
  | .ok .cont => exact hq.elim
end
section
variable {P : Program} {w : World} {K : PySem.W.Frag} {mg : Str → Option Value} {base : Heap}
theorem okY {x qual : Str} {st : Stmt} {f : Addr} {fd : FuncData} {N ps : List Str} {k : Nat} {sp : Sp} (F : Fun K x qual st f fd) (S : FnScope N ps (defScope st)) (len : ∀ vs H Q E, sp vs H Q E → vs.length = ps.length)
    (hbody : ∀ (cdv : Value) (A : Around) (outer : List Env) (s : Shared) (H : Hp) (vs : List V) (Q : VK) (E : XK), Room k (A.deeper (envOfC qual (defScope st) s.heap.objs.size f cdv)) → sp vs H Q E →
      ∃ t, PSs (cxOf (L2N.CX P w) P w K mg base N qual (defScope st) f cdv A outer s H E) (defBody st) t ∧ t { nx := fun _ H' => Q .non H', rt := Q } (start N vs) H) : FnOk P w K mg base (L2N.CX P w) (k + 1) f fd ps sp := by
  obtain ⟨oc, od, kV, doc, pm, an, cdv, ct, osl, rfl, lk, hcd⟩ := F.ex
  exact fn_of lk hcd S len fun A outer s H vs Q E hr hsp => hbody cdv A outer s H vs Q E hr hsp
theorem okP {x qual : Str} {st : Stmt} {f : Addr} {fd : FuncData} {N ps : List Str} {k : Nat} {sp : Addr × Obj → Sp} (F : Fun K x qual st f fd) (S : FnScope N ps (defScope st)) (len : ∀ p vs H Q E, sp p vs H Q E → vs.length = ps.length)
    (hbody : ∀ (cdv : Value) (A : Around) (outer : List Env) (s : Shared) (H : Hp) (vs : List V) (Q : VK) (E : XK) (p : Addr × Obj), L2H.Hot1 A p → L2H.RoomH k (A.deeper (envOfC qual (defScope st) s.heap.objs.size f cdv)) → sp p vs H Q E →
      ∃ t, PSs (L2H.cxH CX0 P w K mg base N qual (defScope st) f cdv A outer s H E p) (defBody st) t ∧ t { nx := fun _ H' => Q .non H', rt := Q } (start N vs) H) : FnP P w K mg base (k + 1) f fd ps sp := by
  obtain ⟨oc, od, kV, doc, pm, an, cdv, ct, osl, rfl, lk, hcd⟩ := F.ex
  exact fnp_mk lk hcd S len fun A outer s H vs Q E p hot hr hsp => hbody cdv A outer s H vs Q E p hot hr hsp
end
end Vk

/-! what the written part says of classes of errors -/
namespace Vk
open PySem PySem.W PySem.Calls PySem.HandSPX L2
theorem cls_both {K : Frag} {C : Addr} (h2 : isClsIn K C = true) (h3 : typeIn K (.ref C) = some (.type "type")) : ((clsIn K C).isSome && typeIn K (.ref C) == some (.type "type")) = true := by
  have h2' : (clsIn K C).isSome = true := h2
  rw [h2', h3]
  rfl
theorem exm_of {K : Frag} {S C : Addr} {b : Bool} (h1 : subIn K (.ref C) (.type "BaseException") = some true) (h2 : isClsIn K C = true) (h3 : typeIn K (.ref C) = some (.type "type")) (h4 : subIn K (.ref S) (.ref C) = some b) : exmOne K (.ref S) (.ref C) = some b := by
  have e1 : (subIn K (.ref C) (.type "BaseException") == some true) = true := by rw [h1]; rfl
  unfold exmOne kitCls
  rw [if_pos e1]
  dsimp only
  rw [if_pos (cls_both h2 h3)]
  exact h4
theorem kit_of1 {K : Frag} {S C : Addr} {b : Bool} (n : (S == C) = false) (h2 : isClsIn K C = true) (h3 : typeIn K (.ref C) = some (.type "type")) (h4 : subIn K (.ref S) (.ref C) = some b) : kitOne K (.ref S) (.ref C) = some b := by
  have e1 : (Value.ref S == Value.ref C) = false := beq_false_of_ne fun e => by
    have := Value.ref.inj e
    rw [this, beq_self_eq_true] at n
    cases n
  unfold kitOne kitCls
  rw [e1, if_neg Bool.false_ne_true]
  dsimp only
  rw [if_pos (cls_both h2 h3)]
  exact h4
theorem errTxt {K : Frag} {mg : Str → Option Value} {x nm q iq : Str} {C fi N : Addr} {bs bm sub : List Value} {sn : List Str} {ab : Bool} {col : Option Bool} {dd : Option Addr} {m0 m1 m2 m3 m5 : Option Value} {iod ian : Option Addr} {isl : Array (Option Value)} {ioc idc ipm icd ict : Value} {p1 p2 q1 q2 q3 q4 : Pos}
    (aC : mg x = some (.ref C)) (xL : K.lookup C = some (excClassObj nm q C N bs bm true sn sub ab col dd m0 m1 m2 m3 m5 "ValueError.__new__")) (rv : refsVE bm = true)
    (sa : findIn K (.ref C) "__setattr__" = some (some (.builtin "object.__setattr__"))) (ga : findIn K (.ref C) "__getattribute__" = some (some (.builtin "BaseException.__getattribute__"))) (gg : findIn K (.ref C) "__getattr__" = some none) (nb : findIn K (.ref C) "value" = some none)
    (a1 : findIn K (.ref C) "__init__" = some (some (.ref fi))) (t1 : typeIn K (.ref fi) = some (.type "function"))
    (l1 : K.lookup fi = some ⟨ioc, iod, .func (fnOf "__init__" iq (PySem.ValX.iA p1 p2) (PySem.ValX.iB q1 q2 q3 q4) PySem.ValX.iS .none .none idc ipm ian icd ict), isl⟩) (c1 : codeIn K icd iq = true)
    (kC : keepIn K (.ref C) = true) (eC : subIn K (.ref C) (.type "BaseException") = some true) (tC : typeIn K (.ref C) = some (.type "type")) (hC : hasDictIn K C = true) (te : exmOne K (.ref C) (.ref C) = some true) : PySem.ValX.ValTxt K mg x C fi :=
  { gC := aC, cls := ⟨nm, q, N, bs, bm, sn, sub, ab, col, dd, m0, m1, m2, m3, m5, xL, rv⟩, sa := sa, ga := ga, gg := gg, noN := nb, iC := a1, tC := t1, kC := kC, exC := eC, tyC := tC, hdC := hC, te := te, fn := ⟨iq, ioc, iod, idc, ipm, ian, icd, ict, isl, p1, p2, q1, q2, q3, q4, l1, c1⟩ }
end Vk

/-! the head by a Hook of its own: facts about the objects at written addresses; the top is run three times, once for each look -/
namespace Vk
open PySem PySem.W PySem.Calls PySem.HandSPX PyProof.Rows L2
def obsV (fa : List He.Fa) (fn : List He.DefD) (ex : PySem.W.Frag → Bool) (K : PySem.W.Frag) : He.AlD := ((ex K && fa.all fun f => f.ok K) && fn.all fun d => d.ok K, fn.map fun d => He.fnW K d.at_)
def valV (fn : List He.DefD) : He.AlD := (true, fn.map He.DefD.val)
def hookV (as : List Addr) (fa : List He.Fa) (fn : List He.DefD) (ex : PySem.W.Frag → Bool) : PySem.W.Hook where
  α := He.AlD
  obs := fun s => obsV fa fn ex (He.frG s.heap.get? as)
  val := fun _ => valV fn
  says := fun _ h => ∃ K : PySem.W.Frag, K.In h ∧ obsV fa fn ex K = valV fn
  of := fun _ _ e => ⟨_, He.frG_in, e⟩
  keeps := fun _ _ _ ⟨K, hK, c⟩ k => ⟨K, PySem.W.Frag.In.keeps hK k, c⟩
section
variable {as : List Addr} {fa : List He.Fa} {fn : List He.DefD} {ex : PySem.W.Frag → Bool} {K : PySem.W.Frag} {mg : Str → Option Value} {h : Heap}
theorem obV_eq (s : PySem.W.SharedT) : obsV fa fn ex (He.frG (HandSHeadRun.getT s) as) = (hookV as fa fn ex).obs s.abs := by
  have e : HandSHeadRun.getT s = s.abs.heap.get? := funext (HandSHeadRun.getT_eq s)
  rw [e]
  rfl
theorem saysV_ex (c : obsV fa fn ex K = valV fn) : ex K = true := (He.ba (He.ba (show ((ex K && fa.all fun f => f.ok K) && fn.all fun d => d.ok K) = true from congrArg (fun z : He.AlD => z.1) c)).1).1
theorem saysV_fact (c : obsV fa fn ex K = valV fn) (i : Nat) {f : He.Fa} (h : fa[i]? = some f) : f.ok K = true :=
  List.all_eq_true.mp (He.ba (He.ba (show ((ex K && fa.all fun f => f.ok K) && fn.all fun d => d.ok K) = true from congrArg (fun z : He.AlD => z.1) c)).1).2 f (List.mem_of_getElem? h)
theorem saysV_def (c : obsV fa fn ex K = valV fn) (i : Nat) {d : He.DefD} (h : fn[i]? = some d) : ∃ fd, FunD K d.name d.qual d.params d.body d.scope (d.dvs K) (d.kws K) (He.fAd K d.at_) fd := by
  have c2 := (He.ba (show ((ex K && fa.all fun f => f.ok K) && fn.all fun d => d.ok K) = true from congrArg (fun z : He.AlD => z.1) c)).2
  have e : fn.map (fun d => He.fnW K d.at_) = fn.map He.DefD.val := congrArg (fun z : He.AlD => z.2) c
  have e2 : (fn.map fun d => He.fnW K d.at_)[i]? = (fn.map He.DefD.val)[i]? := by rw [e]
  rw [List.getElem?_map, List.getElem?_map, h] at e2
  exact He.DefD.funD (Option.some.inj e2) (List.all_eq_true.mp c2 d (List.mem_of_getElem? h))
theorem run2 {α : Type} {o : Option α} {e : α → Bool} {d : α → Bool} {l : α → List He.FnW} {L : List He.FnW} (h1 : o.map e = some true) (h2 : o.map (fun x => (d x, l x)) = some (true, L)) : o.map (fun x => ((e x && d x, l x) : He.AlD)) = some (true, L) := by
  cases o with
  | none => cases h1
  | some x =>
    have e1 : e x = true := Option.some.inj h1
    have e2 : (d x, l x) = (true, L) := Option.some.inj h2
    obtain ⟨e3, e4⟩ := Prod.mk.inj e2
    show some (e x && d x, l x) = _
    rw [e1, e3, e4]
    rfl
theorem run3 {α β γ δ : Type} {o : Option α} {f : α → β} {g : α → γ} {k : α → δ} {a : β} {b : γ} {c : δ} (h1 : o.map f = some a) (h2 : o.map g = some b) (h3 : o.map k = some c) : o.map (fun x => (f x, g x, k x)) = some (a, b, c) := by
  cases o with
  | none => cases h1
  | some x =>
    have e1 : f x = a := Option.some.inj h1
    have e2 : g x = b := Option.some.inj h2
    have e3 : k x = c := Option.some.inj h3
    show some (f x, g x, k x) = _
    rw [e1, e2, e3]
theorem fn_of_d {x : Str} {st : Stmt} {ps : List Str} {f : Addr} {fd : FuncData} (F : FunD K x x (defArgs st) (defBody st) (defScope st) [] [] f fd) (m : mg x = some (.ref f))
    (h : ∀ (kV doc pm : Value) (an : Option Addr) (cdv ct : Value) (us : List Value), us.length = ps.length → bindArgs (PySem.W.fnOf x x (defArgs st) (defBody st) (defScope st) .none kV doc pm an cdv ct) ⟨us, []⟩ = pure (ps.zip us)) : Fn K mg x st ps f fd := by
  have b := F.bindsN h
  obtain ⟨oc, od, dV, kV, doc, pm, an, cdv, ct, osl, rfl, lk, hcd, hD, hK⟩ := F.ex
  rcases hD with ⟨_, rfl⟩ | ⟨e, _⟩
  · exact ⟨⟨⟨oc, od, kV, doc, pm, an, cdv, ct, osl, rfl, lk, hcd⟩, F.kp⟩, m, b⟩
  · cases e rfl
theorem funA_of_d {x : Str} {st : Stmt} {dvs : List V} {f : Addr} {fd : FuncData} (F : FunD K x x (defArgs st) (defBody st) (defScope st) dvs [] f fd) : FunA K x x st f fd := by
  obtain ⟨oc, od, dV, kV, doc, pm, an, cdv, ct, osl, rfl, lk, hcd, hD, hK⟩ := F.ex
  exact ⟨⟨oc, od, dV, kV, doc, pm, an, cdv, ct, osl, rfl, lk, hcd⟩, F.kp⟩
/-- a class of errors as its object stands -/
def clsB (K : PySem.W.Frag) (C : Addr) : Bool := match K.lookup C with
  | some ⟨.type "type", _, .cls cd, sl⟩ => (match cd.mro, sl.toList with
    | .ref C' :: bm, [_, _, _, _, some (.builtin n), _] => C' == C && (n == "ValueError.__new__" && (cd.hasDict && (!cd.hasDel && refsVE bm)))
    | _, _ => false)
  | _ => false
theorem clsB_ok {C : Addr} (h : clsB K C = true) : ∃ nm q N bs bm sn sub ab col dd k0 k1 k2 k3 k5, K.lookup C = some (excClassObj nm q C N bs bm true sn sub ab col dd k0 k1 k2 k3 k5 "ValueError.__new__") ∧ refsVE bm = true := by
  unfold clsB at h
  split at h
  · rename_i dd cd sl ho
    split at h
    · rename_i C' bm k0 k1 k2 k3 n k5 e1 e2
      obtain ⟨h1, h⟩ := He.ba h
      obtain ⟨h2, h⟩ := He.ba h
      obtain ⟨h3, h⟩ := He.ba h
      obtain ⟨h4, h5⟩ := He.ba h
      have es : sl = #[k0, k1, k2, k3, some (.builtin n), k5] := by
        rw [← Array.toArray_toList (xs := sl), e2]
      obtain ⟨nm, bs, mro, ns, q, hd, sn, sub, ab, col, del⟩ := cd
      have e3 : mro = .ref C' :: bm := e1
      have e4 : hd = true := h3
      have e5 : del = false := by
        have h4 : (!del) = true := h4
        cases del
        · rfl
        · cases h4
      rw [ho, es, e3, beq_iff_eq.mp h1, beq_iff_eq.mp h2, e4, e5]
      exact ⟨_, _, _, _, _, _, _, _, _, _, _, _, _, _, _, rfl, h5⟩
    · cases h
  · cases h
/-- an error's class, all that its text says: facts of K -/
def errB (K : PySem.W.Frag) (x : Str) : Bool :=
  clsB K (He.ga K x) && (He.eqO (findIn K (.ref (He.ga K x)) "__setattr__") (some (some (.builtin "object.__setattr__"))) && (He.eqO (findIn K (.ref (He.ga K x)) "__getattribute__") (some (some (.builtin "BaseException.__getattribute__"))) &&
  (He.eqO (findIn K (.ref (He.ga K x)) "__getattr__") (some none) && (He.eqO (findIn K (.ref (He.ga K x)) "value") (some none) && (He.eqO (findIn K (.ref (He.ga K x)) "__init__") (some (some (.ref (He.ma K (He.ga K x) "__init__")))) &&
  (decide (typeIn K (.ref (He.ma K (He.ga K x) "__init__")) = some (.type "function")) && (keepIn K (.ref (He.ga K x)) && (decide (subIn K (.ref (He.ga K x)) (.type "BaseException") = some true) && (decide (typeIn K (.ref (He.ga K x)) = some (.type "type")) &&
  (hasDictIn K (He.ga K x) && decide (exmOne K (.ref (He.ga K x)) (.ref (He.ga K x)) = some true)))))))))))
theorem errB_ok {x : Str} (g : mg x = some (.ref (He.ga K x))) (h : errB K x = true) (fn : ∃ (q : Str) (oc : Value) (od : Option Addr) (doc pm : Value) (an : Option Addr) (cdv ct : Value) (osl : Array (Option Value)) (p1 p2 q1 q2 q3 q4 : Pos),
    K.lookup (He.ma K (He.ga K x) "__init__") = some ⟨oc, od, .func (fnOf "__init__" q (PySem.ValX.iA p1 p2) (PySem.ValX.iB q1 q2 q3 q4) PySem.ValX.iS .none .none doc pm an cdv ct), osl⟩ ∧ codeIn K cdv q = true) : PySem.ValX.ValTxt K mg x (He.ga K x) (He.ma K (He.ga K x) "__init__") := by
  obtain ⟨h1, h⟩ := He.ba h
  obtain ⟨h2, h⟩ := He.ba h
  obtain ⟨h3, h⟩ := He.ba h
  obtain ⟨h4, h⟩ := He.ba h
  obtain ⟨h5, h⟩ := He.ba h
  obtain ⟨h6, h⟩ := He.ba h
  obtain ⟨h7, h⟩ := He.ba h
  obtain ⟨h8, h⟩ := He.ba h
  obtain ⟨h9, h⟩ := He.ba h
  obtain ⟨h10, h⟩ := He.ba h
  obtain ⟨h11, h12⟩ := He.ba h
  exact { gC := g, cls := clsB_ok h1, sa := He.eqO_ok h2, ga := He.eqO_ok h3, gg := He.eqO_ok h4, noN := He.eqO_ok h5, iC := He.eqO_ok h6, tC := of_decide_eq_true h7, kC := h8, exC := of_decide_eq_true h9, tyC := of_decide_eq_true h10, hdC := h11, te := of_decide_eq_true h12, fn := fn }
/-- .. and what isinstance asks of it -/
def excB (K : PySem.W.Frag) (x : Str) : Bool :=
  He.eqO (findIn K (.ref (He.ga K x)) "__getattribute__") (some (some (.builtin "BaseException.__getattribute__"))) && (He.eqO (findIn K (.ref (He.ga K x)) "__getattr__") (some none) && (decide (subIn K (.ref (He.ga K x)) (.type "BaseException") = some true) && (hasDictIn K (He.ga K x) &&
  (He.eqO (findIn K (.ref (He.ga K x)) "__class__") (some (some (.builtin "object.__class__"))) && (He.eqO (specialIn K (.builtin "object.__class__") "__get__") (some (some (.builtin "getset_descriptor.__get__"))) && (decide (takesIn K (.builtin "object.__class__") = some true) && decide (mroIn K (He.ga K x) (.type "object") = some true)))))))
theorem excB_ok {x : Str} (h : excB K x = true) : ExcC K (He.ga K x) := by
  obtain ⟨h1, h⟩ := He.ba h
  obtain ⟨h2, h⟩ := He.ba h
  obtain ⟨h3, h⟩ := He.ba h
  obtain ⟨h4, h⟩ := He.ba h
  obtain ⟨h5, h⟩ := He.ba h
  obtain ⟨h6, h⟩ := He.ba h
  obtain ⟨h7, h8⟩ := He.ba h
  exact ⟨He.eqO_ok h1, He.eqO_ok h2, of_decide_eq_true h3, h4, He.eqO_ok h5, He.eqO_ok h6, of_decide_eq_true h7, of_decide_eq_true h8⟩
end
end Vk
namespace Vk
open PySem PySem.W PySem.Calls PySem.HandSPX PyProof.Rows L2
def clsBody (s : Stmt) : List Stmt := match s with
  | .ClassDef _ _ _ b _ _ _ _ _ _ _ => b
  | _ => []
/-- the first method of a class statement -/
def method (s : Stmt) (i : Nat) : Stmt := (clsBody s).getD i (.Pass ⟨0, 0, 0, 0⟩)
def noneB : Value → Bool
  | .none => true
  | _ => false
theorem noneB_ok {v : Value} (h : noneB v = true) : v = .none := by
  cases v with
  | none => rfl
  | _ => cases h
def initB (K : PySem.W.Frag) (x : Str) : Bool := match K.lookup (He.ma K (He.ga K x) "__init__") with
  | some ⟨_, _, .func fd, _⟩ => noneB fd.kwdefaults
  | _ => false
theorem init_ok {K : PySem.W.Frag} {x q : Str} {A : Arguments} {B : List Stmt} {S : Scope} {fd : FuncData} {p1 p2 q1 q2 q3 q4 : Pos} (F : FunD K "__init__" q A B S [] [] (He.ma K (He.ga K x) "__init__") fd) (h : initB K x = true) (eA : A = PySem.ValX.iA p1 p2) (eB : B = PySem.ValX.iB q1 q2 q3 q4) (eS : S = PySem.ValX.iS) :
    ∃ (q : Str) (oc : Value) (od : Option Addr) (doc pm : Value) (an : Option Addr) (cdv ct : Value) (osl : Array (Option Value)) (p1 p2 q1 q2 q3 q4 : Pos),
    K.lookup (He.ma K (He.ga K x) "__init__") = some ⟨oc, od, .func (fnOf "__init__" q (PySem.ValX.iA p1 p2) (PySem.ValX.iB q1 q2 q3 q4) PySem.ValX.iS .none .none doc pm an cdv ct), osl⟩ ∧ codeIn K cdv q = true := by
  obtain ⟨oc, od, dV, kV, doc, pm, an, cdv, ct, osl, rfl, lk, hcd, hD, hK⟩ := F.ex
  unfold initB at h
  rw [lk] at h
  rcases hD with ⟨_, rfl⟩ | ⟨e, _⟩
  · have e : kV = .none := noneB_ok h
    subst e eA eB eS
    exact ⟨q, oc, od, doc, pm, an, cdv, ct, osl, p1, p2, q1, q2, q3, q4, lk, hcd⟩
  · cases e rfl
theorem gcd_ok {K : PySem.W.Frag} {mg : Str → Option Value} {h : Heap} (X : K.In h) (G : h.Ns mainGlobals mg) {x : Str} {v : Value} (c : He.eqO (nsIn K mainGlobals x) (some (some v)) = true) : mg x = some v := PySem.W.mg_of X G (He.eqO_ok c)
end Vk

/-! the head's Hook of Vh with defs found by a path besides (a property's getter) -/
namespace Vk
open PySem PySem.W PySem.Calls PySem.HandSPX PyProof.Rows L2
structure PDef where
  pt : PySem.W.Frag → Addr
  nm : Str
  ql : Str
  ag : Arguments
  bd : List Stmt
  sc : Scope
def PDef.val (d : PDef) : He.FnW := some (d.nm, d.ql, d.ag, .stmts d.bd, d.sc, mainGlobals, [], builtinsNs)
def PDef.see (K : PySem.W.Frag) (d : PDef) : He.FnW := match K.lookup (d.pt K) with
  | none => none
  | some o => match o.data with
    | .func u => some (u.name, u.qualname, u.params, u.body, u.scope, u.globals, u.closure, u.builtins)
    | _ => none
def PDef.ok (K : PySem.W.Frag) (d : PDef) : Bool := keepIn K (.ref (d.pt K)) && (match K.lookup (d.pt K) with
  | none => false
  | some o => match o.data with
    | .func u => codeIn K u.code d.ql && noneB u.defaults
    | _ => false)
theorem PDef.fun_ {K : PySem.W.Frag} {d : PDef} (h : d.see K = d.val) (g : d.ok K = true) : ∃ fd, FunD K d.nm d.ql d.ag d.bd d.sc [] [] (d.pt K) fd := by
  obtain ⟨kp, g⟩ := He.ba g
  cases e : K.lookup (d.pt K) with
  | none => rw [e] at g; cases g
  | some o =>
    obtain ⟨oc, od, dat, sl⟩ := o
    have h' := h
    unfold PDef.see at h'
    rw [e] at g h'
    cases dat with
    | func u =>
      obtain ⟨c1, c2⟩ := He.ba (show (codeIn K u.code d.ql && noneB u.defaults) = true from g)
      have c3 := noneB_ok c2
      cases u
      have hv : (some (_, _, _, _, _, _, _, _) : He.FnW) = some (_, _, _, _, _, _, _, _) := h'
      injection hv with hv
      injection hv with a1 hv
      injection hv with a2 hv
      injection hv with a3 hv
      injection hv with a4 hv
      injection hv with a5 hv
      injection hv with a6 hv
      injection hv with a7 a8
      dsimp only at a1 a2 a3 a4 a5 a6 a7 a8 c1 c3
      subst a1 a2 a3 a4 a5 a6 a7 a8 c3
      exact ⟨_, ⟨oc, od, _, _, _, _, _, _, _, sl, rfl, e, c1, .inl ⟨rfl, rfl⟩, .inl rfl⟩, kp⟩
    | _ => cases g
def obsP (fa : List He.Fa) (fn : List He.DefD) (pf : List PDef) (ex : PySem.W.Frag → Bool) (K : PySem.W.Frag) : He.AlD := ((ex K && fa.all fun f => f.ok K) && fn.all fun d => d.ok K, (fn.map fun d => He.fnW K d.at_) ++ pf.map (PDef.see K))
def valP (fn : List He.DefD) (pf : List PDef) : He.AlD := (true, fn.map He.DefD.val ++ pf.map PDef.val)
def hookP (as : List Addr) (fa : List He.Fa) (fn : List He.DefD) (pf : List PDef) (ex : PySem.W.Frag → Bool) : PySem.W.Hook where
  α := He.AlD
  obs := fun s => obsP fa fn pf ex (He.frG s.heap.get? as)
  val := fun _ => valP fn pf
  says := fun _ h => ∃ K : PySem.W.Frag, K.In h ∧ obsP fa fn pf ex K = valP fn pf
  of := fun _ _ e => ⟨_, He.frG_in, e⟩
  keeps := fun _ _ _ ⟨K, hK, c⟩ k => ⟨K, PySem.W.Frag.In.keeps hK k, c⟩
section
variable {as : List Addr} {fa : List He.Fa} {fn : List He.DefD} {pf : List PDef} {ex : PySem.W.Frag → Bool} {K : PySem.W.Frag} {mg : Str → Option Value} {h : Heap}
theorem obP_eq (s : PySem.W.SharedT) : obsP fa fn pf ex (He.frG (HandSHeadRun.getT s) as) = (hookP as fa fn pf ex).obs s.abs := by
  have e : HandSHeadRun.getT s = s.abs.heap.get? := funext (HandSHeadRun.getT_eq s)
  rw [e]
  rfl
theorem saysP_1 (c : obsP fa fn pf ex K = valP fn pf) : ((ex K && fa.all fun f => f.ok K) && fn.all fun d => d.ok K) = true := congrArg (fun z : He.AlD => z.1) c
theorem saysP_2 (c : obsP fa fn pf ex K = valP fn pf) : (fn.map fun d => He.fnW K d.at_) = fn.map He.DefD.val ∧ pf.map (PDef.see K) = pf.map PDef.val := by
  have e : (fn.map fun d => He.fnW K d.at_) ++ pf.map (PDef.see K) = fn.map He.DefD.val ++ pf.map PDef.val := congrArg (fun z : He.AlD => z.2) c
  exact List.append_inj e (by simp)
theorem saysP_ex (c : obsP fa fn pf ex K = valP fn pf) : ex K = true := (He.ba (He.ba (saysP_1 c)).1).1
theorem saysP_fact (c : obsP fa fn pf ex K = valP fn pf) (i : Nat) {f : He.Fa} (h : fa[i]? = some f) : f.ok K = true := List.all_eq_true.mp (He.ba (He.ba (saysP_1 c)).1).2 f (List.mem_of_getElem? h)
theorem saysP_def (c : obsP fa fn pf ex K = valP fn pf) (i : Nat) {d : He.DefD} (h : fn[i]? = some d) : ∃ fd, FunD K d.name d.qual d.params d.body d.scope (d.dvs K) (d.kws K) (He.fAd K d.at_) fd := by
  have e2 : (fn.map fun d => He.fnW K d.at_)[i]? = (fn.map He.DefD.val)[i]? := by rw [(saysP_2 c).1]
  rw [List.getElem?_map, List.getElem?_map, h] at e2
  exact He.DefD.funD (Option.some.inj e2) (List.all_eq_true.mp (He.ba (saysP_1 c)).2 d (List.mem_of_getElem? h))
theorem saysP_pth (c : obsP fa fn pf ex K = valP fn pf) (i : Nat) {d : PDef} (h : pf[i]? = some d) (g : d.ok K = true) : ∃ fd, FunD K d.nm d.ql d.ag d.bd d.sc [] [] (d.pt K) fd := by
  have e2 : (pf.map (PDef.see K))[i]? = (pf.map PDef.val)[i]? := by rw [(saysP_2 c).2]
  rw [List.getElem?_map, List.getElem?_map, h] at e2
  exact PDef.fun_ (Option.some.inj e2) g
end
/-- a method's written text behind its object -/
theorem meth_of_d {x q : Str} {st : Stmt} {kws : List (Str × V)} {f : Addr} {fd : FuncData} {K : PySem.W.Frag} (F : FunD K x q (defArgs st) (defBody st) (defScope st) [] kws f fd) : Fun K x q st f fd := by
  obtain ⟨oc, od, dV, kV, doc, pm, an, cdv, ct, osl, rfl, lk, hcd, hD, hK⟩ := F.ex
  rcases hD with ⟨_, rfl⟩ | ⟨e, _⟩
  · exact ⟨⟨oc, od, kV, doc, pm, an, cdv, ct, osl, rfl, lk, hcd⟩, F.kp⟩
  · cases e rfl
/-- the keyword-only default x of the def at p, where it is an object -/
def kwAt (p : Str × Option Str) (x : Str) (K : PySem.W.Frag) : Addr := match K.lookup (He.fAd K p) with
  | none => 0
  | some o => match o.data with
    | .func u => (match u.kwdefaults with
      | .ref D => (match nsIn K D x with
        | some (some (.ref a)) => a
        | _ => 0)
      | _ => 0)
    | _ => 0
/-- a property's getter -/
def prAt (C m : Str) (K : PySem.W.Frag) : Addr := match recIn K (He.ma K (He.ga K C) m) "property" with
  | some (.ref f :: _) => f
  | _ => 0
def prpB (K : PySem.W.Frag) (C m : Str) : Bool := He.eqO (findIn K (.ref (He.ga K C)) m) (some (some (.ref (He.ma K (He.ga K C) m)))) && (He.eqO (specialIn K (.ref (He.ma K (He.ga K C) m)) "__get__") (some (some (.builtin "property.__get__"))) &&
  (decide (takesIn K (.ref (He.ma K (He.ga K C) m)) = some true) && (match recIn K (He.ma K (He.ga K C) m) "property" with
    | some (.ref _ :: _) => true
    | _ => false)))
theorem prpB_ok {K : PySem.W.Frag} {C m : Str} (h : prpB K C m = true) : ∃ q, PropOf K (He.ga K C) m q (prAt C m K) := by
  obtain ⟨h1, h⟩ := He.ba h
  obtain ⟨h2, h⟩ := He.ba h
  obtain ⟨h3, h4⟩ := He.ba h
  refine ⟨_, He.eqO_ok h1, He.eqO_ok h2, of_decide_eq_true h3, ?_⟩
  unfold prAt
  split at h4
  · rename_i f r e
    rw [e]
    exact ⟨r, rfl⟩
  · cases h4
/-- a tuple at an address -/
def tupA (K : PySem.W.Frag) (a : Addr) (vs : List V) : Bool := match K.lookup a with
  | none => false
  | some o => match o.cls, o.data with
    | .type c, .seq its _ => decide (c = "tuple") && (decide (its.size ≤ sizeLine) && He.relAll vs its.toList)
    | _, _ => false
theorem tupA_ok {K : PySem.W.Frag} {a : Addr} {vs : List V} (h : tupA K a vs = true) (H : Hp) : SqT K H a vs := by
  unfold tupA at h
  cases e : K.lookup a with
  | none => rw [e] at h; cases h
  | some o =>
    obtain ⟨oc, od, dat, sl⟩ := o
    rw [e] at h
    cases oc with
    | type c =>
      cases dat with
      | seq its n =>
        obtain ⟨h1, h2⟩ := He.ba (show (decide (c = "tuple") && (decide (its.size ≤ sizeLine) && He.relAll vs its.toList)) = true from h)
        obtain ⟨h3, h4⟩ := He.ba h2
        exact .inr ⟨_, its, n, e, congrArg Value.type (of_decide_eq_true h1), rfl, of_decide_eq_true h3, He.relAll_ok h4⟩
      | _ => cases h
    | _ => cases dat <;> cases h
end Vk

namespace Vk
section
open PySem PySem.W PySem.Calls PySem.HandSPX PyProof.Rows L2
def topH (i : Nat) : Stmt := PySem.Challenge.pw_clockverdict_k36_steering_refusals.main.body.getD i (.Pass ⟨0, 0, 0, 0⟩)
abbrev sH_rational : Stmt := topH 37
abbrev sH_add : Stmt := topH 38
abbrev sH_subtract : Stmt := topH 39
abbrev sH_multiply : Stmt := topH 40
abbrev sH_negate : Stmt := topH 41
abbrev sH_divide : Stmt := topH 42
abbrev sH_distance : Stmt := topH 43
abbrev sH_compare : Stmt := topH 44
abbrev sH_smaller : Stmt := topH 45
abbrev sH_larger : Stmt := topH 46
abbrev sH__shown_by : Stmt := topH 48
abbrev sH__place_at : Stmt := topH 49
abbrev sH__piece_at : Stmt := topH 50
abbrev sH_shown_at : Stmt := topH 51
abbrev sH__jump_at : Stmt := topH 52
abbrev sH_tidy : Stmt := topH 53
abbrev sH_width_of : Stmt := topH 55
abbrev sH_middle_of : Stmt := topH 56
abbrev sH_far_end : Stmt := topH 57
abbrev sH__higher_low : Stmt := topH 58
abbrev sH__lower_high : Stmt := topH 59
abbrev sH_meet : Stmt := topH 60
abbrev sH_require_not_below_zero : Stmt := topH 62
abbrev sH__require_slew_and_drift : Stmt := topH 63
abbrev sH__bound_behind : Stmt := topH 64
abbrev sH__planned : Stmt := topH 65
abbrev sH__law_store : Stmt := topH 68
abbrev sH__law_feed : Stmt := topH 69
abbrev sH__law_mixed : Stmt := topH 70
abbrev sH__law_take : Stmt := topH 71
abbrev sH__law_pick : Stmt := topH 72
abbrev sH__law_size : Stmt := topH 73
abbrev sH__law_shuffled : Stmt := topH 74
abbrev sH__law_is_int : Stmt := topH 75
abbrev sH__law_same : Stmt := topH 76
abbrev sH__law_frac : Stmt := topH 77
abbrev sH__law_plus : Stmt := topH 78
abbrev sH__law_minus : Stmt := topH 79
abbrev sH__law_times : Stmt := topH 80
abbrev sH__law_below : Stmt := topH 81
abbrev sH__law_is_frac : Stmt := topH 82
abbrev sH__law_part : Stmt := topH 83
abbrev sH__law_spare : Stmt := topH 84
abbrev sH__law_above : Stmt := topH 85
abbrev sH__law_slews : Stmt := topH 86
abbrev sH__law_over_step : Stmt := topH 87
abbrev sH__law_steers : Stmt := topH 88
abbrev sH__law_negative : Stmt := topH 89
abbrev sH__law_bad_slew : Stmt := topH 90
abbrev sH__law_bad_drift : Stmt := topH 91
abbrev sH__law_bad_steering : Stmt := topH 92
abbrev sH__law_alone : Stmt := topH 93
abbrev sH__law_classes : Stmt := topH 94
abbrev sH__law_not_made : Stmt := topH 95
abbrev sH__law_refused : Stmt := topH 96
abbrev sH__law_look : Stmt := topH 97
abbrev sH__law_bad_calls : Stmt := topH 98
abbrev sH_law : Stmt := topH 99
abbrev sI_BeforeStart : Stmt := method (topH 6) 0
abbrev sI_TurnsBack : Stmt := method (topH 7) 0
abbrev sI_BadRate : Stmt := method (topH 8) 0
abbrev sI_BadBound : Stmt := method (topH 9) 0
abbrev sH_Steering_init : Stmt := method (topH 66) 0
def dM_Steering_init : He.DefD := ⟨("Steering", some "__init__"), "__init__", "Steering.__init__", defArgs sH_Steering_init, defBody sH_Steering_init, defScope sH_Steering_init, [], [("drift", .adr (kwAt ("Steering", some "__init__") "drift")), ("step_over", .non)]⟩
abbrev sH_Steering_steer : Stmt := method (topH 66) 1
def dM_Steering_steer : He.DefD := ⟨("Steering", some "steer"), "steer", "Steering.steer", defArgs sH_Steering_steer, defBody sH_Steering_steer, defScope sH_Steering_steer, [], []⟩
abbrev sH_Steering_display : Stmt := method (topH 66) 5
def dM_Steering_display : He.DefD := ⟨("Steering", some "display"), "display", "Steering.display", defArgs sH_Steering_display, defBody sH_Steering_display, defScope sH_Steering_display, [], []⟩
abbrev sH_Steering_error_at : Stmt := method (topH 66) 6
def dM_Steering_error_at : He.DefD := ⟨("Steering", some "error_at"), "error_at", "Steering.error_at", defArgs sH_Steering_error_at, defBody sH_Steering_error_at, defScope sH_Steering_error_at, [], []⟩
abbrev sH_Steering_course_of : Stmt := method (topH 66) 7
def dM_Steering_course_of : He.DefD := ⟨("Steering", some "course_of"), "course_of", "Steering.course_of", defArgs sH_Steering_course_of, defBody sH_Steering_course_of, defScope sH_Steering_course_of, [], []⟩
abbrev sH_Steering__plan : Stmt := method (topH 66) 3
def dM_Steering__plan : He.DefD := ⟨("Steering", some "_plan"), "_plan", "Steering._plan", defArgs sH_Steering__plan, defBody sH_Steering__plan, defScope sH_Steering__plan, [], []⟩
abbrev sH_Steering__jumps_to : Stmt := method (topH 66) 2
def dM_Steering__jumps_to : He.DefD := ⟨("Steering", some "_jumps_to"), "_jumps_to", "Steering._jumps_to", defArgs sH_Steering__jumps_to, defBody sH_Steering__jumps_to, defScope sH_Steering__jumps_to, [], []⟩
abbrev sH_Steering_aim : Stmt := method (topH 66) 4
def dP_Steering_aim : PDef := ⟨prAt "Steering" "aim", "aim", "Steering.aim", defArgs sH_Steering_aim, defBody sH_Steering_aim, defScope sH_Steering_aim⟩
def dH_rational : He.DefD := ⟨("rational", none), "rational", "rational", defArgs sH_rational, defBody sH_rational, defScope sH_rational, [.int 1], []⟩
def dH_add : He.DefD := ⟨("add", none), "add", "add", defArgs sH_add, defBody sH_add, defScope sH_add, [], []⟩
def dH_subtract : He.DefD := ⟨("subtract", none), "subtract", "subtract", defArgs sH_subtract, defBody sH_subtract, defScope sH_subtract, [], []⟩
def dH_multiply : He.DefD := ⟨("multiply", none), "multiply", "multiply", defArgs sH_multiply, defBody sH_multiply, defScope sH_multiply, [], []⟩
def dH_negate : He.DefD := ⟨("negate", none), "negate", "negate", defArgs sH_negate, defBody sH_negate, defScope sH_negate, [], []⟩
def dH_divide : He.DefD := ⟨("divide", none), "divide", "divide", defArgs sH_divide, defBody sH_divide, defScope sH_divide, [], []⟩
def dH_distance : He.DefD := ⟨("distance", none), "distance", "distance", defArgs sH_distance, defBody sH_distance, defScope sH_distance, [], []⟩
def dH_compare : He.DefD := ⟨("compare", none), "compare", "compare", defArgs sH_compare, defBody sH_compare, defScope sH_compare, [], []⟩
def dH_smaller : He.DefD := ⟨("smaller", none), "smaller", "smaller", defArgs sH_smaller, defBody sH_smaller, defScope sH_smaller, [], []⟩
def dH_larger : He.DefD := ⟨("larger", none), "larger", "larger", defArgs sH_larger, defBody sH_larger, defScope sH_larger, [], []⟩
def dH__shown_by : He.DefD := ⟨("_shown_by", none), "_shown_by", "_shown_by", defArgs sH__shown_by, defBody sH__shown_by, defScope sH__shown_by, [], []⟩
def dH__place_at : He.DefD := ⟨("_place_at", none), "_place_at", "_place_at", defArgs sH__place_at, defBody sH__place_at, defScope sH__place_at, [], []⟩
def dH__piece_at : He.DefD := ⟨("_piece_at", none), "_piece_at", "_piece_at", defArgs sH__piece_at, defBody sH__piece_at, defScope sH__piece_at, [], []⟩
def dH_shown_at : He.DefD := ⟨("shown_at", none), "shown_at", "shown_at", defArgs sH_shown_at, defBody sH_shown_at, defScope sH_shown_at, [], []⟩
def dH__jump_at : He.DefD := ⟨("_jump_at", none), "_jump_at", "_jump_at", defArgs sH__jump_at, defBody sH__jump_at, defScope sH__jump_at, [], []⟩
def dH_tidy : He.DefD := ⟨("tidy", none), "tidy", "tidy", defArgs sH_tidy, defBody sH_tidy, defScope sH_tidy, [], []⟩
def dH_width_of : He.DefD := ⟨("width_of", none), "width_of", "width_of", defArgs sH_width_of, defBody sH_width_of, defScope sH_width_of, [], []⟩
def dH_middle_of : He.DefD := ⟨("middle_of", none), "middle_of", "middle_of", defArgs sH_middle_of, defBody sH_middle_of, defScope sH_middle_of, [], []⟩
def dH_far_end : He.DefD := ⟨("far_end", none), "far_end", "far_end", defArgs sH_far_end, defBody sH_far_end, defScope sH_far_end, [], []⟩
def dH__higher_low : He.DefD := ⟨("_higher_low", none), "_higher_low", "_higher_low", defArgs sH__higher_low, defBody sH__higher_low, defScope sH__higher_low, [], []⟩
def dH__lower_high : He.DefD := ⟨("_lower_high", none), "_lower_high", "_lower_high", defArgs sH__lower_high, defBody sH__lower_high, defScope sH__lower_high, [], []⟩
def dH_meet : He.DefD := ⟨("meet", none), "meet", "meet", defArgs sH_meet, defBody sH_meet, defScope sH_meet, [], []⟩
def dH_require_not_below_zero : He.DefD := ⟨("require_not_below_zero", none), "require_not_below_zero", "require_not_below_zero", defArgs sH_require_not_below_zero, defBody sH_require_not_below_zero, defScope sH_require_not_below_zero, [], []⟩
def dH__require_slew_and_drift : He.DefD := ⟨("_require_slew_and_drift", none), "_require_slew_and_drift", "_require_slew_and_drift", defArgs sH__require_slew_and_drift, defBody sH__require_slew_and_drift, defScope sH__require_slew_and_drift, [], []⟩
def dH__bound_behind : He.DefD := ⟨("_bound_behind", none), "_bound_behind", "_bound_behind", defArgs sH__bound_behind, defBody sH__bound_behind, defScope sH__bound_behind, [], []⟩
def dH__planned : He.DefD := ⟨("_planned", none), "_planned", "_planned", defArgs sH__planned, defBody sH__planned, defScope sH__planned, [], []⟩
def dH__law_store : He.DefD := ⟨("_law_store", none), "_law_store", "_law_store", defArgs sH__law_store, defBody sH__law_store, defScope sH__law_store, [], []⟩
def dH__law_feed : He.DefD := ⟨("_law_feed", none), "_law_feed", "_law_feed", defArgs sH__law_feed, defBody sH__law_feed, defScope sH__law_feed, [], []⟩
def dH__law_mixed : He.DefD := ⟨("_law_mixed", none), "_law_mixed", "_law_mixed", defArgs sH__law_mixed, defBody sH__law_mixed, defScope sH__law_mixed, [], []⟩
def dH__law_take : He.DefD := ⟨("_law_take", none), "_law_take", "_law_take", defArgs sH__law_take, defBody sH__law_take, defScope sH__law_take, [], []⟩
def dH__law_pick : He.DefD := ⟨("_law_pick", none), "_law_pick", "_law_pick", defArgs sH__law_pick, defBody sH__law_pick, defScope sH__law_pick, [], []⟩
def dH__law_size : He.DefD := ⟨("_law_size", none), "_law_size", "_law_size", defArgs sH__law_size, defBody sH__law_size, defScope sH__law_size, [], []⟩
def dH__law_shuffled : He.DefD := ⟨("_law_shuffled", none), "_law_shuffled", "_law_shuffled", defArgs sH__law_shuffled, defBody sH__law_shuffled, defScope sH__law_shuffled, [], []⟩
def dH__law_is_int : He.DefD := ⟨("_law_is_int", none), "_law_is_int", "_law_is_int", defArgs sH__law_is_int, defBody sH__law_is_int, defScope sH__law_is_int, [], []⟩
def dH__law_same : He.DefD := ⟨("_law_same", none), "_law_same", "_law_same", defArgs sH__law_same, defBody sH__law_same, defScope sH__law_same, [], []⟩
def dH__law_frac : He.DefD := ⟨("_law_frac", none), "_law_frac", "_law_frac", defArgs sH__law_frac, defBody sH__law_frac, defScope sH__law_frac, [], []⟩
def dH__law_plus : He.DefD := ⟨("_law_plus", none), "_law_plus", "_law_plus", defArgs sH__law_plus, defBody sH__law_plus, defScope sH__law_plus, [], []⟩
def dH__law_minus : He.DefD := ⟨("_law_minus", none), "_law_minus", "_law_minus", defArgs sH__law_minus, defBody sH__law_minus, defScope sH__law_minus, [], []⟩
def dH__law_times : He.DefD := ⟨("_law_times", none), "_law_times", "_law_times", defArgs sH__law_times, defBody sH__law_times, defScope sH__law_times, [], []⟩
def dH__law_below : He.DefD := ⟨("_law_below", none), "_law_below", "_law_below", defArgs sH__law_below, defBody sH__law_below, defScope sH__law_below, [], []⟩
def dH__law_is_frac : He.DefD := ⟨("_law_is_frac", none), "_law_is_frac", "_law_is_frac", defArgs sH__law_is_frac, defBody sH__law_is_frac, defScope sH__law_is_frac, [], []⟩
def dH__law_part : He.DefD := ⟨("_law_part", none), "_law_part", "_law_part", defArgs sH__law_part, defBody sH__law_part, defScope sH__law_part, [], []⟩
def dH__law_spare : He.DefD := ⟨("_law_spare", none), "_law_spare", "_law_spare", defArgs sH__law_spare, defBody sH__law_spare, defScope sH__law_spare, [], []⟩
def dH__law_above : He.DefD := ⟨("_law_above", none), "_law_above", "_law_above", defArgs sH__law_above, defBody sH__law_above, defScope sH__law_above, [], []⟩
def dH__law_slews : He.DefD := ⟨("_law_slews", none), "_law_slews", "_law_slews", defArgs sH__law_slews, defBody sH__law_slews, defScope sH__law_slews, [], []⟩
def dH__law_over_step : He.DefD := ⟨("_law_over_step", none), "_law_over_step", "_law_over_step", defArgs sH__law_over_step, defBody sH__law_over_step, defScope sH__law_over_step, [], []⟩
def dH__law_steers : He.DefD := ⟨("_law_steers", none), "_law_steers", "_law_steers", defArgs sH__law_steers, defBody sH__law_steers, defScope sH__law_steers, [], []⟩
def dH__law_negative : He.DefD := ⟨("_law_negative", none), "_law_negative", "_law_negative", defArgs sH__law_negative, defBody sH__law_negative, defScope sH__law_negative, [], []⟩
def dH__law_bad_slew : He.DefD := ⟨("_law_bad_slew", none), "_law_bad_slew", "_law_bad_slew", defArgs sH__law_bad_slew, defBody sH__law_bad_slew, defScope sH__law_bad_slew, [], []⟩
def dH__law_bad_drift : He.DefD := ⟨("_law_bad_drift", none), "_law_bad_drift", "_law_bad_drift", defArgs sH__law_bad_drift, defBody sH__law_bad_drift, defScope sH__law_bad_drift, [], []⟩
def dH__law_bad_steering : He.DefD := ⟨("_law_bad_steering", none), "_law_bad_steering", "_law_bad_steering", defArgs sH__law_bad_steering, defBody sH__law_bad_steering, defScope sH__law_bad_steering, [], []⟩
def dH__law_alone : He.DefD := ⟨("_law_alone", none), "_law_alone", "_law_alone", defArgs sH__law_alone, defBody sH__law_alone, defScope sH__law_alone, [], []⟩
def dH__law_classes : He.DefD := ⟨("_law_classes", none), "_law_classes", "_law_classes", defArgs sH__law_classes, defBody sH__law_classes, defScope sH__law_classes, [], []⟩
def dH__law_not_made : He.DefD := ⟨("_law_not_made", none), "_law_not_made", "_law_not_made", defArgs sH__law_not_made, defBody sH__law_not_made, defScope sH__law_not_made, [], []⟩
def dH__law_refused : He.DefD := ⟨("_law_refused", none), "_law_refused", "_law_refused", defArgs sH__law_refused, defBody sH__law_refused, defScope sH__law_refused, [], []⟩
def dH__law_look : He.DefD := ⟨("_law_look", none), "_law_look", "_law_look", defArgs sH__law_look, defBody sH__law_look, defScope sH__law_look, [], []⟩
def dH__law_bad_calls : He.DefD := ⟨("_law_bad_calls", none), "_law_bad_calls", "_law_bad_calls", defArgs sH__law_bad_calls, defBody sH__law_bad_calls, defScope sH__law_bad_calls, [], []⟩
def dH_law : He.DefD := ⟨("law", none), "law", "law", defArgs sH_law, defBody sH_law, defScope sH_law, [], []⟩
def dI_BeforeStart : He.DefD := ⟨("BeforeStart", some "__init__"), "__init__", "BeforeStart.__init__", defArgs sI_BeforeStart, defBody sI_BeforeStart, defScope sI_BeforeStart, [], []⟩
def dI_TurnsBack : He.DefD := ⟨("TurnsBack", some "__init__"), "__init__", "TurnsBack.__init__", defArgs sI_TurnsBack, defBody sI_TurnsBack, defScope sI_TurnsBack, [], []⟩
def dI_BadRate : He.DefD := ⟨("BadRate", some "__init__"), "__init__", "BadRate.__init__", defArgs sI_BadRate, defBody sI_BadRate, defScope sI_BadRate, [], []⟩
def dI_BadBound : He.DefD := ⟨("BadBound", some "__init__"), "__init__", "BadBound.__init__", defArgs sI_BadBound, defBody sI_BadBound, defScope sI_BadBound, [], []⟩
def asH0 : List Addr := [3, 6, 4, 52, 65, 84, 103, 122, 141, 160, 179, 198, 217, 236, 255, 274, 293, 312, 331, 350, 367, 386, 405, 424, 443, 462, 481, 493, 512, 531, 550, 569, 581, 593, 596, 597, 598, 606, 613, 620, 627, 634, 641, 648, 655, 662, 669, 676, 683, 690, 697, 704, 711, 718, 725, 732, 739, 746, 753, 760]
def asH1 : List Addr := [767, 774, 781, 848, 859, 866, 873, 880, 887, 894, 901, 908, 913, 920, 927, 934, 941, 948, 955, 962, 969, 976, 983, 990, 997, 1004, 1011, 1018, 1025, 1032, 1039, 1046, 1053, 1058, 1065, 1072, 0, 51, 64, 83, 102, 121, 140, 159, 178, 197, 216, 235, 254, 273, 292, 311, 330, 349, 366, 385, 404, 423, 442, 461]
def asH2 : List Addr := [480, 492, 511, 530, 549, 568, 580, 592, 605, 599, 612, 619, 626, 633, 640, 647, 654, 661, 668, 675, 682, 689, 696, 703, 710, 717, 724, 731, 738, 745, 752, 759, 766, 773, 780, 847, 858, 865, 872, 879, 886, 893, 900, 907, 912, 919, 926, 933, 940, 947, 954, 961, 968, 975, 982, 989, 996, 1003, 1010, 1017]
def asH3 : List Addr := [1024, 1031, 1038, 1045, 1052, 1057, 1064, 1071, 50, 53, 63, 81, 82, 100, 101, 119, 120, 138, 139, 157, 158, 176, 177, 195, 196, 214, 215, 233, 234, 252, 253, 271, 272, 290, 291, 309, 310, 328, 329, 347, 348, 364, 365, 383, 384, 402, 403, 421, 422, 440, 441, 459, 460, 478, 479, 491, 509, 510, 528, 529]
def asH4 : List Addr := [547, 548, 566, 567, 579, 591, 600, 601, 602, 603, 604, 607, 608, 609, 610, 611, 614, 615, 616, 617, 618, 621, 622, 623, 624, 625, 628, 629, 630, 631, 632, 635, 636, 637, 638, 639, 642, 643, 644, 645, 646, 649, 650, 651, 652, 653, 656, 657, 658, 659, 660, 663, 664, 665, 666, 667, 670, 671, 672, 673]
def asH5 : List Addr := [674, 677, 678, 679, 680, 681, 684, 685, 686, 687, 688, 691, 692, 693, 694, 695, 698, 699, 700, 701, 702, 705, 706, 707, 708, 709, 712, 713, 714, 715, 716, 719, 720, 721, 722, 723, 726, 727, 728, 729, 730, 733, 734, 735, 736, 737, 740, 741, 742, 743, 744, 747, 748, 749, 750, 751, 754, 755, 756, 757]
def asH6 : List Addr := [758, 761, 762, 763, 764, 765, 768, 769, 770, 771, 772, 775, 776, 777, 778, 779, 797, 804, 811, 816, 824, 831, 838, 845, 846, 849, 850, 853, 854, 855, 856, 857, 860, 861, 862, 863, 864, 867, 868, 869, 870, 871, 874, 875, 876, 877, 878, 881, 882, 883, 884, 885, 888, 889, 890, 891, 892, 895, 896, 897]
def asH7 : List Addr := [898, 899, 902, 903, 904, 905, 906, 909, 910, 911, 914, 915, 916, 917, 918, 921, 922, 923, 924, 925, 928, 929, 930, 931, 932, 935, 936, 937, 938, 939, 942, 943, 944, 945, 946, 949, 950, 951, 952, 953, 956, 957, 958, 959, 960, 963, 964, 965, 966, 967, 970, 971, 972, 973, 974, 977, 978, 979, 980, 981]
def asH8 : List Addr := [984, 985, 986, 987, 988, 991, 992, 993, 994, 995, 998, 999, 1000, 1001, 1002, 1005, 1006, 1007, 1008, 1009, 1012, 1013, 1014, 1015, 1016, 1019, 1020, 1021, 1022, 1023, 1026, 1027, 1028, 1029, 1030, 1033, 1034, 1035, 1036, 1037, 1040, 1041, 1042, 1043, 1044, 1047, 1048, 1049, 1050, 1051, 1054, 1055, 1056, 1059, 1060, 1061, 1062, 1063, 1066, 1067]
def asH9 : List Addr := [1068, 1069, 1070, 80, 99, 118, 137, 156, 175, 194, 213, 232, 251, 270, 289, 308, 327, 346, 363, 382, 401, 420, 439, 458, 477, 508, 527, 546, 565, 796, 790, 803, 810, 815, 823, 830, 837, 844, 75, 76, 77, 78, 79, 94, 95, 96, 97, 98, 113, 114, 115, 116, 117, 132, 133, 134, 135, 136, 151, 152]
def asH10 : List Addr := [153, 154, 155, 170, 171, 172, 173, 174, 189, 190, 191, 192, 193, 208, 209, 210, 211, 212, 227, 228, 229, 230, 231, 246, 247, 248, 249, 250, 265, 266, 267, 268, 269, 284, 285, 286, 287, 288, 303, 304, 305, 306, 307, 322, 323, 324, 325, 326, 341, 342, 343, 344, 345, 360, 361, 362, 377, 378, 379, 380]
def asH11 : List Addr := [381, 396, 397, 398, 399, 400, 415, 416, 417, 418, 419, 434, 435, 436, 437, 438, 453, 454, 455, 456, 457, 472, 473, 474, 475, 476, 503, 504, 505, 506, 507, 522, 523, 524, 525, 526, 541, 542, 543, 544, 545, 560, 561, 562, 563, 564, 791, 792, 793, 794, 795, 789, 798, 799, 800, 801, 802, 805, 806, 807]
def asH12 : List Addr := [808, 809, 812, 813, 814, 822, 825, 826, 827, 828, 829, 832, 833, 834, 835, 836, 839, 840, 841, 842, 843, 817, 818, 819, 820, 821]
def asH : List Addr := asH0 ++ asH1 ++ asH2 ++ asH3 ++ asH4 ++ asH5 ++ asH6 ++ asH7 ++ asH8 ++ asH9 ++ asH10 ++ asH11 ++ asH12
def faH0 : List He.Fa := [.glo "rational", .glo "add", .glo "subtract", .glo "multiply", .glo "negate", .glo "divide", .glo "distance", .glo "compare", .glo "smaller", .glo "larger", .glo "_shown_by", .glo "_place_at", .glo "_piece_at", .glo "shown_at", .glo "_jump_at", .glo "tidy", .glo "width_of", .glo "middle_of", .glo "far_end", .glo "_higher_low", .glo "_lower_high", .glo "meet", .glo "require_not_below_zero", .glo "_require_slew_and_drift", .glo "_bound_behind", .glo "_planned", .glo "_law_store", .glo "_law_feed", .glo "_law_mixed", .glo "_law_take"]
def faH1 : List He.Fa := [.glo "_law_pick", .glo "_law_size", .glo "_law_shuffled", .glo "_law_is_int", .glo "_law_same", .glo "_law_frac", .glo "_law_plus", .glo "_law_minus", .glo "_law_times", .glo "_law_below", .glo "_law_is_frac", .glo "_law_part", .glo "_law_spare", .glo "_law_above", .glo "_law_slews", .glo "_law_over_step", .glo "_law_steers", .glo "_law_negative", .glo "_law_bad_slew", .glo "_law_bad_drift", .glo "_law_bad_steering", .glo "_law_alone", .glo "_law_classes", .glo "_law_not_made", .glo "_law_refused", .glo "_law_look", .glo "_law_bad_calls", .glo "law", .glo "BeforeStart", .glo "TurnsBack"]
def faH2 : List He.Fa := [.glo "BadRate", .glo "BadBound", .glo "ZeroDivisor", .glo "BadNumber", .glo "EmptySpan", .glo "BadName", .glo "DuplicateName", .glo "UnknownName", .glo "BadLink", .glo "UnknownLink", .glo "BadNote", .glo "UnknownMoment", .glo "NoWorld", .glo "OutsideSpan", .glo "TooManyLiars", .glo "RootFollows", .glo "Condemned", .glo "BadDate", .glo "BadLeap", .glo "BadLabel", .glo "NoSuchSecond", .glo "BadCells", .glo "RefusedEntry", .glo "DuplicateTag", .glo "UnknownTag", .glo "BadLine", .glo "NothingToUndo", .glo "NothingToRedo", .glo "VerdictError", .glo "ZERO"]
def faH3 : List He.Fa := [.glo "ONE", .glo "HALF", .glo "Steering", .free "len", .free "abs", .free "max", .free "int", .free "isinstance", .free "range", .free "enumerate", .free "list", .free "tuple", .free "str", .free "bool", .free "dict", .free "ValueError", .cls "Steering", .mkr "Steering", .noat "Steering" "_slew", .noat "Steering" "_drift", .noat "Steering" "_step_over", .noat "Steering" "_course", .noat "Steering" "_aim", .noat "Steering" "_last", .noat "Steering" "_bound", .noat "Steering" "_half", .meth "Steering" "steer", .meth "Steering" "display", .meth "Steering" "error_at", .meth "Steering" "course_of"]
def faH4 : List He.Fa := [.meth "Steering" "_plan", .meth "Steering" "_jumps_to"]
def faH : List He.Fa := faH0 ++ faH1 ++ faH2 ++ faH3 ++ faH4
def fnH0 : List He.DefD := [dH_rational, dH_add, dH_subtract, dH_multiply, dH_negate, dH_divide, dH_distance, dH_compare, dH_smaller, dH_larger, dH__shown_by, dH__place_at, dH__piece_at, dH_shown_at, dH__jump_at, dH_tidy, dH_width_of, dH_middle_of, dH_far_end, dH__higher_low, dH__lower_high, dH_meet, dH_require_not_below_zero, dH__require_slew_and_drift, dH__bound_behind, dH__planned, dH__law_store, dH__law_feed, dH__law_mixed, dH__law_take]
def fnH1 : List He.DefD := [dH__law_pick, dH__law_size, dH__law_shuffled, dH__law_is_int, dH__law_same, dH__law_frac, dH__law_plus, dH__law_minus, dH__law_times, dH__law_below, dH__law_is_frac, dH__law_part, dH__law_spare, dH__law_above, dH__law_slews, dH__law_over_step, dH__law_steers, dH__law_negative, dH__law_bad_slew, dH__law_bad_drift, dH__law_bad_steering, dH__law_alone, dH__law_classes, dH__law_not_made, dH__law_refused, dH__law_look, dH__law_bad_calls, dH_law, dI_BeforeStart, dI_TurnsBack]
def fnH2 : List He.DefD := [dI_BadRate, dI_BadBound, dM_Steering_init, dM_Steering_steer, dM_Steering_display, dM_Steering_error_at, dM_Steering_course_of, dM_Steering__plan, dM_Steering__jumps_to]
def fnH : List He.DefD := fnH0 ++ fnH1 ++ fnH2
def exH0 : List (PySem.W.Frag → Bool) := [fun K => He.eqO (nsIn K mainGlobals "gcd") (some (some (.builtin "math.gcd"))), fun K => He.tupB K "ZERO" [.int 0, .int 1], fun K => He.tupB K "ONE" [.int 1, .int 1], fun K => He.tupB K "HALF" [.int 1, .int 2], fun K => errB K "BeforeStart", fun K => initB K "BeforeStart", fun K => errB K "TurnsBack", fun K => initB K "TurnsBack", fun K => errB K "BadRate", fun K => initB K "BadRate", fun K => errB K "BadBound", fun K => initB K "BadBound", fun K => excB K "BeforeStart", fun K => excB K "TurnsBack", fun K => excB K "BadRate", fun K => excB K "BadBound", fun K => decide (kitOne K (.ref (He.ga K "BeforeStart")) (.ref (He.ga K "ZeroDivisor")) = some false), fun K => decide (kitOne K (.ref (He.ga K "BeforeStart")) (.ref (He.ga K "BadNumber")) = some false), fun K => decide (kitOne K (.ref (He.ga K "BeforeStart")) (.ref (He.ga K "EmptySpan")) = some false), fun K => decide (kitOne K (.ref (He.ga K "BeforeStart")) (.ref (He.ga K "BeforeStart")) = some true)]
def exH1 : List (PySem.W.Frag → Bool) := [fun K => decide (kitOne K (.ref (He.ga K "BeforeStart")) (.ref (He.ga K "TurnsBack")) = some false), fun K => decide (kitOne K (.ref (He.ga K "BeforeStart")) (.ref (He.ga K "BadRate")) = some false), fun K => decide (kitOne K (.ref (He.ga K "BeforeStart")) (.ref (He.ga K "BadBound")) = some false), fun K => decide (kitOne K (.ref (He.ga K "BeforeStart")) (.ref (He.ga K "BadName")) = some false), fun K => decide (kitOne K (.ref (He.ga K "BeforeStart")) (.ref (He.ga K "DuplicateName")) = some false), fun K => decide (kitOne K (.ref (He.ga K "BeforeStart")) (.ref (He.ga K "UnknownName")) = some false), fun K => decide (kitOne K (.ref (He.ga K "BeforeStart")) (.ref (He.ga K "BadLink")) = some false), fun K => decide (kitOne K (.ref (He.ga K "BeforeStart")) (.ref (He.ga K "UnknownLink")) = some false), fun K => decide (kitOne K (.ref (He.ga K "BeforeStart")) (.ref (He.ga K "BadNote")) = some false), fun K => decide (kitOne K (.ref (He.ga K "BeforeStart")) (.ref (He.ga K "UnknownMoment")) = some false), fun K => decide (kitOne K (.ref (He.ga K "BeforeStart")) (.ref (He.ga K "NoWorld")) = some false), fun K => decide (kitOne K (.ref (He.ga K "BeforeStart")) (.ref (He.ga K "OutsideSpan")) = some false), fun K => decide (kitOne K (.ref (He.ga K "BeforeStart")) (.ref (He.ga K "TooManyLiars")) = some false), fun K => decide (kitOne K (.ref (He.ga K "BeforeStart")) (.ref (He.ga K "RootFollows")) = some false), fun K => decide (kitOne K (.ref (He.ga K "BeforeStart")) (.ref (He.ga K "Condemned")) = some false), fun K => decide (kitOne K (.ref (He.ga K "BeforeStart")) (.ref (He.ga K "BadDate")) = some false), fun K => decide (kitOne K (.ref (He.ga K "BeforeStart")) (.ref (He.ga K "BadLeap")) = some false), fun K => decide (kitOne K (.ref (He.ga K "BeforeStart")) (.ref (He.ga K "BadLabel")) = some false), fun K => decide (kitOne K (.ref (He.ga K "BeforeStart")) (.ref (He.ga K "NoSuchSecond")) = some false), fun K => decide (kitOne K (.ref (He.ga K "BeforeStart")) (.ref (He.ga K "BadCells")) = some false)]
def exH2 : List (PySem.W.Frag → Bool) := [fun K => decide (kitOne K (.ref (He.ga K "BeforeStart")) (.ref (He.ga K "RefusedEntry")) = some false), fun K => decide (kitOne K (.ref (He.ga K "BeforeStart")) (.ref (He.ga K "DuplicateTag")) = some false), fun K => decide (kitOne K (.ref (He.ga K "BeforeStart")) (.ref (He.ga K "UnknownTag")) = some false), fun K => decide (kitOne K (.ref (He.ga K "BeforeStart")) (.ref (He.ga K "BadLine")) = some false), fun K => decide (kitOne K (.ref (He.ga K "BeforeStart")) (.ref (He.ga K "NothingToUndo")) = some false), fun K => decide (kitOne K (.ref (He.ga K "BeforeStart")) (.ref (He.ga K "NothingToRedo")) = some false), fun K => decide (kitOne K (.ref (He.ga K "TurnsBack")) (.ref (He.ga K "ZeroDivisor")) = some false), fun K => decide (kitOne K (.ref (He.ga K "TurnsBack")) (.ref (He.ga K "BadNumber")) = some false), fun K => decide (kitOne K (.ref (He.ga K "TurnsBack")) (.ref (He.ga K "EmptySpan")) = some false), fun K => decide (kitOne K (.ref (He.ga K "TurnsBack")) (.ref (He.ga K "BeforeStart")) = some false), fun K => decide (kitOne K (.ref (He.ga K "TurnsBack")) (.ref (He.ga K "TurnsBack")) = some true), fun K => decide (kitOne K (.ref (He.ga K "TurnsBack")) (.ref (He.ga K "BadRate")) = some false), fun K => decide (kitOne K (.ref (He.ga K "TurnsBack")) (.ref (He.ga K "BadBound")) = some false), fun K => decide (kitOne K (.ref (He.ga K "TurnsBack")) (.ref (He.ga K "BadName")) = some false), fun K => decide (kitOne K (.ref (He.ga K "TurnsBack")) (.ref (He.ga K "DuplicateName")) = some false), fun K => decide (kitOne K (.ref (He.ga K "TurnsBack")) (.ref (He.ga K "UnknownName")) = some false), fun K => decide (kitOne K (.ref (He.ga K "TurnsBack")) (.ref (He.ga K "BadLink")) = some false), fun K => decide (kitOne K (.ref (He.ga K "TurnsBack")) (.ref (He.ga K "UnknownLink")) = some false), fun K => decide (kitOne K (.ref (He.ga K "TurnsBack")) (.ref (He.ga K "BadNote")) = some false), fun K => decide (kitOne K (.ref (He.ga K "TurnsBack")) (.ref (He.ga K "UnknownMoment")) = some false)]
def exH3 : List (PySem.W.Frag → Bool) := [fun K => decide (kitOne K (.ref (He.ga K "TurnsBack")) (.ref (He.ga K "NoWorld")) = some false), fun K => decide (kitOne K (.ref (He.ga K "TurnsBack")) (.ref (He.ga K "OutsideSpan")) = some false), fun K => decide (kitOne K (.ref (He.ga K "TurnsBack")) (.ref (He.ga K "TooManyLiars")) = some false), fun K => decide (kitOne K (.ref (He.ga K "TurnsBack")) (.ref (He.ga K "RootFollows")) = some false), fun K => decide (kitOne K (.ref (He.ga K "TurnsBack")) (.ref (He.ga K "Condemned")) = some false), fun K => decide (kitOne K (.ref (He.ga K "TurnsBack")) (.ref (He.ga K "BadDate")) = some false), fun K => decide (kitOne K (.ref (He.ga K "TurnsBack")) (.ref (He.ga K "BadLeap")) = some false), fun K => decide (kitOne K (.ref (He.ga K "TurnsBack")) (.ref (He.ga K "BadLabel")) = some false), fun K => decide (kitOne K (.ref (He.ga K "TurnsBack")) (.ref (He.ga K "NoSuchSecond")) = some false), fun K => decide (kitOne K (.ref (He.ga K "TurnsBack")) (.ref (He.ga K "BadCells")) = some false), fun K => decide (kitOne K (.ref (He.ga K "TurnsBack")) (.ref (He.ga K "RefusedEntry")) = some false), fun K => decide (kitOne K (.ref (He.ga K "TurnsBack")) (.ref (He.ga K "DuplicateTag")) = some false), fun K => decide (kitOne K (.ref (He.ga K "TurnsBack")) (.ref (He.ga K "UnknownTag")) = some false), fun K => decide (kitOne K (.ref (He.ga K "TurnsBack")) (.ref (He.ga K "BadLine")) = some false), fun K => decide (kitOne K (.ref (He.ga K "TurnsBack")) (.ref (He.ga K "NothingToUndo")) = some false), fun K => decide (kitOne K (.ref (He.ga K "TurnsBack")) (.ref (He.ga K "NothingToRedo")) = some false), fun K => decide (kitOne K (.ref (He.ga K "BadRate")) (.ref (He.ga K "ZeroDivisor")) = some false), fun K => decide (kitOne K (.ref (He.ga K "BadRate")) (.ref (He.ga K "BadNumber")) = some false), fun K => decide (kitOne K (.ref (He.ga K "BadRate")) (.ref (He.ga K "EmptySpan")) = some false), fun K => decide (kitOne K (.ref (He.ga K "BadRate")) (.ref (He.ga K "BeforeStart")) = some false)]
def exH4 : List (PySem.W.Frag → Bool) := [fun K => decide (kitOne K (.ref (He.ga K "BadRate")) (.ref (He.ga K "TurnsBack")) = some false), fun K => decide (kitOne K (.ref (He.ga K "BadRate")) (.ref (He.ga K "BadRate")) = some true), fun K => decide (kitOne K (.ref (He.ga K "BadRate")) (.ref (He.ga K "BadBound")) = some false), fun K => decide (kitOne K (.ref (He.ga K "BadRate")) (.ref (He.ga K "BadName")) = some false), fun K => decide (kitOne K (.ref (He.ga K "BadRate")) (.ref (He.ga K "DuplicateName")) = some false), fun K => decide (kitOne K (.ref (He.ga K "BadRate")) (.ref (He.ga K "UnknownName")) = some false), fun K => decide (kitOne K (.ref (He.ga K "BadRate")) (.ref (He.ga K "BadLink")) = some false), fun K => decide (kitOne K (.ref (He.ga K "BadRate")) (.ref (He.ga K "UnknownLink")) = some false), fun K => decide (kitOne K (.ref (He.ga K "BadRate")) (.ref (He.ga K "BadNote")) = some false), fun K => decide (kitOne K (.ref (He.ga K "BadRate")) (.ref (He.ga K "UnknownMoment")) = some false), fun K => decide (kitOne K (.ref (He.ga K "BadRate")) (.ref (He.ga K "NoWorld")) = some false), fun K => decide (kitOne K (.ref (He.ga K "BadRate")) (.ref (He.ga K "OutsideSpan")) = some false), fun K => decide (kitOne K (.ref (He.ga K "BadRate")) (.ref (He.ga K "TooManyLiars")) = some false), fun K => decide (kitOne K (.ref (He.ga K "BadRate")) (.ref (He.ga K "RootFollows")) = some false), fun K => decide (kitOne K (.ref (He.ga K "BadRate")) (.ref (He.ga K "Condemned")) = some false), fun K => decide (kitOne K (.ref (He.ga K "BadRate")) (.ref (He.ga K "BadDate")) = some false), fun K => decide (kitOne K (.ref (He.ga K "BadRate")) (.ref (He.ga K "BadLeap")) = some false), fun K => decide (kitOne K (.ref (He.ga K "BadRate")) (.ref (He.ga K "BadLabel")) = some false), fun K => decide (kitOne K (.ref (He.ga K "BadRate")) (.ref (He.ga K "NoSuchSecond")) = some false), fun K => decide (kitOne K (.ref (He.ga K "BadRate")) (.ref (He.ga K "BadCells")) = some false)]
def exH5 : List (PySem.W.Frag → Bool) := [fun K => decide (kitOne K (.ref (He.ga K "BadRate")) (.ref (He.ga K "RefusedEntry")) = some false), fun K => decide (kitOne K (.ref (He.ga K "BadRate")) (.ref (He.ga K "DuplicateTag")) = some false), fun K => decide (kitOne K (.ref (He.ga K "BadRate")) (.ref (He.ga K "UnknownTag")) = some false), fun K => decide (kitOne K (.ref (He.ga K "BadRate")) (.ref (He.ga K "BadLine")) = some false), fun K => decide (kitOne K (.ref (He.ga K "BadRate")) (.ref (He.ga K "NothingToUndo")) = some false), fun K => decide (kitOne K (.ref (He.ga K "BadRate")) (.ref (He.ga K "NothingToRedo")) = some false), fun K => decide (kitOne K (.ref (He.ga K "BadBound")) (.ref (He.ga K "ZeroDivisor")) = some false), fun K => decide (kitOne K (.ref (He.ga K "BadBound")) (.ref (He.ga K "BadNumber")) = some false), fun K => decide (kitOne K (.ref (He.ga K "BadBound")) (.ref (He.ga K "EmptySpan")) = some false), fun K => decide (kitOne K (.ref (He.ga K "BadBound")) (.ref (He.ga K "BeforeStart")) = some false), fun K => decide (kitOne K (.ref (He.ga K "BadBound")) (.ref (He.ga K "TurnsBack")) = some false), fun K => decide (kitOne K (.ref (He.ga K "BadBound")) (.ref (He.ga K "BadRate")) = some false), fun K => decide (kitOne K (.ref (He.ga K "BadBound")) (.ref (He.ga K "BadBound")) = some true), fun K => decide (kitOne K (.ref (He.ga K "BadBound")) (.ref (He.ga K "BadName")) = some false), fun K => decide (kitOne K (.ref (He.ga K "BadBound")) (.ref (He.ga K "DuplicateName")) = some false), fun K => decide (kitOne K (.ref (He.ga K "BadBound")) (.ref (He.ga K "UnknownName")) = some false), fun K => decide (kitOne K (.ref (He.ga K "BadBound")) (.ref (He.ga K "BadLink")) = some false), fun K => decide (kitOne K (.ref (He.ga K "BadBound")) (.ref (He.ga K "UnknownLink")) = some false), fun K => decide (kitOne K (.ref (He.ga K "BadBound")) (.ref (He.ga K "BadNote")) = some false), fun K => decide (kitOne K (.ref (He.ga K "BadBound")) (.ref (He.ga K "UnknownMoment")) = some false)]
def exH6 : List (PySem.W.Frag → Bool) := [fun K => decide (kitOne K (.ref (He.ga K "BadBound")) (.ref (He.ga K "NoWorld")) = some false), fun K => decide (kitOne K (.ref (He.ga K "BadBound")) (.ref (He.ga K "OutsideSpan")) = some false), fun K => decide (kitOne K (.ref (He.ga K "BadBound")) (.ref (He.ga K "TooManyLiars")) = some false), fun K => decide (kitOne K (.ref (He.ga K "BadBound")) (.ref (He.ga K "RootFollows")) = some false), fun K => decide (kitOne K (.ref (He.ga K "BadBound")) (.ref (He.ga K "Condemned")) = some false), fun K => decide (kitOne K (.ref (He.ga K "BadBound")) (.ref (He.ga K "BadDate")) = some false), fun K => decide (kitOne K (.ref (He.ga K "BadBound")) (.ref (He.ga K "BadLeap")) = some false), fun K => decide (kitOne K (.ref (He.ga K "BadBound")) (.ref (He.ga K "BadLabel")) = some false), fun K => decide (kitOne K (.ref (He.ga K "BadBound")) (.ref (He.ga K "NoSuchSecond")) = some false), fun K => decide (kitOne K (.ref (He.ga K "BadBound")) (.ref (He.ga K "BadCells")) = some false), fun K => decide (kitOne K (.ref (He.ga K "BadBound")) (.ref (He.ga K "RefusedEntry")) = some false), fun K => decide (kitOne K (.ref (He.ga K "BadBound")) (.ref (He.ga K "DuplicateTag")) = some false), fun K => decide (kitOne K (.ref (He.ga K "BadBound")) (.ref (He.ga K "UnknownTag")) = some false), fun K => decide (kitOne K (.ref (He.ga K "BadBound")) (.ref (He.ga K "BadLine")) = some false), fun K => decide (kitOne K (.ref (He.ga K "BadBound")) (.ref (He.ga K "NothingToUndo")) = some false), fun K => decide (kitOne K (.ref (He.ga K "BadBound")) (.ref (He.ga K "NothingToRedo")) = some false), fun K => decide (kitOne K (.ref (He.ga K "BeforeStart")) (.ref (He.ga K "VerdictError")) = some true), fun K => decide (kitOne K (.ref (He.ga K "TurnsBack")) (.ref (He.ga K "VerdictError")) = some true), fun K => decide (kitOne K (.ref (He.ga K "BadRate")) (.ref (He.ga K "VerdictError")) = some true), fun K => decide (kitOne K (.ref (He.ga K "BadBound")) (.ref (He.ga K "VerdictError")) = some true)]
def exH7 : List (PySem.W.Frag → Bool) := [fun K => decide (exmOne K (.ref (He.ga K "BadRate")) (.ref (He.ga K "BadBound")) = some false), fun K => decide (exmOne K (.ref (He.ga K "BeforeStart")) (.ref (He.ga K "TurnsBack")) = some false), fun K => prpB K "Steering" "aim", fun K => PDef.ok K dP_Steering_aim, fun K => tupA K (kwAt ("Steering", some "__init__") "drift" K) [.int 0, .int 1], fun K => decide (kitOne K (.ref (He.ga K "BeforeStart")) (.type "ValueError") = some true), fun K => decide (kitOne K (.ref (He.ga K "TurnsBack")) (.type "ValueError") = some true), fun K => decide (kitOne K (.ref (He.ga K "BadRate")) (.type "ValueError") = some true), fun K => decide (kitOne K (.ref (He.ga K "BadBound")) (.type "ValueError") = some true)]
def exH : List (PySem.W.Frag → Bool) := exH0 ++ exH1 ++ exH2 ++ exH3 ++ exH4 ++ exH5 ++ exH6 ++ exH7
def exK (K : PySem.W.Frag) : Bool := exH.all fun f => f K
theorem exK_at {K : PySem.W.Frag} (h : exK K = true) (i : Nat) {f : PySem.W.Frag → Bool} (e : exH[i]? = some f) : f K = true := List.all_eq_true.mp h f (List.mem_of_getElem? e)
def looseH0 : List PySem.Str := ["VerdictError", "ZeroDivisor", "BadNumber", "EmptySpan", "BeforeStart", "TurnsBack", "BadRate", "BadBound", "BadName", "DuplicateName", "UnknownName", "BadLink", "UnknownLink", "BadNote", "UnknownMoment", "NoWorld", "OutsideSpan", "TooManyLiars", "RootFollows", "Condemned", "BadDate", "BadLeap", "BadLabel", "NoSuchSecond", "BadCells", "RefusedEntry", "DuplicateTag", "UnknownTag", "BadLine", "NothingToUndo"]
def looseH1 : List PySem.Str := ["NothingToRedo", "ZERO", "ONE", "HALF", "rational", "add", "subtract", "multiply", "negate", "divide", "distance", "compare", "smaller", "larger", "_shown_by", "_place_at", "_piece_at", "shown_at", "_jump_at", "tidy", "width_of", "middle_of", "far_end", "_higher_low", "_lower_high", "meet", "require_not_below_zero", "_require_slew_and_drift", "_bound_behind", "_planned"]
def looseH2 : List PySem.Str := ["Steering", "_law_store", "_law_feed", "_law_mixed", "_law_take", "_law_pick", "_law_size", "_law_shuffled", "_law_is_int", "_law_same", "_law_frac", "_law_plus", "_law_minus", "_law_times", "_law_below", "_law_is_frac", "_law_part", "_law_spare", "_law_above", "_law_slews", "_law_over_step", "_law_steers", "_law_negative", "_law_bad_slew", "_law_bad_drift", "_law_bad_steering", "_law_alone", "_law_classes", "_law_not_made", "_law_refused"]
def looseH3 : List PySem.Str := ["_law_look", "_law_bad_calls"]
def looseH : List PySem.Str := looseH0 ++ looseH1 ++ looseH2 ++ looseH3
abbrev RH : PySem.W.OpenRow := PySem.W.OpenLaw.row PySem.Challenge.rw_clockverdict_k36_steering_refusals
abbrev qH : Program := PySem.W.view RH.prog [0, 99]
def pfH0 : List PDef := [dP_Steering_aim]
def pfH : List PDef := pfH0
abbrev hkH : PySem.W.Hook := hookP asH faH fnH pfH exK
def obH (s : PySem.W.SharedT) : He.AlD := obsP faH fnH pfH exK (He.frG (HandSHeadRun.getT s) asH)
set_option maxHeartbeats 0 in
theorem runL (w : World) : (HandSHeadRun.wholeF (fun p => HandSHeadRun.stepQ (HandSHeadRun.denQ HandSHeadRun.tabQ) p w) HandSHeadRun.fenceQ 20000 RH.prog).map (fun x => HandSHeadRun.looksF RH.prog x.1.heap x.2.abs) = some true := by kernel_rfl
set_option maxHeartbeats 0 in
theorem runS (w : World) : (HandSHeadRun.wholeF (fun p => HandSHeadRun.stepQ (HandSHeadRun.denQ HandSHeadRun.tabQ) p w) HandSHeadRun.fenceQ 20000 RH.prog).map (fun x => HandSHeadRun.seenQ qH looseH (PySem.importedModules RH.prog.main.body) (fun s => PySem.W.xlAt qH [] s && PySem.W.recOk RH.toRowW.records s) x.2.abs) = some (PySem.W.openGood qH looseH) := by kernel_rfl
set_option maxHeartbeats 0 in
theorem runA (w : World) : (HandSHeadRun.wholeF (fun p => HandSHeadRun.stepQ (HandSHeadRun.denQ HandSHeadRun.tabQ) p w) HandSHeadRun.fenceQ 20000 RH.prog).map (fun x => exK (He.frG (HandSHeadRun.getT x.2) asH) && faH.all fun f => f.ok (He.frG (HandSHeadRun.getT x.2) asH)) = some true := by kernel_rfl
set_option maxHeartbeats 0 in
theorem runB (w : World) : (HandSHeadRun.wholeF (fun p => HandSHeadRun.stepQ (HandSHeadRun.denQ HandSHeadRun.tabQ) p w) HandSHeadRun.fenceQ 20000 RH.prog).map (fun x => (fnH.all fun d => d.ok (He.frG (HandSHeadRun.getT x.2) asH), (fnH.map fun d => He.fnW (He.frG (HandSHeadRun.getT x.2) asH) d.at_) ++ pfH.map (PDef.see (He.frG (HandSHeadRun.getT x.2) asH)))) = some (true, fnH.map He.DefD.val ++ pfH.map PDef.val) := by kernel_rfl
theorem runF (w : World) : (HandSHeadRun.wholeF (fun p => HandSHeadRun.stepQ (HandSHeadRun.denQ HandSHeadRun.tabQ) p w) HandSHeadRun.fenceQ 20000 RH.prog).map (fun x => obH x.2) = some (valP fnH pfH) := run2 (runA w) (runB w)
theorem runH (w : World) : HandSHeadRun.RunEqI RH qH hkH obH 20000 looseH w := run3 (runL w) (runS w) (runF w)
end
end Vk

namespace Vs
/-! ### spans of offsets -/
abbrev Spn := Option Rat × Option Rat
def maxO : Option Rat → Option Rat → Option Rat
  | none, b => b
  | some p, none => some p
  | some p, some q => some (if q ≤ p then p else q)
def minO : Option Rat → Option Rat → Option Rat
  | none, b => b
  | some p, none => some p
  | some p, some q => some (if p ≤ q then p else q)
def crossed : Option Rat → Option Rat → Bool
  | some l, some h => decide (h < l)
  | _, _ => false
def meetO (a b : Spn) : Option Spn := if crossed (maxO a.1 b.1) (minO a.2 b.2) = true then none else some (maxO a.1 b.1, minO a.2 b.2)
def aboveO (o : Option Rat) (t : Rat) : Bool := match o with | none => true | some l => !decide (t < l)
def belowO (o : Option Rat) (t : Rat) : Bool := match o with | none => true | some h => !decide (h < t)
def inS (s : Spn) (t : Rat) : Bool := aboveO s.1 t && belowO s.2 t
def movO (o : Option Rat) (d : Rat) : Option Rat := match o with | none => none | some q => some (q + d)
def negO (o : Option Rat) : Option Rat := match o with | none => none | some q => some (-q)
def shO (s : Spn) (d : Rat) : Spn := (movO s.1 d, movO s.2 d)
def offO (x y : Rat) (fo ba : Spn) : Option Spn := meetO (shO (negO fo.2, negO fo.1) x) (shO ba y)
theorem above_max (a b : Option Rat) (t : Rat) : aboveO (maxO a b) t = (aboveO a t && aboveO b t) := by
  cases a with
  | none => simp [maxO, aboveO]
  | some p => cases b with
    | none => simp [maxO, aboveO]
    | some q =>
      simp only [maxO, aboveO]
      split <;> by_cases h1 : t < p <;> by_cases h2 : t < q <;> simp [h1, h2] <;> grind
theorem below_min (a b : Option Rat) (t : Rat) : belowO (minO a b) t = (belowO a t && belowO b t) := by
  cases a with
  | none => simp [minO, belowO]
  | some p => cases b with
    | none => simp [minO, belowO]
    | some q =>
      simp only [minO, belowO]
      split <;> by_cases h1 : p < t <;> by_cases h2 : q < t <;> simp [h1, h2] <;> grind
theorem crossed_in {l h : Option Rat} (c : crossed l h = true) (t : Rat) : (aboveO l t && belowO h t) = false := by
  cases l with
  | none => simp [crossed] at c
  | some p => cases h with
    | none => simp [crossed] at c
    | some q =>
      simp only [crossed, decide_eq_true_eq] at c
      simp only [aboveO, belowO]
      by_cases h1 : t < p <;> by_cases h2 : q < t <;> simp [h1, h2] <;> grind
theorem meet_in (a b : Spn) (t : Rat) : (inS a t && inS b t) = (match meetO a b with | none => false | some s => inS s t) := by
  have e : (inS a t && inS b t) = (aboveO (maxO a.1 b.1) t && belowO (minO a.2 b.2) t) := by
    rw [above_max, below_min]
    unfold inS
    cases aboveO a.1 t <;> cases aboveO b.1 t <;> cases belowO a.2 t <;> cases belowO b.2 t <;> rfl
  rw [e]
  unfold meetO
  by_cases c : crossed (maxO a.1 b.1) (minO a.2 b.2) = true
  · rw [if_pos c]
    exact crossed_in c t
  · rw [if_neg c]
    rfl
theorem above_mov (o : Option Rat) (x f : Rat) : aboveO (movO (negO o) x) f = belowO o (x - f) := by
  cases o with
  | none => rfl
  | some q =>
    simp only [negO, movO, aboveO, belowO]
    congr 1
    exact decide_eq_decide.mpr (by grind)
theorem below_mov (o : Option Rat) (x f : Rat) : belowO (movO (negO o) x) f = aboveO o (x - f) := by
  cases o with
  | none => rfl
  | some q =>
    simp only [negO, movO, aboveO, belowO]
    congr 1
    exact decide_eq_decide.mpr (by grind)
theorem above_mov2 (o : Option Rat) {y z : Rat} (f : Rat) (h : y = -z) : aboveO (movO o y) f = aboveO o (z + f) := by
  cases o with
  | none => rfl
  | some q =>
    simp only [movO, aboveO]
    congr 1
    exact decide_eq_decide.mpr (by grind)
theorem below_mov2 (o : Option Rat) {y z : Rat} (f : Rat) (h : y = -z) : belowO (movO o y) f = belowO o (z + f) := by
  cases o with
  | none => rfl
  | some q =>
    simp only [movO, belowO]
    congr 1
    exact decide_eq_decide.mpr (by grind)
theorem off_in (x y z : Rat) (fo ba : Spn) (f : Rat) (h : y = -z) : (inS fo (x - f) && inS ba (z + f)) = (match offO x y fo ba with | none => false | some s => inS s f) := by
  unfold offO
  rw [← meet_in]
  unfold inS shO
  simp only [above_mov, below_mov, above_mov2 _ f h, below_mov2 _ f h]
  cases aboveO fo.1 (x - f) <;> cases belowO fo.2 (x - f) <;> cases aboveO ba.1 (z + f) <;> cases belowO ba.2 (z + f) <;> rfl
theorem off_ok {x y : Rat} {fo ba s : Spn} (h : offO x y fo ba = some s) : crossed s.1 s.2 = false := by
  unfold offO meetO at h
  split at h
  · cases h
  · rename_i c
    cases h
    simpa using c
/-- both ends known: no end is farther from the plain offset than half the width -/
theorem off_half {x y lo hi : Rat} {s : Spn} (h : offO x y (some lo, some hi) (some lo, some hi) = some s) :
    ∃ l u, s = (some l, some u) ∧ ∀ f, f = l ∨ f = u → ¬ (hi - lo < 2 * ((x + y) / 2 - f)) ∧ ¬ (hi - lo < 2 * (f - (x + y) / 2)) := by
  have c := off_ok h
  unfold offO meetO at h
  split at h
  · cases h
  · simp only [shO, negO, movO, maxO, minO] at h
    obtain rfl := (Option.some.inj h).symm
    refine ⟨_, _, rfl, fun f hf => ?_⟩
    simp only [crossed, decide_eq_false_iff_not] at c
    have e2 : (x + y) / 2 + (x + y) / 2 = x + y := by grind
    generalize (x + y) / 2 = p at e2
    have e3 : ∀ q : Rat, 2 * q = q + q := fun q => by grind
    rw [e3, e3]
    split at hf <;> split at hf <;> rename_i h1 h2 <;> simp only [h1, h2, if_true, if_false] at c <;> rcases hf with rfl | rfl <;> constructor <;> grind
/-! ### sizes and items -/
def itemsO : Spn → List Rat := fun s => s.1.toList ++ s.2.toList
end Vs

namespace Vl
/-! ### laps -/
/-- the six numbers: bound, half, lap, slew, drift, goal -/
structure A6 where
  b : Rat
  h : Rat
  l : Rat
  s : Rat
  d : Rat
def ahead (x : A6) : Rat := x.h + x.d * x.l
def gain (x : A6) : Rat := (x.s - x.d) * x.l
structure Good (x : A6) : Prop where
  b0 : 0 ≤ x.b
  h0 : 0 ≤ x.h
  l0 : 0 < x.l
  s0 : 0 < x.s
  s1 : x.s < 1
  d0 : 0 ≤ x.d
  ds : x.d < x.s
theorem mul_pos' {a b : Rat} (ha : 0 < a) (hb : 0 < b) : 0 < a * b := Rat.mul_pos ha hb
theorem mul_nn {a b : Rat} (ha : 0 ≤ a) (hb : 0 ≤ b) : 0 ≤ a * b := Rat.mul_nonneg ha hb
theorem Good.gp {x : A6} (g : Good x) : 0 < gain x := mul_pos' (by have := g.ds; grind) g.l0
theorem Good.an {x : A6} (g : Good x) : 0 ≤ ahead x := by
  have h1 := g.h0
  have h2 : 0 ≤ x.d * x.l := mul_nn g.d0 (by have := g.l0; grind)
  unfold ahead
  grind
def lapsP (x : A6) (g : Rat) : Option Int := if x.b ≤ g then some 0 else if g < ahead x then none else some (-((g - x.b) / gain x).floor)
def mx (a b : Rat) : Rat := if a < b then b else a
def after (x : A6) (k : Int) : Rat := if k = 0 then x.b else mx (x.b + (k : Rat) * ((x.d - x.s) * x.l)) (ahead x)
def LapsOk (x : A6) (g : Rat) : Option Int → Prop
  | none => g < x.b ∧ g < ahead x
  | some k => 0 ≤ k ∧ k ≤ 1000 ∧ ¬ g < after x k ∧ (0 < k → g < x.b) ∧ (2 ≤ k → g < after x (k - 1))
theorem neg_gain (x : A6) (k : Rat) : k * ((x.d - x.s) * x.l) = - (k * gain x) := by unfold gain; grind
theorem laps_ok {x : A6} {g : Rat} (G : Good x) (top : x.b - g ≤ 1000 * gain x ∨ x.b = 0) : LapsOk x g (lapsP x g) := by
  have gp := G.gp
  have an := G.an
  unfold lapsP
  split
  · rename_i h
    refine ⟨by decide, by decide, ?_, fun z => absurd z (by decide), fun z => absurd z (by decide)⟩
    unfold after
    rw [if_pos rfl]
    exact Rat.not_lt.mpr h
  · rename_i h1
    split
    · rename_i h2
      exact ⟨Rat.not_le.mp h1, h2⟩
    · rename_i h2
      have h1 : g < x.b := Rat.not_le.mp h1
      have h2 : ahead x ≤ g := Rat.not_lt.mp h2
      have top : x.b - g ≤ 1000 * gain x := by
        rcases top with h | h
        · exact h
        · exfalso; grind
      obtain ⟨t, ht⟩ : ∃ t, t = (g - x.b) / gain x := ⟨_, rfl⟩
      have te : t * gain x = g - x.b := by
        rw [ht]
        exact Rat.div_mul_cancel (by grind)
      rw [← ht]
      have f1 := Rat.floor_le t
      have f2 := Rat.lt_floor_add_one t
      obtain ⟨k, hk⟩ : ∃ k : Int, k = -t.floor := ⟨_, rfl⟩
      have ek : ((t.floor : Int) : Rat) = -(k : Rat) := by rw [hk]; push_cast; grind
      have ek1 : ((t.floor + 1 : Int) : Rat) = -(k : Rat) + 1 := by rw [hk]; push_cast; grind
      rw [ek] at f1
      rw [ek1] at f2
      rw [← hk]
      -- k gain between
      have m1 : -(k : Rat) * gain x ≤ t * gain x := Rat.mul_le_mul_of_nonneg_right f1 (by grind)
      have m2 : t * gain x < (-(k : Rat) + 1) * gain x := Rat.mul_lt_mul_of_pos_right f2 gp
      have tneg : t < 0 := by
        by_cases z : t < 0
        · exact z
        · exfalso
          have := mul_nn (Rat.not_lt.mp z) (show (0 : Rat) ≤ gain x by grind)
          grind
      have t1000 : -1000 ≤ t := by
        by_cases z : -1000 ≤ t
        · exact z
        · exfalso
          have := Rat.mul_lt_mul_of_pos_right (Rat.not_le.mp z) gp
          grind
      have k1 : 0 < k := by
        have : (0 : Rat) < (k : Rat) := by grind
        exact_mod_cast this
      have k2 : k ≤ 1000 := by
        have : (k : Rat) < ((1001 : Int) : Rat) := by
          have e : ((1001 : Int) : Rat) = 1001 := rfl
          rw [e]
          grind
        have := Rat.intCast_lt_intCast.mp this
        omega
      have key : x.b - (k : Rat) * gain x ≤ g := by grind
      refine ⟨by omega, k2, ?_, fun _ => h1, fun k3 => ?_⟩
      · unfold after mx
        rw [if_neg (by omega), neg_gain]
        split <;> grind
      · unfold after mx
        rw [if_neg (by omega), neg_gain]
        have e : ((k - 1 : Int) : Rat) = (k : Rat) - 1 := by push_cast; rfl
        rw [e]
        split <;> grind
/-- one lap -/
def nextB (x : A6) (b : Rat) : Rat := x.d * x.l + (if x.h ≤ b - x.s * x.l then b - x.s * x.l else x.h)
theorem next_eq (x : A6) (b : Rat) : nextB x b = mx (b + (1 : Rat) * ((x.d - x.s) * x.l)) (ahead x) := by
  rw [neg_gain]
  unfold nextB mx ahead gain
  split <;> split <;> grind
theorem after_next {x : A6} (G : Good x) (b : Rat) (i : Int) (hi : 0 ≤ i) : nextB x (after { x with b := b } i) = after { x with b := b } (i + 1) := by
  rw [next_eq, neg_gain]
  have gp := G.gp
  have e1 : ahead { x with b := b } = ahead x := rfl
  have e2 : gain { x with b := b } = gain x := rfl
  unfold after
  rw [if_neg (show ¬ i + 1 = 0 by omega)]
  rw [neg_gain, e2, e1]
  have e3 : ((i + 1 : Int) : Rat) = (i : Rat) + 1 := by push_cast; rfl
  rw [e3]
  split
  · rename_i h
    subst h
    simp only [Rat.intCast_zero]
    congr 1
    have := neg_gain x 1
    grind
  · rw [neg_gain, e2]
    unfold mx
    split <;> split <;> split <;> grind
theorem after_le {x : A6} {g : Rat} (G : Good x) (b : Rat) (hb : b ≤ g) (ha : ahead x ≤ g) (i : Int) (hi : 0 ≤ i) : ¬ g < after { x with b := b } i := by
  have gp := G.gp
  have e1 : ahead { x with b := b } = ahead x := rfl
  have e2 : gain { x with b := b } = gain x := rfl
  unfold after mx
  split
  · exact Rat.not_lt.mpr hb
  · rw [neg_gain, e2, e1]
    have : (0 : Rat) ≤ (i : Rat) * gain x := mul_nn (by exact_mod_cast hi) (by grind)
    split <;> grind
theorem after_nn {x : A6} (G : Good x) (k : Int) : 0 ≤ after x k := by
  have := G.an
  have := G.b0
  unfold after mx
  split
  · exact G.b0
  · split <;> grind
end Vl

namespace Vk
open PySem L2 Vm
def top (i : Nat) : Stmt := PySem.Challenge.pw_clockverdict_k36_steering_refusals.main.body.getD i (.Pass ⟨0, 0, 0, 0⟩)
variable {P : Program} {w : World} {K : PySem.W.Frag} {mg : Str → Option Value} {base : Heap} {k : Nat} {f f1 f2 f3 f4 f5 f6 f7 f8 f9 : Addr} {fd fd1 fd2 fd3 fd4 fd5 fd6 fd7 fd8 fd9 : FuncData}
/-! ### the law's own rationals -/
def spFrac (K : PySem.W.Frag) : Sp := fun vs H Q _ => ∃ (n d : Int) (b : Nat), vs = [.int n, .int d] ∧ 0 < d ∧ n.natAbs < 2 ^ b ∧ d.natAbs < 2 ^ b ∧ b ≤ 9000 ∧
  ∀ r H', Same H H' → Rq K H' r (mkRat n d.toNat) → Q r H'
abbrev s__law_frac : Stmt := top 77
abbrev N__law_frac : List Str := ["_law_n", "_law_d", "_law_a", "_law_b"]
theorem sc__law_frac : FnScope N__law_frac ["_law_n", "_law_d"] (defScope s__law_frac) := ⟨rfl, rfl, rfl, by decide +kernel, rfl, by decide +kernel, by decide +kernel⟩
abbrev ps__law_frac : List Str := ["_law_n", "_law_d"]
theorem ok_frac (T : Bn mg) (F : Fn K mg "_law_frac" s__law_frac ps__law_frac f fd) : Def P w K mg base (k + 1) "_law_frac" ps__law_frac (spFrac K) f fd := by
  refine ⟨F.F.ok sc__law_frac (fun vs H Q E h => ?_) (fun cdv A outer s H vs Q E hr h => ?_), F.m, F.F.kp, F.b⟩
  · obtain ⟨n, d, b, rfl, _⟩ := h
    rfl
  obtain ⟨n, d, b, rfl, hd, hn, hdb, hb, q⟩ := h
  refine ⟨_, (pss_cons (ps_if (pt_cmpR op_eq (pv 1) pe_int (nomark _))
        (pss_one (ps_ret (pe_tup (pa_cons pe_int (pa_cons pe_int pa_nil)))))
        pss_nil)
      (pss_cons (ps_set (i := 2) sc__law_frac.nd rfl (Or.inl rfl) (pe_callB call_abs (by rfl) T.abs_ (by decide +kernel) (pa_cons (pv 0) pa_nil)))
      (pss_cons (ps_set (i := 3) sc__law_frac.nd rfl (Or.inl rfl) (pe_callB call_abs (by rfl) T.abs_ (by decide +kernel) (pa_cons (pv 1) pa_nil)))
      (pss_cons (ps_while PassesOwn.never (pt_cmpR op_gt (pv 3) pe_int (nomark _))
        (pss_one (ps_par (i := 2) (j := 3) (by rfl) sc__law_frac.nd rfl rfl (by decide) rfl rfl (pa_cons (pv 3) (pa_cons (pe_op op_modN (pe_callTy call_int1 (by rfl) T.int_ (by decide +kernel) (pa_cons (pv 2) pa_nil)) (pv 3)) pa_nil)) (by rfl))))
      (pss_cons (ps_if (pt_cmpR op_lt (pv 1) pe_int (nomark _))
        (pss_one (ps_set (i := 2) sc__law_frac.nd rfl (Or.inl rfl) (pe_op op_sub pe_int (pv 2))))
        pss_nil)
      (pss_one (ps_ret (pe_tup (pa_cons (pe_op op_fdivW (pv 0) (pv 2)) (pa_cons (pe_op op_fdivW (pv 1) (pv 2)) pa_nil)))))))))), ?_⟩
  have b0 : 0 < b := by
    cases b with
    | zero => simp at hdb; omega
    | succ b => exact Nat.succ_pos _
  -- if _law_d == 0
  refine ⟨_, rfl, rfl, _, rfl, ifF (dF fun c => by cases c; omega) ?_⟩
  have ea : ∀ z : Int, (if z < 0 then -z else z) = (z.natAbs : Int) := fun z => by split <;> omega
  refine ⟨_, rfl, _, rfl, _, rfl, _, rfl, (fun m σ H' => ∃ x y : Nat, m = y ∧ σ = [some (.int n), some (.int d), some (.int x), some (.int y)] ∧ H' = H ∧ Nat.gcd x y = Nat.gcd n.natAbs d.natAbs),
    ⟨_, n.natAbs, d.natAbs, rfl, by rw [ea, ea]; rfl, rfl, rfl⟩, ?_⟩
  rintro m σ H' ⟨x, y, em, rfl, rfl, hg⟩
  subst em
  -- while _law_b > 0
  refine ⟨_, rfl, _, _, rfl, rfl, _, rfl, ifD (fun c => ?_) (fun c => ?_)⟩
  · refine ⟨_, fun _ _ z => z, _, rfl, _, rfl, .inl ⟨_, rfl, _, rfl, _, _, rfl, rfl, by omega, _, _, rfl, ?_⟩⟩
    refine ⟨x % m, Nat.mod_lt _ (by omega), m, x % m, rfl, ?_, rfl, ?_⟩
    · show [some (V.int n), some (V.int d), some (V.int (m : Int)), some (V.int ((x : Int).fmod (m : Int)))] = _
      rw [fmod_nat]
    · rw [← hg, Nat.gcd_comm x m, Nat.gcd_rec m x, Nat.gcd_comm]
  have y0 : m = 0 := by omega
  subst y0
  rw [Nat.gcd_zero_right] at hg
  subst hg
  have dn : d.toNat ≠ 0 := by omega
  have gp : 0 < Nat.gcd n.natAbs d.natAbs := Nat.gcd_pos_of_pos_right _ (by omega)
  have gb : (((Nat.gcd n.natAbs d.natAbs : Nat) : Int)).natAbs < 2 ^ b := by
    rw [Int.natAbs_natCast]
    exact Nat.lt_of_le_of_lt (Nat.gcd_le_right _ (by omega)) hdb
  have w : CDivW n ((Nat.gcd n.natAbs d.natAbs : Nat) : Int) := wide_div (by omega) gb b0 (by omega)
  have w2 : CDivW d ((Nat.gcd n.natAbs d.natAbs : Nat) : Int) := wide_div (by omega) gb b0 (by omega)
  have ed : d.toNat = d.natAbs := by omega
  refine ⟨_, rfl, _, _, rfl, rfl, _, rfl, ifF (dF (by omega)) ?_⟩
  refine ⟨_, rfl, _, rfl, _, _, rfl, rfl, w, _, rfl, _, rfl, _, _, rfl, rfl, w2, sz2, fun p hp => ?_⟩
  refine q _ _ (same_new hp _) ⟨p, rfl, SqT.of ?_⟩
  rw [upd_same, mk_num n dn, mk_den n dn, ed]
  congr 4
  have e : d = (d.natAbs : Int) := by omega
  rw [show (((d.natAbs / Nat.gcd n.natAbs d.natAbs : Nat)) : Int) = (d.natAbs : Int) / ((Nat.gcd n.natAbs d.natAbs : Nat) : Int) from Int.natCast_ediv _ _]
  rw [← e]
/-- two rationals in, their f out -/
def spOp2 (K : PySem.W.Frag) (g : Rat → Rat → Rat) : Sp := fun vs H Q _ => ∃ (x y : V) (p q : Rat) (m l : Nat), vs = [x, y] ∧ Rq K H x p ∧ Rq K H y q ∧ Sz m p ∧ Sz l q ∧ m + l + 1 ≤ 9000 ∧
  ∀ r H', Same H H' → Rq K H' r (g p q) → Q r H'
/-- two rationals in, a test of them out -/
def spTest2 (K : PySem.W.Frag) (g : Rat → Rat → V) : Sp := fun vs H Q _ => ∃ (x y : V) (p q : Rat) (m l : Nat), vs = [x, y] ∧ Rq K H x p ∧ Rq K H y q ∧ Sz m p ∧ Sz l q ∧ m + l + 1 ≤ 900000 ∧ Q (g p q) H
theorem mulW {m l : Nat} {i j : Int} (hi : i.natAbs < 2 ^ m) (hj : j.natAbs < 2 ^ l) (h0 : 0 < m) (h1 : 0 < l) (h : m + l ≤ 900000) : CMulW i j := wide_mul hi hj h0 h1 (by omega)
abbrev s__law_plus : Stmt := top 78
abbrev N__law_plus : List Str := ["_law_a", "_law_b"]
theorem sc__law_plus : FnScope N__law_plus ["_law_a", "_law_b"] (defScope s__law_plus) := ⟨rfl, rfl, rfl, by decide +kernel, rfl, by decide +kernel, by decide +kernel⟩
abbrev ps__law_plus : List Str := ["_law_a", "_law_b"]
theorem ok_plus (F : Fn K mg "_law_plus" s__law_plus ps__law_plus f fd) (d_law_frac : Def P w K mg base k "_law_frac" ["_law_n", "_law_d"] (spFrac K) f1 fd1) : Def P w K mg base (k + 1) "_law_plus" ps__law_plus (spOp2 K (· + ·)) f fd := by
  refine ⟨F.F.ok sc__law_plus (fun vs H Q E h => ?_) (fun cdv A outer s H vs Q E hr h => ?_), F.m, F.F.kp, F.b⟩
  · obtain ⟨x, y, p, q, m, l, rfl, _⟩ := h
    rfl
  obtain ⟨x, y, p, q, m, l, rfl, ⟨a, rfl, ha⟩, ⟨b, rfl, hb⟩, zp, zq, hm, z⟩ := h
  have m0 := nn zp
  have l0 := nn zq
  refine ⟨_, (pss_one (ps_ret (pcall d_law_frac hr (pa_cons (pe_op op_add (pe_op op_mulW (pe_ix ix_tup (pv 0) pe_int (fun _ _ => rfl)) (pe_ix ix_tup (pv 1) pe_int (fun _ _ => rfl))) (pe_op op_mulW (pe_ix ix_tup (pv 1) pe_int (fun _ _ => rfl)) (pe_ix ix_tup (pv 0) pe_int (fun _ _ => rfl)))) (pa_cons (pe_op op_mulW (pe_ix ix_tup (pv 0) pe_int (fun _ _ => rfl)) (pe_ix ix_tup (pv 1) pe_int (fun _ _ => rfl))) pa_nil))))), ?_⟩
  refine ⟨_, rfl, a, _, _, _, rfl, rfl, ha, at0 rfl, _, rfl, b, _, _, _, rfl, rfl, hb, at1 rfl, _, _, rfl, rfl, mulW zp.1 (dA zq) m0 l0 (by omega), ?_⟩
  refine ⟨_, rfl, b, _, _, _, rfl, rfl, hb, at0 rfl, _, rfl, a, _, _, _, rfl, rfl, ha, at1 rfl, _, _, rfl, rfl, mulW zq.1 (dA zp) l0 m0 (by omega), _, _, rfl, rfl, ?_⟩
  refine ⟨_, rfl, a, _, _, _, rfl, rfl, ha, at1 rfl, _, rfl, b, _, _, _, rfl, rfl, hb, at1 rfl, _, _, rfl, rfl, mulW (dA zp) (dA zq) m0 l0 (by omega), ?_⟩
  refine ⟨_, _, m + l + 1, rfl, dd_pos p q, ab_add (ab_mul zp.1 (dA zq)) (ab_up (ab_mul zq.1 (dA zp)) (by omega)), ab_up (ab_mul (dA zp) (dA zq)) (by omega), by omega, fun r H' e hr => z r H' e ?_⟩
  rw [mk_add] at hr
  exact hr
abbrev s__law_minus : Stmt := top 79
abbrev N__law_minus : List Str := ["_law_a", "_law_b"]
theorem sc__law_minus : FnScope N__law_minus ["_law_a", "_law_b"] (defScope s__law_minus) := ⟨rfl, rfl, rfl, by decide +kernel, rfl, by decide +kernel, by decide +kernel⟩
abbrev ps__law_minus : List Str := ["_law_a", "_law_b"]
theorem ok_minus (F : Fn K mg "_law_minus" s__law_minus ps__law_minus f fd) (d_law_frac : Def P w K mg base k "_law_frac" ["_law_n", "_law_d"] (spFrac K) f1 fd1) : Def P w K mg base (k + 1) "_law_minus" ps__law_minus (spOp2 K (· - ·)) f fd := by
  refine ⟨F.F.ok sc__law_minus (fun vs H Q E h => ?_) (fun cdv A outer s H vs Q E hr h => ?_), F.m, F.F.kp, F.b⟩
  · obtain ⟨x, y, p, q, m, l, rfl, _⟩ := h
    rfl
  obtain ⟨x, y, p, q, m, l, rfl, ⟨a, rfl, ha⟩, ⟨b, rfl, hb⟩, zp, zq, hm, z⟩ := h
  have m0 := nn zp
  have l0 := nn zq
  refine ⟨_, (pss_one (ps_ret (pcall d_law_frac hr (pa_cons (pe_op op_sub (pe_op op_mulW (pe_ix ix_tup (pv 0) pe_int (fun _ _ => rfl)) (pe_ix ix_tup (pv 1) pe_int (fun _ _ => rfl))) (pe_op op_mulW (pe_ix ix_tup (pv 1) pe_int (fun _ _ => rfl)) (pe_ix ix_tup (pv 0) pe_int (fun _ _ => rfl)))) (pa_cons (pe_op op_mulW (pe_ix ix_tup (pv 0) pe_int (fun _ _ => rfl)) (pe_ix ix_tup (pv 1) pe_int (fun _ _ => rfl))) pa_nil))))), ?_⟩
  refine ⟨_, rfl, a, _, _, _, rfl, rfl, ha, at0 rfl, _, rfl, b, _, _, _, rfl, rfl, hb, at1 rfl, _, _, rfl, rfl, mulW zp.1 (dA zq) m0 l0 (by omega), ?_⟩
  refine ⟨_, rfl, b, _, _, _, rfl, rfl, hb, at0 rfl, _, rfl, a, _, _, _, rfl, rfl, ha, at1 rfl, _, _, rfl, rfl, mulW zq.1 (dA zp) l0 m0 (by omega), _, _, rfl, rfl, ?_⟩
  refine ⟨_, rfl, a, _, _, _, rfl, rfl, ha, at1 rfl, _, rfl, b, _, _, _, rfl, rfl, hb, at1 rfl, _, _, rfl, rfl, mulW (dA zp) (dA zq) m0 l0 (by omega), ?_⟩
  refine ⟨_, _, m + l + 1, rfl, dd_pos p q, ab_sub (ab_mul zp.1 (dA zq)) (ab_up (ab_mul zq.1 (dA zp)) (by omega)), ab_up (ab_mul (dA zp) (dA zq)) (by omega), by omega, fun r H' e hr => z r H' e ?_⟩
  rw [mk_sub] at hr
  exact hr
abbrev s__law_times : Stmt := top 80
abbrev N__law_times : List Str := ["_law_a", "_law_b"]
theorem sc__law_times : FnScope N__law_times ["_law_a", "_law_b"] (defScope s__law_times) := ⟨rfl, rfl, rfl, by decide +kernel, rfl, by decide +kernel, by decide +kernel⟩
abbrev ps__law_times : List Str := ["_law_a", "_law_b"]
theorem ok_times (F : Fn K mg "_law_times" s__law_times ps__law_times f fd) (d_law_frac : Def P w K mg base k "_law_frac" ["_law_n", "_law_d"] (spFrac K) f1 fd1) : Def P w K mg base (k + 1) "_law_times" ps__law_times (spOp2 K (· * ·)) f fd := by
  refine ⟨F.F.ok sc__law_times (fun vs H Q E h => ?_) (fun cdv A outer s H vs Q E hr h => ?_), F.m, F.F.kp, F.b⟩
  · obtain ⟨x, y, p, q, m, l, rfl, _⟩ := h
    rfl
  obtain ⟨x, y, p, q, m, l, rfl, ⟨a, rfl, ha⟩, ⟨b, rfl, hb⟩, zp, zq, hm, z⟩ := h
  have m0 := nn zp
  have l0 := nn zq
  refine ⟨_, (pss_one (ps_ret (pcall d_law_frac hr (pa_cons (pe_op op_mulW (pe_ix ix_tup (pv 0) pe_int (fun _ _ => rfl)) (pe_ix ix_tup (pv 1) pe_int (fun _ _ => rfl))) (pa_cons (pe_op op_mulW (pe_ix ix_tup (pv 0) pe_int (fun _ _ => rfl)) (pe_ix ix_tup (pv 1) pe_int (fun _ _ => rfl))) pa_nil))))), ?_⟩
  refine ⟨_, rfl, a, _, _, _, rfl, rfl, ha, at0 rfl, _, rfl, b, _, _, _, rfl, rfl, hb, at0 rfl, _, _, rfl, rfl, mulW zp.1 zq.1 m0 l0 (by omega), ?_⟩
  refine ⟨_, rfl, a, _, _, _, rfl, rfl, ha, at1 rfl, _, rfl, b, _, _, _, rfl, rfl, hb, at1 rfl, _, _, rfl, rfl, mulW (dA zp) (dA zq) m0 l0 (by omega), ?_⟩
  refine ⟨_, _, m + l + 1, rfl, dd_pos p q, ab_up (ab_mul zp.1 zq.1) (by omega), ab_up (ab_mul (dA zp) (dA zq)) (by omega), by omega, fun r H' e hr => z r H' e ?_⟩
  rw [mk_mul] at hr
  exact hr
abbrev s__law_below : Stmt := top 81
abbrev N__law_below : List Str := ["_law_a", "_law_b"]
theorem sc__law_below : FnScope N__law_below ["_law_a", "_law_b"] (defScope s__law_below) := ⟨rfl, rfl, rfl, by decide +kernel, rfl, by decide +kernel, by decide +kernel⟩
abbrev ps__law_below : List Str := ["_law_a", "_law_b"]
theorem ok_below (F : Fn K mg "_law_below" s__law_below ps__law_below f fd) : Def P w K mg base (k + 1) "_law_below" ps__law_below (spTest2 K fun p q => .bl (decide (p < q))) f fd := by
  refine ⟨F.F.ok sc__law_below (fun vs H Q E h => ?_) (fun cdv A outer s H vs Q E hr h => ?_), F.m, F.F.kp, F.b⟩
  · obtain ⟨x, y, p, q, m, l, rfl, _⟩ := h
    rfl
  obtain ⟨x, y, p, q, m, l, rfl, ⟨a, rfl, ha⟩, ⟨b, rfl, hb⟩, zp, zq, hm, z⟩ := h
  have m0 := nn zp
  have l0 := nn zq
  refine ⟨_, (pss_one (ps_ret (pe_cmpR op_lt (pe_op op_mulW (pe_ix ix_tup (pv 0) pe_int (fun _ _ => rfl)) (pe_ix ix_tup (pv 1) pe_int (fun _ _ => rfl))) (pe_op op_mulW (pe_ix ix_tup (pv 1) pe_int (fun _ _ => rfl)) (pe_ix ix_tup (pv 0) pe_int (fun _ _ => rfl))) (nomark _)))), ?_⟩
  refine ⟨_, rfl, a, _, _, _, rfl, rfl, ha, at0 rfl, _, rfl, b, _, _, _, rfl, rfl, hb, at1 rfl, _, _, rfl, rfl, mulW zp.1 (dA zq) m0 l0 (by omega), ?_⟩
  refine ⟨_, rfl, b, _, _, _, rfl, rfl, hb, at0 rfl, _, rfl, a, _, _, _, rfl, rfl, ha, at1 rfl, _, _, rfl, rfl, mulW zq.1 (dA zp) l0 m0 (by omega), _, _, rfl, rfl, ?_⟩
  show Q (.bl (decide (p.num * (q.den : Int) < q.num * (p.den : Int)))) H
  rw [decide_eq_decide.mpr (lt_num (p := p) (q := q)).symm]
  exact z
/-! ### the program's rationals -/
def sg (p q : Rat) : Int := if p = q then 0 else if p < q then -1 else 1
abbrev s_compare : Stmt := top 44
abbrev N_compare : List Str := ["a", "b", "left", "right"]
theorem sc_compare : FnScope N_compare ["a", "b"] (defScope s_compare) := ⟨rfl, rfl, rfl, by decide +kernel, rfl, by decide +kernel, by decide +kernel⟩
abbrev ps_compare : List Str := ["a", "b"]
theorem ok_compare (F : Fn K mg "compare" s_compare ps_compare f fd) : Def P w K mg base (k + 1) "compare" ps_compare (spTest2 K fun p q => .int (sg p q)) f fd := by
  refine ⟨F.F.ok sc_compare (fun vs H Q E h => ?_) (fun cdv A outer s H vs Q E hr h => ?_), F.m, F.F.kp, F.b⟩
  · obtain ⟨x, y, p, q, m, l, rfl, _⟩ := h
    rfl
  obtain ⟨x, y, p, q, m, l, rfl, ⟨a, rfl, ha⟩, ⟨b, rfl, hb⟩, zp, zq, hm, z⟩ := h
  have m0 := nn zp
  have l0 := nn zq
  refine ⟨_, (pss_cons (ps_set (i := 2) sc_compare.nd rfl (Or.inl rfl) (pe_op op_mulW (pe_ix ix_tup (pv 0) pe_int (fun _ _ => rfl)) (pe_ix ix_tup (pv 1) pe_int (fun _ _ => rfl))))
      (pss_cons (ps_set (i := 3) sc_compare.nd rfl (Or.inl rfl) (pe_op op_mulW (pe_ix ix_tup (pv 1) pe_int (fun _ _ => rfl)) (pe_ix ix_tup (pv 0) pe_int (fun _ _ => rfl))))
      (pss_cons (ps_if (pt_cmpR op_eq (pv 2) (pv 3) (nomark _))
        (pss_one (ps_ret pe_int))
        pss_nil)
      (pss_one (ps_ret (pe_ifExp (pt_cmpR op_lt (pv 2) (pv 3) (nomark _)) (pe_un un_neg pe_int) pe_int)))))), ?_⟩
  refine ⟨_, rfl, a, _, _, _, rfl, rfl, ha, at0 rfl, _, rfl, b, _, _, _, rfl, rfl, hb, at1 rfl, _, _, rfl, rfl, mulW zp.1 (dA zq) m0 l0 (by omega), ?_⟩
  refine ⟨_, rfl, b, _, _, _, rfl, rfl, hb, at0 rfl, _, rfl, a, _, _, _, rfl, rfl, ha, at1 rfl, _, _, rfl, rfl, mulW zq.1 (dA zp) l0 m0 (by omega), ?_⟩
  refine ⟨_, rfl, _, rfl, rfl, _, rfl, ifD (fun c => ?_) (fun c => ?_)⟩
  · have e : p = q := eq_num.mpr (V.int.inj c)
    have z' : Q (.int (sg p q)) H := z
    unfold sg at z'
    rw [if_pos e] at z'
    exact z'
  · have e : ¬ p = q := fun e => c (congrArg V.int (eq_num.mp e))
    have z' : Q (.int (sg p q)) H := z
    unfold sg at z'
    rw [if_neg e] at z'
    refine ⟨_, rfl, _, rfl, _, _, rfl, rfl, _, rfl, ifD (fun c => ?_) (fun c => ?_)⟩
    · rw [if_pos (lt_num.mpr c)] at z'
      exact ⟨_, rfl, z'⟩
    · rw [if_neg (fun e => c (lt_num.mp e))] at z'
      exact z'
abbrev s_negate : Stmt := top 41
abbrev N_negate : List Str := ["a"]
theorem sc_negate : FnScope N_negate ["a"] (defScope s_negate) := ⟨rfl, rfl, rfl, by decide +kernel, rfl, by decide +kernel, by decide +kernel⟩
abbrev ps_negate : List Str := ["a"]
def spOp1 (K : PySem.W.Frag) (g : Rat → Rat) : Sp := fun vs H Q _ => ∃ (x : V) (p : Rat), vs = [x] ∧ Rq K H x p ∧ ∀ r H', Same H H' → Rq K H' r (g p) → Q r H'
theorem ok_negate (F : Fn K mg "negate" s_negate ps_negate f fd) : Def P w K mg base (k + 1) "negate" ps_negate (spOp1 K fun p => -p) f fd := by
  refine ⟨F.F.ok sc_negate (fun vs H Q E h => ?_) (fun cdv A outer s H vs Q E hr h => ?_), F.m, F.F.kp, F.b⟩
  · obtain ⟨x, p, rfl, _⟩ := h
    rfl
  obtain ⟨x, p, rfl, ⟨a, rfl, ha⟩, z⟩ := h
  refine ⟨_, (pss_one (ps_ret (pe_tup (pa_cons (pe_un un_neg (pe_ix ix_tup (pv 0) pe_int (fun _ _ => rfl))) (pa_cons (pe_ix ix_tup (pv 0) pe_int (fun _ _ => rfl)) pa_nil))))), ?_⟩
  refine ⟨_, rfl, a, _, _, _, rfl, rfl, ha, at0 rfl, _, rfl, _, rfl, a, _, _, _, rfl, rfl, ha, at1 rfl, sz2, fun r hr' => ?_⟩
  exact z _ _ (same_new hr' _) ⟨r, rfl, SqT.of upd_same⟩
abbrev s_add : Stmt := top 38
abbrev N_add : List Str := ["a", "b", "common", "factor", "n", "rest"]
theorem sc_add : FnScope N_add ["a", "b"] (defScope s_add) := ⟨rfl, rfl, rfl, by decide +kernel, rfl, by decide +kernel, by decide +kernel⟩
abbrev ps_add : List Str := ["a", "b"]
theorem ok_add (T : Bn mg) (F : Fn K mg "add" s_add ps_add f fd) : Def P w K mg base (k + 1) "add" ps_add (spOp2 K (· + ·)) f fd := by
  refine ⟨F.F.ok sc_add (fun vs H Q E h => ?_) (fun cdv A outer s H vs Q E hr h => ?_), F.m, F.F.kp, F.b⟩
  · obtain ⟨x, y, p, q, m, l, rfl, _⟩ := h
    rfl
  obtain ⟨x, y, p, q, m, l, rfl, ⟨a, rfl, ha⟩, ⟨b, rfl, hb⟩, zp, zq, hm, z⟩ := h
  have m0 := nn zp
  have l0 := nn zq
  refine ⟨_, (pss_cons (ps_set (i := 2) sc_add.nd rfl (Or.inl rfl) (pe_callBfun cr_gcd (by rfl) T.gcd_ (pa_cons (pe_ix ix_tup (pv 0) pe_int (fun _ _ => rfl)) (pa_cons (pe_ix ix_tup (pv 1) pe_int (fun _ _ => rfl)) pa_nil))))
      (pss_cons (ps_set (i := 3) sc_add.nd rfl (Or.inl rfl) (pe_op op_fdivW (pe_ix ix_tup (pv 1) pe_int (fun _ _ => rfl)) (pv 2)))
      (pss_cons (ps_set (i := 4) sc_add.nd rfl (Or.inl rfl) (pe_op op_add (pe_op op_mulW (pe_ix ix_tup (pv 0) pe_int (fun _ _ => rfl)) (pv 3)) (pe_op op_mulW (pe_ix ix_tup (pv 1) pe_int (fun _ _ => rfl)) (pe_op op_fdivW (pe_ix ix_tup (pv 0) pe_int (fun _ _ => rfl)) (pv 2)))))
      (pss_cons (ps_set (i := 5) sc_add.nd rfl (Or.inl rfl) (pe_callBfun cr_gcd (by rfl) T.gcd_ (pa_cons (pv 4) (pa_cons (pv 2) pa_nil))))
      (pss_one (ps_ret (pe_tup (pa_cons (pe_op op_fdivW (pv 4) (pv 5)) (pa_cons (pe_op op_mulW (pe_op op_fdivW (pe_ix ix_tup (pv 0) pe_int (fun _ _ => rfl)) (pv 5)) (pv 3)) pa_nil))))))))), ?_⟩
  have gp : 0 < Nat.gcd p.den q.den := Nat.gcd_pos_of_pos_left _ p.den_pos
  have gb : (((Nat.gcd p.den q.den : Nat) : Int)).natAbs < 2 ^ m := Nat.lt_of_le_of_lt (Nat.gcd_le_left _ p.den_pos) zp.2
  have wg : ∀ x : Int, CDivW x ((Nat.gcd p.den q.den : Nat) : Int) := fun x => wide_div (by omega) gb m0 (by omega)
  have fb : (((q.den / Nat.gcd p.den q.den : Nat)) : Int).natAbs < 2 ^ l := Nat.lt_of_le_of_lt (Nat.div_le_self _ _) zq.2
  have hb' : (((p.den / Nat.gcd p.den q.den : Nat)) : Int).natAbs < 2 ^ m := Nat.lt_of_le_of_lt (Nat.div_le_self _ _) zp.2
  refine ⟨_, rfl, a, _, _, _, rfl, rfl, ha, at1 rfl, _, rfl, b, _, _, _, rfl, rfl, hb, at1 rfl, _, _, rfl, ?_⟩
  -- factor; n
  refine ⟨_, rfl, b, _, _, _, rfl, rfl, hb, at1 rfl, _, rfl, _, _, rfl, rfl, wg _, ?_⟩
  refine ⟨_, rfl, a, _, _, _, rfl, rfl, ha, at0 rfl, _, rfl, _, _, rfl, rfl, mulW zp.1 fb m0 l0 (by omega), ?_⟩
  refine ⟨_, rfl, b, _, _, _, rfl, rfl, hb, at0 rfl, _, rfl, a, _, _, _, rfl, rfl, ha, at1 rfl, _, rfl, _, _, rfl, rfl, wg _, _, _, rfl, rfl, mulW zq.1 hb' l0 m0 (by omega), _, _, rfl, rfl, ?_⟩
  -- rest
  refine ⟨_, rfl, _, rfl, _, _, rfl, ?_⟩
  obtain ⟨n, en⟩ : ∃ n : Int, n = p.num * ((q.den / Nat.gcd p.den q.den : Nat) : Int) + q.num * ((p.den / Nat.gcd p.den q.den : Nat) : Int) := ⟨_, rfl⟩
  obtain ⟨r, er⟩ : ∃ r : Nat, r = Nat.gcd n.natAbs (Nat.gcd p.den q.den) := ⟨_, rfl⟩
  have A := add_parts p q _ _ n r rfl rfl en er
  have rp : 0 < r := by rw [er]; exact Nat.gcd_pos_of_pos_right _ gp
  have rb : ((r : Nat) : Int).natAbs < 2 ^ m := by rw [er]; exact Nat.lt_of_le_of_lt (Nat.gcd_le_right _ gp) gb
  have wr : ∀ x : Int, CDivW x (r : Int) := fun x => wide_div (by omega) rb m0 (by omega)
  have db : (((p.den / r : Nat)) : Int).natAbs < 2 ^ m := Nat.lt_of_le_of_lt (Nat.div_le_self _ _) zp.2
  have en' : (fun i j : Int => i + j) ((fun i j : Int => i * j) p.num ((q.den : Int) / ((Nat.gcd p.den q.den : Nat) : Int))) ((fun i j : Int => i * j) q.num ((p.den : Int) / ((Nat.gcd p.den q.den : Nat) : Int))) = n := en.symm
  suffices hz : ∀ n' : Int, n' = n → ∀ r' : Int, r' = (r : Int) → tRet (tTup (tCons (tOp (rI CDivW fun i j => V.int (i / j)) (tVar 4) (tVar 5)) (tCons (tOp (rI CMulW fun i j => V.int (i * j)) (tOp (rI CDivW fun i j => V.int (i / j)) (tOp (rIxT K) (tVar 0) (tC (V.int 1))) (tVar 5)) (tVar 3)) tNil)))
      { nx := fun _ H' => Q V.non H', rt := Q } [some (.ref a), some (.ref b), some (.int ((Nat.gcd p.den q.den : Nat) : Int)), some (.int ((q.den / Nat.gcd p.den q.den : Nat) : Int)), some (.int n'), some (.int r')] H from hz _ en' _ (by rw [er, ← en']; rfl)
  rintro n' e1 r' e2
  subst e1 e2
  refine ⟨_, rfl, _, rfl, _, _, rfl, rfl, wr _, _, rfl, a, _, _, _, rfl, rfl, ha, at1 rfl, _, rfl, _, _, rfl, rfl, wr _, _, rfl, _, _, rfl, rfl, mulW db fb m0 l0 (by omega), sz2, fun t ht => ?_⟩
  refine z _ _ (same_new ht _) ⟨t, rfl, SqT.of ?_⟩
  rw [upd_same]
  show some (HO.tup [V.int (n' / (r : Int)), V.int (((p.den / r : Nat) : Int) * ((q.den / Nat.gcd p.den q.den : Nat) : Int))]) = some (HO.tup [V.int (p + q).num, V.int ((p + q).den : Int)])
  rw [A.1, A.2]
  rfl
abbrev s_subtract : Stmt := top 39
abbrev N_subtract : List Str := ["a", "b"]
theorem sc_subtract : FnScope N_subtract ["a", "b"] (defScope s_subtract) := ⟨rfl, rfl, rfl, by decide +kernel, rfl, by decide +kernel, by decide +kernel⟩
abbrev ps_subtract : List Str := ["a", "b"]
theorem ok_subtract (F : Fn K mg "subtract" s_subtract ps_subtract f fd) (dadd : Def P w K mg base k "add" ["a", "b"] (spOp2 K (· + ·)) f1 fd1) (dnegate : Def P w K mg base k "negate" ["a"] (spOp1 K fun p => -p) f2 fd2) :
    Def P w K mg base (k + 1) "subtract" ps_subtract (spOp2 K (· - ·)) f fd := by
  refine ⟨F.F.ok sc_subtract (fun vs H Q E h => ?_) (fun cdv A outer s H vs Q E hr h => ?_), F.m, F.F.kp, F.b⟩
  · obtain ⟨x, y, p, q, m, l, rfl, _⟩ := h
    rfl
  obtain ⟨x, y, p, q, m, l, rfl, ha, hb, zp, zq, hm, z⟩ := h
  refine ⟨_, (pss_one (ps_ret (pcall dadd hr (pa_cons (pv 0) (pa_cons (pcall dnegate hr (pa_cons (pv 1) pa_nil)) pa_nil))))), ?_⟩
  refine ⟨_, rfl, _, rfl, _, q, rfl, hb, fun r H' e hr' => ?_⟩
  refine ⟨_, _, p, -q, m, l, rfl, ha.same e, hr', zp, zq.neg, hm, fun r2 H2 e2 hr2 => z _ _ (e.trans e2) ?_⟩
  show Rq K H2 r2 (p - q)
  rw [Rat.sub_eq_add_neg]
  exact hr2
/-- rational(n, d) where d is above zero; its second argument is always written -/
abbrev s_rational : Stmt := top 37
abbrev N_rational : List Str := ["n", "d", "common"]
theorem sc_rational : FnScope N_rational ["n", "d"] (defScope s_rational) := ⟨rfl, rfl, rfl, by decide +kernel, rfl, by decide +kernel, by decide +kernel⟩
abbrev ps_rational : List Str := ["n", "d"]
theorem ok_rational (T : Bn mg) (F : FunA K "rational" "rational" s_rational f fd) (hm : mg "rational" = some (.ref f)) (hb : Binds K fd ps_rational []) : Def P w K mg base (k + 1) "rational" ps_rational (spFrac K) f fd := by
  refine ⟨F.ok sc_rational (fun vs H Q E h => ?_) (fun cdv A outer s H vs Q E hr h => ?_), hm, F.kp, hb⟩
  · obtain ⟨n, d, b, rfl, _⟩ := h
    rfl
  obtain ⟨n, d, b, rfl, hd, hn, hdb, hb, q⟩ := h
  refine ⟨_, (pss_cons (ps_if (pt_cmpR op_eq (pv 1) pe_int (nomark _))
        (pss_one ps_never)
        pss_nil)
      (pss_cons (ps_set (i := 2) sc_rational.nd rfl (Or.inl rfl) (pe_callBfun cr_gcd (by rfl) T.gcd_ (pa_cons (pv 0) (pa_cons (pv 1) pa_nil))))
      (pss_cons (ps_if (pt_cmpR op_lt (pv 1) pe_int (nomark _))
        (pss_one (ps_set (i := 2) sc_rational.nd rfl (Or.inl rfl) (pe_un un_neg (pv 2))))
        pss_nil)
      (pss_one (ps_ret (pe_tup (pa_cons (pe_op op_fdivW (pv 0) (pv 2)) (pa_cons (pe_op op_fdivW (pv 1) (pv 2)) pa_nil)))))))), ?_⟩
  have b0 : 0 < b := by
    cases b with
    | zero => simp at hdb; omega
    | succ b => exact Nat.succ_pos _
  have dn : d.toNat ≠ 0 := by omega
  have gp : 0 < Nat.gcd n.natAbs d.natAbs := Nat.gcd_pos_of_pos_right _ (by omega)
  have gb : (((Nat.gcd n.natAbs d.natAbs : Nat) : Int)).natAbs < 2 ^ b := by
    rw [Int.natAbs_natCast]
    exact Nat.lt_of_le_of_lt (Nat.gcd_le_right _ (by omega)) hdb
  have w : ∀ x : Int, CDivW x ((Nat.gcd n.natAbs d.natAbs : Nat) : Int) := fun x => wide_div (by omega) gb b0 (by omega)
  have ed : d.toNat = d.natAbs := by omega
  refine ⟨_, rfl, rfl, _, rfl, ifF (dF fun c => by cases c; omega) ?_⟩
  refine ⟨_, rfl, _, rfl, _, _, rfl, ?_⟩
  refine ⟨_, rfl, _, _, rfl, rfl, _, rfl, ifF (dF (by omega)) ?_⟩
  refine ⟨_, rfl, _, rfl, _, _, rfl, rfl, w _, _, rfl, _, rfl, _, _, rfl, rfl, w _, sz2, fun p hp => ?_⟩
  refine q _ _ (same_new hp _) ⟨p, rfl, SqT.of ?_⟩
  rw [upd_same, mk_num n dn, mk_den n dn, ed]
  congr 4
  have e : d = (d.natAbs : Int) := by omega
  rw [show (((d.natAbs / Nat.gcd n.natAbs d.natAbs : Nat)) : Int) = (d.natAbs : Int) / ((Nat.gcd n.natAbs d.natAbs : Nat) : Int) from Int.natCast_ediv _ _]
  rw [← e]
abbrev s_divide : Stmt := top 42
abbrev N_divide : List Str := ["a", "b"]
theorem sc_divide : FnScope N_divide ["a", "b"] (defScope s_divide) := ⟨rfl, rfl, rfl, by decide +kernel, rfl, by decide +kernel, by decide +kernel⟩
abbrev ps_divide : List Str := ["a", "b"]
def spDiv (K : PySem.W.Frag) : Sp := fun vs H Q _ => ∃ (x y : V) (p q : Rat) (m l : Nat), vs = [x, y] ∧ Rq K H x p ∧ Rq K H y q ∧ Sz m p ∧ Sz l q ∧ m + l + 1 ≤ 9000 ∧ 0 < q ∧ ∀ r H', Same H H' → Rq K H' r (p / q) → Q r H'
theorem ok_divide (F : Fn K mg "divide" s_divide ps_divide f fd) (drational : Def P w K mg base k "rational" ["n", "d"] (spFrac K) f1 fd1) : Def P w K mg base (k + 1) "divide" ps_divide (spDiv K) f fd := by
  refine ⟨F.F.ok sc_divide (fun vs H Q E h => ?_) (fun cdv A outer s H vs Q E hr h => ?_), F.m, F.F.kp, F.b⟩
  · obtain ⟨x, y, p, q, m, l, rfl, _⟩ := h
    rfl
  obtain ⟨x, y, p, q, m, l, rfl, ⟨a, rfl, ha⟩, ⟨b, rfl, hb⟩, zp, zq, hm, q0, z⟩ := h
  have m0 := nn zp
  have l0 := nn zq
  have hn := num_pos q0
  refine ⟨_, (pss_one (ps_ret (pcall drational hr (pa_cons (pe_op op_mulW (pe_ix ix_tup (pv 0) pe_int (fun _ _ => rfl)) (pe_ix ix_tup (pv 1) pe_int (fun _ _ => rfl))) (pa_cons (pe_op op_mulW (pe_ix ix_tup (pv 0) pe_int (fun _ _ => rfl)) (pe_ix ix_tup (pv 1) pe_int (fun _ _ => rfl))) pa_nil))))), ?_⟩
  refine ⟨_, rfl, a, _, _, _, rfl, rfl, ha, at0 rfl, _, rfl, b, _, _, _, rfl, rfl, hb, at1 rfl, _, _, rfl, rfl, mulW zp.1 (dA zq) m0 l0 (by omega), ?_⟩
  refine ⟨_, rfl, a, _, _, _, rfl, rfl, ha, at1 rfl, _, rfl, b, _, _, _, rfl, rfl, hb, at0 rfl, _, _, rfl, rfl, mulW (dA zp) zq.1 m0 l0 (by omega), ?_⟩
  refine ⟨_, _, m + l, rfl, Int.mul_pos (by have := p.den_pos; omega) hn, ab_mul zp.1 (dA zq), ab_mul (dA zp) zq.1, by omega, fun r H' e hr => z r H' e ?_⟩
  have e2 : ((p.den : Int) * q.num).toNat = p.den * q.num.toNat := by
    have e3 : q.num = (q.num.toNat : Int) := by omega
    rw [e3, tn]
    rfl
  rw [e2, ← div_mk p q q0] at hr
  exact hr
end Vk
namespace Vk
open PySem L2 Vm
variable {l : Addr} {P : Program} {w : World} {K : PySem.W.Frag} {mg : Str → Option Value} {base : Heap} {k : Nat} {f f1 f2 f3 f4 f5 f6 f7 f8 f9 : Addr} {fd fd1 fd2 fd3 fd4 fd5 fd6 fd7 fd8 fd9 : FuncData}
abbrev s__law_store : Stmt := top 68
abbrev N__law_store : List Str := ["_law_script"]
theorem sc__law_store : FnScope N__law_store ["_law_script"] (defScope s__law_store) := ⟨rfl, rfl, rfl, by decide +kernel, rfl, by decide +kernel, by decide +kernel⟩
abbrev ps__law_store : List Str := ["_law_script"]
def spStore (K : PySem.W.Frag) : Sp := fun vs H Q _ => ∃ (a : Addr) (ns : List Int), vs = [.ref a] ∧ SqL K H a (ns.map V.int) ∧ ns.length ≤ 63 ∧ ∀ (s l : Addr) H', Same H H' → H s = none → Sto l s H' → Q (.ref s) H'
theorem ok_store (T : Bn mg) (F : Fn K mg "_law_store" s__law_store ps__law_store f fd) : Def P w K mg base (k + 1) "_law_store" ps__law_store (spStore K) f fd := by
  refine ⟨F.F.ok sc__law_store (fun vs H Q E h => ?_) (fun cdv A outer s H vs Q E hr h => ?_), F.m, F.F.kp, F.b⟩
  · obtain ⟨a, ns, rfl, _⟩ := h
    rfl
  obtain ⟨a, ns, rfl, ha, hl, z⟩ := h
  refine ⟨_, (pss_one (ps_ret (pe_lst (pa_cons (pe_callTy call_list_of (by rfl) T.list_ (by decide +kernel) (pa_cons (pv 0) pa_nil)) (pa_cons pe_int (pa_cons pe_int (pa_cons pe_int (pa_cons pe_int (pa_cons pe_int pa_nil))))))))), ?_⟩
  refine ⟨_, rfl, a, _, rfl, .inl ha, fun l l0 => ?_⟩
  refine ⟨sm6, fun p p0 => ?_⟩
  have lp : l ≠ p := fun e => by rw [e, upd_same] at p0; cases p0
  have e1 : Same H (upd H l (.lst (ns.map V.int))) := same_new l0 _
  refine z _ l _ (e1.trans (same_new p0 _)) (e1.free p0) ⟨ns, 0, 0, 1, 0, 0, upd_same, lp, ?_, hl, by omega, by omega, by omega, by omega⟩
  rw [upd_ne lp, upd_same]
abbrev s__law_mixed : Stmt := top 70
abbrev N__law_mixed : List Str := ["_law_store_here"]
theorem sc__law_mixed : FnScope N__law_mixed ["_law_store_here"] (defScope s__law_mixed) := ⟨rfl, rfl, rfl, by decide +kernel, rfl, by decide +kernel, by decide +kernel⟩
abbrev ps__law_mixed : List Str := ["_law_store_here"]
def spMixed (K : PySem.W.Frag) (l : Addr) : Sp := fun vs H Q _ => ∃ (s : Addr), vs = [.ref s] ∧ Sto l s H ∧ ∀ (r : Int) H', 0 ≤ r → r < 1000000009 → Sto l s H' → Fr s H H' → Q (.int r) H'
theorem ok_mixed (T : Bn mg) (F : Fn K mg "_law_mixed" s__law_mixed ps__law_mixed f fd) : Def P w K mg base (k + 1) "_law_mixed" ps__law_mixed (spMixed K l) f fd := by
  refine ⟨F.F.ok sc__law_mixed (fun vs H Q E h => ?_) (fun cdv A outer s H vs Q E hr h => ?_), F.m, F.F.kp, F.b⟩
  · obtain ⟨a, rfl, _⟩ := h
    rfl
  obtain ⟨s, rfl, ⟨ns, pos, num, seed, hold, cnt, h1, h2, h3, h4, h5, h6, h7, h8⟩, z⟩ := h
  refine ⟨_, (pss_cons (ps_asg (pe_op op_add (pe_ix ix_list (pv 0) pe_int (fun _ _ => rfl)) pe_int) (pg_sub (pv 0) pe_int set_list))
      (pss_cons (ps_asg (pe_op op_mod (pe_callTy call_int1 (by rfl) T.int_ (by decide +kernel) (pa_cons (pe_op op_add (pe_op op_add (pe_op op_mul (pe_ix ix_list (pv 0) pe_int (fun _ _ => rfl)) pe_int) (pe_op op_mul (pe_ix ix_list (pv 0) pe_int (fun _ _ => rfl)) pe_int)) pe_int) pa_nil)) pe_int) (pg_sub (pv 0) pe_int set_list))
      (pss_one (ps_ret (pe_op op_mod (pe_callTy call_int1 (by rfl) T.int_ (by decide +kernel) (pa_cons (pe_op op_add (pe_op op_mul (pe_ix ix_list (pv 0) pe_int (fun _ _ => rfl)) pe_int) (pe_op op_fdiv (pe_ix ix_list (pv 0) pe_int (fun _ _ => rfl)) pe_int)) pa_nil)) pe_int))))), ?_⟩
  refine ⟨_, rfl, s, _, _, _, rfl, rfl, SqL.of h1, atI_nat (j := 5) rfl, _, _, rfl, rfl, _, rfl, s, _, _, _, rfl, rfl, h1, rfl, ?_⟩
  refine ⟨_, rfl, s, _, _, _, rfl, rfl, SqL.of upd_same, atI_nat (j := 3) rfl, _, _, rfl, rfl, .inr ⟨by decide, by decide⟩, ?_⟩
  refine ⟨_, rfl, s, _, _, _, rfl, rfl, SqL.of upd_same, atI_nat (j := 5) rfl, _, _, rfl, rfl, .inr ⟨by decide, by decide⟩, _, _, rfl, rfl, ?_⟩
  refine ⟨_, _, rfl, rfl, .inl ⟨_, rfl, _, _, rfl, rfl, (by show (0 : Int) < 1000000007; decide), _, rfl, s, _, _, _, rfl, rfl, upd_same, rfl, ?_⟩⟩
  refine ⟨_, rfl, s, _, _, _, rfl, rfl, SqL.of upd_same, atI_nat (j := 3) rfl, _, _, rfl, rfl, .inr ⟨by decide, by decide⟩, ?_⟩
  refine ⟨_, rfl, s, _, _, _, rfl, rfl, SqL.of upd_same, atI_nat (j := 3) rfl, _, _, rfl, rfl, ⟨by decide, by decide⟩, _, _, rfl, rfl, .inl ⟨_, rfl, _, _, rfl, rfl, (by show (0 : Int) < 1000000009; decide), ?_⟩⟩
  have e2 : ∀ o1 o2, Fr s H (upd (upd H s o1) s o2) := fun _ _ => (Fr.upd _).trans (Fr.upd _)
  exact z _ _ (Int.emod_nonneg _ (by decide)) (Int.emod_lt_of_pos _ (by decide)) ⟨ns, pos, num, _, hold, _, upd_same, h2, (e2 _ _) _ _ h3 h2, h4, h5, h6, Int.emod_nonneg _ (by decide), Int.emod_lt_of_pos _ (by decide)⟩ (e2 _ _)
abbrev s__law_feed : Stmt := top 69
abbrev N__law_feed : List Str := ["_law_store_here", "_law_cell"]
theorem sc__law_feed : FnScope N__law_feed ["_law_store_here"] (defScope s__law_feed) := ⟨rfl, rfl, rfl, by decide +kernel, rfl, by decide +kernel, by decide +kernel⟩
abbrev ps__law_feed : List Str := ["_law_store_here"]
def spFeed (K : PySem.W.Frag) (l : Addr) : Sp := fun vs H Q _ => ∃ (s : Addr) (ns : List Int) (pos num seed hold cnt : Int), vs = [.ref s] ∧ H s = some (.lst [.ref l, .int pos, .int num, .int seed, .int hold, .int cnt]) ∧ l ≠ s ∧ H l = some (.lst (ns.map V.int)) ∧ ns.length ≤ 63 ∧ 0 ≤ pos ∧ 0 ≤ num ∧ 0 ≤ seed ∧ seed < 1000000007 ∧ pos < (ns.length : Int) ∧
  ∀ H', Sto l s H' → Fr s H H' → Q .non H'
theorem ok_feed (T : Bn mg) (F : Fn K mg "_law_feed" s__law_feed ps__law_feed f fd) : Def P w K mg base (k + 1) "_law_feed" ps__law_feed (spFeed K l) f fd := by
  refine ⟨F.F.ok sc__law_feed (fun vs H Q E h => ?_) (fun cdv A outer s H vs Q E hr h => ?_), F.m, F.F.kp, F.b⟩
  · obtain ⟨_, _, _, _, _, _, _, rfl, _⟩ := h
    rfl
  obtain ⟨s, ns, pos, num, seed, hold, cnt, rfl, h1, h2, h3, h4, h5, h6, h7, h8, h9, z⟩ := h
  refine ⟨_, (pss_cons (ps_set (i := 1) sc__law_feed.nd rfl (Or.inl rfl) (pe_callTy call_int1 (by rfl) T.int_ (by decide +kernel) (pa_cons (pe_ix ix_list (pe_ix ix_list (pv 0) pe_int (fun _ _ => rfl)) (pe_ix ix_list (pv 0) pe_int (fun _ _ => rfl)) (fun _ _ => rfl)) pa_nil)))
      (pss_cons (ps_asg (pe_op op_add (pe_ix ix_list (pv 0) pe_int (fun _ _ => rfl)) pe_int) (pg_sub (pv 0) pe_int set_list))
      (pss_cons (ps_asg (pe_op op_mod (pe_callTy call_int1 (by rfl) T.int_ (by decide +kernel) (pa_cons (pe_op op_add (pe_op op_mul (pe_ix ix_list (pv 0) pe_int (fun _ _ => rfl)) pe_int) (pv 1)) pa_nil)) pe_int) (pg_sub (pv 0) pe_int set_list))
      (pss_one (ps_if (PW.pt (pw_or (pt_cmpR op_ge (pv 1) (pe_op op_pow pe_int pe_int) (nomark _)) (pw_or1 (pt_cmpR op_le (pv 1) (pe_op op_sub pe_int (pe_op op_pow pe_int pe_int)) (nomark _)))))
        (pss_one (ps_asg (pe_callB call_abs (by rfl) T.abs_ (by decide +kernel) (pa_cons (pv 1) pa_nil)) (pg_sub (pv 0) pe_int set_list)))
        (pss_one (ps_asg pe_int (pg_sub (pv 0) pe_int set_list)))))))), ?_⟩
  have hp : pos.toNat < ns.length := by omega
  have ea : atI (ns.map V.int) pos = some (.int ns[pos.toNat]) := at_of (j := pos.toNat) (by omega) (by rw [List.getElem?_map, List.getElem?_eq_getElem hp]; rfl)
  obtain ⟨c, hc⟩ : ∃ c, c = ns[pos.toNat] := ⟨_, rfl⟩
  rw [← hc] at ea
  refine ⟨_, rfl, s, _, _, _, rfl, rfl, SqL.of h1, at0 rfl, _, rfl, s, _, _, _, rfl, rfl, SqL.of h1, at1 rfl, l, _, _, _, rfl, rfl, SqL.of h3, ea, .inl ⟨_, rfl, ?_⟩⟩
  refine ⟨_, rfl, s, _, _, _, rfl, rfl, SqL.of h1, at1 rfl, _, _, rfl, rfl, _, rfl, s, _, _, _, rfl, rfl, h1, rfl, ?_⟩
  refine ⟨_, rfl, s, _, _, _, rfl, rfl, SqL.of upd_same, atI_nat (j := 3) rfl, _, _, rfl, rfl, .inr ⟨by decide, by decide⟩, _, rfl, _, _, rfl, rfl, .inl ⟨_, rfl, _, _, rfl, rfl, (by show (0 : Int) < 1000000007; decide), _, rfl, s, _, _, _, rfl, rfl, upd_same, rfl, ?_⟩⟩
  have e2 : ∀ o1 o2, Fr s H (upd (upd H s o1) s o2) := fun _ _ => (Fr.upd _).trans (Fr.upd _)
  have e3 : ∀ o1 o2 o3, Fr s H (upd (upd (upd H s o1) s o2) s o3) := fun _ _ _ => (e2 _ _).trans (Fr.upd _)
  have pw : (0 : Int) ≤ 18 ∧ (18 : Int) ≤ 1000000 ∧ (10 : Int).natAbs < 2 ^ 64 := ⟨by decide, by decide, by decide⟩
  have big : ∀ H', H' s = _ → Fr s H H' → Q .non H' := fun H' (e : H' s = some (.lst [.ref l, .int (pos + 1), .int (if c < 0 then -c else c), .int ((seed * 30011 + c) % 1000000007), .int hold, .int cnt])) e' =>
    z H' ⟨ns, pos + 1, _, _, hold, cnt, e, h2, e' _ _ h3 h2, h4, by omega, by split <;> omega, Int.emod_nonneg _ (by decide), Int.emod_lt_of_pos _ (by decide)⟩ e'
  refine ⟨_, rfl, _, _, rfl, rfl, pw, _, _, rfl, rfl, _, rfl, ifD (fun _ => ?_) (fun _ => ⟨_, rfl, _, _, rfl, rfl, pw, _, _, rfl, rfl, _, _, rfl, rfl, _, rfl, ifD (fun _ => ?_) (fun _ => ?_)⟩)⟩
  · exact ⟨_, rfl, _, rfl, _, rfl, s, _, _, _, rfl, rfl, upd_same, rfl, big _ upd_same (e3 _ _ _)⟩
  · exact ⟨_, rfl, _, rfl, _, rfl, s, _, _, _, rfl, rfl, upd_same, rfl, big _ upd_same (e3 _ _ _)⟩
  · exact ⟨_, rfl, s, _, _, _, rfl, rfl, upd_same, rfl, z _ ⟨ns, pos + 1, num, _, 3, cnt, upd_same, h2, (e3 _ _ _) _ _ h3 h2, h4, by omega, h6, Int.emod_nonneg _ (by decide), Int.emod_lt_of_pos _ (by decide)⟩ (e3 _ _ _)⟩
abbrev s__law_take : Stmt := top 71
abbrev N__law_take : List Str := ["_law_store_here", "_law_many", "_law_number"]
theorem sc__law_take : FnScope N__law_take ["_law_store_here", "_law_many"] (defScope s__law_take) := ⟨rfl, rfl, rfl, by decide +kernel, rfl, by decide +kernel, by decide +kernel⟩
abbrev ps__law_take : List Str := ["_law_store_here", "_law_many"]
def spTake (K : PySem.W.Frag) (l : Addr) : Sp := fun vs H Q _ => ∃ (s : Addr) (many : Int), vs = [.ref s, .int many] ∧ Sto l s H ∧ many < 2 ^ 64 ∧ ∀ (r : Int) H', 0 ≤ r → (r < many ∨ r = 0) → Sto l s H' → Fr s H H' → Q (.int r) H'
theorem ok_take (T : Bn mg) (F : Fn K mg "_law_take" s__law_take ps__law_take f fd) (d_law_feed : Def P w K mg base k "_law_feed" ["_law_store_here"] (spFeed K l) f1 fd1) (d_law_mixed : Def P w K mg base k "_law_mixed" ["_law_store_here"] (spMixed K l) f2 fd2) :
    Def P w K mg base (k + 1) "_law_take" ps__law_take (spTake K l) f fd := by
  refine ⟨F.F.ok sc__law_take (fun vs H Q E h => ?_) (fun cdv A outer s H vs Q E hr h => ?_), F.m, F.F.kp, F.b⟩
  · obtain ⟨_, _, rfl, _⟩ := h
    rfl
  obtain ⟨s, many, rfl, hS, hm, z⟩ := h
  refine ⟨_, (pss_cons (ps_set (i := 1) sc__law_take.nd rfl (Or.inl rfl) (pe_callB (call_max2 rfl) (by rfl) T.max_ (by decide +kernel) (pa_cons pe_int (pa_cons (pv 1) pa_nil))))
      (pss_cons (ps_if (PW.pt (pw_and (pt_cmpR op_eq (pe_ix ix_list (pv 0) pe_int (fun _ _ => rfl)) pe_int (nomark _)) (pw_and (pt_cmpR op_eq (pe_ix ix_list (pv 0) pe_int (fun _ _ => rfl)) pe_int (nomark _)) (pw_and1 (pt_cmpR op_lt (pe_ix ix_list (pv 0) pe_int (fun _ _ => rfl)) (pe_callB call_len_seq (by rfl) T.len_ PySem.boot_len (pa_cons (pe_ix ix_list (pv 0) pe_int (fun _ _ => rfl)) pa_nil)) (nomark _))))))
        (pss_one (ps_expr (pcall d_law_feed hr (pa_cons (pv 0) pa_nil))))
        pss_nil)
      (pss_cons (ps_if (pt_cmpR op_gt (pe_ix ix_list (pv 0) pe_int (fun _ _ => rfl)) pe_int (nomark _))
        (pss_cons (ps_set (i := 2) sc__law_take.nd rfl (Or.inl rfl) (pe_ix ix_list (pv 0) pe_int (fun _ _ => rfl)))
        (pss_cons (ps_asg (pe_op op_fdivW (pv 2) (pv 1)) (pg_sub (pv 0) pe_int set_list))
        (pss_one (ps_ret (pe_op op_mod (pe_callTy call_int1 (by rfl) T.int_ (by decide +kernel) (pa_cons (pv 2) pa_nil)) (pv 1))))))
        pss_nil)
      (pss_cons (ps_asg (pe_callB (call_max2 rfl) (by rfl) T.max_ (by decide +kernel) (pa_cons pe_int (pa_cons (pe_op op_sub (pe_ix ix_list (pv 0) pe_int (fun _ _ => rfl)) pe_int) pa_nil))) (pg_sub (pv 0) pe_int set_list))
      (pss_cons (ps_set (i := 2) sc__law_take.nd rfl (Or.inl rfl) (pcall d_law_mixed hr (pa_cons (pv 0) pa_nil)))
      (pss_cons (ps_if (pt_cmpR op_gt (pv 1) pe_int (nomark _))
        (pss_one (ps_set (i := 2) sc__law_take.nd rfl (Or.inl rfl) (pe_op op_add (pv 2) (pe_op op_mul (pcall d_law_mixed hr (pa_cons (pv 0) pa_nil)) pe_int))))
        pss_nil)
      (pss_one (ps_ret (pe_op op_mod (pe_callTy call_int1 (by rfl) T.int_ (by decide +kernel) (pa_cons (pv 2) pa_nil)) (pv 1)))))))))), ?_⟩
  refine ⟨_, rfl, _, _, rfl, ?_⟩
  obtain ⟨M, eM⟩ : ∃ M : Int, M = if many > 1 then many else 1 := ⟨_, rfl⟩
  have M1 : 1 ≤ M := by rw [eM]; split <;> omega
  have M2 : M.natAbs < 2 ^ 64 := by
    have : (2 : Nat) ^ 64 = 18446744073709551616 := by decide
    have : (2 : Int) ^ 64 = 18446744073709551616 := by decide
    rw [eM]; split <;> omega
  have hz : ∀ (r : Int) H', 0 ≤ r → r < M → Sto l s H' → Fr s H H' → Q (.int r) H' := fun r H' a b => z r H' a (by rw [eM] at b; split at b <;> omega)
  rw [← eM]
  dsimp only [gName]
  refine cut (fun σ' H' => σ' = [some (.ref s), some (.int M), none] ∧ Sto l s H' ∧ Fr s H H') ?_ ?_
  · rintro σ H1 ⟨rfl, hS1, e1⟩
    obtain ⟨ns, pos, num, seed, hold, cnt, h1, h2, h3, h4, h5, h6, h7, h8⟩ := id hS1
    refine ⟨_, rfl, s, _, _, _, rfl, rfl, SqL.of h1, at2 rfl, _, _, rfl, rfl, _, rfl, ifD (fun c => ?_) (fun c => ?_)⟩
    · refine ⟨_, rfl, s, _, _, _, rfl, rfl, SqL.of h1, at2 rfl, ?_⟩
      refine ⟨_, rfl, _, rfl, _, _, rfl, rfl, wide_div (by omega) M2 (by decide) (by decide), _, rfl, s, _, _, _, rfl, rfl, h1, rfl, ?_⟩
      refine ⟨_, rfl, .inl ⟨_, rfl, _, rfl, _, _, rfl, rfl, (by show 0 < M; omega), ?_⟩⟩
      have e2 : ∀ o, Fr s H1 (upd H1 s o) := fun _ => Fr.upd _
      exact hz _ _ (Int.emod_nonneg _ (by omega)) (Int.emod_lt_of_pos _ (by omega)) ⟨ns, pos, num / M, seed, hold, cnt, upd_same, h2, (e2 _) _ _ h3 h2, h4, h5, Int.ediv_nonneg (by omega) (by omega), h7, h8⟩ (e1.trans (e2 _))
    refine ⟨_, rfl, s, _, _, _, rfl, rfl, SqL.of h1, atI_nat (j := 4) rfl, _, _, rfl, rfl, _, _, rfl, _, rfl, s, _, _, _, rfl, rfl, h1, rfl, ?_⟩
    have e2 : ∀ o, Fr s H1 (upd H1 s o) := fun _ => Fr.upd _
    refine ⟨_, rfl, s, rfl, ⟨ns, pos, num, seed, _, cnt, upd_same, h2, (e2 _) _ _ h3 h2, h4, h5, h6, h7, h8⟩, fun r H2 r0 r1 S2 e3 => ?_⟩
    refine ⟨_, rfl, _, _, rfl, rfl, _, rfl, ifD (fun c => ?_) (fun c => ?_)⟩
    · refine ⟨_, rfl, _, rfl, s, rfl, S2, fun r' H3 _ _ S3 e4 => ⟨_, _, rfl, rfl, .inr ⟨by decide, by decide⟩, _, _, rfl, rfl, ?_⟩⟩
      refine ⟨_, rfl, .inl ⟨_, rfl, _, rfl, _, _, rfl, rfl, (by show 0 < M; omega), ?_⟩⟩
      exact hz _ _ (Int.emod_nonneg _ (by omega)) (Int.emod_lt_of_pos _ (by omega)) S3 (e1.trans ((e2 _).trans (e3.trans e4)))
    · refine ⟨_, rfl, .inl ⟨_, rfl, _, rfl, _, _, rfl, rfl, (by show 0 < M; omega), ?_⟩⟩
      exact hz _ _ (Int.emod_nonneg _ (by omega)) (Int.emod_lt_of_pos _ (by omega)) S2 (e1.trans ((e2 _).trans e3))
  · intro key
    obtain ⟨ns, pos, num, seed, hold, cnt, h1, h2, h3, h4, h5, h6, h7, h8⟩ := id hS
    refine ⟨_, rfl, s, _, _, _, rfl, rfl, SqL.of h1, at2 rfl, rfl, _, rfl, ifD (fun _ => ?_) (fun _ => ifF rfl (key _ _ ⟨rfl, hS, Fr.refl _ _⟩))⟩
    refine ⟨_, rfl, s, _, _, _, rfl, rfl, SqL.of h1, atI_nat (j := 4) rfl, rfl, _, rfl, ifD (fun _ => ?_) (fun _ => ifF rfl (key _ _ ⟨rfl, hS, Fr.refl _ _⟩))⟩
    refine ⟨_, rfl, s, _, _, _, rfl, rfl, SqL.of h1, at1 rfl, _, rfl, s, _, _, _, rfl, rfl, SqL.of h1, at0 rfl, l, _, rfl, .inl (SqL.of h3), _, _, rfl, rfl, _, rfl, ifD (fun c => ?_) (fun _ => key _ _ ⟨rfl, hS, Fr.refl _ _⟩)⟩
    rw [List.length_map] at c
    exact ⟨_, rfl, s, ns, pos, num, seed, hold, cnt, rfl, h1, h2, h3, h4, h5, h6, h7, h8, c, fun H' S' e' => key _ _ ⟨rfl, S', e'⟩⟩
abbrev s__law_pick : Stmt := top 72
abbrev N__law_pick : List Str := ["_law_store_here", "_law_things"]
theorem sc__law_pick : FnScope N__law_pick ["_law_store_here", "_law_things"] (defScope s__law_pick) := ⟨rfl, rfl, rfl, by decide +kernel, rfl, by decide +kernel, by decide +kernel⟩
abbrev ps__law_pick : List Str := ["_law_store_here", "_law_things"]
/-- a list that is not the store; one of its things is handed back -/
def spPick (K : PySem.W.Frag) (l : Addr) : Sp := fun vs H Q _ => ∃ (s a : Addr) (xs : List V), vs = [.ref s, .ref a] ∧ Sto l s H ∧ a ≠ s ∧ SqL K H a xs ∧ 0 < xs.length ∧ xs.length < 2 ^ 32 ∧ ∀ (v : V) H', v ∈ xs → Sto l s H' → Fr s H H' → Q v H'
theorem ok_pick (T : Bn mg) (F : Fn K mg "_law_pick" s__law_pick ps__law_pick f fd) (d_law_take : Def P w K mg base k "_law_take" ["_law_store_here", "_law_many"] (spTake K l) f1 fd1) : Def P w K mg base (k + 1) "_law_pick" ps__law_pick (spPick K l) f fd := by
  refine ⟨F.F.ok sc__law_pick (fun vs H Q E h => ?_) (fun cdv A outer s H vs Q E hr h => ?_), F.m, F.F.kp, F.b⟩
  · obtain ⟨_, _, _, rfl, _⟩ := h
    rfl
  obtain ⟨s, a, xs, rfl, hS, n, ha, h0, hl, z⟩ := h
  refine ⟨_, (pss_one (ps_ret (pe_ix ix_list (pv 1) (pcall d_law_take hr (pa_cons (pv 0) (pa_cons (pe_callB call_len_seq (by rfl) T.len_ PySem.boot_len (pa_cons (pv 1) pa_nil)) pa_nil))) (fun _ _ => rfl)))), ?_⟩
  have p32 : (2 : Nat) ^ 32 = 4294967296 := by decide
  have p64 : (2 : Int) ^ 64 = 18446744073709551616 := by decide
  refine ⟨_, rfl, _, rfl, _, rfl, a, _, rfl, .inl ha, s, _, rfl, hS, by omega, fun r H' r0 r1 S' e => ?_⟩
  have hr : r.toNat < xs.length := by omega
  refine ⟨a, _, _, xs[r.toNat], rfl, rfl, seq_fr e n ha, at_of (j := r.toNat) (by omega) (List.getElem?_eq_getElem hr), z _ _ (List.getElem_mem hr) S' e⟩
end Vk
namespace Vk
open PySem L2 Vm
variable {l : Addr} {P : Program} {w : World} {K : PySem.W.Frag} {mg : Str → Option Value} {base : Heap} {k : Nat} {f f1 f2 f3 f4 f5 f6 f7 f8 f9 : Addr} {fd fd1 fd2 fd3 fd4 fd5 fd6 fd7 fd8 fd9 : FuncData}
/-! ### data -/
def dq (q : Rat) : PyData := .tuple [.int q.num, .int (q.den : Int)]
theorem Rq.dp {H : Hp} {v : V} {q : Rat} (h : Rq K H v q) : Dp K H v (dq q) := by
  obtain ⟨a, rfl, h⟩ := h
  exact .tup h (.cons (.int _) (.cons (.int _) .nil))
theorem sh_dq (q : Rat) : SeqAt.shaped (dq q) = true := rfl
theorem eqv_dq (p q : Rat) : PyData.eqv (dq p) (dq q) = decide (p = q) := by
  show ((p.num == q.num) && (((p.den : Int) == (q.den : Int)) && true)) = decide (p = q)
  by_cases h : p = q
  · subst h
    simp
  · rw [decide_eq_false h]
    by_cases h1 : p.num = q.num
    · by_cases h2 : p.den = q.den
      · exact absurd (Rat.ext h1 h2) h
      · have : ((p.den : Int) == (q.den : Int)) = false := beq_false_of_ne (by omega)
        rw [this]
        simp
    · have : (p.num == q.num) = false := by simpa using h1
      rw [this]
      simp
inductive Tree : Nat → PyData → Prop
  | int {n} (i : Int) : Tree n (.int i)
  | non {n} : Tree n .none
  | bl {n} (b : Bool) : Tree n (.bool b)
  | str {n} {s : Str} (h : SeqAt.shaped (.str s) = true) : Tree n (.str s)
  | tup {n} {ds : List PyData} : ds.length ≤ 1000 → (∀ d ∈ ds, Tree n d) → Tree (n + 1) (.tuple ds)
  | lst {n} {ds : List PyData} : ds.length ≤ 1000 → (∀ d ∈ ds, Tree n d) → Tree (n + 1) (.list ds)
theorem tree_dq (n : Nat) (q : Rat) : Tree (n + 1) (dq q) := .tup (by show 2 ≤ 1000; decide) fun d h => by
  rcases List.mem_cons.mp h with rfl | h
  · exact .int _
  · rcases List.mem_cons.mp h with rfl | h
    · exact .int _
    · cases h
theorem sql_ty {H : Hp} {a : Addr} {xs : List V} (h : SqL K H a xs) : TyX K H (.ref a) (.type "list") := by
  rcases h with (h | ⟨o, h⟩) | ⟨o, its, n, h, c, _⟩
  · exact .base (.lst h)
  · exact .base (.frz h)
  · exact .kList h c
theorem sqt_ty {H : Hp} {a : Addr} {xs : List V} (h : SqT K H a xs) : TyX K H (.ref a) (.type "tuple") := by
  rcases h with (h | ⟨o, h⟩) | ⟨o, its, n, h, c, _⟩
  · exact .base (.tup h)
  · exact .fTuple h
  · exact .kTuple h c
theorem dpall_len {H : Hp} : ∀ {vs : List V} {ds : List PyData}, DpAll K H vs ds → vs.length = ds.length
  | _, _, .nil => rfl
  | _, _, .cons _ t => by simp [dpall_len t]
theorem dpall_at {H : Hp} : ∀ {vs : List V} {ds : List PyData}, DpAll K H vs ds → ∀ {i : Nat} {d : PyData}, ds[i]? = some d → ∃ v, vs[i]? = some v ∧ Dp K H v d
  | _, _, .nil, i, d, h => by simp at h
  | _, _, .cons r t, 0, d, h => ⟨_, rfl, by rw [← Option.some.inj h]; exact r⟩
  | _, _, .cons r t, i + 1, d, h => dpall_at t h
abbrev s__law_is_int : Stmt := top 75
abbrev N__law_is_int : List Str := ["_law_value"]
theorem sc__law_is_int : FnScope N__law_is_int ["_law_value"] (defScope s__law_is_int) := ⟨rfl, rfl, rfl, by decide +kernel, rfl, by decide +kernel, by decide +kernel⟩
abbrev ps__law_is_int : List Str := ["_law_value"]
def spIsInt (K : PySem.W.Frag) : Sp := fun vs H Q _ => ∃ i : Int, vs = [.int i] ∧ Q (.bl true) H
theorem ok_is_int (T : Bn mg) (F : Fn K mg "_law_is_int" s__law_is_int ps__law_is_int f fd) : Def P w K mg base (k + 1) "_law_is_int" ps__law_is_int (spIsInt K) f fd := by
  refine ⟨F.F.ok sc__law_is_int (fun vs H Q E h => ?_) (fun cdv A outer s H vs Q E hr h => ?_), F.m, F.F.kp, F.b⟩
  · obtain ⟨i, rfl, _⟩ := h
    rfl
  obtain ⟨i, rfl, z⟩ := h
  refine ⟨_, (pss_one (ps_ret (pe_and (pe_callB call_isi (by rfl) T.isinstance_ (by decide +kernel) (pa_cons (pv 0) (pa_cons (pe_bltn (v := .ty "int") (by rfl) T.int_ (by decide +kernel) rfl) pa_nil))) (pe_one (pe_not (pe_callB call_isi (by rfl) T.isinstance_ (by decide +kernel) (pa_cons (pv 0) (pa_cons (pe_bltn (v := .ty "bool") (by rfl) T.bool_ (by decide +kernel) rfl) pa_nil)))))))), ?_⟩
  exact ⟨_, rfl, _, _, _, _, true, rfl, .ty _, (.base (.int i)), kit_ty (by decide +kernel), _, rfl, ifT rfl ⟨_, rfl, _, _, _, _, false, rfl, .ty _, (.base (.int i)), kit_ty (by decide +kernel), _, rfl, z⟩⟩
abbrev s__law_same : Stmt := top 76
abbrev N__law_same : List Str := ["_law_value", "_law_due", "_law_keys", "_law_name", "_law_k"]
theorem sc__law_same : FnScope N__law_same ["_law_value", "_law_due"] (defScope s__law_same) := ⟨rfl, rfl, rfl, by decide +kernel, rfl, by decide +kernel, by decide +kernel⟩
abbrev ps__law_same : List Str := ["_law_value", "_law_due"]
def spSame (K : PySem.W.Frag) (n : Nat) : Sp := fun vs H Q _ => ∃ (v u : V) (d : PyData), vs = [v, u] ∧ Dp K H v d ∧ Dp K H u d ∧ Tree n d ∧ Q (.bl true) H
theorem ok_same1 (T : Bn mg) (n : Nat) (F : Fn K mg "_law_same" s__law_same ps__law_same f fd) (d_law_is_int : Def P w K mg base (k + n) "_law_is_int" ["_law_value"] (spIsInt K) f1 fd1)
    (d_law_same : Def P w K mg base (k + n) "_law_same" ["_law_value", "_law_due"] (fun vs H Q E => ∃ m, m + 1 = n ∧ spSame K m vs H Q E) f fd) : Def P w K mg base (k + n + 1) "_law_same" ps__law_same (spSame K n) f fd := by
  refine ⟨F.F.ok sc__law_same (fun vs H Q E h => ?_) (fun cdv A outer s H vs Q E hr h => ?_), F.m, F.F.kp, F.b⟩
  · obtain ⟨v, u, d, rfl, _⟩ := h
    rfl
  obtain ⟨v, u, d, rfl, hv, hu, ht, z⟩ := h
  refine ⟨_, (pss_cons (ps_if (pt_cmpR op_isN (pv 1) pe_non (nomark _))
        (pss_one (ps_ret (pe_cmpR op_isN (pv 0) pe_non (nomark _))))
        pss_nil)
      (pss_cons (ps_if (pt_val (pe_callB call_isi (by rfl) T.isinstance_ (by decide +kernel) (pa_cons (pv 1) (pa_cons (pe_bltn (v := .ty "bool") (by rfl) T.bool_ (by decide +kernel) rfl) pa_nil))))
        (pss_one (ps_ret (pe_and (pe_callB call_isi (by rfl) T.isinstance_ (by decide +kernel) (pa_cons (pv 0) (pa_cons (pe_bltn (v := .ty "bool") (by rfl) T.bool_ (by decide +kernel) rfl) pa_nil))) (pe_one (pe_cmpR (op_eqD hr.units) (pv 0) (pv 1) (nomark _))))))
        pss_nil)
      (pss_cons (ps_if (pt_val (pe_callB call_isi (by rfl) T.isinstance_ (by decide +kernel) (pa_cons (pv 1) (pa_cons (pe_bltn (v := .ty "int") (by rfl) T.int_ (by decide +kernel) rfl) pa_nil))))
        (pss_one (ps_ret (pe_and (pcall d_law_is_int hr (pa_cons (pv 0) pa_nil)) (pe_one (pe_cmpR (op_eqD hr.units) (pv 0) (pv 1) (nomark _))))))
        pss_nil)
      (pss_cons (ps_if (pt_val (pe_callB call_isi (by rfl) T.isinstance_ (by decide +kernel) (pa_cons (pv 1) (pa_cons (pe_bltn (v := .ty "str") (by rfl) T.str_ (by decide +kernel) rfl) pa_nil))))
        (pss_one (ps_ret (pe_and (pe_callB call_isi (by rfl) T.isinstance_ (by decide +kernel) (pa_cons (pv 0) (pa_cons (pe_bltn (v := .ty "str") (by rfl) T.str_ (by decide +kernel) rfl) pa_nil))) (pe_one (pe_cmpR (op_eqD hr.units) (pv 0) (pv 1) (nomark _))))))
        pss_nil)
      (pss_cons (ps_if (pt_val (pe_callB call_isi (by rfl) T.isinstance_ (by decide +kernel) (pa_cons (pv 1) (pa_cons (pe_bltn (v := .ty "dict") (by rfl) T.dict_ (by decide +kernel) rfl) pa_nil))))
        pss_never
        pss_nil)
      (pss_cons (ps_if (PW.pt (pw_and (pt_val (pe_callB call_isi (by rfl) T.isinstance_ (by decide +kernel) (pa_cons (pv 1) (pa_cons (pe_bltn (v := .ty "list") (by rfl) T.list_ (by decide +kernel) rfl) pa_nil)))) (pw_and1 (pt_not (pt_val (pe_callB call_isi (by rfl) T.isinstance_ (by decide +kernel) (pa_cons (pv 0) (pa_cons (pe_bltn (v := .ty "list") (by rfl) T.list_ (by decide +kernel) rfl) pa_nil))))))))
        (pss_one (ps_ret pe_bl))
        pss_nil)
      (pss_cons (ps_if (PW.pt (pw_and (pt_val (pe_callB call_isi (by rfl) T.isinstance_ (by decide +kernel) (pa_cons (pv 1) (pa_cons (pe_bltn (v := .ty "tuple") (by rfl) T.tuple_ (by decide +kernel) rfl) pa_nil)))) (pw_and1 (pt_not (pt_val (pe_callB call_isi (by rfl) T.isinstance_ (by decide +kernel) (pa_cons (pv 0) (pa_cons (pe_bltn (v := .ty "tuple") (by rfl) T.tuple_ (by decide +kernel) rfl) pa_nil))))))))
        (pss_one (ps_ret pe_bl))
        pss_nil)
      (pss_cons (ps_if (pt_cmpR op_ne (pe_callB call_len_seq (by rfl) T.len_ PySem.boot_len (pa_cons (pv 0) pa_nil)) (pe_callB call_len_seq (by rfl) T.len_ PySem.boot_len (pa_cons (pv 1) pa_nil)) (nomark _))
        (pss_one (ps_ret pe_bl))
        pss_nil)
      (pss_cons (ps_for PassesOwn.never rfl (pi_range1 (by rfl) T.range_ (pa_cons (pe_callB call_len_seq (by rfl) T.len_ PySem.boot_len (pa_cons (pv 1) pa_nil)) pa_nil)) (pg_name (i := 4) sc__law_same.nd rfl (Or.inl rfl))
        (pss_one (ps_if (pt_not (pt_val (pcall d_law_same hr (pa_cons (pe_ix ix_seq (pv 0) (pv 4) (fun _ _ => rfl)) (pa_cons (pe_ix ix_seq (pv 1) (pv 4) (fun _ _ => rfl)) pa_nil)))))
          (pss_one (ps_ret pe_bl))
          pss_nil)))
      (pss_one (ps_ret pe_bl))))))))))), ?_⟩
  cases ht with
  | int i =>
    cases hv
    cases hu
    refine ⟨_, rfl, rfl, _, rfl, ifF (dF nofun) ⟨_, rfl, _, _, _, _, false, rfl, .ty _, (.base (.int i)), kit_ty (by decide +kernel), _, rfl, ifF rfl ⟨_, rfl, _, _, _, _, true, rfl, .ty _, (.base (.int i)), kit_ty (by decide +kernel), _, rfl, ifT rfl ?_⟩⟩⟩
    refine ⟨_, rfl, i, rfl, _, rfl, ifT rfl ⟨_, rfl, _, rfl, _, _, .int i, .int i, rfl, rfl, ?_⟩⟩
    rw [show PyData.eqv (.int i) (.int i) = true from beq_self_eq_true i]
    exact z
  | non =>
    cases hv
    cases hu
    exact ⟨_, rfl, rfl, _, rfl, ifT (dT rfl) ⟨_, rfl, rfl, z⟩⟩
  | bl b =>
    cases hv
    cases hu
    refine ⟨_, rfl, rfl, _, rfl, ifF (dF nofun) ⟨_, rfl, _, _, _, _, true, rfl, .ty _, (.base (.bl b)), kit_ty (by decide +kernel), _, rfl, ifT rfl ?_⟩⟩
    refine ⟨_, rfl, _, _, _, _, true, rfl, .ty _, (.base (.bl b)), kit_ty (by decide +kernel), _, rfl, ifT rfl ⟨_, rfl, _, rfl, _, _, .bl b, .bl b, rfl, rfl, ?_⟩⟩
    rw [show PyData.eqv (.bool b) (.bool b) = true from beq_self_eq_true b]
    exact z
  | @str _ s hs =>
    cases hv
    cases hu
    refine ⟨_, rfl, rfl, _, rfl, ifF (dF nofun) ⟨_, rfl, _, _, _, _, false, rfl, .ty _, (.base (.str s)), kit_ty (by decide +kernel), _, rfl, ifF rfl ⟨_, rfl, _, _, _, _, false, rfl, .ty _, (.base (.str s)), kit_ty (by decide +kernel), _, rfl, ifF rfl ⟨_, rfl, _, _, _, _, true, rfl, .ty _, (.base (.str s)), kit_ty (by decide +kernel), _, rfl, ifT rfl ?_⟩⟩⟩⟩
    refine ⟨_, rfl, _, _, _, _, true, rfl, .ty _, (.base (.str s)), kit_ty (by decide +kernel), _, rfl, ifT rfl ⟨_, rfl, _, rfl, _, _, .str s, .str s, hs, hs, ?_⟩⟩
    rw [show PyData.eqv (.str s) (.str s) = true from beq_self_eq_true s]
    exact z
  | tup hl hall =>
    rename_i m ds
    cases hv with
    | tup ha da =>
    rename_i a xs
    cases hu with
    | tup hb db =>
    rename_i b ys
    have lx := dpall_len da
    have ly := dpall_len db
    have ta := sqt_ty ha
    have tb := sqt_ty hb
    refine ⟨_, rfl, rfl, _, rfl, ifF (dF nofun) ⟨_, rfl, _, _, _, _, false, rfl, .ty _, tb, kit_ty (by decide +kernel), _, rfl, ifF rfl ⟨_, rfl, _, _, _, _, false, rfl, .ty _, tb, kit_ty (by decide +kernel), _, rfl, ifF rfl ⟨_, rfl, _, _, _, _, false, rfl, .ty _, tb, kit_ty (by decide +kernel), _, rfl, ifF rfl ⟨_, rfl, _, _, _, _, false, rfl, .ty _, tb, kit_ty (by decide +kernel), _, rfl, ifF rfl ?_⟩⟩⟩⟩⟩
    refine ⟨_, rfl, _, _, _, _, false, rfl, .ty _, tb, kit_ty (by decide +kernel), _, rfl, ifF rfl (ifF rfl ⟨_, rfl, _, _, _, _, true, rfl, .ty _, tb, kit_ty (by decide +kernel), _, rfl, ifT rfl ⟨_, rfl, _, _, _, _, true, rfl, .ty _, ta, kit_ty (by decide +kernel), _, rfl, ifF rfl ?_⟩⟩)⟩
    refine ⟨_, rfl, a, _, rfl, .inr ha, _, rfl, b, _, rfl, .inr hb, rfl, _, rfl, ifF ?_ ?_⟩
    · rw [lx, ly]
      simp
    have p62 : (2 : Int) ^ 62 = 4611686018427387904 := by decide
    refine ⟨_, rfl, b, _, rfl, .inr hb, _, rfl, by omega, by omega, for_range (n := ((ys.length : Nat) : Int).toNat) (fun i σ H' => ∃ kk, σ = [some (.ref a), some (.ref b), none, none, kk] ∧ H' = H) ⟨none, rfl, rfl⟩ ?_ ?_⟩
    · rintro i σ H' hi ⟨kk, rfl, rfl⟩
      have hi' : i < ds.length := by omega
      obtain ⟨v, hv, dv⟩ := dpall_at da (List.getElem?_eq_getElem hi')
      obtain ⟨u, hu, du⟩ := dpall_at db (List.getElem?_eq_getElem hi')
      refine ⟨_, rfl, _, rfl, .inr (.inl ⟨a, _, _, v, rfl, rfl, ha, at_of (j := i) (by omega) hv, _, rfl, _, rfl, .inr (.inl ⟨b, _, _, u, rfl, rfl, hb, at_of (j := i) (by omega) hu, m, rfl, v, u, _, rfl, dv, du, hall _ (List.getElem_mem hi'), ?_⟩)⟩)⟩
      exact ⟨_, rfl, ifF rfl ⟨_, rfl, rfl⟩⟩
    · rintro σ H' ⟨kk, rfl, rfl⟩
      exact z
  | lst hl hall =>
    rename_i m ds
    cases hv with
    | lst ha da =>
    rename_i a xs
    cases hu with
    | lst hb db =>
    rename_i b ys
    have lx := dpall_len da
    have ly := dpall_len db
    have ta := sql_ty ha
    have tb := sql_ty hb
    refine ⟨_, rfl, rfl, _, rfl, ifF (dF nofun) ⟨_, rfl, _, _, _, _, false, rfl, .ty _, tb, kit_ty (by decide +kernel), _, rfl, ifF rfl ⟨_, rfl, _, _, _, _, false, rfl, .ty _, tb, kit_ty (by decide +kernel), _, rfl, ifF rfl ⟨_, rfl, _, _, _, _, false, rfl, .ty _, tb, kit_ty (by decide +kernel), _, rfl, ifF rfl ⟨_, rfl, _, _, _, _, false, rfl, .ty _, tb, kit_ty (by decide +kernel), _, rfl, ifF rfl ?_⟩⟩⟩⟩⟩
    refine ⟨_, rfl, _, _, _, _, true, rfl, .ty _, tb, kit_ty (by decide +kernel), _, rfl, ifT rfl ⟨_, rfl, _, _, _, _, true, rfl, .ty _, ta, kit_ty (by decide +kernel), _, rfl, ifF rfl ⟨_, rfl, _, _, _, _, false, rfl, .ty _, tb, kit_ty (by decide +kernel), _, rfl, ifF rfl (ifF rfl ?_)⟩⟩⟩
    refine ⟨_, rfl, a, _, rfl, .inl ha, _, rfl, b, _, rfl, .inl hb, rfl, _, rfl, ifF ?_ ?_⟩
    · rw [lx, ly]
      simp
    have p62 : (2 : Int) ^ 62 = 4611686018427387904 := by decide
    refine ⟨_, rfl, b, _, rfl, .inl hb, _, rfl, by omega, by omega, for_range (n := ((ys.length : Nat) : Int).toNat) (fun i σ H' => ∃ kk, σ = [some (.ref a), some (.ref b), none, none, kk] ∧ H' = H) ⟨none, rfl, rfl⟩ ?_ ?_⟩
    · rintro i σ H' hi ⟨kk, rfl, rfl⟩
      have hi' : i < ds.length := by omega
      obtain ⟨v, hv, dv⟩ := dpall_at da (List.getElem?_eq_getElem hi')
      obtain ⟨u, hu, du⟩ := dpall_at db (List.getElem?_eq_getElem hi')
      refine ⟨_, rfl, _, rfl, .inl ⟨a, _, _, v, rfl, rfl, ha, at_of (j := i) (by omega) hv, _, rfl, _, rfl, .inl ⟨b, _, _, u, rfl, rfl, hb, at_of (j := i) (by omega) hu, m, rfl, v, u, _, rfl, dv, du, hall _ (List.getElem_mem hi'), ?_⟩⟩⟩
      exact ⟨_, rfl, ifF rfl ⟨_, rfl, rfl⟩⟩
    · rintro σ H' ⟨kk, rfl, rfl⟩
      exact z
abbrev s__law_size : Stmt := top 73
abbrev N__law_size : List Str := ["_law_store_here", "_law_least", "_law_top", "_law_sort"]
theorem sc__law_size : FnScope N__law_size ["_law_store_here", "_law_least", "_law_top"] (defScope s__law_size) := ⟨rfl, rfl, rfl, by decide +kernel, rfl, by decide +kernel, by decide +kernel⟩
abbrev ps__law_size : List Str := ["_law_store_here", "_law_least", "_law_top"]
def spSize (K : PySem.W.Frag) (l : Addr) : Sp := fun vs H Q _ => ∃ (s : Addr) (lo hi : Int), vs = [.ref s, .int lo, .int hi] ∧ Sto l s H ∧ lo ≤ hi ∧ hi - lo < 2 ^ 32 ∧ ∀ (r : Int) H', lo ≤ r → r ≤ hi → Sto l s H' → Fr s H H' → Q (.int r) H'
theorem ok_size (F : Fn K mg "_law_size" s__law_size ps__law_size f fd) (d_law_take : Def P w K mg base k "_law_take" ["_law_store_here", "_law_many"] (spTake K l) f1 fd1) : Def P w K mg base (k + 1) "_law_size" ps__law_size (spSize K l) f fd := by
  refine ⟨F.F.ok sc__law_size (fun vs H Q E h => ?_) (fun cdv A outer s H vs Q E hr h => ?_), F.m, F.F.kp, F.b⟩
  · obtain ⟨_, _, _, rfl, _⟩ := h
    rfl
  obtain ⟨s, lo, hi, rfl, hS, h1, h2, z⟩ := h
  refine ⟨_, (pss_cons (ps_set (i := 3) sc__law_size.nd rfl (Or.inl rfl) (pcall d_law_take hr (pa_cons (pv 0) (pa_cons pe_int pa_nil))))
      (pss_cons (ps_if (pt_cmpR op_eq (pv 3) pe_int (nomark _))
        (pss_one (ps_ret (pv 1)))
        pss_nil)
      (pss_cons (ps_if (pt_cmpR op_eq (pv 3) pe_int (nomark _))
        (pss_one (ps_ret (pv 2)))
        pss_nil)
      (pss_one (ps_ret (pe_op op_add (pv 1) (pcall d_law_take hr (pa_cons (pv 0) (pa_cons (pe_op op_add (pe_op op_sub (pv 2) (pv 1)) pe_int) pa_nil))))))))), ?_⟩
  have p32 : (2 : Int) ^ 32 = 4294967296 := by decide
  have p64 : (2 : Int) ^ 64 = 18446744073709551616 := by decide
  refine ⟨_, rfl, s, 6, rfl, hS, by decide, fun r H1 r0 r1 S1 e1 => ?_⟩
  refine ⟨_, rfl, rfl, _, rfl, ifD (fun _ => ⟨_, rfl, z _ _ (by omega) h1 S1 e1⟩) (fun _ => ?_)⟩
  refine ⟨_, rfl, rfl, _, rfl, ifD (fun _ => ⟨_, rfl, z _ _ h1 (by omega) S1 e1⟩) (fun _ => ?_)⟩
  refine ⟨_, rfl, _, rfl, _, rfl, _, rfl, _, _, rfl, rfl, _, _, rfl, rfl, s, _, rfl, S1, by omega, fun r' H2 r2 r3 S2 e2 => ⟨_, _, rfl, rfl, ?_⟩⟩
  exact z _ _ (by omega) (by omega) S2 (e1.trans e2)
theorem ok_same (T : Bn mg) (F : Fn K mg "_law_same" s__law_same ps__law_same f fd) (d_law_is_int : Def P w K mg base k "_law_is_int" ["_law_value"] (spIsInt K) f1 fd1) : ∀ n, Def P w K mg base (k + n + 1) "_law_same" ps__law_same (spSame K n) f fd
  | 0 => ok_same1 T 0 F (d_law_is_int.up (Nat.le_refl _)) ⟨⟨fun vs H Q E h => by obtain ⟨m, h, _⟩ := h; omega, fun A outer s H args us vs Q E _ _ _ _ h => by obtain ⟨m, h, _⟩ := h; omega⟩, F.m, F.F.kp, F.b⟩
  | n + 1 => by
    have ih := ok_same T F d_law_is_int n
    exact ok_same1 T (n + 1) F (d_law_is_int.up (by omega)) ⟨ih.ok.imp fun vs H Q E h => by
      obtain ⟨m, h, q⟩ := h
      have e : m = n := by omega
      subst e
      exact q, F.m, F.F.kp, F.b⟩
end Vk
namespace Vk
open PySem L2 Vm
variable {l : Addr} {P : Program} {w : World} {K : PySem.W.Frag} {mg : Str → Option Value} {base : Heap} {k : Nat} {f f1 f2 f3 f4 f5 f6 f7 f8 f9 : Addr} {fd fd1 fd2 fd3 fd4 fd5 fd6 fd7 fd8 fd9 : FuncData}
/-! ### drawn rationals -/
def Qd (K : PySem.W.Frag) (m : Nat) (ok : Rat → Prop) (H : Hp) (v : V) : Prop := ∃ q, Rq K H v q ∧ Sz m q ∧ ok q
theorem Qd.same {m : Nat} {ok : Rat → Prop} {H H' : Hp} {v : V} (e : Same H H') (h : Qd K m ok H v) : Qd K m ok H' v := by
  obtain ⟨q, h, r⟩ := h
  exact ⟨q, h.same e, r⟩
theorem Qd.fr {m : Nat} {ok : Rat → Prop} {s : Addr} {H H' : Hp} {v : V} (e : Fr s H H') (hs : Sto l s H) (h : Qd K m ok H v) : Qd K m ok H' v := by
  obtain ⟨q, h, r⟩ := h
  exact ⟨q, h.fr e hs.some, r⟩
theorem Qd.new {m : Nat} {ok : Rat → Prop} {H : Hp} {t : Addr} (n d : Int) (q : Rat) (en : q.num = n) (ed : (q.den : Int) = d) (z : Sz m q) (o : ok q) : Qd K m ok (upd H t (.tup [.int n, .int d])) (.ref t) :=
  ⟨q, ⟨t, rfl, SqT.of (by rw [upd_same, en, ed])⟩, z, o⟩
theorem rq_new {H : Hp} {t : Addr} (n d : Int) (q : Rat) (en : q.num = n) (ed : (q.den : Int) = d) : Rq K (upd H t (.tup [.int n, .int d])) (.ref t) q := ⟨t, rfl, SqT.of (by rw [upd_same, en, ed])⟩
instance (k : Nat) (q : Rat) : Decidable (Sz k q) := inferInstanceAs (Decidable (_ ∧ _))
/-- a written pair: from then on a drawn rational -/
theorem newq {m : Nat} {ok : Rat → Prop} {H : Hp} {Q : V → Hp → Prop} (n d : Int) (q : Rat) (en : q.num = n) (ed : (q.den : Int) = d) (z : Sz m q) (o : ok q) (h : ∀ v H', Same H H' → Qd K m ok H' v → Q v H') : ∀ t, H t = none → Q (.ref t) (upd H t (.tup [.int n, .int d])) :=
  fun t ht => h _ _ (same_new ht _) (Qd.new n d q en ed z o)
def anyQ : Rat → Prop := fun _ => True
def posQ : Rat → Prop := fun q => 0 < q
instance (q : Rat) : Decidable (posQ q) := inferInstanceAs (Decidable (0 < q))
/-- a rational is drawn -/
def spDraw (K : PySem.W.Frag) (l : Addr) (m : Nat) (ok : Rat → Prop) : Sp := fun vs H Q _ => ∃ (s : Addr), vs = [.ref s] ∧ Sto l s H ∧ ∀ (v : V) H', Qd K m ok H' v → Sto l s H' → Fr s H H' → Q v H'
theorem mk_pos {n d : Int} (hn : 0 < n) (hd : 0 < d) : 0 < mkRat n d.toNat := by
  refine pos_of_num ?_
  have dn : d.toNat ≠ 0 := by omega
  rw [mk_num n dn]
  have g := Nat.gcd_le_left d.toNat (show 0 < n.natAbs by omega)
  have gp : 0 < Nat.gcd n.natAbs d.toNat := Nat.gcd_pos_of_pos_left _ (by omega)
  exact Int.ediv_pos_of_pos_of_dvd hn (by omega) (by
    have := Nat.gcd_dvd_left n.natAbs d.toNat
    have e : n = (n.natAbs : Int) := by omega
    rw [e]
    exact Int.natCast_dvd_natCast.mpr (by rw [Int.natAbs_natCast]; exact this))
theorem lt2 {i : Int} {b : Nat} (c : Nat) (h : i.natAbs < c) (e : c ≤ 2 ^ b) : i.natAbs < 2 ^ b := Nat.lt_of_lt_of_le h e
abbrev s__law_part : Stmt := top 83
abbrev N__law_part : List Str := ["_law_store_here", "_law_sort"]
theorem sc__law_part : FnScope N__law_part ["_law_store_here"] (defScope s__law_part) := ⟨rfl, rfl, rfl, by decide +kernel, rfl, by decide +kernel, by decide +kernel⟩
abbrev ps__law_part : List Str := ["_law_store_here"]
theorem ok_part (F : Fn K mg "_law_part" s__law_part ps__law_part f fd) (d_law_take : Def P w K mg base k "_law_take" ["_law_store_here", "_law_many"] (spTake K l) f1 fd1) (d_law_pick : Def P w K mg base k "_law_pick" ["_law_store_here", "_law_things"] (spPick K l) f2 fd2)
    (d_law_frac : Def P w K mg base k "_law_frac" ["_law_n", "_law_d"] (spFrac K) f3 fd3) : Def P w K mg base (k + 1) "_law_part" ps__law_part (spDraw K l 5 anyQ) f fd := by
  refine ⟨F.F.ok sc__law_part (fun vs H Q E h => ?_) (fun cdv A outer s H vs Q E hr h => ?_), F.m, F.F.kp, F.b⟩
  · obtain ⟨_, rfl, _⟩ := h
    rfl
  obtain ⟨s, rfl, hS, z⟩ := h
  refine ⟨_, (pss_cons (ps_set (i := 1) sc__law_part.nd rfl (Or.inl rfl) (pcall d_law_take hr (pa_cons (pv 0) (pa_cons pe_int pa_nil))))
      (pss_cons (ps_if (pt_cmpR op_lt (pv 1) pe_int (nomark _))
        (pss_one (ps_ret (pcall d_law_pick hr (pa_cons (pv 0) (pa_cons (pe_lst (pa_cons (pe_tup (pa_cons pe_int (pa_cons pe_int pa_nil))) (pa_cons (pe_tup (pa_cons pe_int (pa_cons pe_int pa_nil))) (pa_cons (pe_tup (pa_cons pe_int (pa_cons pe_int pa_nil))) (pa_cons (pe_tup (pa_cons (pe_un un_neg pe_int) (pa_cons pe_int pa_nil))) (pa_cons (pe_tup (pa_cons pe_int (pa_cons pe_int pa_nil))) (pa_cons (pe_tup (pa_cons (pe_un un_neg pe_int) (pa_cons pe_int pa_nil))) pa_nil))))))) pa_nil)))))
        pss_nil)
      (pss_one (ps_ret (pcall d_law_frac hr (pa_cons (pe_op op_sub (pcall d_law_take hr (pa_cons (pv 0) (pa_cons pe_int pa_nil))) pe_int) (pa_cons (pe_op op_add pe_int (pcall d_law_take hr (pa_cons (pv 0) (pa_cons pe_int pa_nil)))) pa_nil))))))), ?_⟩
  refine ⟨_, rfl, s, 6, rfl, hS, by decide, fun r H1 r0 r1 S1 e1 => ?_⟩
  refine ⟨_, rfl, _, _, rfl, rfl, _, rfl, ifD (fun _ => ?_) (fun _ => ?_)⟩
  · refine ⟨_, rfl, sz2, fun t1 h1 => ?_⟩
    have c1 := same_new h1 (.tup [.int 0, .int 1]); have q1 := Qd.new (K := K) (m := 5) (ok := anyQ) (H := H1) (t := t1) 0 1 (0) (by decide) (by decide) (by decide) trivial; generalize upd H1 t1 (.tup [.int 0, .int 1]) = G1 at c1 q1 ⊢
    refine ⟨sz2, fun t2 h2 => ?_⟩
    have c2 := same_new h2 (.tup [.int 0, .int 1]); have q2 := Qd.new (K := K) (m := 5) (ok := anyQ) (H := G1) (t := t2) 0 1 (0) (by decide) (by decide) (by decide) trivial; generalize upd G1 t2 (.tup [.int 0, .int 1]) = G2 at c2 q2 ⊢
    refine ⟨sz2, fun t3 h3 => ?_⟩
    have c3 := same_new h3 (.tup [.int 1, .int 1]); have q3 := Qd.new (K := K) (m := 5) (ok := anyQ) (H := G2) (t := t3) 1 1 (1) (by decide) (by decide) (by decide) trivial; generalize upd G2 t3 (.tup [.int 1, .int 1]) = G3 at c3 q3 ⊢
    refine ⟨_, rfl, sz2, fun t4 h4 => ?_⟩
    have c4 := same_new h4 (.tup [.int (-1), .int 1]); have q4 := Qd.new (K := K) (m := 5) (ok := anyQ) (H := G3) (t := t4) (-1) 1 (-1) (by decide) (by decide) (by decide) trivial; generalize upd G3 t4 (.tup [.int (-1), .int 1]) = G4 at c4 q4 ⊢
    refine ⟨sz2, fun t5 h5 => ?_⟩
    have c5 := same_new h5 (.tup [.int 1, .int 2]); have q5 := Qd.new (K := K) (m := 5) (ok := anyQ) (H := G4) (t := t5) 1 2 (mkRat 1 2) (by decide) (by decide) (by decide) trivial; generalize upd G4 t5 (.tup [.int 1, .int 2]) = G5 at c5 q5 ⊢
    refine ⟨_, rfl, sz2, fun t6 h6 => ?_⟩
    have c6 := same_new h6 (.tup [.int (-1), .int 2]); have q6 := Qd.new (K := K) (m := 5) (ok := anyQ) (H := G5) (t := t6) (-1) 2 (mkRat (-1) 2) (by decide) (by decide) (by decide) trivial; generalize upd G5 t6 (.tup [.int (-1), .int 2]) = G6 at c6 q6 ⊢
    refine ⟨sm6, fun p h7 => ?_⟩
    have c7 := same_new h7 (.lst [.ref t1, .ref t2, .ref t3, .ref t4, .ref t5, .ref t6])
    have d6 := c6.trans c7; have d5 := c5.trans d6; have d4 := c4.trans d5; have d3 := c3.trans d4; have d2 := c2.trans d3; have d1 := c1.trans d2
    have S7 := S1.same d1
    have q1 := q1.same d2; have q2 := q2.same d3; have q3 := q3.same d4; have q4 := q4.same d5; have q5 := q5.same d6; have q6 := q6.same c7
    refine ⟨s, p, _, rfl, S7, (S1.same (c1.trans (c2.trans (c3.trans (c4.trans (c5.trans c6)))))).ne h7, SqL.of upd_same, (by show 0 < 6; decide), (by show 6 < 2 ^ 32; decide), fun v H' hv S' e' => z _ _ ?_ S' (e1.trans ((Fr.of d1).trans e'))⟩
    refine Qd.fr e' S7 ?_
    simp only [List.mem_cons, List.mem_nil_iff, or_false] at hv
    rcases hv with rfl | rfl | rfl | rfl | rfl | rfl <;> assumption
  · refine ⟨_, rfl, s, 49, rfl, S1, by decide, fun r2 H2 r3 r4 S2 e2 => ⟨_, _, rfl, rfl, ?_⟩⟩
    refine ⟨_, rfl, s, 6, rfl, S2, by decide, fun r5 H3 r6 r7 S3 e3 => ⟨_, _, rfl, rfl, ?_⟩⟩
    refine ⟨_, _, 5, rfl, by omega, lt2 25 (by omega) (by decide), lt2 7 (by omega) (by decide), by decide, fun v H' e hv => z _ _ ⟨_, hv, sz_mk (by omega) ?_ ?_, trivial⟩ (S3.same e) (e1.trans (e2.trans (e3.trans (Fr.of e))))⟩
    · exact lt2 25 (by omega) (by decide)
    · have : (2 : Nat) ^ 5 = 32 := by decide
      omega
abbrev s__law_above : Stmt := top 85
abbrev N__law_above : List Str := ["_law_store_here"]
theorem sc__law_above : FnScope N__law_above ["_law_store_here"] (defScope s__law_above) := ⟨rfl, rfl, rfl, by decide +kernel, rfl, by decide +kernel, by decide +kernel⟩
abbrev ps__law_above : List Str := ["_law_store_here"]
theorem ok_above (F : Fn K mg "_law_above" s__law_above ps__law_above f fd) (d_law_take : Def P w K mg base k "_law_take" ["_law_store_here", "_law_many"] (spTake K l) f1 fd1) (d_law_frac : Def P w K mg base k "_law_frac" ["_law_n", "_law_d"] (spFrac K) f3 fd3) : Def P w K mg base (k + 1) "_law_above" ps__law_above (spDraw K l 5 posQ) f fd := by
  refine ⟨F.F.ok sc__law_above (fun vs H Q E h => ?_) (fun cdv A outer s H vs Q E hr h => ?_), F.m, F.F.kp, F.b⟩
  · obtain ⟨_, rfl, _⟩ := h
    rfl
  obtain ⟨s, rfl, hS, z⟩ := h
  refine ⟨_, (pss_cons (ps_if (pt_cmpR op_eq (pcall d_law_take hr (pa_cons (pv 0) (pa_cons pe_int pa_nil))) pe_int (nomark _))
        (pss_one (ps_ret (pe_tup (pa_cons pe_int (pa_cons pe_int pa_nil)))))
        pss_nil)
      (pss_one (ps_ret (pcall d_law_frac hr (pa_cons (pe_op op_add pe_int (pcall d_law_take hr (pa_cons (pv 0) (pa_cons pe_int pa_nil)))) (pa_cons (pe_op op_add pe_int (pcall d_law_take hr (pa_cons (pv 0) (pa_cons pe_int pa_nil)))) pa_nil)))))), ?_⟩
  refine ⟨_, rfl, s, 4, rfl, hS, by decide, fun r H1 r0 r1 S1 e1 => ?_⟩
  refine ⟨rfl, _, rfl, ifD (fun _ => ?_) (fun _ => ?_)⟩
  · exact ⟨sz2, fun t ht => z _ _ (Qd.new 1 1 1 rfl rfl (by decide) (by decide)) (S1.same (same_new ht _)) (e1.trans (Fr.of (same_new ht _)))⟩
  refine ⟨_, rfl, s, 24, rfl, S1, by decide, fun r2 H2 r3 r4 S2 e2 => ⟨_, _, rfl, rfl, ?_⟩⟩
  refine ⟨_, rfl, s, 6, rfl, S2, by decide, fun r5 H3 r6 r7 S3 e3 => ⟨_, _, rfl, rfl, ?_⟩⟩
  refine ⟨_, _, 5, rfl, by omega, lt2 25 (by omega) (by decide), lt2 7 (by omega) (by decide), by decide, fun v H' e hv => z _ _ ⟨_, hv, sz_mk (by omega) ?_ ?_, mk_pos (by omega) (by omega)⟩ (S3.same e) (e1.trans (e2.trans (e3.trans (Fr.of e))))⟩
  · exact lt2 25 (by omega) (by decide)
  · have : (2 : Nat) ^ 5 = 32 := by decide
    omega
/-- one rational in, one near it out -/
def spNear (K : PySem.W.Frag) (l : Addr) : Sp := fun vs H Q _ => ∃ (s : Addr) (x : V) (m : Nat), vs = [.ref s, x] ∧ Sto l s H ∧ m + 11 ≤ 9000 ∧ Qd K m anyQ H x ∧ ∀ (v : V) H', Qd K (m + 11) anyQ H' v → Sto l s H' → Fr s H H' → Q v H'
end Vk
namespace Vk
open PySem L2 Vm
variable {P : Program} {w : World} {K : PySem.W.Frag} {mg : Str → Option Value} {base : Heap} {k : Nat} {f f1 f2 f3 f4 f5 f6 f7 f8 f9 : Addr} {fd fd1 fd2 fd3 fd4 fd5 fd6 fd7 fd8 fd9 : FuncData}
/-! ### courses -/
structure Pc where
  s : Rat
  v : Rat
  r : Rat
def Pq (K : PySem.W.Frag) (H : Hp) (x : V) (p : Pc) : Prop := ∃ a xs xv xr, x = .ref a ∧ SqT K H a [xs, xv, xr] ∧ Rq K H xs p.s ∧ Rq K H xv p.v ∧ Rq K H xr p.r
theorem Pq.same {H H' : Hp} {x : V} {p : Pc} (e : Same H H') (h : Pq K H x p) : Pq K H' x p := by
  obtain ⟨a, xs, xv, xr, rfl, h, h1, h2, h3⟩ := h
  exact ⟨a, xs, xv, xr, rfl, e.sqt h, h1.same e, h2.same e, h3.same e⟩
theorem Pq.fr {s : Addr} {H H' : Hp} {x : V} {p : Pc} (e : Fr s H H') (hs : ∃ ys, H s = some (.lst ys)) (h : Pq K H x p) : Pq K H' x p := by
  obtain ⟨a, xs, xv, xr, rfl, h, h1, h2, h3⟩ := h
  exact ⟨a, xs, xv, xr, rfl, sqt_fr e hs h, h1.fr e hs, h2.fr e hs, h3.fr e hs⟩
def All2 {α : Type} (R : V → α → Prop) (xs : List V) (c : List α) : Prop := xs.length = c.length ∧ ∀ (i : Nat) x p, xs[i]? = some x → c[i]? = some p → R x p
theorem All2.nil {α : Type} {R : V → α → Prop} : All2 R [] [] := ⟨rfl, fun i x p h => by simp at h⟩
theorem All2.imp {α : Type} {R R' : V → α → Prop} {xs : List V} {c : List α} (h : All2 R xs c) (g : ∀ x p, R x p → R' x p) : All2 R' xs c := ⟨h.1, fun i x p a b => g _ _ (h.2 i x p a b)⟩
theorem All2.snoc {α : Type} {R : V → α → Prop} {xs : List V} {c : List α} {x : V} {p : α} (h : All2 R xs c) (r : R x p) : All2 R (xs ++ [x]) (c ++ [p]) := by
  refine ⟨by simp [h.1], fun i y q a b => ?_⟩
  by_cases hi : i < xs.length
  · rw [List.getElem?_append_left hi] at a
    rw [List.getElem?_append_left (by rw [← h.1]; exact hi)] at b
    exact h.2 i y q a b
  · rw [List.getElem?_append_right (by omega)] at a
    rw [List.getElem?_append_right (by rw [← h.1]; omega)] at b
    have e : i - xs.length = 0 := by
      have := (List.getElem?_eq_some_iff.mp a).1
      simp at this
      omega
    rw [e] at a
    rw [← h.1, e] at b
    cases a
    cases b
    exact r
theorem All2.at {α : Type} {R : V → α → Prop} {xs : List V} {c : List α} (h : All2 R xs c) {i : Nat} {p : α} (e : c[i]? = some p) : ∃ x, xs[i]? = some x ∧ R x p := by
  have hi := (List.getElem?_eq_some_iff.mp e).1
  rw [← h.1] at hi
  exact ⟨xs[i], List.getElem?_eq_getElem hi, h.2 i _ _ (List.getElem?_eq_getElem hi) e⟩
/-- a list at a holds the course c -/
def Cq (K : PySem.W.Frag) (H : Hp) (a : Addr) (c : List Pc) : Prop := ∃ xs, SqL K H a xs ∧ All2 (Pq K H) xs c
theorem Cq.same {H H' : Hp} {a : Addr} {c : List Pc} (e : Same H H') (h : Cq K H a c) : Cq K H' a c := by
  obtain ⟨xs, h, g⟩ := h
  exact ⟨xs, e.seq h, g.imp fun _ _ h => h.same e⟩
theorem Cq.fr {s : Addr} {H H' : Hp} {a : Addr} {c : List Pc} (e : Fr s H H') (hs : ∃ ys, H s = some (.lst ys)) (n : a ≠ s) (h : Cq K H a c) : Cq K H' a c := by
  obtain ⟨xs, h, g⟩ := h
  exact ⟨xs, seq_fr e n h, g.imp fun _ _ h => h.fr e hs⟩
/-- sizes: starts, values, rates -/
def Cz (i j l : Nat) (c : List Pc) : Prop := ∀ p ∈ c, Sz i p.s ∧ Sz j p.v ∧ Sz l p.r
/-- a course's form -/
def Cok (c : List Pc) : Prop := (∀ p ∈ c, 0 < p.r) ∧ ∀ (i : Nat) p q, c[i]? = some p → c[i + 1]? = some q → p.s < q.s
def tm (p : Pc) (y : Rat) : Rat := p.s + (y - p.v) / p.r
def before (c : List Pc) (k : Nat) (t : Rat) : Bool := match c[k]? with
  | none => true
  | some q => decide (t < q.s)
def hit (c : List Pc) (y : Rat) (k : Nat) : Option Rat := match c[k]? with
  | none => none
  | some p => if p.s ≤ tm p y ∧ before c (k + 1) (tm p y) = true then some (tm p y) else none
def hits (c : List Pc) (y : Rat) (n : Nat) : List Rat := (List.range n).filterMap (hit c y)
theorem hits_succ (c : List Pc) (y : Rat) (n : Nat) : hits c y (n + 1) = hits c y n ++ (hit c y n).toList := by
  unfold hits
  rw [List.range_succ, List.filterMap_append]
  cases h : hit c y n <;> simp [h]
abbrev s__law_is_frac : Stmt := top 82
abbrev N__law_is_frac : List Str := ["_law_value"]
theorem sc__law_is_frac : FnScope N__law_is_frac ["_law_value"] (defScope s__law_is_frac) := ⟨rfl, rfl, rfl, by decide +kernel, rfl, by decide +kernel, by decide +kernel⟩
abbrev ps__law_is_frac : List Str := ["_law_value"]
def spIsFrac (K : PySem.W.Frag) : Sp := fun vs H Q _ => ∃ (x : V) (q : Rat) (m : Nat), vs = [x] ∧ Rq K H x q ∧ Sz m q ∧ m ≤ 9000 ∧ ∀ H', Same H H' → Q (.bl true) H'
theorem ok_is_frac (T : Bn mg) (F : Fn K mg "_law_is_frac" s__law_is_frac ps__law_is_frac f fd) (d_law_is_int : Def P w K mg base k "_law_is_int" ["_law_value"] (spIsInt K) f1 fd1) (d_law_frac : Def P w K mg base k "_law_frac" ["_law_n", "_law_d"] (spFrac K) f2 fd2) :
    Def P w K mg base (k + 1) "_law_is_frac" ps__law_is_frac (spIsFrac K) f fd := by
  refine ⟨F.F.ok sc__law_is_frac (fun vs H Q E h => ?_) (fun cdv A outer s H vs Q E hr h => ?_), F.m, F.F.kp, F.b⟩
  · obtain ⟨x, q, m, rfl, _⟩ := h
    rfl
  obtain ⟨x, q, m, rfl, hx, zq, hm, z⟩ := h
  obtain ⟨a, rfl, ha⟩ := id hx
  refine ⟨_, (pss_cons (ps_if (PW.pt (pw_or (pt_not (pt_val (pe_callB call_isi (by rfl) T.isinstance_ (by decide +kernel) (pa_cons (pv 0) (pa_cons (pe_bltn (v := .ty "tuple") (by rfl) T.tuple_ (by decide +kernel) rfl) pa_nil))))) (pw_or1 (pt_cmpR op_ne (pe_callB call_len_seq (by rfl) T.len_ PySem.boot_len (pa_cons (pv 0) pa_nil)) pe_int (nomark _)))))
        (pss_one (ps_ret pe_bl))
        pss_nil)
      (pss_cons (ps_if (PW.pt (pw_or (pt_not (pt_val (pcall d_law_is_int hr (pa_cons (pe_ix ix_tup (pv 0) pe_int (fun _ _ => rfl)) pa_nil)))) (pw_or (pt_not (pt_val (pcall d_law_is_int hr (pa_cons (pe_ix ix_tup (pv 0) pe_int (fun _ _ => rfl)) pa_nil)))) (pw_or1 (pt_cmpR op_lt (pe_ix ix_tup (pv 0) pe_int (fun _ _ => rfl)) pe_int (nomark _))))))
        (pss_one (ps_ret pe_bl))
        pss_nil)
      (pss_one (ps_ret (pe_cmpR (op_eqD hr.units) (pcall d_law_frac hr (pa_cons (pe_ix ix_tup (pv 0) pe_int (fun _ _ => rfl)) (pa_cons (pe_ix ix_tup (pv 0) pe_int (fun _ _ => rfl)) pa_nil))) (pv 0) (nomark _)))))), ?_⟩
  have ta := sqt_ty ha
  have dp := q.den_pos
  refine ⟨_, rfl, _, _, _, _, true, rfl, .ty _, ta, kit_ty (by decide +kernel), _, rfl, ifF rfl ⟨_, rfl, a, _, rfl, .inr ha, rfl, _, rfl, ifF rfl ?_⟩⟩
  refine ⟨_, rfl, a, _, _, _, rfl, rfl, ha, at0 rfl, _, rfl, _, rfl, ifF rfl ⟨_, rfl, a, _, _, _, rfl, rfl, ha, at1 rfl, _, rfl, _, rfl, ifF rfl ⟨_, rfl, a, _, _, _, rfl, rfl, ha, at1 rfl, _, _, rfl, rfl, _, rfl, ifF (dF (by omega)) ?_⟩⟩⟩
  refine ⟨_, rfl, a, _, _, _, rfl, rfl, ha, at0 rfl, _, rfl, a, _, _, _, rfl, rfl, ha, at1 rfl, _, _, m, rfl, by omega, zq.1, dA zq, hm, fun r H' e hr => ?_⟩
  have er : mkRat q.num ((q.den : Int)).toNat = q := Rat.mkRat_self q
  rw [er] at hr
  refine ⟨_, rfl, _, _, hr.dp, (hx.same e).dp, sh_dq _, sh_dq _, ?_⟩
  rw [eqv_dq, dT rfl]
  exact z _ e
def spTimeOf (K : PySem.W.Frag) : Sp := fun vs H Q _ => ∃ (x y : V) (p : Pc) (q : Rat) (i j l m : Nat), vs = [x, y] ∧ Pq K H x p ∧ Rq K H y q ∧ Sz i p.s ∧ Sz j p.v ∧ Sz l p.r ∧ Sz m q ∧ 0 < p.r ∧ m + j + l + i + 3 ≤ 9000 ∧
  ∀ r H', Same H H' → Rq K H' r (tm p q) → Q r H'
def endV (K : PySem.W.Frag) (H : Hp) (c : List Pc) (n : Nat) (v : V) : Prop := match c[n]? with
  | none => v = .non
  | some p => Rq K H v p.s
def spEndOf (K : PySem.W.Frag) : Sp := fun vs H Q _ => ∃ (a : Addr) (n : Nat) (c : List Pc), vs = [.ref a, .int n] ∧ Cq K H a c ∧ ∀ v, endV K H c (n + 1) v → Q v H
end Vk
namespace Vk
open PySem L2 Vm
variable {P : Program} {w : World} {K : PySem.W.Frag} {mg : Str → Option Value} {base : Heap} {k : Nat} {f f1 f2 f3 f4 f5 f6 f7 f8 f9 : Addr} {fd fd1 fd2 fd3 fd4 fd5 fd6 fd7 fd8 fd9 : FuncData}
theorem for_enum {K : PySem.W.Frag} {a : Addr} {xs : List V} {g : TG} {tb : TS} {D : Ends} {σ : L2.St} {H : Hp} (Pv : Nat → L2.St → Hp → Prop) (h0 : Pv 0 σ H) (hq : ∀ i σ H, Pv i σ H → SqL K H a xs)
    (hs : ∀ (i : Nat) (x : V) (T : Addr) (σ : L2.St) (H : Hp), xs[i]? = some x → Pv i σ H → H T = none → g (.ref T) σ (upd H T (.tup [.int (i : Nat), x])) fun σ2 H2 => tb { D with nx := Pv (i + 1), ct := Pv (i + 1), bk := D.nx } σ2 H2) (hd : ∀ σ H, Pv xs.length σ H → D.nx σ H) :
    ∃ W : Nat → Nat → L2.St → Hp → Prop, (∃ m, W 0 m σ H) ∧ ∀ i m σ H, W i m σ H →
      ((Ite K a).stop i H ∧ D.nx σ H) ∨ ((Ite K a).go i H ∧ ∃ N : L2.St → Hp → Prop, (∀ σ' H', N σ' H' → ∃ m', m' < m ∧ W (i + 1) m' σ' H') ∧ ∀ v H', (Ite K a).yld i H v H' → g v σ H' fun σ2 H2 => tb { D with nx := N, ct := N, bk := D.nx } σ2 H2) := by
  refine ⟨fun i m σ H => m = xs.length - i ∧ i ≤ xs.length ∧ Pv i σ H, ⟨xs.length, rfl, Nat.zero_le _, h0⟩, ?_⟩
  rintro i m σ H ⟨rfl, hi, p⟩
  have qx := hq i σ H p
  by_cases hlt : i < xs.length
  · have hx : xs[i]? = some xs[i] := List.getElem?_eq_getElem hlt
    refine .inr ⟨⟨xs, _, qx, hx⟩, Pv (i + 1), fun σ' H' p' => ⟨xs.length - (i + 1), by omega, rfl, hlt, p'⟩, fun v H' y => ?_⟩
    obtain ⟨T, x', rfl, hT, rfl, f1⟩ := y
    exact hs i x' T σ H (f1 xs qx) p hT
  · have e : i = xs.length := by omega
    subst e
    exact .inl ⟨⟨xs, qx, Nat.le_refl _⟩, hd σ H p⟩
theorem sg_ge {p q : Rat} : 0 ≤ sg p q ↔ q ≤ p := by
  unfold sg
  split
  · rename_i h
    subst h
    simp [Rat.le_refl]
  · split
    · rename_i h1 h2
      constructor
      · intro h; omega
      · intro h; exact absurd (Rat.not_lt.mpr h) (fun g => g h2)
    · rename_i h1 h2
      constructor
      · intro _; exact Rat.not_lt.mp h2
      · intro _; omega
theorem sg_lt {p q : Rat} : sg p q < 0 ↔ p < q := by
  unfold sg
  split
  · rename_i h
    subst h
    constructor
    · intro h; omega
    · intro h; exact absurd h Rat.lt_irrefl
  · split
    · rename_i h1 h2
      exact ⟨fun _ => h2, fun _ => by omega⟩
    · rename_i h1 h2
      exact ⟨fun h => by omega, fun h => absurd h h2⟩
theorem same_upd {H H' : Hp} {D : Addr} (e : Same H H') (h : H D = none) (o : HO) : Same H (upd H' D o) := fun b u q => by rw [upd_ne (ne_of_none q h)]; exact e b u q
theorem hits_len (c : List Pc) (y : Rat) (n : Nat) : (hits c y n).length ≤ n := by
  have := List.length_filterMap_le (hit c y) (List.range n)
  rw [List.length_range] at this
  exact this
theorem le1000 {n : Nat} (h : n ≤ 1000) : n < sizeLine := Nat.lt_of_le_of_lt h (by decide)
def spTimes (K : PySem.W.Frag) : Sp := fun vs H Q _ => ∃ (a : Addr) (y : V) (c : List Pc) (q : Rat) (i j l m : Nat), vs = [.ref a, y] ∧ Cq K H a c ∧ Rq K H y q ∧ Cz i j l c ∧ Sz m q ∧ (∀ p ∈ c, 0 < p.r) ∧ c.length ≤ 1000 ∧ m + j + l + i + i + 4 ≤ 9000 ∧
  ∀ D us H', Same H H' → H D = none → H' D = some (.lst us) → All2 (Rq K H') us (hits c q c.length) → Q (.ref D) H'
end Vk
namespace Vk
open PySem L2 Vm
variable {P : Program} {w : World} {K : PySem.W.Frag} {mg : Str → Option Value} {base : Heap} {k : Nat} {f f1 f2 f3 f4 f5 f6 f7 f8 f9 : Addr} {fd fd1 fd2 fd3 fd4 fd5 fd6 fd7 fd8 fd9 : FuncData}
def optV (K : PySem.W.Frag) (H : Hp) (v : V) : Option Rat → Prop
  | none => v = .non
  | some q => Rq K H v q
def lim (c : List Pc) (n : Nat) : Option Rat := match c[n]? with
  | none => none
  | some p => match c[n + 1]? with
    | none => none
    | some q => some (p.v + p.r * (q.s - p.s))
def spLimit (K : PySem.W.Frag) : Sp := fun vs H Q _ => ∃ (a : Addr) (n : Nat) (c : List Pc) (i j l : Nat), vs = [.ref a, .int n] ∧ Cq K H a c ∧ n < c.length ∧ Cz i j l c ∧ i + i + l + j + 3 ≤ 9000 ∧ ∀ v H', Same H H' → optV K H' v (lim c n) → Q v H'
def on (t : Rat) (p : Pc) : Bool := !decide (t < p.s)
def nowf (c : List Pc) (t : Rat) : Option Rat := ((c.filter (on t)).getLast?).map fun p => p.v + p.r * (t - p.s)
theorem filter_more {α : Type} {c : List α} {i : Nat} {p : α} (g : α → Bool) (h : c[i]? = some p) : (c.take (i + 1)).filter g = (c.take i).filter g ++ (if g p = true then [p] else []) := by
  rw [List.take_add_one, h, List.filter_append]
  congr 1
  simp only [Option.toList]
  cases e : g p <;> simp [e]
def spNow (K : PySem.W.Frag) : Sp := fun vs H Q _ => ∃ (a : Addr) (y : V) (c : List Pc) (t : Rat) (i j l m : Nat), vs = [.ref a, y] ∧ Cq K H a c ∧ Rq K H y t ∧ Cz i j l c ∧ Sz m t ∧ c.length ≤ 1000 ∧ m + i + l + j + 3 ≤ 9000 ∧ ∀ v H', Same H H' → optV K H' v (nowf c t) → Q v H'
end Vk
namespace Vk
open PySem L2 Vm
variable {l : Addr} {P : Program} {w : World} {K : PySem.W.Frag} {mg : Str → Option Value} {base : Heap} {k : Nat} {f f1 f2 f3 f4 f5 f6 f7 f8 f9 : Addr} {fd fd1 fd2 fd3 fd4 fd5 fd6 fd7 fd8 fd9 : FuncData}
def spRatio (K : PySem.W.Frag) (l : Addr) : Sp := fun vs H Q _ => ∃ (s : Addr) (top : Int), vs = [.ref s, .int top] ∧ Sto l s H ∧ 1 ≤ top ∧ top < 2 ^ 40 ∧ ∀ (v : V) H', Qd K 40 anyQ H' v → Sto l s H' → Fr s H H' → Q v H'
theorem int_q {H : Hp} {t : Addr} (n : Int) (h : n.natAbs < 2 ^ 40) : Qd K 40 anyQ (upd H t (.tup [.int n, .int 1])) (.ref t) := Qd.new n 1 (n : Rat) rfl rfl ⟨h, by show 1 < 2 ^ 40; decide⟩ trivial
end Vk
namespace Vk
open PySem L2 Vm
variable {l : Addr} {P : Program} {w : World} {K : PySem.W.Frag} {mg : Str → Option Value} {base : Heap} {k : Nat} {f f1 f2 f3 f4 f5 f6 f7 f8 f9 : Addr} {fd fd1 fd2 fd3 fd4 fd5 fd6 fd7 fd8 fd9 : FuncData}
/-- while a list of things is being made at D -/
def Bun {α : Type} (R : Hp → V → α → Prop) (l s D : Addr) (H0 : Hp) (us : List V) (c : List α) (G : Hp) : Prop := Sto l s G ∧ Fr s H0 G ∧ D ≠ s ∧ D ≠ l ∧ H0 D = none ∧ G D = some (.lst us) ∧ All2 (R G) us c
section
variable {α : Type} {R : Hp → V → α → Prop} {s D : Addr} {H0 G G' : Hp} {us : List V} {c : List α}
/-- what R says outlives what becomes of a list -/
def Lasts (R : Hp → V → α → Prop) : Prop := ∀ {s : Addr} {H H' : Hp} {x : V} {p : α}, Fr s H H' → (∃ ys, H s = some (.lst ys)) → R H x p → R H' x p
theorem Bun.fr (h : Bun R l s D H0 us c G) (L : Lasts R) (e : Fr s G G') (S : Sto l s G') : Bun R l s D H0 us c G' := by
  obtain ⟨h1, h2, h3, h4, h5, h6, h7⟩ := h
  exact ⟨S, h2.trans e, h3, h4, h5, e _ _ h6 h3, h7.imp fun _ _ r => L e h1.some r⟩
theorem Bun.same (h : Bun R l s D H0 us c G) (L : Lasts R) (e : Same G G') : Bun R l s D H0 us c G' := h.fr L (Fr.of e) (h.1.same e)
theorem Bun.app {x : V} {p : α} (h : Bun R l s D H0 us c G) (L : Lasts R) (r : R G x p) : Bun R l s D H0 (us ++ [x]) (c ++ [p]) (upd G D (.lst (us ++ [x]))) := by
  obtain ⟨h1, h2, h3, h4, h5, h6, h7⟩ := h
  have fr : Fr D G (upd G D (.lst (us ++ [x]))) := Fr.upd _
  refine ⟨h1.upd h3 h4, fun b o hb hn => ?_, h3, h4, h5, upd_same, (h7.imp fun _ _ r => L fr ⟨_, h6⟩ r).snoc (L fr ⟨_, h6⟩ r)⟩
  rw [upd_ne (ne_of_none hb h5)]
  exact h2 b o hb hn
theorem Bun.start (S : Sto l s G) (e : Fr s H0 G) (hD : G D = none) : Bun R l s D H0 [] [] (upd G D (.lst [])) := by
  have nD := S.ne hD
  have f := same_new hD (.lst [])
  exact ⟨S.same f, e.trans (Fr.of f), nD, S.nl hD, e.free hD nD, upd_same, All2.nil⟩
end
theorem Bun.at {α : Type} {R : Hp → V → α → Prop} {s D : Addr} {H0 G : Hp} {us : List V} {c : List α} (h : Bun R l s D H0 us c G) : G D = some (.lst us) := h.2.2.2.2.2.1
theorem Bun.len {α : Type} {R : Hp → V → α → Prop} {s D : Addr} {H0 G : Hp} {us : List V} {c : List α} (h : Bun R l s D H0 us c G) : us.length = c.length := h.2.2.2.2.2.2.1
theorem Bun.all {α : Type} {R : Hp → V → α → Prop} {s D : Addr} {H0 G : Hp} {us : List V} {c : List α} (h : Bun R l s D H0 us c G) : All2 (R G) us c := h.2.2.2.2.2.2
theorem lastsP : Lasts (Pq K) := fun e hs h => h.fr e hs
theorem lastsQ : Lasts (Rq K) := fun e hs h => h.fr e hs
theorem Cok.snoc {c : List Pc} {x : Pc} (h : Cok c) (hx : ∀ p ∈ c, p.s < x.s) (r : 0 < x.r) : Cok (c ++ [x]) := by
  refine ⟨fun p hp => ?_, fun i p q e1 e2 => ?_⟩
  · rcases List.mem_append.mp hp with hp | hp
    · exact h.1 p hp
    · rw [List.mem_singleton.mp hp]
      exact r
  · by_cases hi : i + 1 < c.length
    · rw [List.getElem?_append_left (by omega)] at e1
      rw [List.getElem?_append_left hi] at e2
      exact h.2 i p q e1 e2
    · have hl := (List.getElem?_eq_some_iff.mp e2).1
      rw [List.length_append, List.length_singleton] at hl
      rw [List.getElem?_append_left (by omega)] at e1
      rw [List.getElem?_append_right (by omega)] at e2
      have e0 : i + 1 - c.length = 0 := by omega
      rw [e0] at e2
      cases e2
      exact hx p (List.mem_of_getElem? e1)
theorem Cz.snoc {i j m : Nat} {c : List Pc} {x : Pc} (h : Cz i j m c) (z : Sz i x.s ∧ Sz j x.v ∧ Sz m x.r) : Cz i j m (c ++ [x]) := fun p hp => by
  rcases List.mem_append.mp hp with hp | hp
  · exact h p hp
  · rw [List.mem_singleton.mp hp]
    exact z
theorem lt_add_pos {a b : Rat} (h : 0 < b) : a < a + b := by grind
def spCourse (K : PySem.W.Frag) (l : Addr) : Sp := fun vs H Q _ => ∃ (s : Addr) (many : Nat) (fall : Bool), vs = [.ref s, .int many, .bl fall] ∧ Sto l s H ∧ many ≤ 40 ∧
  ∀ D us c H', Bun (Pq K) l s D H us c H' → c.length = many → Cok c → Cz 245 925 5 c → Q (.ref D) H'
end Vk
namespace Vk
open PySem L2 Vm
variable {l : Addr} {P : Program} {w : World} {K : PySem.W.Frag} {mg : Str → Option Value} {base : Heap} {k : Nat} {f f1 f2 f3 f4 f5 f6 f7 f8 f9 : Addr} {fd fd1 fd2 fd3 fd4 fd5 fd6 fd7 fd8 fd9 : FuncData}
theorem All2.append {α : Type} {R : V → α → Prop} {xs ys : List V} {c d : List α} (h : All2 R xs c) (g : All2 R ys d) : All2 R (xs ++ ys) (c ++ d) := by
  refine ⟨by rw [List.length_append, List.length_append, h.1, g.1], fun i x p a b => ?_⟩
  have hl := h.1
  by_cases hi : i < xs.length
  · rw [List.getElem?_append_left hi] at a
    rw [List.getElem?_append_left (by omega)] at b
    exact h.2 i x p a b
  · rw [List.getElem?_append_right (by omega)] at a
    rw [List.getElem?_append_right (by omega), ← hl] at b
    exact g.2 _ x p a b
theorem All2.take {α : Type} {R : V → α → Prop} {xs : List V} {c : List α} (h : All2 R xs c) (m : Nat) : All2 R (xs.take m) (c.take m) := by
  refine ⟨by rw [List.length_take, List.length_take, h.1], fun i x p a b => ?_⟩
  rw [List.getElem?_take] at a b
  split at a
  · rename_i hi
    rw [if_pos hi] at b
    exact h.2 i x p a b
  · cases a
theorem All2.drop {α : Type} {R : V → α → Prop} {xs : List V} {c : List α} (h : All2 R xs c) (m : Nat) : All2 R (xs.drop m) (c.drop m) := by
  refine ⟨by rw [List.length_drop, List.length_drop, h.1], fun i x p a b => ?_⟩
  rw [List.getElem?_drop] at a b
  exact h.2 _ x p a b
theorem All2.one {α : Type} {R : V → α → Prop} {x : V} {p : α} (r : R x p) : All2 R [x] [p] := by
  have h : All2 R ([] ++ [x]) ([] ++ [p]) := All2.nil.snoc r
  exact h
def Asc (os : List Rat) : Prop := os.Pairwise (· < ·)
theorem asc_at {os : List Rat} (h : Asc os) {i j : Nat} {a b : Rat} (ha : os[i]? = some a) (hb : os[j]? = some b) (hij : i < j) : a < b := by
  obtain ⟨h1, rfl⟩ := List.getElem?_eq_some_iff.mp ha
  obtain ⟨h2, rfl⟩ := List.getElem?_eq_some_iff.mp hb
  exact List.pairwise_iff_getElem.mp h i j h1 h2 hij
/-- the place of one among os -/
def Spot (os : List Rat) (one : Rat) (j m : Nat) : Prop := m ≤ j ∧ ∀ (t : Nat) o, t < j → os[t]? = some o → (o < one ↔ t < m)
theorem rlt_trans {a b c : Rat} (h : a < b) (g : b < c) : a < c := by grind
theorem spot_next {os : List Rat} {one o : Rat} {j m : Nat} (ha : Asc os) (h : Spot os one j m) (ho : os[j]? = some o) : Spot os one (j + 1) (if o < one then j + 1 else m) := by
  split
  · rename_i g
    refine ⟨Nat.le_refl _, fun t x ht hx => ⟨fun _ => ht, fun _ => ?_⟩⟩
    by_cases e : t = j
    · subst e
      rw [ho] at hx
      cases hx
      exact g
    · exact rlt_trans (asc_at ha hx ho (by omega)) g
  · rename_i g
    refine ⟨by have := h.1; omega, fun t x ht hx => ?_⟩
    by_cases e : t = j
    · subst e
      rw [ho] at hx
      cases hx
      exact ⟨fun z => absurd z g, fun z => absurd z (by have := h.1; omega)⟩
    · exact h.2 t x (by omega) hx
theorem asc_insert {os : List Rat} {one : Rat} {m : Nat} (ha : Asc os) (h : Spot os one os.length m) (hn : os[m]? ≠ some one) : Asc (os.take m ++ [one] ++ os.drop m) := by
  have hlt : ∀ o ∈ os.take m, o < one := fun o ho => by
    obtain ⟨t, ht, rfl⟩ := List.mem_iff_getElem.mp ho
    rw [List.length_take] at ht
    have e : os[t]? = some (os.take m)[t] := by
      rw [List.getElem_take]
      exact List.getElem?_eq_getElem (by omega)
    exact (h.2 t _ (by omega) e).mpr (by omega)
  have hgt : ∀ o ∈ os.drop m, one < o := fun o ho => by
    obtain ⟨t, ht, rfl⟩ := List.mem_iff_getElem.mp ho
    rw [List.length_drop] at ht
    have e : os[m + t]? = some (os.drop m)[t] := by
      rw [List.getElem_drop]
      exact List.getElem?_eq_getElem (by omega)
    have h1 : ¬ (os.drop m)[t] < one := fun z => absurd ((h.2 (m + t) _ (by omega) e).mp z) (by omega)
    by_cases t0 : t = 0
    · have h2 : (os.drop m)[t] ≠ one := fun z => hn (by rw [← z, ← e, t0, Nat.add_zero])
      grind
    · have hm : m < os.length := by omega
      have h3 := asc_at ha (List.getElem?_eq_getElem hm) e (by omega)
      have h4 : ¬ os[m] < one := fun z => absurd ((h.2 m _ hm (List.getElem?_eq_getElem hm)).mp z) (by omega)
      grind
  unfold Asc
  rw [List.append_assoc, List.pairwise_append]
  refine ⟨ha.sublist (List.take_sublist _ _), ?_, fun a h1 b h2 => ?_⟩
  · rw [List.singleton_append, List.pairwise_cons]
    exact ⟨hgt, ha.sublist (List.drop_sublist _ _)⟩
  · rw [List.singleton_append] at h2
    rcases List.mem_cons.mp h2 with rfl | h2
    · exact hlt a h1
    · exact rlt_trans (hlt a h1) (hgt b h2)
def spOrdered (K : PySem.W.Frag) : Sp := fun vs H Q _ => ∃ (a : Addr) (xs : List V) (qs : List Rat), vs = [.ref a] ∧ SqL K H a xs ∧ All2 (Rq K H) xs qs ∧ (∀ q ∈ qs, Sz 40 q) ∧ qs.length ≤ 900 ∧
  ∀ D us os H', Same H H' → H D = none → H' D = some (.lst us) → All2 (Rq K H') us os → Asc os → (∀ o ∈ os, o ∈ qs) → os.length ≤ qs.length → (qs ≠ [] → os ≠ []) → Q (.ref D) H'
end Vk
namespace Vk
open PySem L2 Vm
variable {l : Addr} {P : Program} {w : World} {K : PySem.W.Frag} {mg : Str → Option Value} {base : Heap} {k : Nat} {f f1 f2 f3 f4 f5 f6 f7 f8 f9 : Addr} {fd fd1 fd2 fd3 fd4 fd5 fd6 fd7 fd8 fd9 : FuncData}
theorem tyes {σ : L2.St} {H : Hp} {A B : Hp → Prop} (h : A H) : tYes σ H (fun b H3 => if b = true then A H3 else B H3) := by
  show (if true = true then A H else B H)
  rw [if_pos rfl]
  exact h
def spWide (K : PySem.W.Frag) (l : Addr) : Sp := fun vs H Q _ => ∃ (s : Addr), vs = [.ref s] ∧ Sto l s H ∧
  ∀ D us c H', Bun (Pq K) l s D H us c H' → 1 ≤ c.length → c.length ≤ 40 → Cok c → Cz 40 40 40 c → Q (.ref D) H'
theorem abs_nf {q : Rat} (h : q.num ≠ 0) : (mkRat (q.num.natAbs : Int) q.den).num = (q.num.natAbs : Int) ∧ (mkRat (q.num.natAbs : Int) q.den).den = q.den := nf q.den_nz (by rw [Int.natAbs_natCast]; exact q.reduced)
end Vk
namespace Vk
open PySem L2 Vm
/-! ### the mathematics of hits -/
theorem cok_lt {c : List Pc} (h : Cok c) : ∀ {j i : Nat} {p q : Pc}, i < j → c[i]? = some p → c[j]? = some q → p.s < q.s
  | 0, i, p, q, hij, _, _ => absurd hij (by omega)
  | j + 1, i, p, q, hij, hp, hq => by
    have hj : j < c.length := by have := (List.getElem?_eq_some_iff.mp hq).1; omega
    have e : c[j]? = some c[j] := List.getElem?_eq_getElem hj
    have h2 := h.2 j _ _ e hq
    by_cases hi : i = j
    · subst hi
      rw [e] at hp
      cases hp
      exact h2
    · exact rlt_trans (cok_lt h (by omega) hp e) h2
theorem hit_some {c : List Pc} {q t : Rat} {k : Nat} (h : hit c q k = some t) : ∃ p, c[k]? = some p ∧ t = tm p q ∧ p.s ≤ t ∧ before c (k + 1) t = true := by
  unfold hit at h
  cases e : c[k]? with
  | none => rw [e] at h; cases h
  | some p =>
    rw [e] at h
    dsimp only at h
    split at h
    · rename_i g
      cases h
      exact ⟨p, rfl, rfl, g.1, g.2⟩
    · cases h
/-- t lies in the k-th stretch -/
def inI (c : List Pc) (k : Nat) (t : Rat) : Bool := (match c[k]? with
  | none => false
  | some p => !decide (t < p.s)) && before c (k + 1) t
theorem before_lt {c : List Pc} {k : Nat} {t : Rat} {p : Pc} (h : before c k t = true) (e : c[k]? = some p) : t < p.s := by
  unfold before at h
  rw [e] at h
  exact of_decide_eq_true h
theorem hit_in {c : List Pc} {q t : Rat} {k : Nat} (h : hit c q k = some t) : inI c k t = true := by
  obtain ⟨p, e, _, h1, h2⟩ := hit_some h
  unfold inI
  rw [e, h2]
  have : ¬ t < p.s := by grind
  simp [this]
theorem hit_out {c : List Pc} (ok : Cok c) {q t : Rat} {k n : Nat} (h : hit c q n = some t) (hk : k ≠ n) : inI c k t = false := by
  obtain ⟨p, e, _, h1, h2⟩ := hit_some h
  unfold inI
  cases e2 : c[k]? with
  | none => rfl
  | some p2 =>
    dsimp only
    by_cases g : k < n
    · have hk1 : k + 1 < c.length := by have := (List.getElem?_eq_some_iff.mp e).1; omega
      have e3 : c[k + 1]? = some c[k + 1] := List.getElem?_eq_getElem hk1
      have : c[k + 1].s ≤ p.s := by
        by_cases g2 : k + 1 = n
        · subst g2
          rw [e3] at e
          cases e
          exact Rat.le_refl
        · have := cok_lt ok (show k + 1 < n by omega) e3 e
          grind
      have nb : before c (k + 1) t = false := by
        unfold before
        rw [e3]
        exact dF (by grind)
      rw [nb, Bool.and_false]
    · have h3 : before c (n + 1) t = true := h2
      have hn1 : n + 1 < c.length := by have := (List.getElem?_eq_some_iff.mp e2).1; omega
      have e3 : c[n + 1]? = some c[n + 1] := List.getElem?_eq_getElem hn1
      have h4 := before_lt h3 e3
      have : c[n + 1].s ≤ p2.s := by
        by_cases g2 : n + 1 = k
        · subst g2
          rw [e3] at e2
          cases e2
          exact Rat.le_refl
        · have := cok_lt ok (show n + 1 < k by omega) e3 e2
          grind
      have : t < p2.s := by grind
      simp [this]
theorem hits_in {c : List Pc} (ok : Cok c) (q : Rat) (k : Nat) : ∀ n, (hits c q n).filter (inI c k) = if k < n then (hit c q k).toList else []
  | 0 => by simp [hits]
  | n + 1 => by
    rw [hits_succ, List.filter_append, hits_in ok q k n]
    cases h : hit c q n with
    | none =>
      simp only [Option.toList, List.filter_nil, List.append_nil]
      by_cases e : k = n
      · subst e
        rw [if_neg (by omega), if_pos (by omega), h]
      · by_cases g : k < n
        · rw [if_pos g, if_pos (by omega)]
        · rw [if_neg g, if_neg (by omega)]
    | some t =>
      simp only [Option.toList]
      by_cases e : k = n
      · subst e
        rw [if_neg (by omega), if_pos (by omega), h, List.nil_append]
        simp [hit_in h]
      · have := hit_out ok h e
        simp only [List.filter_cons, this, Bool.false_eq_true, if_false, List.filter_nil, List.append_nil]
        by_cases g : k < n
        · rw [if_pos g, if_pos (by omega)]
        · rw [if_neg g, if_neg (by omega)]
theorem hits_mem {c : List Pc} {q t : Rat} {n : Nat} (h : t ∈ hits c q n) : ∃ k, k < n ∧ hit c q k = some t := by
  unfold hits at h
  obtain ⟨k, hk, e⟩ := List.mem_filterMap.mp h
  exact ⟨k, List.mem_range.mp hk, e⟩
theorem hits_asc {c : List Pc} (ok : Cok c) (q : Rat) : ∀ n, Asc (hits c q n)
  | 0 => by unfold hits; exact List.Pairwise.nil
  | n + 1 => by
    rw [hits_succ]
    unfold Asc
    rw [List.pairwise_append]
    refine ⟨hits_asc ok q n, ?_, fun a ha b hb => ?_⟩
    · cases hit c q n <;> simp [Option.toList]
    · cases h : hit c q n with
      | none => rw [h] at hb; cases hb
      | some t =>
        rw [h] at hb
        simp only [Option.toList, List.mem_singleton] at hb
        subst hb
        obtain ⟨k, hk, e⟩ := hits_mem ha
        obtain ⟨p, e1, _, g1, g2⟩ := hit_some e
        obtain ⟨p2, e2, _, g3, _⟩ := hit_some h
        have hn := (List.getElem?_eq_some_iff.mp e2).1
        have e3 : c[k + 1]? = some c[k + 1] := List.getElem?_eq_getElem (by omega)
        have g4 := before_lt g2 e3
        have : c[k + 1].s ≤ p2.s := by
          by_cases g5 : k + 1 = n
          · subst g5
            rw [e3] at e2
            cases e2
            exact Rat.le_refl
          · have := cok_lt ok (show k + 1 < n by omega) e3 e2
            grind
        grind
theorem tm_ge {p : Pc} {q : Rat} (r : 0 < p.r) : p.s ≤ tm p q ↔ p.v ≤ q := by
  have h : (q - p.v) / p.r * p.r = q - p.v := Rat.div_mul_cancel (by grind)
  unfold tm
  constructor
  · intro g
    have g1 : 0 ≤ (q - p.v) / p.r := by grind
    have g2 := Rat.mul_nonneg g1 (Rat.le_of_lt r)
    grind
  · intro g
    have g2 : ¬ (q - p.v) / p.r < 0 := fun z => by
      have := (Rat.mul_lt_mul_right r).mpr z
      grind
    grind
theorem tm_lt {p : Pc} {q s : Rat} (r : 0 < p.r) : tm p q < s ↔ q < p.v + p.r * (s - p.s) := by
  have h : (q - p.v) / p.r * p.r = q - p.v := Rat.div_mul_cancel (by grind)
  have e : tm p q < s ↔ (q - p.v) / p.r < s - p.s := by
    unfold tm
    constructor <;> intro g <;> grind
  rw [e, ← Rat.mul_lt_mul_right r, h]
  constructor <;> intro g <;> grind
theorem tm_back {p : Pc} {q : Rat} (r : 0 < p.r) : p.v + p.r * (tm p q - p.s) = q := by
  have h : (q - p.v) / p.r * p.r = q - p.v := Rat.div_mul_cancel (by grind)
  unfold tm
  grind
theorem filter_take {α : Type} (g : α → Bool) : ∀ {c : List α} {m : Nat}, (∀ i x, c[i]? = some x → (g x = true ↔ i < m)) → c.filter g = c.take m
  | [], m, _ => by simp
  | x :: r, 0, h => by
    have h0 := h 0 x rfl
    have : g x = false := by
      cases e : g x with
      | false => rfl
      | true => exact absurd (h0.mp e) (by omega)
    rw [List.filter_cons, this]
    simp only [Bool.false_eq_true, if_false]
    rw [filter_take g (m := 0) fun i y hy => by
      have := h (i + 1) y hy
      constructor
      · intro z; exact absurd (this.mp z) (by omega)
      · intro z; omega]
    simp
  | x :: r, m + 1, h => by
    have h0 := (h 0 x rfl).mpr (by omega)
    rw [List.filter_cons, if_pos h0, List.take_succ_cons, filter_take g (m := m) fun i y hy => by
      have := h (i + 1) y hy
      constructor
      · intro z; have := this.mp z; omega
      · intro z; exact this.mpr (by omega)]
theorem now_hit {c : List Pc} (ok : Cok c) {q t : Rat} {k : Nat} (h : hit c q k = some t) : nowf c t = some q := by
  obtain ⟨p, e, et, h1, h2⟩ := hit_some h
  have hk := (List.getElem?_eq_some_iff.mp e).1
  have ef : c.filter (on t) = c.take (k + 1) := filter_take _ fun i x hx => by
    unfold on
    constructor
    · intro z
      refine Nat.lt_of_not_le fun g => ?_
      have hk1 : k + 1 < c.length := by have := (List.getElem?_eq_some_iff.mp hx).1; omega
      have e3 : c[k + 1]? = some c[k + 1] := List.getElem?_eq_getElem hk1
      have h4 := before_lt h2 e3
      have : c[k + 1].s ≤ x.s := by
        by_cases g5 : k + 1 = i
        · subst g5
          rw [e3] at hx
          cases hx
          exact Rat.le_refl
        · have := cok_lt ok (show k + 1 < i by omega) e3 hx
          grind
      have : t < x.s := by grind
      simp [this] at z
    · intro z
      have : x.s ≤ p.s := by
        by_cases g5 : i = k
        · subst g5
          rw [e] at hx
          cases hx
          exact Rat.le_refl
        · have := cok_lt ok (show i < k by omega) hx e
          grind
      have : ¬ t < x.s := by grind
      simp [this]
  unfold nowf
  rw [ef, List.getLast?_eq_getElem?, List.length_take, List.getElem?_take]
  have e1 : min (k + 1) c.length - 1 = k := by omega
  rw [e1, if_pos (by omega), e]
  show some (p.v + p.r * (t - p.s)) = some q
  rw [et, tm_back (ok.1 p (List.mem_of_getElem? e))]
/-- whether the k-th piece shows the reading -/
theorem due_hit {c : List Pc} (ok : Cok c) {q : Rat} {k : Nat} {p : Pc} (e : c[k]? = some p) : (hit c q k).isSome = (!decide (q < p.v) && (match lim c k with
  | none => true
  | some b => decide (q < b))) := by
  have r := ok.1 p (List.mem_of_getElem? e)
  unfold hit lim
  rw [e]
  dsimp only
  have h1 := tm_ge (p := p) (q := q) r
  cases e2 : c[k + 1]? with
  | none =>
    have hb : before c (k + 1) (tm p q) = true := by unfold before; rw [e2]
    rw [hb]
    dsimp only
    by_cases g : q < p.v
    · have : ¬ p.s ≤ tm p q := fun z => by have := h1.mp z; grind
      simp [this, g]
    · have : p.s ≤ tm p q := h1.mpr (by grind)
      simp [this, g]
  | some p2 =>
    have h2 := tm_lt (p := p) (q := q) (s := p2.s) r
    have hb : before c (k + 1) (tm p q) = decide (tm p q < p2.s) := by unfold before; rw [e2]
    rw [hb]
    dsimp only
    by_cases g : q < p.v
    · have : ¬ p.s ≤ tm p q := fun z => by have := h1.mp z; grind
      simp [this, g]
    · have a1 : p.s ≤ tm p q := h1.mpr (by grind)
      by_cases g2 : tm p q < p2.s
      · have := h2.mp g2
        simp [a1, g, g2, this]
      · have : ¬ q < p.v + p.r * (p2.s - p.s) := fun z => g2 (h2.mpr z)
        simp [a1, g, g2, this]
theorem opt_len {α : Type} (o : Option α) : o.toList.length = if o.isSome = true then 1 else 0 := by cases o <;> rfl
theorem row_last {c : List Pc} (ok : Cok c) {q : Rat} {k : Nat} {p : Pc} (e : c[k]? = some p) (e2 : c[k + 1]? = none) :
    ((hits c q c.length).filter fun t => !decide (t < p.s)).length = if (!decide (q < p.v)) = true then 1 else 0 := by
  have hk := (List.getElem?_eq_some_iff.mp e).1
  have h1 := hits_in ok q k c.length
  rw [if_pos hk] at h1
  have h2 : (fun t => !decide (t < p.s)) = inI c k := by
    funext t
    unfold inI before
    rw [e, e2]
    simp
  have h3 := due_hit ok (q := q) e
  unfold lim at h3
  rw [e, e2] at h3
  dsimp only at h3
  rw [Bool.and_true] at h3
  rw [h2, h1, opt_len, h3]
theorem row_more {c : List Pc} (ok : Cok c) {q : Rat} {k : Nat} {p p2 : Pc} (e : c[k]? = some p) (e2 : c[k + 1]? = some p2) :
    (((hits c q c.length).filter fun t => !decide (t < p.s)).filter fun t => decide (t < p2.s)).length = if (!decide (q < p.v) && decide (q < p.v + p.r * (p2.s - p.s))) = true then 1 else 0 := by
  have hk := (List.getElem?_eq_some_iff.mp e).1
  have h1 := hits_in ok q k c.length
  rw [if_pos hk] at h1
  have h2 : (fun t => decide (t < p2.s) && !decide (t < p.s)) = inI c k := by
    funext t
    unfold inI before
    rw [e, e2]
    exact Bool.and_comm _ _
  have h3 := due_hit ok (q := q) e
  unfold lim at h3
  rw [e, e2] at h3
  dsimp only at h3
  rw [List.filter_filter, h2, h1, opt_len, h3]
end Vk
namespace Vk
open PySem L2 Vm
variable {l : Addr} {P : Program} {w : World} {K : PySem.W.Frag} {mg : Str → Option Value} {base : Heap} {k : Nat} {f f1 f2 f3 f4 f5 f6 f7 f8 f9 : Addr} {fd fd1 fd2 fd3 fd4 fd5 fd6 fd7 fd8 fd9 : FuncData}
theorem sz_hit {i j m n : Nat} {c : List Pc} (ok : Cok c) (cz : Cz i j m c) {q t : Rat} (zq : Sz n q) {k : Nat} (h : hit c q k = some t) : Sz (i + (n + j + 1 + m) + 1) t := by
  obtain ⟨p, e, rfl, _, _⟩ := hit_some h
  have hm := List.mem_of_getElem? e
  obtain ⟨z1, z2, z3⟩ := cz p hm
  exact z1.add ((zq.sub z2).div z3 (ok.1 p hm))
def spTR (K : PySem.W.Frag) : Sp := fun vs H Q _ => ∃ (a b : Addr) (y : V) (us : List V) (c : List Pc) (q : Rat) (i j l m : Nat), vs = [.ref a, y, .ref b] ∧ Cq K H a c ∧ Rq K H y q ∧ SqL K H b us ∧ All2 (Rq K H) us (hits c q c.length) ∧ Cok c ∧ Cz i j l c ∧ Sz m q ∧ c.length ≤ 1000 ∧ i + i + j + j + l + l + m + 20 ≤ 9000 ∧
  ∀ H', Same H H' → Q (.bl true) H'
end Vk
namespace Vk
open PySem PySem.Spec PyProof.Rows L2
section
variable {X : Cx}
/-- xs.count(y), data of any depth -/
def rCountD (K : PySem.W.Frag) : V → List V → Hp → VK → Prop := fun x xs H Q => ∃ (a : Addr) (y : V) (d : PyData) (ds : List PyData), x = V.ref a ∧ xs = [y] ∧ Dp K H (V.ref a) (.list ds) ∧ Dp K H y d ∧
  SeqAt.shaped (.list ds) = true ∧ SeqAt.shaped d = true ∧ Q (.int ((ds.countP fun z => PyData.eqv z d : Nat) : Int)) H
theorem mt_countD (hu : X.A.units + 65 < cLine) : MtR X "list.count" (rCountD X.K) := by
  intro pins s σ H x xs v us Q I rx rxs h
  obtain ⟨a, y, d, ds, rfl, rfl, hl, hy, sl, sd, q⟩ := h
  cases rx
  cases rxs with
  | cons ry rt =>
    rename_i uy ut
    cases rt
    obtain ⟨bs, r1⟩ := Dp.reads I d y uy hy ry
    have hxs : PyData.canLayAll0 ds = true := SeqAt.canLay_of_shaped sl
    have hroom : X.A.units + 1 + min (PyData.depthAll ds) d.depth < cLine := room_in_shaped sd hu
    cases hl with
    | lst hs ha =>
      obtain ⟨its, rv, ⟨⟨cls, dd, data, sls⟩, n, ho, hc, hdn, hdt⟩, hlen⟩ := I.list hs
      simp only at hc hdt
      subst hc hdt
      obtain ⟨as, h4⟩ := Dp.readsAll I ds _ its ha rv
      have hmap : its.map (SeqAt.readOf s.heap) = ds := SeqAt.readsAll_map ds its as hxs h4
      refine call_meets PySem.F.slot_list_count ⟨_, ho, rfl⟩ PySem.F.entry_list_count (PySem.F.args_list_count_2 _ _)
        (SeqAt.list_countAt a its.toArray n dd sls uy (fun u => PyData.eqv (SeqAt.readOf s.heap u) d)) ⟨ho, SeqAt.items_eqAt (vs := its.toArray) (show ReadsAll s.heap its.toArray.toList ds as from h4) r1 hxs (SeqAt.canLay_of_shaped sd) hroom, ?_⟩
      refine ⟨.int ((ds.countP fun z => PyData.eqv z d : Nat) : Int), H, I.tok _, ⟨s.toks, ?_⟩, q⟩
      have e : (its.toArray.toList.countP fun u => PyData.eqv (SeqAt.readOf s.heap u) d) = ds.countP fun z => PyData.eqv z d := by
        rw [← hmap, List.countP_map]
        rfl
      show Value.int ((its.toArray.toList.countP (fun u => PyData.eqv (SeqAt.readOf s.heap u) d) : Nat) : Int) s.toks = _
      rw [e]
end
end Vk
namespace Vk
open PySem L2 Vm
variable {l : Addr} {P : Program} {w : World} {K : PySem.W.Frag} {mg : Str → Option Value} {base : Heap} {k : Nat} {f f1 f2 f3 f4 f5 f6 f7 f8 f9 : Addr} {fd fd1 fd2 fd3 fd4 fd5 fd6 fd7 fd8 fd9 : FuncData}
theorem sm1 : 1 ≤ sizeLine := by decide
theorem Bun.made {α : Type} {R : Hp → V → α → Prop} {s D : Addr} {H0 G : Hp} {us : List V} {c : List α} (S : Sto l s G) (e : Fr s H0 G) (hD : G D = none) (h : All2 (R (upd G D (.lst us))) us c) : Bun R l s D H0 us c (upd G D (.lst us)) := by
  have nD := S.ne hD
  have f := same_new hD (.lst us)
  exact ⟨S.same f, e.trans (Fr.of f), nD, S.nl hD, e.free hD nD, upd_same, h⟩
/-- a tracked list with a course -/
def Ct (K : PySem.W.Frag) (H : Hp) (a : Addr) (xs : List V) (c : List Pc) : Prop := H a = some (.lst xs) ∧ All2 (Pq K H) xs c
theorem Ct.cq {H : Hp} {a : Addr} {xs : List V} {c : List Pc} (h : Ct K H a xs c) : Cq K H a c := ⟨xs, SqL.of h.1, h.2⟩
theorem Ct.same {H H' : Hp} {a : Addr} {xs : List V} {c : List Pc} (e : Same H H') (h : Ct K H a xs c) : Ct K H' a xs c := ⟨e _ _ h.1, h.2.imp fun _ _ h => h.same e⟩
theorem Ct.fr {s : Addr} {H H' : Hp} {a : Addr} {xs : List V} {c : List Pc} (e : Fr s H H') (hs : ∃ ys, H s = some (.lst ys)) (n : a ≠ s) (h : Ct K H a xs c) : Ct K H' a xs c := ⟨e _ _ h.1 n, h.2.imp fun _ _ h => h.fr e hs⟩
theorem all2_3 {α : Type} {R : V → α → Prop} {x y z : V} {a b c : α} (h1 : R x a) (h2 : R y b) (h3 : R z c) : All2 R [x, y, z] [a, b, c] := (((All2.nil.snoc h1).snoc h2).snoc h3 : All2 R ([] ++ [x] ++ [y] ++ [z]) ([] ++ [a] ++ [b] ++ [c]))
def spValues (K : PySem.W.Frag) (l : Addr) : Sp := fun vs H Q _ => ∃ (s a : Addr) (xs : List V) (c : List Pc), vs = [.ref s, .ref a] ∧ Sto l s H ∧ a ≠ s ∧ a ≠ l ∧ Ct K H a xs c ∧ Cz 245 925 5 c ∧ 1 ≤ c.length ∧ c.length ≤ 1000 ∧
  ∀ D us qs H', Bun (Rq K) l s D H us qs H' → (∀ q ∈ qs, Sz 2350 q) → 0 < qs.length → qs.length ≤ 100 → Q (.ref D) H'
end Vk
namespace Vk
open PySem L2 Vm
variable {l : Addr} {P : Program} {w : World} {K : PySem.W.Frag} {mg : Str → Option Value} {base : Heap} {k : Nat} {f f1 f2 f3 f4 f5 f6 f7 f8 f9 f10 f11 f12 f13 f14 : Addr} {fd fd1 fd2 fd3 fd4 fd5 fd6 fd7 fd8 fd9 fd10 fd11 fd12 fd13 fd14 : FuncData}
theorem hu65 {k : Nat} {A : Around} (hr : Room k A) : A.units + 65 < cLine := by have := hr.un; omega
/-- a promise with something left open -/
def exS {α : Type} (sp : α → Sp) : Sp := fun vs H Q E => ∃ x, sp x vs H Q E
theorem Def.ex {α : Type} [Inhabited α] {x : Str} {ps : List Str} {sp : α → Sp} (h : ∀ a, Def P w K mg base k x ps (sp a) f fd) : Def P w K mg base k x ps (exS sp) f fd :=
  ⟨⟨fun vs H Q E ⟨a, z⟩ => (h a).ok.len vs H Q E z, fun A outer s H args us vs Q E hr he hb hv ⟨a, z⟩ => (h a).ok.run A outer s H args us vs Q E hr he hb hv z⟩, (h default).m, (h default).kp, (h default).b⟩
theorem ixN_last {n : Nat} (h : 0 < n) {i : Int} (e : i = (n : Int) - 1) : ixN n i = some (n - 1) := by
  subst e
  unfold ixN
  rw [if_pos (by omega), if_pos (by omega)]
  congr 1
  omega
/-! ### data -/
def dpc (p : Pc) : PyData := .tuple [dq p.s, dq p.v, dq p.r]
theorem Pq.dp {H : Hp} {v : V} {p : Pc} (h : Pq K H v p) : Dp K H v (dpc p) := by
  obtain ⟨a, xs, xv, xr, rfl, h, h1, h2, h3⟩ := h
  exact .tup h (.cons h1.dp (.cons h2.dp (.cons h3.dp .nil)))
theorem dpall_of {α : Type} {R : V → α → Prop} {d : α → PyData} {H : Hp} (g : ∀ v p, R v p → Dp K H v (d p)) : ∀ {xs : List V} {c : List α}, All2 R xs c → DpAll K H xs (c.map d)
  | [], [], _ => .nil
  | [], _ :: _, h => absurd h.1 (by simp)
  | _ :: _, [], h => absurd h.1 (by simp)
  | x :: xs, p :: c, h => .cons (g _ _ (h.2 0 x p rfl rfl)) (dpall_of g ⟨by have := h.1; simp at this; exact this, fun i x p a b => h.2 (i + 1) x p a b⟩)
theorem tree_dpc (n : Nat) (p : Pc) : Tree (n + 2) (dpc p) := .tup (by show 3 ≤ 1000; decide) fun d h => by
  simp only [List.mem_cons, List.mem_nil_iff, or_false] at h
  rcases h with rfl | rfl | rfl <;> exact tree_dq _ _
theorem depth_dqs : ∀ T : List Rat, PyData.depthAll (T.map dq) ≤ 2
  | [] => by simp [PyData.depthAll]
  | t :: T => by
    have := depth_dqs T
    simp only [List.map_cons, PyData.depthAll]
    have : (dq t).depth ≤ 2 := by show PyData.depth (.tuple [.int t.num, .int (t.den : Int)]) ≤ 2; simp [PyData.depth, PyData.depthAll]
    omega
theorem lay_dqs : ∀ T : List Rat, PyData.canLayAll0 (T.map dq) = true
  | [] => rfl
  | t :: T => by
    have := lay_dqs T
    show (PyData.canLay0 (dq t) && PyData.canLayAll0 (T.map dq)) = true
    rw [this]
    rfl
theorem sh_dqs (T : List Rat) : SeqAt.shaped (.list (T.map dq)) = true := by
  have h1 := depth_dqs T
  have h2 := lay_dqs T
  show (PyData.canLay0 (.list (T.map dq)) && decide (PyData.depth (.list (T.map dq)) ≤ 64)) = true
  have h3 : PyData.canLay0 (.list (T.map dq)) = true := h2
  have h4 : PyData.depth (.list (T.map dq)) ≤ 64 := by simp only [PyData.depth]; omega
  rw [h3, decide_eq_true h4]
  rfl
/-! ### the course whose last piece is set -/
theorem hits_set {c : List Pc} (ok : Cok c) (hn : 0 < c.length) {q : Rat} {p : Pc} (hp : c[c.length - 1]? = some p) (hv : p.v = q) : (hits c q c.length).countP (fun t => decide (t = p.s)) = 1 := by
  have r := ok.1 p (List.mem_of_getElem? hp)
  have et : tm p q = p.s := by
    unfold tm
    rw [hv, show q - q = 0 from Rat.sub_self, Rat.div_def, Rat.zero_mul]
    grind
  have eh : hit c q (c.length - 1) = some p.s := by
    unfold hit before
    rw [hp, List.getElem?_eq_none (show c.length ≤ c.length - 1 + 1 by omega)]
    simp only [et, and_true]
    rw [if_pos Rat.le_refl]
  have e1 : c.length = c.length - 1 + 1 := by omega
  have e2 : hits c q c.length = hits c q (c.length - 1) ++ [p.s] := by
    conv => lhs; rw [e1]
    rw [hits_succ, eh]
    rfl
  have z : ∀ t ∈ hits c q (c.length - 1), t < p.s := fun t ht => by
    obtain ⟨j, hj, e⟩ := hits_mem ht
    obtain ⟨p1, g1, _, _, g2⟩ := hit_some e
    have hj1 : j + 1 < c.length := by omega
    have e3 : c[j + 1]? = some c[j + 1] := List.getElem?_eq_getElem hj1
    have g3 := before_lt g2 e3
    by_cases g : j + 1 = c.length - 1
    · rw [← g] at hp
      rw [e3] at hp
      have := Option.some.inj hp
      rw [this] at g3
      exact g3
    · have := cok_lt ok (show j + 1 < c.length - 1 by omega) e3 hp
      grind
  rw [e2, List.countP_append, List.countP_eq_zero.mpr fun t ht => by
    have := z t ht
    have : ¬ t = p.s := by grind
    simp [this]]
  simp
theorem all2_set {α : Type} {R : V → α → Prop} {xs : List V} {c : List α} {x : V} {p : α} (h : All2 R xs c) (n : Nat) (r : R x p) : All2 R (xs.set n x) (c.set n p) := by
  refine ⟨by rw [List.length_set, List.length_set, h.1], fun i y q a b => ?_⟩
  by_cases e : n = i
  · subst e
    rw [List.getElem?_set] at a b
    simp only [if_true] at a b
    split at a
    · split at b
      · cases a
        cases b
        exact r
      · cases b
    · cases a
  · rw [List.getElem?_set_ne e] at a b
    exact h.2 i y q a b
theorem cok_set {c : List Pc} (ok : Cok c) {n : Nat} {p p' : Pc} (hp : c[n]? = some p) (hs : p'.s = p.s) (hr : p'.r = p.r) : Cok (c.set n p') := by
  have key : ∀ (i : Nat) (x : Pc), (c.set n p')[i]? = some x → ∃ y, c[i]? = some y ∧ x.s = y.s ∧ x.r = y.r := fun i x h => by
    by_cases e : n = i
    · subst e
      rw [List.getElem?_set] at h
      simp only [if_true] at h
      split at h
      · cases h
        exact ⟨p, hp, hs, hr⟩
      · cases h
    · rw [List.getElem?_set_ne e] at h
      exact ⟨x, h, rfl, rfl⟩
  refine ⟨fun x hx => ?_, fun i x y hx hy => ?_⟩
  · obtain ⟨i, hi, rfl⟩ := List.mem_iff_getElem.mp hx
    obtain ⟨y, e1, _, e2⟩ := key i _ (List.getElem?_eq_getElem hi)
    rw [e2]
    exact ok.1 y (List.mem_of_getElem? e1)
  · obtain ⟨x1, a1, b1, _⟩ := key i x hx
    obtain ⟨y1, a2, b2, _⟩ := key (i + 1) y hy
    rw [b1, b2]
    exact ok.2 i x1 y1 a1 a2
theorem cz_set {c : List Pc} {i j j' m : Nat} (cz : Cz i j m c) (hj : j ≤ j') {n : Nat} {p' : Pc} (h : Sz i p'.s ∧ Sz j' p'.v ∧ Sz m p'.r) : Cz i j' m (c.set n p') := fun x hx => by
  rcases List.mem_or_eq_of_mem_set hx with hx | rfl
  · obtain ⟨z1, z2, z3⟩ := cz x hx
    exact ⟨z1, z2.mono hj, z3⟩
  · exact h
/-! ### what stands while the law goes on -/
structure St0 (K : PySem.W.Frag) (l s D1 D2 D3 : Addr) (us1 us2 : List V) (c1 c2 : List Pc) (G : Hp) : Prop where
  st : Sto l s G
  a1 : Ct K G D1 us1 c1
  a2 : Ct K G D2 us2 c2
  a3 : Ct K G D3 us1 c1
  n1 : D1 ≠ s
  n2 : D2 ≠ s
  n3 : D3 ≠ s
  m3 : D3 ≠ l
  n31 : D3 ≠ D1
  n32 : D3 ≠ D2
theorem St0.same {s D1 D2 D3 : Addr} {us1 us2 : List V} {c1 c2 : List Pc} {G G' : Hp} (h : St0 K l s D1 D2 D3 us1 us2 c1 c2 G) (e : Same G G') : St0 K l s D1 D2 D3 us1 us2 c1 c2 G' :=
  { h with st := h.st.same e, a1 := h.a1.same e, a2 := h.a2.same e, a3 := h.a3.same e }
theorem St0.fr {s D1 D2 D3 : Addr} {us1 us2 : List V} {c1 c2 : List Pc} {G G' : Hp} (h : St0 K l s D1 D2 D3 us1 us2 c1 c2 G) (e : Fr s G G') (S : Sto l s G') : St0 K l s D1 D2 D3 us1 us2 c1 c2 G' :=
  { h with st := S, a1 := h.a1.fr e h.st.some h.n1, a2 := h.a2.fr e h.st.some h.n2, a3 := h.a3.fr e h.st.some h.n3 }
theorem St0.app {s D1 D2 D3 D : Addr} {us1 us2 ys zs : List V} {c1 c2 : List Pc} {G : Hp} (h : St0 K l s D1 D2 D3 us1 us2 c1 c2 G) (hD : G D = some (.lst ys)) (ns : D ≠ s) (nl : D ≠ l) (k1 : D1 ≠ D) (k2 : D2 ≠ D) (k3 : D3 ≠ D) : St0 K l s D1 D2 D3 us1 us2 c1 c2 (upd G D (.lst zs)) :=
  { h with st := h.st.upd ns nl, a1 := h.a1.fr (Fr.upd _) ⟨_, hD⟩ k1, a2 := h.a2.fr (Fr.upd _) ⟨_, hD⟩ k2, a3 := h.a3.fr (Fr.upd _) ⟨_, hD⟩ k3 }
/-- a list of rationals -/
def Lq (K : PySem.W.Frag) (G : Hp) (D : Addr) (us : List V) (qs : List Rat) : Prop := G D = some (.lst us) ∧ All2 (Rq K G) us qs
theorem Lq.same {G G' : Hp} {D : Addr} {us : List V} {qs : List Rat} (h : Lq K G D us qs) (e : Same G G') : Lq K G' D us qs := ⟨e _ _ h.1, h.2.imp fun _ _ h => h.same e⟩
theorem Lq.fr {s : Addr} {G G' : Hp} {D : Addr} {us : List V} {qs : List Rat} (h : Lq K G D us qs) (e : Fr s G G') (hs : ∃ ys, G s = some (.lst ys)) (n : D ≠ s) : Lq K G' D us qs := ⟨e _ _ h.1 n, h.2.imp fun _ _ h => h.fr e hs⟩
theorem ne_at {G : Hp} {a b : Addr} {o : HO} (h : G a = some o) (n : G b = none) : a ≠ b := fun e => by rw [e, n] at h; cases h
end Vk
namespace Vk
open PySem L2 Vm
/-! ### lines, what stays of a course, jumps -/
def ky (p : Pc) : Rat × Rat := (p.r, p.v - p.r * p.s)
def jmp (k : Rat × Rat) (q : Pc) : Rat := q.v - (k.2 + k.1 * q.s)
def vl (t : Rat) (p : Pc) : Rat := p.v + p.r * (t - p.s)
theorem ky_eq {p q : Pc} : ky q = ky p ↔ q.r = p.r ∧ jmp (ky p) q = 0 := by
  unfold jmp ky
  constructor
  · intro h
    have h1 := congrArg Prod.fst h
    have h2 := congrArg Prod.snd h
    dsimp only at h1 h2 ⊢
    exact ⟨h1, by rw [h1] at h2; grind⟩
  · rintro ⟨h1, h2⟩
    dsimp only at h2
    rw [h1]
    congr 1
    grind
theorem jmp_at (p q : Pc) : q.v - (p.v + p.r * (q.s - p.s)) = jmp (ky p) q := by
  unfold jmp ky
  dsimp only
  grind
theorem vl_ky {p q : Pc} (h : ky q = ky p) (t : Rat) : vl t q = vl t p := by
  have h1 := congrArg Prod.fst h
  have h2 := congrArg Prod.snd h
  unfold ky at h1 h2
  dsimp only at h1 h2
  unfold vl
  grind
def tlG : Rat × Rat → List Pc → List Pc
  | _, [] => []
  | k, q :: c => if ky q = k then tlG k c else q :: tlG (ky q) c
def tl : List Pc → List Pc
  | [] => []
  | p :: c => p :: tlG (ky p) c
def jlG : Rat × Rat → List Pc → List (Rat × Rat)
  | _, [] => []
  | k, q :: c => if jmp k q = 0 then jlG (ky q) c else (q.s, jmp k q) :: jlG (ky q) c
def jl : List Pc → List (Rat × Rat)
  | [] => []
  | p :: c => jlG (ky p) c
theorem jmp0 {k : Rat × Rat} {q : Pc} (h : ky q = k) : jmp k q = 0 := by
  subst h
  unfold jmp ky
  dsimp only
  grind
theorem tlG_snoc (p q : Pc) : ∀ (c : List Pc) (k : Rat × Rat), tlG k (c ++ [p, q]) = tlG k (c ++ [p]) ++ if ky q = ky p then [] else [q]
  | [], k => by
    show tlG k [p, q] = tlG k [p] ++ _
    unfold tlG
    by_cases h : ky p = k
    · rw [if_pos h, if_pos h]
      unfold tlG
      rw [← h]
      by_cases g : ky q = ky p
      · rw [if_pos g, if_pos g]; rfl
      · rw [if_neg g, if_neg g]; rfl
    · rw [if_neg h, if_neg h]
      unfold tlG
      by_cases g : ky q = ky p
      · rw [if_pos g, if_pos g]; rfl
      · rw [if_neg g, if_neg g]; rfl
  | x :: c, k => by
    show tlG k (x :: (c ++ [p, q])) = tlG k (x :: (c ++ [p])) ++ _
    unfold tlG
    by_cases h : ky x = k
    · rw [if_pos h, if_pos h, tlG_snoc p q c k]
    · rw [if_neg h, if_neg h, tlG_snoc p q c (ky x)]
      rfl
theorem jlG_snoc (p q : Pc) : ∀ (c : List Pc) (k : Rat × Rat), jlG k (c ++ [p, q]) = jlG k (c ++ [p]) ++ if jmp (ky p) q = 0 then [] else [(q.s, jmp (ky p) q)]
  | [], k => by
    show jlG k [p, q] = jlG k [p] ++ _
    unfold jlG
    by_cases h : jmp k p = 0
    · rw [if_pos h, if_pos h]
      unfold jlG
      by_cases g : jmp (ky p) q = 0
      · rw [if_pos g, if_pos g]; rfl
      · rw [if_neg g, if_neg g]; rfl
    · rw [if_neg h, if_neg h]
      unfold jlG
      by_cases g : jmp (ky p) q = 0
      · rw [if_pos g, if_pos g]; rfl
      · rw [if_neg g, if_neg g]; rfl
  | x :: c, k => by
    show jlG k (x :: (c ++ [p, q])) = jlG k (x :: (c ++ [p])) ++ _
    unfold jlG
    by_cases h : jmp k x = 0
    · rw [if_pos h, if_pos h, jlG_snoc p q c (ky x)]
    · rw [if_neg h, if_neg h, jlG_snoc p q c (ky x)]
      rfl
theorem take_two {c : List Pc} {i : Nat} {p q : Pc} (e1 : c[i]? = some p) (e2 : c[i + 1]? = some q) : c.take (i + 1) = c.take i ++ [p] ∧ c.take (i + 2) = c.take i ++ [p, q] := by
  have h1 : c.take (i + 1) = c.take i ++ [p] := by rw [List.take_add_one, e1]; rfl
  refine ⟨h1, ?_⟩
  rw [List.take_add_one, h1, e2, List.append_assoc]
  rfl
theorem tl_next {c : List Pc} {i : Nat} {p q : Pc} (e1 : c[i]? = some p) (e2 : c[i + 1]? = some q) : tl (c.take (i + 2)) = tl (c.take (i + 1)) ++ if ky q = ky p then [] else [q] := by
  obtain ⟨h1, h2⟩ := take_two e1 e2
  rw [h1, h2]
  cases h : c.take i with
  | nil =>
    show p :: tlG (ky p) [q] = _
    unfold tlG
    by_cases g : ky q = ky p
    · rw [if_pos g, if_pos g]; rfl
    · rw [if_neg g, if_neg g]; rfl
  | cons x d =>
    show x :: tlG (ky x) (d ++ [p, q]) = x :: tlG (ky x) (d ++ [p]) ++ _
    rw [tlG_snoc]
    rfl
theorem jl_next {c : List Pc} {i : Nat} {p q : Pc} (e1 : c[i]? = some p) (e2 : c[i + 1]? = some q) : jl (c.take (i + 2)) = jl (c.take (i + 1)) ++ if jmp (ky p) q = 0 then [] else [(q.s, jmp (ky p) q)] := by
  obtain ⟨h1, h2⟩ := take_two e1 e2
  rw [h1, h2]
  cases h : c.take i with
  | nil =>
    show jlG (ky p) [q] = _
    unfold jlG
    by_cases g : jmp (ky p) q = 0
    · rw [if_pos g, if_pos g]; rfl
    · rw [if_neg g, if_neg g]; rfl
  | cons x d =>
    show jlG (ky x) (d ++ [p, q]) = jlG (ky x) (d ++ [p]) ++ _
    rw [jlG_snoc]
theorem tlG_tlG : ∀ (c : List Pc) (k : Rat × Rat), tlG k (tlG k c) = tlG k c
  | [], k => rfl
  | q :: c, k => by
    by_cases h : ky q = k
    · have e1 : tlG k (q :: c) = tlG k c := by rw [tlG, if_pos h]
      rw [e1, tlG_tlG c k]
    · have e1 : ∀ d, tlG k (q :: d) = q :: tlG (ky q) d := fun d => by rw [tlG, if_neg h]
      rw [e1, e1, tlG_tlG c (ky q)]
theorem tl_tl (c : List Pc) : tl (tl c) = tl c := by
  cases c with
  | nil => rfl
  | cons p c =>
    show p :: tlG (ky p) (tlG (ky p) c) = _
    rw [tlG_tlG]
    rfl
theorem jlG_tlG : ∀ (c : List Pc) (k : Rat × Rat), jlG k (tlG k c) = jlG k c
  | [], k => rfl
  | q :: c, k => by
    by_cases h : ky q = k
    · have e1 : tlG k (q :: c) = tlG k c := by rw [tlG, if_pos h]
      have e2 : jlG k (q :: c) = jlG (ky q) c := by rw [jlG, if_pos (jmp0 h)]
      rw [e1, e2, h, jlG_tlG c k]
    · have e1 : tlG k (q :: c) = q :: tlG (ky q) c := by rw [tlG, if_neg h]
      rw [e1, jlG, jlG, jlG_tlG c (ky q)]
theorem jl_tl (c : List Pc) : jl (tl c) = jl c := by
  cases c with
  | nil => rfl
  | cons p c => exact jlG_tlG c (ky p)
theorem tlG_mem : ∀ (c : List Pc) (k : Rat × Rat), (tlG k c).Sublist c
  | [], k => List.Sublist.slnil
  | q :: c, k => by
    rw [tlG]
    split
    · exact (tlG_mem c k).cons q
    · exact (tlG_mem c (ky q)).cons₂ q
theorem tl_sub (c : List Pc) : (tl c).Sublist c := by
  cases c with
  | nil => exact List.Sublist.slnil
  | cons p c => exact (tlG_mem c (ky p)).cons₂ p
theorem tl_pos {c : List Pc} (h : 0 < c.length) : 0 < (tl c).length := by
  cases c with
  | nil => exact absurd h (by simp)
  | cons p c => exact Nat.succ_pos _
/-! ### ascending -/
def AscP (c : List Pc) : Prop := c.Pairwise fun p q => p.s < q.s
theorem ascP_of {c : List Pc} (ok : Cok c) : AscP c := by
  unfold AscP
  rw [List.pairwise_iff_getElem]
  intro i j hi hj hij
  exact cok_lt ok hij (List.getElem?_eq_getElem hi) (List.getElem?_eq_getElem hj)
theorem cok_of {c : List Pc} (a : AscP c) (r : ∀ p ∈ c, 0 < p.r) : Cok c := by
  refine ⟨r, fun i p q e1 e2 => ?_⟩
  have h1 := List.getElem?_eq_some_iff.mp e1
  have h2 := List.getElem?_eq_some_iff.mp e2
  have := (List.pairwise_iff_getElem.mp a) i (i + 1) h1.1 h2.1 (by omega)
  rw [h1.2, h2.2] at this
  exact this
theorem cok_tl {c : List Pc} (ok : Cok c) : Cok (tl c) := cok_of ((ascP_of ok).sublist (tl_sub c)) fun p hp => ok.1 p ((tl_sub c).subset hp)
theorem cz_tl {i j m : Nat} {c : List Pc} (z : Cz i j m c) : Cz i j m (tl c) := fun p hp => z p ((tl_sub c).subset hp)
/-! ### what is shown -/
def nG (t : Rat) : Option Rat → List Pc → Option Rat
  | d, [] => d
  | d, q :: c => nG t (if on t q = true then some (vl t q) else d) c
theorem nG_now (t : Rat) : ∀ (c : List Pc) (d : Option Rat), nG t d c = (((c.filter (on t)).getLast?).map (vl t)).or d
  | [], d => rfl
  | q :: c, d => by
    show nG t _ c = _
    rw [nG_now t c, List.filter_cons]
    by_cases h : on t q = true
    · rw [if_pos h, if_pos h, List.getLast?_cons]
      cases (c.filter (on t)).getLast? <;> rfl
    · rw [if_neg h, if_neg h]
theorem now_nG (c : List Pc) (t : Rat) : nowf c t = nG t none c := by
  rw [nG_now, Option.or_none]
  rfl
theorem on_le {t : Rat} {p q : Pc} (h : on t q = true) (l : p.s < q.s) : on t p = true := by
  unfold on at h ⊢
  have : ¬ t < q.s := by simpa using h
  have : ¬ t < p.s := by grind
  simpa using this
theorem nG_tlG (t : Rat) : ∀ (c : List Pc) (p : Pc) (d : Option Rat), AscP (p :: c) → (∀ q ∈ c, on t q = true → d = some (vl t p)) → nG t d (tlG (ky p) c) = nG t d c
  | [], p, d, _, _ => rfl
  | q :: c, p, d, a, h => by
    have a1 : AscP (q :: c) := (List.pairwise_cons.mp a).2
    have a2 : AscP (p :: c) := a.sublist ((List.sublist_cons_self q c).cons₂ p)
    by_cases g : ky q = ky p
    · rw [tlG, if_pos g]
      have e : (if on t q = true then some (vl t q) else d) = d := by
        split
        · rename_i o
          rw [h q (List.mem_cons_self ..) o, vl_ky g]
        · rfl
      show _ = nG t (if on t q = true then some (vl t q) else d) c
      rw [e]
      exact nG_tlG t c p d a2 fun x hx => h x (List.mem_cons_of_mem _ hx)
    · rw [tlG, if_neg g]
      show nG t (if on t q = true then some (vl t q) else d) (tlG (ky q) c) = nG t (if on t q = true then some (vl t q) else d) c
      refine nG_tlG t c q _ a1 fun x hx o => ?_
      rw [if_pos (on_le o ((List.pairwise_cons.mp a1).1 x hx))]
theorem now_tl {c : List Pc} (ok : Cok c) (t : Rat) : nowf (tl c) t = nowf c t := by
  rw [now_nG, now_nG]
  cases c with
  | nil => rfl
  | cons p c =>
    show nG t (if on t p = true then some (vl t p) else none) (tlG (ky p) c) = nG t (if on t p = true then some (vl t p) else none) c
    refine nG_tlG t c p _ (ascP_of ok) fun x hx o => ?_
    rw [if_pos (on_le o ((List.pairwise_cons.mp (ascP_of ok)).1 x hx))]
theorem now_at {c : List Pc} (ok : Cok c) {t : Rat} {k : Nat} {p : Pc} (e : c[k]? = some p) (h1 : ¬ t < p.s) (h2 : ∀ q, c[k + 1]? = some q → t < q.s) : nowf c t = some (vl t p) := by
  have hk := (List.getElem?_eq_some_iff.mp e).1
  have ef : c.filter (on t) = c.take (k + 1) := filter_take _ fun i x hx => by
    unfold on
    constructor
    · intro z
      refine Nat.lt_of_not_le fun g => ?_
      have hk1 : k + 1 < c.length := by have := (List.getElem?_eq_some_iff.mp hx).1; omega
      have e3 : c[k + 1]? = some c[k + 1] := List.getElem?_eq_getElem hk1
      have h4 := h2 _ e3
      have : c[k + 1].s ≤ x.s := by
        by_cases g5 : k + 1 = i
        · subst g5
          rw [e3] at hx
          cases hx
          exact Rat.le_refl
        · have := cok_lt ok (show k + 1 < i by omega) e3 hx
          grind
      have : t < x.s := by grind
      simp [this] at z
    · intro z
      have : x.s ≤ p.s := by
        by_cases g5 : i = k
        · subst g5
          rw [e] at hx
          cases hx
          exact Rat.le_refl
        · have := cok_lt ok (show i < k by omega) hx e
          grind
      have : ¬ t < x.s := by grind
      simp [this]
  unfold nowf
  rw [ef, List.getLast?_eq_getElem?, List.length_take, List.getElem?_take]
  have e1 : min (k + 1) c.length - 1 = k := by omega
  rw [e1, if_pos (by omega), e]
  rfl
/-! ### pieces that continue -/
def goes (c : List Pc) (i : Nat) : Bool := match i with
  | 0 => false
  | j + 1 => match c[j]?, c[j + 1]? with
    | some p, some q => decide (ky q = ky p)
    | _, _ => false
theorem goes_succ (c : List Pc) (j : Nat) : goes c (j + 1) = match c[j]?, c[j + 1]? with
    | some p, some q => decide (ky q = ky p)
    | _, _ => false := rfl
theorem goes_at {c : List Pc} {j : Nat} {p q : Pc} (e1 : c[j]? = some p) (e2 : c[j + 1]? = some q) : goes c (j + 1) = decide (ky q = ky p) := by
  rw [goes_succ, e1, e2]
def gl (c : List Pc) (n : Nat) : List Nat := (List.range n).filter (goes c)
theorem gl_succ (c : List Pc) (n : Nat) : gl c (n + 1) = gl c n ++ if goes c n = true then [n] else [] := by
  unfold gl
  rw [List.range_succ, List.filter_append]
  congr 1
  by_cases h : goes c n = true <;> simp [h]
def Nc : Rat × Rat → List Pc → Prop
  | _, [] => True
  | k, q :: c => ky q ≠ k ∧ Nc (ky q) c
theorem nc_tlG : ∀ (c : List Pc) (k : Rat × Rat), Nc k (tlG k c)
  | [], k => trivial
  | q :: c, k => by
    rw [tlG]
    split
    · exact nc_tlG c k
    · rename_i h
      exact ⟨h, nc_tlG c (ky q)⟩
theorem nc_at : ∀ (c : List Pc) (p : Pc), Nc (ky p) c → ∀ i x y, (p :: c)[i]? = some x → (p :: c)[i + 1]? = some y → ky y ≠ ky x
  | [], p, _, i, x, y, _, e2 => by simp at e2
  | q :: c, p, h, 0, x, y, e1, e2 => by
    simp at e1 e2
    subst e1 e2
    exact h.1
  | q :: c, p, h, i + 1, x, y, e1, e2 => nc_at c q h.2 i x y (by simpa using e1) (by simpa using e2)
theorem goes_tl (c : List Pc) (i : Nat) : goes (tl c) i = false := by
  cases i with
  | zero => rfl
  | succ j =>
    rw [goes_succ]
    cases e1 : (tl c)[j]? with
    | none => rfl
    | some x =>
      cases e2 : (tl c)[j + 1]? with
      | none => rfl
      | some y =>
        cases c with
        | nil => simp [tl] at e1
        | cons p c => exact dF (nc_at _ p (nc_tlG c (ky p)) j x y e1 e2)
theorem gl_tl (c : List Pc) (n : Nat) : gl (tl c) n = [] := by
  unfold gl
  rw [List.filter_eq_nil_iff]
  intro i _
  rw [goes_tl]
  exact Bool.false_ne_true
/-! ### a piece more that continues -/
theorem tlG_ins {p x : Pc} (h : ky x = ky p) : ∀ (a b : List Pc) (k : Rat × Rat), tlG k (a ++ p :: x :: b) = tlG k (a ++ p :: b)
  | [], b, k => by
    show tlG k (p :: x :: b) = tlG k (p :: b)
    by_cases g : ky p = k
    · rw [tlG, if_pos g, tlG, if_pos (h.trans g), tlG, if_pos g]
    · rw [tlG, if_neg g, tlG, if_pos h, tlG, if_neg g]
  | y :: a, b, k => by
    show tlG k (y :: (a ++ p :: x :: b)) = tlG k (y :: (a ++ p :: b))
    by_cases g : ky y = k
    · rw [tlG, if_pos g, tlG, if_pos g, tlG_ins h a b k]
    · rw [tlG, if_neg g, tlG, if_neg g, tlG_ins h a b (ky y)]
theorem tl_ins {p x : Pc} (h : ky x = ky p) (a b : List Pc) : tl (a ++ p :: x :: b) = tl (a ++ p :: b) := by
  cases a with
  | nil =>
    show p :: tlG (ky p) (x :: b) = p :: tlG (ky p) b
    rw [tlG, if_pos h]
  | cons y a =>
    show y :: tlG (ky y) (a ++ p :: x :: b) = y :: tlG (ky y) (a ++ p :: b)
    rw [tlG_ins h]
theorem jlG_ins {p x : Pc} (h : ky x = ky p) : ∀ (a b : List Pc) (k : Rat × Rat), jlG k (a ++ p :: x :: b) = jlG k (a ++ p :: b)
  | [], b, k => by
    show jlG k (p :: x :: b) = jlG k (p :: b)
    rw [jlG, jlG, if_pos (jmp0 h), h, jlG]
  | y :: a, b, k => by
    show jlG k (y :: (a ++ p :: x :: b)) = jlG k (y :: (a ++ p :: b))
    rw [jlG, jlG, jlG_ins h a b (ky y)]
theorem jl_ins {p x : Pc} (h : ky x = ky p) (a b : List Pc) : jl (a ++ p :: x :: b) = jl (a ++ p :: b) := by
  cases a with
  | nil =>
    show jlG (ky p) (x :: b) = jlG (ky p) b
    rw [jlG, if_pos (jmp0 h), h]
  | cons y a =>
    show jlG (ky y) (a ++ p :: x :: b) = jlG (ky y) (a ++ p :: b)
    rw [jlG_ins h]
end Vk
namespace Vk
open PySem L2 Vm
variable {l az : Addr} {P : Program} {w : World} {K : PySem.W.Frag} {mg : Str → Option Value} {base : Heap} {k : Nat} {f f1 f2 f3 f4 f5 f6 f7 f8 f9 : Addr} {fd fd1 fd2 fd3 fd4 fd5 fd6 fd7 fd8 fd9 : FuncData}
/-! ### the program's side -/
structure Zr (K : PySem.W.Frag) (mg : Str → Option Value) (az : Addr) : Prop where
  m : mg "ZERO" = some (.ref az)
  q : ∀ H, Rq K H (.ref az) 0
abbrev s_multiply : Stmt := top 40
abbrev N_multiply : List Str := ["a", "b"]
theorem sc_multiply : FnScope N_multiply ["a", "b"] (defScope s_multiply) := ⟨rfl, rfl, rfl, by decide +kernel, rfl, by decide +kernel, by decide +kernel⟩
abbrev ps_multiply : List Str := ["a", "b"]
theorem ok_multiply (F : Fn K mg "multiply" s_multiply ps_multiply f fd) (drational : Def P w K mg base k "rational" ["n", "d"] (spFrac K) f1 fd1) : Def P w K mg base (k + 1) "multiply" ps_multiply (spOp2 K (· * ·)) f fd := by
  refine ⟨F.F.ok sc_multiply (fun vs H Q E h => ?_) (fun cdv A outer s H vs Q E hr h => ?_), F.m, F.F.kp, F.b⟩
  · obtain ⟨x, y, p, q, m, l, rfl, _⟩ := h
    rfl
  obtain ⟨x, y, p, q, m, l, rfl, ⟨a, rfl, ha⟩, ⟨b, rfl, hb⟩, zp, zq, hm, z⟩ := h
  have m0 := nn zp
  have l0 := nn zq
  refine ⟨_, (pss_one (ps_ret (pcall drational hr (pa_cons (pe_op op_mulW (pe_ix ix_tup (pv 0) pe_int (fun _ _ => rfl)) (pe_ix ix_tup (pv 1) pe_int (fun _ _ => rfl))) (pa_cons (pe_op op_mulW (pe_ix ix_tup (pv 0) pe_int (fun _ _ => rfl)) (pe_ix ix_tup (pv 1) pe_int (fun _ _ => rfl))) pa_nil))))), ?_⟩
  refine ⟨_, rfl, a, _, _, _, rfl, rfl, ha, at0 rfl, _, rfl, b, _, _, _, rfl, rfl, hb, at0 rfl, _, _, rfl, rfl, mulW zp.1 zq.1 m0 l0 (by omega), ?_⟩
  refine ⟨_, rfl, a, _, _, _, rfl, rfl, ha, at1 rfl, _, rfl, b, _, _, _, rfl, rfl, hb, at1 rfl, _, _, rfl, rfl, mulW (dA zp) (dA zq) m0 l0 (by omega), ?_⟩
  refine ⟨_, _, m + l, rfl, dd_pos p q, ab_mul zp.1 zq.1, ab_mul (dA zp) (dA zq), by omega, fun r H' e hr => z r H' e ?_⟩
  rw [mk_mul] at hr
  exact hr
abbrev s__shown_by : Stmt := top 48
abbrev N__shown_by : List Str := ["piece", "t", "start", "shown", "rate"]
theorem sc__shown_by : FnScope N__shown_by ["piece", "t"] (defScope s__shown_by) := ⟨rfl, rfl, rfl, by decide +kernel, rfl, by decide +kernel, by decide +kernel⟩
abbrev ps__shown_by : List Str := ["piece", "t"]
def spShown (K : PySem.W.Frag) : Sp := fun vs H Q _ => ∃ (x y : V) (p : Pc) (t : Rat) (i j l m : Nat), vs = [x, y] ∧ Pq K H x p ∧ Rq K H y t ∧ Sz i p.s ∧ Sz j p.v ∧ Sz l p.r ∧ Sz m t ∧ j + l + m + i + 3 ≤ 9000 ∧
  ∀ r H', Same H H' → Rq K H' r (p.v + p.r * (t - p.s)) → Q r H'
theorem ok_shown_by (F : Fn K mg "_shown_by" s__shown_by ps__shown_by f fd) (dadd : Def P w K mg base k "add" ["a", "b"] (spOp2 K (· + ·)) f1 fd1) (dmultiply : Def P w K mg base k "multiply" ["a", "b"] (spOp2 K (· * ·)) f2 fd2) (dsubtract : Def P w K mg base k "subtract" ["a", "b"] (spOp2 K (· - ·)) f3 fd3) :
    Def P w K mg base (k + 1) "_shown_by" ps__shown_by (spShown K) f fd := by
  refine ⟨F.F.ok sc__shown_by (fun vs H Q E h => ?_) (fun cdv A outer s H vs Q E hr h => ?_), F.m, F.F.kp, F.b⟩
  · obtain ⟨x, y, p, q, i, j, l, m, rfl, _⟩ := h
    rfl
  obtain ⟨x, y, p, t, i, j, l, m, rfl, ⟨a, xs, xv, xr, rfl, ha, hs, hv, hr'⟩, hy, zs, zv, zr, zt, hb, z⟩ := h
  refine ⟨_, (pss_cons (ps_asg (pv 0) (pg_tup rfl (pgs_cons (pg_name (i := 2) sc__shown_by.nd rfl (Or.inl rfl)) (pgs_cons (pg_name (i := 3) sc__shown_by.nd rfl (Or.inl rfl)) (pgs_cons (pg_name (i := 4) sc__shown_by.nd rfl (Or.inl rfl)) pgs_nil)))))
      (pss_one (ps_ret (pcall dadd hr (pa_cons (pv 3) (pa_cons (pcall dmultiply hr (pa_cons (pv 4) (pa_cons (pcall dsubtract hr (pa_cons (pv 1) (pa_cons (pv 2) pa_nil))) pa_nil))) pa_nil)))))), ?_⟩
  refine ⟨_, rfl, a, _, rfl, ha, rfl, _, _, rfl, _, _, rfl, _, _, rfl, rfl, ?_⟩
  refine ⟨_, rfl, _, rfl, _, rfl, _, rfl, _, _, t, p.s, m, i, rfl, hy, hs, zt, zs, by omega, fun r1 H1 e1 h1 => ?_⟩
  refine ⟨_, _, p.r, t - p.s, l, m + i + 1, rfl, hr'.same e1, h1, zr, zt.sub zs, by omega, fun r2 H2 e2 h2 => ?_⟩
  exact ⟨_, _, p.v, p.r * (t - p.s), j, l + (m + i + 1), rfl, hv.same (e1.trans e2), h2, zv, zr.mul (zt.sub zs), by omega, fun r3 H3 e3 h3 => z _ _ (e1.trans (e2.trans e3)) h3⟩
abbrev s__jump_at : Stmt := top 52
abbrev N__jump_at : List Str := ["course", "at", "piece"]
theorem sc__jump_at : FnScope N__jump_at ["course", "at"] (defScope s__jump_at) := ⟨rfl, rfl, rfl, by decide +kernel, rfl, by decide +kernel, by decide +kernel⟩
abbrev ps__jump_at : List Str := ["course", "at"]
def spJumpAt (K : PySem.W.Frag) : Sp := fun vs H Q _ => ∃ (a : Addr) (n : Nat) (c : List Pc) (p q : Pc) (i j l : Nat), vs = [.ref a, .int ((n + 1 : Nat) : Int)] ∧ Cq K H a c ∧ c[n]? = some p ∧ c[n + 1]? = some q ∧ Cz i j l c ∧ j + j + l + i + i + 5 ≤ 9000 ∧
  ∀ r H', Same H H' → Rq K H' r (jmp (ky p) q) → Q r H'
theorem ok_jump_at (F : Fn K mg "_jump_at" s__jump_at ps__jump_at f fd) (dsubtract : Def P w K mg base k "subtract" ["a", "b"] (spOp2 K (· - ·)) f1 fd1) (d_shown_by : Def P w K mg base k "_shown_by" ["piece", "t"] (spShown K) f2 fd2) :
    Def P w K mg base (k + 1) "_jump_at" ps__jump_at (spJumpAt K) f fd := by
  refine ⟨F.F.ok sc__jump_at (fun vs H Q E h => ?_) (fun cdv A outer s H vs Q E hr h => ?_), F.m, F.F.kp, F.b⟩
  · obtain ⟨_, _, _, _, _, _, _, _, rfl, _⟩ := h
    rfl
  obtain ⟨a, n, c, p, q, i, j, l, rfl, ⟨xs, hx, hc⟩, e1, e2, cz, hb, z⟩ := h
  refine ⟨_, (pss_cons (ps_set (i := 2) sc__jump_at.nd rfl (Or.inl rfl) (pe_ix ix_list (pv 0) (pv 1) (fun _ _ => rfl)))
      (pss_one (ps_ret (pcall dsubtract hr (pa_cons (pe_ix ix_tup (pv 2) pe_int (fun _ _ => rfl)) (pa_cons (pcall d_shown_by hr (pa_cons (pe_ix ix_list (pv 0) (pe_op op_sub (pv 1) pe_int) (fun _ _ => rfl)) (pa_cons (pe_ix ix_tup (pv 2) pe_int (fun _ _ => rfl)) pa_nil))) pa_nil)))))), ?_⟩
  obtain ⟨zs1, zv1, zr1⟩ := cz p (List.mem_of_getElem? e1)
  obtain ⟨zs2, zv2, zr2⟩ := cz q (List.mem_of_getElem? e2)
  obtain ⟨x1, hx1, pp⟩ := hc.at e1
  obtain ⟨x2, hx2, pq⟩ := hc.at e2
  obtain ⟨b, bs, bv, br, rfl, hb2, r1, r2, r3⟩ := pq
  refine ⟨_, rfl, _, rfl, a, _, _, _, rfl, rfl, hx, at_of (j := n + 1) rfl hx2, ?_⟩
  refine ⟨_, rfl, b, _, _, _, rfl, rfl, hb2, at1 rfl, _, rfl, _, rfl, _, _, rfl, rfl, a, _, _, _, rfl, rfl, hx, at_of (j := n) (by omega) hx1, _, rfl, b, _, _, _, rfl, rfl, hb2, at0 rfl, ?_⟩
  refine ⟨_, _, p, q.s, i, j, l, i, rfl, pp, r1, zs1, zv1, zr1, zs2, by omega, fun w1 H1 s1 g1 => ?_⟩
  refine ⟨_, _, q.v, _, j, j + (l + (i + i + 1)) + 1, rfl, r2.same s1, g1, zv2, zv1.add (zr1.mul (zs2.sub zs1)), by omega, fun w2 H2 s2 g2 => z _ _ (s1.trans s2) ?_⟩
  rw [← jmp_at]
  exact g2
/-- a start and a jump -/
def Jq (K : PySem.W.Frag) (H : Hp) (x : V) (p : Rat × Rat) : Prop := ∃ a xs xj, x = .ref a ∧ SqT K H a [xs, xj] ∧ Rq K H xs p.1 ∧ Rq K H xj p.2
theorem Jq.same {H H' : Hp} {x : V} {p : Rat × Rat} (e : Same H H') (h : Jq K H x p) : Jq K H' x p := by
  obtain ⟨a, xs, xj, rfl, h, h1, h2⟩ := h
  exact ⟨a, xs, xj, rfl, e.sqt h, h1.same e, h2.same e⟩
theorem Jq.fr {s : Addr} {H H' : Hp} {x : V} {p : Rat × Rat} (e : Fr s H H') (hs : ∃ ys, H s = some (.lst ys)) (h : Jq K H x p) : Jq K H' x p := by
  obtain ⟨a, xs, xj, rfl, h, h1, h2⟩ := h
  exact ⟨a, xs, xj, rfl, sqt_fr e hs h, h1.fr e hs, h2.fr e hs⟩
def djp (p : Rat × Rat) : PyData := .tuple [dq p.1, dq p.2]
theorem Jq.dp {H : Hp} {v : V} {p : Rat × Rat} (h : Jq K H v p) : Dp K H v (djp p) := by
  obtain ⟨a, xs, xj, rfl, h, h1, h2⟩ := h
  exact .tup h (.cons h1.dp (.cons h2.dp .nil))
theorem jl_len (c : List Pc) : (jl c).length ≤ c.length := by
  have g : ∀ (c : List Pc) k, (jlG k c).length ≤ c.length := fun c => by
    induction c with
    | nil => exact fun _ => Nat.le_refl _
    | cons q c ih =>
      intro k
      have := ih (ky q)
      rw [jlG]
      split
      · rw [List.length_cons]; omega
      · rw [List.length_cons, List.length_cons]; omega
  cases c with
  | nil => exact Nat.le_refl _
  | cons p c =>
    have := g c (ky p)
    show (jlG (ky p) c).length ≤ _
    rw [List.length_cons]
    omega
def spJumps (K : PySem.W.Frag) : Sp := fun vs H Q _ => ∃ (a : Addr) (c : List Pc) (i j l : Nat), vs = [.ref a] ∧ Cq K H a c ∧ Cz i j l c ∧ 1 ≤ c.length ∧ c.length ≤ 900 ∧ j + j + l + i + i + 5 ≤ 9000 ∧
  ∀ D us H', Same H H' → H D = none → H' D = some (.lst us) → All2 (Jq K H') us (jl c) → Q (.ref D) H'
abbrev s_tidy : Stmt := top 53
abbrev N_tidy : List Str := ["course", "kept", "at"]
theorem sc_tidy : FnScope N_tidy ["course"] (defScope s_tidy) := ⟨rfl, rfl, rfl, by decide +kernel, rfl, by decide +kernel, by decide +kernel⟩
abbrev ps_tidy : List Str := ["course"]
def spTidy (K : PySem.W.Frag) : Sp := fun vs H Q _ => ∃ (a : Addr) (c : List Pc) (i j l : Nat), vs = [.ref a] ∧ Cq K H a c ∧ Cz i j l c ∧ 1 ≤ c.length ∧ c.length ≤ 900 ∧ j + j + l + i + i + 5 ≤ 9000 ∧
  ∀ D us H', Same H H' → H D = none → Ct K H' D us (tl c) → Q (.ref D) H'
end Vk
namespace Vk
open PySem L2 Vm
variable {l az : Addr} {P : Program} {w : World} {K : PySem.W.Frag} {mg : Str → Option Value} {base : Heap} {k : Nat} {f f1 f2 f3 f4 f5 f6 f7 f8 f9 : Addr} {fd fd1 fd2 fd3 fd4 fd5 fd6 fd7 fd8 fd9 : FuncData}
theorem num0 (q : Rat) : (V.int q.num = V.int 0) ↔ q = 0 := by
  constructor
  · intro h
    exact Rat.num_eq_zero.mp (V.int.inj h)
  · intro h
    rw [h]
    rfl
def spJD (K : PySem.W.Frag) : Sp := fun vs H Q _ => ∃ (a : Addr) (c : List Pc) (i j l : Nat), vs = [.ref a] ∧ Cq K H a c ∧ Cok c ∧ Cz i j l c ∧ 1 ≤ c.length ∧ c.length ≤ 900 ∧ i + j + l ≤ 500 ∧
  ∀ D us H', Same H H' → H D = none → H' D = some (.lst us) → All2 (Jq K H') us (jl c) → Q (.ref D) H'
def nV (n : Nat) : V := .int (n : Int)
def spCont (K : PySem.W.Frag) : Sp := fun vs H Q _ => ∃ (a : Addr) (c : List Pc) (i j l : Nat), vs = [.ref a] ∧ Cq K H a c ∧ Cok c ∧ Cz i j l c ∧ 1 ≤ c.length ∧ c.length ≤ 900 ∧ i + j + l ≤ 500 ∧
  ∀ D H', Same H H' → H D = none → H' D = some (.lst ((gl c c.length).map nV)) → Q (.ref D) H'
def spIsC (K : PySem.W.Frag) : Sp := fun vs H Q _ => ∃ (a : Addr) (c : List Pc) (i j l : Nat), vs = [.ref a] ∧ Cq K H a c ∧ Cok c ∧ Cz i j l c ∧ 1 ≤ c.length ∧ c.length ≤ 900 ∧ i + j + l ≤ 500 ∧ ∀ H', Same H H' → Q (.bl true) H'
end Vk
namespace Vk
open PySem L2 Vm
variable {l az : Addr} {P : Program} {w : World} {K : PySem.W.Frag} {mg : Str → Option Value} {base : Heap} {k : Nat} {f f1 f2 f3 f4 f5 f6 f7 f8 f9 : Addr} {fd fd1 fd2 fd3 fd4 fd5 fd6 fd7 fd8 fd9 : FuncData}
def spOrd8 (K : PySem.W.Frag) : Sp := fun vs H Q _ => ∃ (a : Addr) (xs : List V) (qs : List Rat) (m : Nat), vs = [.ref a] ∧ SqL K H a xs ∧ All2 (Rq K H) xs qs ∧ (∀ q ∈ qs, Sz m q) ∧ m ≤ 4000 ∧ qs.length ≤ 900 ∧
  ∀ D us os H', Same H H' → H D = none → H' D = some (.lst us) → All2 (Rq K H') us os → Asc os → (∀ o ∈ os, o ∈ qs) → os.length ≤ qs.length → (∀ q ∈ qs, q ∈ os) → Q (.ref D) H'
/-- a start and None -/
def Sn (K : PySem.W.Frag) (H : Hp) (x : V) (q : Rat) : Prop := ∃ a xs, x = .ref a ∧ SqT K H a [xs, .non] ∧ Rq K H xs q
theorem Sn.same {H H' : Hp} {x : V} {q : Rat} (e : Same H H') (h : Sn K H x q) : Sn K H' x q := by
  obtain ⟨a, xs, rfl, h, h1⟩ := h
  exact ⟨a, xs, rfl, e.sqt h, h1.same e⟩
theorem Sn.fr {s : Addr} {H H' : Hp} {x : V} {q : Rat} (e : Fr s H H') (hs : ∃ ys, H s = some (.lst ys)) (h : Sn K H x q) : Sn K H' x q := by
  obtain ⟨a, xs, rfl, h, h1⟩ := h
  exact ⟨a, xs, rfl, sqt_fr e hs h, h1.fr e hs⟩
def spProbes (K : PySem.W.Frag) : Sp := fun vs H Q _ => ∃ (a : Addr) (xs : List V) (qs : List Rat) (m : Nat), vs = [.ref a] ∧ SqL K H a xs ∧ All2 (Sn K H) xs qs ∧ (∀ q ∈ qs, Sz m q) ∧ m ≤ 500 ∧ 1 ≤ qs.length ∧ qs.length ≤ 100 ∧
  ∀ D us ts H', Same H H' → H D = none → H' D = some (.lst us) → All2 (Rq K H') us ts → (∀ t ∈ ts, Sz (m + m + 4) t) → (∃ t ∈ ts, ∀ q ∈ qs, q < t) → ts.length ≤ 400 → Q (.ref D) H'
end Vk
namespace Vk
open PySem L2 Vm
variable {l az : Addr} {P : Program} {w : World} {K : PySem.W.Frag} {mg : Str → Option Value} {base : Heap} {k : Nat} {f f1 f2 f3 f4 f5 f6 f7 f8 f9 : Addr} {fd fd1 fd2 fd3 fd4 fd5 fd6 fd7 fd8 fd9 : FuncData}
/-! ### rationals over a common denominator -/
def Fx (M B : Nat) (q : Rat) : Prop := ∃ z : Int, q * (M : Rat) = (z : Rat) ∧ z.natAbs ≤ M * B
theorem Fx.mono {M B C : Nat} {q : Rat} (h : Fx M B q) (l : B ≤ C) : Fx M C q := by
  obtain ⟨z, e, hz⟩ := h
  exact ⟨z, e, Nat.le_trans hz (Nat.mul_le_mul_left M l)⟩
theorem Fx.add {M B C : Nat} {p q : Rat} (h : Fx M B p) (g : Fx M C q) : Fx M (B + C) (p + q) := by
  obtain ⟨z, e, hz⟩ := h
  obtain ⟨y, d, hy⟩ := g
  refine ⟨z + y, by rw [Rat.add_mul, e, d, Rat.intCast_add], ?_⟩
  rw [Nat.mul_add]
  omega
theorem Fx.neg {M B : Nat} {p : Rat} (h : Fx M B p) : Fx M B (-p) := by
  obtain ⟨z, e, hz⟩ := h
  exact ⟨-z, by rw [Rat.neg_mul, e, Rat.intCast_neg], by rw [Int.natAbs_neg]; exact hz⟩
theorem Fx.sub {M B C : Nat} {p q : Rat} (h : Fx M B p) (g : Fx M C q) : Fx M (B + C) (p - q) := by
  rw [Rat.sub_eq_add_neg]
  exact h.add g.neg
theorem Fx.mul {M N B C : Nat} {p q : Rat} (h : Fx M B p) (g : Fx N C q) : Fx (M * N) (B * C) (p * q) := by
  obtain ⟨z, e, hz⟩ := h
  obtain ⟨y, d, hy⟩ := g
  refine ⟨z * y, ?_, ?_⟩
  · rw [Rat.intCast_mul, ← e, ← d, Rat.natCast_mul]
    grind
  · rw [Int.natAbs_mul]
    calc z.natAbs * y.natAbs ≤ (M * B) * (N * C) := Nat.mul_le_mul hz hy
      _ = (M * N) * (B * C) := by grind
theorem Fx.lift {M B : Nat} {q : Rat} (N : Nat) (h : Fx M B q) : Fx (M * N) B q := by
  obtain ⟨z, e, hz⟩ := h
  refine ⟨z * (N : Int), ?_, ?_⟩
  · rw [Rat.intCast_mul, ← e, Rat.natCast_mul]
    have : (((N : Int)) : Rat) = (N : Rat) := rfl
    rw [this]
    grind
  · rw [Int.natAbs_mul, Int.natAbs_natCast]
    calc z.natAbs * N ≤ (M * B) * N := Nat.mul_le_mul_right N hz
      _ = (M * N) * B := by grind
theorem Fx.half {M B : Nat} {q : Rat} (h : Fx M B q) : Fx (M * 2) B (q * mkRat 1 2) := by
  obtain ⟨z, e, hz⟩ := h
  have eh : mkRat 1 2 = (1 : Rat) / 2 := by decide +kernel
  refine ⟨z, ?_, ?_⟩
  · rw [← e, eh, Rat.natCast_mul]
    have : ((2 : Nat) : Rat) = 2 := rfl
    rw [this]
    grind
  · have : M * 2 * B = M * B + M * B := by grind
    omega
theorem Fx.sz {M B k : Nat} {q : Rat} (h : Fx M B q) (m0 : M ≠ 0) (hb : M * B < 2 ^ k) (hm : M < 2 ^ k) : Sz k q := by
  obtain ⟨z, e, hz⟩ := h
  have mr : ((M : Nat) : Rat) ≠ 0 := by
    intro h
    exact m0 (by exact_mod_cast h)
  have eq : q = mkRat z M := by
    rw [Rat.mkRat_eq_div]
    have : (((M : Int)) : Rat) = (M : Rat) := rfl
    rw [← e]
    grind
  rw [eq]
  exact sz_mk m0 (by omega) hm
/-- what each number below 32 divides -/
def LL : Nat := 72201776446800
theorem LL_dvd : ∀ d, d < 32 → 0 < d → d ∣ LL := by decide +kernel
theorem fx5 {q : Rat} (h : Sz 5 q) : Fx LL 31 q := by
  have p5 : (2 : Nat) ^ 5 = 32 := by decide
  have h1 := h.1
  have h2 := h.2
  rw [p5] at h1 h2
  obtain ⟨m, hm⟩ := LL_dvd q.den h2 q.den_pos
  refine ⟨q.num * (m : Int), ?_, ?_⟩
  · have e : q * (q.den : Rat) = (q.num : Rat) := by
      have d := Rat.mkRat_eq_div q.num q.den
      rw [Rat.mkRat_self] at d
      have nz : ((q.den : Nat) : Rat) ≠ 0 := by
        intro h
        exact q.den_nz (by exact_mod_cast h)
      have e2 : ((q.den : Int) : Rat) = (q.den : Rat) := rfl
      generalize ((q.den : Nat) : Rat) = x at d nz ⊢
      generalize ((q.num : Int) : Rat) = y at d ⊢
      grind
    rw [hm, Rat.natCast_mul, Rat.intCast_mul, ← e]
    have : (((m : Int)) : Rat) = (m : Rat) := rfl
    rw [this]
    grind
  · rw [Int.natAbs_mul, Int.natAbs_natCast]
    have : m ≤ LL := Nat.le_of_dvd (by decide) ⟨q.den, by rw [hm, Nat.mul_comm]⟩
    calc q.num.natAbs * m ≤ 31 * LL := Nat.mul_le_mul (by omega) this
      _ = LL * 31 := Nat.mul_comm _ _
theorem Fx.szL {B : Nat} {q : Rat} (h : Fx LL B q) (l : B ≤ 1300) : Sz 62 q := (h.mono l).sz (by decide) (by decide +kernel) (by decide +kernel)
theorem Fx.szW {B : Nat} {q : Rat} (h : Fx (LL * LL) B q) (l : B ≤ 50000) : Sz 115 q := (h.mono l).sz (by decide +kernel) (by decide +kernel) (by decide +kernel)
/-- a course's sizes, cut n times -/
def Fz (n : Nat) (c : List Pc) : Prop := ∀ p ∈ c, Fx (LL * 2 ^ n) (1300 + 40 * n) p.s ∧ Fx (LL * LL * 2 ^ n) (50000 + 100000 * n) p.v ∧ Sz 5 p.r
theorem Fz.snoc {n : Nat} {c : List Pc} {x : Pc} (h : Fz n c) (z : Fx (LL * 2 ^ n) (1300 + 40 * n) x.s ∧ Fx (LL * LL * 2 ^ n) (50000 + 100000 * n) x.v ∧ Sz 5 x.r) : Fz n (c ++ [x]) := fun p hp => by
  rcases List.mem_append.mp hp with hp | hp
  · exact h p hp
  · rw [List.mem_singleton.mp hp]
    exact z
theorem fz0 {s v r : Rat} (h1 : Fx LL 1300 s) (h2 : Fx (LL * LL) 50000 v) (h3 : Sz 5 r) : Fx (LL * 2 ^ 0) (1300 + 40 * 0) s ∧ Fx (LL * LL * 2 ^ 0) (50000 + 100000 * 0) v ∧ Sz 5 r := by
  refine ⟨?_, ?_, h3⟩
  · rw [Nat.pow_zero, Nat.mul_one]; exact h1
  · rw [Nat.pow_zero, Nat.mul_one]; exact h2
theorem fzz_s {n : Nat} (h : n ≤ 4) {q : Rat} (z : Fx (LL * 2 ^ n) (1300 + 40 * n) q) : Sz 62 q := by
  have h16 : 2 ^ n ≤ 16 := by
    have := Nat.pow_le_pow_right (show 0 < 2 by decide) h
    exact this
  have hn : (2 : Nat) ^ n ≠ 0 := by have := Nat.two_pow_pos n; omega
  have hm : LL * 2 ^ n ≤ LL * 16 := Nat.mul_le_mul_left _ h16
  refine (z.mono (show 1300 + 40 * n ≤ 1500 by omega)).sz (Nat.mul_ne_zero (by decide) hn) (Nat.lt_of_le_of_lt (Nat.mul_le_mul_right 1500 hm) (by decide +kernel)) (Nat.lt_of_le_of_lt hm (by decide +kernel))
theorem fzz_v {n : Nat} (h : n ≤ 4) {q : Rat} (z : Fx (LL * LL * 2 ^ n) (50000 + 100000 * n) q) : Sz 115 q := by
  have h16 : 2 ^ n ≤ 16 := by
    have := Nat.pow_le_pow_right (show 0 < 2 by decide) h
    exact this
  have hn : (2 : Nat) ^ n ≠ 0 := by have := Nat.two_pow_pos n; omega
  have hm : LL * LL * 2 ^ n ≤ LL * LL * 16 := Nat.mul_le_mul_left _ h16
  refine (z.mono (show 50000 + 100000 * n ≤ 450000 by omega)).sz (Nat.mul_ne_zero (by decide +kernel) hn) (Nat.lt_of_le_of_lt (Nat.mul_le_mul_right 450000 hm) (by decide +kernel)) (Nat.lt_of_le_of_lt hm (by decide +kernel))
theorem Fz.cz {n : Nat} {c : List Pc} (h : n ≤ 4) (z : Fz n c) : Cz 62 115 5 c := fun p hp => ⟨fzz_s h (z p hp).1, fzz_v h (z p hp).2.1, (z p hp).2.2⟩
def spCourse8 (K : PySem.W.Frag) (l : Addr) : Sp := fun vs H Q _ => ∃ (s : Addr) (many : Nat) (fall : Bool), vs = [.ref s, .int many, .bl fall] ∧ Sto l s H ∧ many ≤ 40 ∧
  ∀ D us c H', Bun (Pq K) l s D H us c H' → c.length = many → Cok c → Fz 0 c → Q (.ref D) H'
end Vk
namespace Vk
open PySem L2 Vm Vs
variable {l az : Addr} {P : Program} {w : World} {K : PySem.W.Frag} {mg : Str → Option Value} {base : Heap} {k : Nat} {f f1 f2 f3 f4 f5 f6 f7 f8 f9 : Addr} {fd fd1 fd2 fd3 fd4 fd5 fd6 fd7 fd8 fd9 : FuncData}
/-! ### ends and spans -/
def OSz (m : Nat) (o : Option Rat) : Prop := ∀ q, o = some q → Sz m q
def SSz (m : Nat) (s : Spn) : Prop := OSz m s.1 ∧ OSz m s.2
theorem optV.same {H H' : Hp} {v : V} {o : Option Rat} (e : Same H H') (h : optV K H v o) : optV K H' v o := by
  cases o with
  | none => exact h
  | some q => exact Rq.same e h
theorem optV.fr {s : Addr} {H H' : Hp} {v : V} {o : Option Rat} (e : Fr s H H') (hs : ∃ ys, H s = some (.lst ys)) (h : optV K H v o) : optV K H' v o := by
  cases o with
  | none => exact h
  | some q => exact Rq.fr e hs h
def Spq (K : PySem.W.Frag) (H : Hp) (x : V) (s : Spn) : Prop := ∃ a u v, x = .ref a ∧ SqT K H a [u, v] ∧ optV K H u s.1 ∧ optV K H v s.2
theorem Spq.same {H H' : Hp} {x : V} {s : Spn} (e : Same H H') (h : Spq K H x s) : Spq K H' x s := by
  obtain ⟨a, u, v, rfl, h, h1, h2⟩ := h
  exact ⟨a, u, v, rfl, e.sqt h, h1.same e, h2.same e⟩
theorem Spq.fr {s : Addr} {H H' : Hp} {x : V} {p : Spn} (e : Fr s H H') (hs : ∃ ys, H s = some (.lst ys)) (h : Spq K H x p) : Spq K H' x p := by
  obtain ⟨a, u, v, rfl, h, h1, h2⟩ := h
  exact ⟨a, u, v, rfl, sqt_fr e hs h, h1.fr e hs, h2.fr e hs⟩
def oSp (K : PySem.W.Frag) (H : Hp) (x : V) : Option Spn → Prop
  | none => x = .non
  | some s => Spq K H x s
theorem oSp.same {H H' : Hp} {x : V} {o : Option Spn} (e : Same H H') (h : oSp K H x o) : oSp K H' x o := by
  cases o with
  | none => exact h
  | some q => exact Spq.same e h
theorem osz_max {m : Nat} {a b : Option Rat} (h : OSz m a) (g : OSz m b) : OSz m (maxO a b) := by
  cases a with
  | none => exact g
  | some p => cases b with
    | none => exact h
    | some q =>
      intro r e
      simp only [maxO] at e
      cases Option.some.inj e
      split
      · exact h _ rfl
      · exact g _ rfl
theorem osz_min {m : Nat} {a b : Option Rat} (h : OSz m a) (g : OSz m b) : OSz m (minO a b) := by
  cases a with
  | none => exact g
  | some p => cases b with
    | none => exact h
    | some q =>
      intro r e
      simp only [minO] at e
      cases Option.some.inj e
      split
      · exact h _ rfl
      · exact g _ rfl
theorem osz_mov {m j : Nat} {o : Option Rat} {d : Rat} (h : OSz m o) (g : Sz j d) : OSz (m + j + 1) (movO o d) := by
  cases o with
  | none => nofun
  | some q => intro r e; cases Option.some.inj e; exact (h _ rfl).add g
theorem osz_neg {m : Nat} {o : Option Rat} (h : OSz m o) : OSz m (negO o) := by
  cases o with
  | none => nofun
  | some q => intro r e; cases Option.some.inj e; exact (h _ rfl).neg
theorem osz_up {m j : Nat} {o : Option Rat} (h : OSz m o) (e : m ≤ j) : OSz j o := fun q g => (h q g).mono e
theorem ssz_meet {m : Nat} {a b s : Spn} (h : SSz m a) (g : SSz m b) (e : meetO a b = some s) : SSz m s := by
  unfold meetO at e
  split at e
  · cases e
  · cases e
    exact ⟨osz_max h.1 g.1, osz_min h.2 g.2⟩
theorem ssz_off {x y : Rat} {i j : Nat} {fo ba s : Spn} (hx : Sz j x) (hy : Sz j y) (h : SSz i fo) (g : SSz i ba) (e : offO x y fo ba = some s) : SSz (i + j + 1) s :=
  ssz_meet ⟨osz_mov (osz_neg h.2) hx, osz_mov (osz_neg h.1) hx⟩ ⟨osz_mov g.1 hy, osz_mov g.2 hy⟩ e
/-- the written half -/
structure Hf (K : PySem.W.Frag) (mg : Str → Option Value) (az : Addr) : Prop where
  m : mg "HALF" = some (.ref az)
  q : ∀ H, Rq K H (.ref az) (1 / 2)
/-! ### the lesser and the greater one -/
def spSel (K : PySem.W.Frag) (g : Rat → Rat → Rat) : Sp := fun vs H Q _ => ∃ (x y : V) (p q : Rat) (m l : Nat), vs = [x, y] ∧ Rq K H x p ∧ Rq K H y q ∧ Sz m p ∧ Sz l q ∧ m + l + 1 ≤ 9000 ∧ ∀ v, Rq K H v (g p q) → Q v H
theorem sg_le {p q : Rat} : sg p q ≤ 0 ↔ p ≤ q := by
  unfold sg
  split
  · rename_i h
    subst h
    simp [Rat.le_refl]
  · split
    · rename_i h1 h2
      exact ⟨fun _ => by grind, fun _ => by omega⟩
    · rename_i h1 h2
      exact ⟨fun h => by omega, fun h => absurd h (by grind)⟩
abbrev s_smaller : Stmt := top 45
abbrev N_smaller : List Str := ["a", "b"]
theorem sc_smaller : FnScope N_smaller ["a", "b"] (defScope s_smaller) := ⟨rfl, rfl, rfl, by decide +kernel, rfl, by decide +kernel, by decide +kernel⟩
abbrev ps_smaller : List Str := ["a", "b"]
theorem ok_smaller (F : Fn K mg "smaller" s_smaller ps_smaller f fd) (dcompare : Def P w K mg base k "compare" ["a", "b"] (spTest2 K fun p q => .int (sg p q)) f1 fd1) : Def P w K mg base (k + 1) "smaller" ps_smaller (spSel K fun p q => if p ≤ q then p else q) f fd := by
  refine ⟨F.F.ok sc_smaller (fun vs H Q E h => ?_) (fun cdv A outer s H vs Q E hr h => ?_), F.m, F.F.kp, F.b⟩
  · obtain ⟨x, y, p, q, m, l, rfl, _⟩ := h
    rfl
  obtain ⟨x, y, p, q, m, l, rfl, ha, hb, zp, zq, hm, z⟩ := h
  refine ⟨_, (pss_one (ps_ret (pe_ifExp (pt_cmpR op_le (pcall dcompare hr (pa_cons (pv 0) (pa_cons (pv 1) pa_nil))) pe_int (nomark _)) (pv 0) (pv 1)))), ?_⟩
  refine ⟨_, rfl, _, rfl, x, y, p, q, m, l, rfl, ha, hb, zp, zq, by omega, _, _, rfl, rfl, _, rfl, ifD (fun c => ⟨_, rfl, z _ ?_⟩) (fun c => ⟨_, rfl, z _ ?_⟩)⟩
  · dsimp only; rw [if_pos (sg_le.mp c)]; exact ha
  · dsimp only; rw [if_neg (fun e => c (sg_le.mpr e))]; exact hb
abbrev s_larger : Stmt := top 46
abbrev N_larger : List Str := ["a", "b"]
theorem sc_larger : FnScope N_larger ["a", "b"] (defScope s_larger) := ⟨rfl, rfl, rfl, by decide +kernel, rfl, by decide +kernel, by decide +kernel⟩
abbrev ps_larger : List Str := ["a", "b"]
theorem ok_larger (F : Fn K mg "larger" s_larger ps_larger f fd) (dcompare : Def P w K mg base k "compare" ["a", "b"] (spTest2 K fun p q => .int (sg p q)) f1 fd1) : Def P w K mg base (k + 1) "larger" ps_larger (spSel K fun p q => if q ≤ p then p else q) f fd := by
  refine ⟨F.F.ok sc_larger (fun vs H Q E h => ?_) (fun cdv A outer s H vs Q E hr h => ?_), F.m, F.F.kp, F.b⟩
  · obtain ⟨x, y, p, q, m, l, rfl, _⟩ := h
    rfl
  obtain ⟨x, y, p, q, m, l, rfl, ha, hb, zp, zq, hm, z⟩ := h
  refine ⟨_, (pss_one (ps_ret (pe_ifExp (pt_cmpR op_ge (pcall dcompare hr (pa_cons (pv 0) (pa_cons (pv 1) pa_nil))) pe_int (nomark _)) (pv 0) (pv 1)))), ?_⟩
  refine ⟨_, rfl, _, rfl, x, y, p, q, m, l, rfl, ha, hb, zp, zq, by omega, _, _, rfl, rfl, _, rfl, ifD (fun c => ⟨_, rfl, z _ ?_⟩) (fun c => ⟨_, rfl, z _ ?_⟩)⟩
  · dsimp only; rw [if_pos (sg_ge.mp c)]; exact ha
  · dsimp only; rw [if_neg (fun e => c (sg_ge.mpr e))]; exact hb
def spEnd2 (K : PySem.W.Frag) (g : Option Rat → Option Rat → Option Rat) : Sp := fun vs H Q _ => ∃ (x y : V) (p q : Option Rat) (m : Nat), vs = [x, y] ∧ optV K H x p ∧ optV K H y q ∧ OSz m p ∧ OSz m q ∧ m + m + 1 ≤ 9000 ∧ ∀ v, optV K H v (g p q) → Q v H
abbrev s__higher_low : Stmt := top 58
abbrev N__higher_low : List Str := ["a", "b"]
theorem sc__higher_low : FnScope N__higher_low ["a", "b"] (defScope s__higher_low) := ⟨rfl, rfl, rfl, by decide +kernel, rfl, by decide +kernel, by decide +kernel⟩
abbrev ps__higher_low : List Str := ["a", "b"]
theorem ok_higher_low (F : Fn K mg "_higher_low" s__higher_low ps__higher_low f fd) (dlarger : Def P w K mg base k "larger" ["a", "b"] (spSel K fun p q => if q ≤ p then p else q) f1 fd1) : Def P w K mg base (k + 1) "_higher_low" ps__higher_low (spEnd2 K maxO) f fd := by
  refine ⟨F.F.ok sc__higher_low (fun vs H Q E h => ?_) (fun cdv A outer s H vs Q E hr h => ?_), F.m, F.F.kp, F.b⟩
  · obtain ⟨x, y, p, q, m, rfl, _⟩ := h
    rfl
  obtain ⟨x, y, p, q, m, rfl, ha, hb, zp, zq, hm, z⟩ := h
  refine ⟨_, (pss_cons (ps_if (pt_cmpR op_isN (pv 0) pe_non (nomark _))
        (pss_one (ps_ret (pv 1)))
        pss_nil)
      (pss_one (ps_ret (pe_ifExp (pt_cmpR op_isN (pv 1) pe_non (nomark _)) (pv 0) (pcall dlarger hr (pa_cons (pv 0) (pa_cons (pv 1) pa_nil))))))), ?_⟩
  cases p with
  | none =>
    cases (show x = .non from ha)
    exact ⟨_, rfl, rfl, _, rfl, ifT (dT rfl) ⟨_, rfl, z _ hb⟩⟩
  | some p =>
    have ha : Rq K H x p := ha
    obtain ⟨a, rfl, ha'⟩ := id ha
    refine ⟨_, rfl, rfl, _, rfl, ifF (dF nofun) ?_⟩
    cases q with
    | none =>
      cases (show y = .non from hb)
      exact ⟨_, rfl, rfl, _, rfl, ifT (dT rfl) ⟨_, rfl, z _ ha⟩⟩
    | some q =>
      have hb : Rq K H y q := hb
      obtain ⟨b, rfl, hb'⟩ := id hb
      exact ⟨_, rfl, rfl, _, rfl, ifF (dF nofun) ⟨_, rfl, _, rfl, _, _, p, q, m, m, rfl, ha, hb, zp _ rfl, zq _ rfl, hm, fun v hv => z _ hv⟩⟩
abbrev s__lower_high : Stmt := top 59
abbrev N__lower_high : List Str := ["a", "b"]
theorem sc__lower_high : FnScope N__lower_high ["a", "b"] (defScope s__lower_high) := ⟨rfl, rfl, rfl, by decide +kernel, rfl, by decide +kernel, by decide +kernel⟩
abbrev ps__lower_high : List Str := ["a", "b"]
theorem ok_lower_high (F : Fn K mg "_lower_high" s__lower_high ps__lower_high f fd) (dsmaller : Def P w K mg base k "smaller" ["a", "b"] (spSel K fun p q => if p ≤ q then p else q) f1 fd1) : Def P w K mg base (k + 1) "_lower_high" ps__lower_high (spEnd2 K minO) f fd := by
  refine ⟨F.F.ok sc__lower_high (fun vs H Q E h => ?_) (fun cdv A outer s H vs Q E hr h => ?_), F.m, F.F.kp, F.b⟩
  · obtain ⟨x, y, p, q, m, rfl, _⟩ := h
    rfl
  obtain ⟨x, y, p, q, m, rfl, ha, hb, zp, zq, hm, z⟩ := h
  refine ⟨_, (pss_cons (ps_if (pt_cmpR op_isN (pv 0) pe_non (nomark _))
        (pss_one (ps_ret (pv 1)))
        pss_nil)
      (pss_one (ps_ret (pe_ifExp (pt_cmpR op_isN (pv 1) pe_non (nomark _)) (pv 0) (pcall dsmaller hr (pa_cons (pv 0) (pa_cons (pv 1) pa_nil))))))), ?_⟩
  cases p with
  | none =>
    cases (show x = .non from ha)
    exact ⟨_, rfl, rfl, _, rfl, ifT (dT rfl) ⟨_, rfl, z _ hb⟩⟩
  | some p =>
    have ha : Rq K H x p := ha
    obtain ⟨a, rfl, ha'⟩ := id ha
    refine ⟨_, rfl, rfl, _, rfl, ifF (dF nofun) ?_⟩
    cases q with
    | none =>
      cases (show y = .non from hb)
      exact ⟨_, rfl, rfl, _, rfl, ifT (dT rfl) ⟨_, rfl, z _ ha⟩⟩
    | some q =>
      have hb : Rq K H y q := hb
      obtain ⟨b, rfl, hb'⟩ := id hb
      exact ⟨_, rfl, rfl, _, rfl, ifF (dF nofun) ⟨_, rfl, _, rfl, _, _, p, q, m, m, rfl, ha, hb, zp _ rfl, zq _ rfl, hm, fun v hv => z _ hv⟩⟩
abbrev s_meet : Stmt := top 60
abbrev N_meet : List Str := ["a", "b", "low", "high"]
theorem sc_meet : FnScope N_meet ["a", "b"] (defScope s_meet) := ⟨rfl, rfl, rfl, by decide +kernel, rfl, by decide +kernel, by decide +kernel⟩
abbrev ps_meet : List Str := ["a", "b"]
def spMeet (K : PySem.W.Frag) : Sp := fun vs H Q _ => ∃ (x y : V) (s t : Spn) (m : Nat), vs = [x, y] ∧ Spq K H x s ∧ Spq K H y t ∧ SSz m s ∧ SSz m t ∧ m + m + 1 ≤ 9000 ∧ ∀ v H', Same H H' → oSp K H' v (meetO s t) → Q v H'
theorem sg_gt {p q : Rat} : 0 < sg p q ↔ q < p := by
  have := @sg_le p q
  constructor
  · intro h; exact Rat.not_le.mp fun e => by have := this.mpr e; omega
  · intro h; exact Int.not_le.mp fun e => absurd (this.mp e) (Rat.not_le.mpr h)
theorem ok_meet (F : Fn K mg "meet" s_meet ps_meet f fd) (d_higher_low : Def P w K mg base k "_higher_low" ["a", "b"] (spEnd2 K maxO) f1 fd1) (d_lower_high : Def P w K mg base k "_lower_high" ["a", "b"] (spEnd2 K minO) f2 fd2) (dcompare : Def P w K mg base k "compare" ["a", "b"] (spTest2 K fun p q => .int (sg p q)) f3 fd3) :
    Def P w K mg base (k + 1) "meet" ps_meet (spMeet K) f fd := by
  refine ⟨F.F.ok sc_meet (fun vs H Q E h => ?_) (fun cdv A outer s H vs Q E hr h => ?_), F.m, F.F.kp, F.b⟩
  · obtain ⟨x, y, p, q, m, rfl, _⟩ := h
    rfl
  obtain ⟨x, y, s, t, m, rfl, ⟨a, u1, v1, rfl, ha, hu1, hv1⟩, ⟨b, u2, v2, rfl, hb, hu2, hv2⟩, zs, zt, hm, z⟩ := h
  refine ⟨_, (pss_cons (ps_set (i := 2) sc_meet.nd rfl (Or.inl rfl) (pcall d_higher_low hr (pa_cons (pe_ix ix_tup (pv 0) pe_int (fun _ _ => rfl)) (pa_cons (pe_ix ix_tup (pv 1) pe_int (fun _ _ => rfl)) pa_nil))))
      (pss_cons (ps_set (i := 3) sc_meet.nd rfl (Or.inl rfl) (pcall d_lower_high hr (pa_cons (pe_ix ix_tup (pv 0) pe_int (fun _ _ => rfl)) (pa_cons (pe_ix ix_tup (pv 1) pe_int (fun _ _ => rfl)) pa_nil))))
      (pss_cons (ps_if (PW.pt (pw_and (pt_cmpR op_notN (pv 2) pe_non (nomark _)) (pw_and (pt_cmpR op_notN (pv 3) pe_non (nomark _)) (pw_and1 (pt_cmpR op_gt (pcall dcompare hr (pa_cons (pv 2) (pa_cons (pv 3) pa_nil))) pe_int (nomark _))))))
        (pss_one (ps_ret pe_non))
        pss_nil)
      (pss_one (ps_ret (pe_tup (pa_cons (pv 2) (pa_cons (pv 3) pa_nil)))))))), ?_⟩
  refine ⟨_, rfl, a, _, _, _, rfl, rfl, ha, at0 rfl, _, rfl, b, _, _, _, rfl, rfl, hb, at0 rfl, _, _, s.1, t.1, m, rfl, hu1, hu2, zs.1, zt.1, hm, fun lo hlo => ?_⟩
  refine ⟨_, rfl, a, _, _, _, rfl, rfl, ha, at1 rfl, _, rfl, b, _, _, _, rfl, rfl, hb, at1 rfl, _, _, s.2, t.2, m, rfl, hv1, hv2, zs.2, zt.2, hm, fun hi hhi => ?_⟩
  have zl := osz_max zs.1 zt.1
  have zh := osz_min zs.2 zt.2
  have em : meetO s t = if crossed (maxO s.1 t.1) (minO s.2 t.2) = true then none else some (maxO s.1 t.1, minO s.2 t.2) := rfl
  have fin : crossed (maxO s.1 t.1) (minO s.2 t.2) = false → ∀ T, H T = none → Q (.ref T) (upd H T (.tup [lo, hi])) := fun c T hT => by
    have sT := same_new hT (.tup [lo, hi])
    refine z _ _ sT ?_
    rw [em, c]
    exact ⟨T, _, _, rfl, SqT.of upd_same, hlo.same sT, hhi.same sT⟩
  generalize maxO s.1 t.1 = oL at hlo zl em fin
  generalize minO s.2 t.2 = oH at hhi zh em fin
  cases oL with
  | none =>
    cases (show lo = .non from hlo)
    exact ⟨_, rfl, rfl, _, rfl, ifF rfl (ifF rfl ⟨_, rfl, _, rfl, sz2, fin rfl⟩)⟩
  | some p =>
    have hlo' : Rq K H lo p := hlo
    obtain ⟨c, rfl, _⟩ := id hlo'
    refine ⟨_, rfl, rfl, _, rfl, ifT rfl ?_⟩
    cases oH with
    | none =>
      cases (show hi = .non from hhi)
      exact ⟨_, rfl, rfl, _, rfl, ifF rfl (ifF rfl ⟨_, rfl, _, rfl, sz2, fin rfl⟩)⟩
    | some q =>
      have hhi' : Rq K H hi q := hhi
      obtain ⟨d, rfl, _⟩ := id hhi'
      refine ⟨_, rfl, rfl, _, rfl, ifT rfl ?_⟩
      refine ⟨_, rfl, _, rfl, _, _, p, q, m, m, rfl, hlo', hhi', zl _ rfl, zh _ rfl, by omega, _, _, rfl, rfl, _, rfl, ?_⟩
      by_cases c : q < p
      · refine ifT (dT (sg_gt.mpr c)) ?_
        refine z _ _ (Same.refl _) ?_
        rw [em, show crossed (some p) (some q) = true from dT c]
        rfl
      · exact ifF (dF fun e => c (sg_gt.mp e)) (⟨_, rfl, _, rfl, sz2, fin (dF c)⟩)
end Vk
namespace Vk
open PySem L2 Vm Vs
variable {l az : Addr} {P : Program} {w : World} {K : PySem.W.Frag} {mg : Str → Option Value} {base : Heap} {k : Nat} {f f1 f2 f3 f4 f5 f6 f7 f8 f9 : Addr} {fd fd1 fd2 fd3 fd4 fd5 fd6 fd7 fd8 fd9 : FuncData}
def spMoved (K : PySem.W.Frag) : Sp := fun vs H Q _ => ∃ (x y : V) (o : Option Rat) (d : Rat) (m j : Nat), vs = [x, y] ∧ optV K H x o ∧ Rq K H y d ∧ OSz m o ∧ Sz j d ∧ m + j + 1 ≤ 9000 ∧ ∀ v H', Same H H' → optV K H' v (movO o d) → Q v H'
def spShift (K : PySem.W.Frag) : Sp := fun vs H Q _ => ∃ (x y : V) (s : Spn) (d : Rat) (m j : Nat), vs = [x, y] ∧ Spq K H x s ∧ Rq K H y d ∧ SSz m s ∧ Sz j d ∧ m + j + 1 ≤ 9000 ∧ ∀ v H', Same H H' → Spq K H' v (shO s d) → Q v H'
def spNegO (K : PySem.W.Frag) : Sp := fun vs H Q _ => ∃ (x : V) (o : Option Rat), vs = [x] ∧ optV K H x o ∧ ∀ v H', Same H H' → optV K H' v (negO o) → Q v H'
/-! ### stamps -/
structure St4 where
  a : Rat
  b : Rat
  c : Rat
  d : Rat
def T4 (K : PySem.W.Frag) (H : Hp) (x : V) (t : St4) : Prop := ∃ r xa xb xc xd, x = .ref r ∧ SqT K H r [xa, xb, xc, xd] ∧ Rq K H xa t.a ∧ Rq K H xb t.b ∧ Rq K H xc t.c ∧ Rq K H xd t.d
theorem T4.same {H H' : Hp} {x : V} {t : St4} (e : Same H H') (h : T4 K H x t) : T4 K H' x t := by
  obtain ⟨r, xa, xb, xc, xd, rfl, h, h1, h2, h3, h4⟩ := h
  exact ⟨r, xa, xb, xc, xd, rfl, e.sqt h, h1.same e, h2.same e, h3.same e, h4.same e⟩
theorem T4.fr {s : Addr} {H H' : Hp} {x : V} {t : St4} (e : Fr s H H') (hs : ∃ ys, H s = some (.lst ys)) (h : T4 K H x t) : T4 K H' x t := by
  obtain ⟨r, xa, xb, xc, xd, rfl, h, h1, h2, h3, h4⟩ := h
  exact ⟨r, xa, xb, xc, xd, rfl, sqt_fr e hs h, h1.fr e hs, h2.fr e hs, h3.fr e hs, h4.fr e hs⟩
def Z4 (m : Nat) (t : St4) : Prop := Sz m t.a ∧ Sz m t.b ∧ Sz m t.c ∧ Sz m t.d
def plainOf (t : St4) : Rat := ((t.b - t.a) + (t.c - t.d)) * (1 / 2)
def spT4 (K : PySem.W.Frag) (g : St4 → Rat) : Sp := fun vs H Q _ => ∃ (x : V) (t : St4), vs = [x] ∧ T4 K H x t ∧ Z4 40 t ∧ ∀ v H', Same H H' → Rq K H' v (g t) → Q v H'
def spOff (K : PySem.W.Frag) : Sp := fun vs H Q _ => ∃ (x y u : V) (t : St4) (fo ba : Spn), vs = [x, y, u] ∧ T4 K H x t ∧ Z4 40 t ∧ Spq K H y fo ∧ Spq K H u ba ∧ SSz 100 fo ∧ SSz 100 ba ∧ ∀ v H', Same H H' → oSp K H' v (offO (t.b - t.a) (t.c - t.d) fo ba) → Q v H'
end Vk
namespace Vk
open PySem L2 Vm Vs
variable {l az : Addr} {P : Program} {w : World} {K : PySem.W.Frag} {mg : Str → Option Value} {base : Heap} {k : Nat} {f f1 f2 f3 f4 f5 f6 f7 f8 f9 : Addr} {fd fd1 fd2 fd3 fd4 fd5 fd6 fd7 fd8 fd9 : FuncData}
/-- a drawn span -/
def Sd (K : PySem.W.Frag) (m : Nat) (H : Hp) (v : V) : Prop := ∃ s, Spq K H v s ∧ SSz m s
theorem Sd.same {m : Nat} {H H' : Hp} {v : V} (e : Same H H') (h : Sd K m H v) : Sd K m H' v := by
  obtain ⟨q, h, r⟩ := h
  exact ⟨q, h.same e, r⟩
theorem Sd.fr {m : Nat} {s : Addr} {H H' : Hp} {v : V} (e : Fr s H H') (hs : ∃ ys, H s = some (.lst ys)) (h : Sd K m H v) : Sd K m H' v := by
  obtain ⟨q, h, r⟩ := h
  exact ⟨q, h.fr e hs, r⟩
theorem Sd.up {m j : Nat} {H : Hp} {v : V} (h : Sd K m H v) (e : m ≤ j) : Sd K j H v := by
  obtain ⟨q, h, r⟩ := h
  exact ⟨q, h, osz_up r.1 e, osz_up r.2 e⟩
theorem sd_new {m : Nat} {H : Hp} {t : Addr} {u v : V} {a b : Option Rat} (ht : H t = none) (hu : optV K H u a) (hv : optV K H v b) (za : OSz m a) (zb : OSz m b) : Sd K m (upd H t (.tup [u, v])) (.ref t) :=
  ⟨(a, b), ⟨t, u, v, rfl, SqT.of upd_same, hu.same (same_new ht _), hv.same (same_new ht _)⟩, za, zb⟩
theorem osz_none {m : Nat} : OSz m none := nofun
theorem osz_some {m : Nat} {q : Rat} (h : Sz m q) : OSz m (some q) := fun r e => by cases Option.some.inj e; exact h
def spSpan (K : PySem.W.Frag) (l : Addr) : Sp := fun vs H Q _ => ∃ (s : Addr), vs = [.ref s, .int 48] ∧ Sto l s H ∧ ∀ (v : V) H', Sd K 100 H' v → Sto l s H' → Fr s H H' → Q v H'
def spIn (K : PySem.W.Frag) : Sp := fun vs H Q _ => ∃ (x y : V) (s : Spn) (t : Rat) (m j : Nat), vs = [x, y] ∧ Spq K H x s ∧ Rq K H y t ∧ SSz m s ∧ Sz j t ∧ m + j + 1 ≤ 900000 ∧ Q (.bl (inS s t)) H
end Vk


namespace Vk
open PySem L2 Vm Vl
variable {l aZERO aONE CB CR fB fR : Addr} {P : Program} {w : World} {K : PySem.W.Frag} {mg : Str → Option Value} {base : Heap} {k : Nat} {f f1 f2 f3 f4 f5 f6 f7 f8 f9 : Addr} {fd fd1 fd2 fd3 fd4 fd5 fd6 fd7 fd8 fd9 : FuncData}
/-- a rational of the module -/
structure Cn (K : PySem.W.Frag) (mg : Str → Option Value) (x : Str) (p : Rat) (a : Addr) : Prop where
  m : mg x = some (.ref a)
  q : ∀ H, Rq K H (.ref a) p
theorem zz1 : Sz 1 (0 : Rat) := by decide +kernel
theorem zo1 : Sz 1 (1 : Rat) := by decide +kernel
def spNB (K : PySem.W.Frag) (CB : Addr) : Sp := fun vs H Q E => ∃ (x : V) (q : Rat) (m : Nat), vs = [x] ∧ Rq K H x q ∧ Sz m q ∧ m ≤ 8000 ∧ (0 ≤ q → Q .non H) ∧ (q < 0 → eV E CB H x)
abbrev s_require_not_below_zero : Stmt := top 62
abbrev N_require_not_below_zero : List Str := ["bound"]
theorem sc_require_not_below_zero : FnScope N_require_not_below_zero ["bound"] (defScope s_require_not_below_zero) := ⟨rfl, rfl, rfl, by decide +kernel, rfl, by decide +kernel, by decide +kernel⟩
abbrev ps_require_not_below_zero : List Str := ["bound"]
theorem ok_not_below (ZZERO : Cn K mg "ZERO" 0 aZERO) (TBadBound : PySem.ValX.ValTxt K mg "BadBound" CB fB) (F : Fn K mg "require_not_below_zero" s_require_not_below_zero ps_require_not_below_zero f fd) (dcompare : Def P w K mg base k "compare" ["a", "b"] (spTest2 K fun p q => .int (sg p q)) f1 fd1) :
    DefY P w K mg base (k + 1) "require_not_below_zero" ps_require_not_below_zero (spNB K CB) f fd := by
  refine ⟨okY F.F sc_require_not_below_zero (fun vs H Q E h => ?_) (fun cdv A outer s H vs Q E hr h => ?_), F.m, F.F.kp, F.b⟩
  · obtain ⟨_, _, _, rfl, _⟩ := h
    rfl
  obtain ⟨x, q, m, rfl, hx, zq, hm, z, e⟩ := h
  refine ⟨_, (pss_one (ps_if (pt_cmpR op_lt (pcall dcompare hr (pa_cons (pv 0) (pa_cons (pe_glob (v := .ref aZERO) (u := .ref aZERO) (by rfl) ZZERO.m rfl) pa_nil))) pe_int (nomark _))
        (pss_one (ps_raiseValN rfl TBadBound hr (L2N.takes_of rfl rfl rfl rfl) (pa_cons (pv 0) pa_nil)))
        pss_nil)), ?_⟩
  refine ⟨_, rfl, _, _, q, 0, m, 1, rfl, hx, ZZERO.q _, zq, zz1, by omega, _, _, rfl, rfl, _, rfl, ifD (fun c => ?_) (fun c => ?_)⟩
  · exact ⟨_, rfl, x, rfl, fun d hd => e (sg_lt.mp c) d hd⟩
  · exact z (Rat.not_lt.mp fun g => c (sg_lt.mpr g))
def spSD (K : PySem.W.Frag) (CR : Addr) : Sp := fun vs H Q E => ∃ (x y : V) (s d : Rat) (m : Nat), vs = [x, y] ∧ Rq K H x s ∧ Rq K H y d ∧ Sz m s ∧ Sz m d ∧ m ≤ 4000 ∧
  (0 < s → s < 1 → 0 ≤ d → d < s → Q .non H) ∧ (s ≤ 0 ∨ 1 ≤ s → eV E CR H x) ∧ (0 < s → s < 1 → d < 0 ∨ s ≤ d → eV E CR H y)
theorem sg_le' {p q : Rat} : sg p q ≤ 0 ↔ p ≤ q := by
  have h := @sg_lt p q
  have g := @sg_ge p q
  constructor
  · intro e
    by_cases z : sg p q < 0
    · have := h.mp z; grind
    · have e0 : sg p q = 0 := by omega
      unfold sg at e0
      split at e0
      · rename_i hh; rw [hh]; exact Rat.le_refl
      · split at e0 <;> omega
  · intro e
    by_cases z : p < q
    · have := h.mpr z; omega
    · have e2 : p = q := by grind
      unfold sg
      rw [if_pos e2]
      omega
abbrev s__require_slew_and_drift : Stmt := top 63
abbrev N__require_slew_and_drift : List Str := ["slew", "drift"]
theorem sc__require_slew_and_drift : FnScope N__require_slew_and_drift ["slew", "drift"] (defScope s__require_slew_and_drift) := ⟨rfl, rfl, rfl, by decide +kernel, rfl, by decide +kernel, by decide +kernel⟩
abbrev ps__require_slew_and_drift : List Str := ["slew", "drift"]
theorem ok_slew_drift (ZZERO : Cn K mg "ZERO" 0 aZERO) (ZONE : Cn K mg "ONE" 1 aONE) (TBadRate : PySem.ValX.ValTxt K mg "BadRate" CR fR) (F : Fn K mg "_require_slew_and_drift" s__require_slew_and_drift ps__require_slew_and_drift f fd) (dcompare : Def P w K mg base k "compare" ["a", "b"] (spTest2 K fun p q => .int (sg p q)) f1 fd1) :
    DefY P w K mg base (k + 1) "_require_slew_and_drift" ps__require_slew_and_drift (spSD K CR) f fd := by
  refine ⟨okY F.F sc__require_slew_and_drift (fun vs H Q E h => ?_) (fun cdv A outer s H vs Q E hr h => ?_), F.m, F.F.kp, F.b⟩
  · obtain ⟨_, _, _, _, _, rfl, _⟩ := h
    rfl
  obtain ⟨x, y, s', d', m, rfl, hx, hy, zs, zd, hm, z, e1, e2⟩ := h
  refine ⟨_, (pss_cons (ps_if (PW.pt (pw_or (pt_cmpR op_le (pcall dcompare hr (pa_cons (pv 0) (pa_cons (pe_glob (v := .ref aZERO) (u := .ref aZERO) (by rfl) ZZERO.m rfl) pa_nil))) pe_int (nomark _)) (pw_or1 (pt_cmpR op_ge (pcall dcompare hr (pa_cons (pv 0) (pa_cons (pe_glob (v := .ref aONE) (u := .ref aONE) (by rfl) ZONE.m rfl) pa_nil))) pe_int (nomark _)))))
        (pss_one (ps_raiseValN rfl TBadRate hr (L2N.takes_of rfl rfl rfl rfl) (pa_cons (pv 0) pa_nil)))
        pss_nil)
      (pss_one (ps_if (PW.pt (pw_or (pt_cmpR op_lt (pcall dcompare hr (pa_cons (pv 1) (pa_cons (pe_glob (v := .ref aZERO) (u := .ref aZERO) (by rfl) ZZERO.m rfl) pa_nil))) pe_int (nomark _)) (pw_or1 (pt_cmpR op_ge (pcall dcompare hr (pa_cons (pv 1) (pa_cons (pv 0) pa_nil))) pe_int (nomark _)))))
        (pss_one (ps_raiseValN rfl TBadRate hr (L2N.takes_of rfl rfl rfl rfl) (pa_cons (pv 1) pa_nil)))
        pss_nil))), ?_⟩
  have up1 : (s' ≤ 0 ∨ 1 ≤ s') → ∃ v, [x] = [v] ∧ ∀ d, H d = none → E (.ref CR) (some d) (upd H d (.xd [(("value" : Str), v)])) := fun h => ⟨x, rfl, fun d hd => e1 h d hd⟩
  refine ⟨_, rfl, _, _, s', 0, m, 1, rfl, hx, ZZERO.q _, zs, zz1, by omega, _, _, rfl, rfl, _, rfl, ifD (fun c => ?_) (fun c => ?_)⟩
  · exact ifT rfl ⟨_, rfl, up1 (.inl (sg_le'.mp c))⟩
  have c1 : 0 < s' := by have := fun g => c (sg_le'.mpr g); exact Rat.not_le.mp this
  refine ⟨_, rfl, _, _, s', 1, m, 1, rfl, hx, ZONE.q _, zs, zo1, by omega, _, _, rfl, rfl, _, rfl, ifD (fun c => ?_) (fun c => ?_)⟩
  · exact ⟨_, rfl, up1 (.inr (sg_ge.mp c))⟩
  have c2 : s' < 1 := by have := fun g => c (sg_ge.mpr g); exact Rat.not_le.mp this
  have up2 : (d' < 0 ∨ s' ≤ d') → ∃ v, [y] = [v] ∧ ∀ d, H d = none → E (.ref CR) (some d) (upd H d (.xd [(("value" : Str), v)])) := fun h => ⟨y, rfl, fun d hd => e2 c1 c2 h d hd⟩
  refine ⟨_, rfl, _, _, d', 0, m, 1, rfl, hy, ZZERO.q _, zd, zz1, by omega, _, _, rfl, rfl, _, rfl, ifD (fun c => ?_) (fun c => ?_)⟩
  · exact ifT rfl ⟨_, rfl, up2 (.inl (sg_lt.mp c))⟩
  have c3 : 0 ≤ d' := Rat.not_lt.mp fun g => c (sg_lt.mpr g)
  refine ⟨_, rfl, _, rfl, _, _, d', s', m, m, rfl, hy, hx, zd, zs, by omega, _, _, rfl, rfl, _, rfl, ifD (fun c => ?_) (fun c => ?_)⟩
  · exact ⟨_, rfl, up2 (.inr (sg_ge.mp c))⟩
  · exact z c1 c2 c3 (by have := fun g => c (sg_ge.mpr g); exact Rat.not_le.mp this)
/-- the five arguments of a lap -/
structure L5 (K : PySem.W.Frag) (H : Hp) (xb xh xl xs xd : V) (x : A6) (m : Nat) : Prop where
  b : Rq K H xb x.b
  h : Rq K H xh x.h
  l : Rq K H xl x.l
  s : Rq K H xs x.s
  d : Rq K H xd x.d
  zb : Sz m x.b
  zh : Sz m x.h
  zl : Sz m x.l
  zs : Sz m x.s
  zd : Sz m x.d
theorem L5.same {H H' : Hp} {xb xh xl xs xd : V} {x : A6} {m : Nat} (h : L5 K H xb xh xl xs xd x m) (e : Same H H') : L5 K H' xb xh xl xs xd x m := { h with b := h.b.same e, h := h.h.same e, l := h.l.same e, s := h.s.same e, d := h.d.same e }
theorem L5.fr {s : Addr} {H H' : Hp} {xb xh xl xs xd : V} {x : A6} {m : Nat} (h : L5 K H xb xh xl xs xd x m) (e : Fr s H H') (hs : ∃ ys, H s = some (.lst ys)) : L5 K H' xb xh xl xs xd x m := { h with b := h.b.fr e hs, h := h.h.fr e hs, l := h.l.fr e hs, s := h.s.fr e hs, d := h.d.fr e hs }
/-- the first wrong argument: what it wishes of an error -/
def Fault (x : A6) (W : Bool → Nat → Prop) : Prop :=
  (x.b < 0 → W true 0) ∧ (0 ≤ x.b → x.h < 0 → W true 1) ∧ (0 ≤ x.b → 0 ≤ x.h → x.l ≤ 0 → W true 2) ∧ (0 ≤ x.b → 0 ≤ x.h → 0 < x.l → x.s ≤ 0 ∨ 1 ≤ x.s → W false 3) ∧
    (0 ≤ x.b → 0 ≤ x.h → 0 < x.l → 0 < x.s → x.s < 1 → x.d < 0 ∨ x.s ≤ x.d → W false 4)
def eF (E : XK) (CB CR : Addr) (H : Hp) (ys : List V) : Bool → Nat → Prop := fun b i => ∀ y, ys[i]? = some y → eV E (if b = true then CB else CR) H y
def spLap (K : PySem.W.Frag) (CB CR : Addr) : Sp := fun vs H Q E => ∃ (xb xh xl xs xd : V) (x : A6) (m : Nat), vs = [xb, xh, xl, xs, xd] ∧ L5 K H xb xh xl xs xd x m ∧ m ≤ 4000 ∧ (Good x → Q .non H) ∧ Fault x (eF E CB CR H [xb, xh, xl, xs, xd])
def spBehind (K : PySem.W.Frag) : Sp := fun vs H Q _ => ∃ (xb xh xl xs xd : V) (x : A6) (m : Nat), vs = [xb, xh, xl, xs, xd] ∧ L5 K H xb xh xl xs xd x m ∧ m ≤ 1500 ∧ ∀ v H', Same H H' → Rq K H' v (nextB x x.b) → Q v H'
abbrev s__bound_behind : Stmt := top 64
abbrev N__bound_behind : List Str := ["bound", "half", "raw_units", "slew", "drift", "rest"]
theorem sc__bound_behind : FnScope N__bound_behind ["bound", "half", "raw_units", "slew", "drift"] (defScope s__bound_behind) := ⟨rfl, rfl, rfl, by decide +kernel, rfl, by decide +kernel, by decide +kernel⟩
abbrev ps__bound_behind : List Str := ["bound", "half", "raw_units", "slew", "drift"]
theorem ok_bound_behind (F : Fn K mg "_bound_behind" s__bound_behind ps__bound_behind f fd) (dlarger : Def P w K mg base k "larger" ["a", "b"] (spSel K fun p q => if q ≤ p then p else q) f1 fd1) (dsubtract : Def P w K mg base k "subtract" ["a", "b"] (spOp2 K (· - ·)) f2 fd2) (dmultiply : Def P w K mg base k "multiply" ["a", "b"] (spOp2 K (· * ·)) f3 fd3) (dadd : Def P w K mg base k "add" ["a", "b"] (spOp2 K (· + ·)) f4 fd4) :
    Def P w K mg base (k + 1) "_bound_behind" ps__bound_behind (spBehind K) f fd := by
  refine ⟨F.F.ok sc__bound_behind (fun vs H Q E h => ?_) (fun cdv A outer s H vs Q E hr h => ?_), F.m, F.F.kp, F.b⟩
  · obtain ⟨_, _, _, _, _, _, _, rfl, _⟩ := h
    rfl
  obtain ⟨xb, xh, xl, xs, xd, x, m, rfl, L, hm, z⟩ := h
  refine ⟨_, (pss_cons (ps_set (i := 5) sc__bound_behind.nd rfl (Or.inl rfl) (pcall dlarger hr (pa_cons (pcall dsubtract hr (pa_cons (pv 0) (pa_cons (pcall dmultiply hr (pa_cons (pv 3) (pa_cons (pv 2) pa_nil))) pa_nil))) (pa_cons (pv 1) pa_nil))))
      (pss_one (ps_ret (pcall dadd hr (pa_cons (pcall dmultiply hr (pa_cons (pv 4) (pa_cons (pv 2) pa_nil))) (pa_cons (pv 5) pa_nil)))))), ?_⟩
  refine ⟨_, rfl, _, rfl, _, rfl, _, _, x.s, x.l, m, m, rfl, L.s, L.l, L.zs, L.zl, by omega, fun v1 H1 e1 h1 => ?_⟩
  have z1 : Sz (m + m) (x.s * x.l) := L.zs.mul L.zl
  refine ⟨_, _, x.b, x.s * x.l, m, m + m, rfl, L.b.same e1, h1, L.zb, z1, by omega, fun v2 H2 e2 h2 => ?_⟩
  have z2 : Sz (m + (m + m) + 1) (x.b - x.s * x.l) := L.zb.sub z1
  refine ⟨_, rfl, _, _, x.b - x.s * x.l, x.h, _, m, rfl, h2, L.h.same (e1.trans e2), z2, L.zh, by omega, fun v3 h3 => ?_⟩
  refine ⟨_, rfl, _, rfl, _, _, x.d, x.l, m, m, rfl, L.d.same (e1.trans e2), L.l.same (e1.trans e2), L.zd, L.zl, by omega, fun v4 H4 e4 h4 => ?_⟩
  have z3 : Sz (m + (m + m) + 1) (if x.h ≤ x.b - x.s * x.l then x.b - x.s * x.l else x.h) := by
    split
    · exact z2
    · exact L.zh.mono (by omega)
  exact ⟨_, rfl, _, _, x.d * x.l, _, m + m, _, rfl, h4, Rq.same e4 h3, L.zd.mul L.zl, z3, by omega, fun v5 H5 e5 h5 => z _ _ (e1.trans (e2.trans (e4.trans e5))) h5⟩
def spAfter (K : PySem.W.Frag) (CB CR : Addr) : Sp := fun vs H Q E => ∃ (xb xh xl xs xd : V) (x : A6) (m : Nat), vs = [xb, xh, xl, xs, xd] ∧ L5 K H xb xh xl xs xd x m ∧ m ≤ 1500 ∧ (Good x → ∀ v H', Same H H' → Rq K H' v (nextB x x.b) → Q v H') ∧ Fault x (eF E CB CR H [xb, xh, xl, xs, xd])
end Vk
namespace Vk
open PySem L2 Vm Vl
variable {l : Addr} {P : Program} {w : World} {K : PySem.W.Frag} {mg : Str → Option Value} {base : Heap} {k : Nat} {f f1 f2 f3 f4 f5 f6 f7 f8 f9 : Addr} {fd fd1 fd2 fd3 fd4 fd5 fd6 fd7 fd8 fd9 : FuncData}
/-! ### written fractions compared -/
theorem mkm {n d : Int} (hd : 0 < d) : mkRat n d.toNat * (d : Rat) = (n : Rat) := by
  obtain ⟨m, rfl⟩ : ∃ m : Nat, d = (m : Int) := ⟨d.toNat, by omega⟩
  rw [Int.toNat_natCast, Rat.mkRat_eq_div]
  have h : ((m : Nat) : Rat) = (((m : Nat) : Int) : Rat) := rfl
  rw [h]
  refine Rat.div_mul_cancel fun e => ?_
  have : ((m : Int) : Rat) = ((0 : Int) : Rat) := e
  have := Rat.intCast_inj.mp this
  omega
theorem qle {n d m e : Int} (hd : 0 < d) (he : 0 < e) (h : n * e ≤ m * d) : mkRat n d.toNat ≤ mkRat m e.toNat := by
  have p := mkm (n := n) hd
  have q := mkm (n := m) he
  generalize mkRat n d.toNat = a at p
  generalize mkRat m e.toNat = b at q
  have hd' : (0 : Rat) < (d : Rat) := by exact_mod_cast hd
  have he' : (0 : Rat) < (e : Rat) := by exact_mod_cast he
  have h' : (n : Rat) * (e : Rat) ≤ (m : Rat) * (d : Rat) := by exact_mod_cast h
  by_cases z : a ≤ b
  · exact z
  · exfalso
    have z := Rat.not_le.mp z
    have de := Rat.mul_pos hd' he'
    have := Rat.mul_lt_mul_of_pos_right z de
    have e1 : a * ((d : Rat) * (e : Rat)) = (n : Rat) * (e : Rat) := by rw [← p]; grind
    have e2 : b * ((d : Rat) * (e : Rat)) = (m : Rat) * (d : Rat) := by rw [← q]; grind
    rw [e1, e2] at this
    exact absurd this (Rat.not_lt.mpr h')
theorem qlt {n d m e : Int} (hd : 0 < d) (he : 0 < e) (h : n * e < m * d) : mkRat n d.toNat < mkRat m e.toNat := by
  have p := mkm (n := n) hd
  have q := mkm (n := m) he
  generalize mkRat n d.toNat = a at p
  generalize mkRat m e.toNat = b at q
  have hd' : (0 : Rat) < (d : Rat) := by exact_mod_cast hd
  have he' : (0 : Rat) < (e : Rat) := by exact_mod_cast he
  have h' : (n : Rat) * (e : Rat) < (m : Rat) * (d : Rat) := by exact_mod_cast h
  by_cases z : a < b
  · exact z
  · exfalso
    have z := Rat.not_lt.mp z
    have de := Rat.mul_pos hd' he'
    have := Rat.mul_le_mul_of_nonneg_right z (show (0 : Rat) ≤ (d : Rat) * (e : Rat) by grind)
    have e1 : a * ((d : Rat) * (e : Rat)) = (n : Rat) * (e : Rat) := by rw [← p]; grind
    have e2 : b * ((d : Rat) * (e : Rat)) = (m : Rat) * (d : Rat) := by rw [← q]; grind
    rw [e1, e2] at this
    exact absurd this (Rat.not_le.mpr h')
def ge6 : Rat → Prop := fun q => mkRat 1 6 ≤ q
def nnQ : Rat → Prop := fun q => 0 ≤ q
def negQ : Rat → Prop := fun q => q < 0
def npQ : Rat → Prop := fun q => q ≤ 0
def outQ : Rat → Prop := fun q => q ≤ 0 ∨ 1 ≤ q
instance (q : Rat) : Decidable (ge6 q) := inferInstanceAs (Decidable (_ ≤ _))
instance (q : Rat) : Decidable (nnQ q) := inferInstanceAs (Decidable (_ ≤ _))
instance (q : Rat) : Decidable (negQ q) := inferInstanceAs (Decidable (_ < _))
instance (q : Rat) : Decidable (npQ q) := inferInstanceAs (Decidable (_ ≤ _))
instance (q : Rat) : Decidable (outQ q) := inferInstanceAs (Decidable (_ ∨ _))
theorem r01 : mkRat 0 1 = 0 := by decide +kernel
theorem Qd.imp {m j : Nat} {ok ok' : Rat → Prop} {H : Hp} {v : V} (h : Qd K m ok H v) (e : m ≤ j) (g : ∀ q, ok q → ok' q) : Qd K j ok' H v := by
  obtain ⟨q, r, z, o⟩ := h
  exact ⟨q, r, z.mono e, g q o⟩
theorem ok_above6 (F : Fn K mg "_law_above" s__law_above ps__law_above f fd) (d_law_take : Def P w K mg base k "_law_take" ["_law_store_here", "_law_many"] (spTake K l) f1 fd1) (d_law_frac : Def P w K mg base k "_law_frac" ["_law_n", "_law_d"] (spFrac K) f3 fd3) : Def P w K mg base (k + 1) "_law_above" ps__law_above (spDraw K l 5 ge6) f fd := by
  refine ⟨F.F.ok sc__law_above (fun vs H Q E h => ?_) (fun cdv A outer s H vs Q E hr h => ?_), F.m, F.F.kp, F.b⟩
  · obtain ⟨_, rfl, _⟩ := h
    rfl
  obtain ⟨s, rfl, hS, z⟩ := h
  refine ⟨_, (pss_cons (ps_if (pt_cmpR op_eq (pcall d_law_take hr (pa_cons (pv 0) (pa_cons pe_int pa_nil))) pe_int (nomark _))
        (pss_one (ps_ret (pe_tup (pa_cons pe_int (pa_cons pe_int pa_nil)))))
        pss_nil)
      (pss_one (ps_ret (pcall d_law_frac hr (pa_cons (pe_op op_add pe_int (pcall d_law_take hr (pa_cons (pv 0) (pa_cons pe_int pa_nil)))) (pa_cons (pe_op op_add pe_int (pcall d_law_take hr (pa_cons (pv 0) (pa_cons pe_int pa_nil)))) pa_nil)))))), ?_⟩
  refine ⟨_, rfl, s, 4, rfl, hS, by decide, fun r H1 r0 r1 S1 e1 => ?_⟩
  refine ⟨rfl, _, rfl, ifD (fun _ => ?_) (fun _ => ?_)⟩
  · exact ⟨sz2, fun t ht => z _ _ (Qd.new 1 1 1 rfl rfl (by decide) (by decide +kernel)) (S1.same (same_new ht _)) (e1.trans (Fr.of (same_new ht _)))⟩
  refine ⟨_, rfl, s, 24, rfl, S1, by decide, fun r2 H2 r3 r4 S2 e2 => ⟨_, _, rfl, rfl, ?_⟩⟩
  refine ⟨_, rfl, s, 6, rfl, S2, by decide, fun r5 H3 r6 r7 S3 e3 => ⟨_, _, rfl, rfl, ?_⟩⟩
  refine ⟨_, _, 5, rfl, by omega, lt2 25 (by omega) (by decide), lt2 7 (by omega) (by decide), by decide, fun v H' e hv => z _ _ ⟨_, hv, sz_mk (by omega) ?_ ?_, ?_⟩ (S3.same e) (e1.trans (e2.trans (e3.trans (Fr.of e))))⟩
  · exact lt2 25 (by omega) (by decide)
  · have : (2 : Nat) ^ 5 = 32 := by decide
    omega
  · exact qle (n := 1) (d := 6) (by decide) (by omega) (by omega)
abbrev s__law_spare : Stmt := top 84
abbrev N__law_spare : List Str := ["_law_store_here"]
theorem sc__law_spare : FnScope N__law_spare ["_law_store_here"] (defScope s__law_spare) := ⟨rfl, rfl, rfl, by decide +kernel, rfl, by decide +kernel, by decide +kernel⟩
abbrev ps__law_spare : List Str := ["_law_store_here"]
theorem ok_spareN (F : Fn K mg "_law_spare" s__law_spare ps__law_spare f fd) (d_law_take : Def P w K mg base k "_law_take" ["_law_store_here", "_law_many"] (spTake K l) f1 fd1) (d_law_frac : Def P w K mg base k "_law_frac" ["_law_n", "_law_d"] (spFrac K) f3 fd3) : Def P w K mg base (k + 1) "_law_spare" ps__law_spare (spDraw K l 5 nnQ) f fd := by
  refine ⟨F.F.ok sc__law_spare (fun vs H Q E h => ?_) (fun cdv A outer s H vs Q E hr h => ?_), F.m, F.F.kp, F.b⟩
  · obtain ⟨_, rfl, _⟩ := h
    rfl
  obtain ⟨s, rfl, hS, z⟩ := h
  refine ⟨_, (pss_cons (ps_if (pt_cmpR op_eq (pcall d_law_take hr (pa_cons (pv 0) (pa_cons pe_int pa_nil))) pe_int (nomark _))
        (pss_one (ps_ret (pe_tup (pa_cons pe_int (pa_cons pe_int pa_nil)))))
        pss_nil)
      (pss_one (ps_ret (pcall d_law_frac hr (pa_cons (pcall d_law_take hr (pa_cons (pv 0) (pa_cons pe_int pa_nil))) (pa_cons (pe_op op_add pe_int (pcall d_law_take hr (pa_cons (pv 0) (pa_cons pe_int pa_nil)))) pa_nil)))))), ?_⟩
  refine ⟨_, rfl, s, 4, rfl, hS, by decide, fun r H1 r0 r1 S1 e1 => ?_⟩
  refine ⟨rfl, _, rfl, ifD (fun _ => ?_) (fun _ => ?_)⟩
  · exact ⟨sz2, fun t ht => z _ _ (Qd.new 0 1 0 rfl rfl (by decide) (by decide +kernel)) (S1.same (same_new ht _)) (e1.trans (Fr.of (same_new ht _)))⟩
  refine ⟨_, rfl, s, 25, rfl, S1, by decide, fun r2 H2 r3 r4 S2 e2 => ?_⟩
  refine ⟨_, rfl, s, 6, rfl, S2, by decide, fun r5 H3 r6 r7 S3 e3 => ⟨_, _, rfl, rfl, ?_⟩⟩
  refine ⟨_, _, 5, rfl, by omega, lt2 25 (by omega) (by decide), lt2 7 (by omega) (by decide), by decide, fun v H' e hv => z _ _ ⟨_, hv, sz_mk (by omega) ?_ ?_, ?_⟩ (S3.same e) (e1.trans (e2.trans (e3.trans (Fr.of e))))⟩
  · exact lt2 25 (by omega) (by decide)
  · have : (2 : Nat) ^ 5 = 32 := by decide
    omega
  · have := qle (n := 0) (d := 1) (m := r2) (e := 1 + r5) (by decide) (by omega) (by omega)
    show (0 : Rat) ≤ _
    rw [← r01]
    exact this
/-! ### slews -/
def SlOk (s d : Rat) : Prop := mkRat 1 20 ≤ s ∧ s < 1 ∧ 0 ≤ d ∧ 8 * d ≤ 7 * s
def Sl (K : PySem.W.Frag) (m : Nat) (ok : Rat → Rat → Prop) (H : Hp) (v : V) : Prop := ∃ r xs xd s d, v = .ref r ∧ SqT K H r [xs, xd] ∧ Rq K H xs s ∧ Rq K H xd d ∧ Sz m s ∧ Sz m d ∧ ok s d
theorem Sl.same {m : Nat} {ok : Rat → Rat → Prop} {H H' : Hp} {v : V} (e : Same H H') (h : Sl K m ok H v) : Sl K m ok H' v := by
  obtain ⟨r, xs, xd, s, d, rfl, h, h1, h2, r'⟩ := h
  exact ⟨r, xs, xd, s, d, rfl, e.sqt h, h1.same e, h2.same e, r'⟩
theorem Sl.fr {m : Nat} {ok : Rat → Rat → Prop} {s : Addr} {H H' : Hp} {v : V} (e : Fr s H H') (hs : ∃ ys, H s = some (.lst ys)) (h : Sl K m ok H v) : Sl K m ok H' v := by
  obtain ⟨r, xs, xd, s, d, rfl, h, h1, h2, r'⟩ := h
  exact ⟨r, xs, xd, s, d, rfl, sqt_fr e hs h, h1.fr e hs, h2.fr e hs, r'⟩
theorem sl_new {m : Nat} {ok : Rat → Rat → Prop} {H : Hp} {t : Addr} {u v : V} {s d : Rat} (ht : H t = none) (hu : Rq K H u s) (hv : Rq K H v d) (zs : Sz m s) (zd : Sz m d) (o : ok s d) : Sl K m ok (upd H t (.tup [u, v])) (.ref t) :=
  ⟨t, u, v, s, d, rfl, SqT.of upd_same, hu.same (same_new ht _), hv.same (same_new ht _), zs, zd, o⟩
def spSl (K : PySem.W.Frag) (l : Addr) : Sp := fun vs H Q _ => ∃ (s : Addr), vs = [.ref s] ∧ Sto l s H ∧ ∀ (v : V) H', Sl K 24 SlOk H' v → Sto l s H' → Fr s H H' → Q v H'
abbrev s__law_slews : Stmt := top 86
abbrev N__law_slews : List Str := ["_law_store_here", "_law_parts", "_law_bend"]
theorem sc__law_slews : FnScope N__law_slews ["_law_store_here"] (defScope s__law_slews) := ⟨rfl, rfl, rfl, by decide +kernel, rfl, by decide +kernel, by decide +kernel⟩
abbrev ps__law_slews : List Str := ["_law_store_here"]
end Vk
namespace Vk
open PySem L2 Vm Vl
variable {l : Addr} {P : Program} {w : World} {K : PySem.W.Frag} {mg : Str → Option Value} {base : Heap} {k : Nat} {f f1 f2 f3 f4 f5 f6 f7 f8 f9 : Addr} {fd fd1 fd2 fd3 fd4 fd5 fd6 fd7 fd8 fd9 : FuncData}
theorem z1000 : Sz 10 (mkRat 1 1000) := by decide +kernel
abbrev s__law_negative : Stmt := top 89
abbrev N__law_negative : List Str := ["_law_store_here"]
theorem sc__law_negative : FnScope N__law_negative ["_law_store_here"] (defScope s__law_negative) := ⟨rfl, rfl, rfl, by decide +kernel, rfl, by decide +kernel, by decide +kernel⟩
abbrev ps__law_negative : List Str := ["_law_store_here"]
theorem ok_negative (F : Fn K mg "_law_negative" s__law_negative ps__law_negative f fd) (d_law_pick : Def P w K mg base k "_law_pick" ["_law_store_here", "_law_things"] (spPick K l) f1 fd1) (d_law_minus : Def P w K mg base k "_law_minus" ["_law_a", "_law_b"] (spOp2 K (· - ·)) f2 fd2) (d_law_above : Def P w K mg base k "_law_above" ["_law_store_here"] (spDraw K l 5 ge6) f3 fd3) :
    Def P w K mg base (k + 1) "_law_negative" ps__law_negative (spDraw K l 20 negQ) f fd := by
  refine ⟨F.F.ok sc__law_negative (fun vs H Q E h => ?_) (fun cdv A outer s H vs Q E hr h => ?_), F.m, F.F.kp, F.b⟩
  · obtain ⟨_, rfl, _⟩ := h
    rfl
  obtain ⟨s, rfl, hS, z⟩ := h
  refine ⟨_, (pss_one (ps_ret (pcall d_law_pick hr (pa_cons (pv 0) (pa_cons (pe_lst (pa_cons (pe_tup (pa_cons (pe_un un_neg pe_int) (pa_cons pe_int pa_nil))) (pa_cons (pe_tup (pa_cons (pe_un un_neg pe_int) (pa_cons pe_int pa_nil))) (pa_cons (pcall d_law_minus hr (pa_cons (pe_tup (pa_cons pe_int (pa_cons pe_int pa_nil))) (pa_cons (pcall d_law_above hr (pa_cons (pv 0) pa_nil)) pa_nil))) pa_nil)))) pa_nil))))), ?_⟩
  refine ⟨_, rfl, _, rfl, sz2, fun t1 h1 => ?_⟩
  have c1 := same_new h1 (.tup [.int (-1), .int 1]); have q1 := Qd.new (K := K) (m := 20) (ok := negQ) (H := H) (t := t1) (-1) 1 (-1) (by decide) (by decide) (by decide) (by decide); generalize upd H t1 (.tup [.int (-1), .int 1]) = G1 at c1 q1 ⊢
  refine ⟨_, rfl, sz2, fun t2 h2 => ?_⟩
  have c2 := same_new h2 (.tup [.int (-1), .int 1000]); have q2 := Qd.new (K := K) (m := 20) (ok := negQ) (H := G1) (t := t2) (-1) 1000 (mkRat (-1) 1000) (by decide) (by decide) (by decide) (by decide); generalize upd G1 t2 (.tup [.int (-1), .int 1000]) = G2 at c2 q2 ⊢
  refine ⟨sz2, fun t3 h3 => ?_⟩
  have c3 := same_new h3 (.tup [.int 0, .int 1])
  have r0 : Rq K (upd G2 t3 (.tup [.int 0, .int 1])) (.ref t3) 0 := rq_new 0 1 0 (by decide +kernel) (by decide +kernel)
  generalize upd G2 t3 (.tup [.int 0, .int 1]) = G3 at c3 r0 ⊢
  have S3 := hS.same (c1.trans (c2.trans c3))
  refine ⟨_, rfl, s, rfl, S3, fun va G4 qa S4 e4 => ?_⟩
  obtain ⟨b, rb, zb, ob⟩ := qa
  have ob : mkRat 1 6 ≤ b := ob
  have b0 : 0 < b := by
    have : (0 : Rat) < mkRat 1 6 := by decide +kernel
    grind
  refine ⟨_, _, 0, b, 1, 5, rfl, r0.fr e4 S3.some, rb, zz1, zb, by decide, fun v5 G5 e5 h5 => ⟨sm3, fun p hp => ?_⟩⟩
  have sp := same_new hp (.lst [.ref t1, .ref t2, v5])
  have S5 := (S4.same e5).same sp
  have q1 := ((((q1.same c2).same c3).fr e4 S3).same e5).same sp
  have q2 := (((q2.same c3).fr e4 S3).same e5).same sp
  have q3 : Qd K 20 negQ (upd G5 p (.lst [.ref t1, .ref t2, v5])) v5 := ⟨0 - b, h5.same sp, (zz1.sub zb).mono (by decide), (by show 0 - b < 0; grind)⟩
  refine ⟨s, p, _, rfl, S5, (S4.same e5).ne hp, SqL.of upd_same, (by show 0 < 3; decide), (by show 3 < 2 ^ 32; decide), fun v H' hv S' e' => ?_⟩
  refine z _ _ (Qd.fr e' S5 ?_) S' ((Fr.of (c1.trans (c2.trans c3))).trans (e4.trans ((Fr.of (e5.trans sp)).trans e')))
  simp only [List.mem_cons, List.mem_nil_iff, or_false] at hv
  rcases hv with rfl | rfl | rfl <;> assumption
abbrev s__law_bad_slew : Stmt := top 90
abbrev N__law_bad_slew : List Str := ["_law_store_here"]
theorem sc__law_bad_slew : FnScope N__law_bad_slew ["_law_store_here"] (defScope s__law_bad_slew) := ⟨rfl, rfl, rfl, by decide +kernel, rfl, by decide +kernel, by decide +kernel⟩
abbrev ps__law_bad_slew : List Str := ["_law_store_here"]
theorem ok_bad_slew (F : Fn K mg "_law_bad_slew" s__law_bad_slew ps__law_bad_slew f fd) (d_law_pick : Def P w K mg base k "_law_pick" ["_law_store_here", "_law_things"] (spPick K l) f1 fd1) (d_law_negative : Def P w K mg base k "_law_negative" ["_law_store_here"] (spDraw K l 20 negQ) f2 fd2) (d_law_plus : Def P w K mg base k "_law_plus" ["_law_a", "_law_b"] (spOp2 K (· + ·)) f3 fd3) (d_law_above : Def P w K mg base k "_law_above" ["_law_store_here"] (spDraw K l 5 ge6) f4 fd4) :
    Def P w K mg base (k + 1) "_law_bad_slew" ps__law_bad_slew (spDraw K l 20 outQ) f fd := by
  refine ⟨F.F.ok sc__law_bad_slew (fun vs H Q E h => ?_) (fun cdv A outer s H vs Q E hr h => ?_), F.m, F.F.kp, F.b⟩
  · obtain ⟨_, rfl, _⟩ := h
    rfl
  obtain ⟨s, rfl, hS, z⟩ := h
  refine ⟨_, (pss_one (ps_ret (pcall d_law_pick hr (pa_cons (pv 0) (pa_cons (pe_lst (pa_cons (pe_tup (pa_cons pe_int (pa_cons pe_int pa_nil))) (pa_cons (pe_tup (pa_cons pe_int (pa_cons pe_int pa_nil))) (pa_cons (pe_tup (pa_cons pe_int (pa_cons pe_int pa_nil))) (pa_cons (pcall d_law_negative hr (pa_cons (pv 0) pa_nil)) (pa_cons (pcall d_law_plus hr (pa_cons (pe_tup (pa_cons pe_int (pa_cons pe_int pa_nil))) (pa_cons (pcall d_law_above hr (pa_cons (pv 0) pa_nil)) pa_nil))) pa_nil)))))) pa_nil))))), ?_⟩
  refine ⟨_, rfl, sz2, fun t1 h1 => ?_⟩
  have c1 := same_new h1 (.tup [.int 0, .int 1]); have q1 := Qd.new (K := K) (m := 20) (ok := outQ) (H := H) (t := t1) 0 1 (0) (by decide) (by decide) (by decide) (by decide); generalize upd H t1 (.tup [.int 0, .int 1]) = G1 at c1 q1 ⊢
  refine ⟨sz2, fun t2 h2 => ?_⟩
  have c2 := same_new h2 (.tup [.int 1, .int 1]); have q2 := Qd.new (K := K) (m := 20) (ok := outQ) (H := G1) (t := t2) 1 1 (1) (by decide) (by decide) (by decide) (by decide); generalize upd G1 t2 (.tup [.int 1, .int 1]) = G2 at c2 q2 ⊢
  refine ⟨sz2, fun t3 h3 => ?_⟩
  have c3 := same_new h3 (.tup [.int 1, .int 1]); have q3 := Qd.new (K := K) (m := 20) (ok := outQ) (H := G2) (t := t3) 1 1 (1) (by decide) (by decide) (by decide) (by decide); generalize upd G2 t3 (.tup [.int 1, .int 1]) = G3 at c3 q3 ⊢
  have S3 := hS.same (c1.trans (c2.trans c3))
  refine ⟨_, rfl, s, rfl, S3, fun va G4 qa S4 e4 => ⟨sz2, fun t5 h5 => ?_⟩⟩
  have c5 := same_new h5 (.tup [.int 1, .int 1])
  have r1 : Rq K (upd G4 t5 (.tup [.int 1, .int 1])) (.ref t5) 1 := rq_new 1 1 1 (by decide +kernel) (by decide +kernel)
  generalize upd G4 t5 (.tup [.int 1, .int 1]) = G5 at c5 r1 ⊢
  have S5 := S4.same c5
  refine ⟨_, rfl, s, rfl, S5, fun vb G6 qb S6 e6 => ?_⟩
  obtain ⟨b, rb, zb, ob⟩ := qb
  have ob : mkRat 1 6 ≤ b := ob
  have b0 : 0 < b := by
    have : (0 : Rat) < mkRat 1 6 := by decide +kernel
    grind
  refine ⟨_, _, 1, b, 1, 5, rfl, r1.fr e6 S5.some, rb, zo1, zb, by decide, fun v7 G7 e7 h7 => ⟨sm5, fun p hp => ?_⟩⟩
  have sp := same_new hp (.lst [.ref t1, .ref t2, .ref t3, va, v7])
  have S7 := (S6.same e7).same sp
  have q1 := ((((((q1.same c2).same c3).fr e4 S3).same c5).fr e6 S5).same e7).same sp
  have q2 := (((((q2.same c3).fr e4 S3).same c5).fr e6 S5).same e7).same sp
  have q3 := ((((q3.fr e4 S3).same c5).fr e6 S5).same e7).same sp
  have q4 : Qd K 20 outQ (upd G7 p (.lst [.ref t1, .ref t2, .ref t3, va, v7])) va := ((((qa.same c5).fr e6 S5).same e7).same sp).imp (Nat.le_refl _) fun q h => by have h : q < 0 := h; show q ≤ 0 ∨ _; left; grind
  have q5 : Qd K 20 outQ (upd G7 p (.lst [.ref t1, .ref t2, .ref t3, va, v7])) v7 := ⟨1 + b, h7.same sp, (zo1.add zb).mono (by decide), (by show _ ∨ 1 ≤ 1 + b; right; grind)⟩
  refine ⟨s, p, _, rfl, S7, (S6.same e7).ne hp, SqL.of upd_same, (by show 0 < 5; decide), (by show 5 < 2 ^ 32; decide), fun v H' hv S' e' => ?_⟩
  refine z _ _ (Qd.fr e' S7 ?_) S' ((Fr.of (c1.trans (c2.trans c3))).trans (e4.trans ((Fr.of c5).trans (e6.trans ((Fr.of (e7.trans sp)).trans e')))))
  simp only [List.mem_cons, List.mem_nil_iff, or_false] at hv
  rcases hv with rfl | rfl | rfl | rfl | rfl <;> assumption
def overQ (b : Rat) : Rat → Prop := fun q => q < 0 ∨ b ≤ q
def spBadD (K : PySem.W.Frag) (l : Addr) : Sp := fun vs H Q _ => ∃ (s : Addr) (x : V) (b : Rat), vs = [.ref s, x] ∧ Sto l s H ∧ Rq K H x b ∧ Sz 24 b ∧ b < 1 ∧ ∀ (v : V) H', Qd K 40 (overQ b) H' v → Sto l s H' → Fr s H H' → Q v H'
abbrev s__law_bad_drift : Stmt := top 91
abbrev N__law_bad_drift : List Str := ["_law_store_here", "_law_bend"]
theorem sc__law_bad_drift : FnScope N__law_bad_drift ["_law_store_here", "_law_bend"] (defScope s__law_bad_drift) := ⟨rfl, rfl, rfl, by decide +kernel, rfl, by decide +kernel, by decide +kernel⟩
abbrev ps__law_bad_drift : List Str := ["_law_store_here", "_law_bend"]
theorem ok_bad_drift (F : Fn K mg "_law_bad_drift" s__law_bad_drift ps__law_bad_drift f fd) (d_law_pick : Def P w K mg base k "_law_pick" ["_law_store_here", "_law_things"] (spPick K l) f1 fd1) (d_law_negative : Def P w K mg base k "_law_negative" ["_law_store_here"] (spDraw K l 20 negQ) f2 fd2) (d_law_plus : Def P w K mg base k "_law_plus" ["_law_a", "_law_b"] (spOp2 K (· + ·)) f3 fd3) :
    Def P w K mg base (k + 1) "_law_bad_drift" ps__law_bad_drift (spBadD K l) f fd := by
  refine ⟨F.F.ok sc__law_bad_drift (fun vs H Q E h => ?_) (fun cdv A outer s H vs Q E hr h => ?_), F.m, F.F.kp, F.b⟩
  · obtain ⟨_, _, _, rfl, _⟩ := h
    rfl
  obtain ⟨s, x, b, rfl, hS, hx, zb, b1, z⟩ := h
  refine ⟨_, (pss_one (ps_ret (pcall d_law_pick hr (pa_cons (pv 0) (pa_cons (pe_lst (pa_cons (pv 1) (pa_cons (pcall d_law_negative hr (pa_cons (pv 0) pa_nil)) (pa_cons (pcall d_law_plus hr (pa_cons (pv 1) (pa_cons (pe_tup (pa_cons pe_int (pa_cons pe_int pa_nil))) pa_nil))) (pa_cons (pe_tup (pa_cons pe_int (pa_cons pe_int pa_nil))) pa_nil))))) pa_nil))))), ?_⟩
  refine ⟨_, rfl, _, rfl, _, rfl, s, rfl, hS, fun va G1 qa S1 e1 => ⟨_, rfl, sz2, fun t2 h2 => ?_⟩⟩
  have c2 := same_new h2 (.tup [.int 1, .int 1000])
  have rm : Rq K (upd G1 t2 (.tup [.int 1, .int 1000])) (.ref t2) (mkRat 1 1000) := rq_new 1 1000 _ (by decide +kernel) (by decide +kernel)
  have qa2 := qa.same c2
  have hx2 := (hx.fr e1 hS.some).same c2
  generalize upd G1 t2 (.tup [.int 1, .int 1000]) = G2 at c2 rm qa2 hx2 ⊢
  refine ⟨_, _, b, mkRat 1 1000, 24, 10, rfl, hx2, rm, zb, z1000, by decide, fun v3 G3 e3 h3 => ⟨sz2, fun t4 h4 => ?_⟩⟩
  have c4 := same_new h4 (.tup [.int 1, .int 1])
  have ro : Rq K (upd G3 t4 (.tup [.int 1, .int 1])) (.ref t4) 1 := rq_new 1 1 1 (by decide +kernel) (by decide +kernel)
  have s24 := e3.trans c4
  have h34 := Rq.same c4 h3
  generalize upd G3 t4 (.tup [.int 1, .int 1]) = G4 at c4 ro s24 h34 ⊢
  refine ⟨sm4, fun p hp => ?_⟩
  have sp := same_new hp (.lst [x, va, v3, .ref t4])
  have S4 := (S1.same c2).same s24
  have b0 : mkRat 1 1000 > 0 := by decide +kernel
  have q1 : Qd K 40 (overQ b) (upd G4 p (.lst [x, va, v3, .ref t4])) x := ⟨b, (hx2.same s24).same sp, zb.mono (by decide), .inr Rat.le_refl⟩
  have q2 : Qd K 40 (overQ b) (upd G4 p (.lst [x, va, v3, .ref t4])) va := ((qa2.same s24).same sp).imp (by decide) fun q h => .inl h
  have q3 : Qd K 40 (overQ b) (upd G4 p (.lst [x, va, v3, .ref t4])) v3 := ⟨b + mkRat 1 1000, h34.same sp, (zb.add z1000).mono (by decide), .inr (by grind)⟩
  have q4 : Qd K 40 (overQ b) (upd G4 p (.lst [x, va, v3, .ref t4])) (.ref t4) := ⟨1, ro.same sp, zo1.mono (by decide), .inr (by grind)⟩
  refine ⟨s, p, _, rfl, S4.same sp, S4.ne hp, SqL.of upd_same, (by show 0 < 4; decide), (by show 4 < 2 ^ 32; decide), fun v H' hv S' e' => ?_⟩
  refine z _ _ (Qd.fr e' (S4.same sp) ?_) S' (e1.trans ((Fr.of (c2.trans (s24.trans sp))).trans e'))
  simp only [List.mem_cons, List.mem_nil_iff, or_false] at hv
  rcases hv with rfl | rfl | rfl | rfl <;> assumption
end Vk
namespace Vk
open PySem L2 Vm Vl
variable {l aZERO aONE CB CR fB fR : Addr} {P : Program} {w : World} {K : PySem.W.Frag} {mg : Str → Option Value} {base : Heap} {k : Nat} {f f1 f2 f3 f4 f5 f6 f7 f8 f9 : Addr} {fd fd1 fd2 fd3 fd4 fd5 fd6 fd7 fd8 fd9 : FuncData}
/-! ### rates -/
def ab (q : Rat) : Rat := if q < 0 then -q else q
theorem ab_num (q : Rat) : (ab q).num = if q.num < 0 then -q.num else q.num := by
  unfold ab
  have h : q < 0 ↔ q.num < 0 := by rw [← Rat.not_le, ← Rat.num_nonneg]; omega
  by_cases c : q < 0
  · rw [if_pos c, if_pos (h.mp c), Rat.neg_num]
  · rw [if_neg c, if_neg fun e => c (h.mpr e)]
theorem ab_den (q : Rat) : (ab q).den = q.den := by
  unfold ab
  split
  · exact Rat.neg_den q
  · rfl
theorem Sz.ab {m : Nat} {q : Rat} (h : Sz m q) : Sz m (ab q) := by
  unfold Vk.ab
  split
  · exact h.neg
  · exact h
theorem rq_ab {H : Hp} {t : Addr} {q : Rat} : Rq K (upd H t (.tup [.int (if q.num < 0 then -q.num else q.num), .int q.den])) (.ref t) (ab q) := by
  refine ⟨t, rfl, ?_⟩
  rw [ab_num, ab_den]
  exact SqT.of upd_same
abbrev s_distance : Stmt := top 43
abbrev N_distance : List Str := ["a", "b", "gap"]
theorem sc_distance : FnScope N_distance ["a", "b"] (defScope s_distance) := ⟨rfl, rfl, rfl, by decide +kernel, rfl, by decide +kernel, by decide +kernel⟩
abbrev ps_distance : List Str := ["a", "b"]
theorem ok_distance (T : Bn mg) (F : Fn K mg "distance" s_distance ps_distance f fd) (dsubtract : Def P w K mg base k "subtract" ["a", "b"] (spOp2 K (· - ·)) f1 fd1) : Def P w K mg base (k + 1) "distance" ps_distance (spOp2 K fun p q => ab (p - q)) f fd := by
  refine ⟨F.F.ok sc_distance (fun vs H Q E h => ?_) (fun cdv A outer s H vs Q E hr h => ?_), F.m, F.F.kp, F.b⟩
  · obtain ⟨x, y, p, q, m, l, rfl, _⟩ := h
    rfl
  obtain ⟨x, y, p, q, m, l, rfl, hx, hy, zp, zq, hm, z⟩ := h
  refine ⟨_, (pss_cons (ps_set (i := 2) sc_distance.nd rfl (Or.inl rfl) (pcall dsubtract hr (pa_cons (pv 0) (pa_cons (pv 1) pa_nil))))
      (pss_one (ps_ret (pe_tup (pa_cons (pe_callB call_abs (by rfl) T.abs_ (by decide +kernel) (pa_cons (pe_ix ix_tup (pv 2) pe_int (fun _ _ => rfl)) pa_nil)) (pa_cons (pe_ix ix_tup (pv 2) pe_int (fun _ _ => rfl)) pa_nil)))))), ?_⟩
  refine ⟨_, rfl, _, rfl, x, y, p, q, m, l, rfl, hx, hy, zp, zq, hm, fun v H1 e1 ⟨a, ea, ha⟩ => ?_⟩
  subst ea
  refine ⟨_, rfl, a, _, _, _, rfl, rfl, ha, at0 rfl, _, rfl, _, rfl, a, _, _, _, rfl, rfl, ha, at1 rfl, sz2, fun t ht => ?_⟩
  exact z _ _ (e1.trans (same_new ht _)) rq_ab
def spRates (K : PySem.W.Frag) (CR : Addr) : Sp := fun vs H Q E => ∃ (x y : V) (s d : Rat) (m : Nat), vs = [x, y] ∧ Rq K H x s ∧ Rq K H y d ∧ Sz m s ∧ Sz m d ∧ m ≤ 2000 ∧
  (0 < s → s ≤ d → Q .non H) ∧ (s ≤ 0 → eV E CR H x) ∧ (0 < s → d < s → eV E CR H y)
/-- the drift between two rates -/
def dri (s d : Rat) : Rat := if ab (1 - 1 / s) ≤ ab (1 - 1 / d) then ab (1 - 1 / d) else ab (1 - 1 / s)
def spDrift (K : PySem.W.Frag) (CR : Addr) : Sp := fun vs H Q E => ∃ (x y : V) (s d : Rat) (m : Nat), vs = [x, y] ∧ Rq K H x s ∧ Rq K H y d ∧ Sz m s ∧ Sz m d ∧ m ≤ 2000 ∧
  (0 < s → s ≤ d → ∀ v H', Same H H' → Rq K H' v (dri s d) → Q v H') ∧ (s ≤ 0 → eV E CR H x) ∧ (0 < s → d < s → eV E CR H y)
/-- wrong rates, and which of them is told -/
def Br (K : PySem.W.Frag) (H : Hp) (v : V) : Prop := ∃ r x y t u s d, v = .ref r ∧ SqT K H r [x, y, .ref t] ∧ SqT K H t [.str "BadRate", u] ∧ Rq K H x s ∧ Rq K H y d ∧ Sz 40 s ∧ Sz 40 d ∧ ((s ≤ 0 ∧ u = x) ∨ (0 < s ∧ d < s ∧ u = y))
end Vk


set_option hygiene false in
local macro_rules | `(tactic| walk_at "vk_raw") => `(tactic| ((focus ((repeat first | with_reducible assumption | with_reducible exact upd_same | (with_reducible refine' (upd_ne ?_).trans ?_; with_reducible assumption) | (with_reducible apply sameAt; first | with_reducible assumption | with_reducible exact same_new (by with_reducible assumption) _) | (with_reducible apply Vk.frAt; with_reducible assumption; with_reducible assumption)); done))))
set_option hygiene false in
local macro_rules | `(tactic| walk_at "vk_same") => `(tactic| ((focus ((repeat first | with_reducible assumption | with_reducible exact Same.refl _ | (refine' Same.trans ?_ (same_new (by with_reducible assumption) _)) | (with_reducible refine' same_upd ?_ (by with_reducible assumption) _) | (refine' Same.trans ?_ (by with_reducible assumption))); done))))
set_option hygiene false in
local macro_rules | `(tactic| walk_at "vk_up") => `(tactic| ((first | with_reducible assumption | with_reducible exact same_new (by with_reducible assumption) _)))
set_option hygiene false in
local macro_rules | `(tactic| walk_at "vk_upd") => `(tactic| ((with_reducible refine' same_upd ?_ (by with_reducible assumption) _; (walk_at "vk_same"))))
set_option hygiene false in
local macro_rules | `(tactic| walk_at "vk_sto") => `(tactic| ((focus ((repeat first | with_reducible assumption | (with_reducible apply Sto.same; (walk_at "vk_up"))); done))))
set_option hygiene false in
local macro_rules | `(tactic| walk_at "vk_some") => `(tactic| ((first | with_reducible exact ⟨_, by (walk_at "vk_raw")⟩ | with_reducible exact Sto.some (by (walk_at "vk_sto")))))
set_option hygiene false in
local macro_rules | `(tactic| walk_at "vk_cl") => `(tactic| ((focus ((repeat first | with_reducible assumption | with_reducible exact SqT.of upd_same | with_reducible exact SqL.of upd_same | with_reducible exact optV_rq (by with_reducible assumption) (by with_reducible assumption) | with_reducible exact Ct.cq (by with_reducible assumption) | with_reducible exact rq_ab | (with_reducible apply Vk.Ct.copyq; with_reducible assumption) | (with_reducible apply Vk.Ct.copy; with_reducible assumption) | with_reducible exact rl11000 | with_reducible exact rl91 | with_reducible exact rl32 | with_reducible exact rl301 | with_reducible exact rl72 | with_reducible exact rl160 | with_reducible exact rl13 | with_reducible exact rl73 | with_reducible exact rl15 | with_reducible exact rl11 | with_reducible exact rl12 | with_reducible exact rl01 | with_reducible exact rl1m | with_reducible exact rlnm | with_reducible exact rln1 | with_reducible exact rlh1 | with_reducible exact rl910 | with_reducible exact rl1110 | with_reducible exact rl21 | with_reducible exact rln12 | with_reducible exact rln31 | with_reducible exact rlneg | (with_reducible apply Rq.same; (walk_at "vk_up")) | (with_reducible apply Rq.fr; (first | with_reducible exact Fr.upd _ | with_reducible assumption); (walk_at "vk_some")) | (with_reducible apply Rq.same; (walk_at "vk_upd")) | (with_reducible apply L2.Same.sqt; (walk_at "vk_up")) | (with_reducible apply sqt_fr; (first | with_reducible exact Fr.upd _ | with_reducible assumption); (walk_at "vk_some")) | (with_reducible apply L2.Same.sqt; (walk_at "vk_upd")) | (with_reducible apply L2.Same.seq; (walk_at "vk_up")) | (with_reducible apply seq_fr; (first | with_reducible exact Fr.upd _ | with_reducible assumption); with_reducible assumption) | (with_reducible apply L2.Same.seq; (walk_at "vk_upd")) | (with_reducible apply Pq.same; (walk_at "vk_up")) | (with_reducible apply Pq.fr; (first | with_reducible exact Fr.upd _ | with_reducible assumption); (walk_at "vk_some")) | (with_reducible apply Pq.same; (walk_at "vk_upd")) | (with_reducible apply Cq.same; (walk_at "vk_up")) | (with_reducible apply Cq.fr; (first | with_reducible exact Fr.upd _ | with_reducible assumption); (walk_at "vk_some"); with_reducible assumption) | (with_reducible apply Cq.same; (walk_at "vk_upd")) | (with_reducible apply Ct.same; (walk_at "vk_up")) | (with_reducible apply Ct.fr; (first | with_reducible exact Fr.upd _ | with_reducible assumption); (walk_at "vk_some"); with_reducible assumption) | (with_reducible apply Ct.same; (walk_at "vk_upd")) | (with_reducible apply optV.same; (walk_at "vk_up")) | (with_reducible apply optV.same; (walk_at "vk_upd")) | (with_reducible apply SgA.sm; (walk_at "vk_up")) | (with_reducible apply SgA.sm; (walk_at "vk_upd")) | (with_reducible apply Agv.sm; (walk_at "vk_up")) | (with_reducible apply Agv.frm; (first | with_reducible exact Fr.upd _ | with_reducible assumption); (walk_at "vk_some")) | (with_reducible apply Agv.sm; (walk_at "vk_upd")) | (with_reducible apply Lsv.sm; (walk_at "vk_up")) | (with_reducible apply Lsv.frm; (first | with_reducible exact Fr.upd _ | with_reducible assumption); (walk_at "vk_some")) | (with_reducible apply Lsv.sm; (walk_at "vk_upd")) | (with_reducible apply oSp.same; (walk_at "vk_up")) | (with_reducible apply fr_osp; (first | with_reducible exact Fr.upd _ | with_reducible assumption); (walk_at "vk_some")) | (with_reducible apply oSp.same; (walk_at "vk_upd")) | (with_reducible apply TrnV.sm; (walk_at "vk_up")) | (with_reducible apply TrnV.frm; (first | with_reducible exact Fr.upd _ | with_reducible assumption); (walk_at "vk_some")) | (with_reducible apply TrnV.sm; (walk_at "vk_upd"))); done))))
set_option hygiene false in
local macro_rules | `(tactic| walk_at "vk_sql") => `(tactic| ((first | (walk_at "vk_cl") | (focus (with_reducible apply L2.SqL.of; (walk_at "vk_raw"))))))
set_option hygiene false in
local macro_rules | `(tactic| walk_at "vk_atom") => `(tactic| ((first | with_reducible show Rq _ _ _ _ | with_reducible show SqT _ _ _ _ | with_reducible show SqL _ _ _ _ | with_reducible show Pq _ _ _ _ | with_reducible show Cq _ _ _ _ | with_reducible show Ct _ _ _ _ _ | with_reducible show Cz _ _ _ _ | with_reducible show Cok _ | with_reducible show Sz _ _ | with_reducible show Sto _ _ _ | with_reducible show Fr _ _ _ | with_reducible show Same _ _ | with_reducible show tyV _ _ _ _ | with_reducible show All2 _ _ _ | with_reducible show Gw _ _ _ _ _ _ | with_reducible show L2.Dp _ _ _ _ | with_reducible show L2.DpAll _ _ _ _ | with_reducible show Tree _ _ | with_reducible show optV _ _ _ _ | with_reducible show SgA _ _ _ _ _ | with_reducible show Agv _ _ _ _ _ _ _ _ _ | with_reducible show Lsv _ _ _ _ | with_reducible show oSp _ _ _ _ | with_reducible show TrnV _ _ _ _)))
set_option hygiene false in
local macro_rules | `(tactic| walk_at "vk_formsa") => `(tactic| ((first | with_reducible apply And.intro | ((fail_if_success first | with_reducible show ∃ _ : Nat → Nat → L2.St → Hp → Prop, _ | with_reducible show ∃ _ : Nat → Nat → Hp → Prop, _ | with_reducible show ∃ _ : Nat → L2.St → Hp → Prop, _); with_reducible apply Exists.intro) | (with_reducible refine ifT rfl ?_) | (with_reducible refine ifF rfl ?_) | (with_reducible refine ifT (dT (by with_reducible assumption)) ?_) | (with_reducible refine ifF (dF (by with_reducible assumption)) ?_) | (with_reducible refine ifD (fun gc => ?_) (fun gc => ?_)) | (with_reducible refine ifNF (by first | with_reducible assumption | with_reducible exact rfl) ?_) | (with_reducible refine ifNT (by with_reducible assumption) ?_) | (with_reducible refine ifN (fun gc => ?_) (fun gc => ?_)) | (with_reducible refine ifNF (by first | with_reducible assumption | with_reducible exact rfl) ?_) | ((first | rw [eqv_odp] | rw [eqv_odq]); first | (with_reducible refine ifT (dT (by with_reducible assumption)) ?_) | (with_reducible refine ifNF (by first | with_reducible assumption | with_reducible exact rfl) ?_) | (with_reducible refine ifD (fun gc => ?_) (fun gc => ?_)) | (with_reducible refine ifN (fun gc => ?_) (fun gc => ?_))) | (rw [eqv_dq]; first | (with_reducible refine ifT (dT (by with_reducible assumption)) ?_) | (with_reducible refine ifNF (by first | with_reducible assumption | with_reducible exact rfl) ?_) | (with_reducible refine ifD (fun gc => ?_) (fun gc => ?_)) | (with_reducible refine ifN (fun gc => ?_) (fun gc => ?_))) | (with_reducible refine ifT (by with_reducible assumption) ?_) | (with_reducible refine ifF (by with_reducible assumption) ?_) | (with_reducible refine ifT (by decide +kernel) ?_) | (with_reducible refine ifF (by decide +kernel) ?_) | (with_reducible refine Or.inl (Exists.intro _ (And.intro (rfl : [V.int _] = [V.int _]) ?_))) | ((with_reducible show ∀ p : Addr, _ = none → _); intro p np) | ((with_reducible show ∀ r : Int, ∀ H' : Hp, 0 ≤ r → _ → Sto _ _ H' → _ → _); intro r H' r0 r1 S e) | ((with_reducible show ∀ v : V, ∀ H' : Hp, Qd _ _ _ H' v → _ → _ → _); refine aQd (K := K) fun a q H' h h' zq okq S e => ?_) | ((with_reducible show ∀ H' : Hp, Same _ H' → _); intro H' e) | ((with_reducible show ∀ v : V, ∀ H' : Hp, Same _ H' → optV _ _ _ _ → _); intro v H' e h) | ((with_reducible show ∀ _ : V, ∀ _ : Hp, _ → _); refine aRq (K := K) fun a H' e h h' => ?_) | ((with_reducible show ∀ v : V, Rq _ _ v _ → _); refine aRq0 (K := K) fun a h h' => ?_))))
set_option hygiene false in
local macro_rules | `(tactic| walk_at "vk_forms") => `(tactic| ((first | with_reducible apply And.intro | ((fail_if_success first | with_reducible show ∃ l : Addr, ∃ xs : List V, ∃ y : V, _ = V.ref l ∧ _ = [y] ∧ _ = some (HO.lst xs) ∧ _ | with_reducible show ∃ _ : Nat → Nat → L2.St → Hp → Prop, _ | with_reducible show ∃ _ : Nat → Nat → Hp → Prop, _ | with_reducible show ∃ _ : Nat → L2.St → Hp → Prop, _); with_reducible apply Exists.intro) | (with_reducible refine ifT rfl ?_) | (with_reducible refine ifF rfl ?_) | (with_reducible refine ifT (dT (by with_reducible assumption)) ?_) | (with_reducible refine ifF (dF (by with_reducible assumption)) ?_) | (with_reducible refine ifD (fun gc => ?_) (fun gc => ?_)) | (with_reducible refine ifNF (by first | with_reducible assumption | with_reducible exact rfl) ?_) | (with_reducible refine ifNT (by with_reducible assumption) ?_) | (with_reducible refine ifN (fun gc => ?_) (fun gc => ?_)) | (with_reducible refine ifNF (by first | with_reducible assumption | with_reducible exact rfl) ?_) | ((first | rw [eqv_odp] | rw [eqv_odq]); first | (with_reducible refine ifT (dT (by with_reducible assumption)) ?_) | (with_reducible refine ifNF (by first | with_reducible assumption | with_reducible exact rfl) ?_) | (with_reducible refine ifD (fun gc => ?_) (fun gc => ?_)) | (with_reducible refine ifN (fun gc => ?_) (fun gc => ?_))) | (rw [eqv_dq]; first | (with_reducible refine ifT (dT (by with_reducible assumption)) ?_) | (with_reducible refine ifNF (by first | with_reducible assumption | with_reducible exact rfl) ?_) | (with_reducible refine ifD (fun gc => ?_) (fun gc => ?_)) | (with_reducible refine ifN (fun gc => ?_) (fun gc => ?_))) | (with_reducible refine ifT (by with_reducible assumption) ?_) | (with_reducible refine ifF (by with_reducible assumption) ?_) | (with_reducible refine ifT (by decide +kernel) ?_) | (with_reducible refine ifF (by decide +kernel) ?_) | (with_reducible refine Or.inl (Exists.intro _ (And.intro (rfl : [V.int _] = [V.int _]) ?_))) | ((with_reducible show ∀ p : Addr, _ = none → _); intro p np) | ((with_reducible show ∀ r : Int, ∀ H' : Hp, 0 ≤ r → _ → Sto _ _ H' → _ → _); intro r H' r0 r1 S e) | ((with_reducible show ∀ v : V, ∀ H' : Hp, Qd _ _ _ H' v → _ → _ → _); refine aQd (K := K) fun a q H' h h' zq okq S e => ?_) | ((with_reducible show ∀ H' : Hp, Same _ H' → _); intro H' e) | ((with_reducible show ∀ v : V, ∀ H' : Hp, Same _ H' → optV _ _ _ _ → _); intro v H' e h) | ((with_reducible show ∀ _ : V, ∀ _ : Hp, _ → _); refine aRq (K := K) fun a H' e h h' => ?_) | ((with_reducible show ∀ v : V, Rq _ _ v _ → _); refine aRq0 (K := K) fun a h h' => ?_))))
set_option hygiene false in
local macro_rules | `(tactic| walk_at "vk_va") => `(tactic| (((try dsimp only [cxOf_K, Cx.nox, Cx.wish]); repeat' (show (_ : Prop); first | with_reducible exact rfl | with_reducible assumption | (walk_at "vk_formsa") | ((with_reducible show ∀ d ∈ _, Tree _ d); first | exact treeAll_nil | refine treeAll_cons ?_ ?_) | (with_reducible exact ClsV.ty _) | ((with_reducible show TyX _ _ _ _); first | (apply sql_ty; (walk_at "vk_sql")) | (apply sqt_ty; (walk_at "vk_cl")) | exact .base (.int _)) | ((with_reducible show PySem.W.kitOne _ _ _ = some _); first | exact kit_ty (r := true) (by decide +kernel) | exact kit_ty (r := false) (by decide +kernel)) | ((with_reducible show SeqAt.shaped _ = true); first | with_reducible exact sh_dq _ | with_reducible exact sh_odp _ | decide +kernel) | ((with_reducible show _ = _); first | exact at0 rfl | exact at1 rfl | exact at2 rfl | exact rfl | (walk_at "vk_raw") | assumption) | ((with_reducible show (_ : Addr) ≠ _); (refine' Sto.ne (l := l) ?_ (by with_reducible assumption); (walk_at "vk_sto"))) | (with_reducible exact cdv2) | (with_reducible exact cdv4) | (with_reducible exact cdv8) | ((with_reducible show 0 < List.length _); first | omega | exact Nat.succ_pos _) | ((with_reducible show List.length _ < 2 ^ 32); first | omega | exact Nat.le_of_ble_eq_true rfl) | ((with_reducible show List.length _ ≤ sizeLine); first | exact Nat.zero_le _ | exact sz1 | exact sz2 | exact sz3 | exact sz4 | exact sm5 | exact sm6) | ((with_reducible show List.length _ < sizeLine); exact le1000 (by omega)) | ((with_reducible show _ ≤ _); omega) | ((with_reducible show (_ : Nat) < _); omega) | ((with_reducible show (_ : Int) < _); omega) | ((walk_at "vk_atom"); first | (walk_at "vk_cl") | (focus (with_reducible apply L2.SqL.of; (walk_at "vk_raw"))) | ((with_reducible show tyV _ _ _ _); apply Or.inl; apply And.intro rfl; apply Exists.intro; (walk_at "vk_sql")) | with_reducible exact L2.Dp.str _ | with_reducible exact L2.Dp.int _ | with_reducible exact L2.Dp.non | with_reducible exact L2.Dp.bl _ | (with_reducible apply Rq.dp; (walk_at "vk_cl")) | (with_reducible apply optV.dp; (walk_at "vk_cl")) | (with_reducible apply Vk.Ct.dd; (walk_at "vk_cl")) | (with_reducible apply L2.Dp.tup; (walk_at "vk_cl")) | (with_reducible apply L2.Dp.lst; (walk_at "vk_sql")) | exact tree_dq _ _ | exact Tree.str (by decide +kernel) | exact Tree.int _ | exact Tree.non | exact Tree.bl _ | (refine Tree.tup (Nat.le_of_ble_eq_true rfl) ?_) | with_reducible apply L2.DpAll.cons | with_reducible exact L2.DpAll.nil | with_reducible exact zz1 | with_reducible exact zo1 | with_reducible exact zl12 | with_reducible exact zl1m | with_reducible exact zlnm | with_reducible exact zln1 | with_reducible exact zlh1 | (with_reducible show Sz _ _; refine Sz.mono (by with_reducible assumption) (Nat.le_of_ble_eq_true rfl)) | with_reducible apply Sz.add | with_reducible apply Sz.sub | with_reducible apply Sz.mul | with_reducible apply Sz.neg | ((with_reducible show Sto _ _ _); (focus ((repeat first | with_reducible assumption | (with_reducible apply Sto.same; (walk_at "vk_up"))); done))) | ((with_reducible show Fr _ _ _); (focus ((repeat first | with_reducible assumption | with_reducible exact Fr.refl _ _ | (refine' Fr.trans ?_ (Fr.of (same_new (by with_reducible assumption) _))) | (refine' Fr.trans ?_ (by with_reducible assumption)) | (refine' Fr.trans ?_ (Fr.of (by with_reducible assumption)))); done))) | ((with_reducible show Same _ _); (walk_at "vk_same")) | assumption) | ((with_reducible show L2.SqL _ _ _ _ ∨ L2.SqT _ _ _ _); first | (apply Or.inl; (walk_at "vk_sql")) | (apply Or.inr; (walk_at "vk_cl"))) | ((fail_if_success (walk_at "vk_atom")); (fail_if_success with_reducible show rAppend _ _ _ _); (conv => whnf); first | (walk_at "vk_formsa") | with_reducible exact rfl | with_reducible assumption | ((with_reducible show _ = _); exact rfl)) ))))
set_option hygiene false in
local macro_rules | `(tactic| walk_at "vk_vc") => `(tactic| (((try dsimp only [cxOf_K, Cx.nox, Cx.wish]); repeat' (show (_ : Prop); first | with_reducible exact rfl | with_reducible assumption | (walk_at "vk_forms") | ((with_reducible show ∀ d ∈ _, Tree _ d); first | exact treeAll_nil | refine treeAll_cons ?_ ?_) | (with_reducible exact ClsV.ty _) | ((with_reducible show TyX _ _ _ _); first | (apply sql_ty; (walk_at "vk_sql")) | (apply sqt_ty; (walk_at "vk_cl")) | exact .base (.int _)) | ((with_reducible show PySem.W.kitOne _ _ _ = some _); first | exact kit_ty (r := true) (by decide +kernel) | exact kit_ty (r := false) (by decide +kernel)) | ((with_reducible show SeqAt.shaped _ = true); first | with_reducible exact sh_dq _ | with_reducible exact sh_odp _ | decide +kernel) | ((with_reducible show _ = _); first | exact at0 rfl | exact at1 rfl | exact at2 rfl | exact rfl | (walk_at "vk_raw") | assumption) | ((with_reducible show (_ : Addr) ≠ _); (refine' Sto.ne (l := l) ?_ (by with_reducible assumption); (walk_at "vk_sto"))) | (with_reducible exact cdv2) | (with_reducible exact cdv4) | (with_reducible exact cdv8) | ((with_reducible show 0 < List.length _); first | omega | exact Nat.succ_pos _) | ((with_reducible show List.length _ < 2 ^ 32); first | omega | exact Nat.le_of_ble_eq_true rfl) | ((with_reducible show List.length _ ≤ sizeLine); first | exact Nat.zero_le _ | exact sz1 | exact sz2 | exact sz3 | exact sz4 | exact sm5 | exact sm6) | ((with_reducible show List.length _ < sizeLine); exact le1000 (by omega)) | ((with_reducible show _ ≤ _); omega) | ((with_reducible show (_ : Nat) < _); omega) | ((with_reducible show (_ : Int) < _); omega) | ((walk_at "vk_atom"); first | (walk_at "vk_cl") | (focus (with_reducible apply L2.SqL.of; (walk_at "vk_raw"))) | ((with_reducible show tyV _ _ _ _); apply Or.inl; apply And.intro rfl; apply Exists.intro; (walk_at "vk_sql")) | with_reducible exact L2.Dp.str _ | with_reducible exact L2.Dp.int _ | with_reducible exact L2.Dp.non | with_reducible exact L2.Dp.bl _ | (with_reducible apply Rq.dp; (walk_at "vk_cl")) | (with_reducible apply optV.dp; (walk_at "vk_cl")) | (with_reducible apply Vk.Ct.dd; (walk_at "vk_cl")) | (with_reducible apply L2.Dp.tup; (walk_at "vk_cl")) | (with_reducible apply L2.Dp.lst; (walk_at "vk_sql")) | exact tree_dq _ _ | exact Tree.str (by decide +kernel) | exact Tree.int _ | exact Tree.non | exact Tree.bl _ | (refine Tree.tup (Nat.le_of_ble_eq_true rfl) ?_) | with_reducible apply L2.DpAll.cons | with_reducible exact L2.DpAll.nil | with_reducible exact zz1 | with_reducible exact zo1 | with_reducible exact zl12 | with_reducible exact zl1m | with_reducible exact zlnm | with_reducible exact zln1 | with_reducible exact zlh1 | (with_reducible show Sz _ _; refine Sz.mono (by with_reducible assumption) (Nat.le_of_ble_eq_true rfl)) | with_reducible apply Sz.add | with_reducible apply Sz.sub | with_reducible apply Sz.mul | with_reducible apply Sz.neg | ((with_reducible show Sto _ _ _); (focus ((repeat first | with_reducible assumption | (with_reducible apply Sto.same; (walk_at "vk_up"))); done))) | ((with_reducible show Fr _ _ _); (focus ((repeat first | with_reducible assumption | with_reducible exact Fr.refl _ _ | (refine' Fr.trans ?_ (Fr.of (same_new (by with_reducible assumption) _))) | (refine' Fr.trans ?_ (by with_reducible assumption)) | (refine' Fr.trans ?_ (Fr.of (by with_reducible assumption)))); done))) | ((with_reducible show Same _ _); (walk_at "vk_same")) | assumption) | ((with_reducible show L2.SqL _ _ _ _ ∨ L2.SqT _ _ _ _); first | (apply Or.inl; (walk_at "vk_sql")) | (apply Or.inr; (walk_at "vk_cl"))) | ((fail_if_success (walk_at "vk_atom")); (fail_if_success with_reducible show rAppend _ _ _ _); (conv => whnf); first | (walk_at "vk_forms") | with_reducible exact rfl | with_reducible assumption | ((with_reducible show _ = _); exact rfl)) ))))
set_option hygiene false in
local macro_rules | `(tactic| walk_at "vk_fr") => `(tactic| ((focus ((repeat first | with_reducible assumption | with_reducible exact Fr.refl _ _ | (refine' Fr.trans ?_ (Fr.of (same_new (by with_reducible assumption) _))) | (refine' Fr.trans ?_ (by with_reducible assumption)) | (refine' Fr.trans ?_ (Fr.of (by with_reducible assumption)))); done))))
namespace Vk
open PySem L2 Vm Vl
variable {K : PySem.W.Frag}
/-- a comprehension over a list: what each item gives, if it gives anything -/
theorem lcAll {α β : Type} {R : Hp → V → α → Prop} {R' : Hp → V → β → Prop} (L : Lasts R') (φ : α → Option β) {a : Addr} {xs : List V} {c : List α} {H : Hp} {g : TG} {tt : TT} {te : TE} {vs : List Nat} {σ : L2.St} {Qd : Hp → Prop} {D : Addr} (hD : H D = none)
    (hx : SqL K H a xs) (hc : All2 (R H) xs c) (hl : c.length ≤ 1000)
    (hs : ∀ (i : Nat) x p G, c[i]? = some p → R H x p → Same H G → ∀ (Y : V → Hp → Prop) (N : Hp → Prop), (∀ y G' b, Same G G' → φ p = some b → R' G' y b → Y y G') → (∀ G', φ p = none → Same G G' → N G') →
      g x (wipe σ vs) G fun σ2 H2 => wipe σ2 vs = wipe σ vs ∧ tt σ2 H2 fun b H3 => if b = true then te σ2 H3 Y else N H3)
    (hd : ∀ us H', Same H H' → H' D = some (.lst us) → All2 (R' H') us (c.filterMap φ) → Qd H') :
    ∃ W : Nat → Nat → Hp → Prop, (∃ m, W 0 m (upd H D (.lst []))) ∧ ∀ i m H, W i m H →
      ((Itl K a).stop i H ∧ Qd H) ∨ ((Itl K a).go i H ∧ ∃ Nx : Hp → Prop, (∀ H', Nx H' → ∃ m', m' < m ∧ W (i + 1) m' H') ∧ ∀ x H', (Itl K a).yld i H x H' → g x (wipe σ vs) H' fun σ2 H2 => wipe σ2 vs = wipe σ vs ∧ tt σ2 H2 fun b H3 =>
        if b = true then te σ2 H3 fun y H4 => ∃ acc, H4 D = some (.lst acc) ∧ acc.length < sizeLine ∧ Nx (upd H4 D (.lst (acc ++ [y]))) else Nx H3) := by
  refine lc_list (xs := xs) (fun i G => ∃ acc, G D = some (.lst acc) ∧ Same H G ∧ All2 (R' G) acc ((c.take i).filterMap φ)) ⟨[], upd_same, same_new hD _, by rw [List.take_zero]; exact All2.nil⟩ (fun i G _ h => by obtain ⟨_, _, s1, _⟩ := h; exact s1.seq hx) ?_ ?_
  · rintro i x G hxi ⟨acc, h1, s1, h2⟩
    have hi : i < c.length := by have := (List.getElem?_eq_some_iff.mp hxi).1; rw [hc.1] at this; exact this
    have ec : c[i]? = some c[i] := List.getElem?_eq_getElem hi
    have et : c.take (i + 1) = c.take i ++ [c[i]] := by rw [List.take_add_one, ec]; rfl
    refine hs i x c[i] G ec (hc.2 i x _ hxi ec) s1 _ _ (fun y G' b e1 eb r => ?_) (fun G' eb e1 => ?_)
    · have hD2 := e1 _ _ h1
      have fr : Fr D G' (upd G' D (.lst (acc ++ [y]))) := Fr.upd _
      refine ⟨acc, hD2, ?_, acc ++ [y], upd_same, same_upd (s1.trans e1) hD _, ?_⟩
      · have q := h2.1
        have q2 := List.length_filterMap_le φ (c.take i)
        rw [List.length_take] at q2
        have : sizeLine = 16777216 := sizeLine_eq
        omega
      · rw [et, List.filterMap_append]
        have : [c[i]].filterMap φ = [b] := by simp [List.filterMap, eb]
        rw [this]
        exact (h2.imp fun _ _ q => L fr ⟨_, hD2⟩ (L (Fr.of (s := D) e1) ⟨_, h1⟩ q)).snoc (L fr ⟨_, hD2⟩ r)
    · refine ⟨acc, e1 _ _ h1, s1.trans e1, ?_⟩
      rw [et, List.filterMap_append]
      have : [c[i]].filterMap φ = [] := by simp [List.filterMap, eb]
      rw [this, List.append_nil]
      exact h2.imp fun _ _ q => L (Fr.of (s := D) e1) ⟨_, h1⟩ q
  · rintro G ⟨acc, h1, s1, h2⟩
    rw [List.take_of_length_le (by rw [hc.1]; exact Nat.le_refl _)] at h2
    exact hd acc G s1 h1 h2
/-- a comprehension over a tuple: what each item gives, if it gives anything -/
theorem lcAllT {α β : Type} {R : Hp → V → α → Prop} {R' : Hp → V → β → Prop} (L : Lasts R') (φ : α → Option β) {a : Addr} {xs : List V} {c : List α} {H : Hp} {g : TG} {tt : TT} {te : TE} {vs : List Nat} {σ : L2.St} {Qd : Hp → Prop} {D : Addr} (hD : H D = none)
    (hx : SqT K H a xs) (hc : All2 (R H) xs c) (hl : c.length ≤ 1000)
    (hs : ∀ (i : Nat) x p G, c[i]? = some p → R H x p → Same H G → ∀ (Y : V → Hp → Prop) (N : Hp → Prop), (∀ y G' b, Same G G' → φ p = some b → R' G' y b → Y y G') → (∀ G', φ p = none → Same G G' → N G') →
      g x (wipe σ vs) G fun σ2 H2 => wipe σ2 vs = wipe σ vs ∧ tt σ2 H2 fun b H3 => if b = true then te σ2 H3 Y else N H3)
    (hd : ∀ us H', Same H H' → H' D = some (.lst us) → All2 (R' H') us (c.filterMap φ) → Qd H') :
    ∃ W : Nat → Nat → Hp → Prop, (∃ m, W 0 m (upd H D (.lst []))) ∧ ∀ i m H, W i m H →
      ((Itt K a).stop i H ∧ Qd H) ∨ ((Itt K a).go i H ∧ ∃ Nx : Hp → Prop, (∀ H', Nx H' → ∃ m', m' < m ∧ W (i + 1) m' H') ∧ ∀ x H', (Itt K a).yld i H x H' → g x (wipe σ vs) H' fun σ2 H2 => wipe σ2 vs = wipe σ vs ∧ tt σ2 H2 fun b H3 =>
        if b = true then te σ2 H3 fun y H4 => ∃ acc, H4 D = some (.lst acc) ∧ acc.length < sizeLine ∧ Nx (upd H4 D (.lst (acc ++ [y]))) else Nx H3) := by
  refine lc_tup (xs := xs) (fun i G => ∃ acc, G D = some (.lst acc) ∧ Same H G ∧ All2 (R' G) acc ((c.take i).filterMap φ)) ⟨[], upd_same, same_new hD _, by rw [List.take_zero]; exact All2.nil⟩ (fun i G _ h => by obtain ⟨_, _, s1, _⟩ := h; exact s1.sqt hx) ?_ ?_
  · rintro i x G hxi ⟨acc, h1, s1, h2⟩
    have hi : i < c.length := by have := (List.getElem?_eq_some_iff.mp hxi).1; rw [hc.1] at this; exact this
    have ec : c[i]? = some c[i] := List.getElem?_eq_getElem hi
    have et : c.take (i + 1) = c.take i ++ [c[i]] := by rw [List.take_add_one, ec]; rfl
    refine hs i x c[i] G ec (hc.2 i x _ hxi ec) s1 _ _ (fun y G' b e1 eb r => ?_) (fun G' eb e1 => ?_)
    · have hD2 := e1 _ _ h1
      have fr : Fr D G' (upd G' D (.lst (acc ++ [y]))) := Fr.upd _
      refine ⟨acc, hD2, ?_, acc ++ [y], upd_same, same_upd (s1.trans e1) hD _, ?_⟩
      · have q := h2.1
        have q2 := List.length_filterMap_le φ (c.take i)
        rw [List.length_take] at q2
        have : sizeLine = 16777216 := sizeLine_eq
        omega
      · rw [et, List.filterMap_append]
        have : [c[i]].filterMap φ = [b] := by simp [List.filterMap, eb]
        rw [this]
        exact (h2.imp fun _ _ q => L fr ⟨_, hD2⟩ (L (Fr.of (s := D) e1) ⟨_, h1⟩ q)).snoc (L fr ⟨_, hD2⟩ r)
    · refine ⟨acc, e1 _ _ h1, s1.trans e1, ?_⟩
      rw [et, List.filterMap_append]
      have : [c[i]].filterMap φ = [] := by simp [List.filterMap, eb]
      rw [this, List.append_nil]
      exact h2.imp fun _ _ q => L (Fr.of (s := D) e1) ⟨_, h1⟩ q
  · rintro G ⟨acc, h1, s1, h2⟩
    rw [List.take_of_length_le (by rw [hc.1]; exact Nat.le_refl _)] at h2
    exact hd acc G s1 h1 h2
theorem forL {a : Addr} {xs : List V} {g : TG} {tb : TS} {nx : L2.St → Hp → Prop} {rt : VK} {σ : L2.St} {H : Hp} (Pv : Nat → L2.St → Hp → Prop) (h0 : Pv 0 σ H) (hl : ∀ i σ H, i ≤ xs.length → Pv i σ H → SqL K H a xs) (hs : ∀ i x σ H, xs[i]? = some x → Pv i σ H → g x σ H fun σ2 H2 => tb { nx := Pv (i + 1), rt := rt, bk := nx, ct := Pv (i + 1) } σ2 H2)
    (hd : ∀ σ H, Pv xs.length σ H → nx σ H) :
    ∃ W : Nat → Nat → L2.St → Hp → Prop, (∃ m, W 0 m σ H) ∧ ∀ i m σ H, W i m σ H →
      ((Itl K a).stop i H ∧ nx σ H) ∨ ((Itl K a).go i H ∧ ∃ N : L2.St → Hp → Prop, (∀ σ' H', N σ' H' → ∃ m', m' < m ∧ W (i + 1) m' σ' H') ∧ ∀ x H', (Itl K a).yld i H x H' → g x σ H' fun σ2 H2 => tb { nx := N, rt := rt, bk := nx, ct := N } σ2 H2) :=
  for_list (D := { nx := nx, rt := rt }) Pv h0 hl hs hd
theorem forT {a : Addr} {xs : List V} {g : TG} {tb : TS} {nx : L2.St → Hp → Prop} {rt : VK} {σ : L2.St} {H : Hp} (Pv : Nat → L2.St → Hp → Prop) (h0 : Pv 0 σ H) (hl : ∀ i σ H, i ≤ xs.length → Pv i σ H → SqT K H a xs) (hs : ∀ i x σ H, xs[i]? = some x → Pv i σ H → g x σ H fun σ2 H2 => tb { nx := Pv (i + 1), rt := rt, bk := nx, ct := Pv (i + 1) } σ2 H2)
    (hd : ∀ σ H, Pv xs.length σ H → nx σ H) :
    ∃ W : Nat → Nat → L2.St → Hp → Prop, (∃ m, W 0 m σ H) ∧ ∀ i m σ H, W i m σ H →
      ((Itt K a).stop i H ∧ nx σ H) ∨ ((Itt K a).go i H ∧ ∃ N : L2.St → Hp → Prop, (∀ σ' H', N σ' H' → ∃ m', m' < m ∧ W (i + 1) m' σ' H') ∧ ∀ x H', (Itt K a).yld i H x H' → g x σ H' fun σ2 H2 => tb { nx := N, rt := rt, bk := nx, ct := N } σ2 H2) :=
  for_tup (D := { nx := nx, rt := rt }) Pv h0 hl hs hd
theorem forR {lo : Int} {n : Nat} {g : TG} {tb : TS} {nx : L2.St → Hp → Prop} {rt : VK} {σ : L2.St} {H : Hp} (Pv : Nat → L2.St → Hp → Prop) (h0 : Pv 0 σ H) (hs : ∀ i σ H, i < n → Pv i σ H → g (.int (lo + i)) σ H fun σ2 H2 => tb { nx := Pv (i + 1), rt := rt, bk := nx, ct := Pv (i + 1) } σ2 H2)
    (hd : ∀ σ H, Pv n σ H → nx σ H) :
    ∃ W : Nat → Nat → L2.St → Hp → Prop, (∃ m, W 0 m σ H) ∧ ∀ i m σ H, W i m σ H →
      ((Itr lo n).stop i H ∧ nx σ H) ∨ ((Itr lo n).go i H ∧ ∃ N : L2.St → Hp → Prop, (∀ σ' H', N σ' H' → ∃ m', m' < m ∧ W (i + 1) m' σ' H') ∧ ∀ x H', (Itr lo n).yld i H x H' → g x σ H' fun σ2 H2 => tb { nx := N, rt := rt, bk := nx, ct := N } σ2 H2) :=
  for_range (D := { nx := nx, rt := rt }) Pv h0 hs hd
theorem forE {a : Addr} {xs : List V} {g : TG} {tb : TS} {nx : L2.St → Hp → Prop} {rt : VK} {σ : L2.St} {H : Hp} (Pv : Nat → L2.St → Hp → Prop) (h0 : Pv 0 σ H) (hq : ∀ i σ H, Pv i σ H → SqL K H a xs) (hs : ∀ (i : Nat) (x : V) (T : Addr) (σ : L2.St) (H : Hp), xs[i]? = some x → Pv i σ H → H T = none → g (.ref T) σ (upd H T (.tup [.int (i : Nat), x])) fun σ2 H2 => tb { nx := Pv (i + 1), rt := rt, bk := nx, ct := Pv (i + 1) } σ2 H2)
    (hd : ∀ σ H, Pv xs.length σ H → nx σ H) :
    ∃ W : Nat → Nat → L2.St → Hp → Prop, (∃ m, W 0 m σ H) ∧ ∀ i m σ H, W i m σ H →
      ((Ite K a).stop i H ∧ nx σ H) ∨ ((Ite K a).go i H ∧ ∃ N : L2.St → Hp → Prop, (∀ σ' H', N σ' H' → ∃ m', m' < m ∧ W (i + 1) m' σ' H') ∧ ∀ v H', (Ite K a).yld i H v H' → g v σ H' fun σ2 H2 => tb { nx := N, rt := rt, bk := nx, ct := N } σ2 H2) :=
  for_enum (D := { nx := nx, rt := rt }) Pv h0 hq hs hd
theorem ifN {p : Prop} [Decidable p] {A B : Prop} (h1 : ¬ p → A) (h2 : p → B) : if (!decide p) = true then A else B := by
  by_cases h : p
  · rw [decide_eq_true h]; exact h2 h
  · rw [decide_eq_false h]; exact h1 h
def odp : Option Rat → PyData
  | none => .none
  | some q => dq q
theorem optV.dp {H : Hp} {v : V} {o : Option Rat} (h : optV K H v o) : Dp K H v (odp o) := by
  cases o with
  | none =>
    have h : v = .non := h
    rw [h]
    exact .non
  | some q => exact Rq.dp h
theorem sh_odp (o : Option Rat) : SeqAt.shaped (odp o) = true := by cases o <;> rfl
theorem eqv_odp (o u : Option Rat) : PyData.eqv (odp o) (odp u) = decide (o = u) := by
  cases o with
  | none =>
    cases u with
    | none => rfl
    | some q => rfl
  | some p =>
    cases u with
    | none => rfl
    | some q =>
      show PyData.eqv (dq p) (dq q) = _
      rw [eqv_dq]
      by_cases h : p = q
      · rw [dT h, dT (congrArg some h)]
      · rw [dF h, dF fun e => h (Option.some.inj e)]
theorem eqv_odq (o : Option Rat) (q : Rat) : PyData.eqv (odp o) (dq q) = decide (o = some q) := eqv_odp o (some q)
theorem treeAll_nil {n : Nat} : ∀ d ∈ ([] : List PyData), Tree n d := nofun
theorem treeAll_cons {n : Nat} {d : PyData} {ds : List PyData} (h : Tree n d) (g : ∀ d ∈ ds, Tree n d) : ∀ e ∈ d :: ds, Tree n e := fun e he => by
  rcases List.mem_cons.mp he with rfl | he
  · exact h
  · exact g e he
theorem ifNT {p : Prop} [Decidable p] {A B : Prop} (h : ¬ p) (hA : A) : if (!decide p) = true then A else B := by rw [decide_eq_false h]; exact hA
theorem ifNF {p : Prop} [Decidable p] {A B : Prop} (h : p) (hB : B) : if (!decide p) = true then A else B := by rw [decide_eq_true h]; exact hB
theorem optV_rq {H : Hp} {v : V} {o : Option Rat} {q : Rat} (h : optV K H v o) (e : o = some q) : Rq K H v q := by subst e; exact h
theorem aQd {l s : Addr} {m : Nat} {ok : Rat → Prop} {H : Hp} {Q : VK} (h : ∀ a q H', Rq K H' (.ref a) q → SqT K H' a [.int q.num, .int (q.den : Int)] → Sz m q → ok q → Sto l s H' → Fr s H H' → Q (.ref a) H') : ∀ v H', Qd K m ok H' v → Sto l s H' → Fr s H H' → Q v H' := fun v H' hq S e => by
  obtain ⟨q, hr, z, o⟩ := hq
  obtain ⟨a, rfl, ha⟩ := id hr
  exact h a q H' hr ha z o S e
theorem aRq0 {q : Rat} {H : Hp} {Q : VK} (h : ∀ a, Rq K H (.ref a) q → SqT K H a [.int q.num, .int (q.den : Int)] → Q (.ref a) H) : ∀ v, Rq K H v q → Q v H := fun v hq => by
  obtain ⟨a, rfl, ha⟩ := id hq
  exact h a hq ha
structure Hold (p : Prop) : Prop where
  out : p
theorem rl11 {H : Hp} {t : Addr} : Rq K (upd H t (.tup [.int 1, .int 1])) (.ref t) (1) := rq_new 1 1 _ (by decide +kernel) (by decide +kernel)
theorem zl11 : Sz 10 (1 : Rat) := by decide +kernel
theorem rl12 {H : Hp} {t : Addr} : Rq K (upd H t (.tup [.int 1, .int 2])) (.ref t) (mkRat 1 2) := rq_new 1 2 _ (by decide +kernel) (by decide +kernel)
theorem zl12 : Sz 10 (mkRat 1 2 : Rat) := by decide +kernel
theorem rl01 {H : Hp} {t : Addr} : Rq K (upd H t (.tup [.int 0, .int 1])) (.ref t) (0) := rq_new 0 1 _ (by decide +kernel) (by decide +kernel)
theorem zl01 : Sz 10 (0 : Rat) := by decide +kernel
theorem rl1m {H : Hp} {t : Addr} : Rq K (upd H t (.tup [.int 1, .int 1000])) (.ref t) (mkRat 1 1000) := rq_new 1 1000 _ (by decide +kernel) (by decide +kernel)
theorem zl1m : Sz 10 (mkRat 1 1000 : Rat) := by decide +kernel
theorem rlnm {H : Hp} {t : Addr} : Rq K (upd H t (.tup [.int (-1), .int 1000])) (.ref t) (mkRat (-1) 1000) := rq_new (-1) 1000 _ (by decide +kernel) (by decide +kernel)
theorem zlnm : Sz 10 (mkRat (-1) 1000 : Rat) := by decide +kernel
theorem rln1 {H : Hp} {t : Addr} : Rq K (upd H t (.tup [.int (-1), .int 1])) (.ref t) (-1) := rq_new (-1) 1 _ (by decide +kernel) (by decide +kernel)
theorem zln1 : Sz 10 (-1 : Rat) := by decide +kernel
theorem rlh1 {H : Hp} {t : Addr} : Rq K (upd H t (.tup [.int 100, .int 1])) (.ref t) (100) := rq_new 100 1 _ (by decide +kernel) (by decide +kernel)
theorem zlh1 : Sz 10 (100 : Rat) := by decide +kernel
/-- a list that grows -/
structure Gw {α : Type} (R : Hp → V → α → Prop) (H : Hp) (D : Addr) (us : List V) (os : List α) (G : Hp) : Prop where
  fresh : H D = none
  same : Same H G
  at_ : G D = some (.lst us)
  all : All2 (R G) us os
theorem Gw.go {α : Type} {R : Hp → V → α → Prop} {H G G1 : Hp} {D : Addr} {us : List V} {os : List α} (L : Lasts R) (h : Gw R H D us os G) (e : Same G G1) : Gw R H D us os G1 :=
  ⟨h.fresh, h.same.trans e, e _ _ h.at_, h.all.imp fun _ _ q => L (Fr.of (s := D) e) ⟨_, h.at_⟩ q⟩
theorem Gw.app {α : Type} {R : Hp → V → α → Prop} {H G : Hp} {D : Addr} {us : List V} {os : List α} {x : V} {q : α} (L : Lasts R) (h : Gw R H D us os G) (r : R G x q) : Gw R H D (us ++ [x]) (os ++ [q]) (upd G D (.lst (us ++ [x]))) :=
  ⟨h.fresh, same_upd h.same h.fresh _, upd_same, (h.all.imp fun _ _ q => L (Fr.upd _) ⟨_, h.at_⟩ q).snoc (L (Fr.upd _) ⟨_, h.at_⟩ r)⟩
theorem appGw {α : Type} {R : Hp → V → α → Prop} {H G : Hp} {D : Addr} {us : List V} {os : List α} {x : V} {q : α} {C : Addr → List V → V → Prop} (L : Lasts R) (gw : Gw R H D us os G) (r : R G x q) (hl : us.length < sizeLine) (k : Gw R H D (us ++ [x]) (os ++ [q]) (upd G D (.lst (us ++ [x]))) → Fr D G (upd G D (.lst (us ++ [x]))) → C D us x) :
    ∃ (l : Addr) (xs : List V) (y : V), V.ref D = .ref l ∧ [x] = [y] ∧ G l = some (.lst xs) ∧ xs.length < sizeLine ∧ C l xs y := ⟨D, us, x, rfl, rfl, gw.at_, hl, k (gw.app L r) (Fr.upd _)⟩
theorem Gw.start {α : Type} {R : Hp → V → α → Prop} {H G : Hp} {D : Addr} (e : Same H G) (h : G D = none) : Gw R H D [] [] (upd G D (.lst [])) := ⟨sameFree e h, e.trans (same_new h _), upd_same, All2.nil⟩
end Vk
set_option maxHeartbeats 4000000
namespace Vk
open PySem L2 Vm Vl
variable {l aZERO aONE CB CR CV fB fR : Addr} {P : Program} {w : World} {K : PySem.W.Frag} {mg : Str → Option Value} {base : Heap} {k : Nat} {f f1 f2 f3 f4 f5 f6 f7 f8 f9 : Addr} {fd fd1 fd2 fd3 fd4 fd5 fd6 fd7 fd8 fd9 : FuncData}
theorem place_cut {c : List Pc} {t : Rat} {i : Nat} {p : Pc} (ok : Cok c) (done : ∀ (j : Nat) (p : Pc), j < i → c[j]? = some p → ¬ t < p.s) (ec : c[i]? = some p) (g : t < p.s) : (c.filter (on t)).length = i := by
  have hi := (List.getElem?_eq_some_iff.mp ec).1
  have e : c.filter (on t) = c.take i := filter_take _ fun j x hx => by
    constructor
    · intro o
      refine Nat.lt_of_not_le fun l => ?_
      have : p.s ≤ x.s := by
        by_cases e : i = j
        · subst e; rw [ec] at hx; cases hx; exact Rat.le_refl
        · have := cok_lt ok (show i < j by omega) ec hx; grind
      simp [on] at o
      grind
    · intro l
      simp [on, done j x l hx]
  rw [e, List.length_take]
  omega
abbrev s__place_at : Stmt := top 49
abbrev N__place_at : List Str := ["course", "t", "place", "start", "shown", "rate"]
theorem sc__place_at : FnScope N__place_at ["course", "t"] (defScope s__place_at) := ⟨rfl, rfl, rfl, by decide +kernel, rfl, by decide +kernel, by decide +kernel⟩
abbrev ps__place_at : List Str := ["course", "t"]
def spPlace (K : PySem.W.Frag) : Sp := fun vs H Q _ => ∃ (a : Addr) (y : V) (c : List Pc) (t : Rat) (i j l m : Nat), vs = [.ref a, y] ∧ Cq K H a c ∧ Rq K H y t ∧ Cz i j l c ∧ Sz m t ∧ Cok c ∧ i + m + 1 ≤ 9000 ∧ Q (.int (((c.filter (on t)).length : Int) - 1)) H
theorem ok_place_at (F : Fn K mg "_place_at" s__place_at ps__place_at f fd) (dcompare : Def P w K mg base k "compare" ["a", "b"] (spTest2 K fun p q => .int (sg p q)) f1 fd1) : Def P w K mg base (k + 1) "_place_at" ps__place_at (spPlace K) f fd := by
  refine ⟨F.F.ok sc__place_at (fun vs H Q E h => ?_) (fun cdv A outer s H vs Q E hr h => ?_), F.m, F.F.kp, F.b⟩
  · obtain ⟨_, _, _, _, _, _, _, _, rfl, _⟩ := h
    rfl
  obtain ⟨a, y, c, t, i0, j0, l0, m, rfl, ⟨xs, hxs, hc⟩, hy, cz, zt, ok, hb, z⟩ := h
  refine ⟨_, (pss_cons (ps_set (i := 2) sc__place_at.nd rfl (Or.inl rfl) (pe_un un_neg pe_int))
      (pss_cons (ps_for PassesOwn.never rfl (pi_list (pv 0)) (pg_tup rfl (pgs_cons (pg_name (i := 3) sc__place_at.nd rfl (Or.inl rfl)) (pgs_cons (pg_name (i := 4) sc__place_at.nd rfl (Or.inl rfl)) (pgs_cons (pg_name (i := 5) sc__place_at.nd rfl (Or.inl rfl)) pgs_nil))))
        (pss_cons (ps_if (pt_cmpR op_gt (pcall dcompare hr (pa_cons (pv 3) (pa_cons (pv 1) pa_nil))) pe_int (nomark _))
          (pss_one ps_break)
          pss_nil)
        (pss_one (ps_aug (i := 2) sc__place_at.nd rfl (Or.inl rfl) pe_int ip_add))))
      (pss_one (ps_ret (pv 2))))), ?_⟩
  (walk_at "vk_vc")
  refine forL (K := K) (a := a) (xs := xs) (fun i σ G => ∃ k3 k4 k5, σ = [some (.ref a), some y, some (.int ((i : Int) - 1)), k3, k4, k5] ∧ G = H ∧ ∀ (j : Nat) (p : Pc), j < i → c[j]? = some p → ¬ t < p.s)
      ⟨none, none, none, rfl, rfl, fun j p h => absurd h (by omega)⟩ (fun i σ G _ h => by obtain ⟨_, _, _, _, rfl, _⟩ := h; exact hxs) ?_ ?_
  · rintro i u σ G hu ⟨k3, k4, k5, rfl, rfl, done⟩
    have hi : i < c.length := by have := (List.getElem?_eq_some_iff.mp hu).1; rw [hc.1] at this; exact this
    have ec : c[i]? = some c[i] := List.getElem?_eq_getElem hi
    obtain ⟨pa, ps, pv, pr, rfl, hpa, r1, r2, r3⟩ := hc.2 i u _ hu ec
    generalize c[i] = p at ec r1 r2 r3
    have zp := (cz p (List.mem_of_getElem? ec)).1
    (walk_at "vk_vc")
    · have e := place_cut ok done ec (sg_gt.mp gc)
      rw [e] at z; exact z
    · show [some (V.ref a), some y, some (V.int ((i : Int) - 1 + 1)), some ps, some pv, some pr] = [some (V.ref a), some y, some (V.int (((i + 1 : Nat) : Int) - 1)), some ps, some pv, some pr]
      rw [show (i : Int) - 1 + 1 = ((i + 1 : Nat) : Int) - 1 by omega]
    · intro j q hj hq
      by_cases e : j = i
      · subst e; rw [ec] at hq; cases hq
        exact fun g => gc (sg_gt.mpr g)
      · exact done j q (by omega) hq
  · rintro σ G ⟨k3, k4, k5, rfl, rfl, done⟩
    have e : (c.filter (on t)) = c := List.filter_eq_self.mpr fun p hp => by
      obtain ⟨j, hj⟩ := List.mem_iff_getElem?.mp hp
      have := done j p (by have := (List.getElem?_eq_some_iff.mp hj).1; rw [hc.1]; exact this) hj
      simp [on, this]
    rw [e, ← hc.1] at z
    (walk_at "vk_vc")
theorem on_take {c : List Pc} (ok : Cok c) (t : Rat) : c.filter (on t) = c.take (c.filter (on t)).length := by
  by_cases h : ∃ i p, c[i]? = some p ∧ t < p.s ∧ ∀ (j : Nat) (q : Pc), j < i → c[j]? = some q → ¬ t < q.s
  · obtain ⟨i, p, ec, g, done⟩ := h
    have e := place_cut ok done ec g
    rw [e]
    refine filter_take _ fun j x hx => ?_
    constructor
    · intro o
      refine Nat.lt_of_not_le fun l => ?_
      have : p.s ≤ x.s := by
        by_cases e : i = j
        · subst e; rw [ec] at hx; cases hx; exact Rat.le_refl
        · have := cok_lt ok (show i < j by omega) ec hx; grind
      simp [on] at o
      grind
    · intro l
      simp [on, done j x l hx]
  · have e : c.filter (on t) = c := List.filter_eq_self.mpr fun p hp => by
      obtain ⟨j, hj⟩ := List.mem_iff_getElem?.mp hp
      have key : ∀ (n : Nat) (q : Pc), c[n]? = some q → ¬ t < q.s := by
        intro n
        induction n using Nat.strongRecOn with
        | ind n ih =>
          intro q hq g
          exact h ⟨n, q, hq, g, fun m r hm hr => ih m hm r hr⟩
      simp [on, key j p hj]
    rw [e, List.take_length]
/-- the piece in force -/
def pcAt (c : List Pc) (t : Rat) : Option Pc := (c.filter (on t)).getLast?
theorem now_pc (c : List Pc) (t : Rat) : nowf c t = (pcAt c t).map (vl t) := rfl
theorem pcAt_at {c : List Pc} {t : Rat} (h : 0 < (c.filter (on t)).length) : ∃ p, p ∈ c ∧ pcAt c t = some p ∧ ∀ ok : Cok c, c[(c.filter (on t)).length - 1]? = some p := by
  obtain ⟨p, hp⟩ : ∃ p, pcAt c t = some p := by
    unfold pcAt
    cases e : (c.filter (on t)).getLast? with
    | none => rw [List.getLast?_eq_none_iff] at e; rw [e] at h; exact absurd h (by simp)
    | some p => exact ⟨p, rfl⟩
  refine ⟨p, (List.mem_filter.mp (List.mem_of_getLast? hp)).1, hp, fun ok => ?_⟩
  have e := on_take ok t
  unfold pcAt at hp
  rw [List.getLast?_eq_getElem?, e, List.getElem?_take, List.length_take] at hp
  have hm : (c.filter (on t)).length ≤ c.length := List.length_filter_le _ _
  rw [Nat.min_eq_left hm] at hp
  rw [if_pos (by omega)] at hp
  exact hp
theorem pcAt_none {c : List Pc} {t : Rat} (h : (c.filter (on t)).length = 0) : pcAt c t = none := by
  unfold pcAt
  rw [List.eq_nil_of_length_eq_zero h]
  rfl
abbrev s__piece_at : Stmt := top 50
abbrev N__piece_at : List Str := ["course", "t", "place"]
theorem sc__piece_at : FnScope N__piece_at ["course", "t"] (defScope s__piece_at) := ⟨rfl, rfl, rfl, by decide +kernel, rfl, by decide +kernel, by decide +kernel⟩
abbrev ps__piece_at : List Str := ["course", "t"]
def spPieceAt (K : PySem.W.Frag) (CB : Addr) : Sp := fun vs H Q E => ∃ (a : Addr) (y : V) (c : List Pc) (t : Rat) (i j l m : Nat), vs = [.ref a, y] ∧ Cq K H a c ∧ Rq K H y t ∧ Cz i j l c ∧ Sz m t ∧ Cok c ∧ i + m + 1 ≤ 9000 ∧ c.length ≤ 900 ∧ (∀ p v, p ∈ c → pcAt c t = some p → Pq K H v p → Q v H) ∧ (pcAt c t = none → eV E CB H y)
theorem ok_piece_at (TBeforeStart : PySem.ValX.ValTxt K mg "BeforeStart" CB fB) (F : Fn K mg "_piece_at" s__piece_at ps__piece_at f fd) (d_place_at : Def P w K mg base k "_place_at" ["course", "t"] (spPlace K) f1 fd1) : DefY P w K mg base (k + 1) "_piece_at" ps__piece_at (spPieceAt K CB) f fd := by
  refine ⟨okY F.F sc__piece_at (fun vs H Q E h => ?_) (fun cdv A outer s H vs Q E hr h => ?_), F.m, F.F.kp, F.b⟩
  · obtain ⟨_, _, _, _, _, _, _, _, rfl, _⟩ := h
    rfl
  obtain ⟨a, y, c, t, i0, j0, l0, m, rfl, hC, hy, cz, zt, ok, hb, hl, z, e⟩ := h
  obtain ⟨xs, hxs, hc⟩ := id hC
  refine ⟨_, (pss_cons (ps_set (i := 2) sc__piece_at.nd rfl (Or.inl rfl) (pcall d_place_at hr (pa_cons (pv 0) (pa_cons (pv 1) pa_nil))))
      (pss_cons (ps_if (pt_cmpR op_lt (pv 2) pe_int (nomark _))
        (pss_one (ps_raiseValN rfl TBeforeStart hr (L2N.takes_of rfl rfl rfl rfl) (pa_cons (pv 1) pa_nil)))
        pss_nil)
      (pss_one (ps_ret (pe_ix ix_list (pv 0) (pv 2) (fun _ _ => rfl)))))), ?_⟩
  by_cases h0 : (c.filter (on t)).length = 0
  · (walk_at "vk_vc")
    · exact e (pcAt_none h0) p np
    all_goals (exfalso; omega)
  · obtain ⟨p, hm, hp, hi⟩ := pcAt_at (c := c) (t := t) (by omega)
    obtain ⟨v, hv, pq⟩ := hc.at (hi ok)
    have ha : atI xs (((c.filter (on t)).length : Int) - 1) = some v := at_of (j := (c.filter (on t)).length - 1) (by omega) hv
    have key := z p v hm hp pq
    (walk_at "vk_vc")
    omega
abbrev s_shown_at : Stmt := top 51
abbrev N_shown_at : List Str := ["course", "t"]
theorem sc_shown_at : FnScope N_shown_at ["course", "t"] (defScope s_shown_at) := ⟨rfl, rfl, rfl, by decide +kernel, rfl, by decide +kernel, by decide +kernel⟩
abbrev ps_shown_at : List Str := ["course", "t"]
def spShownAt (K : PySem.W.Frag) (CB : Addr) : Sp := fun vs H Q E => ∃ (a : Addr) (y : V) (c : List Pc) (t : Rat) (i j l m : Nat), vs = [.ref a, y] ∧ Cq K H a c ∧ Rq K H y t ∧ Cz i j l c ∧ Sz m t ∧ Cok c ∧ j + l + m + i + 3 ≤ 9000 ∧ c.length ≤ 900 ∧ (∀ q a H', nowf c t = some q → Same H H' → Rq K H' (.ref a) q → Q (.ref a) H') ∧ (nowf c t = none → eV E CB H y)
theorem ok_shown_at (F : Fn K mg "shown_at" s_shown_at ps_shown_at f fd) (d_piece_at : DefY P w K mg base k "_piece_at" ["course", "t"] (spPieceAt K CB) f1 fd1) (d_shown_by : Def P w K mg base k "_shown_by" ["piece", "t"] (spShown K) f2 fd2) : DefY P w K mg base (k + 1) "shown_at" ps_shown_at (spShownAt K CB) f fd := by
  refine ⟨okY F.F sc_shown_at (fun vs H Q E h => ?_) (fun cdv A outer s H vs Q E hr h => ?_), F.m, F.F.kp, F.b⟩
  · obtain ⟨_, _, _, _, _, _, _, _, rfl, _⟩ := h
    rfl
  obtain ⟨a, y, c, t, i0, j0, l0, m, rfl, hC, hy, cz, zt, ok, hb, hl, z, e⟩ := h
  refine ⟨_, (pss_one (ps_ret (pcall d_shown_by hr (pa_cons (pcallY d_piece_at hr (L2N.takes_of rfl rfl rfl rfl) (pa_cons (pv 0) (pa_cons (pv 1) pa_nil))) (pa_cons (pv 1) pa_nil))))), ?_⟩
  (walk_at "vk_vc")
  · intro p v hm hp pq
    obtain ⟨z1, z2, z3⟩ := cz p hm
    (walk_at "vk_vc")
    exact z _ _ _ (by rw [now_pc, hp]; rfl) e h
  · intro hn d hd
    refine e ?_ d hd
    rw [now_pc, hn]; rfl
theorem filterMap_if {α : Type} (b : α → Prop) [DecidablePred b] (c : List α) : (c.filterMap fun p => if b p then some p else none) = c.filter fun p => decide (b p) := by
  induction c with
  | nil => rfl
  | cons p c ih =>
    rw [List.filterMap_cons, List.filter_cons]
    by_cases h : b p
    · simp [h, ih]
    · simp [h, ih]
theorem ok_tidy (T : Bn mg) (ZZERO : Cn K mg "ZERO" 0 aZERO) (F : Fn K mg "tidy" s_tidy ps_tidy f fd) (d_jump_at : Def P w K mg base k "_jump_at" ["course", "at"] (spJumpAt K) f1 fd1) : Def P w K mg base (k + 1) "tidy" ps_tidy (spTidy K) f fd := by
  refine ⟨F.F.ok sc_tidy (fun vs H Q E h => ?_) (fun cdv A outer s H vs Q E hr h => ?_), F.m, F.F.kp, F.b⟩
  · obtain ⟨_, _, _, _, _, rfl, _⟩ := h
    rfl
  obtain ⟨a, c, i0, j0, l0, rfl, hC, cz, hp, hl, hb, z⟩ := h
  obtain ⟨xs, hx, hc⟩ := id hC
  have hxl := hc.1
  refine ⟨_, (pss_cons (ps_set (i := 1) sc_tidy.nd rfl (Or.inl rfl) (pe_lst (pa_cons (pe_ix ix_list (pv 0) pe_int (fun _ _ => rfl)) pa_nil)))
      (pss_cons (ps_for PassesOwn.never rfl (pi_range2 (by rfl) T.range_ (pa_cons pe_int (pa_cons (pe_callB call_len_seq (by rfl) T.len_ PySem.boot_len (pa_cons (pv 0) pa_nil)) pa_nil))) (pg_name (i := 2) sc_tidy.nd rfl (Or.inl rfl))
        (pss_one (ps_if (PW.pt (pw_or (pt_cmpR (op_neD hr.units) (pe_ix ix_tup (pe_ix ix_list (pv 0) (pv 2) (fun _ _ => rfl)) pe_int (fun _ _ => rfl)) (pe_ix ix_tup (pe_ix ix_list (pv 0) (pe_op op_sub (pv 2) pe_int) (fun _ _ => rfl)) pe_int (fun _ _ => rfl)) (nomark _)) (pw_or1 (pt_cmpR (op_neD hr.units) (pcall d_jump_at hr (pa_cons (pv 0) (pa_cons (pv 2) pa_nil))) (pe_glob (v := .ref aZERO) (u := .ref aZERO) (by rfl) ZZERO.m rfl) (nomark _)))))
          (pss_one (ps_expr (pe_bm PySem.F.plainAttrs_list PySem.F.slot_list_append PySem.F.type_list_append mt_append (pv 1) (pa_cons (pe_ix ix_list (pv 0) (pv 2) (fun _ _ => rfl)) pa_nil))))
          pss_nil)))
      (pss_one (ps_ret (pv 1))))), ?_⟩
  have p62 : (2 : Int) ^ 62 = 4611686018427387904 := by decide
  have e0 : c[0]? = some c[0] := List.getElem?_eq_getElem (by omega)
  obtain ⟨x0, hx0, p0⟩ := hc.at e0
  refine ⟨_, rfl, a, _, _, _, rfl, rfl, hx, at0 hx0, sm1, fun D hD => ?_⟩
  have s0 := same_new hD (.lst [x0])
  refine ⟨_, rfl, a, _, rfl, .inl (s0.seq hx), _, _, rfl, ⟨by omega, by omega, by omega, by omega⟩, for_range (lo := 1) (n := (((xs.length : Nat) : Int) - 1).toNat) (fun i σ G => ∃ (us : List V) (k2 : Option V), σ = [some (.ref a), some (.ref D), k2] ∧ Same H G ∧ Ct K G D us (tl (c.take (i + 1))))
    ⟨[x0], none, rfl, s0, upd_same, ?_⟩ ?_ ?_⟩
  · have : tl (c.take 1) = [c[0]] := by
      cases c with
      | nil => simp at hp
      | cons p c => rfl
    rw [this]
    exact All2.one (p0.same s0)
  · rintro i σ G hi ⟨us, k2, rfl, s1, hD1, hA⟩
    have hi1 : i + 1 < c.length := by omega
    have e1 : c[i]? = some c[i] := List.getElem?_eq_getElem (by omega)
    have e2 : c[i + 1]? = some c[i + 1] := List.getElem?_eq_getElem hi1
    obtain ⟨p, ep⟩ : ∃ p, p = c[i] := ⟨_, rfl⟩
    obtain ⟨q, eq⟩ : ∃ q, q = c[i + 1] := ⟨_, rfl⟩
    rw [← ep] at e1
    rw [← eq] at e2
    have en := tl_next e1 e2
    obtain ⟨x1, hx1, pp⟩ := hc.at e1
    obtain ⟨x2, hx2, pq⟩ := hc.at e2
    obtain ⟨d1, ds1, dv1, dr1, rfl, hd1, r11, r12, r13⟩ := pp.same s1
    obtain ⟨d2, ds2, dv2, dr2, rfl, hd2, r21, r22, r23⟩ := pq.same s1
    have hul := hA.1
    have htl := (tl_sub (c.take (i + 1))).length_le
    rw [List.length_take] at htl
    -- the piece is kept
    have keep : ∀ G1 (f1 : Same G G1), ky q ≠ ky p → ∃ (us' : List V) (k2 : Option V), [some (V.ref a), some (.ref D), some (.int (1 + (i : Int)))] = [some (.ref a), some (.ref D), k2] ∧ Same H (upd G1 D (.lst (us ++ [.ref d2]))) ∧ Ct K (upd G1 D (.lst (us ++ [.ref d2]))) D us' (tl (c.take (i + 1 + 1))) := fun G1 f1 g => by
      have hD2 := f1 _ _ hD1
      have fr : Fr D G1 (upd G1 D (.lst (us ++ [.ref d2]))) := Fr.upd _
      refine ⟨_, _, rfl, same_upd (s1.trans f1) hD _, upd_same, ?_⟩
      rw [en, if_neg g]
      exact (hA.imp fun _ _ h => (h.same f1).fr fr ⟨_, hD2⟩).snoc ((pq.same (s1.trans f1)).fr fr ⟨_, hD2⟩)
    refine ⟨_, rfl, _, rfl, a, _, _, _, rfl, rfl, s1.seq hx, at_of (j := i + 1) (by omega) hx2, d2, _, _, _, rfl, rfl, hd2, at2 rfl, _, rfl, _, rfl, _, _, rfl, rfl, a, _, _, _, rfl, rfl, s1.seq hx, at_of (j := i) (by omega) hx1, d1, _, _, _, rfl, rfl, hd1, at2 rfl, ?_⟩
    refine ⟨_, _, r23.dp, r13.dp, sh_dq _, sh_dq _, _, rfl, ?_⟩
    rw [eqv_dq]
    by_cases g : q.r = p.r
    · refine ifF (by rw [dT g]; rfl) ⟨_, rfl, _, rfl, a, i, c, p, q, i0, j0, l0, by rw [show (1 + (i : Int)) = ((i + 1 : Nat) : Int) by omega]; rfl, hC.same s1, e1, e2, cz, hb, fun jv G1 f1 rj => ?_⟩
      refine ⟨_, _, rj.dp, (ZZERO.q _).dp, sh_dq _, sh_dq _, _, rfl, ?_⟩
      rw [eqv_dq]
      by_cases g2 : jmp (ky p) q = 0
      · refine ifF (by rw [dT g2]; rfl) ⟨us, _, rfl, s1.trans f1, f1 _ _ hD1, ?_⟩
        rw [en, if_pos (ky_eq.mpr ⟨g, g2⟩), List.append_nil]
        exact hA.imp fun _ _ h => h.same f1
      · refine ifT (by rw [dF g2]; rfl) ⟨_, rfl, .inl ⟨rfl, _, SqL.of (f1 _ _ hD1)⟩, _, rfl, _, rfl, a, _, _, _, rfl, rfl, (s1.trans f1).seq hx, at_of (j := i + 1) (by omega) hx2, D, _, _, rfl, rfl, f1 _ _ hD1, le1000 (by omega), keep G1 f1 fun h => g2 (ky_eq.mp h).2⟩
    · refine ifT (by rw [dF g]; rfl) ⟨_, rfl, .inl ⟨rfl, _, SqL.of hD1⟩, _, rfl, _, rfl, a, _, _, _, rfl, rfl, s1.seq hx, at_of (j := i + 1) (by omega) hx2, D, _, _, rfl, rfl, hD1, le1000 (by omega), keep G (Same.refl _) fun h => g (ky_eq.mp h).1⟩
  · rintro σ G ⟨us, k2, rfl, s1, hD1, hA⟩
    rw [List.take_of_length_le (by omega)] at hA
    exact ⟨_, rfl, z D us G s1 hD ⟨hD1, hA⟩⟩
end Vk
set_option maxHeartbeats 4000000
namespace Vk
open PySem L2 Vm Vl
/-! ### objects: methods, properties, making -/
/-- a method, its class told -/
structure Mth (P : Program) (w : World) (K : PySem.W.Frag) (mg : Str → Option Value) (base : Heap) (k : Nat) (C : Addr) (m : Str) (ps : List Str) (sp : Sp) (f : Addr) (fd : FuncData) : Prop where
  ok : FnOk P w K mg base CX0 k f fd ps sp
  c : Cls K C
  m : Meth K C m f
  b : Binds K fd ps []
structure MthY (P : Program) (w : World) (K : PySem.W.Frag) (mg : Str → Option Value) (base : Heap) (k : Nat) (C : Addr) (m : Str) (ps : List Str) (sp : Sp) (f : Addr) (fd : FuncData) : Prop where
  ok : FnOk P w K mg base (L2N.CX P w) k f fd ps sp
  c : Cls K C
  m : Meth K C m f
  b : Binds K fd ps []
section
variable {P : Program} {w : World} {K : PySem.W.Frag} {mg : Str → Option Value} {base : Heap} {j k : Nat} {C f : Addr} {fd : FuncData} {ps : List Str} {sp : Sp} {m : Str}
theorem Mth.up (d : Mth P w K mg base j C m ps sp f fd) (h : j ≤ k) : Mth P w K mg base k C m ps sp f fd := ⟨d.ok.mono h, d.c, d.m, d.b⟩
theorem MthY.up (d : MthY P w K mg base j C m ps sp f fd) (h : j ≤ k) : MthY P w K mg base k C m ps sp f fd := ⟨d.ok.mono h, d.c, d.m, d.b⟩
end
section
variable {X : Cx} {k n : Nat} {C f : Addr} {fd : FuncData} {ps ks : List Str} {sp : Sp} {x m : Str} {p pos apos : Pos} {o e : Expr} {es : List Expr} {kws : List Keyword} {ta : TE} {t tkw : TA} {W : WX} {pl : Sem Bool}
theorem pmeth (D : Mth X.prog X.w X.K X.mg X.base k C m ps sp f fd) (hr : Room k X.A) (he : PE X o ta) (ha : PA X (e :: es) t)
    (hst : starEach (e :: es) X.env = (false, eval e X.env) :: starEach es X.env := by rfl) (hpl : (backTo pos (starEach es X.env)).any (·.1) = false := by rfl)
    (ht : eval (.Call (.Attribute o m apos) (e :: es) [] pos) X.env = (do
      let ov ← eval o X.env
      standAt apos.atName
      let (f, first) ← holding [ov] (getMethod ov m pl)
      callWith pos f first (backTo pos (starEach (e :: es) X.env)) (backToKw pos (keywordEach [] X.env))) := by rfl) :
    PE X (.Call (.Attribute o m apos) (e :: es) [] pos) (tMeth C m sp [] E0 ta t) := pe_meth he D.c D.m D.ok hr D.b .nil pass0 ha hst hpl ht
theorem pmeth0 (D : Mth X.prog X.w X.K X.mg X.base k C m ps sp f fd) (hr : Room k X.A) (he : PE X o ta)
    (ht : eval (.Call (.Attribute o m apos) [] [] pos) X.env = (do
      let ov ← eval o X.env
      standAt apos.atName
      let (f, first) ← holding [ov] (getMethod ov m pl)
      callWith pos f first (backTo pos (starEach [] X.env)) (backToKw pos (keywordEach [] X.env))) := by rfl) :
    PE X (.Call (.Attribute o m apos) [] [] pos) (tMeth C m sp [] E0 ta tNil) := pe_meth0 he D.c D.m D.ok hr D.b .nil pass0 ht
theorem pmethYL (D : MthY X.prog X.w X.K X.mg X.base k C m ps sp f fd) (hr : Room k X.A) (he : PE X o ta) (ha : PA X (e :: es) t)
    (hst : starEach (e :: es) X.env = (false, eval e X.env) :: starEach es X.env := by rfl) (hpl : (backTo pos (starEach es X.env)).any (·.1) = false := by rfl)
    (ht : eval (.Call (.Attribute o m apos) (e :: es) [] pos) X.env = (do
      let ov ← eval o X.env
      standAt apos.atName
      let (f, first) ← holding [ov] (getMethod ov m pl)
      callWith pos f first (backTo pos (starEach (e :: es) X.env)) (backToKw pos (keywordEach [] X.env))) := by rfl) :
    PE X (.Call (.Attribute o m apos) (e :: es) [] pos) (tMeth C m sp [] E0 ta t) := pe_meth he D.c D.m D.ok hr D.b .nil passLY ha hst hpl ht
/-- a method called where the wish W takes what it raises -/
def tMethS (C : Addr) (m : Str) (sp : Sp) (E : L2.St → XK) (ta : TE) (t : TA) : TE := fun σ H Q => ta σ H fun x H1 => ∃ a dx fs, x = .ref a ∧ H1 a = some (.ins C dx fs) ∧ fs.lookup m = none ∧
  t σ H1 fun vs H2 => sp (x :: vs) H2 Q (E σ)
theorem pmethY (D : MthY X.prog X.w X.K X.mg X.base k C m ps sp f fd) (hr : Room k X.A) (tk : L2N.Takes X W) (he : PE X o ta) (ha : PA X (e :: es) t)
    (hst : starEach (e :: es) X.env = (false, eval e X.env) :: starEach es X.env := by rfl) (hpl : (backTo pos (starEach es X.env)).any (·.1) = false := by rfl)
    (ht : eval (.Call (.Attribute o m apos) (e :: es) [] pos) X.env = (do
      let ov ← eval o X.env
      standAt apos.atName
      let (f, first) ← holding [ov] (getMethod ov m pl)
      callWith pos f first (backTo pos (starEach (e :: es) X.env)) (backToKw pos (keywordEach [] X.env))) := by rfl) :
    PE X (.Call (.Attribute o m apos) (e :: es) [] pos) (tMethS C m sp (WE W) ta t) := by
  refine ⟨fun pins s σ H Q I h => ?_⟩
  refine PySem.W.methodCall_KW (pl := pl) (thn (he.run pins s σ H _ I h) fun u s1 ⟨x, H1, I1, rx, a, dx, fs, ex, ea, l, q⟩ => ?_) ht
  subst ex
  obtain rfl : u = Value.ref a := rx
  refine getmeth_ok I1 ea D.c D.m l ?_
  refine PySem.W.callWith_K (first := [.ref a]) (h₀ := X.base) I1.ok.mod.kin D.m.kp (thn (ha.run pos pins s1 σ H1 _ I1 q) fun us s2 ⟨vs, H2, I2, r, q2⟩ => ⟨I2.kIn, ?_⟩) hst hpl
  exact run_fnS (us := .ref a :: us) (vs := .ref a :: vs) D.ok hr D.b (L2N.passAt tk σ) I2 (.cons rfl r) q2
end
/-- a class whose __init__ is a def -/
structure MkY (P : Program) (w : World) (K : PySem.W.Frag) (mg : Str → Option Value) (base : Heap) (k : Nat) (x : Str) (C : Addr) (ps : List Str) (sp : Sp) (f : Addr) (fd : FuncData) : Prop where
  ok : FnOk P w K mg base (L2N.CX P w) k f fd ps sp
  m : mg x = some (.ref C)
  kk : Mk K C f
section
variable {P : Program} {w : World} {K : PySem.W.Frag} {mg : Str → Option Value} {base : Heap} {j k : Nat} {C f : Addr} {fd : FuncData} {ps : List Str} {sp : Sp} {x : Str}
theorem MkY.up (d : MkY P w K mg base j x C ps sp f fd) (h : j ≤ k) : MkY P w K mg base k x C ps sp f fd := ⟨d.ok.mono h, d.m, d.kk⟩
end
section
variable {X : Cx} {k n : Nat} {C f : Addr} {fd : FuncData} {ps ks : List Str} {sp : Sp} {x m : Str} {p pos apos : Pos} {o e : Expr} {es : List Expr} {kws : List Keyword} {ta : TE} {t tkw : TA} {W : WX} {g : List Value → List Value → List Value} {gV : List V → List V → List V}
theorem pmakeK (D : MkY X.prog X.w X.K X.mg X.base k x C ps sp f fd) (hb : KBn X.K fd ps (n + 1) ks g gV) (hr : Room (k + 1) X.A) (ha : PA X (e :: es) t) (hkw : PK X kws tkw) (hg : Gl X x := by rfl)
    (hall : (backToKw pos (keywordEach kws X.env)).all (·.1.isSome) = true := by rfl) (hks : (backToKw pos (keywordEach kws X.env)).filterMap (·.1) = ks := by rfl) (hdb : (x == ("__debug__" : Str)) = false := by decide)
    (he : starEach (e :: es) X.env = (false, eval e X.env) :: starEach es X.env := by rfl) (hpl : ((backTo pos (starEach (e :: es) X.env)).any (·.1) || (backToKw pos (keywordEach kws X.env)).any (·.1.isNone)) = false := by rfl) :
    PE X (.Call (.Name x p) (e :: es) kws pos) (tMakeK C n ks.length sp gV E0 t tkw) := pe_makeK D.kk D.ok hr hg D.m hb passLY ha hkw hall hks hdb he hpl
end
/-- a property read -/
structure Prp (P : Program) (w : World) (K : PySem.W.Frag) (mg : Str → Option Value) (base : Heap) (k : Nat) (C : Addr) (x : Str) (ps : List Str) (sp : Sp) (f : Addr) (fd : FuncData) : Prop where
  ok : FnOk P w K mg base CX0 k f fd ps sp
  c : Cls K C
  p : ∃ q, PropOf K C x q f
  b : Binds K fd ps []
theorem Prp.up {P : Program} {w : World} {K : PySem.W.Frag} {mg : Str → Option Value} {base : Heap} {j k : Nat} {C f : Addr} {fd : FuncData} {ps : List Str} {sp : Sp} {x : Str} (d : Prp P w K mg base j C x ps sp f fd) (h : j ≤ k) : Prp P w K mg base k C x ps sp f fd := ⟨d.ok.mono h, d.c, d.p, d.b⟩
theorem pprop {X : Cx} {k : Nat} {C f : Addr} {fd : FuncData} {ps : List Str} {sp : Sp} {x : Str} {e : Expr} {pos : Pos} {ta : TE} (D : Prp X.prog X.w X.K X.mg X.base k C x ps sp f fd) (hr : Room (k + 1) X.A) (he : PE X e ta) (hab : attributeBase e x X.env (eval e X.env) = eval e X.env := by rfl) :
    PE X (.Attribute e x pos) (tProp C sp [] E0 ta) := by
  obtain ⟨q, hq⟩ := D.p
  exact pe_prop he D.c hq D.ok hr D.b .nil pass0 hab
/-! ### what stands where an object changes -/
theorem frI_sqt {K : PySem.W.Frag} {s a : Addr} {H H' : Hp} {xs : List V} (e : Fr s H H') (hs : ∃ C d fs, H s = some (.ins C d fs)) (h : SqT K H a xs) : SqT K H' a xs := by
  obtain ⟨C, d, fs, hs⟩ := hs
  have n : ∀ {o : HO}, H a = some o → (∀ C d fs, o ≠ .ins C d fs) → a ≠ s := fun {o} h1 h2 z => by
    rw [z, hs] at h1
    exact h2 C d fs (Option.some.inj h1).symm
  rcases h with (h | ⟨o, h⟩) | h
  · exact .inl (.inl (e _ _ h (n h fun _ _ _ z => by cases z)))
  · exact .inl (.inr ⟨o, e _ _ h (n h fun _ _ _ z => by cases z)⟩)
  · exact .inr h
theorem frI_seq {K : PySem.W.Frag} {s a : Addr} {H H' : Hp} {xs : List V} (e : Fr s H H') (hs : ∃ C d fs, H s = some (.ins C d fs)) (h : SqL K H a xs) : SqL K H' a xs := by
  obtain ⟨C, d, fs, hs⟩ := hs
  have n : ∀ {o : HO}, H a = some o → (∀ C d fs, o ≠ .ins C d fs) → a ≠ s := fun {o} h1 h2 z => by
    rw [z, hs] at h1
    exact h2 C d fs (Option.some.inj h1).symm
  rcases h with (h | ⟨o, h⟩) | h
  · exact .inl (.inl (e _ _ h (n h fun _ _ _ z => by cases z)))
  · exact .inl (.inr ⟨o, e _ _ h (n h fun _ _ _ z => by cases z)⟩)
  · exact .inr h
theorem frI_rq {K : PySem.W.Frag} {s : Addr} {H H' : Hp} {v : V} {q : Rat} (e : Fr s H H') (hs : ∃ C d fs, H s = some (.ins C d fs)) (h : Rq K H v q) : Rq K H' v q := by
  obtain ⟨a, rfl, h⟩ := h
  exact ⟨a, rfl, frI_sqt e hs h⟩
theorem frI_opt {K : PySem.W.Frag} {s : Addr} {H H' : Hp} {v : V} {o : Option Rat} (e : Fr s H H') (hs : ∃ C d fs, H s = some (.ins C d fs)) (h : optV K H v o) : optV K H' v o := by
  cases o with
  | none => exact h
  | some q => exact frI_rq e hs h
theorem frI_pq {K : PySem.W.Frag} {s : Addr} {H H' : Hp} {x : V} {p : Pc} (e : Fr s H H') (hs : ∃ C d fs, H s = some (.ins C d fs)) (h : Pq K H x p) : Pq K H' x p := by
  obtain ⟨a, xs, xv, xr, rfl, h, h1, h2, h3⟩ := h
  exact ⟨a, xs, xv, xr, rfl, frI_sqt e hs h, frI_rq e hs h1, frI_rq e hs h2, frI_rq e hs h3⟩
theorem frI_cq {K : PySem.W.Frag} {s : Addr} {H H' : Hp} {a : Addr} {c : List Pc} (e : Fr s H H') (hs : ∃ C d fs, H s = some (.ins C d fs)) (h : Cq K H a c) : Cq K H' a c := by
  obtain ⟨xs, h, g⟩ := h
  exact ⟨xs, frI_seq e hs h, g.imp fun _ _ h => frI_pq e hs h⟩
theorem frI_spq {K : PySem.W.Frag} {s : Addr} {H H' : Hp} {x : V} {p : Vs.Spn} (e : Fr s H H') (hs : ∃ C d fs, H s = some (.ins C d fs)) (h : Spq K H x p) : Spq K H' x p := by
  obtain ⟨a, u, v, rfl, h, h1, h2⟩ := h
  exact ⟨a, u, v, rfl, frI_sqt e hs h, frI_opt e hs h1, frI_opt e hs h2⟩
/-! ### a steering -/
structure SgV where
  vs : V
  vd : V
  vo : V
  l : Addr
  va : V
  vl : V
  vb : V
  vh : V
def sgf (x : SgV) : List (Str × V) := [(("_slew" : Str), x.vs), (("_drift" : Str), x.vd), (("_step_over" : Str), x.vo), (("_course" : Str), .ref x.l), (("_aim" : Str), x.va), (("_last" : Str), x.vl), (("_bound" : Str), x.vb), (("_half" : Str), x.vh)]
theorem sgf_at (x : SgV) : (sgf x).lookup ("_slew" : Str) = some x.vs ∧ (sgf x).lookup ("_drift" : Str) = some x.vd ∧ (sgf x).lookup ("_step_over" : Str) = some x.vo ∧ (sgf x).lookup ("_course" : Str) = some (.ref x.l) ∧ (sgf x).lookup ("_aim" : Str) = some x.va ∧ (sgf x).lookup ("_last" : Str) = some x.vl ∧ (sgf x).lookup ("_bound" : Str) = some x.vb ∧ (sgf x).lookup ("_half" : Str) = some x.vh := by
  unfold sgf
  refine ⟨?_, ?_, ?_, ?_, ?_, ?_, ?_, ?_⟩ <;> kernel_rfl
theorem sgf_no (x : SgV) : (sgf x).lookup ("steer" : Str) = none ∧ (sgf x).lookup ("display" : Str) = none ∧ (sgf x).lookup ("error_at" : Str) = none ∧ (sgf x).lookup ("course_of" : Str) = none ∧ (sgf x).lookup ("_plan" : Str) = none ∧ (sgf x).lookup ("_jumps_to" : Str) = none := by
  unfold sgf
  refine ⟨?_, ?_, ?_, ?_, ?_, ?_⟩ <;> kernel_rfl
theorem sgf_len (x : SgV) : (sgf x).length < 1000 := by show 8 < 1000; decide
theorem putF_course (x : SgV) (b : Addr) : putF "_course" (.ref b) (sgf x) = sgf { x with l := b } := by unfold sgf; kernel_rfl
theorem putF_aim (x : SgV) (v : V) : putF "_aim" v (sgf x) = sgf { x with va := v } := by unfold sgf; kernel_rfl
theorem putF_last (x : SgV) (v : V) : putF "_last" v (sgf x) = sgf { x with vl := v } := by unfold sgf; kernel_rfl
theorem putF_bound (x : SgV) (v : V) : putF "_bound" v (sgf x) = sgf { x with vb := v } := by unfold sgf; kernel_rfl
theorem putF_half (x : SgV) (v : V) : putF "_half" v (sgf x) = sgf { x with vh := v } := by unfold sgf; kernel_rfl
/-- what the written part says of the class -/
structure Stg (K : PySem.W.Frag) (C : Addr) : Prop where
  c : Cls K C
  n1 : NoAttr K C "_slew"
  n2 : NoAttr K C "_drift"
  n3 : NoAttr K C "_step_over"
  n4 : NoAttr K C "_course"
  n5 : NoAttr K C "_aim"
  n6 : NoAttr K C "_last"
  n7 : NoAttr K C "_bound"
  n8 : NoAttr K C "_half"
/-- a steering's state -/
structure Sr where
  sl : Rat
  dr : Rat
  ov : Option Rat
  c : List Pc
  aim : Option Rat
  la : Rat
  bd : Rat
  hf : Rat
structure Sg (K : PySem.W.Frag) (H : Hp) (x : SgV) (r : Sr) : Prop where
  sl : Rq K H x.vs r.sl
  dr : Rq K H x.vd r.dr
  ov : optV K H x.vo r.ov
  c : ∃ us, Ct K H x.l us r.c
  aim : optV K H x.va r.aim
  la : Rq K H x.vl r.la
  bd : Rq K H x.vb r.bd
  hf : Rq K H x.vh r.hf
def SgA (K : PySem.W.Frag) (C o : Addr) (H : Hp) (r : Sr) : Prop := ∃ dx x, H o = some (.ins C dx (sgf x)) ∧ Sg K H x r
theorem frI_lst {s a : Addr} {H H' : Hp} {xs : List V} (e : Fr s H H') (hs : ∃ C d fs, H s = some (.ins C d fs)) (h : H a = some (.lst xs)) : H' a = some (.lst xs) := by
  obtain ⟨C, d, fs, hs⟩ := hs
  exact e _ _ h fun z => by rw [z, hs] at h; cases h
theorem Sg.cq {K : PySem.W.Frag} {H : Hp} {x : SgV} {r : Sr} (h : Sg K H x r) : Cq K H x.l r.c := h.c.elim fun _ q => q.cq
/-- its course is not the store -/
theorem Sg.ns {K : PySem.W.Frag} {l s : Addr} {H : Hp} {x : SgV} {r : Sr} (h : Sg K H x r) (S : Sto l s H) : x.l ≠ s := fun z => by
  obtain ⟨us, hl, hc⟩ := h.c
  rw [z] at hl
  obtain ⟨_, pos, _, _, _, _, hs, _⟩ := S
  rw [hs] at hl
  have e := Option.some.inj hl
  injection e with e
  have h1 : us[1]? = some (.int pos) := by rw [← e]; rfl
  have hi : 1 < r.c.length := by rw [← hc.1, ← e]; show 1 < 6; decide
  obtain ⟨_, _, _, _, e2, _⟩ := hc.2 1 _ _ h1 (List.getElem?_eq_getElem hi)
  cases e2
theorem Sg.same {K : PySem.W.Frag} {H H' : Hp} {x : SgV} {r : Sr} (h : Sg K H x r) (e : Same H H') : Sg K H' x r := ⟨h.sl.same e, h.dr.same e, h.ov.same e, h.c.elim fun us q => ⟨us, e _ _ q.1, q.2.imp fun _ _ z => z.same e⟩, h.aim.same e, h.la.same e, h.bd.same e, h.hf.same e⟩
theorem Sg.frI {K : PySem.W.Frag} {s : Addr} {H H' : Hp} {x : SgV} {r : Sr} (h : Sg K H x r) (e : Fr s H H') (hs : ∃ C d fs, H s = some (.ins C d fs)) : Sg K H' x r := ⟨frI_rq e hs h.sl, frI_rq e hs h.dr, frI_opt e hs h.ov, h.c.elim fun us q => ⟨us, frI_lst e hs q.1, q.2.imp fun _ _ z => frI_pq e hs z⟩, frI_opt e hs h.aim, frI_rq e hs h.la, frI_rq e hs h.bd, frI_rq e hs h.hf⟩
theorem SgA.same {K : PySem.W.Frag} {C o : Addr} {H H' : Hp} {r : Sr} (h : SgA K C o H r) (e : Same H H') : SgA K C o H' r := by
  obtain ⟨dx, x, h1, h2⟩ := h
  exact ⟨dx, x, e _ _ h1, h2.same e⟩
theorem SgA.frI {K : PySem.W.Frag} {C o s : Addr} {H H' : Hp} {r : Sr} (h : SgA K C o H r) (e : Fr s H H') (n : o ≠ s) (hs : ∃ C d fs, H s = some (.ins C d fs)) : SgA K C o H' r := by
  obtain ⟨dx, x, h1, h2⟩ := h
  exact ⟨dx, x, e _ _ h1 n, h2.frI e hs⟩
theorem SgA.ins {K : PySem.W.Frag} {C o : Addr} {H : Hp} {r : Sr} (h : SgA K C o H r) : ∃ C d fs, H o = some (.ins C d fs) := by
  obtain ⟨dx, x, h1, _⟩ := h
  exact ⟨_, _, _, h1⟩
end Vk
set_option maxHeartbeats 4000000
namespace Vk
open PySem L2 Vm Vl
variable {l aZERO aONE aHALF CB CR CT CV fB fR fT : Addr} {P : Program} {w : World} {K : PySem.W.Frag} {mg : Str → Option Value} {base : Heap} {k : Nat} {f f1 f2 f3 f4 f5 f6 f7 f8 f9 : Addr} {fd fd1 fd2 fd3 fd4 fd5 fd6 fd7 fd8 fd9 : FuncData}
def widO (s : Vs.Spn) : Option Rat := match s.1, s.2 with
  | some a, some b => some (b - a)
  | _, _ => none
def spWidth (K : PySem.W.Frag) : Sp := fun vs H Q _ => ∃ (x : V) (s : Vs.Spn) (m : Nat), vs = [x] ∧ Spq K H x s ∧ SSz m s ∧ m + m + 1 ≤ 9000 ∧ ∀ v H', Same H H' → optV K H' v (widO s) → Q v H'
abbrev s_width_of : Stmt := top 55
abbrev N_width_of : List Str := ["span", "low", "high"]
theorem sc_width_of : FnScope N_width_of ["span"] (defScope s_width_of) := ⟨rfl, rfl, rfl, by decide +kernel, rfl, by decide +kernel, by decide +kernel⟩
abbrev ps_width_of : List Str := ["span"]
theorem ok_width_of (F : Fn K mg "width_of" s_width_of ps_width_of f fd) (dsubtract : Def P w K mg base k "subtract" ["a", "b"] (spOp2 K (· - ·)) f1 fd1) : Def P w K mg base (k + 1) "width_of" ps_width_of (spWidth K) f fd := by
  refine ⟨F.F.ok sc_width_of (fun vs H Q E h => ?_) (fun cdv A outer s H vs Q E hr h => ?_), F.m, F.F.kp, F.b⟩
  · obtain ⟨_, _, _, rfl, _⟩ := h
    rfl
  obtain ⟨x, ⟨lo, hi⟩, m, rfl, ⟨a, u, v, rfl, ha, hu, hv⟩, ⟨z1, z2⟩, hm, z⟩ := h
  refine ⟨_, (pss_cons (ps_asg (pv 0) (pg_tup rfl (pgs_cons (pg_name (i := 1) sc_width_of.nd rfl (Or.inl rfl)) (pgs_cons (pg_name (i := 2) sc_width_of.nd rfl (Or.inl rfl)) pgs_nil))))
      (pss_cons (ps_if (PW.pt (pw_or (pt_cmpR op_isN (pv 1) pe_non (nomark _)) (pw_or1 (pt_cmpR op_isN (pv 2) pe_non (nomark _)))))
        (pss_one (ps_ret pe_non))
        pss_nil)
      (pss_one (ps_ret (pcall dsubtract hr (pa_cons (pv 2) (pa_cons (pv 1) pa_nil))))))), ?_⟩
  cases lo with
  | none =>
    cases (show u = .non from hu)
    have key := z .non _ (Same.refl _) rfl
    (walk_at "vk_vc")
  | some p =>
    have hu' : Rq K H u p := hu
    obtain ⟨b, rfl, _⟩ := id hu'
    cases hi with
    | none =>
      cases (show v = .non from hv)
      have key := z .non _ (Same.refl _) rfl
      (walk_at "vk_vc")
    | some q =>
      have hv' : Rq K H v q := hv
      obtain ⟨c, rfl, _⟩ := id hv'
      have zp : Sz m p := z1 _ rfl
      have zq : Sz m q := z2 _ rfl
      (walk_at "vk_vc")
      exact z _ _ (by assumption) (by assumption)
def spMiddle (K : PySem.W.Frag) : Sp := fun vs H Q _ => ∃ (x : V) (p q : Rat) (m : Nat), vs = [x] ∧ Spq K H x (some p, some q) ∧ Sz m p ∧ Sz m q ∧ m ≤ 4000 ∧ ∀ v H', Same H H' → Rq K H' v ((p + q) * (1 / 2)) → Q v H'
theorem zhf : Sz 2 (1 / 2 : Rat) := by decide +kernel
abbrev s_middle_of : Stmt := top 56
abbrev N_middle_of : List Str := ["span", "low", "high"]
theorem sc_middle_of : FnScope N_middle_of ["span"] (defScope s_middle_of) := ⟨rfl, rfl, rfl, by decide +kernel, rfl, by decide +kernel, by decide +kernel⟩
abbrev ps_middle_of : List Str := ["span"]
theorem ok_middle_of (ZHALF : Cn K mg "HALF" (1 / 2) aHALF) (F : Fn K mg "middle_of" s_middle_of ps_middle_of f fd) (dadd : Def P w K mg base k "add" ["a", "b"] (spOp2 K (· + ·)) f1 fd1) (dmultiply : Def P w K mg base k "multiply" ["a", "b"] (spOp2 K (· * ·)) f2 fd2) : Def P w K mg base (k + 1) "middle_of" ps_middle_of (spMiddle K) f fd := by
  refine ⟨F.F.ok sc_middle_of (fun vs H Q E h => ?_) (fun cdv A outer s H vs Q E hr h => ?_), F.m, F.F.kp, F.b⟩
  · obtain ⟨_, _, _, _, rfl, _⟩ := h
    rfl
  obtain ⟨x, p, q, m, rfl, ⟨a, u, v, rfl, ha, hu, hv⟩, zp, zq, hm, z⟩ := h
  refine ⟨_, (pss_cons (ps_asg (pv 0) (pg_tup rfl (pgs_cons (pg_name (i := 1) sc_middle_of.nd rfl (Or.inl rfl)) (pgs_cons (pg_name (i := 2) sc_middle_of.nd rfl (Or.inl rfl)) pgs_nil))))
      (pss_cons (ps_if (PW.pt (pw_or (pt_cmpR op_isN (pv 1) pe_non (nomark _)) (pw_or1 (pt_cmpR op_isN (pv 2) pe_non (nomark _)))))
        (pss_one (ps_ret pe_non))
        pss_nil)
      (pss_one (ps_ret (pcall dmultiply hr (pa_cons (pcall dadd hr (pa_cons (pv 1) (pa_cons (pv 2) pa_nil))) (pa_cons (pe_glob (v := .ref aHALF) (u := .ref aHALF) (by rfl) ZHALF.m rfl) pa_nil))))))), ?_⟩
  have hu' : Rq K H u p := hu
  obtain ⟨b, rfl, _⟩ := id hu'
  have hv' : Rq K H v q := hv
  obtain ⟨c, rfl, _⟩ := id hv'
  have hZ : Rq K H (.ref aHALF) (1 / 2) := ZHALF.q H
  have zh := zhf
  (walk_at "vk_vc")
  all_goals first
    | exact z _ _ (by assumption) (by assumption)
    | exact z _ _ (Same.trans (by assumption) (by assumption)) (by assumption)
def farE (p q t : Rat) : Rat := if ab (t - q) ≤ ab (t - p) then ab (t - p) else ab (t - q)
def spFar (K : PySem.W.Frag) : Sp := fun vs H Q _ => ∃ (x y : V) (p q t : Rat) (m : Nat), vs = [x, y] ∧ Spq K H x (some p, some q) ∧ Rq K H y t ∧ Sz m p ∧ Sz m q ∧ Sz m t ∧ m ≤ 2000 ∧ ∀ v H', Same H H' → Rq K H' v (farE p q t) → Q v H'
abbrev s_far_end : Stmt := top 57
abbrev N_far_end : List Str := ["span", "t", "low", "high"]
theorem sc_far_end : FnScope N_far_end ["span", "t"] (defScope s_far_end) := ⟨rfl, rfl, rfl, by decide +kernel, rfl, by decide +kernel, by decide +kernel⟩
abbrev ps_far_end : List Str := ["span", "t"]
theorem ok_far_end (F : Fn K mg "far_end" s_far_end ps_far_end f fd) (ddistance : Def P w K mg base k "distance" ["a", "b"] (spOp2 K fun p q => ab (p - q)) f1 fd1) (dlarger : Def P w K mg base k "larger" ["a", "b"] (spSel K fun p q => if q ≤ p then p else q) f2 fd2) : Def P w K mg base (k + 1) "far_end" ps_far_end (spFar K) f fd := by
  refine ⟨F.F.ok sc_far_end (fun vs H Q E h => ?_) (fun cdv A outer s H vs Q E hr h => ?_), F.m, F.F.kp, F.b⟩
  · obtain ⟨_, _, _, _, _, _, rfl, _⟩ := h
    rfl
  obtain ⟨x, y, p, q, t, m, rfl, ⟨a, u, v, rfl, ha, hu, hv⟩, hy, zp, zq, zt, hm, z⟩ := h
  refine ⟨_, (pss_cons (ps_asg (pv 0) (pg_tup rfl (pgs_cons (pg_name (i := 2) sc_far_end.nd rfl (Or.inl rfl)) (pgs_cons (pg_name (i := 3) sc_far_end.nd rfl (Or.inl rfl)) pgs_nil))))
      (pss_cons (ps_if (PW.pt (pw_or (pt_cmpR op_isN (pv 2) pe_non (nomark _)) (pw_or1 (pt_cmpR op_isN (pv 3) pe_non (nomark _)))))
        (pss_one (ps_ret pe_non))
        pss_nil)
      (pss_one (ps_ret (pcall dlarger hr (pa_cons (pcall ddistance hr (pa_cons (pv 1) (pa_cons (pv 2) pa_nil))) (pa_cons (pcall ddistance hr (pa_cons (pv 1) (pa_cons (pv 3) pa_nil))) pa_nil))))))), ?_⟩
  have hu' : Rq K H u p := hu
  obtain ⟨b, rfl, _⟩ := id hu'
  have hv' : Rq K H v q := hv
  obtain ⟨c, rfl, _⟩ := id hv'
  have y1 : Sz (m + m + 1) (ab (t - p)) := Vk.Sz.ab (zt.sub zp)
  have y2 : Sz (m + m + 1) (ab (t - q)) := Vk.Sz.ab (zt.sub zq)
  (walk_at "vk_vc")
  all_goals first
    | exact z _ _ (Same.trans (by assumption) (by assumption)) (by assumption)
    | skip
def plan (r s a l : Rat) : List Pc := if a = s then [⟨r, s, 1⟩] else [⟨r, s, if s < a then 1 + l else 1 - l⟩, ⟨r + ab (a - s) / l, a + ab (a - s) / l, 1⟩]
def spPlanned (K : PySem.W.Frag) : Sp := fun vs H Q _ => ∃ (xr xs xa xl : V) (r s a l : Rat) (m : Nat), vs = [xr, xs, xa, xl] ∧ Rq K H xr r ∧ Rq K H xs s ∧ Rq K H xa a ∧ Rq K H xl l ∧ Sz m r ∧ Sz m s ∧ Sz m a ∧ Sz m l ∧ m ≤ 1500 ∧ 0 < l ∧
  ∀ D us H', Same H H' → H D = none → Ct K H' D us (plan r s a l) → Q (.ref D) H'
theorem ctOne {H : Hp} {D : Addr} {x : V} {p : Pc} (h : H D = some (.lst [x])) (g : Pq K H x p) : Ct K H D [x] [p] := ⟨h, (All2.nil.snoc g : All2 (Pq K H) ([] ++ [x]) ([] ++ [p]))⟩
theorem ctTwo {H : Hp} {D : Addr} {x y : V} {p q : Pc} (h : H D = some (.lst [x, y])) (g : Pq K H x p) (i : Pq K H y q) : Ct K H D [x, y] [p, q] := ⟨h, ((All2.nil.snoc g).snoc i : All2 (Pq K H) ([] ++ [x] ++ [y]) ([] ++ [p] ++ [q]))⟩
theorem pqNew {H : Hp} {t : Addr} {v1 v2 v3 : V} {a b c : Rat} (ht : H t = none) (h1 : Rq K H v1 a) (h2 : Rq K H v2 b) (h3 : Rq K H v3 c) : Pq K (upd H t (.tup [v1, v2, v3])) (.ref t) ⟨a, b, c⟩ := by
  have s1 := same_new ht (.tup [v1, v2, v3])
  exact ⟨t, _, _, _, rfl, SqT.of upd_same, h1.same s1, h2.same s1, h3.same s1⟩
theorem planFin1 {H H1 : Hp} {Q : VK} {t D : Addr} {v1 v2 v3 : V} {a b c : Rat} (z : ∀ D us H', Same H H' → H D = none → Ct K H' D us [⟨a, b, c⟩] → Q (.ref D) H') (e : Same H H1) (ht : H1 t = none) (hD : upd H1 t (.tup [v1, v2, v3]) D = none) (h1 : Rq K H1 v1 a) (h2 : Rq K H1 v2 b) (h3 : Rq K H1 v3 c) :
    Q (.ref D) (upd (upd H1 t (.tup [v1, v2, v3])) D (.lst [.ref t])) := by
  have s1 := same_new ht (.tup [v1, v2, v3])
  have s2 := same_new hD (.lst [.ref t])
  exact z D _ _ ((e.trans s1).trans s2) ((e.trans s1).free hD) (ctOne upd_same ((pqNew ht h1 h2 h3).same s2))
theorem planFin2 {H G0 H1 : Hp} {Q : VK} {t1 t2 D : Addr} {v1 v2 v3 u1 u2 u3 : V} {a b c a' b' c' : Rat} (z : ∀ D us H', Same H H' → H D = none → Ct K H' D us [⟨a, b, c⟩, ⟨a', b', c'⟩] → Q (.ref D) H') (e : Same H G0) (ht1 : G0 t1 = none) (e1 : Same (upd G0 t1 (.tup [v1, v2, v3])) H1) (ht2 : H1 t2 = none) (hD : upd H1 t2 (.tup [u1, u2, u3]) D = none)
    (h1 : Rq K G0 v1 a) (h2 : Rq K G0 v2 b) (h3 : Rq K G0 v3 c) (i1 : Rq K H1 u1 a') (i2 : Rq K H1 u2 b') (i3 : Rq K H1 u3 c') :
    Q (.ref D) (upd (upd H1 t2 (.tup [u1, u2, u3])) D (.lst [.ref t1, .ref t2])) := by
  have s1 := same_new ht1 (.tup [v1, v2, v3])
  have s2 := same_new ht2 (.tup [u1, u2, u3])
  have s3 := same_new hD (.lst [.ref t1, .ref t2])
  have sA := ((e.trans s1).trans e1).trans s2
  exact z D _ _ (sA.trans s3) (sA.free hD) (ctTwo upd_same ((((pqNew ht1 h1 h2 h3).same e1).same s2).same s3) ((pqNew ht2 i1 i2 i3).same s3))
abbrev s__planned : Stmt := top 65
abbrev N__planned : List Str := ["raw", "shown", "aim", "slew", "way", "rate", "needed"]
theorem sc__planned : FnScope N__planned ["raw", "shown", "aim", "slew"] (defScope s__planned) := ⟨rfl, rfl, rfl, by decide +kernel, rfl, by decide +kernel, by decide +kernel⟩
abbrev ps__planned : List Str := ["raw", "shown", "aim", "slew"]
theorem ok_planned (ZONE : Cn K mg "ONE" 1 aONE) (F : Fn K mg "_planned" s__planned ps__planned f fd) (dcompare : Def P w K mg base k "compare" ["a", "b"] (spTest2 K fun p q => .int (sg p q)) f1 fd1) (dadd : Def P w K mg base k "add" ["a", "b"] (spOp2 K (· + ·)) f2 fd2) (dsubtract : Def P w K mg base k "subtract" ["a", "b"] (spOp2 K (· - ·)) f3 fd3)
    (ddistance : Def P w K mg base k "distance" ["a", "b"] (spOp2 K fun p q => ab (p - q)) f4 fd4) (ddivide : Def P w K mg base k "divide" ["a", "b"] (spDiv K) f5 fd5) : Def P w K mg base (k + 1) "_planned" ps__planned (spPlanned K) f fd := by
  refine ⟨F.F.ok sc__planned (fun vs H Q E h => ?_) (fun cdv A outer s H vs Q E hr h => ?_), F.m, F.F.kp, F.b⟩
  · obtain ⟨_, _, _, _, _, _, _, _, _, rfl, _⟩ := h
    rfl
  obtain ⟨xr, xs, xa, xl, r0, s0, a0, l0, m, rfl, hr0, hs0, ha0, hl0, zr, zs, za, zl, hm, pl, z⟩ := h
  refine ⟨_, (pss_cons (ps_set (i := 4) sc__planned.nd rfl (Or.inl rfl) (pcall dcompare hr (pa_cons (pv 2) (pa_cons (pv 1) pa_nil))))
      (pss_cons (ps_if (pt_cmpR op_eq (pv 4) pe_int (nomark _))
        (pss_one (ps_ret (pe_lst (pa_cons (pe_tup (pa_cons (pv 0) (pa_cons (pv 1) (pa_cons (pe_glob (v := .ref aONE) (u := .ref aONE) (by rfl) ZONE.m rfl) pa_nil)))) pa_nil))))
        pss_nil)
      (pss_cons (ps_set (i := 5) sc__planned.nd rfl (Or.inl rfl) (pe_ifExp (pt_cmpR op_gt (pv 4) pe_int (nomark _)) (pcall dadd hr (pa_cons (pe_glob (v := .ref aONE) (u := .ref aONE) (by rfl) ZONE.m rfl) (pa_cons (pv 3) pa_nil))) (pcall dsubtract hr (pa_cons (pe_glob (v := .ref aONE) (u := .ref aONE) (by rfl) ZONE.m rfl) (pa_cons (pv 3) pa_nil)))))
      (pss_cons (ps_set (i := 6) sc__planned.nd rfl (Or.inl rfl) (pcall ddivide hr (pa_cons (pcall ddistance hr (pa_cons (pv 2) (pa_cons (pv 1) pa_nil))) (pa_cons (pv 3) pa_nil))))
      (pss_one (ps_ret (pe_lst (pa_cons (pe_tup (pa_cons (pv 0) (pa_cons (pv 1) (pa_cons (pv 5) pa_nil)))) (pa_cons (pe_tup (pa_cons (pcall dadd hr (pa_cons (pv 0) (pa_cons (pv 6) pa_nil))) (pa_cons (pcall dadd hr (pa_cons (pv 2) (pa_cons (pv 6) pa_nil))) (pa_cons (pe_glob (v := .ref aONE) (u := .ref aONE) (by rfl) ZONE.m rfl) pa_nil)))) pa_nil))))))))), ?_⟩
  obtain ⟨b1, rfl, _⟩ := id hr0
  obtain ⟨b2, rfl, _⟩ := id hs0
  obtain ⟨b3, rfl, _⟩ := id ha0
  obtain ⟨b4, rfl, _⟩ := id hl0
  have hO : Rq K H (.ref aONE) 1 := ZONE.q H
  have y1 : Sz (m + m + 1) (ab (a0 - s0)) := Vk.Sz.ab (za.sub zs)
  have y2 : Sz (m + m + 1 + m) (ab (a0 - s0) / l0) := y1.div zl pl
  have zo := zo1
  by_cases c1 : a0 = s0
  · have g0 : sg a0 s0 = 0 := by unfold sg; rw [if_pos c1]
    have g1 : V.int (sg a0 s0) = V.int 0 := by rw [g0]
    (walk_at "vk_vc")
    refine planFin1 (K := K) (a := r0) (b := s0) (c := 1) (H := H) (H1 := H) (fun D us H' e1 e2 e3 => z D us H' e1 e2 ?_) (Same.refl _) (by assumption) (by assumption) (by assumption) (by assumption) (by assumption)
    rw [plan, if_pos c1]
    exact e3
  by_cases c2 : s0 < a0
  · have g0 : 0 < sg a0 s0 := sg_gt.mpr c2
    have g1 : ¬ V.int (sg a0 s0) = V.int 0 := fun h => by have := V.int.inj h; omega
    (walk_at "vk_vc")
    refine planFin2 (K := K) (H := H) (a := r0) (b := s0) (c := 1 + l0) (a' := r0 + ab (a0 - s0) / l0) (b' := a0 + ab (a0 - s0) / l0) (c' := 1) (fun D us H' e1 e2 e3 => z D us H' e1 e2 ?_) (h1 := ?_) (h2 := ?_) (h3 := ?_) (i1 := ?_) (i2 := ?_) (i3 := ?_) (e := ?_) (ht1 := by assumption) (e1 := Same.trans (by assumption) (by assumption)) (ht2 := by assumption) (hD := by assumption)
    · rw [plan, if_neg c1, if_pos c2]
      exact e3
    all_goals first | exact (by (walk_at "vk_same")) | (walk_at "vk_cl")
  · have c3 : a0 < s0 := by grind
    have g0 : ¬ 0 < sg a0 s0 := fun h => c2 (sg_gt.mp h)
    have g1 : ¬ V.int (sg a0 s0) = V.int 0 := fun h => by
      have h0 := V.int.inj h
      have := sg_lt.mpr c3
      omega
    (walk_at "vk_vc")
    refine planFin2 (K := K) (H := H) (a := r0) (b := s0) (c := 1 - l0) (a' := r0 + ab (a0 - s0) / l0) (b' := a0 + ab (a0 - s0) / l0) (c' := 1) (fun D us H' e1 e2 e3 => z D us H' e1 e2 ?_) (h1 := ?_) (h2 := ?_) (h3 := ?_) (i1 := ?_) (i2 := ?_) (i3 := ?_) (e := ?_) (ht1 := by assumption) (e1 := Same.trans (by assumption) (by assumption)) (ht2 := by assumption) (hD := by assumption)
    · rw [plan, if_neg c1, if_neg c2]
      exact e3
    all_goals first | exact (by (walk_at "vk_same")) | (walk_at "vk_cl")
end Vk
set_option maxHeartbeats 4000000
namespace Vk
open PySem L2 Vm Vl
variable {l aZERO aONE aHALF C CB CR CT CV fB fR fT : Addr} {P : Program} {w : World} {K : PySem.W.Frag} {mg : Str → Option Value} {base : Heap} {k : Nat} {f f1 f2 f3 f4 f5 f6 f7 f8 f9 : Addr} {fd fd1 fd2 fd3 fd4 fd5 fd6 fd7 fd8 fd9 : FuncData}
/-- a method as it stands -/
structure FnM (K : PySem.W.Frag) (C : Addr) (x qual : Str) (st : Stmt) (ps : List Str) (f : Addr) (fd : FuncData) : Prop where
  F : Fun K x qual st f fd
  m : Meth K C x f
  b : Binds K fd ps []
def errS (r : Sr) (t : Rat) : Rat := nextB ⟨r.bd, r.hf, t - r.la, r.sl, r.dr⟩ r.bd
def spErrAt (K : PySem.W.Frag) (C CT : Addr) : Sp := fun vs H Q E => ∃ (o : Addr) (y : V) (r : Sr) (t : Rat) (m : Nat), vs = [.ref o, y] ∧ SgA K C o H r ∧ Rq K H y t ∧ Sz m t ∧ Sz m r.la ∧ Sz m r.bd ∧ Sz m r.hf ∧ Sz m r.sl ∧ Sz m r.dr ∧ m ≤ 700 ∧
  (r.la ≤ t → ∀ v H', Same H H' → Rq K H' v (errS r t) → Q v H') ∧ (t < r.la → eV E CT H y)
abbrev s_Steering_error_at : Stmt := inClass (top 66) 6
abbrev N_Steering_error_at : List Str := ["self", "raw"]
theorem sc_Steering_error_at : FnScope N_Steering_error_at ["self", "raw"] (defScope s_Steering_error_at) := ⟨rfl, rfl, rfl, by decide +kernel, rfl, by decide +kernel, by decide +kernel⟩
abbrev ps_Steering_error_at : List Str := ["self", "raw"]
theorem ok_error_at (S : Stg K C) (TTurnsBack : PySem.ValX.ValTxt K mg "TurnsBack" CT fT) (F : FnM K C "error_at" "Steering.error_at" s_Steering_error_at ps_Steering_error_at f fd) (dcompare : Def P w K mg base k "compare" ["a", "b"] (spTest2 K fun p q => .int (sg p q)) f1 fd1)
    (dsubtract : Def P w K mg base k "subtract" ["a", "b"] (spOp2 K (· - ·)) f2 fd2) (d_bound_behind : Def P w K mg base k "_bound_behind" ["bound", "half", "raw_units", "slew", "drift"] (spBehind K) f3 fd3) : MthY P w K mg base (k + 1) C "error_at" ps_Steering_error_at (spErrAt K C CT) f fd := by
  refine ⟨okY F.F sc_Steering_error_at (fun vs H Q E h => ?_) (fun cdv A outer s H vs Q E hr h => ?_), S.c, F.m, F.b⟩
  · obtain ⟨_, _, _, _, _, rfl, _⟩ := h
    rfl
  obtain ⟨o, y, r, t, m, rfl, ⟨dx, x, ho, G⟩, hy, zt, zla, zbd, zhf, zsl, zdr, hm, z, e⟩ := h
  obtain ⟨l1, l2, l3, l4, l5, l6, l7, l8⟩ := sgf_at x
  have S0 := S.c
  have S1 := S.n1
  have S2 := S.n2
  have S6 := S.n6
  have S7 := S.n7
  have S8 := S.n8
  refine ⟨_, (pss_cons (ps_if (pt_cmpR op_lt (pcall dcompare hr (pa_cons (pv 1) (pa_cons (pe_fld (pv 0) rfl) pa_nil))) pe_int (nomark _))
        (pss_one (ps_raiseValN rfl TTurnsBack hr (L2N.takes_of rfl rfl rfl rfl) (pa_cons (pv 1) pa_nil)))
        pss_nil)
      (pss_one (ps_ret (pcall d_bound_behind hr (pa_cons (pe_fld (pv 0) rfl) (pa_cons (pe_fld (pv 0) rfl) (pa_cons (pcall dsubtract hr (pa_cons (pv 1) (pa_cons (pe_fld (pv 0) rfl) pa_nil))) (pa_cons (pe_fld (pv 0) rfl) (pa_cons (pe_fld (pv 0) rfl) pa_nil))))))))), ?_⟩
  refine ⟨_, rfl, _, rfl, o, C, dx, _, _, rfl, ho, S0, S6, l6, _, _, t, r.la, m, m, rfl, hy, G.la, zt, zla, by omega, _, _, rfl, rfl, _, rfl, ifD (fun c => ?_) (fun c => ?_)⟩
  · exact ⟨_, rfl, y, rfl, fun d hd => e (sg_lt.mp c) d hd⟩
  have c1 : r.la ≤ t := Rat.not_lt.mp fun g => c (sg_lt.mpr g)
  refine ⟨_, rfl, o, C, dx, _, _, rfl, ho, S0, S7, l7, _, rfl, o, C, dx, _, _, rfl, ho, S0, S8, l8, _, rfl, _, rfl, o, C, dx, _, _, rfl, ho, S0, S6, l6, _, _, t, r.la, m, m, rfl, hy, G.la, zt, zla, by omega, fun v1 H1 e1 h1 => ?_⟩
  have ho1 := e1 _ _ ho
  refine ⟨_, rfl, o, C, dx, _, _, rfl, ho1, S0, S1, l1, _, rfl, o, C, dx, _, _, rfl, ho1, S0, S2, l2, ?_⟩
  exact ⟨_, _, _, _, _, ⟨r.bd, r.hf, t - r.la, r.sl, r.dr⟩, m + m + 1, rfl, ⟨G.bd.same e1, G.hf.same e1, h1, G.sl.same e1, G.dr.same e1, zbd.mono (by omega), zhf.mono (by omega), zt.sub zla, zsl.mono (by omega), zdr.mono (by omega)⟩, by omega, fun v H' e2 h2 => z c1 v H' (e1.trans e2) h2⟩
def jmpS (r : Sr) (a s : Rat) : Bool := match r.ov with
  | none => false
  | some w => decide (w < a - s)
def spJumps' (K : PySem.W.Frag) (C : Addr) : Sp := fun vs H Q _ => ∃ (o : Addr) (xa xs : V) (r : Sr) (a s : Rat) (m : Nat), vs = [.ref o, xa, xs] ∧ SgA K C o H r ∧ Rq K H xa a ∧ Rq K H xs s ∧ Sz m a ∧ Sz m s ∧ OSz m r.ov ∧ m ≤ 2000 ∧ ∀ H', Same H H' → Q (.bl (jmpS r a s)) H'
abbrev s_Steering__jumps_to : Stmt := inClass (top 66) 2
abbrev N_Steering__jumps_to : List Str := ["self", "aim", "shown"]
theorem sc_Steering__jumps_to : FnScope N_Steering__jumps_to ["self", "aim", "shown"] (defScope s_Steering__jumps_to) := ⟨rfl, rfl, rfl, by decide +kernel, rfl, by decide +kernel, by decide +kernel⟩
abbrev ps_Steering__jumps_to : List Str := ["self", "aim", "shown"]
theorem ok_jumps_to (S : Stg K C) (F : FnM K C "_jumps_to" "Steering._jumps_to" s_Steering__jumps_to ps_Steering__jumps_to f fd) (dcompare : Def P w K mg base k "compare" ["a", "b"] (spTest2 K fun p q => .int (sg p q)) f1 fd1)
    (dsubtract : Def P w K mg base k "subtract" ["a", "b"] (spOp2 K (· - ·)) f2 fd2) : Mth P w K mg base (k + 1) C "_jumps_to" ps_Steering__jumps_to (spJumps' K C) f fd := by
  refine ⟨F.F.ok sc_Steering__jumps_to (fun vs H Q E h => ?_) (fun cdv A outer s H vs Q E hr h => ?_), S.c, F.m, F.b⟩
  · obtain ⟨_, _, _, _, _, _, _, rfl, _⟩ := h
    rfl
  obtain ⟨o, xa, xs, r, a0, s', m, rfl, ⟨dx, x, ho, G⟩, ha, hs, za, zs, zo, hm, z⟩ := h
  obtain ⟨l1, l2, l3, l4, l5, l6, l7, l8⟩ := sgf_at x
  have S0 := S.c
  have S3 := S.n3
  refine ⟨_, (pss_one (ps_ret (pe_and (pe_cmpR op_notN (pe_fld (pv 0) rfl) pe_non (nomark _)) (pe_one (pe_cmpR op_gt (pcall dcompare hr (pa_cons (pcall dsubtract hr (pa_cons (pv 1) (pa_cons (pv 2) pa_nil))) (pa_cons (pe_fld (pv 0) rfl) pa_nil))) pe_int (nomark _)))))), ?_⟩
  have gov := G.ov
  cases eo : r.ov with
  | none =>
    rw [eo] at gov
    have gv : x.vo = .non := gov
    rw [gv] at l3
    have zz : ∀ H', Same H H' → Q (.bl false) H' := fun H' e => by have := z H' e; rwa [show jmpS r a0 s' = false by unfold jmpS; rw [eo]] at this
    have key := zz H (Same.refl _)
    (walk_at "vk_vc")
  | some q =>
    rw [eo] at gov
    have gv : Rq K H x.vo q := gov
    have zq : Sz m q := zo q eo
    have zz : ∀ H', Same H H' → Q (.bl (decide (q < a0 - s'))) H' := fun H' e => by have := z H' e; rwa [show jmpS r a0 s' = decide (q < a0 - s') by unfold jmpS; rw [eo]] at this
    obtain ⟨b, eb, _⟩ := id gv
    rw [eb] at l3 gv
    (walk_at "vk_vc")
    show Q (.bl (decide (0 < sg (a0 - s') q))) _
    rw [decide_eq_decide.mpr sg_gt]
    exact zz _ (by assumption)
def spDisplay (K : PySem.W.Frag) (C CB : Addr) : Sp := fun vs H Q E => ∃ (o : Addr) (y : V) (r : Sr) (t : Rat) (i j l m : Nat), vs = [.ref o, y] ∧ SgA K C o H r ∧ Rq K H y t ∧ Cz i j l r.c ∧ Sz m t ∧ Cok r.c ∧ j + l + m + i + 3 ≤ 9000 ∧ r.c.length ≤ 900 ∧ (∀ q a H', nowf r.c t = some q → Same H H' → Rq K H' (.ref a) q → Q (.ref a) H') ∧ (nowf r.c t = none → eV E CB H y)
abbrev s_Steering_display : Stmt := inClass (top 66) 5
abbrev N_Steering_display : List Str := ["self", "raw"]
theorem sc_Steering_display : FnScope N_Steering_display ["self", "raw"] (defScope s_Steering_display) := ⟨rfl, rfl, rfl, by decide +kernel, rfl, by decide +kernel, by decide +kernel⟩
abbrev ps_Steering_display : List Str := ["self", "raw"]
theorem ok_display (S : Stg K C) (F : FnM K C "display" "Steering.display" s_Steering_display ps_Steering_display f fd) (dshown_at : DefY P w K mg base k "shown_at" ["course", "t"] (spShownAt K CB) f1 fd1) : MthY P w K mg base (k + 1) C "display" ps_Steering_display (spDisplay K C CB) f fd := by
  refine ⟨okY F.F sc_Steering_display (fun vs H Q E h => ?_) (fun cdv A outer s H vs Q E hr h => ?_), S.c, F.m, F.b⟩
  · obtain ⟨_, _, _, _, _, _, _, _, rfl, _⟩ := h
    rfl
  obtain ⟨o, y, r, t, i, j, l, m, rfl, ⟨dx, x, ho, G⟩, hy, cz, zt, ok, hb, hl, z, e⟩ := h
  obtain ⟨l1, l2, l3, l4, l5, l6, l7, l8⟩ := sgf_at x
  refine ⟨_, (pss_one (ps_ret (pcallY dshown_at hr (L2N.takes_of rfl rfl rfl rfl) (pa_cons (pe_fld (pv 0) rfl) (pa_cons (pv 1) pa_nil))))), ?_⟩
  exact ⟨_, rfl, o, C, dx, _, _, rfl, ho, S.c, S.n4, l4, _, rfl, x.l, y, r.c, t, i, j, l, m, rfl, G.cq, hy, cz, zt, ok, hb, hl, z, e⟩
def spCourseOf (K : PySem.W.Frag) (C : Addr) : Sp := fun vs H Q _ => ∃ (o : Addr) (r : Sr), vs = [.ref o] ∧ SgA K C o H r ∧ r.c.length ≤ 900 ∧ ∀ D us H', Same H H' → H D = none → Ct K H' D us r.c → Q (.ref D) H'
abbrev s_Steering_course_of : Stmt := inClass (top 66) 7
abbrev N_Steering_course_of : List Str := ["self"]
theorem sc_Steering_course_of : FnScope N_Steering_course_of ["self"] (defScope s_Steering_course_of) := ⟨rfl, rfl, rfl, by decide +kernel, rfl, by decide +kernel, by decide +kernel⟩
abbrev ps_Steering_course_of : List Str := ["self"]
theorem ok_course_of (T : Bn mg) (S : Stg K C) (F : FnM K C "course_of" "Steering.course_of" s_Steering_course_of ps_Steering_course_of f fd) : Mth P w K mg base (k + 1) C "course_of" ps_Steering_course_of (spCourseOf K C) f fd := by
  refine ⟨F.F.ok sc_Steering_course_of (fun vs H Q E h => ?_) (fun cdv A outer s H vs Q E hr h => ?_), S.c, F.m, F.b⟩
  · obtain ⟨_, _, rfl, _⟩ := h
    rfl
  obtain ⟨o, r, rfl, ⟨dx, x, ho, G⟩, hl, z⟩ := h
  obtain ⟨l1, l2, l3, l4, l5, l6, l7, l8⟩ := sgf_at x
  have S0 := S.c
  have S4 := S.n4
  obtain ⟨xs, hx, hc⟩ := id G.cq
  have hxl : xs.length ≤ 900 := by rw [hc.1]; exact hl
  refine ⟨_, (pss_one (ps_ret (pe_callTy call_list_of (by rfl) T.list_ (by decide +kernel) (pa_cons (pe_fld (pv 0) rfl) pa_nil)))), ?_⟩
  (walk_at "vk_vc")
  exact z _ xs _ (same_new np _) np ⟨upd_same, hc.imp fun _ _ h => h.same (same_new np _)⟩
def spAim (K : PySem.W.Frag) (C : Addr) : Sp := fun vs H Q _ => ∃ (o : Addr) (r : Sr), vs = [.ref o] ∧ SgA K C o H r ∧ ∀ v, optV K H v r.aim → Q v H
abbrev s_Steering_aim : Stmt := inClass (top 66) 4
abbrev N_Steering_aim : List Str := ["self"]
theorem sc_Steering_aim : FnScope N_Steering_aim ["self"] (defScope s_Steering_aim) := ⟨rfl, rfl, rfl, by decide +kernel, rfl, by decide +kernel, by decide +kernel⟩
abbrev ps_Steering_aim : List Str := ["self"]
theorem ok_aim (S : Stg K C) (F : Fun K "aim" "Steering.aim" s_Steering_aim f fd) (hp : ∃ q, PropOf K C "aim" q f) (hb : Binds K fd ps_Steering_aim []) : Prp P w K mg base (k + 1) C "aim" ps_Steering_aim (spAim K C) f fd := by
  refine ⟨F.ok sc_Steering_aim (fun vs H Q E h => ?_) (fun cdv A outer s H vs Q E hr h => ?_), S.c, hp, hb⟩
  · obtain ⟨_, _, rfl, _⟩ := h
    rfl
  obtain ⟨o, r, rfl, ⟨dx, x, ho, G⟩, z⟩ := h
  obtain ⟨l1, l2, l3, l4, l5, l6, l7, l8⟩ := sgf_at x
  refine ⟨_, (pss_one (ps_ret (pe_fld (pv 0) rfl))), ?_⟩
  exact ⟨_, rfl, o, C, dx, _, _, rfl, ho, S.c, S.n5, l5, z _ G.aim⟩
def spInit (K : PySem.W.Frag) (C CB CR : Addr) : Sp := fun vs H Q E => ∃ (o dx : Addr) (xr xs xe xl xd xo : V) (r s e l d : Rat) (ov : Option Rat) (m : Nat), vs = [.ref o, xr, xs, xe, xl, xd, xo] ∧ H o = some (.ins C dx []) ∧ Rq K H xr r ∧ Rq K H xs s ∧ Rq K H xe e ∧ Rq K H xl l ∧ Rq K H xd d ∧ optV K H xo ov ∧ Sz m e ∧ Sz m l ∧ Sz m d ∧ OSz m ov ∧ m ≤ 4000 ∧
  (0 ≤ e → 0 < l → l < 1 → 0 ≤ d → d < l → (∀ q, ov = some q → 0 ≤ q) → ∀ H', Fr o H H' → SgA K C o H' ⟨l, d, ov, [⟨r, s, 1⟩], none, r, e, e⟩ → Q .non H') ∧
  (e < 0 → eV E CB H xe) ∧ (0 ≤ e → l ≤ 0 ∨ 1 ≤ l → eV E CR H xl) ∧ (0 ≤ e → 0 < l → l < 1 → d < 0 ∨ l ≤ d → eV E CR H xd) ∧ (0 ≤ e → 0 < l → l < 1 → 0 ≤ d → d < l → ∀ q, ov = some q → q < 0 → eV E CB H xo)
theorem putF_le {f : Str} {v : V} : ∀ {fs : List (Str × V)} {n : Nat}, fs.length ≤ n → (putF f v fs).length ≤ n + 1
  | [], n, _ => by show 1 ≤ n + 1; omega
  | (g, y) :: r, 0, h => absurd h (by simp)
  | (g, y) :: r, n + 1, h => by
    have h : r.length ≤ n := by simp at h; exact h
    unfold putF
    split
    · show r.length + 1 ≤ _; omega
    · have := putF_le (f := f) (v := v) h
      show (putF f v r).length + 1 ≤ _
      omega
theorem putF_all (v1 v2 v3 : V) (l : Addr) (v5 v6 v7 v8 : V) : putF "_half" v8 (putF "_bound" v7 (putF "_last" v6 (putF "_aim" v5 (putF "_course" (.ref l) (putF "_step_over" v3 (putF "_drift" v2 (putF "_slew" v1 []))))))) = sgf ⟨v1, v2, v3, l, v5, v6, v7, v8⟩ := by unfold sgf; kernel_rfl
abbrev s_Steering_init : Stmt := inClass (top 66) 0
abbrev N_Steering_init : List Str := ["self", "raw", "shown", "error", "slew", "drift", "step_over"]
theorem sc_Steering_init : FnScope N_Steering_init ["self", "raw", "shown", "error", "slew", "drift", "step_over"] (defScope s_Steering_init) := ⟨rfl, rfl, rfl, by decide +kernel, rfl, by decide +kernel, by decide +kernel⟩
abbrev ps_Steering_init : List Str := ["self", "raw", "shown", "error", "slew", "drift", "step_over"]
theorem ok_init (S : Stg K C) (ZONE : Cn K mg "ONE" 1 aONE) (F : Fun K "__init__" "Steering.__init__" s_Steering_init f fd) (drequire_not_below_zero : DefY P w K mg base k "require_not_below_zero" ["bound"] (spNB K CB) f1 fd1) (d_require_slew_and_drift : DefY P w K mg base k "_require_slew_and_drift" ["slew", "drift"] (spSD K CR) f2 fd2) :
    FnOk P w K mg base (L2N.CX P w) (k + 1) f fd ps_Steering_init (spInit K C CB CR) := by
  refine okY F sc_Steering_init (fun vs H Q E h => ?_) (fun cdv A outer s H vs Q E hr h => ?_)
  · obtain ⟨_, _, _, _, _, _, _, _, _, _, _, _, _, _, _, rfl, _⟩ := h
    rfl
  obtain ⟨o, dx, xr, xs, xe, xl, xd, xo, r0, s0, e0, l0, d0, ov, m, rfl, ho, hr0, hs0, he0, hl0, hd0, hov, ze, zl, zd, zo, hm, z, w1, w2, w3, w4⟩ := h
  refine ⟨_, (pss_cons (ps_expr (pcallY drequire_not_below_zero hr (L2N.takes_of rfl rfl rfl rfl) (pa_cons (pv 3) pa_nil)))
      (pss_cons (ps_expr (pcallY d_require_slew_and_drift hr (L2N.takes_of rfl rfl rfl rfl) (pa_cons (pv 4) (pa_cons (pv 5) pa_nil))))
      (pss_cons (ps_if (pt_cmpR op_notN (pv 6) pe_non (nomark _))
        (pss_one (ps_expr (pcallY drequire_not_below_zero hr (L2N.takes_of rfl rfl rfl rfl) (pa_cons (pv 6) pa_nil))))
        pss_nil)
      (pss_cons (ps_fld (pv 0) (pv 4) rfl)
      (pss_cons (ps_fld (pv 0) (pv 5) rfl)
      (pss_cons (ps_fld (pv 0) (pv 6) rfl)
      (pss_cons (ps_fld (pv 0) (pe_lst (pa_cons (pe_tup (pa_cons (pv 1) (pa_cons (pv 2) (pa_cons (pe_glob (v := .ref aONE) (u := .ref aONE) (by rfl) ZONE.m rfl) pa_nil)))) pa_nil)) rfl)
      (pss_cons (ps_fld (pv 0) pe_non rfl)
      (pss_cons (ps_fld (pv 0) (pv 1) rfl)
      (pss_cons (ps_fld (pv 0) (pv 3) rfl)
      (pss_one (ps_fld (pv 0) (pv 3) rfl)))))))))))), ?_⟩
  refine ⟨_, rfl, xe, e0, m, rfl, he0, ze, by omega, fun c1 => ?_, fun c1 => w1 c1⟩
  refine ⟨_, rfl, _, rfl, xl, xd, l0, d0, m, rfl, hl0, hd0, zl, zd, hm, fun c2 c3 c4 c5 => ?_, fun c => w2 c1 c, fun a b c => w3 c1 a b c⟩
  have go : (∃ b, xo = .ref b) ∨ xo = .non := by
    cases ov with
    | none => exact .inr hov
    | some q =>
      obtain ⟨b, eb, _⟩ : Rq K H xo q := hov
      exact .inl ⟨b, eb⟩
  have gq : ∀ q, ov = some q → Rq K H xo q := fun q e => by subst e; exact hov
  have g0 : (∀ q, ov = some q → 0 ≤ q) → ∀ H', Fr o H H' → SgA K C o H' ⟨l0, d0, ov, [⟨r0, s0, 1⟩], none, r0, e0, e0⟩ → Q .non H' := z c1 c2 c3 c4 c5
  clear z w1 w2 w3
  by_cases en : ov = none
  · have eo : xo = .non := by subst en; exact hov
    have z : ∀ H', Fr o H H' → SgA K C o H' ⟨l0, d0, ov, [⟨r0, s0, 1⟩], none, r0, e0, e0⟩ → Q .non H' := g0 fun q e => by rw [en] at e; cases e
    refine ⟨_, rfl, rfl, _, rfl, ifF (by rw [eo]; rfl) ?_⟩
    clear go gq g0 w4 en eo
    have L1 := putF_le (f := ("_slew" : Str)) (v := xl) (fs := []) (n := 0) (Nat.le_refl _)
    refine ⟨_, rfl, _, rfl, o, C, dx, _, rfl, ho, S.c, S.n1, by show 0 < 1000; decide, ?_⟩
    have e1 : Fr o H (upd H o (.ins C dx (putF ("_slew" : Str) xl []))) := Fr.upd _
    have g1 : (upd H o (.ins C dx (putF ("_slew" : Str) xl []))) o = some (.ins C dx (putF ("_slew" : Str) xl [])) := upd_same
    generalize upd H o (.ins C dx (putF ("_slew" : Str) xl [])) = G1 at e1 g1 ⊢
    refine ⟨_, rfl, _, rfl, o, C, dx, _, rfl, g1, S.c, S.n2, Nat.lt_of_le_of_lt L1 (by decide), ?_⟩
    have L2 := putF_le (f := ("_drift" : Str)) (v := xd) L1
    have e2 : Fr o G1 (upd G1 o (.ins C dx (putF ("_drift" : Str) xd (putF ("_slew" : Str) xl [])))) := Fr.upd _
    have g2 : (upd G1 o (.ins C dx (putF ("_drift" : Str) xd (putF ("_slew" : Str) xl [])))) o = some (.ins C dx (putF ("_drift" : Str) xd (putF ("_slew" : Str) xl []))) := upd_same
    generalize upd G1 o (.ins C dx (putF ("_drift" : Str) xd (putF ("_slew" : Str) xl []))) = G2 at e2 g2 ⊢
    refine ⟨_, rfl, _, rfl, o, C, dx, _, rfl, g2, S.c, S.n3, Nat.lt_of_le_of_lt L2 (by decide), ?_⟩
    have L3 := putF_le (f := ("_step_over" : Str)) (v := xo) L2
    have e3 : Fr o G2 (upd G2 o (.ins C dx (putF ("_step_over" : Str) xo (putF ("_drift" : Str) xd (putF ("_slew" : Str) xl []))))) := Fr.upd _
    have g3 : (upd G2 o (.ins C dx (putF ("_step_over" : Str) xo (putF ("_drift" : Str) xd (putF ("_slew" : Str) xl []))))) o = some (.ins C dx (putF ("_step_over" : Str) xo (putF ("_drift" : Str) xd (putF ("_slew" : Str) xl [])))) := upd_same
    generalize upd G2 o (.ins C dx (putF ("_step_over" : Str) xo (putF ("_drift" : Str) xd (putF ("_slew" : Str) xl [])))) = G3 at e3 g3 ⊢
    refine ⟨_, rfl, _, rfl, sm3, fun t ht => ⟨sm1, fun D hD => ?_⟩⟩
    have eT : Fr o G3 (upd G3 t (.tup [xr, xs, .ref aONE])) := Fr.of (same_new ht _)
    have gT := same_new ht (.tup [xr, xs, .ref aONE]) _ _ g3
    have uT : (upd G3 t (.tup [xr, xs, .ref aONE])) t = some (.tup [xr, xs, .ref aONE]) := upd_same
    generalize upd G3 t (.tup [xr, xs, .ref aONE]) = GT at eT gT uT hD ⊢
    have eD : Fr o GT (upd GT D (.lst [.ref t])) := Fr.of (same_new hD _)
    have gD := same_new hD (.lst [.ref t]) _ _ gT
    have uT2 := same_new hD (.lst [.ref t]) _ _ uT
    have uD : (upd GT D (.lst [.ref t])) D = some (.lst [.ref t]) := upd_same
    generalize upd GT D (.lst [.ref t]) = GD at eD gD uT2 uD ⊢
    refine ⟨_, rfl, o, C, dx, _, rfl, gD, S.c, S.n4, Nat.lt_of_le_of_lt L3 (by decide), ?_⟩
    have L4 := putF_le (f := ("_course" : Str)) (v := (.ref D)) L3
    have e4 : Fr o GD (upd GD o (.ins C dx (putF ("_course" : Str) (.ref D) (putF ("_step_over" : Str) xo (putF ("_drift" : Str) xd (putF ("_slew" : Str) xl [])))))) := Fr.upd _
    have g4 : (upd GD o (.ins C dx (putF ("_course" : Str) (.ref D) (putF ("_step_over" : Str) xo (putF ("_drift" : Str) xd (putF ("_slew" : Str) xl [])))))) o = some (.ins C dx (putF ("_course" : Str) (.ref D) (putF ("_step_over" : Str) xo (putF ("_drift" : Str) xd (putF ("_slew" : Str) xl []))))) := upd_same
    generalize upd GD o (.ins C dx (putF ("_course" : Str) (.ref D) (putF ("_step_over" : Str) xo (putF ("_drift" : Str) xd (putF ("_slew" : Str) xl []))))) = G4 at e4 g4 ⊢
    refine ⟨_, rfl, o, C, dx, _, rfl, g4, S.c, S.n5, Nat.lt_of_le_of_lt L4 (by decide), ?_⟩
    have L5 := putF_le (f := ("_aim" : Str)) (v := .non) L4
    have e5 : Fr o G4 (upd G4 o (.ins C dx (putF ("_aim" : Str) .non (putF ("_course" : Str) (.ref D) (putF ("_step_over" : Str) xo (putF ("_drift" : Str) xd (putF ("_slew" : Str) xl []))))))) := Fr.upd _
    have g5 : (upd G4 o (.ins C dx (putF ("_aim" : Str) .non (putF ("_course" : Str) (.ref D) (putF ("_step_over" : Str) xo (putF ("_drift" : Str) xd (putF ("_slew" : Str) xl []))))))) o = some (.ins C dx (putF ("_aim" : Str) .non (putF ("_course" : Str) (.ref D) (putF ("_step_over" : Str) xo (putF ("_drift" : Str) xd (putF ("_slew" : Str) xl [])))))) := upd_same
    generalize upd G4 o (.ins C dx (putF ("_aim" : Str) .non (putF ("_course" : Str) (.ref D) (putF ("_step_over" : Str) xo (putF ("_drift" : Str) xd (putF ("_slew" : Str) xl [])))))) = G5 at e5 g5 ⊢
    refine ⟨_, rfl, _, rfl, o, C, dx, _, rfl, g5, S.c, S.n6, Nat.lt_of_le_of_lt L5 (by decide), ?_⟩
    have L6 := putF_le (f := ("_last" : Str)) (v := xr) L5
    have e6 : Fr o G5 (upd G5 o (.ins C dx (putF ("_last" : Str) xr (putF ("_aim" : Str) .non (putF ("_course" : Str) (.ref D) (putF ("_step_over" : Str) xo (putF ("_drift" : Str) xd (putF ("_slew" : Str) xl [])))))))) := Fr.upd _
    have g6 : (upd G5 o (.ins C dx (putF ("_last" : Str) xr (putF ("_aim" : Str) .non (putF ("_course" : Str) (.ref D) (putF ("_step_over" : Str) xo (putF ("_drift" : Str) xd (putF ("_slew" : Str) xl [])))))))) o = some (.ins C dx (putF ("_last" : Str) xr (putF ("_aim" : Str) .non (putF ("_course" : Str) (.ref D) (putF ("_step_over" : Str) xo (putF ("_drift" : Str) xd (putF ("_slew" : Str) xl []))))))) := upd_same
    generalize upd G5 o (.ins C dx (putF ("_last" : Str) xr (putF ("_aim" : Str) .non (putF ("_course" : Str) (.ref D) (putF ("_step_over" : Str) xo (putF ("_drift" : Str) xd (putF ("_slew" : Str) xl []))))))) = G6 at e6 g6 ⊢
    refine ⟨_, rfl, _, rfl, o, C, dx, _, rfl, g6, S.c, S.n7, Nat.lt_of_le_of_lt L6 (by decide), ?_⟩
    have L7 := putF_le (f := ("_bound" : Str)) (v := xe) L6
    have e7 : Fr o G6 (upd G6 o (.ins C dx (putF ("_bound" : Str) xe (putF ("_last" : Str) xr (putF ("_aim" : Str) .non (putF ("_course" : Str) (.ref D) (putF ("_step_over" : Str) xo (putF ("_drift" : Str) xd (putF ("_slew" : Str) xl []))))))))) := Fr.upd _
    have g7 : (upd G6 o (.ins C dx (putF ("_bound" : Str) xe (putF ("_last" : Str) xr (putF ("_aim" : Str) .non (putF ("_course" : Str) (.ref D) (putF ("_step_over" : Str) xo (putF ("_drift" : Str) xd (putF ("_slew" : Str) xl []))))))))) o = some (.ins C dx (putF ("_bound" : Str) xe (putF ("_last" : Str) xr (putF ("_aim" : Str) .non (putF ("_course" : Str) (.ref D) (putF ("_step_over" : Str) xo (putF ("_drift" : Str) xd (putF ("_slew" : Str) xl [])))))))) := upd_same
    generalize upd G6 o (.ins C dx (putF ("_bound" : Str) xe (putF ("_last" : Str) xr (putF ("_aim" : Str) .non (putF ("_course" : Str) (.ref D) (putF ("_step_over" : Str) xo (putF ("_drift" : Str) xd (putF ("_slew" : Str) xl [])))))))) = G7 at e7 g7 ⊢
    refine ⟨_, rfl, _, rfl, o, C, dx, _, rfl, g7, S.c, S.n8, Nat.lt_of_le_of_lt L7 (by decide), ?_⟩
    have L8 := putF_le (f := ("_half" : Str)) (v := xe) L7
    have e8 : Fr o G7 (upd G7 o (.ins C dx (putF ("_half" : Str) xe (putF ("_bound" : Str) xe (putF ("_last" : Str) xr (putF ("_aim" : Str) .non (putF ("_course" : Str) (.ref D) (putF ("_step_over" : Str) xo (putF ("_drift" : Str) xd (putF ("_slew" : Str) xl [])))))))))) := Fr.upd _
    have g8 : (upd G7 o (.ins C dx (putF ("_half" : Str) xe (putF ("_bound" : Str) xe (putF ("_last" : Str) xr (putF ("_aim" : Str) .non (putF ("_course" : Str) (.ref D) (putF ("_step_over" : Str) xo (putF ("_drift" : Str) xd (putF ("_slew" : Str) xl [])))))))))) o = some (.ins C dx (putF ("_half" : Str) xe (putF ("_bound" : Str) xe (putF ("_last" : Str) xr (putF ("_aim" : Str) .non (putF ("_course" : Str) (.ref D) (putF ("_step_over" : Str) xo (putF ("_drift" : Str) xd (putF ("_slew" : Str) xl []))))))))) := upd_same
    generalize upd G7 o (.ins C dx (putF ("_half" : Str) xe (putF ("_bound" : Str) xe (putF ("_last" : Str) xr (putF ("_aim" : Str) .non (putF ("_course" : Str) (.ref D) (putF ("_step_over" : Str) xo (putF ("_drift" : Str) xd (putF ("_slew" : Str) xl []))))))))) = G8 at e8 g8 ⊢
    rw [putF_all] at g8
    have nT : t ≠ o := fun e => by subst e; rw [g3] at ht; cases ht
    have nD : D ≠ o := fun e => by subst e; rw [gT] at hD; cases hD
    have eA : Fr o GD G8 := (((e4.trans e5).trans e6).trans e7).trans e8
    have eB : Fr o G3 G8 := (eT.trans eD).trans eA
    have e0 : Fr o H G8 := ((e1.trans e2).trans e3).trans eB
    have hi : ∃ C d fs, H o = some (HO.ins C d fs) := ⟨_, _, _, ho⟩
    have r1 := frI_rq e0 hi hr0
    have r2 := frI_rq e0 hi hs0
    refine z G8 e0 ⟨dx, _, g8, ⟨frI_rq e0 hi hl0, frI_rq e0 hi hd0, frI_opt e0 hi hov, ⟨_, (eA _ _ uD nD), (All2.nil.snoc (R := Pq K G8) (x := .ref t) (p := ⟨r0, s0, 1⟩) ⟨t, _, _, _, rfl, SqT.of (eA _ _ uT2 nT), r1, r2, ZONE.q G8⟩ : All2 (Pq K G8) ([] ++ [.ref t]) ([] ++ [⟨r0, s0, 1⟩]))⟩, rfl, r1, frI_rq e0 hi he0, frI_rq e0 hi he0⟩⟩
  · obtain ⟨q, eq⟩ : ∃ q, ov = some q := by cases ov with | none => exact absurd rfl en | some q => exact ⟨q, rfl⟩
    have rq := gq q eq
    obtain ⟨b, eb, _⟩ := id rq
    refine ⟨_, rfl, rfl, _, rfl, ifT (by rw [eb]; rfl) ⟨_, rfl, xo, q, m, rfl, rq, zo q eq, by omega, fun c6 => ?_, fun c => w4 c1 c2 c3 c4 c5 q eq c⟩⟩
    have z : ∀ H', Fr o H H' → SgA K C o H' ⟨l0, d0, ov, [⟨r0, s0, 1⟩], none, r0, e0, e0⟩ → Q .non H' := g0 fun q' e => by rw [eq] at e; cases e; exact c6
    clear go gq g0 w4 en rq eb c6
    have L1 := putF_le (f := ("_slew" : Str)) (v := xl) (fs := []) (n := 0) (Nat.le_refl _)
    refine ⟨_, rfl, _, rfl, o, C, dx, _, rfl, ho, S.c, S.n1, by show 0 < 1000; decide, ?_⟩
    have e1 : Fr o H (upd H o (.ins C dx (putF ("_slew" : Str) xl []))) := Fr.upd _
    have g1 : (upd H o (.ins C dx (putF ("_slew" : Str) xl []))) o = some (.ins C dx (putF ("_slew" : Str) xl [])) := upd_same
    generalize upd H o (.ins C dx (putF ("_slew" : Str) xl [])) = G1 at e1 g1 ⊢
    refine ⟨_, rfl, _, rfl, o, C, dx, _, rfl, g1, S.c, S.n2, Nat.lt_of_le_of_lt L1 (by decide), ?_⟩
    have L2 := putF_le (f := ("_drift" : Str)) (v := xd) L1
    have e2 : Fr o G1 (upd G1 o (.ins C dx (putF ("_drift" : Str) xd (putF ("_slew" : Str) xl [])))) := Fr.upd _
    have g2 : (upd G1 o (.ins C dx (putF ("_drift" : Str) xd (putF ("_slew" : Str) xl [])))) o = some (.ins C dx (putF ("_drift" : Str) xd (putF ("_slew" : Str) xl []))) := upd_same
    generalize upd G1 o (.ins C dx (putF ("_drift" : Str) xd (putF ("_slew" : Str) xl []))) = G2 at e2 g2 ⊢
    refine ⟨_, rfl, _, rfl, o, C, dx, _, rfl, g2, S.c, S.n3, Nat.lt_of_le_of_lt L2 (by decide), ?_⟩
    have L3 := putF_le (f := ("_step_over" : Str)) (v := xo) L2
    have e3 : Fr o G2 (upd G2 o (.ins C dx (putF ("_step_over" : Str) xo (putF ("_drift" : Str) xd (putF ("_slew" : Str) xl []))))) := Fr.upd _
    have g3 : (upd G2 o (.ins C dx (putF ("_step_over" : Str) xo (putF ("_drift" : Str) xd (putF ("_slew" : Str) xl []))))) o = some (.ins C dx (putF ("_step_over" : Str) xo (putF ("_drift" : Str) xd (putF ("_slew" : Str) xl [])))) := upd_same
    generalize upd G2 o (.ins C dx (putF ("_step_over" : Str) xo (putF ("_drift" : Str) xd (putF ("_slew" : Str) xl [])))) = G3 at e3 g3 ⊢
    refine ⟨_, rfl, _, rfl, sm3, fun t ht => ⟨sm1, fun D hD => ?_⟩⟩
    have eT : Fr o G3 (upd G3 t (.tup [xr, xs, .ref aONE])) := Fr.of (same_new ht _)
    have gT := same_new ht (.tup [xr, xs, .ref aONE]) _ _ g3
    have uT : (upd G3 t (.tup [xr, xs, .ref aONE])) t = some (.tup [xr, xs, .ref aONE]) := upd_same
    generalize upd G3 t (.tup [xr, xs, .ref aONE]) = GT at eT gT uT hD ⊢
    have eD : Fr o GT (upd GT D (.lst [.ref t])) := Fr.of (same_new hD _)
    have gD := same_new hD (.lst [.ref t]) _ _ gT
    have uT2 := same_new hD (.lst [.ref t]) _ _ uT
    have uD : (upd GT D (.lst [.ref t])) D = some (.lst [.ref t]) := upd_same
    generalize upd GT D (.lst [.ref t]) = GD at eD gD uT2 uD ⊢
    refine ⟨_, rfl, o, C, dx, _, rfl, gD, S.c, S.n4, Nat.lt_of_le_of_lt L3 (by decide), ?_⟩
    have L4 := putF_le (f := ("_course" : Str)) (v := (.ref D)) L3
    have e4 : Fr o GD (upd GD o (.ins C dx (putF ("_course" : Str) (.ref D) (putF ("_step_over" : Str) xo (putF ("_drift" : Str) xd (putF ("_slew" : Str) xl [])))))) := Fr.upd _
    have g4 : (upd GD o (.ins C dx (putF ("_course" : Str) (.ref D) (putF ("_step_over" : Str) xo (putF ("_drift" : Str) xd (putF ("_slew" : Str) xl [])))))) o = some (.ins C dx (putF ("_course" : Str) (.ref D) (putF ("_step_over" : Str) xo (putF ("_drift" : Str) xd (putF ("_slew" : Str) xl []))))) := upd_same
    generalize upd GD o (.ins C dx (putF ("_course" : Str) (.ref D) (putF ("_step_over" : Str) xo (putF ("_drift" : Str) xd (putF ("_slew" : Str) xl []))))) = G4 at e4 g4 ⊢
    refine ⟨_, rfl, o, C, dx, _, rfl, g4, S.c, S.n5, Nat.lt_of_le_of_lt L4 (by decide), ?_⟩
    have L5 := putF_le (f := ("_aim" : Str)) (v := .non) L4
    have e5 : Fr o G4 (upd G4 o (.ins C dx (putF ("_aim" : Str) .non (putF ("_course" : Str) (.ref D) (putF ("_step_over" : Str) xo (putF ("_drift" : Str) xd (putF ("_slew" : Str) xl []))))))) := Fr.upd _
    have g5 : (upd G4 o (.ins C dx (putF ("_aim" : Str) .non (putF ("_course" : Str) (.ref D) (putF ("_step_over" : Str) xo (putF ("_drift" : Str) xd (putF ("_slew" : Str) xl []))))))) o = some (.ins C dx (putF ("_aim" : Str) .non (putF ("_course" : Str) (.ref D) (putF ("_step_over" : Str) xo (putF ("_drift" : Str) xd (putF ("_slew" : Str) xl [])))))) := upd_same
    generalize upd G4 o (.ins C dx (putF ("_aim" : Str) .non (putF ("_course" : Str) (.ref D) (putF ("_step_over" : Str) xo (putF ("_drift" : Str) xd (putF ("_slew" : Str) xl [])))))) = G5 at e5 g5 ⊢
    refine ⟨_, rfl, _, rfl, o, C, dx, _, rfl, g5, S.c, S.n6, Nat.lt_of_le_of_lt L5 (by decide), ?_⟩
    have L6 := putF_le (f := ("_last" : Str)) (v := xr) L5
    have e6 : Fr o G5 (upd G5 o (.ins C dx (putF ("_last" : Str) xr (putF ("_aim" : Str) .non (putF ("_course" : Str) (.ref D) (putF ("_step_over" : Str) xo (putF ("_drift" : Str) xd (putF ("_slew" : Str) xl [])))))))) := Fr.upd _
    have g6 : (upd G5 o (.ins C dx (putF ("_last" : Str) xr (putF ("_aim" : Str) .non (putF ("_course" : Str) (.ref D) (putF ("_step_over" : Str) xo (putF ("_drift" : Str) xd (putF ("_slew" : Str) xl [])))))))) o = some (.ins C dx (putF ("_last" : Str) xr (putF ("_aim" : Str) .non (putF ("_course" : Str) (.ref D) (putF ("_step_over" : Str) xo (putF ("_drift" : Str) xd (putF ("_slew" : Str) xl []))))))) := upd_same
    generalize upd G5 o (.ins C dx (putF ("_last" : Str) xr (putF ("_aim" : Str) .non (putF ("_course" : Str) (.ref D) (putF ("_step_over" : Str) xo (putF ("_drift" : Str) xd (putF ("_slew" : Str) xl []))))))) = G6 at e6 g6 ⊢
    refine ⟨_, rfl, _, rfl, o, C, dx, _, rfl, g6, S.c, S.n7, Nat.lt_of_le_of_lt L6 (by decide), ?_⟩
    have L7 := putF_le (f := ("_bound" : Str)) (v := xe) L6
    have e7 : Fr o G6 (upd G6 o (.ins C dx (putF ("_bound" : Str) xe (putF ("_last" : Str) xr (putF ("_aim" : Str) .non (putF ("_course" : Str) (.ref D) (putF ("_step_over" : Str) xo (putF ("_drift" : Str) xd (putF ("_slew" : Str) xl []))))))))) := Fr.upd _
    have g7 : (upd G6 o (.ins C dx (putF ("_bound" : Str) xe (putF ("_last" : Str) xr (putF ("_aim" : Str) .non (putF ("_course" : Str) (.ref D) (putF ("_step_over" : Str) xo (putF ("_drift" : Str) xd (putF ("_slew" : Str) xl []))))))))) o = some (.ins C dx (putF ("_bound" : Str) xe (putF ("_last" : Str) xr (putF ("_aim" : Str) .non (putF ("_course" : Str) (.ref D) (putF ("_step_over" : Str) xo (putF ("_drift" : Str) xd (putF ("_slew" : Str) xl [])))))))) := upd_same
    generalize upd G6 o (.ins C dx (putF ("_bound" : Str) xe (putF ("_last" : Str) xr (putF ("_aim" : Str) .non (putF ("_course" : Str) (.ref D) (putF ("_step_over" : Str) xo (putF ("_drift" : Str) xd (putF ("_slew" : Str) xl [])))))))) = G7 at e7 g7 ⊢
    refine ⟨_, rfl, _, rfl, o, C, dx, _, rfl, g7, S.c, S.n8, Nat.lt_of_le_of_lt L7 (by decide), ?_⟩
    have L8 := putF_le (f := ("_half" : Str)) (v := xe) L7
    have e8 : Fr o G7 (upd G7 o (.ins C dx (putF ("_half" : Str) xe (putF ("_bound" : Str) xe (putF ("_last" : Str) xr (putF ("_aim" : Str) .non (putF ("_course" : Str) (.ref D) (putF ("_step_over" : Str) xo (putF ("_drift" : Str) xd (putF ("_slew" : Str) xl [])))))))))) := Fr.upd _
    have g8 : (upd G7 o (.ins C dx (putF ("_half" : Str) xe (putF ("_bound" : Str) xe (putF ("_last" : Str) xr (putF ("_aim" : Str) .non (putF ("_course" : Str) (.ref D) (putF ("_step_over" : Str) xo (putF ("_drift" : Str) xd (putF ("_slew" : Str) xl [])))))))))) o = some (.ins C dx (putF ("_half" : Str) xe (putF ("_bound" : Str) xe (putF ("_last" : Str) xr (putF ("_aim" : Str) .non (putF ("_course" : Str) (.ref D) (putF ("_step_over" : Str) xo (putF ("_drift" : Str) xd (putF ("_slew" : Str) xl []))))))))) := upd_same
    generalize upd G7 o (.ins C dx (putF ("_half" : Str) xe (putF ("_bound" : Str) xe (putF ("_last" : Str) xr (putF ("_aim" : Str) .non (putF ("_course" : Str) (.ref D) (putF ("_step_over" : Str) xo (putF ("_drift" : Str) xd (putF ("_slew" : Str) xl []))))))))) = G8 at e8 g8 ⊢
    rw [putF_all] at g8
    have nT : t ≠ o := fun e => by subst e; rw [g3] at ht; cases ht
    have nD : D ≠ o := fun e => by subst e; rw [gT] at hD; cases hD
    have eA : Fr o GD G8 := (((e4.trans e5).trans e6).trans e7).trans e8
    have eB : Fr o G3 G8 := (eT.trans eD).trans eA
    have e0 : Fr o H G8 := ((e1.trans e2).trans e3).trans eB
    have hi : ∃ C d fs, H o = some (HO.ins C d fs) := ⟨_, _, _, ho⟩
    have r1 := frI_rq e0 hi hr0
    have r2 := frI_rq e0 hi hs0
    refine z G8 e0 ⟨dx, _, g8, ⟨frI_rq e0 hi hl0, frI_rq e0 hi hd0, frI_opt e0 hi hov, ⟨_, (eA _ _ uD nD), (All2.nil.snoc (R := Pq K G8) (x := .ref t) (p := ⟨r0, s0, 1⟩) ⟨t, _, _, _, rfl, SqT.of (eA _ _ uT2 nT), r1, r2, ZONE.q G8⟩ : All2 (Pq K G8) ([] ++ [.ref t]) ([] ++ [⟨r0, s0, 1⟩]))⟩, rfl, r1, frI_rq e0 hi he0, frI_rq e0 hi he0⟩⟩
end Vk
set_option maxHeartbeats 4000000
namespace Vk
open PySem L2 Vm Vl
variable {l aZERO aONE aHALF C CB CR CT CV fB fR fT : Addr} {P : Program} {w : World} {K : PySem.W.Frag} {mg : Str → Option Value} {base : Heap} {k : Nat} {f f1 f2 f3 f4 f5 f6 f7 f8 f9 : Addr} {fd fd1 fd2 fd3 fd4 fd5 fd6 fd7 fd8 fd9 : FuncData}
def kp (c : List Pc) (t : Rat) : List Pc := c.filter fun p => decide (p.s < t)
def spPlan (K : PySem.W.Frag) (C : Addr) : Sp := fun vs H Q _ => ∃ (o a : Addr) (ys : List V) (y va vb vh : V) (r : Sr) (t b h : Rat) (am : Option Rat) (c : List Pc) (i j l m : Nat), vs = [.ref o, y, .ref a, va, vb, vh] ∧ SgA K C o H r ∧ Rq K H y t ∧ Ct K H a ys c ∧ optV K H va am ∧ Rq K H vb b ∧ Rq K H vh h ∧ Cz i j l r.c ∧ Cz i j l c ∧ Sz m t ∧
  i + m + 1 ≤ 9000 ∧ j + j + l + i + i + 5 ≤ 9000 ∧ 1 ≤ c.length ∧ c.length ≤ 400 ∧ r.c.length ≤ 400 ∧ ∀ H', Fr o H H' → SgA K C o H' { r with c := tl (kp r.c t ++ c), aim := am, la := t, bd := b, hf := h } → Q .non H'
abbrev s_Steering__plan : Stmt := inClass (top 66) 3
abbrev N_Steering__plan : List Str := ["self", "raw", "pieces", "aim", "bound", "half", "kept", "piece"]
theorem sc_Steering__plan : FnScope N_Steering__plan ["self", "raw", "pieces", "aim", "bound", "half"] (defScope s_Steering__plan) := ⟨rfl, rfl, rfl, by decide +kernel, rfl, by decide +kernel, by decide +kernel⟩
abbrev ps_Steering__plan : List Str := ["self", "raw", "pieces", "aim", "bound", "half"]
theorem ok_plan (S : Stg K C) (F : FnM K C "_plan" "Steering._plan" s_Steering__plan ps_Steering__plan f fd) (dcompare : Def P w K mg base k "compare" ["a", "b"] (spTest2 K fun p q => .int (sg p q)) f1 fd1) (dtidy : Def P w K mg base k "tidy" ["course"] (spTidy K) f2 fd2) :
    Mth P w K mg base (k + 1) C "_plan" ps_Steering__plan (spPlan K C) f fd := by
  refine ⟨F.F.ok sc_Steering__plan (fun vs H Q E h => ?_) (fun cdv A outer s H vs Q E hr h => ?_), S.c, F.m, F.b⟩
  · obtain ⟨_, _, _, _, _, _, _, _, _, _, _, _, _, _, _, _, _, rfl, _⟩ := h
    rfl
  obtain ⟨o, a, ys, y, va, vb, vh, r, t, b, h, am, c, i, j, l, m, rfl, ⟨dx, x, ho, G⟩, hy, hC, hva, hvb, hvh, cz1, cz2, zt, hm1, hm2, hp, hl1, hl2, z⟩ := h
  obtain ⟨l1, l2, l3, l4, l5, l6, l7, l8⟩ := sgf_at x
  obtain ⟨xs, hx, hc⟩ := id G.cq
  obtain ⟨hY, hcy⟩ := id hC
  have hcl := hc.1
  have hcyl := hcy.1
  refine ⟨_, (pss_cons (ps_setLc (i := 6) (own := [("piece", 7)]) (g := gName 7) rfl sc_Steering__plan.nd rfl rfl (sw_true rfl rfl rfl (by decide +kernel)) (pi_list (pe_fld (pv 0) rfl)) (blkOk_by (N := N_Steering__plan) (sc := defScope s_Steering__plan) (by decide +kernel)) (fun _ _ _ _ _ => pg_name (i := 7) sc_Steering__plan.nd rfl (Or.inl rfl)) (fun _ _ _ _ _ => pts_one (pt_cmpR op_lt (pcall dcompare hr (pa_cons (pe_ix (show IxR _ (rIxT K) from ix_tup) (pv 7) pe_int (fun _ _ => rfl)) (pa_cons (pv 1) pa_nil))) pe_int (nomark _))) (fun _ _ _ _ _ => (pv 7)))
      (pss_cons (ps_fld (pv 0) (pcall dtidy hr (pa_cons (pe_op op_cat (pv 6) (pv 2)) pa_nil)) rfl)
      (pss_cons (ps_fld (pv 0) (pv 3) rfl)
      (pss_cons (ps_fld (pv 0) (pv 1) rfl)
      (pss_cons (ps_fld (pv 0) (pv 4) rfl)
      (pss_one (ps_fld (pv 0) (pv 5) rfl))))))), ?_⟩
  refine ⟨_, rfl, o, C, dx, _, _, rfl, ho, S.c, S.n4, l4, ?_⟩
  refine ⟨x.l, rfl, ⟨xs, hx⟩, fun D hD => lcAll (R := Pq K) (R' := Pq K) lastsP (fun p => if p.s < t then some p else none) hD hx hc (by omega) ?_ ?_⟩
  · intro i0 u p0 G0 ec pq s1 Y N hY hN
    obtain ⟨pa, ps, pv, pr, rfl, hpa, r1, r2, r3⟩ := pq.same s1
    have zp := (cz1 p0 (List.mem_of_getElem? ec)).1
    (walk_at "vk_vc")
    · exact hY _ _ p0 (by with_reducible exact Same.refl _) (if_pos (sg_lt.mp gc)) (pq.same s1)
    · exact hN _ (if_neg fun g => gc (sg_lt.mpr g)) (Same.refl _)
  intro us H1 s1 h1 h2
  rw [filterMap_if] at h2
  have h2 : All2 (Pq K H1) us (kp r.c t) := h2
  have hul := h2.1
  have hkl : (kp r.c t).length ≤ r.c.length := List.length_filter_le _ _
  have hx1 := s1.seq hx
  have hY1 := s1 _ _ hY
  have hcy1 := hcy.imp fun _ _ h => h.same s1
  have hsz : sizeLine = 16777216 := sizeLine_eq
  refine ⟨_, rfl, _, rfl, D, a, us, ys, rfl, rfl, h1, hY1, by omega, fun B hB => ?_⟩
  have hcat : All2 (Pq K H1) (us ++ ys) (kp r.c t ++ c) := h2.append hcy1
  have sB := same_new hB (.lst (us ++ ys))
  have tB : Ct K (upd H1 B (.lst (us ++ ys))) B (us ++ ys) (kp r.c t ++ c) := ⟨upd_same, hcat.imp fun _ _ h => h.same sB⟩
  have eB := s1.trans sB
  generalize upd H1 B (.lst (us ++ ys)) = HB at tB eB ⊢
  have czk : Cz i j l (kp r.c t ++ c) := fun p hp => by
    rcases List.mem_append.mp hp with h | h
    · exact cz1 p (List.mem_filter.mp h).1
    · exact cz2 p h
  refine ⟨B, kp r.c t ++ c, i, j, l, rfl, tB.cq, czk, by rw [List.length_append]; omega, by rw [List.length_append]; omega, hm2, fun B2 us2 H2 s2 hB2 t2 => ?_⟩
  have e2 := eB.trans s2
  have ho2 := e2 _ _ ho
  have G2 := G.same e2
  have y2 := hy.same e2
  have a2 := hva.same e2
  have b2 := hvb.same e2
  have h2' := hvh.same e2
  have F2 : Fr o H H2 := Fr.of e2
  clear hx hY hc hcy hx1 hY1 hcy1 h1 h2 hcat tB eB sB s1 s2 e2 G hC hD hB
  refine ⟨_, rfl, o, C, dx, _, rfl, ho2, S.c, S.n4, sgf_len _, ?_⟩
  rw [putF_course]
  have f0 : Fr o H2 (upd H2 o (.ins C dx (sgf { x with l := B2 }))) := Fr.upd _
  have q0 : (upd H2 o (.ins C dx (sgf { x with l := B2 }))) o = some (.ins C dx (sgf { x with l := B2 })) := upd_same
  generalize upd H2 o (.ins C dx (sgf { x with l := B2 })) = J0 at f0 q0 ⊢
  refine ⟨_, rfl, _, rfl, o, C, dx, _, rfl, q0, S.c, S.n5, sgf_len _, ?_⟩
  rw [putF_aim]
  have f1 : Fr o J0 (upd J0 o (.ins C dx (sgf { { x with l := B2 } with va := va }))) := Fr.upd _
  have q1 : (upd J0 o (.ins C dx (sgf { { x with l := B2 } with va := va }))) o = some (.ins C dx (sgf { { x with l := B2 } with va := va })) := upd_same
  generalize upd J0 o (.ins C dx (sgf { { x with l := B2 } with va := va })) = J1 at f1 q1 ⊢
  refine ⟨_, rfl, _, rfl, o, C, dx, _, rfl, q1, S.c, S.n6, sgf_len _, ?_⟩
  rw [putF_last]
  have f2 : Fr o J1 (upd J1 o (.ins C dx (sgf { { { x with l := B2 } with va := va } with vl := y }))) := Fr.upd _
  have q2 : (upd J1 o (.ins C dx (sgf { { { x with l := B2 } with va := va } with vl := y }))) o = some (.ins C dx (sgf { { { x with l := B2 } with va := va } with vl := y })) := upd_same
  generalize upd J1 o (.ins C dx (sgf { { { x with l := B2 } with va := va } with vl := y })) = J2 at f2 q2 ⊢
  refine ⟨_, rfl, _, rfl, o, C, dx, _, rfl, q2, S.c, S.n7, sgf_len _, ?_⟩
  rw [putF_bound]
  have f3 : Fr o J2 (upd J2 o (.ins C dx (sgf { { { { x with l := B2 } with va := va } with vl := y } with vb := vb }))) := Fr.upd _
  have q3 : (upd J2 o (.ins C dx (sgf { { { { x with l := B2 } with va := va } with vl := y } with vb := vb }))) o = some (.ins C dx (sgf { { { { x with l := B2 } with va := va } with vl := y } with vb := vb })) := upd_same
  generalize upd J2 o (.ins C dx (sgf { { { { x with l := B2 } with va := va } with vl := y } with vb := vb })) = J3 at f3 q3 ⊢
  refine ⟨_, rfl, _, rfl, o, C, dx, _, rfl, q3, S.c, S.n8, sgf_len _, ?_⟩
  rw [putF_half]
  have f4 : Fr o J3 (upd J3 o (.ins C dx (sgf { { { { { x with l := B2 } with va := va } with vl := y } with vb := vb } with vh := vh }))) := Fr.upd _
  have q4 : (upd J3 o (.ins C dx (sgf { { { { { x with l := B2 } with va := va } with vl := y } with vb := vb } with vh := vh }))) o = some (.ins C dx (sgf { { { { { x with l := B2 } with va := va } with vl := y } with vb := vb } with vh := vh })) := upd_same
  generalize upd J3 o (.ins C dx (sgf { { { { { x with l := B2 } with va := va } with vl := y } with vb := vb } with vh := vh })) = J4 at f4 q4 ⊢
  have eA : Fr o H2 J4 := (((f0.trans f1).trans f2).trans f3).trans f4
  have hi : ∃ C d fs, H2 o = some (HO.ins C d fs) := ⟨_, _, _, ho2⟩
  have c2 : ∃ us, Ct K J4 B2 us (tl (kp r.c t ++ c)) := ⟨_, frI_lst eA hi t2.1, t2.2.imp fun _ _ z => frI_pq eA hi z⟩
  exact z J4 (F2.trans eA) ⟨dx, _, q4, ⟨frI_rq eA hi G2.sl, frI_rq eA hi G2.dr, frI_opt eA hi G2.ov, c2, frI_opt eA hi a2, frI_rq eA hi y2, frI_rq eA hi b2, frI_rq eA hi h2'⟩⟩
end Vk
set_option maxHeartbeats 4000000
namespace Vk
open PySem L2 Vm Vl Vs
variable {l aZERO aONE aHALF C CB CR CT CV fB fR fT : Addr} {P : Program} {w : World} {K : PySem.W.Frag} {mg : Str → Option Value} {base : Heap} {k : Nat} {f f1 f2 f3 f4 f5 f6 f7 f8 f9 f10 f11 f12 : Addr} {fd fd1 fd2 fd3 fd4 fd5 fd6 fd7 fd8 fd9 fd10 fd11 fd12 : FuncData}
/-- the span that a steering goes by -/
def kLo (p n b : Rat) : Rat := if n - b ≤ p then p else n - b
def kHi (q n b : Rat) : Rat := if q ≤ n + b then q else n + b
def knw (p q n b : Rat) : Rat × Rat := if kHi q n b < kLo p n b then (p, q) else (kLo p n b, kHi q n b)
def mid (u : Rat × Rat) : Rat := (u.1 + u.2) * (1 / 2)
def haf (u : Rat × Rat) : Rat := (u.2 - u.1) * (1 / 2)
theorem meet_knw (p q n b : Rat) : meetO (some p, some q) (some (n - b), some (n + b)) = if kHi q n b < kLo p n b then none else some (some (kLo p n b), some (kHi q n b)) := by
  unfold meetO maxO minO crossed kLo kHi
  dsimp only
  by_cases h : (if q ≤ n + b then q else n + b) < (if n - b ≤ p then p else n - b)
  · rw [if_pos (decide_eq_true h), if_pos h]
  · rw [if_neg (by simpa using h), if_neg h]
/-- without a span -/
def str0 (r : Sr) (t n : Rat) : Sr := { r with c := tl (kp r.c t ++ [⟨t, n, 1⟩]), aim := none, la := t, bd := errS r t, hf := errS r t }
def str2 (r : Sr) (t n p q : Rat) : Sr :=
  if jmpS r (mid (knw p q n (errS r t))) n = true then { r with c := tl (kp r.c t ++ [⟨t, mid (knw p q n (errS r t)), 1⟩]), aim := some (mid (knw p q n (errS r t))), la := t, bd := haf (knw p q n (errS r t)), hf := haf (knw p q n (errS r t)) }
  else { r with c := tl (kp r.c t ++ plan t n (mid (knw p q n (errS r t))) r.sl), aim := some (mid (knw p q n (errS r t))), la := t, bd := farE (knw p q n (errS r t)).1 (knw p q n (errS r t)).2 n, hf := haf (knw p q n (errS r t)) }
def strS (r : Sr) (t n : Rat) : Option Vs.Spn → Sr
  | some (some p, some q) => str2 r t n p q
  | _ => str0 r t n
structure StOk (r : Sr) (t n : Rat) (os : Option Vs.Spn) : Prop where
  now : nowf r.c t = some n
  ok : Cok r.c
  cz : Cz 2162 2162 62 r.c
  len : r.c.length ≤ 300
  zn : Sz 700 n
  zb : Sz 700 (errS r t)
  p1 : 0 < r.sl
  zo : OSz 700 r.ov
  s0 : ∀ s, os = some s → SSz 700 s
  s2 : ∀ p q, os = some (some p, some q) → Sz 700 (knw p q n (errS r t)).1 ∧ Sz 700 (knw p q n (errS r t)).2 ∧ Sz 700 (mid (knw p q n (errS r t))) ∧ Sz 700 (haf (knw p q n (errS r t)))
def spSteer (K : PySem.W.Frag) (C CT : Addr) : Sp := fun vs H Q E => ∃ (o : Addr) (y xp : V) (r : Sr) (t n : Rat) (os : Option Vs.Spn), vs = [.ref o, y, xp] ∧ SgA K C o H r ∧ Rq K H y t ∧ oSp K H xp os ∧ Sz 700 t ∧ Sz 700 r.la ∧ Sz 700 r.bd ∧ Sz 700 r.hf ∧ Sz 60 r.sl ∧ Sz 60 r.dr ∧
  (r.la ≤ t → StOk r t n os ∧ ∀ H', Fr o H H' → SgA K C o H' (strS r t n os) → Q .non H') ∧ (t < r.la → eV E CT H y)
theorem pc1 {H : Hp} {t D : Addr} {v1 v2 v3 : V} {a b c : Rat} (ht : H t = none) (hD : upd H t (.tup [v1, v2, v3]) D = none) (h1 : Rq K H v1 a) (h2 : Rq K H v2 b) (h3 : Rq K H v3 c) :
    Same H (upd (upd H t (.tup [v1, v2, v3])) D (.lst [.ref t])) ∧ Ct K (upd (upd H t (.tup [v1, v2, v3])) D (.lst [.ref t])) D [.ref t] [⟨a, b, c⟩] := by
  have s1 := same_new ht (.tup [v1, v2, v3])
  have s2 := same_new hD (.lst [.ref t])
  exact ⟨s1.trans s2, ctOne upd_same ((pqNew ht h1 h2 h3).same s2)⟩
theorem cz_one {t n : Rat} (h : Sz 700 t) (g : Sz 700 n) : Cz 2162 2162 62 [(⟨t, n, 1⟩ : Pc)] := fun p hp => by
  rw [List.mem_singleton] at hp; subst hp
  exact ⟨h.mono (by decide), g.mono (by decide), zo1.mono (by decide)⟩
theorem cz_plan {t n a l : Rat} (h : Sz 700 t) (g : Sz 700 n) (ha : Sz 700 a) (hl : Sz 60 l) (p1 : 0 < l) : Cz 2162 2162 62 (plan t n a l) := fun p hp => by
  have y1 : Sz 1401 (ab (a - n)) := Vk.Sz.ab (ha.sub g)
  have y2 : Sz 1461 (ab (a - n) / l) := y1.div hl p1
  have r1 : Sz 62 (1 + l) := (zo1.add hl).mono (by decide)
  have r2 : Sz 62 (1 - l) := (zo1.sub hl).mono (by decide)
  unfold plan at hp
  split at hp
  · rw [List.mem_singleton] at hp; subst hp
    exact ⟨h.mono (by decide), g.mono (by decide), zo1.mono (by decide)⟩
  · rcases List.mem_cons.mp hp with rfl | hp
    · refine ⟨h.mono (by decide), g.mono (by decide), ?_⟩
      dsimp only
      split
      · exact r1
      · exact r2
    · rw [List.mem_singleton] at hp; subst hp
      exact ⟨(h.add y2).mono (by decide), (ha.add y2).mono (by decide), zo1.mono (by decide)⟩
theorem plan_len (t n a l : Rat) : 1 ≤ (plan t n a l).length ∧ (plan t n a l).length ≤ 400 := by
  unfold plan
  split <;> simp
abbrev s_Steering_steer : Stmt := inClass (top 66) 1
abbrev N_Steering_steer : List Str := ["self", "raw", "span", "bound", "shown", "known", "aim", "half"]
theorem sc_Steering_steer : FnScope N_Steering_steer ["self", "raw", "span"] (defScope s_Steering_steer) := ⟨rfl, rfl, rfl, by decide +kernel, rfl, by decide +kernel, by decide +kernel⟩
abbrev ps_Steering_steer : List Str := ["self", "raw", "span"]
theorem ok_steer (S : Stg K C) (ZONE : Cn K mg "ONE" 1 aONE) (ZHALF : Cn K mg "HALF" (1 / 2) aHALF) (F : FnM K C "steer" "Steering.steer" s_Steering_steer ps_Steering_steer f fd)
    (dSteering_error_at : MthY P w K mg base k C "error_at" ["self", "raw"] (spErrAt K C CT) f1 fd1) (dshown_at : DefY P w K mg base k "shown_at" ["course", "t"] (spShownAt K CB) f2 fd2) (dwidth_of : Def P w K mg base k "width_of" ["span"] (spWidth K) f3 fd3)
    (dSteering__plan : Mth P w K mg base k C "_plan" ["self", "raw", "pieces", "aim", "bound", "half"] (spPlan K C) f4 fd4) (dmeet : Def P w K mg base k "meet" ["a", "b"] (spMeet K) f5 fd5) (dsubtract : Def P w K mg base k "subtract" ["a", "b"] (spOp2 K (· - ·)) f6 fd6) (dadd : Def P w K mg base k "add" ["a", "b"] (spOp2 K (· + ·)) f7 fd7)
    (dmiddle_of : Def P w K mg base k "middle_of" ["span"] (spMiddle K) f8 fd8) (dmultiply : Def P w K mg base k "multiply" ["a", "b"] (spOp2 K (· * ·)) f9 fd9) (dSteering__jumps_to : Mth P w K mg base k C "_jumps_to" ["self", "aim", "shown"] (spJumps' K C) f10 fd10)
    (d_planned : Def P w K mg base k "_planned" ["raw", "shown", "aim", "slew"] (spPlanned K) f11 fd11) (dfar_end : Def P w K mg base k "far_end" ["span", "t"] (spFar K) f12 fd12) : MthY P w K mg base (k + 1) C "steer" ps_Steering_steer (spSteer K C CT) f fd := by
  refine ⟨okY F.F sc_Steering_steer (fun vs H Q E h => ?_) (fun cdv A outer s H vs Q E hr h => ?_), S.c, F.m, F.b⟩
  · obtain ⟨_, _, _, _, _, _, _, rfl, _⟩ := h
    rfl
  obtain ⟨o, y, xp, r, t, n, os, rfl, ⟨dx, x, ho, G⟩, hy, hos, zt, zla, zbd, zhf, zsl, zdr, z, e⟩ := h
  obtain ⟨l1, l2, l3, l4, l5, l6, l7, l8⟩ := sgf_at x
  obtain ⟨no1, no2, no3, no4, no5, no6⟩ := sgf_no x
  refine ⟨_, (pss_cons (ps_set (i := 3) sc_Steering_steer.nd rfl (Or.inl rfl) (pmethY dSteering_error_at hr (L2N.takes_of rfl rfl rfl rfl) (pv 0) (pa_cons (pv 1) pa_nil)))
      (pss_cons (ps_set (i := 4) sc_Steering_steer.nd rfl (Or.inl rfl) (pcallY dshown_at hr (L2N.takes_of rfl rfl rfl rfl) (pa_cons (pe_fld (pv 0) rfl) (pa_cons (pv 1) pa_nil))))
      (pss_cons (ps_if (PW.pt (pw_or (pt_cmpR op_isN (pv 2) pe_non (nomark _)) (pw_or1 (pt_cmpR op_isN (pcall dwidth_of hr (pa_cons (pv 2) pa_nil)) pe_non (nomark _)))))
        (pss_cons (ps_expr (pmeth dSteering__plan hr (pv 0) (pa_cons (pv 1) (pa_cons (pe_lst (pa_cons (pe_tup (pa_cons (pv 1) (pa_cons (pv 4) (pa_cons (pe_glob (v := .ref aONE) (u := .ref aONE) (by rfl) ZONE.m rfl) pa_nil)))) pa_nil)) (pa_cons pe_non (pa_cons (pv 3) (pa_cons (pv 3) pa_nil)))))))
        (pss_one ps_retN))
        pss_nil)
      (pss_cons (ps_set (i := 5) sc_Steering_steer.nd rfl (Or.inl rfl) (pcall dmeet hr (pa_cons (pv 2) (pa_cons (pe_tup (pa_cons (pcall dsubtract hr (pa_cons (pv 4) (pa_cons (pv 3) pa_nil))) (pa_cons (pcall dadd hr (pa_cons (pv 4) (pa_cons (pv 3) pa_nil))) pa_nil))) pa_nil))))
      (pss_cons (ps_if (pt_cmpR op_isN (pv 5) pe_non (nomark _))
        (pss_one (ps_set (i := 5) sc_Steering_steer.nd rfl (Or.inl rfl) (pv 2)))
        pss_nil)
      (pss_cons (ps_set (i := 6) sc_Steering_steer.nd rfl (Or.inl rfl) (pcall dmiddle_of hr (pa_cons (pv 5) pa_nil)))
      (pss_cons (ps_set (i := 7) sc_Steering_steer.nd rfl (Or.inl rfl) (pcall dmultiply hr (pa_cons (pcall dwidth_of hr (pa_cons (pv 5) pa_nil)) (pa_cons (pe_glob (v := .ref aHALF) (u := .ref aHALF) (by rfl) ZHALF.m rfl) pa_nil))))
      (pss_one (ps_if (pt_val (pmeth dSteering__jumps_to hr (pv 0) (pa_cons (pv 6) (pa_cons (pv 4) pa_nil))))
        (pss_one (ps_expr (pmeth dSteering__plan hr (pv 0) (pa_cons (pv 1) (pa_cons (pe_lst (pa_cons (pe_tup (pa_cons (pv 1) (pa_cons (pv 6) (pa_cons (pe_glob (v := .ref aONE) (u := .ref aONE) (by rfl) ZONE.m rfl) pa_nil)))) pa_nil)) (pa_cons (pv 6) (pa_cons (pv 7) (pa_cons (pv 7) pa_nil))))))))
        (pss_one (ps_expr (pmeth dSteering__plan hr (pv 0) (pa_cons (pv 1) (pa_cons (pcall d_planned hr (pa_cons (pv 1) (pa_cons (pv 4) (pa_cons (pv 6) (pa_cons (pe_fld (pv 0) rfl) pa_nil))))) (pa_cons (pv 6) (pa_cons (pcall dfar_end hr (pa_cons (pv 5) (pa_cons (pv 4) pa_nil))) (pa_cons (pv 7) pa_nil))))))))))))))))), ?_⟩
  refine ⟨_, rfl, o, dx, _, rfl, ho, no3, _, rfl, o, y, r, t, 700, rfl, ⟨dx, x, ho, G⟩, hy, zt, zla, zbd, zhf, zsl.mono (by decide), zdr.mono (by decide), by decide, fun c1 => ?_, fun c => e c⟩
  obtain ⟨st, z⟩ := z c1
  intro vb H1 e1 hb
  have ho1 := e1 _ _ ho
  have hy1 := hy.same e1
  refine ⟨_, rfl, o, C, dx, _, _, rfl, ho1, S.c, S.n4, l4, _, rfl, x.l, y, r.c, t, 2162, 2162, 62, 700, rfl, (G.same e1).cq, hy1, st.cz, zt, st.ok, by decide, by have := st.len; omega, fun q a H2 en e2 hn => ?_, fun en => absurd (st.now.symm.trans en) nofun⟩
  rw [st.now] at en
  cases en
  have e12 := e1.trans e2
  have ho2 := e12 _ _ ho
  have hy2 := hy.same e12
  have hb2 := hb.same e2
  have G2 : SgA K C o H2 r := ⟨dx, x, ho2, G.same e12⟩
  have czt : Cz 2162 2162 62 [(⟨t, n, 1⟩ : Pc)] := fun p hp => by
    rw [List.mem_singleton] at hp; subst hp
    exact ⟨zt.mono (by decide), st.zn.mono (by decide), zo1.mono (by decide)⟩
  have hO : Rq K H2 (.ref aONE) 1 := ZONE.q H2
  have no0 : ∀ (H3 : Hp), Same H2 H3 → strS r t n os = str0 r t n → ∀ (t0 D : Addr), H3 t0 = none → upd H3 t0 (.tup [y, .ref a, .ref aONE]) D = none → ∀ Q' : VK, (∀ H', Fr o H H' → SgA K C o H' (strS r t n os) → Q' .non H') →
      spPlan K C [.ref o, y, .ref D, .non, vb, vb] (upd (upd H3 t0 (.tup [y, .ref a, .ref aONE])) D (.lst [.ref t0])) Q' E0 := fun H3 e3 es t0 D ht hD Q' zz => by
    obtain ⟨sA, cA⟩ := pc1 (K := K) ht hD (hy2.same e3) (hn.same e3) (hO.same e3)
    have e4 := e3.trans sA
    refine ⟨o, D, _, y, .non, vb, vb, r, t, errS r t, errS r t, none, [⟨t, n, 1⟩], 2162, 2162, 62, 700, rfl, G2.same e4, hy2.same e4, cA, rfl, hb2.same e4, hb2.same e4, st.cz, czt, zt, by decide, by decide, by simp, by simp, by have := st.len; omega, fun H' ef g => zz H' ((Fr.of (e12.trans e4)).trans ef) ?_⟩
    rw [es]
    exact g
  cases os with
  | none =>
    cases (show xp = .non from hos)
    refine ⟨_, rfl, rfl, _, rfl, ifT rfl ?_⟩
    refine ⟨_, rfl, o, dx, _, rfl, ho2, no5, _, rfl, _, rfl, _, rfl, sm3, fun t0 ht => ⟨sm1, fun D hD => ?_⟩⟩
    exact ⟨_, rfl, _, rfl, no0 H2 (Same.refl _) rfl t0 D ht hD _ fun H' ef g => z H' ef g⟩
  | some s =>
    have hsp : Spq K H xp s := hos
    have hsp2 := hsp.same e12
    obtain ⟨b, u, v, rfl, hs, hu, hv⟩ := id hsp
    refine ⟨_, rfl, rfl, _, rfl, ifF (dF nofun) ⟨_, rfl, _, s, 700, rfl, hsp2, st.s0 s rfl, by decide, fun vw H3 e3 hw => ?_⟩⟩
    have ho3 := e3 _ _ ho2
    have hw0 : widO s = none → strS r t n (some s) = str0 r t n ∧ vw = .non := fun h => by
      rw [h] at hw
      refine ⟨?_, hw⟩
      obtain ⟨p, q⟩ := s
      cases p with
      | none => rfl
      | some p => cases q with
        | none => rfl
        | some q => cases h
    by_cases hn0 : widO s = none
    · obtain ⟨es, rfl⟩ := hw0 hn0
      refine ⟨rfl, _, rfl, ifT rfl ?_⟩
      refine ⟨_, rfl, o, dx, _, rfl, ho3, no5, _, rfl, _, rfl, _, rfl, sm3, fun t0 ht => ⟨sm1, fun D hD => ?_⟩⟩
      exact ⟨_, rfl, _, rfl, no0 H3 e3 es t0 D ht hD _ fun H' ef g => z H' ef g⟩
    obtain ⟨p, q, rfl⟩ : ∃ p q, s = (some p, some q) := by
      obtain ⟨p, q⟩ := s
      cases p with
      | none => exact absurd rfl hn0
      | some p => cases q with
        | none => exact absurd rfl hn0
        | some q => exact ⟨p, q, rfl⟩
    have hw : Rq K H3 vw (q - p) := hw
    obtain ⟨bw, rfl, _⟩ := id hw
    refine ⟨rfl, _, rfl, ifF (dF nofun) ?_⟩
    have zp : Sz 700 p := (st.s0 _ rfl).1 p rfl
    have zq : Sz 700 q := (st.s0 _ rfl).2 q rfl
    obtain ⟨zk1, zk2, zk3, zk4⟩ := st.s2 p q rfl
    have hn3 := hn.same e3
    have hb3 := hb2.same e3
    have hsp3 := hsp2.same e3
    refine ⟨_, rfl, _, rfl, _, rfl, _, _, n, errS r t, 700, 700, rfl, hn3, hb3, st.zn, st.zb, by decide, fun v1 H4 e4 h4 => ?_⟩
    refine ⟨_, rfl, _, rfl, _, _, n, errS r t, 700, 700, rfl, hn3.same e4, hb3.same e4, st.zn, st.zb, by decide, fun v2 H5 e5 h5 => ⟨sz2, fun t0 ht => ?_⟩⟩
    have sT := same_new ht (.tup [v1, v2])
    have e5' := e5.trans sT
    have hm : Spq K (upd H5 t0 (.tup [v1, v2])) (.ref t0) (some (n - errS r t), some (n + errS r t)) := ⟨t0, v1, v2, rfl, SqT.of upd_same, h4.same e5', h5.same sT⟩
    have e35 := (e3.trans e4).trans e5'
    have hsp5 := hsp2.same e35
    refine ⟨_, _, (some p, some q), (some (n - errS r t), some (n + errS r t)), 1401, rfl, hsp5, hm, ⟨fun q h => by cases h; exact zp.mono (by decide), fun q h => by cases h; exact zq.mono (by decide)⟩, ⟨fun q h => by cases h; exact st.zn.sub st.zb, fun q h => by cases h; exact st.zn.add st.zb⟩, by decide, fun vk H7 e7' hk => ?_⟩
    have e7 := e35.trans e7'
    have hsp7 := hsp2.same e7
    rw [meet_knw] at hk
    clear hm hsp5 hn3 hb3 hsp3 hw h4 h5
    by_cases cr : kHi q n (errS r t) < kLo p n (errS r t)
    · rw [if_pos cr] at hk
      cases (show vk = .non from hk)
      refine ⟨_, rfl, rfl, _, rfl, ifT rfl ⟨_, rfl, ?_⟩⟩
      obtain ⟨u1, u2, ek⟩ : ∃ u1 u2, knw p q n (errS r t) = (u1, u2) := ⟨_, _, rfl⟩
      have eu : (p, q) = (u1, u2) := by rw [← ek]; unfold knw; rw [if_pos cr]
      have hK : Spq K H7 (.ref b) (some u1, some u2) := by cases eu; exact hsp7
      rw [ek] at zk1 zk2 zk3 zk4
      refine ⟨_, rfl, _, u1, u2, 700, rfl, hK, zk1, zk2, by decide, fun v3 H8 e8 h8 => ?_⟩
      refine ⟨_, rfl, _, (some u1, some u2), 700, rfl, hK.same e8, ⟨fun q h => by cases h; exact zk1, fun q h => by cases h; exact zk2⟩, by decide, fun v4 H9 e9 h9 => ?_⟩
      refine ⟨_, _, u2 - u1, 1 / 2, 1401, 2, rfl, h9, ZHALF.q _, zk2.sub zk1, Vk.zhf, by decide, fun v5 H10 e10 h10 => ?_⟩
      have eX := (e8.trans e9).trans e10
      have eY := e7.trans eX
      have G10 := G2.same eY
      have hn10 := hn.same eY
      have hy10 := hy2.same eY
      have ha10 := h8.same (e9.trans e10)
      have hK10 := hK.same eX
      have ho10 := eY _ _ ho2
      refine ⟨_, rfl, o, dx, _, rfl, ho10, no6, _, rfl, _, rfl, o, _, _, r, (u1 + u2) * (1 / 2), n, 700, rfl, G10, ha10, hn10, zk3, st.zn, st.zo, by decide, fun H11 e11 => ?_⟩
      have eZ := eY.trans e11
      have G11 := G10.same e11
      have hn11 := hn10.same e11
      have hy11 := hy10.same e11
      have ha11 := ha10.same e11
      have hK11 := hK10.same e11
      have hh11 := Rq.same e11 h10
      have ho11 := e11 _ _ ho10
      clear G10 hn10 hy10 ha10 hK10 h10 ho10 hK h9 h8
      have z' : ∀ H', Fr o H H' → SgA K C o H' (str2 r t n p q) → Q .non H' := z
      unfold str2 at z'
      rw [ek] at z'
      cases ej : jmpS r ((u1 + u2) * (1 / 2)) n with
      | true =>
        rw [show mid (u1, u2) = (u1 + u2) * (1 / 2) from rfl, show haf (u1, u2) = (u2 - u1) * (1 / 2) from rfl, if_pos ej] at z'
        refine ⟨_, rfl, ifT rfl ?_⟩
        refine ⟨_, rfl, o, dx, _, rfl, ho11, no5, _, rfl, _, rfl, _, rfl, sm3, fun t1 ht1 => ⟨sm1, fun D hD => ?_⟩⟩
        obtain ⟨sA, cA⟩ := pc1 (K := K) ht1 hD hy11 ha11 (ZONE.q H11)
        refine ⟨_, rfl, _, rfl, _, rfl, o, D, _, _, _, _, _, r, t, (u2 - u1) * (1 / 2), (u2 - u1) * (1 / 2), some ((u1 + u2) * (1 / 2)), [⟨t, (u1 + u2) * (1 / 2), 1⟩], 2162, 2162, 62, 700, rfl, G11.same sA, hy11.same sA, cA, ha11.same sA, hh11.same sA, hh11.same sA, st.cz, cz_one zt zk3, zt, by decide, by decide, by simp, by simp, by have := st.len; omega, fun H' ef g => z' H' ((Fr.of ((e12.trans eZ).trans sA)).trans ef) g⟩
      | false =>
        rw [show mid (u1, u2) = (u1 + u2) * (1 / 2) from rfl, show haf (u1, u2) = (u2 - u1) * (1 / 2) from rfl, if_neg (by rw [ej]; decide)] at z'
        refine ⟨_, rfl, ifF rfl ?_⟩
        obtain ⟨dx', x', hq1, hq2⟩ := id G11
        refine ⟨_, rfl, o, dx, _, rfl, ho11, no5, _, rfl, _, rfl, _, rfl, _, rfl, _, rfl, o, C, dx, _, _, rfl, ho11, S.c, S.n1, l1, ?_⟩
        have hsl : Rq K H11 x.vs r.sl := G.sl.same (e12.trans eZ)
        refine ⟨_, _, _, _, t, n, (u1 + u2) * (1 / 2), r.sl, 700, rfl, hy11, hn11, ha11, hsl, zt, st.zn, zk3, zsl.mono (by decide), by decide, st.p1, fun D us HD eD hD cD => ?_⟩
        refine ⟨_, rfl, _, rfl, _, rfl, _, _, u1, u2, n, 700, rfl, hK11.same eD, hn11.same eD, zk1, zk2, st.zn, by decide, fun v6 HE eE hE => ?_⟩
        have eF := eD.trans eE
        have pl := plan_len t n ((u1 + u2) * (1 / 2)) r.sl
        refine ⟨_, rfl, o, D, _, _, _, _, _, r, t, farE u1 u2 n, (u2 - u1) * (1 / 2), some ((u1 + u2) * (1 / 2)), plan t n ((u1 + u2) * (1 / 2)) r.sl, 2162, 2162, 62, 700, rfl, G11.same eF, hy11.same eF, cD.same eE, ha11.same eF, hE, hh11.same eF, st.cz, cz_plan zt st.zn zk3 zsl st.p1, zt, by decide, by decide, pl.1, pl.2, by have := st.len; omega, fun H' ef g => z' H' ((Fr.of ((e12.trans eZ).trans eF)).trans ef) g⟩
    · rw [if_neg cr] at hk
      have hk : Spq K H7 vk (some (kLo p n (errS r t)), some (kHi q n (errS r t))) := hk
      obtain ⟨bk, _, _, rfl, _⟩ := id hk
      refine ⟨_, rfl, rfl, _, rfl, ifF (dF nofun) ?_⟩
      obtain ⟨u1, u2, ek⟩ : ∃ u1 u2, knw p q n (errS r t) = (u1, u2) := ⟨_, _, rfl⟩
      have eu : (kLo p n (errS r t), kHi q n (errS r t)) = (u1, u2) := by rw [← ek]; unfold knw; rw [if_neg cr]
      have hK : Spq K H7 (.ref bk) (some u1, some u2) := by cases eu; exact hk
      rw [ek] at zk1 zk2 zk3 zk4
      refine ⟨_, rfl, _, u1, u2, 700, rfl, hK, zk1, zk2, by decide, fun v3 H8 e8 h8 => ?_⟩
      refine ⟨_, rfl, _, (some u1, some u2), 700, rfl, hK.same e8, ⟨fun q h => by cases h; exact zk1, fun q h => by cases h; exact zk2⟩, by decide, fun v4 H9 e9 h9 => ?_⟩
      refine ⟨_, _, u2 - u1, 1 / 2, 1401, 2, rfl, h9, ZHALF.q _, zk2.sub zk1, Vk.zhf, by decide, fun v5 H10 e10 h10 => ?_⟩
      have eX := (e8.trans e9).trans e10
      have eY := e7.trans eX
      have G10 := G2.same eY
      have hn10 := hn.same eY
      have hy10 := hy2.same eY
      have ha10 := h8.same (e9.trans e10)
      have hK10 := hK.same eX
      have ho10 := eY _ _ ho2
      refine ⟨_, rfl, o, dx, _, rfl, ho10, no6, _, rfl, _, rfl, o, _, _, r, (u1 + u2) * (1 / 2), n, 700, rfl, G10, ha10, hn10, zk3, st.zn, st.zo, by decide, fun H11 e11 => ?_⟩
      have eZ := eY.trans e11
      have G11 := G10.same e11
      have hn11 := hn10.same e11
      have hy11 := hy10.same e11
      have ha11 := ha10.same e11
      have hK11 := hK10.same e11
      have hh11 := Rq.same e11 h10
      have ho11 := e11 _ _ ho10
      clear G10 hn10 hy10 ha10 hK10 h10 ho10 hK h9 h8
      have z' : ∀ H', Fr o H H' → SgA K C o H' (str2 r t n p q) → Q .non H' := z
      unfold str2 at z'
      rw [ek] at z'
      cases ej : jmpS r ((u1 + u2) * (1 / 2)) n with
      | true =>
        rw [show mid (u1, u2) = (u1 + u2) * (1 / 2) from rfl, show haf (u1, u2) = (u2 - u1) * (1 / 2) from rfl, if_pos ej] at z'
        refine ⟨_, rfl, ifT rfl ?_⟩
        refine ⟨_, rfl, o, dx, _, rfl, ho11, no5, _, rfl, _, rfl, _, rfl, sm3, fun t1 ht1 => ⟨sm1, fun D hD => ?_⟩⟩
        obtain ⟨sA, cA⟩ := pc1 (K := K) ht1 hD hy11 ha11 (ZONE.q H11)
        refine ⟨_, rfl, _, rfl, _, rfl, o, D, _, _, _, _, _, r, t, (u2 - u1) * (1 / 2), (u2 - u1) * (1 / 2), some ((u1 + u2) * (1 / 2)), [⟨t, (u1 + u2) * (1 / 2), 1⟩], 2162, 2162, 62, 700, rfl, G11.same sA, hy11.same sA, cA, ha11.same sA, hh11.same sA, hh11.same sA, st.cz, cz_one zt zk3, zt, by decide, by decide, by simp, by simp, by have := st.len; omega, fun H' ef g => z' H' ((Fr.of ((e12.trans eZ).trans sA)).trans ef) g⟩
      | false =>
        rw [show mid (u1, u2) = (u1 + u2) * (1 / 2) from rfl, show haf (u1, u2) = (u2 - u1) * (1 / 2) from rfl, if_neg (by rw [ej]; decide)] at z'
        refine ⟨_, rfl, ifF rfl ?_⟩
        obtain ⟨dx', x', hq1, hq2⟩ := id G11
        refine ⟨_, rfl, o, dx, _, rfl, ho11, no5, _, rfl, _, rfl, _, rfl, _, rfl, _, rfl, o, C, dx, _, _, rfl, ho11, S.c, S.n1, l1, ?_⟩
        have hsl : Rq K H11 x.vs r.sl := G.sl.same (e12.trans eZ)
        refine ⟨_, _, _, _, t, n, (u1 + u2) * (1 / 2), r.sl, 700, rfl, hy11, hn11, ha11, hsl, zt, st.zn, zk3, zsl.mono (by decide), by decide, st.p1, fun D us HD eD hD cD => ?_⟩
        refine ⟨_, rfl, _, rfl, _, rfl, _, _, u1, u2, n, 700, rfl, hK11.same eD, hn11.same eD, zk1, zk2, st.zn, by decide, fun v6 HE eE hE => ?_⟩
        have eF := eD.trans eE
        have pl := plan_len t n ((u1 + u2) * (1 / 2)) r.sl
        refine ⟨_, rfl, o, D, _, _, _, _, _, r, t, farE u1 u2 n, (u2 - u1) * (1 / 2), some ((u1 + u2) * (1 / 2)), plan t n ((u1 + u2) * (1 / 2)) r.sl, 2162, 2162, 62, 700, rfl, G11.same eF, hy11.same eF, cD.same eE, ha11.same eF, hE, hh11.same eF, st.cz, cz_plan zt st.zn zk3 zsl st.p1, zt, by decide, by decide, pl.1, pl.2, by have := st.len; omega, fun H' ef g => z' H' ((Fr.of ((e12.trans eZ).trans eF)).trans ef) g⟩
end Vk


set_option hygiene false in
local macro_rules | `(tactic| walk_at "vk_raw") => `(tactic| ((focus ((repeat first | with_reducible assumption | with_reducible exact upd_same | (with_reducible refine' (upd_ne ?_).trans ?_; with_reducible assumption) | (with_reducible apply sameAt; first | with_reducible assumption | with_reducible exact same_new (by with_reducible assumption) _) | (with_reducible apply Vk.frAt; with_reducible assumption; with_reducible assumption)); done))))
set_option hygiene false in
local macro_rules | `(tactic| walk_at "vk_same") => `(tactic| ((focus ((repeat first | with_reducible assumption | with_reducible exact Same.refl _ | (refine' Same.trans ?_ (same_new (by with_reducible assumption) _)) | (with_reducible refine' same_upd ?_ (by with_reducible assumption) _) | (refine' Same.trans ?_ (by with_reducible assumption))); done))))
set_option hygiene false in
local macro_rules | `(tactic| walk_at "vk_up") => `(tactic| ((first | with_reducible assumption | with_reducible exact same_new (by with_reducible assumption) _)))
set_option hygiene false in
local macro_rules | `(tactic| walk_at "vk_upd") => `(tactic| ((with_reducible refine' same_upd ?_ (by with_reducible assumption) _; (walk_at "vk_same"))))
set_option hygiene false in
local macro_rules | `(tactic| walk_at "vk_sto") => `(tactic| ((focus ((repeat first | with_reducible assumption | (with_reducible apply Sto.same; (walk_at "vk_up"))); done))))
set_option hygiene false in
local macro_rules | `(tactic| walk_at "vk_some") => `(tactic| ((first | with_reducible exact ⟨_, by (walk_at "vk_raw")⟩ | with_reducible exact Sto.some (by (walk_at "vk_sto")))))
set_option hygiene false in
local macro_rules | `(tactic| walk_at "vk_cl") => `(tactic| ((focus ((repeat first | with_reducible assumption | with_reducible exact SqT.of upd_same | with_reducible exact SqL.of upd_same | with_reducible exact optV_rq (by with_reducible assumption) (by with_reducible assumption) | with_reducible exact Ct.cq (by with_reducible assumption) | with_reducible exact rq_ab | (with_reducible apply Vk.Ct.copyq; with_reducible assumption) | (with_reducible apply Vk.Ct.copy; with_reducible assumption) | with_reducible exact rl11000 | with_reducible exact rl91 | with_reducible exact rl32 | with_reducible exact rl301 | with_reducible exact rl72 | with_reducible exact rl160 | with_reducible exact rl13 | with_reducible exact rl73 | with_reducible exact rl15 | with_reducible exact rl11 | with_reducible exact rl12 | with_reducible exact rl01 | with_reducible exact rl1m | with_reducible exact rlnm | with_reducible exact rln1 | with_reducible exact rlh1 | with_reducible exact rl910 | with_reducible exact rl1110 | with_reducible exact rl21 | with_reducible exact rln12 | with_reducible exact rln31 | with_reducible exact rlneg | (with_reducible apply Rq.same; (walk_at "vk_up")) | (with_reducible apply Rq.fr; (first | with_reducible exact Fr.upd _ | with_reducible assumption); (walk_at "vk_some")) | (with_reducible apply Rq.same; (walk_at "vk_upd")) | (with_reducible apply L2.Same.sqt; (walk_at "vk_up")) | (with_reducible apply sqt_fr; (first | with_reducible exact Fr.upd _ | with_reducible assumption); (walk_at "vk_some")) | (with_reducible apply L2.Same.sqt; (walk_at "vk_upd")) | (with_reducible apply L2.Same.seq; (walk_at "vk_up")) | (with_reducible apply seq_fr; (first | with_reducible exact Fr.upd _ | with_reducible assumption); with_reducible assumption) | (with_reducible apply L2.Same.seq; (walk_at "vk_upd")) | (with_reducible apply Pq.same; (walk_at "vk_up")) | (with_reducible apply Pq.fr; (first | with_reducible exact Fr.upd _ | with_reducible assumption); (walk_at "vk_some")) | (with_reducible apply Pq.same; (walk_at "vk_upd")) | (with_reducible apply Cq.same; (walk_at "vk_up")) | (with_reducible apply Cq.fr; (first | with_reducible exact Fr.upd _ | with_reducible assumption); (walk_at "vk_some"); with_reducible assumption) | (with_reducible apply Cq.same; (walk_at "vk_upd")) | (with_reducible apply Ct.same; (walk_at "vk_up")) | (with_reducible apply Ct.fr; (first | with_reducible exact Fr.upd _ | with_reducible assumption); (walk_at "vk_some"); with_reducible assumption) | (with_reducible apply Ct.same; (walk_at "vk_upd")) | (with_reducible apply optV.same; (walk_at "vk_up")) | (with_reducible apply optV.same; (walk_at "vk_upd")) | (with_reducible apply SgA.sm; (walk_at "vk_up")) | (with_reducible apply SgA.sm; (walk_at "vk_upd")) | (with_reducible apply Agv.sm; (walk_at "vk_up")) | (with_reducible apply Agv.frm; (first | with_reducible exact Fr.upd _ | with_reducible assumption); (walk_at "vk_some")) | (with_reducible apply Agv.sm; (walk_at "vk_upd")) | (with_reducible apply Lsv.sm; (walk_at "vk_up")) | (with_reducible apply Lsv.frm; (first | with_reducible exact Fr.upd _ | with_reducible assumption); (walk_at "vk_some")) | (with_reducible apply Lsv.sm; (walk_at "vk_upd")) | (with_reducible apply oSp.same; (walk_at "vk_up")) | (with_reducible apply fr_osp; (first | with_reducible exact Fr.upd _ | with_reducible assumption); (walk_at "vk_some")) | (with_reducible apply oSp.same; (walk_at "vk_upd")) | (with_reducible apply TrnV.sm; (walk_at "vk_up")) | (with_reducible apply TrnV.frm; (first | with_reducible exact Fr.upd _ | with_reducible assumption); (walk_at "vk_some")) | (with_reducible apply TrnV.sm; (walk_at "vk_upd"))); done))))
set_option hygiene false in
local macro_rules | `(tactic| walk_at "vk_sql") => `(tactic| ((first | (walk_at "vk_cl") | (focus (with_reducible apply L2.SqL.of; (walk_at "vk_raw"))))))
set_option hygiene false in
local macro_rules | `(tactic| walk_at "vk_atom") => `(tactic| ((first | with_reducible show Rq _ _ _ _ | with_reducible show SqT _ _ _ _ | with_reducible show SqL _ _ _ _ | with_reducible show Pq _ _ _ _ | with_reducible show Cq _ _ _ _ | with_reducible show Ct _ _ _ _ _ | with_reducible show Cz _ _ _ _ | with_reducible show Cok _ | with_reducible show Sz _ _ | with_reducible show Sto _ _ _ | with_reducible show Fr _ _ _ | with_reducible show Same _ _ | with_reducible show tyV _ _ _ _ | with_reducible show All2 _ _ _ | with_reducible show Gw _ _ _ _ _ _ | with_reducible show L2.Dp _ _ _ _ | with_reducible show L2.DpAll _ _ _ _ | with_reducible show Tree _ _ | with_reducible show optV _ _ _ _ | with_reducible show SgA _ _ _ _ _ | with_reducible show Agv _ _ _ _ _ _ _ _ _ | with_reducible show Lsv _ _ _ _ | with_reducible show oSp _ _ _ _ | with_reducible show TrnV _ _ _ _)))
set_option hygiene false in
local macro_rules | `(tactic| walk_at "vk_formsa") => `(tactic| ((first | with_reducible apply And.intro | ((fail_if_success first | with_reducible show ∃ _ : Nat → Nat → L2.St → Hp → Prop, _ | with_reducible show ∃ _ : Nat → Nat → Hp → Prop, _ | with_reducible show ∃ _ : Nat → L2.St → Hp → Prop, _); with_reducible apply Exists.intro) | (with_reducible refine ifT rfl ?_) | (with_reducible refine ifF rfl ?_) | (with_reducible refine ifT (dT (by with_reducible assumption)) ?_) | (with_reducible refine ifF (dF (by with_reducible assumption)) ?_) | (with_reducible refine ifD (fun gc => ?_) (fun gc => ?_)) | (with_reducible refine ifNF (by first | with_reducible assumption | with_reducible exact rfl) ?_) | (with_reducible refine ifNT (by with_reducible assumption) ?_) | (with_reducible refine ifN (fun gc => ?_) (fun gc => ?_)) | (with_reducible refine ifNF (by first | with_reducible assumption | with_reducible exact rfl) ?_) | ((first | rw [eqv_odp] | rw [eqv_odq]); first | (with_reducible refine ifT (dT (by with_reducible assumption)) ?_) | (with_reducible refine ifNF (by first | with_reducible assumption | with_reducible exact rfl) ?_) | (with_reducible refine ifD (fun gc => ?_) (fun gc => ?_)) | (with_reducible refine ifN (fun gc => ?_) (fun gc => ?_))) | (rw [eqv_dq]; first | (with_reducible refine ifT (dT (by with_reducible assumption)) ?_) | (with_reducible refine ifNF (by first | with_reducible assumption | with_reducible exact rfl) ?_) | (with_reducible refine ifD (fun gc => ?_) (fun gc => ?_)) | (with_reducible refine ifN (fun gc => ?_) (fun gc => ?_))) | (with_reducible refine ifT (by with_reducible assumption) ?_) | (with_reducible refine ifF (by with_reducible assumption) ?_) | (with_reducible refine ifT (by decide +kernel) ?_) | (with_reducible refine ifF (by decide +kernel) ?_) | (with_reducible refine Or.inl (Exists.intro _ (And.intro (rfl : [V.int _] = [V.int _]) ?_))) | ((with_reducible show ∀ p : Addr, _ = none → _); intro p np) | ((with_reducible show ∀ r : Int, ∀ H' : Hp, 0 ≤ r → _ → Sto _ _ H' → _ → _); intro r H' r0 r1 S e) | ((with_reducible show ∀ v : V, ∀ H' : Hp, Qd _ _ _ H' v → _ → _ → _); refine aQd (K := K) fun a q H' h h' zq okq S e => ?_) | ((with_reducible show ∀ H' : Hp, Same _ H' → _); intro H' e) | ((with_reducible show ∀ v : V, ∀ H' : Hp, Same _ H' → optV _ _ _ _ → _); intro v H' e h) | ((with_reducible show ∀ _ : V, ∀ _ : Hp, _ → _); refine aRq (K := K) fun a H' e h h' => ?_) | ((with_reducible show ∀ v : V, Rq _ _ v _ → _); refine aRq0 (K := K) fun a h h' => ?_))))
set_option hygiene false in
local macro_rules | `(tactic| walk_at "vk_forms") => `(tactic| ((first | with_reducible apply And.intro | ((fail_if_success first | with_reducible show ∃ l : Addr, ∃ xs : List V, ∃ y : V, _ = V.ref l ∧ _ = [y] ∧ _ = some (HO.lst xs) ∧ _ | with_reducible show ∃ _ : Nat → Nat → L2.St → Hp → Prop, _ | with_reducible show ∃ _ : Nat → Nat → Hp → Prop, _ | with_reducible show ∃ _ : Nat → L2.St → Hp → Prop, _); with_reducible apply Exists.intro) | (with_reducible refine ifT rfl ?_) | (with_reducible refine ifF rfl ?_) | (with_reducible refine ifT (dT (by with_reducible assumption)) ?_) | (with_reducible refine ifF (dF (by with_reducible assumption)) ?_) | (with_reducible refine ifD (fun gc => ?_) (fun gc => ?_)) | (with_reducible refine ifNF (by first | with_reducible assumption | with_reducible exact rfl) ?_) | (with_reducible refine ifNT (by with_reducible assumption) ?_) | (with_reducible refine ifN (fun gc => ?_) (fun gc => ?_)) | (with_reducible refine ifNF (by first | with_reducible assumption | with_reducible exact rfl) ?_) | ((first | rw [eqv_odp] | rw [eqv_odq]); first | (with_reducible refine ifT (dT (by with_reducible assumption)) ?_) | (with_reducible refine ifNF (by first | with_reducible assumption | with_reducible exact rfl) ?_) | (with_reducible refine ifD (fun gc => ?_) (fun gc => ?_)) | (with_reducible refine ifN (fun gc => ?_) (fun gc => ?_))) | (rw [eqv_dq]; first | (with_reducible refine ifT (dT (by with_reducible assumption)) ?_) | (with_reducible refine ifNF (by first | with_reducible assumption | with_reducible exact rfl) ?_) | (with_reducible refine ifD (fun gc => ?_) (fun gc => ?_)) | (with_reducible refine ifN (fun gc => ?_) (fun gc => ?_))) | (with_reducible refine ifT (by with_reducible assumption) ?_) | (with_reducible refine ifF (by with_reducible assumption) ?_) | (with_reducible refine ifT (by decide +kernel) ?_) | (with_reducible refine ifF (by decide +kernel) ?_) | (with_reducible refine Or.inl (Exists.intro _ (And.intro (rfl : [V.int _] = [V.int _]) ?_))) | ((with_reducible show ∀ p : Addr, _ = none → _); intro p np) | ((with_reducible show ∀ r : Int, ∀ H' : Hp, 0 ≤ r → _ → Sto _ _ H' → _ → _); intro r H' r0 r1 S e) | ((with_reducible show ∀ v : V, ∀ H' : Hp, Qd _ _ _ H' v → _ → _ → _); refine aQd (K := K) fun a q H' h h' zq okq S e => ?_) | ((with_reducible show ∀ H' : Hp, Same _ H' → _); intro H' e) | ((with_reducible show ∀ v : V, ∀ H' : Hp, Same _ H' → optV _ _ _ _ → _); intro v H' e h) | ((with_reducible show ∀ _ : V, ∀ _ : Hp, _ → _); refine aRq (K := K) fun a H' e h h' => ?_) | ((with_reducible show ∀ v : V, Rq _ _ v _ → _); refine aRq0 (K := K) fun a h h' => ?_))))
set_option hygiene false in
local macro_rules | `(tactic| walk_at "vk_va") => `(tactic| (((try dsimp only [cxOf_K, Cx.nox, Cx.wish]); repeat' (show (_ : Prop); first | with_reducible exact rfl | with_reducible assumption | (walk_at "vk_formsa") | ((with_reducible show ∀ d ∈ _, Tree _ d); first | exact treeAll_nil | refine treeAll_cons ?_ ?_) | (with_reducible exact ClsV.ty _) | ((with_reducible show TyX _ _ _ _); first | (apply sql_ty; (walk_at "vk_sql")) | (apply sqt_ty; (walk_at "vk_cl")) | exact .base (.int _)) | ((with_reducible show PySem.W.kitOne _ _ _ = some _); first | exact kit_ty (r := true) (by decide +kernel) | exact kit_ty (r := false) (by decide +kernel)) | ((with_reducible show SeqAt.shaped _ = true); first | with_reducible exact sh_dq _ | with_reducible exact sh_odp _ | decide +kernel) | ((with_reducible show _ = _); first | exact at0 rfl | exact at1 rfl | exact at2 rfl | exact rfl | (walk_at "vk_raw") | assumption) | ((with_reducible show (_ : Addr) ≠ _); (refine' Sto.ne (l := l) ?_ (by with_reducible assumption); (walk_at "vk_sto"))) | (with_reducible exact cdv2) | (with_reducible exact cdv4) | (with_reducible exact cdv8) | ((with_reducible show 0 < List.length _); first | omega | exact Nat.succ_pos _) | ((with_reducible show List.length _ < 2 ^ 32); first | omega | exact Nat.le_of_ble_eq_true rfl) | ((with_reducible show List.length _ ≤ sizeLine); first | exact Nat.zero_le _ | exact sz1 | exact sz2 | exact sz3 | exact sz4 | exact sm5 | exact sm6) | ((with_reducible show List.length _ < sizeLine); exact le1000 (by omega)) | ((with_reducible show _ ≤ _); omega) | ((with_reducible show (_ : Nat) < _); omega) | ((with_reducible show (_ : Int) < _); omega) | ((walk_at "vk_atom"); first | (walk_at "vk_cl") | (focus (with_reducible apply L2.SqL.of; (walk_at "vk_raw"))) | ((with_reducible show tyV _ _ _ _); apply Or.inl; apply And.intro rfl; apply Exists.intro; (walk_at "vk_sql")) | with_reducible exact L2.Dp.str _ | with_reducible exact L2.Dp.int _ | with_reducible exact L2.Dp.non | with_reducible exact L2.Dp.bl _ | (with_reducible apply Rq.dp; (walk_at "vk_cl")) | (with_reducible apply optV.dp; (walk_at "vk_cl")) | (with_reducible apply Vk.Ct.dd; (walk_at "vk_cl")) | (with_reducible apply L2.Dp.tup; (walk_at "vk_cl")) | (with_reducible apply L2.Dp.lst; (walk_at "vk_sql")) | exact tree_dq _ _ | exact Tree.str (by decide +kernel) | exact Tree.int _ | exact Tree.non | exact Tree.bl _ | (refine Tree.tup (Nat.le_of_ble_eq_true rfl) ?_) | with_reducible apply L2.DpAll.cons | with_reducible exact L2.DpAll.nil | with_reducible exact zz1 | with_reducible exact zo1 | with_reducible exact zl12 | with_reducible exact zl1m | with_reducible exact zlnm | with_reducible exact zln1 | with_reducible exact zlh1 | (with_reducible show Sz _ _; refine Sz.mono (by with_reducible assumption) (Nat.le_of_ble_eq_true rfl)) | with_reducible apply Sz.add | with_reducible apply Sz.sub | with_reducible apply Sz.mul | with_reducible apply Sz.neg | ((with_reducible show Sto _ _ _); (focus ((repeat first | with_reducible assumption | (with_reducible apply Sto.same; (walk_at "vk_up"))); done))) | ((with_reducible show Fr _ _ _); (focus ((repeat first | with_reducible assumption | with_reducible exact Fr.refl _ _ | (refine' Fr.trans ?_ (Fr.of (same_new (by with_reducible assumption) _))) | (refine' Fr.trans ?_ (by with_reducible assumption)) | (refine' Fr.trans ?_ (Fr.of (by with_reducible assumption)))); done))) | ((with_reducible show Same _ _); (walk_at "vk_same")) | assumption) | ((with_reducible show L2.SqL _ _ _ _ ∨ L2.SqT _ _ _ _); first | (apply Or.inl; (walk_at "vk_sql")) | (apply Or.inr; (walk_at "vk_cl"))) | ((fail_if_success (walk_at "vk_atom")); (fail_if_success with_reducible show rAppend _ _ _ _); (conv => whnf); first | (walk_at "vk_formsa") | with_reducible exact rfl | with_reducible assumption | ((with_reducible show _ = _); exact rfl)) ))))
set_option hygiene false in
local macro_rules | `(tactic| walk_at "vk_vc") => `(tactic| (((try dsimp only [cxOf_K, Cx.nox, Cx.wish]); repeat' (show (_ : Prop); first | with_reducible exact rfl | with_reducible assumption | (walk_at "vk_forms") | ((with_reducible show ∀ d ∈ _, Tree _ d); first | exact treeAll_nil | refine treeAll_cons ?_ ?_) | (with_reducible exact ClsV.ty _) | ((with_reducible show TyX _ _ _ _); first | (apply sql_ty; (walk_at "vk_sql")) | (apply sqt_ty; (walk_at "vk_cl")) | exact .base (.int _)) | ((with_reducible show PySem.W.kitOne _ _ _ = some _); first | exact kit_ty (r := true) (by decide +kernel) | exact kit_ty (r := false) (by decide +kernel)) | ((with_reducible show SeqAt.shaped _ = true); first | with_reducible exact sh_dq _ | with_reducible exact sh_odp _ | decide +kernel) | ((with_reducible show _ = _); first | exact at0 rfl | exact at1 rfl | exact at2 rfl | exact rfl | (walk_at "vk_raw") | assumption) | ((with_reducible show (_ : Addr) ≠ _); (refine' Sto.ne (l := l) ?_ (by with_reducible assumption); (walk_at "vk_sto"))) | (with_reducible exact cdv2) | (with_reducible exact cdv4) | (with_reducible exact cdv8) | ((with_reducible show 0 < List.length _); first | omega | exact Nat.succ_pos _) | ((with_reducible show List.length _ < 2 ^ 32); first | omega | exact Nat.le_of_ble_eq_true rfl) | ((with_reducible show List.length _ ≤ sizeLine); first | exact Nat.zero_le _ | exact sz1 | exact sz2 | exact sz3 | exact sz4 | exact sm5 | exact sm6) | ((with_reducible show List.length _ < sizeLine); exact le1000 (by omega)) | ((with_reducible show _ ≤ _); omega) | ((with_reducible show (_ : Nat) < _); omega) | ((with_reducible show (_ : Int) < _); omega) | ((walk_at "vk_atom"); first | (walk_at "vk_cl") | (focus (with_reducible apply L2.SqL.of; (walk_at "vk_raw"))) | ((with_reducible show tyV _ _ _ _); apply Or.inl; apply And.intro rfl; apply Exists.intro; (walk_at "vk_sql")) | with_reducible exact L2.Dp.str _ | with_reducible exact L2.Dp.int _ | with_reducible exact L2.Dp.non | with_reducible exact L2.Dp.bl _ | (with_reducible apply Rq.dp; (walk_at "vk_cl")) | (with_reducible apply optV.dp; (walk_at "vk_cl")) | (with_reducible apply Vk.Ct.dd; (walk_at "vk_cl")) | (with_reducible apply L2.Dp.tup; (walk_at "vk_cl")) | (with_reducible apply L2.Dp.lst; (walk_at "vk_sql")) | exact tree_dq _ _ | exact Tree.str (by decide +kernel) | exact Tree.int _ | exact Tree.non | exact Tree.bl _ | (refine Tree.tup (Nat.le_of_ble_eq_true rfl) ?_) | with_reducible apply L2.DpAll.cons | with_reducible exact L2.DpAll.nil | with_reducible exact zz1 | with_reducible exact zo1 | with_reducible exact zl12 | with_reducible exact zl1m | with_reducible exact zlnm | with_reducible exact zln1 | with_reducible exact zlh1 | (with_reducible show Sz _ _; refine Sz.mono (by with_reducible assumption) (Nat.le_of_ble_eq_true rfl)) | with_reducible apply Sz.add | with_reducible apply Sz.sub | with_reducible apply Sz.mul | with_reducible apply Sz.neg | ((with_reducible show Sto _ _ _); (focus ((repeat first | with_reducible assumption | (with_reducible apply Sto.same; (walk_at "vk_up"))); done))) | ((with_reducible show Fr _ _ _); (focus ((repeat first | with_reducible assumption | with_reducible exact Fr.refl _ _ | (refine' Fr.trans ?_ (Fr.of (same_new (by with_reducible assumption) _))) | (refine' Fr.trans ?_ (by with_reducible assumption)) | (refine' Fr.trans ?_ (Fr.of (by with_reducible assumption)))); done))) | ((with_reducible show Same _ _); (walk_at "vk_same")) | assumption) | ((with_reducible show L2.SqL _ _ _ _ ∨ L2.SqT _ _ _ _); first | (apply Or.inl; (walk_at "vk_sql")) | (apply Or.inr; (walk_at "vk_cl"))) | ((fail_if_success (walk_at "vk_atom")); (fail_if_success with_reducible show rAppend _ _ _ _); (conv => whnf); first | (walk_at "vk_forms") | with_reducible exact rfl | with_reducible assumption | ((with_reducible show _ = _); exact rfl)) ))))
set_option hygiene false in
local macro_rules | `(tactic| walk_at "vk_fr") => `(tactic| ((focus ((repeat first | with_reducible assumption | with_reducible exact Fr.refl _ _ | (refine' Fr.trans ?_ (Fr.of (same_new (by with_reducible assumption) _))) | (refine' Fr.trans ?_ (by with_reducible assumption)) | (refine' Fr.trans ?_ (Fr.of (by with_reducible assumption)))); done))))
set_option maxHeartbeats 4000000
namespace Vk
open PySem L2 Vm Vl Vs
variable {l aZERO aONE aHALF C CB CR CT CV fB fR fT : Addr} {P : Program} {w : World} {K : PySem.W.Frag} {mg : Str → Option Value} {base : Heap} {k : Nat} {f f1 f2 f3 f4 f5 f6 f7 f8 f9 f10 f11 f12 : Addr} {fd fd1 fd2 fd3 fd4 fd5 fd6 fd7 fd8 fd9 fd10 fd11 fd12 : FuncData}
def SlOk2 (s d : Rat) : Prop := 0 < s ∧ s < 1 ∧ 0 ≤ d ∧ d < s
def spSl2 (K : PySem.W.Frag) (l : Addr) : Sp := fun vs H Q _ => ∃ (s : Addr), vs = [.ref s] ∧ Sto l s H ∧ ∀ (v : V) H', Sl K 24 SlOk2 H' v → Sto l s H' → Fr s H H' → Q v H'

theorem ok_slews2 (F : Fn K mg "_law_slews" s__law_slews ps__law_slews f fd) (d_law_take : Def P w K mg base k "_law_take" ["_law_store_here", "_law_many"] (spTake K l) f1 fd1) (d_law_pick : Def P w K mg base k "_law_pick" ["_law_store_here", "_law_things"] (spPick K l) f2 fd2) (d_law_frac : Def P w K mg base k "_law_frac" ["_law_n", "_law_d"] (spFrac K) f4 fd4) (d_law_times : Def P w K mg base k "_law_times" ["_law_a", "_law_b"] (spOp2 K (· * ·)) f3 fd3) :
    Def P w K mg base (k + 1) "_law_slews" ps__law_slews (spSl2 K l) f fd := by
  refine ⟨F.F.ok sc__law_slews (fun vs H Q E h => ?_) (fun cdv A outer s H vs Q E hr h => ?_), F.m, F.F.kp, F.b⟩
  · obtain ⟨_, rfl, _⟩ := h
    rfl
  obtain ⟨s, rfl, hS, z⟩ := h
  refine ⟨_, (pss_cons (ps_set (i := 1) sc__law_slews.nd rfl (Or.inl rfl) (pcall d_law_pick hr (pa_cons (pv 0) (pa_cons (pe_lst (pa_cons (pe_op op_add pe_int (pcall d_law_take hr (pa_cons (pv 0) (pa_cons pe_int pa_nil)))) (pa_cons (pe_op op_add pe_int (pcall d_law_take hr (pa_cons (pv 0) (pa_cons pe_int pa_nil)))) (pa_cons pe_int (pa_cons pe_int (pa_cons (pe_op op_pow pe_int pe_int) pa_nil)))))) pa_nil))))
      (pss_cons (ps_set (i := 2) sc__law_slews.nd rfl (Or.inl rfl) (pcall d_law_frac hr (pa_cons (pe_ifExp (pt_cmpR op_gt (pv 1) pe_int (nomark _)) pe_int (pe_op op_add pe_int (pcall d_law_take hr (pa_cons (pv 0) (pa_cons (pe_op op_sub (pv 1) pe_int) pa_nil))))) (pa_cons (pv 1) pa_nil))))
      (pss_cons (ps_if (pt_cmpR op_eq (pcall d_law_take hr (pa_cons (pv 0) (pa_cons pe_int pa_nil))) pe_int (nomark _))
        (pss_one (ps_ret (pe_tup (pa_cons (pv 2) (pa_cons (pe_tup (pa_cons pe_int (pa_cons pe_int pa_nil))) pa_nil)))))
        pss_nil)
      (pss_one (ps_ret (pe_tup (pa_cons (pv 2) (pa_cons (pcall d_law_times hr (pa_cons (pv 2) (pa_cons (pcall d_law_frac hr (pa_cons (pcall d_law_take hr (pa_cons (pv 0) (pa_cons pe_int pa_nil))) (pa_cons pe_int pa_nil))) pa_nil))) pa_nil)))))))), ?_⟩
  (walk_at "vk_vc")
  intro v G hv S2 e2
  have p64 : (2 : Int) ^ 64 = 18446744073709551616 := by decide
  have z20 : (2 : Nat) ^ 20 = 1048576 := by decide
  obtain ⟨j, rfl, j1, j2⟩ : ∃ j : Int, v = .int j ∧ 2 ≤ j ∧ j ≤ 1000000 := by
    simp only [List.mem_cons, List.not_mem_nil, or_false] at hv
    rcases hv with rfl | rfl | rfl | rfl | rfl
    · exact ⟨_, rfl, by omega, by omega⟩
    · exact ⟨_, rfl, by omega, by omega⟩
    · exact ⟨_, rfl, by decide, by decide⟩
    · exact ⟨_, rfl, by decide, by decide⟩
    · exact ⟨_, rfl, by decide, by decide⟩
  have eG : Fr s H G := by focus (walk_at "vk_fr")
  clear e e2
  have z20' : (2 : Int) ^ 20 = 1048576 := by decide
  refine ⟨_, rfl, _, _, rfl, rfl, ?_⟩
  refine ⟨_, rfl, ifD (fun g => ?_) (fun g => ?_)⟩
  · obtain ⟨i, i0, i1, ei⟩ : ∃ i : Int, 0 ≤ i ∧ 1 + i < j ∧ (1 : Int) = 1 + i := ⟨0, by decide, by omega, by decide⟩
    refine ⟨_, rfl, _, _, 20, rfl, by omega, by decide, by omega, by decide, fun vb H3 e3' hb => ?_⟩
    rw [ei] at hb
    have S3 := S2.same e3'
    have e3 := eG.trans (Fr.of e3')
    obtain ⟨b1, b2⟩ : 0 < mkRat (1 + i) j.toNat ∧ mkRat (1 + i) j.toNat < 1 := by
      constructor
      · have := qlt (n := 0) (d := 1) (m := 1 + i) (e := j) (by decide) (by omega) (by rw [Int.zero_mul, Int.mul_one]; omega)
        rwa [show mkRat 0 (1 : Int).toNat = 0 by decide +kernel] at this
      · have := qlt (n := 1 + i) (d := j) (m := 1) (e := 1) (by omega) (by decide) (by omega)
        rwa [show mkRat 1 (1 : Int).toNat = 1 by decide +kernel] at this
    have zb : Sz 20 (mkRat (1 + i) j.toNat) := sz_mk (by omega) (by omega) (by omega)
    generalize mkRat (1 + i) j.toNat = q at hb zb b1 b2
    refine ⟨_, rfl, s, 4, rfl, S3, by decide, fun r2 H4 _ _ S4 e4 => ⟨rfl, _, rfl, ?_⟩⟩
    have hb4 := hb.fr e4 S3.some
    refine ifD (fun _ => ?_) (fun _ => ?_)
    · refine ⟨_, rfl, sz2, fun t ht => ⟨sz2, fun t2 ht2 => ?_⟩⟩
      have st := same_new ht (.tup [.int 0, .int 1])
      exact z _ _ (sl_new (m := 24) (ok := SlOk2) ht2 (hb4.same st) (rq_new 0 1 0 (by decide +kernel) (by decide +kernel)) (zb.mono (by decide)) (by decide +kernel) ⟨b1, b2, Rat.le_refl, b1⟩) ((S4.same st).same (same_new ht2 _)) (e3.trans (e4.trans (Fr.of (st.trans (same_new ht2 _)))))
    · refine ⟨_, rfl, _, rfl, _, rfl, s, 8, rfl, S4, by decide, fun j2 H5 j0 j1' S5 e5 => ?_⟩
      refine ⟨_, _, 4, rfl, by decide, lt2 9 (by omega) (by decide), by decide, by decide, fun vj H6 e6 hj => ?_⟩
      have zj : Sz 4 (mkRat j2 (8 : Int).toNat) := sz_mk (by decide) (by omega) (by decide)
      have m1 := mkm (n := j2) (d := 8) (by decide)
      generalize mkRat j2 (8 : Int).toNat = qj at hj zj m1
      have j0' : (0 : Rat) ≤ (j2 : Rat) := by exact_mod_cast j0
      have j7' : (j2 : Rat) ≤ ((7 : Int) : Rat) := by
        have : j2 ≤ 7 := by omega
        exact_mod_cast this
      have c7 : ((7 : Int) : Rat) = 7 := rfl
      have c8 : ((8 : Int) : Rat) = 8 := rfl
      rw [c7] at j7'
      rw [c8] at m1
      have hb6 : Rq K H6 vb q := (hb4.fr e5 S4.some).same e6
      refine ⟨_, _, q, qj, 20, 4, rfl, hb6, hj, zb, zj, by decide, fun vd H7 e7 hd => ⟨sz2, fun t ht => ?_⟩⟩
      have q0 : (0 : Rat) ≤ q := by grind
      have o1 : 0 ≤ q * qj := mul_nn q0 (by grind)
      have o2 : q * qj < q := by
        have : q * (8 * qj) ≤ q * 7 := Rat.mul_le_mul_of_nonneg_left (by grind) q0
        grind
      have S7 := (S5.same e6).same e7
      exact z _ _ (sl_new (m := 24) (ok := SlOk2) ht (hb6.same e7) hd (zb.mono (by decide)) (zb.mul zj) ⟨b1, b2, o1, o2⟩) (S7.same (same_new ht _)) (e3.trans (e4.trans (e5.trans (Fr.of (e6.trans (e7.trans (same_new ht _)))))))
  · refine ⟨_, rfl, _, rfl, _, _, rfl, rfl, s, _, rfl, S2, by omega, fun i G1 i0 i1 S1 e1 => ?_⟩
    have i1 : 1 + i < j := by
      have i1 : i < j - 1 ∨ i = 0 := i1
      omega
    refine ⟨_, _, rfl, rfl, _, rfl, _, _, 20, rfl, by omega, by omega, by omega, by decide, fun vb H3 e3' hb => ?_⟩
    have S3 := S1.same e3'
    have e3 := (eG.trans e1).trans (Fr.of e3')
    obtain ⟨b1, b2⟩ : 0 < mkRat (1 + i) j.toNat ∧ mkRat (1 + i) j.toNat < 1 := by
      constructor
      · have := qlt (n := 0) (d := 1) (m := 1 + i) (e := j) (by decide) (by omega) (by rw [Int.zero_mul, Int.mul_one]; omega)
        rwa [show mkRat 0 (1 : Int).toNat = 0 by decide +kernel] at this
      · have := qlt (n := 1 + i) (d := j) (m := 1) (e := 1) (by omega) (by decide) (by omega)
        rwa [show mkRat 1 (1 : Int).toNat = 1 by decide +kernel] at this
    have zb : Sz 20 (mkRat (1 + i) j.toNat) := sz_mk (by omega) (by omega) (by omega)
    generalize mkRat (1 + i) j.toNat = q at hb zb b1 b2
    refine ⟨_, rfl, s, 4, rfl, S3, by decide, fun r2 H4 _ _ S4 e4 => ⟨rfl, _, rfl, ?_⟩⟩
    have hb4 := hb.fr e4 S3.some
    refine ifD (fun _ => ?_) (fun _ => ?_)
    · refine ⟨_, rfl, sz2, fun t ht => ⟨sz2, fun t2 ht2 => ?_⟩⟩
      have st := same_new ht (.tup [.int 0, .int 1])
      exact z _ _ (sl_new (m := 24) (ok := SlOk2) ht2 (hb4.same st) (rq_new 0 1 0 (by decide +kernel) (by decide +kernel)) (zb.mono (by decide)) (by decide +kernel) ⟨b1, b2, Rat.le_refl, b1⟩) ((S4.same st).same (same_new ht2 _)) (e3.trans (e4.trans (Fr.of (st.trans (same_new ht2 _)))))
    · refine ⟨_, rfl, _, rfl, _, rfl, s, 8, rfl, S4, by decide, fun j2 H5 j0 j1' S5 e5 => ?_⟩
      refine ⟨_, _, 4, rfl, by decide, lt2 9 (by omega) (by decide), by decide, by decide, fun vj H6 e6 hj => ?_⟩
      have zj : Sz 4 (mkRat j2 (8 : Int).toNat) := sz_mk (by decide) (by omega) (by decide)
      have m1 := mkm (n := j2) (d := 8) (by decide)
      generalize mkRat j2 (8 : Int).toNat = qj at hj zj m1
      have j0' : (0 : Rat) ≤ (j2 : Rat) := by exact_mod_cast j0
      have j7' : (j2 : Rat) ≤ ((7 : Int) : Rat) := by
        have : j2 ≤ 7 := by omega
        exact_mod_cast this
      have c7 : ((7 : Int) : Rat) = 7 := rfl
      have c8 : ((8 : Int) : Rat) = 8 := rfl
      rw [c7] at j7'
      rw [c8] at m1
      have hb6 : Rq K H6 vb q := (hb4.fr e5 S4.some).same e6
      refine ⟨_, _, q, qj, 20, 4, rfl, hb6, hj, zb, zj, by decide, fun vd H7 e7 hd => ⟨sz2, fun t ht => ?_⟩⟩
      have q0 : (0 : Rat) ≤ q := by grind
      have o1 : 0 ≤ q * qj := mul_nn q0 (by grind)
      have o2 : q * qj < q := by
        have : q * (8 * qj) ≤ q * 7 := Rat.mul_le_mul_of_nonneg_left (by grind) q0
        grind
      have S7 := (S5.same e6).same e7
      exact z _ _ (sl_new (m := 24) (ok := SlOk2) ht (hb6.same e7) hd (zb.mono (by decide)) (zb.mul zj) ⟨b1, b2, o1, o2⟩) (S7.same (same_new ht _)) (e3.trans (e4.trans (e5.trans (Fr.of (e6.trans (e7.trans (same_new ht _)))))))
end Vk
set_option maxHeartbeats 4000000
namespace Vk
open PySem L2 Vm Vl Vs
variable {l aZERO aONE aHALF C CB CR CT CV fB fR fT : Addr} {P : Program} {w : World} {K : PySem.W.Frag} {mg : Str → Option Value} {base : Heap} {k : Nat} {f f1 f2 f3 f4 f5 f6 f7 f8 f9 f10 f11 f12 : Addr} {fd fd1 fd2 fd3 fd4 fd5 fd6 fd7 fd8 fd9 fd10 fd11 fd12 : FuncData}
theorem rq_raw {H : Hp} {t : Addr} {i j : Int} (q : Rat) (h : H t = some (.tup [.int i, .int j])) (e1 : q.num = i) (e2 : (q.den : Int) = j) : Rq K H (.ref t) q := by
  subst e1
  subst e2
  exact ⟨t, rfl, SqT.of h⟩
theorem rq_raw_fr {s : Addr} {G0 G : Hp} {t : Addr} {i j : Int} (q : Rat) (e : Fr s G0 G) (hs : Sto l s G0) (h : G0 t = some (.tup [.int i, .int j])) (e1 : q.num = i) (e2 : (q.den : Int) = j) : Rq K G (.ref t) q := Rq.fr e hs.some (rq_raw q h e1 e2)
def spOver (K : PySem.W.Frag) (l : Addr) : Sp := fun vs H Q _ => ∃ (s : Addr), vs = [.ref s] ∧ Sto l s H ∧ ∀ (v : V) H' (ov : Option Rat), optV K H' v ov → OSz 5 ov → (∀ q, ov = some q → 0 ≤ q) → Sto l s H' → Fr s H H' → Q v H'
abbrev s__law_over_step : Stmt := top 87
abbrev N__law_over_step : List Str := ["_law_store_here"]
theorem sc__law_over_step : FnScope N__law_over_step ["_law_store_here"] (defScope s__law_over_step) := ⟨rfl, rfl, rfl, by decide +kernel, rfl, by decide +kernel, by decide +kernel⟩
abbrev ps__law_over_step : List Str := ["_law_store_here"]
theorem ok_over_step (F : Fn K mg "_law_over_step" s__law_over_step ps__law_over_step f fd) (d_law_above : Def P w K mg base k "_law_above" ["_law_store_here"] (spDraw K l 5 ge6) f1 fd1) (d_law_pick : Def P w K mg base k "_law_pick" ["_law_store_here", "_law_things"] (spPick K l) f2 fd2) :
    Def P w K mg base (k + 1) "_law_over_step" ps__law_over_step (spOver K l) f fd := by
  refine ⟨F.F.ok sc__law_over_step (fun vs H Q E h => ?_) (fun cdv A outer s H vs Q E hr h => ?_), F.m, F.F.kp, F.b⟩
  · obtain ⟨_, rfl, _⟩ := h
    rfl
  obtain ⟨s, rfl, hS, z⟩ := h
  refine ⟨_, (pss_one (ps_ret (pcall d_law_pick hr (pa_cons (pv 0) (pa_cons (pe_lst (pa_cons pe_non (pa_cons pe_non (pa_cons (pe_tup (pa_cons pe_int (pa_cons pe_int pa_nil))) (pa_cons (pcall d_law_above hr (pa_cons (pv 0) pa_nil)) pa_nil))))) pa_nil))))), ?_⟩
  (walk_at "vk_vc")
  intro v G hv S2 e2
  have eG : Fr s H G := by focus (walk_at "vk_fr")
  simp only [List.mem_cons, List.not_mem_nil, or_false] at hv
  have n1 : OSz 5 none := nofun
  rcases hv with rfl | rfl | hv | rfl
  · exact z _ _ none rfl n1 nofun S2 eG
  · exact z _ _ none rfl n1 nofun S2 eG
  · have hr : Rq K G v 0 := by clear eG; rw [hv]; (walk_at "vk_cl")
    refine z _ _ (some 0) hr (fun q h => by cases h; decide +kernel) (fun q h => by cases h; exact Rat.le_refl) S2 eG
  · have hr : Rq K G (.ref a) q := by clear eG; (walk_at "vk_cl")
    exact z _ _ (some q) hr (fun q' h => by cases h; exact zq) (fun q' h => by cases h; exact Rat.le_trans (by decide +kernel) (show mkRat 1 6 ≤ q from okq)) S2 eG
/-- the arguments -/
structure Ag where
  r : Rat
  s : Rat
  e : Rat
  l : Rat
  d : Rat
  ov : Option Rat
structure Agv (K : PySem.W.Frag) (H : Hp) (v0 v1 v2 v3 v4 v5 : V) (x : Ag) : Prop where
  r : Rq K H v0 x.r
  s : Rq K H v1 x.s
  e : Rq K H v2 x.e
  l : Rq K H v3 x.l
  d : Rq K H v4 x.d
  ov : optV K H v5 x.ov
structure AgOk (x : Ag) : Prop where
  zr : Sz 20 x.r
  zs : Sz 26 x.s
  ze : Sz 5 x.e
  zl : Sz 24 x.l
  zd : Sz 24 x.d
  zo : OSz 200 x.ov
  e0 : 0 ≤ x.e
  l0 : 0 < x.l
  l1 : x.l < 1
  d0 : 0 ≤ x.d
  d1 : x.d < x.l
  o0 : ∀ q, x.ov = some q → 0 ≤ q
theorem Agv.same {H H' : Hp} {v0 v1 v2 v3 v4 v5 : V} {x : Ag} (h : Agv K H v0 v1 v2 v3 v4 v5 x) (e : Same H H') : Agv K H' v0 v1 v2 v3 v4 v5 x := ⟨h.r.same e, h.s.same e, h.e.same e, h.l.same e, h.d.same e, h.ov.same e⟩
theorem Agv.fr {s : Addr} {H H' : Hp} {v0 v1 v2 v3 v4 v5 : V} {x : Ag} (h : Agv K H v0 v1 v2 v3 v4 v5 x) (e : Fr s H H') (hs : ∃ ys, H s = some (.lst ys)) : Agv K H' v0 v1 v2 v3 v4 v5 x := ⟨h.r.fr e hs, h.s.fr e hs, h.e.fr e hs, h.l.fr e hs, h.d.fr e hs, h.ov.fr e hs⟩
theorem Agv.frI {s : Addr} {H H' : Hp} {v0 v1 v2 v3 v4 v5 : V} {x : Ag} (h : Agv K H v0 v1 v2 v3 v4 v5 x) (e : Fr s H H') (hs : ∃ C d fs, H s = some (.ins C d fs)) : Agv K H' v0 v1 v2 v3 v4 v5 x := ⟨frI_rq e hs h.r, frI_rq e hs h.s, frI_rq e hs h.e, frI_rq e hs h.l, frI_rq e hs h.d, frI_opt e hs h.ov⟩
def spBegin (K : PySem.W.Frag) (l : Addr) : Sp := fun vs H Q _ => ∃ (s : Addr), vs = [.ref s] ∧ Sto l s H ∧ ∀ (D : Addr) H' (v0 v1 v2 v3 v4 v5 : V) (x : Ag), H' D = some (.lst [v0, v1, v2, v3, v4, v5]) → H D = none → Agv K H' v0 v1 v2 v3 v4 v5 x → AgOk x → Sto l s H' → Fr s H H' → Q (.ref D) H'
end Vk
set_option maxHeartbeats 4000000
namespace Vk
open PySem L2 Vm Vl Vs
variable {l aZERO aONE aHALF aDR C CB CR CT CV fB fR fT : Addr} {P : Program} {w : World} {K : PySem.W.Frag} {mg : Str → Option Value} {base : Heap} {k : Nat} {f f1 f2 f3 f4 f5 f6 f7 f8 f9 f10 f11 f12 : Addr} {fd fd1 fd2 fd3 fd4 fd5 fd6 fd7 fd8 fd9 fd10 fd11 fd12 : FuncData}
def sr0 (x : Ag) : Sr := ⟨x.l, x.d, x.ov, [⟨x.r, x.s, 1⟩], none, x.r, x.e, x.e⟩
def spMade (K : PySem.W.Frag) (C : Addr) : Sp := fun vs H Q _ => ∃ (D : Addr) (v0 v1 v2 v3 v4 v5 : V) (x : Ag), vs = [.ref D] ∧ H D = some (.lst [v0, v1, v2, v3, v4, v5]) ∧ Agv K H v0 v1 v2 v3 v4 v5 x ∧ AgOk x ∧ ∀ o H', Same H H' → H o = none → SgA K C o H' (sr0 x) → Q (.ref o) H'
end Vk
set_option maxHeartbeats 4000000
namespace Vk
open PySem L2 Vm Vl Vs
variable {l aZERO aONE aHALF aDR C CB CR CT CV fB fR fT : Addr} {P : Program} {w : World} {K : PySem.W.Frag} {mg : Str → Option Value} {base : Heap} {k : Nat} {f f1 f2 f3 f4 f5 f6 f7 f8 f9 f10 f11 f12 : Addr} {fd fd1 fd2 fd3 fd4 fd5 fd6 fd7 fd8 fd9 fd10 fd11 fd12 : FuncData}
theorem nowf_next {c : List Pc} {t : Rat} {i : Nat} {p : Pc} (e : c[i]? = some p) : nowf (c.take (i + 1)) t = if t < p.s then nowf (c.take i) t else some (vl t p) := by
  rw [now_pc, now_pc]
  unfold pcAt
  rw [List.take_add_one, e, Option.toList_some, List.filter_append]
  by_cases h : t < p.s
  · have : [p].filter (on t) = [] := by simp [on, h]
    rw [this, List.append_nil, if_pos h]
  · have : [p].filter (on t) = [p] := by simp [on, h]
    rw [this, if_neg h, List.getLast?_append]
    rfl
def spLShown (K : PySem.W.Frag) : Sp := fun vs H Q _ => ∃ (a : Addr) (y : V) (c : List Pc) (t : Rat) (i j l m : Nat), vs = [.ref a, y] ∧ Cq K H a c ∧ Rq K H y t ∧ Cz i j l c ∧ Sz m t ∧ j + l + m + i + 3 ≤ 9000 ∧ ∀ v H', Same H H' → optV K H' v (nowf c t) → Q v H'
/-- the law's own state -/
structure Ls where
  ra : Rat
  no : Rat
  pa : Rat
  le : Rat
  bo : Rat
  ha : Option Rat
def Lsv (K : PySem.W.Frag) (H : Hp) (v : V) (x : Ls) : Prop := ∃ a w0 w1 w2 w3 w4 w5, v = .ref a ∧ SqT K H a [w0, w1, w2, w3, w4, w5] ∧ Rq K H w0 x.ra ∧ Rq K H w1 x.no ∧ Rq K H w2 x.pa ∧ Rq K H w3 x.le ∧ Rq K H w4 x.bo ∧ optV K H w5 x.ha
theorem Lsv.same {H H' : Hp} {v : V} {x : Ls} (h : Lsv K H v x) (e : Same H H') : Lsv K H' v x := by
  obtain ⟨a, w0, w1, w2, w3, w4, w5, rfl, h, h0, h1, h2, h3, h4, h5⟩ := h
  exact ⟨a, w0, w1, w2, w3, w4, w5, rfl, e.sqt h, h0.same e, h1.same e, h2.same e, h3.same e, h4.same e, h5.same e⟩
theorem Lsv.fr {s : Addr} {H H' : Hp} {v : V} {x : Ls} (h : Lsv K H v x) (e : Fr s H H') (hs : ∃ ys, H s = some (.lst ys)) : Lsv K H' v x := by
  obtain ⟨a, w0, w1, w2, w3, w4, w5, rfl, h, h0, h1, h2, h3, h4, h5⟩ := h
  exact ⟨a, w0, w1, w2, w3, w4, w5, rfl, sqt_fr e hs h, h0.fr e hs, h1.fr e hs, h2.fr e hs, h3.fr e hs, h4.fr e hs, h5.fr e hs⟩
theorem Lsv.frI {s : Addr} {H H' : Hp} {v : V} {x : Ls} (h : Lsv K H v x) (e : Fr s H H') (hs : ∃ C d fs, H s = some (.ins C d fs)) : Lsv K H' v x := by
  obtain ⟨a, w0, w1, w2, w3, w4, w5, rfl, h, h0, h1, h2, h3, h4, h5⟩ := h
  exact ⟨a, w0, w1, w2, w3, w4, w5, rfl, frI_sqt e hs h, frI_rq e hs h0, frI_rq e hs h1, frI_rq e hs h2, frI_rq e hs h3, frI_rq e hs h4, frI_opt e hs h5⟩
structure Lsz (m : Nat) (x : Ls) : Prop where
  ra : Sz m x.ra
  no : Sz m x.no
  pa : Sz m x.pa
  le : Sz m x.le
  bo : Sz m x.bo
  ha : OSz m x.ha
def yT (x : Ls) (t : Rat) : Rat := if t - x.ra < x.le then t - x.ra else x.le
def nowT (x : Ls) (t : Rat) : Rat := x.no + x.pa * yT x t + (t - x.ra - yT x t)
def spNowT (K : PySem.W.Frag) : Sp := fun vs H Q _ => ∃ (y v : V) (x : Ls) (t : Rat) (m : Nat), vs = [v, y] ∧ Lsv K H v x ∧ Rq K H y t ∧ Lsz m x ∧ Sz m t ∧ m ≤ 800 ∧ ∀ v H', Same H H' → Rq K H' v (nowT x t) → Q v H'
end Vk
set_option maxHeartbeats 4000000
namespace Vk
open PySem L2 Vm Vl Vs
variable {l aZERO aONE aHALF aDR C CB CR CT CV fB fR fT : Addr} {P : Program} {w : World} {K : PySem.W.Frag} {mg : Str → Option Value} {base : Heap} {k : Nat} {f f1 f2 f3 f4 f5 f6 f7 f8 f9 f10 f11 f12 : Addr} {fd fd1 fd2 fd3 fd4 fd5 fd6 fd7 fd8 fd9 fd10 fd11 fd12 : FuncData}
def bndT (x : Ag) (st : Ls) (t : Rat) : Rat := match st.ha with
  | none => st.bo + x.d * (t - st.ra)
  | some h => x.d * (t - st.ra) + (if st.bo - x.l * (t - st.ra) < h then h else st.bo - x.l * (t - st.ra))
def spBoundT (K : PySem.W.Frag) : Sp := fun vs H Q _ => ∃ (D : Addr) (v0 v1 v2 v3 v4 v5 v y : V) (x : Ag) (st : Ls) (t : Rat) (m : Nat), vs = [.ref D, v, y] ∧ H D = some (.lst [v0, v1, v2, v3, v4, v5]) ∧ Agv K H v0 v1 v2 v3 v4 v5 x ∧ Lsv K H v st ∧ Rq K H y t ∧ Sz 24 x.l ∧ Sz 24 x.d ∧ Lsz m st ∧ Sz m t ∧ m ≤ 800 ∧ ∀ v H', Same H H' → Rq K H' v (bndT x st t) → Q v H'
def bothT (p q u v : Rat) : Option Vs.Spn := if u < p then (if v < p then none else some (some p, some (if q < v then q else v))) else (if q < u then none else some (some u, some (if v < q then v else q)))
def spBothT (K : PySem.W.Frag) : Sp := fun vs H Q _ => ∃ (x y : V) (p q u v : Rat) (m : Nat), vs = [x, y] ∧ Spq K H x (some p, some q) ∧ Spq K H y (some u, some v) ∧ Sz m p ∧ Sz m q ∧ Sz m u ∧ Sz m v ∧ m ≤ 1500 ∧ ∀ v' H', Same H H' → oSp K H' v' (bothT p q u v) → Q v' H'
end Vk
set_option maxHeartbeats 12000000
namespace L2
open PySem PySem.Spec PyProof.Rows
section
variable {X : Cx}
def rInT (K : PySem.W.Frag) : R2 := fun x y H Q => ∃ d ds, Dp K H x d ∧ Dp K H y (.tuple ds) ∧ SeqAt.shaped d = true ∧ SeqAt.shaped (.tuple ds) = true ∧ Q (.bl (ds.any fun z => PyData.eqv z d)) H
theorem op_inT (hu : X.A.units + 65 < cLine) : OpR X (compareOp .In) (rInT X.K) := by
  intro pins s σ H x y v u Q I rx ry h
  obtain ⟨d, ds, hd, he, sd, se, q⟩ := h
  obtain ⟨as, r1⟩ := Dp.reads I d x v hd rx
  obtain ⟨bs, r2⟩ := Dp.reads I (.tuple ds) y u he ry
  exact SeqAt.in_tuple_reads r2 r1 (SeqAt.canLay_of_shaped se) (SeqAt.canLay_of_shaped sd) (room_in_shaped sd hu) ⟨.bl _, H, I, rfl, q⟩
end
end L2
namespace Vk
open PySem L2 Vm Vl Vs
variable {l aZERO aONE aHALF aDR C CB CR CT CV fB fR fT : Addr} {P : Program} {w : World} {K : PySem.W.Frag} {mg : Str → Option Value} {base : Heap} {k : Nat} {f f1 f2 f3 f4 f5 f6 f7 f8 f9 f10 f11 f12 : Addr} {fd fd1 fd2 fd3 fd4 fd5 fd6 fd7 fd8 fd9 fd10 fd11 fd12 : FuncData}
def knT (p q n b : Rat) : Rat × Rat := match bothT p q (n - b) (n + b) with
  | some (some u, some v) => (u, v)
  | _ => (p, q)
def midT (u : Rat × Rat) : Rat := (u.1 + u.2) * mkRat 1 2
def jmpT (x : Ag) (g : Rat) : Bool := match x.ov with
  | none => false
  | some w => decide (w < g)
def pacT (x : Ag) (g : Rat) : Rat := if g = 0 then 1 else 1 + (if 0 < g then x.l else 0 - x.l)
def trn0 (x : Ag) (st : Ls) (t : Rat) : Ls × Option Rat × Bool := (⟨t, nowT st t, 1, 0, bndT x st t, none⟩, none, false)
/-- turned to a span: u the span gone by, n what is shown -/
def trnU (x : Ag) (t n : Rat) (u : Rat × Rat) : Ls × Option Rat × Bool :=
  if jmpT x (midT u - n) = true then (⟨t, midT u, 1, 0, midT u - u.1, some (midT u - u.1)⟩, some (midT u), true)
  else (⟨t, n, pacT x (midT u - n), ab (midT u - n) / x.l, ab (midT u - n) + (midT u - u.1), some (midT u - u.1)⟩, some (midT u), false)
def trn (x : Ag) (st : Ls) (t : Rat) : Option Vs.Spn → Ls × Option Rat × Bool
  | some (some p, some q) => trnU x t (nowT st t) (knT p q (nowT st t) (bndT x st t))
  | _ => trn0 x st t
def TrnV (K : PySem.W.Frag) (H : Hp) (v : V) (r : Ls × Option Rat × Bool) : Prop := ∃ a ws wa, v = .ref a ∧ SqT K H a [ws, wa, .bl r.2.2] ∧ Lsv K H ws r.1 ∧ optV K H wa r.2.1
def spTurned (K : PySem.W.Frag) : Sp := fun vs H Q _ => ∃ (D : Addr) (v0 v1 v2 v3 v4 v5 v y xp : V) (x : Ag) (st : Ls) (t : Rat) (os : Option Vs.Spn), vs = [.ref D, v, y, xp] ∧ H D = some (.lst [v0, v1, v2, v3, v4, v5]) ∧ Agv K H v0 v1 v2 v3 v4 v5 x ∧ Lsv K H v st ∧ Rq K H y t ∧ oSp K H xp os ∧ Sz 24 x.l ∧ Sz 24 x.d ∧ 0 < x.l ∧ OSz 400 x.ov ∧ Lsz 400 st ∧ Sz 400 t ∧ Sz 200 (nowT st t) ∧ Sz 200 (bndT x st t) ∧ (∀ s, os = some s → SSz 401 s) ∧
  ∀ v H', Same H H' → TrnV K H' v (trn x st t os) → Q v H'
theorem trnMk {H : Hp} {a i : Addr} {w0 w1 w2 w3 w4 w5 wa : V} {j : Bool} {r0 r1 r2 r3 r4 : Rat} {r5 am : Option Rat} (h1 : SqT K H a [.ref i, wa, .bl j]) (h2 : SqT K H i [w0, w1, w2, w3, w4, w5]) (g0 : Rq K H w0 r0) (g1 : Rq K H w1 r1) (g2 : Rq K H w2 r2) (g3 : Rq K H w3 r3) (g4 : Rq K H w4 r4) (g5 : optV K H w5 r5) (ga : optV K H wa am) :
    TrnV K H (.ref a) (⟨r0, r1, r2, r3, r4, r5⟩, am, j) := ⟨a, _, _, rfl, h1, ⟨i, w0, w1, w2, w3, w4, w5, rfl, h2, g0, g1, g2, g3, g4, g5⟩, ga⟩
theorem trnMk2 {H : Hp} {a i : Addr} {w0 w1 w2 w3 w4 w5 wa : V} {j : Bool} {r0 r1 r2 r3 r4 r5 am : Rat} (h1 : SqT K H a [.ref i, wa, .bl j]) (h2 : SqT K H i [w0, w1, w2, w3, w4, w5]) (g0 : Rq K H w0 r0) (g1 : Rq K H w1 r1) (g2 : Rq K H w2 r2) (g3 : Rq K H w3 r3) (g4 : Rq K H w4 r4) (g5 : Rq K H w5 r5) (ga : Rq K H wa am) :
    TrnV K H (.ref a) (⟨r0, r1, r2, r3, r4, some r5⟩, some am, j) := ⟨a, _, _, rfl, h1, ⟨i, w0, w1, w2, w3, w4, w5, rfl, h2, g0, g1, g2, g3, g4, g5⟩, ga⟩
theorem both_or (p q u v : Rat) : bothT p q u v = none ∨ ∃ a b, bothT p q u v = some (some a, some b) ∧ (a = p ∨ a = u) ∧ (b = q ∨ b = v) := by
  unfold bothT
  split
  · split
    · exact .inl rfl
    · refine .inr ⟨_, _, rfl, .inl rfl, ?_⟩
      split
      · exact .inl rfl
      · exact .inr rfl
  · split
    · exact .inl rfl
    · refine .inr ⟨_, _, rfl, .inr rfl, ?_⟩
      split
      · exact .inr rfl
      · exact .inl rfl
end Vk
set_option maxHeartbeats 4000000
namespace Vk
open PySem L2 Vm Vl Vs
/-! ### the mathematics of one turn -/
theorem half_eq : (mkRat 1 2 : Rat) = 1 / 2 := by decide +kernel
/-- the two ways to meet agree -/
theorem both_knw {p q n b : Rat} (pq : p ≤ q) (b0 : 0 ≤ b) : (match bothT p q (n - b) (n + b) with | some (some u, some v) => (u, v) | _ => (p, q)) = knw p q n b := by
  unfold bothT knw kLo kHi
  by_cases c1 : n - b < p
  · have hlo : (if n - b ≤ p then p else n - b) = p := if_pos (by grind)
    have hhi : (if q ≤ n + b then q else n + b) = (if q < n + b then q else n + b) := by
      by_cases c : q < n + b
      · rw [if_pos c, if_pos (by grind)]
      · rw [if_neg c]
        by_cases c4 : q ≤ n + b
        · rw [if_pos c4]; grind
        · rw [if_neg c4]
    rw [if_pos c1, hlo, hhi]
    by_cases c2 : n + b < p
    · have h : (if q < n + b then q else n + b) < p := by split <;> grind
      rw [if_pos c2, if_pos h]
    · have h : ¬ (if q < n + b then q else n + b) < p := by split <;> grind
      rw [if_neg c2, if_neg h]
  · have hlo : (if n - b ≤ p then p else n - b) = n - b := by
      by_cases c : n - b ≤ p
      · rw [if_pos c]; grind
      · rw [if_neg c]
    have hhi : (if q ≤ n + b then q else n + b) = (if n + b < q then n + b else q) := by
      by_cases c : q ≤ n + b
      · rw [if_pos c, if_neg (by grind)]
      · rw [if_neg c, if_pos (by grind)]
    rw [if_neg c1, hlo, hhi]
    by_cases c2 : q < n - b
    · have h : (if n + b < q then n + b else q) < n - b := by split <;> grind
      rw [if_pos c2, if_pos h]
    · have h : ¬ (if n + b < q then n + b else q) < n - b := by split <;> grind
      rw [if_neg c2, if_neg h]
theorem ab_nn (q : Rat) : 0 ≤ ab q := by unfold ab; split <;> grind
theorem far_eq {u v n : Rat} (h : u ≤ v) : farE u v n = ab ((u + v) * (1 / 2) - n) + ((u + v) * (1 / 2) - u) := by
  unfold farE ab
  split <;> split <;> split <;> (try split) <;> grind
theorem knw_le {p q n b : Rat} (pq : p ≤ q) : (knw p q n b).1 ≤ (knw p q n b).2 := by
  unfold knw
  split
  · exact pq
  · show kLo p n b ≤ kHi q n b; grind
/-- the course that the law waits for -/
def dueC (x : Ag) (st : Ls) (j : Bool) : List Pc :=
  if j = false ∧ st.le = 0 then [⟨x.r, x.s, 1⟩]
  else (if st.ra = x.r then [] else [⟨x.r, x.s, 1⟩]) ++ (⟨st.ra, st.no, st.pa⟩ :: if j = true then [] else [⟨st.ra + st.le, nowT st (st.ra + st.le), 1⟩])
end Vk
set_option maxHeartbeats 4000000
namespace Vk
open PySem L2 Vm Vl Vs
theorem knT_eq {p q n b : Rat} (pq : p ≤ q) (b0 : 0 ≤ b) : knT p q n b = knw p q n b := both_knw pq b0
theorem midT_eq (u : Rat × Rat) : midT u = mid u := by unfold midT mid; rw [half_eq]
theorem haf_eq (u : Rat × Rat) : midT u - u.1 = haf u := by rw [midT_eq]; unfold mid haf; grind
/-- the first state -/
def ls0 (x : Ag) : Ls := ⟨x.r, x.s, 1, 0, x.e, none⟩
theorem now_ls0 {x : Ag} {t : Rat} (h : x.r ≤ t) : nowT (ls0 x) t = x.s + (t - x.r) := by
  unfold nowT yT ls0
  dsimp only
  rw [if_neg (by grind)]
  grind
theorem nowf_sr0 {x : Ag} {t : Rat} (h : x.r ≤ t) : nowf (sr0 x).c t = some (nowT (ls0 x) t) := by
  rw [now_ls0 h]
  have e := nowf_next (c := [(⟨x.r, x.s, 1⟩ : Pc)]) (t := t) (i := 0) rfl
  rw [if_neg (Rat.not_lt.mpr h)] at e
  have e2 : nowf [(⟨x.r, x.s, 1⟩ : Pc)] t = some (vl t ⟨x.r, x.s, 1⟩) := e
  show nowf [(⟨x.r, x.s, 1⟩ : Pc)] t = _
  rw [e2]
  unfold vl
  congr 1
  grind
theorem err_ls0 {x : Ag} {t : Rat} (h : x.r ≤ t) (l0 : 0 < x.l) : errS (sr0 x) t = bndT x (ls0 x) t := by
  have hm : 0 ≤ x.l * (t - x.r) := mul_nn (by grind) (by grind)
  unfold errS nextB bndT sr0 ls0
  dsimp only
  split <;> grind
theorem err_turn0 {x : Ag} {t t' n : Rat} (h : x.r ≤ t) (h' : t ≤ t') (l0 : 0 < x.l) : errS (str0 (sr0 x) t n) t' = bndT x (trn0 x (ls0 x) t).1 t' := by
  have hm : 0 ≤ x.l * (t' - t) := mul_nn (by grind) (by grind)
  have e := err_ls0 h l0
  show nextB ⟨errS (sr0 x) t, errS (sr0 x) t, t' - t, x.l, x.d⟩ (errS (sr0 x) t) = bndT x (ls0 x) t + x.d * (t' - t)
  rw [e]
  unfold nextB
  dsimp only
  split <;> grind
theorem jmp_eq {x : Ag} {a n : Rat} : jmpS (sr0 x) a n = jmpT x (a - n) := rfl
theorem err_turn2 {x : Ag} {t t' n p q : Rat} (pq : p ≤ q) : errS (str2 (sr0 x) t n p q) t' = bndT x (trnU x t n (knw p q n (errS (sr0 x) t))).1 t' := by
  have hu := knw_le (n := n) (b := errS (sr0 x) t) pq
  unfold str2 trnU
  generalize knw p q n (errS (sr0 x) t) = u at hu ⊢
  have em : mid u = midT u := (midT_eq u).symm
  have eh : haf u = midT u - u.1 := (haf_eq u).symm
  have ef : farE u.1 u.2 n = ab (midT u - n) + (midT u - u.1) := by
    rw [far_eq hu, midT_eq]; rfl
  rw [em, eh, ef, jmp_eq]
  by_cases c : jmpT x (midT u - n) = true
  · rw [if_pos c, if_pos c]
    show nextB ⟨_, _, t' - t, x.l, x.d⟩ _ = x.d * (t' - t) + _
    unfold nextB
    dsimp only
    split <;> split <;> grind
  · rw [if_neg c, if_neg c]
    show nextB ⟨_, _, t' - t, x.l, x.d⟩ _ = x.d * (t' - t) + _
    unfold nextB
    dsimp only
    split <;> split <;> grind
theorem aim_turn2 {x : Ag} {t n p q : Rat} : (str2 (sr0 x) t n p q).aim = (trnU x t n (knw p q n (errS (sr0 x) t))).2.1 := by
  unfold str2 trnU
  generalize knw p q n (errS (sr0 x) t) = u
  rw [(midT_eq u).symm, jmp_eq]
  by_cases c : jmpT x (midT u - n) = true
  · rw [if_pos c, if_pos c]
  · rw [if_neg c, if_neg c]
end Vk
set_option maxHeartbeats 4000000
namespace Vk
open PySem L2 Vm Vl Vs
theorem tl1 (p : Pc) : tl [p] = [p] := rfl
theorem tl2 {p q : Pc} (h : ky q ≠ ky p) : tl [p, q] = [p, q] := by
  show p :: tlG (ky p) [q] = _
  simp only [tlG]
  rw [if_neg h]
theorem tl2e {p q : Pc} (h : ky q = ky p) : tl [p, q] = [p] := by
  show p :: tlG (ky p) [q] = _
  simp only [tlG]
  rw [if_pos h]
theorem tl3 {p q r : Pc} (h : ky q ≠ ky p) (g : ky r ≠ ky q) : tl [p, q, r] = [p, q, r] := by
  show p :: tlG (ky p) [q, r] = _
  simp only [tlG]
  rw [if_neg h, if_neg g]
theorem kp1 {p : Pc} {t : Rat} : kp [p] t = if p.s < t then [p] else [] := by
  unfold kp
  by_cases h : p.s < t
  · simp [h]
  · simp [h]
theorem course_turn0 {x : Ag} {t n : Rat} (h : x.r ≤ t) (en : n = x.s + (t - x.r)) : (str0 (sr0 x) t n).c = dueC x (trn0 x (ls0 x) t).1 false := by
  show tl (kp [⟨x.r, x.s, 1⟩] t ++ [⟨t, n, 1⟩]) = _
  have ed : dueC x (trn0 x (ls0 x) t).1 false = [⟨x.r, x.s, 1⟩] := if_pos ⟨rfl, rfl⟩
  rw [kp1, ed]
  dsimp only
  by_cases c : x.r < t
  · rw [if_pos c]
    refine tl2e ?_
    unfold ky
    dsimp only
    rw [en]
    congr 1
    grind
  · rw [if_neg c]
    have : x.r = t := by grind
    show tl [_] = _
    rw [tl1, en, this]
    congr 2
    grind
theorem ab_zero {q : Rat} (h : ab q = 0) : q = 0 := by unfold ab at h; split at h <;> grind
theorem div_zero' {a l : Rat} (l0 : 0 < l) (h : a / l = 0) : a = 0 := by
  have : a = a / l * l := by rw [Rat.div_mul_cancel]; grind
  rw [this, h]; grind
theorem course_turn2 {x : Ag} {t n p q : Rat} (h : x.r ≤ t) (en : n = x.s + (t - x.r)) (l0 : 0 < x.l) (l1 : x.l < 1) (o0 : ∀ q, x.ov = some q → 0 ≤ q) : (str2 (sr0 x) t n p q).c = dueC x (trnU x t n (knw p q n (errS (sr0 x) t))).1 (trnU x t n (knw p q n (errS (sr0 x) t))).2.2 := by
  unfold str2 trnU
  generalize knw p q n (errS (sr0 x) t) = u
  rw [(midT_eq u).symm, jmp_eq]
  generalize ea : midT u = a
  have k1 : ∀ v r, ky ⟨t, v, r⟩ = ky ⟨x.r, x.s, 1⟩ → r = 1 ∧ v = n := fun v r e => by
    unfold ky at e
    have e1 := congrArg Prod.fst e
    have e2 := congrArg Prod.snd e
    dsimp only at e1 e2
    exact ⟨e1, by rw [e1] at e2; grind⟩
  by_cases c : jmpT x (a - n) = true
  · rw [if_pos c, if_pos c]
    obtain ⟨w, ew, cw⟩ : ∃ w, x.ov = some w ∧ w < a - n := by
      unfold jmpT at c
      cases e : x.ov with
      | none => rw [e] at c; cases c
      | some w => rw [e] at c; exact ⟨w, rfl, of_decide_eq_true c⟩
    have w0 := o0 w ew
    show tl (kp [⟨x.r, x.s, 1⟩] t ++ [⟨t, a, 1⟩]) = _
    have ed : dueC x (⟨t, a, 1, 0, a - u.1, some (a - u.1)⟩ : Ls) true = (if t = x.r then [] else [⟨x.r, x.s, 1⟩]) ++ [⟨t, a, 1⟩] := if_neg (by simp)
    dsimp only
    rw [kp1, ed]
    dsimp only
    by_cases d : x.r < t
    · rw [if_pos d, if_neg (show ¬ t = x.r by grind)]
      exact tl2 fun e => by have := (k1 _ _ e).2; grind
    · rw [if_neg d, if_pos (show t = x.r by grind)]
      rfl
  · rw [if_neg c, if_neg c]
    show tl (kp [⟨x.r, x.s, 1⟩] t ++ plan t n a x.l) = dueC x ⟨t, n, pacT x (a - n), ab (a - n) / x.l, ab (a - n) + (a - u.1), some (a - u.1)⟩ false
    rw [kp1]
    dsimp only
    by_cases g : a = n
    · have ez : ab (a - n) / x.l = 0 := by rw [g, show n - n = 0 by grind, show ab 0 = 0 by decide +kernel]; grind
      have ed : dueC x (⟨t, n, pacT x (a - n), ab (a - n) / x.l, ab (a - n) + (a - u.1), some (a - u.1)⟩ : Ls) false = [⟨x.r, x.s, 1⟩] := if_pos ⟨rfl, ez⟩
      have ep : plan t n a x.l = [⟨t, n, 1⟩] := if_pos g
      rw [ed, ep]
      have := course_turn0 h en
      rw [show (str0 (sr0 x) t n).c = tl (kp [⟨x.r, x.s, 1⟩] t ++ [⟨t, n, 1⟩]) from rfl, kp1, show dueC x (trn0 x (ls0 x) t).1 false = [⟨x.r, x.s, 1⟩] from if_pos ⟨rfl, rfl⟩] at this
      exact this
    · have ez : ¬ ab (a - n) / x.l = 0 := fun z => g (by have := ab_zero (div_zero' l0 z); grind)
      have ed : dueC x (⟨t, n, pacT x (a - n), ab (a - n) / x.l, ab (a - n) + (a - u.1), some (a - u.1)⟩ : Ls) false = (if t = x.r then [] else [⟨x.r, x.s, 1⟩]) ++ [⟨t, n, pacT x (a - n)⟩, ⟨t + ab (a - n) / x.l, nowT ⟨t, n, pacT x (a - n), ab (a - n) / x.l, ab (a - n) + (a - u.1), some (a - u.1)⟩ (t + ab (a - n) / x.l), 1⟩] := if_neg fun z => ez z.2
      have ep : plan t n a x.l = [⟨t, n, if n < a then 1 + x.l else 1 - x.l⟩, ⟨t + ab (a - n) / x.l, a + ab (a - n) / x.l, 1⟩] := if_neg g
      have epc : pacT x (a - n) = if n < a then 1 + x.l else 1 - x.l := by
        unfold pacT
        rw [if_neg (show ¬ a - n = 0 by grind)]
        by_cases c2 : n < a
        · rw [if_pos c2, if_pos (show 0 < a - n by grind)]
        · rw [if_neg c2, if_neg (show ¬ 0 < a - n by grind)]; grind
      have hL : x.l * (ab (a - n) / x.l) = ab (a - n) := by rw [Rat.mul_comm, Rat.div_mul_cancel]; grind
      have enow : nowT ⟨t, n, pacT x (a - n), ab (a - n) / x.l, ab (a - n) + (a - u.1), some (a - u.1)⟩ (t + ab (a - n) / x.l) = a + ab (a - n) / x.l := by
        unfold nowT yT
        rw [epc]
        dsimp only
        clear ed ep ez epc k1
        generalize ab (a - n) / x.l = y at hL
        have e1 : t + y - t = y := by grind
        rw [e1, if_neg (show ¬ y < y from Rat.lt_irrefl)]
        by_cases c2 : n < a
        · rw [if_pos c2]
          have e2 : ab (a - n) = a - n := if_neg (by grind)
          rw [e2] at hL
          have e3 : (1 + x.l) * y = y + x.l * y := by grind
          rw [e3, hL]
          grind
        · rw [if_neg c2]
          have e2 : ab (a - n) = -(a - n) := if_pos (by grind)
          rw [e2] at hL
          have e3 : (1 - x.l) * y = y - x.l * y := by grind
          rw [e3, hL]
          grind
      rw [ed, ep, enow, epc]
      have kne : (if n < a then 1 + x.l else 1 - x.l) ≠ 1 := by split <;> grind
      have kb : ∀ s v, ky ⟨s, v, 1⟩ ≠ ky ⟨t, n, if n < a then 1 + x.l else 1 - x.l⟩ := fun s v e => kne (congrArg Prod.fst e).symm
      by_cases d : x.r < t
      · rw [if_pos d, if_neg (show ¬ t = x.r by grind)]
        exact tl3 (fun e => kne (k1 _ _ e).1) (kb _ _)
      · rw [if_neg d, if_pos (show t = x.r by grind)]
        exact tl2 (kb _ _)
end Vk
set_option maxHeartbeats 4000000
namespace Vk
open PySem L2 Vm Vl Vs
variable {l aZERO aONE aHALF aDR C CB CR CT CV fB fR fT : Addr} {P : Program} {w : World} {K : PySem.W.Frag} {mg : Str → Option Value} {base : Heap} {k : Nat} {f f1 f2 f3 f4 f5 f6 f7 f8 f9 f10 f11 f12 : Addr} {fd fd1 fd2 fd3 fd4 fd5 fd6 fd7 fd8 fd9 fd10 fd11 fd12 : FuncData}
def cdat (c : List Pc) : PyData := .list (c.map dpc)
theorem dpall_of' {α : Type} {H : Hp} {R : Hp → V → α → Prop} {d : α → PyData} (hd : ∀ v p, R H v p → Dp K H v (d p)) : ∀ {xs : List V} {c : List α}, All2 (R H) xs c → DpAll K H xs (c.map d)
  | [], [], _ => .nil
  | [], _ :: _, h => absurd h.1 (by simp)
  | _ :: _, [], h => absurd h.1 (by simp)
  | x :: xs, p :: c, h => .cons (hd _ _ (h.2 0 _ _ rfl rfl)) (dpall_of' hd ⟨by have := h.1; simpa using this, fun i x p hx hp => h.2 (i + 1) x p hx hp⟩)
theorem Cq.dd {H : Hp} {a : Addr} {c : List Pc} (h : Cq K H a c) : Dp K H (.ref a) (cdat c) := by
  obtain ⟨xs, hx, hc⟩ := h
  exact .lst hx (dpall_of' (fun _ _ h => Pq.dp h) hc)
theorem tree_c (n : Nat) {c : List Pc} (h : c.length ≤ 900) : Tree (n + 3) (cdat c) := .lst (by rw [List.length_map]; omega) fun d hd => by
  obtain ⟨p, _, rfl⟩ := List.mem_map.mp hd
  exact .tup (by show 3 ≤ 1000; decide) fun d h => by
    rcases List.mem_cons.mp h with rfl | h
    · exact tree_dq _ _
    · rcases List.mem_cons.mp h with rfl | h
      · exact tree_dq _ _
      · rcases List.mem_cons.mp h with rfl | h
        · exact tree_dq _ _
        · cases h
theorem tree_odp (n : Nat) (o : Option Rat) : Tree (n + 1) (odp o) := by
  cases o with
  | none => exact .non
  | some q => exact tree_dq _ _
/-- a steering and the law's own state agree -/
structure Rel (x : Ag) (r : Sr) (st : Ls) (am : Option Rat) (c : List Pc) : Prop where
  eam : r.aim = am
  ec : r.c = c
  ela : r.la = st.ra
  er : ∀ t, st.ra ≤ t → errS r t = bndT x st t
  ok : Cok c
  cz : Cz 2162 2162 62 c
  len : c.length ≤ 300
  zla : Sz 700 r.la
  zbd : Sz 700 r.bd
  zhf : Sz 700 r.hf
  zsl : Sz 60 r.sl
  zdr : Sz 60 r.dr
  zst : Lsz 700 st
  h0 : ∀ t, x.r ≤ t → nowf c t ≠ none
def spAns (K : PySem.W.Frag) (C : Addr) : Sp := fun vs H Q _ => ∃ (D o B Pb : Addr) (v0 v1 v2 v3 v4 v5 v va : V) (ps : List V) (x : Ag) (r : Sr) (st : Ls) (am : Option Rat) (c : List Pc) (ts : List Rat), vs = [.ref D, .ref o, v, va, .ref B, .ref Pb] ∧ H D = some (.lst [v0, v1, v2, v3, v4, v5]) ∧ Agv K H v0 v1 v2 v3 v4 v5 x ∧ Sz 24 x.l ∧ Sz 24 x.d ∧ SgA K C o H r ∧ Lsv K H v st ∧ optV K H va am ∧ Cq K H B c ∧ SqL K H Pb ps ∧ All2 (Rq K H) ps ts ∧
  Rel x r st am c ∧ ts.length ≤ 20 ∧ (∀ t ∈ ts, x.r ≤ t ∧ Sz 700 t) ∧ ∀ H', Same H H' → Q (.bl true) H'
end Vk


set_option maxHeartbeats 4000000
namespace Vk
open PySem L2 Vm Vl Vs
variable {l aZERO aONE aHALF aDR C CB CR CT CV fB fR fT : Addr} {P : Program} {w : World} {K : PySem.W.Frag} {mg : Str → Option Value} {base : Heap} {k : Nat}
theorem now_ne {c : List Pc} {t : Rat} {p : Pc} (h : p ∈ c) (g : p.s ≤ t) : nowf c t ≠ none := by
  rw [now_pc]
  unfold pcAt
  have hm : p ∈ c.filter (on t) := List.mem_filter.mpr ⟨h, by simp [on, Rat.not_lt.mpr g]⟩
  cases e : (c.filter (on t)).getLast? with
  | none => rw [List.getLast?_eq_none_iff] at e; rw [e] at hm; cases hm
  | some q => exact nofun
theorem due_ok {x : Ag} {st : Ls} {j : Bool} (h : x.r ≤ st.ra) (p : 0 < st.pa) (hl : j = false → 0 ≤ st.le) (z : Lsz 350 st) (zp : Sz 62 st.pa) (zr : Sz 20 x.r) (zs : Sz 26 x.s) :
    Cok (dueC x st j) ∧ Cz 2162 2162 62 (dueC x st j) ∧ (dueC x st j).length ≤ 3 ∧ ∀ t, x.r ≤ t → nowf (dueC x st j) t ≠ none := by
  have z1 : Sz 62 (1 : Rat) := zo1.mono (by decide)
  have o1 : (0 : Rat) < 1 := by decide +kernel
  have c0 : Sz 2162 x.r ∧ Sz 2162 x.s ∧ Sz 62 (1 : Rat) := ⟨zr.mono (by decide), zs.mono (by decide), z1⟩
  have c1 : Sz 2162 st.ra ∧ Sz 2162 st.no ∧ Sz 62 st.pa := ⟨z.ra.mono (by decide), z.no.mono (by decide), zp⟩
  have en : nowT st (st.ra + st.le) = st.no + st.pa * st.le := by
    unfold nowT yT
    rw [if_neg (by grind)]
    grind
  have c2 : Sz 2162 (st.ra + st.le) ∧ Sz 2162 (nowT st (st.ra + st.le)) ∧ Sz 62 (1 : Rat) := ⟨(z.ra.add z.le).mono (by decide), by rw [en]; exact (z.no.add (zp.mul z.le)).mono (by decide), z1⟩
  unfold dueC
  by_cases d : j = false ∧ st.le = 0
  · rw [if_pos d]
    refine ⟨cok_of (List.pairwise_singleton _ _) ?_, ?_, by simp, fun t ht => now_ne (p := ⟨x.r, x.s, 1⟩) (by simp) ht⟩
    · intro q hq; rw [List.mem_singleton] at hq; subst hq; exact o1
    · intro q hq; rw [List.mem_singleton] at hq; subst hq; exact c0
  rw [if_neg d]
  cases j with
  | true =>
    rw [if_pos rfl]
    by_cases e : st.ra = x.r
    · rw [if_pos e]
      refine ⟨cok_of (List.pairwise_singleton _ _) ?_, ?_, by simp, fun t ht => now_ne (p := ⟨st.ra, st.no, st.pa⟩) (by simp) (by dsimp only; rw [e]; exact ht)⟩
      · intro q hq; rw [List.nil_append, List.mem_singleton] at hq; subst hq; exact p
      · intro q hq; rw [List.nil_append, List.mem_singleton] at hq; subst hq; exact c1
    · rw [if_neg e]
      refine ⟨cok_of ?_ ?_, ?_, by simp, fun t ht => now_ne (p := ⟨x.r, x.s, 1⟩) (by simp) ht⟩
      · unfold AscP
        simp
        grind
      · intro q hq; simp at hq; rcases hq with rfl | rfl <;> assumption
      · intro q hq; simp at hq; rcases hq with rfl | rfl <;> assumption
  | false =>
    have l0 : 0 < st.le := by have := hl rfl; have : ¬ st.le = 0 := fun h => d ⟨rfl, h⟩; grind
    rw [if_neg (show ¬ (false = true) by decide)]
    by_cases e : st.ra = x.r
    · rw [if_pos e]
      refine ⟨cok_of ?_ ?_, ?_, by simp, fun t ht => now_ne (p := ⟨st.ra, st.no, st.pa⟩) (by simp) (by dsimp only; rw [e]; exact ht)⟩
      · unfold AscP
        simp
        grind
      · intro q hq; simp at hq; rcases hq with rfl | rfl <;> assumption
      · intro q hq; simp at hq; rcases hq with rfl | rfl <;> assumption
    · rw [if_neg e]
      refine ⟨cok_of ?_ ?_, ?_, by simp, fun t ht => now_ne (p := ⟨x.r, x.s, 1⟩) (by simp) ht⟩
      · unfold AscP
        simp
        grind
      · intro q hq; simp at hq; rcases hq with rfl | rfl | rfl <;> assumption
      · intro q hq; simp at hq; rcases hq with rfl | rfl | rfl <;> assumption
/-- the time of the turn and what was drawn for it -/
structure Pt (x : Ag) (t q : Rat) (os : Option Spn) : Prop where
  e : t = x.r + q
  z : Sz 5 q
  q0 : 0 ≤ q
  zs : ∀ s, os = some s → SSz 75 s
  le : ∀ p q, os = some (some p, some q) → p ≤ q
section
variable {x : Ag} {t q : Rat} {os : Option Spn}
theorem Pt.xr (h : Pt x t q os) : x.r ≤ t := by have := h.e; have := h.q0; grind
theorem Pt.zt (h : Pt x t q os) (ok : AgOk x) : Sz 26 t := by rw [h.e]; exact ok.zr.add h.z
theorem Pt.now (h : Pt x t q os) : nowT (ls0 x) t = x.s + q := by rw [now_ls0 h.xr, h.e]; grind
theorem Pt.zn (h : Pt x t q os) (ok : AgOk x) : Sz 32 (nowT (ls0 x) t) := by rw [h.now]; exact ok.zs.add h.z
theorem Pt.bn (h : Pt x t q os) : bndT x (ls0 x) t = x.e + x.d * q := by
  show x.e + x.d * (t - x.r) = _
  rw [h.e]; grind
theorem Pt.zb (h : Pt x t q os) (ok : AgOk x) : Sz 35 (bndT x (ls0 x) t) := by rw [h.bn]; exact ok.ze.add (ok.zd.mul h.z)
theorem Pt.b0 (h : Pt x t q os) (ok : AgOk x) : 0 ≤ bndT x (ls0 x) t := by rw [h.bn]; have := mul_nn ok.d0 h.q0; have := ok.e0; grind
theorem ls0_z (ok : AgOk x) : Lsz 32 (ls0 x) := ⟨ok.zr.mono (by decide), ok.zs.mono (by decide), zo1.mono (by decide), zz1.mono (by decide), ok.ze.mono (by decide), nofun⟩
theorem knw_or (p q n b : Rat) : ((knw p q n b).1 = p ∨ (knw p q n b).1 = n - b) ∧ ((knw p q n b).2 = q ∨ (knw p q n b).2 = n + b) := by
  unfold knw
  split
  · exact ⟨.inl rfl, .inl rfl⟩
  · refine ⟨?_, ?_⟩
    · show kLo p n b = p ∨ kLo p n b = n - b
      unfold kLo; split
      · exact .inl rfl
      · exact .inr rfl
    · show kHi q n b = q ∨ kHi q n b = n + b
      unfold kHi; split
      · exact .inl rfl
      · exact .inr rfl
theorem Pt.zk {p q' : Rat} (h : Pt x t q (some (some p, some q'))) (ok : AgOk x) : Sz 75 (knw p q' (nowT (ls0 x) t) (bndT x (ls0 x) t)).1 ∧ Sz 75 (knw p q' (nowT (ls0 x) t) (bndT x (ls0 x) t)).2 := by
  obtain ⟨k1, k2⟩ := knw_or p q' (nowT (ls0 x) t) (bndT x (ls0 x) t)
  have zn := h.zn ok
  have zb := h.zb ok
  have zp : Sz 75 p := (h.zs _ rfl).1 p rfl
  have zq : Sz 75 q' := (h.zs _ rfl).2 q' rfl
  constructor
  · rcases k1 with k1 | k1 <;> rw [k1]
    · exact zp
    · exact (zn.sub zb).mono (by decide)
  · rcases k2 with k2 | k2 <;> rw [k2]
    · exact zq
    · exact (zn.add zb).mono (by decide)
theorem midT_z {u : Rat × Rat} (h : Sz 75 u.1) (g : Sz 75 u.2) : Sz 153 (midT u) := by rw [midT_eq]; exact (h.add g).mul zhf
theorem haf_z {u : Rat × Rat} (h : Sz 75 u.1) (g : Sz 75 u.2) : Sz 153 (haf u) := (g.sub h).mul zhf
/-- what is said of a turned state -/
structure TrnOk (x : Ag) (t : Rat) (r : Ls × Option Rat × Bool) : Prop where
  ra : r.1.ra = t
  pa : 0 < r.1.pa
  le : 0 ≤ r.1.le
  z : Lsz 350 r.1
  zp : Sz 62 r.1.pa
  zl : Sz 210 r.1.le
  za : OSz 153 r.2.1
theorem trnU_ok {u : Rat × Rat} (ok : AgOk x) (h : Pt x t q os) (z1 : Sz 75 u.1) (z2 : Sz 75 u.2) : TrnOk x t (trnU x t (nowT (ls0 x) t) u) := by
  have zm := midT_z z1 z2
  have zh : Sz 153 (midT u - u.1) := by rw [haf_eq]; exact haf_z z1 z2
  have zt : Sz 26 t := h.zt ok
  have zn := h.zn ok
  have zg : Sz 186 (midT u - nowT (ls0 x) t) := zm.sub zn
  have zl : Sz 210 (ab (midT u - nowT (ls0 x) t) / x.l) := (Vk.Sz.ab zg).div ok.zl ok.l0
  unfold trnU
  split
  · exact ⟨rfl, by show (0 : Rat) < 1; decide +kernel, Rat.le_refl, ⟨zt.mono (by decide), zm.mono (by decide), zo1.mono (by decide), zz1.mono (by decide), zh.mono (by decide), fun q e => by cases e; exact zh.mono (by decide)⟩, zo1.mono (by decide), zz1.mono (by decide), fun q e => by cases e; exact zm⟩
  · have zp : Sz 62 (pacT x (midT u - nowT (ls0 x) t)) ∧ 0 < pacT x (midT u - nowT (ls0 x) t) := by
      have l0 := ok.l0
      have l1 := ok.l1
      unfold pacT
      split
      · exact ⟨zo1.mono (by decide), by decide +kernel⟩
      · split
        · exact ⟨(zo1.add ok.zl).mono (by decide), by grind⟩
        · exact ⟨(zo1.add (zz1.sub ok.zl)).mono (by decide), by grind⟩
    have l2 : 0 ≤ ab (midT u - nowT (ls0 x) t) / x.l := by
      have h1 := ab_nn (midT u - nowT (ls0 x) t)
      have e : ab (midT u - nowT (ls0 x) t) = ab (midT u - nowT (ls0 x) t) / x.l * x.l := by rw [Rat.div_mul_cancel]; have := ok.l0; grind
      rw [e] at h1
      refine Rat.not_lt.mp fun hh => ?_
      have := Rat.mul_lt_mul_of_pos_right hh ok.l0
      grind
    exact ⟨rfl, zp.2, l2, ⟨zt.mono (by decide), zn.mono (by decide), zp.1.mono (by decide), zl.mono (by decide), ((Vk.Sz.ab zg).add zh).mono (by decide), fun q e => by cases e; exact zh.mono (by decide)⟩, zp.1, zl, fun q e => by cases e; exact zm⟩
theorem trn0_ok (ok : AgOk x) (h : Pt x t q os) : TrnOk x t (trn0 x (ls0 x) t) := by
  have zt : Sz 26 t := h.zt ok
  exact ⟨rfl, by show (0 : Rat) < 1; decide +kernel, Rat.le_refl, ⟨zt.mono (by decide), (h.zn ok).mono (by decide), zo1.mono (by decide), zz1.mono (by decide), (h.zb ok).mono (by decide), nofun⟩, zo1.mono (by decide), zz1.mono (by decide), nofun⟩
theorem os_or (os : Option Spn) : (∃ p q, os = some (some p, some q)) ∨ ((∀ x st t, trn x st t os = trn0 x st t) ∧ ∀ r t n, strS r t n os = str0 r t n) := by
  cases os with
  | none => exact .inr ⟨fun _ _ _ => rfl, fun _ _ _ => rfl⟩
  | some s =>
    obtain ⟨p, q⟩ := s
    cases p with
    | none => exact .inr ⟨fun _ _ _ => rfl, fun _ _ _ => rfl⟩
    | some p =>
      cases q with
      | none => exact .inr ⟨fun _ _ _ => rfl, fun _ _ _ => rfl⟩
      | some q => exact .inl ⟨p, q, rfl⟩
theorem trn_ok (ok : AgOk x) (h : Pt x t q os) : TrnOk x t (trn x (ls0 x) t os) := by
  rcases os_or os with ⟨p, q', rfl⟩ | ⟨e, _⟩
  · show TrnOk x t (trnU x t (nowT (ls0 x) t) (knT p q' (nowT (ls0 x) t) (bndT x (ls0 x) t)))
    rw [knT_eq (h.le _ _ rfl) (h.b0 ok)]
    exact trnU_ok ok h (h.zk ok).1 (h.zk ok).2
  · rw [e]; exact trn0_ok ok h
theorem rel0 (ok : AgOk x) : Rel x (sr0 x) (ls0 x) none [⟨x.r, x.s, 1⟩] := by
  have d := due_ok (x := x) (st := ls0 x) (j := false) Rat.le_refl (by show (0 : Rat) < 1; decide +kernel) (fun _ => Rat.le_refl) ⟨ok.zr.mono (by decide), ok.zs.mono (by decide), zo1.mono (by decide), zz1.mono (by decide), ok.ze.mono (by decide), nofun⟩ (zo1.mono (by decide)) ok.zr ok.zs
  have e : dueC x (ls0 x) false = [⟨x.r, x.s, 1⟩] := if_pos ⟨rfl, rfl⟩
  rw [e] at d
  exact ⟨rfl, rfl, rfl, fun t ht => err_ls0 ht ok.l0, d.1, d.2.1, by show 1 ≤ 300; decide, ok.zr.mono (by decide), ok.ze.mono (by decide), ok.ze.mono (by decide), ok.zl.mono (by decide), ok.zd.mono (by decide), ⟨ok.zr.mono (by decide), ok.zs.mono (by decide), zo1.mono (by decide), zz1.mono (by decide), ok.ze.mono (by decide), nofun⟩, d.2.2.2⟩
theorem lsz_up {m n : Nat} {st : Ls} (h : Lsz m st) (le : m ≤ n) : Lsz n st := ⟨h.ra.mono le, h.no.mono le, h.pa.mono le, h.le.mono le, h.bo.mono le, fun q e => (h.ha q e).mono le⟩
theorem relA (ok : AgOk x) (h : Pt x t q os) : Rel x (str0 (sr0 x) t (nowT (ls0 x) t)) (trn0 x (ls0 x) t).1 none [⟨x.r, x.s, 1⟩] := by
  have r0 := rel0 ok
  have k := trn0_ok ok h
  have ec := course_turn0 (x := x) (t := t) (n := nowT (ls0 x) t) h.xr (now_ls0 h.xr)
  have ed : dueC x (trn0 x (ls0 x) t).1 false = [⟨x.r, x.s, 1⟩] := if_pos ⟨rfl, rfl⟩
  have zb : Sz 700 (errS (sr0 x) t) := by rw [err_ls0 h.xr ok.l0]; exact (h.zb ok).mono (by decide)
  exact ⟨rfl, by rw [ec, ed], rfl, fun t' ht => err_turn0 h.xr ht ok.l0, r0.ok, r0.cz, r0.len, (h.zt ok).mono (by decide), zb, zb, r0.zsl, r0.zdr, lsz_up k.z (by decide), r0.h0⟩
theorem relT (ok : AgOk x) (h : Pt x t q os) : Rel x (strS (sr0 x) t (nowT (ls0 x) t) os) (trn x (ls0 x) t os).1 (trn x (ls0 x) t os).2.1 (dueC x (trn x (ls0 x) t os).1 (trn x (ls0 x) t os).2.2) := by
  have k := trn_ok ok h
  obtain ⟨d1, d2, d3, d4⟩ := due_ok (x := x) (j := (trn x (ls0 x) t os).2.2) (by rw [k.ra]; exact h.xr) k.pa (fun _ => k.le) k.z k.zp ok.zr ok.zs
  rcases os_or os with ⟨p, q', rfl⟩ | ⟨e, e'⟩
  · have et : trn x (ls0 x) t (some (some p, some q')) = trnU x t (nowT (ls0 x) t) (knw p q' (nowT (ls0 x) t) (errS (sr0 x) t)) := by
      rw [err_ls0 h.xr ok.l0]
      show trnU x t (nowT (ls0 x) t) (knT p q' (nowT (ls0 x) t) (bndT x (ls0 x) t)) = _
      rw [knT_eq (h.le _ _ rfl) (h.b0 ok)]
    have zk := h.zk ok
    have hle := knw_le (n := nowT (ls0 x) t) (b := bndT x (ls0 x) t) (h.le _ _ rfl)
    have zn := h.zn ok
    rw [et] at k d1 d2 d3 d4 ⊢
    have zall : Sz 700 (str2 (sr0 x) t (nowT (ls0 x) t) p q').la ∧ Sz 700 (str2 (sr0 x) t (nowT (ls0 x) t) p q').bd ∧ Sz 700 (str2 (sr0 x) t (nowT (ls0 x) t) p q').hf ∧ (str2 (sr0 x) t (nowT (ls0 x) t) p q').la = t ∧ (str2 (sr0 x) t (nowT (ls0 x) t) p q').sl = x.l ∧ (str2 (sr0 x) t (nowT (ls0 x) t) p q').dr = x.d := by
      unfold str2
      rw [err_ls0 h.xr ok.l0]
      generalize knw p q' (nowT (ls0 x) t) (bndT x (ls0 x) t) = u at zk hle
      have zh := haf_z zk.1 zk.2
      have zf : Sz 700 (farE u.1 u.2 (nowT (ls0 x) t)) := by
        unfold farE
        split
        · exact (Vk.Sz.ab (zn.sub zk.1)).mono (by decide)
        · exact (Vk.Sz.ab (zn.sub zk.2)).mono (by decide)
      split
      · exact ⟨(h.zt ok).mono (by decide), zh.mono (by decide), zh.mono (by decide), rfl, rfl, rfl⟩
      · exact ⟨(h.zt ok).mono (by decide), zf, zh.mono (by decide), rfl, rfl, rfl⟩
    obtain ⟨y1, y2, y3, y4, y5, y6⟩ := zall
    exact ⟨aim_turn2, course_turn2 h.xr (now_ls0 h.xr) ok.l0 ok.l1 ok.o0, y4.trans k.ra.symm, fun t' _ => err_turn2 (h.le _ _ rfl), d1, d2, by omega, y1, y2, y3, by show Sz 60 (str2 _ _ _ _ _).sl; rw [y5]; exact ok.zl.mono (by decide), by show Sz 60 (str2 _ _ _ _ _).dr; rw [y6]; exact ok.zd.mono (by decide), lsz_up k.z (by decide), d4⟩
  · rw [e, e']
    exact relA ok h
/-- what a steer asks -/
theorem st_ok (ok : AgOk x) (h : Pt x t q os) : StOk (sr0 x) t (nowT (ls0 x) t) os := by
  have r0 := rel0 ok
  have ee := err_ls0 h.xr ok.l0
  refine ⟨nowf_sr0 h.xr, r0.ok, r0.cz, by show 1 ≤ 300; decide, (h.zn ok).mono (by decide), by rw [ee]; exact (h.zb ok).mono (by decide), ok.l0, fun q e => (ok.zo q e).mono (by decide), fun s e => ⟨fun q e' => ((h.zs s e).1 q e').mono (by decide), fun q e' => ((h.zs s e).2 q e').mono (by decide)⟩, fun p q' e => ?_⟩
  subst e
  rw [ee]
  have zk := h.zk ok
  have zm := midT_z zk.1 zk.2
  rw [midT_eq] at zm
  exact ⟨zk.1.mono (by decide), zk.2.mono (by decide), zm.mono (by decide), (haf_z zk.1 zk.2).mono (by decide)⟩
end
end Vk

namespace Vk
open PySem L2 Vm Vl Vs
/-! ### a steering and the law's own state, turn after turn -/
theorem now_app (a b : List Pc) (t : Rat) : nowf (a ++ b) t = (nowf b t).or (nowf a t) := by
  rw [now_pc, now_pc, now_pc]
  unfold pcAt
  rw [List.filter_append, List.getLast?_append]
  cases (b.filter (on t)).getLast? <;> rfl
theorem now_kp_before {c P : List Pc} {t t' : Rat} (h : t' < t) (hP : ∀ p ∈ P, t ≤ p.s) : nowf (kp c t ++ P) t' = nowf c t' := by
  have e1 : nowf P t' = none := by
    rw [now_pc]; unfold pcAt
    rw [List.filter_eq_nil_iff.mpr fun p hp => by have := hP p hp; simp [on]; grind]
    rfl
  rw [now_app, e1, Option.none_or, now_pc, now_pc]
  unfold pcAt kp
  rw [List.filter_filter]
  have : c.filter (fun p => on t' p && decide (p.s < t)) = c.filter (on t') := List.filter_congr fun p _ => by
    by_cases g : on t' p = true
    · have g' : ¬ t' < p.s := by simpa [on] using g
      rw [g, Bool.true_and]; exact decide_eq_true (by grind)
    · rw [Bool.eq_false_iff.mpr g, Bool.false_and]
  rw [this]
theorem now_kp_after {c P : List Pc} {t t' v : Rat} (h : nowf P t' = some v) : nowf (kp c t ++ P) t' = some v := by
  rw [now_app, h]; rfl
theorem cok_kp {c P : List Pc} {t : Rat} (ok : Cok c) (okP : Cok P) (hP : ∀ p ∈ P, t ≤ p.s) : Cok (kp c t ++ P) := by
  refine cok_of ?_ ?_
  · unfold AscP
    refine List.pairwise_append.mpr ⟨(ascP_of ok).sublist List.filter_sublist, ascP_of okP, fun a ha b hb => ?_⟩
    have := (List.mem_filter.mp ha).2
    have h1 : a.s < t := of_decide_eq_true this
    have h2 := hP b hb
    grind
  · intro p hp
    rcases List.mem_append.mp hp with h | h
    · exact ok.1 p (List.mem_filter.mp h).1
    · exact okP.1 p h
theorem now_one {t n t' : Rat} (h : t ≤ t') : nowf [(⟨t, n, 1⟩ : Pc)] t' = some (n + (t' - t)) := by
  have e := nowf_next (c := [(⟨t, n, 1⟩ : Pc)]) (t := t') (i := 0) rfl
  rw [if_neg (Rat.not_lt.mpr h)] at e
  have e2 : nowf [(⟨t, n, 1⟩ : Pc)] t' = some (vl t' ⟨t, n, 1⟩) := e
  rw [e2]; unfold vl
  congr 1
  grind
theorem now_two {t n r f m t' : Rat} (h : t ≤ t') : nowf [(⟨t, n, r⟩ : Pc), ⟨f, m, 1⟩] t' = some (if t' < f then n + r * (t' - t) else m + (t' - f)) := by
  have e := nowf_next (c := [(⟨t, n, r⟩ : Pc), ⟨f, m, 1⟩]) (t := t') (i := 1) rfl
  have e0 := nowf_next (c := [(⟨t, n, r⟩ : Pc), ⟨f, m, 1⟩]) (t := t') (i := 0) rfl
  rw [if_neg (Rat.not_lt.mpr h)] at e0
  have e1 : nowf [(⟨t, n, r⟩ : Pc), ⟨f, m, 1⟩] t' = if t' < f then nowf (List.take 1 [(⟨t, n, r⟩ : Pc), ⟨f, m, 1⟩]) t' else some (vl t' ⟨f, m, 1⟩) := e
  rw [e1]
  by_cases c : t' < f
  · rw [if_pos c, if_pos c]
    rw [show nowf (List.take 1 [(⟨t, n, r⟩ : Pc), ⟨f, m, 1⟩]) t' = some (vl t' ⟨t, n, r⟩) from e0]
    rfl
  · rw [if_neg c, if_neg c]; unfold vl
    congr 1
    dsimp only
    grind
theorem cz_one' {Z m : Nat} {t n : Rat} (hZ : 3 * m + 62 ≤ Z) (h : Sz m t) (g : Sz m n) : Cz Z Z 62 [(⟨t, n, 1⟩ : Pc)] := fun p hp => by
  rw [List.mem_singleton] at hp; subst hp
  exact ⟨h.mono (by omega), g.mono (by omega), zo1.mono (by decide)⟩
theorem cz_plan' {Z m : Nat} {t n a l : Rat} (hZ : 3 * m + 62 ≤ Z) (h : Sz m t) (g : Sz m n) (ha : Sz m a) (hl : Sz 60 l) (p1 : 0 < l) : Cz Z Z 62 (plan t n a l) := fun p hp => by
  have y1 : Sz (m + m + 1) (ab (a - n)) := Vk.Sz.ab (ha.sub g)
  have y2 : Sz (m + m + 1 + 60) (ab (a - n) / l) := y1.div hl p1
  have r1 : Sz 62 (1 + l) := (zo1.add hl).mono (by decide)
  have r2 : Sz 62 (1 - l) := (zo1.sub hl).mono (by decide)
  unfold plan at hp
  split at hp
  · rw [List.mem_singleton] at hp; subst hp
    exact ⟨h.mono (by omega), g.mono (by omega), zo1.mono (by decide)⟩
  · rcases List.mem_cons.mp hp with rfl | hp
    · refine ⟨h.mono (by omega), g.mono (by omega), ?_⟩
      dsimp only
      split
      · exact r1
      · exact r2
    · rw [List.mem_singleton] at hp; subst hp
      exact ⟨(h.add y2).mono (by omega), (ha.add y2).mono (by omega), zo1.mono (by decide)⟩
structure Rl (Z : Nat) (x : Ag) (r : Sr) (st : Ls) : Prop where
  la : r.la = st.ra
  now : ∀ t, st.ra ≤ t → nowf r.c t = some (nowT st t)
  er : ∀ t, st.ra ≤ t → errS r t = bndT x st t
  sl : r.sl = x.l
  dr : r.dr = x.d
  ov : r.ov = x.ov
  ok : Cok r.c
  cz : Cz Z Z 62 r.c
  h0 : ∀ t, x.r ≤ t → nowf r.c t ≠ none
  h1 : ∀ t, t < x.r → nowf r.c t = none
  xr : x.r ≤ st.ra
  bd : r.bd = st.bo
  hf : r.hf = st.ha.getD st.bo
  td : tl r.c = r.c
theorem rl0 {Z : Nat} {x : Ag} (hZ : 62 ≤ Z) (ok : AgOk x) : Rl Z x (sr0 x) (ls0 x) := by
  have r0 := rel0 ok
  exact ⟨rfl, fun t h => nowf_sr0 h, fun t h => err_ls0 h ok.l0, rfl, rfl, rfl, r0.ok, (fun p hp => by
    have : p = ⟨x.r, x.s, 1⟩ := List.mem_singleton.mp hp
    subst this
    exact ⟨ok.zr.mono (by omega), ok.zs.mono (by omega), zo1.mono (by decide)⟩), r0.h0, fun t h => by
    rw [now_pc]; unfold pcAt
    have : ((sr0 x).c.filter (on t)) = [] := List.filter_eq_nil_iff.mpr fun p hp => by
      have : p = ⟨x.r, x.s, 1⟩ := List.mem_singleton.mp hp
      subst this
      simp [on]
      exact h
    rw [this]; rfl, Rat.le_refl, rfl, rfl, rfl⟩
/-- the pieces of a plan show what the law's own state says -/
theorem now_plan {x : Ag} {t n a h bo : Rat} {t' : Rat} (l0 : 0 < x.l) (ht : t ≤ t') : nowf (plan t n a x.l) t' = some (nowT ⟨t, n, pacT x (a - n), ab (a - n) / x.l, bo, some h⟩ t') := by
  unfold plan nowT yT
  dsimp only
  by_cases g : a = n
  · rw [if_pos g, now_one ht]
    have ez : ab (a - n) / x.l = 0 := by rw [g, show n - n = 0 by grind, show ab 0 = 0 by decide +kernel]; grind
    have ep : pacT x (a - n) = 1 := if_pos (by grind)
    rw [ez, ep, if_neg (by grind)]
    congr 1
    grind
  · rw [if_neg g, now_two ht]
    have epc : pacT x (a - n) = if n < a then 1 + x.l else 1 - x.l := by
      unfold pacT
      rw [if_neg (show ¬ a - n = 0 by grind)]
      by_cases c2 : n < a
      · rw [if_pos c2, if_pos (show 0 < a - n by grind)]
      · rw [if_neg c2, if_neg (show ¬ 0 < a - n by grind)]; grind
    have hL : x.l * (ab (a - n) / x.l) = ab (a - n) := by rw [Rat.mul_comm, Rat.div_mul_cancel]; grind
    rw [epc]
    generalize ab (a - n) / x.l = y at hL ⊢
    by_cases c : t' < t + y
    · rw [if_pos c, if_pos (show t' - t < y by grind)]
      congr 1
      grind
    · rw [if_neg c, if_neg (show ¬ t' - t < y by grind)]
      congr 1
      by_cases c2 : n < a
      · rw [if_pos c2]
        have e2 : ab (a - n) = a - n := if_neg (by grind)
        rw [e2] at hL
        have e3 : (1 + x.l) * y = y + x.l * y := by grind
        rw [e3, hL]
        grind
      · rw [if_neg c2]
        have e2 : ab (a - n) = -(a - n) := if_pos (by grind)
        rw [e2] at hL
        have e3 : (1 - x.l) * y = y - x.l * y := by grind
        rw [e3, hL]
        grind
theorem plan_mem {t n a l : Rat} (l0 : 0 < l) : ∀ p ∈ plan t n a l, t ≤ p.s := fun p hp => by
  unfold plan at hp
  split at hp
  · rw [List.mem_singleton] at hp; subst hp; exact Rat.le_refl
  · have h2 : 0 ≤ ab (a - n) / l := by
      have h1 := ab_nn (a - n)
      have e : ab (a - n) = ab (a - n) / l * l := by rw [Rat.div_mul_cancel]; grind
      rw [e] at h1
      refine Rat.not_lt.mp fun hh => ?_
      have := Rat.mul_lt_mul_of_pos_right hh l0
      grind
    rcases List.mem_cons.mp hp with rfl | hp
    · exact Rat.le_refl
    · rw [List.mem_singleton] at hp; subst hp
      dsimp only
      grind
theorem plan_cok {t n a l : Rat} (l0 : 0 < l) (l1 : l < 1) : Cok (plan t n a l) := by
  unfold plan
  split
  · refine cok_of (List.pairwise_singleton _ _) fun q hq => ?_
    rw [List.mem_singleton] at hq; subst hq; show (0 : Rat) < 1; decide +kernel
  · rename_i g
    have h2 : 0 < ab (a - n) / l := by
      have h1 : 0 < ab (a - n) := by unfold ab; split <;> grind
      have e : ab (a - n) = ab (a - n) / l * l := by rw [Rat.div_mul_cancel]; grind
      rw [e] at h1
      refine Rat.not_le.mp fun hh => ?_
      have := Rat.mul_le_mul_of_nonneg_right hh (show 0 ≤ l by grind)
      grind
    refine cok_of ?_ fun q hq => ?_
    · unfold AscP
      simp
      grind
    · simp at hq
      rcases hq with rfl | rfl
      · dsimp only; split <;> grind
      · show (0 : Rat) < 1; decide +kernel
/-- what a turn leaves shown -/
structure Turn (Z : Nat) (x : Ag) (r : Sr) (t : Rat) (st' : Ls) (r' : Sr) : Prop where
  rl : Rl Z x r' st'
  old : ∀ t', t' < t → nowf r'.c t' = nowf r.c t'
  len : r'.c.length ≤ r.c.length + 2
theorem turn_of {Z : Nat} {x : Ag} {r : Sr} {st st' : Ls} {t n : Rat} {P : List Pc} {r' : Sr} (R : Rl Z x r st) (ht : st.ra ≤ t) (era : st'.ra = t) (ec : r'.c = tl (kp r.c t ++ P)) (ela : r'.la = t) (es : r'.sl = x.l) (ed : r'.dr = x.d) (eo : r'.ov = x.ov)
    (okP : Cok P) (hP : ∀ p ∈ P, t ≤ p.s) (czP : Cz Z Z 62 P) (hnow : ∀ t', t ≤ t' → nowf P t' = some (nowT st' t')) (her : ∀ t', t ≤ t' → errS r' t' = bndT x st' t') (hbd : r'.bd = st'.bo) (hhf : r'.hf = st'.ha.getD st'.bo) (hlen : P.length ≤ 2) : Turn Z x r t st' r' := by
  have okk := cok_kp (t := t) R.ok okP hP
  have old : ∀ t', t' < t → nowf r'.c t' = nowf r.c t' := fun t' h => by rw [ec, now_tl okk, now_kp_before h hP]
  have new : ∀ t', t ≤ t' → nowf r'.c t' = some (nowT st' t') := fun t' h => by rw [ec, now_tl okk]; exact now_kp_after (hnow t' h)
  have hxt : x.r ≤ t := by have := R.xr; grind
  refine ⟨⟨by rw [ela, era], fun t' h => new t' (by rw [era] at h; exact h), fun t' h => her t' (by rw [era] at h; exact h), es, ed, eo, by rw [ec]; exact cok_tl okk, ?_, ?_, ?_, by rw [era]; exact hxt, hbd, hhf, by rw [ec]; exact tl_tl _⟩, old, by
    rw [ec]
    have h1 := (tl_sub (kp r.c t ++ P)).length_le
    rw [List.length_append] at h1
    have h2 : (kp r.c t).length ≤ r.c.length := List.length_filter_le _ _
    omega⟩
  · rw [ec]
    refine cz_tl fun p hp => ?_
    rcases List.mem_append.mp hp with h | h
    · exact R.cz p (List.mem_filter.mp h).1
    · exact czP p h
  · intro t' h
    by_cases c : t' < t
    · rw [old t' c]; exact R.h0 t' h
    · rw [new t' (Rat.not_lt.mp c)]; exact nofun
  · intro t' h
    rw [old t' (by grind)]; exact R.h1 t' h
theorem err0' {Z : Nat} {x : Ag} {r : Sr} {st : Ls} {t t' n : Rat} (R : Rl Z x r st) (ht : st.ra ≤ t) (h' : t ≤ t') (l0 : 0 < x.l) : errS (str0 r t n) t' = bndT x (trn0 x st t).1 t' := by
  have hm : 0 ≤ x.l * (t' - t) := mul_nn (by grind) (by grind)
  have e := R.er t ht
  have es := R.sl
  have ed := R.dr
  show nextB ⟨errS r t, errS r t, t' - t, r.sl, r.dr⟩ (errS r t) = bndT x st t + x.d * (t' - t)
  rw [e, es, ed]
  unfold nextB
  dsimp only
  split <;> grind
theorem turn0 {Z m : Nat} {x : Ag} {r : Sr} {st : Ls} {t : Rat} (hZ : 3 * m + 62 ≤ Z) (R : Rl Z x r st) (ht : st.ra ≤ t) (l0 : 0 < x.l) (zt : Sz m t) (zn : Sz m (nowT st t)) : Turn Z x r t (trn0 x st t).1 (str0 r t (nowT st t)) := by
  refine turn_of (n := nowT st t) (P := [⟨t, nowT st t, 1⟩]) R ht rfl rfl rfl R.sl R.dr R.ov ?_ ?_ (cz_one' hZ zt zn) ?_ (fun t' h => err0' R ht h l0) (R.er t ht) (R.er t ht) (by show 1 ≤ 2; decide)
  · refine cok_of (List.pairwise_singleton _ _) fun q hq => ?_
    rw [List.mem_singleton] at hq; subst hq; show (0 : Rat) < 1; decide +kernel
  · intro p hp; rw [List.mem_singleton] at hp; subst hp; exact Rat.le_refl
  · intro t' h
    rw [now_one h]
    show _ = some (nowT ⟨t, nowT st t, 1, 0, bndT x st t, none⟩ t')
    generalize nowT st t = n
    unfold nowT yT
    dsimp only
    rw [if_neg (by grind)]
    congr 1
    grind
theorem jmp_eq' {x : Ag} {r : Sr} {a n : Rat} (h : r.ov = x.ov) : jmpS r a n = jmpT x (a - n) := by unfold jmpS jmpT; rw [h] <;> (cases x.ov <;> rfl)
theorem turn2 {Z m : Nat} {x : Ag} {r : Sr} {st : Ls} {t p q : Rat} (hZ : 3 * m + 62 ≤ Z) (R : Rl Z x r st) (ht : st.ra ≤ t) (ok : AgOk x) (pq : p ≤ q) (zt : Sz m t) (zn : Sz m (nowT st t)) (zm : Sz m (midT (knw p q (nowT st t) (bndT x st t)))) :
    Turn Z x r t (trnU x t (nowT st t) (knw p q (nowT st t) (bndT x st t))).1 (str2 r t (nowT st t) p q) ∧ (str2 r t (nowT st t) p q).aim = (trnU x t (nowT st t) (knw p q (nowT st t) (bndT x st t))).2.1 := by
  have l0 := ok.l0
  have hu := knw_le (n := nowT st t) (b := bndT x st t) pq
  unfold str2 trnU
  rw [R.er t ht]
  generalize knw p q (nowT st t) (bndT x st t) = u at hu zm ⊢
  have em : mid u = midT u := (midT_eq u).symm
  have eh : haf u = midT u - u.1 := (haf_eq u).symm
  have ef : farE u.1 u.2 (nowT st t) = ab (midT u - nowT st t) + (midT u - u.1) := by
    rw [far_eq hu, midT_eq]; rfl
  rw [em, eh, ef, jmp_eq' R.ov]
  by_cases c : jmpT x (midT u - nowT st t) = true
  · rw [if_pos c, if_pos c]
    refine ⟨?_, rfl⟩
    refine turn_of (n := midT u) (P := [⟨t, midT u, 1⟩]) R ht rfl rfl rfl R.sl R.dr R.ov ?_ ?_ (cz_one' hZ zt zm) ?_ (fun t' h => ?_) rfl rfl (by show 1 ≤ 2; decide)
    · refine cok_of (List.pairwise_singleton _ _) fun q hq => ?_
      rw [List.mem_singleton] at hq; subst hq; show (0 : Rat) < 1; decide +kernel
    · intro p hp; rw [List.mem_singleton] at hp; subst hp; exact Rat.le_refl
    · intro t' h
      rw [now_one h]
      unfold nowT yT
      dsimp only
      rw [if_neg (by grind)]
      congr 1
      grind
    · have es := R.sl
      have ed := R.dr
      show nextB ⟨_, _, t' - t, r.sl, r.dr⟩ _ = x.d * (t' - t) + _
      rw [es, ed]
      unfold nextB
      dsimp only
      split <;> split <;> grind
  · rw [if_neg c, if_neg c]
    refine ⟨?_, rfl⟩
    refine turn_of (n := nowT st t) (P := plan t (nowT st t) (midT u) r.sl) R ht rfl rfl rfl R.sl R.dr R.ov ?_ ?_ ?_ ?_ (fun t' h => ?_) rfl rfl (by unfold plan; split <;> simp)
    · rw [R.sl]; exact plan_cok l0 ok.l1
    · rw [R.sl]; exact plan_mem l0
    · rw [R.sl]; exact cz_plan' hZ zt zn zm (ok.zl.mono (by decide)) l0
    · intro t' h
      rw [R.sl]; exact now_plan l0 h
    · have es := R.sl
      have ed := R.dr
      show nextB ⟨_, _, t' - t, r.sl, r.dr⟩ _ = x.d * (t' - t) + _
      rw [es, ed]
      unfold nextB
      dsimp only
      split <;> split <;> grind
theorem bnd_nn {x : Ag} {st : Ls} {t : Rat} (ok : AgOk x) (ht : st.ra ≤ t) (b0 : 0 ≤ st.bo) (h0 : ∀ h, st.ha = some h → 0 ≤ h) : 0 ≤ bndT x st t := by
  have hm : 0 ≤ x.d * (t - st.ra) := mul_nn ok.d0 (by grind)
  unfold bndT
  cases e : st.ha with
  | none => dsimp only; grind
  | some h => dsimp only; have := h0 h e; split <;> grind
theorem turnS {Z m : Nat} {x : Ag} {r : Sr} {st : Ls} {t : Rat} {os : Option Spn} (hZ : 3 * m + 62 ≤ Z) (R : Rl Z x r st) (ht : st.ra ≤ t) (ok : AgOk x) (b0 : 0 ≤ bndT x st t) (le : ∀ p q, os = some (some p, some q) → p ≤ q) (zt : Sz m t) (zn : Sz m (nowT st t)) (zm : ∀ p q, os = some (some p, some q) → Sz m (midT (knw p q (nowT st t) (bndT x st t)))) :
    Turn Z x r t (trn x st t os).1 (strS r t (nowT st t) os) ∧ (strS r t (nowT st t) os).aim = (trn x st t os).2.1 := by
  rcases os_or os with ⟨p, q', rfl⟩ | ⟨e, e'⟩
  · have et : trn x st t (some (some p, some q')) = trnU x t (nowT st t) (knw p q' (nowT st t) (bndT x st t)) := by
      show trnU x t (nowT st t) (knT p q' (nowT st t) (bndT x st t)) = _
      rw [knT_eq (le _ _ rfl) b0]
    rw [et]
    exact turn2 hZ R ht ok (le _ _ rfl) zt zn (zm _ _ rfl)
  · rw [e, e']
    exact ⟨turn0 hZ R ht ok.l0 zt zn, rfl⟩
end Vk

namespace Vk
open PySem L2 Vm Vl Vs
theorem Fx.zero {M : Nat} : Fx M 0 0 := ⟨0, by rw [Rat.zero_mul]; rfl, Nat.zero_le _⟩
theorem Fx.ab {M B : Nat} {q : Rat} (h : Fx M B q) : Fx M B (ab q) := by
  unfold Vk.ab
  split
  · exact h.neg
  · exact h
theorem Fx.halfR {M B : Nat} {q : Rat} (h : Fx M B q) : Fx (2 * M) B (q * (1 / 2)) := by
  rw [Nat.mul_comm, ← half_eq]; exact h.half
theorem Fx.up2 {M B : Nat} {q : Rat} (h : Fx M B q) : Fx (2 * M) B q := by
  rw [Nat.mul_comm]; exact h.lift 2
/-- a state's numbers over a common denominator -/
structure Inv (x : Ag) (M B : Nat) (st : Ls) : Prop where
  o : Fx M B (st.no - st.ra)
  g : ∃ g, Fx M B g ∧ 0 ≤ g ∧ st.le = g / x.l
  pa : st.pa = 1 ∨ st.pa = 1 + x.l ∨ st.pa = 1 - x.l
  bo : Fx M B st.bo
  b0 : 0 ≤ st.bo
  ha : ∀ h, st.ha = some h → Fx M B h ∧ 0 ≤ h
section
variable {x : Ag} {M B : Nat} {st : Ls} {t : Rat}
theorem le_mul {g l : Rat} (l0 : 0 < l) : l * (g / l) = g := by rw [Rat.mul_comm, Rat.div_mul_cancel]; grind
theorem Inv.mono {C : Nat} (h : Inv x M B st) (l : B ≤ C) : Inv x M C st := by
  obtain ⟨g, g1, g2, g3⟩ := h.g
  exact ⟨h.o.mono l, ⟨g, g1.mono l, g2, g3⟩, h.pa, h.bo.mono l, h.b0, fun y e => ⟨(h.ha y e).1.mono l, (h.ha y e).2⟩⟩
theorem Inv.lift (N : Nat) (h : Inv x M B st) : Inv x (M * N) B st := by
  obtain ⟨g, g1, g2, g3⟩ := h.g
  exact ⟨h.o.lift N, ⟨g, g1.lift N, g2, g3⟩, h.pa, h.bo.lift N, h.b0, fun y e => ⟨(h.ha y e).1.lift N, (h.ha y e).2⟩⟩
theorem Inv.now (h : Inv x M B st) (l0 : 0 < x.l) (hl : Fx M B (x.l * (t - st.ra))) : Fx M (2 * B) (nowT st t - t) := by
  obtain ⟨g, g1, g2, g3⟩ := h.g
  have hy : Fx M B (x.l * yT st t) := by
    unfold yT
    split
    · exact hl
    · rw [g3, le_mul l0]; exact g1
  have e : nowT st t - t = (st.no - st.ra) + (st.pa - 1) * yT st t := by unfold nowT; grind
  rw [e, show 2 * B = B + B by omega]
  refine h.o.add ?_
  rcases h.pa with e | e | e
  · rw [e, show (1 - 1 : Rat) * yT st t = 0 by grind]; exact Fx.zero.mono (Nat.zero_le _)
  · rw [e, show (1 + x.l - 1) * yT st t = x.l * yT st t by grind]; exact hy
  · rw [e, show (1 - x.l - 1) * yT st t = -(x.l * yT st t) by grind]; exact hy.neg
theorem Inv.bnd (h : Inv x M B st) (hl : Fx M B (x.l * (t - st.ra))) (hd : Fx M B (x.d * (t - st.ra))) : Fx M (4 * B) (bndT x st t) := by
  unfold bndT
  cases e : st.ha with
  | none => dsimp only; exact (h.bo.add hd).mono (by omega)
  | some y =>
    dsimp only
    have hy := (h.ha y e).1
    split
    · exact (hd.add hy).mono (by omega)
    · exact (hd.add (h.bo.sub hl)).mono (by omega)
theorem Inv.bnn (h : Inv x M B st) (ok : AgOk x) (ht : st.ra ≤ t) : 0 ≤ bndT x st t := bnd_nn ok ht h.b0 fun y e => (h.ha y e).2
/-- what a span asks -/
structure SpF (M B : Nat) (t : Rat) (os : Option Spn) : Prop where
  f : ∀ p q, os = some (some p, some q) → Fx M B (p - t) ∧ Fx M B (q - t) ∧ p ≤ q
theorem Inv.knw {p q : Rat} (h : Inv x M B st) (ok : AgOk x) (hl : Fx M B (x.l * (t - st.ra))) (hd : Fx M B (x.d * (t - st.ra))) (hp : Fx M B (p - t)) (hq : Fx M B (q - t)) :
    Fx M (6 * B) ((knw p q (nowT st t) (bndT x st t)).1 - t) ∧ Fx M (6 * B) ((knw p q (nowT st t) (bndT x st t)).2 - t) := by
  obtain ⟨k1, k2⟩ := knw_or p q (nowT st t) (bndT x st t)
  have zn := h.now ok.l0 hl
  have zb := h.bnd hl hd
  constructor
  · rcases k1 with k1 | k1 <;> rw [k1]
    · exact hp.mono (by omega)
    · rw [show nowT st t - bndT x st t - t = (nowT st t - t) - bndT x st t by grind]
      exact (zn.sub zb).mono (by omega)
  · rcases k2 with k2 | k2 <;> rw [k2]
    · exact hq.mono (by omega)
    · rw [show nowT st t + bndT x st t - t = (nowT st t - t) + bndT x st t by grind]
      exact (zn.add zb).mono (by omega)
theorem mid_fx {u : Rat × Rat} (h : Fx M (6 * B) (u.1 - t)) (g : Fx M (6 * B) (u.2 - t)) : Fx (2 * M) (12 * B) (midT u - t) := by
  have e : midT u - t = ((u.1 - t) + (u.2 - t)) * (1 / 2) := by rw [midT_eq]; unfold mid; grind
  rw [e]
  exact (h.add g).halfR.mono (by omega)
theorem haf_fx {u : Rat × Rat} (h : Fx M (6 * B) (u.1 - t)) (g : Fx M (6 * B) (u.2 - t)) : Fx (2 * M) (12 * B) (midT u - u.1) := by
  have e : midT u - u.1 = ((u.2 - t) - (u.1 - t)) * (1 / 2) := by rw [midT_eq]; unfold mid; grind
  rw [e]
  exact (g.sub h).halfR.mono (by omega)
theorem Inv.turn {os : Option Spn} (h : Inv x M B st) (ok : AgOk x) (ht : st.ra ≤ t) (hl : Fx M B (x.l * (t - st.ra))) (hd : Fx M B (x.d * (t - st.ra))) (hs : SpF M B t os) : Inv x (2 * M) (32 * B) (trn x st t os).1 := by
  have zn : Fx (2 * M) (2 * B) (nowT st t - t) := (h.now ok.l0 hl).up2
  have zb : Fx (2 * M) (4 * B) (bndT x st t) := (h.bnd hl hd).up2
  have b0 := h.bnn ok ht
  have o1 : (0 : Rat) / x.l = 0 := by grind
  rcases os_or os with ⟨p, q, rfl⟩ | ⟨e, _⟩
  · obtain ⟨hp, hq, pq⟩ := hs.f p q rfl
    obtain ⟨k1, k2⟩ := h.knw ok hl hd hp hq
    have hu := knw_le (n := nowT st t) (b := bndT x st t) pq
    have et : trn x st t (some (some p, some q)) = trnU x t (nowT st t) (Vk.knw p q (nowT st t) (bndT x st t)) := by
      show trnU x t (nowT st t) (knT p q (nowT st t) (bndT x st t)) = _
      rw [knT_eq pq b0]
    rw [et]
    generalize Vk.knw p q (nowT st t) (bndT x st t) = u at k1 k2 hu
    have hm := mid_fx k1 k2
    have hh := haf_fx k1 k2
    have h0 : 0 ≤ midT u - u.1 := by rw [midT_eq]; unfold mid; grind
    have hg : Fx (2 * M) (14 * B) (midT u - nowT st t) := by
      rw [show midT u - nowT st t = (midT u - t) - (nowT st t - t) by grind]
      exact (hm.sub zn).mono (by omega)
    unfold trnU
    split
    · exact ⟨hm.mono (by omega), ⟨0, Fx.zero.mono (Nat.zero_le _), Rat.le_refl, o1.symm⟩, .inl rfl, hh.mono (by omega), h0, fun y e => by cases e; exact ⟨hh.mono (by omega), h0⟩⟩
    · refine ⟨zn.mono (by omega), ⟨_, hg.ab.mono (by omega), ab_nn _, rfl⟩, ?_, (hg.ab.add hh).mono (by omega), by have := ab_nn (midT u - nowT st t); show 0 ≤ ab _ + _; grind, fun y e => by cases e; exact ⟨hh.mono (by omega), h0⟩⟩
      show pacT _ _ = 1 ∨ _
      unfold pacT
      split
      · exact .inl rfl
      · split
        · exact .inr (.inl rfl)
        · exact .inr (.inr (by grind))
  · rw [e]
    exact ⟨zn.mono (by omega), ⟨0, Fx.zero.mono (Nat.zero_le _), Rat.le_refl, o1.symm⟩, .inl rfl, zb.mono (by omega), b0, nofun⟩
end
end Vk

namespace Vk
open PySem L2 Vm Vl Vs
/-- a denominator and a bound that are small enough -/
structure Lat (k M B : Nat) : Prop where
  m0 : M ≠ 0
  hb : 2 * M * (64 * B) < 2 ^ k
  b0 : 1 ≤ B
section
variable {x : Ag} {k Z M B C : Nat} {st : Ls} {t q : Rat} {r : Sr} {os : Option Spn}
theorem Lat.sz (L : Lat k M B) (h : Fx M C q) (hc : C ≤ 64 * B) : Sz k q := by
  have h1 : M * (64 * B) ≤ 2 * M * (64 * B) := Nat.mul_le_mul_right _ (by omega)
  have h2 : M * 1 ≤ M * (64 * B) := Nat.mul_le_mul_left _ (by have := L.b0; omega)
  have hb := L.hb
  refine (h.mono hc).sz L.m0 ?_ ?_ <;> omega
theorem Lat.sz2 (L : Lat k M B) (h : Fx (2 * M) C q) (hc : C ≤ 64 * B) : Sz k q := by
  have h2 : 2 * M * 1 ≤ 2 * M * (64 * B) := Nat.mul_le_mul_left _ (by have := L.b0; omega)
  have hb := L.hb
  have := L.m0
  refine (h.mono hc).sz (by omega) ?_ ?_ <;> omega
/-- the sizes of what a state shows -/
theorem Inv.zno (L : Lat k M B) (h : Inv x M B st) (hr : Fx M B st.ra) : Sz k st.no := by
  rw [show st.no = (st.no - st.ra) + st.ra by grind]
  exact L.sz (h.o.add hr) (by omega)
theorem Inv.zbo (L : Lat k M B) (h : Inv x M B st) : Sz k st.bo := L.sz h.bo (by omega)
theorem Inv.zha (L : Lat k M B) (h : Inv x M B st) : Sz k (st.ha.getD st.bo) := by
  cases e : st.ha with
  | none => exact h.zbo L
  | some y => exact L.sz (h.ha y e).1 (by omega)
theorem Inv.zn (L : Lat k M B) (h : Inv x M B st) (l0 : 0 < x.l) (hl : Fx M B (x.l * (t - st.ra))) (ht : Fx M B t) : Sz k (nowT st t) := by
  rw [show nowT st t = (nowT st t - t) + t by grind]
  exact L.sz ((h.now l0 hl).add ht) (by omega)
theorem Inv.zb (L : Lat k M B) (h : Inv x M B st) (hl : Fx M B (x.l * (t - st.ra))) (hd : Fx M B (x.d * (t - st.ra))) : Sz k (bndT x st t) := L.sz (h.bnd hl hd) (by omega)
theorem Inv.zk {p q : Rat} (L : Lat k M B) (h : Inv x M B st) (ok : AgOk x) (hl : Fx M B (x.l * (t - st.ra))) (hd : Fx M B (x.d * (t - st.ra))) (ht : Fx M B t) (hp : Fx M B (p - t)) (hq : Fx M B (q - t)) :
    Sz k (Vk.knw p q (nowT st t) (bndT x st t)).1 ∧ Sz k (Vk.knw p q (nowT st t) (bndT x st t)).2 ∧ Sz k (midT (Vk.knw p q (nowT st t) (bndT x st t))) ∧ Sz k (haf (Vk.knw p q (nowT st t) (bndT x st t))) := by
  obtain ⟨k1, k2⟩ := h.knw ok hl hd hp hq
  generalize Vk.knw p q (nowT st t) (bndT x st t) = u at k1 k2
  refine ⟨?_, ?_, ?_, ?_⟩
  · rw [show u.1 = (u.1 - t) + t by grind]; exact L.sz (k1.add ht) (by omega)
  · rw [show u.2 = (u.2 - t) + t by grind]; exact L.sz (k2.add ht) (by omega)
  · rw [show midT u = (midT u - t) + t by grind]; exact L.sz2 ((mid_fx k1 k2).add ht.up2) (by omega)
  · rw [← haf_eq]; exact L.sz2 (haf_fx k1 k2) (by omega)
/-- what a steer asks -/
theorem st_okS (k7 : k ≤ 700) (z2 : Z ≤ 2162) (L : Lat k M B) (R : Rl Z x r st) (h : Inv x M B st) (ok : AgOk x) (ht : st.ra ≤ t) (hl : Fx M B (x.l * (t - st.ra))) (hd : Fx M B (x.d * (t - st.ra))) (hr : Fx M B t) (hs : SpF M B t os) (zs : ∀ s, os = some s → SSz 700 s) (ln : r.c.length ≤ 300) : StOk r t (nowT st t) os := by
  refine ⟨R.now t ht, R.ok, fun p hp => ⟨(R.cz p hp).1.mono z2, (R.cz p hp).2.1.mono z2, (R.cz p hp).2.2⟩, ln, (h.zn L ok.l0 hl hr).mono k7, by rw [R.er t ht]; exact (h.zb L hl hd).mono k7, by rw [R.sl]; exact ok.l0, by rw [R.ov]; exact fun q e => (ok.zo q e).mono (by decide), zs, fun p q' e => ?_⟩
  subst e
  obtain ⟨hp, hq, _⟩ := hs.f p q' rfl
  obtain ⟨k1, k2, k3, k4⟩ := h.zk L ok hl hd hr hp hq
  rw [R.er t ht]
  rw [midT_eq] at k3
  exact ⟨k1.mono k7, k2.mono k7, k3.mono k7, k4.mono k7⟩
theorem turnI (hZ : 3 * k + 62 ≤ Z) (L : Lat k M B) (R : Rl Z x r st) (h : Inv x M B st) (ok : AgOk x) (ht : st.ra ≤ t) (hl : Fx M B (x.l * (t - st.ra))) (hd : Fx M B (x.d * (t - st.ra))) (hr : Fx M B t) (hs : SpF M B t os) :
    Turn Z x r t (trn x st t os).1 (strS r t (nowT st t) os) ∧ (strS r t (nowT st t) os).aim = (trn x st t os).2.1 := by
  refine turnS hZ R ht ok (h.bnn ok ht) (fun p q e => (hs.f p q e).2.2) (L.sz hr (by omega)) (h.zn L ok.l0 hl hr) fun p q e => ?_
  obtain ⟨hp, hq, _⟩ := hs.f p q e
  exact (h.zk L ok hl hd hr hp hq).2.2.1
theorem trn_ra {t : Rat} {os : Option Spn} : (trn x st t os).1.ra = t := by
  rcases os_or os with ⟨p, q, rfl⟩ | ⟨e, _⟩
  · show (trnU x t _ _).1.ra = t
    unfold trnU
    split <;> rfl
  · rw [e]; rfl
end
/-! ### times and spans over LL -/
def S2 (x : Ag) : Nat := LL * (x.l.den * x.d.den)
def Mn (x : Ag) (n : Nat) : Nat := 2 ^ n * S2 x
def Bn' (n : Nat) : Nat := 32 ^ n * 512
theorem fx_den (q : Rat) (B : Nat) (h : q.num.natAbs ≤ q.den * B) : Fx q.den B q := by
  refine ⟨q.num, ?_, h⟩
  have := Rat.mkRat_self q
  have d := Rat.mkRat_eq_div q.num q.den
  rw [Rat.mkRat_self] at d
  have nz : ((q.den : Nat) : Rat) ≠ 0 := fun h => q.den_nz (by exact_mod_cast h)
  have e2 : ((q.den : Int) : Rat) = (q.den : Rat) := rfl
  generalize ((q.den : Nat) : Rat) = x at d nz ⊢
  generalize ((q.num : Int) : Rat) = y at d ⊢
  grind
theorem fx_unit {q : Rat} (h0 : 0 ≤ q) (h1 : q ≤ 1) : Fx q.den 1 q := by
  refine fx_den q 1 ?_
  have n0 : 0 ≤ q.num := Rat.num_nonneg.mpr h0
  have := (Rat.le_iff q 1).mp h1
  simp at this
  omega
theorem fx_LL {n : Nat} {q : Rat} (h : Fx LL B q) : Fx (Mn x n) B q := by
  have := (h.lift (x.l.den * x.d.den)).lift (2 ^ n)
  unfold Mn S2
  rw [Nat.mul_comm]; exact this
theorem fx_l {x : Ag} {n B : Nat} {q : Rat} (ok : AgOk x) (h : Fx LL B q) : Fx (Mn x n) B (x.l * q) := by
  have hl := fx_unit (q := x.l) (by have := ok.l0; grind) (by have := ok.l1; grind)
  have e := (((hl.mul h).lift x.d.den).lift (2 ^ n)).mono (show 1 * B ≤ B by omega)
  have : x.l.den * LL * x.d.den * 2 ^ n = Mn x n := by unfold Mn S2; rw [Nat.mul_comm]; congr 1; rw [Nat.mul_comm x.l.den LL, Nat.mul_assoc]
  rw [this] at e
  exact e
theorem fx_d {x : Ag} {n B : Nat} {q : Rat} (ok : AgOk x) (h : Fx LL B q) : Fx (Mn x n) B (x.d * q) := by
  have hl := fx_unit (q := x.d) ok.d0 (by have := ok.d1; have := ok.l1; grind)
  have e := (((hl.mul h).lift x.l.den).lift (2 ^ n)).mono (show 1 * B ≤ B by omega)
  have : x.d.den * LL * x.l.den * 2 ^ n = Mn x n := by unfold Mn S2; rw [Nat.mul_comm]; congr 1; rw [Nat.mul_comm x.d.den LL, Nat.mul_assoc, Nat.mul_comm x.d.den]
  rw [this] at e
  exact e
theorem lat_n {x : Ag} {n : Nat} (ok : AgOk x) (h : n ≤ 6) : Lat 150 (Mn x n) (Bn' n) := by
  have h1 : 0 < x.l.den := x.l.den_pos
  have h2 : 0 < x.d.den := x.d.den_pos
  have z1 : x.l.den < 2 ^ 24 := ok.zl.2
  have z2 : x.d.den < 2 ^ 24 := ok.zd.2
  have p1 : 2 ^ n ≤ 2 ^ 6 := Nat.pow_le_pow_right (by decide) h
  have p2 : 32 ^ n ≤ 32 ^ 6 := Nat.pow_le_pow_right (by decide) h
  have m1 : x.l.den * x.d.den ≤ 2 ^ 24 * 2 ^ 24 := Nat.mul_le_mul (by omega) (by omega)
  have m2 : S2 x ≤ LL * (2 ^ 24 * 2 ^ 24) := Nat.mul_le_mul_left _ m1
  have m3 : Mn x n ≤ 2 ^ 6 * (LL * (2 ^ 24 * 2 ^ 24)) := Nat.mul_le_mul p1 m2
  have m4 : Bn' n ≤ 32 ^ 6 * 512 := Nat.mul_le_mul_right _ p2
  have m5 : 2 * Mn x n * (64 * Bn' n) ≤ 2 * (2 ^ 6 * (LL * (2 ^ 24 * 2 ^ 24))) * (64 * (32 ^ 6 * 512)) := Nat.mul_le_mul (Nat.mul_le_mul_left _ m3) (Nat.mul_le_mul_left _ m4)
  refine ⟨?_, Nat.lt_of_le_of_lt m5 (by decide +kernel), ?_⟩
  · unfold Mn S2
    have : 0 < 2 ^ n := Nat.two_pow_pos n
    exact Nat.mul_ne_zero (by omega) (Nat.mul_ne_zero (by decide) (Nat.mul_ne_zero (by omega) (by omega)))
  · unfold Bn'
    have : 0 < 32 ^ n := Nat.pow_pos (by decide)
    omega
theorem bn_ge (n : Nat) : 512 ≤ Bn' n := by unfold Bn'; have : 0 < 32 ^ n := Nat.pow_pos (by decide); omega
theorem mn_succ {x : Ag} (n : Nat) : 2 * Mn x n = Mn x (n + 1) := by unfold Mn; rw [Nat.pow_succ]; grind
theorem bn_succ (n : Nat) : 32 * Bn' n = Bn' (n + 1) := by unfold Bn'; rw [Nat.pow_succ]; grind
theorem inv0 {x : Ag} (ok : AgOk x) (h : Fx LL 512 (x.s - x.r)) : Inv x (Mn x 0) (Bn' 0) (ls0 x) := by
  have hb := bn_ge 0
  refine ⟨(fx_LL h).mono hb, ⟨0, Fx.zero.mono (Nat.zero_le _), Rat.le_refl, by show (0 : Rat) = 0 / x.l; grind⟩, .inl rfl, ?_, ok.e0, nofun⟩
  exact (fx_LL (fx5 ok.ze)).mono (by omega)
/-- one turn more -/
structure At (x : Ag) (n : Nat) (r : Sr) (st : Ls) : Prop where
  R : Rl 512 x r st
  I : Inv x (Mn x n) (Bn' n) st
  ra : Fx LL 512 st.ra
  len : r.c.length ≤ 2 * n + 1
theorem At.up {x : Ag} {n : Nat} {r : Sr} {st : Ls} {t : Rat} {os : Option Spn} (A : At x n r st) (ok : AgOk x) (hn : n ≤ 5) (ht : st.ra ≤ t) (ft : Fx LL 512 t) (fd : Fx LL 512 (t - st.ra)) (hs : SpF LL 512 t os) (zs : ∀ s, os = some s → SSz 700 s) :
    StOk r t (nowT st t) os ∧ At x (n + 1) (strS r t (nowT st t) os) (trn x st t os).1 ∧ (∀ t', t' < t → nowf (strS r t (nowT st t) os).c t' = nowf r.c t') ∧ (strS r t (nowT st t) os).aim = (trn x st t os).2.1 ∧ OSz 150 (trn x st t os).2.1 := by
  have L := lat_n ok (show n ≤ 6 by omega)
  have hb := bn_ge n
  have hl : Fx (Mn x n) (Bn' n) (x.l * (t - st.ra)) := (fx_l ok fd).mono hb
  have hd : Fx (Mn x n) (Bn' n) (x.d * (t - st.ra)) := (fx_d ok fd).mono hb
  have hr : Fx (Mn x n) (Bn' n) t := (fx_LL ft).mono hb
  have hs' : SpF (Mn x n) (Bn' n) t os := ⟨fun p q e => ⟨(fx_LL (hs.f p q e).1).mono hb, (fx_LL (hs.f p q e).2.1).mono hb, (hs.f p q e).2.2⟩⟩
  obtain ⟨T, am⟩ := turnI (by decide) L A.R A.I ok ht hl hd hr hs'
  have I' := A.I.turn ok ht hl hd hs'
  rw [mn_succ, bn_succ] at I'
  refine ⟨st_okS (by decide) (by decide) L A.R A.I ok ht hl hd hr hs' zs (by have := A.len; omega), ⟨T.rl, I', by rw [trn_ra]; exact ft, by have := T.len; have := A.len; omega⟩, T.old, am, ?_⟩
  rcases os_or os with ⟨p, q, rfl⟩ | ⟨e, _⟩
  · obtain ⟨hp, hq, pq⟩ := hs'.f p q rfl
    have et : trn x st t (some (some p, some q)) = trnU x t (nowT st t) (Vk.knw p q (nowT st t) (bndT x st t)) := by
      show trnU x t (nowT st t) (knT p q (nowT st t) (bndT x st t)) = _
      rw [knT_eq pq (A.I.bnn ok ht)]
    rw [et]
    have zm := (A.I.zk L ok hl hd hr hp hq).2.2.1
    unfold trnU
    split <;> (intro y e; cases e; exact zm)
  · rw [e]; exact nofun
/-- the sizes that a call asks -/
theorem At.zs {x : Ag} {n : Nat} {r : Sr} {st : Ls} (A : At x n r st) (ok : AgOk x) (hn : n ≤ 6) : Sz 150 r.la ∧ Sz 150 r.bd ∧ Sz 150 r.hf ∧ Sz 60 r.sl ∧ Sz 60 r.dr := by
  have L := lat_n ok hn
  have hb := bn_ge n
  refine ⟨?_, ?_, ?_, ?_, ?_⟩
  · rw [A.R.la]; exact L.sz (fx_LL A.ra) (by omega)
  · rw [A.R.bd]; exact A.I.zbo L
  · rw [A.R.hf]; exact A.I.zha L
  · rw [A.R.sl]; exact ok.zl.mono (by decide)
  · rw [A.R.dr]; exact ok.zd.mono (by decide)
end Vk


set_option maxHeartbeats 4000000
namespace Vk
open PySem L2 Vm Vl Vs
variable {l aZERO aONE aHALF aDR C CB CR CT CV fB fR fT : Addr} {P : Program} {w : World} {K : PySem.W.Frag} {mg : Str → Option Value} {base : Heap} {k : Nat} {f f1 f2 f3 f4 f5 f6 f7 f8 f9 f10 f11 f12 : Addr} {fd fd1 fd2 fd3 fd4 fd5 fd6 fd7 fd8 fd9 fd10 fd11 fd12 : FuncData}
def CallV (K : PySem.W.Frag) (H : Hp) (v : V) (p : Rat × Option Spn) : Prop := ∃ a xr xs, v = .ref a ∧ SqT K H a [xr, xs] ∧ Rq K H xr p.1 ∧ oSp K H xs p.2
theorem CallV.same {H H' : Hp} {v : V} {p : Rat × Option Spn} (e : Same H H') (h : CallV K H v p) : CallV K H' v p := by
  obtain ⟨a, xr, xs, rfl, h, h1, h2⟩ := h
  exact ⟨a, xr, xs, rfl, e.sqt h, h1.same e, h2.same e⟩
theorem opt_fr {s : Addr} {H H' : Hp} {v : V} {o : Option Rat} (e : Fr s H H') (hs : ∃ ys, H s = some (.lst ys)) (h : optV K H v o) : optV K H' v o := by
  cases o with
  | none => exact h
  | some q => exact Rq.fr e hs h
theorem fr_osp {s : Addr} {H H' : Hp} {v : V} {o : Option Spn} (e : Fr s H H') (hs : ∃ ys, H s = some (.lst ys)) (h : oSp K H v o) : oSp K H' v o := by
  cases o with
  | none => exact h
  | some q =>
    obtain ⟨a, u, v, rfl, h, h1, h2⟩ := (h : Spq K H v q)
    exact ⟨a, u, v, rfl, sqt_fr e hs h, opt_fr e hs h1, opt_fr e hs h2⟩
theorem frI_osp {s : Addr} {H H' : Hp} {v : V} {o : Option Spn} (e : Fr s H H') (hs : ∃ C d fs, H s = some (.ins C d fs)) (h : oSp K H v o) : oSp K H' v o := by
  cases o with
  | none => exact h
  | some q => exact frI_spq e hs h
theorem CallV.fr {s : Addr} {H H' : Hp} {v : V} {p : Rat × Option Spn} (e : Fr s H H') (hs : ∃ ys, H s = some (.lst ys)) (h : CallV K H v p) : CallV K H' v p := by
  obtain ⟨a, xr, xs, rfl, h, h1, h2⟩ := h
  exact ⟨a, xr, xs, rfl, sqt_fr e hs h, h1.fr e hs, fr_osp e hs h2⟩
theorem CallV.frI {s : Addr} {H H' : Hp} {v : V} {p : Rat × Option Spn} (e : Fr s H H') (hs : ∃ C d fs, H s = some (.ins C d fs)) (h : CallV K H v p) : CallV K H' v p := by
  obtain ⟨a, xr, xs, rfl, h, h1, h2⟩ := h
  exact ⟨a, xr, xs, rfl, frI_sqt e hs h, frI_rq e hs h1, frI_osp e hs h2⟩
theorem lastsC : Lasts (CallV K) := fun e hs h => h.fr e hs
def lastT (r : Rat) (c : List (Rat × Option Spn)) : Rat := match c.getLast? with
  | none => r
  | some p => p.1
structure COk (r : Rat) (i : Nat) (prev : Rat) (p : Rat × Option Spn) : Prop where
  le : prev ≤ p.1
  fd : Fx LL 31 (p.1 - prev)
  ft : Fx LL (40 + 31 * (i + 1)) p.1
  sp : SpF LL 512 p.1 p.2
  zs : ∀ s, p.2 = some s → SSz 62 s
def Calls (r : Rat) (c : List (Rat × Option Spn)) : Prop := ∀ i p, c[i]? = some p → COk r i (lastT r (c.take i)) p
theorem lastT_snoc (r : Rat) (c : List (Rat × Option Spn)) (p : Rat × Option Spn) : lastT r (c ++ [p]) = p.1 := by
  unfold lastT
  rw [List.getLast?_append]
  rfl
theorem calls_snoc {r : Rat} {c : List (Rat × Option Spn)} {p : Rat × Option Spn} (h : Calls r c) (g : COk r c.length (lastT r c) p) : Calls r (c ++ [p]) := by
  intro i q hq
  by_cases hi : i < c.length
  · rw [List.getElem?_append_left hi] at hq
    rw [List.take_append_of_le_length (by omega)]
    exact h i q hq
  · rw [List.getElem?_append_right (by omega)] at hq
    have e0 : i - c.length = 0 := by
      rcases Nat.eq_zero_or_pos (i - c.length) with e | e
      · exact e
      · rw [List.getElem?_eq_none (by simp; omega)] at hq; cases hq
    rw [e0] at hq
    have e : i = c.length := by omega
    subst e
    cases (show p = q from Option.some.inj hq)
    rw [List.take_left]
    exact g
theorem frAt {s b : Addr} {o : HO} {H H' : Hp} (e : Fr s H H') (n : b ≠ s) (h : H b = some o) : H' b = some o := e b o h n
theorem frNew {s D : Addr} {H G : Hp} (e : Fr s H G) (n : H D = none) (o : HO) : Fr s H (upd G D o) := fun b u h nb => by
  rw [upd_ne (fun e => by subst e; rw [n] at h; cases h)]
  exact e b u h nb
theorem sto_upd {s D : Addr} {H : Hp} (h : Sto l s H) (n1 : D ≠ s) (n2 : D ≠ l) (o : HO) : Sto l s (upd H D o) := by
  obtain ⟨ns, pos, num, seed, hold, cnt, h1, h2, h3, r⟩ := h
  exact ⟨ns, pos, num, seed, hold, cnt, by rw [upd_ne n1.symm]; exact h1, h2, by rw [upd_ne n2.symm]; exact h3, r⟩
theorem free_ne {s B : Addr} {H : Hp} (S : Sto l s H) (n : H B = none) : B ≠ s ∧ B ≠ l := by
  obtain ⟨ns, pos, num, seed, hold, cnt, h1, h2, h3, r⟩ := S
  exact ⟨fun e => (by rw [e, h1] at n; cases n), fun e => (by rw [e, h3] at n; cases n)⟩
theorem last_fx {r : Rat} {c : List (Rat × Option Spn)} (fr : Fx LL 40 r) (cl : Calls r c) : Fx LL (40 + 31 * c.length) (lastT r c) := by
  unfold lastT
  cases e : c.getLast? with
  | none => exact fr.mono (by omega)
  | some p =>
    rw [List.getLast?_eq_getElem?] at e
    have hc : 0 < c.length := by
      rcases Nat.eq_zero_or_pos c.length with h | h
      · rw [List.getElem?_eq_none (by omega)] at e; cases e
      · exact h
    have := (cl _ _ e).ft
    rw [show c.length - 1 + 1 = c.length by omega] at this
    exact this
theorem cok_all {r prev q1 q2 q3 : Rat} {i : Nat} (hp : Fx LL (40 + 31 * i) prev) (hi : i ≤ 4) (z1 : Sz 5 q1) (n1 : 0 ≤ q1) (z2 : Sz 5 q2) (z3 : Sz 5 q3) (n3 : 0 ≤ q3) (os : Option Spn)
    (h : os = none ∨ os = some (none, some (prev + q1 + q2 + q3)) ∨ os = some (some (prev + q1 + q2 - q3), none) ∨ os = some (some (prev + q1 + q2 - q3), some (prev + q1 + q2 + q3))) : COk r i prev (prev + q1, os) := by
  have f1 := fx5 z1
  have f2 := fx5 z2
  have f3 := fx5 z3
  have ft : Fx LL (40 + 31 * (i + 1)) (prev + q1) := (hp.add f1).mono (by omega)
  have flo : Sz 62 (prev + q1 + q2 - q3) := ((ft.add f2).sub f3).szL (by omega)
  have fhi : Sz 62 (prev + q1 + q2 + q3) := ((ft.add f2).add f3).szL (by omega)
  refine ⟨by grind, ?_, ft, ⟨fun p q e => ?_⟩, fun s e => ?_⟩
  · dsimp only
    rw [show prev + q1 - prev = q1 by grind]; exact f1
  · dsimp only at e ⊢
    rcases h with rfl | rfl | rfl | rfl
    · cases e
    · cases e
    · cases e
    · cases e
      refine ⟨?_, ?_, by grind⟩
      · rw [show prev + q1 + q2 - q3 - (prev + q1) = q2 - q3 by grind]; exact (f2.sub f3).mono (by omega)
      · rw [show prev + q1 + q2 + q3 - (prev + q1) = q2 + q3 by grind]; exact (f2.add f3).mono (by omega)
  · dsimp only at e
    rcases h with rfl | rfl | rfl | rfl
    · cases e
    · cases e; exact ⟨nofun, fun q e => by cases e; exact fhi⟩
    · cases e; exact ⟨fun q e => by cases e; exact flo, nofun⟩
    · cases e; exact ⟨fun q e => by cases e; exact flo, fun q e => by cases e; exact fhi⟩
def spSteers (K : PySem.W.Frag) (l : Addr) : Sp := fun vs H Q _ => ∃ (s : Addr) (xf : V) (many : Nat) (r : Rat), vs = [.ref s, xf, .int many] ∧ Sto l s H ∧ Rq K H xf r ∧ Fx LL 40 r ∧ many ≤ 5 ∧
  ∀ D us c H', H' D = some (.lst us) → H D = none → All2 (CallV K H') us c → Calls r c → c.length = many → Sto l s H' → Fr s H H' → Q (.ref D) H'
abbrev s__law_steers : Stmt := top 88
abbrev N__law_steers : List Str := ["_law_store_here", "_law_first", "_law_many", "_law_rows", "_law_raw", "_law_k", "_law_middle", "_law_half", "_law_span", "_law_sort"]
theorem sc__law_steers : FnScope N__law_steers ["_law_store_here", "_law_first", "_law_many"] (defScope s__law_steers) := ⟨rfl, rfl, rfl, by decide +kernel, rfl, by decide +kernel, by decide +kernel⟩
abbrev ps__law_steers : List Str := ["_law_store_here", "_law_first", "_law_many"]
theorem ok_steers (T : Bn mg) (F : Fn K mg "_law_steers" s__law_steers ps__law_steers f fd) (d_law_plus : Def P w K mg base k "_law_plus" ["_law_a", "_law_b"] (spOp2 K (· + ·)) f1 fd1) (d_law_spare : Def P w K mg base k "_law_spare" ["_law_store_here"] (spDraw K l 5 nnQ) f2 fd2)
    (d_law_part : Def P w K mg base k "_law_part" ["_law_store_here"] (spDraw K l 5 anyQ) f3 fd3) (d_law_minus : Def P w K mg base k "_law_minus" ["_law_a", "_law_b"] (spOp2 K (· - ·)) f4 fd4) (d_law_take : Def P w K mg base k "_law_take" ["_law_store_here", "_law_many"] (spTake K l) f5 fd5) :
    Def P w K mg base (k + 1) "_law_steers" ps__law_steers (spSteers K l) f fd := by
  refine ⟨F.F.ok sc__law_steers (fun vs H Q E h => ?_) (fun cdv A outer s H vs Q E hr h => ?_), F.m, F.F.kp, F.b⟩
  · obtain ⟨_, _, _, _, rfl, _⟩ := h
    rfl
  obtain ⟨s, xf, many, r, rfl, hS, hf, fr0, hm, z⟩ := h
  refine ⟨_, (pss_cons (ps_set (i := 3) sc__law_steers.nd rfl (Or.inl rfl) (pe_lst pa_nil))
      (pss_cons (ps_set (i := 4) sc__law_steers.nd rfl (Or.inl rfl) (pv 1))
      (pss_cons (ps_for PassesOwn.never rfl (pi_range1 (by rfl) T.range_ (pa_cons (pv 2) pa_nil)) (pg_name (i := 5) sc__law_steers.nd rfl (Or.inl rfl))
        (pss_cons (ps_set (i := 4) sc__law_steers.nd rfl (Or.inl rfl) (pcall d_law_plus hr (pa_cons (pv 4) (pa_cons (pcall d_law_spare hr (pa_cons (pv 0) pa_nil)) pa_nil))))
        (pss_cons (ps_set (i := 6) sc__law_steers.nd rfl (Or.inl rfl) (pcall d_law_plus hr (pa_cons (pv 4) (pa_cons (pcall d_law_part hr (pa_cons (pv 0) pa_nil)) pa_nil))))
        (pss_cons (ps_set (i := 7) sc__law_steers.nd rfl (Or.inl rfl) (pcall d_law_spare hr (pa_cons (pv 0) pa_nil)))
        (pss_cons (ps_set (i := 8) sc__law_steers.nd rfl (Or.inl rfl) (pe_tup (pa_cons (pcall d_law_minus hr (pa_cons (pv 6) (pa_cons (pv 7) pa_nil))) (pa_cons (pcall d_law_plus hr (pa_cons (pv 6) (pa_cons (pv 7) pa_nil))) pa_nil))))
        (pss_cons (ps_set (i := 9) sc__law_steers.nd rfl (Or.inl rfl) (pcall d_law_take hr (pa_cons (pv 0) (pa_cons pe_int pa_nil))))
        (pss_cons (ps_if (pt_cmpR op_eq (pv 9) pe_int (nomark _))
          (pss_one (ps_set (i := 8) sc__law_steers.nd rfl (Or.inl rfl) pe_non))
          (pss_one (ps_if (pt_cmpR op_eq (pv 9) pe_int (nomark _))
            (pss_one (ps_set (i := 8) sc__law_steers.nd rfl (Or.inl rfl) (pe_tup (pa_cons pe_non (pa_cons (pe_ix ix_tup (pv 8) pe_int (fun _ _ => rfl)) pa_nil)))))
            (pss_one (ps_if (pt_cmpR op_eq (pv 9) pe_int (nomark _))
              (pss_one (ps_set (i := 8) sc__law_steers.nd rfl (Or.inl rfl) (pe_tup (pa_cons (pe_ix ix_tup (pv 8) pe_int (fun _ _ => rfl)) (pa_cons pe_non pa_nil)))))
              pss_nil)))))
        (pss_one (ps_expr (pe_bm PySem.F.plainAttrs_list PySem.F.slot_list_append PySem.F.type_list_append mt_append (pv 3) (pa_cons (pe_tup (pa_cons (pv 4) (pa_cons (pv 8) pa_nil))) pa_nil)))))))))))
      (pss_one (ps_ret (pv 3)))))), ?_⟩
  (walk_at "vk_vc")
  revert np
  revert p
  intro B nB
  obtain ⟨nBs, nBl⟩ := free_ne hS nB
  refine forR (lo := 0) (n := many) (fun i σ G => Hold (∃ (xr : V) (us : List V) (c : List (Rat × Option Spn)) (k5 k6 k7 k8 k9 : Option V), σ = [some (.ref s), some xf, some (.int many), some (.ref B), some xr, k5, k6, k7, k8, k9] ∧ Sto l s G ∧ Fr s H G ∧ G B = some (.lst us) ∧ All2 (CallV K G) us c ∧ c.length = i ∧ Calls r c ∧ Rq K G xr (lastT r c)))
    ⟨xf, [], [], none, none, none, none, none, rfl, hS.same (same_new nB _), Fr.of (same_new nB _), upd_same, All2.nil, rfl, nofun, hf.same (same_new nB _)⟩ ?_ ?_
  · rintro i σ G hi ⟨xr, us, c, k5, k6, k7, k8, k9, rfl, S1, e1, hB, hc, hl, cl, hr⟩
    have hs1 := S1.some
    obtain ⟨br, rfl, _⟩ := id hr
    have fl := last_fx fr0 cl
    have ul : us.length ≤ 5 := by rw [hc.1]; omega
    have zr : Sz 62 (lastT r c) := fl.szL (by omega)
    generalize hpv : lastT r c = pv at hr fl zr
    have fin : ∀ (G1 : Hp) (tt : Addr) (xr xs : V) (q1 q2 q3 : Rat) (os : Option Spn) (k5 k6 k7 k8 k9 : Option V), Sto l s G1 → Fr s G G1 → G1 tt = none → Rq K G1 xr (pv + q1) → oSp K G1 xs os → Sz 5 q1 → 0 ≤ q1 → Sz 5 q2 → Sz 5 q3 → 0 ≤ q3 → (os = none ∨ os = some (none, some (pv + q1 + q2 + q3)) ∨ os = some (some (pv + q1 + q2 - q3), none) ∨ os = some (some (pv + q1 + q2 - q3), some (pv + q1 + q2 + q3))) →
        ∃ (xr' : V) (us2 : List V) (c : List (Rat × Option Spn)) (k5' k6' k7' k8' k9' : Option V), [some (.ref s), some xf, some (.int many), some (.ref B), some xr, k5, k6, k7, k8, k9] = [some (.ref s), some xf, some (.int many), some (.ref B), some xr', k5', k6', k7', k8', k9'] ∧ Sto l s (upd (upd G1 tt (.tup [xr, xs])) B (.lst (us ++ [.ref tt]))) ∧ Fr s H (upd (upd G1 tt (.tup [xr, xs])) B (.lst (us ++ [.ref tt]))) ∧ (upd (upd G1 tt (.tup [xr, xs])) B (.lst (us ++ [.ref tt]))) B = some (.lst us2) ∧ All2 (CallV K (upd (upd G1 tt (.tup [xr, xs])) B (.lst (us ++ [.ref tt])))) us2 c ∧ c.length = i + 1 ∧ Calls r c ∧ Rq K (upd (upd G1 tt (.tup [xr, xs])) B (.lst (us ++ [.ref tt]))) xr' (lastT r c) := by
      intro G1 tt xr xs q1 q2 q3 os k5 k6 k7 k8 k9 S2 e2 nt hr2 ho2 z1 n1 z2 z3 n3 hos
      have sT := same_new nt (.tup [xr, xs])
      have S3 := S2.same sT
      have hB2 : (upd G1 tt (.tup [xr, xs])) B = some (.lst us) := sT _ _ (e2 _ _ hB nBs)
      have hBl : ∃ ys, (upd G1 tt (.tup [xr, xs])) B = some (.lst ys) := ⟨_, hB2⟩
      have fB : Fr B (upd G1 tt (.tup [xr, xs])) (upd (upd G1 tt (.tup [xr, xs])) B (.lst (us ++ [.ref tt]))) := Fr.upd _
      have e3 : Fr s G (upd G1 tt (.tup [xr, xs])) := e2.trans (Fr.of sT)
      have ok := cok_all (r := r) (i := i) (by rw [← hl]; exact fl) (by omega) z1 n1 z2 z3 n3 os hos
      refine ⟨xr, us ++ [.ref tt], c ++ [(pv + q1, os)], _, _, _, _, _, rfl, sto_upd S3 nBs nBl _, frNew (e1.trans e3) nB _, upd_same, ?_, by rw [List.length_append, hl]; rfl, calls_snoc cl (by rw [hl, hpv]; exact ok), ?_⟩
      · refine (hc.imp fun _ _ h => (h.fr e3 hs1).fr fB hBl).snoc ?_
        exact CallV.fr fB hBl ⟨tt, xr, xs, rfl, SqT.of upd_same, hr2.same sT, ho2.same sT⟩
      · rw [lastT_snoc]
        exact (hr2.same sT).fr fB hBl
    unfold nnQ anyQ at *
    have sz0 : Sz 5 (0 : Rat) := by decide +kernel
    (walk_at "vk_vc")
    · refine ⟨B, us, _, rfl, rfl, ?_, by rw [sizeLine_eq]; omega, ?_⟩
      · (walk_at "vk_raw")
      refine' (fun h => ⟨h⟩) (fin _ _ _ _ _ 0 0 none _ _ _ _ _ ?_ ?_ np ?_ rfl ?_ ?_ sz0 sz0 Rat.le_refl (.inl rfl))
      any_goals ((show Rq _ _ _ _); (walk_at "vk_cl"))
      · (walk_at "vk_sto")
      · focus (walk_at "vk_fr")
      · assumption
      · assumption
    · refine ⟨B, us, _, rfl, rfl, ?_, by rw [sizeLine_eq]; omega, ?_⟩
      · (walk_at "vk_raw")
      refine' (fun h => ⟨h⟩) (fin _ _ _ _ _ _ _ (some (none, some _)) _ _ _ _ _ ?_ ?_ np ?_ ⟨_, _, _, rfl, SqT.of upd_same, rfl, (?_ : Rq K _ _ _)⟩ ?_ ?_ ?_ ?_ ?_ (.inr (.inl rfl)))
      any_goals ((show Rq _ _ _ _); (walk_at "vk_cl"))
      · (walk_at "vk_sto")
      · focus (walk_at "vk_fr")
      all_goals assumption
    · refine ⟨B, us, _, rfl, rfl, ?_, by rw [sizeLine_eq]; omega, ?_⟩
      · (walk_at "vk_raw")
      refine' (fun h => ⟨h⟩) (fin _ _ _ _ _ _ _ (some (some _, none)) _ _ _ _ _ ?_ ?_ np ?_ ⟨_, _, _, rfl, SqT.of upd_same, (?_ : Rq K _ _ _), rfl⟩ ?_ ?_ ?_ ?_ ?_ (.inr (.inr (.inl rfl))))
      any_goals ((show Rq _ _ _ _); (walk_at "vk_cl"))
      · (walk_at "vk_sto")
      · focus (walk_at "vk_fr")
      all_goals assumption
    · refine ⟨B, us, _, rfl, rfl, ?_, by rw [sizeLine_eq]; omega, ?_⟩
      · (walk_at "vk_raw")
      refine' (fun h => ⟨h⟩) (fin _ _ _ _ _ _ _ (some (some _, some _)) _ _ _ _ _ ?_ ?_ np ?_ ⟨_, _, _, rfl, sqt_fr e (Sto.some (l := l) (by (walk_at "vk_sto"))) (SqT.of upd_same), (?_ : Rq K _ _ _), (?_ : Rq K _ _ _)⟩ ?_ ?_ ?_ ?_ ?_ (.inr (.inr (.inr rfl))))
      any_goals ((show Rq _ _ _ _); (walk_at "vk_cl"))
      · (walk_at "vk_sto")
      · focus (walk_at "vk_fr")
      all_goals assumption
  · rintro σ G ⟨xr, us, c, k5, k6, k7, k8, k9, rfl, S1, e1, hB, hc, hl, cl, hr⟩
    exact ⟨_, rfl, z _ _ _ _ hB nB hc cl hl S1 e1⟩
end Vk

set_option maxHeartbeats 4000000
namespace Vk
open PySem L2 Vm Vl
variable {cZeroDivisor cBadNumber cEmptySpan cBeforeStart cTurnsBack cBadRate cBadBound cBadName cDuplicateName cUnknownName cBadLink cUnknownLink cBadNote cUnknownMoment cNoWorld cOutsideSpan cTooManyLiars cRootFollows cCondemned cBadDate cBadLeap cBadLabel cNoSuchSecond cBadCells cRefusedEntry cDuplicateTag cUnknownTag cBadLine cNothingToUndo cNothingToRedo cVerdictError : Addr} {P : Program} {w : World} {K : PySem.W.Frag} {mg : Str → Option Value} {base : Heap} {k : Nat} {f : Addr} {fd : FuncData}
/-- the classes of errors by their names -/
structure CG (mg : Str → Option Value) (cZeroDivisor cBadNumber cEmptySpan cBeforeStart cTurnsBack cBadRate cBadBound cBadName cDuplicateName cUnknownName cBadLink cUnknownLink cBadNote cUnknownMoment cNoWorld cOutsideSpan cTooManyLiars cRootFollows cCondemned cBadDate cBadLeap cBadLabel cNoSuchSecond cBadCells cRefusedEntry cDuplicateTag cUnknownTag cBadLine cNothingToUndo cNothingToRedo cVerdictError : Addr) : Prop where
  gZeroDivisor : mg "ZeroDivisor" = some (.ref cZeroDivisor)
  gBadNumber : mg "BadNumber" = some (.ref cBadNumber)
  gEmptySpan : mg "EmptySpan" = some (.ref cEmptySpan)
  gBeforeStart : mg "BeforeStart" = some (.ref cBeforeStart)
  gTurnsBack : mg "TurnsBack" = some (.ref cTurnsBack)
  gBadRate : mg "BadRate" = some (.ref cBadRate)
  gBadBound : mg "BadBound" = some (.ref cBadBound)
  gBadName : mg "BadName" = some (.ref cBadName)
  gDuplicateName : mg "DuplicateName" = some (.ref cDuplicateName)
  gUnknownName : mg "UnknownName" = some (.ref cUnknownName)
  gBadLink : mg "BadLink" = some (.ref cBadLink)
  gUnknownLink : mg "UnknownLink" = some (.ref cUnknownLink)
  gBadNote : mg "BadNote" = some (.ref cBadNote)
  gUnknownMoment : mg "UnknownMoment" = some (.ref cUnknownMoment)
  gNoWorld : mg "NoWorld" = some (.ref cNoWorld)
  gOutsideSpan : mg "OutsideSpan" = some (.ref cOutsideSpan)
  gTooManyLiars : mg "TooManyLiars" = some (.ref cTooManyLiars)
  gRootFollows : mg "RootFollows" = some (.ref cRootFollows)
  gCondemned : mg "Condemned" = some (.ref cCondemned)
  gBadDate : mg "BadDate" = some (.ref cBadDate)
  gBadLeap : mg "BadLeap" = some (.ref cBadLeap)
  gBadLabel : mg "BadLabel" = some (.ref cBadLabel)
  gNoSuchSecond : mg "NoSuchSecond" = some (.ref cNoSuchSecond)
  gBadCells : mg "BadCells" = some (.ref cBadCells)
  gRefusedEntry : mg "RefusedEntry" = some (.ref cRefusedEntry)
  gDuplicateTag : mg "DuplicateTag" = some (.ref cDuplicateTag)
  gUnknownTag : mg "UnknownTag" = some (.ref cUnknownTag)
  gBadLine : mg "BadLine" = some (.ref cBadLine)
  gNothingToUndo : mg "NothingToUndo" = some (.ref cNothingToUndo)
  gNothingToRedo : mg "NothingToRedo" = some (.ref cNothingToRedo)
  gV : mg "VerdictError" = some (.ref cVerdictError)
  mV : mg "ValueError" = none
/-- what isinstance says of an error of the n-th class, which stands at C -/
structure Ak (K : PySem.W.Frag) (cZeroDivisor cBadNumber cEmptySpan cBeforeStart cTurnsBack cBadRate cBadBound cBadName cDuplicateName cUnknownName cBadLink cUnknownLink cBadNote cUnknownMoment cNoWorld cOutsideSpan cTooManyLiars cRootFollows cCondemned cBadDate cBadLeap cBadLabel cNoSuchSecond cBadCells cRefusedEntry cDuplicateTag cUnknownTag cBadLine cNothingToUndo cNothingToRedo : Addr) (n : Nat) (C : Addr) : Prop where
  e : ExcC K C
  kZeroDivisor : PySem.W.kitOne K (.ref C) (.ref cZeroDivisor) = some (decide (0 = n))
  kBadNumber : PySem.W.kitOne K (.ref C) (.ref cBadNumber) = some (decide (1 = n))
  kEmptySpan : PySem.W.kitOne K (.ref C) (.ref cEmptySpan) = some (decide (2 = n))
  kBeforeStart : PySem.W.kitOne K (.ref C) (.ref cBeforeStart) = some (decide (3 = n))
  kTurnsBack : PySem.W.kitOne K (.ref C) (.ref cTurnsBack) = some (decide (4 = n))
  kBadRate : PySem.W.kitOne K (.ref C) (.ref cBadRate) = some (decide (5 = n))
  kBadBound : PySem.W.kitOne K (.ref C) (.ref cBadBound) = some (decide (6 = n))
  kBadName : PySem.W.kitOne K (.ref C) (.ref cBadName) = some (decide (7 = n))
  kDuplicateName : PySem.W.kitOne K (.ref C) (.ref cDuplicateName) = some (decide (8 = n))
  kUnknownName : PySem.W.kitOne K (.ref C) (.ref cUnknownName) = some (decide (9 = n))
  kBadLink : PySem.W.kitOne K (.ref C) (.ref cBadLink) = some (decide (10 = n))
  kUnknownLink : PySem.W.kitOne K (.ref C) (.ref cUnknownLink) = some (decide (11 = n))
  kBadNote : PySem.W.kitOne K (.ref C) (.ref cBadNote) = some (decide (12 = n))
  kUnknownMoment : PySem.W.kitOne K (.ref C) (.ref cUnknownMoment) = some (decide (13 = n))
  kNoWorld : PySem.W.kitOne K (.ref C) (.ref cNoWorld) = some (decide (14 = n))
  kOutsideSpan : PySem.W.kitOne K (.ref C) (.ref cOutsideSpan) = some (decide (15 = n))
  kTooManyLiars : PySem.W.kitOne K (.ref C) (.ref cTooManyLiars) = some (decide (16 = n))
  kRootFollows : PySem.W.kitOne K (.ref C) (.ref cRootFollows) = some (decide (17 = n))
  kCondemned : PySem.W.kitOne K (.ref C) (.ref cCondemned) = some (decide (18 = n))
  kBadDate : PySem.W.kitOne K (.ref C) (.ref cBadDate) = some (decide (19 = n))
  kBadLeap : PySem.W.kitOne K (.ref C) (.ref cBadLeap) = some (decide (20 = n))
  kBadLabel : PySem.W.kitOne K (.ref C) (.ref cBadLabel) = some (decide (21 = n))
  kNoSuchSecond : PySem.W.kitOne K (.ref C) (.ref cNoSuchSecond) = some (decide (22 = n))
  kBadCells : PySem.W.kitOne K (.ref C) (.ref cBadCells) = some (decide (23 = n))
  kRefusedEntry : PySem.W.kitOne K (.ref C) (.ref cRefusedEntry) = some (decide (24 = n))
  kDuplicateTag : PySem.W.kitOne K (.ref C) (.ref cDuplicateTag) = some (decide (25 = n))
  kUnknownTag : PySem.W.kitOne K (.ref C) (.ref cUnknownTag) = some (decide (26 = n))
  kBadLine : PySem.W.kitOne K (.ref C) (.ref cBadLine) = some (decide (27 = n))
  kNothingToUndo : PySem.W.kitOne K (.ref C) (.ref cNothingToUndo) = some (decide (28 = n))
  kNothingToRedo : PySem.W.kitOne K (.ref C) (.ref cNothingToRedo) = some (decide (29 = n))
  kV : PySem.W.kitOne K (.ref C) (.type "ValueError") = some true
abbrev s__law_alone : Stmt := top 93
abbrev N__law_alone : List Str := ["_law_e", "_law_kinds"]
theorem sc__law_alone : FnScope N__law_alone ["_law_e"] (defScope s__law_alone) := ⟨rfl, rfl, rfl, by decide +kernel, rfl, by decide +kernel, by decide +kernel⟩
abbrev ps__law_alone : List Str := ["_law_e"]
def spAlone (K : PySem.W.Frag) (cZeroDivisor cBadNumber cEmptySpan cBeforeStart cTurnsBack cBadRate cBadBound cBadName cDuplicateName cUnknownName cBadLink cUnknownLink cBadNote cUnknownMoment cNoWorld cOutsideSpan cTooManyLiars cRootFollows cCondemned cBadDate cBadLeap cBadLabel cNoSuchSecond cBadCells cRefusedEntry cDuplicateTag cUnknownTag cBadLine cNothingToUndo cNothingToRedo : Addr) (p : Addr × Obj) : Sp := fun vs H Q _ => ∃ (n : Nat) (C d : Addr) (fs : List (Str × V)), n < 30 ∧ Ak K cZeroDivisor cBadNumber cEmptySpan cBeforeStart cTurnsBack cBadRate cBadBound cBadName cDuplicateName cUnknownName cBadLink cUnknownLink cBadNote cUnknownMoment cNoWorld cOutsideSpan cTooManyLiars cRootFollows cCondemned cBadDate cBadLeap cBadLabel cNoSuchSecond cBadCells cRefusedEntry cDuplicateTag cUnknownTag cBadLine cNothingToUndo cNothingToRedo n C ∧ vs = [.ref p.1] ∧ Zc (.ref C) (some d) p.2 ∧ (∃ fv, p.2.data = .fields fv) ∧ H d = some (.xd fs) ∧ ∀ H', Same H H' → Q (.bl true) H'
theorem ok_alone (T : Bn mg) (C : CG mg cZeroDivisor cBadNumber cEmptySpan cBeforeStart cTurnsBack cBadRate cBadBound cBadName cDuplicateName cUnknownName cBadLink cUnknownLink cBadNote cUnknownMoment cNoWorld cOutsideSpan cTooManyLiars cRootFollows cCondemned cBadDate cBadLeap cBadLabel cNoSuchSecond cBadCells cRefusedEntry cDuplicateTag cUnknownTag cBadLine cNothingToUndo cNothingToRedo cVerdictError) (F : Fn K mg "_law_alone" s__law_alone ps__law_alone f fd) : DefP P w K mg base (k + 1) "_law_alone" ps__law_alone (spAlone K cZeroDivisor cBadNumber cEmptySpan cBeforeStart cTurnsBack cBadRate cBadBound cBadName cDuplicateName cUnknownName cBadLink cUnknownLink cBadNote cUnknownMoment cNoWorld cOutsideSpan cTooManyLiars cRootFollows cCondemned cBadDate cBadLeap cBadLabel cNoSuchSecond cBadCells cRefusedEntry cDuplicateTag cUnknownTag cBadLine cNothingToUndo cNothingToRedo) f fd := by
  refine ⟨okP F.F sc__law_alone (fun p vs H Q E h => ?_) (fun cdv A outer s H vs Q E p hot hr h => ?_), F.m, F.F.kp, F.b⟩
  · obtain ⟨_, _, _, _, _, _, rfl, _⟩ := h
    rfl
  obtain ⟨n, CE, d, fs, hn, A, rfl, hz, hf, hd, z⟩ := h
  obtain ⟨pa, po⟩ := p
  refine ⟨_, (pss_cons (ps_set (i := 1) sc__law_alone.nd rfl (Or.inl rfl) (pe_lst (pa_cons (pe_callB (call_isP A.e hz hf List.mem_cons_self) (by rfl) T.isinstance_ (by decide +kernel) (pa_cons (pv 0) (pa_cons (pe_glob (v := .ref cZeroDivisor) (u := .ref cZeroDivisor) (by rfl) C.gZeroDivisor rfl) pa_nil))) (pa_cons (pe_callB (call_isP A.e hz hf List.mem_cons_self) (by rfl) T.isinstance_ (by decide +kernel) (pa_cons (pv 0) (pa_cons (pe_glob (v := .ref cBadNumber) (u := .ref cBadNumber) (by rfl) C.gBadNumber rfl) pa_nil))) (pa_cons (pe_callB (call_isP A.e hz hf List.mem_cons_self) (by rfl) T.isinstance_ (by decide +kernel) (pa_cons (pv 0) (pa_cons (pe_glob (v := .ref cEmptySpan) (u := .ref cEmptySpan) (by rfl) C.gEmptySpan rfl) pa_nil))) (pa_cons (pe_callB (call_isP A.e hz hf List.mem_cons_self) (by rfl) T.isinstance_ (by decide +kernel) (pa_cons (pv 0) (pa_cons (pe_glob (v := .ref cBeforeStart) (u := .ref cBeforeStart) (by rfl) C.gBeforeStart rfl) pa_nil))) (pa_cons (pe_callB (call_isP A.e hz hf List.mem_cons_self) (by rfl) T.isinstance_ (by decide +kernel) (pa_cons (pv 0) (pa_cons (pe_glob (v := .ref cTurnsBack) (u := .ref cTurnsBack) (by rfl) C.gTurnsBack rfl) pa_nil))) (pa_cons (pe_callB (call_isP A.e hz hf List.mem_cons_self) (by rfl) T.isinstance_ (by decide +kernel) (pa_cons (pv 0) (pa_cons (pe_glob (v := .ref cBadRate) (u := .ref cBadRate) (by rfl) C.gBadRate rfl) pa_nil))) (pa_cons (pe_callB (call_isP A.e hz hf List.mem_cons_self) (by rfl) T.isinstance_ (by decide +kernel) (pa_cons (pv 0) (pa_cons (pe_glob (v := .ref cBadBound) (u := .ref cBadBound) (by rfl) C.gBadBound rfl) pa_nil))) (pa_cons (pe_callB (call_isP A.e hz hf List.mem_cons_self) (by rfl) T.isinstance_ (by decide +kernel) (pa_cons (pv 0) (pa_cons (pe_glob (v := .ref cBadName) (u := .ref cBadName) (by rfl) C.gBadName rfl) pa_nil))) (pa_cons (pe_callB (call_isP A.e hz hf List.mem_cons_self) (by rfl) T.isinstance_ (by decide +kernel) (pa_cons (pv 0) (pa_cons (pe_glob (v := .ref cDuplicateName) (u := .ref cDuplicateName) (by rfl) C.gDuplicateName rfl) pa_nil))) (pa_cons (pe_callB (call_isP A.e hz hf List.mem_cons_self) (by rfl) T.isinstance_ (by decide +kernel) (pa_cons (pv 0) (pa_cons (pe_glob (v := .ref cUnknownName) (u := .ref cUnknownName) (by rfl) C.gUnknownName rfl) pa_nil))) (pa_cons (pe_callB (call_isP A.e hz hf List.mem_cons_self) (by rfl) T.isinstance_ (by decide +kernel) (pa_cons (pv 0) (pa_cons (pe_glob (v := .ref cBadLink) (u := .ref cBadLink) (by rfl) C.gBadLink rfl) pa_nil))) (pa_cons (pe_callB (call_isP A.e hz hf List.mem_cons_self) (by rfl) T.isinstance_ (by decide +kernel) (pa_cons (pv 0) (pa_cons (pe_glob (v := .ref cUnknownLink) (u := .ref cUnknownLink) (by rfl) C.gUnknownLink rfl) pa_nil))) (pa_cons (pe_callB (call_isP A.e hz hf List.mem_cons_self) (by rfl) T.isinstance_ (by decide +kernel) (pa_cons (pv 0) (pa_cons (pe_glob (v := .ref cBadNote) (u := .ref cBadNote) (by rfl) C.gBadNote rfl) pa_nil))) (pa_cons (pe_callB (call_isP A.e hz hf List.mem_cons_self) (by rfl) T.isinstance_ (by decide +kernel) (pa_cons (pv 0) (pa_cons (pe_glob (v := .ref cUnknownMoment) (u := .ref cUnknownMoment) (by rfl) C.gUnknownMoment rfl) pa_nil))) (pa_cons (pe_callB (call_isP A.e hz hf List.mem_cons_self) (by rfl) T.isinstance_ (by decide +kernel) (pa_cons (pv 0) (pa_cons (pe_glob (v := .ref cNoWorld) (u := .ref cNoWorld) (by rfl) C.gNoWorld rfl) pa_nil))) (pa_cons (pe_callB (call_isP A.e hz hf List.mem_cons_self) (by rfl) T.isinstance_ (by decide +kernel) (pa_cons (pv 0) (pa_cons (pe_glob (v := .ref cOutsideSpan) (u := .ref cOutsideSpan) (by rfl) C.gOutsideSpan rfl) pa_nil))) (pa_cons (pe_callB (call_isP A.e hz hf List.mem_cons_self) (by rfl) T.isinstance_ (by decide +kernel) (pa_cons (pv 0) (pa_cons (pe_glob (v := .ref cTooManyLiars) (u := .ref cTooManyLiars) (by rfl) C.gTooManyLiars rfl) pa_nil))) (pa_cons (pe_callB (call_isP A.e hz hf List.mem_cons_self) (by rfl) T.isinstance_ (by decide +kernel) (pa_cons (pv 0) (pa_cons (pe_glob (v := .ref cRootFollows) (u := .ref cRootFollows) (by rfl) C.gRootFollows rfl) pa_nil))) (pa_cons (pe_callB (call_isP A.e hz hf List.mem_cons_self) (by rfl) T.isinstance_ (by decide +kernel) (pa_cons (pv 0) (pa_cons (pe_glob (v := .ref cCondemned) (u := .ref cCondemned) (by rfl) C.gCondemned rfl) pa_nil))) (pa_cons (pe_callB (call_isP A.e hz hf List.mem_cons_self) (by rfl) T.isinstance_ (by decide +kernel) (pa_cons (pv 0) (pa_cons (pe_glob (v := .ref cBadDate) (u := .ref cBadDate) (by rfl) C.gBadDate rfl) pa_nil))) (pa_cons (pe_callB (call_isP A.e hz hf List.mem_cons_self) (by rfl) T.isinstance_ (by decide +kernel) (pa_cons (pv 0) (pa_cons (pe_glob (v := .ref cBadLeap) (u := .ref cBadLeap) (by rfl) C.gBadLeap rfl) pa_nil))) (pa_cons (pe_callB (call_isP A.e hz hf List.mem_cons_self) (by rfl) T.isinstance_ (by decide +kernel) (pa_cons (pv 0) (pa_cons (pe_glob (v := .ref cBadLabel) (u := .ref cBadLabel) (by rfl) C.gBadLabel rfl) pa_nil))) (pa_cons (pe_callB (call_isP A.e hz hf List.mem_cons_self) (by rfl) T.isinstance_ (by decide +kernel) (pa_cons (pv 0) (pa_cons (pe_glob (v := .ref cNoSuchSecond) (u := .ref cNoSuchSecond) (by rfl) C.gNoSuchSecond rfl) pa_nil))) (pa_cons (pe_callB (call_isP A.e hz hf List.mem_cons_self) (by rfl) T.isinstance_ (by decide +kernel) (pa_cons (pv 0) (pa_cons (pe_glob (v := .ref cBadCells) (u := .ref cBadCells) (by rfl) C.gBadCells rfl) pa_nil))) (pa_cons (pe_callB (call_isP A.e hz hf List.mem_cons_self) (by rfl) T.isinstance_ (by decide +kernel) (pa_cons (pv 0) (pa_cons (pe_glob (v := .ref cRefusedEntry) (u := .ref cRefusedEntry) (by rfl) C.gRefusedEntry rfl) pa_nil))) (pa_cons (pe_callB (call_isP A.e hz hf List.mem_cons_self) (by rfl) T.isinstance_ (by decide +kernel) (pa_cons (pv 0) (pa_cons (pe_glob (v := .ref cDuplicateTag) (u := .ref cDuplicateTag) (by rfl) C.gDuplicateTag rfl) pa_nil))) (pa_cons (pe_callB (call_isP A.e hz hf List.mem_cons_self) (by rfl) T.isinstance_ (by decide +kernel) (pa_cons (pv 0) (pa_cons (pe_glob (v := .ref cUnknownTag) (u := .ref cUnknownTag) (by rfl) C.gUnknownTag rfl) pa_nil))) (pa_cons (pe_callB (call_isP A.e hz hf List.mem_cons_self) (by rfl) T.isinstance_ (by decide +kernel) (pa_cons (pv 0) (pa_cons (pe_glob (v := .ref cBadLine) (u := .ref cBadLine) (by rfl) C.gBadLine rfl) pa_nil))) (pa_cons (pe_callB (call_isP A.e hz hf List.mem_cons_self) (by rfl) T.isinstance_ (by decide +kernel) (pa_cons (pv 0) (pa_cons (pe_glob (v := .ref cNothingToUndo) (u := .ref cNothingToUndo) (by rfl) C.gNothingToUndo rfl) pa_nil))) (pa_cons (pe_callB (call_isP A.e hz hf List.mem_cons_self) (by rfl) T.isinstance_ (by decide +kernel) (pa_cons (pv 0) (pa_cons (pe_glob (v := .ref cNothingToRedo) (u := .ref cNothingToRedo) (by rfl) C.gNothingToRedo rfl) pa_nil))) pa_nil))))))))))))))))))))))))))))))))
      (pss_one (ps_ret (pe_and (pe_callB (call_isP A.e hz hf List.mem_cons_self) (by rfl) T.isinstance_ (by decide +kernel) (pa_cons (pv 0) (pa_cons (pe_bltn (v := .ty "ValueError") (u := .type "ValueError") (by rfl) C.mV (by rfl) rfl) pa_nil))) (pe_one (pe_cmpR op_eq (pe_bm PySem.F.plainAttrs_list PySem.F.slot_list_count PySem.F.type_list_count (mt_countD (Nat.lt_of_le_of_lt (Nat.add_le_add (Nat.le_add_right _ (16 * k)) (show 65 ≤ 200 by decide)) hr.un)) (pv 1) (pa_cons pe_bl pa_nil)) pe_int (nomark _))))))), ?_⟩
  refine ⟨_, rfl, .ref cZeroDivisor, .ref cZeroDivisor, decide (0 = n), rfl, .own _, .inr ⟨d, _, rfl, hd⟩, A.kZeroDivisor, ?_⟩
  refine ⟨_, rfl, .ref cBadNumber, .ref cBadNumber, decide (1 = n), rfl, .own _, .inr ⟨d, _, rfl, hd⟩, A.kBadNumber, ?_⟩
  refine ⟨_, rfl, .ref cEmptySpan, .ref cEmptySpan, decide (2 = n), rfl, .own _, .inr ⟨d, _, rfl, hd⟩, A.kEmptySpan, ?_⟩
  refine ⟨_, rfl, .ref cBeforeStart, .ref cBeforeStart, decide (3 = n), rfl, .own _, .inr ⟨d, _, rfl, hd⟩, A.kBeforeStart, ?_⟩
  refine ⟨_, rfl, .ref cTurnsBack, .ref cTurnsBack, decide (4 = n), rfl, .own _, .inr ⟨d, _, rfl, hd⟩, A.kTurnsBack, ?_⟩
  refine ⟨_, rfl, .ref cBadRate, .ref cBadRate, decide (5 = n), rfl, .own _, .inr ⟨d, _, rfl, hd⟩, A.kBadRate, ?_⟩
  refine ⟨_, rfl, .ref cBadBound, .ref cBadBound, decide (6 = n), rfl, .own _, .inr ⟨d, _, rfl, hd⟩, A.kBadBound, ?_⟩
  refine ⟨_, rfl, .ref cBadName, .ref cBadName, decide (7 = n), rfl, .own _, .inr ⟨d, _, rfl, hd⟩, A.kBadName, ?_⟩
  refine ⟨_, rfl, .ref cDuplicateName, .ref cDuplicateName, decide (8 = n), rfl, .own _, .inr ⟨d, _, rfl, hd⟩, A.kDuplicateName, ?_⟩
  refine ⟨_, rfl, .ref cUnknownName, .ref cUnknownName, decide (9 = n), rfl, .own _, .inr ⟨d, _, rfl, hd⟩, A.kUnknownName, ?_⟩
  refine ⟨_, rfl, .ref cBadLink, .ref cBadLink, decide (10 = n), rfl, .own _, .inr ⟨d, _, rfl, hd⟩, A.kBadLink, ?_⟩
  refine ⟨_, rfl, .ref cUnknownLink, .ref cUnknownLink, decide (11 = n), rfl, .own _, .inr ⟨d, _, rfl, hd⟩, A.kUnknownLink, ?_⟩
  refine ⟨_, rfl, .ref cBadNote, .ref cBadNote, decide (12 = n), rfl, .own _, .inr ⟨d, _, rfl, hd⟩, A.kBadNote, ?_⟩
  refine ⟨_, rfl, .ref cUnknownMoment, .ref cUnknownMoment, decide (13 = n), rfl, .own _, .inr ⟨d, _, rfl, hd⟩, A.kUnknownMoment, ?_⟩
  refine ⟨_, rfl, .ref cNoWorld, .ref cNoWorld, decide (14 = n), rfl, .own _, .inr ⟨d, _, rfl, hd⟩, A.kNoWorld, ?_⟩
  refine ⟨_, rfl, .ref cOutsideSpan, .ref cOutsideSpan, decide (15 = n), rfl, .own _, .inr ⟨d, _, rfl, hd⟩, A.kOutsideSpan, ?_⟩
  refine ⟨_, rfl, .ref cTooManyLiars, .ref cTooManyLiars, decide (16 = n), rfl, .own _, .inr ⟨d, _, rfl, hd⟩, A.kTooManyLiars, ?_⟩
  refine ⟨_, rfl, .ref cRootFollows, .ref cRootFollows, decide (17 = n), rfl, .own _, .inr ⟨d, _, rfl, hd⟩, A.kRootFollows, ?_⟩
  refine ⟨_, rfl, .ref cCondemned, .ref cCondemned, decide (18 = n), rfl, .own _, .inr ⟨d, _, rfl, hd⟩, A.kCondemned, ?_⟩
  refine ⟨_, rfl, .ref cBadDate, .ref cBadDate, decide (19 = n), rfl, .own _, .inr ⟨d, _, rfl, hd⟩, A.kBadDate, ?_⟩
  refine ⟨_, rfl, .ref cBadLeap, .ref cBadLeap, decide (20 = n), rfl, .own _, .inr ⟨d, _, rfl, hd⟩, A.kBadLeap, ?_⟩
  refine ⟨_, rfl, .ref cBadLabel, .ref cBadLabel, decide (21 = n), rfl, .own _, .inr ⟨d, _, rfl, hd⟩, A.kBadLabel, ?_⟩
  refine ⟨_, rfl, .ref cNoSuchSecond, .ref cNoSuchSecond, decide (22 = n), rfl, .own _, .inr ⟨d, _, rfl, hd⟩, A.kNoSuchSecond, ?_⟩
  refine ⟨_, rfl, .ref cBadCells, .ref cBadCells, decide (23 = n), rfl, .own _, .inr ⟨d, _, rfl, hd⟩, A.kBadCells, ?_⟩
  refine ⟨_, rfl, .ref cRefusedEntry, .ref cRefusedEntry, decide (24 = n), rfl, .own _, .inr ⟨d, _, rfl, hd⟩, A.kRefusedEntry, ?_⟩
  refine ⟨_, rfl, .ref cDuplicateTag, .ref cDuplicateTag, decide (25 = n), rfl, .own _, .inr ⟨d, _, rfl, hd⟩, A.kDuplicateTag, ?_⟩
  refine ⟨_, rfl, .ref cUnknownTag, .ref cUnknownTag, decide (26 = n), rfl, .own _, .inr ⟨d, _, rfl, hd⟩, A.kUnknownTag, ?_⟩
  refine ⟨_, rfl, .ref cBadLine, .ref cBadLine, decide (27 = n), rfl, .own _, .inr ⟨d, _, rfl, hd⟩, A.kBadLine, ?_⟩
  refine ⟨_, rfl, .ref cNothingToUndo, .ref cNothingToUndo, decide (28 = n), rfl, .own _, .inr ⟨d, _, rfl, hd⟩, A.kNothingToUndo, ?_⟩
  refine ⟨_, rfl, .ref cNothingToRedo, .ref cNothingToRedo, decide (29 = n), rfl, .own _, .inr ⟨d, _, rfl, hd⟩, A.kNothingToRedo, ?_⟩
  refine ⟨by show 30 ≤ sizeLine; decide, fun D hD => ?_⟩
  have c0 := same_new hD (.lst ([.bl (decide (0 = n)), .bl (decide (1 = n)), .bl (decide (2 = n)), .bl (decide (3 = n)), .bl (decide (4 = n)), .bl (decide (5 = n)), .bl (decide (6 = n)), .bl (decide (7 = n)), .bl (decide (8 = n)), .bl (decide (9 = n)), .bl (decide (10 = n)), .bl (decide (11 = n)), .bl (decide (12 = n)), .bl (decide (13 = n)), .bl (decide (14 = n)), .bl (decide (15 = n)), .bl (decide (16 = n)), .bl (decide (17 = n)), .bl (decide (18 = n)), .bl (decide (19 = n)), .bl (decide (20 = n)), .bl (decide (21 = n)), .bl (decide (22 = n)), .bl (decide (23 = n)), .bl (decide (24 = n)), .bl (decide (25 = n)), .bl (decide (26 = n)), .bl (decide (27 = n)), .bl (decide (28 = n)), .bl (decide (29 = n))] : List V))
  have hD2 : (upd H D (.lst ([.bl (decide (0 = n)), .bl (decide (1 = n)), .bl (decide (2 = n)), .bl (decide (3 = n)), .bl (decide (4 = n)), .bl (decide (5 = n)), .bl (decide (6 = n)), .bl (decide (7 = n)), .bl (decide (8 = n)), .bl (decide (9 = n)), .bl (decide (10 = n)), .bl (decide (11 = n)), .bl (decide (12 = n)), .bl (decide (13 = n)), .bl (decide (14 = n)), .bl (decide (15 = n)), .bl (decide (16 = n)), .bl (decide (17 = n)), .bl (decide (18 = n)), .bl (decide (19 = n)), .bl (decide (20 = n)), .bl (decide (21 = n)), .bl (decide (22 = n)), .bl (decide (23 = n)), .bl (decide (24 = n)), .bl (decide (25 = n)), .bl (decide (26 = n)), .bl (decide (27 = n)), .bl (decide (28 = n)), .bl (decide (29 = n))] : List V))) D = some (.lst [.bl (decide (0 = n)), .bl (decide (1 = n)), .bl (decide (2 = n)), .bl (decide (3 = n)), .bl (decide (4 = n)), .bl (decide (5 = n)), .bl (decide (6 = n)), .bl (decide (7 = n)), .bl (decide (8 = n)), .bl (decide (9 = n)), .bl (decide (10 = n)), .bl (decide (11 = n)), .bl (decide (12 = n)), .bl (decide (13 = n)), .bl (decide (14 = n)), .bl (decide (15 = n)), .bl (decide (16 = n)), .bl (decide (17 = n)), .bl (decide (18 = n)), .bl (decide (19 = n)), .bl (decide (20 = n)), .bl (decide (21 = n)), .bl (decide (22 = n)), .bl (decide (23 = n)), .bl (decide (24 = n)), .bl (decide (25 = n)), .bl (decide (26 = n)), .bl (decide (27 = n)), .bl (decide (28 = n)), .bl (decide (29 = n))]) := upd_same
  have hd2 := c0 _ _ hd
  generalize upd H D (.lst ([.bl (decide (0 = n)), .bl (decide (1 = n)), .bl (decide (2 = n)), .bl (decide (3 = n)), .bl (decide (4 = n)), .bl (decide (5 = n)), .bl (decide (6 = n)), .bl (decide (7 = n)), .bl (decide (8 = n)), .bl (decide (9 = n)), .bl (decide (10 = n)), .bl (decide (11 = n)), .bl (decide (12 = n)), .bl (decide (13 = n)), .bl (decide (14 = n)), .bl (decide (15 = n)), .bl (decide (16 = n)), .bl (decide (17 = n)), .bl (decide (18 = n)), .bl (decide (19 = n)), .bl (decide (20 = n)), .bl (decide (21 = n)), .bl (decide (22 = n)), .bl (decide (23 = n)), .bl (decide (24 = n)), .bl (decide (25 = n)), .bl (decide (26 = n)), .bl (decide (27 = n)), .bl (decide (28 = n)), .bl (decide (29 = n))] : List V)) = H1 at c0 hD2 hd2 ⊢
  refine ⟨_, rfl, .ty "ValueError", .type "ValueError", true, rfl, .ty _, .inr ⟨d, _, rfl, hd2⟩, A.kV, true, rfl, ifT rfl ?_⟩
  have key := z H1 c0
  clear z A hz hf hd c0
  have hx : n = 0 ∨ n = 1 ∨ n = 2 ∨ n = 3 ∨ n = 4 ∨ n = 5 ∨ n = 6 ∨ n = 7 ∨ n = 8 ∨ n = 9 ∨ n = 10 ∨ n = 11 ∨ n = 12 ∨ n = 13 ∨ n = 14 ∨ n = 15 ∨ n = 16 ∨ n = 17 ∨ n = 18 ∨ n = 19 ∨ n = 20 ∨ n = 21 ∨ n = 22 ∨ n = 23 ∨ n = 24 ∨ n = 25 ∨ n = 26 ∨ n = 27 ∨ n = 28 ∨ n = 29 := by omega
  rcases hx with rfl | rfl | rfl | rfl | rfl | rfl | rfl | rfl | rfl | rfl | rfl | rfl | rfl | rfl | rfl | rfl | rfl | rfl | rfl | rfl | rfl | rfl | rfl | rfl | rfl | rfl | rfl | rfl | rfl | rfl <;>
  · refine ⟨_, rfl, .inl ⟨rfl, _, SqL.of hD2⟩, D, .bl true, PyData.bool true, [PyData.bool _, PyData.bool _, PyData.bool _, PyData.bool _, PyData.bool _, PyData.bool _, PyData.bool _, PyData.bool _, PyData.bool _, PyData.bool _, PyData.bool _, PyData.bool _, PyData.bool _, PyData.bool _, PyData.bool _, PyData.bool _, PyData.bool _, PyData.bool _, PyData.bool _, PyData.bool _, PyData.bool _, PyData.bool _, PyData.bool _, PyData.bool _, PyData.bool _, PyData.bool _, PyData.bool _, PyData.bool _, PyData.bool _, PyData.bool _], rfl, rfl, .lst (SqL.of hD2) (.cons (.bl _) (.cons (.bl _) (.cons (.bl _) (.cons (.bl _) (.cons (.bl _) (.cons (.bl _) (.cons (.bl _) (.cons (.bl _) (.cons (.bl _) (.cons (.bl _) (.cons (.bl _) (.cons (.bl _) (.cons (.bl _) (.cons (.bl _) (.cons (.bl _) (.cons (.bl _) (.cons (.bl _) (.cons (.bl _) (.cons (.bl _) (.cons (.bl _) (.cons (.bl _) (.cons (.bl _) (.cons (.bl _) (.cons (.bl _) (.cons (.bl _) (.cons (.bl _) (.cons (.bl _) (.cons (.bl _) (.cons (.bl _) (.cons (.bl _) .nil)))))))))))))))))))))))))))))), .bl _, by decide +kernel, by decide +kernel, ?_⟩
    exact ⟨rfl, key⟩
end Vk

set_option maxHeartbeats 4000000
namespace Vk
open PySem L2 Vm Vl
variable {cZeroDivisor cBadNumber cEmptySpan cBeforeStart cTurnsBack cBadRate cBadBound cBadName cDuplicateName cUnknownName cBadLink cUnknownLink cBadNote cUnknownMoment cNoWorld cOutsideSpan cTooManyLiars cRootFollows cCondemned cBadDate cBadLeap cBadLabel cNoSuchSecond cBadCells cRefusedEntry cDuplicateTag cUnknownTag cBadLine cNothingToUndo cNothingToRedo cVerdictError C : Addr} {P : Program} {w : World} {K : PySem.W.Frag} {mg : Str → Option Value} {base : Heap} {k n : Nat} {f f1 f2 f3 : Addr} {fd fd1 fd2 fd3 : FuncData}
theorem pe_callP2 {X : Cx} {k : Nat} {f : Addr} {fd : FuncData} {ps : List Str} {sp : Addr × Obj → Sp} {sp' : Sp} {p : Addr × Obj} {x : Str} {q pos : Pos} {e : Expr} {es : List Expr} {t : TA} (F : DefP X.prog X.w X.K X.mg X.base k x ps sp f fd) (room : L2H.RoomH k X.A) (hot : L2H.Hot1 X.A p) (hp : p ∈ X.pn)
    (imp : ∀ vs H Q E, sp' vs H Q E → sp p vs H Q E) (ha : PA X (e :: es) t) (hg : Gl X x := by rfl) (hdb : (x == ("__debug__" : Str)) = false := by decide)
    (he : starEach (e :: es) X.env = (false, eval e X.env) :: starEach es X.env := by rfl) (hpl : (backTo pos (starEach es X.env)).any (·.1) = false := by rfl) : PE X (.Call (.Name x q) (e :: es) [] pos) (tCall sp' [] E0 t) := by
  refine ⟨?_⟩
  intro pins s σ H Q I want
  refine wpAny_Call_Name_kw (ld_glob I hg F.m ?_ hdb)
  refine PySem.W.callWith_K (h₀ := X.base) I.ok.mod.kin F.kp (thn (ha.run pos pins s σ H _ I want) ?_) he hpl
  rintro us s1 ⟨vs, H1, I1, r, z⟩
  refine ⟨I1.kIn, ?_⟩
  have z : sp p vs H1 Q E0 := by rw [List.append_nil] at z; exact imp _ _ _ _ z
  have cnt : us.length = ps.length := by rw [← r.length]; exact F.ok.many _ _ _ _ _ z
  have bound := F.b s1 us I1.kIn (by rw [List.append_nil]; exact cnt)
  rw [List.append_nil] at bound
  have at1 := I1.pin p (List.mem_append_left _ hp)
  have pin : L2H.PinOk X.stack H1 s1 p := ⟨at1.1, at1.2.1, fun m => (List.mem_cons.mp (I1.stkSub p.1 m)).elim at1.2.2.1 at1.2.2.2.1, at1.2.2.2.2⟩
  refine wpAny_call (codeAny_mono (F.ok.go X.A X.stack s1 H1 ⟨us, []⟩ us vs Q E0 p room hot pin I1.env0 bound r z) ?_)
  intro res s2 out
  cases res with
  | error _ => exact out.elim
  | ok fl =>
    cases fl with
    | ret u => exact I1.after out
    | next => exact out.elim
    | brk => exact out.elim
    | cont => exact out.elim
theorem pss_if {X : Cx} {b : List Stmt} {p : Prop} {t : TS} (h : p → PSs X b t) : PSs X b (fun D σ H => p ∧ t D σ H) := ⟨fun pins s σ H D I w => (h w.1).run pins s σ H D I w.2⟩
/-- the name of the n-th class, of those that steering raises -/
def clsN : Nat → Str
  | 6 => "BadBound"
  | 5 => "BadRate"
  | 3 => "BeforeStart"
  | _ => "TurnsBack"
def spClsG (K : PySem.W.Frag) (cZeroDivisor cBadNumber cEmptySpan cBeforeStart cTurnsBack cBadRate cBadBound cBadName cDuplicateName cUnknownName cBadLink cUnknownLink cBadNote cUnknownMoment cNoWorld cOutsideSpan cTooManyLiars cRootFollows cCondemned cBadDate cBadLeap cBadLabel cNoSuchSecond cBadCells cRefusedEntry cDuplicateTag cUnknownTag cBadLine cNothingToUndo cNothingToRedo cVerdictError : Addr) (p : Addr × Obj) : Sp := fun vs H Q _ => ∃ (n : Nat) (C d : Addr) (y : V), 3 ≤ n ∧ n ≤ 6 ∧ Ak K cZeroDivisor cBadNumber cEmptySpan cBeforeStart cTurnsBack cBadRate cBadBound cBadName cDuplicateName cUnknownName cBadLink cUnknownLink cBadNote cUnknownMoment cNoWorld cOutsideSpan cTooManyLiars cRootFollows cCondemned cBadDate cBadLeap cBadLabel cNoSuchSecond cBadCells cRefusedEntry cDuplicateTag cUnknownTag cBadLine cNothingToUndo cNothingToRedo n C ∧ PySem.W.kitOne K (.ref C) (.ref cVerdictError) = some true ∧ vs = [.ref p.1] ∧ Zc (.ref C) (some d) p.2 ∧ (∃ fv, p.2.data = .fields fv) ∧ H d = some (.xd [(("value" : Str), y)]) ∧ ∀ D H', Same H H' → H' D = some (.lst [.str (clsN n)]) → Q (.ref D) H'
abbrev s__law_classes : Stmt := top 94
abbrev N__law_classes : List Str := ["_law_e", "_law_told"]
theorem sc__law_classes : FnScope N__law_classes ["_law_e"] (defScope s__law_classes) := ⟨rfl, rfl, rfl, by decide +kernel, rfl, by decide +kernel, by decide +kernel⟩
abbrev ps__law_classes : List Str := ["_law_e"]
theorem ok_classesG (T : Bn mg) (C : CG mg cZeroDivisor cBadNumber cEmptySpan cBeforeStart cTurnsBack cBadRate cBadBound cBadName cDuplicateName cUnknownName cBadLink cUnknownLink cBadNote cUnknownMoment cNoWorld cOutsideSpan cTooManyLiars cRootFollows cCondemned cBadDate cBadLeap cBadLabel cNoSuchSecond cBadCells cRefusedEntry cDuplicateTag cUnknownTag cBadLine cNothingToUndo cNothingToRedo cVerdictError) (F : Fn K mg "_law_classes" s__law_classes ps__law_classes f fd) (d_law_alone : DefP P w K mg base k "_law_alone" ["_law_e"] (spAlone K cZeroDivisor cBadNumber cEmptySpan cBeforeStart cTurnsBack cBadRate cBadBound cBadName cDuplicateName cUnknownName cBadLink cUnknownLink cBadNote cUnknownMoment cNoWorld cOutsideSpan cTooManyLiars cRootFollows cCondemned cBadDate cBadLeap cBadLabel cNoSuchSecond cBadCells cRefusedEntry cDuplicateTag cUnknownTag cBadLine cNothingToUndo cNothingToRedo) f1 fd1) : DefP P w K mg base (k + 1) "_law_classes" ps__law_classes (spClsG K cZeroDivisor cBadNumber cEmptySpan cBeforeStart cTurnsBack cBadRate cBadBound cBadName cDuplicateName cUnknownName cBadLink cUnknownLink cBadNote cUnknownMoment cNoWorld cOutsideSpan cTooManyLiars cRootFollows cCondemned cBadDate cBadLeap cBadLabel cNoSuchSecond cBadCells cRefusedEntry cDuplicateTag cUnknownTag cBadLine cNothingToUndo cNothingToRedo cVerdictError) f fd := by
  refine ⟨okP F.F sc__law_classes (fun p vs H Q E h => ?_) (fun cdv A0 outer s H vs Q E p hot hr h => ?_), F.m, F.F.kp, F.b⟩
  · obtain ⟨_, _, _, _, _, _, _, _, rfl, _⟩ := h
    rfl
  obtain ⟨n, CE, d, y, n3, n6, A, kVE, rfl, hz, hf, hd, z⟩ := h
  obtain ⟨pa, po⟩ := p
  have imp : ∀ vs H Q E, (∃ d', some d = some d' ∧ vs = [V.ref pa] ∧ (∃ (fs : List (Str × V)), H d' = some (.xd fs)) ∧ ∀ H', Same H H' → Q (.bl true) H') → spAlone K cZeroDivisor cBadNumber cEmptySpan cBeforeStart cTurnsBack cBadRate cBadBound cBadName cDuplicateName cUnknownName cBadLink cUnknownLink cBadNote cUnknownMoment cNoWorld cOutsideSpan cTooManyLiars cRootFollows cCondemned cBadDate cBadLeap cBadLabel cNoSuchSecond cBadCells cRefusedEntry cDuplicateTag cUnknownTag cBadLine cNothingToUndo cNothingToRedo (pa, po) vs H Q E := by
    rintro vs H Q E ⟨d', e, rfl, ⟨fs, h⟩, q⟩
    cases e
    exact ⟨n, CE, d, fs, by omega, A, rfl, hz, hf, h, q⟩
  refine ⟨_, (pss_cons (ps_set (i := 1) sc__law_classes.nd rfl (Or.inl rfl) (pe_lst pa_nil))
      (pss_cons (ps_if (pt_val (pe_callB (call_isP A.e hz hf List.mem_cons_self) (by rfl) T.isinstance_ (by decide +kernel) (pa_cons (pv 0) (pa_cons (pe_glob (v := .ref cBadBound) (u := .ref cBadBound) (by rfl) C.gBadBound rfl) pa_nil))))
        (pss_one (ps_expr (pe_bm PySem.F.plainAttrs_list PySem.F.slot_list_append PySem.F.type_list_append mt_append (pv 1) (pa_cons pe_str pa_nil))))
        pss_nil)
      (pss_cons (ps_if (pt_val (pe_callB (call_isP A.e hz hf List.mem_cons_self) (by rfl) T.isinstance_ (by decide +kernel) (pa_cons (pv 0) (pa_cons (pe_glob (v := .ref cBadRate) (u := .ref cBadRate) (by rfl) C.gBadRate rfl) pa_nil))))
        (pss_one (ps_expr (pe_bm PySem.F.plainAttrs_list PySem.F.slot_list_append PySem.F.type_list_append mt_append (pv 1) (pa_cons pe_str pa_nil))))
        pss_nil)
      (pss_cons (ps_if (pt_val (pe_callB (call_isP A.e hz hf List.mem_cons_self) (by rfl) T.isinstance_ (by decide +kernel) (pa_cons (pv 0) (pa_cons (pe_glob (v := .ref cBeforeStart) (u := .ref cBeforeStart) (by rfl) C.gBeforeStart rfl) pa_nil))))
        (pss_one (ps_expr (pe_bm PySem.F.plainAttrs_list PySem.F.slot_list_append PySem.F.type_list_append mt_append (pv 1) (pa_cons pe_str pa_nil))))
        pss_nil)
      (pss_cons (ps_if (pt_val (pe_callB (call_isP A.e hz hf List.mem_cons_self) (by rfl) T.isinstance_ (by decide +kernel) (pa_cons (pv 0) (pa_cons (pe_glob (v := .ref cTurnsBack) (u := .ref cTurnsBack) (by rfl) C.gTurnsBack rfl) pa_nil))))
        (pss_one (ps_expr (pe_bm PySem.F.plainAttrs_list PySem.F.slot_list_append PySem.F.type_list_append mt_append (pv 1) (pa_cons pe_str pa_nil))))
        pss_nil)
      (pss_cons (ps_if (PW.pt (pw_or (pt_not (pt_val (pe_callB (call_isP A.e hz hf List.mem_cons_self) (by rfl) T.isinstance_ (by decide +kernel) (pa_cons (pv 0) (pa_cons (pe_glob (v := .ref cVerdictError) (u := .ref cVerdictError) (by rfl) C.gV rfl) pa_nil))))) (pw_or1 (pt_not (pt_val (pe_callP2 d_law_alone ⟨hr.dp, hr.un⟩ hot List.mem_cons_self imp (pa_cons (pv 0) pa_nil)))))))
        (pss_one (ps_expr (pe_bm PySem.F.plainAttrs_list PySem.F.slot_list_append PySem.F.type_list_append mt_append (pv 1) (pa_cons pe_str pa_nil))))
        pss_nil)
      (pss_one (ps_ret (pv 1))))))))), ?_⟩
  refine ⟨Nat.zero_le _, fun D0 hD0 => ?_⟩
  have c0 := same_new hD0 (.lst [])
  have hd1 := c0 _ _ hd
  have hD1 : (upd H D0 (.lst [])) D0 = some (.lst []) := upd_same
  have nd : d ≠ D0 := fun e => by rw [e, hD0] at hd; cases hd
  generalize upd H D0 (.lst []) = H1 at c0 hd1 hD1 ⊢
  have fr0 : Same H (upd H1 D0 (.lst [.str (clsN n)])) := fun x o hx => by rw [upd_ne (ne_of_none hx hD0)]; exact c0 _ _ hx
  have hd2 : (upd H1 D0 (.lst [.str (clsN n)])) d = some (.xd [(("value" : Str), y)]) := by rw [upd_ne nd]; exact hd1
  have hD2 : (upd H1 D0 (.lst [.str (clsN n)])) D0 = some (.lst [.str (clsN n)]) := upd_same
  have hn : n = 3 ∨ n = 4 ∨ n = 5 ∨ n = 6 := by omega
  rcases hn with rfl | rfl | rfl | rfl
  · refine ⟨_, rfl, .ref cBadBound, .ref cBadBound, false, rfl, .own _, .inr ⟨d, _, rfl, hd1⟩, A.kBadBound, _, rfl, ifF rfl ?_⟩
    refine ⟨_, rfl, .ref cBadRate, .ref cBadRate, false, rfl, .own _, .inr ⟨d, _, rfl, hd1⟩, A.kBadRate, _, rfl, ifF rfl ?_⟩
    refine ⟨_, rfl, .ref cBeforeStart, .ref cBeforeStart, true, rfl, .own _, .inr ⟨d, _, rfl, hd1⟩, A.kBeforeStart, _, rfl, ifT rfl ?_⟩
    refine ⟨_, rfl, .inl ⟨rfl, _, SqL.of hD1⟩, D0, _, _, rfl, rfl, hD1, le1000 (by show 0 ≤ 1000; decide), ?_⟩
    change (upd H1 D0 (.lst ([] ++ [.str (Str.ofString "BeforeStart")]))) d = some (.xd [(("value" : Str), y)]) at hd2
    refine ⟨_, rfl, .ref cTurnsBack, .ref cTurnsBack, false, rfl, .own _, .inr ⟨d, _, rfl, hd2⟩, A.kTurnsBack, _, rfl, ifF rfl ?_⟩
    refine ⟨_, rfl, .ref cVerdictError, .ref cVerdictError, true, rfl, .own _, .inr ⟨d, _, rfl, hd2⟩, kVE, _, rfl, ifF rfl ?_⟩
    refine ⟨_, rfl, d, rfl, rfl, ⟨_, hd2⟩, fun H3 e3 => ?_⟩
    refine ⟨_, rfl, ifF rfl ?_⟩
    exact ⟨_, rfl, z D0 _ (fr0.trans e3) (e3 _ _ hD2)⟩
  · refine ⟨_, rfl, .ref cBadBound, .ref cBadBound, false, rfl, .own _, .inr ⟨d, _, rfl, hd1⟩, A.kBadBound, _, rfl, ifF rfl ?_⟩
    refine ⟨_, rfl, .ref cBadRate, .ref cBadRate, false, rfl, .own _, .inr ⟨d, _, rfl, hd1⟩, A.kBadRate, _, rfl, ifF rfl ?_⟩
    refine ⟨_, rfl, .ref cBeforeStart, .ref cBeforeStart, false, rfl, .own _, .inr ⟨d, _, rfl, hd1⟩, A.kBeforeStart, _, rfl, ifF rfl ?_⟩
    refine ⟨_, rfl, .ref cTurnsBack, .ref cTurnsBack, true, rfl, .own _, .inr ⟨d, _, rfl, hd1⟩, A.kTurnsBack, _, rfl, ifT rfl ?_⟩
    refine ⟨_, rfl, .inl ⟨rfl, _, SqL.of hD1⟩, D0, _, _, rfl, rfl, hD1, le1000 (by show 0 ≤ 1000; decide), ?_⟩
    change (upd H1 D0 (.lst ([] ++ [.str (Str.ofString "TurnsBack")]))) d = some (.xd [(("value" : Str), y)]) at hd2
    refine ⟨_, rfl, .ref cVerdictError, .ref cVerdictError, true, rfl, .own _, .inr ⟨d, _, rfl, hd2⟩, kVE, _, rfl, ifF rfl ?_⟩
    refine ⟨_, rfl, d, rfl, rfl, ⟨_, hd2⟩, fun H3 e3 => ?_⟩
    refine ⟨_, rfl, ifF rfl ?_⟩
    exact ⟨_, rfl, z D0 _ (fr0.trans e3) (e3 _ _ hD2)⟩
  · refine ⟨_, rfl, .ref cBadBound, .ref cBadBound, false, rfl, .own _, .inr ⟨d, _, rfl, hd1⟩, A.kBadBound, _, rfl, ifF rfl ?_⟩
    refine ⟨_, rfl, .ref cBadRate, .ref cBadRate, true, rfl, .own _, .inr ⟨d, _, rfl, hd1⟩, A.kBadRate, _, rfl, ifT rfl ?_⟩
    refine ⟨_, rfl, .inl ⟨rfl, _, SqL.of hD1⟩, D0, _, _, rfl, rfl, hD1, le1000 (by show 0 ≤ 1000; decide), ?_⟩
    change (upd H1 D0 (.lst ([] ++ [.str (Str.ofString "BadRate")]))) d = some (.xd [(("value" : Str), y)]) at hd2
    refine ⟨_, rfl, .ref cBeforeStart, .ref cBeforeStart, false, rfl, .own _, .inr ⟨d, _, rfl, hd2⟩, A.kBeforeStart, _, rfl, ifF rfl ?_⟩
    refine ⟨_, rfl, .ref cTurnsBack, .ref cTurnsBack, false, rfl, .own _, .inr ⟨d, _, rfl, hd2⟩, A.kTurnsBack, _, rfl, ifF rfl ?_⟩
    refine ⟨_, rfl, .ref cVerdictError, .ref cVerdictError, true, rfl, .own _, .inr ⟨d, _, rfl, hd2⟩, kVE, _, rfl, ifF rfl ?_⟩
    refine ⟨_, rfl, d, rfl, rfl, ⟨_, hd2⟩, fun H3 e3 => ?_⟩
    refine ⟨_, rfl, ifF rfl ?_⟩
    exact ⟨_, rfl, z D0 _ (fr0.trans e3) (e3 _ _ hD2)⟩
  · refine ⟨_, rfl, .ref cBadBound, .ref cBadBound, true, rfl, .own _, .inr ⟨d, _, rfl, hd1⟩, A.kBadBound, _, rfl, ifT rfl ?_⟩
    refine ⟨_, rfl, .inl ⟨rfl, _, SqL.of hD1⟩, D0, _, _, rfl, rfl, hD1, le1000 (by show 0 ≤ 1000; decide), ?_⟩
    change (upd H1 D0 (.lst ([] ++ [.str (Str.ofString "BadBound")]))) d = some (.xd [(("value" : Str), y)]) at hd2
    refine ⟨_, rfl, .ref cBadRate, .ref cBadRate, false, rfl, .own _, .inr ⟨d, _, rfl, hd2⟩, A.kBadRate, _, rfl, ifF rfl ?_⟩
    refine ⟨_, rfl, .ref cBeforeStart, .ref cBeforeStart, false, rfl, .own _, .inr ⟨d, _, rfl, hd2⟩, A.kBeforeStart, _, rfl, ifF rfl ?_⟩
    refine ⟨_, rfl, .ref cTurnsBack, .ref cTurnsBack, false, rfl, .own _, .inr ⟨d, _, rfl, hd2⟩, A.kTurnsBack, _, rfl, ifF rfl ?_⟩
    refine ⟨_, rfl, .ref cVerdictError, .ref cVerdictError, true, rfl, .own _, .inr ⟨d, _, rfl, hd2⟩, kVE, _, rfl, ifF rfl ?_⟩
    refine ⟨_, rfl, d, rfl, rfl, ⟨_, hd2⟩, fun H3 e3 => ?_⟩
    refine ⟨_, rfl, ifF rfl ?_⟩
    exact ⟨_, rfl, z D0 _ (fr0.trans e3) (e3 _ _ hD2)⟩
end Vk

set_option maxHeartbeats 4000000
namespace Vk
open PySem L2 Vm Vl Vs
variable {l aZERO aONE aHALF aDR C CB CR CT CV fB fR fT : Addr} {P : Program} {w : World} {K : PySem.W.Frag} {mg : Str → Option Value} {base : Heap} {k : Nat} {f f1 f2 f3 f4 f5 f6 f7 f8 f9 f10 f11 f12 : Addr} {fd fd1 fd2 fd3 fd4 fd5 fd6 fd7 fd8 fd9 fd10 fd11 fd12 : FuncData}
theorem cutG {t u : TS} {D : Ends} {σ : L2.St} {H : Hp} (mid : L2.St → Hp → Prop) (key : ∀ σ' H', mid σ' H' → u D σ' H') (h : ∀ u' : TS, (∀ σ' H', mid σ' H' → u' D σ' H') → tSeq t u' D σ H) : tSeq t u D σ H := h u key
/-- the four arguments, some of them wrong -/
structure Ba (K : PySem.W.Frag) (D : Addr) (x0 x1 x2 x3 : V) (e l d : Rat) (ov : Option Rat) (G : Hp) : Prop where
  at_ : G D = some (.lst [x0, x1, x2, x3])
  h0 : Rq K G x0 e
  h1 : Rq K G x1 l
  h2 : Rq K G x2 d
  h3 : optV K G x3 ov
  z0 : Sz 40 e
  z1 : Sz 40 l
  z2 : Sz 40 d
  z3 : OSz 40 ov
theorem Ba.fr {s D : Addr} {x0 x1 x2 x3 : V} {e l' d : Rat} {ov : Option Rat} {G G' : Hp} (h : Ba K D x0 x1 x2 x3 e l' d ov G) (f : Fr s G G') (hs : ∃ ys, G s = some (.lst ys)) (n : D ≠ s) : Ba K D x0 x1 x2 x3 e l' d ov G' := ⟨f _ _ h.at_ n, h.h0.fr f hs, h.h1.fr f hs, h.h2.fr f hs, opt_fr f hs h.h3, h.z0, h.z1, h.z2, h.z3⟩
section
variable {s D : Addr} {x0 x1 x2 x3 y : V} {e r d q : Rat} {ov : Option Rat} {G : Hp}
theorem Ba.set0 (h : Ba K D x0 x1 x2 x3 e r d ov G) (g : Rq K G y q) (z : Sz 40 q) : Ba K D y x1 x2 x3 q r d ov (upd G D (.lst [y, x1, x2, x3])) :=
  have f : Fr D G (upd G D (.lst [y, x1, x2, x3])) := Fr.upd _
  ⟨upd_same, g.fr f ⟨_, h.at_⟩, h.h1.fr f ⟨_, h.at_⟩, h.h2.fr f ⟨_, h.at_⟩, opt_fr f ⟨_, h.at_⟩ h.h3, z, h.z1, h.z2, h.z3⟩
theorem Ba.set1 (h : Ba K D x0 x1 x2 x3 e r d ov G) (g : Rq K G y q) (z : Sz 40 q) : Ba K D x0 y x2 x3 e q d ov (upd G D (.lst [x0, y, x2, x3])) :=
  have f : Fr D G (upd G D (.lst [x0, y, x2, x3])) := Fr.upd _
  ⟨upd_same, h.h0.fr f ⟨_, h.at_⟩, g.fr f ⟨_, h.at_⟩, h.h2.fr f ⟨_, h.at_⟩, opt_fr f ⟨_, h.at_⟩ h.h3, h.z0, z, h.z2, h.z3⟩
theorem Ba.set2 (h : Ba K D x0 x1 x2 x3 e r d ov G) (g : Rq K G y q) (z : Sz 40 q) : Ba K D x0 x1 y x3 e r q ov (upd G D (.lst [x0, x1, y, x3])) :=
  have f : Fr D G (upd G D (.lst [x0, x1, y, x3])) := Fr.upd _
  ⟨upd_same, h.h0.fr f ⟨_, h.at_⟩, h.h1.fr f ⟨_, h.at_⟩, g.fr f ⟨_, h.at_⟩, opt_fr f ⟨_, h.at_⟩ h.h3, h.z0, h.z1, z, h.z3⟩
theorem Ba.set3 (h : Ba K D x0 x1 x2 x3 e r d ov G) (g : Rq K G y q) (z : Sz 40 q) : Ba K D x0 x1 x2 y e r d (some q) (upd G D (.lst [x0, x1, x2, y])) :=
  have f : Fr D G (upd G D (.lst [x0, x1, x2, y])) := Fr.upd _
  ⟨upd_same, h.h0.fr f ⟨_, h.at_⟩, h.h1.fr f ⟨_, h.at_⟩, h.h2.fr f ⟨_, h.at_⟩, Rq.fr f ⟨_, h.at_⟩ g, h.z0, h.z1, h.z2, fun p e => by cases e; exact z⟩
end
theorem cdv2 {m : Int} : CDiv m 2 := by unfold CDiv; decide
theorem cdv4 {m : Int} : CDiv m 4 := by unfold CDiv; decide
theorem cdv8 {m : Int} : CDiv m 8 := by unfold CDiv; decide
/-- what is refused, by which name, with which value -/
inductive Flt (e l d : Rat) (ov : Option Rat) : Nat → Prop
  | a : e < 0 → Flt e l d ov 0
  | b : 0 ≤ e → (l ≤ 0 ∨ 1 ≤ l) → Flt e l d ov 1
  | c : 0 ≤ e → 0 < l → l < 1 → (d < 0 ∨ l ≤ d) → Flt e l d ov 2
  | d : 0 ≤ e → 0 < l → l < 1 → 0 ≤ d → d < l → (∀ q, ov = some q → q < 0) → ov ≠ none → Flt e l d ov 3
def fltN : Nat → Str
  | 0 => "BadBound"
  | 1 => "BadRate"
  | 2 => "BadRate"
  | _ => "BadBound"
def spBadSt (K : PySem.W.Frag) (l : Addr) : Sp := fun vs H Q _ => ∃ (s : Addr), vs = [.ref s] ∧ Sto l s H ∧ ∀ (a ad : Addr) (x0 x1 x2 x3 y : V) (e r d : Rat) (ov : Option Rat) (n : Nat) H', SqT K H' a [x0, x1, x2, x3, .ref ad] → Rq K H' x0 e → Rq K H' x1 r → Rq K H' x2 d → optV K H' x3 ov → Sz 40 e → Sz 40 r → Sz 40 d → OSz 40 ov →
  Flt e r d ov n → SqT K H' ad [.str (fltN n), y] → [x0, x1, x2, x3][n]? = some y → Sto l s H' → Fr s H H' → Q (.ref a) H'
abbrev s__law_bad_steering : Stmt := top 92
abbrev N__law_bad_steering : List Str := ["_law_store_here", "_law_mask", "_law_pair", "_law_args", "_law_due"]
theorem sc__law_bad_steering : FnScope N__law_bad_steering ["_law_store_here"] (defScope s__law_bad_steering) := ⟨rfl, rfl, rfl, by decide +kernel, rfl, by decide +kernel, by decide +kernel⟩
abbrev ps__law_bad_steering : List Str := ["_law_store_here"]
theorem ok_bad_steering (T : Bn mg) (F : Fn K mg "_law_bad_steering" s__law_bad_steering ps__law_bad_steering f fd) (d_law_take : Def P w K mg base k "_law_take" ["_law_store_here", "_law_many"] (spTake K l) f1 fd1) (d_law_slews : Def P w K mg base k "_law_slews" ["_law_store_here"] (spSl2 K l) f2 fd2)
    (d_law_spare : Def P w K mg base k "_law_spare" ["_law_store_here"] (spDraw K l 5 nnQ) f3 fd3) (d_law_over_step : Def P w K mg base k "_law_over_step" ["_law_store_here"] (spOver K l) f4 fd4) (d_law_negative : Def P w K mg base k "_law_negative" ["_law_store_here"] (spDraw K l 20 negQ) f5 fd5)
    (d_law_bad_slew : Def P w K mg base k "_law_bad_slew" ["_law_store_here"] (spDraw K l 20 outQ) f6 fd6) (d_law_bad_drift : Def P w K mg base k "_law_bad_drift" ["_law_store_here", "_law_bend"] (spBadD K l) f7 fd7) :
    Def P w K mg base (k + 1) "_law_bad_steering" ps__law_bad_steering (spBadSt K l) f fd := by
  refine ⟨F.F.ok sc__law_bad_steering (fun vs H Q E h => ?_) (fun cdv A outer s H vs Q E hr h => ?_), F.m, F.F.kp, F.b⟩
  · obtain ⟨_, rfl, _⟩ := h
    rfl
  obtain ⟨s, rfl, hS, z⟩ := h
  refine ⟨_, (pss_cons (ps_set (i := 1) sc__law_bad_steering.nd rfl (Or.inl rfl) (pe_op op_add pe_int (pcall d_law_take hr (pa_cons (pv 0) (pa_cons pe_int pa_nil)))))
      (pss_cons (ps_set (i := 2) sc__law_bad_steering.nd rfl (Or.inl rfl) (pcall d_law_slews hr (pa_cons (pv 0) pa_nil)))
      (pss_cons (ps_set (i := 3) sc__law_bad_steering.nd rfl (Or.inl rfl) (pe_lst (pa_cons (pcall d_law_spare hr (pa_cons (pv 0) pa_nil)) (pa_cons (pe_ix ix_tup (pv 2) pe_int (fun _ _ => rfl)) (pa_cons (pe_ix ix_tup (pv 2) pe_int (fun _ _ => rfl)) (pa_cons (pcall d_law_over_step hr (pa_cons (pv 0) pa_nil)) pa_nil))))))
      (pss_cons (ps_if (pt_cmpR op_eq (pe_op op_mod (pe_callTy call_int1 (by rfl) T.int_ (by decide +kernel) (pa_cons (pv 1) pa_nil)) pe_int) pe_int (nomark _))
        (pss_one (ps_asg (pcall d_law_negative hr (pa_cons (pv 0) pa_nil)) (pg_sub (pv 3) pe_int set_list)))
        pss_nil)
      (pss_cons (ps_if (pt_cmpR op_eq (pe_op op_mod (pe_callTy call_int1 (by rfl) T.int_ (by decide +kernel) (pa_cons (pe_op op_fdiv (pv 1) pe_int) pa_nil)) pe_int) pe_int (nomark _))
        (pss_one (ps_asg (pcall d_law_bad_slew hr (pa_cons (pv 0) pa_nil)) (pg_sub (pv 3) pe_int set_list)))
        pss_nil)
      (pss_cons (ps_if (pt_cmpR op_eq (pe_op op_mod (pe_callTy call_int1 (by rfl) T.int_ (by decide +kernel) (pa_cons (pe_op op_fdiv (pv 1) pe_int) pa_nil)) pe_int) pe_int (nomark _))
        (pss_one (ps_asg (pcall d_law_bad_drift hr (pa_cons (pv 0) (pa_cons (pe_ix ix_tup (pv 2) pe_int (fun _ _ => rfl)) pa_nil))) (pg_sub (pv 3) pe_int set_list)))
        pss_nil)
      (pss_cons (ps_if (pt_cmpR op_eq (pe_op op_mod (pe_callTy call_int1 (by rfl) T.int_ (by decide +kernel) (pa_cons (pe_op op_fdiv (pv 1) pe_int) pa_nil)) pe_int) pe_int (nomark _))
        (pss_one (ps_asg (pcall d_law_negative hr (pa_cons (pv 0) pa_nil)) (pg_sub (pv 3) pe_int set_list)))
        pss_nil)
      (pss_cons (ps_set (i := 4) sc__law_bad_steering.nd rfl (Or.inl rfl) (pe_tup (pa_cons pe_str (pa_cons (pe_ix ix_list (pv 3) pe_int (fun _ _ => rfl)) pa_nil))))
      (pss_cons (ps_if (pt_cmpR op_eq (pe_op op_mod (pe_callTy call_int1 (by rfl) T.int_ (by decide +kernel) (pa_cons (pe_op op_fdiv (pv 1) pe_int) pa_nil)) pe_int) pe_int (nomark _))
        (pss_one (ps_set (i := 4) sc__law_bad_steering.nd rfl (Or.inl rfl) (pe_tup (pa_cons pe_str (pa_cons (pe_ix ix_list (pv 3) pe_int (fun _ _ => rfl)) pa_nil)))))
        pss_nil)
      (pss_cons (ps_if (pt_cmpR op_eq (pe_op op_mod (pe_callTy call_int1 (by rfl) T.int_ (by decide +kernel) (pa_cons (pe_op op_fdiv (pv 1) pe_int) pa_nil)) pe_int) pe_int (nomark _))
        (pss_one (ps_set (i := 4) sc__law_bad_steering.nd rfl (Or.inl rfl) (pe_tup (pa_cons pe_str (pa_cons (pe_ix ix_list (pv 3) pe_int (fun _ _ => rfl)) pa_nil)))))
        pss_nil)
      (pss_cons (ps_if (pt_cmpR op_eq (pe_op op_mod (pe_callTy call_int1 (by rfl) T.int_ (by decide +kernel) (pa_cons (pv 1) pa_nil)) pe_int) pe_int (nomark _))
        (pss_one (ps_set (i := 4) sc__law_bad_steering.nd rfl (Or.inl rfl) (pe_tup (pa_cons pe_str (pa_cons (pe_ix ix_list (pv 3) pe_int (fun _ _ => rfl)) pa_nil)))))
        pss_nil)
      (pss_one (ps_ret (pe_tup (pa_cons (pe_ix ix_list (pv 3) pe_int (fun _ _ => rfl)) (pa_cons (pe_ix ix_list (pv 3) pe_int (fun _ _ => rfl)) (pa_cons (pe_ix ix_list (pv 3) pe_int (fun _ _ => rfl)) (pa_cons (pe_ix ix_list (pv 3) pe_int (fun _ _ => rfl)) (pa_cons (pv 4) pa_nil))))))))))))))))))), ?_⟩
  refine cutG (fun σ' G => ∃ m : Int, σ' = [some (.ref s), some (.int m), none, none, none] ∧ 1 ≤ m ∧ m ≤ 15 ∧ Sto l s G ∧ Fr s H G) ?_ ?_
  rotate_left
  · intro u' key
    have t15 : (15 : Int) < 2 ^ 64 := by decide
    (walk_at "vk_vc")
    refine key _ _ ⟨1 + r, rfl, by omega, by omega, ?_, ?_⟩
    · (walk_at "vk_sto")
    · focus (walk_at "vk_fr")
  rintro σ H1 ⟨m, rfl, m1, m15, S1, e1⟩
  refine cutG (fun σ' G => ∃ (pr : Addr) (xl xd : V) (l0 d0 : Rat), σ' = [some (.ref s), some (.int m), some (.ref pr), none, none] ∧ Sto l s G ∧ Fr s H1 G ∧ SqT K G pr [xl, xd] ∧ Rq K G xl l0 ∧ Rq K G xd d0 ∧ Sz 24 l0 ∧ Sz 24 d0 ∧ SlOk2 l0 d0) ?_ ?_
  rotate_left
  · intro u' key
    refine ⟨_, rfl, s, rfl, S1, fun vp H4 hp S4 e4 => ?_⟩
    obtain ⟨pr, xl, xd, l0, d0, rfl, h1, h2, h3, h4, h5, h6⟩ := hp
    exact key _ _ ⟨pr, xl, xd, l0, d0, rfl, S4, e4, h1, h2, h3, h4, h5, h6⟩
  rintro σ H2 ⟨pr, xl, xd, l0, d0, rfl, S2, e2, hp, hl, hd, zl, zd, o1, o2, o3, o4⟩
  replace e1 := e1.trans e2
  clear e2 S1
  refine cutG (fun σ' G => ∃ (D : Addr) (x0 x3 : V) (e0 : Rat) (ov : Option Rat), σ' = [some (.ref s), some (.int m), some (.ref pr), some (.ref D), none] ∧ Sto l s G ∧ Fr s H2 G ∧ D ≠ s ∧ D ≠ l ∧ H2 D = none ∧ Ba K D x0 xl xd x3 e0 l0 d0 ov G ∧ 0 ≤ e0 ∧ (∀ q, ov = some q → 0 ≤ q) ∧ SqT K G pr [xl, xd]) ?_ ?_
  rotate_left
  · intro u' key
    unfold nnQ at *
    obtain ⟨bl, rfl, _⟩ := id hl
    obtain ⟨bd, rfl, _⟩ := id hd
    have hs2 := S2.some
    (walk_at "vk_vc")
    intro v5 G5 ov hov zov oov S5 e5
    (walk_at "vk_vc")
    rename_i p1
    have fG : Fr s H2 (upd G5 p (.lst [.ref a, .ref bl, .ref bd, v5])) := by focus (walk_at "vk_fr")
    have eP := same_new np (.lst [.ref a, .ref bl, .ref bd, v5])
    have hq0 : Rq K G5 (.ref a) q := h.fr e5 (Sto.some (l := l) (by (walk_at "vk_sto")))
    have f5 : Fr s H2 G5 := by focus (walk_at "vk_fr")
    refine key _ _ ⟨p, .ref a, v5, q, ov, rfl, S5.same eP, fG, (free_ne S5 np).1, (free_ne S5 np).2, f5.free np (free_ne S5 np).1, ⟨upd_same, hq0.same eP, (hl.fr f5 hs2).same eP, (hd.fr f5 hs2).same eP, hov.same eP, zq.mono (by decide), zl.mono (by decide), zd.mono (by decide), fun q e => (zov q e).mono (by decide)⟩, okq, oov, eP.sqt (sqt_fr f5 hs2 hp)⟩
  rintro σ H3 ⟨D, x0, x3, e0, ov, rfl, S3, e3, nDs, nDl, nD, B, n0, oov, hp3⟩
  have nD0 : H D = none := e1.free nD nDs
  replace e1 := e1.trans e3
  clear e3 S2 hl hd hp nD
  have t64 : (15 : Int) < 2 ^ 64 := by decide
  have vi : ∀ {a b : Int}, V.int a = V.int b → a = b := fun h => V.int.inj h
  refine cutG (fun σ' G => ∃ (x0 : V) (e : Rat), σ' = [some (.ref s), some (.int m), some (.ref pr), some (.ref D), none] ∧ Sto l s G ∧ Fr s H G ∧ Ba K D x0 xl xd x3 e l0 d0 ov G ∧ SqT K G pr [xl, xd] ∧ (m % 2 = 1 → e < 0) ∧ (m % 2 ≠ 1 → 0 ≤ e)) ?_ ?_
  rotate_left
  · intro u' key
    have hD := B.at_
    refine ⟨_, rfl, .inl ⟨m, rfl, ?_⟩⟩
    (walk_at "vk_vc")
    · have S' : Sto l s H' := by (walk_at "vk_sto")
      have f' : Fr s H3 H' := by focus (walk_at "vk_fr")
      have B' := B.fr f' S3.some nDs
      have fD : Fr D H' (upd H' D (.lst [.ref a, xl, xd, x3])) := Fr.upd _
      exact key _ _ ⟨.ref a, q, rfl, sto_upd S' nDs nDl _, frNew (e1.trans f') nD0 _, B'.set0 h (zq.mono (by decide)), sqt_fr fD ⟨_, B'.at_⟩ (sqt_fr f' S3.some hp3), fun _ => okq, fun c => absurd (vi (by assumption)) c⟩
    · exact key _ _ ⟨x0, e0, rfl, S3, e1, B, hp3, fun c => absurd (congrArg V.int c) (by assumption), fun _ => n0⟩
  rintro σ H4 ⟨x0', ee, rfl, S4, e4, B4, hp4, p01, p02⟩
  clear B e1 S3 hp3 n0
  refine cutG (fun σ' G => ∃ (x1 : V) (r : Rat), σ' = [some (.ref s), some (.int m), some (.ref pr), some (.ref D), none] ∧ Sto l s G ∧ Fr s H G ∧ Ba K D x0' x1 xd x3 ee r d0 ov G ∧ SqT K G pr [xl, xd] ∧ Rq K G xl l0 ∧ (m / 2 % 2 = 1 → r ≤ 0 ∨ 1 ≤ r) ∧ (m / 2 % 2 ≠ 1 → r = l0)) ?_ ?_
  rotate_left
  · intro u' key
    have hD := B4.at_
    refine ⟨_, rfl, _, _, rfl, rfl, cdv2, .inl ⟨m / 2, rfl, ?_⟩⟩
    (walk_at "vk_vc")
    · have S' : Sto l s H' := by (walk_at "vk_sto")
      have f' : Fr s H4 H' := by focus (walk_at "vk_fr")
      have B' := B4.fr f' S4.some nDs
      have fD : Fr D H' (upd H' D (.lst [x0', .ref a, xd, x3])) := Fr.upd _
      exact key _ _ ⟨.ref a, q, rfl, sto_upd S' nDs nDl _, frNew (e4.trans f') nD0 _, B'.set1 h (zq.mono (by decide)), sqt_fr fD ⟨_, B'.at_⟩ (sqt_fr f' S4.some hp4), Rq.fr fD ⟨_, B'.at_⟩ B'.h1, fun _ => okq, fun c => absurd (vi (by assumption)) c⟩
    · exact key _ _ ⟨xl, l0, rfl, S4, e4, B4, hp4, B4.h1, fun c => absurd (congrArg V.int c) (by assumption), fun _ => rfl⟩
  rintro σ H5 ⟨x1', r, rfl, S5, e5, B5, hp5, hl5, p11, p12⟩
  clear B4 e4 S4 hp4
  refine cutG (fun σ' G => ∃ (x2 : V) (dd : Rat), σ' = [some (.ref s), some (.int m), some (.ref pr), some (.ref D), none] ∧ Sto l s G ∧ Fr s H G ∧ Ba K D x0' x1' x2 x3 ee r dd ov G ∧ (m / 4 % 2 = 1 → dd < 0 ∨ l0 ≤ dd) ∧ (m / 4 % 2 ≠ 1 → dd = d0)) ?_ ?_
  rotate_left
  · intro u' key
    have hD := B5.at_
    obtain ⟨bl, rfl, _⟩ := id hl5
    have m0 : atI [V.ref bl, xd] 0 = some (.ref bl) := rfl
    refine ⟨_, rfl, _, _, rfl, rfl, cdv4, .inl ⟨m / 4, rfl, ?_⟩⟩
    (walk_at "vk_vc")
    · have S' : Sto l s H' := by (walk_at "vk_sto")
      have f' : Fr s H5 H' := by focus (walk_at "vk_fr")
      have B' := B5.fr f' S5.some nDs
      exact key _ _ ⟨.ref a, q, rfl, sto_upd S' nDs nDl _, frNew (e5.trans f') nD0 _, B'.set2 h zq, fun _ => okq, fun c => absurd (vi (by assumption)) c⟩
    · exact key _ _ ⟨xd, d0, rfl, S5, e5, B5, fun c => absurd (congrArg V.int c) (by assumption), fun _ => rfl⟩
  rintro σ H6 ⟨x2', dd, rfl, S6, e6, B6, p21, p22⟩
  clear B5 e5 S5 hp5 hl5
  refine cutG (fun σ' G => ∃ (x3 : V) (ov : Option Rat), σ' = [some (.ref s), some (.int m), some (.ref pr), some (.ref D), none] ∧ Sto l s G ∧ Fr s H G ∧ Ba K D x0' x1' x2' x3 ee r dd ov G ∧ (m / 8 % 2 = 1 → ∃ q, ov = some q ∧ q < 0)) ?_ ?_
  rotate_left
  · intro u' key
    have hD := B6.at_
    refine ⟨_, rfl, _, _, rfl, rfl, cdv8, .inl ⟨m / 8, rfl, ?_⟩⟩
    (walk_at "vk_vc")
    · have S' : Sto l s H' := by (walk_at "vk_sto")
      have f' : Fr s H6 H' := by focus (walk_at "vk_fr")
      have B' := B6.fr f' S6.some nDs
      exact key _ _ ⟨.ref a, some q, rfl, sto_upd S' nDs nDl _, frNew (e6.trans f') nD0 _, B'.set3 h (zq.mono (by decide)), fun _ => ⟨q, rfl, okq⟩⟩
    · exact key _ _ ⟨x3, ov, rfl, S6, e6, B6, fun c => absurd (congrArg V.int c) (by assumption)⟩
  clear oov
  rintro σ H7 ⟨x3', ov', rfl, S7, e7, B7, p31⟩
  clear B6 e6 S6
  obtain ⟨hat, g0, g1, g2, g3, z0, z1, z2, z3⟩ := id B7
  -- the first one that is wrong
  obtain ⟨n, hn, hflt⟩ : ∃ n, (n = if m % 2 = 1 then 0 else if m / 2 % 2 = 1 then 1 else if m / 4 % 2 = 1 then 2 else 3) ∧ Flt ee r dd ov' n := by
    refine ⟨_, rfl, ?_⟩
    by_cases c0 : m % 2 = 1
    · rw [if_pos c0]; exact .a (p01 c0)
    rw [if_neg c0]
    by_cases c1 : m / 2 % 2 = 1
    · rw [if_pos c1]; exact .b (p02 c0) (p11 c1)
    rw [if_neg c1]
    have er := p12 c1
    by_cases c2 : m / 4 % 2 = 1
    · rw [if_pos c2]; exact .c (p02 c0) (by rw [er]; exact o1) (by rw [er]; exact o2) (by rw [er]; exact p21 c2)
    rw [if_neg c2]
    have ed := p22 c2
    obtain ⟨q, eq, q0⟩ := p31 (by omega)
    exact .d (p02 c0) (by rw [er]; exact o1) (by rw [er]; exact o2) (by rw [ed]; exact o3) (by rw [ed, er]; exact o4) (fun q' e => by rw [eq] at e; cases e; exact q0) (by rw [eq]; nofun)
  have fin : ∀ (G : Hp) (t ad : Addr) (y : V), Same H7 G → SqT K G ad [.str (fltN n), y] → [x0', x1', x2', x3'][n]? = some y → G t = none → Q (.ref t) (upd G t (.tup [x0', x1', x2', x3', .ref ad])) := fun G t ad y eG had hy nt => by
    have eT := same_new nt (.tup [x0', x1', x2', x3', .ref ad])
    have e9 := eG.trans eT
    exact z t ad x0' x1' x2' x3' y ee r dd ov' n _ (SqT.of upd_same) (g0.same e9) (g1.same e9) (g2.same e9) (g3.same e9) z0 z1 z2 z3 hflt (eT.sqt had) hy (S7.same e9) (e7.trans (Fr.of e9))
  clear z hflt p01 p02 p11 p12 p21 p22 p31 g0 g1 g2 g3 B7 z0 z1 z2 z3 vi
  have i0 : atI [x0', x1', x2', x3'] 0 = some x0' := rfl
  have i1 : atI [x0', x1', x2', x3'] 1 = some x1' := rfl
  have i2 : atI [x0', x1', x2', x3'] 2 = some x2' := rfl
  have i3 : atI [x0', x1', x2', x3'] 3 = some x3' := rfl
  have no : ∀ {a : Int}, a ≠ 1 → ¬ V.int a = V.int 1 := fun h e => h (V.int.inj e)
  by_cases c0 : m % 2 = 1
  · rw [if_pos c0] at hn; subst hn
    have d0 := congrArg V.int c0
    by_cases c1 : m / 2 % 2 = 1
    · have d1 := congrArg V.int c1
      by_cases c2 : m / 4 % 2 = 1
      · have d2 := congrArg V.int c2
        (walk_at "vk_vc")
        all_goals first | exact fin _ _ _ _ (by focus exact (by (walk_at "vk_same"))) (by (walk_at "vk_cl")) rfl np
      · have d2 := no c2
        (walk_at "vk_vc")
        all_goals first | exact fin _ _ _ _ (by focus exact (by (walk_at "vk_same"))) (by (walk_at "vk_cl")) rfl np
    · have d1 := no c1
      by_cases c2 : m / 4 % 2 = 1
      · have d2 := congrArg V.int c2
        (walk_at "vk_vc")
        all_goals first | exact fin _ _ _ _ (by focus exact (by (walk_at "vk_same"))) (by (walk_at "vk_cl")) rfl np
      · have d2 := no c2
        (walk_at "vk_vc")
        all_goals first | exact fin _ _ _ _ (by focus exact (by (walk_at "vk_same"))) (by (walk_at "vk_cl")) rfl np
  · rw [if_neg c0] at hn
    have d0 := no c0
    by_cases c1 : m / 2 % 2 = 1
    · rw [if_pos c1] at hn; subst hn
      have d1 := congrArg V.int c1
      by_cases c2 : m / 4 % 2 = 1
      · have d2 := congrArg V.int c2
        (walk_at "vk_vc")
        all_goals first | exact fin _ _ _ _ (by focus exact (by (walk_at "vk_same"))) (by (walk_at "vk_cl")) rfl np
      · have d2 := no c2
        (walk_at "vk_vc")
        all_goals first | exact fin _ _ _ _ (by focus exact (by (walk_at "vk_same"))) (by (walk_at "vk_cl")) rfl np
    · rw [if_neg c1] at hn
      have d1 := no c1
      by_cases c2 : m / 4 % 2 = 1
      · rw [if_pos c2] at hn; subst hn
        have d2 := congrArg V.int c2
        (walk_at "vk_vc")
        all_goals first | exact fin _ _ _ _ (by focus exact (by (walk_at "vk_same"))) (by (walk_at "vk_cl")) rfl np
      · rw [if_neg c2] at hn; subst hn
        have d2 := no c2
        (walk_at "vk_vc")
        all_goals first | exact fin _ _ _ _ (by focus exact (by (walk_at "vk_same"))) (by (walk_at "vk_cl")) rfl np
end Vk

set_option maxHeartbeats 4000000
namespace Vk
open PySem L2 Vm Vl Vs
variable {l aZERO aONE aHALF aDR C CB CR CT CV fB fR fT : Addr} {P : Program} {w : World} {K : PySem.W.Frag} {mg : Str → Option Value} {base : Heap} {k : Nat} {f f1 f2 f3 f4 f5 f6 f7 f8 f9 f10 f11 f12 : Addr} {fd fd1 fd2 fd3 fd4 fd5 fd6 fd7 fd8 fd9 fd10 fd11 fd12 : FuncData}
section
variable {X : Cx} {k n : Nat} {C f : Addr} {fd : FuncData} {ps ks : List Str} {sp : Sp} {x : Str} {p pos : Pos} {e : Expr} {es : List Expr} {kws : List Keyword} {t tkw : TA} {W : WX} {g : List Value → List Value → List Value} {gV : List V → List V → List V}
/-- C(e, .., k = v, ..) within a suite whose wish W takes what the making raises -/
def tMakeKS (C : Addr) (n m : Nat) (sp : Sp) (gV : List V → List V → List V) (E : L2.St → XK) (t tk : TA) : TE := fun σ G Q => t σ G fun as G1 => tk σ G1 fun bs G2 => as.length = n ∧ bs.length = m ∧ ∀ o dd, G2 o = none → G2 dd = none → dd ≠ o →
  sp (gV (.ref o :: as) bs) (upd (upd G2 dd (.own o)) o (.ins C dd [])) (fun v G3 => v = .non ∧ Q (.ref o) G3) (E σ)
theorem pmakeKY (D : MkY X.prog X.w X.K X.mg X.base k x C ps sp f fd) (hb : KBn X.K fd ps (n + 1) ks g gV) (hr : Room (k + 1) X.A) (tk : L2N.Takes X W) (ha : PA X (e :: es) t) (hkw : PK X kws tkw) (hg : Gl X x := by rfl)
    (nam : (backToKw pos (keywordEach kws X.env)).all (·.1.isSome) = true := by rfl) (kss : (backToKw pos (keywordEach kws X.env)).filterMap (·.1) = ks := by rfl) (ndb : (x == ("__debug__" : Str)) = false := by decide)
    (hst : starEach (e :: es) X.env = (false, eval e X.env) :: starEach es X.env := by rfl) (pla : ((backTo pos (starEach (e :: es) X.env)).any (·.1) || (backToKw pos (keywordEach kws X.env)).any (·.1.isNone)) = false := by rfl) :
    PE X (.Call (.Name x p) (e :: es) kws pos) (tMakeKS C n ks.length sp gV (WE W) t tkw) := by
  constructor
  intro pins s σ G Q I want
  apply wpAny_Call_Name_kw
  apply ld_glob I hg D.m ?_ ndb
  apply PySem.W.callWith_KW (h₀ := X.base) I.ok.mod.kin D.kk.kp nam ?_ pla hst
  refine thn (ha.run pos pins s σ G _ I want) ?_
  rintro us s1 ⟨as, G1, I1, ra, w1⟩
  refine thn (hkw.run pos pins s1 σ G1 _ I1 w1) ?_
  rintro ws s2 ⟨bs, G2, I2, rb, la, lb, w2⟩
  refine ⟨I2.kIn, ?_⟩
  rw [kss]
  have top : G2 (s2.heap.objs.size + 1) = none := I2.hok.fresh (Nat.le_succ _)
  have low : G2 s2.heap.objs.size = none := I2.hok.fresh (Nat.le_refl _)
  have goal := w2 _ _ top low (Nat.ne_of_lt (Nat.lt_succ_self _))
  have J := Inv.made (C := C) I2
  have rel := hb.rel (Paired.cons (show RelV (V.ref (s2.heap.objs.size + 1)) (Value.ref (s2.heap.objs.size + 1)) from rfl) ra) rb
  have cnt : (Value.ref (s2.heap.objs.size + 1) :: us).length = n + 1 := by rw [List.length_cons, ← ra.length, la]
  refine wpAny_call (make_map (f := f) I2.kIn D.kk.makes D.kk.init (beq_iff_eq.mp D.kk.fn) (codeAny_mono
    (D.ok.run _ X.stack _ _ ⟨Value.ref (s2.heap.objs.size + 1) :: us, ks.zip ws⟩ (g (Value.ref (s2.heap.objs.size + 1) :: us) ws) _ _ (WE W σ) (hr.make C us (ks.zip ws)) (J.env0.make C us (ks.zip ws)) (hb.to _ (Value.ref (s2.heap.objs.size + 1) :: us) ws J.kIn cnt (rb.length.symm.trans lb)) rel goal) ?_))
  intro res s3 out
  cases res with
  | error er => exact L2N.passAt tk σ pins _ _ er s3 J out
  | ok fl =>
    cases fl with
    | ret u =>
      obtain ⟨v, G3, J3, rv, ev, w3⟩ := J.after out
      subst ev
      exact ⟨rv, ⟨V.ref (s2.heap.objs.size + 1), G3, J3, rfl, w3⟩⟩
    | next => exact out.elim
    | brk => exact out.elim
    | cont => exact out.elim
end
end Vk

set_option maxHeartbeats 4000000
namespace Vk
open PySem L2 Vm Vl Vs
variable {l aZERO aONE aHALF aDR C fB fR fT fE cZeroDivisor cBadNumber cEmptySpan cBeforeStart cTurnsBack cBadRate cBadBound cBadName cDuplicateName cUnknownName cBadLink cUnknownLink cBadNote cUnknownMoment cNoWorld cOutsideSpan cTooManyLiars cRootFollows cCondemned cBadDate cBadLeap cBadLabel cNoSuchSecond cBadCells cRefusedEntry cDuplicateTag cUnknownTag cBadLine cNothingToUndo cNothingToRedo cVerdictError : Addr} {P : Program} {w : World} {K : PySem.W.Frag} {mg : Str → Option Value} {base : Heap} {k n : Nat} {f f1 f2 f3 : Addr} {fd fd1 fd2 fd3 : FuncData}
/-- the n-th class stands at A: of itself alone, and a VerdictError -/
structure Kl (K : PySem.W.Frag) (cZeroDivisor cBadNumber cEmptySpan cBeforeStart cTurnsBack cBadRate cBadBound cBadName cDuplicateName cUnknownName cBadLink cUnknownLink cBadNote cUnknownMoment cNoWorld cOutsideSpan cTooManyLiars cRootFollows cCondemned cBadDate cBadLeap cBadLabel cNoSuchSecond cBadCells cRefusedEntry cDuplicateTag cUnknownTag cBadLine cNothingToUndo cNothingToRedo cVerdictError : Addr) (n : Nat) (A : Addr) : Prop where
  a : Ak K cZeroDivisor cBadNumber cEmptySpan cBeforeStart cTurnsBack cBadRate cBadBound cBadName cDuplicateName cUnknownName cBadLink cUnknownLink cBadNote cUnknownMoment cNoWorld cOutsideSpan cTooManyLiars cRootFollows cCondemned cBadDate cBadLeap cBadLabel cNoSuchSecond cBadCells cRefusedEntry cDuplicateTag cUnknownTag cBadLine cNothingToUndo cNothingToRedo n A
  v : PySem.W.kitOne K (.ref A) (.ref cVerdictError) = some true
def spC2 (a : Addr) (n : Nat) (d : Option Addr) : Sp := fun vs H Q _ => ∃ (dd : Addr) (y : V), d = some dd ∧ vs = [.ref a] ∧ H dd = some (.xd [(("value" : Str), y)]) ∧ ∀ D H', Same H H' → H' D = some (.lst [.str (clsN n)]) → Q (.ref D) H'
theorem spC2_imp {A : Addr} (kl : Kl K cZeroDivisor cBadNumber cEmptySpan cBeforeStart cTurnsBack cBadRate cBadBound cBadName cDuplicateName cUnknownName cBadLink cUnknownLink cBadNote cUnknownMoment cNoWorld cOutsideSpan cTooManyLiars cRootFollows cCondemned cBadDate cBadLeap cBadLabel cNoSuchSecond cBadCells cRefusedEntry cDuplicateTag cUnknownTag cBadLine cNothingToUndo cNothingToRedo cVerdictError n A) (n3 : 3 ≤ n) (n6 : n ≤ 6) {a : Addr} {oe : Obj} {d : Option Addr} (hz : Zc (.ref A) d oe) (hf : ∃ fv, oe.data = .fields fv) : ∀ vs H Q E, spC2 a n d vs H Q E → spClsG K cZeroDivisor cBadNumber cEmptySpan cBeforeStart cTurnsBack cBadRate cBadBound cBadName cDuplicateName cUnknownName cBadLink cUnknownLink cBadNote cUnknownMoment cNoWorld cOutsideSpan cTooManyLiars cRootFollows cCondemned cBadDate cBadLeap cBadLabel cNoSuchSecond cBadCells cRefusedEntry cDuplicateTag cUnknownTag cBadLine cNothingToUndo cNothingToRedo cVerdictError (a, oe) vs H Q E := by
  rintro vs H Q E ⟨dd, y, rfl, rfl, h, q⟩
  exact ⟨n, A, dd, y, n3, n6, kl.a, kl.v, rfl, hz, hf, h, q⟩
def tSuC (A : Addr) (n : Nat) (i : Nat) : Addr → Value → Option Addr → TS := fun a cls d D σ H => cls = .ref A ∧
  tRet (tTup (tCons (tCall (spC2 a n d) [] E0 (tCons (tVar i) tNil)) (tCons (tByVal A a (.ref A) d (tVar i)) tNil))) D σ H
/-- what a refusal is told as: the names of the error's classes, and its value -/
def Told (K : PySem.W.Frag) (Q : VK) (H : Hp) (n : Nat) (y : V) : Prop := ∀ t D H', Same H H' → SqT K H' t [.ref D, y] → H' D = some (.lst [.str (clsN n)]) → Q (.ref t) H'
/-- what the suite of the n-th class tells -/
theorem suC {A a dd : Addr} {n i : Nat} {y : V} {D : Ends} {σ : L2.St} {H : Hp} {Q : VK} (hD : D.rt = Q) (hv : σ[i]? = some (some (.ref a))) (hdat : H dd = some (.xd [(("value" : Str), y)])) (z : Told K Q H n y) : tSuC A n i a (.ref A) (some dd) D σ H := by
  subst hD
  refine ⟨rfl, _, hv, dd, y, rfl, rfl, hdat, fun D' H3 s3 h3 => ?_⟩
  refine ⟨_, hv, rfl, rfl, dd, y, rfl, s3 _ _ hdat, sz2, fun t ht => ?_⟩
  have st := same_new ht (.tup [.ref D', y])
  exact z t D' _ (s3.trans st) (SqT.of upd_same) (st _ _ h3)
/-- which class a fault is of -/
def fltC : Nat → Nat
  | 0 => 6
  | 1 => 5
  | 2 => 5
  | _ => 6
theorem clsN_flt : ∀ n, clsN (fltC n) = fltN n
  | 0 => rfl
  | 1 => rfl
  | 2 => rfl
  | _ + 3 => rfl
theorem Told.same {Q : VK} {H H' : Hp} {n : Nat} {y : V} (z : Told K Q H n y) (e : Same H H') : Told K Q H' n y := fun t D H2 e2 h g => z t D H2 (e.trans e2) h g
def spNM (K : PySem.W.Frag) : Sp := fun vs H Q _ => ∃ (a : Addr) (xr xs xe xl xd xo : V) (r s e l d : Rat) (ov : Option Rat) (m : Nat), vs = [.ref a] ∧ SqL K H a [xr, xs, xe, xl, xd, xo] ∧ Rq K H xr r ∧ Rq K H xs s ∧ Rq K H xe e ∧ Rq K H xl l ∧ Rq K H xd d ∧ optV K H xo ov ∧ Sz m e ∧ Sz m l ∧ Sz m d ∧ OSz m ov ∧ m ≤ 4000 ∧
  (0 ≤ e → 0 < l → l < 1 → 0 ≤ d → d < l → (∀ q, ov = some q → 0 ≤ q) → ∀ H', Same H H' → Q .non H') ∧ ∀ (n : Nat) (y : V), Flt e l d ov n → [xe, xl, xd, xo][n]? = some y → Told K Q H (fltC n) y
abbrev s__law_not_made : Stmt := top 95
abbrev N__law_not_made : List Str := ["_law_args", "_law_e"]
theorem sc__law_not_made : FnScope N__law_not_made ["_law_args"] (defScope s__law_not_made) := ⟨rfl, rfl, rfl, by decide +kernel, rfl, by decide +kernel, by decide +kernel⟩
abbrev ps__law_not_made : List Str := ["_law_args"]
theorem ok_not_made (TB : PySem.ValX.ValTxt K mg "BadBound" cBadBound fB) (TR : PySem.ValX.ValTxt K mg "BadRate" cBadRate fR) (kB : Kl K cZeroDivisor cBadNumber cEmptySpan cBeforeStart cTurnsBack cBadRate cBadBound cBadName cDuplicateName cUnknownName cBadLink cUnknownLink cBadNote cUnknownMoment cNoWorld cOutsideSpan cTooManyLiars cRootFollows cCondemned cBadDate cBadLeap cBadLabel cNoSuchSecond cBadCells cRefusedEntry cDuplicateTag cUnknownTag cBadLine cNothingToUndo cNothingToRedo cVerdictError 6 cBadBound) (kR : Kl K cZeroDivisor cBadNumber cEmptySpan cBeforeStart cTurnsBack cBadRate cBadBound cBadName cDuplicateName cUnknownName cBadLink cUnknownLink cBadNote cUnknownMoment cNoWorld cOutsideSpan cTooManyLiars cRootFollows cCondemned cBadDate cBadLeap cBadLabel cNoSuchSecond cBadCells cRefusedEntry cDuplicateTag cUnknownTag cBadLine cNothingToUndo cNothingToRedo cVerdictError 5 cBadRate) (rb : PySem.W.exmOne K (.ref cBadRate) (.ref cBadBound) = some false)
    (F : Fn K mg "_law_not_made" s__law_not_made ps__law_not_made f fd) (dSteering : MkY P w K mg base k "Steering" C ps_Steering_init (spInit K C cBadBound cBadRate) f1 fd1)
    (kbSteering_slew_drift_step_over : KBn K fd1 ps_Steering_init 4 ["slew", "drift", "step_over"] (fun us ws => us ++ ws) (fun vs zs => vs ++ zs)) (d_law_classes : DefP P w K mg base (k + 1) "_law_classes" ["_law_e"] (spClsG K cZeroDivisor cBadNumber cEmptySpan cBeforeStart cTurnsBack cBadRate cBadBound cBadName cDuplicateName cUnknownName cBadLink cUnknownLink cBadNote cUnknownMoment cNoWorld cOutsideSpan cTooManyLiars cRootFollows cCondemned cBadDate cBadLeap cBadLabel cNoSuchSecond cBadCells cRefusedEntry cDuplicateTag cUnknownTag cBadLine cNothingToUndo cNothingToRedo cVerdictError) f2 fd2) :
    Def P w K mg base (k + 1 + 1) "_law_not_made" ps__law_not_made (spNM K) f fd := by
  refine ⟨F.F.ok sc__law_not_made (fun vs H Q E h => ?_) (fun cdv A outer s H vs Q E hr h => ?_), F.m, F.F.kp, F.b⟩
  · obtain ⟨_, _, _, _, _, _, _, _, _, _, _, _, _, _, rfl, _⟩ := h
    rfl
  obtain ⟨a0, xr, xs, xe, xl, xd, xo, qr, qs, qe, ql, qd, ov, m, rfl, hA, g0, g1, g2, g3, g4, g5, z2, z3, z4, z5, hm, zg, zb⟩ := h
  refine ⟨_, (pss_cons (L2N.ps_try_ases (W0 := fun _ _ _ _ => False) rfl rfl sc__law_not_made.nd takes0Y
          (fun W pn xe tk _ => pss_one (ps_expr (pmakeKY dSteering kbSteering_slew_drift_step_over hr tk (pa_cons (pe_ix (show IxR _ (rIxL K) from ix_list) (pv 0) pe_int (fun _ _ => rfl)) (pa_cons (pe_ix (show IxR _ (rIxL K) from ix_list) (pv 0) pe_int (fun _ _ => rfl)) (pa_cons (pe_ix (show IxR _ (rIxL K) from ix_list) (pv 0) pe_int (fun _ _ => rfl)) pa_nil))) (pk_cons (pe_ix (show IxR _ (rIxL K) from ix_list) (pv 0) pe_int (fun _ _ => rfl)) (pk_cons (pe_ix (show IxR _ (rIxL K) from ix_list) (pv 0) pe_int (fun _ _ => rfl)) (pk_cons (pe_ix (show IxR _ (rIxL K) from ix_list) (pv 0) pe_int (fun _ _ => rfl)) pk_nil))))))
          (L2N.AsOk.cons (i := 1) (ts := tSuC cBadBound 6 1) ⟨rfl, by decide, Or.inl TB.gC⟩ rfl rfl (fun a oe cls d pn hz hf => pss_if (p := cls = .ref cBadBound) fun e => by
              subst e
              exact pss_one (ps_ret (pe_tup (pa_cons (pe_callP2 d_law_classes ⟨hr.dp, hr.un⟩ ⟨rfl, hf.elim fun vs ev => ⟨vs, ev, hz.2.2 vs ev⟩⟩ List.mem_cons_self (spC2_imp kB (by decide) (by decide) hz.zc hf) (pa_cons (pv 1) pa_nil)) (pa_cons (pe_byVal TB hz.zc hf (pv 1)) pa_nil)))))
          (L2N.AsOk.cons (i := 1) (ts := tSuC cBadRate 5 1) ⟨rfl, by decide, Or.inl TR.gC⟩ rfl rfl (fun a oe cls d pn hz hf => pss_if (p := cls = .ref cBadRate) fun e => by
              subst e
              exact pss_one (ps_ret (pe_tup (pa_cons (pe_callP2 d_law_classes ⟨hr.dp, hr.un⟩ ⟨rfl, hf.elim fun vs ev => ⟨vs, ev, hz.2.2 vs ev⟩⟩ List.mem_cons_self (spC2_imp kR (by decide) (by decide) hz.zc hf) (pa_cons (pv 1) pa_nil)) (pa_cons (pe_byVal TR hz.zc hf (pv 1)) pa_nil)))))
          L2N.AsOk.nil)))
      (pss_one (ps_ret pe_non))), ?_⟩
  have i0 : atI [xr, xs, xe, xl, xd, xo] 0 = some xr := rfl
  have i1 : atI [xr, xs, xe, xl, xd, xo] 1 = some xs := rfl
  have i2 : atI [xr, xs, xe, xl, xd, xo] 2 = some xe := rfl
  have i3 : atI [xr, xs, xe, xl, xd, xo] 3 = some xl := rfl
  have i4 : atI [xr, xs, xe, xl, xd, xo] 4 = some xd := rfl
  have i5 : atI [xr, xs, xe, xl, xd, xo] 5 = some xo := rfl
  (walk_at "vk_vc")
  intro o dx no ndx ne
  have s1 := same_new ndx (.own o)
  have no' : (upd H dx (.own o)) o = none := by rw [upd_ne ne.symm]; exact no
  have s2 := same_new no' (.ins C dx [])
  have sA := s1.trans s2
  have e1 : ∀ (x : V) (n : Nat) (nm : Nat) (dd : Addr), Flt qe ql qd ov n → [xe, xl, xd, xo][n]? = some x → nm = fltC n → (upd (upd H dx (.own o)) o (.ins C dx [])) dd = none → ((upd (upd (upd H dx (.own o)) o (.ins C dx [])) dd (.xd [(("value" : Str), x)])) dd = some (.xd [(("value" : Str), x)]) ∧ Told K Q (upd (upd (upd H dx (.own o)) o (.ins C dx [])) dd (.xd [(("value" : Str), x)])) nm x) := fun x n nm dd hf hx e hdd => by
    subst e
    exact ⟨upd_same, (zb n x hf hx).same (sA.trans (same_new hdd _))⟩
  refine ⟨o, dx, xr, xs, xe, xl, xd, xo, qr, qs, qe, ql, qd, ov, m, rfl, upd_same, g0.same sA, g1.same sA, g2.same sA, g3.same sA, g4.same sA, g5.same sA, z2, z3, z4, z5, hm, fun c1 c2 c3 c4 c5 c6 H' ef g => ⟨rfl, zg c1 c2 c3 c4 c5 c6 H' ?_⟩, fun c => ?_, fun c1 c2 => ?_, fun c1 c2 c3 c4 => ?_, fun c1 c2 c3 c4 c5 q e c6 => ?_⟩
  · exact fun b u h => ef b u (sA b u h) fun e => by subst e; rw [no] at h; cases h
  · intro dd hdd
    obtain ⟨hdat, zt⟩ := e1 xe 0 6 dd (.a c) rfl rfl hdd
    exact ⟨true, TB.te, fun _ u hu => suC (Q := Q) rfl rfl hdat zt, nofun⟩
  · intro dd hdd
    obtain ⟨hdat, zt⟩ := e1 xl 1 5 dd (.b c1 c2) rfl rfl hdd
    exact ⟨false, rb, nofun, fun _ => ⟨true, TR.te, fun _ u hu => suC (Q := Q) rfl rfl hdat zt, nofun⟩⟩
  · intro dd hdd
    obtain ⟨hdat, zt⟩ := e1 xd 2 5 dd (.c c1 c2 c3 c4) rfl rfl hdd
    exact ⟨false, rb, nofun, fun _ => ⟨true, TR.te, fun _ u hu => suC (Q := Q) rfl rfl hdat zt, nofun⟩⟩
  · intro dd hdd
    obtain ⟨hdat, zt⟩ := e1 xo 3 6 dd (.d c1 c2 c3 c4 c5 (fun q' e' => by rw [e] at e'; cases e'; exact c6) (by rw [e]; nofun)) rfl rfl hdd
    exact ⟨true, TB.te, fun _ u hu => suC (Q := Q) rfl rfl hdat zt, nofun⟩
end Vk

set_option maxHeartbeats 4000000
namespace Vk
open PySem L2 Vm Vl Vs
variable {l aZERO aONE aHALF aDR C fB fR fT fE cZeroDivisor cBadNumber cEmptySpan cBeforeStart cTurnsBack cBadRate cBadBound cBadName cDuplicateName cUnknownName cBadLink cUnknownLink cBadNote cUnknownMoment cNoWorld cOutsideSpan cTooManyLiars cRootFollows cCondemned cBadDate cBadLeap cBadLabel cNoSuchSecond cBadCells cRefusedEntry cDuplicateTag cUnknownTag cBadLine cNothingToUndo cNothingToRedo cVerdictError : Addr} {P : Program} {w : World} {K : PySem.W.Frag} {mg : Str → Option Value} {base : Heap} {k n : Nat} {f f1 f2 f3 f4 : Addr} {fd fd1 fd2 fd3 fd4 : FuncData}
def spRf (K : PySem.W.Frag) (C : Addr) : Sp := fun vs H Q _ => ∃ (o : Addr) (deed : Str) (y xp : V) (r : Sr) (t : Rat), vs = [.ref o, .str deed, y, xp] ∧ SgA K C o H r ∧ Rq K H y t ∧
  ((deed = "steer" ∧ t < r.la ∧ (∃ os : Option Vs.Spn, oSp K H xp os) ∧ Sz 700 t ∧ Sz 700 r.la ∧ Sz 700 r.bd ∧ Sz 700 r.hf ∧ Sz 60 r.sl ∧ Sz 60 r.dr ∧ Told K Q H 4 y) ∨
   (deed = "error_at" ∧ t < r.la ∧ Sz 700 t ∧ Sz 700 r.la ∧ Sz 700 r.bd ∧ Sz 700 r.hf ∧ Sz 700 r.sl ∧ Sz 700 r.dr ∧ Told K Q H 4 y) ∨
   (deed = "display" ∧ nowf r.c t = none ∧ (∃ i j l m : Nat, Cz i j l r.c ∧ Sz m t ∧ j + l + m + i + 3 ≤ 9000) ∧ Cok r.c ∧ r.c.length ≤ 900 ∧ Told K Q H 3 y))
abbrev s__law_refused : Stmt := top 96
abbrev N__law_refused : List Str := ["_law_steering", "_law_deed", "_law_raw", "_law_span", "_law_e"]
theorem sc__law_refused : FnScope N__law_refused ["_law_steering", "_law_deed", "_law_raw", "_law_span"] (defScope s__law_refused) := ⟨rfl, rfl, rfl, by decide +kernel, rfl, by decide +kernel, by decide +kernel⟩
abbrev ps__law_refused : List Str := ["_law_steering", "_law_deed", "_law_raw", "_law_span"]
theorem ok_refused (TT : PySem.ValX.ValTxt K mg "TurnsBack" cTurnsBack fT) (TB : PySem.ValX.ValTxt K mg "BeforeStart" cBeforeStart fE) (kT : Kl K cZeroDivisor cBadNumber cEmptySpan cBeforeStart cTurnsBack cBadRate cBadBound cBadName cDuplicateName cUnknownName cBadLink cUnknownLink cBadNote cUnknownMoment cNoWorld cOutsideSpan cTooManyLiars cRootFollows cCondemned cBadDate cBadLeap cBadLabel cNoSuchSecond cBadCells cRefusedEntry cDuplicateTag cUnknownTag cBadLine cNothingToUndo cNothingToRedo cVerdictError 4 cTurnsBack) (kB : Kl K cZeroDivisor cBadNumber cEmptySpan cBeforeStart cTurnsBack cBadRate cBadBound cBadName cDuplicateName cUnknownName cBadLink cUnknownLink cBadNote cUnknownMoment cNoWorld cOutsideSpan cTooManyLiars cRootFollows cCondemned cBadDate cBadLeap cBadLabel cNoSuchSecond cBadCells cRefusedEntry cDuplicateTag cUnknownTag cBadLine cNothingToUndo cNothingToRedo cVerdictError 3 cBeforeStart) (rb : PySem.W.exmOne K (.ref cBeforeStart) (.ref cTurnsBack) = some false)
    (F : Fn K mg "_law_refused" s__law_refused ps__law_refused f fd) (dSteering_steer : MthY P w K mg base k C "steer" ps_Steering_steer (spSteer K C cTurnsBack) f1 fd1) (dSteering_error_at : MthY P w K mg base k C "error_at" ps_Steering_error_at (spErrAt K C cTurnsBack) f2 fd2) (dSteering_display : MthY P w K mg base k C "display" ps_Steering_display (spDisplay K C cBeforeStart) f3 fd3)
    (d_law_classes : DefP P w K mg base k "_law_classes" ["_law_e"] (spClsG K cZeroDivisor cBadNumber cEmptySpan cBeforeStart cTurnsBack cBadRate cBadBound cBadName cDuplicateName cUnknownName cBadLink cUnknownLink cBadNote cUnknownMoment cNoWorld cOutsideSpan cTooManyLiars cRootFollows cCondemned cBadDate cBadLeap cBadLabel cNoSuchSecond cBadCells cRefusedEntry cDuplicateTag cUnknownTag cBadLine cNothingToUndo cNothingToRedo cVerdictError) f4 fd4) :
    Def P w K mg base (k + 1) "_law_refused" ps__law_refused (spRf K C) f fd := by
  refine ⟨F.F.ok sc__law_refused (fun vs H Q E h => ?_) (fun cdv A outer s H vs Q E hr h => ?_), F.m, F.F.kp, F.b⟩
  · obtain ⟨_, _, _, _, _, _, rfl, _⟩ := h
    rfl
  obtain ⟨o, deed, y, xp, r, t, rfl, hO, hy, z⟩ := h
  obtain ⟨dx, sx, ho, G⟩ := id hO
  obtain ⟨no1, no2, no3, no4, no5, no6⟩ := sgf_no sx
  refine ⟨_, (pss_cons (L2N.ps_try_ases (W0 := fun _ _ _ _ => False) rfl rfl sc__law_refused.nd takes0Y
          (fun W pn xe tk _ => (pss_one (ps_if (pt_cmpR op_eq (pv 1) pe_str (nomark _))
        (pss_one (ps_expr (pmethY dSteering_steer hr tk (pv 0) (pa_cons (pv 2) (pa_cons (pv 3) pa_nil)))))
        (pss_one (ps_if (pt_cmpR op_eq (pv 1) pe_str (nomark _))
          (pss_one (ps_expr (pmethY dSteering_error_at hr tk (pv 0) (pa_cons (pv 2) pa_nil))))
          (pss_one (ps_expr (pmethY dSteering_display hr tk (pv 0) (pa_cons (pv 2) pa_nil)))))))))
          (L2N.AsOk.cons (i := 4) (ts := tSuC cTurnsBack 4 4) ⟨rfl, by decide, Or.inl TT.gC⟩ rfl rfl (fun a oe cls d pn hz hf => pss_if (p := cls = .ref cTurnsBack) fun e => by
              subst e
              exact pss_one (ps_ret (pe_tup (pa_cons (pe_callP2 d_law_classes ⟨hr.dp, hr.un⟩ ⟨rfl, hf.elim fun vs ev => ⟨vs, ev, hz.2.2 vs ev⟩⟩ List.mem_cons_self (spC2_imp kT (by decide) (by decide) hz.zc hf) (pa_cons (pv 4) pa_nil)) (pa_cons (pe_byVal TT hz.zc hf (pv 4)) pa_nil)))))
          (L2N.AsOk.cons (i := 4) (ts := tSuC cBeforeStart 3 4) ⟨rfl, by decide, Or.inl TB.gC⟩ rfl rfl (fun a oe cls d pn hz hf => pss_if (p := cls = .ref cBeforeStart) fun e => by
              subst e
              exact pss_one (ps_ret (pe_tup (pa_cons (pe_callP2 d_law_classes ⟨hr.dp, hr.un⟩ ⟨rfl, hf.elim fun vs ev => ⟨vs, ev, hz.2.2 vs ev⟩⟩ List.mem_cons_self (spC2_imp kB (by decide) (by decide) hz.zc hf) (pa_cons (pv 4) pa_nil)) (pa_cons (pe_byVal TB hz.zc hf (pv 4)) pa_nil)))))
          L2N.AsOk.nil)))
      (pss_one (ps_ret pe_non))), ?_⟩
  have e1 : ∀ (nm : Nat) (dd : Addr), Told K Q H nm y → H dd = none → ((upd H dd (.xd [(("value" : Str), y)])) dd = some (.xd [(("value" : Str), y)]) ∧ Told K Q (upd H dd (.xd [(("value" : Str), y)])) nm y) := fun nm dd z hdd => ⟨upd_same, z.same (same_new hdd _)⟩
  rcases z with ⟨rfl, lt, ⟨os, hos⟩, zt, zla, zbd, zhf, zsl, zdr, z⟩ | ⟨rfl, lt, zt, zla, zbd, zhf, zsl, zdr, z⟩ | ⟨rfl, hn, ⟨i, j, l', m, cz, zt, hb⟩, ok, hl, z⟩
  · (walk_at "vk_vc")
    · exact fun c => absurd lt (Rat.not_lt.mpr c)
    · intro _ dd hdd
      obtain ⟨hdat, zt⟩ := e1 4 dd z hdd
      exact ⟨true, TT.te, fun _ u hu => suC (Q := Q) rfl rfl hdat zt, nofun⟩
    · exact 0
  · (walk_at "vk_vc")
    · exact fun c => absurd lt (Rat.not_lt.mpr c)
    · intro _ dd hdd
      obtain ⟨hdat, zt⟩ := e1 4 dd z hdd
      exact ⟨true, TT.te, fun _ u hu => suC (Q := Q) rfl rfl hdat zt, nofun⟩
  · (walk_at "vk_vc")
    · intro q a H' e
      rw [hn] at e; cases e
    · intro _ dd hdd
      obtain ⟨hdat, zt⟩ := e1 3 dd z hdd
      exact ⟨false, rb, nofun, fun _ => ⟨true, TB.te, fun _ u hu => suC (Q := Q) rfl rfl hdat zt, nofun⟩⟩
end Vk

set_option maxHeartbeats 4000000
namespace Vk
open PySem L2 Vm Vl Vs
variable {l aZERO aONE aHALF aDR C CB CT : Addr} {P : Program} {w : World} {K : PySem.W.Frag} {mg : Str → Option Value} {base : Heap} {k n : Nat} {f f1 f2 f3 f4 f5 : Addr} {fd fd1 fd2 fd3 fd4 fd5 : FuncData}
theorem rl32 {H : Hp} {t : Addr} : Rq K (upd H t (.tup [.int 3, .int 2])) (.ref t) (mkRat 3 2) := rq_new 3 2 _ (by decide +kernel) (by decide +kernel)
theorem rl301 {H : Hp} {t : Addr} : Rq K (upd H t (.tup [.int 30, .int 1])) (.ref t) (mkRat 30 1) := rq_new 30 1 _ (by decide +kernel) (by decide +kernel)
def shT (a b : Rat) : List Rat := [a, b, b + mkRat 3 2, b + mkRat 30 1]
def boT (b : Rat) : List Rat := [b, b + mkRat 3 2, b + mkRat 30 1]
/-- what a look at a steering tells -/
def lookD (r : Sr) (a b : Rat) : PyData := .tuple [cdat r.c, odp r.aim, .list (((shT a b).filterMap (nowf r.c)).map dq), .list (((boT b).filterMap fun t => some (errS r t)).map dq)]
theorem all2d {α : Type} {R : V → α → Prop} {x : V} {xs : List V} {p : α} {c : List α} (h : R x p) (g : All2 R xs c) : All2 R (x :: xs) (p :: c) := (All2.one h).append g
theorem shT_le {a b : Rat} (h : a ≤ b) : ∀ t ∈ shT a b, a ≤ t := fun t ht => by
  have h1 : (0 : Rat) ≤ mkRat 3 2 := by decide +kernel
  have h2 : (0 : Rat) ≤ mkRat 30 1 := by decide +kernel
  unfold shT at ht
  simp only [List.mem_cons, List.not_mem_nil, or_false] at ht
  rcases ht with rfl | rfl | rfl | rfl <;> grind
theorem boT_le {b : Rat} : ∀ t ∈ boT b, b ≤ t := fun t ht => by
  have h1 : (0 : Rat) ≤ mkRat 3 2 := by decide +kernel
  have h2 : (0 : Rat) ≤ mkRat 30 1 := by decide +kernel
  unfold boT at ht
  simp only [List.mem_cons, List.not_mem_nil, or_false] at ht
  rcases ht with rfl | rfl | rfl <;> grind
theorem shT_sz {a b : Rat} (ha : Sz 62 a) (hb : Sz 62 b) : ∀ t ∈ shT a b, Sz 140 t := fun t ht => by
  have z32 : Sz 5 (mkRat 3 2) := by decide +kernel
  have z301 : Sz 5 (mkRat 30 1) := by decide +kernel
  have zs1 : Sz 140 (b + mkRat 3 2) := (hb.add z32).mono (by decide)
  have zs2 : Sz 140 (b + mkRat 30 1) := (hb.add z301).mono (by decide)
  unfold shT at ht
  simp only [List.mem_cons, List.not_mem_nil, or_false] at ht
  rcases ht with rfl | rfl | rfl | rfl
  · exact ha.mono (by decide)
  · exact hb.mono (by decide)
  · exact zs1
  · exact zs2
theorem boT_sz {b : Rat} (hb : Sz 62 b) : ∀ t ∈ boT b, Sz 140 t := fun t ht => shT_sz hb hb t (List.mem_cons_of_mem _ ht)
def spLook (K : PySem.W.Frag) (C : Addr) : Sp := fun vs H Q _ => ∃ (o : Addr) (xf xl : V) (x : Ag) (n : Nat) (r : Sr) (st : Ls), vs = [.ref o, xf, xl] ∧ SgA K C o H r ∧ Rq K H xf x.r ∧ Rq K H xl st.ra ∧ At x n r st ∧ AgOk x ∧ n ≤ 6 ∧ ∀ v H', Same H H' → Dp K H' v (lookD r x.r st.ra) → Q v H'
abbrev s__law_look : Stmt := top 97
abbrev N__law_look : List Str := ["_law_steering", "_law_first", "_law_last", "_law_shown", "_law_t", "_law_bounds"]
theorem sc__law_look : FnScope N__law_look ["_law_steering", "_law_first", "_law_last"] (defScope s__law_look) := ⟨rfl, rfl, rfl, by decide +kernel, rfl, by decide +kernel, by decide +kernel⟩
abbrev ps__law_look : List Str := ["_law_steering", "_law_first", "_law_last"]
theorem ok_look (T : Bn mg) (F : Fn K mg "_law_look" s__law_look ps__law_look f fd) (d_law_plus : Def P w K mg base (k + 1) "_law_plus" ["_law_a", "_law_b"] (spOp2 K (· + ·)) f1 fd1) (dSteering_display : MthY P w K mg base (k + 1) C "display" ps_Steering_display (spDisplay K C CB) f2 fd2) (dSteering_error_at : MthY P w K mg base (k + 1) C "error_at" ps_Steering_error_at (spErrAt K C CT) f3 fd3)
    (dSteering_course_of : Mth P w K mg base (k + 1) C "course_of" ps_Steering_course_of (spCourseOf K C) f4 fd4) (dSteering_aim : Prp P w K mg base k C "aim" ps_Steering_aim (spAim K C) f5 fd5) : Def P w K mg base (k + 1 + 1) "_law_look" ps__law_look (spLook K C) f fd := by
  refine ⟨F.F.ok sc__law_look (fun vs H Q E h => ?_) (fun cdv A outer s H vs Q E hr h => ?_), F.m, F.F.kp, F.b⟩
  · obtain ⟨_, _, _, _, _, _, _, rfl, _⟩ := h
    rfl
  obtain ⟨o, xf, xl, x, n, r, st, rfl, hO, hf, hl, AT, ok, hn, z⟩ := h
  obtain ⟨dx, sx, ho, G⟩ := id hO
  obtain ⟨no1, no2, no3, no4, no5, no6⟩ := sgf_no sx
  have za : Sz 62 st.ra := AT.ra.szL (by decide)
  have zf : Sz 62 x.r := ok.zr.mono (by decide)
  have z32 : Sz 5 (mkRat 3 2) := by decide +kernel
  have z301 : Sz 5 (mkRat 30 1) := by decide +kernel
  have zs1 : Sz 140 (st.ra + mkRat 3 2) := (za.add z32).mono (by decide)
  have zs2 : Sz 140 (st.ra + mkRat 30 1) := (za.add z301).mono (by decide)
  obtain ⟨zla, zbd, zhf, zsl, zdr⟩ := AT.zs ok hn
  have ln : r.c.length ≤ 900 := by have := AT.len; omega
  have xr := AT.R.xr
  have ela := AT.R.la
  refine ⟨_, (pss_cons (ps_setLc (i := 3) (own := [("_law_t", 4)]) (g := gName 4) (tt := tYes) rfl sc__law_look.nd rfl rfl (sw_true rfl rfl rfl (by decide +kernel)) (pi_list (pe_lst (pa_cons (pv 1) (pa_cons (pv 2) (pa_cons (pcall d_law_plus hr (pa_cons (pv 2) (pa_cons (pe_tup (pa_cons pe_int (pa_cons pe_int pa_nil))) pa_nil))) (pa_cons (pcall d_law_plus hr (pa_cons (pv 2) (pa_cons (pe_tup (pa_cons pe_int (pa_cons pe_int pa_nil))) pa_nil))) pa_nil)))))) (blkOk_by (N := N__law_look) (sc := defScope s__law_look) (by decide +kernel)) (fun _ _ _ _ _ => pg_name (i := 4) sc__law_look.nd rfl (Or.inl rfl)) (fun _ _ _ _ _ => pts_nil) (fun _ _ _ _ _ => (pmethYL dSteering_display hr (pv 0) (pa_cons (pv 4) pa_nil))))
      (pss_cons (ps_setLc (i := 5) (own := [("_law_t", 4)]) (g := gName 4) (tt := tYes) rfl sc__law_look.nd rfl rfl (sw_true rfl rfl rfl (by decide +kernel)) (pi_list (pe_lst (pa_cons (pv 2) (pa_cons (pcall d_law_plus hr (pa_cons (pv 2) (pa_cons (pe_tup (pa_cons pe_int (pa_cons pe_int pa_nil))) pa_nil))) (pa_cons (pcall d_law_plus hr (pa_cons (pv 2) (pa_cons (pe_tup (pa_cons pe_int (pa_cons pe_int pa_nil))) pa_nil))) pa_nil))))) (blkOk_by (N := N__law_look) (sc := defScope s__law_look) (by decide +kernel)) (fun _ _ _ _ _ => pg_name (i := 4) sc__law_look.nd rfl (Or.inl rfl)) (fun _ _ _ _ _ => pts_nil) (fun _ _ _ _ _ => (pmethYL dSteering_error_at hr (pv 0) (pa_cons (pv 4) pa_nil))))
      (pss_one (ps_ret (pe_tup (pa_cons (pmeth0 dSteering_course_of hr (pv 0)) (pa_cons (pprop dSteering_aim hr (pv 0)) (pa_cons (pv 3) (pa_cons (pv 5) pa_nil))))))))), ?_⟩
  (walk_at "vk_vc")
  refine lcAll (R := Rq K) (R' := Rq K) (c := shT x.r st.ra) (fun e hs h => h.fr e hs) (nowf r.c) np (SqL.of upd_same) (all2d (by (walk_at "vk_cl")) (all2d (by (walk_at "vk_cl")) (all2d (by (walk_at "vk_cl")) (all2d (by (walk_at "vk_cl")) All2.nil)))) (by show 4 ≤ 1000; decide) ?_ ?_
  · intro i y t G ec pq s1 Y N hY hN
    have mt := List.mem_of_getElem? ec
    have zt := shT_sz zf za t mt
    obtain ⟨q, hq⟩ := Option.ne_none_iff_exists'.mp (AT.R.h0 t (shT_le xr t mt))
    have hO1 : SgA K C o G r := hO.same (by focus exact (Same.trans (by (walk_at "vk_same")) s1))
    have pq1 := pq.same s1
    obtain ⟨dx1, sx1, ho1, G1⟩ := id hO1
    obtain ⟨no1, no2, no3, no4, no5, no6⟩ := sgf_no sx1
    have cz := AT.R.cz
    have okc := AT.R.ok
    (walk_at "vk_vc")
    · exact fun q' a' H' e e2 h => hY _ _ q' e2 e h
    · intro e; rw [hq] at e; cases e
  · intro us H1 s1 h1 h2
    have e1 : Same H H1 := by focus exact (Same.trans (by (walk_at "vk_same")) s1)
    have hO1 : SgA K C o H1 r := hO.same e1
    have hf1 := hf.same e1
    have hl1 := hl.same e1
    clear s1 hO hf hl
    (walk_at "vk_vc")
    refine lcAll (R := Rq K) (R' := Rq K) (c := boT st.ra) (fun e hs h => h.fr e hs) (fun t => some (errS r t)) np (SqL.of upd_same) (all2d (by (walk_at "vk_cl")) (all2d (by (walk_at "vk_cl")) (all2d (by (walk_at "vk_cl")) All2.nil))) (by show 3 ≤ 1000; decide) ?_ ?_
    · intro i y t G ec pq s1 Y N hY hN
      have mt := List.mem_of_getElem? ec
      have zt : Sz 700 t := (boT_sz za t mt).mono (by decide)
      have hO2 : SgA K C o G r := hO1.same (by focus exact (Same.trans (by (walk_at "vk_same")) s1))
      have pq1 := pq.same s1
      obtain ⟨dx1, sx1, ho1, G1⟩ := id hO2
      obtain ⟨no1, no2, no3, no4, no5, no6⟩ := sgf_no sx1
      have lt := boT_le t mt
      (walk_at "vk_vc")
      · exact fun _ v' H' e h => hY _ _ _ e rfl h
      · exact fun c => absurd lt (by rw [ela] at c; exact Rat.not_le.mpr c)
    · intro vs H2 s2 g1 g2
      have e2 : Same H1 H2 := by focus exact (Same.trans (by (walk_at "vk_same")) s2)
      have hO2 : SgA K C o H2 r := hO1.same e2
      have k1 := e2 _ _ h1
      have k2 := h2.imp fun _ _ h => Rq.same e2 h
      obtain ⟨dx1, sx1, ho1, G1⟩ := id hO2
      obtain ⟨no1, no2, no3, no4, no5, no6⟩ := sgf_no sx1
      clear s2 hO1 h1 h2
      (walk_at "vk_vc")
      intro D3 ws H3 e3 nD3 hc3
      have hO3 : SgA K C o H3 r := hO2.same e3
      have j1 := e3 _ _ k1
      have j2 := k2.imp fun _ _ h => Rq.same e3 h
      have j3 := e3 _ _ g1
      have j4 := g2.imp fun _ _ h => Rq.same e3 h
      obtain ⟨dx3, sx3, ho3, G3⟩ := id hO3
      clear k1 k2 g1 g2 hO2
      (walk_at "vk_vc")
      intro va hva
      (walk_at "vk_vc")
      refine z _ _ (e1.trans (e2.trans (e3.trans (same_new np _)))) (Dp.tup (SqT.of upd_same) (.cons (Cq.dd (Ct.cq (hc3.same (same_new np _)))) (.cons (optV.dp (hva.same (same_new np _))) (.cons (Dp.lst (SqL.of (same_new np _ _ _ j1)) (dpall_of' (R := Rq K) (fun v p h => Rq.dp h) (j2.imp fun _ _ h => Rq.same (same_new np _) h))) (.cons (Dp.lst (SqL.of (same_new np _ _ _ j3)) (dpall_of' (R := Rq K) (fun v p h => Rq.dp h) (j4.imp fun _ _ h => Rq.same (same_new np _) h))) .nil)))))
end Vk

set_option maxHeartbeats 4000000
namespace Vk
open PySem L2 Vm Vl Vs
variable {l aZERO aONE aHALF aDR C CB CT : Addr} {P : Program} {w : World} {K : PySem.W.Frag} {mg : Str → Option Value} {base : Heap} {k n : Nat} {f f1 f2 f3 f4 f5 : Addr} {fd fd1 fd2 fd3 fd4 fd5 : FuncData}
abbrev s__law_shuffled : Stmt := top 74
abbrev N__law_shuffled : List Str := ["_law_store_here", "_law_things", "_law_rest", "_law_row", "_law_k"]
theorem sc__law_shuffled : FnScope N__law_shuffled ["_law_store_here", "_law_things"] (defScope s__law_shuffled) := ⟨rfl, rfl, rfl, by decide +kernel, rfl, by decide +kernel, by decide +kernel⟩
abbrev ps__law_shuffled : List Str := ["_law_store_here", "_law_things"]
def spShufV (K : PySem.W.Frag) (l : Addr) : Sp := fun vs H Q _ => ∃ (s a : Addr) (xs : List V), vs = [.ref s, .ref a] ∧ Sto l s H ∧ a ≠ s ∧ H a = some (.lst xs) ∧ xs.length ≤ 100 ∧
  ∀ D us H', Sto l s H' → Fr s H H' → H' D = some (.lst us) → (∀ x ∈ us, x ∈ xs) → us.length = xs.length → H D = none → Q (.ref D) H'
theorem ok_shuffledV (T : Bn mg) (F : Fn K mg "_law_shuffled" s__law_shuffled ps__law_shuffled f fd) (d_law_take : Def P w K mg base k "_law_take" ["_law_store_here", "_law_many"] (spTake K l) f1 fd1) : Def P w K mg base (k + 1) "_law_shuffled" ps__law_shuffled (spShufV K l) f fd := by
  refine ⟨F.F.ok sc__law_shuffled (fun vs H Q E h => ?_) (fun cdv A outer s H vs Q E hr h => ?_), F.m, F.F.kp, F.b⟩
  · obtain ⟨_, _, _, rfl, _⟩ := h
    rfl
  obtain ⟨s, a, xs, rfl, hS, ns, ha, lx, z⟩ := h
  refine ⟨_, (pss_cons (ps_set (i := 2) sc__law_shuffled.nd rfl (Or.inl rfl) (pe_callTy call_list_of (by rfl) T.list_ (by decide +kernel) (pa_cons (pv 1) pa_nil)))
      (pss_cons (ps_set (i := 3) sc__law_shuffled.nd rfl (Or.inl rfl) (pe_lst pa_nil))
      (pss_cons (ps_for PassesOwn.never rfl (pi_range1 (by rfl) T.range_ (pa_cons (pe_callB call_len_seq (by rfl) T.len_ PySem.boot_len (pa_cons (pv 2) pa_nil)) pa_nil)) (pg_name (i := 4) sc__law_shuffled.nd rfl (Or.inl rfl))
        (pss_one (ps_expr (pe_bm PySem.F.plainAttrs_list PySem.F.slot_list_append PySem.F.type_list_append mt_append (pv 3) (pa_cons (pe_bm PySem.F.plainAttrs_list PySem.F.slot_list_pop PySem.F.type_list_pop mt_popAt (pv 2) (pa_cons (pcall d_law_take hr (pa_cons (pv 0) (pa_cons (pe_callB call_len_seq (by rfl) T.len_ PySem.boot_len (pa_cons (pv 2) pa_nil)) pa_nil))) pa_nil)) pa_nil)))))
      (pss_one (ps_ret (pv 3)))))), ?_⟩
  refine ⟨_, rfl, a, xs, rfl, .inl (SqL.of ha), fun R hR => ?_⟩
  have s1 := same_new hR (.lst xs)
  have hR1 : (upd H R (.lst xs)) R = some (.lst xs) := upd_same
  have S1 := hS.same s1
  have nRs := hS.ne hR
  have nRl := hS.nl hR
  generalize upd H R (.lst xs) = G1 at s1 hR1 S1 ⊢
  refine ⟨Nat.zero_le _, fun D hD => ?_⟩
  have s2 := same_new hD (.lst [])
  have hR2 := s2 _ _ hR1
  have hD2 : (upd G1 D (.lst [])) D = some (.lst []) := upd_same
  have S2 := S1.same s2
  have nDs := S1.ne hD
  have nDl := S1.nl hD
  have nRD : R ≠ D := ne_at hR1 hD
  have s12 := s1.trans s2
  generalize upd G1 D (.lst []) = G2 at s2 hR2 hD2 S2 s12 ⊢
  have p62 : (2 : Int) ^ 62 = 4611686018427387904 := by decide
  have hDH : H D = none := sameFree s1 hD
  have x62 : ((xs.length : Nat) : Int) < 2 ^ 62 := by omega
  refine ⟨_, rfl, R, _, rfl, .inl (SqL.of hR2), _, rfl, by omega, by omega, for_range (n := ((xs.length : Nat) : Int).toNat) (fun i σ G => ∃ (ys us : List V) (k4 : Option V), σ = [some (.ref s), some (.ref a), some (.ref R), some (.ref D), k4] ∧ Sto l s G ∧ (∀ b o, H b = some o → b ≠ s → G b = some o) ∧ G R = some (.lst ys) ∧ G D = some (.lst us) ∧ (∀ x ∈ ys, x ∈ xs) ∧ (∀ x ∈ us, x ∈ xs) ∧ ys.length + i = xs.length ∧ us.length = i)
    ⟨xs, [], none, rfl, S2, fun b o h _ => s12 b o h, hR2, hD2, fun _ h => h, nofun, rfl, rfl⟩ ?_ ?_⟩
  · rintro i σ G hi ⟨ys, us, k4, rfl, SG, fG, gR, gD, aR, aD, lr, lo⟩
    have hi1 : i < xs.length := by omega
    refine ⟨_, rfl, .inl ⟨rfl, _, SqL.of gD⟩, _, rfl, .inl ⟨rfl, _, SqL.of gR⟩, _, rfl, _, rfl, R, _, rfl, .inl (SqL.of gR), s, _, rfl, SG, by omega, fun r G3 r0 r1 S3 e3 => ?_⟩
    have gR3 := e3 _ _ gR nRs
    have gD3 := e3 _ _ gD nDs
    have fG3 : ∀ b o, H b = some o → b ≠ s → G3 b = some o := fun b o h n => e3 b o (fG b o h n) n
    obtain ⟨n, rfl⟩ : ∃ n : Nat, r = (n : Int) := ⟨r.toNat, by omega⟩
    have hn : n < ys.length := by omega
    have ey : ys[n]? = some ys[n] := List.getElem?_eq_getElem hn
    have my := aR _ (List.mem_of_getElem? ey)
    generalize ys[n] = y at ey my
    have hix : seqIndex? (n : Int) ys.length = some n := by
      have h9 := PySem.StrLaws.seqIndex_nonneg (i := (n : Int)) (n := ys.length) (by omega) (by omega)
      rw [h9]
      rfl
    refine ⟨R, ys, (n : Int), n, y, rfl, rfl, gR3, by omega, by omega, hix, ey, ?_⟩
    have f4 : Fr R G3 (upd G3 R (.lst (ys.eraseIdx n))) := Fr.upd _
    have gD4 := f4 _ _ gD3 nRD.symm
    have gR4 : (upd G3 R (.lst (ys.eraseIdx n))) R = some (.lst (ys.eraseIdx n)) := upd_same
    have S4 := S3.upd (o := .lst (ys.eraseIdx n)) nRs nRl
    have fG4 : ∀ b o, H b = some o → b ≠ s → (upd G3 R (.lst (ys.eraseIdx n))) b = some o := fun b o h nb => by
      rw [upd_ne (ne_of_none h hR)]; exact fG3 b o h nb
    generalize upd G3 R (.lst (ys.eraseIdx n)) = G4 at gD4 gR4 S4 fG4 ⊢
    refine ⟨D, us, y, rfl, rfl, gD4, le1000 (by omega), ?_⟩
    have f5 : Fr D G4 (upd G4 D (.lst (us ++ [y]))) := Fr.upd _
    refine ⟨ys.eraseIdx n, us ++ [y], _, rfl, S4.upd nDs nDl, fun b o h nb => ?_, f5 _ _ gR4 nRD, upd_same, fun q hq => aR q (List.mem_of_mem_eraseIdx hq), fun x hx => ?_, ?_, by rw [List.length_append, lo]; rfl⟩
    · rw [upd_ne (ne_of_none h hDH)]; exact fG4 b o h nb
    · rcases List.mem_append.mp hx with hx | hx
      · exact aD x hx
      · rw [List.mem_singleton.mp hx]; exact my
    · rw [List.length_eraseIdx, if_pos (by omega)]; omega
  · rintro σ G ⟨ys, us, k4, rfl, SG, fG, gR, gD, aR, aD, lr, lo⟩
    exact ⟨_, rfl, z D us G SG fG gD aD (by omega) hDH⟩
end Vk

set_option maxHeartbeats 4000000
namespace Vk
open PySem L2 Vm Vl Vs
variable {l aZERO aONE aHALF aDR C CB CT : Addr} {P : Program} {w : World} {K : PySem.W.Frag} {mg : Str → Option Value} {base : Heap} {k n : Nat} {f f1 f2 f3 f4 f5 f6 f7 : Addr} {fd fd1 fd2 fd3 fd4 fd5 fd6 fd7 : FuncData}
theorem rl11000 {H : Hp} {t : Addr} : Rq K (upd H t (.tup [.int 1, .int 1000])) (.ref t) (mkRat 1 1000) := rq_new 1 1000 _ (by decide +kernel) (by decide +kernel)
theorem rl91 {H : Hp} {t : Addr} : Rq K (upd H t (.tup [.int 9, .int 1])) (.ref t) (mkRat 9 1) := rq_new 9 1 _ (by decide +kernel) (by decide +kernel)
theorem SgA.frS {s : Addr} {H H' : Hp} {o : Addr} {r : Sr} (h : SgA K C o H r) (S : Sto l s H) (e : Fr s H H') : SgA K C o H' r := by
  obtain ⟨dx, x, h1, h2⟩ := h
  have hs := S.some
  have n : o ≠ s := fun z => by obtain ⟨ys, hs⟩ := hs; rw [z, hs] at h1; cases h1
  exact ⟨dx, x, e _ _ h1 n, ⟨h2.sl.fr e hs, h2.dr.fr e hs, opt_fr e hs h2.ov, h2.c.elim fun us q => ⟨us, q.fr e hs (h2.ns S)⟩, opt_fr e hs h2.aim, h2.la.fr e hs, h2.bd.fr e hs, h2.hf.fr e hs⟩⟩
/-- a bit: above nothing, and small -/
def Bit (K : PySem.W.Frag) (G : Hp) (x : V) : Prop := ∃ q, Rq K G x q ∧ Sz 11 q ∧ 0 < q
theorem Bit.fr {s : Addr} {G G' : Hp} {x : V} (h : Bit K G x) (e : Fr s G G') (hs : ∃ ys, G s = some (.lst ys)) : Bit K G' x := by
  obtain ⟨q, h1, h2⟩ := h
  exact ⟨q, h1.fr e hs, h2⟩
theorem ge6_pos {q : Rat} (h : ge6 q) : 0 < q := by
  have h1 : (0 : Rat) < mkRat 1 6 := by decide +kernel
  have h2 : mkRat 1 6 ≤ q := h
  grind
def spBadC (K : PySem.W.Frag) (C l : Addr) : Sp := fun vs H Q _ => ∃ (s o : Addr) (xf xl : V) (x : Ag) (n : Nat) (r : Sr) (st : Ls), vs = [.ref s, .ref o, xf, xl] ∧ Sto l s H ∧ SgA K C o H r ∧ Rq K H xf x.r ∧ Rq K H xl st.ra ∧ At x n r st ∧ AgOk x ∧ n ≤ 6 ∧ ∀ H', Sto l s H' → Fr s H H' → Q (.bl true) H'
abbrev s__law_bad_calls : Stmt := top 98
abbrev N__law_bad_calls : List Str := ["_law_store_here", "_law_steering", "_law_first", "_law_last", "_law_bits", "_law_raw", "_law_early", "_law_deed", "_law_t", "_law_span"]
theorem sc__law_bad_calls : FnScope N__law_bad_calls ["_law_store_here", "_law_steering", "_law_first", "_law_last"] (defScope s__law_bad_calls) := ⟨rfl, rfl, rfl, by decide +kernel, rfl, by decide +kernel, by decide +kernel⟩
abbrev ps__law_bad_calls : List Str := ["_law_store_here", "_law_steering", "_law_first", "_law_last"]
theorem ok_bad_calls (T : Bn mg) (F : Fn K mg "_law_bad_calls" s__law_bad_calls ps__law_bad_calls f fd) (d_law_above : Def P w K mg base k "_law_above" ["_law_store_here"] (spDraw K l 5 ge6) f1 fd1) (d_law_minus : Def P w K mg base k "_law_minus" ["_law_a", "_law_b"] (spOp2 K (· - ·)) f2 fd2)
    (d_law_pick : Def P w K mg base k "_law_pick" ["_law_store_here", "_law_things"] (spPick K l) f3 fd3) (d_law_shuffled : Def P w K mg base k "_law_shuffled" ["_law_store_here", "_law_things"] (spShufV K l) f4 fd4) (d_law_plus : Def P w K mg base k "_law_plus" ["_law_a", "_law_b"] (spOp2 K (· + ·)) f5 fd5)
    (d_law_same : Def P w K mg base k "_law_same" ["_law_value", "_law_due"] (spSame K 4) f6 fd6) (d_law_refused : Def P w K mg base k "_law_refused" ["_law_steering", "_law_deed", "_law_raw", "_law_span"] (spRf K C) f7 fd7) :
    Def P w K mg base (k + 1) "_law_bad_calls" ps__law_bad_calls (spBadC K C l) f fd := by
  refine ⟨F.F.ok sc__law_bad_calls (fun vs H Q E h => ?_) (fun cdv A outer s H vs Q E hr h => ?_), F.m, F.F.kp, F.b⟩
  · obtain ⟨_, _, _, _, _, _, _, _, rfl, _⟩ := h
    rfl
  obtain ⟨s, o, xf, xl, x, n, r, st, rfl, hS, hO, hf, hl, AT, ok, hn, z⟩ := h
  have za : Sz 62 st.ra := AT.ra.szL (by decide)
  have zf : Sz 62 x.r := ok.zr.mono (by decide)
  have xr := AT.R.xr
  refine ⟨_, (pss_cons (ps_set (i := 4) sc__law_bad_calls.nd rfl (Or.inl rfl) (pe_lst (pa_cons (pe_tup (pa_cons pe_int (pa_cons pe_int pa_nil))) (pa_cons (pe_tup (pa_cons pe_int (pa_cons pe_int pa_nil))) (pa_cons (pcall d_law_above hr (pa_cons (pv 0) pa_nil)) pa_nil)))))
      (pss_cons (ps_set (i := 5) sc__law_bad_calls.nd rfl (Or.inl rfl) (pcall d_law_minus hr (pa_cons (pv 3) (pa_cons (pcall d_law_pick hr (pa_cons (pv 0) (pa_cons (pv 4) pa_nil))) pa_nil))))
      (pss_cons (ps_set (i := 6) sc__law_bad_calls.nd rfl (Or.inl rfl) (pcall d_law_minus hr (pa_cons (pv 2) (pa_cons (pcall d_law_pick hr (pa_cons (pv 0) (pa_cons (pv 4) pa_nil))) pa_nil))))
      (pss_cons (ps_for PassesOwn.never rfl (pi_list (pcall d_law_shuffled hr (pa_cons (pv 0) (pa_cons (pe_lst (pa_cons pe_str (pa_cons pe_str pa_nil))) pa_nil)))) (pg_name (i := 7) sc__law_bad_calls.nd rfl (Or.inl rfl))
        (pss_one (ps_for PassesOwn.never rfl (pi_list (pe_lst (pa_cons (pv 5) (pa_cons (pv 6) pa_nil)))) (pg_name (i := 8) sc__law_bad_calls.nd rfl (Or.inl rfl))
          (pss_cons (ps_set (i := 9) sc__law_bad_calls.nd rfl (Or.inl rfl) (pcall d_law_pick hr (pa_cons (pv 0) (pa_cons (pe_lst (pa_cons pe_non (pa_cons (pe_tup (pa_cons (pv 8) (pa_cons (pv 8) pa_nil))) (pa_cons (pe_tup (pa_cons (pv 8) (pa_cons pe_non pa_nil))) (pa_cons (pe_tup (pa_cons (pv 8) (pa_cons (pcall d_law_plus hr (pa_cons (pv 8) (pa_cons (pe_tup (pa_cons pe_int (pa_cons pe_int pa_nil))) pa_nil))) pa_nil))) pa_nil))))) pa_nil))))
          (pss_one (ps_if (pt_not (pt_val (pcall d_law_same hr (pa_cons (pcall d_law_refused hr (pa_cons (pv 1) (pa_cons (pv 7) (pa_cons (pv 8) (pa_cons (pv 9) pa_nil))))) (pa_cons (pe_tup (pa_cons (pe_lst (pa_cons pe_str pa_nil)) (pa_cons (pv 8) pa_nil))) pa_nil)))))
            (pss_one (ps_ret pe_bl))
            pss_nil))))))
      (pss_one (ps_ret (pcall d_law_same hr (pa_cons (pcall d_law_refused hr (pa_cons (pv 1) (pa_cons pe_str (pa_cons (pv 6) (pa_cons pe_non pa_nil))))) (pa_cons (pe_tup (pa_cons (pe_lst (pa_cons pe_str pa_nil)) (pa_cons (pv 6) pa_nil))) pa_nil))))))))), ?_⟩
  refine cutG (fun σ' G => ∃ (B : Addr) (b1 b2 b3 : V), σ' = [some (.ref s), some (.ref o), some xf, some xl, some (.ref B), none, none, none, none, none] ∧ Sto l s G ∧ Fr s H G ∧ G B = some (.lst [b1, b2, b3]) ∧ B ≠ s ∧ ∀ y ∈ [b1, b2, b3], Bit K G y) ?_ ?_
  rotate_left
  · intro u' key
    have hs := hS.some
    unfold ge6 at *
    (walk_at "vk_vc")
    have S' : Sto l s H' := by (walk_at "vk_sto")
    refine key _ _ ⟨p, _, _, _, rfl, S'.same (same_new np _), by focus (walk_at "vk_fr"), upd_same, (free_ne S' np).1, fun y hy => ?_⟩
    simp only [List.mem_cons, List.not_mem_nil, or_false] at hy
    rcases hy with rfl | rfl | rfl
    · exact ⟨mkRat 1 1000, by (walk_at "vk_cl"), by decide +kernel, by decide +kernel⟩
    · exact ⟨1, by (walk_at "vk_cl"), by decide +kernel, by decide +kernel⟩
    · exact ⟨q, by (walk_at "vk_cl"), zq.mono (by decide), ge6_pos okq⟩
  rintro σ H1 ⟨B, b1, b2, b3, rfl, S1, e1, hB, nB, bits⟩
  have hO1 := hO.frS hS e1
  have hf1 := hf.fr e1 hS.some
  have hl1 := hl.fr e1 hS.some
  refine cutG (fun σ' G => ∃ (xr : V) (q : Rat), σ' = [some (.ref s), some (.ref o), some xf, some xl, some (.ref B), some xr, none, none, none, none] ∧ Sto l s G ∧ Fr s H1 G ∧ Rq K G xr q ∧ Sz 140 q ∧ q < st.ra) ?_ ?_
  rotate_left
  · intro u' key
    (walk_at "vk_vc")
    intro v H' hv S' e'
    obtain ⟨qb, hb, zb, pb⟩ := (bits v hv).fr e' S1.some
    have hl' := hl1.fr e' S1.some
    (walk_at "vk_vc")
    exact key _ _ ⟨_, st.ra - qb, rfl, by (walk_at "vk_sto"), by focus (walk_at "vk_fr"), by assumption, (za.sub zb).mono (by decide), by grind⟩
  rintro σ H2 ⟨xw, qw, rfl, S2, e2, hw, zw, lw⟩
  have hB2 : H2 B = some (.lst [b1, b2, b3]) := e2 _ _ hB nB
  have bits2 : ∀ y ∈ [b1, b2, b3], Bit K H2 y := fun y hy => (bits y hy).fr e2 S1.some
  have hf2 := hf1.fr e2 S1.some
  have hO2 := hO1.frS S1 e2
  have e12 := e1.trans e2
  clear e1 e2 hB bits hf1 hl1 hO1 S1 hf hl
  refine cutG (fun σ' G => ∃ (xe : V) (q : Rat), σ' = [some (.ref s), some (.ref o), some xf, some xl, some (.ref B), some xw, some xe, none, none, none] ∧ Sto l s G ∧ Fr s H2 G ∧ Rq K G xe q ∧ Sz 140 q ∧ q < x.r) ?_ ?_
  rotate_left
  · intro u' key
    (walk_at "vk_vc")
    intro v H' hv S' e'
    obtain ⟨qb, hb, zb, pb⟩ := (bits2 v hv).fr e' S2.some
    have hf' := hf2.fr e' S2.some
    (walk_at "vk_vc")
    exact key _ _ ⟨_, x.r - qb, rfl, by (walk_at "vk_sto"), by focus (walk_at "vk_fr"), by assumption, (zf.sub zb).mono (by decide), by grind⟩
  rintro σ H3 ⟨xe, qe, rfl, S3, e3, he, ze, le⟩
  have hw3 := hw.fr e3 S2.some
  have hO3 := hO2.frS S2 e3
  have e13 := e12.trans e3
  clear e12 e3 hB2 bits2 hf2 hO2 S2 hw
  have sml : ∀ (G : Hp), Sto l s G → Fr s H3 G → SgA K C o G r ∧ Rq K G xw qw ∧ Rq K G xe qe := fun G _ e => ⟨hO3.frS S3 e, hw3.fr e S3.some, he.fr e S3.some⟩
  obtain ⟨zla, zbd, zhf, zsl, zdr⟩ := AT.zs ok hn
  have ela := AT.R.la
  refine cutG (fun σ' G => ∃ (k7 k8 k9 : Option V), σ' = [some (.ref s), some (.ref o), some xf, some xl, some (.ref B), some xw, some xe, k7, k8, k9] ∧ Sto l s G ∧ Fr s H3 G) ?_ ?_
  rotate_left
  · intro u' key
    have hs3 := S3.some
    (walk_at "vk_vc")
    · show 2 ≤ 100; decide
    intro D us G0 S0 e0 hD sub lnu nD
    have f0 : Fr s H3 G0 := by focus (walk_at "vk_fr")
    have nDs := (free_ne (S3.same (same_new np _)) nD).1
    have hs0 := S0.some
    refine ⟨D, rfl, ⟨us, SqL.of hD⟩, forL (K := K) (a := D) (xs := us) (fun i σ G => Hold (∃ (k7 k8 k9 : Option V), σ = [some (.ref s), some (.ref o), some xf, some xl, some (.ref B), some xw, some xe, k7, k8, k9] ∧ Sto l s G ∧ Fr s H3 G ∧ G D = some (.lst us)))
      ⟨none, none, none, rfl, S0, f0, hD⟩ (fun i σ G _ h => by obtain ⟨_, _, _, _, _, _, h⟩ := h; exact SqL.of h) ?_ ?_⟩
    · rintro i u σ G1 hu ⟨k7, k8, k9, rfl, S1, f1, hD1⟩
      have mu := sub u (List.mem_of_getElem? hu)
      obtain ⟨dd, rfl, hdd⟩ : ∃ dd : Str, u = .str dd ∧ (dd = "steer" ∨ dd = "error_at") := by
        simp only [List.mem_cons, List.not_mem_nil, or_false] at mu
        rcases mu with rfl | rfl
        · exact ⟨_, rfl, .inl rfl⟩
        · exact ⟨_, rfl, .inr rfl⟩
      have hs1 := S1.some
      (walk_at "vk_vc")
      revert np
      revert p
      intro p1 np
      have nps := (free_ne S1 np).1
      have sP := same_new np (.lst [xw, xe])
      have nDp : D ≠ p1 := ne_at hD1 np
      refine forL (K := K) (xs := [xw, xe]) (fun i σ G => Hold (∃ (k8 k9 : Option V), σ = [some (.ref s), some (.ref o), some xf, some xl, some (.ref B), some xw, some xe, some (.str dd), k8, k9] ∧ Sto l s G ∧ Fr s H3 G ∧ G D = some (.lst us) ∧ G p1 = some (.lst [xw, xe])))
        ⟨_, _, rfl, S1.same sP, f1.trans (Fr.of sP), sP _ _ hD1, upd_same⟩ (fun i σ G _ h => by obtain ⟨_, _, _, _, _, _, h⟩ := h; exact SqL.of h) ?_ ?_
      · rintro j y σ G2 hy ⟨k8, k9, rfl, S2, f2, hD2, hp2⟩
        obtain ⟨hO5, hw5, he5⟩ := sml G2 S2 f2
        obtain ⟨q, hyq, zq, lq⟩ : ∃ q, Rq K G2 y q ∧ Sz 140 q ∧ q < st.ra := by
          have my := List.mem_of_getElem? hy
          simp only [List.mem_cons, List.not_mem_nil, or_false] at my
          rcases my with rfl | rfl
          · exact ⟨_, hw5, zw, lw⟩
          · exact ⟨_, he5, ze, by grind⟩
        obtain ⟨ay, rfl, _⟩ := id hyq
        have hs2 := S2.some
        have z91 : Sz 5 (mkRat 9 1) := by decide +kernel
        (walk_at "vk_vc")
        intro v G3 hv S3' e3'
        have sA := S2
        have f3 : Fr s H3 G3 := by
          refine Fr.trans ?_ e3'
          repeat (first | exact f2 | refine Fr.trans ?_ (Fr.of (same_new (by with_reducible assumption) _)) | refine Fr.trans ?_ (Fr.of (by with_reducible assumption)))
        obtain ⟨hO6, hw6, he6⟩ := sml G3 S3' f3
        have toSome : ∀ {A : Hp}, Sto l s A → ∃ ys, A s = some (.lst ys) := fun h => h.some
        have hyq3 : Rq K G3 (.ref ay) q := by
          refine Rq.fr e3' (toSome ?_) ?_
          · exact Sto.same (by repeat (first | exact Same.refl _ | refine Same.trans ?_ (same_new (by with_reducible assumption) _) | refine Same.trans ?_ (by with_reducible assumption))) S2
          · repeat (first | exact hyq | refine Rq.same (same_new (by with_reducible assumption) _) ?_ | refine Rq.same (by with_reducible assumption) ?_)
        obtain ⟨os, hos⟩ : ∃ os : Option Vs.Spn, oSp K G3 v os := by
          simp only [List.mem_cons, List.not_mem_nil, or_false] at hv
          rcases hv with rfl | rfl | rfl | rfl
          · exact ⟨none, rfl⟩
          · refine ⟨some (some q, some q), _, .ref ay, .ref ay, rfl, sqt_fr e3' (toSome ?_) ?_, hyq3, hyq3⟩
            · exact Sto.same (by repeat (first | exact Same.refl _ | refine Same.trans ?_ (same_new (by with_reducible assumption) _) | refine Same.trans ?_ (by with_reducible assumption))) S2
            · repeat (first | exact SqT.of upd_same | refine L2.Same.sqt (same_new (by with_reducible assumption) _) ?_ | refine L2.Same.sqt (by with_reducible assumption) ?_)
          · refine ⟨some (some q, none), _, .ref ay, .non, rfl, sqt_fr e3' (toSome ?_) ?_, hyq3, rfl⟩
            · exact Sto.same (by repeat (first | exact Same.refl _ | refine Same.trans ?_ (same_new (by with_reducible assumption) _) | refine Same.trans ?_ (by with_reducible assumption))) S2
            · repeat (first | exact SqT.of upd_same | refine L2.Same.sqt (same_new (by with_reducible assumption) _) ?_ | refine L2.Same.sqt (by with_reducible assumption) ?_)
          · refine ⟨some (some q, some (q + mkRat 9 1)), _, .ref ay, .ref a, rfl, sqt_fr e3' (toSome ?_) ?_, hyq3, Rq.fr e3' (toSome ?_) ?_⟩
            · exact Sto.same (by repeat (first | exact Same.refl _ | refine Same.trans ?_ (same_new (by with_reducible assumption) _) | refine Same.trans ?_ (by with_reducible assumption))) S2
            · repeat (first | exact SqT.of upd_same | refine L2.Same.sqt (same_new (by with_reducible assumption) _) ?_ | refine L2.Same.sqt (by with_reducible assumption) ?_)
            · exact Sto.same (by repeat (first | exact Same.refl _ | refine Same.trans ?_ (same_new (by with_reducible assumption) _) | refine Same.trans ?_ (by with_reducible assumption))) S2
            · repeat (first | exact h | refine Rq.same (same_new (by with_reducible assumption) _) ?_ | refine Rq.same (by with_reducible assumption) ?_)
        have lq' : q < r.la := by rw [ela]; exact lq
        have at3 : ∀ (A : Hp) (b : Addr) (u : HO), A b = some u → b ≠ s → Fr s A G3 → G3 b = some u := fun A b u h n e => e b u h n
        have hD3 : G3 D = some (.lst us) := by
          refine at3 _ _ _ ?_ nDs e3'
          repeat (first | exact hD2 | refine same_new (by with_reducible assumption) _ _ _ ?_ | refine (by with_reducible assumption : Same _ _) _ _ ?_)
        have hp3 : G3 p1 = some (.lst [xw, xe]) := by
          refine at3 _ _ _ ?_ nps e3'
          repeat (first | exact hp2 | refine same_new (by with_reducible assumption) _ _ _ ?_ | refine (by with_reducible assumption : Same _ _) _ _ ?_)
        have zq7 : Sz 700 q := zq.mono (by decide)
        have t3 : Tree 3 (PyData.list [PyData.str "TurnsBack"]) := .lst (by show 1 ≤ _; decide) fun d hd => by rw [List.mem_singleton.mp hd]; exact .str (by decide +kernel)
        have key9 : ∀ (A : Hp), Same G3 A → (Sto l s A ∧ Fr s H3 A ∧ A D = some (.lst us) ∧ A p1 = some (.lst [xw, xe])) := fun A e => ⟨Sto.same e S3', f3.trans (Fr.of e), e _ _ hD3, e _ _ hp3⟩
        rcases hdd with rfl | rfl
        · refine ⟨_, rfl, _, rfl, _, rfl, _, rfl, o, "steer", .ref ay, v, r, q, rfl, hO6, hyq3, .inl ⟨rfl, lq', ⟨os, hos⟩, zq7, zla.mono (by decide), zbd.mono (by decide), zhf.mono (by decide), zsl, zdr, ?_⟩⟩
          intro t D' H' e ht hd
          have hd : H' D' = some (.lst [.str "TurnsBack"]) := hd
          have hyq4 := Rq.same e hyq3
          (walk_at "vk_vc")
          show Hold _
          exact ⟨_, _, rfl, key9 _ (e.trans ((same_new (by with_reducible assumption) _).trans (same_new np _)))⟩
        · refine ⟨_, rfl, _, rfl, _, rfl, _, rfl, o, "error_at", .ref ay, v, r, q, rfl, hO6, hyq3, .inr (.inl ⟨rfl, lq', zq7, zla.mono (by decide), zbd.mono (by decide), zhf.mono (by decide), zsl.mono (by decide), zdr.mono (by decide), ?_⟩)⟩
          intro t D' H' e ht hd
          have hd : H' D' = some (.lst [.str "TurnsBack"]) := hd
          have hyq4 := Rq.same e hyq3
          (walk_at "vk_vc")
          show Hold _
          exact ⟨_, _, rfl, key9 _ (e.trans ((same_new (by with_reducible assumption) _).trans (same_new np _)))⟩
      · rintro σ G ⟨k8, k9, rfl, S2, f2, hD2, hp2⟩
        exact ⟨_, _, _, rfl, S2, f2, hD2⟩
    · rintro σ G ⟨k7, k8, k9, rfl, S1, f1, hD1⟩
      exact key _ _ ⟨k7, k8, k9, rfl, S1, f1⟩
  rintro σ H4 ⟨k7, k8, k9, rfl, S4, e4⟩
  obtain ⟨hO4, hw4, he4⟩ := sml H4 S4 e4
  have z4 : ∀ H', Same H4 H' → Q (.bl true) H' := fun H' e => z H' (S4.same e) (e13.trans (e4.trans (Fr.of e)))
  refine ⟨_, rfl, _, rfl, o, "display", xe, .non, r, qe, rfl, hO4, he4, .inr (.inr ⟨rfl, AT.R.h1 _ le, ⟨512, 512, 62, 140, AT.R.cz, ze, by decide⟩, AT.R.ok, by have := AT.len; omega, ?_⟩)⟩
  intro t D H' e ht hD
  have hD : H' D = some (.lst [.str "BeforeStart"]) := hD
  have t3 : Tree 3 (PyData.list [PyData.str "BeforeStart"]) := .lst (by show 1 ≤ _; decide) fun d hd => by rw [List.mem_singleton.mp hd]; exact .str (by decide +kernel)
  (walk_at "vk_vc")
  exact z4 _ (e.trans ((same_new (by with_reducible assumption) _).trans (same_new np _)))
end Vk

set_option maxHeartbeats 4000000
namespace Vk
open PySem L2 Vm Vl Vs
variable {l aZERO aONE aHALF aDR C CB CR CT CV fB fR fT : Addr} {P : Program} {w : World} {K : PySem.W.Frag} {mg : Str → Option Value} {base : Heap} {k : Nat}
/-- data whose lists hold no whole numbers by themselves: so none of them is the store -/
inductive NL : PyData → Prop
  | int (i : Int) : NL (.int i)
  | non : NL .none
  | bl (b : Bool) : NL (.bool b)
  | str (s : Str) : NL (.str s)
  | tup {ds : List PyData} : (∀ d ∈ ds, NL d) → NL (.tuple ds)
  | lst {ds : List PyData} : (∀ d ∈ ds, ∀ i, d ≠ .int i) → (∀ d ∈ ds, NL d) → NL (.list ds)
mutual
theorem dp_frS {s : Addr} {H H' : Hp} (S : Sto l s H) (e : Fr s H H') : ∀ (d : PyData) (v : V), NL d → Dp K H v d → Dp K H' v d
  | .none, _, _, h => by cases h; exact .non
  | .bool b, _, _, h => by cases h; exact .bl b
  | .int i, _, _, h => by cases h; exact .int i
  | .str x, _, _, h => by cases h; exact .str x
  | .list ds, _, n, h => by
    cases h with
    | lst hs ha =>
      rename_i a xs
      have n1 : ∀ d ∈ ds, ∀ i, d ≠ .int i := by cases n with | lst n _ => exact n
      have n2 : ∀ d ∈ ds, NL d := by cases n with | lst _ n => exact n
      refine .lst ?_ (dps_frS S e ds _ n2 ha)
      rcases hs with hs | hs
      · by_cases z : a = s
        · exfalso
          subst z
          obtain ⟨ns, pos, num, seed, hold, cnt, h1, _⟩ := S
          rcases hs with hs | ⟨o, hs⟩
          · rw [h1] at hs
            cases hs
            cases ha with
            | cons h2 h3 =>
              cases h3 with
              | cons h4 h5 =>
                cases h4
                exact n1 _ (List.mem_cons_of_mem _ List.mem_cons_self) _ rfl
          · rw [h1] at hs; cases hs
        · exact seq_fr e z (.inl hs)
      · exact .inr hs
  | .tuple ds, _, n, h => by
    cases h with
    | tup hs ha =>
      have n : ∀ d ∈ ds, NL d := by cases n with | tup n => exact n
      exact .tup (sqt_fr e S.some hs) (dps_frS S e ds _ n ha)
  | .dict _, _, _, h => by cases h
theorem dps_frS {s : Addr} {H H' : Hp} (S : Sto l s H) (e : Fr s H H') : ∀ (ds : List PyData) (vs : List V), (∀ d ∈ ds, NL d) → DpAll K H vs ds → DpAll K H' vs ds
  | [], _, _, h => by cases h; exact .nil
  | d :: ds, _, n, h => by
    cases h with
    | cons h1 h2 => exact .cons (dp_frS S e d _ (n d List.mem_cons_self) h1) (dps_frS S e ds _ (fun d hd => n d (List.mem_cons_of_mem _ hd)) h2)
end
mutual
theorem dp_same {H H' : Hp} (e : Same H H') : ∀ (d : PyData) (v : V), Dp K H v d → Dp K H' v d
  | .none, _, h => by cases h; exact .non
  | .bool b, _, h => by cases h; exact .bl b
  | .int i, _, h => by cases h; exact .int i
  | .str x, _, h => by cases h; exact .str x
  | .list ds, _, h => by
    cases h with
    | lst hs ha => exact .lst (e.seq hs) (dps_same e ds _ ha)
  | .tuple ds, _, h => by
    cases h with
    | tup hs ha => exact .tup (e.sqt hs) (dps_same e ds _ ha)
  | .dict _, _, h => by cases h
theorem dps_same {H H' : Hp} (e : Same H H') : ∀ (ds : List PyData) (vs : List V), DpAll K H vs ds → DpAll K H' vs ds
  | [], _, h => by cases h; exact .nil
  | d :: ds, _, h => by
    cases h with
    | cons h1 h2 => exact .cons (dp_same e d _ h1) (dps_same e ds _ h2)
end
theorem nl_dq (q : Rat) : NL (dq q) := .tup fun d h => by
  rcases List.mem_cons.mp h with rfl | h
  · exact .int _
  · rw [List.mem_singleton.mp h]; exact .int _
theorem nl_dpc (p : Pc) : NL (dpc p) := .tup fun d h => by
  rcases List.mem_cons.mp h with rfl | h
  · exact nl_dq _
  · rcases List.mem_cons.mp h with rfl | h
    · exact nl_dq _
    · rw [List.mem_singleton.mp h]; exact nl_dq _
theorem nl_odp (o : Option Rat) : NL (odp o) := by
  cases o with
  | none => exact .non
  | some q => exact nl_dq q
theorem nl_look (r : Sr) (a b : Rat) : NL (lookD r a b) := .tup fun d h => by
  simp only [List.mem_cons, List.not_mem_nil, or_false] at h
  rcases h with rfl | rfl | rfl | rfl
  · refine .lst (fun d hd => ?_) fun d hd => ?_
    · obtain ⟨p, _, rfl⟩ := List.mem_map.mp hd
      exact nofun
    · obtain ⟨p, _, rfl⟩ := List.mem_map.mp hd
      exact nl_dpc p
  · exact nl_odp _
  · refine .lst (fun d hd => ?_) fun d hd => ?_
    · obtain ⟨p, _, rfl⟩ := List.mem_map.mp hd
      exact nofun
    · obtain ⟨p, _, rfl⟩ := List.mem_map.mp hd
      exact nl_dq p
  · refine .lst (fun d hd => ?_) fun d hd => ?_
    · obtain ⟨p, _, rfl⟩ := List.mem_map.mp hd
      exact nofun
    · obtain ⟨p, _, rfl⟩ := List.mem_map.mp hd
      exact nl_dq p
theorem tree_look {r : Sr} {a b : Rat} (h : r.c.length ≤ 900) : Tree 4 (lookD r a b) := .tup (by show 4 ≤ 1000; decide) fun d hd => by
  simp only [List.mem_cons, List.not_mem_nil, or_false] at hd
  rcases hd with rfl | rfl | rfl | rfl
  · exact tree_c 0 h
  · exact tree_odp 2 r.aim
  · refine .lst ?_ fun d hd => ?_
    · rw [List.length_map]
      exact Nat.le_trans (List.length_filterMap_le _ _) (by show 4 ≤ 1000; decide)
    · obtain ⟨p, _, rfl⟩ := List.mem_map.mp hd
      exact tree_dq _ _
  · refine .lst ?_ fun d hd => ?_
    · rw [List.length_map]
      exact Nat.le_trans (List.length_filterMap_le _ _) (by show 3 ≤ 1000; decide)
    · obtain ⟨p, _, rfl⟩ := List.mem_map.mp hd
      exact tree_dq _ _
theorem sz_nowC {i j l m : Nat} {c : List Pc} {x a : Rat} (cz : Cz i j l c) (zx : Sz m x) (h : nowf c x = some a) : Sz (j + (l + (m + i + 1)) + 1) a := by
  unfold nowf at h
  obtain ⟨p, hp, rfl⟩ := Option.map_eq_some_iff.mp h
  have hm := (List.mem_filter.mp (List.mem_of_getLast? hp)).1
  obtain ⟨z1, z2, z3⟩ := cz p hm
  exact z2.add (z3.mul (zx.sub z1))
theorem sz_errS {r : Sr} {t : Rat} {m : Nat} (zt : Sz m t) (h1 : Sz m r.la) (h2 : Sz m r.bd) (h3 : Sz m r.hf) (h4 : Sz m r.sl) (h5 : Sz m r.dr) : Sz (7 * m + 4) (errS r t) := by
  have zu : Sz (m + m + 1) (t - r.la) := zt.sub h1
  have zb : Sz (4 * m + 2) (r.bd - r.sl * (t - r.la)) := (h2.sub (h4.mul zu)).mono (by omega)
  unfold errS nextB
  dsimp only
  split
  · exact ((h5.mul zu).add zb).mono (by omega)
  · exact ((h5.mul zu).add h3).mono (by omega)
theorem SgA.sm {o : Addr} {H H' : Hp} {r : Sr} (e : Same H H') (h : SgA K C o H r) : SgA K C o H' r := h.same e
/-- a steering of good values is made -/
theorem init_ag {x : Ag} (ok : AgOk x) {H2 : Hp} {v0 v1 v2 v3 xd xo : V} (g0 : Rq K H2 v0 x.r) (g1 : Rq K H2 v1 x.s) (g2 : Rq K H2 v2 x.e) (g3 : Rq K H2 v3 x.l) (hd : Rq K H2 xd x.d) (ho : optV K H2 xo x.ov) {o dx : Addr} (no : H2 o = none) (ndx : H2 dx = none) (ne : dx ≠ o) {R : VK} (z : ∀ H', Same H2 H' → SgA K C o H' (sr0 x) → R .non H') :
    spInit K C CB CR [.ref o, v0, v1, v2, v3, xd, xo] (upd (upd H2 dx (.own o)) o (.ins C dx [])) R E0 := by
  have s1 := same_new ndx (.own o)
  have no' : (upd H2 dx (.own o)) o = none := by rw [upd_ne ne.symm]; exact no
  have s2 := same_new no' (.ins C dx [])
  have sA := s1.trans s2
  refine ⟨o, dx, v0, v1, v2, v3, xd, xo, x.r, x.s, x.e, x.l, x.d, x.ov, 200, rfl, upd_same, g0.same sA, g1.same sA, g2.same sA, g3.same sA, hd.same sA, ho.same sA, ok.ze.mono (by decide), ok.zl.mono (by decide), ok.zd.mono (by decide), fun q h => (ok.zo q h).mono (by decide), by decide, fun _ _ _ _ _ _ H' ef g => z H' ?_ g, fun c => absurd ok.e0 (Rat.not_le.mpr c), fun _ c => ?_, fun _ _ _ c => ?_, fun _ _ _ _ _ q e c => absurd (ok.o0 q e) (Rat.not_le.mpr c)⟩
  · intro b u h
    exact ef b u (sA b u h) fun e => by subst e; rw [no] at h; cases h
  · rcases c with c | c
    · exact absurd ok.l0 (Rat.not_lt.mpr c)
    · exact absurd ok.l1 (Rat.not_lt.mpr c)
  · rcases c with c | c
    · exact absurd ok.d0 (Rat.not_le.mpr c)
    · exact absurd ok.d1 (Rat.not_lt.mpr c)
theorem frI_at {s a : Addr} {H H' : Hp} {xs : List V} (e : Fr s H H') (hs : ∃ C d fs, H s = some (.ins C d fs)) (h : H a = some (.lst xs)) : H' a = some (.lst xs) := by
  obtain ⟨C, d, fs, hs⟩ := hs
  exact e _ _ h fun z => by rw [z, hs] at h; cases h
theorem sto_frI {s o : Addr} {H H' : Hp} (S : Sto l s H) (e : Fr o H H') (hs : ∃ C d fs, H o = some (.ins C d fs)) : Sto l s H' := by
  obtain ⟨ns, pos, num, seed, hold, cnt, h1, h2, h3, r⟩ := S
  exact ⟨ns, pos, num, seed, hold, cnt, frI_at e hs h1, h2, frI_at e hs h3, r⟩
/-- what the law keeps while it steers -/
structure LK (K : PySem.W.Frag) (l s pr : Addr) (xf xv xl : V) (x : Ag) (G : Hp) : Prop where
  S : Sto l s G
  hf : Rq K G xf x.r
  hv : Rq K G xv x.s
  hp : ∃ xd, SqT K G pr [xl, xd]
  hl : Rq K G xl x.l
section
variable {s pr : Addr} {xf xv xl : V} {x : Ag} {G G' : Hp}
theorem LK.same (h : LK K l s pr xf xv xl x G) (e : Same G G') : LK K l s pr xf xv xl x G' := ⟨h.S.same e, h.hf.same e, h.hv.same e, h.hp.elim fun xd q => ⟨xd, e.sqt q⟩, h.hl.same e⟩
theorem LK.fr (h : LK K l s pr xf xv xl x G) (e : Fr s G G') (S' : Sto l s G') : LK K l s pr xf xv xl x G' := ⟨S', h.hf.fr e h.S.some, h.hv.fr e h.S.some, h.hp.elim fun xd q => ⟨xd, sqt_fr e h.S.some q⟩, h.hl.fr e h.S.some⟩
theorem LK.frI {o : Addr} (h : LK K l s pr xf xv xl x G) (e : Fr o G G') (hi : ∃ C d fs, G o = some (.ins C d fs)) : LK K l s pr xf xv xl x G' := ⟨sto_frI h.S e hi, frI_rq e hi h.hf, frI_rq e hi h.hv, h.hp.elim fun xd q => ⟨xd, frI_sqt e hi q⟩, frI_rq e hi h.hl⟩
end
end Vk

set_option maxHeartbeats 4000000
namespace Vk
open PySem L2 Vm Vl Vs
variable {aZERO aONE aHALF aDR C CB CR CE CT : Addr} {P : Program} {w : World} {K : PySem.W.Frag} {mg : Str → Option Value} {base : Heap} {k n : Nat} {f f1 f2 f3 f4 f5 f6 f7 f8 f9 f10 f11 f12 : Addr} {fd fd1 fd2 fd3 fd4 fd5 fd6 fd7 fd8 fd9 fd10 fd11 fd12 : FuncData}
/-- what `_law_bad_steering` gave -/
structure Wr (K : PySem.W.Frag) (tw ad : Addr) (x0 x1 x2 x3 y : V) (e r d : Rat) (ov : Option Rat) (n : Nat) (G : Hp) : Prop where
  t : SqT K G tw [x0, x1, x2, x3, .ref ad]
  h0 : Rq K G x0 e
  h1 : Rq K G x1 r
  h2 : Rq K G x2 d
  h3 : optV K G x3 ov
  had : SqT K G ad [.str (fltN n), y]
theorem Wr.fr {s tw ad : Addr} {x0 x1 x2 x3 y : V} {e r d : Rat} {ov : Option Rat} {n : Nat} {G G' : Hp} (h : Wr K tw ad x0 x1 x2 x3 y e r d ov n G) (f : Fr s G G') (hs : ∃ ys, G s = some (.lst ys)) : Wr K tw ad x0 x1 x2 x3 y e r d ov n G' := ⟨sqt_fr f hs h.t, h.h0.fr f hs, h.h1.fr f hs, h.h2.fr f hs, opt_fr f hs h.h3, sqt_fr f hs h.had⟩
theorem Wr.same {tw ad : Addr} {x0 x1 x2 x3 y : V} {e r d : Rat} {ov : Option Rat} {n : Nat} {G G' : Hp} (h : Wr K tw ad x0 x1 x2 x3 y e r d ov n G) (f : Same G G') : Wr K tw ad x0 x1 x2 x3 y e r d ov n G' := ⟨f.sqt h.t, h.h0.same f, h.h1.same f, h.h2.same f, h.h3.same f, f.sqt h.had⟩
theorem flt_uniq {e l d : Rat} {ov : Option Rat} {n m : Nat} (h : Flt e l d ov n) (g : Flt e l d ov m) : n = m := by
  cases h <;> cases g <;> first | rfl | (exfalso; grind)
theorem flt_good {e l d : Rat} {ov : Option Rat} {n : Nat} (h : Flt e l d ov n) : ¬ (0 ≤ e ∧ 0 < l ∧ l < 1 ∧ 0 ≤ d ∧ d < l ∧ ∀ q, ov = some q → 0 ≤ q) := by
  rintro ⟨g1, g2, g3, g4, g5, g6⟩
  cases h with
  | a h => grind
  | b _ h => grind
  | c _ _ _ h => grind
  | d _ _ _ _ _ h h' =>
    cases ov with
    | none => exact h' rfl
    | some q => exact absurd (h q rfl) (Rat.not_lt.mpr (g6 q rfl))
def spLaw (K : PySem.W.Frag) : Sp := fun vs H Q _ => ∃ (a : Addr) (ns : List Int), vs = [.ref a] ∧ SqL K H a (ns.map V.int) ∧ ns.length ≤ 63 ∧ ∀ H', Q (.bl true) H'
abbrev s_law : Stmt := top 99
abbrev N_law : List Str := ["_law_script", "_law_store_here", "_law_wrong", "_law_pair", "_law_first", "_law_shown", "_law_due", "_law_over", "_law_spread", "_law_steering", "_law_twin", "_law_last", "_law_row", "_law_look_here", "_law_middle", "_law_before", "_law_again"]
theorem sc_law : FnScope N_law ["_law_script"] (defScope s_law) := ⟨rfl, rfl, rfl, by decide +kernel, rfl, by decide +kernel, by decide +kernel⟩
abbrev ps_law : List Str := ["_law_script"]
theorem ok_law {mvA : List Value} (hDR : ∀ H, Rq K H (.ref aDR) 0) (T : Bn mg) (F : Fn K mg "law" s_law ps_law f fd) (d_law_store : Def P w K mg base (k + 1) "_law_store" ["_law_script"] (spStore K) f1 fd1) (d_law_bad_steering : ∀ l, Def P w K mg base (k + 1) "_law_bad_steering" ["_law_store_here"] (spBadSt K l) f2 fd2)
    (d_law_slews : ∀ l, Def P w K mg base (k + 1) "_law_slews" ["_law_store_here"] (spSl2 K l) f3 fd3) (d_law_part : ∀ l, Def P w K mg base (k + 1) "_law_part" ["_law_store_here"] (spDraw K l 5 anyQ) f4 fd4) (d_law_plus : Def P w K mg base (k + 1) "_law_plus" ["_law_a", "_law_b"] (spOp2 K (· + ·)) f5 fd5)
    (d_law_same : Def P w K mg base (k + 1) "_law_same" ["_law_value", "_law_due"] (spSame K 4) f6 fd6) (d_law_not_made : Def P w K mg base (k + 1) "_law_not_made" ["_law_args"] (spNM K) f7 fd7) (d_law_over_step : ∀ l, Def P w K mg base (k + 1) "_law_over_step" ["_law_store_here"] (spOver K l) f8 fd8)
    (d_law_spare : ∀ l, Def P w K mg base (k + 1) "_law_spare" ["_law_store_here"] (spDraw K l 5 nnQ) f9 fd9) (dSteering : MkY P w K mg base k "Steering" C ps_Steering_init (spInit K C CB CR) f10 fd10)
    (kbSteering_slew : KBn K fd10 ps_Steering_init 4 ["slew"] (fun us ws => us ++ ws ++ mvA) (fun vs zs => vs ++ zs ++ [.ref aDR, .non])) (kbSteering_slew_drift_step_over : KBn K fd10 ps_Steering_init 4 ["slew", "drift", "step_over"] (fun us ws => us ++ ws) (fun vs zs => vs ++ zs))
    (d_law_steers : ∀ l, Def P w K mg base (k + 1) "_law_steers" ["_law_store_here", "_law_first", "_law_many"] (spSteers K l) f11 fd11) (d_law_size : ∀ l, Def P w K mg base (k + 1) "_law_size" ["_law_store_here", "_law_least", "_law_top"] (spSize K l) f12 fd12)
    {f13 f14 f15 f16 f17 f18 f19 f20 f21 f22 : Addr} {fd13 fd14 fd15 fd16 fd17 fd18 fd19 fd20 fd21 fd22 : FuncData} (d_law_look : Def P w K mg base (k + 1) "_law_look" ["_law_steering", "_law_first", "_law_last"] (spLook K C) f13 fd13) (d_law_bad_calls : ∀ l, Def P w K mg base (k + 1) "_law_bad_calls" ["_law_store_here", "_law_steering", "_law_first", "_law_last"] (spBadC K C l) f14 fd14)
    (d_law_times : Def P w K mg base (k + 1) "_law_times" ["_law_a", "_law_b"] (spOp2 K (· * ·)) f15 fd15) (dSteering_display : MthY P w K mg base (k + 1) C "display" ps_Steering_display (spDisplay K C CE) f16 fd16) (dSteering_error_at : MthY P w K mg base (k + 1) C "error_at" ps_Steering_error_at (spErrAt K C CT) f17 fd17)
    (d_law_is_frac : Def P w K mg base (k + 1) "_law_is_frac" ["_law_value"] (spIsFrac K) f18 fd18) (dSteering_steer : MthY P w K mg base (k + 1) C "steer" ps_Steering_steer (spSteer K C CT) f19 fd19) (d_law_below : Def P w K mg base (k + 1) "_law_below" ["_law_a", "_law_b"] (spTest2 K fun p q => .bl (decide (p < q))) f20 fd20)
    (d_law_refused : Def P w K mg base (k + 1) "_law_refused" ["_law_steering", "_law_deed", "_law_raw", "_law_span"] (spRf K C) f21 fd21) (dSteering_course_of : Mth P w K mg base (k + 1) C "course_of" ps_Steering_course_of (spCourseOf K C) f22 fd22) :
    Def P w K mg base (k + 1 + 1) "law" ps_law (spLaw K) f fd := by
  have d_law_bad_steering := Def.ex d_law_bad_steering
  have d_law_slews := Def.ex d_law_slews
  have d_law_part := Def.ex d_law_part
  have d_law_over_step := Def.ex d_law_over_step
  have d_law_spare := Def.ex d_law_spare
  have d_law_steers := Def.ex d_law_steers
  have d_law_size := Def.ex d_law_size
  have d_law_bad_calls := Def.ex d_law_bad_calls
  refine ⟨F.F.ok sc_law (fun vs H Q E h => ?_) (fun cdv A outer s H vs Q E hr h => ?_), F.m, F.F.kp, F.b⟩
  · obtain ⟨_, _, rfl, _⟩ := h
    rfl
  obtain ⟨sa, ns, rfl, hS, hl, z⟩ := h
  refine ⟨_, (pss_cons (ps_set (i := 1) sc_law.nd rfl (Or.inl rfl) (pcall d_law_store hr (pa_cons (pv 0) pa_nil)))
      (pss_cons (ps_set (i := 2) sc_law.nd rfl (Or.inl rfl) (pcall d_law_bad_steering hr (pa_cons (pv 1) pa_nil)))
      (pss_cons (ps_set (i := 3) sc_law.nd rfl (Or.inl rfl) (pcall d_law_slews hr (pa_cons (pv 1) pa_nil)))
      (pss_cons (ps_set (i := 4) sc_law.nd rfl (Or.inl rfl) (pcall d_law_part hr (pa_cons (pv 1) pa_nil)))
      (pss_cons (ps_set (i := 5) sc_law.nd rfl (Or.inl rfl) (pcall d_law_plus hr (pa_cons (pv 4) (pa_cons (pcall d_law_part hr (pa_cons (pv 1) pa_nil)) pa_nil))))
      (pss_cons (ps_set (i := 6) sc_law.nd rfl (Or.inl rfl) (pe_tup (pa_cons (pe_lst (pa_cons (pe_ix ix_tup (pe_ix ix_tup (pv 2) pe_int (fun _ _ => rfl)) pe_int (fun _ _ => rfl)) pa_nil)) (pa_cons (pe_ix ix_tup (pe_ix ix_tup (pv 2) pe_int (fun _ _ => rfl)) pe_int (fun _ _ => rfl)) pa_nil))))
      (pss_cons (ps_if (pt_not (pt_val (pcall d_law_same hr (pa_cons (pcall d_law_not_made hr (pa_cons (pe_op op_cat (pe_lst (pa_cons (pv 4) (pa_cons (pv 5) pa_nil))) (pe_callTy call_list_of (by rfl) T.list_ (by decide +kernel) (pa_cons (pe_slice sl_tup (pv 2) po_none (po_some pe_int)) pa_nil))) pa_nil)) (pa_cons (pv 6) pa_nil)))))
        (pss_one (ps_ret pe_bl))
        pss_nil)
      (pss_cons (ps_set (i := 7) sc_law.nd rfl (Or.inl rfl) (pcall d_law_over_step hr (pa_cons (pv 1) pa_nil)))
      (pss_cons (ps_set (i := 8) sc_law.nd rfl (Or.inl rfl) (pcall d_law_spare hr (pa_cons (pv 1) pa_nil)))
      (pss_cons (ps_if (pt_cmpR op_notN (pcall d_law_not_made hr (pa_cons (pe_lst (pa_cons (pv 4) (pa_cons (pv 5) (pa_cons (pv 8) (pa_cons (pe_ix ix_tup (pv 3) pe_int (fun _ _ => rfl)) (pa_cons (pe_ix ix_tup (pv 3) pe_int (fun _ _ => rfl)) (pa_cons (pv 7) pa_nil))))))) pa_nil)) pe_non (nomark _))
        (pss_one (ps_ret pe_bl))
        pss_nil)
      (pss_cons (ps_set (i := 9) sc_law.nd rfl (Or.inl rfl) (pmakeK dSteering kbSteering_slew_drift_step_over hr (pa_cons (pv 4) (pa_cons (pv 5) (pa_cons (pv 8) pa_nil))) (pk_cons (pe_ix ix_tup (pv 3) pe_int (fun _ _ => rfl)) (pk_cons (pe_ix ix_tup (pv 3) pe_int (fun _ _ => rfl)) (pk_cons (pv 7) pk_nil)))))
      (pss_cons (ps_set (i := 10) sc_law.nd rfl (Or.inl rfl) (pmakeK dSteering kbSteering_slew_drift_step_over hr (pa_cons (pv 4) (pa_cons (pv 5) (pa_cons (pv 8) pa_nil))) (pk_cons (pe_ix ix_tup (pv 3) pe_int (fun _ _ => rfl)) (pk_cons (pe_ix ix_tup (pv 3) pe_int (fun _ _ => rfl)) (pk_cons (pv 7) pk_nil)))))
      (pss_cons (ps_set (i := 11) sc_law.nd rfl (Or.inl rfl) (pv 4))
      (pss_cons (ps_for PassesOwn.never rfl (pi_list (pcall d_law_steers hr (pa_cons (pv 1) (pa_cons (pv 4) (pa_cons (pcall d_law_size hr (pa_cons (pv 1) (pa_cons pe_int (pa_cons pe_int pa_nil)))) pa_nil))))) (pg_name (i := 12) sc_law.nd rfl (Or.inl rfl))
        (pss_cons (ps_set (i := 13) sc_law.nd rfl (Or.inl rfl) (pcall d_law_look hr (pa_cons (pv 9) (pa_cons (pv 4) (pa_cons (pv 11) pa_nil)))))
        (pss_cons (ps_if (PW.pt (pw_or (pt_not (pt_val (pcall d_law_bad_calls hr (pa_cons (pv 1) (pa_cons (pv 9) (pa_cons (pv 4) (pa_cons (pv 11) pa_nil))))))) (pw_or1 (pt_not (pt_val (pcall d_law_same hr (pa_cons (pcall d_law_look hr (pa_cons (pv 9) (pa_cons (pv 4) (pa_cons (pv 11) pa_nil)))) (pa_cons (pv 13) pa_nil))))))))
          (pss_one (ps_ret pe_bl))
          pss_nil)
        (pss_cons (ps_set (i := 14) sc_law.nd rfl (Or.inl rfl) (pcall d_law_times hr (pa_cons (pcall d_law_plus hr (pa_cons (pv 11) (pa_cons (pe_ix ix_tup (pv 12) pe_int (fun _ _ => rfl)) pa_nil))) (pa_cons (pe_tup (pa_cons pe_int (pa_cons pe_int pa_nil))) pa_nil))))
        (pss_cons (ps_set (i := 15) sc_law.nd rfl (Or.inl rfl) (pmethYL dSteering_display hr (pv 9) (pa_cons (pv 14) pa_nil)))
        (pss_cons (ps_set (i := 8) sc_law.nd rfl (Or.inl rfl) (pmethYL dSteering_error_at hr (pv 9) (pa_cons (pv 14) pa_nil)))
        (pss_cons (ps_if (PW.pt (pw_or (pt_not (pt_val (pcall d_law_is_frac hr (pa_cons (pv 15) pa_nil)))) (pw_or1 (pt_not (pt_val (pcall d_law_is_frac hr (pa_cons (pv 8) pa_nil)))))))
          (pss_one (ps_ret pe_bl))
          pss_nil)
        (pss_cons (ps_expr (pmethYL dSteering_steer hr (pv 9) (pa_cons (pe_ix ix_tup (pv 12) pe_int (fun _ _ => rfl)) (pa_cons (pe_ix ix_tup (pv 12) pe_int (fun _ _ => rfl)) pa_nil))))
        (pss_cons (ps_expr (pmethYL dSteering_steer hr (pv 10) (pa_cons (pe_ix ix_tup (pv 12) pe_int (fun _ _ => rfl)) (pa_cons (pe_ix ix_tup (pv 12) pe_int (fun _ _ => rfl)) pa_nil))))
        (pss_cons (ps_if (pt_val (pcall d_law_below hr (pa_cons (pv 14) (pa_cons (pe_ix ix_tup (pv 12) pe_int (fun _ _ => rfl)) pa_nil))))
          (pss_cons (ps_if (pt_not (pt_val (pcall d_law_same hr (pa_cons (pcall d_law_refused hr (pa_cons (pv 9) (pa_cons pe_str (pa_cons (pv 14) (pa_cons pe_non pa_nil))))) (pa_cons (pe_tup (pa_cons (pe_lst (pa_cons pe_str pa_nil)) (pa_cons (pv 14) pa_nil))) pa_nil)))))
            (pss_one (ps_ret pe_bl))
            pss_nil)
          (pss_one (ps_if (pt_not (pt_val (pcall d_law_same hr (pa_cons (pmethYL dSteering_display hr (pv 9) (pa_cons (pv 14) pa_nil)) (pa_cons (pv 15) pa_nil)))))
            (pss_one (ps_ret pe_bl))
            pss_nil)))
          pss_nil)
        (pss_one (ps_set (i := 11) sc_law.nd rfl (Or.inl rfl) (pe_ix ix_tup (pv 12) pe_int (fun _ _ => rfl))))))))))))))
      (pss_cons (ps_set (i := 13) sc_law.nd rfl (Or.inl rfl) (pcall d_law_look hr (pa_cons (pv 10) (pa_cons (pv 4) (pa_cons (pv 11) pa_nil)))))
      (pss_cons (ps_if (PW.pt (pw_or (pt_not (pt_val (pcall d_law_bad_calls hr (pa_cons (pv 1) (pa_cons (pv 9) (pa_cons (pv 4) (pa_cons (pv 11) pa_nil))))))) (pw_or1 (pt_not (pt_val (pcall d_law_same hr (pa_cons (pcall d_law_look hr (pa_cons (pv 9) (pa_cons (pv 4) (pa_cons (pv 11) pa_nil)))) (pa_cons (pv 13) pa_nil))))))))
        (pss_one (ps_ret pe_bl))
        pss_nil)
      (pss_cons (ps_set (i := 16) sc_law.nd rfl (Or.inl rfl) (pmakeK dSteering kbSteering_slew hr (pa_cons (pv 4) (pa_cons (pv 5) (pa_cons (pe_tup (pa_cons pe_int (pa_cons pe_int pa_nil))) pa_nil))) (pk_cons (pe_ix ix_tup (pv 3) pe_int (fun _ _ => rfl)) pk_nil)))
      (pss_one (ps_ret (pe_and (pcall d_law_same hr (pa_cons (pmeth0 dSteering_course_of hr (pv 16)) (pa_cons (pe_lst (pa_cons (pe_tup (pa_cons (pv 4) (pa_cons (pv 5) (pa_cons (pe_tup (pa_cons pe_int (pa_cons pe_int pa_nil))) pa_nil)))) pa_nil)) pa_nil))) (pe_one (pcall d_law_same hr (pa_cons (pmethYL dSteering_error_at hr (pv 16) (pa_cons (pv 4) pa_nil)) (pa_cons (pe_tup (pa_cons pe_int (pa_cons pe_int pa_nil))) pa_nil)))))))))))))))))))))))), ?_⟩
  (walk_at "vk_vc")
  intro s l H1 e1 _ S1
  dsimp only [gName]
  refine cutG (fun σ' G => ∃ (tw ad : Addr) (x0 x1 x2 x3 y : V) (e r d : Rat) (ov : Option Rat) (n : Nat), σ' = [some (.ref sa), some (.ref s), some (.ref tw), none, none, none, none, none, none, none, none, none, none, none, none, none, none] ∧ Sto l s G ∧ Wr K tw ad x0 x1 x2 x3 y e r d ov n G ∧ Sz 40 e ∧ Sz 40 r ∧ Sz 40 d ∧ OSz 40 ov ∧ Flt e r d ov n ∧ [x0, x1, x2, x3][n]? = some y) ?_ ?_
  rotate_left
  · intro u' key
    refine ⟨_, rfl, l, s, rfl, S1, fun tw ad x0 x1 x2 x3 y e r d ov n H2 h1 h2 h3 h4 h5 h6 h7 h8 h9 hf had hy S2 e2 => ?_⟩
    exact key _ _ ⟨tw, ad, x0, x1, x2, x3, y, e, r, d, ov, n, rfl, S2, ⟨h1, h2, h3, h4, h5, had⟩, h6, h7, h8, h9, hf, hy⟩
  rintro σ H2 ⟨tw, ad, x0, x1, x2, x3, y, e, r, d, ov, n, rfl, S2, W, z0, z1, z2, z3, hflt, hy⟩
  clear S1 e1 hS hl
  refine cutG (fun σ' G => ∃ (pr : Addr) (xl xd : V) (l0 d0 : Rat), σ' = [some (.ref sa), some (.ref s), some (.ref tw), some (.ref pr), none, none, none, none, none, none, none, none, none, none, none, none, none] ∧ Sto l s G ∧ Fr s H2 G ∧ SqT K G pr [xl, xd] ∧ Rq K G xl l0 ∧ Rq K G xd d0 ∧ Sz 24 l0 ∧ Sz 24 d0 ∧ SlOk2 l0 d0) ?_ ?_
  rotate_left
  · intro u' key
    refine ⟨_, rfl, l, s, rfl, S2, fun vp H4 hp S4 e4 => ?_⟩
    obtain ⟨pr, xl, xd, l0, d0, rfl, h1, h2, h3, h4, h5, h6⟩ := hp
    exact key _ _ ⟨pr, xl, xd, l0, d0, rfl, S4, e4, h1, h2, h3, h4, h5, h6⟩
  rintro σ H3 ⟨pr, xl, xd, l0, d0, rfl, S3, e3, hp, hl, hd, zl, zd, slo⟩
  replace W := W.fr e3 S2.some
  clear e3 S2
  refine cutG (fun σ' G => ∃ (bf : Addr) (r0 : Rat), σ' = [some (.ref sa), some (.ref s), some (.ref tw), some (.ref pr), some (.ref bf), none, none, none, none, none, none, none, none, none, none, none, none] ∧ Sto l s G ∧ Fr s H3 G ∧ Rq K G (.ref bf) r0 ∧ Sz 5 r0) ?_ ?_
  rotate_left
  · intro u' key
    (walk_at "vk_vc")
    exact key _ _ ⟨a, q, rfl, by (walk_at "vk_sto"), by focus (walk_at "vk_fr"), h, zq⟩
  rintro σ H4 ⟨bf, r0, rfl, S4, e4, hf, zr⟩
  replace W := W.fr e4 S3.some
  replace hp := sqt_fr e4 S3.some hp
  replace hl := hl.fr e4 S3.some
  replace hd := hd.fr e4 S3.some
  clear e4 S3
  refine cutG (fun σ' G => ∃ (bv : Addr) (s0 : Rat), σ' = [some (.ref sa), some (.ref s), some (.ref tw), some (.ref pr), some (.ref bf), some (.ref bv), none, none, none, none, none, none, none, none, none, none, none] ∧ Sto l s G ∧ Fr s H4 G ∧ Rq K G (.ref bv) s0 ∧ Sz 20 s0 ∧ Fx LL 512 (s0 - r0)) ?_ ?_
  rotate_left
  · intro u' key
    (walk_at "vk_vc")
    have zq : Sz 5 q := by assumption
    exact key _ _ ⟨a, r0 + q, rfl, by (walk_at "vk_sto"), by focus (walk_at "vk_fr"), h, (zr.add zq).mono (by decide), by rw [show r0 + q - r0 = q by grind]; exact (fx5 zq).mono (by decide)⟩
  rintro σ H5 ⟨bv, s0, rfl, S5, e5, hv, zs, fs⟩
  replace W := W.fr e5 S4.some
  replace hp := sqt_fr e5 S4.some hp
  replace hl := hl.fr e5 S4.some
  replace hd := hd.fr e5 S4.some
  replace hf := hf.fr e5 S4.some
  clear e5 S4
  refine cutG (fun σ' G => ∃ (du Dl : Addr), σ' = [some (.ref sa), some (.ref s), some (.ref tw), some (.ref pr), some (.ref bf), some (.ref bv), some (.ref du), none, none, none, none, none, none, none, none, none, none] ∧ Sto l s G ∧ Same H5 G ∧ SqT K G du [.ref Dl, y] ∧ G Dl = some (.lst [.str (fltN n)])) ?_ ?_
  rotate_left
  · intro u' key
    have hW := W.t
    have hA := W.had
    have i4 : atI [x0, x1, x2, x3, .ref ad] 4 = some (.ref ad) := rfl
    have j0 : atI [.str (fltN n), y] 0 = some (.str (fltN n)) := rfl
    have j1 : atI [.str (fltN n), y] 1 = some y := rfl
    (walk_at "vk_vc")
    exact key _ _ ⟨p, _, rfl, S5.same (by (walk_at "vk_same")), (by (walk_at "vk_same")), SqT.of upd_same, by (walk_at "vk_raw")⟩
  rintro σ H6 ⟨du, Dl, rfl, S6, e6, hdu, hDl⟩
  replace W := W.same e6
  replace hp := e6.sqt hp
  replace hl := hl.same e6
  replace hd := hd.same e6
  replace hf := hf.same e6
  replace hv := hv.same e6
  clear e6 S5
  refine cutG (fun σ' G => σ' = [some (.ref sa), some (.ref s), some (.ref tw), some (.ref pr), some (.ref bf), some (.ref bv), some (.ref du), none, none, none, none, none, none, none, none, none, none] ∧ Same H6 G) ?_ ?_
  rotate_left
  · intro u' key
    obtain ⟨hW, w1, w2, w3, w4, _⟩ := id W
    have ec : cutV [x0, x1, x2, x3, .ref ad] none (some 4) = [x0, x1, x2, x3] := by
      unfold cutV
      rw [show [x0, x1, x2, x3, V.ref ad].length = 5 from rfl, show HT.sIx 5 0 none = 0 by decide +kernel, show HT.sIx 5 5 (some 4) = 4 by decide +kernel]
      rfl
    (walk_at "vk_vc")
    · show ¬(HT.sIx 5 0 none = 0 ∧ HT.sIx 5 5 (some 4) = 5); decide +kernel
    · rw [ec]; show 2 + 4 ≤ sizeLine; decide
    · exact fun c1 c2 c3 c4 c5 c6 => absurd ⟨c1, c2, c3, c4, c5, c6⟩ (flt_good hflt)
    intro n' y' hf' hy'
    cases flt_uniq hflt hf'
    cases Option.some.inj (hy.symm.trans hy')
    intro t D H' e7 ht hD
    rw [clsN_flt] at hD
    have hy7 : ∃ dy : PyData, Dp K H6 y dy ∧ Tree 3 dy := by
      have hm := List.mem_of_getElem? hy
      simp only [List.mem_cons, List.not_mem_nil, or_false] at hm
      rcases hm with rfl | rfl | rfl | rfl
      · exact ⟨_, Rq.dp w1, tree_dq _ _⟩
      · exact ⟨_, Rq.dp w2, tree_dq _ _⟩
      · exact ⟨_, Rq.dp w3, tree_dq _ _⟩
      · cases ov with
        | none => exact ⟨.none, by rw [show y = .non from w4]; exact .non, Tree.non⟩
        | some q => exact ⟨_, Rq.dp (w4 : Rq K H6 y q), tree_dq _ _⟩
    obtain ⟨dy, hdy, tdy⟩ := hy7
    have e67 : Same H6 H' := by
      focus exact (by (walk_at "vk_same"))
    have hdy' : Dp K H' y dy := dp_same e67 _ _ hdy
    have hdu' := e67.sqt hdu
    have hDl' := e67 _ _ hDl
    have ts : ∀ n, SeqAt.shaped (.str (fltN n)) = true := fun n => by
      match n with
      | 0 => decide +kernel
      | 1 => decide +kernel
      | 2 => decide +kernel
      | n + 3 => show SeqAt.shaped (.str "BadBound") = true; decide +kernel
    have dd1 : Dp K H' (.ref t) (.tuple [.list [.str (fltN n)], dy]) := .tup ht (.cons (.lst (SqL.of hD) (.cons (.str _) .nil)) (.cons hdy' .nil))
    have dd2 : Dp K H' (.ref du) (.tuple [.list [.str (fltN n)], dy]) := .tup hdu' (.cons (.lst (SqL.of hDl') (.cons (.str _) .nil)) (.cons hdy' .nil))
    have tt : Tree 4 (.tuple [.list [.str (fltN n)], dy]) := .tup (by show 2 ≤ 1000; decide) fun d hd => by
      simp only [List.mem_cons, List.not_mem_nil, or_false] at hd
      rcases hd with rfl | rfl
      · exact .lst (by show 1 ≤ 1000; decide) fun d hd => by rw [List.mem_singleton.mp hd]; exact .str (ts n)
      · exact tdy
    clear hdy tdy ht hD hdu' hDl' hdy'
    refine ⟨_, rfl, _, _, _, rfl, dd1, dd2, tt, ?_⟩
    (walk_at "vk_vc")
    all_goals exact key _ _ ⟨rfl, e67⟩
  rintro σ H7 ⟨rfl, e7⟩
  replace S6 := S6.same e7
  replace hp := e7.sqt hp
  replace hl := hl.same e7
  replace hd := hd.same e7
  replace hf := hf.same e7
  replace hv := hv.same e7
  clear e7 W hdu hDl hflt hy z0 z1 z2 z3
  clear x0 x1 x2 x3 y e r d ov n
  refine cutG (fun σ' G => ∃ (vo : V) (ov : Option Rat), σ' = [some (.ref sa), some (.ref s), some (.ref tw), some (.ref pr), some (.ref bf), some (.ref bv), some (.ref du), some vo, none, none, none, none, none, none, none, none, none] ∧ Sto l s G ∧ Fr s H7 G ∧ optV K G vo ov ∧ OSz 5 ov ∧ (∀ q, ov = some q → 0 ≤ q)) ?_ ?_
  rotate_left
  · intro u' key
    refine ⟨_, rfl, l, s, rfl, S6, fun vo H8 ov hov zov oov S8 e8 => ?_⟩
    exact key _ _ ⟨vo, ov, rfl, S8, e8, hov, zov, oov⟩
  rintro σ H8 ⟨vo, ov, rfl, S8, e8, hov, zov, oov⟩
  replace hf := hf.fr e8 S6.some
  replace hv := hv.fr e8 S6.some
  replace hp := sqt_fr e8 S6.some hp
  replace hl := hl.fr e8 S6.some
  replace hd := hd.fr e8 S6.some
  clear e8 S6
  refine cutG (fun σ' G => ∃ (bs : Addr) (e0 : Rat), σ' = [some (.ref sa), some (.ref s), some (.ref tw), some (.ref pr), some (.ref bf), some (.ref bv), some (.ref du), some vo, some (.ref bs), none, none, none, none, none, none, none, none] ∧ Sto l s G ∧ Fr s H8 G ∧ Rq K G (.ref bs) e0 ∧ Sz 5 e0 ∧ 0 ≤ e0) ?_ ?_
  rotate_left
  · intro u' key
    unfold nnQ at *
    (walk_at "vk_vc")
    exact key _ _ ⟨a, q, rfl, by (walk_at "vk_sto"), by focus (walk_at "vk_fr"), h, zq, okq⟩
  rintro σ H9 ⟨bs, e0, rfl, S9, e9, he, ze, n0⟩
  replace hf := hf.fr e9 S8.some
  replace hv := hv.fr e9 S8.some
  replace hp := sqt_fr e9 S8.some hp
  replace hl := hl.fr e9 S8.some
  replace hd := hd.fr e9 S8.some
  replace hov := opt_fr e9 S8.some hov
  clear e9 S8
  obtain ⟨x, hx⟩ : ∃ x : Ag, x = ⟨r0, s0, e0, l0, d0, ov⟩ := ⟨_, rfl⟩
  have ok : AgOk x := by
    obtain ⟨o1, o2, o3, o4⟩ := slo
    subst hx
    exact ⟨zr.mono (by decide), zs.mono (by decide), ze, zl, zd, fun q e => (zov q e).mono (by decide), n0, o1, o2, o3, o4, oov⟩
  have fr0 : Fx LL 40 x.r := by subst hx; exact (fx5 zr).mono (by decide)
  have fsr : Fx LL 512 (x.s - x.r) := by subst hx; exact fs
  replace hf : Rq K H9 (.ref bf) x.r := by subst hx; exact hf
  replace hv : Rq K H9 (.ref bv) x.s := by subst hx; exact hv
  replace he : Rq K H9 (.ref bs) x.e := by subst hx; exact he
  replace hl : Rq K H9 xl x.l := by subst hx; exact hl
  replace hd : Rq K H9 xd x.d := by subst hx; exact hd
  replace hov : optV K H9 vo x.ov := by subst hx; exact hov
  clear hx zr zs ze zl zd zov oov n0 slo fs
  clear r0 s0 e0 l0 d0 ov
  refine cutG (fun σ' G => σ' = [some (.ref sa), some (.ref s), some (.ref tw), some (.ref pr), some (.ref bf), some (.ref bv), some (.ref du), some vo, some (.ref bs), none, none, none, none, none, none, none, none] ∧ Same H9 G) ?_ ?_
  rotate_left
  · intro u' key
    have j0 : atI [xl, xd] 0 = some xl := rfl
    have j1 : atI [xl, xd] 1 = some xd := rfl
    have q1 : Sz 200 x.e := ok.ze.mono (by decide)
    have q2 : Sz 200 x.l := ok.zl.mono (by decide)
    have q3 : Sz 200 x.d := ok.zd.mono (by decide)
    have q4 : OSz 200 x.ov := ok.zo
    (walk_at "vk_vc")
    · intro _ _ _ _ _ _ H' e'
      (walk_at "vk_vc")
      all_goals exact key _ _ ⟨rfl, by focus exact (by (walk_at "vk_same"))⟩
    · intro n' y' hf' hy'
      exact absurd ⟨ok.e0, ok.l0, ok.l1, ok.d0, ok.d1, ok.o0⟩ (flt_good hf')
  rintro σ HA ⟨rfl, eA⟩
  replace S9 := S9.same eA
  replace hp := eA.sqt hp
  replace hl := hl.same eA
  replace hd := hd.same eA
  replace hf := hf.same eA
  replace hv := hv.same eA
  replace he := he.same eA
  replace hov := hov.same eA
  clear eA
  refine cutG (fun σ' G => ∃ (o1 : Addr), σ' = [some (.ref sa), some (.ref s), some (.ref tw), some (.ref pr), some (.ref bf), some (.ref bv), some (.ref du), some vo, some (.ref bs), some (.ref o1), none, none, none, none, none, none, none] ∧ Same HA G ∧ HA o1 = none ∧ SgA K C o1 G (sr0 x)) ?_ ?_
  rotate_left
  · intro u' key
    have j0 : atI [xl, xd] 0 = some xl := rfl
    have j1 : atI [xl, xd] 1 = some xd := rfl
    (walk_at "vk_vc")
    intro o dx no ndx ne
    exact init_ag ok hf hv he hl hd hov no ndx ne fun H' e' g' => ⟨rfl, key _ _ ⟨o, rfl, e', no, g'⟩⟩
  rintro σ HB ⟨o1, rfl, eB, nn1, g1⟩
  replace S9 := S9.same eB
  replace hp := eB.sqt hp
  replace hl := hl.same eB
  replace hd := hd.same eB
  replace hf := hf.same eB
  replace hv := hv.same eB
  replace he := he.same eB
  replace hov := hov.same eB
  clear eB
  refine cutG (fun σ' G => ∃ (o2 : Addr), σ' = [some (.ref sa), some (.ref s), some (.ref tw), some (.ref pr), some (.ref bf), some (.ref bv), some (.ref du), some vo, some (.ref bs), some (.ref o1), some (.ref o2), none, none, none, none, none, none] ∧ Same HB G ∧ HB o2 = none ∧ SgA K C o2 G (sr0 x)) ?_ ?_
  rotate_left
  · intro u' key
    have j0 : atI [xl, xd] 0 = some xl := rfl
    have j1 : atI [xl, xd] 1 = some xd := rfl
    (walk_at "vk_vc")
    intro o dx no ndx ne
    exact init_ag ok hf hv he hl hd hov no ndx ne fun H' e' g' => ⟨rfl, key _ _ ⟨o, rfl, e', no, g'⟩⟩
  rintro σ HC ⟨o2, rfl, eC, nn2, g2⟩
  have n12 : o2 ≠ o1 := fun h => by
    obtain ⟨_, _, _, h1⟩ := g1.ins
    rw [h, h1] at nn2
    cases nn2
  replace g1 := g1.same eC
  have B : LK K l s pr (.ref bf) (.ref bv) xl x HC := ⟨S9.same eC, hf.same eC, hv.same eC, ⟨xd, eC.sqt hp⟩, hl.same eC⟩
  clear eC nn1 nn2 S9 hp hl hd hf hv he hov
  refine cutG (fun σ' G => σ' = [some (.ref sa), some (.ref s), some (.ref tw), some (.ref pr), some (.ref bf), some (.ref bv), some (.ref du), some vo, some (.ref bs), some (.ref o1), some (.ref o2), some (.ref bf), none, none, none, none, none] ∧ G = HC) ?_ ?_
  rotate_left
  · intro u' key
    exact ⟨_, rfl, key _ _ ⟨rfl, rfl⟩⟩
  rintro σ G0 ⟨rfl, rfl⟩
  have A0 : At x 0 (sr0 x) (ls0 x) := ⟨rl0 (by decide) ok, inv0 ok fsr, fr0.mono (by decide), by show 1 ≤ 1; decide⟩
  refine cutG (fun σ' G => ∃ (n : Nat) (r : Sr) (st : Ls) (xsp xr : V) (k12 k13 k14 k15 : Option V), σ' = [some (.ref sa), some (.ref s), some (.ref tw), some (.ref pr), some (.ref bf), some (.ref bv), some (.ref du), some vo, some xsp, some (.ref o1), some (.ref o2), some xr, k12, k13, k14, k15, none] ∧ n ≤ 5 ∧ At x n r st ∧ SgA K C o1 G r ∧ SgA K C o2 G r ∧ LK K l s pr (.ref bf) (.ref bv) xl x G ∧ Rq K G xr st.ra) ?_ ?_
  rotate_left
  · intro u' key
    have BS := B.S
    refine ⟨_, rfl, _, rfl, _, rfl, l, s, 0, 4, rfl, B.S, by decide, by decide, fun rr HE q0 q1 SE eE => ?_⟩
    obtain ⟨m, rfl⟩ : ∃ m : Nat, rr = m := ⟨rr.toNat, by omega⟩
    have g1E := g1.frS BS eE
    have g2E := g2.frS BS eE
    have BE := B.fr eE SE
    clear eE g1 g2 B BS
    refine ⟨l, s, _, m, x.r, rfl, BE.S, BE.hf, fr0, by omega, fun D us rows HF hD nD hrows cl lrows SF eF => ?_⟩
    have nDs := (free_ne BE.S nD).1
    have g1F := g1E.frS BE.S eF
    have g2F := g2E.frS BE.S eF
    have BF := BE.fr eF SF
    clear eF SF nD g1E g2E BE SE
    have hDs : SqL K HF D us := SqL.of hD
    refine ⟨D, rfl, ⟨us, hDs⟩, forL (K := K) (a := D) (xs := us) (fun i σ G => Hold (∃ (r : Sr) (st : Ls) (xsp xr : V) (k12 k13 k14 k15 : Option V), σ = [some (.ref sa), some (.ref s), some (.ref tw), some (.ref pr), some (.ref bf), some (.ref bv), some (.ref du), some vo, some xsp, some (.ref o1), some (.ref o2), some xr, k12, k13, k14, k15, none] ∧ At x i r st ∧ SgA K C o1 G r ∧ SgA K C o2 G r ∧ LK K l s pr (.ref bf) (.ref bv) xl x G ∧ Rq K G xr st.ra ∧ st.ra = lastT x.r (rows.take i) ∧ G D = some (.lst us) ∧ All2 (CallV K G) us rows))
      ⟨sr0 x, ls0 x, _, _, none, none, none, none, rfl, A0, g1F, g2F, BF, BF.hf, rfl, hD, hrows⟩ (fun i σ G _ h => by obtain ⟨_, _, _, _, _, _, _, _, _, _, _, _, _, _, _, h, _⟩ := h; exact SqL.of h) ?_ ?_⟩
    · clear hDs hD hrows g1F g2F BF A0
      rintro i u σ G1 hu ⟨r, st, xsp, xr, k12, k13, k14, k15, rfl, A, g1, g2, B, hxr, hra, hD1, hr1⟩
      have hi : i < rows.length := by have := (List.getElem?_eq_some_iff.mp hu).1; rw [hr1.1] at this; exact this
      have ec : rows[i]? = some rows[i] := List.getElem?_eq_getElem hi
      have hcv := hr1.2 i u _ hu ec
      have cok := cl i _ ec
      have elast : lastT x.r (rows.take (i + 1)) = rows[i].1 := by
        rw [List.take_add_one, ec]
        exact lastT_snoc _ _ _
      generalize rows[i] = row at ec hcv cok elast
      obtain ⟨t, os⟩ := row
      obtain ⟨ca, cr, cs, rfl, hc1, hc2, hc3⟩ := id hcv
      replace hc2 : Rq K G1 cr t := hc2
      replace hc3 : oSp K G1 cs os := hc3
      rw [← hra] at cok
      obtain ⟨q1, q2, q3, q4, q5⟩ := cok
      dsimp only at q1 q2 q3 q4 q5 elast
      have ft : Fx LL 512 t := q3.mono (by omega)
      have up := A.up ok (by omega) q1 ft (q2.mono (by decide)) q4 (fun s e => ⟨fun q e' => ((q5 s e).1 q e').mono (by decide), fun q e' => ((q5 s e).2 q e').mono (by decide)⟩)
      obtain ⟨stok, A', hold, ham, hza⟩ := up
      have zz := A.zs ok (by omega)
      have zra : Sz 62 st.ra := A.ra.szL (by decide)
      have zt : Sz 62 t := ft.szL (by decide)
      have ln : r.c.length ≤ 900 := by have := A.len; omega
      clear q2 q3 q4 q5 hcv
      dsimp only [gName]
      refine cutG (fun σ' G => ∃ (vl : V), σ' = [some (.ref sa), some (.ref s), some (.ref tw), some (.ref pr), some (.ref bf), some (.ref bv), some (.ref du), some vo, some xsp, some (.ref o1), some (.ref o2), some xr, some (.ref ca), some vl, k14, k15, none] ∧ Same G1 G ∧ Dp K G vl (lookD r x.r st.ra)) ?_ ?_
      rotate_left
      · intro u' key
        exact ⟨_, rfl, _, rfl, _, rfl, o1, _, _, x, i, r, st, rfl, g1, B.hf, hxr, A, ok, by omega, fun v H' e h => key _ _ ⟨v, rfl, e, h⟩⟩
      rintro σ G2 ⟨vl, rfl, e2, hvl⟩
      replace g1 := g1.same e2
      replace g2 := g2.same e2
      replace B := B.same e2
      replace hxr := hxr.same e2
      replace hD1 := e2 _ _ hD1
      replace hr1 := hr1.imp fun _ _ h => CallV.same e2 h
      replace hc1 := e2.sqt hc1
      replace hc2 := hc2.same e2
      replace hc3 := hc3.same e2
      clear e2
      refine cutG (fun σ' G => σ' = [some (.ref sa), some (.ref s), some (.ref tw), some (.ref pr), some (.ref bf), some (.ref bv), some (.ref du), some vo, some xsp, some (.ref o1), some (.ref o2), some xr, some (.ref ca), some vl, k14, k15, none] ∧ Sto l s G ∧ Fr s G2 G) ?_ ?_
      rotate_left
      · intro u' key
        refine ⟨_, rfl, _, rfl, _, rfl, _, rfl, l, s, o1, _, _, x, i, r, st, rfl, B.S, g1, B.hf, hxr, A, ok, by omega, fun G3 S3 e3 => ?_⟩
        have g13 := g1.frS B.S e3
        have B3 := B.fr e3 S3
        have hx3 := hxr.fr e3 B.S.some
        have dl3 := dp_frS B.S e3 _ _ (nl_look _ _ _) hvl
        refine ⟨_, rfl, _, rfl, _, rfl, _, rfl, o1, _, _, x, i, r, st, rfl, g13, B3.hf, hx3, A, ok, by omega, fun v2 G4 e4 d2 => ?_⟩
        refine ⟨_, rfl, _, _, _, rfl, d2, dp_same e4 _ _ dl3, tree_look ln, ?_⟩
        (walk_at "vk_vc")
        all_goals exact key _ _ ⟨rfl, S3.same e4, e3.trans (Fr.of e4)⟩
      rintro σ G3 ⟨rfl, S3, e3⟩
      have hsS := B.S.some
      replace g1 := g1.frS B.S e3
      replace g2 := g2.frS B.S e3
      replace hxr := hxr.fr e3 hsS
      replace hD1 := e3 _ _ hD1 nDs
      replace hr1 := hr1.imp fun _ _ h => CallV.fr e3 hsS h
      replace hc1 := sqt_fr e3 hsS hc1
      replace hc2 := hc2.fr e3 hsS
      replace hc3 := fr_osp e3 hsS hc3
      replace B := B.fr e3 S3
      clear e3 S3 hsS hvl
      refine cutG (fun σ' G => ∃ (xm : Addr) (mid : Rat), σ' = [some (.ref sa), some (.ref s), some (.ref tw), some (.ref pr), some (.ref bf), some (.ref bv), some (.ref du), some vo, some xsp, some (.ref o1), some (.ref o2), some xr, some (.ref ca), some vl, some (.ref xm), k15, none] ∧ Same G3 G ∧ Rq K G (.ref xm) mid ∧ st.ra ≤ mid ∧ mid ≤ t ∧ Sz 140 mid) ?_ ?_
      rotate_left
      · intro u' key
        have i0 : atI [cr, cs] 0 = some cr := rfl
        (walk_at "vk_vc")
        have eh : (mkRat 1 2 : Rat) = 1 / 2 := by decide +kernel
        refine key _ _ ⟨a, (st.ra + t) * mkRat 1 2, rfl, by focus exact (by (walk_at "vk_same")), h, ?_, ?_, ((zra.add zt).mul zl12).mono (by decide)⟩
        · rw [eh]; grind
        · rw [eh]; grind
      rintro σ G4 ⟨xm, mid, rfl, e4, hm, le1, le2, zm⟩
      replace g1 := g1.same e4
      replace g2 := g2.same e4
      replace B := B.same e4
      replace hxr := hxr.same e4
      replace hD1 := e4 _ _ hD1
      replace hr1 := hr1.imp fun _ _ h => CallV.same e4 h
      replace hc1 := e4.sqt hc1
      replace hc2 := hc2.same e4
      replace hc3 := hc3.same e4
      clear e4
      refine cutG (fun σ' G => ∃ (xb : Addr), σ' = [some (.ref sa), some (.ref s), some (.ref tw), some (.ref pr), some (.ref bf), some (.ref bv), some (.ref du), some vo, some xsp, some (.ref o1), some (.ref o2), some xr, some (.ref ca), some vl, some (.ref xm), some (.ref xb), none] ∧ Same G4 G ∧ Rq K G (.ref xb) (nowT st mid)) ?_ ?_
      rotate_left
      · intro u' key
        obtain ⟨dx, sx, ho1, Gs⟩ := id g1
        obtain ⟨no1, no2, no3, no4, no5, no6⟩ := sgf_no sx
        have cz := A.R.cz
        have okc := A.R.ok
        have enow := A.R.now mid le1
        (walk_at "vk_vc")
        · intro q a' H' eq e h
          rw [enow] at eq
          cases eq
          exact key _ _ ⟨a', rfl, e, h⟩
        · intro h; rw [enow] at h; cases h
      rintro σ G5 ⟨xb, rfl, e5, hxb⟩
      replace g1 := g1.same e5
      replace g2 := g2.same e5
      replace B := B.same e5
      replace hxr := hxr.same e5
      replace hm := hm.same e5
      replace hD1 := e5 _ _ hD1
      replace hr1 := hr1.imp fun _ _ h => CallV.same e5 h
      replace hc1 := e5.sqt hc1
      replace hc2 := hc2.same e5
      replace hc3 := hc3.same e5
      clear e5
      refine cutG (fun σ' G => ∃ (xsp : V), σ' = [some (.ref sa), some (.ref s), some (.ref tw), some (.ref pr), some (.ref bf), some (.ref bv), some (.ref du), some vo, some xsp, some (.ref o1), some (.ref o2), some xr, some (.ref ca), some vl, some (.ref xm), some (.ref xb), none] ∧ Same G5 G ∧ Rq K G xsp (errS r mid)) ?_ ?_
      rotate_left
      · intro u' key
        obtain ⟨dx, sx, ho1, Gs⟩ := id g1
        obtain ⟨no1, no2, no3, no4, no5, no6⟩ := sgf_no sx
        have lla : r.la ≤ mid := by rw [A.R.la]; exact le1
        obtain ⟨y1, y2, y3, y4, y5⟩ := zz
        have z700 : Sz 700 mid := zm.mono (by decide)
        (walk_at "vk_vc")
        · intro _ v' H' e h
          exact key _ _ ⟨v', rfl, e, h⟩
        · exact fun c => absurd lla (Rat.not_le.mpr c)
      rintro σ G6 ⟨xsp, rfl, e6, hxsp⟩
      replace g1 := g1.same e6
      replace g2 := g2.same e6
      replace B := B.same e6
      replace hxr := hxr.same e6
      replace hm := hm.same e6
      replace hxb := hxb.same e6
      replace hD1 := e6 _ _ hD1
      replace hr1 := hr1.imp fun _ _ h => CallV.same e6 h
      replace hc1 := e6.sqt hc1
      replace hc2 := hc2.same e6
      replace hc3 := hc3.same e6
      clear e6
      obtain ⟨y1, y2, y3, y4, y5⟩ := zz
      refine cutG (fun σ' G => σ' = [some (.ref sa), some (.ref s), some (.ref tw), some (.ref pr), some (.ref bf), some (.ref bv), some (.ref du), some vo, some xsp, some (.ref o1), some (.ref o2), some xr, some (.ref ca), some vl, some (.ref xm), some (.ref xb), none] ∧ Same G6 G) ?_ ?_
      rotate_left
      · intro u' key
        have zbn : Sz 9000 (nowT st mid) := (sz_nowC A.R.cz zm (A.R.now mid le1)).mono (by decide)
        have zer : Sz 9000 (errS r mid) := (sz_errS (m := 160) (zm.mono (by decide)) (y1.mono (by decide)) (y2.mono (by decide)) (y3.mono (by decide)) (y4.mono (by decide)) (y5.mono (by decide))).mono (by decide)
        (walk_at "vk_vc")
        all_goals exact key _ _ ⟨rfl, by focus exact (by (walk_at "vk_same"))⟩
      rintro σ G6' ⟨rfl, e6⟩
      replace g1 := g1.same e6
      replace g2 := g2.same e6
      replace B := B.same e6
      replace hm := hm.same e6
      replace hxb := hxb.same e6
      replace hD1 := e6 _ _ hD1
      replace hr1 := hr1.imp fun _ _ h => CallV.same e6 h
      replace hc1 := e6.sqt hc1
      replace hc2 := hc2.same e6
      replace hc3 := hc3.same e6
      clear e6 hxsp hxr
      have zt7 : Sz 700 t := zt.mono (by decide)
      have tl : ∀ c : r.la ≤ t, StOk r t (nowT st t) os := fun _ => stok
      have tn : ¬ t < r.la := by rw [A.R.la]; exact Rat.not_lt.mpr q1
      refine cutG (fun σ' G => σ' = [some (.ref sa), some (.ref s), some (.ref tw), some (.ref pr), some (.ref bf), some (.ref bv), some (.ref du), some vo, some xsp, some (.ref o1), some (.ref o2), some xr, some (.ref ca), some vl, some (.ref xm), some (.ref xb), none] ∧ Fr o1 G6' G ∧ SgA K C o1 G (strS r t (nowT st t) os)) ?_ ?_
      rotate_left
      · intro u' key
        obtain ⟨dx, sx, ho1, Gs⟩ := id g1
        obtain ⟨no1, no2, no3, no4, no5, no6⟩ := sgf_no sx
        refine ⟨_, rfl, o1, dx, _, rfl, ho1, no1, _, rfl, ca, _, _, _, rfl, rfl, hc1, at0 rfl, _, rfl, ca, _, _, _, rfl, rfl, hc1, at1 rfl, o1, _, _, r, t, nowT st t, os, rfl, g1, hc2, hc3, zt7, y1.mono (by decide), y2.mono (by decide), y3.mono (by decide), y4, y5, fun c => ⟨stok, fun G3 e3 g' => ?_⟩, fun c => absurd c tn⟩
        exact key _ _ ⟨rfl, e3, g'⟩
      rintro σ G7 ⟨rfl, e7, g1'⟩
      have hi1 := g1.ins
      replace g2 := g2.frI e7 n12 hi1
      replace B := B.frI e7 hi1
      replace hm := frI_rq e7 hi1 hm
      replace hxb := frI_rq e7 hi1 hxb
      replace hD1 := frI_at e7 hi1 hD1
      replace hr1 := hr1.imp fun _ _ h => CallV.frI e7 hi1 h
      replace hc1 := frI_sqt e7 hi1 hc1
      replace hc2 := frI_rq e7 hi1 hc2
      replace hc3 := frI_osp e7 hi1 hc3
      clear e7 hi1 g1
      refine cutG (fun σ' G => σ' = [some (.ref sa), some (.ref s), some (.ref tw), some (.ref pr), some (.ref bf), some (.ref bv), some (.ref du), some vo, some xsp, some (.ref o1), some (.ref o2), some xr, some (.ref ca), some vl, some (.ref xm), some (.ref xb), none] ∧ Fr o2 G7 G ∧ SgA K C o2 G (strS r t (nowT st t) os)) ?_ ?_
      rotate_left
      · intro u' key
        obtain ⟨dx, sx, ho2, Gs⟩ := id g2
        obtain ⟨no1, no2, no3, no4, no5, no6⟩ := sgf_no sx
        refine ⟨_, rfl, o2, dx, _, rfl, ho2, no1, _, rfl, ca, _, _, _, rfl, rfl, hc1, at0 rfl, _, rfl, ca, _, _, _, rfl, rfl, hc1, at1 rfl, o2, _, _, r, t, nowT st t, os, rfl, g2, hc2, hc3, zt7, y1.mono (by decide), y2.mono (by decide), y3.mono (by decide), y4, y5, fun c => ⟨stok, fun G3 e3 g' => ?_⟩, fun c => absurd c tn⟩
        exact key _ _ ⟨rfl, e3, g'⟩
      rintro σ G8 ⟨rfl, e8, g2'⟩
      have hi2 := g2.ins
      replace g1' := g1'.frI e8 n12.symm hi2
      replace B := B.frI e8 hi2
      replace hm := frI_rq e8 hi2 hm
      replace hxb := frI_rq e8 hi2 hxb
      replace hD1 := frI_at e8 hi2 hD1
      replace hr1 := hr1.imp fun _ _ h => CallV.frI e8 hi2 h
      replace hc1 := frI_sqt e8 hi2 hc1
      replace hc2 := frI_rq e8 hi2 hc2
      clear e8 hi2 g2 hc3
      refine cutG (fun σ' G => σ' = [some (.ref sa), some (.ref s), some (.ref tw), some (.ref pr), some (.ref bf), some (.ref bv), some (.ref du), some vo, some xsp, some (.ref o1), some (.ref o2), some xr, some (.ref ca), some vl, some (.ref xm), some (.ref xb), none] ∧ Same G8 G) ?_ ?_
      rotate_left
      · intro u' key
        obtain ⟨dx, sx, ho1, Gs⟩ := id g1'
        obtain ⟨no1, no2, no3, no4, no5, no6⟩ := sgf_no sx
        have i0 : atI [cr, cs] 0 = some cr := rfl
        have ra' : (strS r t (nowT st t) os).la = t := by rw [A'.R.la, trn_ra]
        obtain ⟨u1, u2, u3, u4, u5⟩ := A'.zs ok (by omega)
        (walk_at "vk_vc")
        · refine .inr (.inl ⟨rfl, by rw [ra']; exact gc, zm.mono (by decide), u1.mono (by decide), u2.mono (by decide), u3.mono (by decide), u4.mono (by decide), u5.mono (by decide), ?_⟩)
          intro t' D' H' e ht hd
          have hd : H' D' = some (.lst [.str "TurnsBack"]) := hd
          have g1n := g1'.same e
          have hmn := Rq.same e hm
          have hxbn := Rq.same e hxb
          have t3 : Tree 3 (PyData.list [PyData.str "TurnsBack"]) := .lst (by show 1 ≤ _; decide) fun d hd => by rw [List.mem_singleton.mp hd]; exact .str (by decide +kernel)
          have cz' := A'.R.cz
          have okc' := A'.R.ok
          have ln' : (strS r t (nowT st t) os).c.length ≤ 900 := by have := A'.len; omega
          have enow : nowf (strS r t (nowT st t) os).c mid = some (nowT st mid) := by rw [hold mid gc]; exact A.R.now mid le1
          clear hold ho1 Gs
          obtain ⟨dx2, sx2, ho2, Gs2⟩ := id g1n
          obtain ⟨mo1, mo2, mo3, mo4, mo5, mo6⟩ := sgf_no sx2
          (walk_at "vk_vc")
          · intro q a' H9 eq e9 h9
            rw [enow] at eq
            cases eq
            (walk_at "vk_vc")
            all_goals exact key _ _ ⟨rfl, by focus exact (by (walk_at "vk_same"))⟩
          · intro c; rw [enow] at c; cases c
        · dsimp only [tNext]
          exact key _ _ ⟨rfl, by focus exact (by (walk_at "vk_same"))⟩
      rintro σ G9 ⟨rfl, e9⟩
      refine ⟨_, rfl, ca, _, _, _, rfl, rfl, e9.sqt hc1, at0 rfl, ?_⟩
      exact ⟨⟨_, _, _, cr, _, _, _, _, rfl, A', g1'.same e9, g2'.same e9, B.same e9, by rw [trn_ra]; exact hc2.same e9, by rw [trn_ra, elast], e9 _ _ hD1, hr1.imp fun _ _ h => CallV.same e9 h⟩⟩
    · rintro σ G ⟨r, st, xsp, xr, k12, k13, k14, k15, rfl, A, g1, g2, B, hxr, _, _, _⟩
      exact key _ _ ⟨us.length, r, st, xsp, xr, k12, k13, k14, k15, rfl, by rw [hrows.1]; omega, A, g1, g2, B, hxr⟩
  rintro σ H13 ⟨n, r, st, xsp, xr, k12, k13, k14, k15, rfl, hn, A, g1, g2, B, hxr⟩
  have ln : r.c.length ≤ 900 := by have := A.len; omega
  refine cutG (fun σ' G => ∃ (vl : V), σ' = [some (.ref sa), some (.ref s), some (.ref tw), some (.ref pr), some (.ref bf), some (.ref bv), some (.ref du), some vo, some xsp, some (.ref o1), some (.ref o2), some xr, k12, some vl, k14, k15, none] ∧ Same H13 G ∧ Dp K G vl (lookD r x.r st.ra)) ?_ ?_
  rotate_left
  · intro u' key
    exact ⟨_, rfl, _, rfl, _, rfl, o2, _, _, x, n, r, st, rfl, g2, B.hf, hxr, A, ok, by omega, fun v H' e h => key _ _ ⟨v, rfl, e, h⟩⟩
  rintro σ G2 ⟨vl, rfl, e2, hvl⟩
  replace g1 := g1.same e2
  replace B := B.same e2
  replace hxr := hxr.same e2
  clear e2 g2
  refine cutG (fun σ' G => σ' = [some (.ref sa), some (.ref s), some (.ref tw), some (.ref pr), some (.ref bf), some (.ref bv), some (.ref du), some vo, some xsp, some (.ref o1), some (.ref o2), some xr, k12, some vl, k14, k15, none] ∧ Sto l s G ∧ Fr s G2 G) ?_ ?_
  rotate_left
  · intro u' key
    refine ⟨_, rfl, _, rfl, _, rfl, _, rfl, l, s, o1, _, _, x, n, r, st, rfl, B.S, g1, B.hf, hxr, A, ok, by omega, fun G3 S3 e3 => ?_⟩
    have g13 := g1.frS B.S e3
    have B3 := B.fr e3 S3
    have hx3 := hxr.fr e3 B.S.some
    have dl3 := dp_frS B.S e3 _ _ (nl_look _ _ _) hvl
    refine ⟨_, rfl, _, rfl, _, rfl, _, rfl, o1, _, _, x, n, r, st, rfl, g13, B3.hf, hx3, A, ok, by omega, fun v2 G4 e4 d2 => ?_⟩
    refine ⟨_, rfl, _, _, _, rfl, d2, dp_same e4 _ _ dl3, tree_look ln, ?_⟩
    (walk_at "vk_vc")
    all_goals exact key _ _ ⟨rfl, S3.same e4, e3.trans (Fr.of e4)⟩
  rintro σ G3 ⟨rfl, S3, e3⟩
  replace B := B.fr e3 S3
  clear e3 S3 hvl hxr g1
  obtain ⟨xd', hp⟩ := B.hp
  obtain ⟨y, hy⟩ : ∃ y : Ag, y = ⟨x.r, x.s, 0, x.l, 0, none⟩ := ⟨_, rfl⟩
  have yr : y.r = x.r := by rw [hy]
  have ys : y.s = x.s := by rw [hy]
  have ye : y.e = 0 := by rw [hy]
  have yl : y.l = x.l := by rw [hy]
  have yd : y.d = 0 := by rw [hy]
  have yo : y.ov = none := by rw [hy]
  have oky : AgOk y := by
    subst hy
    exact ⟨ok.zr, ok.zs, (show Sz 5 (0 : Rat) by decide +kernel), ok.zl, (show Sz 24 (0 : Rat) by decide +kernel), nofun, Rat.le_refl, ok.l0, ok.l1, Rat.le_refl, ok.l0, nofun⟩
  refine cutG (fun σ' G => ∃ (o3 : Addr), σ' = [some (.ref sa), some (.ref s), some (.ref tw), some (.ref pr), some (.ref bf), some (.ref bv), some (.ref du), some vo, some xsp, some (.ref o1), some (.ref o2), some xr, k12, some vl, k14, k15, some (.ref o3)] ∧ Same G3 G ∧ SgA K C o3 G (sr0 y)) ?_ ?_
  rotate_left
  · intro u' key
    have hl := B.hl
    have hf := B.hf
    have hv := B.hv
    have j0 : atI [xl, xd'] 0 = some xl := rfl
    (walk_at "vk_vc")
    intro o dx no ndx ne
    rename_i p1 np1
    exact init_ag oky (by rw [yr]; (walk_at "vk_cl")) (by rw [ys]; (walk_at "vk_cl")) (by rw [ye]; (walk_at "vk_cl")) (by rw [yl]; (walk_at "vk_cl")) (by rw [yd]; exact hDR _) (by rw [yo]; rfl) no ndx ne fun H' e' g' => ⟨rfl, key _ _ ⟨o, rfl, by focus exact (by (walk_at "vk_same")), g'⟩⟩
  rintro σ G4 ⟨o3, rfl, e4, g3⟩
  have hf := B.hf.same e4
  have hv := B.hv.same e4
  clear e4 B hp A
  obtain ⟨dx, sx, ho3, Gs⟩ := id g3
  obtain ⟨no1, no2, no3, no4, no5, no6⟩ := sgf_no sx
  have ln1 : (sr0 y).c.length ≤ 900 := by show 1 ≤ 900; decide
  have e0 : errS (sr0 y) x.r = 0 := by
    rw [err_ls0 (by rw [yr]; exact Rat.le_refl) oky.l0]
    show y.e + y.d * (x.r - y.r) = 0
    rw [ye, yd]
    grind
  have w1 : Sz 700 x.r := ok.zr.mono (by decide)
  have w2 : Sz 700 (sr0 y).la := by show Sz 700 y.r; rw [yr]; exact w1
  have w3 : Sz 700 (sr0 y).bd := by show Sz 700 y.e; rw [ye]; decide +kernel
  have w4 : Sz 700 (sr0 y).hf := by show Sz 700 y.e; rw [ye]; decide +kernel
  have w5 : Sz 700 (sr0 y).sl := by show Sz 700 y.l; rw [yl]; exact ok.zl.mono (by decide)
  have w6 : Sz 700 (sr0 y).dr := by show Sz 700 y.d; rw [yd]; decide +kernel
  (walk_at "vk_vc")
  intro Bn un Ha ea nB hC
  have hd1 : Dp K Ha (.ref Bn) (.list [.tuple [dq x.r, dq x.s, dq 1]]) := by rw [← yr, ← ys]; exact Cq.dd hC.cq
  have tt : Tree 4 (.list [.tuple [dq x.r, dq x.s, dq 1]]) := tree_c (c := [⟨x.r, x.s, 1⟩]) 1 (by show 1 ≤ 900; decide)
  replace g3 := g3.same ea
  replace hf := hf.same ea
  replace hv := hv.same ea
  clear ho3 Gs
  obtain ⟨dx3, sx3, ho4, Gs4⟩ := id g3
  obtain ⟨mo1, mo2, mo3, mo4, mo5, mo6⟩ := sgf_no sx3
  (walk_at "vk_vc")
  · exact dp_same (by focus exact (by (walk_at "vk_same"))) _ _ hd1
  · intro _ v' H' e h
    rw [e0] at h
    (walk_at "vk_vc")
    all_goals exact z _
  · intro c
    exact absurd c (by show ¬ x.r < y.r; rw [yr]; exact Rat.lt_irrefl)
end Vk

namespace Vk
open PySem L2 Vm Vl
variable {K : PySem.W.Frag} {mg : Str → Option Value} {P : Program} {w : World} {base : Heap}
theorem DefP.up {j k : Nat} {x : Str} {ps : List Str} {sp : Addr × Obj → Sp} {f : Addr} {fd : FuncData} (d : DefP P w K mg base j x ps sp f fd) (h : j ≤ k) : DefP P w K mg base k x ps sp f fd := ⟨⟨d.ok.many, fun A outer s H args us vs Q E p a1 a2 a3 a4 a5 a6 z => d.ok.go A outer s H args us vs Q E p (a1.mono h) a2 a3 a4 a5 a6 z⟩, d.m, d.kp, d.b⟩
abbrev CnZERO (K : PySem.W.Frag) (mg : Str → Option Value) (a : Addr) := Cn K mg "ZERO" 0 a
theorem cnZERO {a : Addr} (m : mg "ZERO" = some (.ref a)) (h : ∀ H, SqT K H a [.int 0, .int 1]) : CnZERO K mg a := ⟨m, fun H => ⟨a, rfl, by rw [show (0 : Rat).num = 0 by decide +kernel, show ((0 : Rat).den : Int) = 1 by decide +kernel]; exact h H⟩⟩
abbrev CnONE (K : PySem.W.Frag) (mg : Str → Option Value) (a : Addr) := Cn K mg "ONE" 1 a
theorem cnONE {a : Addr} (m : mg "ONE" = some (.ref a)) (h : ∀ H, SqT K H a [.int 1, .int 1]) : CnONE K mg a := ⟨m, fun H => ⟨a, rfl, by rw [show (1 : Rat).num = 1 by decide +kernel, show ((1 : Rat).den : Int) = 1 by decide +kernel]; exact h H⟩⟩
abbrev CnHALF (K : PySem.W.Frag) (mg : Str → Option Value) (a : Addr) := Cn K mg "HALF" (1 / 2) a
theorem cnHALF {a : Addr} (m : mg "HALF" = some (.ref a)) (h : ∀ H, SqT K H a [.int 1, .int 2]) : CnHALF K mg a := ⟨m, fun H => ⟨a, rfl, by rw [show ((1 / 2 : Rat)).num = 1 by decide +kernel, show (((1 / 2 : Rat)).den : Int) = 2 by decide +kernel]; exact h H⟩⟩
theorem rq_raw0 {H : Hp} {a : Addr} (h : SqT K H a [.int 0, .int 1]) : Rq K H (.ref a) 0 := ⟨a, rfl, by rw [show (0 : Rat).num = 0 by decide +kernel, show ((0 : Rat).den : Int) = 1 by decide +kernel]; exact h⟩
theorem kit_self {C : Addr} : PySem.W.kitOne K (.ref C) (.ref C) = some true := by
  unfold PySem.W.kitOne
  rw [if_pos (beq_self_eq_true _)]
theorem kit_ty2 {C : Addr} {T : String} (m : PySem.W.kitMeta T = true) (h : PySem.W.subIn K (.ref C) (.type T) = some true) : PySem.W.kitOne K (.ref C) (.type T) = some true := by
  have e : (Value.ref C == Value.type T) = false := beq_false_of_ne nofun
  unfold PySem.W.kitOne PySem.W.kitCls
  rw [e, if_neg Bool.false_ne_true]
  dsimp only
  rw [if_pos m]
  exact h
end Vk

namespace Vk
open PySem PySem.Calls PySem.HandSPX L2 Vm Vl

theorem law_ok {P : Program} {w : World} {K : PySem.W.Frag} {mg : Str → Option Value} {base : Heap} {f_rational : Addr} {fd_rational : FuncData} {f_add : Addr} {fd_add : FuncData} {f_subtract : Addr} {fd_subtract : FuncData} {f_multiply : Addr} {fd_multiply : FuncData} {f_negate : Addr} {fd_negate : FuncData} {f_divide : Addr} {fd_divide : FuncData} {f_distance : Addr} {fd_distance : FuncData} {f_compare : Addr} {fd_compare : FuncData} {f_smaller : Addr} {fd_smaller : FuncData} {f_larger : Addr} {fd_larger : FuncData} {f__shown_by : Addr} {fd__shown_by : FuncData} {f__place_at : Addr} {fd__place_at : FuncData} {f__piece_at : Addr} {fd__piece_at : FuncData} {f_shown_at : Addr} {fd_shown_at : FuncData} {f__jump_at : Addr} {fd__jump_at : FuncData} {f_tidy : Addr} {fd_tidy : FuncData} {f_width_of : Addr} {fd_width_of : FuncData} {f_middle_of : Addr} {fd_middle_of : FuncData} {f_far_end : Addr} {fd_far_end : FuncData} {f__higher_low : Addr} {fd__higher_low : FuncData} {f__lower_high : Addr} {fd__lower_high : FuncData} {f_meet : Addr} {fd_meet : FuncData} {f_require_not_below_zero : Addr} {fd_require_not_below_zero : FuncData} {f__require_slew_and_drift : Addr} {fd__require_slew_and_drift : FuncData} {f__bound_behind : Addr} {fd__bound_behind : FuncData} {f__planned : Addr} {fd__planned : FuncData} {f__law_store : Addr} {fd__law_store : FuncData} {f__law_feed : Addr} {fd__law_feed : FuncData} {f__law_mixed : Addr} {fd__law_mixed : FuncData} {f__law_take : Addr} {fd__law_take : FuncData} {f__law_pick : Addr} {fd__law_pick : FuncData} {f__law_size : Addr} {fd__law_size : FuncData} {f__law_shuffled : Addr} {fd__law_shuffled : FuncData} {f__law_is_int : Addr} {fd__law_is_int : FuncData} {f__law_same : Addr} {fd__law_same : FuncData} {f__law_frac : Addr} {fd__law_frac : FuncData} {f__law_plus : Addr} {fd__law_plus : FuncData} {f__law_minus : Addr} {fd__law_minus : FuncData} {f__law_times : Addr} {fd__law_times : FuncData} {f__law_below : Addr} {fd__law_below : FuncData} {f__law_is_frac : Addr} {fd__law_is_frac : FuncData} {f__law_part : Addr} {fd__law_part : FuncData} {f__law_spare : Addr} {fd__law_spare : FuncData} {f__law_above : Addr} {fd__law_above : FuncData} {f__law_slews : Addr} {fd__law_slews : FuncData} {f__law_over_step : Addr} {fd__law_over_step : FuncData} {f__law_steers : Addr} {fd__law_steers : FuncData} {f__law_negative : Addr} {fd__law_negative : FuncData} {f__law_bad_slew : Addr} {fd__law_bad_slew : FuncData} {f__law_bad_drift : Addr} {fd__law_bad_drift : FuncData} {f__law_bad_steering : Addr} {fd__law_bad_steering : FuncData} {f__law_alone : Addr} {fd__law_alone : FuncData} {f__law_classes : Addr} {fd__law_classes : FuncData} {f__law_not_made : Addr} {fd__law_not_made : FuncData} {f__law_refused : Addr} {fd__law_refused : FuncData} {f__law_look : Addr} {fd__law_look : FuncData} {f__law_bad_calls : Addr} {fd__law_bad_calls : FuncData} {f_law : Addr} {fd_law : FuncData} (T : Bn mg) {aZERO : Addr} (ZZERO : CnZERO K mg aZERO) {aONE : Addr} (ZONE : CnONE K mg aONE) {aHALF : Addr} (ZHALF : CnHALF K mg aHALF)
    (h_rational : FunA K "rational" "rational" s_rational f_rational fd_rational) (m_rational : mg "rational" = some (.ref f_rational)) (b_rational : Binds K fd_rational ps_rational [])
    {C_BeforeStart fi_BeforeStart : Addr}
    {C_TurnsBack fi_TurnsBack : Addr}
    {C_BadRate fi_BadRate : Addr}
    {C_BadBound fi_BadBound : Addr}
    {C_ZeroDivisor : Addr}
    {C_BadNumber : Addr}
    {C_EmptySpan : Addr}
    {C_BadName : Addr}
    {C_DuplicateName : Addr}
    {C_UnknownName : Addr}
    {C_BadLink : Addr}
    {C_UnknownLink : Addr}
    {C_BadNote : Addr}
    {C_UnknownMoment : Addr}
    {C_NoWorld : Addr}
    {C_OutsideSpan : Addr}
    {C_TooManyLiars : Addr}
    {C_RootFollows : Addr}
    {C_Condemned : Addr}
    {C_BadDate : Addr}
    {C_BadLeap : Addr}
    {C_BadLabel : Addr}
    {C_NoSuchSecond : Addr}
    {C_BadCells : Addr}
    {C_RefusedEntry : Addr}
    {C_DuplicateTag : Addr}
    {C_UnknownTag : Addr}
    {C_BadLine : Addr}
    {C_NothingToUndo : Addr}
    {C_NothingToRedo : Addr}
    {C_VerdictError : Addr}
    (TBeforeStart : PySem.ValX.ValTxt K mg "BeforeStart" C_BeforeStart fi_BeforeStart)
    (TTurnsBack : PySem.ValX.ValTxt K mg "TurnsBack" C_TurnsBack fi_TurnsBack)
    (TBadRate : PySem.ValX.ValTxt K mg "BadRate" C_BadRate fi_BadRate)
    (TBadBound : PySem.ValX.ValTxt K mg "BadBound" C_BadBound fi_BadBound)
    (EBeforeStart : ExcC K C_BeforeStart)
    (ETurnsBack : ExcC K C_TurnsBack)
    (EBadRate : ExcC K C_BadRate)
    (EBadBound : ExcC K C_BadBound)
    (GZeroDivisor : mg "ZeroDivisor" = some (.ref C_ZeroDivisor))
    (GBadNumber : mg "BadNumber" = some (.ref C_BadNumber))
    (GEmptySpan : mg "EmptySpan" = some (.ref C_EmptySpan))
    (GBadName : mg "BadName" = some (.ref C_BadName))
    (GDuplicateName : mg "DuplicateName" = some (.ref C_DuplicateName))
    (GUnknownName : mg "UnknownName" = some (.ref C_UnknownName))
    (GBadLink : mg "BadLink" = some (.ref C_BadLink))
    (GUnknownLink : mg "UnknownLink" = some (.ref C_UnknownLink))
    (GBadNote : mg "BadNote" = some (.ref C_BadNote))
    (GUnknownMoment : mg "UnknownMoment" = some (.ref C_UnknownMoment))
    (GNoWorld : mg "NoWorld" = some (.ref C_NoWorld))
    (GOutsideSpan : mg "OutsideSpan" = some (.ref C_OutsideSpan))
    (GTooManyLiars : mg "TooManyLiars" = some (.ref C_TooManyLiars))
    (GRootFollows : mg "RootFollows" = some (.ref C_RootFollows))
    (GCondemned : mg "Condemned" = some (.ref C_Condemned))
    (GBadDate : mg "BadDate" = some (.ref C_BadDate))
    (GBadLeap : mg "BadLeap" = some (.ref C_BadLeap))
    (GBadLabel : mg "BadLabel" = some (.ref C_BadLabel))
    (GNoSuchSecond : mg "NoSuchSecond" = some (.ref C_NoSuchSecond))
    (GBadCells : mg "BadCells" = some (.ref C_BadCells))
    (GRefusedEntry : mg "RefusedEntry" = some (.ref C_RefusedEntry))
    (GDuplicateTag : mg "DuplicateTag" = some (.ref C_DuplicateTag))
    (GUnknownTag : mg "UnknownTag" = some (.ref C_UnknownTag))
    (GBadLine : mg "BadLine" = some (.ref C_BadLine))
    (GNothingToUndo : mg "NothingToUndo" = some (.ref C_NothingToUndo))
    (GNothingToRedo : mg "NothingToRedo" = some (.ref C_NothingToRedo))
    (GVerdictError : mg "VerdictError" = some (.ref C_VerdictError))
    (Ik_BeforeStart_ZeroDivisor : PySem.W.kitOne K (.ref C_BeforeStart) (.ref C_ZeroDivisor) = some false)
    (Ik_BeforeStart_BadNumber : PySem.W.kitOne K (.ref C_BeforeStart) (.ref C_BadNumber) = some false)
    (Ik_BeforeStart_EmptySpan : PySem.W.kitOne K (.ref C_BeforeStart) (.ref C_EmptySpan) = some false)
    (Ik_BeforeStart_BeforeStart : PySem.W.kitOne K (.ref C_BeforeStart) (.ref C_BeforeStart) = some true)
    (Ik_BeforeStart_TurnsBack : PySem.W.kitOne K (.ref C_BeforeStart) (.ref C_TurnsBack) = some false)
    (Ik_BeforeStart_BadRate : PySem.W.kitOne K (.ref C_BeforeStart) (.ref C_BadRate) = some false)
    (Ik_BeforeStart_BadBound : PySem.W.kitOne K (.ref C_BeforeStart) (.ref C_BadBound) = some false)
    (Ik_BeforeStart_BadName : PySem.W.kitOne K (.ref C_BeforeStart) (.ref C_BadName) = some false)
    (Ik_BeforeStart_DuplicateName : PySem.W.kitOne K (.ref C_BeforeStart) (.ref C_DuplicateName) = some false)
    (Ik_BeforeStart_UnknownName : PySem.W.kitOne K (.ref C_BeforeStart) (.ref C_UnknownName) = some false)
    (Ik_BeforeStart_BadLink : PySem.W.kitOne K (.ref C_BeforeStart) (.ref C_BadLink) = some false)
    (Ik_BeforeStart_UnknownLink : PySem.W.kitOne K (.ref C_BeforeStart) (.ref C_UnknownLink) = some false)
    (Ik_BeforeStart_BadNote : PySem.W.kitOne K (.ref C_BeforeStart) (.ref C_BadNote) = some false)
    (Ik_BeforeStart_UnknownMoment : PySem.W.kitOne K (.ref C_BeforeStart) (.ref C_UnknownMoment) = some false)
    (Ik_BeforeStart_NoWorld : PySem.W.kitOne K (.ref C_BeforeStart) (.ref C_NoWorld) = some false)
    (Ik_BeforeStart_OutsideSpan : PySem.W.kitOne K (.ref C_BeforeStart) (.ref C_OutsideSpan) = some false)
    (Ik_BeforeStart_TooManyLiars : PySem.W.kitOne K (.ref C_BeforeStart) (.ref C_TooManyLiars) = some false)
    (Ik_BeforeStart_RootFollows : PySem.W.kitOne K (.ref C_BeforeStart) (.ref C_RootFollows) = some false)
    (Ik_BeforeStart_Condemned : PySem.W.kitOne K (.ref C_BeforeStart) (.ref C_Condemned) = some false)
    (Ik_BeforeStart_BadDate : PySem.W.kitOne K (.ref C_BeforeStart) (.ref C_BadDate) = some false)
    (Ik_BeforeStart_BadLeap : PySem.W.kitOne K (.ref C_BeforeStart) (.ref C_BadLeap) = some false)
    (Ik_BeforeStart_BadLabel : PySem.W.kitOne K (.ref C_BeforeStart) (.ref C_BadLabel) = some false)
    (Ik_BeforeStart_NoSuchSecond : PySem.W.kitOne K (.ref C_BeforeStart) (.ref C_NoSuchSecond) = some false)
    (Ik_BeforeStart_BadCells : PySem.W.kitOne K (.ref C_BeforeStart) (.ref C_BadCells) = some false)
    (Ik_BeforeStart_RefusedEntry : PySem.W.kitOne K (.ref C_BeforeStart) (.ref C_RefusedEntry) = some false)
    (Ik_BeforeStart_DuplicateTag : PySem.W.kitOne K (.ref C_BeforeStart) (.ref C_DuplicateTag) = some false)
    (Ik_BeforeStart_UnknownTag : PySem.W.kitOne K (.ref C_BeforeStart) (.ref C_UnknownTag) = some false)
    (Ik_BeforeStart_BadLine : PySem.W.kitOne K (.ref C_BeforeStart) (.ref C_BadLine) = some false)
    (Ik_BeforeStart_NothingToUndo : PySem.W.kitOne K (.ref C_BeforeStart) (.ref C_NothingToUndo) = some false)
    (Ik_BeforeStart_NothingToRedo : PySem.W.kitOne K (.ref C_BeforeStart) (.ref C_NothingToRedo) = some false)
    (Ik_TurnsBack_ZeroDivisor : PySem.W.kitOne K (.ref C_TurnsBack) (.ref C_ZeroDivisor) = some false)
    (Ik_TurnsBack_BadNumber : PySem.W.kitOne K (.ref C_TurnsBack) (.ref C_BadNumber) = some false)
    (Ik_TurnsBack_EmptySpan : PySem.W.kitOne K (.ref C_TurnsBack) (.ref C_EmptySpan) = some false)
    (Ik_TurnsBack_BeforeStart : PySem.W.kitOne K (.ref C_TurnsBack) (.ref C_BeforeStart) = some false)
    (Ik_TurnsBack_TurnsBack : PySem.W.kitOne K (.ref C_TurnsBack) (.ref C_TurnsBack) = some true)
    (Ik_TurnsBack_BadRate : PySem.W.kitOne K (.ref C_TurnsBack) (.ref C_BadRate) = some false)
    (Ik_TurnsBack_BadBound : PySem.W.kitOne K (.ref C_TurnsBack) (.ref C_BadBound) = some false)
    (Ik_TurnsBack_BadName : PySem.W.kitOne K (.ref C_TurnsBack) (.ref C_BadName) = some false)
    (Ik_TurnsBack_DuplicateName : PySem.W.kitOne K (.ref C_TurnsBack) (.ref C_DuplicateName) = some false)
    (Ik_TurnsBack_UnknownName : PySem.W.kitOne K (.ref C_TurnsBack) (.ref C_UnknownName) = some false)
    (Ik_TurnsBack_BadLink : PySem.W.kitOne K (.ref C_TurnsBack) (.ref C_BadLink) = some false)
    (Ik_TurnsBack_UnknownLink : PySem.W.kitOne K (.ref C_TurnsBack) (.ref C_UnknownLink) = some false)
    (Ik_TurnsBack_BadNote : PySem.W.kitOne K (.ref C_TurnsBack) (.ref C_BadNote) = some false)
    (Ik_TurnsBack_UnknownMoment : PySem.W.kitOne K (.ref C_TurnsBack) (.ref C_UnknownMoment) = some false)
    (Ik_TurnsBack_NoWorld : PySem.W.kitOne K (.ref C_TurnsBack) (.ref C_NoWorld) = some false)
    (Ik_TurnsBack_OutsideSpan : PySem.W.kitOne K (.ref C_TurnsBack) (.ref C_OutsideSpan) = some false)
    (Ik_TurnsBack_TooManyLiars : PySem.W.kitOne K (.ref C_TurnsBack) (.ref C_TooManyLiars) = some false)
    (Ik_TurnsBack_RootFollows : PySem.W.kitOne K (.ref C_TurnsBack) (.ref C_RootFollows) = some false)
    (Ik_TurnsBack_Condemned : PySem.W.kitOne K (.ref C_TurnsBack) (.ref C_Condemned) = some false)
    (Ik_TurnsBack_BadDate : PySem.W.kitOne K (.ref C_TurnsBack) (.ref C_BadDate) = some false)
    (Ik_TurnsBack_BadLeap : PySem.W.kitOne K (.ref C_TurnsBack) (.ref C_BadLeap) = some false)
    (Ik_TurnsBack_BadLabel : PySem.W.kitOne K (.ref C_TurnsBack) (.ref C_BadLabel) = some false)
    (Ik_TurnsBack_NoSuchSecond : PySem.W.kitOne K (.ref C_TurnsBack) (.ref C_NoSuchSecond) = some false)
    (Ik_TurnsBack_BadCells : PySem.W.kitOne K (.ref C_TurnsBack) (.ref C_BadCells) = some false)
    (Ik_TurnsBack_RefusedEntry : PySem.W.kitOne K (.ref C_TurnsBack) (.ref C_RefusedEntry) = some false)
    (Ik_TurnsBack_DuplicateTag : PySem.W.kitOne K (.ref C_TurnsBack) (.ref C_DuplicateTag) = some false)
    (Ik_TurnsBack_UnknownTag : PySem.W.kitOne K (.ref C_TurnsBack) (.ref C_UnknownTag) = some false)
    (Ik_TurnsBack_BadLine : PySem.W.kitOne K (.ref C_TurnsBack) (.ref C_BadLine) = some false)
    (Ik_TurnsBack_NothingToUndo : PySem.W.kitOne K (.ref C_TurnsBack) (.ref C_NothingToUndo) = some false)
    (Ik_TurnsBack_NothingToRedo : PySem.W.kitOne K (.ref C_TurnsBack) (.ref C_NothingToRedo) = some false)
    (Ik_BadRate_ZeroDivisor : PySem.W.kitOne K (.ref C_BadRate) (.ref C_ZeroDivisor) = some false)
    (Ik_BadRate_BadNumber : PySem.W.kitOne K (.ref C_BadRate) (.ref C_BadNumber) = some false)
    (Ik_BadRate_EmptySpan : PySem.W.kitOne K (.ref C_BadRate) (.ref C_EmptySpan) = some false)
    (Ik_BadRate_BeforeStart : PySem.W.kitOne K (.ref C_BadRate) (.ref C_BeforeStart) = some false)
    (Ik_BadRate_TurnsBack : PySem.W.kitOne K (.ref C_BadRate) (.ref C_TurnsBack) = some false)
    (Ik_BadRate_BadRate : PySem.W.kitOne K (.ref C_BadRate) (.ref C_BadRate) = some true)
    (Ik_BadRate_BadBound : PySem.W.kitOne K (.ref C_BadRate) (.ref C_BadBound) = some false)
    (Ik_BadRate_BadName : PySem.W.kitOne K (.ref C_BadRate) (.ref C_BadName) = some false)
    (Ik_BadRate_DuplicateName : PySem.W.kitOne K (.ref C_BadRate) (.ref C_DuplicateName) = some false)
    (Ik_BadRate_UnknownName : PySem.W.kitOne K (.ref C_BadRate) (.ref C_UnknownName) = some false)
    (Ik_BadRate_BadLink : PySem.W.kitOne K (.ref C_BadRate) (.ref C_BadLink) = some false)
    (Ik_BadRate_UnknownLink : PySem.W.kitOne K (.ref C_BadRate) (.ref C_UnknownLink) = some false)
    (Ik_BadRate_BadNote : PySem.W.kitOne K (.ref C_BadRate) (.ref C_BadNote) = some false)
    (Ik_BadRate_UnknownMoment : PySem.W.kitOne K (.ref C_BadRate) (.ref C_UnknownMoment) = some false)
    (Ik_BadRate_NoWorld : PySem.W.kitOne K (.ref C_BadRate) (.ref C_NoWorld) = some false)
    (Ik_BadRate_OutsideSpan : PySem.W.kitOne K (.ref C_BadRate) (.ref C_OutsideSpan) = some false)
    (Ik_BadRate_TooManyLiars : PySem.W.kitOne K (.ref C_BadRate) (.ref C_TooManyLiars) = some false)
    (Ik_BadRate_RootFollows : PySem.W.kitOne K (.ref C_BadRate) (.ref C_RootFollows) = some false)
    (Ik_BadRate_Condemned : PySem.W.kitOne K (.ref C_BadRate) (.ref C_Condemned) = some false)
    (Ik_BadRate_BadDate : PySem.W.kitOne K (.ref C_BadRate) (.ref C_BadDate) = some false)
    (Ik_BadRate_BadLeap : PySem.W.kitOne K (.ref C_BadRate) (.ref C_BadLeap) = some false)
    (Ik_BadRate_BadLabel : PySem.W.kitOne K (.ref C_BadRate) (.ref C_BadLabel) = some false)
    (Ik_BadRate_NoSuchSecond : PySem.W.kitOne K (.ref C_BadRate) (.ref C_NoSuchSecond) = some false)
    (Ik_BadRate_BadCells : PySem.W.kitOne K (.ref C_BadRate) (.ref C_BadCells) = some false)
    (Ik_BadRate_RefusedEntry : PySem.W.kitOne K (.ref C_BadRate) (.ref C_RefusedEntry) = some false)
    (Ik_BadRate_DuplicateTag : PySem.W.kitOne K (.ref C_BadRate) (.ref C_DuplicateTag) = some false)
    (Ik_BadRate_UnknownTag : PySem.W.kitOne K (.ref C_BadRate) (.ref C_UnknownTag) = some false)
    (Ik_BadRate_BadLine : PySem.W.kitOne K (.ref C_BadRate) (.ref C_BadLine) = some false)
    (Ik_BadRate_NothingToUndo : PySem.W.kitOne K (.ref C_BadRate) (.ref C_NothingToUndo) = some false)
    (Ik_BadRate_NothingToRedo : PySem.W.kitOne K (.ref C_BadRate) (.ref C_NothingToRedo) = some false)
    (Ik_BadBound_ZeroDivisor : PySem.W.kitOne K (.ref C_BadBound) (.ref C_ZeroDivisor) = some false)
    (Ik_BadBound_BadNumber : PySem.W.kitOne K (.ref C_BadBound) (.ref C_BadNumber) = some false)
    (Ik_BadBound_EmptySpan : PySem.W.kitOne K (.ref C_BadBound) (.ref C_EmptySpan) = some false)
    (Ik_BadBound_BeforeStart : PySem.W.kitOne K (.ref C_BadBound) (.ref C_BeforeStart) = some false)
    (Ik_BadBound_TurnsBack : PySem.W.kitOne K (.ref C_BadBound) (.ref C_TurnsBack) = some false)
    (Ik_BadBound_BadRate : PySem.W.kitOne K (.ref C_BadBound) (.ref C_BadRate) = some false)
    (Ik_BadBound_BadBound : PySem.W.kitOne K (.ref C_BadBound) (.ref C_BadBound) = some true)
    (Ik_BadBound_BadName : PySem.W.kitOne K (.ref C_BadBound) (.ref C_BadName) = some false)
    (Ik_BadBound_DuplicateName : PySem.W.kitOne K (.ref C_BadBound) (.ref C_DuplicateName) = some false)
    (Ik_BadBound_UnknownName : PySem.W.kitOne K (.ref C_BadBound) (.ref C_UnknownName) = some false)
    (Ik_BadBound_BadLink : PySem.W.kitOne K (.ref C_BadBound) (.ref C_BadLink) = some false)
    (Ik_BadBound_UnknownLink : PySem.W.kitOne K (.ref C_BadBound) (.ref C_UnknownLink) = some false)
    (Ik_BadBound_BadNote : PySem.W.kitOne K (.ref C_BadBound) (.ref C_BadNote) = some false)
    (Ik_BadBound_UnknownMoment : PySem.W.kitOne K (.ref C_BadBound) (.ref C_UnknownMoment) = some false)
    (Ik_BadBound_NoWorld : PySem.W.kitOne K (.ref C_BadBound) (.ref C_NoWorld) = some false)
    (Ik_BadBound_OutsideSpan : PySem.W.kitOne K (.ref C_BadBound) (.ref C_OutsideSpan) = some false)
    (Ik_BadBound_TooManyLiars : PySem.W.kitOne K (.ref C_BadBound) (.ref C_TooManyLiars) = some false)
    (Ik_BadBound_RootFollows : PySem.W.kitOne K (.ref C_BadBound) (.ref C_RootFollows) = some false)
    (Ik_BadBound_Condemned : PySem.W.kitOne K (.ref C_BadBound) (.ref C_Condemned) = some false)
    (Ik_BadBound_BadDate : PySem.W.kitOne K (.ref C_BadBound) (.ref C_BadDate) = some false)
    (Ik_BadBound_BadLeap : PySem.W.kitOne K (.ref C_BadBound) (.ref C_BadLeap) = some false)
    (Ik_BadBound_BadLabel : PySem.W.kitOne K (.ref C_BadBound) (.ref C_BadLabel) = some false)
    (Ik_BadBound_NoSuchSecond : PySem.W.kitOne K (.ref C_BadBound) (.ref C_NoSuchSecond) = some false)
    (Ik_BadBound_BadCells : PySem.W.kitOne K (.ref C_BadBound) (.ref C_BadCells) = some false)
    (Ik_BadBound_RefusedEntry : PySem.W.kitOne K (.ref C_BadBound) (.ref C_RefusedEntry) = some false)
    (Ik_BadBound_DuplicateTag : PySem.W.kitOne K (.ref C_BadBound) (.ref C_DuplicateTag) = some false)
    (Ik_BadBound_UnknownTag : PySem.W.kitOne K (.ref C_BadBound) (.ref C_UnknownTag) = some false)
    (Ik_BadBound_BadLine : PySem.W.kitOne K (.ref C_BadBound) (.ref C_BadLine) = some false)
    (Ik_BadBound_NothingToUndo : PySem.W.kitOne K (.ref C_BadBound) (.ref C_NothingToUndo) = some false)
    (Ik_BadBound_NothingToRedo : PySem.W.kitOne K (.ref C_BadBound) (.ref C_NothingToRedo) = some false)
    (Ik_BeforeStart_VerdictError : PySem.W.kitOne K (.ref C_BeforeStart) (.ref C_VerdictError) = some true)
    (Ik_TurnsBack_VerdictError : PySem.W.kitOne K (.ref C_TurnsBack) (.ref C_VerdictError) = some true)
    (Ik_BadRate_VerdictError : PySem.W.kitOne K (.ref C_BadRate) (.ref C_VerdictError) = some true)
    (Ik_BadBound_VerdictError : PySem.W.kitOne K (.ref C_BadBound) (.ref C_VerdictError) = some true)
    (Ie_BadRate_BadBound : PySem.W.exmOne K (.ref C_BadRate) (.ref C_BadBound) = some false)
    (Ie_BeforeStart_TurnsBack : PySem.W.exmOne K (.ref C_BeforeStart) (.ref C_TurnsBack) = some false)
    (h_add : Fn K mg "add" s_add ps_add f_add fd_add)
    (h_subtract : Fn K mg "subtract" s_subtract ps_subtract f_subtract fd_subtract)
    (h_multiply : Fn K mg "multiply" s_multiply ps_multiply f_multiply fd_multiply)
    (h_negate : Fn K mg "negate" s_negate ps_negate f_negate fd_negate)
    (h_divide : Fn K mg "divide" s_divide ps_divide f_divide fd_divide)
    (h_distance : Fn K mg "distance" s_distance ps_distance f_distance fd_distance)
    (h_compare : Fn K mg "compare" s_compare ps_compare f_compare fd_compare)
    (h_smaller : Fn K mg "smaller" s_smaller ps_smaller f_smaller fd_smaller)
    (h_larger : Fn K mg "larger" s_larger ps_larger f_larger fd_larger)
    (h__shown_by : Fn K mg "_shown_by" s__shown_by ps__shown_by f__shown_by fd__shown_by)
    (h__place_at : Fn K mg "_place_at" s__place_at ps__place_at f__place_at fd__place_at)
    (h__piece_at : Fn K mg "_piece_at" s__piece_at ps__piece_at f__piece_at fd__piece_at)
    (h_shown_at : Fn K mg "shown_at" s_shown_at ps_shown_at f_shown_at fd_shown_at)
    (h__jump_at : Fn K mg "_jump_at" s__jump_at ps__jump_at f__jump_at fd__jump_at)
    (h_tidy : Fn K mg "tidy" s_tidy ps_tidy f_tidy fd_tidy)
    (h_width_of : Fn K mg "width_of" s_width_of ps_width_of f_width_of fd_width_of)
    (h_middle_of : Fn K mg "middle_of" s_middle_of ps_middle_of f_middle_of fd_middle_of)
    (h_far_end : Fn K mg "far_end" s_far_end ps_far_end f_far_end fd_far_end)
    (h__higher_low : Fn K mg "_higher_low" s__higher_low ps__higher_low f__higher_low fd__higher_low)
    (h__lower_high : Fn K mg "_lower_high" s__lower_high ps__lower_high f__lower_high fd__lower_high)
    (h_meet : Fn K mg "meet" s_meet ps_meet f_meet fd_meet)
    (h_require_not_below_zero : Fn K mg "require_not_below_zero" s_require_not_below_zero ps_require_not_below_zero f_require_not_below_zero fd_require_not_below_zero)
    (h__require_slew_and_drift : Fn K mg "_require_slew_and_drift" s__require_slew_and_drift ps__require_slew_and_drift f__require_slew_and_drift fd__require_slew_and_drift)
    (h__bound_behind : Fn K mg "_bound_behind" s__bound_behind ps__bound_behind f__bound_behind fd__bound_behind)
    (h__planned : Fn K mg "_planned" s__planned ps__planned f__planned fd__planned)
    (h__law_store : Fn K mg "_law_store" s__law_store ps__law_store f__law_store fd__law_store)
    (h__law_feed : Fn K mg "_law_feed" s__law_feed ps__law_feed f__law_feed fd__law_feed)
    (h__law_mixed : Fn K mg "_law_mixed" s__law_mixed ps__law_mixed f__law_mixed fd__law_mixed)
    (h__law_take : Fn K mg "_law_take" s__law_take ps__law_take f__law_take fd__law_take)
    (h__law_pick : Fn K mg "_law_pick" s__law_pick ps__law_pick f__law_pick fd__law_pick)
    (h__law_size : Fn K mg "_law_size" s__law_size ps__law_size f__law_size fd__law_size)
    (h__law_shuffled : Fn K mg "_law_shuffled" s__law_shuffled ps__law_shuffled f__law_shuffled fd__law_shuffled)
    (h__law_is_int : Fn K mg "_law_is_int" s__law_is_int ps__law_is_int f__law_is_int fd__law_is_int)
    (h__law_same : Fn K mg "_law_same" s__law_same ps__law_same f__law_same fd__law_same)
    (h__law_frac : Fn K mg "_law_frac" s__law_frac ps__law_frac f__law_frac fd__law_frac)
    (h__law_plus : Fn K mg "_law_plus" s__law_plus ps__law_plus f__law_plus fd__law_plus)
    (h__law_minus : Fn K mg "_law_minus" s__law_minus ps__law_minus f__law_minus fd__law_minus)
    (h__law_times : Fn K mg "_law_times" s__law_times ps__law_times f__law_times fd__law_times)
    (h__law_below : Fn K mg "_law_below" s__law_below ps__law_below f__law_below fd__law_below)
    (h__law_is_frac : Fn K mg "_law_is_frac" s__law_is_frac ps__law_is_frac f__law_is_frac fd__law_is_frac)
    (h__law_part : Fn K mg "_law_part" s__law_part ps__law_part f__law_part fd__law_part)
    (h__law_spare : Fn K mg "_law_spare" s__law_spare ps__law_spare f__law_spare fd__law_spare)
    (h__law_above : Fn K mg "_law_above" s__law_above ps__law_above f__law_above fd__law_above)
    (h__law_slews : Fn K mg "_law_slews" s__law_slews ps__law_slews f__law_slews fd__law_slews)
    (h__law_over_step : Fn K mg "_law_over_step" s__law_over_step ps__law_over_step f__law_over_step fd__law_over_step)
    (h__law_steers : Fn K mg "_law_steers" s__law_steers ps__law_steers f__law_steers fd__law_steers)
    (h__law_negative : Fn K mg "_law_negative" s__law_negative ps__law_negative f__law_negative fd__law_negative)
    (h__law_bad_slew : Fn K mg "_law_bad_slew" s__law_bad_slew ps__law_bad_slew f__law_bad_slew fd__law_bad_slew)
    (h__law_bad_drift : Fn K mg "_law_bad_drift" s__law_bad_drift ps__law_bad_drift f__law_bad_drift fd__law_bad_drift)
    (h__law_bad_steering : Fn K mg "_law_bad_steering" s__law_bad_steering ps__law_bad_steering f__law_bad_steering fd__law_bad_steering)
    (h__law_alone : Fn K mg "_law_alone" s__law_alone ps__law_alone f__law_alone fd__law_alone)
    (h__law_classes : Fn K mg "_law_classes" s__law_classes ps__law_classes f__law_classes fd__law_classes)
    (h__law_not_made : Fn K mg "_law_not_made" s__law_not_made ps__law_not_made f__law_not_made fd__law_not_made)
    (h__law_refused : Fn K mg "_law_refused" s__law_refused ps__law_refused f__law_refused fd__law_refused)
    (h__law_look : Fn K mg "_law_look" s__law_look ps__law_look f__law_look fd__law_look)
    (h__law_bad_calls : Fn K mg "_law_bad_calls" s__law_bad_calls ps__law_bad_calls f__law_bad_calls fd__law_bad_calls)
    (h_law : Fn K mg "law" s_law ps_law f_law fd_law)
    (XV : mg "ValueError" = none) (XKBeforeStart : PySem.W.kitOne K (.ref C_BeforeStart) (.type "ValueError") = some true) (XKTurnsBack : PySem.W.kitOne K (.ref C_TurnsBack) (.type "ValueError") = some true) (XKBadRate : PySem.W.kitOne K (.ref C_BadRate) (.type "ValueError") = some true) (XKBadBound : PySem.W.kitOne K (.ref C_BadBound) (.type "ValueError") = some true)
    {C_Steering : Addr} (SSteering : Stg K C_Steering) (mSteering : mg "Steering" = some (.ref C_Steering))
    {f_Steering_init : Addr} {fd_Steering_init : FuncData}
    (h_Steering_init : Fun K "__init__" "Steering.__init__" s_Steering_init f_Steering_init fd_Steering_init) (kkSteering : Mk K C_Steering f_Steering_init)
    {aDR : Addr} (haDR : ∀ H, Rq K H (.ref aDR) 0)
    {mvslew : List Value} (kb_Steering_slew : KBn K fd_Steering_init ps_Steering_init 4 ["slew"] (fun us ws => us ++ ws ++ mvslew) (fun vs zs => vs ++ zs ++ [.ref aDR, .non]))
    (kb_Steering_slew_drift_step_over : KBn K fd_Steering_init ps_Steering_init 4 ["slew", "drift", "step_over"] (fun us ws => us ++ ws) (fun vs zs => vs ++ zs))
    {f_Steering_steer : Addr} {fd_Steering_steer : FuncData}
    (h_Steering_steer : FnM K C_Steering "steer" "Steering.steer" s_Steering_steer ps_Steering_steer f_Steering_steer fd_Steering_steer)
    {f_Steering_display : Addr} {fd_Steering_display : FuncData}
    (h_Steering_display : FnM K C_Steering "display" "Steering.display" s_Steering_display ps_Steering_display f_Steering_display fd_Steering_display)
    {f_Steering_error_at : Addr} {fd_Steering_error_at : FuncData}
    (h_Steering_error_at : FnM K C_Steering "error_at" "Steering.error_at" s_Steering_error_at ps_Steering_error_at f_Steering_error_at fd_Steering_error_at)
    {f_Steering_course_of : Addr} {fd_Steering_course_of : FuncData}
    (h_Steering_course_of : FnM K C_Steering "course_of" "Steering.course_of" s_Steering_course_of ps_Steering_course_of f_Steering_course_of fd_Steering_course_of)
    {f_Steering__plan : Addr} {fd_Steering__plan : FuncData}
    (h_Steering__plan : FnM K C_Steering "_plan" "Steering._plan" s_Steering__plan ps_Steering__plan f_Steering__plan fd_Steering__plan)
    {f_Steering__jumps_to : Addr} {fd_Steering__jumps_to : FuncData}
    (h_Steering__jumps_to : FnM K C_Steering "_jumps_to" "Steering._jumps_to" s_Steering__jumps_to ps_Steering__jumps_to f_Steering__jumps_to fd_Steering__jumps_to)
    {f_Steering_aim : Addr} {fd_Steering_aim : FuncData}
    (h_Steering_aim : Fun K "aim" "Steering.aim" s_Steering_aim f_Steering_aim fd_Steering_aim) (hp_Steering_aim : ∃ q, PropOf K C_Steering "aim" q f_Steering_aim) (b_Steering_aim : Binds K fd_Steering_aim ps_Steering_aim [])
    : FnOk P w K mg base CX0 10 f_law fd_law ps_law (spLaw K) := by
  have CL : CG mg C_ZeroDivisor C_BadNumber C_EmptySpan C_BeforeStart C_TurnsBack C_BadRate C_BadBound C_BadName C_DuplicateName C_UnknownName C_BadLink C_UnknownLink C_BadNote C_UnknownMoment C_NoWorld C_OutsideSpan C_TooManyLiars C_RootFollows C_Condemned C_BadDate C_BadLeap C_BadLabel C_NoSuchSecond C_BadCells C_RefusedEntry C_DuplicateTag C_UnknownTag C_BadLine C_NothingToUndo C_NothingToRedo C_VerdictError := ⟨GZeroDivisor, GBadNumber, GEmptySpan, TBeforeStart.gC, TTurnsBack.gC, TBadRate.gC, TBadBound.gC, GBadName, GDuplicateName, GUnknownName, GBadLink, GUnknownLink, GBadNote, GUnknownMoment, GNoWorld, GOutsideSpan, GTooManyLiars, GRootFollows, GCondemned, GBadDate, GBadLeap, GBadLabel, GNoSuchSecond, GBadCells, GRefusedEntry, GDuplicateTag, GUnknownTag, GBadLine, GNothingToUndo, GNothingToRedo, GVerdictError, XV⟩
  have AkBeforeStart : Ak K C_ZeroDivisor C_BadNumber C_EmptySpan C_BeforeStart C_TurnsBack C_BadRate C_BadBound C_BadName C_DuplicateName C_UnknownName C_BadLink C_UnknownLink C_BadNote C_UnknownMoment C_NoWorld C_OutsideSpan C_TooManyLiars C_RootFollows C_Condemned C_BadDate C_BadLeap C_BadLabel C_NoSuchSecond C_BadCells C_RefusedEntry C_DuplicateTag C_UnknownTag C_BadLine C_NothingToUndo C_NothingToRedo 3 C_BeforeStart := ⟨EBeforeStart, Ik_BeforeStart_ZeroDivisor, Ik_BeforeStart_BadNumber, Ik_BeforeStart_EmptySpan, Ik_BeforeStart_BeforeStart, Ik_BeforeStart_TurnsBack, Ik_BeforeStart_BadRate, Ik_BeforeStart_BadBound, Ik_BeforeStart_BadName, Ik_BeforeStart_DuplicateName, Ik_BeforeStart_UnknownName, Ik_BeforeStart_BadLink, Ik_BeforeStart_UnknownLink, Ik_BeforeStart_BadNote, Ik_BeforeStart_UnknownMoment, Ik_BeforeStart_NoWorld, Ik_BeforeStart_OutsideSpan, Ik_BeforeStart_TooManyLiars, Ik_BeforeStart_RootFollows, Ik_BeforeStart_Condemned, Ik_BeforeStart_BadDate, Ik_BeforeStart_BadLeap, Ik_BeforeStart_BadLabel, Ik_BeforeStart_NoSuchSecond, Ik_BeforeStart_BadCells, Ik_BeforeStart_RefusedEntry, Ik_BeforeStart_DuplicateTag, Ik_BeforeStart_UnknownTag, Ik_BeforeStart_BadLine, Ik_BeforeStart_NothingToUndo, Ik_BeforeStart_NothingToRedo, XKBeforeStart⟩
  have KlBeforeStart : Kl K C_ZeroDivisor C_BadNumber C_EmptySpan C_BeforeStart C_TurnsBack C_BadRate C_BadBound C_BadName C_DuplicateName C_UnknownName C_BadLink C_UnknownLink C_BadNote C_UnknownMoment C_NoWorld C_OutsideSpan C_TooManyLiars C_RootFollows C_Condemned C_BadDate C_BadLeap C_BadLabel C_NoSuchSecond C_BadCells C_RefusedEntry C_DuplicateTag C_UnknownTag C_BadLine C_NothingToUndo C_NothingToRedo C_VerdictError 3 C_BeforeStart := ⟨AkBeforeStart, Ik_BeforeStart_VerdictError⟩
  have AkTurnsBack : Ak K C_ZeroDivisor C_BadNumber C_EmptySpan C_BeforeStart C_TurnsBack C_BadRate C_BadBound C_BadName C_DuplicateName C_UnknownName C_BadLink C_UnknownLink C_BadNote C_UnknownMoment C_NoWorld C_OutsideSpan C_TooManyLiars C_RootFollows C_Condemned C_BadDate C_BadLeap C_BadLabel C_NoSuchSecond C_BadCells C_RefusedEntry C_DuplicateTag C_UnknownTag C_BadLine C_NothingToUndo C_NothingToRedo 4 C_TurnsBack := ⟨ETurnsBack, Ik_TurnsBack_ZeroDivisor, Ik_TurnsBack_BadNumber, Ik_TurnsBack_EmptySpan, Ik_TurnsBack_BeforeStart, Ik_TurnsBack_TurnsBack, Ik_TurnsBack_BadRate, Ik_TurnsBack_BadBound, Ik_TurnsBack_BadName, Ik_TurnsBack_DuplicateName, Ik_TurnsBack_UnknownName, Ik_TurnsBack_BadLink, Ik_TurnsBack_UnknownLink, Ik_TurnsBack_BadNote, Ik_TurnsBack_UnknownMoment, Ik_TurnsBack_NoWorld, Ik_TurnsBack_OutsideSpan, Ik_TurnsBack_TooManyLiars, Ik_TurnsBack_RootFollows, Ik_TurnsBack_Condemned, Ik_TurnsBack_BadDate, Ik_TurnsBack_BadLeap, Ik_TurnsBack_BadLabel, Ik_TurnsBack_NoSuchSecond, Ik_TurnsBack_BadCells, Ik_TurnsBack_RefusedEntry, Ik_TurnsBack_DuplicateTag, Ik_TurnsBack_UnknownTag, Ik_TurnsBack_BadLine, Ik_TurnsBack_NothingToUndo, Ik_TurnsBack_NothingToRedo, XKTurnsBack⟩
  have KlTurnsBack : Kl K C_ZeroDivisor C_BadNumber C_EmptySpan C_BeforeStart C_TurnsBack C_BadRate C_BadBound C_BadName C_DuplicateName C_UnknownName C_BadLink C_UnknownLink C_BadNote C_UnknownMoment C_NoWorld C_OutsideSpan C_TooManyLiars C_RootFollows C_Condemned C_BadDate C_BadLeap C_BadLabel C_NoSuchSecond C_BadCells C_RefusedEntry C_DuplicateTag C_UnknownTag C_BadLine C_NothingToUndo C_NothingToRedo C_VerdictError 4 C_TurnsBack := ⟨AkTurnsBack, Ik_TurnsBack_VerdictError⟩
  have AkBadRate : Ak K C_ZeroDivisor C_BadNumber C_EmptySpan C_BeforeStart C_TurnsBack C_BadRate C_BadBound C_BadName C_DuplicateName C_UnknownName C_BadLink C_UnknownLink C_BadNote C_UnknownMoment C_NoWorld C_OutsideSpan C_TooManyLiars C_RootFollows C_Condemned C_BadDate C_BadLeap C_BadLabel C_NoSuchSecond C_BadCells C_RefusedEntry C_DuplicateTag C_UnknownTag C_BadLine C_NothingToUndo C_NothingToRedo 5 C_BadRate := ⟨EBadRate, Ik_BadRate_ZeroDivisor, Ik_BadRate_BadNumber, Ik_BadRate_EmptySpan, Ik_BadRate_BeforeStart, Ik_BadRate_TurnsBack, Ik_BadRate_BadRate, Ik_BadRate_BadBound, Ik_BadRate_BadName, Ik_BadRate_DuplicateName, Ik_BadRate_UnknownName, Ik_BadRate_BadLink, Ik_BadRate_UnknownLink, Ik_BadRate_BadNote, Ik_BadRate_UnknownMoment, Ik_BadRate_NoWorld, Ik_BadRate_OutsideSpan, Ik_BadRate_TooManyLiars, Ik_BadRate_RootFollows, Ik_BadRate_Condemned, Ik_BadRate_BadDate, Ik_BadRate_BadLeap, Ik_BadRate_BadLabel, Ik_BadRate_NoSuchSecond, Ik_BadRate_BadCells, Ik_BadRate_RefusedEntry, Ik_BadRate_DuplicateTag, Ik_BadRate_UnknownTag, Ik_BadRate_BadLine, Ik_BadRate_NothingToUndo, Ik_BadRate_NothingToRedo, XKBadRate⟩
  have KlBadRate : Kl K C_ZeroDivisor C_BadNumber C_EmptySpan C_BeforeStart C_TurnsBack C_BadRate C_BadBound C_BadName C_DuplicateName C_UnknownName C_BadLink C_UnknownLink C_BadNote C_UnknownMoment C_NoWorld C_OutsideSpan C_TooManyLiars C_RootFollows C_Condemned C_BadDate C_BadLeap C_BadLabel C_NoSuchSecond C_BadCells C_RefusedEntry C_DuplicateTag C_UnknownTag C_BadLine C_NothingToUndo C_NothingToRedo C_VerdictError 5 C_BadRate := ⟨AkBadRate, Ik_BadRate_VerdictError⟩
  have AkBadBound : Ak K C_ZeroDivisor C_BadNumber C_EmptySpan C_BeforeStart C_TurnsBack C_BadRate C_BadBound C_BadName C_DuplicateName C_UnknownName C_BadLink C_UnknownLink C_BadNote C_UnknownMoment C_NoWorld C_OutsideSpan C_TooManyLiars C_RootFollows C_Condemned C_BadDate C_BadLeap C_BadLabel C_NoSuchSecond C_BadCells C_RefusedEntry C_DuplicateTag C_UnknownTag C_BadLine C_NothingToUndo C_NothingToRedo 6 C_BadBound := ⟨EBadBound, Ik_BadBound_ZeroDivisor, Ik_BadBound_BadNumber, Ik_BadBound_EmptySpan, Ik_BadBound_BeforeStart, Ik_BadBound_TurnsBack, Ik_BadBound_BadRate, Ik_BadBound_BadBound, Ik_BadBound_BadName, Ik_BadBound_DuplicateName, Ik_BadBound_UnknownName, Ik_BadBound_BadLink, Ik_BadBound_UnknownLink, Ik_BadBound_BadNote, Ik_BadBound_UnknownMoment, Ik_BadBound_NoWorld, Ik_BadBound_OutsideSpan, Ik_BadBound_TooManyLiars, Ik_BadBound_RootFollows, Ik_BadBound_Condemned, Ik_BadBound_BadDate, Ik_BadBound_BadLeap, Ik_BadBound_BadLabel, Ik_BadBound_NoSuchSecond, Ik_BadBound_BadCells, Ik_BadBound_RefusedEntry, Ik_BadBound_DuplicateTag, Ik_BadBound_UnknownTag, Ik_BadBound_BadLine, Ik_BadBound_NothingToUndo, Ik_BadBound_NothingToRedo, XKBadBound⟩
  have KlBadBound : Kl K C_ZeroDivisor C_BadNumber C_EmptySpan C_BeforeStart C_TurnsBack C_BadRate C_BadBound C_BadName C_DuplicateName C_UnknownName C_BadLink C_UnknownLink C_BadNote C_UnknownMoment C_NoWorld C_OutsideSpan C_TooManyLiars C_RootFollows C_Condemned C_BadDate C_BadLeap C_BadLabel C_NoSuchSecond C_BadCells C_RefusedEntry C_DuplicateTag C_UnknownTag C_BadLine C_NothingToUndo C_NothingToRedo C_VerdictError 6 C_BadBound := ⟨AkBadBound, Ik_BadBound_VerdictError⟩
  have p_law_store := ok_store (P := P) (w := w) (mg := mg) (base := base) (k := 0) T h__law_store
  have p_law_feed := fun l => ok_feed (P := P) (w := w) (mg := mg) (base := base) (k := 0) (l := l) T h__law_feed
  have p_law_mixed := fun l => ok_mixed (P := P) (w := w) (mg := mg) (base := base) (k := 0) (l := l) T h__law_mixed
  have p_law_take := fun l => ok_take (P := P) (w := w) (mg := mg) (base := base) (k := 1) (l := l) T h__law_take ((p_law_feed l).up (by decide)) ((p_law_mixed l).up (by decide))
  have p_law_pick := fun l => ok_pick (P := P) (w := w) (mg := mg) (base := base) (k := 2) (l := l) T h__law_pick ((p_law_take l).up (by decide))
  have p_law_frac := ok_frac (P := P) (w := w) (mg := mg) (base := base) (k := 0) T h__law_frac
  have p_law_times := ok_times (P := P) (w := w) (mg := mg) (base := base) (k := 1) h__law_times (p_law_frac.up (by decide))
  have p_law_slews := fun l => ok_slews2 (P := P) (w := w) (mg := mg) (base := base) (k := 3) (l := l) h__law_slews ((p_law_take l).up (by decide)) ((p_law_pick l).up (by decide)) (p_law_frac.up (by decide)) (p_law_times.up (by decide))
  have p_law_spare := fun l => ok_spareN (P := P) (w := w) (mg := mg) (base := base) (k := 2) (l := l) h__law_spare ((p_law_take l).up (by decide)) (p_law_frac.up (by decide))
  have p_law_above := fun l => ok_above6 (P := P) (w := w) (mg := mg) (base := base) (k := 2) (l := l) h__law_above ((p_law_take l).up (by decide)) (p_law_frac.up (by decide))
  have p_law_over_step := fun l => ok_over_step (P := P) (w := w) (mg := mg) (base := base) (k := 3) (l := l) h__law_over_step ((p_law_above l).up (by decide)) ((p_law_pick l).up (by decide))
  have p_law_minus := ok_minus (P := P) (w := w) (mg := mg) (base := base) (k := 1) h__law_minus (p_law_frac.up (by decide))
  have p_law_negative := fun l => ok_negative (P := P) (w := w) (mg := mg) (base := base) (k := 3) (l := l) h__law_negative ((p_law_pick l).up (by decide)) (p_law_minus.up (by decide)) ((p_law_above l).up (by decide))
  have p_law_plus := ok_plus (P := P) (w := w) (mg := mg) (base := base) (k := 1) h__law_plus (p_law_frac.up (by decide))
  have p_law_bad_slew := fun l => ok_bad_slew (P := P) (w := w) (mg := mg) (base := base) (k := 4) (l := l) h__law_bad_slew ((p_law_pick l).up (by decide)) ((p_law_negative l).up (by decide)) (p_law_plus.up (by decide)) ((p_law_above l).up (by decide))
  have p_law_bad_drift := fun l => ok_bad_drift (P := P) (w := w) (mg := mg) (base := base) (k := 4) (l := l) h__law_bad_drift ((p_law_pick l).up (by decide)) ((p_law_negative l).up (by decide)) (p_law_plus.up (by decide))
  have p_law_bad_steering := fun l => ok_bad_steering (P := P) (w := w) (mg := mg) (base := base) (k := 5) (l := l) T h__law_bad_steering ((p_law_take l).up (by decide)) ((p_law_slews l).up (by decide)) ((p_law_spare l).up (by decide)) ((p_law_over_step l).up (by decide)) ((p_law_negative l).up (by decide)) ((p_law_bad_slew l).up (by decide)) ((p_law_bad_drift l).up (by decide))
  have p_law_part := fun l => ok_part (P := P) (w := w) (mg := mg) (base := base) (k := 3) (l := l) h__law_part ((p_law_take l).up (by decide)) ((p_law_pick l).up (by decide)) (p_law_frac.up (by decide))
  have p_law_is_int := ok_is_int (P := P) (w := w) (mg := mg) (base := base) (k := 0) T h__law_is_int
  have p_law_same4 := ok_same (P := P) (w := w) (mg := mg) (base := base) (k := 1) T h__law_same (p_law_is_int.up (by decide)) 4
  have pcompare := ok_compare (P := P) (w := w) (mg := mg) (base := base) (k := 0) h_compare
  have prequire_not_below_zero := ok_not_below (P := P) (w := w) (mg := mg) (base := base) (k := 1) ZZERO TBadBound h_require_not_below_zero (pcompare.up (by decide))
  have p_require_slew_and_drift := ok_slew_drift (P := P) (w := w) (mg := mg) (base := base) (k := 1) ZZERO ZONE TBadRate h__require_slew_and_drift (pcompare.up (by decide))
  have p_Steering : MkY P w K mg base 3 "Steering" _ _ _ _ _ := ⟨ok_init (P := P) (w := w) (mg := mg) (base := base) (k := 2) SSteering ZONE h_Steering_init (prequire_not_below_zero.up (by decide)) (p_require_slew_and_drift.up (by decide)), mSteering, kkSteering⟩
  have pP__law_alone := ok_alone (P := P) (w := w) (mg := mg) (base := base) (k := 0) T CL h__law_alone
  have pP__law_classes := ok_classesG (P := P) (w := w) (mg := mg) (base := base) (k := 1) T CL h__law_classes (pP__law_alone.up (by decide))
  have p_law_not_made := ok_not_made (P := P) (w := w) (mg := mg) (base := base) (k := 3) TBadBound TBadRate KlBadBound KlBadRate Ie_BadRate_BadBound h__law_not_made (p_Steering.up (by decide)) kb_Steering_slew_drift_step_over (pP__law_classes.up (by decide))
  have p_law_steers := fun l => ok_steers (P := P) (w := w) (mg := mg) (base := base) (k := 4) (l := l) T h__law_steers (p_law_plus.up (by decide)) ((p_law_spare l).up (by decide)) ((p_law_part l).up (by decide)) (p_law_minus.up (by decide)) ((p_law_take l).up (by decide))
  have p_law_size := fun l => ok_size (P := P) (w := w) (mg := mg) (base := base) (k := 2) (l := l) h__law_size ((p_law_take l).up (by decide))
  have p_place_at := ok_place_at (P := P) (w := w) (mg := mg) (base := base) (k := 1) h__place_at (pcompare.up (by decide))
  have p_piece_at := ok_piece_at (P := P) (w := w) (mg := mg) (base := base) (k := 2) TBeforeStart h__piece_at (p_place_at.up (by decide))
  have padd := ok_add (P := P) (w := w) (mg := mg) (base := base) (k := 0) T h_add
  have prational := ok_rational (P := P) (w := w) (mg := mg) (base := base) (k := 0) T h_rational m_rational b_rational
  have pmultiply := ok_multiply (P := P) (w := w) (mg := mg) (base := base) (k := 1) h_multiply (prational.up (by decide))
  have pnegate := ok_negate (P := P) (w := w) (mg := mg) (base := base) (k := 0) h_negate
  have psubtract := ok_subtract (P := P) (w := w) (mg := mg) (base := base) (k := 1) h_subtract (padd.up (by decide)) (pnegate.up (by decide))
  have p_shown_by := ok_shown_by (P := P) (w := w) (mg := mg) (base := base) (k := 2) h__shown_by (padd.up (by decide)) (pmultiply.up (by decide)) (psubtract.up (by decide))
  have pshown_at := ok_shown_at (P := P) (w := w) (mg := mg) (base := base) (k := 3) h_shown_at (p_piece_at.up (by decide)) (p_shown_by.up (by decide))
  have p_display := ok_display (P := P) (w := w) (mg := mg) (base := base) (k := 4) SSteering h_Steering_display (pshown_at.up (by decide))
  have plarger := ok_larger (P := P) (w := w) (mg := mg) (base := base) (k := 1) h_larger (pcompare.up (by decide))
  have p_bound_behind := ok_bound_behind (P := P) (w := w) (mg := mg) (base := base) (k := 2) h__bound_behind (plarger.up (by decide)) (psubtract.up (by decide)) (pmultiply.up (by decide)) (padd.up (by decide))
  have p_error_at := ok_error_at (P := P) (w := w) (mg := mg) (base := base) (k := 3) SSteering TTurnsBack h_Steering_error_at (pcompare.up (by decide)) (psubtract.up (by decide)) (p_bound_behind.up (by decide))
  have p_course_of := ok_course_of (P := P) (w := w) (mg := mg) (base := base) (k := 0) T SSteering h_Steering_course_of
  have p_aim := ok_aim (P := P) (w := w) (mg := mg) (base := base) (k := 0) SSteering h_Steering_aim hp_Steering_aim b_Steering_aim
  have p_law_look := ok_look (P := P) (w := w) (mg := mg) (base := base) (k := 4) T h__law_look (p_law_plus.up (by decide)) (p_display.up (by decide)) (p_error_at.up (by decide)) (p_course_of.up (by decide)) (p_aim.up (by decide))
  have p_law_shuffled := fun l => ok_shuffledV (P := P) (w := w) (mg := mg) (base := base) (k := 2) (l := l) T h__law_shuffled ((p_law_take l).up (by decide))
  have pwidth_of := ok_width_of (P := P) (w := w) (mg := mg) (base := base) (k := 2) h_width_of (psubtract.up (by decide))
  have p_jump_at := ok_jump_at (P := P) (w := w) (mg := mg) (base := base) (k := 3) h__jump_at (psubtract.up (by decide)) (p_shown_by.up (by decide))
  have ptidy := ok_tidy (P := P) (w := w) (mg := mg) (base := base) (k := 4) T ZZERO h_tidy (p_jump_at.up (by decide))
  have p__plan := ok_plan (P := P) (w := w) (mg := mg) (base := base) (k := 5) SSteering h_Steering__plan (pcompare.up (by decide)) (ptidy.up (by decide))
  have p_higher_low := ok_higher_low (P := P) (w := w) (mg := mg) (base := base) (k := 2) h__higher_low (plarger.up (by decide))
  have psmaller := ok_smaller (P := P) (w := w) (mg := mg) (base := base) (k := 1) h_smaller (pcompare.up (by decide))
  have p_lower_high := ok_lower_high (P := P) (w := w) (mg := mg) (base := base) (k := 2) h__lower_high (psmaller.up (by decide))
  have pmeet := ok_meet (P := P) (w := w) (mg := mg) (base := base) (k := 3) h_meet (p_higher_low.up (by decide)) (p_lower_high.up (by decide)) (pcompare.up (by decide))
  have pmiddle_of := ok_middle_of (P := P) (w := w) (mg := mg) (base := base) (k := 2) ZHALF h_middle_of (padd.up (by decide)) (pmultiply.up (by decide))
  have p__jumps_to := ok_jumps_to (P := P) (w := w) (mg := mg) (base := base) (k := 2) SSteering h_Steering__jumps_to (pcompare.up (by decide)) (psubtract.up (by decide))
  have pdistance := ok_distance (P := P) (w := w) (mg := mg) (base := base) (k := 2) T h_distance (psubtract.up (by decide))
  have pdivide := ok_divide (P := P) (w := w) (mg := mg) (base := base) (k := 1) h_divide (prational.up (by decide))
  have p_planned := ok_planned (P := P) (w := w) (mg := mg) (base := base) (k := 3) ZONE h__planned (pcompare.up (by decide)) (padd.up (by decide)) (psubtract.up (by decide)) (pdistance.up (by decide)) (pdivide.up (by decide))
  have pfar_end := ok_far_end (P := P) (w := w) (mg := mg) (base := base) (k := 3) h_far_end (pdistance.up (by decide)) (plarger.up (by decide))
  have p_steer := ok_steer (P := P) (w := w) (mg := mg) (base := base) (k := 6) SSteering ZONE ZHALF h_Steering_steer (p_error_at.up (by decide)) (pshown_at.up (by decide)) (pwidth_of.up (by decide)) (p__plan.up (by decide)) (pmeet.up (by decide)) (psubtract.up (by decide)) (padd.up (by decide)) (pmiddle_of.up (by decide)) (pmultiply.up (by decide)) (p__jumps_to.up (by decide)) (p_planned.up (by decide)) (pfar_end.up (by decide))
  have p_law_refused := ok_refused (P := P) (w := w) (mg := mg) (base := base) (k := 7) TTurnsBack TBeforeStart KlTurnsBack KlBeforeStart Ie_BeforeStart_TurnsBack h__law_refused (p_steer.up (by decide)) (p_error_at.up (by decide)) (p_display.up (by decide)) (pP__law_classes.up (by decide))
  have p_law_bad_calls := fun l => ok_bad_calls (P := P) (w := w) (mg := mg) (base := base) (k := 8) (l := l) T h__law_bad_calls ((p_law_above l).up (by decide)) (p_law_minus.up (by decide)) ((p_law_pick l).up (by decide)) ((p_law_shuffled l).up (by decide)) (p_law_plus.up (by decide)) (p_law_same4.up (by decide)) (p_law_refused.up (by decide))
  have p_law_is_frac := ok_is_frac (P := P) (w := w) (mg := mg) (base := base) (k := 1) T h__law_is_frac (p_law_is_int.up (by decide)) (p_law_frac.up (by decide))
  have p_law_below := ok_below (P := P) (w := w) (mg := mg) (base := base) (k := 0) h__law_below
  have plaw := ok_law (P := P) (w := w) (mg := mg) (base := base) (k := 8) haDR T h_law (p_law_store.up (by decide)) (fun l => (p_law_bad_steering l).up (by decide)) (fun l => (p_law_slews l).up (by decide)) (fun l => (p_law_part l).up (by decide)) (p_law_plus.up (by decide)) (p_law_same4.up (by decide)) (p_law_not_made.up (by decide)) (fun l => (p_law_over_step l).up (by decide)) (fun l => (p_law_spare l).up (by decide)) (p_Steering.up (by decide)) kb_Steering_slew kb_Steering_slew_drift_step_over (fun l => (p_law_steers l).up (by decide)) (fun l => (p_law_size l).up (by decide)) (p_law_look.up (by decide)) (fun l => (p_law_bad_calls l).up (by decide)) (p_law_times.up (by decide)) (p_display.up (by decide)) (p_error_at.up (by decide)) (p_law_is_frac.up (by decide)) (p_steer.up (by decide)) (p_law_below.up (by decide)) (p_law_refused.up (by decide)) (p_course_of.up (by decide))
  exact plaw.ok

section
open PySem PySem.W PySem.Calls PySem.HandSPX PyProof.Rows L2
set_option maxHeartbeats 0 in
theorem all_mkV {P : Program} {w : World} {K : PySem.W.Frag} {h : Heap} {mg : Str → Option Value} {fa : Addr} (X : K.In h) (G : h.Ns mainGlobals mg) (hfa : mg "law" = some (.ref fa)) (c : obsP faH fnH pfH exK K = valP fnH pfH) :
    ∃ fd : FuncData, (∀ (s : Shared) (v : Value), BindsTo s fd ⟨[v], []⟩ [("_law_script", v)]) ∧ ∀ base : Heap, K.In base → base.Ns mainGlobals mg → FnOk P w K mg base CX0 10 fa fd ["_law_script"] (spLaw K) := by
  have ex := saysP_ex c
  have g_rational : mg "rational" = some (.ref (He.ga K "rational")) := He.glo_ok X G (saysP_fact c 0 (f := .glo "rational") rfl)
  have g_add : mg "add" = some (.ref (He.ga K "add")) := He.glo_ok X G (saysP_fact c 1 (f := .glo "add") rfl)
  have g_subtract : mg "subtract" = some (.ref (He.ga K "subtract")) := He.glo_ok X G (saysP_fact c 2 (f := .glo "subtract") rfl)
  have g_multiply : mg "multiply" = some (.ref (He.ga K "multiply")) := He.glo_ok X G (saysP_fact c 3 (f := .glo "multiply") rfl)
  have g_negate : mg "negate" = some (.ref (He.ga K "negate")) := He.glo_ok X G (saysP_fact c 4 (f := .glo "negate") rfl)
  have g_divide : mg "divide" = some (.ref (He.ga K "divide")) := He.glo_ok X G (saysP_fact c 5 (f := .glo "divide") rfl)
  have g_distance : mg "distance" = some (.ref (He.ga K "distance")) := He.glo_ok X G (saysP_fact c 6 (f := .glo "distance") rfl)
  have g_compare : mg "compare" = some (.ref (He.ga K "compare")) := He.glo_ok X G (saysP_fact c 7 (f := .glo "compare") rfl)
  have g_smaller : mg "smaller" = some (.ref (He.ga K "smaller")) := He.glo_ok X G (saysP_fact c 8 (f := .glo "smaller") rfl)
  have g_larger : mg "larger" = some (.ref (He.ga K "larger")) := He.glo_ok X G (saysP_fact c 9 (f := .glo "larger") rfl)
  have g__shown_by : mg "_shown_by" = some (.ref (He.ga K "_shown_by")) := He.glo_ok X G (saysP_fact c 10 (f := .glo "_shown_by") rfl)
  have g__place_at : mg "_place_at" = some (.ref (He.ga K "_place_at")) := He.glo_ok X G (saysP_fact c 11 (f := .glo "_place_at") rfl)
  have g__piece_at : mg "_piece_at" = some (.ref (He.ga K "_piece_at")) := He.glo_ok X G (saysP_fact c 12 (f := .glo "_piece_at") rfl)
  have g_shown_at : mg "shown_at" = some (.ref (He.ga K "shown_at")) := He.glo_ok X G (saysP_fact c 13 (f := .glo "shown_at") rfl)
  have g__jump_at : mg "_jump_at" = some (.ref (He.ga K "_jump_at")) := He.glo_ok X G (saysP_fact c 14 (f := .glo "_jump_at") rfl)
  have g_tidy : mg "tidy" = some (.ref (He.ga K "tidy")) := He.glo_ok X G (saysP_fact c 15 (f := .glo "tidy") rfl)
  have g_width_of : mg "width_of" = some (.ref (He.ga K "width_of")) := He.glo_ok X G (saysP_fact c 16 (f := .glo "width_of") rfl)
  have g_middle_of : mg "middle_of" = some (.ref (He.ga K "middle_of")) := He.glo_ok X G (saysP_fact c 17 (f := .glo "middle_of") rfl)
  have g_far_end : mg "far_end" = some (.ref (He.ga K "far_end")) := He.glo_ok X G (saysP_fact c 18 (f := .glo "far_end") rfl)
  have g__higher_low : mg "_higher_low" = some (.ref (He.ga K "_higher_low")) := He.glo_ok X G (saysP_fact c 19 (f := .glo "_higher_low") rfl)
  have g__lower_high : mg "_lower_high" = some (.ref (He.ga K "_lower_high")) := He.glo_ok X G (saysP_fact c 20 (f := .glo "_lower_high") rfl)
  have g_meet : mg "meet" = some (.ref (He.ga K "meet")) := He.glo_ok X G (saysP_fact c 21 (f := .glo "meet") rfl)
  have g_require_not_below_zero : mg "require_not_below_zero" = some (.ref (He.ga K "require_not_below_zero")) := He.glo_ok X G (saysP_fact c 22 (f := .glo "require_not_below_zero") rfl)
  have g__require_slew_and_drift : mg "_require_slew_and_drift" = some (.ref (He.ga K "_require_slew_and_drift")) := He.glo_ok X G (saysP_fact c 23 (f := .glo "_require_slew_and_drift") rfl)
  have g__bound_behind : mg "_bound_behind" = some (.ref (He.ga K "_bound_behind")) := He.glo_ok X G (saysP_fact c 24 (f := .glo "_bound_behind") rfl)
  have g__planned : mg "_planned" = some (.ref (He.ga K "_planned")) := He.glo_ok X G (saysP_fact c 25 (f := .glo "_planned") rfl)
  have g__law_store : mg "_law_store" = some (.ref (He.ga K "_law_store")) := He.glo_ok X G (saysP_fact c 26 (f := .glo "_law_store") rfl)
  have g__law_feed : mg "_law_feed" = some (.ref (He.ga K "_law_feed")) := He.glo_ok X G (saysP_fact c 27 (f := .glo "_law_feed") rfl)
  have g__law_mixed : mg "_law_mixed" = some (.ref (He.ga K "_law_mixed")) := He.glo_ok X G (saysP_fact c 28 (f := .glo "_law_mixed") rfl)
  have g__law_take : mg "_law_take" = some (.ref (He.ga K "_law_take")) := He.glo_ok X G (saysP_fact c 29 (f := .glo "_law_take") rfl)
  have g__law_pick : mg "_law_pick" = some (.ref (He.ga K "_law_pick")) := He.glo_ok X G (saysP_fact c 30 (f := .glo "_law_pick") rfl)
  have g__law_size : mg "_law_size" = some (.ref (He.ga K "_law_size")) := He.glo_ok X G (saysP_fact c 31 (f := .glo "_law_size") rfl)
  have g__law_shuffled : mg "_law_shuffled" = some (.ref (He.ga K "_law_shuffled")) := He.glo_ok X G (saysP_fact c 32 (f := .glo "_law_shuffled") rfl)
  have g__law_is_int : mg "_law_is_int" = some (.ref (He.ga K "_law_is_int")) := He.glo_ok X G (saysP_fact c 33 (f := .glo "_law_is_int") rfl)
  have g__law_same : mg "_law_same" = some (.ref (He.ga K "_law_same")) := He.glo_ok X G (saysP_fact c 34 (f := .glo "_law_same") rfl)
  have g__law_frac : mg "_law_frac" = some (.ref (He.ga K "_law_frac")) := He.glo_ok X G (saysP_fact c 35 (f := .glo "_law_frac") rfl)
  have g__law_plus : mg "_law_plus" = some (.ref (He.ga K "_law_plus")) := He.glo_ok X G (saysP_fact c 36 (f := .glo "_law_plus") rfl)
  have g__law_minus : mg "_law_minus" = some (.ref (He.ga K "_law_minus")) := He.glo_ok X G (saysP_fact c 37 (f := .glo "_law_minus") rfl)
  have g__law_times : mg "_law_times" = some (.ref (He.ga K "_law_times")) := He.glo_ok X G (saysP_fact c 38 (f := .glo "_law_times") rfl)
  have g__law_below : mg "_law_below" = some (.ref (He.ga K "_law_below")) := He.glo_ok X G (saysP_fact c 39 (f := .glo "_law_below") rfl)
  have g__law_is_frac : mg "_law_is_frac" = some (.ref (He.ga K "_law_is_frac")) := He.glo_ok X G (saysP_fact c 40 (f := .glo "_law_is_frac") rfl)
  have g__law_part : mg "_law_part" = some (.ref (He.ga K "_law_part")) := He.glo_ok X G (saysP_fact c 41 (f := .glo "_law_part") rfl)
  have g__law_spare : mg "_law_spare" = some (.ref (He.ga K "_law_spare")) := He.glo_ok X G (saysP_fact c 42 (f := .glo "_law_spare") rfl)
  have g__law_above : mg "_law_above" = some (.ref (He.ga K "_law_above")) := He.glo_ok X G (saysP_fact c 43 (f := .glo "_law_above") rfl)
  have g__law_slews : mg "_law_slews" = some (.ref (He.ga K "_law_slews")) := He.glo_ok X G (saysP_fact c 44 (f := .glo "_law_slews") rfl)
  have g__law_over_step : mg "_law_over_step" = some (.ref (He.ga K "_law_over_step")) := He.glo_ok X G (saysP_fact c 45 (f := .glo "_law_over_step") rfl)
  have g__law_steers : mg "_law_steers" = some (.ref (He.ga K "_law_steers")) := He.glo_ok X G (saysP_fact c 46 (f := .glo "_law_steers") rfl)
  have g__law_negative : mg "_law_negative" = some (.ref (He.ga K "_law_negative")) := He.glo_ok X G (saysP_fact c 47 (f := .glo "_law_negative") rfl)
  have g__law_bad_slew : mg "_law_bad_slew" = some (.ref (He.ga K "_law_bad_slew")) := He.glo_ok X G (saysP_fact c 48 (f := .glo "_law_bad_slew") rfl)
  have g__law_bad_drift : mg "_law_bad_drift" = some (.ref (He.ga K "_law_bad_drift")) := He.glo_ok X G (saysP_fact c 49 (f := .glo "_law_bad_drift") rfl)
  have g__law_bad_steering : mg "_law_bad_steering" = some (.ref (He.ga K "_law_bad_steering")) := He.glo_ok X G (saysP_fact c 50 (f := .glo "_law_bad_steering") rfl)
  have g__law_alone : mg "_law_alone" = some (.ref (He.ga K "_law_alone")) := He.glo_ok X G (saysP_fact c 51 (f := .glo "_law_alone") rfl)
  have g__law_classes : mg "_law_classes" = some (.ref (He.ga K "_law_classes")) := He.glo_ok X G (saysP_fact c 52 (f := .glo "_law_classes") rfl)
  have g__law_not_made : mg "_law_not_made" = some (.ref (He.ga K "_law_not_made")) := He.glo_ok X G (saysP_fact c 53 (f := .glo "_law_not_made") rfl)
  have g__law_refused : mg "_law_refused" = some (.ref (He.ga K "_law_refused")) := He.glo_ok X G (saysP_fact c 54 (f := .glo "_law_refused") rfl)
  have g__law_look : mg "_law_look" = some (.ref (He.ga K "_law_look")) := He.glo_ok X G (saysP_fact c 55 (f := .glo "_law_look") rfl)
  have g__law_bad_calls : mg "_law_bad_calls" = some (.ref (He.ga K "_law_bad_calls")) := He.glo_ok X G (saysP_fact c 56 (f := .glo "_law_bad_calls") rfl)
  have g_law : mg "law" = some (.ref (He.ga K "law")) := He.glo_ok X G (saysP_fact c 57 (f := .glo "law") rfl)
  have g_BeforeStart : mg "BeforeStart" = some (.ref (He.ga K "BeforeStart")) := He.glo_ok X G (saysP_fact c 58 (f := .glo "BeforeStart") rfl)
  have g_TurnsBack : mg "TurnsBack" = some (.ref (He.ga K "TurnsBack")) := He.glo_ok X G (saysP_fact c 59 (f := .glo "TurnsBack") rfl)
  have g_BadRate : mg "BadRate" = some (.ref (He.ga K "BadRate")) := He.glo_ok X G (saysP_fact c 60 (f := .glo "BadRate") rfl)
  have g_BadBound : mg "BadBound" = some (.ref (He.ga K "BadBound")) := He.glo_ok X G (saysP_fact c 61 (f := .glo "BadBound") rfl)
  have g_ZeroDivisor : mg "ZeroDivisor" = some (.ref (He.ga K "ZeroDivisor")) := He.glo_ok X G (saysP_fact c 62 (f := .glo "ZeroDivisor") rfl)
  have g_BadNumber : mg "BadNumber" = some (.ref (He.ga K "BadNumber")) := He.glo_ok X G (saysP_fact c 63 (f := .glo "BadNumber") rfl)
  have g_EmptySpan : mg "EmptySpan" = some (.ref (He.ga K "EmptySpan")) := He.glo_ok X G (saysP_fact c 64 (f := .glo "EmptySpan") rfl)
  have g_BadName : mg "BadName" = some (.ref (He.ga K "BadName")) := He.glo_ok X G (saysP_fact c 65 (f := .glo "BadName") rfl)
  have g_DuplicateName : mg "DuplicateName" = some (.ref (He.ga K "DuplicateName")) := He.glo_ok X G (saysP_fact c 66 (f := .glo "DuplicateName") rfl)
  have g_UnknownName : mg "UnknownName" = some (.ref (He.ga K "UnknownName")) := He.glo_ok X G (saysP_fact c 67 (f := .glo "UnknownName") rfl)
  have g_BadLink : mg "BadLink" = some (.ref (He.ga K "BadLink")) := He.glo_ok X G (saysP_fact c 68 (f := .glo "BadLink") rfl)
  have g_UnknownLink : mg "UnknownLink" = some (.ref (He.ga K "UnknownLink")) := He.glo_ok X G (saysP_fact c 69 (f := .glo "UnknownLink") rfl)
  have g_BadNote : mg "BadNote" = some (.ref (He.ga K "BadNote")) := He.glo_ok X G (saysP_fact c 70 (f := .glo "BadNote") rfl)
  have g_UnknownMoment : mg "UnknownMoment" = some (.ref (He.ga K "UnknownMoment")) := He.glo_ok X G (saysP_fact c 71 (f := .glo "UnknownMoment") rfl)
  have g_NoWorld : mg "NoWorld" = some (.ref (He.ga K "NoWorld")) := He.glo_ok X G (saysP_fact c 72 (f := .glo "NoWorld") rfl)
  have g_OutsideSpan : mg "OutsideSpan" = some (.ref (He.ga K "OutsideSpan")) := He.glo_ok X G (saysP_fact c 73 (f := .glo "OutsideSpan") rfl)
  have g_TooManyLiars : mg "TooManyLiars" = some (.ref (He.ga K "TooManyLiars")) := He.glo_ok X G (saysP_fact c 74 (f := .glo "TooManyLiars") rfl)
  have g_RootFollows : mg "RootFollows" = some (.ref (He.ga K "RootFollows")) := He.glo_ok X G (saysP_fact c 75 (f := .glo "RootFollows") rfl)
  have g_Condemned : mg "Condemned" = some (.ref (He.ga K "Condemned")) := He.glo_ok X G (saysP_fact c 76 (f := .glo "Condemned") rfl)
  have g_BadDate : mg "BadDate" = some (.ref (He.ga K "BadDate")) := He.glo_ok X G (saysP_fact c 77 (f := .glo "BadDate") rfl)
  have g_BadLeap : mg "BadLeap" = some (.ref (He.ga K "BadLeap")) := He.glo_ok X G (saysP_fact c 78 (f := .glo "BadLeap") rfl)
  have g_BadLabel : mg "BadLabel" = some (.ref (He.ga K "BadLabel")) := He.glo_ok X G (saysP_fact c 79 (f := .glo "BadLabel") rfl)
  have g_NoSuchSecond : mg "NoSuchSecond" = some (.ref (He.ga K "NoSuchSecond")) := He.glo_ok X G (saysP_fact c 80 (f := .glo "NoSuchSecond") rfl)
  have g_BadCells : mg "BadCells" = some (.ref (He.ga K "BadCells")) := He.glo_ok X G (saysP_fact c 81 (f := .glo "BadCells") rfl)
  have g_RefusedEntry : mg "RefusedEntry" = some (.ref (He.ga K "RefusedEntry")) := He.glo_ok X G (saysP_fact c 82 (f := .glo "RefusedEntry") rfl)
  have g_DuplicateTag : mg "DuplicateTag" = some (.ref (He.ga K "DuplicateTag")) := He.glo_ok X G (saysP_fact c 83 (f := .glo "DuplicateTag") rfl)
  have g_UnknownTag : mg "UnknownTag" = some (.ref (He.ga K "UnknownTag")) := He.glo_ok X G (saysP_fact c 84 (f := .glo "UnknownTag") rfl)
  have g_BadLine : mg "BadLine" = some (.ref (He.ga K "BadLine")) := He.glo_ok X G (saysP_fact c 85 (f := .glo "BadLine") rfl)
  have g_NothingToUndo : mg "NothingToUndo" = some (.ref (He.ga K "NothingToUndo")) := He.glo_ok X G (saysP_fact c 86 (f := .glo "NothingToUndo") rfl)
  have g_NothingToRedo : mg "NothingToRedo" = some (.ref (He.ga K "NothingToRedo")) := He.glo_ok X G (saysP_fact c 87 (f := .glo "NothingToRedo") rfl)
  have g_VerdictError : mg "VerdictError" = some (.ref (He.ga K "VerdictError")) := He.glo_ok X G (saysP_fact c 88 (f := .glo "VerdictError") rfl)
  have g_ZERO : mg "ZERO" = some (.ref (He.ga K "ZERO")) := He.glo_ok X G (saysP_fact c 89 (f := .glo "ZERO") rfl)
  have g_ONE : mg "ONE" = some (.ref (He.ga K "ONE")) := He.glo_ok X G (saysP_fact c 90 (f := .glo "ONE") rfl)
  have g_HALF : mg "HALF" = some (.ref (He.ga K "HALF")) := He.glo_ok X G (saysP_fact c 91 (f := .glo "HALF") rfl)
  have g_Steering : mg "Steering" = some (.ref (He.ga K "Steering")) := He.glo_ok X G (saysP_fact c 92 (f := .glo "Steering") rfl)
  have z_len : mg "len" = none := He.free_ok X G (saysP_fact c 93 (f := .free "len") rfl)
  have z_abs : mg "abs" = none := He.free_ok X G (saysP_fact c 94 (f := .free "abs") rfl)
  have z_max : mg "max" = none := He.free_ok X G (saysP_fact c 95 (f := .free "max") rfl)
  have z_int : mg "int" = none := He.free_ok X G (saysP_fact c 96 (f := .free "int") rfl)
  have z_isinstance : mg "isinstance" = none := He.free_ok X G (saysP_fact c 97 (f := .free "isinstance") rfl)
  have z_range : mg "range" = none := He.free_ok X G (saysP_fact c 98 (f := .free "range") rfl)
  have z_enumerate : mg "enumerate" = none := He.free_ok X G (saysP_fact c 99 (f := .free "enumerate") rfl)
  have z_list : mg "list" = none := He.free_ok X G (saysP_fact c 100 (f := .free "list") rfl)
  have z_tuple : mg "tuple" = none := He.free_ok X G (saysP_fact c 101 (f := .free "tuple") rfl)
  have z_str : mg "str" = none := He.free_ok X G (saysP_fact c 102 (f := .free "str") rfl)
  have z_bool : mg "bool" = none := He.free_ok X G (saysP_fact c 103 (f := .free "bool") rfl)
  have z_dict : mg "dict" = none := He.free_ok X G (saysP_fact c 104 (f := .free "dict") rfl)
  have z_ValueError : mg "ValueError" = none := He.free_ok X G (saysP_fact c 105 (f := .free "ValueError") rfl)
  obtain ⟨fd_rational, F_rational⟩ := saysP_def c 0 (d := dH_rational) rfl
  obtain ⟨fd_add, F_add⟩ := saysP_def c 1 (d := dH_add) rfl
  obtain ⟨fd_subtract, F_subtract⟩ := saysP_def c 2 (d := dH_subtract) rfl
  obtain ⟨fd_multiply, F_multiply⟩ := saysP_def c 3 (d := dH_multiply) rfl
  obtain ⟨fd_negate, F_negate⟩ := saysP_def c 4 (d := dH_negate) rfl
  obtain ⟨fd_divide, F_divide⟩ := saysP_def c 5 (d := dH_divide) rfl
  obtain ⟨fd_distance, F_distance⟩ := saysP_def c 6 (d := dH_distance) rfl
  obtain ⟨fd_compare, F_compare⟩ := saysP_def c 7 (d := dH_compare) rfl
  obtain ⟨fd_smaller, F_smaller⟩ := saysP_def c 8 (d := dH_smaller) rfl
  obtain ⟨fd_larger, F_larger⟩ := saysP_def c 9 (d := dH_larger) rfl
  obtain ⟨fd__shown_by, F__shown_by⟩ := saysP_def c 10 (d := dH__shown_by) rfl
  obtain ⟨fd__place_at, F__place_at⟩ := saysP_def c 11 (d := dH__place_at) rfl
  obtain ⟨fd__piece_at, F__piece_at⟩ := saysP_def c 12 (d := dH__piece_at) rfl
  obtain ⟨fd_shown_at, F_shown_at⟩ := saysP_def c 13 (d := dH_shown_at) rfl
  obtain ⟨fd__jump_at, F__jump_at⟩ := saysP_def c 14 (d := dH__jump_at) rfl
  obtain ⟨fd_tidy, F_tidy⟩ := saysP_def c 15 (d := dH_tidy) rfl
  obtain ⟨fd_width_of, F_width_of⟩ := saysP_def c 16 (d := dH_width_of) rfl
  obtain ⟨fd_middle_of, F_middle_of⟩ := saysP_def c 17 (d := dH_middle_of) rfl
  obtain ⟨fd_far_end, F_far_end⟩ := saysP_def c 18 (d := dH_far_end) rfl
  obtain ⟨fd__higher_low, F__higher_low⟩ := saysP_def c 19 (d := dH__higher_low) rfl
  obtain ⟨fd__lower_high, F__lower_high⟩ := saysP_def c 20 (d := dH__lower_high) rfl
  obtain ⟨fd_meet, F_meet⟩ := saysP_def c 21 (d := dH_meet) rfl
  obtain ⟨fd_require_not_below_zero, F_require_not_below_zero⟩ := saysP_def c 22 (d := dH_require_not_below_zero) rfl
  obtain ⟨fd__require_slew_and_drift, F__require_slew_and_drift⟩ := saysP_def c 23 (d := dH__require_slew_and_drift) rfl
  obtain ⟨fd__bound_behind, F__bound_behind⟩ := saysP_def c 24 (d := dH__bound_behind) rfl
  obtain ⟨fd__planned, F__planned⟩ := saysP_def c 25 (d := dH__planned) rfl
  obtain ⟨fd__law_store, F__law_store⟩ := saysP_def c 26 (d := dH__law_store) rfl
  obtain ⟨fd__law_feed, F__law_feed⟩ := saysP_def c 27 (d := dH__law_feed) rfl
  obtain ⟨fd__law_mixed, F__law_mixed⟩ := saysP_def c 28 (d := dH__law_mixed) rfl
  obtain ⟨fd__law_take, F__law_take⟩ := saysP_def c 29 (d := dH__law_take) rfl
  obtain ⟨fd__law_pick, F__law_pick⟩ := saysP_def c 30 (d := dH__law_pick) rfl
  obtain ⟨fd__law_size, F__law_size⟩ := saysP_def c 31 (d := dH__law_size) rfl
  obtain ⟨fd__law_shuffled, F__law_shuffled⟩ := saysP_def c 32 (d := dH__law_shuffled) rfl
  obtain ⟨fd__law_is_int, F__law_is_int⟩ := saysP_def c 33 (d := dH__law_is_int) rfl
  obtain ⟨fd__law_same, F__law_same⟩ := saysP_def c 34 (d := dH__law_same) rfl
  obtain ⟨fd__law_frac, F__law_frac⟩ := saysP_def c 35 (d := dH__law_frac) rfl
  obtain ⟨fd__law_plus, F__law_plus⟩ := saysP_def c 36 (d := dH__law_plus) rfl
  obtain ⟨fd__law_minus, F__law_minus⟩ := saysP_def c 37 (d := dH__law_minus) rfl
  obtain ⟨fd__law_times, F__law_times⟩ := saysP_def c 38 (d := dH__law_times) rfl
  obtain ⟨fd__law_below, F__law_below⟩ := saysP_def c 39 (d := dH__law_below) rfl
  obtain ⟨fd__law_is_frac, F__law_is_frac⟩ := saysP_def c 40 (d := dH__law_is_frac) rfl
  obtain ⟨fd__law_part, F__law_part⟩ := saysP_def c 41 (d := dH__law_part) rfl
  obtain ⟨fd__law_spare, F__law_spare⟩ := saysP_def c 42 (d := dH__law_spare) rfl
  obtain ⟨fd__law_above, F__law_above⟩ := saysP_def c 43 (d := dH__law_above) rfl
  obtain ⟨fd__law_slews, F__law_slews⟩ := saysP_def c 44 (d := dH__law_slews) rfl
  obtain ⟨fd__law_over_step, F__law_over_step⟩ := saysP_def c 45 (d := dH__law_over_step) rfl
  obtain ⟨fd__law_steers, F__law_steers⟩ := saysP_def c 46 (d := dH__law_steers) rfl
  obtain ⟨fd__law_negative, F__law_negative⟩ := saysP_def c 47 (d := dH__law_negative) rfl
  obtain ⟨fd__law_bad_slew, F__law_bad_slew⟩ := saysP_def c 48 (d := dH__law_bad_slew) rfl
  obtain ⟨fd__law_bad_drift, F__law_bad_drift⟩ := saysP_def c 49 (d := dH__law_bad_drift) rfl
  obtain ⟨fd__law_bad_steering, F__law_bad_steering⟩ := saysP_def c 50 (d := dH__law_bad_steering) rfl
  obtain ⟨fd__law_alone, F__law_alone⟩ := saysP_def c 51 (d := dH__law_alone) rfl
  obtain ⟨fd__law_classes, F__law_classes⟩ := saysP_def c 52 (d := dH__law_classes) rfl
  obtain ⟨fd__law_not_made, F__law_not_made⟩ := saysP_def c 53 (d := dH__law_not_made) rfl
  obtain ⟨fd__law_refused, F__law_refused⟩ := saysP_def c 54 (d := dH__law_refused) rfl
  obtain ⟨fd__law_look, F__law_look⟩ := saysP_def c 55 (d := dH__law_look) rfl
  obtain ⟨fd__law_bad_calls, F__law_bad_calls⟩ := saysP_def c 56 (d := dH__law_bad_calls) rfl
  obtain ⟨fd_law, F_law⟩ := saysP_def c 57 (d := dH_law) rfl
  obtain ⟨fi_BeforeStart, FI_BeforeStart⟩ := saysP_def c 58 (d := dI_BeforeStart) rfl
  obtain ⟨fi_TurnsBack, FI_TurnsBack⟩ := saysP_def c 59 (d := dI_TurnsBack) rfl
  obtain ⟨fi_BadRate, FI_BadRate⟩ := saysP_def c 60 (d := dI_BadRate) rfl
  obtain ⟨fi_BadBound, FI_BadBound⟩ := saysP_def c 61 (d := dI_BadBound) rfl
  obtain ⟨fm_Steering_init, FM_Steering_init⟩ := saysP_def c 62 (d := dM_Steering_init) rfl
  obtain ⟨fm_Steering_steer, FM_Steering_steer⟩ := saysP_def c 63 (d := dM_Steering_steer) rfl
  obtain ⟨fm_Steering_display, FM_Steering_display⟩ := saysP_def c 64 (d := dM_Steering_display) rfl
  obtain ⟨fm_Steering_error_at, FM_Steering_error_at⟩ := saysP_def c 65 (d := dM_Steering_error_at) rfl
  obtain ⟨fm_Steering_course_of, FM_Steering_course_of⟩ := saysP_def c 66 (d := dM_Steering_course_of) rfl
  obtain ⟨fm_Steering__plan, FM_Steering__plan⟩ := saysP_def c 67 (d := dM_Steering__plan) rfl
  obtain ⟨fm_Steering__jumps_to, FM_Steering__jumps_to⟩ := saysP_def c 68 (d := dM_Steering__jumps_to) rfl
  obtain ⟨fm_Steering_aim, FM_Steering_aim⟩ := saysP_pth c 0 (d := dP_Steering_aim) rfl (exK_at ex 143 rfl)
  have e := hfa.symm.trans g_law
  cases e
  have T : Bn mg := ⟨gcd_ok X G (exK_at ex 0 rfl), z_len, z_abs, z_max, z_int, z_isinstance, z_range, z_enumerate, z_list, z_tuple, z_str, z_bool, z_dict⟩
  have ZZERO : CnZERO K mg (He.ga K "ZERO") := cnZERO g_ZERO (He.tupB_ok (exK_at ex 1 rfl))
  have ZONE : CnONE K mg (He.ga K "ONE") := cnONE g_ONE (He.tupB_ok (exK_at ex 2 rfl))
  have ZHALF : CnHALF K mg (He.ga K "HALF") := cnHALF g_HALF (He.tupB_ok (exK_at ex 3 rfl))
  obtain ⟨ds_rational, rds_rational, bR_rational⟩ := FunD.binds1 (ps := ["n", "d"]) F_rational 2 1 nofun rfl fun T kV doc pm an cdv ct us its hu hi => match us, its, hu, hi with | [_, _], [_], _, _ => ⟨_, rfl, rfl⟩
  cases rds_rational
  obtain ⟨p1_BeforeStart, p2_BeforeStart, eA_BeforeStart⟩ : ∃ p1 p2, defArgs sI_BeforeStart = PySem.ValX.iA p1 p2 := ⟨_, _, rfl⟩
  obtain ⟨q1_BeforeStart, q2_BeforeStart, q3_BeforeStart, q4_BeforeStart, eB_BeforeStart⟩ : ∃ q1 q2 q3 q4, defBody sI_BeforeStart = PySem.ValX.iB q1 q2 q3 q4 := ⟨_, _, _, _, rfl⟩
  have T_BeforeStart : PySem.ValX.ValTxt K mg "BeforeStart" (He.ga K "BeforeStart") (He.ma K (He.ga K "BeforeStart") "__init__") := errB_ok g_BeforeStart (exK_at ex 4 rfl) (init_ok FI_BeforeStart (exK_at ex 5 rfl) eA_BeforeStart eB_BeforeStart rfl)
  obtain ⟨p1_TurnsBack, p2_TurnsBack, eA_TurnsBack⟩ : ∃ p1 p2, defArgs sI_TurnsBack = PySem.ValX.iA p1 p2 := ⟨_, _, rfl⟩
  obtain ⟨q1_TurnsBack, q2_TurnsBack, q3_TurnsBack, q4_TurnsBack, eB_TurnsBack⟩ : ∃ q1 q2 q3 q4, defBody sI_TurnsBack = PySem.ValX.iB q1 q2 q3 q4 := ⟨_, _, _, _, rfl⟩
  have T_TurnsBack : PySem.ValX.ValTxt K mg "TurnsBack" (He.ga K "TurnsBack") (He.ma K (He.ga K "TurnsBack") "__init__") := errB_ok g_TurnsBack (exK_at ex 6 rfl) (init_ok FI_TurnsBack (exK_at ex 7 rfl) eA_TurnsBack eB_TurnsBack rfl)
  obtain ⟨p1_BadRate, p2_BadRate, eA_BadRate⟩ : ∃ p1 p2, defArgs sI_BadRate = PySem.ValX.iA p1 p2 := ⟨_, _, rfl⟩
  obtain ⟨q1_BadRate, q2_BadRate, q3_BadRate, q4_BadRate, eB_BadRate⟩ : ∃ q1 q2 q3 q4, defBody sI_BadRate = PySem.ValX.iB q1 q2 q3 q4 := ⟨_, _, _, _, rfl⟩
  have T_BadRate : PySem.ValX.ValTxt K mg "BadRate" (He.ga K "BadRate") (He.ma K (He.ga K "BadRate") "__init__") := errB_ok g_BadRate (exK_at ex 8 rfl) (init_ok FI_BadRate (exK_at ex 9 rfl) eA_BadRate eB_BadRate rfl)
  obtain ⟨p1_BadBound, p2_BadBound, eA_BadBound⟩ : ∃ p1 p2, defArgs sI_BadBound = PySem.ValX.iA p1 p2 := ⟨_, _, rfl⟩
  obtain ⟨q1_BadBound, q2_BadBound, q3_BadBound, q4_BadBound, eB_BadBound⟩ : ∃ q1 q2 q3 q4, defBody sI_BadBound = PySem.ValX.iB q1 q2 q3 q4 := ⟨_, _, _, _, rfl⟩
  have T_BadBound : PySem.ValX.ValTxt K mg "BadBound" (He.ga K "BadBound") (He.ma K (He.ga K "BadBound") "__init__") := errB_ok g_BadBound (exK_at ex 10 rfl) (init_ok FI_BadBound (exK_at ex 11 rfl) eA_BadBound eB_BadBound rfl)
  have b := FunD.bindsA (ps := ["_law_script"]) F_law fun _ _ _ _ _ _ us hl => match us, hl with | [_], _ => rfl
  refine ⟨fd_law, fun s v => b s [v] rfl, fun base _ _ => ?_⟩
  have D_Steering_init : FunD K "__init__" "Steering.__init__" (defArgs s_Steering_init) (defBody s_Steering_init) (defScope s_Steering_init) [] [("drift", .ref (kwAt ("Steering", some "__init__") "drift" K)), ("step_over", .non)] (He.ma K (He.ga K "Steering") "__init__") fm_Steering_init := FM_Steering_init
  obtain ⟨mvslew, kb_Steering_slew⟩ := D_Steering_init.kbinds0 (ps := ["self", "raw", "shown", "error", "slew", "drift", "step_over"]) 4 ["slew"] [("drift", .ref (kwAt ("Steering", some "__init__") "drift" K)), ("step_over", .non)] (fun us mv ws => us ++ ws ++ mv) nofun (by simp) (fun r1 r2 r3 => (Vals.append (Vals.append r1 r3) r2)) fun D doc pm an cdv ct us mv ws h1 h2 h3 => match us, h1, mv, h2, ws, h3 with | [_, _, _, _], _, [_, _], _, [_], _ => ⟨_, _, _, _, _, _, rfl, rfl, ⟨_, _, _, _, _, _, rfl, rfl, rfl⟩⟩
  have kb_Steering_slew_drift_step_over := kbn_of (n := 4) (ps := ["self", "raw", "shown", "error", "slew", "drift", "step_over"]) (ks := ["slew", "drift", "step_over"]) (meth_of_d (st := s_Steering_init) D_Steering_init) fun _ _ _ _ _ _ us ws h1 h2 => match us, h1, ws, h2 with | [_, _, _, _], _, [_, _, _], _ => rfl
  exact law_ok T ZZERO ZONE ZHALF (funA_of_d (st := s_rational) F_rational) g_rational bR_rational
    T_BeforeStart
    T_TurnsBack
    T_BadRate
    T_BadBound
    (excB_ok (exK_at ex 12 rfl))
    (excB_ok (exK_at ex 13 rfl))
    (excB_ok (exK_at ex 14 rfl))
    (excB_ok (exK_at ex 15 rfl))
    g_ZeroDivisor
    g_BadNumber
    g_EmptySpan
    g_BadName
    g_DuplicateName
    g_UnknownName
    g_BadLink
    g_UnknownLink
    g_BadNote
    g_UnknownMoment
    g_NoWorld
    g_OutsideSpan
    g_TooManyLiars
    g_RootFollows
    g_Condemned
    g_BadDate
    g_BadLeap
    g_BadLabel
    g_NoSuchSecond
    g_BadCells
    g_RefusedEntry
    g_DuplicateTag
    g_UnknownTag
    g_BadLine
    g_NothingToUndo
    g_NothingToRedo
    g_VerdictError
    (of_decide_eq_true (exK_at ex 16 rfl))
    (of_decide_eq_true (exK_at ex 17 rfl))
    (of_decide_eq_true (exK_at ex 18 rfl))
    (of_decide_eq_true (exK_at ex 19 rfl))
    (of_decide_eq_true (exK_at ex 20 rfl))
    (of_decide_eq_true (exK_at ex 21 rfl))
    (of_decide_eq_true (exK_at ex 22 rfl))
    (of_decide_eq_true (exK_at ex 23 rfl))
    (of_decide_eq_true (exK_at ex 24 rfl))
    (of_decide_eq_true (exK_at ex 25 rfl))
    (of_decide_eq_true (exK_at ex 26 rfl))
    (of_decide_eq_true (exK_at ex 27 rfl))
    (of_decide_eq_true (exK_at ex 28 rfl))
    (of_decide_eq_true (exK_at ex 29 rfl))
    (of_decide_eq_true (exK_at ex 30 rfl))
    (of_decide_eq_true (exK_at ex 31 rfl))
    (of_decide_eq_true (exK_at ex 32 rfl))
    (of_decide_eq_true (exK_at ex 33 rfl))
    (of_decide_eq_true (exK_at ex 34 rfl))
    (of_decide_eq_true (exK_at ex 35 rfl))
    (of_decide_eq_true (exK_at ex 36 rfl))
    (of_decide_eq_true (exK_at ex 37 rfl))
    (of_decide_eq_true (exK_at ex 38 rfl))
    (of_decide_eq_true (exK_at ex 39 rfl))
    (of_decide_eq_true (exK_at ex 40 rfl))
    (of_decide_eq_true (exK_at ex 41 rfl))
    (of_decide_eq_true (exK_at ex 42 rfl))
    (of_decide_eq_true (exK_at ex 43 rfl))
    (of_decide_eq_true (exK_at ex 44 rfl))
    (of_decide_eq_true (exK_at ex 45 rfl))
    (of_decide_eq_true (exK_at ex 46 rfl))
    (of_decide_eq_true (exK_at ex 47 rfl))
    (of_decide_eq_true (exK_at ex 48 rfl))
    (of_decide_eq_true (exK_at ex 49 rfl))
    (of_decide_eq_true (exK_at ex 50 rfl))
    (of_decide_eq_true (exK_at ex 51 rfl))
    (of_decide_eq_true (exK_at ex 52 rfl))
    (of_decide_eq_true (exK_at ex 53 rfl))
    (of_decide_eq_true (exK_at ex 54 rfl))
    (of_decide_eq_true (exK_at ex 55 rfl))
    (of_decide_eq_true (exK_at ex 56 rfl))
    (of_decide_eq_true (exK_at ex 57 rfl))
    (of_decide_eq_true (exK_at ex 58 rfl))
    (of_decide_eq_true (exK_at ex 59 rfl))
    (of_decide_eq_true (exK_at ex 60 rfl))
    (of_decide_eq_true (exK_at ex 61 rfl))
    (of_decide_eq_true (exK_at ex 62 rfl))
    (of_decide_eq_true (exK_at ex 63 rfl))
    (of_decide_eq_true (exK_at ex 64 rfl))
    (of_decide_eq_true (exK_at ex 65 rfl))
    (of_decide_eq_true (exK_at ex 66 rfl))
    (of_decide_eq_true (exK_at ex 67 rfl))
    (of_decide_eq_true (exK_at ex 68 rfl))
    (of_decide_eq_true (exK_at ex 69 rfl))
    (of_decide_eq_true (exK_at ex 70 rfl))
    (of_decide_eq_true (exK_at ex 71 rfl))
    (of_decide_eq_true (exK_at ex 72 rfl))
    (of_decide_eq_true (exK_at ex 73 rfl))
    (of_decide_eq_true (exK_at ex 74 rfl))
    (of_decide_eq_true (exK_at ex 75 rfl))
    (of_decide_eq_true (exK_at ex 76 rfl))
    (of_decide_eq_true (exK_at ex 77 rfl))
    (of_decide_eq_true (exK_at ex 78 rfl))
    (of_decide_eq_true (exK_at ex 79 rfl))
    (of_decide_eq_true (exK_at ex 80 rfl))
    (of_decide_eq_true (exK_at ex 81 rfl))
    (of_decide_eq_true (exK_at ex 82 rfl))
    (of_decide_eq_true (exK_at ex 83 rfl))
    (of_decide_eq_true (exK_at ex 84 rfl))
    (of_decide_eq_true (exK_at ex 85 rfl))
    (of_decide_eq_true (exK_at ex 86 rfl))
    (of_decide_eq_true (exK_at ex 87 rfl))
    (of_decide_eq_true (exK_at ex 88 rfl))
    (of_decide_eq_true (exK_at ex 89 rfl))
    (of_decide_eq_true (exK_at ex 90 rfl))
    (of_decide_eq_true (exK_at ex 91 rfl))
    (of_decide_eq_true (exK_at ex 92 rfl))
    (of_decide_eq_true (exK_at ex 93 rfl))
    (of_decide_eq_true (exK_at ex 94 rfl))
    (of_decide_eq_true (exK_at ex 95 rfl))
    (of_decide_eq_true (exK_at ex 96 rfl))
    (of_decide_eq_true (exK_at ex 97 rfl))
    (of_decide_eq_true (exK_at ex 98 rfl))
    (of_decide_eq_true (exK_at ex 99 rfl))
    (of_decide_eq_true (exK_at ex 100 rfl))
    (of_decide_eq_true (exK_at ex 101 rfl))
    (of_decide_eq_true (exK_at ex 102 rfl))
    (of_decide_eq_true (exK_at ex 103 rfl))
    (of_decide_eq_true (exK_at ex 104 rfl))
    (of_decide_eq_true (exK_at ex 105 rfl))
    (of_decide_eq_true (exK_at ex 106 rfl))
    (of_decide_eq_true (exK_at ex 107 rfl))
    (of_decide_eq_true (exK_at ex 108 rfl))
    (of_decide_eq_true (exK_at ex 109 rfl))
    (of_decide_eq_true (exK_at ex 110 rfl))
    (of_decide_eq_true (exK_at ex 111 rfl))
    (of_decide_eq_true (exK_at ex 112 rfl))
    (of_decide_eq_true (exK_at ex 113 rfl))
    (of_decide_eq_true (exK_at ex 114 rfl))
    (of_decide_eq_true (exK_at ex 115 rfl))
    (of_decide_eq_true (exK_at ex 116 rfl))
    (of_decide_eq_true (exK_at ex 117 rfl))
    (of_decide_eq_true (exK_at ex 118 rfl))
    (of_decide_eq_true (exK_at ex 119 rfl))
    (of_decide_eq_true (exK_at ex 120 rfl))
    (of_decide_eq_true (exK_at ex 121 rfl))
    (of_decide_eq_true (exK_at ex 122 rfl))
    (of_decide_eq_true (exK_at ex 123 rfl))
    (of_decide_eq_true (exK_at ex 124 rfl))
    (of_decide_eq_true (exK_at ex 125 rfl))
    (of_decide_eq_true (exK_at ex 126 rfl))
    (of_decide_eq_true (exK_at ex 127 rfl))
    (of_decide_eq_true (exK_at ex 128 rfl))
    (of_decide_eq_true (exK_at ex 129 rfl))
    (of_decide_eq_true (exK_at ex 130 rfl))
    (of_decide_eq_true (exK_at ex 131 rfl))
    (of_decide_eq_true (exK_at ex 132 rfl))
    (of_decide_eq_true (exK_at ex 133 rfl))
    (of_decide_eq_true (exK_at ex 134 rfl))
    (of_decide_eq_true (exK_at ex 135 rfl))
    (of_decide_eq_true (exK_at ex 136 rfl))
    (of_decide_eq_true (exK_at ex 137 rfl))
    (of_decide_eq_true (exK_at ex 138 rfl))
    (of_decide_eq_true (exK_at ex 139 rfl))
    (of_decide_eq_true (exK_at ex 140 rfl))
    (of_decide_eq_true (exK_at ex 141 rfl))
    (fn_of_d (st := s_add) F_add g_add fun _ _ _ _ _ _ us hl => match us, hl with | [_, _], _ => rfl)
    (fn_of_d (st := s_subtract) F_subtract g_subtract fun _ _ _ _ _ _ us hl => match us, hl with | [_, _], _ => rfl)
    (fn_of_d (st := s_multiply) F_multiply g_multiply fun _ _ _ _ _ _ us hl => match us, hl with | [_, _], _ => rfl)
    (fn_of_d (st := s_negate) F_negate g_negate fun _ _ _ _ _ _ us hl => match us, hl with | [_], _ => rfl)
    (fn_of_d (st := s_divide) F_divide g_divide fun _ _ _ _ _ _ us hl => match us, hl with | [_, _], _ => rfl)
    (fn_of_d (st := s_distance) F_distance g_distance fun _ _ _ _ _ _ us hl => match us, hl with | [_, _], _ => rfl)
    (fn_of_d (st := s_compare) F_compare g_compare fun _ _ _ _ _ _ us hl => match us, hl with | [_, _], _ => rfl)
    (fn_of_d (st := s_smaller) F_smaller g_smaller fun _ _ _ _ _ _ us hl => match us, hl with | [_, _], _ => rfl)
    (fn_of_d (st := s_larger) F_larger g_larger fun _ _ _ _ _ _ us hl => match us, hl with | [_, _], _ => rfl)
    (fn_of_d (st := s__shown_by) F__shown_by g__shown_by fun _ _ _ _ _ _ us hl => match us, hl with | [_, _], _ => rfl)
    (fn_of_d (st := s__place_at) F__place_at g__place_at fun _ _ _ _ _ _ us hl => match us, hl with | [_, _], _ => rfl)
    (fn_of_d (st := s__piece_at) F__piece_at g__piece_at fun _ _ _ _ _ _ us hl => match us, hl with | [_, _], _ => rfl)
    (fn_of_d (st := s_shown_at) F_shown_at g_shown_at fun _ _ _ _ _ _ us hl => match us, hl with | [_, _], _ => rfl)
    (fn_of_d (st := s__jump_at) F__jump_at g__jump_at fun _ _ _ _ _ _ us hl => match us, hl with | [_, _], _ => rfl)
    (fn_of_d (st := s_tidy) F_tidy g_tidy fun _ _ _ _ _ _ us hl => match us, hl with | [_], _ => rfl)
    (fn_of_d (st := s_width_of) F_width_of g_width_of fun _ _ _ _ _ _ us hl => match us, hl with | [_], _ => rfl)
    (fn_of_d (st := s_middle_of) F_middle_of g_middle_of fun _ _ _ _ _ _ us hl => match us, hl with | [_], _ => rfl)
    (fn_of_d (st := s_far_end) F_far_end g_far_end fun _ _ _ _ _ _ us hl => match us, hl with | [_, _], _ => rfl)
    (fn_of_d (st := s__higher_low) F__higher_low g__higher_low fun _ _ _ _ _ _ us hl => match us, hl with | [_, _], _ => rfl)
    (fn_of_d (st := s__lower_high) F__lower_high g__lower_high fun _ _ _ _ _ _ us hl => match us, hl with | [_, _], _ => rfl)
    (fn_of_d (st := s_meet) F_meet g_meet fun _ _ _ _ _ _ us hl => match us, hl with | [_, _], _ => rfl)
    (fn_of_d (st := s_require_not_below_zero) F_require_not_below_zero g_require_not_below_zero fun _ _ _ _ _ _ us hl => match us, hl with | [_], _ => rfl)
    (fn_of_d (st := s__require_slew_and_drift) F__require_slew_and_drift g__require_slew_and_drift fun _ _ _ _ _ _ us hl => match us, hl with | [_, _], _ => rfl)
    (fn_of_d (st := s__bound_behind) F__bound_behind g__bound_behind fun _ _ _ _ _ _ us hl => match us, hl with | [_, _, _, _, _], _ => rfl)
    (fn_of_d (st := s__planned) F__planned g__planned fun _ _ _ _ _ _ us hl => match us, hl with | [_, _, _, _], _ => rfl)
    (fn_of_d (st := s__law_store) F__law_store g__law_store fun _ _ _ _ _ _ us hl => match us, hl with | [_], _ => rfl)
    (fn_of_d (st := s__law_feed) F__law_feed g__law_feed fun _ _ _ _ _ _ us hl => match us, hl with | [_], _ => rfl)
    (fn_of_d (st := s__law_mixed) F__law_mixed g__law_mixed fun _ _ _ _ _ _ us hl => match us, hl with | [_], _ => rfl)
    (fn_of_d (st := s__law_take) F__law_take g__law_take fun _ _ _ _ _ _ us hl => match us, hl with | [_, _], _ => rfl)
    (fn_of_d (st := s__law_pick) F__law_pick g__law_pick fun _ _ _ _ _ _ us hl => match us, hl with | [_, _], _ => rfl)
    (fn_of_d (st := s__law_size) F__law_size g__law_size fun _ _ _ _ _ _ us hl => match us, hl with | [_, _, _], _ => rfl)
    (fn_of_d (st := s__law_shuffled) F__law_shuffled g__law_shuffled fun _ _ _ _ _ _ us hl => match us, hl with | [_, _], _ => rfl)
    (fn_of_d (st := s__law_is_int) F__law_is_int g__law_is_int fun _ _ _ _ _ _ us hl => match us, hl with | [_], _ => rfl)
    (fn_of_d (st := s__law_same) F__law_same g__law_same fun _ _ _ _ _ _ us hl => match us, hl with | [_, _], _ => rfl)
    (fn_of_d (st := s__law_frac) F__law_frac g__law_frac fun _ _ _ _ _ _ us hl => match us, hl with | [_, _], _ => rfl)
    (fn_of_d (st := s__law_plus) F__law_plus g__law_plus fun _ _ _ _ _ _ us hl => match us, hl with | [_, _], _ => rfl)
    (fn_of_d (st := s__law_minus) F__law_minus g__law_minus fun _ _ _ _ _ _ us hl => match us, hl with | [_, _], _ => rfl)
    (fn_of_d (st := s__law_times) F__law_times g__law_times fun _ _ _ _ _ _ us hl => match us, hl with | [_, _], _ => rfl)
    (fn_of_d (st := s__law_below) F__law_below g__law_below fun _ _ _ _ _ _ us hl => match us, hl with | [_, _], _ => rfl)
    (fn_of_d (st := s__law_is_frac) F__law_is_frac g__law_is_frac fun _ _ _ _ _ _ us hl => match us, hl with | [_], _ => rfl)
    (fn_of_d (st := s__law_part) F__law_part g__law_part fun _ _ _ _ _ _ us hl => match us, hl with | [_], _ => rfl)
    (fn_of_d (st := s__law_spare) F__law_spare g__law_spare fun _ _ _ _ _ _ us hl => match us, hl with | [_], _ => rfl)
    (fn_of_d (st := s__law_above) F__law_above g__law_above fun _ _ _ _ _ _ us hl => match us, hl with | [_], _ => rfl)
    (fn_of_d (st := s__law_slews) F__law_slews g__law_slews fun _ _ _ _ _ _ us hl => match us, hl with | [_], _ => rfl)
    (fn_of_d (st := s__law_over_step) F__law_over_step g__law_over_step fun _ _ _ _ _ _ us hl => match us, hl with | [_], _ => rfl)
    (fn_of_d (st := s__law_steers) F__law_steers g__law_steers fun _ _ _ _ _ _ us hl => match us, hl with | [_, _, _], _ => rfl)
    (fn_of_d (st := s__law_negative) F__law_negative g__law_negative fun _ _ _ _ _ _ us hl => match us, hl with | [_], _ => rfl)
    (fn_of_d (st := s__law_bad_slew) F__law_bad_slew g__law_bad_slew fun _ _ _ _ _ _ us hl => match us, hl with | [_], _ => rfl)
    (fn_of_d (st := s__law_bad_drift) F__law_bad_drift g__law_bad_drift fun _ _ _ _ _ _ us hl => match us, hl with | [_, _], _ => rfl)
    (fn_of_d (st := s__law_bad_steering) F__law_bad_steering g__law_bad_steering fun _ _ _ _ _ _ us hl => match us, hl with | [_], _ => rfl)
    (fn_of_d (st := s__law_alone) F__law_alone g__law_alone fun _ _ _ _ _ _ us hl => match us, hl with | [_], _ => rfl)
    (fn_of_d (st := s__law_classes) F__law_classes g__law_classes fun _ _ _ _ _ _ us hl => match us, hl with | [_], _ => rfl)
    (fn_of_d (st := s__law_not_made) F__law_not_made g__law_not_made fun _ _ _ _ _ _ us hl => match us, hl with | [_], _ => rfl)
    (fn_of_d (st := s__law_refused) F__law_refused g__law_refused fun _ _ _ _ _ _ us hl => match us, hl with | [_, _, _, _], _ => rfl)
    (fn_of_d (st := s__law_look) F__law_look g__law_look fun _ _ _ _ _ _ us hl => match us, hl with | [_, _, _], _ => rfl)
    (fn_of_d (st := s__law_bad_calls) F__law_bad_calls g__law_bad_calls fun _ _ _ _ _ _ us hl => match us, hl with | [_, _, _, _], _ => rfl)
    (fn_of_d (st := s_law) F_law g_law fun _ _ _ _ _ _ us hl => match us, hl with | [_], _ => rfl)
    z_ValueError
    (of_decide_eq_true (exK_at ex 145 rfl))
    (of_decide_eq_true (exK_at ex 146 rfl))
    (of_decide_eq_true (exK_at ex 147 rfl))
    (of_decide_eq_true (exK_at ex 148 rfl))
    ⟨He.cls_ok (saysP_fact c 106 (f := .cls "Steering") rfl), He.noat_ok (saysP_fact c 108 (f := .noat "Steering" "_slew") rfl), He.noat_ok (saysP_fact c 109 (f := .noat "Steering" "_drift") rfl), He.noat_ok (saysP_fact c 110 (f := .noat "Steering" "_step_over") rfl), He.noat_ok (saysP_fact c 111 (f := .noat "Steering" "_course") rfl), He.noat_ok (saysP_fact c 112 (f := .noat "Steering" "_aim") rfl), He.noat_ok (saysP_fact c 113 (f := .noat "Steering" "_last") rfl), He.noat_ok (saysP_fact c 114 (f := .noat "Steering" "_bound") rfl), He.noat_ok (saysP_fact c 115 (f := .noat "Steering" "_half") rfl)⟩ g_Steering
    (meth_of_d (st := s_Steering_init) D_Steering_init) (He.mkr_ok (saysP_fact c 107 (f := .mkr "Steering") rfl))
    (fun H => rq_raw0 (tupA_ok (exK_at ex 144 rfl) H))
    kb_Steering_slew
    kb_Steering_slew_drift_step_over
    ⟨meth_of_d (st := s_Steering_steer) FM_Steering_steer, He.meth_ok (saysP_fact c 116 (f := .meth "Steering" "steer") rfl), FunD.bindsN (ps := ["self", "raw", "span"]) FM_Steering_steer fun _ _ _ _ _ _ us hl => match us, hl with | [_, _, _], _ => rfl⟩
    ⟨meth_of_d (st := s_Steering_display) FM_Steering_display, He.meth_ok (saysP_fact c 117 (f := .meth "Steering" "display") rfl), FunD.bindsN (ps := ["self", "raw"]) FM_Steering_display fun _ _ _ _ _ _ us hl => match us, hl with | [_, _], _ => rfl⟩
    ⟨meth_of_d (st := s_Steering_error_at) FM_Steering_error_at, He.meth_ok (saysP_fact c 118 (f := .meth "Steering" "error_at") rfl), FunD.bindsN (ps := ["self", "raw"]) FM_Steering_error_at fun _ _ _ _ _ _ us hl => match us, hl with | [_, _], _ => rfl⟩
    ⟨meth_of_d (st := s_Steering_course_of) FM_Steering_course_of, He.meth_ok (saysP_fact c 119 (f := .meth "Steering" "course_of") rfl), FunD.bindsN (ps := ["self"]) FM_Steering_course_of fun _ _ _ _ _ _ us hl => match us, hl with | [_], _ => rfl⟩
    ⟨meth_of_d (st := s_Steering__plan) FM_Steering__plan, He.meth_ok (saysP_fact c 120 (f := .meth "Steering" "_plan") rfl), FunD.bindsN (ps := ["self", "raw", "pieces", "aim", "bound", "half"]) FM_Steering__plan fun _ _ _ _ _ _ us hl => match us, hl with | [_, _, _, _, _, _], _ => rfl⟩
    ⟨meth_of_d (st := s_Steering__jumps_to) FM_Steering__jumps_to, He.meth_ok (saysP_fact c 121 (f := .meth "Steering" "_jumps_to") rfl), FunD.bindsN (ps := ["self", "aim", "shown"]) FM_Steering__jumps_to fun _ _ _ _ _ _ us hl => match us, hl with | [_, _, _], _ => rfl⟩
    (meth_of_d (st := s_Steering_aim) FM_Steering_aim) (prpB_ok (exK_at ex 142 rfl)) (FunD.bindsN (ps := ["self"]) FM_Steering_aim fun _ _ _ _ _ _ us hl => match us, hl with | [_], _ => rfl)
end
end Vk
open PySem PySem.W PySem.Calls PyProof.Rows
set_option maxRecDepth 100000 in
set_option maxHeartbeats 0 in
theorem PySem.Challenge.cw_clockverdict_k36_steering_refusals_holds : PySem.Challenge.rw_clockverdict_k36_steering_refusals.Holds := by
  w_on; o_law
  refine HandSHeadRun.head_imp (r := Vk.RH) (q := Vk.qH) (H := Vk.hkH) (ob := Vk.obH) (M := 20000) (loose := Vk.looseH) (d := HandSHeadRun.topDef (OpenLaw.row PySem.Challenge.rw_clockverdict_k36_steering_refusals).prog 99) (kwd := []) Vk.obP_eq Vk.runH
    (by kernel_rfl) (by kernel_rfl) (by kernel_rfl) (by rfl) (by first | assumption | decide +kernel) (by decide +kernel) ⟨rfl, rfl, rfl, rfl, rfl, by decide +kernel⟩ ?hw ?hc
  case hw => w_witness2
  case hc =>
    refine L2.walk_ofE (l := PySem.Challenge.rw_clockverdict_k36_steering_refusals) (n := 63) (k := 10) (x := "_law_script") (CX := L2.CX0) rfl (by decide) (by kernel_rfl) ⟨rfl, by decide, by decide⟩ ?F (fun _ _ _ _ z => z)
    intro w mg fa h Y G hmg0
    obtain ⟨K, KX, c⟩ := Y
    have hmg : mg ("law" : PySem.Str) = some (.ref fa) := by
      have e : (HandSHeadRun.topDef (OpenLaw.row PySem.Challenge.rw_clockverdict_k36_steering_refusals).prog 99).name = ("law" : PySem.Str) := by kernel_rfl
      rw [← e]
      exact hmg0
    obtain ⟨fd, hb, hF⟩ := Vk.all_mkV (P := (PySem.Challenge.rw_clockverdict_k36_steering_refusals).prog) (w := w) KX G hmg c
    exact ⟨K, fd, Vk.spLaw K, KX, hb, fun H a ns hl _ hS => ⟨a, ns, rfl, hS, hl, fun _ => rfl⟩, hF⟩

