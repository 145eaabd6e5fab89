import PyProof.Rows.All
import Wide.All
import OpenK.AllK
import Wide.FinOn
import HandS.ForMost
import HandS.IsInst
import HandS.Flow
import HandS.Zip
import HandS.Defaults
import HandS.Codes
import HandS.ExcValue
import KE.GoesMore
import PyProof.EnumFor
import PyProof.WalksMore
import HandS.Star
import HandS.More
import HandS.StrMore
import HandS.Text
import PySem.Challenge.RW_unopened_k09_whole_texts_read_back
set_option Elab.async false
set_option linter.all false
set_option maxRecDepth 100000
set_option maxHeartbeats 4000000
namespace Un
open PySem L2 TL
def top (i : Nat) : Stmt := PySem.Challenge.pw_unopened_k09_whole_texts_read_back.main.body.getD i (.Pass ⟨0, 0, 0, 0⟩)
abbrev sBag : Stmt := top 25
abbrev sPull : Stmt := top 26
abbrev sAny : Stmt := top 27
/-! the law's drawing: a bag at b, its cells at c -/
structure BagIs (H : Hp) (b c : Addr) (ns : List Int) (p r s k : Int) : Prop where
  lb : H b = some (.lst [.ref c, .int p, .int r, .int s, .int k])
  lc : H c = some (.lst (ns.map V.int))
  nl : ns.length ≤ 63
  p0 : 0 ≤ p
  s0 : 0 ≤ s
  s1 : s < 2147483648
  r0 : 0 ≤ r
def Bag (H : Hp) (b c : Addr) : Prop := ∃ ns p r s k, BagIs H b c ns p r s k
/-- what was tracked is as it was, the bag aside -/
def Kp (b : Addr) (H H' : Hp) : Prop := ∀ a o, H a = some o → a ≠ b → H' a = some o
theorem Kp.refl (b : Addr) (H : Hp) : Kp b H H := fun _ _ h _ => h
theorem Kp.trans {b : Addr} {H H1 H2 : Hp} (x : Kp b H H1) (y : Kp b H1 H2) : Kp b H H2 := fun a o h n => y a o (x a o h n) n
theorem Same.kp {b : Addr} {H H' : Hp} (x : Same H H') : Kp b H H' := fun a o h _ => x a o h
theorem same_upd {H : Hp} {p : Addr} (h : H p = none) (o : HO) : Same H (upd H p o) := fun b u q => by rw [upd_ne (ne_of_none q h)]; exact q
theorem Bag.ne {H : Hp} {b c : Addr} (B : Bag H b c) : b ≠ c := by
  obtain ⟨ns, p, r, s, k, B⟩ := B
  intro e
  have h1 := B.lb
  rw [e, B.lc] at h1
  cases ns with
  | nil => cases h1
  | cons x t => 
    have := Option.some.inj h1
    cases this
theorem Bag.same {H H' : Hp} {b c : Addr} (B : Bag H b c) (x : Same H H') : Bag H' b c := by
  obtain ⟨ns, p, r, s, k, B⟩ := B
  exact ⟨ns, p, r, s, k, x _ _ B.lb, x _ _ B.lc, B.nl, B.p0, B.s0, B.s1, B.r0⟩
theorem Bag.upd_new {H : Hp} {b c q : Addr} (B : Bag H b c) (h : H q = none) (o : HO) : Bag (upd H q o) b c := B.same (same_upd h o)
theorem Bag.there {H : Hp} {b c : Addr} (B : Bag H b c) : ∃ o, H b = some o := by
  obtain ⟨ns, p, r, s, k, B⟩ := B
  exact ⟨_, B.lb⟩
theorem Bag.fresh {H : Hp} {b c q : Addr} (B : Bag H b c) (h : H q = none) : q ≠ b := by
  obtain ⟨o, e⟩ := B.there
  exact (ne_of_none e h).symm
/-- the bag's list is written -/
theorem BagIs.put {H : Hp} {b c : Addr} {ns : List Int} {p r s k p' r' s' k' : Int} (B : BagIs H b c ns p r s k) (h0 : 0 ≤ p') (h1 : 0 ≤ s') (h2 : s' < 2147483648) (h3 : 0 ≤ r') :
    BagIs (upd H b (.lst [.ref c, .int p', .int r', .int s', .int k'])) b c ns p' r' s' k' := by
  have n : b ≠ c := Bag.ne ⟨ns, p, r, s, k, B⟩
  exact ⟨upd_same, by rw [upd_ne n.symm]; exact B.lc, B.nl, h0, h1, h2, h3⟩
def spPull : Sp := fun vs H Q _ => ∃ (b c : Addr) (many : Int), vs = [.ref b, .int many] ∧ Bag H b c ∧ 0 < many ∧ many < 1073741824 ∧
  ∀ (d : Int) (H' : Hp), 0 ≤ d → d < many → Bag H' b c → Kp b H H' → Q (.int d) H'
section
variable {P : Program} {w : World} {K : PySem.W.Frag} {mg : Str → Option Value} {base : Heap}
theorem scPull : FnScope ["_law_bag_here", "_law_many", "_law_cell", "_law_digit", "_law_seed"] ["_law_bag_here", "_law_many"] (defScope sPull) := ⟨rfl, rfl, rfl, by decide +kernel, rfl, by decide +kernel, by decide +kernel⟩
theorem ok_pull {f : Addr} {fd : FuncData} (F : Fun K "_law_pull" "_law_pull" sPull f fd) (mlen : mg "len" = none) (mint : mg "int" = none) : FnOk P w K mg base CX0 1 f fd ["_law_bag_here", "_law_many"] spPull := by
  refine F.ok scPull (fun vs H Q E h => ?_) (fun cdv A outer s H vs Q E hr h => ?_)
  · obtain ⟨b, c, many, rfl, _⟩ := h
    rfl
  obtain ⟨b, c, many, rfl, ⟨ns, p, r, s, k, B⟩, m0, m1, q⟩ := h
  refine ⟨_, C8.pss_cut (ps_if (PW.pt (pw_and (pt_cmpR op_eq (pe_ix ix_list (pv 0) pe_int (fun _ _ => rfl)) pe_int (nomark _)) (pw_and1 (pt_cmpR op_lt (pe_ix ix_list (pv 0) pe_int (fun _ _ => rfl)) (pe_callB call_len_seq (by rfl) mlen PySem.boot_len (pa_cons (pe_ix ix_list (pv 0) pe_int (fun _ _ => rfl)) pa_nil)) (nomark _)))))
      (pss_cons (ps_set (i := 2) scPull.nd rfl (Or.inl rfl) (pe_ix ix_list (pe_ix ix_list (pv 0) pe_int (fun _ _ => rfl)) (pe_ix ix_list (pv 0) pe_int (fun _ _ => rfl)) (fun _ _ => rfl)))
      (pss_cons (ps_asg (pe_op op_add (pe_ix ix_list (pv 0) pe_int (fun _ _ => rfl)) pe_int) (pg_sub (pv 0) pe_int set_list))
      (pss_one (ps_if (pt_cmpR op_ge (pv 2) (pe_op op_pow pe_int pe_int) (nomark _))
        (pss_one (ps_asg (pv 2) (pg_sub (pv 0) pe_int set_list)))
        (pss_one (ps_asg (pe_op op_mod (pe_callTy call_int1 (by rfl) mint (by decide +kernel) (pa_cons (pe_op op_add (pe_op op_add (pe_op op_mul (pe_ix ix_list (pv 0) pe_int (fun _ _ => rfl)) pe_int) (pe_op op_mul (pe_op op_mod (pe_callTy call_int1 (by rfl) mint (by decide +kernel) (pa_cons (pv 2) pa_nil)) pe_int) pe_int)) pe_int) pa_nil)) pe_int) (pg_sub (pv 0) pe_int set_list)))))))
      pss_nil)
    (pss_cons (ps_if (pt_cmpR op_gt (pe_ix ix_list (pv 0) pe_int (fun _ _ => rfl)) pe_int (nomark _))
      (pss_cons (ps_set (i := 3) scPull.nd rfl (Or.inl rfl) (pe_op op_mod (pe_callTy call_int1 (by rfl) mint (by decide +kernel) (pa_cons (pe_ix ix_list (pv 0) pe_int (fun _ _ => rfl)) pa_nil)) (pv 1)))
      (pss_cons (ps_asg (pe_op op_fdiv (pe_ix ix_list (pv 0) pe_int (fun _ _ => rfl)) (pv 1)) (pg_sub (pv 0) pe_int set_list))
      (pss_one (ps_ret (pv 3)))))
      pss_nil)
    (pss_cons (ps_asg (pe_op op_add (pe_ix ix_list (pv 0) pe_int (fun _ _ => rfl)) pe_int) (pg_sub (pv 0) pe_int set_list))
    (pss_cons (ps_set (i := 4) scPull.nd rfl (Or.inl rfl) (pe_ix ix_list (pv 0) pe_int (fun _ _ => rfl)))
    (pss_cons (ps_asg (pe_op op_mod (pe_callTy call_int1 (by rfl) mint (by decide +kernel) (pa_cons (pe_op op_add (pe_op op_add (pe_op op_add (pe_op op_mul (pe_op op_mul (pv 4) (pv 4)) pe_int) (pe_op op_mul (pv 4) pe_int)) (pe_op op_mul (pe_ix ix_list (pv 0) pe_int (fun _ _ => rfl)) pe_int)) pe_int) pa_nil)) pe_int) (pg_sub (pv 0) pe_int set_list))
    (pss_one (ps_ret (pe_op op_mod (pe_callTy call_int1 (by rfl) mint (by decide +kernel) (pa_cons (pe_op op_add (pe_op op_fdiv (pe_ix ix_list (pv 0) pe_int (fun _ _ => rfl)) pe_int) (pe_op op_mul (pe_op op_mod (pe_callTy call_int1 (by rfl) mint (by decide +kernel) (pa_cons (pe_ix ix_list (pv 0) pe_int (fun _ _ => rfl)) pa_nil)) pe_int) pe_int)) pa_nil)) (pv 1)))))))), ?_⟩
  have r0 : SqL K H b [.ref c, .int p, .int r, .int s, .int k] := SqL.of B.lb
  have rc : SqL K H c (ns.map V.int) := SqL.of B.lc
  refine ⟨fun σ' H2 => ∃ p r s k v2, σ' = [some (.ref b), some (.int many), v2, none, none] ∧ BagIs H2 b c ns p r s k ∧ Kp b H H2, ?_, ?_⟩
  · -- if bag[2] == 0 and bag[1] < len(bag[0])
    refine ⟨.ref b, rfl, b, _, 2, .int r, rfl, rfl, r0, rfl, rfl, _, rfl, ?_⟩
    refine ite2 (fun _ => ?_) (fun _ => ?_)
    case refine_2 => exact iteF ⟨p, r, s, k, none, rfl, B, Kp.refl b H⟩
    refine ⟨.ref b, rfl, b, _, 1, .int p, rfl, rfl, r0, rfl, .ref b, rfl, b, _, 0, .ref c, rfl, rfl, r0, rfl, c, _, rfl, .inl rc, p, _, rfl, rfl, _, rfl, ?_⟩
    refine ite2 (fun hp => ?_) (fun _ => ?_)
    case refine_2 => exact ⟨p, r, s, k, none, rfl, B, Kp.refl b H⟩
    have hp' : p < ((ns.map V.int).length : Int) := of_decide_eq_true hp
    rw [List.length_map] at hp'
    have hpn : p.toNat < ns.length := by have := B.p0; omega
    have hcell : atI (ns.map V.int) p = some (.int ns[p.toNat]) := by
      have e : p = ((p.toNat : Nat) : Int) := by have := B.p0; omega
      have q : atI (ns.map V.int) ((p.toNat : Nat) : Int) = some (.int ns[p.toNat]) := atI_nat (by rw [List.getElem?_map, List.getElem?_eq_getElem hpn] <;> rfl)
      rw [← e] at q
      exact q
    -- cell = bag[0][bag[1]]; bag[1] = bag[1] + 1
    refine ⟨.ref b, rfl, b, _, 0, .ref c, rfl, rfl, r0, rfl, .ref b, rfl, b, _, 1, .int p, rfl, rfl, r0, rfl, c, _, p, _, rfl, rfl, rc, hcell, ?_⟩
    refine ⟨.ref b, rfl, b, _, 1, .int p, rfl, rfl, r0, rfl, p, 1, rfl, rfl, .ref b, rfl, b, _, 1, 1, rfl, rfl, B.lb, rfl, ?_⟩
    have B1 : BagIs (upd H b (.lst [.ref c, .int (p + 1), .int r, .int s, .int k])) b c ns (p + 1) r s k := B.put (by have := B.p0; omega) B.s0 B.s1 B.r0
    have k1 : Kp b H (upd H b (.lst [.ref c, .int (p + 1), .int r, .int s, .int k])) := fun a o e n => by rw [upd_ne n]; exact e
    -- if cell >= 10 ** 18
    refine ⟨_, rfl, 10, 18, rfl, rfl, ⟨by decide, by decide, by decide⟩, _, _, rfl, rfl, _, rfl, ?_⟩
    refine ite2 (fun hg => ?_) (fun _ => ?_)
    · have hg' : ns[p.toNat] ≥ (10 : Int) ^ (18 : Int).toNat := of_decide_eq_true hg
      have hg0 : 0 ≤ ns[p.toNat] := Int.le_trans (by decide) hg'
      refine ⟨_, rfl, .ref b, rfl, b, _, 2, 2, rfl, rfl, B1.lb, rfl, ?_⟩
      have e1 : upd (upd H b (.lst [.ref c, .int (p + 1), .int r, .int s, .int k])) b (.lst [.ref c, .int (p + 1), .int ns[p.toNat], .int s, .int k]) = upd H b (.lst [.ref c, .int (p + 1), .int ns[p.toNat], .int s, .int k]) := upd_upd
      refine ⟨p + 1, ns[p.toNat], s, k, _, rfl, ?_, ?_⟩
      · exact B1.put B1.p0 B.s0 B.s1 hg0
      · exact k1.trans fun a o e n => by rw [upd_ne n]; exact e
    · refine ⟨.ref b, rfl, b, _, 3, .int s, rfl, rfl, SqL.of B1.lb, rfl, s, 48623, rfl, rfl, .inr ⟨by decide, by decide⟩, ?_⟩
      refine ⟨_, rfl, .inl ⟨_, rfl, ?_⟩⟩
      refine ⟨_, 2147483399, rfl, rfl, (by show (0 : Int) < 2147483399; decide), ?_⟩
      refine ⟨_, 15017, rfl, rfl, .inr ⟨by decide, by decide⟩, ?_⟩
      refine ⟨_, _, rfl, rfl, _, 31, rfl, rfl, .inl ⟨_, rfl, ?_⟩⟩
      refine ⟨_, 2147483563, rfl, rfl, (by show (0 : Int) < 2147483563; decide), ?_⟩
      refine ⟨.ref b, rfl, b, _, 3, 3, rfl, rfl, B1.lb, rfl, ?_⟩
      refine ⟨p + 1, r, _, k, _, rfl, B1.put B1.p0 ?_ ?_ B.r0, k1.trans fun a o e n => by rw [upd_ne n]; exact e⟩
      · exact Int.emod_nonneg _ (by decide)
      · exact Int.lt_trans (Int.emod_lt_of_pos _ (by decide)) (by decide)
  · rintro σ' H2 ⟨p, r, s, k, v2, rfl, B, kp⟩
    have r0 : SqL K H2 b [.ref c, .int p, .int r, .int s, .int k] := SqL.of B.lb
    -- if bag[2] > 0
    refine ⟨.ref b, rfl, b, _, 2, .int r, rfl, rfl, r0, rfl, _, _, rfl, rfl, _, rfl, ?_⟩
    refine ite2 (fun _ => ?_) (fun _ => ?_)
    · refine ⟨.ref b, rfl, b, _, 2, .int r, rfl, rfl, r0, rfl, .inl ⟨_, rfl, ?_⟩⟩
      refine ⟨_, rfl, _, _, rfl, rfl, m0, ?_⟩
      refine ⟨.ref b, rfl, b, _, 2, .int r, rfl, rfl, r0, rfl, _, rfl, _, _, rfl, rfl, ⟨m0, m1⟩, ?_⟩
      refine ⟨.ref b, rfl, b, _, 2, 2, rfl, rfl, B.lb, rfl, ?_⟩
      refine ⟨_, rfl, ?_⟩
      exact q _ _ (Int.emod_nonneg _ (by omega)) (Int.emod_lt_of_pos _ m0) ⟨ns, p, _, s, k, B.put B.p0 B.s0 B.s1 (Int.ediv_nonneg B.r0 (by omega))⟩ (kp.trans fun a o e n => by rw [upd_ne n]; exact e)
    · -- bag[4] = bag[4] + 1; seed = bag[3]
      refine ⟨.ref b, rfl, b, _, 4, .int k, rfl, rfl, r0, rfl, k, 1, rfl, rfl, .ref b, rfl, b, _, 4, 4, rfl, rfl, B.lb, rfl, ?_⟩
      have B1 : BagIs (upd H2 b (.lst [.ref c, .int p, .int r, .int s, .int (k + 1)])) b c ns p r s (k + 1) := B.put B.p0 B.s0 B.s1 B.r0
      have k1 : Kp b H (upd H2 b (.lst [.ref c, .int p, .int r, .int s, .int (k + 1)])) := kp.trans fun a o e n => by rw [upd_ne n]; exact e
      refine ⟨.ref b, rfl, b, _, 3, .int s, rfl, rfl, SqL.of B1.lb, rfl, ?_⟩
      have hs0 := B.s0
      have hs1 := B.s1
      refine ⟨_, rfl, _, rfl, _, _, rfl, rfl, .inl ⟨by omega, by omega⟩, _, 7, rfl, rfl, .inr ⟨by decide, by decide⟩, ?_⟩
      refine ⟨_, rfl, _, 31159, rfl, rfl, .inr ⟨by decide, by decide⟩, _, _, rfl, rfl, ?_⟩
      refine ⟨.ref b, rfl, b, _, 4, .int (k + 1), rfl, rfl, SqL.of B1.lb, rfl, _, 1299841, rfl, rfl, .inr ⟨by decide, by decide⟩, _, _, rfl, rfl, ?_⟩
      refine ⟨_, 70003, rfl, rfl, .inl ⟨_, rfl, ?_⟩⟩
      refine ⟨_, 2147483543, rfl, rfl, (by show (0 : Int) < 2147483543; decide), ?_⟩
      refine ⟨.ref b, rfl, b, _, 3, 3, rfl, rfl, B1.lb, rfl, ?_⟩
      have B2 := B1.put (p' := p) (r' := r) (k' := k + 1) B.p0 (Int.emod_nonneg (s * s * 7 + s * 31159 + (k + 1) * 1299841 + 70003) (show (2147483543 : Int) ≠ 0 by decide)) (Int.lt_trans (Int.emod_lt_of_pos _ (by decide)) (by decide)) B.r0
      refine ⟨.ref b, rfl, b, _, 3, _, rfl, rfl, SqL.of B2.lb, rfl, _, 73, rfl, rfl, ⟨by decide, by decide⟩, ?_⟩
      refine ⟨.ref b, rfl, b, _, 3, _, rfl, rfl, SqL.of B2.lb, rfl, .inl ⟨_, rfl, ?_⟩⟩
      refine ⟨_, 7919, rfl, rfl, (by show (0 : Int) < 7919; decide), _, 59, rfl, rfl, .inr ⟨by decide, by decide⟩, ?_⟩
      refine ⟨_, _, rfl, rfl, .inl ⟨_, rfl, ?_⟩⟩
      refine ⟨_, rfl, _, _, rfl, rfl, m0, ?_⟩
      exact q _ _ (Int.emod_nonneg _ (by omega)) (Int.emod_lt_of_pos _ m0) ⟨ns, p, _, _, _, B2⟩ (k1.trans fun a o e n => by rw [upd_ne n]; exact e)

/-! the bag is made -/
theorem cut_ints (ns : List Int) (lo hi : Option Int) : ∃ ms : List Int, cutV (ns.map V.int) lo hi = ms.map V.int ∧ ms.length ≤ ns.length := by
  refine ⟨(ns.drop (HT.sIx ns.length 0 lo)).take (HT.sIx ns.length ns.length hi - HT.sIx ns.length 0 lo), ?_, ?_⟩
  · unfold cutV
    rw [List.length_map, List.map_take, List.map_drop]
  · rw [List.length_take, List.length_drop]
    omega
def spBag (K : PySem.W.Frag) : Sp := fun vs H Q _ => ∃ (a : Addr) (ns : List Int), vs = [.ref a] ∧ SqL K H a (ns.map V.int) ∧ ns.length ≤ 63 ∧
  ∀ (b c : Addr) (H' : Hp), Same H H' → H b = none → H c = none → Bag H' b c → Q (.ref b) H'
theorem scBag : FnScope ["_law_script"] ["_law_script"] (defScope sBag) := ⟨rfl, rfl, rfl, by decide +kernel, rfl, by decide +kernel, by decide +kernel⟩
theorem ok_bag {f : Addr} {fd : FuncData} (F : Fun K "_law_bag" "_law_bag" sBag f fd) (mlen : mg "len" = none) (mlist : mg "list" = none) : FnOk P w K mg base CX0 1 f fd ["_law_script"] (spBag K) := by
  refine F.ok scBag (fun vs H Q E h => ?_) (fun cdv A outer s H vs Q E hr h => ?_)
  · obtain ⟨a, ns, rfl, _⟩ := h
    rfl
  obtain ⟨a, ns, rfl, hS, h63, q⟩ := h
  refine ⟨_, pss_one (ps_ret (pe_lst (pa_cons (pe_callTy call_list_of (by rfl) mlist (by decide +kernel) (pa_cons (pe_slice sl_list (pv 0) po_none (po_some pe_int)) pa_nil)) (pa_cons pe_int (pa_cons pe_int (pa_cons (pe_op op_add pe_int (pe_callB call_len_seq (by rfl) mlen PySem.boot_len (pa_cons (pv 0) pa_nil))) (pa_cons pe_int pa_nil))))))), ?_⟩
  obtain ⟨ms, em, hm⟩ := cut_ints ns none (some 63)
  refine ⟨_, rfl, 63, rfl, a, _, rfl, hS, fun x hx => ?_⟩
  rw [em]
  have s1 := same_upd hx (.lst (ms.map V.int))
  refine ⟨x, _, rfl, .inl (SqL.of upd_same), fun y hy => ?_⟩
  have s2 := s1.trans (same_upd hy (.lst (ms.map V.int)))
  refine ⟨_, rfl, a, _, rfl, .inl (s2.seq hS), _, _, rfl, rfl, (by show 5 ≤ sizeLine; decide), fun b hb => ?_⟩
  have hb0 : H b = none := s2.free hb
  have hyb : y ≠ b := fun e => by
    rw [← e, upd_same] at hb
    cases hb
  refine q b y _ (s2.trans (same_upd hb _)) hb0 (s1.free hy) ⟨ms, 0, 0, _, 0, upd_same, ?_, by omega, by decide, ?_, ?_, by decide⟩
  · rw [upd_ne hyb, upd_same]
  · show (0 : Int) ≤ 12002 + ((ns.map V.int).length : Int)
    omega
  · show 12002 + ((ns.map V.int).length : Int) < 2147483648
    rw [List.length_map]
    omega
/-! one of several things -/
theorem Kp.seqL {b : Addr} {H H' : Hp} (x : Kp b H H') {a : Addr} {xs : List V} (n : a ≠ b) (h : SqL K H a xs) : SqL K H' a xs := by
  rcases h with (h | ⟨o, h⟩) | h
  · exact .inl (.inl (x _ _ h n))
  · exact .inl (.inr ⟨o, x _ _ h n⟩)
  · exact .inr h
theorem Kp.seqT {b : Addr} {H H' : Hp} (x : Kp b H H') {a : Addr} {xs : List V} (n : a ≠ b) (h : SqT K H a xs) : SqT K H' a xs := by
  rcases h with (h | ⟨o, h⟩) | h
  · exact .inl (.inl (x _ _ h n))
  · exact .inl (.inr ⟨o, x _ _ h n⟩)
  · exact .inr h
/-- what may be drawn from -/
def Menu (K : PySem.W.Frag) (H : Hp) (b : Addr) (x : V) (its : List V) : Prop :=
  (∃ a, x = .ref a ∧ a ≠ b ∧ SqL K H a its) ∨ (∃ a, x = .ref a ∧ a ≠ b ∧ SqT K H a its) ∨ (∃ z : Str, x = .str z ∧ z.length ≤ sizeLine ∧ its = z.cps.toList.map (fun c => V.str ⟨#[c]⟩))
def spAny (K : PySem.W.Frag) : Sp := fun vs H Q _ => ∃ (b c : Addr) (x : V) (its : List V), vs = [.ref b, x] ∧ Bag H b c ∧ Menu K H b x its ∧ 0 < its.length ∧ its.length < 1073741824 ∧
  ∀ (y : V) (H' : Hp), y ∈ its → Bag H' b c → Kp b H H' → Q y H'
theorem scAny : FnScope ["_law_bag_here", "_law_things"] ["_law_bag_here", "_law_things"] (defScope sAny) := ⟨rfl, rfl, rfl, by decide +kernel, rfl, by decide +kernel, by decide +kernel⟩
theorem str_len (z : Str) : z.length = z.cps.toList.length := by
  show z.cps.size = _
  rw [Array.length_toList]
theorem ok_any {f g : Addr} {fd gd : FuncData} (F : Fun K "_law_any" "_law_any" sAny f fd) (G : FnOk P w K mg base CX0 1 g gd ["_law_bag_here", "_law_many"] spPull) (bG : Binds K gd ["_law_bag_here", "_law_many"] []) (kG : PySem.W.keepIn K (.ref g) = true) (mG : mg "_law_pull" = some (.ref g))
    (mlen : mg "len" = none) : FnOk P w K mg base CX0 2 f fd ["_law_bag_here", "_law_things"] (spAny K) := by
  refine F.ok scAny (fun vs H Q E h => ?_) (fun cdv A outer s H vs Q E hr h => ?_)
  · obtain ⟨b, c, x, its, rfl, _⟩ := h
    rfl
  obtain ⟨b, c, x, its, rfl, B, M, l0, l1, q⟩ := h
  refine ⟨_, pss_one (ps_ret (pe_ix ix_seq (pv 1) (pe_call G hr (by rfl) mG kG bG .nil pass0 (pa_cons (pv 0) (pa_cons (pe_callB call_len (by rfl) mlen PySem.boot_len (pa_cons (pv 1) pa_nil)) pa_nil))) (fun _ _ => rfl))), ?_⟩
  have hlen : LenV K x H its.length := by
    rcases M with ⟨a, rfl, _, h⟩ | ⟨a, rfl, _, h⟩ | ⟨z, rfl, hz, rfl⟩
    · exact .inl ⟨_, h, rfl⟩
    · exact .inr ⟨_, h, rfl⟩
    · exact ⟨hz, by rw [List.length_map, str_len]⟩
  refine ⟨x, rfl, .ref b, rfl, x, rfl, x, its.length, rfl, hlen, b, c, _, rfl, B, by omega, by omega, fun d H' d0 d1 B' kp => ?_⟩
  have hd : d.toNat < its.length := by omega
  have ed : d = ((d.toNat : Nat) : Int) := by omega
  have hat : atI its d = some its[d.toNat] := by
    have e : atI its ((d.toNat : Nat) : Int) = some its[d.toNat] := atI_nat (by rw [List.getElem?_eq_getElem hd])
    rw [← ed] at e
    exact e
  have fin : Q its[d.toNat] H' := q _ _ (List.getElem_mem hd) B' kp
  rcases M with ⟨a, rfl, na, h⟩ | ⟨a, rfl, na, h⟩ | ⟨z, rfl, hz, rfl⟩
  · exact .inl ⟨a, _, d, _, rfl, rfl, kp.seqL na h, hat, fin⟩
  · exact .inr (.inl ⟨a, _, d, _, rfl, rfl, kp.seqT na h, hat, fin⟩)
  · have hc : d.toNat < z.cps.toList.length := by
      rw [List.length_map] at hd
      exact hd
    have e : atI z.cps.toList ((d.toNat : Nat) : Int) = some z.cps.toList[d.toNat] := atI_nat (by rw [List.getElem?_eq_getElem hc])
    rw [← ed] at e
    have e2 : (z.cps.toList.map (fun c => V.str ⟨#[c]⟩))[d.toNat] = V.str ⟨#[z.cps.toList[d.toNat]]⟩ := by rw [List.getElem_map]
    rw [e2] at fin
    exact .inr (.inr ⟨z, d, _, rfl, rfl, hz, e, fin⟩)
/-! two values that are equal and of the same kinds -/
abbrev sSame : Stmt := top 28
def Leaf : V → Prop
  | .non => True | .bl _ => True | .int _ => True | .str _ => True | _ => False
def Eqv (H : Hp) : Nat → V → V → Prop
  | 0, x, y => Leaf x ∧ x = y
  | n + 1, x, y => (Leaf x ∧ x = y) ∨ ∃ (a b : Addr) (xs ys : List V), x = .ref a ∧ y = .ref b ∧ xs.length = ys.length ∧ xs.length ≤ 100000 ∧ ((H a = some (.lst xs) ∧ H b = some (.lst ys)) ∨ (H a = some (.tup xs) ∧ H b = some (.tup ys))) ∧
      ∀ (i : Nat) (u v : V), xs[i]? = some u → ys[i]? = some v → Eqv H n u v
theorem Eqv.same {H H' : Hp} (s : Same H H') : ∀ {n : Nat} {x y : V}, Eqv H n x y → Eqv H' n x y
  | 0, _, _, h => h
  | n + 1, _, _, h => by
    rcases h with h | ⟨a, b, xs, ys, e1, e2, l, z, h, k⟩
    · exact .inl h
    · refine .inr ⟨a, b, xs, ys, e1, e2, l, z, ?_, fun i u v hu hv => Eqv.same s (k i u v hu hv)⟩
      rcases h with ⟨h1, h2⟩ | ⟨h1, h2⟩
      · exact .inl ⟨s _ _ h1, s _ _ h2⟩
      · exact .inr ⟨s _ _ h1, s _ _ h2⟩
theorem Eqv.leaf {H : Hp} {x : V} (h : Leaf x) : ∀ n, Eqv H n x x
  | 0 => ⟨h, rfl⟩
  | _ + 1 => .inl ⟨h, rfl⟩
def spSame : Nat → Sp
  | 0 => fun _ _ _ _ => False
  | n + 1 => fun vs H Q _ => ∃ (x y : V), vs = [x, y] ∧ Eqv H n x y ∧ ∀ H', Same H H' → Q (.bl true) H'
theorem kitLT {K : PySem.W.Frag} {a : String} {r1 r2 : Bool} (h1 : kitB a "list" = some r1) (h2 : kitB a "tuple" = some r2) : PySem.W.kitAny K (.type a) [.type "list", .type "tuple"] = some (r1 || r2) := by
  cases r1 with
  | true => exact kitAny_cons (kit_ty h1) (fun z => nomatch z) (fun _ => rfl)
  | false =>
    refine kitAny_cons (kit_ty h1) (fun _ => ?_) (fun z => nomatch z)
    cases r2 with
    | true => exact kitAny_cons (kit_ty h2) (fun z => nomatch z) (fun _ => rfl)
    | false => exact kitAny_cons (kit_ty h2) (fun _ => kitAny_nil) (fun z => nomatch z)
/-- a comprehension over zip, turn by turn -/
theorem lc_zipL {K : PySem.W.Frag} {a b : Addr} {xs ys : List V} {g : TG} {te : TE} {vs : List Nat} {σ : L2.St} {H1 : Hp} {D : Addr} {Qd : Hp → Prop} (hl : xs.length = ys.length) (Pv : Nat → Hp → Prop) (h0 : Pv 0 (upd H1 D (.lst []))) (hq : ∀ i H, Pv i H → SqL K H a xs ∧ SqL K H b ys)
    (hs : ∀ (i : Nat) (x y : V) (T : Addr) (H : Hp), xs[i]? = some x → ys[i]? = some y → Pv i H → H T = none → g (.ref T) (wipe σ vs) (upd H T (.tup [x, y])) fun σ2 H2 => wipe σ2 vs = wipe σ vs ∧ te σ2 H2 fun y H4 => ∃ acc, H4 D = some (.lst acc) ∧ acc.length < sizeLine ∧ Pv (i + 1) (upd H4 D (.lst (acc ++ [y])))) (hd : ∀ H, Pv xs.length H → Qd H) :
    ∃ W : Nat → Nat → Hp → Prop, (∃ m, W 0 m (upd H1 D (.lst []))) ∧ ∀ i m H, W i m H →
      ((Itz K a b).stop i H ∧ Qd H) ∨ ((Itz K a b).go i H ∧ ∃ Nx : Hp → Prop, (∀ H', Nx H' → ∃ m', m' < m ∧ W (i + 1) m' H') ∧ ∀ x H', (Itz K a b).yld i H x H' → g x (wipe σ vs) H' fun σ2 H2 => wipe σ2 vs = wipe σ vs ∧ tYes σ2 H2 fun b H3 =>
        if b = true then te σ2 H3 fun y H4 => ∃ acc, H4 D = some (.lst acc) ∧ acc.length < sizeLine ∧ Nx (upd H4 D (.lst (acc ++ [y]))) else Nx H3) := by
  refine ⟨fun i m H => m = xs.length - i ∧ i ≤ xs.length ∧ Pv i H, ⟨xs.length, rfl, Nat.zero_le _, h0⟩, ?_⟩
  rintro i m H ⟨rfl, hi, p⟩
  obtain ⟨qx, qy⟩ := hq i H p
  by_cases hlt : i < xs.length
  · have hx : xs[i]? = some xs[i] := List.getElem?_eq_getElem hlt
    have hlt2 : i < ys.length := by omega
    have hy : ys[i]? = some ys[i] := List.getElem?_eq_getElem hlt2
    refine .inr ⟨⟨xs, ys, _, _, qx, qy, hx, hy⟩, Pv (i + 1), fun H' p' => ⟨xs.length - (i + 1), by omega, rfl, hlt, p'⟩, fun v H' y => ?_⟩
    obtain ⟨T, x', y', rfl, hT, rfl, f1, f2⟩ := y
    exact hs i x' y' T H (f1 xs qx) (f2 ys qy) p hT
  · have e : i = xs.length := by omega
    subst e
    exact .inl ⟨⟨xs, ys, qx, qy, Or.inl (Nat.le_refl _)⟩, hd H p⟩
theorem lc_zipT {K : PySem.W.Frag} {a b : Addr} {xs ys : List V} {g : TG} {te : TE} {vs : List Nat} {σ : L2.St} {H1 : Hp} {D : Addr} {Qd : Hp → Prop} (hl : xs.length = ys.length) (Pv : Nat → Hp → Prop) (h0 : Pv 0 (upd H1 D (.lst []))) (hq : ∀ i H, Pv i H → SqT K H a xs ∧ SqT K H b ys)
    (hs : ∀ (i : Nat) (x y : V) (T : Addr) (H : Hp), xs[i]? = some x → ys[i]? = some y → Pv i H → H T = none → g (.ref T) (wipe σ vs) (upd H T (.tup [x, y])) fun σ2 H2 => wipe σ2 vs = wipe σ vs ∧ te σ2 H2 fun y H4 => ∃ acc, H4 D = some (.lst acc) ∧ acc.length < sizeLine ∧ Pv (i + 1) (upd H4 D (.lst (acc ++ [y])))) (hd : ∀ H, Pv xs.length H → Qd H) :
    ∃ W : Nat → Nat → Hp → Prop, (∃ m, W 0 m (upd H1 D (.lst []))) ∧ ∀ i m H, W i m H →
      ((RZ.ItzT K a b).stop i H ∧ Qd H) ∨ ((RZ.ItzT K a b).go i H ∧ ∃ Nx : Hp → Prop, (∀ H', Nx H' → ∃ m', m' < m ∧ W (i + 1) m' H') ∧ ∀ x H', (RZ.ItzT K a b).yld i H x H' → g x (wipe σ vs) H' fun σ2 H2 => wipe σ2 vs = wipe σ vs ∧ tYes σ2 H2 fun b H3 =>
        if b = true then te σ2 H3 fun y H4 => ∃ acc, H4 D = some (.lst acc) ∧ acc.length < sizeLine ∧ Nx (upd H4 D (.lst (acc ++ [y]))) else Nx H3) := by
  refine ⟨fun i m H => m = xs.length - i ∧ i ≤ xs.length ∧ Pv i H, ⟨xs.length, rfl, Nat.zero_le _, h0⟩, ?_⟩
  rintro i m H ⟨rfl, hi, p⟩
  obtain ⟨qx, qy⟩ := hq i H p
  by_cases hlt : i < xs.length
  · have hx : xs[i]? = some xs[i] := List.getElem?_eq_getElem hlt
    have hlt2 : i < ys.length := by omega
    have hy : ys[i]? = some ys[i] := List.getElem?_eq_getElem hlt2
    refine .inr ⟨⟨xs, ys, _, _, qx, qy, hx, hy⟩, Pv (i + 1), fun H' p' => ⟨xs.length - (i + 1), by omega, rfl, hlt, p'⟩, fun v H' y => ?_⟩
    obtain ⟨T, x', y', rfl, hT, rfl, f1, f2⟩ := y
    exact hs i x' y' T H (f1 xs qx) (f2 ys qy) p hT
  · have e : i = xs.length := by omega
    subst e
    exact .inl ⟨⟨xs, ys, qx, qy, Or.inl (Nat.le_refl _)⟩, hd H p⟩
/-- the built-in names that _law_same reads -/
structure SameTxt (mg : Str → Option Value) : Prop where
  isi : mg "isinstance" = none
  list : mg "list" = none
  tuple : mg "tuple" = none
  len : mg "len" = none
  all : mg "all" = none
  zip : mg "zip" = none
  bool : mg "bool" = none
  int : mg "int" = none
  str : mg "str" = none
theorem scSame : FnScope ["_law_found", "_law_due", "_law_one", "_law_two"] ["_law_found", "_law_due"] (defScope sSame) := ⟨rfl, rfl, rfl, by decide +kernel, rfl, by decide +kernel, by decide +kernel⟩
theorem all_true (n : Nat) : (List.replicate n true).all id = true := by
  induction n with
  | zero => rfl
  | succ n ih => rw [List.replicate_succ, List.all_cons, ih]; rfl
theorem ok_same {f : Addr} {fd : FuncData} {n : Nat} (F : Fun K "_law_same" "_law_same" sSame f fd) (T : SameTxt mg) (G : FnOk P w K mg base CX0 n f fd ["_law_found", "_law_due"] (spSame n)) (bG : Binds K fd ["_law_found", "_law_due"] []) (kG : PySem.W.keepIn K (.ref f) = true) (mG : mg "_law_same" = some (.ref f)) :
    FnOk P w K mg base CX0 (n + 1) f fd ["_law_found", "_law_due"] (spSame (n + 1)) := by
  refine F.ok scSame (fun vs H Q E h => ?_) (fun cdv A outer s H vs Q E hr h => ?_)
  · obtain ⟨x, y, rfl, _⟩ := h
    rfl
  obtain ⟨x, y, rfl, e, q⟩ := h
  refine ⟨_, pss_cons (ps_if (pt_val (pe_callB call_isiT (by rfl) T.isi (by decide +kernel) (pa_cons (pv 1) (pa_cons (pe_tup (pa_cons (pe_bltn (v := .ty "list") (by rfl) T.list (by decide +kernel) rfl) (pa_cons (pe_bltn (v := .ty "tuple") (by rfl) T.tuple (by decide +kernel) rfl) pa_nil))) pa_nil))))
      (pss_cons (ps_if (PW.pt (pw_or (pt_cmpR op_ne (pe_callB call_isi (by rfl) T.isi (by decide +kernel) (pa_cons (pv 0) (pa_cons (pe_bltn (v := .ty "list") (by rfl) T.list (by decide +kernel) rfl) pa_nil))) (pe_callB call_isi (by rfl) T.isi (by decide +kernel) (pa_cons (pv 1) (pa_cons (pe_bltn (v := .ty "list") (by rfl) T.list (by decide +kernel) rfl) pa_nil))) (nomark _))
          (pw_or1 (pt_cmpR op_ne (pe_callB call_isi (by rfl) T.isi (by decide +kernel) (pa_cons (pv 0) (pa_cons (pe_bltn (v := .ty "tuple") (by rfl) T.tuple (by decide +kernel) rfl) pa_nil))) (pe_callB call_isi (by rfl) T.isi (by decide +kernel) (pa_cons (pv 1) (pa_cons (pe_bltn (v := .ty "tuple") (by rfl) T.tuple (by decide +kernel) rfl) pa_nil))) (nomark _)))))
          (pss_one (ps_ret pe_bl)) pss_nil)
      (pss_one (ps_ret (pe_and (pe_cmpR op_eq (pe_callB call_len_seq (by rfl) T.len PySem.boot_len (pa_cons (pv 0) pa_nil)) (pe_callB call_len_seq (by rfl) T.len PySem.boot_len (pa_cons (pv 1) pa_nil)) (nomark _)) (pe_one (pe_callB (cr_all rfl) (by rfl) T.all (by decide +kernel) (pa_cons
          (pe_lc (own := [("_law_one", 2), ("_law_two", 3)]) (g := gTup K 2 (gCons (gName 2) (gCons (gName 3) gNil))) rfl scSame.nd (RZ.pi_zipA (by rfl) T.zip (pa_cons (pv 0) (pa_cons (pv 1) pa_nil))) (blkOk_by (own := [("_law_one", 2), ("_law_two", 3)]) (N := ["_law_found", "_law_due", "_law_one", "_law_two"]) (sc := defScope sSame) (by decide +kernel))
            (fun _ _ _ _ _ => pg_tup (n := 2) rfl (pgs_cons (pg_name (i := 2) scSame.nd rfl (Or.inl rfl) (Or.inr rfl)) (pgs_cons (pg_name (i := 3) scSame.nd rfl (Or.inl rfl) (Or.inr rfl)) pgs_nil))) (fun _ _ _ _ _ => pts_nil)
            (fun _ _ _ _ _ => pe_call G hr (by rfl) mG kG bG .nil pass0 (pa_cons (pv 2) (pa_cons (pv 3) pa_nil)))) pa_nil)))))))
      pss_nil)
    (pss_cons (ps_if (PW.pt (pw_or (pt_cmpR op_isN (pv 1) pe_non (nomark _)) (pw_or1 (pt_cmpR op_isN (pv 0) pe_non (nomark _))))) (pss_one (ps_ret (pe_and (pe_cmpR op_isN (pv 1) pe_non (nomark _)) (pe_one (pe_cmpR op_isN (pv 0) pe_non (nomark _)))))) pss_nil)
    (pss_cons (ps_if (PW.pt (pw_or (pt_cmpR op_ne (pe_callB call_isi (by rfl) T.isi (by decide +kernel) (pa_cons (pv 0) (pa_cons (pe_bltn (v := .ty "bool") (by rfl) T.bool (by decide +kernel) rfl) pa_nil))) (pe_callB call_isi (by rfl) T.isi (by decide +kernel) (pa_cons (pv 1) (pa_cons (pe_bltn (v := .ty "bool") (by rfl) T.bool (by decide +kernel) rfl) pa_nil))) (nomark _))
          (pw_or1 (pt_cmpR op_ne (pe_callB call_isi (by rfl) T.isi (by decide +kernel) (pa_cons (pv 0) (pa_cons (pe_bltn (v := .ty "int") (by rfl) T.int (by decide +kernel) rfl) pa_nil))) (pe_callB call_isi (by rfl) T.isi (by decide +kernel) (pa_cons (pv 1) (pa_cons (pe_bltn (v := .ty "int") (by rfl) T.int (by decide +kernel) rfl) pa_nil))) (nomark _)))))
          (pss_one (ps_ret pe_bl)) pss_nil)
    (pss_one (ps_ret (pe_and (pe_cmpR op_eq (pe_callB call_isi (by rfl) T.isi (by decide +kernel) (pa_cons (pv 0) (pa_cons (pe_bltn (v := .ty "str") (by rfl) T.str (by decide +kernel) rfl) pa_nil))) (pe_callB call_isi (by rfl) T.isi (by decide +kernel) (pa_cons (pv 1) (pa_cons (pe_bltn (v := .ty "str") (by rfl) T.str (by decide +kernel) rfl) pa_nil))) (nomark _)) (pe_one (pe_cmpR op_eq (pv 0) (pv 1) (nomark _)))))))), ?_⟩
  have ht : ∀ t, H t = none → Same H (upd H t (.tup [.ty "list", .ty "tuple"])) := fun t h => same_upd h _
  have hz : ([V.ty "list", V.ty "tuple"] : List V).length ≤ sizeLine := by show 2 ≤ sizeLine; decide
  have kinds : (Leaf x ∧ x = y) ∨ ∃ (m : Nat) (a b : Addr) (xs ys : List V), n = m + 1 ∧ x = .ref a ∧ y = .ref b ∧ xs.length = ys.length ∧ xs.length ≤ 100000 ∧ ((H a = some (.lst xs) ∧ H b = some (.lst ys)) ∨ (H a = some (.tup xs) ∧ H b = some (.tup ys))) ∧
      ∀ (i : Nat) (u v : V), xs[i]? = some u → ys[i]? = some v → Eqv H m u v := by
    cases n with
    | zero => exact .inl e
    | succ m =>
      rcases e with e | ⟨a, b, xs, ys, e⟩
      · exact .inl e
      · exact .inr ⟨m, a, b, xs, ys, rfl, e⟩
  rcases kinds with ⟨lx, exy⟩ | ⟨m, a, b, xs, ys, rfl, rfl, rfl, hl, h100, hk, el⟩
  · subst exy
    cases x with
    | non =>
      refine ⟨_, rfl, hz, fun t h => ?_⟩
      refine ⟨_, t, _, _, [.type "list", .type "tuple"], _, rfl, upd_same, .cons (.ty _) (.cons (.ty _) .nil), (.base .non), kitLT (r1 := false) (r2 := false) (by decide +kernel) (by decide +kernel), ?_⟩
      refine ⟨_, rfl, iteF ?_⟩
      refine ⟨_, rfl, rfl, _, rfl, iteT ?_⟩
      refine ⟨_, rfl, rfl, _, rfl, iteT ?_⟩
      refine ⟨_, rfl, rfl, ?_⟩
      exact q _ (ht t h)
    | bl z =>
      refine ⟨_, rfl, hz, fun t h => ?_⟩
      refine ⟨_, t, _, _, [.type "list", .type "tuple"], _, rfl, upd_same, .cons (.ty _) (.cons (.ty _) .nil), (.base (.bl z)), kitLT (r1 := false) (r2 := false) (by decide +kernel) (by decide +kernel), ?_⟩
      refine ⟨_, rfl, iteF ?_⟩
      refine ⟨_, rfl, rfl, _, rfl, iteF ?_⟩
      refine ⟨_, rfl, rfl, _, rfl, iteF ?_⟩
      refine ⟨_, rfl, _, _, _, _, true, rfl, .ty _, (.base (.bl z)), kit_ty (by decide +kernel), _, rfl, _, _, _, _, true, rfl, .ty _, (.base (.bl z)), kit_ty (by decide +kernel), rfl, _, rfl, iteF ?_⟩
      refine ⟨_, rfl, _, _, _, _, true, rfl, .ty _, (.base (.bl z)), kit_ty (by decide +kernel), _, rfl, _, _, _, _, true, rfl, .ty _, (.base (.bl z)), kit_ty (by decide +kernel), rfl, _, rfl, iteF ?_⟩
      refine ⟨_, rfl, _, _, _, _, false, rfl, .ty _, (.base (.bl z)), kit_ty (by decide +kernel), _, rfl, _, _, _, _, false, rfl, .ty _, (.base (.bl z)), kit_ty (by decide +kernel), rfl, _, rfl, iteT ?_⟩
      refine ⟨_, rfl, _, rfl, rfl, ?_⟩
      rw [decide_eq_true rfl]
      exact q _ (ht t h)
    | int z =>
      refine ⟨_, rfl, hz, fun t h => ?_⟩
      refine ⟨_, t, _, _, [.type "list", .type "tuple"], _, rfl, upd_same, .cons (.ty _) (.cons (.ty _) .nil), (.base (.int z)), kitLT (r1 := false) (r2 := false) (by decide +kernel) (by decide +kernel), ?_⟩
      refine ⟨_, rfl, iteF ?_⟩
      refine ⟨_, rfl, rfl, _, rfl, iteF ?_⟩
      refine ⟨_, rfl, rfl, _, rfl, iteF ?_⟩
      refine ⟨_, rfl, _, _, _, _, false, rfl, .ty _, (.base (.int z)), kit_ty (by decide +kernel), _, rfl, _, _, _, _, false, rfl, .ty _, (.base (.int z)), kit_ty (by decide +kernel), rfl, _, rfl, iteF ?_⟩
      refine ⟨_, rfl, _, _, _, _, true, rfl, .ty _, (.base (.int z)), kit_ty (by decide +kernel), _, rfl, _, _, _, _, true, rfl, .ty _, (.base (.int z)), kit_ty (by decide +kernel), rfl, _, rfl, iteF ?_⟩
      refine ⟨_, rfl, _, _, _, _, false, rfl, .ty _, (.base (.int z)), kit_ty (by decide +kernel), _, rfl, _, _, _, _, false, rfl, .ty _, (.base (.int z)), kit_ty (by decide +kernel), rfl, _, rfl, iteT ?_⟩
      refine ⟨_, rfl, _, rfl, rfl, ?_⟩
      rw [decide_eq_true rfl]
      exact q _ (ht t h)
    | str z =>
      refine ⟨_, rfl, hz, fun t h => ?_⟩
      refine ⟨_, t, _, _, [.type "list", .type "tuple"], _, rfl, upd_same, .cons (.ty _) (.cons (.ty _) .nil), (.base (.str z)), kitLT (r1 := false) (r2 := false) (by decide +kernel) (by decide +kernel), ?_⟩
      refine ⟨_, rfl, iteF ?_⟩
      refine ⟨_, rfl, rfl, _, rfl, iteF ?_⟩
      refine ⟨_, rfl, rfl, _, rfl, iteF ?_⟩
      refine ⟨_, rfl, _, _, _, _, false, rfl, .ty _, (.base (.str z)), kit_ty (by decide +kernel), _, rfl, _, _, _, _, false, rfl, .ty _, (.base (.str z)), kit_ty (by decide +kernel), rfl, _, rfl, iteF ?_⟩
      refine ⟨_, rfl, _, _, _, _, false, rfl, .ty _, (.base (.str z)), kit_ty (by decide +kernel), _, rfl, _, _, _, _, false, rfl, .ty _, (.base (.str z)), kit_ty (by decide +kernel), rfl, _, rfl, iteF ?_⟩
      refine ⟨_, rfl, _, _, _, _, true, rfl, .ty _, (.base (.str z)), kit_ty (by decide +kernel), _, rfl, _, _, _, _, true, rfl, .ty _, (.base (.str z)), kit_ty (by decide +kernel), rfl, _, rfl, iteT ?_⟩
      refine ⟨_, rfl, _, rfl, rfl, ?_⟩
      rw [decide_eq_true rfl]
      exact q _ (ht t h)
    | _ => exact lx.elim
  · -- what a turn brings: the item's answer True is appended
    have turn : ∀ (D : Addr), H D = none → ∀ (i : Nat) (u v : V) (T : Addr) (H2 : Hp), xs[i]? = some u → ys[i]? = some v → (Same H H2 ∧ H2 D = some (.lst (List.replicate i (.bl true)))) → H2 T = none → True := fun _ _ _ _ _ _ _ _ _ _ _ => trivial
    rcases hk with ⟨ha, hb⟩ | ⟨ha, hb⟩
    · refine ⟨_, rfl, hz, fun t h => ?_⟩
      have s1 := ht t h
      refine ⟨_, t, _, _, [.type "list", .type "tuple"], _, rfl, upd_same, .cons (.ty _) (.cons (.ty _) .nil), (.base (.lst (s1 _ _ hb))), kitLT (r1 := true) (r2 := false) (by decide +kernel) (by decide +kernel), ?_⟩
      refine ⟨_, rfl, iteT ?_⟩
      refine ⟨_, rfl, _, _, _, _, true, rfl, .ty _, (.base (.lst (s1 _ _ ha))), kit_ty (by decide +kernel), _, rfl, _, _, _, _, true, rfl, .ty _, (.base (.lst (s1 _ _ hb))), kit_ty (by decide +kernel), rfl, _, rfl, iteF ?_⟩
      refine ⟨_, rfl, _, _, _, _, false, rfl, .ty _, (.base (.lst (s1 _ _ ha))), kit_ty (by decide +kernel), _, rfl, _, _, _, _, false, rfl, .ty _, (.base (.lst (s1 _ _ hb))), kit_ty (by decide +kernel), rfl, _, rfl, iteF ?_⟩
      refine ⟨_, rfl, a, _, rfl, .inl (SqL.of (s1 _ _ ha)), _, rfl, b, _, rfl, .inl (SqL.of (s1 _ _ hb)), rfl, _, rfl, ?_⟩
      rw [show decide (V.int ((xs.length : Nat) : Int) = V.int ((ys.length : Nat) : Int)) = true from decide_eq_true (by rw [hl])]
      refine iteT ?_
      refine ⟨_, rfl, _, rfl, a, b, xs, ys, rfl, .inl ⟨SqL.of (s1 _ _ ha), SqL.of (s1 _ _ hb), fun D hD => ?_⟩⟩
      have s2 := s1.trans (same_upd hD (.lst []))
      refine lc_zipL hl (fun i H2 => Same H H2 ∧ H2 D = some (.lst (List.replicate i (.bl true)))) ⟨s2, upd_same⟩ (fun i H2 ⟨s3, _⟩ => ⟨SqL.of (s3 _ _ ha), SqL.of (s3 _ _ hb)⟩) (fun i u v T H2 hu hv ⟨s3, hD2⟩ hT => ?_) (fun H2 ⟨s3, hD2⟩ => ?_)
      · refine ⟨T, [u, v], rfl, SqT.of upd_same, rfl, u, [v], rfl, v, [], rfl, rfl, rfl, ?_⟩
        have s4 := s3.trans (same_upd hT (.tup [u, v]))
        refine ⟨_, rfl, _, rfl, u, v, rfl, (el i u v hu hv).same s4, fun H3 s5 => ?_⟩
        have hDT : D ≠ T := ne_of_none hD2 hT
        refine ⟨_, s5 _ _ (by rw [upd_ne hDT]; exact hD2), ?_, fun c o e => ?_, ?_⟩
        · rw [List.length_replicate]
          have : i < xs.length := (List.getElem?_eq_some_iff.mp hu).1
          exact Nat.lt_of_lt_of_le (show i < 100000 by omega) (by decide)
        · have nc : c ≠ D := ne_of_none e (s1.free hD)
          rw [upd_ne nc]
          exact s5 _ _ (s4 _ _ e)
        · rw [upd_same, ← List.replicate_succ']
      · refine ⟨D, List.replicate xs.length true, rfl, SqL.of (by rw [hD2, List.map_replicate]), ?_⟩
        rw [all_true]
        exact q _ s3
    · refine ⟨_, rfl, hz, fun t h => ?_⟩
      have s1 := ht t h
      refine ⟨_, t, _, _, [.type "list", .type "tuple"], _, rfl, upd_same, .cons (.ty _) (.cons (.ty _) .nil), (.base (.tup (s1 _ _ hb))), kitLT (r1 := false) (r2 := true) (by decide +kernel) (by decide +kernel), ?_⟩
      refine ⟨_, rfl, iteT ?_⟩
      refine ⟨_, rfl, _, _, _, _, false, rfl, .ty _, (.base (.tup (s1 _ _ ha))), kit_ty (by decide +kernel), _, rfl, _, _, _, _, false, rfl, .ty _, (.base (.tup (s1 _ _ hb))), kit_ty (by decide +kernel), rfl, _, rfl, iteF ?_⟩
      refine ⟨_, rfl, _, _, _, _, true, rfl, .ty _, (.base (.tup (s1 _ _ ha))), kit_ty (by decide +kernel), _, rfl, _, _, _, _, true, rfl, .ty _, (.base (.tup (s1 _ _ hb))), kit_ty (by decide +kernel), rfl, _, rfl, iteF ?_⟩
      refine ⟨_, rfl, a, _, rfl, .inr (SqT.of (s1 _ _ ha)), _, rfl, b, _, rfl, .inr (SqT.of (s1 _ _ hb)), rfl, _, rfl, ?_⟩
      rw [show decide (V.int ((xs.length : Nat) : Int) = V.int ((ys.length : Nat) : Int)) = true from decide_eq_true (by rw [hl])]
      refine iteT ?_
      refine ⟨_, rfl, _, rfl, a, b, xs, ys, rfl, .inr ⟨SqT.of (s1 _ _ ha), SqT.of (s1 _ _ hb), fun D hD => ?_⟩⟩
      have s2 := s1.trans (same_upd hD (.lst []))
      refine lc_zipT hl (fun i H2 => Same H H2 ∧ H2 D = some (.lst (List.replicate i (.bl true)))) ⟨s2, upd_same⟩ (fun i H2 ⟨s3, _⟩ => ⟨SqT.of (s3 _ _ ha), SqT.of (s3 _ _ hb)⟩) (fun i u v T H2 hu hv ⟨s3, hD2⟩ hT => ?_) (fun H2 ⟨s3, hD2⟩ => ?_)
      · refine ⟨T, [u, v], rfl, SqT.of upd_same, rfl, u, [v], rfl, v, [], rfl, rfl, rfl, ?_⟩
        have s4 := s3.trans (same_upd hT (.tup [u, v]))
        refine ⟨_, rfl, _, rfl, u, v, rfl, (el i u v hu hv).same s4, fun H3 s5 => ?_⟩
        have hDT : D ≠ T := ne_of_none hD2 hT
        refine ⟨_, s5 _ _ (by rw [upd_ne hDT]; exact hD2), ?_, fun c o e => ?_, ?_⟩
        · rw [List.length_replicate]
          have : i < xs.length := (List.getElem?_eq_some_iff.mp hu).1
          exact Nat.lt_of_lt_of_le (show i < 100000 by omega) (by decide)
        · have nc : c ≠ D := ne_of_none e (s1.free hD)
          rw [upd_ne nc]
          exact s5 _ _ (s4 _ _ e)
        · rw [upd_same, ← List.replicate_succ']
      · refine ⟨D, List.replicate xs.length true, rfl, SqL.of (by rw [hD2, List.map_replicate]), ?_⟩
        rw [all_true]
        exact q _ s3
theorem no_same {f : Addr} {fd : FuncData} : FnOk P w K mg base CX0 0 f fd ["_law_found", "_law_due"] (spSame 0) :=
  ⟨fun vs H Q E h => False.elim h, fun A outer s H args us vs Q E _ _ _ _ h => False.elim h⟩
theorem all_same {f : Addr} {fd : FuncData} (F : Fun K "_law_same" "_law_same" sSame f fd) (T : SameTxt mg) (bG : Binds K fd ["_law_found", "_law_due"] []) (mG : mg "_law_same" = some (.ref f)) :
    ∀ n, FnOk P w K mg base CX0 n f fd ["_law_found", "_law_due"] (spSame n)
  | 0 => no_same
  | n + 1 => ok_same F T (all_same F T bG mG n) bG F.kp mG
abbrev letters : Str := "abcdefghijklmnopqrstuvwxyz"
def lowB (z : Str) : Bool := z.cps.toList.all fun c => decide (c ∈ letters.cps.toList)
/-- a comprehension over a text, sign by sign -/
theorem lc_str {z : Str} {g : TG} {te : TE} {vs : List Nat} {σ : L2.St} {H1 : Hp} {D : Addr} {Qd : Hp → Prop} (Pv : Nat → Hp → Prop) (h0 : Pv 0 (upd H1 D (.lst [])))
    (hs : ∀ (i : Nat) (c : Nat) (H : Hp), z.cps.toList[i]? = some c → Pv i H → g (.str ⟨#[c]⟩) (wipe σ vs) H fun σ2 H2 => wipe σ2 vs = wipe σ vs ∧ te σ2 H2 fun y H4 => ∃ acc, H4 D = some (.lst acc) ∧ acc.length < sizeLine ∧ Pv (i + 1) (upd H4 D (.lst (acc ++ [y])))) (hd : ∀ H, Pv z.cps.toList.length H → Qd H) :
    ∃ W : Nat → Nat → Hp → Prop, (∃ m, W 0 m (upd H1 D (.lst []))) ∧ ∀ i m H, W i m H →
      ((Its z).stop i H ∧ Qd H) ∨ ((Its z).go i H ∧ ∃ Nx : Hp → Prop, (∀ H', Nx H' → ∃ m', m' < m ∧ W (i + 1) m' H') ∧ ∀ x H', (Its z).yld i H x H' → g x (wipe σ vs) H' fun σ2 H2 => wipe σ2 vs = wipe σ vs ∧ tYes σ2 H2 fun b H3 =>
        if b = true then te σ2 H3 fun y H4 => ∃ acc, H4 D = some (.lst acc) ∧ acc.length < sizeLine ∧ Nx (upd H4 D (.lst (acc ++ [y]))) else Nx H3) := by
  have hsz : z.cps.size = z.cps.toList.length := (Array.length_toList).symm
  refine ⟨fun i m H => m = z.cps.toList.length - i ∧ i ≤ z.cps.toList.length ∧ Pv i H, ⟨z.cps.toList.length, rfl, Nat.zero_le _, h0⟩, ?_⟩
  rintro i m H ⟨rfl, hi, p⟩
  by_cases hlt : i < z.cps.toList.length
  · refine .inr ⟨(by show i < z.cps.size; omega), Pv (i + 1), fun H' p' => ⟨z.cps.toList.length - (i + 1), by omega, rfl, hlt, p'⟩, fun v H' y => ?_⟩
    obtain ⟨rfl, c, hc, rfl⟩ := y
    refine hs i c H' ?_ p
    rw [Array.getElem?_toList]
    exact hc
  · have e : i = z.cps.toList.length := by omega
    subst e
    exact .inl ⟨(by show z.cps.size ≤ _; omega), hd H p⟩
theorem kSq {z : Str} {i : Nat} {c : Nat} (f : Nat → Bool) (h : z.cps.toList[i]? = some c) : (z.cps.toList.take (i + 1)).map f = (z.cps.toList.take i).map f ++ [f c] := by
  rw [List.take_add_one, h, List.map_append]
  rfl
/-! ### names -/
abbrev sNames : Stmt := top 29
theorem tlen (z : Str) : z.length = (tl z).length := str_len z
theorem lowB_tl (z : Str) : lowB z = (tl z).all fun c => decide (c ∈ letters.cps.toList) := rfl
theorem lowB_of {z : Str} (h : ∀ c ∈ tl z, c ∈ letters.cps.toList) : lowB z = true := by
  rw [lowB_tl, List.all_eq_true]
  intro c hc
  exact decide_eq_true (h c hc)
theorem tl_cut (z : Str) (lo hi : Option Int) : tl (cutS z lo hi) = ((tl z).drop (HT.sIx z.length 0 lo)).take (HT.sIx z.length z.length hi - HT.sIx z.length 0 lo) := rfl
theorem tl_cut_to (z : Str) (k : Int) (h0 : 0 ≤ k) (h1 : k ≤ (z.length : Int)) : tl (cutS z none (some k)) = (tl z).take k.toNat := by
  obtain ⟨n, rfl⟩ : ∃ n : Nat, k = (n : Int) := ⟨k.toNat, by omega⟩
  rw [tl_cut, HT.sIx_none, HT.sIx_nat, List.drop_zero, Nat.sub_zero, Int.toNat_natCast, Nat.min_eq_left (by omega)]
theorem tl_cut_from (z : Str) (k : Int) (h0 : 0 ≤ k) (h1 : k ≤ (z.length : Int)) : tl (cutS z (some k) none) = (tl z).drop k.toNat := by
  obtain ⟨n, rfl⟩ : ∃ n : Nat, k = (n : Int) := ⟨k.toNat, by omega⟩
  rw [tl_cut, HT.sIx_none, HT.sIx_nat, Int.toNat_natCast, Nat.min_eq_left (by omega), List.take_of_length_le]
  rw [List.length_drop, tlen]
  exact Nat.le_refl _
theorem glue_signs : ∀ cs : List Nat, tl (Txt.join Str.empty (cs.map fun c => (⟨#[c]⟩ : Str))) = cs := by
  have h : ∀ cs : List Nat, joinL [] (cs.map fun c => [c]) = cs := by
    intro cs
    induction cs with
    | nil => rfl
    | cons x r ih =>
      cases r with
      | nil => rfl
      | cons y r => 
        show [x] ++ ([] ++ joinL [] ((y :: r).map fun c => [c])) = x :: y :: r
        rw [ih]
        rfl
  intro cs
  show tl (Builtin.Str.glued _ _) = _
  rw [StrLaws.glued_eq_join, tl_join, List.map_map]
  exact h cs
structure IsNm (z : Str) : Prop where
  low : ∀ c ∈ tl z, c ∈ letters.cps.toList
  l1 : 1 ≤ z.length
  l4 : z.length ≤ 4
def spNames : Sp := fun vs H Q _ => ∃ (b c : Addr) (many : Int), vs = [.ref b, .int many] ∧ Bag H b c ∧ 0 ≤ many ∧ many ≤ 26 ∧
  ∀ (l : Addr) (ws : List Str) (H' : Hp), (ws.length : Int) = many → (∀ z ∈ ws, IsNm z) → Bag H' b c → Kp b H H' → H l = none → H' l = some (.lst (ws.map V.str)) → Q (.ref l) H'
theorem Kp.new {b p : Addr} {H H' : Hp} (k : Kp b H H') (hp : H' p = none) (o : HO) : Kp b H (upd H' p o) := fun a u h n => by rw [upd_ne (ne_of_none (k a u h n) hp)]; exact k a u h n
theorem Kp.free {b c p : Addr} {H H' : Hp} (k : Kp b H H') (B : Bag H' b c) (hp : H' p = none) : H p = none := by
  have hb : p ≠ b := B.fresh hp
  cases e : H p with
  | none => rfl
  | some o =>
    rw [k p o e hb] at hp
    cases hp
theorem Bag.ne_new {H : Hp} {b c q : Addr} (B : Bag H b c) (h : H q = none) : b ≠ q ∧ c ≠ q := by
  obtain ⟨ns, p, r, s, k, B⟩ := B
  exact ⟨ne_of_none B.lb h, ne_of_none B.lc h⟩
theorem Bag.wr {H : Hp} {b c q : Addr} (B : Bag H b c) (n : b ≠ q ∧ c ≠ q) (o : HO) : Bag (upd H q o) b c := by
  obtain ⟨ns, p, r, s, k, B⟩ := B
  exact ⟨ns, p, r, s, k, by rw [upd_ne n.1]; exact B.lb, by rw [upd_ne n.2]; exact B.lc, B.nl, B.p0, B.s0, B.s1, B.r0⟩
theorem Kp.wr {b p : Addr} {H H' : Hp} (k : Kp b H H') (hp : H p = none) (o : HO) : Kp b H (upd H' p o) := fun a u h n => by rw [upd_ne (ne_of_none h hp)]; exact k a u h n
theorem scNames : FnScope ["_law_bag_here", "_law_many", "_law_letters", "_law_stem", "_law_at", "_law_first", "_law_k"] ["_law_bag_here", "_law_many"] (defScope sNames) := ⟨rfl, rfl, rfl, by decide +kernel, rfl, by decide +kernel, by decide +kernel⟩
theorem ok_names {f gp ga : Addr} {fd gpd gad : FuncData} (F : Fun K "_law_names" "_law_names" sNames f fd) (GP : FnOk P w K mg base CX0 1 gp gpd ["_law_bag_here", "_law_many"] spPull) (bP : Binds K gpd ["_law_bag_here", "_law_many"] []) (kP : PySem.W.keepIn K (.ref gp) = true) (mP : mg "_law_pull" = some (.ref gp))
    (GA : FnOk P w K mg base CX0 2 ga gad ["_law_bag_here", "_law_things"] (spAny K)) (bA : Binds K gad ["_law_bag_here", "_law_things"] []) (kA : PySem.W.keepIn K (.ref ga) = true) (mA : mg "_law_any" = some (.ref ga)) (mlen : mg "len" = none) (mint : mg "int" = none) (mrange : mg "range" = none) :
    FnOk P w K mg base CX0 3 f fd ["_law_bag_here", "_law_many"] spNames := by
  refine F.ok scNames (fun vs H Q E h => ?_) (fun cdv A outer s H vs Q E hr h => ?_)
  · obtain ⟨b, c, many, rfl, _⟩ := h
    rfl
  obtain ⟨b, c, many, rfl, B, m0, m1, q⟩ := h
  have hr1 : Room 1 _ := hr.mono (by decide)
  refine ⟨_, pss_cons (ps_set (i := 2) scNames.nd rfl (Or.inr rfl) pe_str)
    (pss_cons (ps_set (i := 3) scNames.nd rfl (Or.inr rfl) (pe_join pe_str (pe_lc (own := [("_law_k", 6)]) (g := gName 6) rfl scNames.nd (pi_range1 (by rfl) mrange (pa_cons (pe_call GP hr1 (by rfl) mP kP bP .nil pass0 (pa_cons (pv 0) (pa_cons pe_int pa_nil))) pa_nil))
        (blkOk_by (own := [("_law_k", 6)]) (N := ["_law_bag_here", "_law_many", "_law_letters", "_law_stem", "_law_at", "_law_first", "_law_k"]) (sc := defScope sNames) (by decide +kernel))
        (fun _ _ _ _ _ => pg_name (i := 6) scNames.nd rfl (Or.inl rfl) (Or.inr rfl)) (fun _ _ _ _ _ => pts_nil)
        (fun _ _ _ _ _ => pe_call GA hr (by rfl) mA kA bA .nil pass0 (pa_cons (pv 0) (pa_cons (pv 2) pa_nil))))))
    (pss_cons (ps_asg (pe_tup (pa_cons (pe_call GP hr1 (by rfl) mP kP bP .nil pass0 (pa_cons (pv 0) (pa_cons (pe_op op_add (pe_callB call_len (by rfl) mlen PySem.boot_len (pa_cons (pv 3) pa_nil)) pe_int) pa_nil))) (pa_cons (pe_call GP hr1 (by rfl) mP kP bP .nil pass0 (pa_cons (pv 0) (pa_cons pe_int pa_nil))) pa_nil)))
        (pg_tup (n := 2) rfl (pgs_cons (pg_name (i := 4) scNames.nd rfl (Or.inr rfl) (Or.inl rfl)) (pgs_cons (pg_name (i := 5) scNames.nd rfl (Or.inr rfl) (Or.inl rfl)) pgs_nil))))
    (pss_one (ps_ret (pe_lc (own := [("_law_k", 6)]) (g := gName 6) rfl scNames.nd (pi_range1 (by rfl) mrange (pa_cons (pv 1) pa_nil))
        (blkOk_by (own := [("_law_k", 6)]) (N := ["_law_bag_here", "_law_many", "_law_letters", "_law_stem", "_law_at", "_law_first", "_law_k"]) (sc := defScope sNames) (by decide +kernel))
        (fun _ _ _ _ _ => pg_name (i := 6) scNames.nd rfl (Or.inl rfl) (Or.inr rfl)) (fun _ _ _ _ _ => pts_nil)
        (fun _ _ _ _ _ => pe_op op_add_str (pe_op op_add_str (pe_slice sl_str (pv 3) po_none (po_some (pv 4)))
          (pe_ix ix_str (pv 2) (pe_op op_mod (pe_callTy call_int1 (by rfl) mint (by decide +kernel) (pa_cons (pe_op op_add (pv 5) (pe_op op_mul pe_int (pv 6))) pa_nil)) pe_int) (fun _ _ => rfl)))
          (pe_slice sl_str (pv 3) (po_some (pv 4)) po_none))))))), ?_⟩
  -- the stem: letters drawn
  refine ⟨⟨_, rfl⟩, .ref b, rfl, b, c, 4, rfl, B, by decide, by decide, fun d H1 d0 d1 B1 k1 => ?_⟩
  refine ⟨d, rfl, by omega, by omega, fun D hD => ?_⟩
  have nD := B1.ne_new hD
  have hD0 : H D = none := k1.free B1 hD
  refine lc_range (lo := 0) (n := d.toNat) (fun i H2 => Bag H2 b c ∧ Kp b H H2 ∧ ∃ cs : List Nat, cs.length = i ∧ (∀ x ∈ cs, x ∈ letters.cps.toList) ∧ H2 D = some (.lst (cs.map fun x => V.str ⟨#[x]⟩)))
    ⟨B1.upd_new hD _, k1.new hD _, [], rfl, fun x hx => (nomatch hx), upd_same⟩ (fun i H2 hi ⟨B2, k2, cs, hl, hcs, hcD⟩ => ?_) (fun H2 ⟨B2, k2, cs, hl, hcs, hcD⟩ => ?_)
  · refine ⟨rfl, .ref b, rfl, .str letters, rfl, b, c, _, _, rfl, B2, .inr (.inr ⟨letters, rfl, by decide +kernel, rfl⟩), by decide +kernel, by decide +kernel, fun y H3 hy B3 k3 => ?_⟩
    obtain ⟨x, hx, rfl⟩ := List.mem_map.mp hy
    refine ⟨_, k3 _ _ hcD nD.1.symm, ?_, B3.wr nD _, (k2.trans k3).wr hD0 _, cs ++ [x], by rw [List.length_append, hl]; rfl, fun z hz => ?_, ?_⟩
    · rw [List.length_map, hl]
      exact small1000 (by omega)
    · rcases List.mem_append.mp hz with h | h
      · exact hcs z h
      · rw [List.mem_singleton.mp h]
        exact hx
    · rw [upd_same, List.map_append]
      rfl
  · have ey : (cs.map fun x => V.str ⟨#[x]⟩) = ((cs.map fun x => (⟨#[x]⟩ : Str)).map V.str) := by rw [List.map_map]; rfl
    have hlen : cs.length ≤ 3 := by omega
    have hsum : ∀ l : List Nat, ((l.map fun x => (⟨#[x]⟩ : Str)).map (·.length)).sum = l.length := by
      intro l
      induction l with
      | nil => rfl
      | cons x r ih =>
        rw [List.map_cons, List.map_cons, List.sum_cons, ih, List.length_cons]
        show 1 + r.length = _
        omega
    refine ⟨Str.empty, D, cs.map fun x => ⟨#[x]⟩, rfl, rfl, .inl (SqL.of (by rw [hcD, ey])), ?_, ?_⟩
    · rw [hsum]
      show cs.length + _ * 0 ≤ _
      omega
    generalize hst : Txt.join Str.empty (cs.map fun x => (⟨#[x]⟩ : Str)) = st
    have est : tl st = cs := by rw [← hst, glue_signs]
    have lst : st.length = cs.length := by rw [tlen, est]
    -- at, first
    refine ⟨.ref b, rfl, .str st, rfl, .str st, _, rfl, ⟨Nat.le_of_lt (small1000 (by omega)), rfl⟩, _, _, rfl, rfl, b, c, _, rfl, B2, by omega, by omega, fun a1 H3 a0 a1' B3 k3 => ?_⟩
    refine ⟨.ref b, rfl, b, c, 26, rfl, B3, by decide, by decide, fun f1 H4 f0 f1' B4 k4 => ?_⟩
    refine ⟨(by show 2 ≤ sizeLine; decide), fun t ht => ?_⟩
    refine ⟨t, _, rfl, SqT.of upd_same, rfl, _, _, rfl, _, _, rfl, rfl, ?_⟩
    have k5 : Kp b H (upd H4 t (.tup [.int a1, .int f1])) := ((k2.trans k3).trans k4).new ht _
    have B5 : Bag (upd H4 t (.tup [.int a1, .int f1])) b c := B4.upd_new ht _
    -- the names
    refine ⟨_, rfl, many, rfl, by omega, by omega, fun L hL => ?_⟩
    have nL := B5.ne_new hL
    have hL0 : H L = none := k5.free B5 hL
    refine lc_range (lo := 0) (n := many.toNat) (fun i H6 => Bag H6 b c ∧ Kp b H H6 ∧ ∃ ws : List Str, ws.length = i ∧ (∀ z ∈ ws, IsNm z) ∧ H6 L = some (.lst (ws.map V.str)))
      ⟨B5.upd_new hL _, k5.new hL _, [], rfl, fun x hx => (nomatch hx), upd_same⟩ (fun i H6 hi ⟨B6, k6, ws, hl6, hws, hcL⟩ => ?_) (fun H6 ⟨B6, k6, ws, hl6, hws, hcL⟩ => ?_)
    · have hstl : st.length ≤ sizeLine := Nat.le_of_lt (small1000 (by omega))
      have ha0 : (0 : Int) ≤ a1 := a0
      have ha1 : a1 ≤ (st.length : Int) := by omega
      have hm0 : 0 ≤ (f1 + 7 * (0 + (i : Int))) % 26 := Int.emod_nonneg _ (by decide)
      have hm1 : (f1 + 7 * (0 + (i : Int))) % 26 < 26 := Int.emod_lt_of_pos _ (by decide)
      obtain ⟨x, hx⟩ : ∃ x, atI letters.cps.toList ((f1 + 7 * (0 + (i : Int))) % 26) = some x ∧ x ∈ letters.cps.toList := by
        have hlt : ((f1 + 7 * (0 + (i : Int))) % 26).toNat < letters.cps.toList.length := by
          rw [show letters.cps.toList.length = 26 by decide +kernel]
          omega
        have e : atI letters.cps.toList ((((f1 + 7 * (0 + (i : Int))) % 26).toNat : Nat) : Int) = some letters.cps.toList[((f1 + 7 * (0 + (i : Int))) % 26).toNat] := atI_nat (by rw [List.getElem?_eq_getElem hlt])
        rw [Int.toNat_of_nonneg hm0] at e
        exact ⟨_, e, List.getElem_mem hlt⟩
      refine ⟨rfl, .str st, rfl, .int a1, rfl, a1, rfl, st, rfl, hstl, ?_⟩
      refine ⟨.str letters, rfl, .int f1, rfl, .int (0 + (i : Int)), rfl, 7, _, rfl, rfl, .inl ⟨by decide, by decide⟩, _, _, rfl, rfl, .inl ⟨_, rfl, _, 26, rfl, rfl, (by show (0 : Int) < 26; decide), ?_⟩⟩
      refine ⟨letters, _, x, rfl, rfl, by decide +kernel, hx.1, ?_⟩
      have hc1 := cutS_length st none (some a1)
      have hc2 := cutS_length st (some a1) none
      have h1000 : (1000 : Nat) ≤ sizeLine := by decide
      have hx1 : (⟨#[x]⟩ : Str).length = 1 := rfl
      refine ⟨_, _, rfl, rfl, by rw [hx1]; omega, ?_⟩
      refine ⟨.str st, rfl, .int a1, rfl, a1, rfl, st, rfl, hstl, ?_⟩
      have hl1 : (cutS st none (some a1) ++ (⟨#[x]⟩ : Str)).length = (cutS st none (some a1)).length + 1 := by rw [Str.length_append, hx1]
      refine ⟨_, _, rfl, rfl, by rw [hl1]; omega, ?_⟩
      have hnm : IsNm (cutS st none (some a1) ++ (⟨#[x]⟩ : Str) ++ cutS st (some a1) none) := by
        have e : tl (cutS st none (some a1) ++ (⟨#[x]⟩ : Str) ++ cutS st (some a1) none) = cs.take a1.toNat ++ [x] ++ cs.drop a1.toNat := by
          rw [tl_append, tl_append, tl_cut_to st a1 ha0 ha1, tl_cut_from st a1 ha0 ha1, est]
        have el : (cutS st none (some a1) ++ (⟨#[x]⟩ : Str) ++ cutS st (some a1) none).length = cs.length + 1 := by
          rw [tlen, e, List.length_append, List.length_append, List.length_take, List.length_drop]
          show min a1.toNat cs.length + 1 + (cs.length - a1.toNat) = cs.length + 1
          omega
        refine ⟨fun y hy => ?_, by omega, by omega⟩
        rw [e] at hy
        rcases List.mem_append.mp hy with hy | hy
        · rcases List.mem_append.mp hy with hy | hy
          · exact hcs y (List.mem_of_mem_take hy)
          · rw [List.mem_singleton.mp hy]
            exact hx.2
        · exact hcs y (List.mem_of_mem_drop hy)
      refine ⟨_, hcL, ?_, B6.wr nL _, k6.wr hL0 _, ws ++ [cutS st none (some a1) ++ (⟨#[x]⟩ : Str) ++ cutS st (some a1) none], by rw [List.length_append, hl6]; rfl, fun z hz => ?_, ?_⟩
      · rw [List.length_map, hl6]
        exact small1000 (by omega)
      · rcases List.mem_append.mp hz with h | h
        · exact hws z h
        · rw [List.mem_singleton.mp h]
          exact hnm
      · rw [upd_same, List.map_append]
        rfl
    · exact q L ws H6 (by omega) hws B6 k6 hL0 hcL
/-! ### a call by keywords alone -/
open PySem.Spec PyProof.Rows in
theorem pe_callN0 {X : Cx} {CX : CXT} {k : Nat} {f : Addr} {fd : FuncData} {ps ks : List Str} {sp : Sp} {E : XK} {x : Str} {p pos : Pos} {kws : List Keyword} {tk : TA} {g : List Value → List Value → List Value} {gV : List V → List V → List V}
    (F : FnOk X.prog X.w X.K X.mg X.base CX k f fd ps sp) (hr : Room k X.A) (hg : Gl X x) (hm : X.mg x = some (.ref f)) (hk : PySem.W.keepIn X.K (.ref f) = true) (hb : KBn X.K fd ps 0 ks g gV) (hx : Passes CX X E)
    (hkw : PK X kws tk) (hall : (backToKw pos (keywordEach kws X.env)).all (·.1.isSome) = true := by rfl) (hks : (backToKw pos (keywordEach kws X.env)).filterMap (·.1) = ks := by rfl)
    (hdb : (x == ("__debug__" : Str)) = false := by decide) (hpl : ((backTo pos (starEach [] X.env)).any (·.1) || (backToKw pos (keywordEach kws X.env)).any (·.1.isNone)) = false := by rfl) :
    PE X (.Call (.Name x p) [] kws pos) (tCallN 0 ks.length sp gV E tNil tk) := by
  refine ⟨fun pins s σ H Q I h => ?_⟩
  refine wpAny_Call_Name_kw (ld_glob I hg hm ?_ hdb)
  refine PySem.W.callWith_KW0 (h₀ := X.base) I.ok.mod.kin hk hall ?_ hpl
  refine thn (hkw.run pos pins s σ H _ I h) fun ws s2 ⟨zs, H2, I2, rz, l1, l2, q2⟩ => ⟨I2.kIn, ?_⟩
  rw [hks]
  exact run_fnN (us := []) (vs := []) F hr hb hx I2 .nil rz rfl l2 q2
theorem Fun.kbn {x qual : Str} {st : Stmt} {f : Addr} {fd : FuncData} {ps : List Str} (F : Fun K x qual st f fd) (n : Nat) (ks : List Str) (g : List Value → List Value → List Value) (gV : List V → List V → List V)
    (hrel : ∀ {vs : List V} {us : List Value} {zs : List V} {ws : List Value}, Vals vs us → Vals zs ws → Vals (gV vs zs) (g us ws))
    (h : ∀ (kV doc pm : Value) (an : Option Addr) (cdv ct : Value) (us ws : List Value), us.length = n → ws.length = ks.length → bindArgs (PySem.W.fnOf x qual (defArgs st) (defBody st) (defScope st) .none kV doc pm an cdv ct) ⟨us, ks.zip ws⟩ = pure (ps.zip (g us ws))) : KBn K fd ps n ks g gV := by
  obtain ⟨oc, od, kV, doc, pm, an, cdv, ct, osl, rfl, lk, hcd⟩ := F.ex
  exact ⟨fun s us ws _ l1 l2 => BindsTo.of_eq (h kV doc pm an cdv ct us ws l1 l2), hrel⟩
theorem Vals.rev {xs : List V} {us : List Value} (r : Vals xs us) : Vals xs.reverse us.reverse := by
  induction r with
  | nil => exact .nil
  | cons h t ih =>
    rw [List.reverse_cons, List.reverse_cons]
    exact ih.append (.cons h .nil)
def spLaw (K : PySem.W.Frag) : Sp := fun vs H Q _ => ∃ (a : Addr) (ns : List Int), vs = [.ref a] ∧ SqL K H a (ns.map V.int) ∧ ns.length ≤ 63 ∧ ∀ H', Q (.bl true) H'
/-- a def of the text, what it keeps, how it is called -/
structure Df (P : Program) (w : World) (K : PySem.W.Frag) (mg : Str → Option Value) (base : Heap) (k : Nat) (f : Addr) (fd : FuncData) (x : Str) (ps : List Str) (sp : Sp) : Prop where
  ok : FnOk P w K mg base CX0 k f fd ps sp
  b : Binds K fd ps []
  kp : PySem.W.keepIn K (.ref f) = true
  m : mg x = some (.ref f)
theorem Eqv.bls {H : Hp} {a b : Addr} {bs : List Bool} (n : Nat) (hl : bs.length ≤ 100000) (ha : H a = some (.lst (bs.map V.bl))) (hb : H b = some (.lst (bs.map V.bl))) : Eqv H (n + 1) (.ref a) (.ref b) :=
  .inr ⟨a, b, _, _, rfl, rfl, rfl, by rw [List.length_map]; exact hl, .inl ⟨ha, hb⟩, fun i u v hu hv => by
    rw [hu] at hv
    cases Option.some.inj hv
    rw [List.getElem?_map] at hu
    cases e : bs[i]? with
    | none => rw [e] at hu; cases hu
    | some z =>
      rw [e] at hu
      cases Option.some.inj hu
      exact .leaf (show Leaf (V.bl z) from trivial) n⟩
/-! ### a target whose last name has a star -/
section
open PySem.Spec PyProof.Rows
variable {prog : Program} {w : World} {A : Around} {E : Value → Shared → Prop} {s : Shared}
/-- a walk that begins further on -/
theorem walks_from {I : Addr} {fp wr : List Addr} {G : Array GenState → Array GenState → Prop} {n : Nat} {P : Nat → Value → Prop} {St : Nat → Shared → Prop} (k : Nat) (W : WalksS prog w A I fp wr G (n + k) P St) :
    WalksS prog w A I fp wr G n (fun i => P (i + k)) (fun i => St (i + k)) where
  sub := W.sub
  grefl := W.grefl
  gtrans := W.gtrans
  frame := fun i => W.frame (i + k)
  item := fun i s Q E hi st hQ => W.item (i + k) s Q E (by omega) st fun v s' p st' => hQ v s' p (by rw [show i + 1 + k = i + k + 1 by omega]; exact st')
  done := fun s Q E st hQ => W.done s Q E st hQ
  self := fun i => W.self (i + k)
theorem itemsOf_list {items acc : Array Value} {k n : Nat} (hn : n + k = items.size) (h : ItemsOf (fun i v => items[i + k]? = some v) acc n) : acc.toList = items.toList.drop k := by
  obtain ⟨h1, h2⟩ := h
  refine List.ext_getElem? fun j => ?_
  rw [List.getElem?_drop, Array.getElem?_toList, Array.getElem?_toList]
  cases e : acc[j]? with
  | some v =>
    rw [Nat.add_comm k j]
    exact (h2 j v e).symm
  | none =>
    have hj : acc.size ≤ j := Array.getElem?_eq_none_iff.mp e
    exact (Array.getElem?_eq_none_iff.mpr (by omega)).symm
theorem unpack_star {t : Addr} {items : Array Value} {i : Nat} {Q : List Value → Shared → Prop} (hh : A.handled = none) (ht : IsTup s.heap t items) (hi : i ≤ items.size) (hsz : items.size ≤ sizeLine)
    (hQ : ∀ (h' : Heap) (tk : Nat) (D : Addr), (∀ b o, s.heap.get? b = some o → h'.get? b = some o) → s.heap.get? D = none → h'.get? D = some { cls := .type "list", data := .seq (items.toList.drop i).toArray } → Q (items.toList.take i ++ [.ref D]) { s with heap := h', toks := tk }) :
    wpAny (model prog w) A (unpackItems (.ref t) (i + 1) (some i)) Q E s := by
  have hlt : t ≠ s.heap.objs.size := by obtain ⟨o, ho, _⟩ := ht; exact Nat.ne_of_lt (Heap.lt_size ho)
  obtain ⟨n, hn⟩ : ∃ n, n + i = items.size := ⟨items.size - i, by omega⟩
  unfold unpackItems
  refine wpAny_bind ?_
  unfold notIterableAtAll
  refine wpAny_bind (wpAny_specialOf ht.typeIs slot_tuple_iter.lookup ?_)
  refine wpAny_pure ?_
  simp only [Bool.false_eq_true, if_false]
  refine wpAny_bind (wpAny_holding (iter_tuple ht ?_))
  refine wpAny_bind (wpAny_holding (draw_tuple hlt i 0 _ _ ⟨_, Heap.get?_push_size _ rfl, rfl, rfl⟩ (ht.push _) (by omega) fun h₁ hit₁ hs₁ => ?_))
  rw [List.drop_zero]
  have hl1 : (items.toList.take i).length = i := by rw [List.length_take, Array.length_toList]; omega
  rw [if_neg (by rw [hl1]; omega)]
  have ht₁ : IsTup h₁ t items := (ht.push _).extBut hs₁.extBut hlt
  have hsi : s.heap.objs.size < h₁.objs.size := by
    obtain ⟨o, ho, _⟩ := hit₁
    exact Heap.lt_size ho
  have W0 := (Walks.tuple (prog := prog) (w := w) (A := A.in1) hh s.heap.objs.size t hlt items).toS
  rw [← hn] at W0
  have W1 := walks_from i W0
  have hit2 : h₁.IsTupleIter s.heap.objs.size t (0 + i) := by
    have e : (0 : Nat) + i = i := by omega
    rw [e] at hit₁ ⊢
    exact hit₁
  have ht2 : h₁.IsTuple t items := ht₁
  refine wpAny_bind (wpAny_holding (wpAny_collect_iter (.inr (.inr (.inr rfl))) W1 (fun _ _ st => let ⟨o, ho, hc, _⟩ := st.1; ⟨o, ho, hc⟩) ⟨hit2, ht2⟩ (fun b hb => ?_) (List.mem_cons_self ..) (fun s' acc hm hacc => ?_) (by omega)))
  · rcases List.mem_cons.mp hb with e | hb
    · rw [e]; exact hsi
    · rw [List.mem_singleton.mp hb]
      obtain ⟨o, ho, _⟩ := ht2
      exact Heap.lt_size ho
  · have ea : acc.toList = items.toList.drop i := itemsOf_list hn hacc
    rw [ea]
    have e0 : i + 1 - 1 - i = 0 := by omega
    rw [e0]
    show wpAny _ _ (if (List.drop i items.toList).length < 0 then _ else _) _ _ _
    rw [if_neg (Nat.not_lt_zero _)]
    have e1 : (List.drop i items.toList).length - 0 = (List.drop i items.toList).length := Nat.sub_zero _
    have e2 : List.take ((List.drop i items.toList).length - 0) (List.drop i items.toList) = List.drop i items.toList := by rw [e1, List.take_length]
    have e3 : List.drop ((List.drop i items.toList).length - 0) (List.drop i items.toList) = [] := by rw [e1, List.drop_length]
    rw [e2, e3]
    have hlen : (List.drop i items.toList).length ≤ sizeLine := by rw [List.length_drop, Array.length_toList]; omega
    refine wpAny_bind (wpAny_newObj_type ?_ ?_)
    · refine wpAny_pure ?_
      rw [List.append_nil, Moved.eq_with hm]
      have k0 : ∀ b o, s.heap.get? b = some o → s'.heap.get? b = some o := fun b o e => by
        have nb : b ≠ s.heap.objs.size := Nat.ne_of_lt (Heap.lt_size e)
        exact hm.heap b o (fun hb => nb (List.mem_singleton.mp hb)) (hs₁.extBut b o nb (Heap.get?_push_of_some _ e))
      refine hQ (s'.heap.push _) s'.toks s'.heap.objs.size (fun b o e => Heap.get?_push_of_some _ (k0 b o e)) ?_ (Heap.get?_push_size _ rfl)
      cases e : s.heap.get? s'.heap.objs.size with
      | none => rfl
      | some o => exact absurd (Heap.lt_size (k0 _ o e)) (Nat.lt_irrefl _)
    · show (List.drop i items.toList).toArray.size ≤ sizeLine
      rw [List.size_toArray]
      exact hlen
end
section
open PySem.Spec PyProof.Rows
variable {X : Cx}
/-- the last of several targets, with a star -/
theorem pgs_star {e : Expr} {p : Pos} {g : TG} (h1 : PG X e g) : PGs X [.Starred e p] (gCons g gNil) := by
  refine ⟨fun pins s σ H vs us Q I r h => ?_⟩
  obtain ⟨v, vr, e1, h⟩ := h
  subst e1
  cases r with
  | cons r rr =>
    show wpAny _ _ (assignInOrder [assign e X.env] _) _ _ _
    refine assignInOrder_cons (thn (h1.run pins s σ H _ _ _ I r h) fun _ s1 ⟨σ1, H1, I1, q1⟩ => ?_)
    obtain ⟨rfl, q1⟩ := q1
    cases rr
    exact assignInOrder_nil ⟨σ1, H1, I1, q1⟩
/-- a, b, *c = a tuple: n names ahead of the star -/
def gStar (K : PySem.W.Frag) (n : Nat) (t : TGs) : TG := fun v σ H Q => ∃ a xs, v = .ref a ∧ SqT K H a xs ∧ n ≤ xs.length ∧ ∀ p, H p = none → t (xs.take n ++ [.ref p]) σ (upd H p (.lst (xs.drop n))) Q
theorem pg_star {es : List Expr} {k : Nat} {pos : Pos} {t : TGs} {n : Nat} (hc : X.calm = true) (h : PGs X es t)
    (hn : (assignEach es X.env).length = n + 1 := by rfl) (hst : (assignEach es X.env).findIdx? (·.1) = some n := by rfl) : PG X (.Tuple es k pos) (gStar X.K n t) := by
  refine ⟨fun pins s σ H v u Q I r hw => ?_⟩
  obtain ⟨a, xs, e1, hq, hl, hw⟩ := hw
  subst e1
  cases r
  obtain ⟨its, rv, ht, hz⟩ := I.tuple hq
  have hlen := rv.length
  rw [PyProof.Rows.assign_Tuple]
  refine wpAny_bind (wpAny_standAt ?_)
  unfold unpack
  rw [hn, hst]
  refine wpAny_bind (wpAny_holding (unpack_star (I.ok.hd hc) ht (by rw [List.size_toArray]; omega) (by rw [List.size_toArray]; omega) fun h' tk D k0 hD hL => ?_))
  have hn0 : H D = none := I.hok.gone hD
  have e2 : its.toArray.toList = its := List.toList_toArray ..
  rw [e2] at hL ⊢
  have r2 : Vals (xs.drop n) (its.drop n) := rv.drop n
  have I1 : Inv X pins σ (upd H D (.lst (xs.drop n))) { s with heap := h', toks := tk } := I.laidN k0 hD hn0 ⟨by rw [List.length_drop]; omega, its.drop n, _, r2, hL⟩
  exact h.run pins _ σ _ (xs.take n ++ [.ref D]) _ Q I1 ((rv.take n).append (show Vals [V.ref D] [Value.ref D] from .cons (show RelV (V.ref D) (Value.ref D) from rfl) .nil)) (hw D hn0)
end
/-! ### enumerate of a tuple -/
section
open PySem.Spec PyProof.Rows
set_option maxHeartbeats 1000000 in
theorem meets_enum1 {v : Value} {o : Obj} {Hs : Heap → Prop} (Bg : Begins v o Hs) :
    Meets (Builtin.«enumerate.__new__» ⟨[.type "enumerate", v], []⟩) (fun _ R s => Hs s.heap ∧
      R (.ok (.ret (.ref (s.heap.push o).objs.size))) { s with heap := (s.heap.push o).push { cls := .type "enumerate", data := .fields #[.none, .bool false, .ref s.heap.objs.size, rawInt 0, .none, .none] } }) :=
  .of_wp fun prog w A R s h => by
    obtain ⟨hp, g, d, tk, os⟩ := s
    obtain ⟨h1, h⟩ := h
    have hsub := sub_enumerate
    have start : ∀ {A' : Around} {E : Value → Shared → Prop} {Q : Value → Shared → Prop}, Q (.ref hp.objs.size) ⟨hp.push o, g, d, tk, os⟩ → wpAny (model prog w) A' (pyIter v) Q E ⟨hp, g, d, tk, os⟩ :=
      fun q => Bg.iter prog w _ _ ⟨hp, g, d, tk, os⟩ _ h1 q
    wp_walk using start
    refine wpAny_stack_any fun st => wpAny_pure ?_
    split
    · rename_i c _ _ _ _ _
      cases (c == Value.type "enumerate") <;> (wp_walk using start; exact ⟨_, rfl, h⟩)
    · wp_walk using start
      exact ⟨_, rfl, h⟩
variable {prog : Program} {w : World} {A : Around} {E : Value → Shared → Prop} {s : Shared}
theorem call_enumT {t : Addr} {items : Array Value} {Q : Value → Shared → Prop} (ht : s.heap.IsTuple t items)
    (h : ∀ h', IsEnum h' (s.heap.objs.size + 1) s.heap.objs.size 0 .none → h'.IsTupleIter s.heap.objs.size t 0 →
      (∀ b o, s.heap.get? b = some o → h'.get? b = some o) → Q (.ref (s.heap.objs.size + 1)) { s with heap := h' }) : wpAny (model prog w) A (call (.type "enumerate") [.ref t]) Q E s := by
  refine callType_new F.called_enumerate (by decide) (F.typeCall_enumerate_1 _) (F.newCall_enumerate_1 _) (fun obj => F.args_object_init_2 obj _) F.entry_enumerate_new
    (meets_enum1 (begins_tuple t items)) ⟨ht, ?_⟩
  generalize ho : ({ cls := .type "tuple_iterator", data := .fields #[.ref t, .int 0 0] } : Obj) = oi
  have hf : oi.isFreed = false := by rw [← ho]; rfl
  have hz : (s.heap.push oi).objs.size = s.heap.objs.size + 1 := Heap.size_push ..
  show _ ∧ _
  rw [hz]
  have hit := Heap.get?_push_size s.heap (o := oi) hf
  have he := Heap.get?_push_size (s.heap.push oi) (o := { cls := .type "enumerate", data := .fields #[.none, .bool false, .ref s.heap.objs.size, rawInt 0, .none, .none] }) rfl
  rw [hz] at he
  exact ⟨⟨_, he, rfl⟩, h _ he ⟨_, Heap.get?_push_of_some _ hit, by rw [← ho], by rw [← ho]; rfl⟩ fun b o x => Heap.get?_push_of_some _ (Heap.get?_push_of_some _ x)⟩
end
/-- the tuple at a, each item in a new pair with its number -/
def IteT (K : PySem.W.Frag) (a : Addr) : It where
  go := fun i H => ∃ (xs : List V) (x : V), SqT K H a xs ∧ xs[i]? = some x
  yld := fun i H v H' => ∃ T x, v = .ref T ∧ H T = none ∧ H' = upd H T (.tup [.int (i : Nat), x]) ∧ ∀ xs, SqT K H a xs → xs[i]? = some x
  stop := fun i H => ∃ xs : List V, SqT K H a xs ∧ xs.length ≤ i
open PySem.Spec PyProof.Rows in
theorem turn_enumT {P : Program} {w : World} {K : PySem.W.Frag} {elts : List Expr} {kk : Nat} {tpos : Pos} (a e it : Addr) :
    Turn P w K (.Tuple elts kk tpos) (IteT K a) [e, it] e (fun i h => (∃ old, IsEnum h e it ((i : Nat) : Int) old) ∧ h.IsTupleIter it a i ∧ e ≠ it ∧ a ≠ it ∧ a ≠ e) where
  mem := List.mem_cons_self ..
  obj := fun i h st b hb => by
    obtain ⟨⟨old, he⟩, ⟨o, ho, hc, hd⟩, _⟩ := st
    rcases List.mem_cons.mp hb with z | hb
    · subst z
      refine ⟨_, he, fun v q => ?_⟩
      cases q
    · exact ⟨o, by rw [List.mem_singleton.mp hb]; exact ho, fun v q => by rw [hd] at q; cases q⟩
  keep := fun i h h' st k => by
    obtain ⟨⟨old, he⟩, hi, hne⟩ := st
    exact ⟨⟨old, k e (List.mem_cons_self ..) _ he⟩, hi.at fun o q => k it (List.mem_cons_of_mem _ (List.mem_singleton.mpr rfl)) o q, hne⟩
  item := by
    intro X hP hw hK hc i pins s σ H E I hf st hg
    subst hP hw hK
    obtain ⟨⟨old, he⟩, hit, hne, nai, nae⟩ := st
    obtain ⟨xs, x, hq, hx⟩ := hg
    obtain ⟨its, rv, ht, hz⟩ := I.tuple hq
    obtain ⟨u, hu, ru⟩ := rv.get hx
    have hil : i < its.toArray.size := by
      rw [List.size_toArray]
      exact (List.getElem?_eq_some_iff.mp hu).1
    have hel : e < s.heap.objs.size := Heap.lt_size he
    have hitl : it < s.heap.objs.size := by
      obtain ⟨_, q, _⟩ := hit
      exact Heap.lt_size q
    have D := Draws.tuple (prog := X.prog) (w := X.w) (A := X.A.in1) (I.ok.hd hc) it a nai its.toArray
    refine wpAny_pyNext_enum_itemD D he ⟨hit, ht⟩ hil hne (fun hm => ?_) fun v h' tk hv ho st' hT hsz hk => ?_
    · rcases List.mem_cons.mp hm with z | hm
      · exact hne z
      · exact nae (List.mem_singleton.mp hm).symm
    have ev : v = u := by
      have q : its.toArray[i]? = some u := by simpa using hu
      rw [hv] at q
      exact Option.some.inj q
    subst ev
    refine ⟨_, rfl, wpAny_letOwnedTupleGo_enum (s := { s with heap := h', toks := tk + 1 }) ho fun h2 he2 sb => ?_⟩
    have back : ∀ b o, b ≠ e → h'.get? b = some o → h2.get? b = some o := fun b o nb q => (sb.2 b nb).trans q
    have new : ObjOk X.prog X.w (upd H s.heap.objs.size (.tup [.int (i : Nat), x])) h2 s.heap.objs.size (.tup [.int (i : Nat), x]) :=
      ⟨(by show 2 ≤ sizeLine; decide), [.int i tk, v], .cons ⟨_, rfl⟩ (.cons ru .nil), ⟨_, back _ _ (Nat.ne_of_gt hel) hT, rfl, _, rfl⟩⟩
    have keepO : ∀ b ob, b ∉ [e, it] → s.heap.get? b = some ob → h2.get? b = some ob := fun b ob hb q => by
      have n1 : b ≠ e := fun z => hb (by simp [z])
      have n2 : b ≠ it := fun z => hb (by simp [z])
      exact back b ob n1 (hk b ob n1 n2 q)
    have I1 : Inv X pins σ (upd H s.heap.objs.size (.tup [.int (i : Nat), x])) { s with heap := h2, toks := tk + 1 } := I.turnedNew (ch := [e, it]) keepO hf (Nat.le_refl _) new
    refine ⟨.ref s.heap.objs.size, _, I1, rfl, ⟨_, x, rfl, I.hok.fresh (Nat.le_refl _), rfl, fun ys hy => by rw [I.tuple_inj hy hq]; exact hx⟩, ⟨⟨v, ?_⟩, st'.1.at fun o q => back it o hne.symm q, hne, nai, nae⟩, fun b hb => ?_⟩
    · have e1 : ((i + 1 : Nat) : Int) = (i : Int) + 1 := by omega
      rw [e1]
      exact he2
    · have hb' : b < s.heap.objs.size := by
        rcases List.mem_cons.mp hb with z | hb
        · rw [z]; exact hel
        · rw [List.mem_singleton.mp hb]; exact hitl
      rw [upd_ne (Nat.ne_of_lt hb')]
      exact (hf b hb).1
  done := by
    intro X hP hw hK hc i pins s σ H E I hf st hg
    subst hP hw hK
    obtain ⟨⟨old, he⟩, hit, hne, nai, nae⟩ := st
    obtain ⟨xs, hq, hx⟩ := hg
    obtain ⟨its, rv, ht, hz⟩ := I.tuple hq
    obtain ⟨f0, f1, f2, f3, f4, f5⟩ := hf it (List.mem_cons_of_mem _ (List.mem_singleton.mpr rfl))
    have hend : its.toArray[i]? = none := Array.getElem?_eq_none_iff.mpr (by rw [List.size_toArray, ← rv.length]; exact hx)
    have D : Draws X.prog X.w X.A.in1 it [it, a] 0 (fun _ _ => False) (fun _ h => h.IsTupleIter it a i ∧ h.IsTuple a its.toArray) := {
      live := fun _ _ st => let ⟨o, ho, _⟩ := st.1; ⟨o, ho⟩
      frame := fun _ _ _ st hk => ⟨st.1.at fun o q => hk it (List.mem_cons_self ..) o q, st.2.at fun o q => hk a (List.mem_cons_of_mem _ (List.mem_singleton.mpr rfl)) o q⟩
      item := fun _ _ _ _ hi => absurd hi (Nat.not_lt_zero _)
      done := fun s2 Q2 E2 st hE => wpAny_nextOf_tuple_end (I.ok.hd hc) st.1 st.2 hend hE }
    exact wpAny_pyNext_enum_endD D he ⟨hit, ht⟩ fun h' eb => ⟨rfl, I.turned (t' := s.toks) (fun b o hb q => eb b o hb q) f0 f1 f3 f4 f5⟩
  self := fun A i s Q E st h => wpAny_pyIter_enum st.1.choose_spec h
def iEnumT (K : PySem.W.Frag) (ta : TA) : TI := fun σ H R => ta σ H fun vs H1 => ∃ a xs, vs = [.ref a] ∧ SqT K H1 a xs ∧ R (IteT K a) H1
open PySem.Spec PyProof.Rows in
theorem pi_enumT {X : Cx} {e : Expr} {ta : TA} {p pos tpos : Pos} {elts : List Expr} {kk : Nat} (hg : Gl X "enumerate") (hm : X.mg "enumerate" = none) (ha : PA X [e] ta) (hs : starEach [e] X.env = [(false, eval e X.env)] := by rfl) :
    PI X (.Tuple elts kk tpos) (.Call (.Name "enumerate" p) [e] [] pos) (iEnumT X.K ta) := by
  refine ⟨fun pins s σ H R I h => ?_⟩
  refine Call_ (ld_blt I hg hm boot_enumerate (PyProof.Rows.callWith_type1 (thn (ha.run pos pins s σ H _ I h) fun us s1 ⟨vs, H1, I1, r1, a, xs, ex, hq, q⟩ => ?_) hs rfl))
  subst ex
  obtain ⟨u, rfl, ru⟩ := vals1 r1
  cases ru
  obtain ⟨its, rv, ht, hz⟩ := I1.tuple hq
  have hal : a < s1.heap.objs.size := by
    obtain ⟨o, ho, _⟩ := id ht
    exact Heap.lt_size ho
  refine call_enumT (show s1.heap.IsTuple a its.toArray from ht) fun h' he hit hk => wpAny_pyIter_enum he ?_
  have I2 : Inv X pins σ H1 { s1 with heap := h' } := I1.kept (t' := s1.toks) hk
  refine ⟨s1.heap.objs.size + 1, [s1.heap.objs.size + 1, s1.heap.objs.size], _, _, H1, rfl, I2, turn_enumT a (s1.heap.objs.size + 1) s1.heap.objs.size, ⟨⟨.none, he⟩, hit, Nat.succ_ne_self _, Nat.ne_of_lt hal, Nat.ne_of_lt (Nat.lt_succ_of_lt hal)⟩, fun b hb => ?_, q⟩
  have hle : s1.heap.objs.size ≤ b := by
    rcases List.mem_cons.mp hb with z | hb
    · rw [z]; exact Nat.le_succ _
    · rw [List.mem_singleton.mp hb]; exact Nat.le_refl _
  exact I1.fpOk hle (I1.hok.fresh hle)
/-- a loop over enumerate of a tuple -/
theorem for_enumT {K : PySem.W.Frag} {a : Addr} {xs : List V} {g : TG} {tb : TS} {D : Ends} {σ : L2.St} {H : Hp} (Pv : Nat → L2.St → Hp → Prop) (h0 : Pv 0 σ H) (hq : ∀ i σ H, Pv i σ H → SqT K H a xs)
    (hs : ∀ (i : Nat) (x : V) (T : Addr) (σ : L2.St) (H : Hp), xs[i]? = some x → Pv i σ H → H T = none → g (.ref T) σ (upd H T (.tup [.int (i : Nat), x])) fun σ2 H2 => tb { D with nx := Pv (i + 1), ct := Pv (i + 1), bk := D.nx } σ2 H2) (hd : ∀ σ H, Pv xs.length σ H → D.nx σ H) :
    ∃ W : Nat → Nat → L2.St → Hp → Prop, (∃ m, W 0 m σ H) ∧ ∀ i m σ H, W i m σ H →
      ((IteT K a).stop i H ∧ D.nx σ H) ∨ ((IteT K a).go i H ∧ ∃ N : L2.St → Hp → Prop, (∀ σ' H', N σ' H' → ∃ m', m' < m ∧ W (i + 1) m' σ' H') ∧ ∀ v H', (IteT K a).yld i H v H' → g v σ H' fun σ2 H2 => tb { D with nx := N, ct := N, bk := D.nx } σ2 H2) := by
  refine ⟨fun i m σ H => m + i = xs.length ∧ Pv i σ H, ⟨xs.length, rfl, h0⟩, ?_⟩
  rintro i m σ H ⟨hm, p⟩
  have qx := hq i σ H p
  by_cases hlt : i < xs.length
  · refine .inr ⟨⟨xs, _, qx, List.getElem?_eq_getElem hlt⟩, Pv (i + 1), fun σ' H' p' => ⟨m - 1, by omega, by omega, p'⟩, ?_⟩
    rintro v H' ⟨T, x, rfl, hT, rfl, f⟩
    exact hs i x T σ H (f xs qx) p hT
  · have e : i = xs.length := by omega
    subst e
    exact .inl ⟨⟨xs, qx, Nat.le_refl _⟩, hd σ H p⟩
abbrev sIsName : Stmt := top 6
abbrev sIsInteger : Stmt := top 7
abbrev sIsNumber : Stmt := top 8
def nameB (z : Str) : Bool := decide ((1 : Int) ≤ (z.length : Int)) && decide ((z.length : Int) ≤ 4) && lowB z
def spName (K : PySem.W.Frag) : Sp := fun vs H Q _ => ∃ x : V, vs = [x] ∧ ((∃ z : Str, x = .str z ∧ z.length ≤ 1000 ∧ ∀ H', Same H H' → Q (.bl (nameB z)) H') ∨
  (∃ t : String, TyX K H x (.type t) ∧ kitB t "str" = some false ∧ ∀ H', Same H H' → Q (.bl false) H'))
structure NameTxt (mg : Str → Option Value) : Prop where
  isi : mg "isinstance" = none
  str : mg "str" = none
  int : mg "int" = none
  bool : mg "bool" = none
  len : mg "len" = none
  all : mg "all" = none
  low : ∃ t, mg "LETTERS" = some (.str letters t)
  most : ∃ t, mg "LONGEST_NAME" = some (.int 4 t)
theorem scName : FnScope ["value", "letter"] ["value"] (defScope sIsName) := ⟨rfl, rfl, rfl, by decide +kernel, rfl, by decide +kernel, by decide +kernel⟩
theorem ok_isname {f : Addr} {fd : FuncData} (F : Fun K "is_name" "is_name" sIsName f fd) (T : NameTxt mg) : FnOk P w K mg base CX0 1 f fd ["value"] (spName K) := by
  refine F.ok scName (fun vs H Q E h => ?_) (fun cdv A outer s H vs Q E hr h => ?_)
  · obtain ⟨x, rfl, _⟩ := h
    rfl
  obtain ⟨x, rfl, h⟩ := h
  obtain ⟨tl, mlow⟩ := T.low
  obtain ⟨tm, mmost⟩ := T.most
  refine ⟨_, pss_cons (ps_if (PW.pt (pw_or (pt_not (pt_val (pe_callB call_isi (by rfl) T.isi (by decide +kernel) (pa_cons (pv 0) (pa_cons (pe_bltn (v := .ty "str") (by rfl) T.str (by decide +kernel) rfl) pa_nil)))))
        (pw_or1 (pt_not (pt_chain op_le op_le pe_int (pe_callB call_len (by rfl) T.len PySem.boot_len (pa_cons (pv 0) pa_nil)) (pe_glob (v := .int 4) (by rfl) mmost ⟨_, rfl⟩))))))
      (pss_one (ps_ret pe_bl)) pss_nil)
    (pss_one (ps_ret (pe_callB (cr_all rfl) (by rfl) T.all (by decide +kernel) (pa_cons
      (pe_lc (own := [("letter", 1)]) (g := gName 1) rfl scName.nd (pi_str (pv 0)) (blkOk_by (own := [("letter", 1)]) (N := ["value", "letter"]) (sc := defScope sIsName) (by decide +kernel))
        (fun _ _ _ _ _ => pg_name (i := 1) scName.nd rfl (Or.inl rfl) (Or.inr rfl)) (fun _ _ _ _ _ => pts_nil)
        (fun _ _ _ _ _ => pe_cmpR op_in_sign (pv 1) (pe_glob (v := .str letters) (by rfl) mlow ⟨_, rfl⟩) rfl)) pa_nil)))), ?_⟩
  rcases h with ⟨z, rfl, hz, q⟩ | ⟨t, ty, hk, q⟩
  · have hzl : z.length ≤ sizeLine := Nat.le_of_lt (small1000 hz)
    refine ⟨_, rfl, _, _, _, _, true, rfl, .ty _, .base (.str z), kit_ty (by decide +kernel), _, rfl, ?_⟩
    refine iteF ?_
    refine ⟨_, rfl, _, z.length, rfl, ⟨hzl, rfl⟩, 1, _, rfl, rfl, _, rfl, ?_⟩
    refine ite2 (fun h1 => ?_) (fun h1 => ?_)
    · refine ⟨_, 4, rfl, rfl, _, rfl, ?_⟩
      cases h2 : decide ((z.length : Int) ≤ 4) with
      | false =>
        refine iteT ?_
        have e : nameB z = false := by unfold nameB; rw [h2, Bool.and_false, Bool.false_and]
        rw [← e]
        exact q _ (Same.refl H)
      | true =>
        refine iteF ?_
        refine ⟨_, rfl, z, rfl, fun D hD => ?_⟩
        have s1 := same_upd hD (.lst [])
        refine lc_str (fun i H2 => Same H H2 ∧ H2 D = some (.lst (((z.cps.toList.take i).map fun c => decide (c ∈ letters.cps.toList)).map V.bl))) ⟨s1, upd_same⟩ (fun i c H2 hc ⟨s2, hD2⟩ => ?_) (fun H2 ⟨s2, hD2⟩ => ?_)
        · refine ⟨rfl, _, rfl, c, letters, rfl, rfl, _, hD2, ?_, fun a o e => ?_, ?_⟩
          · rw [List.length_map, List.length_map, List.length_take]
            have : z.cps.toList.length = z.length := (str_len z).symm
            exact Nat.lt_of_le_of_lt (Nat.min_le_right _ _) (by rw [this]; exact small1000 hz)
          · rw [upd_ne (ne_of_none e hD)]
            exact s2 _ _ e
          · rw [upd_same, kSq _ hc, List.map_append]
            rfl
        · rw [List.take_length] at hD2
          refine ⟨D, _, rfl, SqL.of hD2, ?_⟩
          have e : nameB z = ((z.cps.toList.map fun c => decide (c ∈ letters.cps.toList)).all id) := by
            have h1' : decide ((1 : Int) ≤ (z.length : Int)) = true := h1
            unfold nameB lowB
            rw [h2, h1', List.all_map]
            rfl
          rw [← e]
          exact q _ s2
    · have h1' : decide ((1 : Int) ≤ (z.length : Int)) = false := Bool.eq_false_iff.mpr h1
      refine ⟨_, rfl, iteT ?_⟩
      have e : nameB z = false := by unfold nameB; rw [h1', Bool.false_and, Bool.false_and]
      rw [← e]
      exact q _ (Same.refl H)
  · refine ⟨_, rfl, _, _, _, _, false, rfl, .ty _, ty, kit_ty hk, _, rfl, ?_⟩
    refine iteT (iteT ?_)
    exact q _ (Same.refl H)
def spInteger (K : PySem.W.Frag) : Sp := fun vs H Q _ => ∃ (x : V) (t : String) (bi bb : Bool), vs = [x] ∧ TyX K H x (.type t) ∧ kitB t "int" = some bi ∧ kitB t "bool" = some bb ∧ Q (.bl (bi && !bb)) H
theorem scInteger : FnScope ["value"] ["value"] (defScope sIsInteger) := ⟨rfl, rfl, rfl, by decide +kernel, rfl, by decide +kernel, by decide +kernel⟩
theorem ok_isinteger {f : Addr} {fd : FuncData} (F : Fun K "is_integer" "is_integer" sIsInteger f fd) (T : NameTxt mg) : FnOk P w K mg base CX0 1 f fd ["value"] (spInteger K) := by
  refine F.ok scInteger (fun vs H Q E h => ?_) (fun cdv A outer s H vs Q E hr h => ?_)
  · obtain ⟨x, t, bi, bb, rfl, _⟩ := h
    rfl
  obtain ⟨x, t, bi, bb, rfl, ty, h1, h2, q⟩ := h
  refine ⟨_, pss_one (ps_ret (pe_and (pe_callB call_isi (by rfl) T.isi (by decide +kernel) (pa_cons (pv 0) (pa_cons (pe_bltn (v := .ty "int") (by rfl) T.int (by decide +kernel) rfl) pa_nil)))
    (pe_one (pe_not (pe_callB call_isi (by rfl) T.isi (by decide +kernel) (pa_cons (pv 0) (pa_cons (pe_bltn (v := .ty "bool") (by rfl) T.bool (by decide +kernel) rfl) pa_nil))))))), ?_⟩
  refine ⟨_, rfl, _, _, _, _, bi, rfl, .ty _, ty, kit_ty h1, _, rfl, ?_⟩
  cases bi with
  | true =>
    refine iteT ?_
    exact ⟨_, rfl, _, _, _, _, bb, rfl, .ty _, ty, kit_ty h2, _, rfl, q⟩
  | false => exact iteF q
def spNumber (K : PySem.W.Frag) : Sp := fun vs H Q _ => ∃ (x : V) (lo hi : Int), vs = [x, .int lo, .int hi] ∧ ((∃ i, x = .int i ∧ Q (.bl (decide (lo ≤ i) && decide (i ≤ hi))) H) ∨
  (∃ (t : String) (bi bb : Bool), TyX K H x (.type t) ∧ kitB t "int" = some bi ∧ kitB t "bool" = some bb ∧ (bi && !bb) = false ∧ Q (.bl false) H))
theorem scNumber : FnScope ["value", "least", "most"] ["value", "least", "most"] (defScope sIsNumber) := ⟨rfl, rfl, rfl, by decide +kernel, rfl, by decide +kernel, by decide +kernel⟩
theorem ok_isnumber {f g : Addr} {fd gd : FuncData} (F : Fun K "is_number" "is_number" sIsNumber f fd) (G : FnOk P w K mg base CX0 1 g gd ["value"] (spInteger K)) (bG : Binds K gd ["value"] []) (kG : PySem.W.keepIn K (.ref g) = true) (mG : mg "is_integer" = some (.ref g)) :
    FnOk P w K mg base CX0 2 f fd ["value", "least", "most"] (spNumber K) := by
  refine F.ok scNumber (fun vs H Q E h => ?_) (fun cdv A outer s H vs Q E hr h => ?_)
  · obtain ⟨x, lo, hi, rfl, _⟩ := h
    rfl
  obtain ⟨x, lo, hi, rfl, h⟩ := h
  refine ⟨_, pss_one (ps_ret (pe_and (pe_call G hr (by rfl) mG kG bG .nil pass0 (pa_cons (pv 0) pa_nil)) (pe_one (pe_chain op_le op_le (pv 1) (pv 0) (pv 2))))), ?_⟩
  rcases h with ⟨i, rfl, q⟩ | ⟨t, bi, bb, ty, h1, h2, h3, q⟩
  · refine ⟨_, rfl, _, "int", true, false, rfl, .base (.int i), by decide +kernel, by decide +kernel, _, rfl, iteT ?_⟩
    refine ⟨_, rfl, _, rfl, lo, i, rfl, rfl, _, rfl, ?_⟩
    cases h : decide (lo ≤ i) with
    | true =>
      rw [h, Bool.true_and] at q
      exact iteT ⟨_, rfl, i, hi, rfl, rfl, q⟩
    | false =>
      rw [h, Bool.false_and] at q
      exact iteF q
  · refine ⟨_, rfl, _, t, bi, bb, rfl, ty, h1, h2, _, rfl, ?_⟩
    rw [h3]
    exact iteF q
/-! ### parts, their words -/
structure Tm where
  n : Int
  d : Int
  a : Str
inductive Pt where
  | flat (k w : Str) (es : List Str)
  | mix (w : Str) (ts : List Tm)
  | use (w p : Str) (es : List Str)
/-- place by place -/
def All2 {α β : Type} (R : α → β → Prop) (xs : List α) (ys : List β) : Prop := xs.length = ys.length ∧ ∀ (i : Nat) (x : α) (y : β), xs[i]? = some x → ys[i]? = some y → R x y
theorem All2.mono {α β : Type} {R S : α → β → Prop} {xs : List α} {ys : List β} (h : All2 R xs ys) (f : ∀ x y, R x y → S x y) : All2 S xs ys := ⟨h.1, fun i x y a b => f x y (h.2 i x y a b)⟩
theorem All2.nil {α β : Type} {R : α → β → Prop} : All2 R [] [] := ⟨rfl, fun i x y h => by simp at h⟩
theorem All2.snoc {α β : Type} {R : α → β → Prop} {xs : List α} {ys : List β} {x : α} {y : β} (h : All2 R xs ys) (r : R x y) : All2 R (xs ++ [x]) (ys ++ [y]) := by
  refine ⟨by rw [List.length_append, List.length_append, h.1]; rfl, fun i u v hu hv => ?_⟩
  rw [List.getElem?_append] at hu hv
  rw [← h.1] at hv
  by_cases hi : i < xs.length
  · rw [if_pos hi] at hu hv
    exact h.2 i u v hu hv
  · rw [if_neg hi] at hu hv
    cases hk : i - xs.length with
    | zero =>
      rw [hk] at hu hv
      cases Option.some.inj hu
      cases Option.some.inj hv
      exact r
    | succ k =>
      rw [hk] at hu
      cases hu
theorem All2.get {α β : Type} {R : α → β → Prop} {xs : List α} {ys : List β} (h : All2 R xs ys) {i : Nat} {x : α} (hx : xs[i]? = some x) : ∃ y, ys[i]? = some y ∧ R x y := by
  have hi : i < ys.length := by
    rw [← h.1]
    exact (List.getElem?_eq_some_iff.mp hx).1
  exact ⟨ys[i], List.getElem?_eq_getElem hi, h.2 i x _ hx (List.getElem?_eq_getElem hi)⟩
def TmAt (H : Hp) (v : V) (t : Tm) : Prop := ∃ a, v = .ref a ∧ H a = some (.tup [.int t.n, .int t.d, .str t.a])
def PtAt (H : Hp) (v : V) : Pt → Prop
  | .flat k w es => ∃ a, v = .ref a ∧ H a = some (.tup (.str k :: .str w :: es.map V.str))
  | .mix w ts => ∃ a b vs, v = .ref a ∧ H a = some (.tup [.str "mix", .str w, .ref b]) ∧ H b = some (.tup vs) ∧ All2 (TmAt H) vs ts
  | .use w p es => ∃ a b, v = .ref a ∧ H a = some (.tup [.str "use", .str w, .str p, .ref b]) ∧ H b = some (.tup (es.map V.str))
/-- tuples that stood, stand -/
def Tups (H H' : Hp) : Prop := ∀ a xs, H a = some (.tup xs) → H' a = some (.tup xs)
theorem Same.tups {H H' : Hp} (s : Same H H') : Tups H H' := fun a xs h => s a _ h
theorem Kp.tups {b c : Addr} {H H' : Hp} (k : Kp b H H') (B : Bag H b c) : Tups H H' := fun a xs h => by
  obtain ⟨ns, p, r, s, q, B⟩ := B
  exact k a _ h (ne_of h B.lb (by intro z; cases z))
theorem Tups.trans {H H1 H2 : Hp} (x : Tups H H1) (y : Tups H1 H2) : Tups H H2 := fun a xs h => y a xs (x a xs h)
theorem TmAt.tups {H H' : Hp} (s : Tups H H') {v : V} {t : Tm} (h : TmAt H v t) : TmAt H' v t := by
  obtain ⟨a, e, h⟩ := h
  exact ⟨a, e, s _ _ h⟩
theorem PtAt.tups {H H' : Hp} (s : Tups H H') {v : V} : ∀ {p : Pt}, PtAt H v p → PtAt H' v p
  | .flat _ _ _, ⟨a, e, h⟩ => ⟨a, e, s _ _ h⟩
  | .mix _ _, ⟨a, b, vs, e, h1, h2, h3⟩ => ⟨a, b, vs, e, s _ _ h1, s _ _ h2, h3.mono fun _ _ h => h.tups s⟩
  | .use _ _ _, ⟨a, b, e, h1, h2⟩ => ⟨a, b, e, s _ _ h1, s _ _ h2⟩
structure SmT (t : Tm) : Prop where
  n0 : -99 ≤ t.n
  n1 : t.n ≤ 99
  d0 : 0 ≤ t.d
  d1 : t.d ≤ 4
  a : t.a.length ≤ 10
def SmP : Pt → Prop
  | .flat k w es => ¬ k = "mix" ∧ ¬ k = "use" ∧ k.length ≤ 10 ∧ w.length ≤ 10 ∧ es.length ≤ 10 ∧ ∀ e ∈ es, e.length ≤ 10
  | .mix w ts => w.length ≤ 10 ∧ ts.length ≤ 10 ∧ ∀ t ∈ ts, SmT t
  | .use w p es => w.length ≤ 10 ∧ p.length ≤ 10 ∧ es.length ≤ 10 ∧ ∀ e ∈ es, e.length ≤ 10
/-- the digits of a number -/
def dec (i : Int) : Str := toString i
theorem dec_len {i : Int} (h0 : -99 ≤ i) (h1 : i ≤ 99) : (dec i).length ≤ 10 := by
  have all : ∀ k : Fin 199, (dec ((k.val : Int) - 99)).length ≤ 10 := by decide +kernel
  have e : i = (((⟨(i + 99).toNat, by omega⟩ : Fin 199).val : Nat) : Int) - 99 := by
    show i = ((i + 99).toNat : Int) - 99
    omega
  rw [e]
  exact all _
theorem dec_log {i : Int} (h0 : -99 ≤ i) (h1 : i ≤ 99) : i.natAbs.log2 < 1920 := by
  have h : i.natAbs < 2 ^ 7 := by omega
  by_cases z : i.natAbs = 0
  · rw [z]; decide
  · exact Nat.lt_trans ((Nat.log2_lt z).mpr h) (by decide)
def tmWords (first : Bool) (t : Tm) : List Str := (if first = true then [] else [("," : Str)]) ++ [dec t.n, t.a] ++ (if t.d = 0 then [] else [("late" : Str), dec t.d])
/-- the words of the first i terms -/
def tmsW (ts : List Tm) : Nat → List Str
  | 0 => []
  | i + 1 => tmsW ts i ++ (match ts[i]? with | some t => tmWords (i == 0) t | none => [])
theorem tmsW_succ {ts : List Tm} {i : Nat} {t : Tm} (h : ts[i]? = some t) : tmsW ts (i + 1) = tmsW ts i ++ tmWords (i == 0) t := by
  show tmsW ts i ++ (match ts[i]? with | some t => tmWords (i == 0) t | none => []) = _
  rw [h]
def ptW : Pt → List Str
  | .flat k w es => w :: k :: es
  | .mix w ts => w :: ("mix" : Str) :: tmsW ts ts.length
  | .use w p es => w :: ("use" : Str) :: p :: es
def psW (ps : List Pt) : Nat → List Str
  | 0 => []
  | i + 1 => psW ps i ++ (match ps[i]? with | some p => ptW p ++ [(";" : Str)] | none => [])
theorem psW_succ {ps : List Pt} {i : Nat} {p : Pt} (h : ps[i]? = some p) : psW ps (i + 1) = psW ps i ++ (ptW p ++ [(";" : Str)]) := by
  show psW ps i ++ (match ps[i]? with | some p => ptW p ++ [(";" : Str)] | none => []) = _
  rw [h]
def netW (ps : List Pt) (os : List Str) : List Str := psW ps ps.length ++ [(">" : Str)] ++ os
def Lo (l : List Str) (n : Nat) : Prop := l.length ≤ n ∧ ∀ z ∈ l, z.length ≤ 10
theorem Lo.app {l m : List Str} {a b : Nat} (h : Lo l a) (g : Lo m b) : Lo (l ++ m) (a + b) := ⟨by rw [List.length_append]; exact Nat.add_le_add h.1 g.1, fun z hz => (List.mem_append.mp hz).elim (h.2 z) (g.2 z)⟩
theorem Lo.le {l : List Str} {a b : Nat} (h : Lo l a) (k : a ≤ b) : Lo l b := ⟨Nat.le_trans h.1 k, h.2⟩
theorem lo_of {l : List Str} (n : Nat) (h : l.length ≤ n) (g : ∀ z ∈ l, z.length ≤ 10) : Lo l n := ⟨h, g⟩
theorem tmWords_lo {b : Bool} {t : Tm} (h : SmT t) : Lo (tmWords b t) 5 := by
  unfold tmWords
  refine Lo.app (a := 3) (b := 2) (Lo.app (a := 1) (b := 2) ?_ ?_) ?_
  · cases b with
    | true => exact ⟨Nat.zero_le _, fun z hz => nomatch hz⟩
    | false => exact ⟨by decide, by decide +kernel⟩
  · refine ⟨by show 2 ≤ 2; decide, fun z hz => ?_⟩
    rcases List.mem_cons.mp hz with e | hz
    · rw [e]; exact dec_len h.n0 h.n1
    · rw [List.mem_singleton.mp hz]; exact h.a
  · by_cases e : t.d = 0
    · rw [if_pos e]; exact ⟨Nat.zero_le _, fun z hz => nomatch hz⟩
    · rw [if_neg e]
      refine ⟨by show 2 ≤ 2; decide, fun z hz => ?_⟩
      have d0 := h.d0
      have d1 := h.d1
      rcases List.mem_cons.mp hz with e | hz
      · rw [e]; decide +kernel
      · rw [List.mem_singleton.mp hz]; exact dec_len (by omega) (by omega)
theorem tmsW_lo {ts : List Tm} (h : ∀ t ∈ ts, SmT t) : ∀ i, Lo (tmsW ts i) (5 * i)
  | 0 => ⟨Nat.le_refl _, fun z hz => nomatch hz⟩
  | i + 1 => by
    show Lo (tmsW ts i ++ (match ts[i]? with | some t => tmWords (i == 0) t | none => [])) (5 * i + 5)
    refine (tmsW_lo h i).app ?_
    cases e : ts[i]? with
    | none => exact ⟨Nat.zero_le _, fun z hz => nomatch hz⟩
    | some t => exact tmWords_lo (h t (List.mem_of_getElem? e))
theorem ptW_lo : ∀ {p : Pt}, SmP p → Lo (ptW p) 60
  | .flat k w es, ⟨_, _, hk, hw, hl, he⟩ => (lo_of (l := [w, k]) 2 (Nat.le_refl _) (fun z hz => by
      rcases List.mem_cons.mp hz with e | hz
      · rw [e]; exact hw
      · rw [List.mem_singleton.mp hz]; exact hk)).app (lo_of 58 (by omega) he)
  | .mix w ts, ⟨hw, hl, ht⟩ => (lo_of (l := [w, ("mix" : Str)]) 2 (Nat.le_refl _) (fun z hz => by
      rcases List.mem_cons.mp hz with e | hz
      · rw [e]; exact hw
      · rw [List.mem_singleton.mp hz]; decide +kernel)).app ((tmsW_lo ht ts.length).le (b := 58) (by omega))
  | .use w p es, ⟨hw, hp, hl, he⟩ => (lo_of (l := [w, ("use" : Str), p]) 3 (Nat.le_refl _) (fun z hz => by
      rcases List.mem_cons.mp hz with e | hz
      · rw [e]; exact hw
      · rcases List.mem_cons.mp hz with e | hz
        · rw [e]; decide +kernel
        · rw [List.mem_singleton.mp hz]; exact hp)).app (lo_of 57 (by omega) he)
theorem psW_lo {ps : List Pt} (h : ∀ p ∈ ps, SmP p) : ∀ i, Lo (psW ps i) (61 * i)
  | 0 => ⟨Nat.le_refl _, fun z hz => nomatch hz⟩
  | i + 1 => by
    show Lo (psW ps i ++ (match ps[i]? with | some p => ptW p ++ [(";" : Str)] | none => [])) (61 * i + 61)
    refine (psW_lo h i).app ?_
    cases e : ps[i]? with
    | none => exact ⟨Nat.zero_le _, fun z hz => nomatch hz⟩
    | some p => exact (ptW_lo (h p (List.mem_of_getElem? e))).app (lo_of (l := [(";" : Str)]) 1 (Nat.le_refl _) (by decide +kernel))
theorem lo_sum {l : List Str} (h : ∀ z ∈ l, z.length ≤ 10) : (l.map (·.length)).sum ≤ 10 * l.length := by
  induction l with
  | nil => exact Nat.le_refl _
  | cons x r ih =>
    have h1 := h x (List.mem_cons_self ..)
    have h2 := ih fun z hz => h z (List.mem_cons_of_mem _ hz)
    rw [List.map_cons, List.sum_cons, List.length_cons]
    omega
/-! ### text_of and its helpers -/
abbrev sText : Stmt := top 15
abbrev sPartW : Stmt := top 16
abbrev sTermsW : Stmt := top 17
theorem same_wr {H H' : Hp} (s : Same H H') {p : Addr} (h : H p = none) (o : HO) : Same H (upd H' p o) := fun a u e => by rw [upd_ne (ne_of_none e h)]; exact s a u e
theorem strs_app (l m : List Str) : l.map V.str ++ m.map V.str = (l ++ m).map V.str := (List.map_append ..).symm
def spTermsW : Sp := fun vs H Q _ => ∃ (b : Addr) (us : List V) (ts : List Tm), vs = [.ref b] ∧ H b = some (.tup us) ∧ All2 (TmAt H) us ts ∧ ts.length ≤ 10 ∧ (∀ t ∈ ts, SmT t) ∧
  ∀ (l : Addr) (H' : Hp), Same H H' → H l = none → H' l = some (.lst ((tmsW ts ts.length).map V.str)) → Q (.ref l) H'
theorem scTermsW : FnScope ["terms", "words", "at", "factor", "delay", "wire"] ["terms"] (defScope sTermsW) := ⟨rfl, rfl, rfl, by decide +kernel, rfl, by decide +kernel, by decide +kernel⟩
theorem ok_termsW {f : Addr} {fd : FuncData} (F : Fun K "words_of_terms" "words_of_terms" sTermsW f fd) (menum : mg "enumerate" = none) (mstr : mg "str" = none) : FnOk P w K mg base CX0 1 f fd ["terms"] spTermsW := by
  refine F.ok scTermsW (fun vs H Q E h => ?_) (fun cdv A outer s H vs Q E hr h => ?_)
  · obtain ⟨b, us, ts, rfl, _⟩ := h
    rfl
  obtain ⟨b, us, ts, rfl, hb, hA, h10, hsm, q⟩ := h
  refine ⟨_, pss_cons (ps_set (i := 1) scTermsW.nd rfl (Or.inl rfl) (pe_lst pa_nil))
    (pss_cons (ps_for PassesOwn.never rfl (pi_enumT (by rfl) menum (pa_cons (pv 0) pa_nil))
      (pg_tup (n := 2) rfl (pgs_cons (pg_name (i := 2) scTermsW.nd rfl (Or.inl rfl)) (pgs_cons (pg_tup (n := 3) rfl (pgs_cons (pg_name (i := 3) scTermsW.nd rfl (Or.inl rfl)) (pgs_cons (pg_name (i := 4) scTermsW.nd rfl (Or.inl rfl)) (pgs_cons (pg_name (i := 5) scTermsW.nd rfl (Or.inl rfl)) pgs_nil)))) pgs_nil)))
      (C8.pss_cut (ps_if (pt_cmpR op_gt (pv 2) pe_int (nomark _)) (pss_one (ps_expr (pe_bm PySem.F.plainAttrs_list PySem.F.slot_list_append PySem.F.type_list_append mt_append (pv 1) (pa_cons pe_str pa_nil)))) pss_nil)
      (pss_cons (ps_expr (pe_bm PySem.F.plainAttrs_list PySem.F.slot_list_extend PySem.F.type_list_extend mt_extend (pv 1) (pa_cons (pe_lst (pa_cons (pe_callTy call_str_int (by rfl) mstr (by decide +kernel) (pa_cons (pv 3) pa_nil)) (pa_cons (pv 5) pa_nil))) pa_nil)))
      (pss_one (ps_if (pt_cmpR op_ne (pv 4) pe_int (nomark _)) (pss_one (ps_expr (pe_bm PySem.F.plainAttrs_list PySem.F.slot_list_extend PySem.F.type_list_extend mt_extend (pv 1) (pa_cons (pe_lst (pa_cons pe_str (pa_cons (pe_callTy call_str_int (by rfl) mstr (by decide +kernel) (pa_cons (pv 4) pa_nil)) pa_nil))) pa_nil)))) pss_nil)))))
    (pss_one (ps_ret (pv 1)))), ?_⟩
  refine ⟨Nat.zero_le _, fun L hL => ?_⟩
  have nbL : b ≠ L := ne_of_none hb hL
  have s1 : Same H (upd H L (.lst [])) := same_upd hL _
  refine ⟨.ref b, rfl, b, us, rfl, SqT.of (s1 _ _ hb), for_enumT (xs := us) (fun i σ H2 => ∃ v2 v3 v4 v5, σ = [some (.ref b), some (.ref L), v2, v3, v4, v5] ∧ Same H H2 ∧ H2 L = some (.lst ((tmsW ts i).map V.str)))
    ⟨none, none, none, none, rfl, s1, upd_same⟩ (fun i σ H2 ⟨_, _, _, _, _, s2, _⟩ => SqT.of (s2 _ _ hb)) ?_ ?_⟩
  · rintro i x T σ H2 hx ⟨v2, v3, v4, v5, rfl, s2, hL2⟩ hT
    obtain ⟨t, ht, a, rfl, ha⟩ := hA.get hx
    have hi : i < ts.length := (List.getElem?_eq_some_iff.mp ht).1
    have sm := hsm t (List.mem_of_getElem? ht)
    have nLT : L ≠ T := ne_of_none hL2 hT
    have s3 : Same H (upd H2 T (.tup [.int (i : Nat), .ref a])) := s2.trans (same_upd hT _)
    have lo := tmsW_lo hsm i
    have hlo : ((tmsW ts i).map V.str).length ≤ 50 := by rw [List.length_map]; exact Nat.le_trans lo.1 (by omega)
    have h1000 : (1000 : Nat) ≤ sizeLine := by decide
    refine ⟨T, [.int (i : Nat), .ref a], rfl, SqT.of upd_same, rfl, _, _, rfl, .ref a, [], rfl, a, _, rfl, SqT.of (s3 _ _ ha), rfl, _, _, rfl, _, _, rfl, _, _, rfl, rfl, rfl, ?_⟩
    -- if at > 0
    refine ⟨fun σ' H3 => σ' = [some (.ref b), some (.ref L), some (.int (i : Nat)), some (.int t.n), some (.int t.d), some (.str t.a)] ∧ Same H H3 ∧ H3 L = some (.lst ((tmsW ts i ++ (if (i == 0) = true then [] else [("," : Str)])).map V.str)), ?_, ?_⟩
    · refine ⟨_, rfl, _, _, rfl, rfl, _, rfl, ?_⟩
      refine ite2 (fun c => ?_) (fun c => ?_)
      · have c' : (0 : Int) < ((i : Nat) : Int) := of_decide_eq_true c
        refine ⟨.ref L, rfl, .inl ⟨rfl, _, SqL.of (by rw [upd_ne nLT]; exact hL2)⟩, L, _, _, rfl, rfl, by rw [upd_ne nLT]; exact hL2, by omega, ?_⟩
        refine ⟨rfl, same_wr s3 hL _, ?_⟩
        rw [upd_same, if_neg (by simp; omega), List.map_append]
        rfl
      · have c' : ¬ (0 : Int) < ((i : Nat) : Int) := of_decide_eq_false (Bool.eq_false_iff.mpr c)
        refine ⟨rfl, s3, ?_⟩
        rw [upd_ne nLT, if_pos (by simp; omega), List.append_nil]
        exact hL2
    rintro σ' H3 ⟨rfl, s4, hL3⟩
    generalize hsep : (if (i == 0) = true then [] else [("," : Str)]) = sep at hL3
    have hsl : sep.length ≤ 1 := by
      rw [← hsep]
      cases (i == 0) with
      | true => exact Nat.zero_le _
      | false => exact Nat.le_refl _
    have hlen3 : ((tmsW ts i ++ sep).map V.str).length ≤ 51 := by
      rw [List.length_map] at hlo ⊢
      rw [List.length_append]
      omega
    -- words.extend([str(factor), wire])
    refine ⟨.ref L, rfl, .inl ⟨rfl, _, SqL.of hL3⟩, _, rfl, _, rfl, dec_log sm.n0 sm.n1, _, rfl, (by show 2 ≤ sizeLine; decide), fun m hm => ?_⟩
    have nLm : L ≠ m := ne_of_none hL3 hm
    refine ⟨L, m, _, _, rfl, rfl, by rw [upd_ne nLm]; exact hL3, upd_same, (by show _ + 2 ≤ _; omega), ?_⟩
    have s5 : Same H (upd (upd H3 m (.lst [.str (toString t.n), .str t.a])) L (.lst ((tmsW ts i ++ sep).map V.str ++ [.str (toString t.n), .str t.a]))) := same_wr (s4.trans (same_upd hm _)) hL _
    have e5 : (tmsW ts i ++ sep).map V.str ++ [.str (toString t.n), .str t.a] = ((tmsW ts i ++ sep) ++ [dec t.n, t.a]).map V.str := strs_app (tmsW ts i ++ sep) [dec t.n, t.a]
    have hL5 : (upd (upd H3 m (.lst [.str (toString t.n), .str t.a])) L (.lst ((tmsW ts i ++ sep).map V.str ++ [.str (toString t.n), .str t.a]))) L = some (.lst (((tmsW ts i ++ sep) ++ [dec t.n, t.a]).map V.str)) := by rw [upd_same, e5]
    generalize (upd (upd H3 m (.lst [.str (toString t.n), .str t.a])) L (.lst ((tmsW ts i ++ sep).map V.str ++ [.str (toString t.n), .str t.a]))) = H5 at s5 hL5
    -- if delay != 0
    refine ⟨_, rfl, rfl, _, rfl, ?_⟩
    refine ite2 (fun c => ?_) (fun c => ?_)
    · have d0 : ¬ t.d = 0 := fun e => by
        rw [e] at c
        cases c
      have d0' := sm.d0
      have d1' := sm.d1
      refine ⟨.ref L, rfl, .inl ⟨rfl, _, SqL.of hL5⟩, _, rfl, _, rfl, dec_log (by omega) (by omega), (by show 2 ≤ sizeLine; decide), fun m2 hm2 => ?_⟩
      have nLm2 : L ≠ m2 := ne_of_none hL5 hm2
      refine ⟨L, m2, _, _, rfl, rfl, by rw [upd_ne nLm2]; exact hL5, upd_same, ?_, ?_⟩
      · rw [List.length_map, List.length_append]
        rw [List.length_map] at hlen3
        show _ + 2 + 2 ≤ _
        omega
      · refine ⟨_, _, _, _, rfl, same_wr (s5.trans (same_upd hm2 _)) hL _, ?_⟩
        rw [upd_same, tmsW_succ ht]
        unfold tmWords
        rw [hsep, if_neg d0]
        have e6 : (tmsW ts i ++ sep ++ [dec t.n, t.a]).map V.str ++ [V.str "late", V.str (toString t.d)] = ((tmsW ts i ++ sep ++ [dec t.n, t.a]) ++ [("late" : Str), dec t.d]).map V.str := strs_app _ [("late" : Str), dec t.d]
        rw [e6]
        simp only [List.append_assoc]
    · have d0 : t.d = 0 := by
        by_cases e : t.d = 0
        · exact e
        · exact absurd (show (!decide (V.int t.d = V.int 0)) = true by rw [decide_eq_false (fun z => e (V.int.inj z))]; rfl) c
      refine ⟨_, _, _, _, rfl, s5, ?_⟩
      rw [hL5, tmsW_succ ht]
      unfold tmWords
      rw [hsep, if_pos d0, List.append_nil, List.append_assoc]
  · rintro σ H2 ⟨v2, v3, v4, v5, rfl, s2, hL2⟩
    rw [hA.1] at hL2
    exact ⟨.ref L, rfl, q L H2 s2 hL hL2⟩
def spPartW : Sp := fun vs H Q _ => ∃ (x : V) (p : Pt), vs = [x] ∧ PtAt H x p ∧ SmP p ∧ ∀ (l : Addr) (H' : Hp), Same H H' → H l = none → H' l = some (.lst ((ptW p).map V.str)) → Q (.ref l) H'
theorem scPartW : FnScope ["part", "kind", "wire", "items"] ["part"] (defScope sPartW) := ⟨rfl, rfl, rfl, by decide +kernel, rfl, by decide +kernel, by decide +kernel⟩
theorem ok_partW {f g : Addr} {fd gd : FuncData} (F : Fun K "words_of_part" "words_of_part" sPartW f fd) (G : Df P w K mg base 1 g gd "words_of_terms" ["terms"] spTermsW) : FnOk P w K mg base CX0 2 f fd ["part"] spPartW := by
  refine F.ok scPartW (fun vs H Q E h => ?_) (fun cdv A outer s H vs Q E hr h => ?_)
  · obtain ⟨x, p, rfl, _⟩ := h
    rfl
  obtain ⟨x, p, rfl, hp, hs, q⟩ := h
  refine ⟨_, pss_cons (ps_asg (pv 0) (pg_star (n := 2) rfl (pgs_cons (pg_name (i := 1) scPartW.nd rfl (Or.inl rfl)) (pgs_cons (pg_name (i := 2) scPartW.nd rfl (Or.inl rfl)) (pgs_star (pg_name (i := 3) scPartW.nd rfl (Or.inl rfl)))))))
    (pss_cons (ps_if (pt_cmpR op_eq (pv 1) pe_str (nomark _)) (pss_one (ps_ret (pe_lst (pa_cons (pv 2) (pa_cons (pv 1) (StX.pa_star (pe_call G.ok hr (by rfl) G.m G.kp G.b .nil pass0 (pa_cons (pe_ix ix_list (pv 3) pe_int (fun _ _ => rfl)) pa_nil)) pa_nil)))))) pss_nil)
    (pss_cons (ps_if (pt_cmpR op_eq (pv 1) pe_str (nomark _)) (pss_one (ps_ret (pe_lst (pa_cons (pv 2) (pa_cons (pv 1) (pa_cons (pe_ix ix_list (pv 3) pe_int (fun _ _ => rfl)) (StX.pa_star (pe_ix ix_list (pv 3) pe_int (fun _ _ => rfl)) pa_nil))))))) pss_nil)
    (pss_one (ps_ret (pe_lst (pa_cons (pv 2) (pa_cons (pv 1) (StX.pa_star (pv 3) pa_nil)))))))), ?_⟩
  have lo := ptW_lo hs
  have h1000 : (1000 : Nat) ≤ sizeLine := by decide
  have lenOk : ∀ l : List Str, l.length ≤ 60 → (l.map V.str).length ≤ sizeLine := fun l h => by rw [List.length_map]; omega
  cases p with
  | flat k w es =>
    obtain ⟨a, rfl, ha⟩ := hp
    obtain ⟨n1, n2, _⟩ := hs
    refine ⟨.ref a, rfl, a, _, rfl, SqT.of ha, (by show 2 ≤ _ + 2; omega), fun p hp0 => ?_⟩
    refine ⟨_, _, rfl, _, _, rfl, _, _, rfl, rfl, ?_⟩
    refine ⟨_, rfl, rfl, _, rfl, ?_⟩
    rw [decide_eq_false (fun e => n1 (V.str.inj e))]
    refine iteF ?_
    refine ⟨_, rfl, rfl, _, rfl, ?_⟩
    rw [decide_eq_false (fun e => n2 (V.str.inj e))]
    refine iteF ?_
    refine ⟨_, rfl, _, rfl, _, rfl, p, _, rfl, .inr (SqL.of upd_same), ?_, fun l hl => ?_⟩
    · have e := lenOk (w :: k :: es) lo.1
      have e2 : (List.drop 2 (V.str k :: V.str w :: es.map V.str) ++ []).length = es.length := by
        rw [List.append_nil]
        show (es.map V.str).length = _
        rw [List.length_map]
      rw [List.length_map] at e
      show (List.drop 2 (V.str k :: V.str w :: es.map V.str) ++ []).length + 1 + 1 ≤ _
      rw [e2]
      exact e
    · refine q l _ ((same_upd hp0 _).trans (same_upd hl _)) ((same_upd hp0 _).free hl) ?_
      rw [upd_same]
      show some (HO.lst (V.str w :: V.str k :: (es.map V.str ++ []))) = some (HO.lst (V.str w :: V.str k :: es.map V.str))
      rw [List.append_nil]
  | mix w ts =>
    obtain ⟨a, b, us, rfl, ha, hb, hA⟩ := hp
    obtain ⟨_, hl, ht⟩ := hs
    refine ⟨.ref a, rfl, a, _, rfl, SqT.of ha, (by show 2 ≤ 3; decide), fun p hp0 => ?_⟩
    have s1 := same_upd hp0 (.lst [.ref b])
    refine ⟨_, _, rfl, _, _, rfl, _, _, rfl, rfl, ?_⟩
    refine ⟨_, rfl, rfl, _, rfl, ?_⟩
    rw [decide_eq_true (rfl : V.str "mix" = V.str "mix")]
    refine iteT ?_
    refine ⟨_, rfl, _, rfl, .ref p, rfl, p, [.ref b], 0, .ref b, rfl, rfl, SqL.of upd_same, rfl, ?_⟩
    refine ⟨b, us, ts, rfl, s1 _ _ hb, hA.mono fun _ _ z => z.tups (Same.tups s1), hl, ht, fun l H' s2 hl0 hlH => ?_⟩
    refine ⟨l, _, rfl, .inr (SqL.of hlH), ?_, fun m hm => ?_⟩
    · have e := lo.1
      show ((tmsW ts ts.length).map V.str ++ []).length + 1 + 1 ≤ _
      rw [List.append_nil, List.length_map]
      have e2 : (ptW (.mix w ts)).length = (tmsW ts ts.length).length + 1 + 1 := rfl
      omega
    · refine q m _ ((s1.trans s2).trans (same_upd hm _)) (s1.free (s2.free hm)) ?_
      rw [upd_same]
      show some (HO.lst (V.str w :: V.str "mix" :: ((tmsW ts ts.length).map V.str ++ []))) = _
      rw [List.append_nil]
      rfl
  | use w p es =>
    obtain ⟨a, b, rfl, ha, hb⟩ := hp
    obtain ⟨_, _, hl, _⟩ := hs
    refine ⟨.ref a, rfl, a, _, rfl, SqT.of ha, (by show 2 ≤ 4; decide), fun p0 hp0 => ?_⟩
    have s1 := same_upd hp0 (.lst [.str p, .ref b])
    refine ⟨_, _, rfl, _, _, rfl, _, _, rfl, rfl, ?_⟩
    refine ⟨_, rfl, rfl, _, rfl, ?_⟩
    rw [decide_eq_false (show ¬ V.str "use" = V.str "mix" by decide +kernel)]
    refine iteF ?_
    refine ⟨_, rfl, rfl, _, rfl, ?_⟩
    rw [decide_eq_true (rfl : V.str "use" = V.str "use")]
    refine iteT ?_
    refine ⟨_, rfl, _, rfl, .ref p0, rfl, p0, [.str p, .ref b], 0, .str p, rfl, rfl, SqL.of upd_same, rfl, ?_⟩
    refine ⟨.ref p0, rfl, p0, [.str p, .ref b], 1, .ref b, rfl, rfl, SqL.of upd_same, rfl, ?_⟩
    refine ⟨b, _, rfl, .inl (SqT.of (s1 _ _ hb)), ?_, fun m hm => ?_⟩
    · show (es.map V.str ++ []).length + 1 + 1 + 1 ≤ _
      rw [List.append_nil, List.length_map]
      omega
    · refine q m _ (s1.trans (same_upd hm _)) (s1.free hm) ?_
      rw [upd_same]
      show some (HO.lst (V.str w :: V.str "use" :: V.str p :: (es.map V.str ++ []))) = _
      rw [List.append_nil]
      rfl
theorem sameT {H H' : Hp} (s : Same H H') {a : Addr} {xs : List V} (h : SqT K H a xs) : SqT K H' a xs := by
  rcases h with (h | ⟨o, h⟩) | h
  · exact .inl (.inl (s _ _ h))
  · exact .inl (.inr ⟨o, s _ _ h⟩)
  · exact .inr h
theorem sameL {H H' : Hp} (s : Same H H') {a : Addr} {xs : List V} (h : SqL K H a xs) : SqL K H' a xs := s.seq h
theorem scText : FnScope ["parts", "outs", "words", "part"] ["parts", "outs"] (defScope sText) := ⟨rfl, rfl, rfl, by decide +kernel, rfl, by decide +kernel, by decide +kernel⟩
/-- text_of over a L of parts -/
def spTextL (K : PySem.W.Frag) : Sp := fun vs H Q _ => ∃ (a o : Addr) (us : List V) (ps : List Pt) (os : List Str), vs = [.ref a, .ref o] ∧ SqL K H a us ∧ All2 (PtAt H) us ps ∧ ps.length ≤ 20 ∧ (∀ p ∈ ps, SmP p) ∧
  (SqT K H o (os.map V.str) ∨ SqL K H o (os.map V.str)) ∧ Lo os 20 ∧ ∀ H', Same H H' → Q (.str (Txt.join " " (netW ps os))) H'
theorem ok_textL {f g : Addr} {fd gd : FuncData} (F : Fun K "text_of" "text_of" sText f fd) (G : Df P w K mg base 2 g gd "words_of_part" ["part"] spPartW) : FnOk P w K mg base CX0 3 f fd ["parts", "outs"] (spTextL K) := by
  refine F.ok scText (fun vs H Q E h => ?_) (fun cdv A outer s H vs Q E hr h => ?_)
  · obtain ⟨a, o, us, ps, os, rfl, _⟩ := h
    rfl
  obtain ⟨a, o, us, ps, os, rfl, ha, hA, hl, hs, ho, lo, q⟩ := h
  refine ⟨_, pss_cons (ps_set (i := 2) scText.nd rfl (Or.inl rfl) (pe_lst pa_nil))
    (pss_cons (ps_for PassesOwn.never rfl (pi_list (pv 0)) (pg_name (i := 3) scText.nd rfl (Or.inl rfl))
      (pss_cons (ps_expr (pe_bm PySem.F.plainAttrs_list PySem.F.slot_list_extend PySem.F.type_list_extend mt_extend (pv 2) (pa_cons (pe_call G.ok hr (by rfl) G.m G.kp G.b .nil pass0 (pa_cons (pv 3) pa_nil)) pa_nil)))
      (pss_one (ps_expr (pe_bm PySem.F.plainAttrs_list PySem.F.slot_list_append PySem.F.type_list_append mt_append (pv 2) (pa_cons pe_str pa_nil))))))
    (pss_one (ps_ret (pe_join pe_str (pe_lst (StX.pa_star (pv 2) (pa_cons pe_str (StX.pa_star (pv 1) pa_nil)))))))), ?_⟩
  have h10000 : (10000 : Nat) ≤ sizeLine := by decide
  refine ⟨Nat.zero_le _, fun L hL => ?_⟩
  have s1 : Same H (upd H L (.lst [])) := same_upd hL _
  refine ⟨.ref a, rfl, a, rfl, ⟨_, sameL s1 ha⟩, for_list (K := K) (a := a) (xs := us) (fun i σ H2 => ∃ v3, σ = [some (.ref a), some (.ref o), some (.ref L), v3] ∧ Same H H2 ∧ H2 L = some (.lst ((psW ps i).map V.str)))
    ⟨none, rfl, s1, upd_same⟩ (fun i σ H2 _ ⟨_, _, s2, _⟩ => sameL s2 ha) ?_ ?_⟩
  · rintro i x σ H2 hx ⟨v3, rfl, s2, hL2⟩
    obtain ⟨p, hp, hxp⟩ := hA.get hx
    have hi : i < ps.length := (List.getElem?_eq_some_iff.mp hp).1
    have hsm := hs p (List.mem_of_getElem? hp)
    have l1 := (psW_lo hs i).1
    have l2 := (ptW_lo hsm).1
    refine ⟨.ref L, rfl, .inl ⟨rfl, _, SqL.of hL2⟩, x, rfl, x, p, rfl, hxp.tups (Same.tups s2), hsm, fun l H3 s3 hl3 hlH => ?_⟩
    have nLl : L ≠ l := ne_of_none hL2 hl3
    have hL3 := s3 _ _ hL2
    refine ⟨L, l, _, _, rfl, rfl, hL3, hlH, ?_, ?_⟩
    · rw [List.length_map, List.length_map]
      omega
    rw [strs_app]
    refine ⟨.ref L, rfl, .inl ⟨rfl, _, SqL.of upd_same⟩, L, _, _, rfl, rfl, upd_same, ?_, ?_⟩
    · rw [List.length_map, List.length_append]
      omega
    · refine ⟨_, rfl, same_wr (same_wr (s2.trans s3) hL _) hL _, ?_⟩
      have e : ((psW ps i ++ ptW p).map V.str ++ [V.str ";"]) = (psW ps (i + 1)).map V.str := by
        rw [psW_succ hp]
        have e2 := strs_app (psW ps i ++ ptW p) [(";" : Str)]
        rw [List.append_assoc] at e2
        exact e2
      rw [upd_same, e]
  · rintro σ H2 ⟨v3, rfl, s2, hL2⟩
    rw [hA.1] at hL2
    have l1 := psW_lo hs ps.length
    have e : (psW ps ps.length).map V.str ++ (V.str ">" :: (os.map V.str ++ [])) = (netW ps os).map V.str := by
      unfold netW
      rw [List.append_nil, List.map_append, List.map_append, List.append_assoc]
      rfl
    have lo2 : Lo (netW ps os) 1300 := ((l1.app (lo_of (l := [(">" : Str)]) 1 (Nat.le_refl _) (by decide +kernel))).app lo).le (by omega)
    refine ⟨⟨_, rfl⟩, .ref L, rfl, L, _, rfl, .inr (SqL.of hL2), ?_⟩
    refine ⟨.ref o, rfl, o, _, rfl, ho.elim (fun z => .inl (sameT s2 z)) (fun z => .inr (s2.seq z)), ?_, fun m hm => ?_⟩
    · show ((psW ps ps.length).map V.str ++ (V.str ">" :: (os.map V.str ++ []))).length ≤ _
      rw [e, List.length_map]
      exact Nat.le_trans lo2.1 (by omega)
    · refine ⟨" ", m, netW ps os, rfl, rfl, .inl (SqL.of ?_), ?_, q _ (s2.trans (same_upd hm _))⟩
      · rw [upd_same]
        show some (HO.lst ((psW ps ps.length).map V.str ++ (V.str ">" :: (os.map V.str ++ [])))) = _
        rw [e]
      · have h1 := lo_sum lo2.2
        have h2 := lo2.1
        have e1 : ((" " : String) : Str).length = 1 := by decide +kernel
        rw [e1]
        omega
/-- text_of over a T of parts -/
def spTextT (K : PySem.W.Frag) : Sp := fun vs H Q _ => ∃ (a o : Addr) (us : List V) (ps : List Pt) (os : List Str), vs = [.ref a, .ref o] ∧ SqT K H a us ∧ All2 (PtAt H) us ps ∧ ps.length ≤ 20 ∧ (∀ p ∈ ps, SmP p) ∧
  (SqT K H o (os.map V.str) ∨ SqL K H o (os.map V.str)) ∧ Lo os 20 ∧ ∀ H', Same H H' → Q (.str (Txt.join " " (netW ps os))) H'
theorem ok_textT {f g : Addr} {fd gd : FuncData} (F : Fun K "text_of" "text_of" sText f fd) (G : Df P w K mg base 2 g gd "words_of_part" ["part"] spPartW) : FnOk P w K mg base CX0 3 f fd ["parts", "outs"] (spTextT K) := by
  refine F.ok scText (fun vs H Q E h => ?_) (fun cdv A outer s H vs Q E hr h => ?_)
  · obtain ⟨a, o, us, ps, os, rfl, _⟩ := h
    rfl
  obtain ⟨a, o, us, ps, os, rfl, ha, hA, hl, hs, ho, lo, q⟩ := h
  refine ⟨_, pss_cons (ps_set (i := 2) scText.nd rfl (Or.inl rfl) (pe_lst pa_nil))
    (pss_cons (ps_for PassesOwn.never rfl (pi_tup (pv 0)) (pg_name (i := 3) scText.nd rfl (Or.inl rfl))
      (pss_cons (ps_expr (pe_bm PySem.F.plainAttrs_list PySem.F.slot_list_extend PySem.F.type_list_extend mt_extend (pv 2) (pa_cons (pe_call G.ok hr (by rfl) G.m G.kp G.b .nil pass0 (pa_cons (pv 3) pa_nil)) pa_nil)))
      (pss_one (ps_expr (pe_bm PySem.F.plainAttrs_list PySem.F.slot_list_append PySem.F.type_list_append mt_append (pv 2) (pa_cons pe_str pa_nil))))))
    (pss_one (ps_ret (pe_join pe_str (pe_lst (StX.pa_star (pv 2) (pa_cons pe_str (StX.pa_star (pv 1) pa_nil)))))))), ?_⟩
  have h10000 : (10000 : Nat) ≤ sizeLine := by decide
  refine ⟨Nat.zero_le _, fun L hL => ?_⟩
  have s1 : Same H (upd H L (.lst [])) := same_upd hL _
  refine ⟨.ref a, rfl, a, rfl, ⟨_, sameT s1 ha⟩, for_tup (K := K) (a := a) (xs := us) (fun i σ H2 => ∃ v3, σ = [some (.ref a), some (.ref o), some (.ref L), v3] ∧ Same H H2 ∧ H2 L = some (.lst ((psW ps i).map V.str)))
    ⟨none, rfl, s1, upd_same⟩ (fun i σ H2 _ ⟨_, _, s2, _⟩ => sameT s2 ha) ?_ ?_⟩
  · rintro i x σ H2 hx ⟨v3, rfl, s2, hL2⟩
    obtain ⟨p, hp, hxp⟩ := hA.get hx
    have hi : i < ps.length := (List.getElem?_eq_some_iff.mp hp).1
    have hsm := hs p (List.mem_of_getElem? hp)
    have l1 := (psW_lo hs i).1
    have l2 := (ptW_lo hsm).1
    refine ⟨.ref L, rfl, .inl ⟨rfl, _, SqL.of hL2⟩, x, rfl, x, p, rfl, hxp.tups (Same.tups s2), hsm, fun l H3 s3 hl3 hlH => ?_⟩
    have nLl : L ≠ l := ne_of_none hL2 hl3
    have hL3 := s3 _ _ hL2
    refine ⟨L, l, _, _, rfl, rfl, hL3, hlH, ?_, ?_⟩
    · rw [List.length_map, List.length_map]
      omega
    rw [strs_app]
    refine ⟨.ref L, rfl, .inl ⟨rfl, _, SqL.of upd_same⟩, L, _, _, rfl, rfl, upd_same, ?_, ?_⟩
    · rw [List.length_map, List.length_append]
      omega
    · refine ⟨_, rfl, same_wr (same_wr (s2.trans s3) hL _) hL _, ?_⟩
      have e : ((psW ps i ++ ptW p).map V.str ++ [V.str ";"]) = (psW ps (i + 1)).map V.str := by
        rw [psW_succ hp]
        have e2 := strs_app (psW ps i ++ ptW p) [(";" : Str)]
        rw [List.append_assoc] at e2
        exact e2
      rw [upd_same, e]
  · rintro σ H2 ⟨v3, rfl, s2, hL2⟩
    rw [hA.1] at hL2
    have l1 := psW_lo hs ps.length
    have e : (psW ps ps.length).map V.str ++ (V.str ">" :: (os.map V.str ++ [])) = (netW ps os).map V.str := by
      unfold netW
      rw [List.append_nil, List.map_append, List.map_append, List.append_assoc]
      rfl
    have lo2 : Lo (netW ps os) 1300 := ((l1.app (lo_of (l := [(">" : Str)]) 1 (Nat.le_refl _) (by decide +kernel))).app lo).le (by omega)
    refine ⟨⟨_, rfl⟩, .ref L, rfl, L, _, rfl, .inr (SqL.of hL2), ?_⟩
    refine ⟨.ref o, rfl, o, _, rfl, ho.elim (fun z => .inl (sameT s2 z)) (fun z => .inr (s2.seq z)), ?_, fun m hm => ?_⟩
    · show ((psW ps ps.length).map V.str ++ (V.str ">" :: (os.map V.str ++ []))).length ≤ _
      rw [e, List.length_map]
      exact Nat.le_trans lo2.1 (by omega)
    · refine ⟨" ", m, netW ps os, rfl, rfl, .inl (SqL.of ?_), ?_, q _ (s2.trans (same_upd hm _))⟩
      · rw [upd_same]
        show some (HO.lst ((psW ps ps.length).map V.str ++ (V.str ">" :: (os.map V.str ++ [])))) = _
        rw [e]
      · have h1 := lo_sum lo2.2
        have h2 := lo2.1
        have e1 : ((" " : String) : Str).length = 1 := by decide +kernel
        rw [e1]
        omega
/-! ### the reader's words -/
abbrev sNumOf : Stmt := top 18
abbrev sWInit : Stmt := inClass (top 19) 0
abbrev sAhead : Stmt := inClass (top 19) 1
abbrev sTake : Stmt := inClass (top 19) 2
abbrev sTakeName : Stmt := inClass (top 19) 3
abbrev sTakeNames : Stmt := inClass (top 19) 4
abbrev sTakeNumber : Stmt := inClass (top 19) 5
theorem kwa : ¬ (("words" : Str) = "at") := by decide +kernel
def wf (L : Addr) (i : Nat) : List (Str × V) := putF "at" (.int (i : Int)) (putF "words" (.ref L) [])
theorem wf_eq (L : Addr) (i : Nat) : wf L i = ([("words", V.ref L), ("at", V.int (i : Int))] : List (Str × V)) := by
  show (if ("words" : Str) = "at" then [(("words" : Str), V.int (i : Int))] else (("words" : Str), V.ref L) :: putF "at" (V.int (i : Int)) []) = ([("words", V.ref L), ("at", V.int (i : Int))] : List (Str × V))
  rw [if_neg kwa]
  all_goals rfl
theorem wf_words (L : Addr) (i : Nat) : (wf L i).lookup ("words" : Str) = some (.ref L) := by
  unfold wf
  rw [lookup_putF, if_neg kwa, lookup_putF, if_pos rfl]
theorem wf_at (L : Addr) (i : Nat) : (wf L i).lookup ("at" : Str) = some (.int (i : Int)) := by
  unfold wf
  rw [lookup_putF, if_pos rfl]
theorem wf_no (L : Addr) (i : Nat) {m : Str} (h1 : ¬ m = "at") (h2 : ¬ m = "words") : (wf L i).lookup m = none := by
  unfold wf
  rw [lookup_putF, if_neg h1, lookup_putF, if_neg h2]
  all_goals rfl
theorem wf_put (L : Addr) (i : Nat) : putF "at" (.int ((i : Int) + 1)) (wf L i) = wf L (i + 1) := by
  rw [wf_eq, wf_eq]
  show (if ("words" : Str) = "at" then _ else (("words" : Str), V.ref L) :: (if ("at" : Str) = "at" then [(("at" : Str), V.int ((i : Int) + 1))] else _)) = ([("words", V.ref L), ("at", V.int ((i + 1 : Nat) : Int))] : List (Str × V))
  rw [if_neg kwa, if_pos rfl]
  all_goals rfl
/-- a reader at p of which R is left -/
def Wd (C : Addr) (H : Hp) (p L : Addr) (R : List Str) : Prop := ∃ (dx : Addr) (W : List Str) (i : Nat), H p = some (.ins C dx (wf L i)) ∧ H L = some (.lst (W.map V.str)) ∧ W.length ≤ 2000 ∧ i ≤ W.length ∧ W.drop i = R
theorem Wd.same {C : Addr} {H H' : Hp} {p L : Addr} {R : List Str} (h : Wd C H p L R) (s : Same H H') : Wd C H' p L R := by
  obtain ⟨dx, W, i, h1, h2, h3, h4, h5⟩ := h
  exact ⟨dx, W, i, s _ _ h1, s _ _ h2, h3, h4, h5⟩
theorem Wd.tups {C : Addr} {H H' : Hp} {p L : Addr} {R : List Str} (h : Wd C H p L R) (k : Kp p H H') : Tups H H' := fun a xs e => by
  obtain ⟨dx, W, i, h1, _⟩ := h
  exact k a _ e (ne_of e h1 (by intro z; cases z))
/-- one word further -/
theorem wd_step {C dx p L : Addr} {H : Hp} {W R : List Str} {z : Str} {i : Nat} (h1 : H p = some (.ins C dx (wf L i))) (h2 : H L = some (.lst (W.map V.str))) (h3 : W.length ≤ 2000) (h5 : W.drop i = z :: R) :
    Wd C (upd H p (.ins C dx (wf L (i + 1)))) p L R ∧ W[i]? = some z ∧ i < W.length := by
  have hi : i < W.length := by
    by_cases h : i < W.length
    · exact h
    · rw [List.drop_eq_nil_iff.mpr (by omega)] at h5
      cases h5
  have e : W.drop i = W[i] :: W.drop (i + 1) := List.drop_eq_getElem_cons hi
  rw [e] at h5
  have e1 : W[i] = z := (List.cons.inj h5).1
  have e2 : W.drop (i + 1) = R := (List.cons.inj h5).2
  have n : L ≠ p := ne_of h2 h1 (by intro z; cases z)
  exact ⟨⟨dx, W, i + 1, upd_same, by rw [upd_ne n]; exact h2, h3, hi, e2⟩, by rw [List.getElem?_eq_getElem hi, e1], hi⟩
def headV : List Str → V
  | [] => .non
  | z :: _ => .str z
structure WT (K : PySem.W.Frag) (mg : Str → Option Value) (C : Addr) : Prop where
  cl : Cls K C
  nW : NoAttr K C "words"
  nA : NoAttr K C "at"
  len : mg "len" = none
/-- a method: what it keeps, how it is called -/
structure Mt (P : Program) (w : World) (K : PySem.W.Frag) (mg : Str → Option Value) (base : Heap) (C : Addr) (k : Nat) (f : Addr) (fd : FuncData) (m : Str) (ps : List Str) (sp : Sp) : Prop where
  ok : FnOk P w K mg base CX0 k f fd ps sp
  b : Binds K fd ps []
  mt : Meth K C m f
def spWInit (C : Addr) : Sp := fun vs H Q _ => ∃ (p dx : Addr) (s : Str), vs = [.ref p, .str s] ∧ H p = some (.ins C dx []) ∧ s.length ≤ 100000 ∧ (Txt.split s " ").length ≤ 2000 ∧ ∀ L H', H L = none → Wd C H' p L (Txt.split s " ") → Kp p H H' → Q .non H'
theorem scWInit : FnScope ["self", "text"] ["self", "text"] (defScope sWInit) := ⟨rfl, rfl, rfl, by decide +kernel, rfl, by decide +kernel, by decide +kernel⟩
theorem ok_winit {f C : Addr} {fd : FuncData} (F : Fun K "__init__" "Words.__init__" sWInit f fd) (T : WT K mg C) : FnOk P w K mg base CX0 1 f fd ["self", "text"] (spWInit C) := by
  refine F.ok scWInit (fun vs H Q E h => ?_) (fun cdv A outer s H vs Q E hr h => ?_)
  · obtain ⟨p, dx, s, rfl, _⟩ := h
    rfl
  obtain ⟨p, dx, z, rfl, hp, hz, hl, q⟩ := h
  refine ⟨_, pss_cons (ps_fld (pv 0) (pe_split (pv 1) pe_str) rfl) (pss_one (ps_fld (pv 0) pe_int rfl)), ?_⟩
  have h1 : (200000 : Nat) ≤ sizeLine := by decide
  refine ⟨_, rfl, ⟨_, rfl⟩, z, " ", rfl, rfl, by decide +kernel, by omega, fun L hL => ?_⟩
  have n : p ≠ L := ne_of_none hp hL
  refine ⟨_, rfl, p, C, dx, [], rfl, by rw [upd_ne n]; exact hp, T.cl, T.nW, (by show 0 < 1000; decide), ?_⟩
  refine ⟨_, rfl, p, C, dx, _, rfl, upd_same, T.cl, T.nA, (by show 1 < 1000; decide), ?_⟩
  refine q L _ hL ⟨dx, Txt.split z " ", 0, upd_same, ?_, hl, Nat.zero_le _, rfl⟩ fun a o e na => ?_
  · rw [upd_ne n.symm, upd_ne n.symm, upd_same]
  · rw [upd_ne na, upd_ne na, upd_ne (ne_of_none e hL)]
    exact e
def spAhead (C : Addr) : Sp := fun vs H Q _ => ∃ (p L : Addr) (R : List Str), vs = [.ref p] ∧ Wd C H p L R ∧ Q (headV R) H
theorem scAhead : FnScope ["self"] ["self"] (defScope sAhead) := ⟨rfl, rfl, rfl, by decide +kernel, rfl, by decide +kernel, by decide +kernel⟩
theorem ok_ahead {f C : Addr} {fd : FuncData} (F : Fun K "ahead" "Words.ahead" sAhead f fd) (T : WT K mg C) : FnOk P w K mg base CX0 1 f fd ["self"] (spAhead C) := by
  refine F.ok scAhead (fun vs H Q E h => ?_) (fun cdv A outer s H vs Q E hr h => ?_)
  · obtain ⟨p, L, R, rfl, _⟩ := h
    rfl
  obtain ⟨p, L, R, rfl, ⟨dx, W, i, h1, h2, h3, h4, h5⟩, q⟩ := h
  refine ⟨_, pss_one (ps_ret (pe_ifExp (pt_cmpR op_lt (pe_fld (pv 0) rfl) (pe_callB call_len_seq (by rfl) T.len PySem.boot_len (pa_cons (pe_fld (pv 0) rfl) pa_nil)) (nomark _)) (pe_ix ix_list (pe_fld (pv 0) rfl) (pe_fld (pv 0) rfl) (fun _ _ => rfl)) pe_non)), ?_⟩
  refine ⟨_, rfl, p, C, dx, _, _, rfl, h1, T.cl, T.nA, wf_at _ _, _, rfl, p, C, dx, _, _, rfl, h1, T.cl, T.nW, wf_words _ _, L, _, rfl, .inl (SqL.of h2), _, _, rfl, rfl, _, rfl, ?_⟩
  cases R with
  | nil =>
    have hi : W.length ≤ i := List.drop_eq_nil_iff.mp h5
    rw [decide_eq_false (by rw [List.length_map]; omega)]
    exact iteF q
  | cons z R =>
    obtain ⟨_, hz, hi⟩ := wd_step h1 h2 h3 h5
    rw [decide_eq_true (by rw [List.length_map]; omega)]
    refine iteT ?_
    exact ⟨_, rfl, p, C, dx, _, _, rfl, h1, T.cl, T.nW, wf_words _ _, _, rfl, p, C, dx, _, _, rfl, h1, T.cl, T.nA, wf_at _ _, L, _, i, _, rfl, rfl, SqL.of h2, atI_nat (by rw [List.getElem?_map, hz]; rfl), q⟩
theorem lk_ahead (L : Addr) (i : Nat) : (wf L i).lookup ("ahead" : Str) = none := wf_no L i (by decide +kernel) (by decide +kernel)
theorem lk_take (L : Addr) (i : Nat) : (wf L i).lookup ("take" : Str) = none := wf_no L i (by decide +kernel) (by decide +kernel)
theorem lk_take_name (L : Addr) (i : Nat) : (wf L i).lookup ("take_name" : Str) = none := wf_no L i (by decide +kernel) (by decide +kernel)
theorem lk_take_names (L : Addr) (i : Nat) : (wf L i).lookup ("take_names" : Str) = none := wf_no L i (by decide +kernel) (by decide +kernel)
theorem lk_take_number (L : Addr) (i : Nat) : (wf L i).lookup ("take_number" : Str) = none := wf_no L i (by decide +kernel) (by decide +kernel)
/-- the instance as a method call asks for it -/
theorem Wd.ins {C p L : Addr} {H : Hp} {R : List Str} (h : Wd C H p L R) : ∃ dx i, H p = some (.ins C dx (wf L i)) := by
  obtain ⟨dx, W, i, h1, _⟩ := h
  exact ⟨dx, i, h1⟩
/-- a number's text as a number -/
def spNumOf : Sp := fun vs H Q _ => ∃ n : Int, vs = [.str (dec n)] ∧ -99 ≤ n ∧ n ≤ 99 ∧ Q (.int n) H
theorem dec_facts {i : Int} (h0 : -99 ≤ i) (h1 : i ≤ 99) : (dec i).length ≤ 3 ∧ Txt.isdecimal (Txt.removeprefix (dec i) "-") = true ∧ PySem.intText? (dec i) = some i := by
  have all : ∀ k : Fin 199, (dec ((k.val : Int) - 99)).length ≤ 3 ∧ Txt.isdecimal (Txt.removeprefix (dec ((k.val : Int) - 99)) "-") = true ∧ PySem.intText? (dec ((k.val : Int) - 99)) = some ((k.val : Int) - 99) := by decide +kernel
  have e : i = (((⟨(i + 99).toNat, by omega⟩ : Fin 199).val : Nat) : Int) - 99 := by
    show i = ((i + 99).toNat : Int) - 99
    omega
  rw [e]
  exact all _
theorem scNumOf : FnScope ["word"] ["word"] (defScope sNumOf) := ⟨rfl, rfl, rfl, by decide +kernel, rfl, by decide +kernel, by decide +kernel⟩
theorem ok_numof {f : Addr} {fd : FuncData} (F : Fun K "number_of" "number_of" sNumOf f fd) (mlen : mg "len" = none) (mint : mg "int" = none) (mstr : mg "str" = none) : FnOk P w K mg base CX0 1 f fd ["word"] spNumOf := by
  refine F.ok scNumOf (fun vs H Q E h => ?_) (fun cdv A outer s H vs Q E hr h => ?_)
  · obtain ⟨n, rfl, _⟩ := h
    rfl
  obtain ⟨n, rfl, n0, n1, q⟩ := h
  refine ⟨_, pss_cons (ps_if (PW.pt (pw_or (pt_cmpR op_gt (pe_callB call_len (by rfl) mlen PySem.boot_len (pa_cons (pv 0) pa_nil)) pe_int (nomark _))
        (pw_or1 (pt_not (pt_val (pe_bm0 PySem.F.plainAttrs_str PySem.F.slot_str_isdecimal PySem.F.type_str_isdecimal mt_isdecimal (pe_bm PySem.F.plainAttrs_str PySem.F.slot_str_removeprefix PySem.F.type_str_removeprefix mt_removeprefix (pv 0) (pa_cons pe_str pa_nil))))))))
      (pss_one (ps_ret pe_non)) pss_nil)
    (pss_one (ps_ret (pe_ifExp (pt_cmpR op_eq (pe_callTy call_str_int (by rfl) mstr (by decide +kernel) (pa_cons (pe_callTy call_int_str (by rfl) mint (by decide +kernel) (pa_cons (pv 0) pa_nil)) pa_nil)) (pv 0) (nomark _))
      (pe_callTy call_int_str (by rfl) mint (by decide +kernel) (pa_cons (pv 0) pa_nil)) pe_non))), ?_⟩
  obtain ⟨d1, d2, d3⟩ := dec_facts n0 n1
  have h1 : (1000 : Nat) ≤ sizeLine := by decide
  refine ⟨_, rfl, _, (dec n).length, rfl, ⟨by omega, rfl⟩, _, 3, rfl, rfl, _, rfl, ?_⟩
  rw [decide_eq_false (by omega)]
  refine iteF ?_
  refine ⟨_, rfl, rfl, dec n, "-", rfl, rfl, by omega, rfl, _, rfl, rfl, trivial, _, rfl, ?_⟩
  rw [d2]
  refine iteF ?_
  refine ⟨_, rfl, dec n, n, rfl, d3, by omega, n, rfl, dec_log n0 n1, _, rfl, rfl, _, rfl, ?_⟩
  rw [decide_eq_true (show V.str (toString n) = V.str (dec n) from rfl)]
  exact iteT ⟨_, rfl, dec n, n, rfl, d3, by omega, q⟩
/-- take, its choices in a tuple -/
def spTakeI (C : Addr) : Sp := fun vs H Q _ => ∃ (p L c : Addr) (z : Str) (cs R : List Str), vs = [.ref p, .ref c] ∧ H c = some (.tup (cs.map V.str)) ∧ z ∈ cs ∧ Wd C H p L (z :: R) ∧ ∀ H', Wd C H' p L R → Kp p H H' → Q (.str z) H'
def spTake (C : Addr) : Sp := fun vs H Q _ => ∃ (p L : Addr) (z : Str) (cs R : List Str), vs = .ref p :: cs.map V.str ∧ cs.length ≤ 1000 ∧ z ∈ cs ∧ Wd C H p L (z :: R) ∧ ∀ H', Wd C H' p L R → Kp p H H' → Q (.str z) H'
theorem flat_strs (cs : List Str) : (cs.map V.str).all flatV = true := by
  rw [List.all_map, List.all_eq_true]
  intro x _
  rfl
theorem in_strs {z : Str} {cs : List Str} (h : z ∈ cs) : inV (.str z) (cs.map V.str) = true := by
  unfold inV
  rw [List.any_map, List.any_eq_true]
  exact ⟨z, h, by show (z == z) = true; simp⟩
theorem scTake : FnScope ["self", "choices", "word"] ["self", "choices"] (defScope sTake) := ⟨rfl, rfl, rfl, by decide +kernel, rfl, by decide +kernel, by decide +kernel⟩
theorem ok_take {f C g : Addr} {fd gd : FuncData} (F : Fun K "take" "Words.take" sTake f fd) (T : WT K mg C) (G : Mt P w K mg base C 1 g gd "ahead" ["self"] (spAhead C)) : FnR P w K mg base CX0 2 f (spTake C) := by
  obtain ⟨oc, od, kV, doc, pm, an, cdv, ct, osl, rfl, lk, hcd⟩ := F.ex
  refine FnR.imp (StX.fn_star (k := 1) (ps := ["self"]) (pv := "choices") (sp := spTakeI C) lk hcd scTake StX.cxUp_none (StX.bind_star1 (B := fun xs => bindArgs (PySem.W.fnOf "take" "Words.take" (defArgs sTake) (defBody sTake) (defScope sTake) .none kV doc pm an cdv ct) ⟨xs, []⟩) (p1 := "self") (pv := "choices") (fun _ => rfl) (fun _ _ _ => rfl)) (fun A outer s H vs Q E hr h => ?_)) (fun vs H Q E h => ?_)
  · obtain ⟨p, L, c, z, cs, R, rfl, hc, hz, hW, q⟩ := h
    refine ⟨_, pss_cons (ps_set (i := 2) scTake.nd rfl (Or.inl rfl) (pe_meth0 (pv 0) T.cl G.mt G.ok hr G.b .nil pass0))
      (pss_cons (ps_if (pt_cmpR op_notIn_seq (pv 2) (pv 1) (by rfl)) (pss_one ps_never) pss_nil)
      (pss_cons (ps_fld (pv 0) (pe_op op_add (pe_fld (pv 0) rfl) pe_int) rfl)
      (pss_one (ps_ret (pv 2))))), ?_⟩
    obtain ⟨dx0, i0, h10⟩ := hW.ins
    refine ⟨_, rfl, p, dx0, _, rfl, h10, lk_ahead _ _, p, L, z :: R, rfl, hW, ?_⟩
    refine ⟨_, rfl, _, rfl, c, _, rfl, .inr (SqT.of hc), rfl, flat_strs cs, _, rfl, ?_⟩
    obtain ⟨dx, W, i, h1, h2, h3, h4, h5⟩ := hW
    rw [show inV (headV (z :: R)) (cs.map V.str) = true from in_strs hz]
    refine iteF ?_
    refine ⟨_, rfl, p, C, dx, _, _, rfl, h1, T.cl, T.nA, wf_at _ _, _, _, rfl, rfl, _, rfl, p, C, dx, _, rfl, h1, T.cl, T.nA, (by rw [wf_eq]; show 2 < 1000; decide), ?_⟩
    rw [wf_put]
    refine ⟨_, rfl, q _ (wd_step h1 h2 h3 h5).1 fun a o e na => ?_⟩
    rw [upd_ne na]
    exact e
  · obtain ⟨p, L, z, cs, R, rfl, hl, hz, hW, q⟩ := h
    refine ⟨[.ref p], cs.map V.str, rfl, rfl, by rw [List.length_map]; exact Nat.le_of_lt (small1000 hl), fun c hc => ?_⟩
    have s1 := same_upd hc (.tup (cs.map V.str))
    exact ⟨p, L, c, z, cs, R, rfl, upd_same, hz, hW.same s1, fun H' w' k' => q H' w' ((Same.kp s1).trans k')⟩
def spTakeName (C : Addr) : Sp := fun vs H Q _ => ∃ (p L : Addr) (z : Str) (R : List Str), vs = [.ref p] ∧ IsNm z ∧ Wd C H p L (z :: R) ∧ ∀ H', Wd C H' p L R → Kp p H H' → Q (.str z) H'
theorem IsNm.b {z : Str} (h : IsNm z) : nameB z = true := by
  unfold nameB
  have h1 := h.l1
  have h4 := h.l4
  rw [lowB_of h.low, decide_eq_true (by omega), decide_eq_true (by omega)]
  rfl
theorem scTakeName : FnScope ["self", "word"] ["self"] (defScope sTakeName) := ⟨rfl, rfl, rfl, by decide +kernel, rfl, by decide +kernel, by decide +kernel⟩
theorem ok_takename {f C g gn : Addr} {fd gd nd : FuncData} (F : Fun K "take_name" "Words.take_name" sTakeName f fd) (T : WT K mg C) (G : Mt P w K mg base C 1 g gd "ahead" ["self"] (spAhead C)) (N : Df P w K mg base 1 gn nd "is_name" ["value"] (spName K)) : FnOk P w K mg base CX0 2 f fd ["self"] (spTakeName C) := by
  refine F.ok scTakeName (fun vs H Q E h => ?_) (fun cdv A outer s H vs Q E hr h => ?_)
  · obtain ⟨p, L, z, R, rfl, _⟩ := h
    rfl
  obtain ⟨p, L, z, R, rfl, nz, hW, q⟩ := h
  refine ⟨_, pss_cons (ps_set (i := 1) scTakeName.nd rfl (Or.inl rfl) (pe_meth0 (pv 0) T.cl G.mt G.ok hr G.b .nil pass0))
    (pss_cons (ps_if (pt_not (pt_val (pe_call N.ok hr (by rfl) N.m N.kp N.b .nil pass0 (pa_cons (pv 1) pa_nil)))) (pss_one ps_never) pss_nil)
    (pss_cons (ps_fld (pv 0) (pe_op op_add (pe_fld (pv 0) rfl) pe_int) rfl)
    (pss_one (ps_ret (pv 1))))), ?_⟩
  obtain ⟨dx0, i0, h10⟩ := hW.ins
  refine ⟨_, rfl, p, dx0, _, rfl, h10, lk_ahead _ _, p, L, z :: R, rfl, hW, ?_⟩
  have n4 := nz.l4
  refine ⟨_, rfl, _, rfl, .inl ⟨z, rfl, by omega, fun H1 s1 => ⟨_, rfl, ?_⟩⟩⟩
  rw [nz.b]
  refine iteF ?_
  obtain ⟨dx, W, i, h1, h2, h3, h4, h5⟩ := hW.same s1
  refine ⟨_, rfl, p, C, dx, _, _, rfl, h1, T.cl, T.nA, wf_at _ _, _, _, rfl, rfl, _, rfl, p, C, dx, _, rfl, h1, T.cl, T.nA, (by rw [wf_eq]; show 2 < 1000; decide), ?_⟩
  rw [wf_put]
  refine ⟨_, rfl, q _ (wd_step h1 h2 h3 h5).1 ((Same.kp s1).trans fun a o e na => ?_)⟩
  rw [upd_ne na]
  exact e
def spTakeNumber (C : Addr) : Sp := fun vs H Q _ => ∃ (p L : Addr) (lo hi n : Int) (R : List Str), vs = [.ref p, .int lo, .int hi] ∧ -99 ≤ n ∧ n ≤ 99 ∧ lo ≤ n ∧ n ≤ hi ∧ Wd C H p L (dec n :: R) ∧ ∀ H', Wd C H' p L R → Kp p H H' → Q (.int n) H'
theorem scTakeNumber : FnScope ["self", "least", "most", "word", "number"] ["self", "least", "most"] (defScope sTakeNumber) := ⟨rfl, rfl, rfl, by decide +kernel, rfl, by decide +kernel, by decide +kernel⟩
theorem ok_takenumber {f C g gn go : Addr} {fd gd nd od : FuncData} (F : Fun K "take_number" "Words.take_number" sTakeNumber f fd) (T : WT K mg C) (G : Mt P w K mg base C 1 g gd "ahead" ["self"] (spAhead C)) (N : Df P w K mg base 2 gn nd "is_number" ["value", "least", "most"] (spNumber K))
    (O : Df P w K mg base 1 go od "number_of" ["word"] spNumOf) : FnOk P w K mg base CX0 3 f fd ["self", "least", "most"] (spTakeNumber C) := by
  refine F.ok scTakeNumber (fun vs H Q E h => ?_) (fun cdv A outer s H vs Q E hr h => ?_)
  · obtain ⟨p, L, lo, hi, n, R, rfl, _⟩ := h
    rfl
  obtain ⟨p, L, lo, hi, n, R, rfl, n0, n1, l0, l1, hW, q⟩ := h
  have hr1 : Room 1 _ := hr.mono (by decide)
  refine ⟨_, pss_cons (ps_set (i := 3) scTakeNumber.nd rfl (Or.inl rfl) (pe_meth0 (pv 0) T.cl G.mt G.ok hr1 G.b .nil pass0))
    (pss_cons (ps_set (i := 4) scTakeNumber.nd rfl (Or.inl rfl) (pe_ifExp (pt_cmpR op_isN (pv 3) pe_non (nomark _)) pe_non (pe_call O.ok hr1 (by rfl) O.m O.kp O.b .nil pass0 (pa_cons (pv 3) pa_nil))))
    (pss_cons (ps_if (pt_not (pt_val (pe_call N.ok hr (by rfl) N.m N.kp N.b .nil pass0 (pa_cons (pv 4) (pa_cons (pv 1) (pa_cons (pv 2) pa_nil)))))) (pss_one ps_never) pss_nil)
    (pss_cons (ps_fld (pv 0) (pe_op op_add (pe_fld (pv 0) rfl) pe_int) rfl)
    (pss_one (ps_ret (pv 4)))))), ?_⟩
  obtain ⟨dx0, i0, h10⟩ := hW.ins
  refine ⟨_, rfl, p, dx0, _, rfl, h10, lk_ahead _ _, p, L, dec n :: R, rfl, hW, ?_⟩
  refine ⟨_, rfl, rfl, _, rfl, ?_⟩
  rw [show decide (headV (dec n :: R) = V.non) = false from decide_eq_false (fun z => by cases z)]
  refine iteF ?_
  refine ⟨_, rfl, n, rfl, n0, n1, ?_⟩
  refine ⟨_, rfl, _, rfl, _, rfl, _, lo, hi, rfl, .inl ⟨n, rfl, _, rfl, ?_⟩⟩
  rw [decide_eq_true l0, decide_eq_true l1]
  refine iteF ?_
  obtain ⟨dx, W, i, h1, h2, h3, h4, h5⟩ := hW
  refine ⟨_, rfl, p, C, dx, _, _, rfl, h1, T.cl, T.nA, wf_at _ _, _, _, rfl, rfl, _, rfl, p, C, dx, _, rfl, h1, T.cl, T.nA, (by rw [wf_eq]; show 2 < 1000; decide), ?_⟩
  rw [wf_put]
  refine ⟨_, rfl, q _ (wd_step h1 h2 h3 h5).1 fun a o e na => ?_⟩
  rw [upd_ne na]
  exact e
/-- no name stands ahead -/
def NoNm : List Str → Prop
  | [] => True
  | z :: _ => nameB z = false ∧ z.length ≤ 1000
def spTakeNames (C : Addr) : Sp := fun vs H Q _ => ∃ (p L : Addr) (most : Int) (ns R : List Str), vs = [.ref p, .int most] ∧ (∀ z ∈ ns, IsNm z) ∧ (ns.length : Int) ≤ most ∧ ns.length ≤ 100 ∧ ((ns.length : Int) < most → NoNm R) ∧ Wd C H p L (ns ++ R) ∧
  ∀ (t : Addr) (H' : Hp), Wd C H' p L R → Kp p H H' → H t = none → H' t = some (.tup (ns.map V.str)) → Q (.ref t) H'
theorem scTakeNames : FnScope ["self", "most", "names"] ["self", "most"] (defScope sTakeNames) := ⟨rfl, rfl, rfl, by decide +kernel, rfl, by decide +kernel, by decide +kernel⟩
theorem Kp.was {p q : Addr} {H H' : Hp} (k : Kp p H H') (n : q ≠ p) (h : H' q = none) : H q = none := by
  cases e : H q with
  | none => rfl
  | some o =>
    have := k q o e n
    rw [h] at this
    cases this
theorem ok_takenames {f C g gn gt : Addr} {fd gd nd td : FuncData} (F : Fun K "take_names" "Words.take_names" sTakeNames f fd) (T : WT K mg C) (G : Mt P w K mg base C 1 g gd "ahead" ["self"] (spAhead C)) (N : Df P w K mg base 1 gn nd "is_name" ["value"] (spName K))
    (M : Mt P w K mg base C 2 gt td "take_name" ["self"] (spTakeName C)) (mtuple : mg "tuple" = none) : FnOk P w K mg base CX0 3 f fd ["self", "most"] (spTakeNames C) := by
  refine F.ok scTakeNames (fun vs H Q E h => ?_) (fun cdv A outer s H vs Q E hr h => ?_)
  · obtain ⟨p, L, most, ns, R, rfl, _⟩ := h
    rfl
  obtain ⟨p, L, most, ns, R, rfl, hn, hm, h100, hno, hW, q⟩ := h
  have hr1 : Room 1 _ := hr.mono (by decide)
  refine ⟨_, pss_cons (ps_set (i := 2) scTakeNames.nd rfl (Or.inl rfl) (pe_lst pa_nil))
    (C8.pss_cut (ps_while PassesOwn.never (PW.pt (pw_and (pt_cmpR op_lt (pe_callB call_len_seq (by rfl) T.len PySem.boot_len (pa_cons (pv 2) pa_nil)) (pv 1) (nomark _))
        (pw_and1 (pt_val (pe_call N.ok hr1 (by rfl) N.m N.kp N.b .nil pass0 (pa_cons (pe_meth0 (pv 0) T.cl G.mt G.ok hr1 G.b .nil pass0) pa_nil))))))
      (pss_one (ps_expr (pe_bm PySem.F.plainAttrs_list PySem.F.slot_list_append PySem.F.type_list_append mt_append (pv 2) (pa_cons (pe_meth0 (pv 0) T.cl M.mt M.ok hr M.b .nil pass0) pa_nil)))))
    (pss_one (ps_ret (pe_callTy call_tuple_of (by rfl) mtuple (by decide +kernel) (pa_cons (pv 2) pa_nil))))), ?_⟩
  refine ⟨Nat.zero_le _, fun D hD => ?_⟩
  have npD : p ≠ D := by
    obtain ⟨dx, i, h⟩ := hW.ins
    exact ne_of_none h hD
  refine ⟨fun σ' H2 => σ' = [some (.ref p), some (.int most), some (.ref D)] ∧ Kp p H H2 ∧ H2 D = some (.lst (ns.map V.str)) ∧ Wd C H2 p L R, ?_, ?_⟩
  · refine ⟨fun m σ' H2 => ∃ j, j + m = ns.length ∧ σ' = [some (.ref p), some (.int most), some (.ref D)] ∧ Kp p H H2 ∧ H2 D = some (.lst ((ns.take j).map V.str)) ∧ Wd C H2 p L (ns.drop j ++ R),
      ⟨ns.length, 0, by omega, rfl, Same.kp (same_upd hD _), upd_same, hW.same (same_upd hD _)⟩, ?_⟩
    rintro m σ' H2 ⟨j, hj, rfl, k2, hD2, w2⟩
    have hlen : ((ns.take j).map V.str).length = j := by rw [List.length_map, List.length_take]; omega
    refine ⟨_, rfl, D, _, rfl, .inl (SqL.of hD2), _, rfl, _, _, rfl, rfl, _, rfl, ?_⟩
    rw [hlen]
    have fin : j = ns.length → ∀ H3, Same H2 H3 → ([some (.ref p), some (.int most), some (.ref D)] : L2.St) = [some (.ref p), some (.int most), some (.ref D)] ∧ Kp p H H3 ∧ H3 D = some (.lst (ns.map V.str)) ∧ Wd C H3 p L R := fun e H3 s3 => by
      subst e
      rw [List.take_length] at hD2
      rw [List.drop_length, List.nil_append] at w2
      exact ⟨rfl, k2.trans (Same.kp s3), s3 _ _ hD2, w2.same s3⟩
    cases hc : decide ((j : Int) < most) with
    | false =>
      have hc' := of_decide_eq_false hc
      exact iteF (fin (by omega) H2 (Same.refl H2))
    | true =>
      have hc' : (j : Int) < most := of_decide_eq_true hc
      refine iteT ?_
      obtain ⟨dx, i, hp2⟩ := w2.ins
      refine ⟨_, rfl, p, dx, _, rfl, hp2, lk_ahead _ _, p, L, _, rfl, w2, ?_⟩
      by_cases hjn : j < ns.length
      · have ed : ns.drop j = ns[j] :: ns.drop (j + 1) := List.drop_eq_getElem_cons hjn
        have nz := hn _ (List.getElem_mem hjn)
        rw [ed] at w2
        rw [ed]
        have n4 := nz.l4
        refine ⟨_, rfl, .inl ⟨ns[j], rfl, by omega, fun H3 s3 => ⟨_, rfl, ?_⟩⟩⟩
        rw [nz.b]
        refine iteT ⟨fun σ' H4 => ∃ j', j' = j + 1 ∧ σ' = [some (.ref p), some (.int most), some (.ref D)] ∧ Kp p H H4 ∧ H4 D = some (.lst ((ns.take j').map V.str)) ∧ Wd C H4 p L (ns.drop j' ++ R), fun σ' H4 ⟨j', e, h⟩ => ⟨ns.length - j', by omega, j', by omega, h⟩, ?_⟩
        have w3 := w2.same s3
        obtain ⟨dx3, i3, hp3⟩ := w3.ins
        have hD3 := s3 _ _ hD2
        refine ⟨_, rfl, .inl ⟨rfl, _, SqL.of hD3⟩, _, rfl, p, dx3, _, rfl, hp3, lk_take_name _ _, p, L, ns[j], _, rfl, nz, w3, fun H4 w4 k4 => ?_⟩
        have hD4 := k4 _ _ hD3 npD.symm
        refine ⟨D, _, _, rfl, rfl, hD4, by rw [hlen]; exact small1000 (by omega), ?_⟩
        refine ⟨j + 1, rfl, rfl, fun a o e na => ?_, ?_, ?_⟩
        · rw [upd_ne (ne_of_none e hD)]
          exact k4 a o (s3 _ _ (k2 a o e na)) na
        · rw [upd_same, List.take_add_one, List.getElem?_eq_getElem hjn, List.map_append]
          rfl
        · obtain ⟨dx4, W4, i4, g1, g2, g3, g4, g5⟩ := w4
          have nL : L ≠ D := by
            obtain ⟨_, _, _, _, hL0, _⟩ := hW
            exact ne_of_none hL0 hD
          exact ⟨dx4, W4, i4, by rw [upd_ne npD]; exact g1, by rw [upd_ne nL]; exact g2, g3, g4, g5⟩
      · have ej : j = ns.length := by omega
        have hnR := hno (by omega)
        rw [ej, List.drop_length, List.nil_append]
        cases R with
        | nil =>
          exact ⟨_, rfl, .inr ⟨"NoneType", .base .non, by decide +kernel, fun H3 s3 => ⟨_, rfl, iteF (fin ej H3 s3)⟩⟩⟩
        | cons z R =>
          obtain ⟨nb, nl⟩ := hnR
          refine ⟨_, rfl, .inl ⟨z, rfl, nl, fun H3 s3 => ⟨_, rfl, ?_⟩⟩⟩
          rw [nb]
          exact iteF (fin ej H3 s3)
  · rintro σ' H2 ⟨rfl, k2, hD2, w2⟩
    refine ⟨_, rfl, D, _, rfl, .inl ⟨SqL.of hD2, fun t ht => ?_⟩⟩
    have ntp : t ≠ p := by
      obtain ⟨dx, i, h⟩ := w2.ins
      exact (ne_of_none h ht).symm
    exact q t _ (w2.same (same_upd ht _)) (k2.trans (Same.kp (same_upd ht _))) (k2.was ntp ht) upd_same
abbrev sReadTerm : Stmt := top 20
abbrev sReadTerms : Stmt := top 21
/-- a term's own words -/
def bare (t : Tm) : List Str := [dec t.n, t.a] ++ (if t.d = 0 then [] else [("late" : Str), dec t.d])
def commaW : List Tm → List Str
  | [] => []
  | t :: r => ("," : Str) :: (bare t ++ commaW r)
theorem tmWords_first (t : Tm) : tmWords true t = bare t := rfl
theorem tmWords_later (t : Tm) : tmWords false t = ("," : Str) :: bare t := rfl
theorem tmsW_rest {ts : List Tm} : ∀ (k j : Nat), j + k = ts.length → 1 ≤ j → tmsW ts ts.length = tmsW ts j ++ commaW (ts.drop j)
  | 0, j, h, _ => by
    have e : j = ts.length := by omega
    subst e
    rw [List.drop_length]
    show _ = _ ++ []
    rw [List.append_nil]
  | k + 1, j, h, h1 => by
    have hj : j < ts.length := by omega
    rw [tmsW_rest k (j + 1) (by omega) (by omega), tmsW_succ (List.getElem?_eq_getElem hj), List.drop_eq_getElem_cons hj]
    rw [show (j == 0) = false from by simp; omega, tmWords_later, List.append_assoc]
    rfl
theorem tmsW_cons (t : Tm) (r : List Tm) : tmsW (t :: r) (t :: r).length = bare t ++ commaW r := by
  rw [tmsW_rest (ts := t :: r) r.length 1 (by rw [List.length_cons]; omega) (Nat.le_refl _)]
  rw [tmsW_succ (ts := t :: r) (i := 0) (t := t) rfl]
  rfl
/-- what follows a term -/
theorem after_term (l : List Tm) (R : List Str) : ∃ y R', commaW l ++ (";" : Str) :: R = y :: R' ∧ ¬ y = ("late" : Str) := by
  cases l with
  | nil => exact ⟨";", R, rfl, by decide +kernel⟩
  | cons t r => exact ⟨",", bare t ++ commaW r ++ (";" : Str) :: R, rfl, by decide +kernel⟩
theorem dec_semi {i : Int} (h0 : -99 ≤ i) (h1 : i ≤ 99) : ¬ dec i = (";" : Str) := by
  have all : ∀ k : Fin 199, ¬ dec ((k.val : Int) - 99) = (";" : Str) := by decide +kernel
  have e : i = (((⟨(i + 99).toNat, by omega⟩ : Fin 199).val : Nat) : Int) - 99 := by
    show i = ((i + 99).toNat : Int) - 99
    omega
  rw [e]
  exact all _
structure MT (mg : Str → Option Value) : Prop where
  fac : ∃ t, mg "MOST_FACTOR" = some (.int 99 t)
  del : ∃ t, mg "MOST_DELAY" = some (.int 4 t)
  tms : ∃ t, mg "MOST_TERMS" = some (.int 6 t)
  ends : ∃ t, mg "MOST_ENDS" = some (.int 4 t)
  outs : ∃ t, mg "MOST_OUTS" = some (.int 4 t)
/-- the reader's methods -/
structure MS (P : Program) (w : World) (K : PySem.W.Frag) (mg : Str → Option Value) (base : Heap) (C : Addr) (f1 f2 f3 f4 f5 : Addr) (d1 d3 d4 d5 : FuncData) : Prop where
  T : WT K mg C
  ah : Mt P w K mg base C 1 f1 d1 "ahead" ["self"] (spAhead C)
  tkF : FnR P w K mg base CX0 2 f2 (spTake C)
  tkM : Meth K C "take" f2
  nm : Mt P w K mg base C 2 f3 d3 "take_name" ["self"] (spTakeName C)
  ns : Mt P w K mg base C 3 f4 d4 "take_names" ["self", "most"] (spTakeNames C)
  nu : Mt P w K mg base C 3 f5 d5 "take_number" ["self", "least", "most"] (spTakeNumber C)
def spReadTerm (C : Addr) : Sp := fun vs H Q _ => ∃ (p L : Addr) (t : Tm) (y : Str) (R : List Str), vs = [.ref p] ∧ SmT t ∧ IsNm t.a ∧ ¬ y = "late" ∧ Wd C H p L (bare t ++ y :: R) ∧ ∀ (x : V) (H' : Hp), TmAt H' x t → Wd C H' p L (y :: R) → Kp p H H' → Q x H'
theorem scReadTerm : FnScope ["words", "factor", "wire", "delay"] ["words"] (defScope sReadTerm) := ⟨rfl, rfl, rfl, by decide +kernel, rfl, by decide +kernel, by decide +kernel⟩
theorem ok_readterm {f C f1 f2 f3 f4 f5 : Addr} {fd d1 d3 d4 d5 : FuncData} (F : Fun K "read_term" "read_term" sReadTerm f fd) (M : MS P w K mg base C f1 f2 f3 f4 f5 d1 d3 d4 d5) (B : MT mg) : FnOk P w K mg base CX0 4 f fd ["words"] (spReadTerm C) := by
  refine F.ok scReadTerm (fun vs H Q E h => ?_) (fun cdv A outer s H vs Q E hr h => ?_)
  · obtain ⟨p, L, t, y, R, rfl, _⟩ := h
    rfl
  obtain ⟨p, L, t, y, R, rfl, sm, nm, ny, hW, q⟩ := h
  obtain ⟨tf, mf⟩ := B.fac
  obtain ⟨td, md⟩ := B.del
  have hr1 : Room 1 _ := hr.mono (by decide)
  have hr2 : Room 2 _ := hr.mono (by decide)
  refine ⟨_, pss_cons (ps_set (i := 1) scReadTerm.nd rfl (Or.inl rfl) (pe_meth (pv 0) M.T.cl M.nu.mt M.nu.ok hr M.nu.b .nil pass0 (pa_cons (pe_un un_neg (pe_glob (v := .int 99) (by rfl) mf ⟨_, rfl⟩)) (pa_cons (pe_glob (v := .int 99) (by rfl) mf ⟨_, rfl⟩) pa_nil))))
    (pss_cons (ps_set (i := 2) scReadTerm.nd rfl (Or.inl rfl) (pe_meth0 (pv 0) M.T.cl M.nm.mt M.nm.ok hr2 M.nm.b .nil pass0))
    (pss_cons (ps_set (i := 3) scReadTerm.nd rfl (Or.inl rfl) pe_int)
    (C8.pss_cut (ps_if (pt_cmpR op_eq (pe_meth0 (pv 0) M.T.cl M.ah.mt M.ah.ok hr1 M.ah.b .nil pass0) pe_str (nomark _))
      (pss_cons (ps_expr (pe_methR (pv 0) M.T.cl M.tkM M.tkF hr2 pass0 (pa_cons pe_str pa_nil)))
      (pss_one (ps_set (i := 3) scReadTerm.nd rfl (Or.inl rfl) (pe_meth (pv 0) M.T.cl M.nu.mt M.nu.ok hr M.nu.b .nil pass0 (pa_cons pe_int (pa_cons (pe_glob (v := .int 4) (by rfl) md ⟨_, rfl⟩) pa_nil)))))) pss_nil)
    (pss_one (ps_ret (pe_tup (pa_cons (pv 1) (pa_cons (pv 3) (pa_cons (pv 2) pa_nil))))))))), ?_⟩
  have n0 := sm.n0
  have n1 := sm.n1
  have d0 := sm.d0
  have d1 := sm.d1
  obtain ⟨dx, i, h1⟩ := hW.ins
  refine ⟨_, rfl, p, dx, _, rfl, h1, lk_take_number _ _, 99, rfl, p, L, -99, 99, t.n, _, rfl, n0, n1, n0, n1, hW, fun H1 w1 k1 => ?_⟩
  obtain ⟨dx1, i1, g1⟩ := w1.ins
  refine ⟨_, rfl, p, dx1, _, rfl, g1, lk_take_name _ _, p, L, t.a, _, rfl, nm, w1, fun H2 w2 k2 => ?_⟩
  refine ⟨fun σ' H3 => σ' = [some (.ref p), some (.int t.n), some (.str t.a), some (.int t.d)] ∧ Kp p H H3 ∧ Wd C H3 p L (y :: R), ?_, ?_⟩
  · obtain ⟨dx2, i2, g2⟩ := w2.ins
    by_cases e : t.d = 0
    · replace w2 : Wd C H2 p L (y :: R) := by
        rw [if_pos e] at w2
        exact w2
      refine ⟨_, rfl, p, dx2, _, rfl, g2, lk_ahead _ _, p, L, y :: R, rfl, w2, rfl, _, rfl, ?_⟩
      rw [show decide (headV (y :: R) = V.str "late") = false from decide_eq_false (fun z => ny (V.str.inj z))]
      refine iteF ?_
      refine ⟨?_, k1.trans k2, w2⟩
      rw [e]
      rfl
    · replace w2 : Wd C H2 p L (("late" : Str) :: dec t.d :: y :: R) := by
        rw [if_neg e] at w2
        exact w2
      refine ⟨_, rfl, p, dx2, _, rfl, g2, lk_ahead _ _, p, L, ("late" : Str) :: dec t.d :: y :: R, rfl, w2, rfl, _, rfl, ?_⟩
      rw [show decide (headV (("late" : Str) :: dec t.d :: y :: R) = V.str "late") = true from decide_eq_true rfl]
      refine iteT ?_
      refine ⟨_, rfl, p, dx2, _, rfl, g2, lk_take _ _, p, L, "late", ["late"], _, rfl, by decide, List.mem_singleton.mpr rfl, w2, fun H3 w3 k3 => ?_⟩
      obtain ⟨dx3, i3, g3⟩ := w3.ins
      refine ⟨_, rfl, p, dx3, _, rfl, g3, lk_take_number _ _, p, L, 1, 4, t.d, y :: R, rfl, by omega, by omega, by omega, by omega, w3, fun H4 w4 k4 => ?_⟩
      exact ⟨rfl, (k1.trans k2).trans (k3.trans k4), w4⟩
  · rintro σ' H3 ⟨rfl, k3, w3⟩
    refine ⟨_, rfl, _, rfl, _, rfl, (by show 3 ≤ sizeLine; decide), fun x hx => ?_⟩
    exact q (.ref x) _ ⟨x, rfl, upd_same⟩ (w3.same (same_upd hx _)) (k3.trans (Same.kp (same_upd hx _)))
def spReadTerms (C : Addr) : Sp := fun vs H Q _ => ∃ (p L : Addr) (ts : List Tm) (R : List Str), vs = [.ref p] ∧ ts.length ≤ 6 ∧ (∀ t ∈ ts, SmT t ∧ IsNm t.a) ∧ Wd C H p L (tmsW ts ts.length ++ (";" : Str) :: R) ∧
  ∀ (x : Addr) (us : List V) (H' : Hp), H' x = some (.tup us) → All2 (TmAt H') us ts → Wd C H' p L ((";" : Str) :: R) → Kp p H H' → Q (.ref x) H'
theorem scReadTerms : FnScope ["words", "terms"] ["words"] (defScope sReadTerms) := ⟨rfl, rfl, rfl, by decide +kernel, rfl, by decide +kernel, by decide +kernel⟩
theorem ok_readterms {f C f1 f2 f3 f4 f5 g : Addr} {fd d1 d3 d4 d5 gd : FuncData} (F : Fun K "read_terms" "read_terms" sReadTerms f fd) (M : MS P w K mg base C f1 f2 f3 f4 f5 d1 d3 d4 d5) (B : MT mg) (G : Df P w K mg base 4 g gd "read_term" ["words"] (spReadTerm C)) (mtuple : mg "tuple" = none) :
    FnOk P w K mg base CX0 5 f fd ["words"] (spReadTerms C) := by
  refine F.ok scReadTerms (fun vs H Q E h => ?_) (fun cdv A outer s H vs Q E hr h => ?_)
  · obtain ⟨p, L, ts, R, rfl, _⟩ := h
    rfl
  obtain ⟨p, L, ts, R, rfl, hl, hs, hW, q⟩ := h
  obtain ⟨tm, mm⟩ := B.tms
  have hr1 : Room 1 _ := hr.mono (by decide)
  have hr2 : Room 2 _ := hr.mono (by decide)
  refine ⟨_, pss_cons (ps_if (pt_cmpR op_eq (pe_meth0 (pv 0) M.T.cl M.ah.mt M.ah.ok hr1 M.ah.b .nil pass0) pe_str (nomark _)) (pss_one (ps_ret (pe_tup pa_nil))) pss_nil)
    (pss_cons (ps_set (i := 1) scReadTerms.nd rfl (Or.inl rfl) (pe_lst (pa_cons (pe_call G.ok hr (by rfl) G.m G.kp G.b .nil pass0 (pa_cons (pv 0) pa_nil)) pa_nil)))
    (C8.pss_cut (ps_while PassesOwn.never (PW.pt (pw_and (pt_cmpR op_eq (pe_meth0 (pv 0) M.T.cl M.ah.mt M.ah.ok hr1 M.ah.b .nil pass0) pe_str (nomark _))
        (pw_and1 (pt_cmpR op_lt (pe_callB call_len_seq (by rfl) M.T.len PySem.boot_len (pa_cons (pv 1) pa_nil)) (pe_glob (v := .int 6) (by rfl) mm ⟨_, rfl⟩) (nomark _)))))
      (pss_cons (ps_expr (pe_methR (pv 0) M.T.cl M.tkM M.tkF hr2 pass0 (pa_cons pe_str pa_nil)))
      (pss_one (ps_expr (pe_bm PySem.F.plainAttrs_list PySem.F.slot_list_append PySem.F.type_list_append mt_append (pv 1) (pa_cons (pe_call G.ok hr (by rfl) G.m G.kp G.b .nil pass0 (pa_cons (pv 0) pa_nil)) pa_nil))))))
    (pss_one (ps_ret (pe_callTy call_tuple_of (by rfl) mtuple (by decide +kernel) (pa_cons (pv 1) pa_nil)))))), ?_⟩
  obtain ⟨dx, i, h1⟩ := hW.ins
  refine ⟨_, rfl, p, dx, _, rfl, h1, lk_ahead _ _, p, L, _, rfl, hW, ?_⟩
  cases ts with
  | nil =>
    refine ⟨rfl, _, rfl, ?_⟩
    rw [show decide (headV (tmsW [] ([] : List Tm).length ++ (";" : Str) :: R) = V.str ";") = true from decide_eq_true rfl]
    refine iteT ⟨Nat.zero_le _, fun x hx => ?_⟩
    exact q x [] _ upd_same .nil (hW.same (same_upd hx _)) (Same.kp (same_upd hx _))
  | cons t0 r =>
    rw [tmsW_cons] at hW
    rw [tmsW_cons]
    obtain ⟨sm0, nm0⟩ := hs t0 (List.mem_cons_self ..)
    refine ⟨rfl, _, rfl, ?_⟩
    rw [show decide (headV (bare t0 ++ commaW r ++ (";" : Str) :: R) = V.str ";") = false from decide_eq_false (fun z => dec_semi sm0.n0 sm0.n1 (V.str.inj z))]
    refine iteF ?_
    obtain ⟨y, R', ey, ny⟩ := after_term r R
    rw [List.append_assoc, ey] at hW
    refine ⟨_, rfl, p, L, t0, y, R', rfl, sm0, nm0, ny, hW, fun x1 H1 hx1 w1 k1 => ?_⟩
    refine ⟨(by show 1 ≤ sizeLine; decide), fun D hD1 => ?_⟩
    rw [← ey] at w1
    have nDp : D ≠ p := by
      obtain ⟨_, _, h⟩ := w1.ins
      exact (ne_of_none h hD1).symm
    have hD : H D = none := k1.was nDp hD1
    have nDL : L ≠ D := by
      obtain ⟨_, _, _, _, h, _⟩ := w1
      exact ne_of_none h hD1
    refine ⟨fun σ' H2 => ∃ us, σ' = [some (.ref p), some (.ref D)] ∧ Kp p H H2 ∧ H2 D = some (.lst us) ∧ All2 (TmAt H2) us (t0 :: r) ∧ Wd C H2 p L ((";" : Str) :: R), ?_, ?_⟩
    · refine ⟨fun m σ' H2 => ∃ j us, j + m = r.length ∧ σ' = [some (.ref p), some (.ref D)] ∧ Kp p H H2 ∧ H2 D = some (.lst us) ∧ All2 (TmAt H2) us ((t0 :: r).take (j + 1)) ∧ Wd C H2 p L (commaW (r.drop j) ++ (";" : Str) :: R),
        ⟨r.length, 0, [x1], by omega, rfl, k1.trans (Same.kp (same_upd hD1 _)), upd_same, ?_, w1.same (same_upd hD1 _)⟩, ?_⟩
      · exact All2.nil.snoc (x := x1) (y := t0) (hx1.tups (Same.tups (same_upd hD1 _)))
      rintro m σ' H2 ⟨j, us, hj, rfl, k2, hD2, hA, w2⟩
      obtain ⟨dx2, i2, g2⟩ := w2.ins
      refine ⟨_, rfl, p, dx2, _, rfl, g2, lk_ahead _ _, p, L, _, rfl, w2, ?_⟩
      by_cases hjr : j < r.length
      · have ed : r.drop j = r[j] :: r.drop (j + 1) := List.drop_eq_getElem_cons hjr
        rw [ed] at w2
        rw [ed]
        refine ⟨rfl, _, rfl, ?_⟩
        rw [show decide (headV (commaW (r[j] :: r.drop (j + 1)) ++ (";" : Str) :: R) = V.str ",") = true from decide_eq_true rfl]
        refine iteT ?_
        have hul : us.length = j + 1 := by
          rw [hA.1, List.length_take, List.length_cons]
          omega
        have hlr : r.length + 1 ≤ 6 := hl
        refine ⟨_, rfl, D, _, rfl, .inl (SqL.of hD2), _, _, rfl, rfl, _, rfl, ?_⟩
        rw [decide_eq_true (by rw [hul]; omega)]
        refine iteT ⟨fun σ' H4 => ∃ j' us, j' = j + 1 ∧ σ' = [some (.ref p), some (.ref D)] ∧ Kp p H H4 ∧ H4 D = some (.lst us) ∧ All2 (TmAt H4) us ((t0 :: r).take (j' + 1)) ∧ Wd C H4 p L (commaW (r.drop j') ++ (";" : Str) :: R), fun σ' H4 ⟨j', us, e, h⟩ => ⟨r.length - j', by omega, j', us, by omega, h⟩, ?_⟩
        refine ⟨_, rfl, p, dx2, _, rfl, g2, lk_take _ _, p, L, ",", [","], bare r[j] ++ commaW (r.drop (j + 1)) ++ (";" : Str) :: R, rfl, by decide, List.mem_singleton.mpr rfl, w2, fun H3 w3 k3 => ?_⟩
        have hD3 := k3 _ _ hD2 nDp
        obtain ⟨sm, nm⟩ := hs r[j] (List.mem_cons_of_mem _ (List.getElem_mem hjr))
        obtain ⟨y2, R2, ey2, ny2⟩ := after_term (r.drop (j + 1)) R
        rw [List.append_assoc, ey2] at w3
        refine ⟨_, rfl, .inl ⟨rfl, _, SqL.of hD3⟩, _, rfl, p, L, r[j], y2, R2, rfl, sm, nm, ny2, w3, fun x4 H4 hx4 w4 k4 => ?_⟩
        rw [← ey2] at w4
        have hD4 := k4 _ _ hD3 nDp
        refine ⟨D, _, _, rfl, rfl, hD4, by rw [hul]; exact small1000 (by omega), ?_⟩
        have tw : ∀ (z : V) (q : Tm), TmAt H4 z q → TmAt (upd H4 D (.lst (us ++ [x4]))) z q := fun z q ⟨a, e1, h1⟩ => ⟨a, e1, by rw [upd_ne (ne_of h1 hD4 (by intro z; cases z))]; exact h1⟩
        have t24 : Tups H2 H4 := (w2.tups k3).trans (w3.tups k4)
        refine ⟨j + 1, us ++ [x4], rfl, rfl, fun a o e na => ?_, upd_same, ?_, ?_⟩
        · rw [upd_ne (ne_of_none e hD)]
          exact k4 a o (k3 a o (k2 a o e na) na) na
        · rw [List.take_add_one, List.getElem?_cons_succ, List.getElem?_eq_getElem hjr]
          exact (hA.mono fun z q h => tw z q (h.tups t24)).snoc (tw x4 _ hx4)
        · obtain ⟨dx5, W5, i5, e1, e2, e3, e4, e5⟩ := w4
          exact ⟨dx5, W5, i5, by rw [upd_ne nDp.symm]; exact e1, by rw [upd_ne nDL]; exact e2, e3, e4, e5⟩
      · have ej : j = r.length := by omega
        have e0 : r.drop j = [] := List.drop_eq_nil_iff.mpr (by omega)
        rw [e0] at w2
        rw [e0]
        refine ⟨rfl, _, rfl, ?_⟩
        rw [show decide (headV (commaW [] ++ (";" : Str) :: R) = V.str ",") = false from decide_eq_false (fun z => absurd (V.str.inj z) (show ¬ (";" : Str) = "," by decide +kernel))]
        refine iteF ⟨us, rfl, k2, hD2, ?_, w2⟩
        rw [List.take_of_length_le (by rw [List.length_cons]; omega)] at hA
        exact hA
    · rintro σ' H2 ⟨us, rfl, k2, hD2, hA, w2⟩
      refine ⟨_, rfl, D, _, rfl, .inl ⟨SqL.of hD2, fun x hx => ?_⟩⟩
      exact q x us _ upd_same (hA.mono fun _ _ h => h.tups (Same.tups (same_upd hx _))) (w2.same (same_upd hx _)) (k2.trans (Same.kp (same_upd hx _)))
abbrev sReadPart : Stmt := top 22
/-- what the reader takes for a part -/
def OkP : Pt → Prop
  | .flat k w es => IsNm w ∧ ((k = "source" ∧ es = []) ∨ ((k = "plain" ∨ k = "odd" ∨ k = "keep") ∧ ∃ f e, es = [f, e] ∧ IsNm f ∧ IsNm e) ∨ (k = "pair" ∧ ∃ f e g, es = [f, e, g] ∧ IsNm f ∧ IsNm e ∧ IsNm g))
  | .mix w ts => IsNm w ∧ ts.length ≤ 6 ∧ ∀ t ∈ ts, SmT t ∧ IsNm t.a
  | .use w p es => IsNm w ∧ IsNm p ∧ es.length ≤ 4 ∧ ∀ e ∈ es, IsNm e
def spReadPart (C : Addr) : Sp := fun vs H Q _ => ∃ (p L : Addr) (t : Pt) (R : List Str), vs = [.ref p] ∧ OkP t ∧ Wd C H p L (ptW t ++ (";" : Str) :: R) ∧ ∀ (x : V) (H' : Hp), PtAt H' x t → Wd C H' p L ((";" : Str) :: R) → Kp p H H' → Q x H'
theorem scReadPart : FnScope ["words", "wire", "kind", "name", "end"] ["words"] (defScope sReadPart) := ⟨rfl, rfl, rfl, by decide +kernel, rfl, by decide +kernel, by decide +kernel⟩
abbrev kinds7 : List Str := ["source", "mix", "plain", "odd", "keep", "pair", "use"]
theorem ok_readpart {f C f1 f2 f3 f4 f5 g : Addr} {fd d1 d3 d4 d5 gd : FuncData} (F : Fun K "read_part" "read_part" sReadPart f fd) (M : MS P w K mg base C f1 f2 f3 f4 f5 d1 d3 d4 d5) (B : MT mg) (G : Df P w K mg base 5 g gd "read_terms" ["words"] (spReadTerms C)) :
    FnOk P w K mg base CX0 6 f fd ["words"] (spReadPart C) := by
  refine F.ok scReadPart (fun vs H Q E h => ?_) (fun cdv A outer s H vs Q E hr h => ?_)
  · obtain ⟨p, L, t, R, rfl, _⟩ := h
    rfl
  obtain ⟨p, L, t, R, rfl, ok, hW, q⟩ := h
  obtain ⟨te, me⟩ := B.ends
  have hr2 : Room 2 _ := hr.mono (by decide)
  have hr3 : Room 3 _ := hr.mono (by decide)
  refine ⟨_, pss_cons (ps_set (i := 1) scReadPart.nd rfl (Or.inl rfl) (pe_meth0 (pv 0) M.T.cl M.nm.mt M.nm.ok hr2 M.nm.b .nil pass0))
    (pss_cons (ps_set (i := 2) scReadPart.nd rfl (Or.inl rfl) (pe_methR (pv 0) M.T.cl M.tkM M.tkF hr2 pass0 (pa_cons pe_str (pa_cons pe_str (pa_cons pe_str (pa_cons pe_str (pa_cons pe_str (pa_cons pe_str (pa_cons pe_str pa_nil)))))))))
    (pss_cons (ps_if (pt_cmpR op_eq (pv 2) pe_str (nomark _)) (pss_one (ps_ret (pe_tup (pa_cons (pv 2) (pa_cons (pv 1) pa_nil))))) pss_nil)
    (pss_cons (ps_if (pt_cmpR op_eq (pv 2) pe_str (nomark _)) (pss_one (ps_ret (pe_tup (pa_cons (pv 2) (pa_cons (pv 1) (pa_cons (pe_call G.ok hr (by rfl) G.m G.kp G.b .nil pass0 (pa_cons (pv 0) pa_nil)) pa_nil)))))) pss_nil)
    (pss_cons (ps_set (i := 3) scReadPart.nd rfl (Or.inl rfl) (pe_meth0 (pv 0) M.T.cl M.nm.mt M.nm.ok hr2 M.nm.b .nil pass0))
    (pss_cons (ps_if (pt_cmpR op_eq (pv 2) pe_str (nomark _)) (pss_one (ps_ret (pe_tup (pa_cons (pv 2) (pa_cons (pv 1) (pa_cons (pv 3) (pa_cons (pe_meth (pv 0) M.T.cl M.ns.mt M.ns.ok hr3 M.ns.b .nil pass0 (pa_cons (pe_glob (v := .int 4) (by rfl) me ⟨_, rfl⟩) pa_nil)) pa_nil))))))) pss_nil)
    (pss_cons (ps_set (i := 4) scReadPart.nd rfl (Or.inl rfl) (pe_meth0 (pv 0) M.T.cl M.nm.mt M.nm.ok hr2 M.nm.b .nil pass0))
    (pss_cons (ps_if (pt_cmpR op_eq (pv 2) pe_str (nomark _)) (pss_one (ps_ret (pe_tup (pa_cons (pv 2) (pa_cons (pv 1) (pa_cons (pv 3) (pa_cons (pv 4) (pa_cons (pe_meth0 (pv 0) M.T.cl M.nm.mt M.nm.ok hr2 M.nm.b .nil pass0) pa_nil)))))))) pss_nil)
    (pss_one (ps_ret (pe_tup (pa_cons (pv 2) (pa_cons (pv 1) (pa_cons (pv 3) (pa_cons (pv 4) pa_nil)))))))))))))), ?_⟩
  obtain ⟨dx, i, h1⟩ := hW.ins
  cases t with
  | flat k w es =>
    obtain ⟨nw, hk⟩ := ok
    refine ⟨_, rfl, p, dx, _, rfl, h1, lk_take_name _ _, p, L, w, k :: (es ++ (";" : Str) :: R), rfl, nw, hW, fun H1 w1 k1 => ?_⟩
    obtain ⟨dx1, i1, g1⟩ := w1.ins
    refine ⟨_, rfl, p, dx1, _, rfl, g1, lk_take _ _, p, L, k, kinds7, es ++ (";" : Str) :: R, rfl, by decide, ?_, w1, fun H2 w2 k2 => ?_⟩
    · rcases hk with ⟨e, _⟩ | ⟨e | e | e, _⟩ | ⟨e, _⟩ <;> (rw [e]; decide +kernel)
    obtain ⟨dx2, i2, g2⟩ := w2.ins
    refine ⟨_, rfl, rfl, _, rfl, ?_⟩
    rcases hk with ⟨e, rfl⟩ | ⟨e, fn, en, rfl, nf, ne⟩ | ⟨e, fn, en, gn, rfl, nf, ne, ng⟩
    · rw [decide_eq_true (show V.str k = V.str "source" from congrArg V.str e)]
      refine iteT ⟨_, rfl, _, rfl, (by show 2 ≤ sizeLine; decide), fun x hx => ?_⟩
      exact q (.ref x) _ ⟨x, rfl, upd_same⟩ (w2.same (same_upd hx _)) ((k1.trans k2).trans (Same.kp (same_upd hx _)))
    · have d1 : ¬ k = ("source" : Str) := by rcases e with e | e | e <;> (rw [e]; decide +kernel)
      have d2 : ¬ k = ("mix" : Str) := by rcases e with e | e | e <;> (rw [e]; decide +kernel)
      have d3 : ¬ k = ("use" : Str) := by rcases e with e | e | e <;> (rw [e]; decide +kernel)
      have d4 : ¬ k = ("pair" : Str) := by rcases e with e | e | e <;> (rw [e]; decide +kernel)
      rw [decide_eq_false (fun z => d1 (V.str.inj z))]
      refine iteF ⟨_, rfl, rfl, _, rfl, ?_⟩
      rw [decide_eq_false (fun z => d2 (V.str.inj z))]
      refine iteF ⟨_, rfl, p, dx2, _, rfl, g2, lk_take_name _ _, p, L, fn, _, rfl, nf, w2, fun H3 w3 k3 => ?_⟩
      obtain ⟨dx3, i3, g3⟩ := w3.ins
      refine ⟨_, rfl, rfl, _, rfl, ?_⟩
      rw [decide_eq_false (fun z => d3 (V.str.inj z))]
      refine iteF ⟨_, rfl, p, dx3, _, rfl, g3, lk_take_name _ _, p, L, en, _, rfl, ne, w3, fun H4 w4 k4 => ?_⟩
      refine ⟨_, rfl, rfl, _, rfl, ?_⟩
      rw [decide_eq_false (fun z => d4 (V.str.inj z))]
      refine iteF ⟨_, rfl, _, rfl, _, rfl, _, rfl, (by show 4 ≤ sizeLine; decide), fun x hx => ?_⟩
      exact q (.ref x) _ ⟨x, rfl, upd_same⟩ (w4.same (same_upd hx _)) (((k1.trans k2).trans (k3.trans k4)).trans (Same.kp (same_upd hx _)))
    · have d1 : ¬ k = ("source" : Str) := by rw [e]; decide +kernel
      have d2 : ¬ k = ("mix" : Str) := by rw [e]; decide +kernel
      have d3 : ¬ k = ("use" : Str) := by rw [e]; decide +kernel
      rw [decide_eq_false (fun z => d1 (V.str.inj z))]
      refine iteF ⟨_, rfl, rfl, _, rfl, ?_⟩
      rw [decide_eq_false (fun z => d2 (V.str.inj z))]
      refine iteF ⟨_, rfl, p, dx2, _, rfl, g2, lk_take_name _ _, p, L, fn, _, rfl, nf, w2, fun H3 w3 k3 => ?_⟩
      obtain ⟨dx3, i3, g3⟩ := w3.ins
      refine ⟨_, rfl, rfl, _, rfl, ?_⟩
      rw [decide_eq_false (fun z => d3 (V.str.inj z))]
      refine iteF ⟨_, rfl, p, dx3, _, rfl, g3, lk_take_name _ _, p, L, en, _, rfl, ne, w3, fun H4 w4 k4 => ?_⟩
      obtain ⟨dx4, i4, g4⟩ := w4.ins
      refine ⟨_, rfl, rfl, _, rfl, ?_⟩
      rw [decide_eq_true (show V.str k = V.str "pair" from congrArg V.str e)]
      refine iteT ⟨_, rfl, _, rfl, _, rfl, _, rfl, _, rfl, p, dx4, _, rfl, g4, lk_take_name _ _, p, L, gn, _, rfl, ng, w4, fun H5 w5 k5 => ?_⟩
      refine ⟨(by show 5 ≤ sizeLine; decide), fun x hx => ?_⟩
      exact q (.ref x) _ ⟨x, rfl, upd_same⟩ (w5.same (same_upd hx _)) (((k1.trans k2).trans ((k3.trans k4).trans k5)).trans (Same.kp (same_upd hx _)))
  | mix w ts =>
    obtain ⟨nw, hl, hs⟩ := ok
    refine ⟨_, rfl, p, dx, _, rfl, h1, lk_take_name _ _, p, L, w, ("mix" : Str) :: (tmsW ts ts.length ++ (";" : Str) :: R), rfl, nw, hW, fun H1 w1 k1 => ?_⟩
    obtain ⟨dx1, i1, g1⟩ := w1.ins
    refine ⟨_, rfl, p, dx1, _, rfl, g1, lk_take _ _, p, L, "mix", kinds7, _, rfl, by decide, by decide +kernel, w1, fun H2 w2 k2 => ?_⟩
    refine ⟨_, rfl, rfl, _, rfl, ?_⟩
    rw [decide_eq_false (show ¬ V.str "mix" = V.str "source" by decide +kernel)]
    refine iteF ⟨_, rfl, rfl, _, rfl, ?_⟩
    rw [decide_eq_true (rfl : V.str "mix" = V.str "mix")]
    refine iteT ⟨_, rfl, _, rfl, _, rfl, p, L, ts, R, rfl, hl, hs, w2, fun b us H3 hb hA w3 k3 => ?_⟩
    refine ⟨(by show 3 ≤ sizeLine; decide), fun x hx => ?_⟩
    have s3 := same_upd hx (.tup [.str "mix", .str w, .ref b])
    exact q (.ref x) _ ⟨x, b, us, rfl, upd_same, s3 _ _ hb, hA.mono fun _ _ h => h.tups (Same.tups s3)⟩ (w3.same s3) ((k1.trans (k2.trans k3)).trans (Same.kp s3))
  | use w pn es =>
    obtain ⟨nw, np, hl, he⟩ := ok
    refine ⟨_, rfl, p, dx, _, rfl, h1, lk_take_name _ _, p, L, w, ("use" : Str) :: pn :: (es ++ (";" : Str) :: R), rfl, nw, hW, fun H1 w1 k1 => ?_⟩
    obtain ⟨dx1, i1, g1⟩ := w1.ins
    refine ⟨_, rfl, p, dx1, _, rfl, g1, lk_take _ _, p, L, "use", kinds7, _, rfl, by decide, by decide +kernel, w1, fun H2 w2 k2 => ?_⟩
    obtain ⟨dx2, i2, g2⟩ := w2.ins
    refine ⟨_, rfl, rfl, _, rfl, ?_⟩
    rw [decide_eq_false (show ¬ V.str "use" = V.str "source" by decide +kernel)]
    refine iteF ⟨_, rfl, rfl, _, rfl, ?_⟩
    rw [decide_eq_false (show ¬ V.str "use" = V.str "mix" by decide +kernel)]
    refine iteF ⟨_, rfl, p, dx2, _, rfl, g2, lk_take_name _ _, p, L, pn, _, rfl, np, w2, fun H3 w3 k3 => ?_⟩
    obtain ⟨dx3, i3, g3⟩ := w3.ins
    refine ⟨_, rfl, rfl, _, rfl, ?_⟩
    rw [decide_eq_true (rfl : V.str "use" = V.str "use")]
    refine iteT ⟨_, rfl, _, rfl, _, rfl, _, rfl, p, dx3, _, rfl, g3, lk_take_names _ _, p, L, 4, es, (";" : Str) :: R, rfl, he, by omega, by omega, fun _ => ⟨by decide +kernel, by decide +kernel⟩, w3, fun b H4 w4 k4 hb0 hb => ?_⟩
    refine ⟨(by show 4 ≤ sizeLine; decide), fun x hx => ?_⟩
    have s4 := same_upd hx (.tup [.str "use", .str w, .str pn, .ref b])
    exact q (.ref x) _ ⟨x, b, rfl, upd_same, s4 _ _ hb⟩ (w4.same s4) ((k1.trans (k2.trans (k3.trans k4))).trans (Same.kp s4))
abbrev sReadNet : Stmt := top 23
theorem PtAt.wr {H : Hp} {D : Addr} {us vs : List V} {v : V} {p : Pt} (hD : H D = some (.lst us)) (h : PtAt H v p) : PtAt (upd H D (.lst vs)) v p :=
  h.tups fun a xs e => by rw [upd_ne (ne_of e hD (by intro z; cases z))]; exact e
def partsW : List Pt → List Str
  | [] => []
  | p :: r => ptW p ++ (";" : Str) :: partsW r
theorem psW_rest {ps : List Pt} : ∀ (k j : Nat), j + k = ps.length → psW ps ps.length = psW ps j ++ partsW (ps.drop j)
  | 0, j, h => by
    have e : j = ps.length := by omega
    subst e
    rw [List.drop_length]
    show _ = _ ++ []
    rw [List.append_nil]
  | k + 1, j, h => by
    have hj : j < ps.length := by omega
    rw [psW_rest k (j + 1) (by omega), psW_succ (List.getElem?_eq_getElem hj), List.drop_eq_getElem_cons hj]
    rw [List.append_assoc]
    show psW ps j ++ (ptW ps[j] ++ [(";" : Str)] ++ partsW (ps.drop (j + 1))) = psW ps j ++ (ptW ps[j] ++ (";" : Str) :: partsW (ps.drop (j + 1)))
    rw [List.append_assoc]
    rfl
theorem netW_eq (ps : List Pt) (os : List Str) : netW ps os = partsW ps ++ (">" : Str) :: os := by
  unfold netW
  rw [psW_rest (ps := ps) ps.length 0 (by omega), List.append_assoc]
  rfl
/-! no blank in a word -/
def NoSp (l : List Str) : Prop := ∀ z ∈ l, 32 ∉ tl z
theorem NoSp.app {l m : List Str} (h : NoSp l) (g : NoSp m) : NoSp (l ++ m) := fun z hz => (List.mem_append.mp hz).elim (h z) (g z)
theorem NoSp.cons {x : Str} {l : List Str} (h : 32 ∉ tl x) (g : NoSp l) : NoSp (x :: l) := fun z hz => (List.mem_cons.mp hz).elim (fun e => by rw [e]; exact h) (g z)
theorem NoSp.nil : NoSp [] := fun z hz => nomatch hz
theorem IsNm.sp {z : Str} (h : IsNm z) : 32 ∉ tl z := fun hz => absurd (h.low 32 hz) (by decide +kernel)
theorem IsNm.gt {z : Str} (h : IsNm z) : ¬ z = (">" : Str) := fun e => by
  rw [e] at h
  exact absurd (h.low 62 (by decide +kernel)) (by decide +kernel)
theorem dec_sp {i : Int} (h0 : -99 ≤ i) (h1 : i ≤ 99) : 32 ∉ tl (dec i) := by
  have all : ∀ k : Fin 199, 32 ∉ tl (dec ((k.val : Int) - 99)) := by decide +kernel
  have e : i = (((⟨(i + 99).toNat, by omega⟩ : Fin 199).val : Nat) : Int) - 99 := by
    show i = ((i + 99).toNat : Int) - 99
    omega
  rw [e]
  exact all _
theorem bare_sp {t : Tm} (h : SmT t) (n : IsNm t.a) : NoSp (bare t) := by
  have d0 := h.d0
  have d1 := h.d1
  unfold bare
  refine NoSp.app (.cons (dec_sp h.n0 h.n1) (.cons n.sp .nil)) ?_
  by_cases e : t.d = 0
  · rw [if_pos e]; exact .nil
  · rw [if_neg e]; exact .cons (by decide +kernel) (.cons (dec_sp (by omega) (by omega)) .nil)
theorem comma_sp : ∀ {ts : List Tm}, (∀ t ∈ ts, SmT t ∧ IsNm t.a) → NoSp (commaW ts)
  | [], _ => .nil
  | t :: r, h => .cons (by decide +kernel) ((bare_sp (h t (List.mem_cons_self ..)).1 (h t (List.mem_cons_self ..)).2).app (comma_sp fun u hu => h u (List.mem_cons_of_mem _ hu)))
theorem tms_sp : ∀ {ts : List Tm}, (∀ t ∈ ts, SmT t ∧ IsNm t.a) → NoSp (tmsW ts ts.length)
  | [], _ => .nil
  | t :: r, h => by
    rw [tmsW_cons]
    exact (bare_sp (h t (List.mem_cons_self ..)).1 (h t (List.mem_cons_self ..)).2).app (comma_sp fun u hu => h u (List.mem_cons_of_mem _ hu))
theorem names_sp {l : List Str} (h : ∀ z ∈ l, IsNm z) : NoSp l := fun z hz => (h z hz).sp
theorem pt_sp : ∀ {p : Pt}, OkP p → NoSp (ptW p)
  | .flat k w es, ⟨nw, h⟩ => by
    show NoSp (w :: k :: es)
    refine .cons nw.sp ?_
    rcases h with ⟨e, rfl⟩ | ⟨e, fn, en, rfl, nf, ne⟩ | ⟨e, fn, en, gn, rfl, nf, ne, ng⟩
    · rw [e]; exact .cons (by decide +kernel) .nil
    · refine .cons ?_ (.cons nf.sp (.cons ne.sp .nil))
      rcases e with e | e | e <;> (rw [e]; decide +kernel)
    · rw [e]; exact .cons (by decide +kernel) (.cons nf.sp (.cons ne.sp (.cons ng.sp .nil)))
  | .mix w ts, ⟨nw, _, h⟩ => .cons nw.sp (.cons (by decide +kernel) (tms_sp h))
  | .use w p es, ⟨nw, np, _, h⟩ => .cons nw.sp (.cons (by decide +kernel) (.cons np.sp (names_sp h)))
theorem parts_sp : ∀ {ps : List Pt}, (∀ p ∈ ps, OkP p) → NoSp (partsW ps)
  | [], _ => .nil
  | p :: r, h => (pt_sp (h p (List.mem_cons_self ..))).app (.cons (by decide +kernel) (parts_sp fun u hu => h u (List.mem_cons_of_mem _ hu)))
theorem pt_head : ∀ {p : Pt}, OkP p → ∃ z R, ptW p = z :: R ∧ IsNm z
  | .flat k w es, ⟨nw, _⟩ => ⟨w, _, rfl, nw⟩
  | .mix w ts, ⟨nw, _⟩ => ⟨w, _, rfl, nw⟩
  | .use w p es, ⟨nw, _⟩ => ⟨w, _, rfl, nw⟩
theorem joinL_len (S : List Nat) : ∀ l : List (List Nat), (joinL S l).length ≤ (l.map List.length).sum + l.length * S.length
  | [] => Nat.zero_le _
  | [p] => by
    show p.length ≤ _
    rw [List.map_cons, List.sum_cons]
    omega
  | p :: q :: r => by
    show (p ++ (S ++ joinL S (q :: r))).length ≤ _
    have ih := joinL_len S (q :: r)
    rw [List.length_append, List.length_append, List.map_cons, List.sum_cons, List.length_cons, Nat.add_mul]
    omega
theorem join_len {l : List Str} {n : Nat} (h : Lo l n) : (Txt.join " " l).length ≤ 11 * n := by
  rw [tlen, join_eq, tl_join]
  have h1 := joinL_len (tl " ") (l.map tl)
  have e1 : (tl ((" " : String) : Str)).length = 1 := by decide +kernel
  have e2 : ((l.map tl).map List.length).sum = (l.map (·.length)).sum := by
    rw [List.map_map]
    congr 1
  have h2 := lo_sum h.2
  have h3 := h.1
  rw [e1, e2, List.length_map] at h1
  omega
theorem split_net {ps : List Pt} {os : List Str} (h : ∀ p ∈ ps, OkP p) (g : ∀ z ∈ os, IsNm z) : Txt.split (Txt.join " " (netW ps os)) " " = partsW ps ++ (">" : Str) :: os := by
  rw [netW_eq]
  refine split_join (s := 32) (S := []) (by decide +kernel) (by decide +kernel) ?_ ((parts_sp h).app (.cons (by decide +kernel) (names_sp g)))
  intro e
  have e2 := congrArg List.length e
  rw [List.length_append, List.length_cons, List.length_nil] at e2
  omega
theorem Same.wd {x : Addr} {H H1 H2 : Hp} (s : Same H H1) (hx : H x = none) (k : Kp x H1 H2) : Same H H2 := fun a o e => k a o (s a o e) (ne_of_none e hx)
def spReadNet : Sp := fun vs H Q _ => ∃ (ps : List Pt) (os : List Str), vs = [.str (Txt.join " " (netW ps os))] ∧ ps.length ≤ 20 ∧ (∀ p ∈ ps, SmP p ∧ OkP p) ∧ 0 < os.length ∧ os.length ≤ 4 ∧ (∀ z ∈ os, IsNm z) ∧
  ∀ (x t1 t2 : Addr) (us : List V) (H' : Hp), Same H H' → H' x = some (.tup [.ref t1, .ref t2]) → H' t1 = some (.tup us) → All2 (PtAt H') us ps → H' t2 = some (.tup (os.map V.str)) → Q (.ref x) H'
theorem scReadNet : FnScope ["text", "words", "parts", "first", "others"] ["text"] (defScope sReadNet) := ⟨rfl, rfl, rfl, by decide +kernel, rfl, by decide +kernel, by decide +kernel⟩
theorem ok_readnet {f C f0 f1 f2 f3 f4 f5 g : Addr} {fd d0 d1 d3 d4 d5 gd : FuncData} (F : Fun K "read_net" "read_net" sReadNet f fd) (M : MS P w K mg base C f1 f2 f3 f4 f5 d1 d3 d4 d5) (B : MT mg) (N : NameTxt mg) (MC : Mk K C f0) (mC : mg "Words" = some (.ref C))
    (GI : FnOk P w K mg base CX0 1 f0 d0 ["self", "text"] (spWInit C)) (bI : Binds K d0 ["self", "text"] []) (G : Df P w K mg base 6 g gd "read_part" ["words"] (spReadPart C)) (mtuple : mg "tuple" = none) :
    FnOk P w K mg base CX0 7 f fd ["text"] spReadNet := by
  refine F.ok scReadNet (fun vs H Q E h => ?_) (fun cdv A outer s H vs Q E hr h => ?_)
  · obtain ⟨ps, os, rfl, _⟩ := h
    rfl
  obtain ⟨ps, os, rfl, hl, hs, ho1, ho4, hos, q⟩ := h
  obtain ⟨to, mo⟩ := B.outs
  have hr1 : Room 1 _ := hr.mono (by decide)
  have hr2 : Room 2 _ := hr.mono (by decide)
  have hr3 : Room 3 _ := hr.mono (by decide)
  refine ⟨_, pss_cons (ps_if (pt_not (pt_val (pe_callB call_isi (by rfl) N.isi (by decide +kernel) (pa_cons (pv 0) (pa_cons (pe_bltn (v := .ty "str") (by rfl) N.str (by decide +kernel) rfl) pa_nil))))) (pss_one ps_never) pss_nil)
    (pss_cons (ps_set (i := 1) scReadNet.nd rfl (Or.inl rfl) (pe_make MC GI hr2 (by rfl) mC bI .nil pass0 (pa_cons (pv 0) pa_nil)))
    (pss_cons (ps_set (i := 2) scReadNet.nd rfl (Or.inl rfl) (pe_lst pa_nil))
    (C8.pss_cut (ps_while PassesOwn.never (pt_cmpR op_ne (pe_meth0 (pv 1) M.T.cl M.ah.mt M.ah.ok hr1 M.ah.b .nil pass0) pe_str (nomark _))
      (pss_cons (ps_expr (pe_bm PySem.F.plainAttrs_list PySem.F.slot_list_append PySem.F.type_list_append mt_append (pv 2) (pa_cons (pe_call G.ok hr (by rfl) G.m G.kp G.b .nil pass0 (pa_cons (pv 1) pa_nil)) pa_nil)))
      (pss_one (ps_expr (pe_methR (pv 1) M.T.cl M.tkM M.tkF hr2 pass0 (pa_cons pe_str pa_nil))))))
    (pss_cons (ps_expr (pe_methR (pv 1) M.T.cl M.tkM M.tkF hr2 pass0 (pa_cons pe_str pa_nil)))
    (pss_cons (ps_set (i := 3) scReadNet.nd rfl (Or.inl rfl) (pe_meth0 (pv 1) M.T.cl M.nm.mt M.nm.ok hr2 M.nm.b .nil pass0))
    (pss_cons (ps_set (i := 4) scReadNet.nd rfl (Or.inl rfl) (pe_meth (pv 1) M.T.cl M.ns.mt M.ns.ok hr3 M.ns.b .nil pass0 (pa_cons (pe_op op_sub (pe_glob (v := .int 4) (by rfl) mo ⟨_, rfl⟩) pe_int) pa_nil)))
    (pss_cons (ps_if (pt_cmpR op_notN (pe_meth0 (pv 1) M.T.cl M.ah.mt M.ah.ok hr1 M.ah.b .nil pass0) pe_non (nomark _)) (pss_one ps_never) pss_nil)
    (pss_one (ps_ret (pe_tup (pa_cons (pe_callTy call_tuple_of (by rfl) mtuple (by decide +kernel) (pa_cons (pv 2) pa_nil)) (pa_cons (pe_tup (pa_cons (pv 3) (StX.pa_star (pv 4) pa_nil))) pa_nil)))))))))))), ?_⟩
  have hsplit := split_net (ps := ps) (os := os) (fun p hp => (hs p hp).2) hos
  have lo : Lo (netW ps os) 1300 := (((psW_lo (fun p hp => (hs p hp).1) ps.length).app (lo_of (l := [(">" : Str)]) 1 (Nat.le_refl _) (by decide +kernel))).app (lo_of (l := os) 4 ho4 (fun z hz => by have := (hos z hz).l4; omega))).le (by omega)
  refine ⟨_, rfl, _, _, _, _, true, rfl, .ty _, .base (.str _), kit_ty (by decide +kernel), _, rfl, iteF ?_⟩
  refine ⟨_, rfl, fun x dx nx ndx nex => ?_⟩
  have s0 : Same H (upd (upd H dx (.own x)) x (.ins C dx [])) := fun b o e => by
    rw [upd_ne (ne_of_none e nx), upd_ne (ne_of_none e ndx)]
    exact e
  refine ⟨x, dx, _, rfl, upd_same, ?_, ?_, fun L H1 hL0 w1 k1 => ⟨rfl, ?_⟩⟩
  · have := join_len lo
    omega
  · rw [hsplit, ← netW_eq]
    exact Nat.le_trans lo.1 (by decide)
  rw [hsplit] at w1
  have s1 : Same H H1 := Same.wd s0 nx k1
  refine ⟨Nat.zero_le _, fun D hD1 => ?_⟩
  have nDx : D ≠ x := by
    obtain ⟨_, _, h⟩ := w1.ins
    exact (ne_of_none h hD1).symm
  have nLD : L ≠ D := by
    obtain ⟨_, _, _, _, h, _⟩ := w1
    exact ne_of_none h hD1
  have hD : H D = none := s1.free hD1
  refine ⟨fun σ' H2 => ∃ us, σ' = [some (.str (Txt.join " " (netW ps os))), some (.ref x), some (.ref D), none, none] ∧ Same H H2 ∧ H2 D = some (.lst us) ∧ All2 (PtAt H2) us ps ∧ Wd C H2 x L ((">" : Str) :: os), ?_, ?_⟩
  · refine ⟨fun m σ' H2 => ∃ j us, j + m = ps.length ∧ σ' = [some (.str (Txt.join " " (netW ps os))), some (.ref x), some (.ref D), none, none] ∧ Same H H2 ∧ H2 D = some (.lst us) ∧ All2 (PtAt H2) us (ps.take j) ∧ Wd C H2 x L (partsW (ps.drop j) ++ (">" : Str) :: os),
      ⟨ps.length, 0, [], by omega, rfl, s1.trans (same_upd hD1 _), upd_same, .nil, w1.same (same_upd hD1 _)⟩, ?_⟩
    rintro m σ' H2 ⟨j, us, hj, rfl, s2, hD2, hA, w2⟩
    obtain ⟨dx2, i2, g2⟩ := w2.ins
    refine ⟨_, rfl, x, dx2, _, rfl, g2, lk_ahead _ _, x, L, _, rfl, w2, ?_⟩
    by_cases hjp : j < ps.length
    · have ed : ps.drop j = ps[j] :: ps.drop (j + 1) := List.drop_eq_getElem_cons hjp
      have okp := (hs ps[j] (List.getElem_mem hjp)).2
      obtain ⟨z, Rz, ez, nz⟩ := pt_head okp
      rw [ed] at w2
      rw [ed]
      have eh : headV (partsW (ps[j] :: ps.drop (j + 1)) ++ (">" : Str) :: os) = V.str z := by
        show headV ((ptW ps[j] ++ (";" : Str) :: partsW (ps.drop (j + 1))) ++ (">" : Str) :: os) = V.str z
        rw [ez]
        rfl
      rw [eh]
      refine ⟨rfl, _, rfl, ?_⟩
      rw [decide_eq_false (fun e => nz.gt (V.str.inj e))]
      have hul : us.length = j := by
        rw [hA.1, List.length_take]
        omega
      refine iteT ⟨fun σ' H4 => ∃ j' us, j' = j + 1 ∧ σ' = [some (.str (Txt.join " " (netW ps os))), some (.ref x), some (.ref D), none, none] ∧ Same H H4 ∧ H4 D = some (.lst us) ∧ All2 (PtAt H4) us (ps.take j') ∧ Wd C H4 x L (partsW (ps.drop j') ++ (">" : Str) :: os), fun σ' H4 ⟨j', us, e, h⟩ => ⟨ps.length - j', by omega, j', us, by omega, h⟩, ?_⟩
      replace w2 : Wd C H2 x L (ptW ps[j] ++ (";" : Str) :: (partsW (ps.drop (j + 1)) ++ (">" : Str) :: os)) := by
        have e : partsW (ps[j] :: ps.drop (j + 1)) ++ (">" : Str) :: os = ptW ps[j] ++ (";" : Str) :: (partsW (ps.drop (j + 1)) ++ (">" : Str) :: os) := by
          show (ptW ps[j] ++ (";" : Str) :: partsW (ps.drop (j + 1))) ++ (">" : Str) :: os = _
          rw [List.append_assoc]
          rfl
        rw [e] at w2
        exact w2
      refine ⟨_, rfl, .inl ⟨rfl, _, SqL.of hD2⟩, _, rfl, x, L, ps[j], _, rfl, okp, w2, fun v H3 hv w3 k3 => ?_⟩
      have hD3 := k3 _ _ hD2 nDx
      refine ⟨D, _, _, rfl, rfl, hD3, by rw [hul]; exact small1000 (by omega), ?_⟩
      have w3' : Wd C (upd H3 D (.lst (us ++ [v]))) x L ((";" : Str) :: (partsW (ps.drop (j + 1)) ++ (">" : Str) :: os)) := by
        obtain ⟨dx5, W5, i5, e1, e2, e3, e4, e5⟩ := w3
        exact ⟨dx5, W5, i5, by rw [upd_ne nDx.symm]; exact e1, by rw [upd_ne nLD]; exact e2, e3, e4, e5⟩
      obtain ⟨dx3, i3, g3⟩ := w3'.ins
      have s3 : Same H (upd H3 D (.lst (us ++ [v]))) := fun a o e => by
        rw [upd_ne (ne_of_none e hD)]
        exact Same.wd s2 nx k3 a o e
      refine ⟨_, rfl, x, dx3, _, rfl, g3, lk_take _ _, x, L, ";", [";"], _, rfl, by decide, List.mem_singleton.mpr rfl, w3', fun H4 w4 k4 => ?_⟩
      refine ⟨j + 1, us ++ [v], rfl, rfl, Same.wd s3 nx k4, k4 _ _ upd_same nDx, ?_, w4⟩
      have t4 := w3'.tups k4
      rw [List.take_add_one, List.getElem?_eq_getElem hjp]
      exact (hA.mono fun z q h => (PtAt.wr hD3 (h.tups (w2.tups k3))).tups t4).snoc ((PtAt.wr hD3 hv).tups t4)
    · have e0 : ps.drop j = [] := List.drop_eq_nil_iff.mpr (by omega)
      rw [e0] at w2
      rw [e0]
      refine ⟨rfl, _, rfl, ?_⟩
      rw [show decide (headV (partsW [] ++ (">" : Str) :: os) = V.str ">") = true from decide_eq_true rfl]
      refine iteF ⟨us, rfl, s2, hD2, ?_, w2⟩
      rw [List.take_of_length_le (by omega)] at hA
      exact hA
  · rintro σ' H2 ⟨us, rfl, s2, hD2, hA, w2⟩
    cases os with
    | nil => exact absurd ho1 (by decide)
    | cons o r =>
      have nr := fun z (hz : z ∈ r) => hos z (List.mem_cons_of_mem _ hz)
      have r3 : r.length ≤ 3 := by
        rw [List.length_cons] at ho4
        omega
      obtain ⟨dx2, i2, g2⟩ := w2.ins
      refine ⟨_, rfl, x, dx2, _, rfl, g2, lk_take _ _, x, L, ">", [">"], _, rfl, by decide, List.mem_singleton.mpr rfl, w2, fun H3 w3 k3 => ?_⟩
      obtain ⟨dx3, i3, g3⟩ := w3.ins
      refine ⟨_, rfl, x, dx3, _, rfl, g3, lk_take_name _ _, x, L, o, r, rfl, hos o (List.mem_cons_self ..), w3, fun H4 w4 k4 => ?_⟩
      obtain ⟨dx4, i4, g4⟩ := w4.ins
      replace w4 : Wd C H4 x L (r ++ []) := by
        rw [List.append_nil]
        exact w4
      refine ⟨_, rfl, x, dx4, _, rfl, g4, lk_take_names _ _, 4, 1, rfl, rfl, x, L, 3, r, [], rfl, nr, by omega, by omega, fun _ => trivial, w4, fun b H5 w5 k5 hb0 hb => ?_⟩
      obtain ⟨dx5, i5, g5⟩ := w5.ins
      refine ⟨_, rfl, x, dx5, _, rfl, g5, lk_ahead _ _, x, L, [], rfl, w5, rfl, _, rfl, ?_⟩
      rw [show decide (headV [] = V.non) = true from decide_eq_true rfl]
      refine iteF ?_
      have hD5 := k5 _ _ (k4 _ _ (k3 _ _ hD2 nDx) nDx) nDx
      have t5 : Tups H2 H5 := ((w2.tups k3).trans (w3.tups k4)).trans (w4.tups k5)
      have s5 : Same H H5 := Same.wd (Same.wd (Same.wd s2 nx k3) nx k4) nx k5
      refine ⟨_, rfl, D, _, rfl, .inl ⟨SqL.of hD5, fun t1 ht1 => ?_⟩⟩
      have s6 := same_upd ht1 (.tup us)
      refine ⟨_, rfl, _, rfl, b, _, rfl, .inl (SqT.of (s6 _ _ hb)), ?_, fun t2 ht2 => ⟨(by show 2 ≤ sizeLine; decide), fun y hy => ?_⟩⟩
      · show (r.map V.str ++ []).length + 1 ≤ _
        rw [List.append_nil, List.length_map]
        exact Nat.le_trans (show r.length + 1 ≤ 1000 by omega) (by decide)
      have s7 := same_upd ht2 (.tup (V.str o :: (r.map V.str ++ [])))
      have s8 := same_upd hy (.tup [.ref t1, .ref t2])
      refine q y t1 t2 us _ (((s5.trans s6).trans s7).trans s8) upd_same (s8 _ _ (s7 _ _ upd_same)) (hA.mono fun _ _ h => ((h.tups t5).tups (Same.tups s6)).tups (Same.tups (s7.trans s8))) ?_
      refine Eq.trans (s8 _ _ upd_same) ?_
      show some (HO.tup (V.str o :: (r.map V.str ++ []))) = some (HO.tup (V.str o :: r.map V.str))
      rw [List.append_nil]
/-! ### the law's helpers -/
abbrev sMixed : Stmt := top 30
abbrev sTerm : Stmt := top 31
def spMixed (K : PySem.W.Frag) : Sp := fun vs H Q _ => ∃ (b c a : Addr) (xs : List V), vs = [.ref b, .ref a] ∧ Bag H b c ∧ a ≠ b ∧ SqL K H a xs ∧ xs.length ≤ 1000 ∧
  ∀ (l : Addr) (ys : List V) (H' : Hp), ys.Perm xs → Bag H' b c → Kp b H H' → H l = none → l ≠ b → H' l = some (.lst ys) → Q (.ref l) H'
theorem scMixed : FnScope ["_law_bag_here", "_law_things", "_law_found", "_law_thing"] ["_law_bag_here", "_law_things"] (defScope sMixed) := ⟨rfl, rfl, rfl, by decide +kernel, rfl, by decide +kernel, by decide +kernel⟩
theorem ins_perm {xs ys : List V} {y : V} {i : Nat} (k : Nat) (h : ys.Perm (xs.take i)) (hy : xs[i]? = some y) : (ys.take k ++ [y] ++ ys.drop k).Perm (xs.take (i + 1)) := by
  rw [List.take_add_one, hy]
  have h1 : (ys.take k ++ [y] ++ ys.drop k).Perm (y :: ys) := by
    rw [List.append_assoc]
    have h2 : (ys.take k ++ ([y] ++ ys.drop k)).Perm (y :: (ys.take k ++ ys.drop k)) := List.perm_middle
    rw [List.take_append_drop] at h2
    exact h2
  refine h1.trans ((List.Perm.cons y h).trans ?_)
  show (y :: List.take i xs).Perm (List.take i xs ++ [y])
  exact (List.perm_append_singleton y (List.take i xs)).symm
theorem ok_mixed {f g : Addr} {fd gd : FuncData} (F : Fun K "_law_mixed" "_law_mixed" sMixed f fd) (G : Df P w K mg base 1 g gd "_law_pull" ["_law_bag_here", "_law_many"] spPull) (mlen : mg "len" = none) :
    FnOk P w K mg base CX0 2 f fd ["_law_bag_here", "_law_things"] (spMixed K) := by
  refine F.ok scMixed (fun vs H Q E h => ?_) (fun cdv A outer s H vs Q E hr h => ?_)
  · obtain ⟨b, c, a, xs, rfl, _⟩ := h
    rfl
  obtain ⟨b, c, a, xs, rfl, B, nab, ha, hl, q⟩ := h
  refine ⟨_, pss_cons (ps_set (i := 2) scMixed.nd rfl (Or.inl rfl) (pe_lst pa_nil))
    (pss_cons (ps_for PassesOwn.never rfl (pi_list (pv 1)) (pg_name (i := 3) scMixed.nd rfl (Or.inl rfl))
      (pss_one (ps_expr (pe_bm PySem.F.plainAttrs_list PySem.F.slot_list_insert PySem.F.type_list_insert mt_insert (pv 2) (pa_cons (pe_call G.ok hr (by rfl) G.m G.kp G.b .nil pass0 (pa_cons (pv 0) (pa_cons (pe_op op_add (pe_callB call_len_seq (by rfl) mlen PySem.boot_len (pa_cons (pv 2) pa_nil)) pe_int) pa_nil))) (pa_cons (pv 3) pa_nil))))))
    (pss_one (ps_ret (pv 2)))), ?_⟩
  refine ⟨Nat.zero_le _, fun L hL => ?_⟩
  have nL := B.ne_new hL
  have k0 : Kp b H (upd H L (.lst [])) := (Kp.refl b H).wr hL _
  refine ⟨.ref a, rfl, a, rfl, ⟨_, k0.seqL nab ha⟩, for_list (K := K) (a := a) (xs := xs) (fun i σ H2 => ∃ v3 ys, σ = [some (.ref b), some (.ref a), some (.ref L), v3] ∧ Bag H2 b c ∧ Kp b H H2 ∧ ys.Perm (xs.take i) ∧ H2 L = some (.lst ys))
    ⟨none, [], rfl, B.upd_new hL _, k0, List.Perm.refl _, upd_same⟩ (fun i σ H2 _ ⟨_, _, _, _, k2, _⟩ => k2.seqL nab ha) ?_ ?_⟩
  · rintro i x σ H2 hx ⟨v3, ys, rfl, B2, k2, hp, hL2⟩
    have hi : i < xs.length := (List.getElem?_eq_some_iff.mp hx).1
    have hyl : ys.length = i := by rw [hp.length_eq, List.length_take]; omega
    have h2000 : (2000 : Nat) ≤ sizeLine := by decide
    refine ⟨.ref L, rfl, .inl ⟨rfl, _, SqL.of hL2⟩, .ref b, rfl, .ref L, rfl, L, _, rfl, .inl (SqL.of hL2), _, _, rfl, rfl, b, c, _, rfl, B2, by omega, by omega, fun d H3 d0 d1 B3 k3 => ?_⟩
    refine ⟨x, rfl, L, ys, d, x, rfl, rfl, k3 _ _ hL2 nL.1.symm, by omega, d0, by omega, ?_⟩
    exact ⟨_, _, rfl, B3.wr nL _, (k2.trans k3).wr hL _, ins_perm d.toNat hp hx, upd_same⟩
  · rintro σ H2 ⟨v3, ys, rfl, B2, k2, hp, hL2⟩
    rw [List.take_length] at hp
    exact ⟨.ref L, rfl, q L ys H2 hp B2 k2 hL nL.1.symm hL2⟩
/-- a list of names at a -/
structure NmL (H : Hp) (b a : Addr) (ws : List Str) : Prop where
  ne : a ≠ b
  at_ : H a = some (.lst (ws.map V.str))
  nm : ∀ z ∈ ws, IsNm z
  l : ws.length ≤ 1000
theorem NmL.kp {H H' : Hp} {b a : Addr} {ws : List Str} (h : NmL H b a ws) (k : Kp b H H') : NmL H' b a ws := ⟨h.ne, k _ _ h.at_ h.ne, h.nm, h.l⟩
theorem NmL.menu {H : Hp} {b a : Addr} {ws : List Str} (h : NmL H b a ws) : Menu K H b (.ref a) (ws.map V.str) := .inl ⟨a, rfl, h.ne, SqL.of h.at_⟩
theorem IsNm.ok {z : Str} (h : IsNm z) : PyData.strOk z = true := by
  have all : ∀ c ∈ letters.cps.toList, c < 0x110000 := by decide +kernel
  unfold PyData.strOk
  rw [← Array.all_toList, List.all_eq_true]
  intro c hc
  exact decide_eq_true (all c (h.low c hc))
theorem dpAll_strs {H : Hp} : ∀ ws : List Str, DpAll K H (ws.map V.str) (ws.map PyData.str)
  | [] => .nil
  | x :: r => .cons (.str x) (dpAll_strs r)
theorem shaped_strs {ws : List Str} (h : ∀ z ∈ ws, IsNm z) : SeqAt.shaped (.list (ws.map PyData.str)) = true := by
  have lay : ∀ ws : List Str, (∀ z ∈ ws, IsNm z) → PyData.canLayAll0 (ws.map PyData.str) = true ∧ PyData.depthAll (ws.map PyData.str) = 0 := by
    intro ws
    induction ws with
    | nil => intro _; exact ⟨rfl, rfl⟩
    | cons x r ih =>
      intro h
      obtain ⟨h1, h2⟩ := ih fun z hz => h z (List.mem_cons_of_mem _ hz)
      refine ⟨?_, ?_⟩
      · show (PyData.strOk x && PyData.canLayAll0 (r.map PyData.str)) = true
        rw [(h x (List.mem_cons_self ..)).ok, h1]
        rfl
      · show max 0 (PyData.depthAll (r.map PyData.str)) = 0
        rw [h2]
        rfl
  obtain ⟨h1, h2⟩ := lay ws h
  show (PyData.canLayAll0 (ws.map PyData.str) && decide (PyData.depthAll (ws.map PyData.str) + 1 ≤ 64)) = true
  rw [h1, h2]
  rfl
theorem any_nm {H : Hp} {b c u : Addr} {us : List Str} {Q : VK} (B : Bag H b c) (hu : NmL H b u us) (h0 : 0 < us.length) (q : ∀ (a : Str) (H' : Hp), IsNm a → Bag H' b c → Kp b H H' → Q (.str a) H') : spAny K [.ref b, .ref u] H Q E0 :=
  ⟨b, c, .ref u, us.map V.str, rfl, B, hu.menu, by rw [List.length_map]; exact h0, by rw [List.length_map]; have := hu.l; omega, fun y H4 hy B4 k4 => by
    obtain ⟨a, ha, rfl⟩ := List.mem_map.mp hy
    exact q a H4 (hu.nm a ha) B4 k4⟩
def spTerm : Sp := fun vs H Q _ => ∃ (b c e v : Addr) (es ws : List Str), vs = [.ref b, .ref e, .ref v] ∧ Bag H b c ∧ NmL H b e es ∧ NmL H b v ws ∧ 0 < ws.length ∧
  ∀ (x : V) (t : Tm) (H' : Hp), TmAt H' x t → SmT t → IsNm t.a → Bag H' b c → Kp b H H' → Q x H'
theorem scTerm : FnScope ["_law_bag_here", "_law_earlier", "_law_every", "_law_factor", "_law_delay"] ["_law_bag_here", "_law_earlier", "_law_every"] (defScope sTerm) := ⟨rfl, rfl, rfl, by decide +kernel, rfl, by decide +kernel, by decide +kernel⟩
theorem ok_term {f g ga : Addr} {fd gd ad : FuncData} (F : Fun K "_law_term" "_law_term" sTerm f fd) (G : Df P w K mg base 1 g gd "_law_pull" ["_law_bag_here", "_law_many"] spPull) (GA : Df P w K mg base 2 ga ad "_law_any" ["_law_bag_here", "_law_things"] (spAny K)) (mmax : mg "max" = none) :
    FnOk P w K mg base CX0 3 f fd ["_law_bag_here", "_law_earlier", "_law_every"] spTerm := by
  refine F.ok scTerm (fun vs H Q E h => ?_) (fun cdv A outer s H vs Q E hr h => ?_)
  · obtain ⟨b, c, e, v, es, ws, rfl, _⟩ := h
    rfl
  obtain ⟨b, c, e, v, es, ws, rfl, B, he, hv, h0, q⟩ := h
  have hr1 : Room 1 _ := hr.mono (by decide)
  have hu := hr.units
  refine ⟨_, C8.pss_cut (ps_set (i := 3) scTerm.nd rfl (Or.inl rfl) (pe_ifExp (pt_cmpR op_gt (pe_call G.ok hr1 (by rfl) G.m G.kp G.b .nil pass0 (pa_cons (pv 0) (pa_cons pe_int pa_nil))) pe_int (nomark _))
      (pe_op op_sub (pe_call G.ok hr1 (by rfl) G.m G.kp G.b .nil pass0 (pa_cons (pv 0) (pa_cons pe_int pa_nil))) pe_int)
      (pe_call GA.ok hr (by rfl) GA.m GA.kp GA.b .nil pass0 (pa_cons (pv 0) (pa_cons (pe_lst (pa_cons (pe_un un_neg pe_int) (pa_cons pe_int (pa_cons (pe_un un_neg pe_int) (pa_cons pe_int pa_nil))))) pa_nil)))))
    (pss_cons (ps_set (i := 4) scTerm.nd rfl (Or.inl rfl) (pe_call GA.ok hr (by rfl) GA.m GA.kp GA.b .nil pass0 (pa_cons (pv 0) (pa_cons (pe_lst (pa_cons pe_int (pa_cons pe_int (pa_cons pe_int (pa_cons pe_int (pa_cons pe_int (pa_cons pe_int (pa_cons pe_int (pa_cons pe_int pa_nil))))))))) pa_nil))))
    (pss_cons (ps_if (PW.pt (pw_and (pt_cmpR op_eq (pv 4) pe_int (nomark _)) (pw_and1 (pt_cmpR (op_neD hu) (pv 1) (pe_lst pa_nil) (nomark _)))))
      (pss_one (ps_ret (pe_tup (pa_cons (pv 3) (pa_cons pe_int (pa_cons (pe_call GA.ok hr (by rfl) GA.m GA.kp GA.b .nil pass0 (pa_cons (pv 0) (pa_cons (pv 1) pa_nil))) pa_nil)))))) pss_nil)
    (pss_one (ps_ret (pe_tup (pa_cons (pv 3) (pa_cons (pe_callB (cr_max rfl) (by rfl) mmax (by decide +kernel) (pa_cons (pe_lst (pa_cons (pv 4) (pa_cons pe_int pa_nil))) pa_nil)) (pa_cons (pe_call GA.ok hr (by rfl) GA.m GA.kp GA.b .nil pass0 (pa_cons (pv 0) (pa_cons (pv 2) pa_nil))) pa_nil)))))))), ?_⟩
  refine ⟨fun σ' H1 => ∃ n, σ' = [some (.ref b), some (.ref e), some (.ref v), some (.int n), none] ∧ -99 ≤ n ∧ n ≤ 99 ∧ Bag H1 b c ∧ Kp b H H1, ?_, ?_⟩
  · refine ⟨.ref b, rfl, b, c, 8, rfl, B, by decide, by decide, fun d H1 d0 d1 B1 k1 => ?_⟩
    refine ⟨_, _, rfl, rfl, _, rfl, ?_⟩
    refine ite2 (fun _ => ?_) (fun _ => ?_)
    · refine ⟨.ref b, rfl, b, c, 7, rfl, B1, by decide, by decide, fun d2 H2 e0 e1 B2 k2 => ?_⟩
      refine ⟨_, _, rfl, rfl, ?_⟩
      exact ⟨_, rfl, by omega, by omega, B2, k1.trans k2⟩
    · refine ⟨.ref b, rfl, 99, rfl, 10, rfl, (by show 4 ≤ sizeLine; decide), fun m hm => ?_⟩
      refine ⟨b, c, .ref m, ([-99, 99, -10, 47] : List Int).map V.int, rfl, B1.upd_new hm _, .inl ⟨m, rfl, B1.fresh hm, SqL.of upd_same⟩, by decide, by decide, fun y H2 hy B2 k2 => ?_⟩
      obtain ⟨n, hn, rfl⟩ := List.mem_map.mp hy
      have bd : ∀ n ∈ ([-99, 99, -10, 47] : List Int), -99 ≤ n ∧ n ≤ 99 := by decide
      exact ⟨n, rfl, (bd n hn).1, (bd n hn).2, B2, (k1.new hm _).trans k2⟩
  rintro σ' H1 ⟨n, rfl, n0, n1, B1, k1⟩
  refine ⟨.ref b, rfl, (by show 8 ≤ sizeLine; decide), fun m hm => ?_⟩
  refine ⟨b, c, .ref m, ([0, 0, 0, 1, 1, 2, 3, 4] : List Int).map V.int, rfl, B1.upd_new hm _, .inl ⟨m, rfl, B1.fresh hm, SqL.of upd_same⟩, by decide, by decide, fun y H2 hy B2 k2' => ?_⟩
  obtain ⟨d, hd, rfl⟩ := List.mem_map.mp hy
  have bd : ∀ n ∈ ([0, 0, 0, 1, 1, 2, 3, 4] : List Int), 0 ≤ n ∧ n ≤ 4 := by decide
  obtain ⟨d0, d1⟩ := bd d hd
  have k2 : Kp b H H2 := (k1.new hm _).trans k2'
  -- the last way: (factor, max([delay, 1]), any(bag, every))
  refine ⟨.int d, rfl, rfl, _, rfl, ?_⟩
  have fin : ∀ (H3 : Hp), Bag H3 b c → Kp b H H3 → tRet (tTup (tCons (tVar 3) (tCons (tCB (rMax K) (tCons (tLst (tCons (tVar 4) (tCons (tC (.int 1)) tNil))) tNil)) (tCons (tCall (spAny K) [] E0 (tCons (tVar 0) (tCons (tVar 2) tNil))) tNil))))
      { nx := fun _ H' => Q .non H', rt := Q } [some (.ref b), some (.ref e), some (.ref v), some (.int n), some (.int d)] H3 := fun H3 B3 k3 => by
    refine ⟨_, rfl, _, rfl, (by show 2 ≤ sizeLine; decide), fun m2 hm2 => ⟨m2, [d, 1], rfl, SqL.of upd_same, (by show 0 < 2; decide), fun mx hmx hle => ?_⟩⟩
    have m1 : 1 ≤ mx := hle 1 (List.mem_cons_of_mem _ (List.mem_cons_self ..))
    have m4 : mx ≤ 4 := by
      rcases List.mem_cons.mp hmx with e | hmx
      · omega
      · rw [List.mem_singleton.mp hmx]; decide
    refine ⟨_, rfl, _, rfl, any_nm (B3.upd_new hm2 _) (hv.kp (k3.new hm2 _)) h0 fun a H4 na B4 k4 => ?_⟩
    refine ⟨(by show 3 ≤ sizeLine; decide), fun t ht => ?_⟩
    exact q (.ref t) ⟨n, mx, a⟩ _ ⟨t, rfl, upd_same⟩ ⟨n0, n1, by show 0 ≤ mx; omega, m4, by show a.length ≤ 10; have := na.l4; omega⟩ na (B4.upd_new ht _) (((k3.new hm2 _).trans k4).new ht _)
  refine ite2 (fun c0 => ?_) (fun c0 => ?_)
  · refine ⟨.ref e, rfl, Nat.zero_le _, fun p hp => ?_⟩
    refine ⟨_, _, .lst (SqL.of ((he.kp (k2.new hp _)).at_)) (dpAll_strs es), .lst (SqL.of upd_same) .nil, shaped_strs he.nm, rfl, _, rfl, ?_⟩
    refine ite2 (fun c1 => ?_) (fun c1 => ?_)
    · have es0 : 0 < es.length := by
        cases es with
        | nil => cases c1
        | cons x r => exact Nat.succ_pos _
      refine ⟨_, rfl, _, rfl, _, rfl, any_nm (B2.upd_new hp _) (he.kp (k2.new hp _)) es0 fun a H4 na B4 k4 => ?_⟩
      refine ⟨(by show 3 ≤ sizeLine; decide), fun t ht => ?_⟩
      exact q (.ref t) ⟨n, 0, a⟩ _ ⟨t, rfl, upd_same⟩ ⟨n0, n1, by show (0 : Int) ≤ 0; decide, by show (0 : Int) ≤ 4; decide, by show a.length ≤ 10; have := na.l4; omega⟩ na (B4.upd_new ht _) (((k2.new hp _).trans k4).new ht _)
    · exact fin _ (B2.upd_new hp _) (k2.new hp _)
  · exact fin _ B2 k2
abbrev sPart : Stmt := top 32
abbrev sParts : Stmt := top 33
abbrev sBoxes : Stmt := top 34
abbrev sUse : Stmt := top 35
abbrev kinds4 : List Str := ["plain", "odd", "keep", "pair"]
def BxAt (H : Hp) (v : V) (p : Str × Str) : Prop := ∃ t, v = .ref t ∧ H t = some (.tup [.str p.1, .str p.2])
theorem BxAt.tups {H H' : Hp} (s : Tups H H') {v : V} {p : Str × Str} (h : BxAt H v p) : BxAt H' v p := by
  obtain ⟨t, e, h⟩ := h
  exact ⟨t, e, s _ _ h⟩
/-- a list of pairs of a kind and a name at a -/
structure BxL (H : Hp) (b a : Addr) (bs : List V) (fs : List (Str × Str)) : Prop where
  ne : a ≠ b
  at_ : H a = some (.lst bs)
  all : All2 (BxAt H) bs fs
  ok : ∀ p ∈ fs, p.1 ∈ kinds4 ∧ IsNm p.2
  l : fs.length ≤ 1000
theorem BxL.kp {H H' : Hp} {b c a : Addr} {bs : List V} {fs : List (Str × Str)} (h : BxL H b a bs fs) (B : Bag H b c) (k : Kp b H H') : BxL H' b a bs fs :=
  ⟨h.ne, k _ _ h.at_ h.ne, h.all.mono fun _ _ z => z.tups (k.tups B), h.ok, h.l⟩
def spBoxes : Sp := fun vs H Q _ => ∃ (b c a : Addr) (ws : List Str), vs = [.ref b, .ref a] ∧ Bag H b c ∧ NmL H b a ws ∧
  ∀ (x : Addr) (bs : List V) (fs : List (Str × Str)) (H' : Hp), BxL H' b x bs fs → fs.length = ws.length → Bag H' b c → Kp b H H' → H x = none → Q (.ref x) H'
theorem scBoxes : FnScope ["_law_bag_here", "_law_words", "_law_word"] ["_law_bag_here", "_law_words"] (defScope sBoxes) := ⟨rfl, rfl, rfl, by decide +kernel, rfl, by decide +kernel, by decide +kernel⟩
theorem ok_boxes {f ga : Addr} {fd ad : FuncData} (F : Fun K "_law_boxes" "_law_boxes" sBoxes f fd) (GA : Df P w K mg base 2 ga ad "_law_any" ["_law_bag_here", "_law_things"] (spAny K)) :
    FnOk P w K mg base CX0 3 f fd ["_law_bag_here", "_law_words"] spBoxes := by
  refine F.ok scBoxes (fun vs H Q E h => ?_) (fun cdv A outer s H vs Q E hr h => ?_)
  · obtain ⟨b, c, a, ws, rfl, _⟩ := h
    rfl
  obtain ⟨b, c, a, ws, rfl, B, ha, q⟩ := h
  refine ⟨_, pss_one (ps_ret (pe_lc (own := [("_law_word", 2)]) (g := gName 2) rfl scBoxes.nd (pi_list (pv 1)) (blkOk_by (own := [("_law_word", 2)]) (N := ["_law_bag_here", "_law_words", "_law_word"]) (sc := defScope sBoxes) (by decide +kernel))
    (fun _ _ _ _ _ => pg_name (i := 2) scBoxes.nd rfl (Or.inl rfl) (Or.inr rfl)) (fun _ _ _ _ _ => pts_nil)
    (fun _ _ _ _ _ => pe_tup (pa_cons (pe_call GA.ok hr (by rfl) GA.m GA.kp GA.b .nil pass0 (pa_cons (pv 0) (pa_cons (pe_lst (pa_cons pe_str (pa_cons pe_str (pa_cons pe_str (pa_cons pe_str pa_nil))))) pa_nil))) (pa_cons (pv 2) pa_nil))))), ?_⟩
  refine ⟨.ref a, rfl, a, rfl, ⟨_, SqL.of ha.at_⟩, fun D hD => ?_⟩
  have nD := B.ne_new hD
  refine lc_list (K := K) (a := a) (xs := ws.map V.str) (fun i H2 => Bag H2 b c ∧ Kp b H H2 ∧ ∃ bs fs, All2 (BxAt H2) bs fs ∧ fs.length = i ∧ (∀ p ∈ fs, p.1 ∈ kinds4 ∧ IsNm p.2) ∧ H2 D = some (.lst bs))
    ⟨B.upd_new hD _, (Kp.refl b H).wr hD _, [], [], .nil, rfl, (fun p hp => nomatch hp), upd_same⟩ (fun i H2 _ ⟨_, k2, _⟩ => SqL.of (ha.kp k2).at_) (fun i x H2 hx ⟨B2, k2, bs, fs, hA, hl, hok, hD2⟩ => ?_) (fun H2 ⟨B2, k2, bs, fs, hA, hl, hok, hD2⟩ => ?_)
  · rw [List.getElem?_map] at hx
    have hi : i < ws.length := by
      cases e : ws[i]? with
      | none => rw [e] at hx; cases hx
      | some z => exact (List.getElem?_eq_some_iff.mp e).1
    rw [List.getElem?_eq_getElem hi] at hx
    cases Option.some.inj hx
    have hz := ha.nm _ (List.getElem_mem hi)
    have hwl := ha.l
    have hbl : bs.length = i := by rw [hA.1, hl]
    refine ⟨rfl, .ref b, rfl, (by show 4 ≤ sizeLine; decide), fun m hm => ?_⟩
    refine ⟨b, c, .ref m, kinds4.map V.str, rfl, B2.upd_new hm _, .inl ⟨m, rfl, B2.fresh hm, SqL.of upd_same⟩, by decide, by decide, fun y H3 hy B3 k3 => ?_⟩
    obtain ⟨kd, hkd, rfl⟩ := List.mem_map.mp hy
    refine ⟨_, rfl, (by show 2 ≤ sizeLine; decide), fun t ht => ?_⟩
    have k23 : Kp b H2 (upd H3 t (.tup [.str kd, .str ws[i]])) := (((Kp.refl b H2).new hm _).trans k3).new ht _
    have B4 : Bag (upd H3 t (.tup [.str kd, .str ws[i]])) b c := B3.upd_new ht _
    refine ⟨bs, k23 _ _ hD2 nD.1.symm, by rw [hbl]; exact small1000 (by omega), B4.wr nD _, (k2.trans k23).wr hD _, bs ++ [.ref t], fs ++ [(kd, ws[i])], ?_, by rw [List.length_append, hl]; rfl, fun p hp => ?_, upd_same⟩
    · have hDt : t ≠ D := fun e => by
        have h1 := k23 _ _ hD2 nD.1.symm
        rw [← e, upd_same] at h1
        cases h1
      refine (hA.mono fun _ _ z => ?_).snoc ⟨t, rfl, by rw [upd_ne hDt]; exact upd_same⟩
      obtain ⟨t', e, h'⟩ := z.tups (k23.tups B2)
      refine ⟨t', e, ?_⟩
      rw [upd_ne (ne_of h' (k23 _ _ hD2 nD.1.symm) (by intro z; cases z))]
      exact h'
    · rcases List.mem_append.mp hp with h | h
      · exact hok p h
      · rw [List.mem_singleton.mp h]
        exact ⟨hkd, hz⟩
  · rw [List.length_map] at hl
    exact q D bs fs H2 ⟨nD.1.symm, hD2, hA, hok, by have := ha.l; omega⟩ hl B2 k2 hD
def spUse : Sp := fun vs H Q _ => ∃ (b c a : Addr) (x : Str) (ws : List Str), vs = [.ref b, .str x, .ref a] ∧ Bag H b c ∧ IsNm x ∧ NmL H b a ws ∧ 0 < ws.length ∧
  ∀ (v : V) (p : Pt) (H' : Hp), PtAt H' v p → SmP p → OkP p → Bag H' b c → Kp b H H' → Q v H'
theorem scUse : FnScope ["_law_bag_here", "_law_wire", "_law_words", "_law_k"] ["_law_bag_here", "_law_wire", "_law_words"] (defScope sUse) := ⟨rfl, rfl, rfl, by decide +kernel, rfl, by decide +kernel, by decide +kernel⟩
theorem ok_use {f g ga : Addr} {fd gd ad : FuncData} (F : Fun K "_law_use" "_law_use" sUse f fd) (G : Df P w K mg base 1 g gd "_law_pull" ["_law_bag_here", "_law_many"] spPull) (GA : Df P w K mg base 2 ga ad "_law_any" ["_law_bag_here", "_law_things"] (spAny K)) (mtuple : mg "tuple" = none) (mrange : mg "range" = none) :
    FnOk P w K mg base CX0 3 f fd ["_law_bag_here", "_law_wire", "_law_words"] spUse := by
  refine F.ok scUse (fun vs H Q E h => ?_) (fun cdv A outer s H vs Q E hr h => ?_)
  · obtain ⟨b, c, a, x, ws, rfl, _⟩ := h
    rfl
  obtain ⟨b, c, a, x, ws, rfl, B, hx, ha, h0, q⟩ := h
  have hr1 : Room 1 _ := hr.mono (by decide)
  refine ⟨_, pss_one (ps_ret (pe_tup (pa_cons pe_str (pa_cons (pv 1) (pa_cons (pe_call GA.ok hr (by rfl) GA.m GA.kp GA.b .nil pass0 (pa_cons (pv 0) (pa_cons (pv 2) pa_nil)))
    (pa_cons (pe_callTy call_tuple_of (by rfl) mtuple (by decide +kernel) (pa_cons (pe_lc (own := [("_law_k", 3)]) (g := gName 3) rfl scUse.nd (pi_range1 (by rfl) mrange (pa_cons (pe_call G.ok hr1 (by rfl) G.m G.kp G.b .nil pass0 (pa_cons (pv 0) (pa_cons pe_int pa_nil))) pa_nil))
      (blkOk_by (own := [("_law_k", 3)]) (N := ["_law_bag_here", "_law_wire", "_law_words", "_law_k"]) (sc := defScope sUse) (by decide +kernel))
      (fun _ _ _ _ _ => pg_name (i := 3) scUse.nd rfl (Or.inl rfl) (Or.inr rfl)) (fun _ _ _ _ _ => pts_nil)
      (fun _ _ _ _ _ => pe_call GA.ok hr (by rfl) GA.m GA.kp GA.b .nil pass0 (pa_cons (pv 0) (pa_cons (pv 2) pa_nil)))) pa_nil)) pa_nil)))))), ?_⟩
  refine ⟨_, rfl, _, rfl, _, rfl, any_nm B ha h0 fun pc H1 npc B1 k1 => ?_⟩
  refine ⟨.ref b, rfl, b, c, 5, rfl, B1, by decide, by decide, fun d H2 d0 d1 B2 k2 => ?_⟩
  refine ⟨d, rfl, by omega, by omega, fun D hD => ?_⟩
  have nD := B2.ne_new hD
  have k12 := k1.trans k2
  have hD0 : H D = none := k12.free B2 hD
  refine lc_range (lo := 0) (n := d.toNat) (fun i H3 => Bag H3 b c ∧ Kp b H H3 ∧ ∃ es : List Str, es.length = i ∧ (∀ z ∈ es, IsNm z) ∧ H3 D = some (.lst (es.map V.str)))
    ⟨B2.upd_new hD _, k12.wr hD0 _, [], rfl, (fun z hz => nomatch hz), upd_same⟩ (fun i H3 hi ⟨B3, k3, es, hl, hn, hD3⟩ => ?_) (fun H3 ⟨B3, k3, es, hl, hn, hD3⟩ => ?_)
  · refine ⟨rfl, _, rfl, _, rfl, any_nm B3 (ha.kp k3) h0 fun z H4 nz B4 k4 => ?_⟩
    refine ⟨_, k4 _ _ hD3 nD.1.symm, by rw [List.length_map, hl]; exact small1000 (by omega), B4.wr nD _, (k3.trans k4).wr hD0 _, es ++ [z], by rw [List.length_append, hl]; rfl, fun y hy => ?_, by rw [upd_same, List.map_append]; rfl⟩
    rcases List.mem_append.mp hy with h | h
    · exact hn y h
    · rw [List.mem_singleton.mp h]
      exact nz
  · refine ⟨D, _, rfl, .inl ⟨SqL.of hD3, fun t ht => ?_⟩⟩
    refine ⟨(by show 4 ≤ sizeLine; decide), fun u hu => ?_⟩
    have hu4 := upd_same (H := H3) (a := t) (o := .tup (es.map V.str))
    have ntu : t ≠ u := ne_of_none hu4 hu
    refine q (.ref u) (.use x pc es) _ ⟨u, t, rfl, upd_same, by rw [upd_ne ntu]; exact upd_same⟩ ⟨by have := hx.l4; omega, by have := npc.l4; omega, by omega, fun z hz => by have := (hn z hz).l4; omega⟩ ⟨hx, npc, by omega, hn⟩ ((B3.upd_new ht _).upd_new hu _) ((k3.new ht _).new hu _)
theorem All2.tail {α β : Type} {R : α → β → Prop} {x : α} {y : β} {xs : List α} {ys : List β} (h : All2 R (x :: xs) (y :: ys)) : R x y ∧ All2 R xs ys :=
  ⟨h.2 0 x y rfl rfl, Nat.succ.inj h.1, fun i u v hu hv => h.2 (i + 1) u v hu hv⟩
abbrev bxD (p : Str × Str) : PyData := .tuple [.str p.1, .str p.2]
theorem dpAll_bx {H : Hp} : ∀ {bs : List V} {fs : List (Str × Str)}, All2 (BxAt H) bs fs → DpAll K H bs (fs.map bxD)
  | [], [], _ => .nil
  | [], _ :: _, h => absurd h.1 (by simp)
  | _ :: _, [], h => absurd h.1 (by simp)
  | v :: bs, p :: fs, h => by
    obtain ⟨⟨t, rfl, ht⟩, h2⟩ := h.tail
    exact .cons (.tup (SqT.of ht) (.cons (.str _) (.cons (.str _) .nil))) (dpAll_bx h2)
theorem kinds_ok {k : Str} (h : k ∈ kinds4) : PyData.strOk k = true ∧ ¬ k = "mix" ∧ ¬ k = "use" ∧ k.length ≤ 10 := by
  have all : ∀ k ∈ kinds4, PyData.strOk k = true ∧ ¬ k = "mix" ∧ ¬ k = "use" ∧ k.length ≤ 10 := by decide +kernel
  exact all k h
theorem shaped_bx {fs : List (Str × Str)} (h : ∀ p ∈ fs, p.1 ∈ kinds4 ∧ IsNm p.2) : SeqAt.shaped (.list (fs.map bxD)) = true := by
  have lay : ∀ fs : List (Str × Str), (∀ p ∈ fs, p.1 ∈ kinds4 ∧ IsNm p.2) → PyData.canLayAll0 (fs.map bxD) = true ∧ PyData.depthAll (fs.map bxD) ≤ 1 := by
    intro fs
    induction fs with
    | nil => intro _; exact ⟨rfl, Nat.zero_le _⟩
    | cons x r ih =>
      intro h
      obtain ⟨h1, h2⟩ := ih fun z hz => h z (List.mem_cons_of_mem _ hz)
      obtain ⟨g1, g2⟩ := h x (List.mem_cons_self ..)
      refine ⟨?_, ?_⟩
      · show ((PyData.strOk x.1 && (PyData.strOk x.2 && true)) && PyData.canLayAll0 (r.map bxD)) = true
        rw [(kinds_ok g1).1, g2.ok, h1]
        rfl
      · show max (max 0 (max 0 0) + 1) (PyData.depthAll (r.map bxD)) ≤ 1
        omega
  obtain ⟨h1, h2⟩ := lay fs h
  show (PyData.canLayAll0 (fs.map bxD) && decide (PyData.depthAll (fs.map bxD) + 1 ≤ 64)) = true
  rw [h1, decide_eq_true (by omega)]
  rfl
theorem flat_ok {kd f : Str} {ds : List Str} (g1 : kd ∈ kinds4) (g2 : IsNm f) (dn : ∀ z ∈ ds, IsNm z) (h : (kd = "pair" ∧ ds.length = 2) ∨ (¬ kd = "pair" ∧ ds.length = 1)) :
    (kd = "source" ∧ f :: ds = []) ∨ ((kd = "plain" ∨ kd = "odd" ∨ kd = "keep") ∧ ∃ x e, f :: ds = [x, e] ∧ IsNm x ∧ IsNm e) ∨ (kd = "pair" ∧ ∃ x e g, f :: ds = [x, e, g] ∧ IsNm x ∧ IsNm e ∧ IsNm g) := by
  rcases h with ⟨e, l⟩ | ⟨e, l⟩
  · match ds, l with
    | [a, b], _ => exact .inr (.inr ⟨e, f, a, b, rfl, g2, dn a (by simp), dn b (by simp)⟩)
  · match ds, l with
    | [a], _ =>
      refine .inr (.inl ⟨?_, f, a, rfl, g2, dn a (by simp)⟩)
      rcases List.mem_cons.mp g1 with h | g1
      · exact .inl h
      rcases List.mem_cons.mp g1 with h | g1
      · exact .inr (.inl h)
      rcases List.mem_cons.mp g1 with h | g1
      · exact .inr (.inr h)
      · exact absurd (List.mem_singleton.mp g1) e
def Pw : Pt → Str
  | .flat _ w _ => w
  | .mix w _ => w
  | .use w _ _ => w
abbrev partN : List Str := ["_law_bag_here", "_law_wire", "_law_earlier", "_law_every", "_law_boxes_here", "_law_kind", "_law_name", "_law_ends", "_law_k"]
abbrev partP : List Str := ["_law_bag_here", "_law_wire", "_law_earlier", "_law_every", "_law_boxes_here"]
def PairL (kd : Str) (n : Nat) : Prop := n ≤ 2 ∧ ((kd = "pair" ∧ n = 2) ∨ (¬ kd = "pair" ∧ n = 1))
def spPart : Sp := fun vs H Q _ => ∃ (b c e v x : Addr) (wire : Str) (es ws : List Str) (bs : List V) (fs : List (Str × Str)), vs = [.ref b, .str wire, .ref e, .ref v, .ref x] ∧ Bag H b c ∧ IsNm wire ∧ NmL H b e es ∧ NmL H b v ws ∧ 0 < ws.length ∧ BxL H b x bs fs ∧
  ∀ (y : V) (p : Pt) (H' : Hp), PtAt H' y p → SmP p → OkP p → Pw p = wire → Bag H' b c → Kp b H H' → Q y H'
theorem scPart : FnScope partN partP (defScope sPart) := ⟨rfl, rfl, rfl, by decide +kernel, rfl, by decide +kernel, by decide +kernel⟩
theorem ok_part {f g ga gt : Addr} {fd gd ad td : FuncData} (F : Fun K "_law_part" "_law_part" sPart f fd) (G : Df P w K mg base 1 g gd "_law_pull" ["_law_bag_here", "_law_many"] spPull) (GA : Df P w K mg base 2 ga ad "_law_any" ["_law_bag_here", "_law_things"] (spAny K))
    (GT : Df P w K mg base 3 gt td "_law_term" ["_law_bag_here", "_law_earlier", "_law_every"] spTerm) (mtuple : mg "tuple" = none) (mrange : mg "range" = none) : FnOk P w K mg base CX0 4 f fd partP spPart := by
  refine F.ok scPart (fun vs H Q E h => ?_) (fun cdv A outer s H vs Q E hr h => ?_)
  · obtain ⟨b, c, e, v, x, wire, es, ws, bs, fs, rfl, _⟩ := h
    rfl
  obtain ⟨b, c, e, v, x, wire, es, ws, bs, fs, rfl, B, hw, he, hv, h0, hb, q⟩ := h
  have hr1 : Room 1 _ := hr.mono (by decide)
  have hr2 : Room 2 _ := hr.mono (by decide)
  have hu := hr.units
  refine ⟨_, C8.pss_cut (ps_if (PW.pt (pw_and (pt_cmpR (op_neD hu) (pv 4) (pe_lst pa_nil) (nomark _)) (pw_and (pt_cmpR (op_neD hu) (pv 2) (pe_lst pa_nil) (nomark _)) (pw_and1 (pt_cmpR op_eq (pe_call G.ok hr1 (by rfl) G.m G.kp G.b .nil pass0 (pa_cons (pv 0) (pa_cons pe_int pa_nil))) pe_int (nomark _))))))
      (pss_cons (ps_asg (pe_call GA.ok hr2 (by rfl) GA.m GA.kp GA.b .nil pass0 (pa_cons (pv 0) (pa_cons (pv 4) pa_nil))) (pg_tup (n := 2) rfl (pgs_cons (pg_name (i := 5) scPart.nd rfl (Or.inl rfl)) (pgs_cons (pg_name (i := 6) scPart.nd rfl (Or.inl rfl)) pgs_nil))))
      (C8.pss_cut (ps_setLc (i := 7) (own := [("_law_k", 8)]) (g := gName 8) rfl scPart.nd rfl rfl (sw_true rfl rfl rfl (by decide +kernel)) (pi_range1 (by rfl) mrange (pa_cons (pe_ifExp (pt_cmpR op_eq (pv 5) pe_str (nomark _)) pe_int pe_int) pa_nil))
          (blkOk_by (own := [("_law_k", 8)]) (N := partN) (sc := defScope sPart) (by decide +kernel)) (fun _ _ _ _ _ => pg_name (i := 8) scPart.nd rfl (Or.inl rfl) (Or.inr rfl)) (fun _ _ _ _ _ => pts_nil)
          (fun _ _ _ _ _ => pe_call GA.ok hr2 (by rfl) GA.m GA.kp GA.b .nil pass0 (pa_cons (pv 0) (pa_cons (pv 2) pa_nil))))
      (pss_one (ps_ret (pe_callTy call_tuple_of (by rfl) mtuple (by decide +kernel) (pa_cons (pe_op op_cat (pe_lst (pa_cons (pv 5) (pa_cons (pv 1) (pa_cons (pv 6) pa_nil)))) (pv 7)) pa_nil))))))
      pss_nil)
    (pss_one (ps_ret (pe_tup (pa_cons pe_str (pa_cons (pv 1) (pa_cons (pe_callTy call_tuple_of (by rfl) mtuple (by decide +kernel) (pa_cons (pe_lc (own := [("_law_k", 8)]) (g := gName 8) rfl scPart.nd (pi_range1 (by rfl) mrange (pa_cons (pe_call G.ok hr1 (by rfl) G.m G.kp G.b .nil pass0 (pa_cons (pv 0) (pa_cons pe_int pa_nil))) pa_nil))
        (blkOk_by (own := [("_law_k", 8)]) (N := partN) (sc := defScope sPart) (by decide +kernel)) (fun _ _ _ _ _ => pg_name (i := 8) scPart.nd rfl (Or.inl rfl) (Or.inr rfl)) (fun _ _ _ _ _ => pts_nil)
        (fun _ _ _ _ _ => pe_call GT.ok hr (by rfl) GT.m GT.kp GT.b .nil pass0 (pa_cons (pv 0) (pa_cons (pv 2) (pa_cons (pv 3) pa_nil))))) pa_nil)) pa_nil)))))), ?_⟩
  refine ⟨fun σ' H1 => σ' = [some (.ref b), some (.str wire), some (.ref e), some (.ref v), some (.ref x), none, none, none, none] ∧ Bag H1 b c ∧ Kp b H H1, ?_, ?_⟩
  · -- if boxes != [] and earlier != [] and pull(bag, 2) == 0
    refine ⟨.ref x, rfl, Nat.zero_le _, fun p hp => ?_⟩
    have k1 : Kp b H (upd H p (.lst [])) := (Kp.refl b H).new hp _
    have B1 := B.upd_new hp (.lst [])
    have hb1 := hb.kp B k1
    have he1 := he.kp k1
    refine ⟨_, _, .lst (SqL.of hb1.at_) (dpAll_bx hb1.all), .lst (SqL.of upd_same) .nil, shaped_bx hb.ok, rfl, _, rfl, ?_⟩
    refine ite2 (fun c1 => ?_) (fun _ => ?_)
    case refine_2 => exact iteF ⟨rfl, B1, k1⟩
    have fs0 : 0 < fs.length := by
      cases fs with
      | nil => cases c1
      | cons y r => exact Nat.succ_pos _
    refine ⟨.ref e, rfl, Nat.zero_le _, fun p2 hp2 => ?_⟩
    have k2 := k1.new hp2 (.lst [])
    have B2 := B1.upd_new hp2 (.lst [])
    have hb2 := hb.kp B k2
    have he2 := he.kp k2
    refine ⟨_, _, .lst (SqL.of he2.at_) (dpAll_strs es), .lst (SqL.of upd_same) .nil, shaped_strs he.nm, rfl, _, rfl, ?_⟩
    refine ite2 (fun c2 => ?_) (fun _ => ?_)
    case refine_2 => exact iteF ⟨rfl, B2, k2⟩
    have es0 : 0 < es.length := by
      cases es with
      | nil => cases c2
      | cons y r => exact Nat.succ_pos _
    refine ⟨.ref b, rfl, b, c, 2, rfl, B2, by decide, by decide, fun d H3 d0 d1 B3 k3' => ?_⟩
    have k3 := k2.trans k3'
    have hb3 := hb.kp B k3
    refine ⟨rfl, _, rfl, ?_⟩
    refine ite2 (fun _ => ?_) (fun _ => ?_)
    case refine_2 => exact ⟨rfl, B3, k3⟩
    -- kind, name = any(bag, boxes)
    have bl : bs.length = fs.length := hb.all.1
    have fl := hb.l
    refine ⟨_, rfl, _, rfl, b, c, .ref x, bs, rfl, B3, .inl ⟨x, rfl, hb.ne, SqL.of hb3.at_⟩, by omega, by omega, fun y H4 hy B4 k4' => ?_⟩
    have k4 := k3.trans k4'
    have hb4 := hb.kp B k4
    obtain ⟨i, hi⟩ := List.getElem?_of_mem hy
    obtain ⟨⟨kd, f⟩, hf, t, rfl, ht⟩ := hb4.all.get hi
    obtain ⟨g1, g2⟩ := hb.ok _ (List.mem_of_getElem? hf)
    refine ⟨t, _, rfl, SqT.of ht, rfl, _, _, rfl, _, _, rfl, rfl, ?_⟩
    -- ends
    refine ⟨fun σ' H5 => ∃ (D : Addr) (ds : List Str), σ' = [some (.ref b), some (.str wire), some (.ref e), some (.ref v), some (.ref x), some (.str kd), some (.str f), some (.ref D), none] ∧ Bag H5 b c ∧ Kp b H H5 ∧ D ≠ b ∧ PairL kd ds.length ∧ (∀ z ∈ ds, IsNm z) ∧ H5 D = some (.lst (ds.map V.str)), ?_, ?_⟩
    · refine ⟨_, rfl, rfl, _, rfl, ?_⟩
      refine ite2 (fun cp => ?_) (fun cp => ?_)
      · refine ⟨2, rfl, by decide, by decide, fun D hD => ?_⟩
        have nD := B4.ne_new hD
        have hD0 : H D = none := k4.free B4 hD
        refine lc_range (lo := 0) (n := 2) (fun i H5 => Bag H5 b c ∧ Kp b H H5 ∧ ∃ ds : List Str, ds.length = i ∧ (∀ z ∈ ds, IsNm z) ∧ H5 D = some (.lst (ds.map V.str)))
          ⟨B4.upd_new hD _, k4.wr hD0 _, [], rfl, (fun z hz => nomatch hz), upd_same⟩ (fun i H5 hi ⟨B5, k5, ds, hl, hn, hD5⟩ => ?_) (fun H5 ⟨B5, k5, ds, hl, hn, hD5⟩ => ?_)
        · refine ⟨rfl, _, rfl, _, rfl, any_nm B5 (he.kp k5) es0 fun z H6 nz B6 k6 => ?_⟩
          refine ⟨_, k6 _ _ hD5 nD.1.symm, by rw [List.length_map, hl]; exact small1000 (by omega), B6.wr nD _, (k5.trans k6).wr hD0 _, ds ++ [z], by rw [List.length_append, hl]; rfl, fun y hy => ?_, by rw [upd_same, List.map_append]; rfl⟩
          rcases List.mem_append.mp hy with h | h
          · exact hn y h
          · rw [List.mem_singleton.mp h]
            exact nz
        · exact ⟨D, ds, rfl, B5, k5, nD.1.symm, ⟨by omega, .inl ⟨V.str.inj (of_decide_eq_true cp), hl⟩⟩, hn, hD5⟩
      · refine ⟨1, rfl, by decide, by decide, fun D hD => ?_⟩
        have nD := B4.ne_new hD
        have hD0 : H D = none := k4.free B4 hD
        refine lc_range (lo := 0) (n := 1) (fun i H5 => Bag H5 b c ∧ Kp b H H5 ∧ ∃ ds : List Str, ds.length = i ∧ (∀ z ∈ ds, IsNm z) ∧ H5 D = some (.lst (ds.map V.str)))
          ⟨B4.upd_new hD _, k4.wr hD0 _, [], rfl, (fun z hz => nomatch hz), upd_same⟩ (fun i H5 hi ⟨B5, k5, ds, hl, hn, hD5⟩ => ?_) (fun H5 ⟨B5, k5, ds, hl, hn, hD5⟩ => ?_)
        · refine ⟨rfl, _, rfl, _, rfl, any_nm B5 (he.kp k5) es0 fun z H6 nz B6 k6 => ?_⟩
          refine ⟨_, k6 _ _ hD5 nD.1.symm, by rw [List.length_map, hl]; exact small1000 (by omega), B6.wr nD _, (k5.trans k6).wr hD0 _, ds ++ [z], by rw [List.length_append, hl]; rfl, fun y hy => ?_, by rw [upd_same, List.map_append]; rfl⟩
          rcases List.mem_append.mp hy with h | h
          · exact hn y h
          · rw [List.mem_singleton.mp h]
            exact nz
        · exact ⟨D, ds, rfl, B5, k5, nD.1.symm, ⟨by omega, .inr ⟨fun e => cp (by rw [e]; exact decide_eq_true rfl), hl⟩⟩, hn, hD5⟩
    rintro σ' H5 ⟨D, ds, rfl, B5, k5, nDb, ⟨dl, dpl⟩, dn, hD⟩
    refine ⟨_, rfl, _, rfl, _, rfl, (by show 3 ≤ sizeLine; decide), fun m hm => ?_⟩
    have nDm : D ≠ m := ne_of_none hD hm
    refine ⟨_, rfl, m, D, _, _, rfl, rfl, upd_same, by rw [upd_ne nDm]; exact hD, ?_, fun m2 hm2 => ?_⟩
    · rw [List.length_map]
      show 3 + ds.length ≤ _
      exact Nat.le_trans (show 3 + ds.length ≤ 1000 by omega) (by decide)
    refine ⟨m2, _, rfl, .inl ⟨SqL.of upd_same, fun t2 ht2 => ?_⟩⟩
    refine q (.ref t2) (.flat kd wire (f :: ds)) _ ⟨t2, rfl, upd_same⟩ ⟨(kinds_ok g1).2.1, (kinds_ok g1).2.2.1, (kinds_ok g1).2.2.2, by have := hw.l4; omega, by show ds.length + 1 ≤ 10; omega, fun z hz => ?_⟩ ⟨hw, flat_ok g1 g2 dn dpl⟩ rfl (((B5.upd_new hm _).upd_new hm2 _).upd_new ht2 _) (((k5.new hm _).new hm2 _).new ht2 _)
    rcases List.mem_cons.mp hz with h | h
    · rw [h]
      have : f.length ≤ 4 := g2.l4
      omega
    · have := (dn z h).l4; omega
  rintro σ' H1 ⟨rfl, B1, k1⟩
  -- ("mix", wire, tuple([term(bag, earlier, every) for k in range(pull(bag, 4))]))
  refine ⟨_, rfl, .ref b, rfl, b, c, 4, rfl, B1, by decide, by decide, fun d H2 d0 d1 B2 k2' => ?_⟩
  have k2 := k1.trans k2'
  refine ⟨d, rfl, by omega, by omega, fun D hD => ?_⟩
  have nD := B2.ne_new hD
  have hD0 : H D = none := k2.free B2 hD
  refine lc_range (lo := 0) (n := d.toNat) (fun i H3 => Bag H3 b c ∧ Kp b H H3 ∧ ∃ us ts, All2 (TmAt H3) us ts ∧ ts.length = i ∧ (∀ t ∈ ts, SmT t ∧ IsNm t.a) ∧ H3 D = some (.lst us))
    ⟨B2.upd_new hD _, k2.wr hD0 _, [], [], .nil, rfl, (fun t ht => nomatch ht), upd_same⟩ (fun i H3 hi ⟨B3, k3, us, ts, hA, hl, hs, hD3⟩ => ?_) (fun H3 ⟨B3, k3, us, ts, hA, hl, hs, hD3⟩ => ?_)
  · refine ⟨rfl, _, rfl, _, rfl, _, rfl, b, c, e, v, es, ws, rfl, B3, he.kp k3, hv.kp k3, h0, fun y t H4 ht hst hnt B4 k4 => ?_⟩
    have hul : us.length = i := by rw [hA.1, hl]
    have hD4 := k4 _ _ hD3 nD.1.symm
    have tw : ∀ (z : V) (q : Tm), TmAt H4 z q → TmAt (upd H4 D (.lst (us ++ [y]))) z q := fun z q ⟨a, e1, h1⟩ => ⟨a, e1, by rw [upd_ne (ne_of h1 hD4 (by intro z; cases z))]; exact h1⟩
    refine ⟨us, hD4, by rw [hul]; exact small1000 (by omega), B4.wr nD _, (k3.trans k4).wr hD0 _, us ++ [y], ts ++ [t], (hA.mono fun z q h => tw z q (h.tups (k4.tups B3))).snoc (tw y t ht), by rw [List.length_append, hl]; rfl, fun z hz => ?_, upd_same⟩
    rcases List.mem_append.mp hz with h | h
    · exact hs z h
    · rw [List.mem_singleton.mp h]
      exact ⟨hst, hnt⟩
  · refine ⟨D, _, rfl, .inl ⟨SqL.of hD3, fun t ht => ?_⟩⟩
    refine ⟨(by show 3 ≤ sizeLine; decide), fun u hu => ?_⟩
    have ht1 := upd_same (H := H3) (a := t) (o := .tup us)
    have ntu : t ≠ u := ne_of_none ht1 hu
    have sm := (same_upd ht (.tup us)).trans (same_upd hu (.tup [.str "mix", .str wire, .ref t]))
    exact q (.ref u) (.mix wire ts) _ ⟨u, t, us, rfl, upd_same, by rw [upd_ne ntu]; exact upd_same, hA.mono fun _ _ z => z.tups (Same.tups sm)⟩ ⟨by have := hw.l4; omega, by omega, fun t ht => (hs t ht).1⟩ ⟨hw, by omega, hs⟩ rfl ((B3.upd_new ht _).upd_new hu _) ((k3.new ht _).new hu _)
theorem cut_to {ws : List Str} {k : Int} (h : 0 ≤ k) : cutV (ws.map V.str) none (some k) = (ws.take k.toNat).map V.str := by
  obtain ⟨n, rfl⟩ : ∃ n : Nat, k = (n : Int) := ⟨k.toNat, by omega⟩
  unfold cutV
  rw [HT.sIx_none, HT.sIx_nat, List.drop_zero, Nat.sub_zero, Int.toNat_natCast, List.length_map, List.map_take, List.take_eq_take_iff]
  rw [List.length_map]
  omega
theorem NmL.take {H : Hp} {b a : Addr} {ws : List Str} (h : NmL H b a ws) {m : Addr} (n : Nat) (ne : m ≠ b) (hm : H m = some (.lst ((ws.take n).map V.str))) : NmL H b m (ws.take n) :=
  ⟨ne, hm, fun z hz => h.nm z (List.mem_of_mem_take hz), by rw [List.length_take]; have := h.l; omega⟩
abbrev partsN : List Str := ["_law_bag_here", "_law_wires", "_law_sources", "_law_boxes_here", "_law_found", "_law_k", "_law_wire"]
abbrev partsP : List Str := ["_law_bag_here", "_law_wires", "_law_sources", "_law_boxes_here"]
def spParts : Sp := fun vs H Q _ => ∃ (b c a x : Addr) (k : Int) (ws : List Str) (bs : List V) (fs : List (Str × Str)), vs = [.ref b, .ref a, .int k, .ref x] ∧ Bag H b c ∧ NmL H b a ws ∧ 0 ≤ k ∧ k ≤ 100 ∧ BxL H b x bs fs ∧
  ∀ (l : Addr) (us : List V) (ps : List Pt) (H' : Hp), l ≠ b → H' l = some (.lst us) → All2 (PtAt H') us ps → (∀ p ∈ ps, (SmP p ∧ OkP p) ∧ IsNm (Pw p)) → ps.length = ws.length → Bag H' b c → Kp b H H' → Q (.ref l) H'
theorem scParts : FnScope partsN partsP (defScope sParts) := ⟨rfl, rfl, rfl, by decide +kernel, rfl, by decide +kernel, by decide +kernel⟩
theorem ok_parts {f gt : Addr} {fd td : FuncData} (F : Fun K "_law_parts" "_law_parts" sParts f fd) (GT : Df P w K mg base 4 gt td "_law_part" partP spPart) (mlen : mg "len" = none) (mrange : mg "range" = none) : FnOk P w K mg base CX0 5 f fd partsP spParts := by
  refine F.ok scParts (fun vs H Q E h => ?_) (fun cdv A outer s H vs Q E hr h => ?_)
  · obtain ⟨b, c, a, x, k, ws, bs, fs, rfl, _⟩ := h
    rfl
  obtain ⟨b, c, a, x, k, ws, bs, fs, rfl, B, ha, k0, k1, hb, q⟩ := h
  refine ⟨_, pss_cons (ps_setLc (i := 4) (own := [("_law_wire", 6)]) (g := gName 6) rfl scParts.nd rfl rfl (sw_true rfl rfl rfl (by decide +kernel)) (pi_list (pe_slice sl_list (pv 1) po_none (po_some (pv 2))))
      (blkOk_by (own := [("_law_wire", 6)]) (N := partsN) (sc := defScope sParts) (by decide +kernel)) (fun _ _ _ _ _ => pg_name (i := 6) scParts.nd rfl (Or.inl rfl) (Or.inr rfl)) (fun _ _ _ _ _ => pts_nil)
      (fun _ _ _ _ _ => pe_tup (pa_cons pe_str (pa_cons (pv 6) pa_nil))))
    (pss_cons (ps_for PassesOwn.never rfl (pi_range2 (by rfl) mrange (pa_cons (pv 2) (pa_cons (pe_callB call_len_seq (by rfl) mlen PySem.boot_len (pa_cons (pv 1) pa_nil)) pa_nil))) (pg_name (i := 5) scParts.nd rfl (Or.inl rfl))
      (pss_one (ps_expr (pe_bm PySem.F.plainAttrs_list PySem.F.slot_list_append PySem.F.type_list_append mt_append (pv 4) (pa_cons
        (pe_call GT.ok hr (by rfl) GT.m GT.kp GT.b .nil pass0 (pa_cons (pv 0) (pa_cons (pe_ix ix_list (pv 1) (pv 5) (fun _ _ => rfl)) (pa_cons (pe_slice sl_list (pv 1) po_none (po_some (pv 5))) (pa_cons (pv 1) (pa_cons (pv 3) pa_nil)))))) pa_nil)))))
    (pss_one (ps_ret (pv 4)))), ?_⟩
  have wl := ha.l
  -- the sources
  refine ⟨.ref a, rfl, .int k, rfl, k, rfl, a, _, rfl, SqL.of ha.at_, fun m hm => ?_⟩
  rw [cut_to k0]
  have nm := B.ne_new hm
  have km : Kp b H (upd H m (.lst ((ws.take k.toNat).map V.str))) := (Kp.refl b H).new hm _
  have Bm := B.upd_new hm (.lst ((ws.take k.toNat).map V.str))
  have hm1 : (upd H m (.lst ((ws.take k.toNat).map V.str))) m = some (.lst ((ws.take k.toNat).map V.str)) := upd_same
  generalize (upd H m (.lst ((ws.take k.toNat).map V.str))) = Hm at km Bm hm1
  refine ⟨m, rfl, ⟨_, SqL.of hm1⟩, fun D hD => ?_⟩
  have nD := Bm.ne_new hD
  have hD0 : H D = none := km.free Bm hD
  have smW : ∀ z, IsNm z → SmP (.flat "source" z []) := fun z hz => ⟨by decide +kernel, by decide +kernel, by decide +kernel, by have := hz.l4; omega, Nat.zero_le _, fun e he => nomatch he⟩
  refine lc_list (K := K) (a := m) (xs := (ws.take k.toNat).map V.str) (fun i H2 => Bag H2 b c ∧ Kp b H H2 ∧ H2 m = some (.lst ((ws.take k.toNat).map V.str)) ∧ ∃ us ps, All2 (PtAt H2) us ps ∧ ps.length = i ∧ (∀ p ∈ ps, (SmP p ∧ OkP p) ∧ IsNm (Pw p)) ∧ H2 D = some (.lst us))
    ⟨Bm.upd_new hD _, km.wr hD0 _, by rw [upd_ne (ne_of_none hm1 hD)]; exact hm1, [], [], .nil, rfl, (fun p hp => nomatch hp), upd_same⟩ (fun i H2 _ ⟨_, _, h2, _⟩ => SqL.of h2) (fun i y H2 hy ⟨B2, k2, hm2, us, ps, hA, hl, hs, hD2⟩ => ?_) (fun H2 ⟨B2, k2, hm2, us, ps, hA, hl, hs, hD2⟩ => ?_)
  · have hi : i < (ws.take k.toNat).length := by
      have h := (List.getElem?_eq_some_iff.mp hy).1
      rw [List.length_map] at h
      exact h
    rw [List.getElem?_map, List.getElem?_eq_getElem hi] at hy
    cases Option.some.inj hy
    have hz : IsNm (ws.take k.toNat)[i] := ha.nm _ (List.mem_of_mem_take (List.getElem_mem hi))
    have hul : us.length = i := by rw [hA.1, hl]
    have hi2 : i < 1001 := by
      rw [List.length_take] at hi
      omega
    refine ⟨rfl, _, rfl, (by show 2 ≤ sizeLine; decide), fun t ht => ?_⟩
    have hDt := ne_of_none hD2 ht
    have hmD : m ≠ D := ne_of_none hm1 hD
    have hD3 : (upd H2 t (.tup [.str "source", .str (ws.take k.toNat)[i]])) D = some (.lst us) := by rw [upd_ne hDt]; exact hD2
    refine ⟨us, hD3, by rw [hul]; exact small1000 (by omega), (B2.upd_new ht _).wr nD _, (k2.new ht _).wr hD0 _, ?_, us ++ [.ref t], ps ++ [.flat "source" (ws.take k.toNat)[i] []], ?_, by rw [List.length_append, hl]; rfl, fun p hp => ?_, upd_same⟩
    · rw [upd_ne hmD, upd_ne (ne_of_none hm2 ht)]
      exact hm2
    · refine (hA.mono fun _ _ z => (z.tups (Same.tups (same_upd ht _))).wr hD3).snoc ⟨t, rfl, ?_⟩
      rw [upd_ne (fun e => hDt e.symm)]
      exact upd_same
    · rcases List.mem_append.mp hp with h | h
      · exact hs p h
      · rw [List.mem_singleton.mp h]
        exact ⟨⟨smW _ hz, ⟨hz, .inl ⟨rfl, rfl⟩⟩⟩, hz⟩
  -- the others
  rw [List.length_map, List.length_take] at hl
  have ha2 := ha.kp k2
  refine ⟨.int k, rfl, .ref a, rfl, a, _, rfl, .inl (SqL.of ha2.at_), k, _, rfl, ⟨by omega, by omega, by omega, by rw [List.length_map]; omega⟩, ?_⟩
  rw [List.length_map]
  refine for_range (lo := k) (n := ((ws.length : Int) - k).toNat) (fun i σ H3 => ∃ v5, σ = [some (.ref b), some (.ref a), some (.int k), some (.ref x), some (.ref D), v5, none] ∧ Bag H3 b c ∧ Kp b H H3 ∧ ∃ us ps, All2 (PtAt H3) us ps ∧ ps.length = min k.toNat ws.length + i ∧ (∀ p ∈ ps, (SmP p ∧ OkP p) ∧ IsNm (Pw p)) ∧ H3 D = some (.lst us))
    ⟨none, rfl, B2, k2, us, ps, hA, hl, hs, hD2⟩ ?_ ?_
  · rintro i σ H3 hi ⟨v5, rfl, B3, k3, us, ps, hA, hl, hs, hD3⟩
    have hki : (k + (i : Int)).toNat < ws.length := by omega
    have hat : atI (ws.map V.str) (k + (i : Int)) = some (.str ws[(k + (i : Int)).toNat]) := by
      have e : atI (ws.map V.str) (((k + (i : Int)).toNat : Nat) : Int) = some (.str ws[(k + (i : Int)).toNat]) := atI_nat (by rw [List.getElem?_map, List.getElem?_eq_getElem hki] <;> rfl)
      rw [Int.toNat_of_nonneg (by omega)] at e
      exact e
    have ha3 := ha.kp k3
    have hz : IsNm ws[(k + (i : Int)).toNat] := ha.nm _ (List.getElem_mem hki)
    refine ⟨.ref D, rfl, .inl ⟨rfl, _, SqL.of hD3⟩, _, rfl, _, rfl, _, rfl, a, _, _, _, rfl, rfl, SqL.of ha3.at_, hat, ?_⟩
    refine ⟨.ref a, rfl, .int (k + (i : Int)), rfl, _, rfl, a, _, rfl, SqL.of ha3.at_, fun m4 hm4 => ?_⟩
    rw [cut_to (by omega)]
    have k4 := k3.new hm4 (.lst ((ws.take (k + (i : Int)).toNat).map V.str))
    have B4 := B3.upd_new hm4 (.lst ((ws.take (k + (i : Int)).toNat).map V.str))
    refine ⟨_, rfl, _, rfl, b, c, m4, a, x, _, ws.take (k + (i : Int)).toNat, ws, bs, fs, rfl, B4, hz, (ha.kp k4).take _ (B3.fresh hm4) upd_same, ha.kp k4, by omega, hb.kp B k4, fun y p H5 hyp hsp hop hpw B5 k5 => ?_⟩
    have k35 : Kp b H3 H5 := ((Kp.refl b H3).new hm4 _).trans k5
    have hD5 : H5 D = some (.lst us) := k35 _ _ hD3 nD.1.symm
    have hul : us.length ≤ 1000 := by rw [hA.1, hl]; omega
    refine ⟨D, us, y, rfl, rfl, hD5, small1000 hul, ?_⟩
    refine ⟨_, rfl, B5.wr nD _, (k3.trans k35).wr hD0 _, us ++ [y], ps ++ [p], (hA.mono fun _ _ z => (z.tups (k35.tups B3)).wr hD5).snoc (hyp.wr hD5), by rw [List.length_append, hl]; rfl, fun p' hp' => ?_, upd_same⟩
    rcases List.mem_append.mp hp' with h | h
    · exact hs p' h
    · rw [List.mem_singleton.mp h]
      exact ⟨⟨hsp, hop⟩, by rw [hpw]; exact hz⟩
  · rintro σ H3 ⟨v5, rfl, B3, k3, us, ps, hA, hl, hs, hD3⟩
    exact ⟨.ref D, rfl, q D us ps H3 nD.1.symm hD3 hA hs (by omega) B3 k3⟩
abbrev sLaw : Stmt := top 36
theorem at0 (x : V) (l : List V) : atI (x :: l) 0 = some x := atI_nat (j := 0) rfl
theorem at1 (x y : V) (l : List V) : atI (x :: y :: l) 1 = some y := atI_nat (j := 1) rfl
theorem PtAt.wire {H : Hp} {v : V} : ∀ {p : Pt}, PtAt H v p → ∃ a xs, v = .ref a ∧ H a = some (.tup xs) ∧ atI xs 1 = some (.str (Pw p))
  | .flat _ _ _, ⟨a, e, h⟩ => ⟨a, _, e, h, at1 _ _ _⟩
  | .mix _ _, ⟨a, _, _, e, h, _⟩ => ⟨a, _, e, h, at1 _ _ _⟩
  | .use _ _ _, ⟨a, _, e, h, _⟩ => ⟨a, _, e, h, at1 _ _ _⟩
theorem strs_of : ∀ {ys : List V} {R : Str → Prop}, (∀ y ∈ ys, ∃ z, y = .str z ∧ R z) → ∃ ws : List Str, ys = ws.map V.str ∧ ∀ z ∈ ws, R z
  | [], _, _ => ⟨[], rfl, fun z hz => nomatch hz⟩
  | y :: r, R, h => by
    obtain ⟨z, e, rz⟩ := h y (List.mem_cons_self ..)
    obtain ⟨ws, e2, h2⟩ := strs_of (ys := r) (R := R) fun y hy => h y (List.mem_cons_of_mem _ hy)
    refine ⟨z :: ws, by rw [e, e2]; rfl, fun x hx => ?_⟩
    rcases List.mem_cons.mp hx with q | q
    · rw [q]; exact rz
    · exact h2 x q

/-! equal nets -/
theorem Eqv.tupL {H : Hp} {a b : Addr} {xs : List V} (n : Nat) (hl : xs.length ≤ 100000) (h : ∀ x ∈ xs, Leaf x) (ha : H a = some (.tup xs)) (hb : H b = some (.tup xs)) : Eqv H (n + 1) (.ref a) (.ref b) :=
  .inr ⟨a, b, _, _, rfl, rfl, rfl, hl, .inr ⟨ha, hb⟩, fun i u v hu hv => by
    rw [hu] at hv
    cases Option.some.inj hv
    exact .leaf (h u (List.mem_of_getElem? hu)) n⟩
theorem eqv_all {α : Type} {H : Hp} {R : V → α → Prop} {a b : Addr} {us vs : List V} {ts : List α} {n : Nat} (h1 : All2 R us ts) (h2 : All2 R vs ts) (hl : ts.length ≤ 100000) (ha : H a = some (.tup us)) (hb : H b = some (.tup vs))
    (e : ∀ x y t, t ∈ ts → R x t → R y t → Eqv H n x y) : Eqv H (n + 1) (.ref a) (.ref b) :=
  .inr ⟨a, b, us, vs, rfl, rfl, by rw [h1.1, h2.1], by rw [h1.1]; exact hl, .inr ⟨ha, hb⟩, fun i u v hu hv => by
    obtain ⟨t, ht, r⟩ := h1.get hu
    exact e u v t (List.mem_of_getElem? ht) r (h2.2 i v t hv ht)⟩
theorem leaf_strs {l : List Str} : ∀ x ∈ l.map V.str, Leaf x := fun x hx => by
  obtain ⟨z, _, rfl⟩ := List.mem_map.mp hx
  exact trivial
theorem eqv_tm {H : Hp} {x y : V} {t : Tm} (n : Nat) (h1 : TmAt H x t) (h2 : TmAt H y t) : Eqv H (n + 1) x y := by
  obtain ⟨a, rfl, ha⟩ := h1
  obtain ⟨b, rfl, hb⟩ := h2
  refine .tupL n (by show 3 ≤ 100000; decide) (fun x hx => ?_) ha hb
  rcases List.mem_cons.mp hx with e | hx
  · rw [e]; exact trivial
  rcases List.mem_cons.mp hx with e | hx
  · rw [e]; exact trivial
  rw [List.mem_singleton.mp hx]
  exact trivial
theorem eqv_pt {H : Hp} {x y : V} (n : Nat) : ∀ {p : Pt}, SmP p → PtAt H x p → PtAt H y p → Eqv H (n + 3) x y
  | .flat k w es, ⟨_, _, _, _, hl, _⟩, ⟨a, e1, ha⟩, ⟨b, e2, hb⟩ => by
    subst e1
    subst e2
    exact .tupL (n + 2) (by show (es.map V.str).length + 1 + 1 ≤ 100000; rw [List.length_map]; omega) (leaf_strs (l := k :: w :: es)) ha hb
  | .mix w ts, ⟨_, hl, _⟩, ⟨a, a2, us, e1, ha, ha2, hA⟩, ⟨b, b2, vs, e2, hb, hb2, hB⟩ => by
    subst e1
    subst e2
    refine .inr ⟨a, b, [.str "mix", .str w, .ref a2], [.str "mix", .str w, .ref b2], rfl, rfl, rfl, (by show 3 ≤ 100000; decide), .inr ⟨ha, hb⟩, fun i u v hu hv => ?_⟩
    match i with
    | 0 => cases Option.some.inj hu; cases Option.some.inj hv; exact .leaf (show Leaf (V.str _) from trivial) _
    | 1 => cases Option.some.inj hu; cases Option.some.inj hv; exact .leaf (show Leaf (V.str _) from trivial) _
    | 2 => 
      cases Option.some.inj hu
      cases Option.some.inj hv
      exact eqv_all (n := n + 1) hA hB (by omega) ha2 hb2 fun x y t _ r1 r2 => eqv_tm n r1 r2
    | i + 3 => cases hu
  | .use w p es, ⟨_, _, hl, _⟩, ⟨a, a2, e1, ha, ha2⟩, ⟨b, b2, e2, hb, hb2⟩ => by
    subst e1
    subst e2
    refine .inr ⟨a, b, [.str "use", .str w, .str p, .ref a2], [.str "use", .str w, .str p, .ref b2], rfl, rfl, rfl, (by show 4 ≤ 100000; decide), .inr ⟨ha, hb⟩, fun i u v hu hv => ?_⟩
    match i with
    | 0 => cases Option.some.inj hu; cases Option.some.inj hv; exact .leaf (show Leaf (V.str _) from trivial) _
    | 1 => cases Option.some.inj hu; cases Option.some.inj hv; exact .leaf (show Leaf (V.str _) from trivial) _
    | 2 => cases Option.some.inj hu; cases Option.some.inj hv; exact .leaf (show Leaf (V.str _) from trivial) _
    | 3 => 
      cases Option.some.inj hu
      cases Option.some.inj hv
      exact .tupL (n + 1) (by rw [List.length_map]; omega) leaf_strs ha2 hb2
    | i + 4 => cases hu
theorem eqv_net {H : Hp} {x y x1 x2 y1 y2 : Addr} {us vs : List V} {ps : List Pt} {os : List Str} (hs : ∀ p ∈ ps, SmP p) (hl : ps.length ≤ 1000) (lo : os.length ≤ 1000) (hx : H x = some (.tup [.ref x1, .ref x2])) (hx1 : H x1 = some (.tup us)) (hA : All2 (PtAt H) us ps) (hx2 : H x2 = some (.tup (os.map V.str)))
    (hy : H y = some (.tup [.ref y1, .ref y2])) (hy1 : H y1 = some (.tup vs)) (hB : All2 (PtAt H) vs ps) (hy2 : H y2 = some (.tup (os.map V.str))) : Eqv H 5 (.ref x) (.ref y) := by
  refine .inr ⟨x, y, [.ref x1, .ref x2], [.ref y1, .ref y2], rfl, rfl, rfl, (by show 2 ≤ 100000; decide), .inr ⟨hx, hy⟩, fun i u v hu hv => ?_⟩
  match i with
  | 0 =>
    cases Option.some.inj hu
    cases Option.some.inj hv
    exact eqv_all (n := 3) hA hB (by omega) hx1 hy1 fun x y t ht r1 r2 => eqv_pt 0 (hs t ht) r1 r2
  | 1 =>
    cases Option.some.inj hu
    cases Option.some.inj hv
    exact .tupL 3 (by rw [List.length_map]; omega) leaf_strs hx2 hy2
  | i + 2 => cases hu
theorem cut_strs (ws : List Str) (lo hi : Option Int) : ∃ ms : List Str, cutV (ws.map V.str) lo hi = ms.map V.str ∧ ms.length ≤ ws.length ∧ ∀ z ∈ ms, z ∈ ws := by
  refine ⟨(ws.drop (HT.sIx ws.length 0 lo)).take (HT.sIx ws.length ws.length hi - HT.sIx ws.length 0 lo), ?_, ?_, fun z hz => List.mem_of_mem_drop (List.mem_of_mem_take hz)⟩
  · unfold cutV
    rw [List.length_map, List.map_take, List.map_drop]
  · rw [List.length_take, List.length_drop]
    omega
abbrev lawN : List Str := ["_law_script", "_law_bag_here", "_law_turn", "_law_words", "_law_parts_here", "_law_outs", "_law_text_z", "_law_found", "_law_part_here", "_law_k"]
theorem scLaw : FnScope lawN ["_law_script"] (defScope sLaw) := ⟨rfl, rfl, rfl, by decide +kernel, rfl, by decide +kernel, by decide +kernel⟩
theorem ok_law {f fb fp fa fs fn fm fx fq fu fr ft : Addr} {fd db dp da ds dn dm dx dq du dr dt : FuncData} (F : Fun K "law" "law" sLaw f fd)
    (GB : Df P w K mg base 1 fb db "_law_bag" ["_law_script"] (spBag K)) (GP : Df P w K mg base 1 fp dp "_law_pull" ["_law_bag_here", "_law_many"] spPull) (GA : Df P w K mg base 2 fa da "_law_any" ["_law_bag_here", "_law_things"] (spAny K))
    (GS : Df P w K mg base 6 fs ds "_law_same" ["_law_found", "_law_due"] (spSame 6)) (GN : Df P w K mg base 3 fn dn "_law_names" ["_law_bag_here", "_law_many"] spNames) (GM : Df P w K mg base 2 fm dm "_law_mixed" ["_law_bag_here", "_law_things"] (spMixed K))
    (GX : Df P w K mg base 3 fx dx "_law_boxes" ["_law_bag_here", "_law_words"] spBoxes) (GQ : Df P w K mg base 5 fq dq "_law_parts" partsP spParts) (GU : Df P w K mg base 3 fu du "_law_use" ["_law_bag_here", "_law_wire", "_law_words"] spUse)
    (GL : Df P w K mg base 3 ft dt "text_of" ["parts", "outs"] (spTextL K)) (GT : Df P w K mg base 3 ft dt "text_of" ["parts", "outs"] (spTextT K)) (GR : Df P w K mg base 7 fr dr "read_net" ["text"] spReadNet)
    (kR : KBn K dr ["text"] 0 ["text"] (fun us ws => us ++ ws) (fun vs zs => vs ++ zs)) (mtuple : mg "tuple" = none) (mrange : mg "range" = none) : FnOk P w K mg base CX0 8 f fd ["_law_script"] (spLaw K) := by
  refine F.ok scLaw (fun vs H Q E h => ?_) (fun cdv A outer s H vs Q E hr h => ?_)
  · obtain ⟨a, ns, rfl, _⟩ := h
    rfl
  obtain ⟨a, ns, rfl, hS, h63, q⟩ := h
  have hr1 : Room 1 _ := hr.mono (by decide)
  have hr2 : Room 2 _ := hr.mono (by decide)
  have hr3 : Room 3 _ := hr.mono (by decide)
  have hr5 : Room 5 _ := hr.mono (by decide)
  have hr6 : Room 6 _ := hr.mono (by decide)
  refine ⟨_, pss_cons (ps_set (i := 1) scLaw.nd rfl (Or.inr rfl) (pe_call GB.ok hr1 (by rfl) GB.m GB.kp GB.b .nil pass0 (pa_cons (pv 0) pa_nil)))
    (pss_cons (ps_for PassesOwn.never rfl (pi_range1 (by rfl) mrange (pa_cons pe_int pa_nil)) (pg_name (i := 2) scLaw.nd rfl (Or.inl rfl))
      (pss_cons (ps_set (i := 3) scLaw.nd rfl (Or.inr rfl) (pe_call GM.ok hr2 (by rfl) GM.m GM.kp GM.b .nil pass0 (pa_cons (pv 1) (pa_cons (pe_op op_cat (pe_call GN.ok hr3 (by rfl) GN.m GN.kp GN.b .nil pass0 (pa_cons (pv 1) (pa_cons pe_int pa_nil))) (pe_lst (pa_cons pe_str (pa_cons pe_str (pa_cons pe_str pa_nil))))) pa_nil))))
      (pss_cons (ps_set (i := 4) scLaw.nd rfl (Or.inl rfl) (pe_call GQ.ok hr5 (by rfl) GQ.m GQ.kp GQ.b .nil pass0 (pa_cons (pv 1) (pa_cons (pe_slice sl_list (pv 3) po_none (po_some (pe_call GP.ok hr1 (by rfl) GP.m GP.kp GP.b .nil pass0 (pa_cons (pv 1) (pa_cons pe_int pa_nil)))))
          (pa_cons (pe_call GP.ok hr1 (by rfl) GP.m GP.kp GP.b .nil pass0 (pa_cons (pv 1) (pa_cons pe_int pa_nil))) (pa_cons (pe_call GX.ok hr3 (by rfl) GX.m GX.kp GX.b .nil pass0 (pa_cons (pv 1) (pa_cons (pe_slice sl_list (pv 3) (po_some pe_int) (po_some pe_int)) pa_nil))) pa_nil))))))
      (pss_cons (ps_setLc (i := 4) (own := [("_law_part_here", 8)]) (g := gName 8) rfl scLaw.nd rfl rfl (sw_true rfl rfl rfl (by decide +kernel)) (pi_list (pv 4)) (blkOk_by (own := [("_law_part_here", 8)]) (N := lawN) (sc := defScope sLaw) (by decide +kernel))
          (fun _ _ _ _ _ => pg_name (i := 8) scLaw.nd rfl (Or.inl rfl) (Or.inr rfl)) (fun _ _ _ _ _ => pts_nil)
          (fun _ _ _ _ _ => pe_ifExp (pt_cmpR op_eq (pe_call GP.ok hr1 (by rfl) GP.m GP.kp GP.b .nil pass0 (pa_cons (pv 1) (pa_cons pe_int pa_nil))) pe_int (nomark _)) (pe_call GU.ok hr3 (by rfl) GU.m GU.kp GU.b .nil pass0 (pa_cons (pv 1) (pa_cons (pe_ix (r := rIxT K) ix_tup (pv 8) pe_int (fun _ _ => rfl)) (pa_cons (pv 3) pa_nil)))) (pv 8)))
      (pss_cons (ps_set (i := 5) scLaw.nd rfl (Or.inl rfl) (pe_callTy call_tuple_of (by rfl) mtuple (by decide +kernel) (pa_cons (pe_lc (own := [("_law_k", 9)]) (g := gName 9) rfl scLaw.nd (pi_range1 (by rfl) mrange (pa_cons (pe_op op_add pe_int (pe_call GP.ok hr1 (by rfl) GP.m GP.kp GP.b .nil pass0 (pa_cons (pv 1) (pa_cons pe_int pa_nil)))) pa_nil))
          (blkOk_by (own := [("_law_k", 9)]) (N := lawN) (sc := defScope sLaw) (by decide +kernel)) (fun _ _ _ _ _ => pg_name (i := 9) scLaw.nd rfl (Or.inl rfl) (Or.inr rfl)) (fun _ _ _ _ _ => pts_nil)
          (fun _ _ _ _ _ => pe_call GA.ok hr2 (by rfl) GA.m GA.kp GA.b .nil pass0 (pa_cons (pv 1) (pa_cons (pv 3) pa_nil)))) pa_nil)))
      (pss_cons (ps_set (i := 6) scLaw.nd rfl (Or.inl rfl) (pe_call GL.ok hr3 (by rfl) GL.m GL.kp GL.b .nil pass0 (pa_cons (pv 4) (pa_cons (pv 5) pa_nil))))
      (pss_cons (ps_set (i := 7) scLaw.nd rfl (Or.inl rfl) (pe_call GR.ok hr (by rfl) GR.m GR.kp GR.b .nil pass0 (pa_cons (pv 6) pa_nil)))
      (pss_cons (ps_if (PW.pt (pw_or (pt_not (pt_val (pe_call GS.ok hr6 (by rfl) GS.m GS.kp GS.b .nil pass0 (pa_cons (pv 7) (pa_cons (pe_tup (pa_cons (pe_callTy call_tuple_of (by rfl) mtuple (by decide +kernel) (pa_cons (pv 4) pa_nil)) (pa_cons (pv 5) pa_nil))) pa_nil)))))
          (pw_or1 (pt_not (pt_val (pe_call GS.ok hr6 (by rfl) GS.m GS.kp GS.b .nil pass0 (pa_cons (pe_callN0 GR.ok hr (by rfl) GR.m GR.kp kR pass0 (pk_cons (pv 6) pk_nil)) (pa_cons (pv 7) pa_nil)))))))) (pss_one (ps_ret pe_bl)) pss_nil)
      (pss_one (ps_if (pt_not (pt_val (pe_call GS.ok hr6 (by rfl) GS.m GS.kp GS.b .nil pass0 (pa_cons (pe_call GT.ok hr3 (by rfl) GT.m GT.kp GT.b .nil pass0 (pa_cons (pe_ix ix_tup (pv 7) pe_int (fun _ _ => rfl)) (pa_cons (pe_ix ix_tup (pv 7) pe_int (fun _ _ => rfl)) pa_nil))) (pa_cons (pv 6) pa_nil))))) (pss_one (ps_ret pe_bl)) pss_nil))))))))))
    (pss_one (ps_ret pe_bl))), ?_⟩
  refine ⟨_, rfl, a, ns, rfl, hS, h63, fun b c H1 s1 hb hc B1 => ?_⟩
  refine ⟨4, rfl, by decide, by decide, for_range (lo := 0) (n := 4) (fun i σ H2 => ∃ v2 v3 v4 v5 v6 v7, σ = [some (.ref a), some (.ref b), v2, v3, v4, v5, v6, v7, none, none] ∧ Bag H2 b c)
    ⟨none, none, none, none, none, none, rfl, B1⟩ ?_ ?_⟩
  · rintro i σ H2 hi ⟨v2, v3, v4, v5, v6, v7, rfl, B2⟩
    -- words
    refine ⟨.ref b, rfl, .ref b, rfl, b, c, 9, rfl, B2, by decide, by decide, fun l0 ws0 H3 hl0 hws0 B3 k3 hln hlH => ?_⟩
    refine ⟨(by show 3 ≤ sizeLine; decide), fun m0 hm0 => ?_⟩
    have nl0 : l0 ≠ m0 := ne_of_none hlH hm0
    refine ⟨l0, m0, _, _, rfl, rfl, by rw [upd_ne nl0]; exact hlH, upd_same, ?_, fun m1 hm1 => ?_⟩
    · rw [List.length_map]
      show ws0.length + 3 ≤ _
      exact Nat.le_trans (show ws0.length + 3 ≤ 1000 by omega) (by decide)
    have B31 := B3.upd_new hm0 (.lst [.str "late", .str "mix", .str "use"])
    have B32 := B31.upd_new hm1 (.lst (ws0.map V.str ++ [.str "late", .str "mix", .str "use"]))
    have hwsx : ∀ z ∈ ws0 ++ [("late" : Str), "mix", "use"], IsNm z := fun z hz => by
      rcases List.mem_append.mp hz with h | h
      · exact hws0 z h
      rcases List.mem_cons.mp h with e | h
      · rw [e]; exact ⟨by decide +kernel, by decide +kernel, by decide +kernel⟩
      rcases List.mem_cons.mp h with e | h
      · rw [e]; exact ⟨by decide +kernel, by decide +kernel, by decide +kernel⟩
      · rw [List.mem_singleton.mp h]; exact ⟨by decide +kernel, by decide +kernel, by decide +kernel⟩
    have ewx : ws0.map V.str ++ [.str "late", .str "mix", .str "use"] = (ws0 ++ [("late" : Str), "mix", "use"]).map V.str := strs_app ws0 [("late" : Str), "mix", "use"]
    refine ⟨b, c, m1, _, rfl, B32, B31.fresh hm1, SqL.of upd_same, by rw [ewx, List.length_map, List.length_append]; show ws0.length + 3 ≤ 1000; omega, fun lw ys H4 hperm B4 k4 _ nlw hlw => ?_⟩
    obtain ⟨ws, rfl, hws⟩ := strs_of (ys := ys) (R := IsNm) fun y hy => by
      have h := hperm.mem_iff.mp hy
      rw [ewx] at h
      obtain ⟨z, hz, e⟩ := List.mem_map.mp h
      exact ⟨z, e.symm, hwsx z hz⟩
    have wl : ws.length = 12 := by
      have e := hperm.length_eq
      rw [ewx, List.length_map, List.length_map, List.length_append] at e
      have e2 : ([("late" : Str), "mix", "use"] : List Str).length = 3 := rfl
      omega
    have W : NmL H4 b lw ws := ⟨nlw, hlw, hws, by omega⟩
    have w0 : 0 < ws.length := by omega
    -- parts
    refine ⟨.ref b, rfl, .ref lw, rfl, ?_⟩
    refine ⟨.ref b, rfl, b, c, 11, rfl, B4, by decide, by decide, fun k5 H5 d0 d1 B5 kp5 => ?_⟩
    have W5 := W.kp kp5
    refine ⟨k5, rfl, lw, _, rfl, SqL.of W5.at_, fun m6 hm6 => ?_⟩
    rw [cut_to d0]
    have kp6 := kp5.new hm6 (.lst ((ws.take k5.toNat).map V.str))
    have B6 := B5.upd_new hm6 (.lst ((ws.take k5.toNat).map V.str))
    have W6 : NmL _ b m6 (ws.take k5.toNat) := (W.kp kp6).take k5.toNat (B5.fresh hm6) upd_same
    refine ⟨.ref b, rfl, b, c, 3, rfl, B6, by decide, by decide, fun k7 H7 e0 e1 B7 kp7 => ?_⟩
    have W7 := (W.kp kp6).kp kp7
    obtain ⟨ms, ems, lms, ims⟩ := cut_strs ws (some 2) (some 5)
    refine ⟨.ref b, rfl, .ref lw, rfl, 2, rfl, 5, rfl, lw, _, rfl, SqL.of W7.at_, fun m8 hm8 => ?_⟩
    rw [ems]
    have kp8 := kp7.new hm8 (.lst (ms.map V.str))
    have B8 := B7.upd_new hm8 (.lst (ms.map V.str))
    have W8 : NmL (upd H7 m8 (.lst (ms.map V.str))) b m8 ms := ⟨B7.fresh hm8, upd_same, fun z hz => hws z (ims z hz), by omega⟩
    refine ⟨b, c, m8, _, rfl, B8, W8, fun x9 bs fs H9 hx9 _ B9 kp9 _ => ?_⟩
    have kp69 := kp8.trans kp9
    refine ⟨b, c, m6, x9, k7, ws.take k5.toNat, bs, fs, rfl, B9, W6.kp kp69, by omega, by omega, hx9, fun D us ps H10 nD hD hA hs hpl B10 kp10 => ?_⟩
    have W10 := ((W.kp kp6).kp kp69).kp kp10
    have pl : ps.length ≤ 10 := by
      rw [hpl, List.length_take]
      omega
    -- some become uses
    refine ⟨.ref D, rfl, D, rfl, ⟨_, SqL.of hD⟩, fun D2 hD2 => ?_⟩
    have nD2 := B10.ne_new hD2
    refine lc_list (K := K) (a := D) (xs := us) (fun j H11 => Bag H11 b c ∧ Kp b H10 H11 ∧ ∃ us2 ps2, All2 (PtAt H11) us2 ps2 ∧ ps2.length = j ∧ (∀ p ∈ ps2, SmP p ∧ OkP p) ∧ H11 D2 = some (.lst us2))
      ⟨B10.upd_new hD2 _, (Kp.refl b H10).wr hD2 _, [], [], .nil, rfl, (fun p hp => nomatch hp), upd_same⟩ (fun j H11 _ ⟨_, k11, _⟩ => SqL.of (k11 _ _ hD nD)) (fun j y H11 hy ⟨B11, k11, us2, ps2, hA2, hl2, hs2, hD22⟩ => ?_) (fun H11 ⟨B11, k11, us2, ps2, hA2, hl2, hs2, hD22⟩ => ?_)
    · obtain ⟨p, hp, hyp⟩ := hA.get hy
      have hj : j < ps.length := (List.getElem?_eq_some_iff.mp hp).1
      obtain ⟨sp1, sp2⟩ := hs p (List.mem_of_getElem? hp)
      have hul : us2.length = j := by rw [hA2.1, hl2]
      refine ⟨rfl, .ref b, rfl, b, c, 5, rfl, B11, by decide, by decide, fun d H12 _ _ B12 k12 => ?_⟩
      refine ⟨rfl, _, rfl, ?_⟩
      have step : ∀ (z : V) (pz : Pt) (H13 : Hp), PtAt H13 z pz → SmP pz ∧ OkP pz → Bag H13 b c → Kp b H12 H13 → ∃ acc, H13 D2 = some (.lst acc) ∧ acc.length < sizeLine ∧ (Bag (upd H13 D2 (.lst (acc ++ [z]))) b c ∧ Kp b H10 (upd H13 D2 (.lst (acc ++ [z]))) ∧
          ∃ us2 ps2, All2 (PtAt (upd H13 D2 (.lst (acc ++ [z])))) us2 ps2 ∧ ps2.length = j + 1 ∧ (∀ p ∈ ps2, SmP p ∧ OkP p) ∧ upd H13 D2 (.lst (acc ++ [z])) D2 = some (.lst us2)) := fun z pz H13 hz hsz B13 k13 => by
        have k113 := k12.trans k13
        have hD23 := k113 _ _ hD22 nD2.1.symm
        refine ⟨us2, hD23, by rw [hul]; exact small1000 (by omega), B13.wr nD2 _, (k11.trans k113).wr hD2 _, us2 ++ [z], ps2 ++ [pz], (hA2.mono fun _ _ q => (q.tups (k113.tups B11)).wr hD23).snoc (hz.wr hD23), by rw [List.length_append, hl2]; rfl, fun p' hp' => ?_, upd_same⟩
        rcases List.mem_append.mp hp' with h | h
        · exact hs2 p' h
        · rw [List.mem_singleton.mp h]
          exact hsz
      refine ite2 (fun _ => ?_) (fun _ => ?_)
      · obtain ⟨ap, xp, rfl, hxp, hat⟩ := (hyp.tups ((k11.trans k12).tups B10)).wire
        refine ⟨.ref b, rfl, .ref ap, rfl, ap, xp, 1, _, rfl, rfl, SqT.of hxp, hat, ?_⟩
        refine ⟨.ref lw, rfl, b, c, lw, Pw p, ws, rfl, B12, sp2, (W10.kp k11).kp k12, w0, fun z pz H13 hz hsz hoz B13 k13 => ?_⟩
        exact step z pz H13 hz ⟨hsz, hoz⟩ B13 k13
      · exact ⟨y, rfl, step y p H12 (hyp.tups ((k11.trans k12).tups B10)) sp1 B12 (Kp.refl b H12)⟩
    -- outs
    have pl2 : ps2.length ≤ 10 := by
      rw [hl2, hA.1]
      exact pl
    refine ⟨.ref b, rfl, b, c, 4, rfl, B11, by decide, by decide, fun k12 H12 g0 g1 B12 kp12 => ?_⟩
    refine ⟨1, k12, rfl, rfl, 1 + k12, rfl, by omega, by omega, fun O hO => ?_⟩
    have nO := B12.ne_new hO
    have hA12 : All2 (PtAt H12) us2 ps2 := hA2.mono fun _ _ q => q.tups (kp12.tups B11)
    have hD212 := kp12 _ _ hD22 nD2.1.symm
    refine lc_range (lo := 0) (n := (1 + k12).toNat) (fun j H13 => Bag H13 b c ∧ Kp b H12 H13 ∧ ∃ os : List Str, os.length = j ∧ (∀ z ∈ os, IsNm z) ∧ H13 O = some (.lst (os.map V.str)))
      ⟨B12.upd_new hO _, (Kp.refl b H12).wr hO _, [], rfl, (fun z hz => nomatch hz), upd_same⟩ (fun j H13 hj ⟨B13, k13, os, hl, hn, hO3⟩ => ?_) (fun H13 ⟨B13, k13, os, hl, hn, hO3⟩ => ?_)
    · refine ⟨rfl, .ref b, rfl, .ref lw, rfl, any_nm B13 (((W10.kp k11).kp kp12).kp k13) w0 fun z H14 nz B14 k14 => ?_⟩
      refine ⟨_, k14 _ _ hO3 nO.1.symm, by rw [List.length_map, hl]; exact small1000 (by omega), B14.wr nO _, (k13.trans k14).wr hO _, os ++ [z], by rw [List.length_append, hl]; rfl, fun y hy => ?_, by rw [upd_same, List.map_append]; rfl⟩
      rcases List.mem_append.mp hy with h | h
      · exact hn y h
      · rw [List.mem_singleton.mp h]
        exact nz
    have hD13 : H13 D2 = some (.lst us2) := k13 _ _ hD212 nD2.1.symm
    have hA13 : All2 (PtAt H13) us2 ps2 := hA12.mono fun _ _ q => q.tups (k13.tups B12)
    have lo : Lo os 20 := ⟨by omega, fun z hz => by have := (hn z hz).l4; omega⟩
    have hsm2 : ∀ p ∈ ps2, SmP p := fun p hp => (hs2 p hp).1
    refine ⟨O, _, rfl, .inl ⟨SqL.of hO3, fun T hT => ?_⟩⟩
    have s14 := same_upd hT (.tup (os.map V.str))
    have hT14 : (upd H13 T (.tup (os.map V.str))) T = some (.tup (os.map V.str)) := upd_same
    -- text_z
    refine ⟨.ref D2, rfl, .ref T, rfl, D2, T, us2, ps2, os, rfl, SqL.of (s14 _ _ hD13), hA13.mono fun _ _ q => q.tups (Same.tups s14), by omega, hsm2, .inl (SqT.of hT14), lo, fun H15 s15' => ?_⟩
    have s15 := s14.trans s15'
    -- found
    refine ⟨_, rfl, ps2, os, rfl, by omega, hs2, by omega, by omega, hn, fun x t1 t2 us3 H16 s16' hx ht1 hA3 ht2 => ?_⟩
    have s16 := s15.trans s16'
    -- same(found, (tuple(parts), outs))
    refine ⟨_, rfl, .ref D2, rfl, D2, us2, rfl, .inl ⟨SqL.of (s16 _ _ hD13), fun m17 hm17 => ?_⟩⟩
    have r17 := same_upd hm17 (.tup us2)
    refine ⟨.ref T, rfl, (by show 2 ≤ sizeLine; decide), fun m18 hm18 => ?_⟩
    have r18 := same_upd hm18 (.tup [.ref m17, .ref T])
    have r1718 := r17.trans r18
    have s18 := s16.trans r1718
    have hx18 := r1718 _ _ hx
    have ht118 := r1718 _ _ ht1
    have ht218 := r1718 _ _ ht2
    have hA18 := hA3.mono fun _ _ q => q.tups (Same.tups r1718)
    have hT18 := (s15'.trans (s16'.trans r1718)) _ _ hT14
    refine ⟨.ref x, .ref m18, rfl, eqv_net hsm2 (by omega) (by omega) hx18 ht118 hA18 ht218 upd_same (r18 _ _ upd_same) (hA13.mono fun _ _ q => q.tups (Same.tups s18)) hT18, fun H19 s19' => ⟨_, rfl, iteF ?_⟩⟩
    -- same(read_net(text=text_z), found)
    refine ⟨_, rfl, rfl, rfl, ps2, os, rfl, by omega, hs2, by omega, by omega, hn, fun y y1 y2 us4 H20 s20' hy hy1 hA4 hy2 => ?_⟩
    have s1920 := s19'.trans s20'
    refine ⟨_, rfl, .ref y, .ref x, rfl, eqv_net hsm2 (by omega) (by omega) hy hy1 hA4 hy2 (s1920 _ _ hx18) (s1920 _ _ ht118) (hA18.mono fun _ _ q => q.tups (Same.tups s1920)) (s1920 _ _ ht218), fun H21 s21' => ⟨_, rfl, iteF ?_⟩⟩
    have s21 := s1920.trans s21'
    -- same(text_of(found[0], found[1]), text_z)
    refine ⟨.ref x, rfl, x, _, 0, .ref t1, rfl, rfl, SqT.of (s21 _ _ hx18), at0 _ _, .ref x, rfl, x, _, 1, .ref t2, rfl, rfl, SqT.of (s21 _ _ hx18), at1 _ _ _, ?_⟩
    refine ⟨t1, t2, us3, ps2, os, rfl, SqT.of (s21 _ _ ht118), hA18.mono fun _ _ q => q.tups (Same.tups s21), by omega, hsm2, .inl (SqT.of (s21 _ _ ht218)), lo, fun H22 s22 => ?_⟩
    refine ⟨_, rfl, _, _, rfl, Eqv.leaf (show Leaf (V.str (Txt.join " " (netW ps2 os))) from trivial) 5, fun H23 s23 => ⟨_, rfl, iteF ?_⟩⟩
    exact ⟨_, _, _, _, _, _, rfl, B13.same (((s18.trans s21).trans s22).trans s23)⟩
  · rintro σ H2 ⟨v2, v3, v4, v5, v6, v7, rfl, B2⟩
    exact q H2
end
/-! ### what the top has written, the head -/
theorem all_mk {l : PySem.W.OpenLaw} {w : World} {K : PySem.W.Frag} {h : Heap} {mg : Str → Option Value} {fa f1 f2 f3 f4 f5 f6 f7 f8 f9 f10 f11 f12 f13 f14 f15 f16 f17 f18 f19 f20 f21 f22 f23 : Addr} (X : K.In h) (G : h.Ns mainGlobals mg) (hfa : mg "law" = some (.ref fa))
    {od1 an1 od2 an2 od3 an3 od4 an4 od5 an5 od6 an6 od7 an7 od8 an8 od9 an9 od10 an10 od11 an11 od12 an12 od13 an13 od14 an14 od15 an15 od16 an16 od17 an17 od18 an18 od19 an19 od20 an20 od21 an21 od22 an22 od23 an23 : Option Addr} {sl1 sl2 sl3 sl4 sl5 sl6 sl7 sl8 sl9 sl10 sl11 sl12 sl13 sl14 sl15 sl16 sl17 sl18 sl19 sl20 sl21 sl22 sl23 : Array (Option Value)} {oc1 kV1 dc1 pm1 cd1 ct1 oc2 kV2 dc2 pm2 cd2 ct2 oc3 kV3 dc3 pm3 cd3 ct3 oc4 kV4 dc4 pm4 cd4 ct4 oc5 kV5 dc5 pm5 cd5 ct5 oc6 kV6 dc6 pm6 cd6 ct6 oc7 kV7 dc7 pm7 cd7 ct7 oc8 kV8 dc8 pm8 cd8 ct8 oc9 kV9 dc9 pm9 cd9 ct9 oc10 kV10 dc10 pm10 cd10 ct10 oc11 kV11 dc11 pm11 cd11 ct11 oc12 kV12 dc12 pm12 cd12 ct12 oc13 kV13 dc13 pm13 cd13 ct13 oc14 kV14 dc14 pm14 cd14 ct14 oc15 kV15 dc15 pm15 cd15 ct15 oc16 kV16 dc16 pm16 cd16 ct16 oc17 kV17 dc17 pm17 cd17 ct17 oc18 kV18 dc18 pm18 cd18 ct18 oc19 kV19 dc19 pm19 cd19 ct19 oc20 kV20 dc20 pm20 cd20 ct20 oc21 kV21 dc21 pm21 cd21 ct21 oc22 kV22 dc22 pm22 cd22 ct22 oc23 kV23 dc23 pm23 cd23 ct23 : Value} {t1 t2 t3 t4 t5 t6 t7 : Tok}
    (a1 : PySem.W.nsIn K mainGlobals "is_name" = some (some (.ref f1))) (l1 : K.lookup f1 = some ⟨oc1, od1, .func (PySem.W.fnOf "is_name" "is_name" (defArgs sIsName) (defBody sIsName) (defScope sIsName) .none kV1 dc1 pm1 an1 cd1 ct1), sl1⟩) (c1 : PySem.W.codeIn K cd1 "is_name" = true) (k1 : PySem.W.keepIn K (.ref f1) = true)
    (a2 : PySem.W.nsIn K mainGlobals "is_integer" = some (some (.ref f2))) (l2 : K.lookup f2 = some ⟨oc2, od2, .func (PySem.W.fnOf "is_integer" "is_integer" (defArgs sIsInteger) (defBody sIsInteger) (defScope sIsInteger) .none kV2 dc2 pm2 an2 cd2 ct2), sl2⟩) (c2 : PySem.W.codeIn K cd2 "is_integer" = true) (k2 : PySem.W.keepIn K (.ref f2) = true)
    (a3 : PySem.W.nsIn K mainGlobals "is_number" = some (some (.ref f3))) (l3 : K.lookup f3 = some ⟨oc3, od3, .func (PySem.W.fnOf "is_number" "is_number" (defArgs sIsNumber) (defBody sIsNumber) (defScope sIsNumber) .none kV3 dc3 pm3 an3 cd3 ct3), sl3⟩) (c3 : PySem.W.codeIn K cd3 "is_number" = true) (k3 : PySem.W.keepIn K (.ref f3) = true)
    (a4 : PySem.W.nsIn K mainGlobals "text_of" = some (some (.ref f4))) (l4 : K.lookup f4 = some ⟨oc4, od4, .func (PySem.W.fnOf "text_of" "text_of" (defArgs sText) (defBody sText) (defScope sText) .none kV4 dc4 pm4 an4 cd4 ct4), sl4⟩) (c4 : PySem.W.codeIn K cd4 "text_of" = true) (k4 : PySem.W.keepIn K (.ref f4) = true)
    (a5 : PySem.W.nsIn K mainGlobals "words_of_part" = some (some (.ref f5))) (l5 : K.lookup f5 = some ⟨oc5, od5, .func (PySem.W.fnOf "words_of_part" "words_of_part" (defArgs sPartW) (defBody sPartW) (defScope sPartW) .none kV5 dc5 pm5 an5 cd5 ct5), sl5⟩) (c5 : PySem.W.codeIn K cd5 "words_of_part" = true) (k5 : PySem.W.keepIn K (.ref f5) = true)
    (a6 : PySem.W.nsIn K mainGlobals "words_of_terms" = some (some (.ref f6))) (l6 : K.lookup f6 = some ⟨oc6, od6, .func (PySem.W.fnOf "words_of_terms" "words_of_terms" (defArgs sTermsW) (defBody sTermsW) (defScope sTermsW) .none kV6 dc6 pm6 an6 cd6 ct6), sl6⟩) (c6 : PySem.W.codeIn K cd6 "words_of_terms" = true) (k6 : PySem.W.keepIn K (.ref f6) = true)
    (a7 : PySem.W.nsIn K mainGlobals "number_of" = some (some (.ref f7))) (l7 : K.lookup f7 = some ⟨oc7, od7, .func (PySem.W.fnOf "number_of" "number_of" (defArgs sNumOf) (defBody sNumOf) (defScope sNumOf) .none kV7 dc7 pm7 an7 cd7 ct7), sl7⟩) (c7 : PySem.W.codeIn K cd7 "number_of" = true) (k7 : PySem.W.keepIn K (.ref f7) = true)
    (a8 : PySem.W.nsIn K mainGlobals "read_term" = some (some (.ref f8))) (l8 : K.lookup f8 = some ⟨oc8, od8, .func (PySem.W.fnOf "read_term" "read_term" (defArgs sReadTerm) (defBody sReadTerm) (defScope sReadTerm) .none kV8 dc8 pm8 an8 cd8 ct8), sl8⟩) (c8 : PySem.W.codeIn K cd8 "read_term" = true) (k8 : PySem.W.keepIn K (.ref f8) = true)
    (a9 : PySem.W.nsIn K mainGlobals "read_terms" = some (some (.ref f9))) (l9 : K.lookup f9 = some ⟨oc9, od9, .func (PySem.W.fnOf "read_terms" "read_terms" (defArgs sReadTerms) (defBody sReadTerms) (defScope sReadTerms) .none kV9 dc9 pm9 an9 cd9 ct9), sl9⟩) (c9 : PySem.W.codeIn K cd9 "read_terms" = true) (k9 : PySem.W.keepIn K (.ref f9) = true)
    (a10 : PySem.W.nsIn K mainGlobals "read_part" = some (some (.ref f10))) (l10 : K.lookup f10 = some ⟨oc10, od10, .func (PySem.W.fnOf "read_part" "read_part" (defArgs sReadPart) (defBody sReadPart) (defScope sReadPart) .none kV10 dc10 pm10 an10 cd10 ct10), sl10⟩) (c10 : PySem.W.codeIn K cd10 "read_part" = true) (k10 : PySem.W.keepIn K (.ref f10) = true)
    (a11 : PySem.W.nsIn K mainGlobals "read_net" = some (some (.ref f11))) (l11 : K.lookup f11 = some ⟨oc11, od11, .func (PySem.W.fnOf "read_net" "read_net" (defArgs sReadNet) (defBody sReadNet) (defScope sReadNet) .none kV11 dc11 pm11 an11 cd11 ct11), sl11⟩) (c11 : PySem.W.codeIn K cd11 "read_net" = true) (k11 : PySem.W.keepIn K (.ref f11) = true)
    (a12 : PySem.W.nsIn K mainGlobals "_law_bag" = some (some (.ref f12))) (l12 : K.lookup f12 = some ⟨oc12, od12, .func (PySem.W.fnOf "_law_bag" "_law_bag" (defArgs sBag) (defBody sBag) (defScope sBag) .none kV12 dc12 pm12 an12 cd12 ct12), sl12⟩) (c12 : PySem.W.codeIn K cd12 "_law_bag" = true) (k12 : PySem.W.keepIn K (.ref f12) = true)
    (a13 : PySem.W.nsIn K mainGlobals "_law_pull" = some (some (.ref f13))) (l13 : K.lookup f13 = some ⟨oc13, od13, .func (PySem.W.fnOf "_law_pull" "_law_pull" (defArgs sPull) (defBody sPull) (defScope sPull) .none kV13 dc13 pm13 an13 cd13 ct13), sl13⟩) (c13 : PySem.W.codeIn K cd13 "_law_pull" = true) (k13 : PySem.W.keepIn K (.ref f13) = true)
    (a14 : PySem.W.nsIn K mainGlobals "_law_any" = some (some (.ref f14))) (l14 : K.lookup f14 = some ⟨oc14, od14, .func (PySem.W.fnOf "_law_any" "_law_any" (defArgs sAny) (defBody sAny) (defScope sAny) .none kV14 dc14 pm14 an14 cd14 ct14), sl14⟩) (c14 : PySem.W.codeIn K cd14 "_law_any" = true) (k14 : PySem.W.keepIn K (.ref f14) = true)
    (a15 : PySem.W.nsIn K mainGlobals "_law_same" = some (some (.ref f15))) (l15 : K.lookup f15 = some ⟨oc15, od15, .func (PySem.W.fnOf "_law_same" "_law_same" (defArgs sSame) (defBody sSame) (defScope sSame) .none kV15 dc15 pm15 an15 cd15 ct15), sl15⟩) (c15 : PySem.W.codeIn K cd15 "_law_same" = true) (k15 : PySem.W.keepIn K (.ref f15) = true)
    (a16 : PySem.W.nsIn K mainGlobals "_law_names" = some (some (.ref f16))) (l16 : K.lookup f16 = some ⟨oc16, od16, .func (PySem.W.fnOf "_law_names" "_law_names" (defArgs sNames) (defBody sNames) (defScope sNames) .none kV16 dc16 pm16 an16 cd16 ct16), sl16⟩) (c16 : PySem.W.codeIn K cd16 "_law_names" = true) (k16 : PySem.W.keepIn K (.ref f16) = true)
    (a17 : PySem.W.nsIn K mainGlobals "_law_mixed" = some (some (.ref f17))) (l17 : K.lookup f17 = some ⟨oc17, od17, .func (PySem.W.fnOf "_law_mixed" "_law_mixed" (defArgs sMixed) (defBody sMixed) (defScope sMixed) .none kV17 dc17 pm17 an17 cd17 ct17), sl17⟩) (c17 : PySem.W.codeIn K cd17 "_law_mixed" = true) (k17 : PySem.W.keepIn K (.ref f17) = true)
    (a18 : PySem.W.nsIn K mainGlobals "_law_term" = some (some (.ref f18))) (l18 : K.lookup f18 = some ⟨oc18, od18, .func (PySem.W.fnOf "_law_term" "_law_term" (defArgs sTerm) (defBody sTerm) (defScope sTerm) .none kV18 dc18 pm18 an18 cd18 ct18), sl18⟩) (c18 : PySem.W.codeIn K cd18 "_law_term" = true) (k18 : PySem.W.keepIn K (.ref f18) = true)
    (a19 : PySem.W.nsIn K mainGlobals "_law_part" = some (some (.ref f19))) (l19 : K.lookup f19 = some ⟨oc19, od19, .func (PySem.W.fnOf "_law_part" "_law_part" (defArgs sPart) (defBody sPart) (defScope sPart) .none kV19 dc19 pm19 an19 cd19 ct19), sl19⟩) (c19 : PySem.W.codeIn K cd19 "_law_part" = true) (k19 : PySem.W.keepIn K (.ref f19) = true)
    (a20 : PySem.W.nsIn K mainGlobals "_law_parts" = some (some (.ref f20))) (l20 : K.lookup f20 = some ⟨oc20, od20, .func (PySem.W.fnOf "_law_parts" "_law_parts" (defArgs sParts) (defBody sParts) (defScope sParts) .none kV20 dc20 pm20 an20 cd20 ct20), sl20⟩) (c20 : PySem.W.codeIn K cd20 "_law_parts" = true) (k20 : PySem.W.keepIn K (.ref f20) = true)
    (a21 : PySem.W.nsIn K mainGlobals "_law_boxes" = some (some (.ref f21))) (l21 : K.lookup f21 = some ⟨oc21, od21, .func (PySem.W.fnOf "_law_boxes" "_law_boxes" (defArgs sBoxes) (defBody sBoxes) (defScope sBoxes) .none kV21 dc21 pm21 an21 cd21 ct21), sl21⟩) (c21 : PySem.W.codeIn K cd21 "_law_boxes" = true) (k21 : PySem.W.keepIn K (.ref f21) = true)
    (a22 : PySem.W.nsIn K mainGlobals "_law_use" = some (some (.ref f22))) (l22 : K.lookup f22 = some ⟨oc22, od22, .func (PySem.W.fnOf "_law_use" "_law_use" (defArgs sUse) (defBody sUse) (defScope sUse) .none kV22 dc22 pm22 an22 cd22 ct22), sl22⟩) (c22 : PySem.W.codeIn K cd22 "_law_use" = true) (k22 : PySem.W.keepIn K (.ref f22) = true)
    (a23 : PySem.W.nsIn K mainGlobals "law" = some (some (.ref f23))) (l23 : K.lookup f23 = some ⟨oc23, od23, .func (PySem.W.fnOf "law" "law" (defArgs sLaw) (defBody sLaw) (defScope sLaw) .none kV23 dc23 pm23 an23 cd23 ct23), sl23⟩) (c23 : PySem.W.codeIn K cd23 "law" = true) (k23 : PySem.W.keepIn K (.ref f23) = true)
    (e1 : PySem.W.nsIn K mainGlobals "LETTERS" = some (some (.str letters t1)))
    (e2 : PySem.W.nsIn K mainGlobals "LONGEST_NAME" = some (some (.int 4 t2)))
    (e3 : PySem.W.nsIn K mainGlobals "MOST_FACTOR" = some (some (.int 99 t3)))
    (e4 : PySem.W.nsIn K mainGlobals "MOST_DELAY" = some (some (.int 4 t4)))
    (e5 : PySem.W.nsIn K mainGlobals "MOST_TERMS" = some (some (.int 6 t5)))
    (e6 : PySem.W.nsIn K mainGlobals "MOST_ENDS" = some (some (.int 4 t6)))
    (e7 : PySem.W.nsIn K mainGlobals "MOST_OUTS" = some (some (.int 4 t7)))
    (z1 : PySem.W.nsIn K mainGlobals "isinstance" = some none)
    (z2 : PySem.W.nsIn K mainGlobals "str" = some none)
    (z3 : PySem.W.nsIn K mainGlobals "int" = some none)
    (z4 : PySem.W.nsIn K mainGlobals "bool" = some none)
    (z5 : PySem.W.nsIn K mainGlobals "len" = some none)
    (z6 : PySem.W.nsIn K mainGlobals "all" = some none)
    (z7 : PySem.W.nsIn K mainGlobals "list" = some none)
    (z8 : PySem.W.nsIn K mainGlobals "tuple" = some none)
    (z9 : PySem.W.nsIn K mainGlobals "zip" = some none)
    (z10 : PySem.W.nsIn K mainGlobals "range" = some none)
    (z11 : PySem.W.nsIn K mainGlobals "enumerate" = some none)
    (z12 : PySem.W.nsIn K mainGlobals "max" = some none)
    {C h1 h2 h3 h4 h5 h6 : Addr} {hod1 han1 hod2 han2 hod3 han3 hod4 han4 hod5 han5 hod6 han6 : Option Addr} {hsl1 hsl2 hsl3 hsl4 hsl5 hsl6 : Array (Option Value)} {hoc1 hkV1 hdc1 hpm1 hcd1 hct1 hoc2 hkV2 hdc2 hpm2 hcd2 hct2 hoc3 hkV3 hdc3 hpm3 hcd3 hct3 hoc4 hkV4 hdc4 hpm4 hcd4 hct4 hoc5 hkV5 hdc5 hpm5 hcd5 hct5 hoc6 hkV6 hdc6 hpm6 hcd6 hct6 : Value}
    (aC : PySem.W.nsIn K mainGlobals "Words" = some (some (.ref C)))
    (ha1 : PySem.W.findIn K (.ref C) "__init__" = some (some (.ref h1))) (hi1 : PySem.W.isFn K (.ref h1) = true) (hl1 : K.lookup h1 = some ⟨hoc1, hod1, .func (PySem.W.fnOf "__init__" "Words.__init__" (defArgs sWInit) (defBody sWInit) (defScope sWInit) .none hkV1 hdc1 hpm1 han1 hcd1 hct1), hsl1⟩) (hc1 : PySem.W.codeIn K hcd1 "Words.__init__" = true) (hk1 : PySem.W.keepIn K (.ref h1) = true)
    (ha2 : PySem.W.findIn K (.ref C) "ahead" = some (some (.ref h2))) (hi2 : PySem.W.isFn K (.ref h2) = true) (hl2 : K.lookup h2 = some ⟨hoc2, hod2, .func (PySem.W.fnOf "ahead" "Words.ahead" (defArgs sAhead) (defBody sAhead) (defScope sAhead) .none hkV2 hdc2 hpm2 han2 hcd2 hct2), hsl2⟩) (hc2 : PySem.W.codeIn K hcd2 "Words.ahead" = true) (hk2 : PySem.W.keepIn K (.ref h2) = true)
    (ha3 : PySem.W.findIn K (.ref C) "take" = some (some (.ref h3))) (hi3 : PySem.W.isFn K (.ref h3) = true) (hl3 : K.lookup h3 = some ⟨hoc3, hod3, .func (PySem.W.fnOf "take" "Words.take" (defArgs sTake) (defBody sTake) (defScope sTake) .none hkV3 hdc3 hpm3 han3 hcd3 hct3), hsl3⟩) (hc3 : PySem.W.codeIn K hcd3 "Words.take" = true) (hk3 : PySem.W.keepIn K (.ref h3) = true)
    (ha4 : PySem.W.findIn K (.ref C) "take_name" = some (some (.ref h4))) (hi4 : PySem.W.isFn K (.ref h4) = true) (hl4 : K.lookup h4 = some ⟨hoc4, hod4, .func (PySem.W.fnOf "take_name" "Words.take_name" (defArgs sTakeName) (defBody sTakeName) (defScope sTakeName) .none hkV4 hdc4 hpm4 han4 hcd4 hct4), hsl4⟩) (hc4 : PySem.W.codeIn K hcd4 "Words.take_name" = true) (hk4 : PySem.W.keepIn K (.ref h4) = true)
    (ha5 : PySem.W.findIn K (.ref C) "take_names" = some (some (.ref h5))) (hi5 : PySem.W.isFn K (.ref h5) = true) (hl5 : K.lookup h5 = some ⟨hoc5, hod5, .func (PySem.W.fnOf "take_names" "Words.take_names" (defArgs sTakeNames) (defBody sTakeNames) (defScope sTakeNames) .none hkV5 hdc5 hpm5 han5 hcd5 hct5), hsl5⟩) (hc5 : PySem.W.codeIn K hcd5 "Words.take_names" = true) (hk5 : PySem.W.keepIn K (.ref h5) = true)
    (ha6 : PySem.W.findIn K (.ref C) "take_number" = some (some (.ref h6))) (hi6 : PySem.W.isFn K (.ref h6) = true) (hl6 : K.lookup h6 = some ⟨hoc6, hod6, .func (PySem.W.fnOf "take_number" "Words.take_number" (defArgs sTakeNumber) (defBody sTakeNumber) (defScope sTakeNumber) .none hkV6 hdc6 hpm6 han6 hcd6 hct6), hsl6⟩) (hc6 : PySem.W.codeIn K hcd6 "Words.take_number" = true) (hk6 : PySem.W.keepIn K (.ref h6) = true)
    (cpg : PySem.W.plainGet K C Str.empty = true) (chd : PySem.W.hasDictIn K C = true) (cpo : PySem.W.plainOver K C = true) (csa : PySem.W.findIn K (.ref C) "__setattr__" = some (some (.builtin "object.__setattr__"))) (cmk : PySem.W.makesIn K C = true) (ckc : PySem.W.keepIn K (.ref C) = true)
    (cnW : PySem.W.findIn K (.ref C) "words" = some none) (cnA : PySem.W.findIn K (.ref C) "at" = some none)
    : ∃ fd : FuncData, (∀ (s : Shared) (v : Value), BindsTo s fd ⟨[v], []⟩ [("_law_script", v)]) ∧ ∀ base : Heap, K.In base → base.Ns mainGlobals mg → FnOk l.prog w K mg base CX0 8 fa fd ["_law_script"] (spLaw K) := by
  have e := hfa.symm.trans (PySem.W.mg_of X G a23)
  cases e
  have F1 := fun_mk (st := sIsName) l1 c1 k1
  have b1 := F1.binds (ps := ["value"]) fun _ _ _ _ _ _ us hl => match us, hl with | [_], _ => rfl
  have m1 := PySem.W.mg_of X G a1
  have F2 := fun_mk (st := sIsInteger) l2 c2 k2
  have b2 := F2.binds (ps := ["value"]) fun _ _ _ _ _ _ us hl => match us, hl with | [_], _ => rfl
  have m2 := PySem.W.mg_of X G a2
  have F3 := fun_mk (st := sIsNumber) l3 c3 k3
  have b3 := F3.binds (ps := ["value", "least", "most"]) fun _ _ _ _ _ _ us hl => match us, hl with | [_, _, _], _ => rfl
  have m3 := PySem.W.mg_of X G a3
  have F4 := fun_mk (st := sText) l4 c4 k4
  have b4 := F4.binds (ps := ["parts", "outs"]) fun _ _ _ _ _ _ us hl => match us, hl with | [_, _], _ => rfl
  have m4 := PySem.W.mg_of X G a4
  have F5 := fun_mk (st := sPartW) l5 c5 k5
  have b5 := F5.binds (ps := ["part"]) fun _ _ _ _ _ _ us hl => match us, hl with | [_], _ => rfl
  have m5 := PySem.W.mg_of X G a5
  have F6 := fun_mk (st := sTermsW) l6 c6 k6
  have b6 := F6.binds (ps := ["terms"]) fun _ _ _ _ _ _ us hl => match us, hl with | [_], _ => rfl
  have m6 := PySem.W.mg_of X G a6
  have F7 := fun_mk (st := sNumOf) l7 c7 k7
  have b7 := F7.binds (ps := ["word"]) fun _ _ _ _ _ _ us hl => match us, hl with | [_], _ => rfl
  have m7 := PySem.W.mg_of X G a7
  have F8 := fun_mk (st := sReadTerm) l8 c8 k8
  have b8 := F8.binds (ps := ["words"]) fun _ _ _ _ _ _ us hl => match us, hl with | [_], _ => rfl
  have m8 := PySem.W.mg_of X G a8
  have F9 := fun_mk (st := sReadTerms) l9 c9 k9
  have b9 := F9.binds (ps := ["words"]) fun _ _ _ _ _ _ us hl => match us, hl with | [_], _ => rfl
  have m9 := PySem.W.mg_of X G a9
  have F10 := fun_mk (st := sReadPart) l10 c10 k10
  have b10 := F10.binds (ps := ["words"]) fun _ _ _ _ _ _ us hl => match us, hl with | [_], _ => rfl
  have m10 := PySem.W.mg_of X G a10
  have F11 := fun_mk (st := sReadNet) l11 c11 k11
  have b11 := F11.binds (ps := ["text"]) fun _ _ _ _ _ _ us hl => match us, hl with | [_], _ => rfl
  have m11 := PySem.W.mg_of X G a11
  have F12 := fun_mk (st := sBag) l12 c12 k12
  have b12 := F12.binds (ps := ["_law_script"]) fun _ _ _ _ _ _ us hl => match us, hl with | [_], _ => rfl
  have m12 := PySem.W.mg_of X G a12
  have F13 := fun_mk (st := sPull) l13 c13 k13
  have b13 := F13.binds (ps := ["_law_bag_here", "_law_many"]) fun _ _ _ _ _ _ us hl => match us, hl with | [_, _], _ => rfl
  have m13 := PySem.W.mg_of X G a13
  have F14 := fun_mk (st := sAny) l14 c14 k14
  have b14 := F14.binds (ps := ["_law_bag_here", "_law_things"]) fun _ _ _ _ _ _ us hl => match us, hl with | [_, _], _ => rfl
  have m14 := PySem.W.mg_of X G a14
  have F15 := fun_mk (st := sSame) l15 c15 k15
  have b15 := F15.binds (ps := ["_law_found", "_law_due"]) fun _ _ _ _ _ _ us hl => match us, hl with | [_, _], _ => rfl
  have m15 := PySem.W.mg_of X G a15
  have F16 := fun_mk (st := sNames) l16 c16 k16
  have b16 := F16.binds (ps := ["_law_bag_here", "_law_many"]) fun _ _ _ _ _ _ us hl => match us, hl with | [_, _], _ => rfl
  have m16 := PySem.W.mg_of X G a16
  have F17 := fun_mk (st := sMixed) l17 c17 k17
  have b17 := F17.binds (ps := ["_law_bag_here", "_law_things"]) fun _ _ _ _ _ _ us hl => match us, hl with | [_, _], _ => rfl
  have m17 := PySem.W.mg_of X G a17
  have F18 := fun_mk (st := sTerm) l18 c18 k18
  have b18 := F18.binds (ps := ["_law_bag_here", "_law_earlier", "_law_every"]) fun _ _ _ _ _ _ us hl => match us, hl with | [_, _, _], _ => rfl
  have m18 := PySem.W.mg_of X G a18
  have F19 := fun_mk (st := sPart) l19 c19 k19
  have b19 := F19.binds (ps := ["_law_bag_here", "_law_wire", "_law_earlier", "_law_every", "_law_boxes_here"]) fun _ _ _ _ _ _ us hl => match us, hl with | [_, _, _, _, _], _ => rfl
  have m19 := PySem.W.mg_of X G a19
  have F20 := fun_mk (st := sParts) l20 c20 k20
  have b20 := F20.binds (ps := ["_law_bag_here", "_law_wires", "_law_sources", "_law_boxes_here"]) fun _ _ _ _ _ _ us hl => match us, hl with | [_, _, _, _], _ => rfl
  have m20 := PySem.W.mg_of X G a20
  have F21 := fun_mk (st := sBoxes) l21 c21 k21
  have b21 := F21.binds (ps := ["_law_bag_here", "_law_words"]) fun _ _ _ _ _ _ us hl => match us, hl with | [_, _], _ => rfl
  have m21 := PySem.W.mg_of X G a21
  have F22 := fun_mk (st := sUse) l22 c22 k22
  have b22 := F22.binds (ps := ["_law_bag_here", "_law_wire", "_law_words"]) fun _ _ _ _ _ _ us hl => match us, hl with | [_, _, _], _ => rfl
  have m22 := PySem.W.mg_of X G a22
  have F23 := fun_mk (st := sLaw) l23 c23 k23
  have m23 := PySem.W.mg_of X G a23
  have me_LETTERS := PySem.W.mg_of X G e1
  have me_LONGEST_NAME := PySem.W.mg_of X G e2
  have me_MOST_FACTOR := PySem.W.mg_of X G e3
  have me_MOST_DELAY := PySem.W.mg_of X G e4
  have me_MOST_TERMS := PySem.W.mg_of X G e5
  have me_MOST_ENDS := PySem.W.mg_of X G e6
  have me_MOST_OUTS := PySem.W.mg_of X G e7
  have mz_isinstance := PySem.W.mg_none_of X G z1
  have mz_str := PySem.W.mg_none_of X G z2
  have mz_int := PySem.W.mg_none_of X G z3
  have mz_bool := PySem.W.mg_none_of X G z4
  have mz_len := PySem.W.mg_none_of X G z5
  have mz_all := PySem.W.mg_none_of X G z6
  have mz_list := PySem.W.mg_none_of X G z7
  have mz_tuple := PySem.W.mg_none_of X G z8
  have mz_zip := PySem.W.mg_none_of X G z9
  have mz_range := PySem.W.mg_none_of X G z10
  have mz_enumerate := PySem.W.mg_none_of X G z11
  have mz_max := PySem.W.mg_none_of X G z12
  have mC := PySem.W.mg_of X G aC
  have G1 := fun_mk (st := sWInit) hl1 hc1 hk1
  have hb1 := G1.binds (ps := ["self", "text"]) fun _ _ _ _ _ _ us hl => match us, hl with | [_, _], _ => rfl
  have G2 := fun_mk (st := sAhead) hl2 hc2 hk2
  have hb2 := G2.binds (ps := ["self"]) fun _ _ _ _ _ _ us hl => match us, hl with | [_], _ => rfl
  have G3 := fun_mk (st := sTake) hl3 hc3 hk3
  have G4 := fun_mk (st := sTakeName) hl4 hc4 hk4
  have hb4 := G4.binds (ps := ["self"]) fun _ _ _ _ _ _ us hl => match us, hl with | [_], _ => rfl
  have G5 := fun_mk (st := sTakeNames) hl5 hc5 hk5
  have hb5 := G5.binds (ps := ["self", "most"]) fun _ _ _ _ _ _ us hl => match us, hl with | [_, _], _ => rfl
  have G6 := fun_mk (st := sTakeNumber) hl6 hc6 hk6
  have hb6 := G6.binds (ps := ["self", "least", "most"]) fun _ _ _ _ _ _ us hl => match us, hl with | [_, _, _], _ => rfl
  refine ⟨PySem.W.fnOf "law" "law" (defArgs sLaw) (defBody sLaw) (defScope sLaw) .none kV23 dc23 pm23 an23 cd23 ct23, fun s v => .of_eq rfl, fun base _ _ => ?_⟩
  have S : SameTxt mg := ⟨mz_isinstance, mz_list, mz_tuple, mz_len, mz_all, mz_zip, mz_bool, mz_int, mz_str⟩
  have NT : NameTxt mg := ⟨mz_isinstance, mz_str, mz_int, mz_bool, mz_len, mz_all, ⟨_, me_LETTERS⟩, ⟨_, me_LONGEST_NAME⟩⟩
  have T : WT K mg C := ⟨⟨cpg, chd, cpo, csa⟩, cnW, cnA, mz_len⟩
  have B : MT mg := ⟨⟨_, me_MOST_FACTOR⟩, ⟨_, me_MOST_DELAY⟩, ⟨_, me_MOST_TERMS⟩, ⟨_, me_MOST_ENDS⟩, ⟨_, me_MOST_OUTS⟩⟩
  have D1 : Df l.prog w K mg base 1 f1 _ "is_name" ["value"] (spName K) := ⟨ok_isname F1 NT, b1, k1, m1⟩
  have D2 : Df l.prog w K mg base 1 f2 _ "is_integer" ["value"] (spInteger K) := ⟨ok_isinteger F2 NT, b2, k2, m2⟩
  have D3 : Df l.prog w K mg base 2 f3 _ "is_number" ["value", "least", "most"] (spNumber K) := ⟨ok_isnumber F3 D2.ok b2 k2 m2, b3, k3, m3⟩
  have D6 : Df l.prog w K mg base 1 f6 _ "words_of_terms" ["terms"] spTermsW := ⟨ok_termsW F6 mz_enumerate mz_str, b6, k6, m6⟩
  have D5 : Df l.prog w K mg base 2 f5 _ "words_of_part" ["part"] spPartW := ⟨ok_partW F5 D6, b5, k5, m5⟩
  have D7 : Df l.prog w K mg base 1 f7 _ "number_of" ["word"] spNumOf := ⟨ok_numof F7 mz_len mz_int mz_str, b7, k7, m7⟩
  have M2 : Mt l.prog w K mg base C 1 h2 _ "ahead" ["self"] (spAhead C) := ⟨ok_ahead G2 T, hb2, ⟨ha2, hi2, hk2⟩⟩
  have TK : FnR l.prog w K mg base CX0 2 h3 (spTake C) := ok_take G3 T M2
  have M4 : Mt l.prog w K mg base C 2 h4 _ "take_name" ["self"] (spTakeName C) := ⟨ok_takename G4 T M2 D1, hb4, ⟨ha4, hi4, hk4⟩⟩
  have M5 : Mt l.prog w K mg base C 3 h5 _ "take_names" ["self", "most"] (spTakeNames C) := ⟨ok_takenames G5 T M2 D1 M4 mz_tuple, hb5, ⟨ha5, hi5, hk5⟩⟩
  have M6 : Mt l.prog w K mg base C 3 h6 _ "take_number" ["self", "least", "most"] (spTakeNumber C) := ⟨ok_takenumber G6 T M2 D3 D7, hb6, ⟨ha6, hi6, hk6⟩⟩
  have MM : MS l.prog w K mg base C h2 h3 h4 h5 h6 _ _ _ _ := ⟨T, M2, TK, ⟨ha3, hi3, hk3⟩, M4, M5, M6⟩
  have D8 : Df l.prog w K mg base 4 f8 _ "read_term" ["words"] (spReadTerm C) := ⟨ok_readterm F8 MM B, b8, k8, m8⟩
  have D9 : Df l.prog w K mg base 5 f9 _ "read_terms" ["words"] (spReadTerms C) := ⟨ok_readterms F9 MM B D8 mz_tuple, b9, k9, m9⟩
  have D10 : Df l.prog w K mg base 6 f10 _ "read_part" ["words"] (spReadPart C) := ⟨ok_readpart F10 MM B D9, b10, k10, m10⟩
  have D11 : Df l.prog w K mg base 7 f11 _ "read_net" ["text"] spReadNet := ⟨ok_readnet F11 MM B NT ⟨cmk, ha1, hi1, ckc⟩ mC (ok_winit G1 T) hb1 D10 mz_tuple, b11, k11, m11⟩
  have D12 : Df l.prog w K mg base 1 f12 _ "_law_bag" ["_law_script"] (spBag K) := ⟨ok_bag F12 mz_len mz_list, b12, k12, m12⟩
  have D13 : Df l.prog w K mg base 1 f13 _ "_law_pull" ["_law_bag_here", "_law_many"] spPull := ⟨ok_pull F13 mz_len mz_int, b13, k13, m13⟩
  have D14 : Df l.prog w K mg base 2 f14 _ "_law_any" ["_law_bag_here", "_law_things"] (spAny K) := ⟨ok_any F14 D13.ok b13 k13 m13 mz_len, b14, k14, m14⟩
  have D15 : Df l.prog w K mg base 6 f15 _ "_law_same" ["_law_found", "_law_due"] (spSame 6) := ⟨all_same F15 S b15 m15 6, b15, k15, m15⟩
  have D16 : Df l.prog w K mg base 3 f16 _ "_law_names" ["_law_bag_here", "_law_many"] spNames := ⟨ok_names F16 D13.ok b13 k13 m13 D14.ok b14 k14 m14 mz_len mz_int mz_range, b16, k16, m16⟩
  have D17 : Df l.prog w K mg base 2 f17 _ "_law_mixed" ["_law_bag_here", "_law_things"] (spMixed K) := ⟨ok_mixed F17 D13 mz_len, b17, k17, m17⟩
  have D18 : Df l.prog w K mg base 3 f18 _ "_law_term" ["_law_bag_here", "_law_earlier", "_law_every"] spTerm := ⟨ok_term F18 D13 D14 mz_max, b18, k18, m18⟩
  have D19 : Df l.prog w K mg base 4 f19 _ "_law_part" partP spPart := ⟨ok_part F19 D13 D14 D18 mz_tuple mz_range, b19, k19, m19⟩
  have D20 : Df l.prog w K mg base 5 f20 _ "_law_parts" partsP spParts := ⟨ok_parts F20 D19 mz_len mz_range, b20, k20, m20⟩
  have D21 : Df l.prog w K mg base 3 f21 _ "_law_boxes" ["_law_bag_here", "_law_words"] spBoxes := ⟨ok_boxes F21 D14, b21, k21, m21⟩
  have D22 : Df l.prog w K mg base 3 f22 _ "_law_use" ["_law_bag_here", "_law_wire", "_law_words"] spUse := ⟨ok_use F22 D13 D14 mz_tuple mz_range, b22, k22, m22⟩
  refine ok_law F23 D12 D13 D14 D15 D16 D17 D21 D20 D22 ⟨ok_textL F4 D5, b4, k4, m4⟩ ⟨ok_textT F4 D5, b4, k4, m4⟩ D11 ?_ mz_tuple mz_range
  exact Fun.kbn F11 0 ["text"] _ _ (fun r rz => r.append rz) fun _ _ _ _ _ _ us ws h1 h2 => match us, ws, h1, h2 with | [], [_], _, _ => rfl
theorem walk {l : PySem.W.OpenLaw} {q : Program} {loose : List Str} {XP : (Str → Option Value) → Heap → Prop} {YP : World → Heap → Prop} {d : DefRec} {K : Params → PySem.W.Frag} (hn : l.most = some 63) (hdf : d.params.defaults = [])
    (hY : ∀ (w : World) (h : Heap), YP w h → (K w.params).In h)
    (F : ∀ (w : World) (mg : Str → Option Value) (fa : Addr) (h : Heap), (K w.params).In h → h.Ns mainGlobals mg → mg d.name = some (.ref fa) →
      ∃ fd : FuncData, (∀ (s : Shared) (u : Value), BindsTo s fd ⟨[u], []⟩ [("_law_script", u)]) ∧ ∀ base : Heap, (K w.params).In base → base.Ns mainGlobals mg → FnOk l.prog w (K w.params) mg base CX0 8 fa fd ["_law_script"] (spLaw (K w.params))) :
    PySem.W.WalkO q loose XP YP l.row.toRowW d [] (fun f vs => PySem.call f vs) :=
  L2.walk_of (n := 63) (k := 8) (x := "_law_script") (CX := fun _ => CX0) (sp := fun w => spLaw (K w.params)) hn (by decide) hdf ⟨rfl, by decide, by decide⟩ hY F (fun _ _ a ns hl _ hS => ⟨a, ns, rfl, hS, hl, fun _ => rfl⟩) fun _ _ _ _ _ z => z
end Un
open PySem PySem.W PyProof.Rows
set_option maxRecDepth 100000 in
set_option maxHeartbeats 0 in
theorem PySem.Challenge.cw_unopened_k09_whole_texts_read_back_holds : PySem.Challenge.rw_unopened_k09_whole_texts_read_back.Holds := by
  w_on; o_law; k_head; (case hw => w_witness2)
  k_fill
  refine Un.walk (l := PySem.Challenge.rw_unopened_k09_whole_texts_read_back) rfl rfl (fun w h Y => PySem.W.kIn_of Y) ?F
  case F =>
    intro w mg fa h KX G hmg
    refine' Un.all_mk KX G hmg ?a1 ?l1 ?c1 ?k1 ?a2 ?l2 ?c2 ?k2 ?a3 ?l3 ?c3 ?k3 ?a4 ?l4 ?c4 ?k4 ?a5 ?l5 ?c5 ?k5 ?a6 ?l6 ?c6 ?k6 ?a7 ?l7 ?c7 ?k7 ?a8 ?l8 ?c8 ?k8 ?a9 ?l9 ?c9 ?k9 ?a10 ?l10 ?c10 ?k10 ?a11 ?l11 ?c11 ?k11 ?a12 ?l12 ?c12 ?k12 ?a13 ?l13 ?c13 ?k13 ?a14 ?l14 ?c14 ?k14 ?a15 ?l15 ?c15 ?k15 ?a16 ?l16 ?c16 ?k16 ?a17 ?l17 ?c17 ?k17 ?a18 ?l18 ?c18 ?k18 ?a19 ?l19 ?c19 ?k19 ?a20 ?l20 ?c20 ?k20 ?a21 ?l21 ?c21 ?k21 ?a22 ?l22 ?c22 ?k22 ?a23 ?l23 ?c23 ?k23 ?e1 ?e2 ?e3 ?e4 ?e5 ?e6 ?e7 ?z1 ?z2 ?z3 ?z4 ?z5 ?z6 ?z7 ?z8 ?z9 ?z10 ?z11 ?z12 ?aC ?ha1 ?hi1 ?hl1 ?hc1 ?hk1 ?ha2 ?hi2 ?hl2 ?hc2 ?hk2 ?ha3 ?hi3 ?hl3 ?hc3 ?hk3 ?ha4 ?hi4 ?hl4 ?hc4 ?hk4 ?ha5 ?hi5 ?hl5 ?hc5 ?hk5 ?ha6 ?hi6 ?hl6 ?hc6 ?hk6 ?cpg ?chd ?cpo ?csa ?cmk ?ckc ?cnW ?cnA
    (case a1 => k_is)
    (case l1 => k_is)
    (case c1 => k_is)
    (case k1 => k_is)
    (case a2 => k_is)
    (case l2 => k_is)
    (case c2 => k_is)
    (case k2 => k_is)
    (case a3 => k_is)
    (case l3 => k_is)
    (case c3 => k_is)
    (case k3 => k_is)
    (case a4 => k_is)
    (case l4 => k_is)
    (case c4 => k_is)
    (case k4 => k_is)
    (case a5 => k_is)
    (case l5 => k_is)
    (case c5 => k_is)
    (case k5 => k_is)
    (case a6 => k_is)
    (case l6 => k_is)
    (case c6 => k_is)
    (case k6 => k_is)
    (case a7 => k_is)
    (case l7 => k_is)
    (case c7 => k_is)
    (case k7 => k_is)
    (case a8 => k_is)
    (case l8 => k_is)
    (case c8 => k_is)
    (case k8 => k_is)
    (case a9 => k_is)
    (case l9 => k_is)
    (case c9 => k_is)
    (case k9 => k_is)
    (case a10 => k_is)
    (case l10 => k_is)
    (case c10 => k_is)
    (case k10 => k_is)
    (case a11 => k_is)
    (case l11 => k_is)
    (case c11 => k_is)
    (case k11 => k_is)
    (case a12 => k_is)
    (case l12 => k_is)
    (case c12 => k_is)
    (case k12 => k_is)
    (case a13 => k_is)
    (case l13 => k_is)
    (case c13 => k_is)
    (case k13 => k_is)
    (case a14 => k_is)
    (case l14 => k_is)
    (case c14 => k_is)
    (case k14 => k_is)
    (case a15 => k_is)
    (case l15 => k_is)
    (case c15 => k_is)
    (case k15 => k_is)
    (case a16 => k_is)
    (case l16 => k_is)
    (case c16 => k_is)
    (case k16 => k_is)
    (case a17 => k_is)
    (case l17 => k_is)
    (case c17 => k_is)
    (case k17 => k_is)
    (case a18 => k_is)
    (case l18 => k_is)
    (case c18 => k_is)
    (case k18 => k_is)
    (case a19 => k_is)
    (case l19 => k_is)
    (case c19 => k_is)
    (case k19 => k_is)
    (case a20 => k_is)
    (case l20 => k_is)
    (case c20 => k_is)
    (case k20 => k_is)
    (case a21 => k_is)
    (case l21 => k_is)
    (case c21 => k_is)
    (case k21 => k_is)
    (case a22 => k_is)
    (case l22 => k_is)
    (case c22 => k_is)
    (case k22 => k_is)
    (case a23 => k_is)
    (case l23 => k_is)
    (case c23 => k_is)
    (case k23 => k_is)
    (case e1 => k_is)
    (case e2 => k_is)
    (case e3 => k_is)
    (case e4 => k_is)
    (case e5 => k_is)
    (case e6 => k_is)
    (case e7 => k_is)
    (case z1 => k_is)
    (case z2 => k_is)
    (case z3 => k_is)
    (case z4 => k_is)
    (case z5 => k_is)
    (case z6 => k_is)
    (case z7 => k_is)
    (case z8 => k_is)
    (case z9 => k_is)
    (case z10 => k_is)
    (case z11 => k_is)
    (case z12 => k_is)
    (case aC => k_is)
    (case ha1 => k_is)
    (case hi1 => k_is)
    (case hl1 => k_is)
    (case hc1 => k_is)
    (case hk1 => k_is)
    (case ha2 => k_is)
    (case hi2 => k_is)
    (case hl2 => k_is)
    (case hc2 => k_is)
    (case hk2 => k_is)
    (case ha3 => k_is)
    (case hi3 => k_is)
    (case hl3 => k_is)
    (case hc3 => k_is)
    (case hk3 => k_is)
    (case ha4 => k_is)
    (case hi4 => k_is)
    (case hl4 => k_is)
    (case hc4 => k_is)
    (case hk4 => k_is)
    (case ha5 => k_is)
    (case hi5 => k_is)
    (case hl5 => k_is)
    (case hc5 => k_is)
    (case hk5 => k_is)
    (case ha6 => k_is)
    (case hi6 => k_is)
    (case hl6 => k_is)
    (case hc6 => k_is)
    (case hk6 => k_is)
    (case cpg => k_is)
    (case chd => k_is)
    (case cpo => k_is)
    (case csa => k_is)
    (case cmk => k_is)
    (case ckc => k_is)
    (case cnW => k_is)
    (case cnA => k_is)
