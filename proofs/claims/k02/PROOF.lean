import PyProof.Rows.All
import Wide.All
import OpenK.AllK
import Wide.FinOn
import HandS.ForMost
import HandS.IsInst
import HandS.Flow
import HandS.Zip
import HandS.Defaults
import HandS.Codes
import PySem.Challenge.RW_unopened_k02_names_and_numbers
set_option Elab.async false
set_option linter.all false
set_option maxRecDepth 100000
set_option maxHeartbeats 4000000
namespace Un
open PySem L2 TL
def top (i : Nat) : Stmt := PySem.Challenge.pw_unopened_k02_names_and_numbers.main.body.getD i (.Pass ⟨0, 0, 0, 0⟩)
abbrev sBag : Stmt := top 7
abbrev sPull : Stmt := top 8
abbrev sAny : Stmt := top 9
/-! the law's drawing: a bag at b, its cells at c -/
structure BagIs (H : Hp) (b c : Addr) (ns : List Int) (p r s k : Int) : Prop where
  lb : H b = some (.lst [.ref c, .int p, .int r, .int s, .int k])
  lc : H c = some (.lst (ns.map V.int))
  nl : ns.length ≤ 63
  p0 : 0 ≤ p
  s0 : 0 ≤ s
  s1 : s < 2147483648
  r0 : 0 ≤ r
def Bag (H : Hp) (b c : Addr) : Prop := ∃ ns p r s k, BagIs H b c ns p r s k
/-- what was tracked is as it was, the bag aside -/
def Kp (b : Addr) (H H' : Hp) : Prop := ∀ a o, H a = some o → a ≠ b → H' a = some o
theorem Kp.refl (b : Addr) (H : Hp) : Kp b H H := fun _ _ h _ => h
theorem Kp.trans {b : Addr} {H H1 H2 : Hp} (x : Kp b H H1) (y : Kp b H1 H2) : Kp b H H2 := fun a o h n => y a o (x a o h n) n
theorem Same.kp {b : Addr} {H H' : Hp} (x : Same H H') : Kp b H H' := fun a o h _ => x a o h
theorem same_upd {H : Hp} {p : Addr} (h : H p = none) (o : HO) : Same H (upd H p o) := fun b u q => by rw [upd_ne (ne_of_none q h)]; exact q
theorem Bag.ne {H : Hp} {b c : Addr} (B : Bag H b c) : b ≠ c := by
  obtain ⟨ns, p, r, s, k, B⟩ := B
  intro e
  have h1 := B.lb
  rw [e, B.lc] at h1
  cases ns with
  | nil => cases h1
  | cons x t => 
    have := Option.some.inj h1
    cases this
theorem Bag.same {H H' : Hp} {b c : Addr} (B : Bag H b c) (x : Same H H') : Bag H' b c := by
  obtain ⟨ns, p, r, s, k, B⟩ := B
  exact ⟨ns, p, r, s, k, x _ _ B.lb, x _ _ B.lc, B.nl, B.p0, B.s0, B.s1, B.r0⟩
theorem Bag.upd_new {H : Hp} {b c q : Addr} (B : Bag H b c) (h : H q = none) (o : HO) : Bag (upd H q o) b c := B.same (same_upd h o)
theorem Bag.there {H : Hp} {b c : Addr} (B : Bag H b c) : ∃ o, H b = some o := by
  obtain ⟨ns, p, r, s, k, B⟩ := B
  exact ⟨_, B.lb⟩
theorem Bag.fresh {H : Hp} {b c q : Addr} (B : Bag H b c) (h : H q = none) : q ≠ b := by
  obtain ⟨o, e⟩ := B.there
  exact (ne_of_none e h).symm
/-- the bag's list is written -/
theorem BagIs.put {H : Hp} {b c : Addr} {ns : List Int} {p r s k p' r' s' k' : Int} (B : BagIs H b c ns p r s k) (h0 : 0 ≤ p') (h1 : 0 ≤ s') (h2 : s' < 2147483648) (h3 : 0 ≤ r') :
    BagIs (upd H b (.lst [.ref c, .int p', .int r', .int s', .int k'])) b c ns p' r' s' k' := by
  have n : b ≠ c := Bag.ne ⟨ns, p, r, s, k, B⟩
  exact ⟨upd_same, by rw [upd_ne n.symm]; exact B.lc, B.nl, h0, h1, h2, h3⟩
def spPull : Sp := fun vs H Q _ => ∃ (b c : Addr) (many : Int), vs = [.ref b, .int many] ∧ Bag H b c ∧ 0 < many ∧ many < 1073741824 ∧
  ∀ (d : Int) (H' : Hp), 0 ≤ d → d < many → Bag H' b c → Kp b H H' → Q (.int d) H'
section
variable {P : Program} {w : World} {K : PySem.W.Frag} {mg : Str → Option Value} {base : Heap}
theorem scPull : FnScope ["_law_bag_here", "_law_many", "_law_cell", "_law_digit", "_law_seed"] ["_law_bag_here", "_law_many"] (defScope sPull) := ⟨rfl, rfl, rfl, by decide +kernel, rfl, by decide +kernel, by decide +kernel⟩
theorem ok_pull {f : Addr} {fd : FuncData} (F : Fun K "_law_pull" "_law_pull" sPull f fd) (mlen : mg "len" = none) (mint : mg "int" = none) : FnOk P w K mg base CX0 1 f fd ["_law_bag_here", "_law_many"] spPull := by
  refine F.ok scPull (fun vs H Q E h => ?_) (fun cdv A outer s H vs Q E hr h => ?_)
  · obtain ⟨b, c, many, rfl, _⟩ := h
    rfl
  obtain ⟨b, c, many, rfl, ⟨ns, p, r, s, k, B⟩, m0, m1, q⟩ := h
  refine ⟨_, C8.pss_cut (ps_if (PW.pt (pw_and (pt_cmpR op_eq (pe_ix ix_list (pv 0) pe_int (fun _ _ => rfl)) pe_int (nomark _)) (pw_and1 (pt_cmpR op_lt (pe_ix ix_list (pv 0) pe_int (fun _ _ => rfl)) (pe_callB call_len_seq (by rfl) mlen PySem.boot_len (pa_cons (pe_ix ix_list (pv 0) pe_int (fun _ _ => rfl)) pa_nil)) (nomark _)))))
      (pss_cons (ps_set (i := 2) scPull.nd rfl (Or.inl rfl) (pe_ix ix_list (pe_ix ix_list (pv 0) pe_int (fun _ _ => rfl)) (pe_ix ix_list (pv 0) pe_int (fun _ _ => rfl)) (fun _ _ => rfl)))
      (pss_cons (ps_asg (pe_op op_add (pe_ix ix_list (pv 0) pe_int (fun _ _ => rfl)) pe_int) (pg_sub (pv 0) pe_int set_list))
      (pss_one (ps_if (pt_cmpR op_ge (pv 2) (pe_op op_pow pe_int pe_int) (nomark _))
        (pss_one (ps_asg (pv 2) (pg_sub (pv 0) pe_int set_list)))
        (pss_one (ps_asg (pe_op op_mod (pe_callTy call_int1 (by rfl) mint (by decide +kernel) (pa_cons (pe_op op_add (pe_op op_add (pe_op op_mul (pe_ix ix_list (pv 0) pe_int (fun _ _ => rfl)) pe_int) (pe_op op_mul (pe_op op_mod (pe_callTy call_int1 (by rfl) mint (by decide +kernel) (pa_cons (pv 2) pa_nil)) pe_int) pe_int)) pe_int) pa_nil)) pe_int) (pg_sub (pv 0) pe_int set_list)))))))
      pss_nil)
    (pss_cons (ps_if (pt_cmpR op_gt (pe_ix ix_list (pv 0) pe_int (fun _ _ => rfl)) pe_int (nomark _))
      (pss_cons (ps_set (i := 3) scPull.nd rfl (Or.inl rfl) (pe_op op_mod (pe_callTy call_int1 (by rfl) mint (by decide +kernel) (pa_cons (pe_ix ix_list (pv 0) pe_int (fun _ _ => rfl)) pa_nil)) (pv 1)))
      (pss_cons (ps_asg (pe_op op_fdiv (pe_ix ix_list (pv 0) pe_int (fun _ _ => rfl)) (pv 1)) (pg_sub (pv 0) pe_int set_list))
      (pss_one (ps_ret (pv 3)))))
      pss_nil)
    (pss_cons (ps_asg (pe_op op_add (pe_ix ix_list (pv 0) pe_int (fun _ _ => rfl)) pe_int) (pg_sub (pv 0) pe_int set_list))
    (pss_cons (ps_set (i := 4) scPull.nd rfl (Or.inl rfl) (pe_ix ix_list (pv 0) pe_int (fun _ _ => rfl)))
    (pss_cons (ps_asg (pe_op op_mod (pe_callTy call_int1 (by rfl) mint (by decide +kernel) (pa_cons (pe_op op_add (pe_op op_add (pe_op op_add (pe_op op_mul (pe_op op_mul (pv 4) (pv 4)) pe_int) (pe_op op_mul (pv 4) pe_int)) (pe_op op_mul (pe_ix ix_list (pv 0) pe_int (fun _ _ => rfl)) pe_int)) pe_int) pa_nil)) pe_int) (pg_sub (pv 0) pe_int set_list))
    (pss_one (ps_ret (pe_op op_mod (pe_callTy call_int1 (by rfl) mint (by decide +kernel) (pa_cons (pe_op op_add (pe_op op_fdiv (pe_ix ix_list (pv 0) pe_int (fun _ _ => rfl)) pe_int) (pe_op op_mul (pe_op op_mod (pe_callTy call_int1 (by rfl) mint (by decide +kernel) (pa_cons (pe_ix ix_list (pv 0) pe_int (fun _ _ => rfl)) pa_nil)) pe_int) pe_int)) pa_nil)) (pv 1)))))))), ?_⟩
  have r0 : SqL K H b [.ref c, .int p, .int r, .int s, .int k] := SqL.of B.lb
  have rc : SqL K H c (ns.map V.int) := SqL.of B.lc
  refine ⟨fun σ' H2 => ∃ p r s k v2, σ' = [some (.ref b), some (.int many), v2, none, none] ∧ BagIs H2 b c ns p r s k ∧ Kp b H H2, ?_, ?_⟩
  · -- if bag[2] == 0 and bag[1] < len(bag[0])
    refine ⟨.ref b, rfl, b, _, 2, .int r, rfl, rfl, r0, rfl, rfl, _, rfl, ?_⟩
    refine ite2 (fun _ => ?_) (fun _ => ?_)
    case refine_2 => exact iteF ⟨p, r, s, k, none, rfl, B, Kp.refl b H⟩
    refine ⟨.ref b, rfl, b, _, 1, .int p, rfl, rfl, r0, rfl, .ref b, rfl, b, _, 0, .ref c, rfl, rfl, r0, rfl, c, _, rfl, .inl rc, p, _, rfl, rfl, _, rfl, ?_⟩
    refine ite2 (fun hp => ?_) (fun _ => ?_)
    case refine_2 => exact ⟨p, r, s, k, none, rfl, B, Kp.refl b H⟩
    have hp' : p < ((ns.map V.int).length : Int) := of_decide_eq_true hp
    rw [List.length_map] at hp'
    have hpn : p.toNat < ns.length := by have := B.p0; omega
    have hcell : atI (ns.map V.int) p = some (.int ns[p.toNat]) := by
      have e : p = ((p.toNat : Nat) : Int) := by have := B.p0; omega
      have q : atI (ns.map V.int) ((p.toNat : Nat) : Int) = some (.int ns[p.toNat]) := atI_nat (by rw [List.getElem?_map, List.getElem?_eq_getElem hpn] <;> rfl)
      rw [← e] at q
      exact q
    -- cell = bag[0][bag[1]]; bag[1] = bag[1] + 1
    refine ⟨.ref b, rfl, b, _, 0, .ref c, rfl, rfl, r0, rfl, .ref b, rfl, b, _, 1, .int p, rfl, rfl, r0, rfl, c, _, p, _, rfl, rfl, rc, hcell, ?_⟩
    refine ⟨.ref b, rfl, b, _, 1, .int p, rfl, rfl, r0, rfl, p, 1, rfl, rfl, .ref b, rfl, b, _, 1, 1, rfl, rfl, B.lb, rfl, ?_⟩
    have B1 : BagIs (upd H b (.lst [.ref c, .int (p + 1), .int r, .int s, .int k])) b c ns (p + 1) r s k := B.put (by have := B.p0; omega) B.s0 B.s1 B.r0
    have k1 : Kp b H (upd H b (.lst [.ref c, .int (p + 1), .int r, .int s, .int k])) := fun a o e n => by rw [upd_ne n]; exact e
    -- if cell >= 10 ** 18
    refine ⟨_, rfl, 10, 18, rfl, rfl, ⟨by decide, by decide, by decide⟩, _, _, rfl, rfl, _, rfl, ?_⟩
    refine ite2 (fun hg => ?_) (fun _ => ?_)
    · have hg' : ns[p.toNat] ≥ (10 : Int) ^ (18 : Int).toNat := of_decide_eq_true hg
      have hg0 : 0 ≤ ns[p.toNat] := Int.le_trans (by decide) hg'
      refine ⟨_, rfl, .ref b, rfl, b, _, 2, 2, rfl, rfl, B1.lb, rfl, ?_⟩
      have e1 : upd (upd H b (.lst [.ref c, .int (p + 1), .int r, .int s, .int k])) b (.lst [.ref c, .int (p + 1), .int ns[p.toNat], .int s, .int k]) = upd H b (.lst [.ref c, .int (p + 1), .int ns[p.toNat], .int s, .int k]) := upd_upd
      refine ⟨p + 1, ns[p.toNat], s, k, _, rfl, ?_, ?_⟩
      · exact B1.put B1.p0 B.s0 B.s1 hg0
      · exact k1.trans fun a o e n => by rw [upd_ne n]; exact e
    · refine ⟨.ref b, rfl, b, _, 3, .int s, rfl, rfl, SqL.of B1.lb, rfl, s, 48623, rfl, rfl, .inr ⟨by decide, by decide⟩, ?_⟩
      refine ⟨_, rfl, .inl ⟨_, rfl, ?_⟩⟩
      refine ⟨_, 2147483399, rfl, rfl, (by show (0 : Int) < 2147483399; decide), ?_⟩
      refine ⟨_, 15017, rfl, rfl, .inr ⟨by decide, by decide⟩, ?_⟩
      refine ⟨_, _, rfl, rfl, _, 31, rfl, rfl, .inl ⟨_, rfl, ?_⟩⟩
      refine ⟨_, 2147483563, rfl, rfl, (by show (0 : Int) < 2147483563; decide), ?_⟩
      refine ⟨.ref b, rfl, b, _, 3, 3, rfl, rfl, B1.lb, rfl, ?_⟩
      refine ⟨p + 1, r, _, k, _, rfl, B1.put B1.p0 ?_ ?_ B.r0, k1.trans fun a o e n => by rw [upd_ne n]; exact e⟩
      · exact Int.emod_nonneg _ (by decide)
      · exact Int.lt_trans (Int.emod_lt_of_pos _ (by decide)) (by decide)
  · rintro σ' H2 ⟨p, r, s, k, v2, rfl, B, kp⟩
    have r0 : SqL K H2 b [.ref c, .int p, .int r, .int s, .int k] := SqL.of B.lb
    -- if bag[2] > 0
    refine ⟨.ref b, rfl, b, _, 2, .int r, rfl, rfl, r0, rfl, _, _, rfl, rfl, _, rfl, ?_⟩
    refine ite2 (fun _ => ?_) (fun _ => ?_)
    · refine ⟨.ref b, rfl, b, _, 2, .int r, rfl, rfl, r0, rfl, .inl ⟨_, rfl, ?_⟩⟩
      refine ⟨_, rfl, _, _, rfl, rfl, m0, ?_⟩
      refine ⟨.ref b, rfl, b, _, 2, .int r, rfl, rfl, r0, rfl, _, rfl, _, _, rfl, rfl, ⟨m0, m1⟩, ?_⟩
      refine ⟨.ref b, rfl, b, _, 2, 2, rfl, rfl, B.lb, rfl, ?_⟩
      refine ⟨_, rfl, ?_⟩
      exact q _ _ (Int.emod_nonneg _ (by omega)) (Int.emod_lt_of_pos _ m0) ⟨ns, p, _, s, k, B.put B.p0 B.s0 B.s1 (Int.ediv_nonneg B.r0 (by omega))⟩ (kp.trans fun a o e n => by rw [upd_ne n]; exact e)
    · -- bag[4] = bag[4] + 1; seed = bag[3]
      refine ⟨.ref b, rfl, b, _, 4, .int k, rfl, rfl, r0, rfl, k, 1, rfl, rfl, .ref b, rfl, b, _, 4, 4, rfl, rfl, B.lb, rfl, ?_⟩
      have B1 : BagIs (upd H2 b (.lst [.ref c, .int p, .int r, .int s, .int (k + 1)])) b c ns p r s (k + 1) := B.put B.p0 B.s0 B.s1 B.r0
      have k1 : Kp b H (upd H2 b (.lst [.ref c, .int p, .int r, .int s, .int (k + 1)])) := kp.trans fun a o e n => by rw [upd_ne n]; exact e
      refine ⟨.ref b, rfl, b, _, 3, .int s, rfl, rfl, SqL.of B1.lb, rfl, ?_⟩
      have hs0 := B.s0
      have hs1 := B.s1
      refine ⟨_, rfl, _, rfl, _, _, rfl, rfl, .inl ⟨by omega, by omega⟩, _, 7, rfl, rfl, .inr ⟨by decide, by decide⟩, ?_⟩
      refine ⟨_, rfl, _, 31159, rfl, rfl, .inr ⟨by decide, by decide⟩, _, _, rfl, rfl, ?_⟩
      refine ⟨.ref b, rfl, b, _, 4, .int (k + 1), rfl, rfl, SqL.of B1.lb, rfl, _, 1299841, rfl, rfl, .inr ⟨by decide, by decide⟩, _, _, rfl, rfl, ?_⟩
      refine ⟨_, 70003, rfl, rfl, .inl ⟨_, rfl, ?_⟩⟩
      refine ⟨_, 2147483543, rfl, rfl, (by show (0 : Int) < 2147483543; decide), ?_⟩
      refine ⟨.ref b, rfl, b, _, 3, 3, rfl, rfl, B1.lb, rfl, ?_⟩
      have B2 := B1.put (p' := p) (r' := r) (k' := k + 1) B.p0 (Int.emod_nonneg (s * s * 7 + s * 31159 + (k + 1) * 1299841 + 70003) (show (2147483543 : Int) ≠ 0 by decide)) (Int.lt_trans (Int.emod_lt_of_pos _ (by decide)) (by decide)) B.r0
      refine ⟨.ref b, rfl, b, _, 3, _, rfl, rfl, SqL.of B2.lb, rfl, _, 73, rfl, rfl, ⟨by decide, by decide⟩, ?_⟩
      refine ⟨.ref b, rfl, b, _, 3, _, rfl, rfl, SqL.of B2.lb, rfl, .inl ⟨_, rfl, ?_⟩⟩
      refine ⟨_, 7919, rfl, rfl, (by show (0 : Int) < 7919; decide), _, 59, rfl, rfl, .inr ⟨by decide, by decide⟩, ?_⟩
      refine ⟨_, _, rfl, rfl, .inl ⟨_, rfl, ?_⟩⟩
      refine ⟨_, rfl, _, _, rfl, rfl, m0, ?_⟩
      exact q _ _ (Int.emod_nonneg _ (by omega)) (Int.emod_lt_of_pos _ m0) ⟨ns, p, _, _, _, B2⟩ (k1.trans fun a o e n => by rw [upd_ne n]; exact e)

/-! the bag is made -/
theorem cut_ints (ns : List Int) (lo hi : Option Int) : ∃ ms : List Int, cutV (ns.map V.int) lo hi = ms.map V.int ∧ ms.length ≤ ns.length := by
  refine ⟨(ns.drop (HT.sIx ns.length 0 lo)).take (HT.sIx ns.length ns.length hi - HT.sIx ns.length 0 lo), ?_, ?_⟩
  · unfold cutV
    rw [List.length_map, List.map_take, List.map_drop]
  · rw [List.length_take, List.length_drop]
    omega
def spBag (K : PySem.W.Frag) : Sp := fun vs H Q _ => ∃ (a : Addr) (ns : List Int), vs = [.ref a] ∧ SqL K H a (ns.map V.int) ∧ ns.length ≤ 63 ∧
  ∀ (b c : Addr) (H' : Hp), Same H H' → H b = none → H c = none → Bag H' b c → Q (.ref b) H'
theorem scBag : FnScope ["_law_script"] ["_law_script"] (defScope sBag) := ⟨rfl, rfl, rfl, by decide +kernel, rfl, by decide +kernel, by decide +kernel⟩
theorem ok_bag {f : Addr} {fd : FuncData} (F : Fun K "_law_bag" "_law_bag" sBag f fd) (mlen : mg "len" = none) (mlist : mg "list" = none) : FnOk P w K mg base CX0 1 f fd ["_law_script"] (spBag K) := by
  refine F.ok scBag (fun vs H Q E h => ?_) (fun cdv A outer s H vs Q E hr h => ?_)
  · obtain ⟨a, ns, rfl, _⟩ := h
    rfl
  obtain ⟨a, ns, rfl, hS, h63, q⟩ := h
  refine ⟨_, pss_one (ps_ret (pe_lst (pa_cons (pe_callTy call_list_of (by rfl) mlist (by decide +kernel) (pa_cons (pe_slice sl_list (pv 0) po_none (po_some pe_int)) pa_nil)) (pa_cons pe_int (pa_cons pe_int (pa_cons (pe_op op_add pe_int (pe_callB call_len_seq (by rfl) mlen PySem.boot_len (pa_cons (pv 0) pa_nil))) (pa_cons pe_int pa_nil))))))), ?_⟩
  obtain ⟨ms, em, hm⟩ := cut_ints ns none (some 63)
  refine ⟨_, rfl, 63, rfl, a, _, rfl, hS, fun x hx => ?_⟩
  rw [em]
  have s1 := same_upd hx (.lst (ms.map V.int))
  refine ⟨x, _, rfl, .inl (SqL.of upd_same), fun y hy => ?_⟩
  have s2 := s1.trans (same_upd hy (.lst (ms.map V.int)))
  refine ⟨_, rfl, a, _, rfl, .inl (s2.seq hS), _, _, rfl, rfl, (by show 5 ≤ sizeLine; decide), fun b hb => ?_⟩
  have hb0 : H b = none := s2.free hb
  have hyb : y ≠ b := fun e => by
    rw [← e, upd_same] at hb
    cases hb
  refine q b y _ (s2.trans (same_upd hb _)) hb0 (s1.free hy) ⟨ms, 0, 0, _, 0, upd_same, ?_, by omega, by decide, ?_, ?_, by decide⟩
  · rw [upd_ne hyb, upd_same]
  · show (0 : Int) ≤ 12002 + ((ns.map V.int).length : Int)
    omega
  · show 12002 + ((ns.map V.int).length : Int) < 2147483648
    rw [List.length_map]
    omega
/-! one of several things -/
theorem Kp.seqL {b : Addr} {H H' : Hp} (x : Kp b H H') {a : Addr} {xs : List V} (n : a ≠ b) (h : SqL K H a xs) : SqL K H' a xs := by
  rcases h with (h | ⟨o, h⟩) | h
  · exact .inl (.inl (x _ _ h n))
  · exact .inl (.inr ⟨o, x _ _ h n⟩)
  · exact .inr h
theorem Kp.seqT {b : Addr} {H H' : Hp} (x : Kp b H H') {a : Addr} {xs : List V} (n : a ≠ b) (h : SqT K H a xs) : SqT K H' a xs := by
  rcases h with (h | ⟨o, h⟩) | h
  · exact .inl (.inl (x _ _ h n))
  · exact .inl (.inr ⟨o, x _ _ h n⟩)
  · exact .inr h
/-- what may be drawn from -/
def Menu (K : PySem.W.Frag) (H : Hp) (b : Addr) (x : V) (its : List V) : Prop :=
  (∃ a, x = .ref a ∧ a ≠ b ∧ SqL K H a its) ∨ (∃ a, x = .ref a ∧ a ≠ b ∧ SqT K H a its) ∨ (∃ z : Str, x = .str z ∧ z.length ≤ sizeLine ∧ its = z.cps.toList.map (fun c => V.str ⟨#[c]⟩))
def spAny (K : PySem.W.Frag) : Sp := fun vs H Q _ => ∃ (b c : Addr) (x : V) (its : List V), vs = [.ref b, x] ∧ Bag H b c ∧ Menu K H b x its ∧ 0 < its.length ∧ its.length < 1073741824 ∧
  ∀ (y : V) (H' : Hp), y ∈ its → Bag H' b c → Kp b H H' → Q y H'
theorem scAny : FnScope ["_law_bag_here", "_law_things"] ["_law_bag_here", "_law_things"] (defScope sAny) := ⟨rfl, rfl, rfl, by decide +kernel, rfl, by decide +kernel, by decide +kernel⟩
theorem str_len (z : Str) : z.length = z.cps.toList.length := by
  show z.cps.size = _
  rw [Array.length_toList]
theorem ok_any {f g : Addr} {fd gd : FuncData} (F : Fun K "_law_any" "_law_any" sAny f fd) (G : FnOk P w K mg base CX0 1 g gd ["_law_bag_here", "_law_many"] spPull) (bG : Binds K gd ["_law_bag_here", "_law_many"] []) (kG : PySem.W.keepIn K (.ref g) = true) (mG : mg "_law_pull" = some (.ref g))
    (mlen : mg "len" = none) : FnOk P w K mg base CX0 2 f fd ["_law_bag_here", "_law_things"] (spAny K) := by
  refine F.ok scAny (fun vs H Q E h => ?_) (fun cdv A outer s H vs Q E hr h => ?_)
  · obtain ⟨b, c, x, its, rfl, _⟩ := h
    rfl
  obtain ⟨b, c, x, its, rfl, B, M, l0, l1, q⟩ := h
  refine ⟨_, pss_one (ps_ret (pe_ix ix_seq (pv 1) (pe_call G hr (by rfl) mG kG bG .nil pass0 (pa_cons (pv 0) (pa_cons (pe_callB call_len (by rfl) mlen PySem.boot_len (pa_cons (pv 1) pa_nil)) pa_nil))) (fun _ _ => rfl))), ?_⟩
  have hlen : LenV K x H its.length := by
    rcases M with ⟨a, rfl, _, h⟩ | ⟨a, rfl, _, h⟩ | ⟨z, rfl, hz, rfl⟩
    · exact .inl ⟨_, h, rfl⟩
    · exact .inr ⟨_, h, rfl⟩
    · exact ⟨hz, by rw [List.length_map, str_len]⟩
  refine ⟨x, rfl, .ref b, rfl, x, rfl, x, its.length, rfl, hlen, b, c, _, rfl, B, by omega, by omega, fun d H' d0 d1 B' kp => ?_⟩
  have hd : d.toNat < its.length := by omega
  have ed : d = ((d.toNat : Nat) : Int) := by omega
  have hat : atI its d = some its[d.toNat] := by
    have e : atI its ((d.toNat : Nat) : Int) = some its[d.toNat] := atI_nat (by rw [List.getElem?_eq_getElem hd])
    rw [← ed] at e
    exact e
  have fin : Q its[d.toNat] H' := q _ _ (List.getElem_mem hd) B' kp
  rcases M with ⟨a, rfl, na, h⟩ | ⟨a, rfl, na, h⟩ | ⟨z, rfl, hz, rfl⟩
  · exact .inl ⟨a, _, d, _, rfl, rfl, kp.seqL na h, hat, fin⟩
  · exact .inr (.inl ⟨a, _, d, _, rfl, rfl, kp.seqT na h, hat, fin⟩)
  · have hc : d.toNat < z.cps.toList.length := by
      rw [List.length_map] at hd
      exact hd
    have e : atI z.cps.toList ((d.toNat : Nat) : Int) = some z.cps.toList[d.toNat] := atI_nat (by rw [List.getElem?_eq_getElem hc])
    rw [← ed] at e
    have e2 : (z.cps.toList.map (fun c => V.str ⟨#[c]⟩))[d.toNat] = V.str ⟨#[z.cps.toList[d.toNat]]⟩ := by rw [List.getElem_map]
    rw [e2] at fin
    exact .inr (.inr ⟨z, d, _, rfl, rfl, hz, e, fin⟩)
/-! two values that are equal and of the same kinds -/
abbrev sSame : Stmt := top 10
def Leaf : V → Prop
  | .non => True | .bl _ => True | .int _ => True | .str _ => True | _ => False
def Eqv (H : Hp) : Nat → V → V → Prop
  | 0, x, y => Leaf x ∧ x = y
  | n + 1, x, y => (Leaf x ∧ x = y) ∨ ∃ (a b : Addr) (xs ys : List V), x = .ref a ∧ y = .ref b ∧ xs.length = ys.length ∧ xs.length ≤ 100000 ∧ ((H a = some (.lst xs) ∧ H b = some (.lst ys)) ∨ (H a = some (.tup xs) ∧ H b = some (.tup ys))) ∧
      ∀ (i : Nat) (u v : V), xs[i]? = some u → ys[i]? = some v → Eqv H n u v
theorem Eqv.same {H H' : Hp} (s : Same H H') : ∀ {n : Nat} {x y : V}, Eqv H n x y → Eqv H' n x y
  | 0, _, _, h => h
  | n + 1, _, _, h => by
    rcases h with h | ⟨a, b, xs, ys, e1, e2, l, z, h, k⟩
    · exact .inl h
    · refine .inr ⟨a, b, xs, ys, e1, e2, l, z, ?_, fun i u v hu hv => Eqv.same s (k i u v hu hv)⟩
      rcases h with ⟨h1, h2⟩ | ⟨h1, h2⟩
      · exact .inl ⟨s _ _ h1, s _ _ h2⟩
      · exact .inr ⟨s _ _ h1, s _ _ h2⟩
theorem Eqv.leaf {H : Hp} {x : V} (h : Leaf x) : ∀ n, Eqv H n x x
  | 0 => ⟨h, rfl⟩
  | _ + 1 => .inl ⟨h, rfl⟩
def spSame : Nat → Sp
  | 0 => fun _ _ _ _ => False
  | n + 1 => fun vs H Q _ => ∃ (x y : V), vs = [x, y] ∧ Eqv H n x y ∧ ∀ H', Same H H' → Q (.bl true) H'
theorem kitLT {K : PySem.W.Frag} {a : String} {r1 r2 : Bool} (h1 : kitB a "list" = some r1) (h2 : kitB a "tuple" = some r2) : PySem.W.kitAny K (.type a) [.type "list", .type "tuple"] = some (r1 || r2) := by
  cases r1 with
  | true => exact kitAny_cons (kit_ty h1) (fun z => nomatch z) (fun _ => rfl)
  | false =>
    refine kitAny_cons (kit_ty h1) (fun _ => ?_) (fun z => nomatch z)
    cases r2 with
    | true => exact kitAny_cons (kit_ty h2) (fun z => nomatch z) (fun _ => rfl)
    | false => exact kitAny_cons (kit_ty h2) (fun _ => kitAny_nil) (fun z => nomatch z)
/-- a comprehension over zip, turn by turn -/
theorem lc_zipL {K : PySem.W.Frag} {a b : Addr} {xs ys : List V} {g : TG} {te : TE} {vs : List Nat} {σ : L2.St} {H1 : Hp} {D : Addr} {Qd : Hp → Prop} (hl : xs.length = ys.length) (Pv : Nat → Hp → Prop) (h0 : Pv 0 (upd H1 D (.lst []))) (hq : ∀ i H, Pv i H → SqL K H a xs ∧ SqL K H b ys)
    (hs : ∀ (i : Nat) (x y : V) (T : Addr) (H : Hp), xs[i]? = some x → ys[i]? = some y → Pv i H → H T = none → g (.ref T) (wipe σ vs) (upd H T (.tup [x, y])) fun σ2 H2 => wipe σ2 vs = wipe σ vs ∧ te σ2 H2 fun y H4 => ∃ acc, H4 D = some (.lst acc) ∧ acc.length < sizeLine ∧ Pv (i + 1) (upd H4 D (.lst (acc ++ [y])))) (hd : ∀ H, Pv xs.length H → Qd H) :
    ∃ W : Nat → Nat → Hp → Prop, (∃ m, W 0 m (upd H1 D (.lst []))) ∧ ∀ i m H, W i m H →
      ((Itz K a b).stop i H ∧ Qd H) ∨ ((Itz K a b).go i H ∧ ∃ Nx : Hp → Prop, (∀ H', Nx H' → ∃ m', m' < m ∧ W (i + 1) m' H') ∧ ∀ x H', (Itz K a b).yld i H x H' → g x (wipe σ vs) H' fun σ2 H2 => wipe σ2 vs = wipe σ vs ∧ tYes σ2 H2 fun b H3 =>
        if b = true then te σ2 H3 fun y H4 => ∃ acc, H4 D = some (.lst acc) ∧ acc.length < sizeLine ∧ Nx (upd H4 D (.lst (acc ++ [y]))) else Nx H3) := by
  refine ⟨fun i m H => m = xs.length - i ∧ i ≤ xs.length ∧ Pv i H, ⟨xs.length, rfl, Nat.zero_le _, h0⟩, ?_⟩
  rintro i m H ⟨rfl, hi, p⟩
  obtain ⟨qx, qy⟩ := hq i H p
  by_cases hlt : i < xs.length
  · have hx : xs[i]? = some xs[i] := List.getElem?_eq_getElem hlt
    have hlt2 : i < ys.length := by omega
    have hy : ys[i]? = some ys[i] := List.getElem?_eq_getElem hlt2
    refine .inr ⟨⟨xs, ys, _, _, qx, qy, hx, hy⟩, Pv (i + 1), fun H' p' => ⟨xs.length - (i + 1), by omega, rfl, hlt, p'⟩, fun v H' y => ?_⟩
    obtain ⟨T, x', y', rfl, hT, rfl, f1, f2⟩ := y
    exact hs i x' y' T H (f1 xs qx) (f2 ys qy) p hT
  · have e : i = xs.length := by omega
    subst e
    exact .inl ⟨⟨xs, ys, qx, qy, Or.inl (Nat.le_refl _)⟩, hd H p⟩
theorem lc_zipT {K : PySem.W.Frag} {a b : Addr} {xs ys : List V} {g : TG} {te : TE} {vs : List Nat} {σ : L2.St} {H1 : Hp} {D : Addr} {Qd : Hp → Prop} (hl : xs.length = ys.length) (Pv : Nat → Hp → Prop) (h0 : Pv 0 (upd H1 D (.lst []))) (hq : ∀ i H, Pv i H → SqT K H a xs ∧ SqT K H b ys)
    (hs : ∀ (i : Nat) (x y : V) (T : Addr) (H : Hp), xs[i]? = some x → ys[i]? = some y → Pv i H → H T = none → g (.ref T) (wipe σ vs) (upd H T (.tup [x, y])) fun σ2 H2 => wipe σ2 vs = wipe σ vs ∧ te σ2 H2 fun y H4 => ∃ acc, H4 D = some (.lst acc) ∧ acc.length < sizeLine ∧ Pv (i + 1) (upd H4 D (.lst (acc ++ [y])))) (hd : ∀ H, Pv xs.length H → Qd H) :
    ∃ W : Nat → Nat → Hp → Prop, (∃ m, W 0 m (upd H1 D (.lst []))) ∧ ∀ i m H, W i m H →
      ((RZ.ItzT K a b).stop i H ∧ Qd H) ∨ ((RZ.ItzT K a b).go i H ∧ ∃ Nx : Hp → Prop, (∀ H', Nx H' → ∃ m', m' < m ∧ W (i + 1) m' H') ∧ ∀ x H', (RZ.ItzT K a b).yld i H x H' → g x (wipe σ vs) H' fun σ2 H2 => wipe σ2 vs = wipe σ vs ∧ tYes σ2 H2 fun b H3 =>
        if b = true then te σ2 H3 fun y H4 => ∃ acc, H4 D = some (.lst acc) ∧ acc.length < sizeLine ∧ Nx (upd H4 D (.lst (acc ++ [y]))) else Nx H3) := by
  refine ⟨fun i m H => m = xs.length - i ∧ i ≤ xs.length ∧ Pv i H, ⟨xs.length, rfl, Nat.zero_le _, h0⟩, ?_⟩
  rintro i m H ⟨rfl, hi, p⟩
  obtain ⟨qx, qy⟩ := hq i H p
  by_cases hlt : i < xs.length
  · have hx : xs[i]? = some xs[i] := List.getElem?_eq_getElem hlt
    have hlt2 : i < ys.length := by omega
    have hy : ys[i]? = some ys[i] := List.getElem?_eq_getElem hlt2
    refine .inr ⟨⟨xs, ys, _, _, qx, qy, hx, hy⟩, Pv (i + 1), fun H' p' => ⟨xs.length - (i + 1), by omega, rfl, hlt, p'⟩, fun v H' y => ?_⟩
    obtain ⟨T, x', y', rfl, hT, rfl, f1, f2⟩ := y
    exact hs i x' y' T H (f1 xs qx) (f2 ys qy) p hT
  · have e : i = xs.length := by omega
    subst e
    exact .inl ⟨⟨xs, ys, qx, qy, Or.inl (Nat.le_refl _)⟩, hd H p⟩
/-- the built-in names that _law_same reads -/
structure SameTxt (mg : Str → Option Value) : Prop where
  isi : mg "isinstance" = none
  list : mg "list" = none
  tuple : mg "tuple" = none
  len : mg "len" = none
  all : mg "all" = none
  zip : mg "zip" = none
  bool : mg "bool" = none
  int : mg "int" = none
  str : mg "str" = none
theorem scSame : FnScope ["_law_found", "_law_due", "_law_one", "_law_two"] ["_law_found", "_law_due"] (defScope sSame) := ⟨rfl, rfl, rfl, by decide +kernel, rfl, by decide +kernel, by decide +kernel⟩
theorem all_true (n : Nat) : (List.replicate n true).all id = true := by
  induction n with
  | zero => rfl
  | succ n ih => rw [List.replicate_succ, List.all_cons, ih]; rfl
theorem ok_same {f : Addr} {fd : FuncData} {n : Nat} (F : Fun K "_law_same" "_law_same" sSame f fd) (T : SameTxt mg) (G : FnOk P w K mg base CX0 n f fd ["_law_found", "_law_due"] (spSame n)) (bG : Binds K fd ["_law_found", "_law_due"] []) (kG : PySem.W.keepIn K (.ref f) = true) (mG : mg "_law_same" = some (.ref f)) :
    FnOk P w K mg base CX0 (n + 1) f fd ["_law_found", "_law_due"] (spSame (n + 1)) := by
  refine F.ok scSame (fun vs H Q E h => ?_) (fun cdv A outer s H vs Q E hr h => ?_)
  · obtain ⟨x, y, rfl, _⟩ := h
    rfl
  obtain ⟨x, y, rfl, e, q⟩ := h
  refine ⟨_, pss_cons (ps_if (pt_val (pe_callB call_isiT (by rfl) T.isi (by decide +kernel) (pa_cons (pv 1) (pa_cons (pe_tup (pa_cons (pe_bltn (v := .ty "list") (by rfl) T.list (by decide +kernel) rfl) (pa_cons (pe_bltn (v := .ty "tuple") (by rfl) T.tuple (by decide +kernel) rfl) pa_nil))) pa_nil))))
      (pss_cons (ps_if (PW.pt (pw_or (pt_cmpR op_ne (pe_callB call_isi (by rfl) T.isi (by decide +kernel) (pa_cons (pv 0) (pa_cons (pe_bltn (v := .ty "list") (by rfl) T.list (by decide +kernel) rfl) pa_nil))) (pe_callB call_isi (by rfl) T.isi (by decide +kernel) (pa_cons (pv 1) (pa_cons (pe_bltn (v := .ty "list") (by rfl) T.list (by decide +kernel) rfl) pa_nil))) (nomark _))
          (pw_or1 (pt_cmpR op_ne (pe_callB call_isi (by rfl) T.isi (by decide +kernel) (pa_cons (pv 0) (pa_cons (pe_bltn (v := .ty "tuple") (by rfl) T.tuple (by decide +kernel) rfl) pa_nil))) (pe_callB call_isi (by rfl) T.isi (by decide +kernel) (pa_cons (pv 1) (pa_cons (pe_bltn (v := .ty "tuple") (by rfl) T.tuple (by decide +kernel) rfl) pa_nil))) (nomark _)))))
          (pss_one (ps_ret pe_bl)) pss_nil)
      (pss_one (ps_ret (pe_and (pe_cmpR op_eq (pe_callB call_len_seq (by rfl) T.len PySem.boot_len (pa_cons (pv 0) pa_nil)) (pe_callB call_len_seq (by rfl) T.len PySem.boot_len (pa_cons (pv 1) pa_nil)) (nomark _)) (pe_one (pe_callB (cr_all rfl) (by rfl) T.all (by decide +kernel) (pa_cons
          (pe_lc (own := [("_law_one", 2), ("_law_two", 3)]) (g := gTup K 2 (gCons (gName 2) (gCons (gName 3) gNil))) rfl scSame.nd (RZ.pi_zipA (by rfl) T.zip (pa_cons (pv 0) (pa_cons (pv 1) pa_nil))) (blkOk_by (own := [("_law_one", 2), ("_law_two", 3)]) (N := ["_law_found", "_law_due", "_law_one", "_law_two"]) (sc := defScope sSame) (by decide +kernel))
            (fun _ _ _ _ _ => pg_tup (n := 2) rfl (pgs_cons (pg_name (i := 2) scSame.nd rfl (Or.inl rfl) (Or.inr rfl)) (pgs_cons (pg_name (i := 3) scSame.nd rfl (Or.inl rfl) (Or.inr rfl)) pgs_nil))) (fun _ _ _ _ _ => pts_nil)
            (fun _ _ _ _ _ => pe_call G hr (by rfl) mG kG bG .nil pass0 (pa_cons (pv 2) (pa_cons (pv 3) pa_nil)))) pa_nil)))))))
      pss_nil)
    (pss_cons (ps_if (PW.pt (pw_or (pt_cmpR op_isN (pv 1) pe_non (nomark _)) (pw_or1 (pt_cmpR op_isN (pv 0) pe_non (nomark _))))) (pss_one (ps_ret (pe_and (pe_cmpR op_isN (pv 1) pe_non (nomark _)) (pe_one (pe_cmpR op_isN (pv 0) pe_non (nomark _)))))) pss_nil)
    (pss_cons (ps_if (PW.pt (pw_or (pt_cmpR op_ne (pe_callB call_isi (by rfl) T.isi (by decide +kernel) (pa_cons (pv 0) (pa_cons (pe_bltn (v := .ty "bool") (by rfl) T.bool (by decide +kernel) rfl) pa_nil))) (pe_callB call_isi (by rfl) T.isi (by decide +kernel) (pa_cons (pv 1) (pa_cons (pe_bltn (v := .ty "bool") (by rfl) T.bool (by decide +kernel) rfl) pa_nil))) (nomark _))
          (pw_or1 (pt_cmpR op_ne (pe_callB call_isi (by rfl) T.isi (by decide +kernel) (pa_cons (pv 0) (pa_cons (pe_bltn (v := .ty "int") (by rfl) T.int (by decide +kernel) rfl) pa_nil))) (pe_callB call_isi (by rfl) T.isi (by decide +kernel) (pa_cons (pv 1) (pa_cons (pe_bltn (v := .ty "int") (by rfl) T.int (by decide +kernel) rfl) pa_nil))) (nomark _)))))
          (pss_one (ps_ret pe_bl)) pss_nil)
    (pss_one (ps_ret (pe_and (pe_cmpR op_eq (pe_callB call_isi (by rfl) T.isi (by decide +kernel) (pa_cons (pv 0) (pa_cons (pe_bltn (v := .ty "str") (by rfl) T.str (by decide +kernel) rfl) pa_nil))) (pe_callB call_isi (by rfl) T.isi (by decide +kernel) (pa_cons (pv 1) (pa_cons (pe_bltn (v := .ty "str") (by rfl) T.str (by decide +kernel) rfl) pa_nil))) (nomark _)) (pe_one (pe_cmpR op_eq (pv 0) (pv 1) (nomark _)))))))), ?_⟩
  have ht : ∀ t, H t = none → Same H (upd H t (.tup [.ty "list", .ty "tuple"])) := fun t h => same_upd h _
  have hz : ([V.ty "list", V.ty "tuple"] : List V).length ≤ sizeLine := by show 2 ≤ sizeLine; decide
  have kinds : (Leaf x ∧ x = y) ∨ ∃ (m : Nat) (a b : Addr) (xs ys : List V), n = m + 1 ∧ x = .ref a ∧ y = .ref b ∧ xs.length = ys.length ∧ xs.length ≤ 100000 ∧ ((H a = some (.lst xs) ∧ H b = some (.lst ys)) ∨ (H a = some (.tup xs) ∧ H b = some (.tup ys))) ∧
      ∀ (i : Nat) (u v : V), xs[i]? = some u → ys[i]? = some v → Eqv H m u v := by
    cases n with
    | zero => exact .inl e
    | succ m =>
      rcases e with e | ⟨a, b, xs, ys, e⟩
      · exact .inl e
      · exact .inr ⟨m, a, b, xs, ys, rfl, e⟩
  rcases kinds with ⟨lx, exy⟩ | ⟨m, a, b, xs, ys, rfl, rfl, rfl, hl, h100, hk, el⟩
  · subst exy
    cases x with
    | non =>
      refine ⟨_, rfl, hz, fun t h => ?_⟩
      refine ⟨_, t, _, _, [.type "list", .type "tuple"], _, rfl, upd_same, .cons (.ty _) (.cons (.ty _) .nil), (.base .non), kitLT (r1 := false) (r2 := false) (by decide +kernel) (by decide +kernel), ?_⟩
      refine ⟨_, rfl, iteF ?_⟩
      refine ⟨_, rfl, rfl, _, rfl, iteT ?_⟩
      refine ⟨_, rfl, rfl, _, rfl, iteT ?_⟩
      refine ⟨_, rfl, rfl, ?_⟩
      exact q _ (ht t h)
    | bl z =>
      refine ⟨_, rfl, hz, fun t h => ?_⟩
      refine ⟨_, t, _, _, [.type "list", .type "tuple"], _, rfl, upd_same, .cons (.ty _) (.cons (.ty _) .nil), (.base (.bl z)), kitLT (r1 := false) (r2 := false) (by decide +kernel) (by decide +kernel), ?_⟩
      refine ⟨_, rfl, iteF ?_⟩
      refine ⟨_, rfl, rfl, _, rfl, iteF ?_⟩
      refine ⟨_, rfl, rfl, _, rfl, iteF ?_⟩
      refine ⟨_, rfl, _, _, _, _, true, rfl, .ty _, (.base (.bl z)), kit_ty (by decide +kernel), _, rfl, _, _, _, _, true, rfl, .ty _, (.base (.bl z)), kit_ty (by decide +kernel), rfl, _, rfl, iteF ?_⟩
      refine ⟨_, rfl, _, _, _, _, true, rfl, .ty _, (.base (.bl z)), kit_ty (by decide +kernel), _, rfl, _, _, _, _, true, rfl, .ty _, (.base (.bl z)), kit_ty (by decide +kernel), rfl, _, rfl, iteF ?_⟩
      refine ⟨_, rfl, _, _, _, _, false, rfl, .ty _, (.base (.bl z)), kit_ty (by decide +kernel), _, rfl, _, _, _, _, false, rfl, .ty _, (.base (.bl z)), kit_ty (by decide +kernel), rfl, _, rfl, iteT ?_⟩
      refine ⟨_, rfl, _, rfl, rfl, ?_⟩
      rw [decide_eq_true rfl]
      exact q _ (ht t h)
    | int z =>
      refine ⟨_, rfl, hz, fun t h => ?_⟩
      refine ⟨_, t, _, _, [.type "list", .type "tuple"], _, rfl, upd_same, .cons (.ty _) (.cons (.ty _) .nil), (.base (.int z)), kitLT (r1 := false) (r2 := false) (by decide +kernel) (by decide +kernel), ?_⟩
      refine ⟨_, rfl, iteF ?_⟩
      refine ⟨_, rfl, rfl, _, rfl, iteF ?_⟩
      refine ⟨_, rfl, rfl, _, rfl, iteF ?_⟩
      refine ⟨_, rfl, _, _, _, _, false, rfl, .ty _, (.base (.int z)), kit_ty (by decide +kernel), _, rfl, _, _, _, _, false, rfl, .ty _, (.base (.int z)), kit_ty (by decide +kernel), rfl, _, rfl, iteF ?_⟩
      refine ⟨_, rfl, _, _, _, _, true, rfl, .ty _, (.base (.int z)), kit_ty (by decide +kernel), _, rfl, _, _, _, _, true, rfl, .ty _, (.base (.int z)), kit_ty (by decide +kernel), rfl, _, rfl, iteF ?_⟩
      refine ⟨_, rfl, _, _, _, _, false, rfl, .ty _, (.base (.int z)), kit_ty (by decide +kernel), _, rfl, _, _, _, _, false, rfl, .ty _, (.base (.int z)), kit_ty (by decide +kernel), rfl, _, rfl, iteT ?_⟩
      refine ⟨_, rfl, _, rfl, rfl, ?_⟩
      rw [decide_eq_true rfl]
      exact q _ (ht t h)
    | str z =>
      refine ⟨_, rfl, hz, fun t h => ?_⟩
      refine ⟨_, t, _, _, [.type "list", .type "tuple"], _, rfl, upd_same, .cons (.ty _) (.cons (.ty _) .nil), (.base (.str z)), kitLT (r1 := false) (r2 := false) (by decide +kernel) (by decide +kernel), ?_⟩
      refine ⟨_, rfl, iteF ?_⟩
      refine ⟨_, rfl, rfl, _, rfl, iteF ?_⟩
      refine ⟨_, rfl, rfl, _, rfl, iteF ?_⟩
      refine ⟨_, rfl, _, _, _, _, false, rfl, .ty _, (.base (.str z)), kit_ty (by decide +kernel), _, rfl, _, _, _, _, false, rfl, .ty _, (.base (.str z)), kit_ty (by decide +kernel), rfl, _, rfl, iteF ?_⟩
      refine ⟨_, rfl, _, _, _, _, false, rfl, .ty _, (.base (.str z)), kit_ty (by decide +kernel), _, rfl, _, _, _, _, false, rfl, .ty _, (.base (.str z)), kit_ty (by decide +kernel), rfl, _, rfl, iteF ?_⟩
      refine ⟨_, rfl, _, _, _, _, true, rfl, .ty _, (.base (.str z)), kit_ty (by decide +kernel), _, rfl, _, _, _, _, true, rfl, .ty _, (.base (.str z)), kit_ty (by decide +kernel), rfl, _, rfl, iteT ?_⟩
      refine ⟨_, rfl, _, rfl, rfl, ?_⟩
      rw [decide_eq_true rfl]
      exact q _ (ht t h)
    | _ => exact lx.elim
  · -- what a turn brings: the item's answer True is appended
    have turn : ∀ (D : Addr), H D = none → ∀ (i : Nat) (u v : V) (T : Addr) (H2 : Hp), xs[i]? = some u → ys[i]? = some v → (Same H H2 ∧ H2 D = some (.lst (List.replicate i (.bl true)))) → H2 T = none → True := fun _ _ _ _ _ _ _ _ _ _ _ => trivial
    rcases hk with ⟨ha, hb⟩ | ⟨ha, hb⟩
    · refine ⟨_, rfl, hz, fun t h => ?_⟩
      have s1 := ht t h
      refine ⟨_, t, _, _, [.type "list", .type "tuple"], _, rfl, upd_same, .cons (.ty _) (.cons (.ty _) .nil), (.base (.lst (s1 _ _ hb))), kitLT (r1 := true) (r2 := false) (by decide +kernel) (by decide +kernel), ?_⟩
      refine ⟨_, rfl, iteT ?_⟩
      refine ⟨_, rfl, _, _, _, _, true, rfl, .ty _, (.base (.lst (s1 _ _ ha))), kit_ty (by decide +kernel), _, rfl, _, _, _, _, true, rfl, .ty _, (.base (.lst (s1 _ _ hb))), kit_ty (by decide +kernel), rfl, _, rfl, iteF ?_⟩
      refine ⟨_, rfl, _, _, _, _, false, rfl, .ty _, (.base (.lst (s1 _ _ ha))), kit_ty (by decide +kernel), _, rfl, _, _, _, _, false, rfl, .ty _, (.base (.lst (s1 _ _ hb))), kit_ty (by decide +kernel), rfl, _, rfl, iteF ?_⟩
      refine ⟨_, rfl, a, _, rfl, .inl (SqL.of (s1 _ _ ha)), _, rfl, b, _, rfl, .inl (SqL.of (s1 _ _ hb)), rfl, _, rfl, ?_⟩
      rw [show decide (V.int ((xs.length : Nat) : Int) = V.int ((ys.length : Nat) : Int)) = true from decide_eq_true (by rw [hl])]
      refine iteT ?_
      refine ⟨_, rfl, _, rfl, a, b, xs, ys, rfl, .inl ⟨SqL.of (s1 _ _ ha), SqL.of (s1 _ _ hb), fun D hD => ?_⟩⟩
      have s2 := s1.trans (same_upd hD (.lst []))
      refine lc_zipL hl (fun i H2 => Same H H2 ∧ H2 D = some (.lst (List.replicate i (.bl true)))) ⟨s2, upd_same⟩ (fun i H2 ⟨s3, _⟩ => ⟨SqL.of (s3 _ _ ha), SqL.of (s3 _ _ hb)⟩) (fun i u v T H2 hu hv ⟨s3, hD2⟩ hT => ?_) (fun H2 ⟨s3, hD2⟩ => ?_)
      · refine ⟨T, [u, v], rfl, SqT.of upd_same, rfl, u, [v], rfl, v, [], rfl, rfl, rfl, ?_⟩
        have s4 := s3.trans (same_upd hT (.tup [u, v]))
        refine ⟨_, rfl, _, rfl, u, v, rfl, (el i u v hu hv).same s4, fun H3 s5 => ?_⟩
        have hDT : D ≠ T := ne_of_none hD2 hT
        refine ⟨_, s5 _ _ (by rw [upd_ne hDT]; exact hD2), ?_, fun c o e => ?_, ?_⟩
        · rw [List.length_replicate]
          have : i < xs.length := (List.getElem?_eq_some_iff.mp hu).1
          exact Nat.lt_of_lt_of_le (show i < 100000 by omega) (by decide)
        · have nc : c ≠ D := ne_of_none e (s1.free hD)
          rw [upd_ne nc]
          exact s5 _ _ (s4 _ _ e)
        · rw [upd_same, ← List.replicate_succ']
      · refine ⟨D, List.replicate xs.length true, rfl, SqL.of (by rw [hD2, List.map_replicate]), ?_⟩
        rw [all_true]
        exact q _ s3
    · refine ⟨_, rfl, hz, fun t h => ?_⟩
      have s1 := ht t h
      refine ⟨_, t, _, _, [.type "list", .type "tuple"], _, rfl, upd_same, .cons (.ty _) (.cons (.ty _) .nil), (.base (.tup (s1 _ _ hb))), kitLT (r1 := false) (r2 := true) (by decide +kernel) (by decide +kernel), ?_⟩
      refine ⟨_, rfl, iteT ?_⟩
      refine ⟨_, rfl, _, _, _, _, false, rfl, .ty _, (.base (.tup (s1 _ _ ha))), kit_ty (by decide +kernel), _, rfl, _, _, _, _, false, rfl, .ty _, (.base (.tup (s1 _ _ hb))), kit_ty (by decide +kernel), rfl, _, rfl, iteF ?_⟩
      refine ⟨_, rfl, _, _, _, _, true, rfl, .ty _, (.base (.tup (s1 _ _ ha))), kit_ty (by decide +kernel), _, rfl, _, _, _, _, true, rfl, .ty _, (.base (.tup (s1 _ _ hb))), kit_ty (by decide +kernel), rfl, _, rfl, iteF ?_⟩
      refine ⟨_, rfl, a, _, rfl, .inr (SqT.of (s1 _ _ ha)), _, rfl, b, _, rfl, .inr (SqT.of (s1 _ _ hb)), rfl, _, rfl, ?_⟩
      rw [show decide (V.int ((xs.length : Nat) : Int) = V.int ((ys.length : Nat) : Int)) = true from decide_eq_true (by rw [hl])]
      refine iteT ?_
      refine ⟨_, rfl, _, rfl, a, b, xs, ys, rfl, .inr ⟨SqT.of (s1 _ _ ha), SqT.of (s1 _ _ hb), fun D hD => ?_⟩⟩
      have s2 := s1.trans (same_upd hD (.lst []))
      refine lc_zipT hl (fun i H2 => Same H H2 ∧ H2 D = some (.lst (List.replicate i (.bl true)))) ⟨s2, upd_same⟩ (fun i H2 ⟨s3, _⟩ => ⟨SqT.of (s3 _ _ ha), SqT.of (s3 _ _ hb)⟩) (fun i u v T H2 hu hv ⟨s3, hD2⟩ hT => ?_) (fun H2 ⟨s3, hD2⟩ => ?_)
      · refine ⟨T, [u, v], rfl, SqT.of upd_same, rfl, u, [v], rfl, v, [], rfl, rfl, rfl, ?_⟩
        have s4 := s3.trans (same_upd hT (.tup [u, v]))
        refine ⟨_, rfl, _, rfl, u, v, rfl, (el i u v hu hv).same s4, fun H3 s5 => ?_⟩
        have hDT : D ≠ T := ne_of_none hD2 hT
        refine ⟨_, s5 _ _ (by rw [upd_ne hDT]; exact hD2), ?_, fun c o e => ?_, ?_⟩
        · rw [List.length_replicate]
          have : i < xs.length := (List.getElem?_eq_some_iff.mp hu).1
          exact Nat.lt_of_lt_of_le (show i < 100000 by omega) (by decide)
        · have nc : c ≠ D := ne_of_none e (s1.free hD)
          rw [upd_ne nc]
          exact s5 _ _ (s4 _ _ e)
        · rw [upd_same, ← List.replicate_succ']
      · refine ⟨D, List.replicate xs.length true, rfl, SqL.of (by rw [hD2, List.map_replicate]), ?_⟩
        rw [all_true]
        exact q _ s3
theorem no_same {f : Addr} {fd : FuncData} : FnOk P w K mg base CX0 0 f fd ["_law_found", "_law_due"] (spSame 0) :=
  ⟨fun vs H Q E h => False.elim h, fun A outer s H args us vs Q E _ _ _ _ h => False.elim h⟩
theorem all_same {f : Addr} {fd : FuncData} (F : Fun K "_law_same" "_law_same" sSame f fd) (T : SameTxt mg) (bG : Binds K fd ["_law_found", "_law_due"] []) (mG : mg "_law_same" = some (.ref f)) :
    ∀ n, FnOk P w K mg base CX0 n f fd ["_law_found", "_law_due"] (spSame n)
  | 0 => no_same
  | n + 1 => ok_same F T (all_same F T bG mG n) bG F.kp mG
/-! ### names and numbers -/
abbrev sIsName : Stmt := top 3
abbrev sIsInteger : Stmt := top 4
abbrev sIsNumber : Stmt := top 5
abbrev letters : Str := "abcdefghijklmnopqrstuvwxyz"
def lowB (z : Str) : Bool := z.cps.toList.all fun c => decide (c ∈ letters.cps.toList)
def nameB (z : Str) : Bool := decide ((1 : Int) ≤ (z.length : Int)) && decide ((z.length : Int) ≤ 4) && lowB z
/-- a comprehension over a text, sign by sign -/
theorem lc_str {z : Str} {g : TG} {te : TE} {vs : List Nat} {σ : L2.St} {H1 : Hp} {D : Addr} {Qd : Hp → Prop} (Pv : Nat → Hp → Prop) (h0 : Pv 0 (upd H1 D (.lst [])))
    (hs : ∀ (i : Nat) (c : Nat) (H : Hp), z.cps.toList[i]? = some c → Pv i H → g (.str ⟨#[c]⟩) (wipe σ vs) H fun σ2 H2 => wipe σ2 vs = wipe σ vs ∧ te σ2 H2 fun y H4 => ∃ acc, H4 D = some (.lst acc) ∧ acc.length < sizeLine ∧ Pv (i + 1) (upd H4 D (.lst (acc ++ [y])))) (hd : ∀ H, Pv z.cps.toList.length H → Qd H) :
    ∃ W : Nat → Nat → Hp → Prop, (∃ m, W 0 m (upd H1 D (.lst []))) ∧ ∀ i m H, W i m H →
      ((Its z).stop i H ∧ Qd H) ∨ ((Its z).go i H ∧ ∃ Nx : Hp → Prop, (∀ H', Nx H' → ∃ m', m' < m ∧ W (i + 1) m' H') ∧ ∀ x H', (Its z).yld i H x H' → g x (wipe σ vs) H' fun σ2 H2 => wipe σ2 vs = wipe σ vs ∧ tYes σ2 H2 fun b H3 =>
        if b = true then te σ2 H3 fun y H4 => ∃ acc, H4 D = some (.lst acc) ∧ acc.length < sizeLine ∧ Nx (upd H4 D (.lst (acc ++ [y]))) else Nx H3) := by
  have hsz : z.cps.size = z.cps.toList.length := (Array.length_toList).symm
  refine ⟨fun i m H => m = z.cps.toList.length - i ∧ i ≤ z.cps.toList.length ∧ Pv i H, ⟨z.cps.toList.length, rfl, Nat.zero_le _, h0⟩, ?_⟩
  rintro i m H ⟨rfl, hi, p⟩
  by_cases hlt : i < z.cps.toList.length
  · refine .inr ⟨(by show i < z.cps.size; omega), Pv (i + 1), fun H' p' => ⟨z.cps.toList.length - (i + 1), by omega, rfl, hlt, p'⟩, fun v H' y => ?_⟩
    obtain ⟨rfl, c, hc, rfl⟩ := y
    refine hs i c H' ?_ p
    rw [Array.getElem?_toList]
    exact hc
  · have e : i = z.cps.toList.length := by omega
    subst e
    exact .inl ⟨(by show z.cps.size ≤ _; omega), hd H p⟩
theorem kSq {z : Str} {i : Nat} {c : Nat} (f : Nat → Bool) (h : z.cps.toList[i]? = some c) : (z.cps.toList.take (i + 1)).map f = (z.cps.toList.take i).map f ++ [f c] := by
  rw [List.take_add_one, h, List.map_append]
  rfl
def spName (K : PySem.W.Frag) : Sp := fun vs H Q _ => ∃ x : V, vs = [x] ∧ ((∃ z : Str, x = .str z ∧ z.length ≤ 1000 ∧ ∀ H', Same H H' → Q (.bl (nameB z)) H') ∨
  (∃ t : String, TyX K H x (.type t) ∧ kitB t "str" = some false ∧ ∀ H', Same H H' → Q (.bl false) H'))
structure NameTxt (mg : Str → Option Value) : Prop where
  isi : mg "isinstance" = none
  str : mg "str" = none
  int : mg "int" = none
  bool : mg "bool" = none
  len : mg "len" = none
  all : mg "all" = none
  low : ∃ t, mg "LETTERS" = some (.str letters t)
  most : ∃ t, mg "LONGEST_NAME" = some (.int 4 t)
theorem scName : FnScope ["value", "letter"] ["value"] (defScope sIsName) := ⟨rfl, rfl, rfl, by decide +kernel, rfl, by decide +kernel, by decide +kernel⟩
theorem ok_isname {f : Addr} {fd : FuncData} (F : Fun K "is_name" "is_name" sIsName f fd) (T : NameTxt mg) : FnOk P w K mg base CX0 1 f fd ["value"] (spName K) := by
  refine F.ok scName (fun vs H Q E h => ?_) (fun cdv A outer s H vs Q E hr h => ?_)
  · obtain ⟨x, rfl, _⟩ := h
    rfl
  obtain ⟨x, rfl, h⟩ := h
  obtain ⟨tl, mlow⟩ := T.low
  obtain ⟨tm, mmost⟩ := T.most
  refine ⟨_, pss_cons (ps_if (PW.pt (pw_or (pt_not (pt_val (pe_callB call_isi (by rfl) T.isi (by decide +kernel) (pa_cons (pv 0) (pa_cons (pe_bltn (v := .ty "str") (by rfl) T.str (by decide +kernel) rfl) pa_nil)))))
        (pw_or1 (pt_not (pt_chain op_le op_le pe_int (pe_callB call_len (by rfl) T.len PySem.boot_len (pa_cons (pv 0) pa_nil)) (pe_glob (v := .int 4) (by rfl) mmost ⟨_, rfl⟩))))))
      (pss_one (ps_ret pe_bl)) pss_nil)
    (pss_one (ps_ret (pe_callB (cr_all rfl) (by rfl) T.all (by decide +kernel) (pa_cons
      (pe_lc (own := [("letter", 1)]) (g := gName 1) rfl scName.nd (pi_str (pv 0)) (blkOk_by (own := [("letter", 1)]) (N := ["value", "letter"]) (sc := defScope sIsName) (by decide +kernel))
        (fun _ _ _ _ _ => pg_name (i := 1) scName.nd rfl (Or.inl rfl) (Or.inr rfl)) (fun _ _ _ _ _ => pts_nil)
        (fun _ _ _ _ _ => pe_cmpR op_in_sign (pv 1) (pe_glob (v := .str letters) (by rfl) mlow ⟨_, rfl⟩) rfl)) pa_nil)))), ?_⟩
  rcases h with ⟨z, rfl, hz, q⟩ | ⟨t, ty, hk, q⟩
  · have hzl : z.length ≤ sizeLine := Nat.le_of_lt (small1000 hz)
    refine ⟨_, rfl, _, _, _, _, true, rfl, .ty _, .base (.str z), kit_ty (by decide +kernel), _, rfl, ?_⟩
    refine iteF ?_
    refine ⟨_, rfl, _, z.length, rfl, ⟨hzl, rfl⟩, 1, _, rfl, rfl, _, rfl, ?_⟩
    refine ite2 (fun h1 => ?_) (fun h1 => ?_)
    · refine ⟨_, 4, rfl, rfl, _, rfl, ?_⟩
      cases h2 : decide ((z.length : Int) ≤ 4) with
      | false =>
        refine iteT ?_
        have e : nameB z = false := by unfold nameB; rw [h2, Bool.and_false, Bool.false_and]
        rw [← e]
        exact q _ (Same.refl H)
      | true =>
        refine iteF ?_
        refine ⟨_, rfl, z, rfl, fun D hD => ?_⟩
        have s1 := same_upd hD (.lst [])
        refine lc_str (fun i H2 => Same H H2 ∧ H2 D = some (.lst (((z.cps.toList.take i).map fun c => decide (c ∈ letters.cps.toList)).map V.bl))) ⟨s1, upd_same⟩ (fun i c H2 hc ⟨s2, hD2⟩ => ?_) (fun H2 ⟨s2, hD2⟩ => ?_)
        · refine ⟨rfl, _, rfl, c, letters, rfl, rfl, _, hD2, ?_, fun a o e => ?_, ?_⟩
          · rw [List.length_map, List.length_map, List.length_take]
            have : z.cps.toList.length = z.length := (str_len z).symm
            exact Nat.lt_of_le_of_lt (Nat.min_le_right _ _) (by rw [this]; exact small1000 hz)
          · rw [upd_ne (ne_of_none e hD)]
            exact s2 _ _ e
          · rw [upd_same, kSq _ hc, List.map_append]
            rfl
        · rw [List.take_length] at hD2
          refine ⟨D, _, rfl, SqL.of hD2, ?_⟩
          have e : nameB z = ((z.cps.toList.map fun c => decide (c ∈ letters.cps.toList)).all id) := by
            have h1' : decide ((1 : Int) ≤ (z.length : Int)) = true := h1
            unfold nameB lowB
            rw [h2, h1', List.all_map]
            rfl
          rw [← e]
          exact q _ s2
    · have h1' : decide ((1 : Int) ≤ (z.length : Int)) = false := Bool.eq_false_iff.mpr h1
      refine ⟨_, rfl, iteT ?_⟩
      have e : nameB z = false := by unfold nameB; rw [h1', Bool.false_and, Bool.false_and]
      rw [← e]
      exact q _ (Same.refl H)
  · refine ⟨_, rfl, _, _, _, _, false, rfl, .ty _, ty, kit_ty hk, _, rfl, ?_⟩
    refine iteT (iteT ?_)
    exact q _ (Same.refl H)
def spInteger (K : PySem.W.Frag) : Sp := fun vs H Q _ => ∃ (x : V) (t : String) (bi bb : Bool), vs = [x] ∧ TyX K H x (.type t) ∧ kitB t "int" = some bi ∧ kitB t "bool" = some bb ∧ Q (.bl (bi && !bb)) H
theorem scInteger : FnScope ["value"] ["value"] (defScope sIsInteger) := ⟨rfl, rfl, rfl, by decide +kernel, rfl, by decide +kernel, by decide +kernel⟩
theorem ok_isinteger {f : Addr} {fd : FuncData} (F : Fun K "is_integer" "is_integer" sIsInteger f fd) (T : NameTxt mg) : FnOk P w K mg base CX0 1 f fd ["value"] (spInteger K) := by
  refine F.ok scInteger (fun vs H Q E h => ?_) (fun cdv A outer s H vs Q E hr h => ?_)
  · obtain ⟨x, t, bi, bb, rfl, _⟩ := h
    rfl
  obtain ⟨x, t, bi, bb, rfl, ty, h1, h2, q⟩ := h
  refine ⟨_, pss_one (ps_ret (pe_and (pe_callB call_isi (by rfl) T.isi (by decide +kernel) (pa_cons (pv 0) (pa_cons (pe_bltn (v := .ty "int") (by rfl) T.int (by decide +kernel) rfl) pa_nil)))
    (pe_one (pe_not (pe_callB call_isi (by rfl) T.isi (by decide +kernel) (pa_cons (pv 0) (pa_cons (pe_bltn (v := .ty "bool") (by rfl) T.bool (by decide +kernel) rfl) pa_nil))))))), ?_⟩
  refine ⟨_, rfl, _, _, _, _, bi, rfl, .ty _, ty, kit_ty h1, _, rfl, ?_⟩
  cases bi with
  | true =>
    refine iteT ?_
    exact ⟨_, rfl, _, _, _, _, bb, rfl, .ty _, ty, kit_ty h2, _, rfl, q⟩
  | false => exact iteF q
def spNumber (K : PySem.W.Frag) : Sp := fun vs H Q _ => ∃ (x : V) (lo hi : Int), vs = [x, .int lo, .int hi] ∧ ((∃ i, x = .int i ∧ Q (.bl (decide (lo ≤ i) && decide (i ≤ hi))) H) ∨
  (∃ (t : String) (bi bb : Bool), TyX K H x (.type t) ∧ kitB t "int" = some bi ∧ kitB t "bool" = some bb ∧ (bi && !bb) = false ∧ Q (.bl false) H))
theorem scNumber : FnScope ["value", "least", "most"] ["value", "least", "most"] (defScope sIsNumber) := ⟨rfl, rfl, rfl, by decide +kernel, rfl, by decide +kernel, by decide +kernel⟩
theorem ok_isnumber {f g : Addr} {fd gd : FuncData} (F : Fun K "is_number" "is_number" sIsNumber f fd) (G : FnOk P w K mg base CX0 1 g gd ["value"] (spInteger K)) (bG : Binds K gd ["value"] []) (kG : PySem.W.keepIn K (.ref g) = true) (mG : mg "is_integer" = some (.ref g)) :
    FnOk P w K mg base CX0 2 f fd ["value", "least", "most"] (spNumber K) := by
  refine F.ok scNumber (fun vs H Q E h => ?_) (fun cdv A outer s H vs Q E hr h => ?_)
  · obtain ⟨x, lo, hi, rfl, _⟩ := h
    rfl
  obtain ⟨x, lo, hi, rfl, h⟩ := h
  refine ⟨_, pss_one (ps_ret (pe_and (pe_call G hr (by rfl) mG kG bG .nil pass0 (pa_cons (pv 0) pa_nil)) (pe_one (pe_chain op_le op_le (pv 1) (pv 0) (pv 2))))), ?_⟩
  rcases h with ⟨i, rfl, q⟩ | ⟨t, bi, bb, ty, h1, h2, h3, q⟩
  · refine ⟨_, rfl, _, "int", true, false, rfl, .base (.int i), by decide +kernel, by decide +kernel, _, rfl, iteT ?_⟩
    refine ⟨_, rfl, _, rfl, lo, i, rfl, rfl, _, rfl, ?_⟩
    cases h : decide (lo ≤ i) with
    | true =>
      rw [h, Bool.true_and] at q
      exact iteT ⟨_, rfl, i, hi, rfl, rfl, q⟩
    | false =>
      rw [h, Bool.false_and] at q
      exact iteF q
  · refine ⟨_, rfl, _, t, bi, bb, rfl, ty, h1, h2, _, rfl, ?_⟩
    rw [h3]
    exact iteF q
/-! ### names -/
abbrev sNames : Stmt := top 11
theorem tlen (z : Str) : z.length = (tl z).length := str_len z
theorem lowB_tl (z : Str) : lowB z = (tl z).all fun c => decide (c ∈ letters.cps.toList) := rfl
theorem lowB_of {z : Str} (h : ∀ c ∈ tl z, c ∈ letters.cps.toList) : lowB z = true := by
  rw [lowB_tl, List.all_eq_true]
  intro c hc
  exact decide_eq_true (h c hc)
theorem tl_cut (z : Str) (lo hi : Option Int) : tl (cutS z lo hi) = ((tl z).drop (HT.sIx z.length 0 lo)).take (HT.sIx z.length z.length hi - HT.sIx z.length 0 lo) := rfl
theorem tl_cut_to (z : Str) (k : Int) (h0 : 0 ≤ k) (h1 : k ≤ (z.length : Int)) : tl (cutS z none (some k)) = (tl z).take k.toNat := by
  obtain ⟨n, rfl⟩ : ∃ n : Nat, k = (n : Int) := ⟨k.toNat, by omega⟩
  rw [tl_cut, HT.sIx_none, HT.sIx_nat, List.drop_zero, Nat.sub_zero, Int.toNat_natCast, Nat.min_eq_left (by omega)]
theorem tl_cut_from (z : Str) (k : Int) (h0 : 0 ≤ k) (h1 : k ≤ (z.length : Int)) : tl (cutS z (some k) none) = (tl z).drop k.toNat := by
  obtain ⟨n, rfl⟩ : ∃ n : Nat, k = (n : Int) := ⟨k.toNat, by omega⟩
  rw [tl_cut, HT.sIx_none, HT.sIx_nat, Int.toNat_natCast, Nat.min_eq_left (by omega), List.take_of_length_le]
  rw [List.length_drop, tlen]
  exact Nat.le_refl _
theorem glue_signs : ∀ cs : List Nat, tl (Txt.join Str.empty (cs.map fun c => (⟨#[c]⟩ : Str))) = cs := by
  have h : ∀ cs : List Nat, joinL [] (cs.map fun c => [c]) = cs := by
    intro cs
    induction cs with
    | nil => rfl
    | cons x r ih =>
      cases r with
      | nil => rfl
      | cons y r => 
        show [x] ++ ([] ++ joinL [] ((y :: r).map fun c => [c])) = x :: y :: r
        rw [ih]
        rfl
  intro cs
  show tl (Builtin.Str.glued _ _) = _
  rw [StrLaws.glued_eq_join, tl_join, List.map_map]
  exact h cs
structure IsNm (z : Str) : Prop where
  low : ∀ c ∈ tl z, c ∈ letters.cps.toList
  l1 : 1 ≤ z.length
  l4 : z.length ≤ 4
def spNames : Sp := fun vs H Q _ => ∃ (b c : Addr) (many : Int), vs = [.ref b, .int many] ∧ Bag H b c ∧ 0 ≤ many ∧ many ≤ 26 ∧
  ∀ (l : Addr) (ws : List Str) (H' : Hp), (ws.length : Int) = many → (∀ z ∈ ws, IsNm z) → Bag H' b c → Kp b H H' → H l = none → H' l = some (.lst (ws.map V.str)) → Q (.ref l) H'
theorem Kp.new {b p : Addr} {H H' : Hp} (k : Kp b H H') (hp : H' p = none) (o : HO) : Kp b H (upd H' p o) := fun a u h n => by rw [upd_ne (ne_of_none (k a u h n) hp)]; exact k a u h n
theorem Kp.free {b c p : Addr} {H H' : Hp} (k : Kp b H H') (B : Bag H' b c) (hp : H' p = none) : H p = none := by
  have hb : p ≠ b := B.fresh hp
  cases e : H p with
  | none => rfl
  | some o =>
    rw [k p o e hb] at hp
    cases hp
theorem Bag.ne_new {H : Hp} {b c q : Addr} (B : Bag H b c) (h : H q = none) : b ≠ q ∧ c ≠ q := by
  obtain ⟨ns, p, r, s, k, B⟩ := B
  exact ⟨ne_of_none B.lb h, ne_of_none B.lc h⟩
theorem Bag.wr {H : Hp} {b c q : Addr} (B : Bag H b c) (n : b ≠ q ∧ c ≠ q) (o : HO) : Bag (upd H q o) b c := by
  obtain ⟨ns, p, r, s, k, B⟩ := B
  exact ⟨ns, p, r, s, k, by rw [upd_ne n.1]; exact B.lb, by rw [upd_ne n.2]; exact B.lc, B.nl, B.p0, B.s0, B.s1, B.r0⟩
theorem Kp.wr {b p : Addr} {H H' : Hp} (k : Kp b H H') (hp : H p = none) (o : HO) : Kp b H (upd H' p o) := fun a u h n => by rw [upd_ne (ne_of_none h hp)]; exact k a u h n
theorem scNames : FnScope ["_law_bag_here", "_law_many", "_law_letters", "_law_stem", "_law_at", "_law_first", "_law_k"] ["_law_bag_here", "_law_many"] (defScope sNames) := ⟨rfl, rfl, rfl, by decide +kernel, rfl, by decide +kernel, by decide +kernel⟩
theorem ok_names {f gp ga : Addr} {fd gpd gad : FuncData} (F : Fun K "_law_names" "_law_names" sNames f fd) (GP : FnOk P w K mg base CX0 1 gp gpd ["_law_bag_here", "_law_many"] spPull) (bP : Binds K gpd ["_law_bag_here", "_law_many"] []) (kP : PySem.W.keepIn K (.ref gp) = true) (mP : mg "_law_pull" = some (.ref gp))
    (GA : FnOk P w K mg base CX0 2 ga gad ["_law_bag_here", "_law_things"] (spAny K)) (bA : Binds K gad ["_law_bag_here", "_law_things"] []) (kA : PySem.W.keepIn K (.ref ga) = true) (mA : mg "_law_any" = some (.ref ga)) (mlen : mg "len" = none) (mint : mg "int" = none) (mrange : mg "range" = none) :
    FnOk P w K mg base CX0 3 f fd ["_law_bag_here", "_law_many"] spNames := by
  refine F.ok scNames (fun vs H Q E h => ?_) (fun cdv A outer s H vs Q E hr h => ?_)
  · obtain ⟨b, c, many, rfl, _⟩ := h
    rfl
  obtain ⟨b, c, many, rfl, B, m0, m1, q⟩ := h
  have hr1 : Room 1 _ := hr.mono (by decide)
  refine ⟨_, pss_cons (ps_set (i := 2) scNames.nd rfl (Or.inr rfl) pe_str)
    (pss_cons (ps_set (i := 3) scNames.nd rfl (Or.inr rfl) (pe_join pe_str (pe_lc (own := [("_law_k", 6)]) (g := gName 6) rfl scNames.nd (pi_range1 (by rfl) mrange (pa_cons (pe_call GP hr1 (by rfl) mP kP bP .nil pass0 (pa_cons (pv 0) (pa_cons pe_int pa_nil))) pa_nil))
        (blkOk_by (own := [("_law_k", 6)]) (N := ["_law_bag_here", "_law_many", "_law_letters", "_law_stem", "_law_at", "_law_first", "_law_k"]) (sc := defScope sNames) (by decide +kernel))
        (fun _ _ _ _ _ => pg_name (i := 6) scNames.nd rfl (Or.inl rfl) (Or.inr rfl)) (fun _ _ _ _ _ => pts_nil)
        (fun _ _ _ _ _ => pe_call GA hr (by rfl) mA kA bA .nil pass0 (pa_cons (pv 0) (pa_cons (pv 2) pa_nil))))))
    (pss_cons (ps_asg (pe_tup (pa_cons (pe_call GP hr1 (by rfl) mP kP bP .nil pass0 (pa_cons (pv 0) (pa_cons (pe_op op_add (pe_callB call_len (by rfl) mlen PySem.boot_len (pa_cons (pv 3) pa_nil)) pe_int) pa_nil))) (pa_cons (pe_call GP hr1 (by rfl) mP kP bP .nil pass0 (pa_cons (pv 0) (pa_cons pe_int pa_nil))) pa_nil)))
        (pg_tup (n := 2) rfl (pgs_cons (pg_name (i := 4) scNames.nd rfl (Or.inr rfl) (Or.inl rfl)) (pgs_cons (pg_name (i := 5) scNames.nd rfl (Or.inr rfl) (Or.inl rfl)) pgs_nil))))
    (pss_one (ps_ret (pe_lc (own := [("_law_k", 6)]) (g := gName 6) rfl scNames.nd (pi_range1 (by rfl) mrange (pa_cons (pv 1) pa_nil))
        (blkOk_by (own := [("_law_k", 6)]) (N := ["_law_bag_here", "_law_many", "_law_letters", "_law_stem", "_law_at", "_law_first", "_law_k"]) (sc := defScope sNames) (by decide +kernel))
        (fun _ _ _ _ _ => pg_name (i := 6) scNames.nd rfl (Or.inl rfl) (Or.inr rfl)) (fun _ _ _ _ _ => pts_nil)
        (fun _ _ _ _ _ => pe_op op_add_str (pe_op op_add_str (pe_slice sl_str (pv 3) po_none (po_some (pv 4)))
          (pe_ix ix_str (pv 2) (pe_op op_mod (pe_callTy call_int1 (by rfl) mint (by decide +kernel) (pa_cons (pe_op op_add (pv 5) (pe_op op_mul pe_int (pv 6))) pa_nil)) pe_int) (fun _ _ => rfl)))
          (pe_slice sl_str (pv 3) (po_some (pv 4)) po_none))))))), ?_⟩
  -- the stem: letters drawn
  refine ⟨⟨_, rfl⟩, .ref b, rfl, b, c, 4, rfl, B, by decide, by decide, fun d H1 d0 d1 B1 k1 => ?_⟩
  refine ⟨d, rfl, by omega, by omega, fun D hD => ?_⟩
  have nD := B1.ne_new hD
  have hD0 : H D = none := k1.free B1 hD
  refine lc_range (lo := 0) (n := d.toNat) (fun i H2 => Bag H2 b c ∧ Kp b H H2 ∧ ∃ cs : List Nat, cs.length = i ∧ (∀ x ∈ cs, x ∈ letters.cps.toList) ∧ H2 D = some (.lst (cs.map fun x => V.str ⟨#[x]⟩)))
    ⟨B1.upd_new hD _, k1.new hD _, [], rfl, fun x hx => (nomatch hx), upd_same⟩ (fun i H2 hi ⟨B2, k2, cs, hl, hcs, hcD⟩ => ?_) (fun H2 ⟨B2, k2, cs, hl, hcs, hcD⟩ => ?_)
  · refine ⟨rfl, .ref b, rfl, .str letters, rfl, b, c, _, _, rfl, B2, .inr (.inr ⟨letters, rfl, by decide +kernel, rfl⟩), by decide +kernel, by decide +kernel, fun y H3 hy B3 k3 => ?_⟩
    obtain ⟨x, hx, rfl⟩ := List.mem_map.mp hy
    refine ⟨_, k3 _ _ hcD nD.1.symm, ?_, B3.wr nD _, (k2.trans k3).wr hD0 _, cs ++ [x], by rw [List.length_append, hl]; rfl, fun z hz => ?_, ?_⟩
    · rw [List.length_map, hl]
      exact small1000 (by omega)
    · rcases List.mem_append.mp hz with h | h
      · exact hcs z h
      · rw [List.mem_singleton.mp h]
        exact hx
    · rw [upd_same, List.map_append]
      rfl
  · have ey : (cs.map fun x => V.str ⟨#[x]⟩) = ((cs.map fun x => (⟨#[x]⟩ : Str)).map V.str) := by rw [List.map_map]; rfl
    have hlen : cs.length ≤ 3 := by omega
    have hsum : ∀ l : List Nat, ((l.map fun x => (⟨#[x]⟩ : Str)).map (·.length)).sum = l.length := by
      intro l
      induction l with
      | nil => rfl
      | cons x r ih =>
        rw [List.map_cons, List.map_cons, List.sum_cons, ih, List.length_cons]
        show 1 + r.length = _
        omega
    refine ⟨Str.empty, D, cs.map fun x => ⟨#[x]⟩, rfl, rfl, .inl (SqL.of (by rw [hcD, ey])), ?_, ?_⟩
    · rw [hsum]
      show cs.length + _ * 0 ≤ _
      omega
    generalize hst : Txt.join Str.empty (cs.map fun x => (⟨#[x]⟩ : Str)) = st
    have est : tl st = cs := by rw [← hst, glue_signs]
    have lst : st.length = cs.length := by rw [tlen, est]
    -- at, first
    refine ⟨.ref b, rfl, .str st, rfl, .str st, _, rfl, ⟨Nat.le_of_lt (small1000 (by omega)), rfl⟩, _, _, rfl, rfl, b, c, _, rfl, B2, by omega, by omega, fun a1 H3 a0 a1' B3 k3 => ?_⟩
    refine ⟨.ref b, rfl, b, c, 26, rfl, B3, by decide, by decide, fun f1 H4 f0 f1' B4 k4 => ?_⟩
    refine ⟨(by show 2 ≤ sizeLine; decide), fun t ht => ?_⟩
    refine ⟨t, _, rfl, SqT.of upd_same, rfl, _, _, rfl, _, _, rfl, rfl, ?_⟩
    have k5 : Kp b H (upd H4 t (.tup [.int a1, .int f1])) := ((k2.trans k3).trans k4).new ht _
    have B5 : Bag (upd H4 t (.tup [.int a1, .int f1])) b c := B4.upd_new ht _
    -- the names
    refine ⟨_, rfl, many, rfl, by omega, by omega, fun L hL => ?_⟩
    have nL := B5.ne_new hL
    have hL0 : H L = none := k5.free B5 hL
    refine lc_range (lo := 0) (n := many.toNat) (fun i H6 => Bag H6 b c ∧ Kp b H H6 ∧ ∃ ws : List Str, ws.length = i ∧ (∀ z ∈ ws, IsNm z) ∧ H6 L = some (.lst (ws.map V.str)))
      ⟨B5.upd_new hL _, k5.new hL _, [], rfl, fun x hx => (nomatch hx), upd_same⟩ (fun i H6 hi ⟨B6, k6, ws, hl6, hws, hcL⟩ => ?_) (fun H6 ⟨B6, k6, ws, hl6, hws, hcL⟩ => ?_)
    · have hstl : st.length ≤ sizeLine := Nat.le_of_lt (small1000 (by omega))
      have ha0 : (0 : Int) ≤ a1 := a0
      have ha1 : a1 ≤ (st.length : Int) := by omega
      have hm0 : 0 ≤ (f1 + 7 * (0 + (i : Int))) % 26 := Int.emod_nonneg _ (by decide)
      have hm1 : (f1 + 7 * (0 + (i : Int))) % 26 < 26 := Int.emod_lt_of_pos _ (by decide)
      obtain ⟨x, hx⟩ : ∃ x, atI letters.cps.toList ((f1 + 7 * (0 + (i : Int))) % 26) = some x ∧ x ∈ letters.cps.toList := by
        have hlt : ((f1 + 7 * (0 + (i : Int))) % 26).toNat < letters.cps.toList.length := by
          rw [show letters.cps.toList.length = 26 by decide +kernel]
          omega
        have e : atI letters.cps.toList ((((f1 + 7 * (0 + (i : Int))) % 26).toNat : Nat) : Int) = some letters.cps.toList[((f1 + 7 * (0 + (i : Int))) % 26).toNat] := atI_nat (by rw [List.getElem?_eq_getElem hlt])
        rw [Int.toNat_of_nonneg hm0] at e
        exact ⟨_, e, List.getElem_mem hlt⟩
      refine ⟨rfl, .str st, rfl, .int a1, rfl, a1, rfl, st, rfl, hstl, ?_⟩
      refine ⟨.str letters, rfl, .int f1, rfl, .int (0 + (i : Int)), rfl, 7, _, rfl, rfl, .inl ⟨by decide, by decide⟩, _, _, rfl, rfl, .inl ⟨_, rfl, _, 26, rfl, rfl, (by show (0 : Int) < 26; decide), ?_⟩⟩
      refine ⟨letters, _, x, rfl, rfl, by decide +kernel, hx.1, ?_⟩
      have hc1 := cutS_length st none (some a1)
      have hc2 := cutS_length st (some a1) none
      have h1000 : (1000 : Nat) ≤ sizeLine := by decide
      have hx1 : (⟨#[x]⟩ : Str).length = 1 := rfl
      refine ⟨_, _, rfl, rfl, by rw [hx1]; omega, ?_⟩
      refine ⟨.str st, rfl, .int a1, rfl, a1, rfl, st, rfl, hstl, ?_⟩
      have hl1 : (cutS st none (some a1) ++ (⟨#[x]⟩ : Str)).length = (cutS st none (some a1)).length + 1 := by rw [Str.length_append, hx1]
      refine ⟨_, _, rfl, rfl, by rw [hl1]; omega, ?_⟩
      have hnm : IsNm (cutS st none (some a1) ++ (⟨#[x]⟩ : Str) ++ cutS st (some a1) none) := by
        have e : tl (cutS st none (some a1) ++ (⟨#[x]⟩ : Str) ++ cutS st (some a1) none) = cs.take a1.toNat ++ [x] ++ cs.drop a1.toNat := by
          rw [tl_append, tl_append, tl_cut_to st a1 ha0 ha1, tl_cut_from st a1 ha0 ha1, est]
        have el : (cutS st none (some a1) ++ (⟨#[x]⟩ : Str) ++ cutS st (some a1) none).length = cs.length + 1 := by
          rw [tlen, e, List.length_append, List.length_append, List.length_take, List.length_drop]
          show min a1.toNat cs.length + 1 + (cs.length - a1.toNat) = cs.length + 1
          omega
        refine ⟨fun y hy => ?_, by omega, by omega⟩
        rw [e] at hy
        rcases List.mem_append.mp hy with hy | hy
        · rcases List.mem_append.mp hy with hy | hy
          · exact hcs y (List.mem_of_mem_take hy)
          · rw [List.mem_singleton.mp hy]
            exact hx.2
        · exact hcs y (List.mem_of_mem_drop hy)
      refine ⟨_, hcL, ?_, B6.wr nL _, k6.wr hL0 _, ws ++ [cutS st none (some a1) ++ (⟨#[x]⟩ : Str) ++ cutS st (some a1) none], by rw [List.length_append, hl6]; rfl, fun z hz => ?_, ?_⟩
      · rw [List.length_map, hl6]
        exact small1000 (by omega)
      · rcases List.mem_append.mp hz with h | h
        · exact hws z h
        · rw [List.mem_singleton.mp h]
          exact hnm
      · rw [upd_same, List.map_append]
        rfl
    · exact q L ws H6 (by omega) hws B6 k6 hL0 hcL
/-! ### a call by keywords alone -/
open PySem.Spec PyProof.Rows in
theorem pe_callN0 {X : Cx} {CX : CXT} {k : Nat} {f : Addr} {fd : FuncData} {ps ks : List Str} {sp : Sp} {E : XK} {x : Str} {p pos : Pos} {kws : List Keyword} {tk : TA} {g : List Value → List Value → List Value} {gV : List V → List V → List V}
    (F : FnOk X.prog X.w X.K X.mg X.base CX k f fd ps sp) (hr : Room k X.A) (hg : Gl X x) (hm : X.mg x = some (.ref f)) (hk : PySem.W.keepIn X.K (.ref f) = true) (hb : KBn X.K fd ps 0 ks g gV) (hx : Passes CX X E)
    (hkw : PK X kws tk) (hall : (backToKw pos (keywordEach kws X.env)).all (·.1.isSome) = true := by rfl) (hks : (backToKw pos (keywordEach kws X.env)).filterMap (·.1) = ks := by rfl)
    (hdb : (x == ("__debug__" : Str)) = false := by decide) (hpl : ((backTo pos (starEach [] X.env)).any (·.1) || (backToKw pos (keywordEach kws X.env)).any (·.1.isNone)) = false := by rfl) :
    PE X (.Call (.Name x p) [] kws pos) (tCallN 0 ks.length sp gV E tNil tk) := by
  refine ⟨fun pins s σ H Q I h => ?_⟩
  refine wpAny_Call_Name_kw (ld_glob I hg hm ?_ hdb)
  refine PySem.W.callWith_KW0 (h₀ := X.base) I.ok.mod.kin hk hall ?_ hpl
  refine thn (hkw.run pos pins s σ H _ I h) fun ws s2 ⟨zs, H2, I2, rz, l1, l2, q2⟩ => ⟨I2.kIn, ?_⟩
  rw [hks]
  exact run_fnN (us := []) (vs := []) F hr hb hx I2 .nil rz rfl l2 q2
theorem Fun.kbn {x qual : Str} {st : Stmt} {f : Addr} {fd : FuncData} {ps : List Str} (F : Fun K x qual st f fd) (n : Nat) (ks : List Str) (g : List Value → List Value → List Value) (gV : List V → List V → List V)
    (hrel : ∀ {vs : List V} {us : List Value} {zs : List V} {ws : List Value}, Vals vs us → Vals zs ws → Vals (gV vs zs) (g us ws))
    (h : ∀ (kV doc pm : Value) (an : Option Addr) (cdv ct : Value) (us ws : List Value), us.length = n → ws.length = ks.length → bindArgs (PySem.W.fnOf x qual (defArgs st) (defBody st) (defScope st) .none kV doc pm an cdv ct) ⟨us, ks.zip ws⟩ = pure (ps.zip (g us ws))) : KBn K fd ps n ks g gV := by
  obtain ⟨oc, od, kV, doc, pm, an, cdv, ct, osl, rfl, lk, hcd⟩ := F.ex
  exact ⟨fun s us ws _ l1 l2 => BindsTo.of_eq (h kV doc pm an cdv ct us ws l1 l2), hrel⟩
theorem Vals.rev {xs : List V} {us : List Value} (r : Vals xs us) : Vals xs.reverse us.reverse := by
  induction r with
  | nil => exact .nil
  | cons h t ih =>
    rw [List.reverse_cons, List.reverse_cons]
    exact ih.append (.cons h .nil)
/-! ### the law -/
abbrev sLaw : Stmt := top 12
def spLaw (K : PySem.W.Frag) : Sp := fun vs H Q _ => ∃ (a : Addr) (ns : List Int), vs = [.ref a] ∧ SqL K H a (ns.map V.int) ∧ ns.length ≤ 63 ∧ ∀ H', Q (.bl true) H'
/-- a def of the text, what it keeps, how it is called -/
structure Df (P : Program) (w : World) (K : PySem.W.Frag) (mg : Str → Option Value) (base : Heap) (k : Nat) (f : Addr) (fd : FuncData) (x : Str) (ps : List Str) (sp : Sp) : Prop where
  ok : FnOk P w K mg base CX0 k f fd ps sp
  b : Binds K fd ps []
  kp : PySem.W.keepIn K (.ref f) = true
  m : mg x = some (.ref f)
theorem nameB_eq (z : Str) : nameB z = ((!decide (V.str z = V.str "")) && lowB z && decide ((z.length : Int) < 5)) := by
  unfold nameB
  have e1 : decide ((1 : Int) ≤ (z.length : Int)) = !decide (V.str z = V.str "") := by
    by_cases h : z.length = 0
    · have hz : z = (("" : String) : Str) := ext_tl (by
        rw [len_tl] at h
        rw [List.eq_nil_of_length_eq_zero h]
        decide +kernel)
      rw [hz, decide_eq_true (show V.str "" = V.str "" from rfl)]
      decide +kernel
    · have hz : ¬ V.str z = V.str "" := fun e => h (by
        rw [V.str.inj e]
        decide +kernel)
      rw [decide_eq_false hz, decide_eq_true (by omega)]
      rfl
  have e2 : decide ((z.length : Int) ≤ 4) = decide ((z.length : Int) < 5) := by
    by_cases h : (z.length : Int) ≤ 4
    · rw [decide_eq_true h, decide_eq_true (by omega)]
    · rw [decide_eq_false h, decide_eq_false (by omega)]
  rw [e1, e2, Bool.and_assoc, Bool.and_comm (decide _) (lowB z), ← Bool.and_assoc]
theorem Eqv.bls {H : Hp} {a b : Addr} {bs : List Bool} (n : Nat) (hl : bs.length ≤ 100000) (ha : H a = some (.lst (bs.map V.bl))) (hb : H b = some (.lst (bs.map V.bl))) : Eqv H (n + 1) (.ref a) (.ref b) :=
  .inr ⟨a, b, _, _, rfl, rfl, rfl, by rw [List.length_map]; exact hl, .inl ⟨ha, hb⟩, fun i u v hu hv => by
    rw [hu] at hv
    cases Option.some.inj hv
    rw [List.getElem?_map] at hu
    cases e : bs[i]? with
    | none => rw [e] at hu; cases hu
    | some z =>
      rw [e] at hu
      cases Option.some.inj hu
      exact .leaf (show Leaf (V.bl z) from trivial) n⟩
abbrev lawN : List Str := ["_law_script", "_law_bag_here", "_law_turn", "_law_word", "_law_at", "_law_bent", "_law_plain", "_law_least_z", "_law_wide", "_law_number", "_law_due", "_law_odds", "_law_found", "_law_sign", "_law_thing"]
theorem scLaw : FnScope lawN ["_law_script"] (defScope sLaw) := ⟨rfl, rfl, rfl, by decide +kernel, rfl, by decide +kernel, by decide +kernel⟩
theorem ok_law {f fb fp fa fs fn fi fu : Addr} {fd db dp da ds dn di du : FuncData} (F : Fun K "law" "law" sLaw f fd)
    (GB : Df P w K mg base 1 fb db "_law_bag" ["_law_script"] (spBag K)) (GP : Df P w K mg base 1 fp dp "_law_pull" ["_law_bag_here", "_law_many"] spPull) (GA : Df P w K mg base 2 fa da "_law_any" ["_law_bag_here", "_law_things"] (spAny K))
    (GS : Df P w K mg base 2 fs ds "_law_same" ["_law_found", "_law_due"] (spSame 2)) (GN : Df P w K mg base 3 fn dn "_law_names" ["_law_bag_here", "_law_many"] spNames)
    (GI : Df P w K mg base 1 fi di "is_name" ["value"] (spName K)) (kI : KBn K di ["value"] 0 ["value"] (fun us ws => us ++ ws) (fun vs zs => vs ++ zs))
    (GU : Df P w K mg base 2 fu du "is_number" ["value", "least", "most"] (spNumber K)) (kU : KBn K du ["value", "least", "most"] 0 ["most", "least", "value"] (fun us ws => us ++ ws.reverse) (fun vs zs => vs ++ zs.reverse))
    (mlen : mg "len" = none) (mall : mg "all" = none) (mrange : mg "range" = none) : FnOk P w K mg base CX0 4 f fd ["_law_script"] (spLaw K) := by
  refine F.ok scLaw (fun vs H Q E h => ?_) (fun cdv A outer s H vs Q E hr h => ?_)
  · obtain ⟨a, ns, rfl, _⟩ := h
    rfl
  obtain ⟨a, ns, rfl, hS, h63, q⟩ := h
  have hr1 : Room 1 _ := hr.mono (by decide)
  have hr2 : Room 2 _ := hr.mono (by decide)
  refine ⟨_, pss_cons (ps_set (i := 1) scLaw.nd rfl (Or.inl rfl) (pe_call GB.ok hr1 (by rfl) GB.m GB.kp GB.b .nil pass0 (pa_cons (pv 0) pa_nil)))
    (pss_cons (ps_for PassesOwn.never rfl (pi_range1 (by rfl) mrange (pa_cons pe_int pa_nil)) (pg_name (i := 2) scLaw.nd rfl (Or.inl rfl))
      (pss_cons (ps_set (i := 3) scLaw.nd rfl (Or.inl rfl) (pe_ix ix_list (pe_call GN.ok hr (by rfl) GN.m GN.kp GN.b .nil pass0 (pa_cons (pv 1) (pa_cons pe_int pa_nil))) pe_int (fun _ _ => rfl)))
      (pss_cons (ps_set (i := 4) scLaw.nd rfl (Or.inl rfl) (pe_call GP.ok hr1 (by rfl) GP.m GP.kp GP.b .nil pass0 (pa_cons (pv 1) (pa_cons (pe_op op_add (pe_callB call_len (by rfl) mlen PySem.boot_len (pa_cons (pv 3) pa_nil)) pe_int) pa_nil))))
      (pss_cons (ps_set (i := 5) scLaw.nd rfl (Or.inl rfl) (pe_op op_add_str (pe_op op_add_str (pe_slice sl_str (pv 3) po_none (po_some (pv 4))) (pe_call GA.ok hr2 (by rfl) GA.m GA.kp GA.b .nil pass0 (pa_cons (pv 1) (pa_cons
          (pe_lst (pa_cons pe_str (pa_cons pe_str (pa_cons pe_str (pa_cons pe_str (pa_cons pe_str (pa_cons pe_str (pa_cons pe_str (pa_cons pe_str (pa_cons pe_str (pa_cons pe_str (pa_cons pe_str pa_nil)))))))))))) pa_nil)))) (pe_slice sl_str (pv 3) (po_some (pv 4)) po_none)))
      (C8.pss_cut (ps_set (i := 6) scLaw.nd rfl (Or.inl rfl) (pe_and (pe_cmpR op_ne (pv 5) pe_str (nomark _)) (pe_one (pe_callB (cr_all rfl) (by rfl) mall (by decide +kernel) (pa_cons
          (pe_lc (own := [("_law_sign", 13)]) (g := gName 13) rfl scLaw.nd (pi_str (pv 5)) (blkOk_by (own := [("_law_sign", 13)]) (N := lawN) (sc := defScope sLaw) (by decide +kernel))
            (fun _ _ _ _ _ => pg_name (i := 13) scLaw.nd rfl (Or.inl rfl) (Or.inr rfl)) (fun _ _ _ _ _ => pts_nil) (fun _ _ _ _ _ => pe_cmpR op_in_sign (pv 13) pe_str rfl)) pa_nil)))))
      (C8.pss_cut (ps_if (pt_not (pt_val (pe_call GS.ok hr2 (by rfl) GS.m GS.kp GS.b .nil pass0 (pa_cons
          (pe_lst (pa_cons (pe_call GI.ok hr1 (by rfl) GI.m GI.kp GI.b .nil pass0 (pa_cons (pv 5) pa_nil)) (pa_cons (pe_callN0 GI.ok hr1 (by rfl) GI.m GI.kp kI pass0 (pk_cons (pv 5) pk_nil)) pa_nil)))
          (pa_cons (pe_op op_rep (pe_lst (pa_cons (pe_and (pv 6) (pe_one (pe_cmpR op_lt (pe_callB call_len (by rfl) mlen PySem.boot_len (pa_cons (pv 5) pa_nil)) pe_int (nomark _)))) pa_nil)) pe_int) pa_nil))))) (pss_one (ps_ret pe_bl)) pss_nil)
      (pss_cons (ps_par (i := 7) (j := 8) rfl scLaw.nd rfl rfl (by decide) rfl rfl (pa_cons (pe_op op_sub (pe_call GP.ok hr1 (by rfl) GP.m GP.kp GP.b .nil pass0 (pa_cons (pv 1) (pa_cons pe_int pa_nil))) pe_int)
          (pa_cons (pe_call GA.ok hr2 (by rfl) GA.m GA.kp GA.b .nil pass0 (pa_cons (pv 1) (pa_cons (pe_lst (pa_cons pe_int (pa_cons pe_int (pa_cons (pe_op op_pow pe_int pe_int) pa_nil)))) pa_nil))) pa_nil)) (by rfl))
      (pss_cons (ps_set (i := 9) scLaw.nd rfl (Or.inl rfl) (pe_call GA.ok hr2 (by rfl) GA.m GA.kp GA.b .nil pass0 (pa_cons (pv 1) (pa_cons (pe_lst (pa_cons (pe_op op_sub (pv 7) pe_int) (pa_cons (pv 7) (pa_cons (pe_op op_add (pv 7) (pv 8))
          (pa_cons (pe_op op_add (pe_op op_add (pv 7) (pv 8)) pe_int) (pa_cons (pe_call GP.ok hr1 (by rfl) GP.m GP.kp GP.b .nil pass0 (pa_cons (pv 1) (pa_cons (pe_op op_pow pe_int pe_int) pa_nil))) pa_nil)))))) pa_nil))))
      (C8.pss_cut (ps_set (i := 10) scLaw.nd rfl (Or.inl rfl) (pe_chain op_le op_le (pv 7) (pv 9) (pe_op op_add (pv 7) (pv 8))))
      (pss_one (ps_if (pt_not (pt_val (pe_call GS.ok hr2 (by rfl) GS.m GS.kp GS.b .nil pass0 (pa_cons
          (pe_lst (pa_cons (pe_call GU.ok hr2 (by rfl) GU.m GU.kp GU.b .nil pass0 (pa_cons (pv 9) (pa_cons (pv 7) (pa_cons (pe_op op_add (pv 7) (pv 8)) pa_nil)))) (pa_cons (pe_callN0 GU.ok hr2 (by rfl) GU.m GU.kp kU pass0 (pk_cons (pe_op op_add (pv 7) (pv 8)) (pk_cons (pv 7) (pk_cons (pv 9) pk_nil)))) pa_nil)))
          (pa_cons (pe_lst (pa_cons (pv 10) (pa_cons (pv 10) pa_nil))) pa_nil))))) (pss_one (ps_ret pe_bl)) pss_nil)))))))))))
    (pss_cons (ps_set (i := 11) scLaw.nd rfl (Or.inl rfl) (pe_lst (pa_cons pe_non (pa_cons pe_bl (pa_cons pe_bl (pa_cons pe_int (pa_cons (pe_lst pa_nil) (pa_cons (pe_lst (pa_cons pe_str pa_nil)) (pa_cons (pe_tup (pa_cons pe_str pa_nil)) (pa_cons (pe_tup (pa_cons pe_str (pa_cons pe_int pa_nil))) (pa_cons pe_str pa_nil)))))))))))
    (pss_cons (ps_set (i := 12) scLaw.nd rfl (Or.inl rfl) (pe_op op_cat
        (pe_lc (own := [("_law_thing", 14)]) (g := gName 14) rfl scLaw.nd (pi_list (pv 11)) (blkOk_by (own := [("_law_thing", 14)]) (N := lawN) (sc := defScope sLaw) (by decide +kernel))
          (fun _ _ _ _ _ => pg_name (i := 14) scLaw.nd rfl (Or.inl rfl) (Or.inr rfl)) (fun _ _ _ _ _ => pts_nil) (fun _ _ _ _ _ => pe_call GI.ok hr1 (by rfl) GI.m GI.kp GI.b .nil pass0 (pa_cons (pv 14) pa_nil)))
        (pe_lc (own := [("_law_thing", 14)]) (g := gName 14) rfl scLaw.nd (pi_list (pe_lst (pa_cons pe_non (pa_cons pe_bl (pa_cons pe_bl (pa_cons pe_str (pa_cons (pe_lst (pa_cons pe_int pa_nil)) (pa_cons (pe_tup (pa_cons pe_int pa_nil)) pa_nil)))))))) (blkOk_by (own := [("_law_thing", 14)]) (N := lawN) (sc := defScope sLaw) (by decide +kernel))
          (fun _ _ _ _ _ => pg_name (i := 14) scLaw.nd rfl (Or.inl rfl) (Or.inr rfl)) (fun _ _ _ _ _ => pts_nil) (fun _ _ _ _ _ => pe_call GU.ok hr2 (by rfl) GU.m GU.kp GU.b .nil pass0 (pa_cons (pv 14) (pa_cons (pe_un un_neg pe_int) (pa_cons pe_int pa_nil)))))))
    (pss_one (ps_ret (pe_call GS.ok hr2 (by rfl) GS.m GS.kp GS.b .nil pass0 (pa_cons (pv 12) (pa_cons (pe_op op_rep (pe_lst (pa_cons pe_bl pa_nil)) pe_int) pa_nil)))))))), ?_⟩
  refine ⟨_, rfl, a, ns, rfl, hS, h63, fun b c H1 s1 hb hc B1 => ?_⟩
  refine ⟨8, rfl, by decide, by decide, for_range (lo := 0) (n := 8) (fun i σ H2 => ∃ v2 v3 v4 v5 v6 v7 v8 v9 v10, σ = [some (.ref a), some (.ref b), v2, v3, v4, v5, v6, v7, v8, v9, v10, none, none, none, none] ∧ Bag H2 b c)
    ⟨none, none, none, none, none, none, none, none, none, rfl, B1⟩ ?_ ?_⟩
  · rintro i σ H2 hi ⟨v2, v3, v4, v5, v6, v7, v8, v9, v10, rfl, B2⟩
    -- word
    refine ⟨.ref b, rfl, b, c, 1, rfl, B2, by decide, by decide, fun l ws H3 hl hws B3 k3 hl0 hlH => ?_⟩
    obtain ⟨w, rfl⟩ : ∃ w, ws = [w] := by
      match ws, hl with
      | [w], _ => exact ⟨w, rfl⟩
      | [], h => exact absurd h (by decide)
      | _ :: _ :: _, h => exact absurd h (by rw [List.length_cons, List.length_cons]; omega)
    have hw := hws w (List.mem_singleton.mpr rfl)
    have hw4 := hw.l4
    have h1000 : (1000 : Nat) ≤ sizeLine := by decide
    refine ⟨l, _, 0, .str w, rfl, rfl, SqL.of hlH, rfl, ?_⟩
    -- at
    refine ⟨.ref b, rfl, .str w, rfl, .str w, _, rfl, ⟨by omega, rfl⟩, _, _, rfl, rfl, b, c, _, rfl, B3, by omega, by omega, fun k H4 d0 d1 B4 k4 => ?_⟩
    -- bent
    refine ⟨.str w, rfl, .int k, rfl, k, rfl, w, rfl, by omega, ?_⟩
    refine ⟨.ref b, rfl, (by show 11 ≤ sizeLine; decide), fun m hm => ?_⟩
    refine ⟨b, c, .ref m, (["", "a", "z", "A", "1", " ", "-", "/", "\n", "bc", "bcde"] : List Str).map V.str, rfl, B4.upd_new hm _, .inl ⟨m, rfl, B4.fresh hm, SqL.of upd_same⟩, by decide, by decide, fun y H5 hy B5 k5 => ?_⟩
    obtain ⟨z, hz, rfl⟩ := List.mem_map.mp hy
    have hz4 : z.length ≤ 4 := by
      have all4 : ∀ z ∈ (["", "a", "z", "A", "1", " ", "-", "/", "\n", "bc", "bcde"] : List Str), z.length ≤ 4 := by decide +kernel
      exact all4 z hz
    have hc1 := cutS_length w none (some k)
    have hc2 := cutS_length w (some k) none
    refine ⟨_, _, rfl, rfl, by omega, ?_⟩
    refine ⟨.str w, rfl, .int k, rfl, k, rfl, w, rfl, by omega, ?_⟩
    have hl1 : (cutS w none (some k) ++ z).length = (cutS w none (some k)).length + z.length := Str.length_append _ _
    refine ⟨_, _, rfl, rfl, by rw [hl1]; omega, ?_⟩
    have hbl : (cutS w none (some k) ++ z ++ cutS w (some k) none).length ≤ 100 := by rw [Str.length_append, hl1]; omega
    generalize cutS w none (some k) ++ z ++ cutS w (some k) none = bent at hbl
    -- plain
    refine ⟨fun σ' H6 => σ' = [some (.ref a), some (.ref b), some (.int (0 + (i : Int))), some (.str w), some (.int k), some (.str bent), some (.bl ((!decide (V.str bent = V.str "")) && lowB bent)), v7, v8, v9, v10, none, none, none, none] ∧ Bag H6 b c, ?_, ?_⟩
    · refine ⟨.str bent, rfl, rfl, _, rfl, ?_⟩
      cases he : (!decide (V.str bent = V.str "")) with
      | false => exact iteF ⟨by rw [Bool.false_and]; rfl, B5⟩
      | true =>
        refine iteT ?_
        refine ⟨.str bent, rfl, bent, rfl, fun D hD => ?_⟩
        have sD := same_upd hD (.lst [])
        refine lc_str (fun i H2 => Same H5 H2 ∧ H2 D = some (.lst (((bent.cps.toList.take i).map fun c => decide (c ∈ letters.cps.toList)).map V.bl))) ⟨sD, upd_same⟩ (fun i x H6 hx ⟨s6, hD2⟩ => ?_) (fun H6 ⟨s6, hD2⟩ => ?_)
        · refine ⟨rfl, _, rfl, x, letters, rfl, rfl, _, hD2, ?_, fun a o e => ?_, ?_⟩
          · rw [List.length_map, List.length_map, List.length_take]
            have e : bent.cps.toList.length = bent.length := (str_len bent).symm
            omega
          · rw [upd_ne (ne_of_none e hD)]
            exact s6 _ _ e
          · rw [upd_same, kSq _ hx, List.map_append]
            rfl
        · rw [List.take_length] at hD2
          refine ⟨D, _, rfl, SqL.of hD2, ?_⟩
          refine ⟨?_, B5.same s6⟩
          have e : ((bent.cps.toList.map fun c => decide (c ∈ letters.cps.toList)).all id) = lowB bent := by
            unfold lowB
            rw [List.all_map]
            rfl
          rw [e, Bool.true_and]
          rfl
    rintro σ' H6 ⟨rfl, B6⟩
    -- if not same([is_name(bent), is_name(value=bent)], [plain and len(bent) < 5] * 2)
    refine ⟨fun σ' H7 => σ' = [some (.ref a), some (.ref b), some (.int (0 + (i : Int))), some (.str w), some (.int k), some (.str bent), some (.bl ((!decide (V.str bent = V.str "")) && lowB bent)), v7, v8, v9, v10, none, none, none, none] ∧ Bag H7 b c, ?_, ?_⟩
    · refine ⟨.str bent, rfl, .str bent, rfl, .inl ⟨bent, rfl, by omega, fun H7 s7 => ?_⟩⟩
      refine ⟨.str bent, rfl, rfl, rfl, .str bent, rfl, .inl ⟨bent, rfl, by omega, fun H8 s8 => ?_⟩⟩
      refine ⟨(by show 2 ≤ sizeLine; decide), fun m1 hm1 => ?_⟩
      have s9 := (s7.trans s8).trans (same_upd hm1 (.lst [.bl (nameB bent), .bl (nameB bent)]))
      refine ⟨.bl ((!decide (V.str bent = V.str "")) && lowB bent), rfl, _, rfl, ?_⟩
      have en := nameB_eq bent
      cases hp : ((!decide (V.str bent = V.str "")) && lowB bent) with
      | false =>
        rw [hp, Bool.false_and] at en
        have er : nameB bent = false := en
        refine iteF ?_
        refine ⟨(by show 1 ≤ sizeLine; decide), fun m2 hm2 => ?_⟩
        have s10 := s9.trans (same_upd hm2 (.lst [.bl (false)]))
        refine ⟨m2, 2, [.bl (false)], rfl, rfl, upd_same, by decide, by decide, (by show 1 * 2 ≤ sizeLine; decide), fun p2 hp2 => ?_⟩
        have s11 := s10.trans (same_upd hp2 (.lst (List.replicate (2 : Int).toNat [V.bl (false)]).flatten))
        refine ⟨.ref m1, .ref p2, rfl, Eqv.bls (bs := [nameB bent, nameB bent]) 0 (by show 2 ≤ 100000; decide) ?_ ?_, fun H9 s12 => ⟨_, rfl, iteF ⟨rfl, B6.same (s11.trans s12)⟩⟩⟩
        · rw [upd_ne (ne_of_none (o := .lst [.bl (nameB bent), .bl (nameB bent)]) (by rw [upd_ne (ne_of_none upd_same hm2)]; exact upd_same) hp2), upd_ne (ne_of_none upd_same hm2)]
          exact upd_same
        · rw [upd_same, er]
          rfl
      | true =>
        rw [hp, Bool.true_and] at en
        have er : nameB bent = decide ((bent.length : Int) < 5) := en
        refine iteT ⟨.str bent, rfl, .str bent, _, rfl, ⟨by omega, rfl⟩, _, 5, rfl, rfl, ?_⟩
        refine ⟨(by show 1 ≤ sizeLine; decide), fun m2 hm2 => ?_⟩
        have s10 := s9.trans (same_upd hm2 (.lst [.bl (decide ((bent.length : Int) < 5))]))
        refine ⟨m2, 2, [.bl (decide ((bent.length : Int) < 5))], rfl, rfl, upd_same, by decide, by decide, (by show 1 * 2 ≤ sizeLine; decide), fun p2 hp2 => ?_⟩
        have s11 := s10.trans (same_upd hp2 (.lst (List.replicate (2 : Int).toNat [V.bl (decide ((bent.length : Int) < 5))]).flatten))
        refine ⟨.ref m1, .ref p2, rfl, Eqv.bls (bs := [nameB bent, nameB bent]) 0 (by show 2 ≤ 100000; decide) ?_ ?_, fun H9 s12 => ⟨_, rfl, iteF ⟨rfl, B6.same (s11.trans s12)⟩⟩⟩
        · rw [upd_ne (ne_of_none (o := .lst [.bl (nameB bent), .bl (nameB bent)]) (by rw [upd_ne (ne_of_none upd_same hm2)]; exact upd_same) hp2), upd_ne (ne_of_none upd_same hm2)]
          exact upd_same
        · rw [upd_same, er]
          rfl
    rintro σ' H7 ⟨rfl, B7⟩
    -- least, wide
    refine ⟨.ref b, rfl, b, c, 9, rfl, B7, by decide, by decide, fun k9 H8 e0 e1 B8 k8 => ⟨_, 4, rfl, rfl, ?_⟩⟩
    refine ⟨.ref b, rfl, 10, 5, rfl, rfl, ⟨by decide, by decide, by decide⟩, (by show 3 ≤ sizeLine; decide), fun m3 hm3 => ?_⟩
    refine ⟨b, c, .ref m3, ([0, 3, (10 : Int) ^ (5 : Int).toNat] : List Int).map V.int, rfl, B8.upd_new hm3 _, .inl ⟨m3, rfl, B8.fresh hm3, SqL.of upd_same⟩, by decide, by decide, fun y9 H9 hy9 B9 k9' => ?_⟩
    obtain ⟨wd, _, rfl⟩ := List.mem_map.mp hy9
    refine ⟨_, _, rfl, ?_⟩
    -- number
    refine ⟨.ref b, rfl, .int (k9 - 4), rfl, _, 1, rfl, rfl, .int (k9 - 4), rfl, .int (k9 - 4), rfl, .int wd, rfl, _, _, rfl, rfl, .int (k9 - 4), rfl, .int wd, rfl, _, _, rfl, rfl, _, 1, rfl, rfl, ?_⟩
    refine ⟨.ref b, rfl, 10, 6, rfl, rfl, ⟨by decide, by decide, by decide⟩, b, c, _, rfl, B9, by decide, by decide, fun k10 H10 f0 f1 B10 k10' => ?_⟩
    refine ⟨(by show 5 ≤ sizeLine; decide), fun m4 hm4 => ?_⟩
    refine ⟨b, c, .ref m4, ([(k9 - 4) - 1, (k9 - 4), (k9 - 4) + wd, (k9 - 4) + wd + 1, k10] : List Int).map V.int, rfl, B10.upd_new hm4 _, .inl ⟨m4, rfl, B10.fresh hm4, SqL.of upd_same⟩, (by show 0 < 5; decide), (by show 5 < 1073741824; decide), fun y11 H11 hy11 B11 k11 => ?_⟩
    obtain ⟨num, _, rfl⟩ := List.mem_map.mp hy11
    -- due
    refine ⟨fun σ' H12 => σ' = [some (.ref a), some (.ref b), some (.int (0 + (i : Int))), some (.str w), some (.int k), some (.str bent), some (.bl ((!decide (V.str bent = V.str "")) && lowB bent)), some (.int (k9 - 4)), some (.int wd), some (.int num), some (.bl (decide ((k9 - 4) ≤ num) && decide (num ≤ (k9 - 4) + wd))), none, none, none, none] ∧ Bag H12 b c, ?_, ?_⟩
    · refine ⟨.int (k9 - 4), rfl, .int num, rfl, (k9 - 4), num, rfl, rfl, _, rfl, ?_⟩
      cases hd : decide ((k9 - 4) ≤ num) with
      | false => exact iteF ⟨by rw [Bool.false_and]; rfl, B11⟩
      | true =>
        refine iteT ⟨.int (k9 - 4), rfl, .int wd, rfl, (k9 - 4), wd, rfl, rfl, num, _, rfl, rfl, ?_⟩
        exact ⟨by rw [Bool.true_and]; rfl, B11⟩
    rintro σ' H12 ⟨rfl, B12⟩
    generalize hdue : (decide ((k9 - 4) ≤ num) && decide (num ≤ (k9 - 4) + wd)) = due
    refine ⟨.int num, rfl, .int (k9 - 4), rfl, .int (k9 - 4), rfl, .int wd, rfl, (k9 - 4), wd, rfl, rfl, .int num, (k9 - 4), (k9 - 4) + wd, rfl, .inl ⟨num, rfl, ?_⟩⟩
    refine ⟨.int (k9 - 4), rfl, .int wd, rfl, (k9 - 4), wd, rfl, rfl, .int (k9 - 4), rfl, .int num, rfl, rfl, rfl, .int num, (k9 - 4), (k9 - 4) + wd, rfl, .inl ⟨num, rfl, ?_⟩⟩
    rw [hdue]
    refine ⟨(by show 2 ≤ sizeLine; decide), fun m5 hm5 => ?_⟩
    have s5 := same_upd hm5 (.lst [.bl due, .bl due])
    refine ⟨.bl due, rfl, .bl due, rfl, (by show 2 ≤ sizeLine; decide), fun m6 hm6 => ?_⟩
    have s6 := s5.trans (same_upd hm6 (.lst [.bl due, .bl due]))
    refine ⟨.ref m5, .ref m6, rfl, Eqv.bls (bs := [due, due]) 0 (by show 2 ≤ 100000; decide) (by rw [upd_ne (ne_of_none upd_same hm6)]; exact upd_same) upd_same, fun H13 s13 => ⟨_, rfl, iteF ?_⟩⟩
    exact ⟨_, _, _, _, _, _, _, _, _, rfl, B12.same (s6.trans s13)⟩
  · rintro σ H2 ⟨v2, v3, v4, v5, v6, v7, v8, v9, v10, rfl, B2⟩
    -- odds
    refine ⟨Nat.zero_le _, fun p1 h1 => ⟨(by show 1 ≤ sizeLine; decide), fun p2 h2 => ⟨(by show 1 ≤ sizeLine; decide), fun p3 h3 => ⟨(by show 2 ≤ sizeLine; decide), fun p4 h4 => ⟨(by show 9 ≤ sizeLine; decide), fun l hl => ?_⟩⟩⟩⟩⟩
    have s2 := same_upd h2 (.lst [.str "a"])
    have s3 := same_upd h3 (.tup [.str "A"])
    have s4 := same_upd h4 (.tup [.str "a", .int 3])
    have s5 := same_upd hl (.lst [.non, .bl true, .bl false, .int 3, .ref p1, .ref p2, .ref p3, .ref p4, .str "1"])
    have f1 := s5 _ _ (s4 _ _ (s3 _ _ (s2 _ _ (upd_same (a := p1)))))
    have f2 := s5 _ _ (s4 _ _ (s3 _ _ (upd_same (a := p2))))
    have f3 := s5 _ _ (s4 _ _ (upd_same (a := p3)))
    have f4 := s5 _ _ (upd_same (a := p4))
    have fl : (upd (upd (upd (upd (upd H2 p1 (.lst [])) p2 (.lst [.str "a"])) p3 (.tup [.str "A"])) p4 (.tup [.str "a", .int 3])) l (.lst [.non, .bl true, .bl false, .int 3, .ref p1, .ref p2, .ref p3, .ref p4, .str "1"])) l = _ := upd_same
    generalize (upd (upd (upd (upd (upd H2 p1 (.lst [])) p2 (.lst [.str "a"])) p3 (.tup [.str "A"])) p4 (.tup [.str "a", .int 3])) l (.lst [.non, .bl true, .bl false, .int 3, .ref p1, .ref p2, .ref p3, .ref p4, .str "1"])) = H5 at f1 f2 f3 f4 fl
    have odd : ∀ H', Same H5 H' → ∀ x ∈ ([.non, .bl true, .bl false, .int 3, .ref p1, .ref p2, .ref p3, .ref p4, .str "1"] : List V), (∃ z : Str, x = .str z ∧ z.length ≤ 1000 ∧ nameB z = false) ∨ (∃ t : String, TyX K H' x (.type t) ∧ kitB t "str" = some false) := by
      intro H' s x hx
      simp only [List.mem_cons, List.not_mem_nil, or_false] at hx
      rcases hx with rfl | rfl | rfl | rfl | rfl | rfl | rfl | rfl | rfl
      · exact .inr ⟨"NoneType", .base .non, by decide +kernel⟩
      · exact .inr ⟨"bool", .base (.bl _), by decide +kernel⟩
      · exact .inr ⟨"bool", .base (.bl _), by decide +kernel⟩
      · exact .inr ⟨"int", .base (.int _), by decide +kernel⟩
      · exact .inr ⟨"list", .base (.lst (s _ _ f1)), by decide +kernel⟩
      · exact .inr ⟨"list", .base (.lst (s _ _ f2)), by decide +kernel⟩
      · exact .inr ⟨"tuple", .base (.tup (s _ _ f3)), by decide +kernel⟩
      · exact .inr ⟨"tuple", .base (.tup (s _ _ f4)), by decide +kernel⟩
      · exact .inl ⟨_, rfl, by decide +kernel, by decide +kernel⟩
    -- [is_name(thing) for thing in odds]
    refine ⟨.ref l, rfl, l, rfl, ⟨_, SqL.of fl⟩, fun D hD => ?_⟩
    have sD := same_upd hD (.lst [])
    refine lc_list (K := K) (a := l) (xs := [.non, .bl true, .bl false, .int 3, .ref p1, .ref p2, .ref p3, .ref p4, .str "1"]) (fun i H' => Same H5 H' ∧ H' D = some (.lst (List.replicate i (.bl false)))) ⟨sD, upd_same⟩ (fun i H' _ ⟨s, _⟩ => SqL.of (s _ _ fl)) (fun i x H6 hx ⟨s6, hD6⟩ => ?_) (fun H6 ⟨s6, hD6⟩ => ?_)
    · have hi : i < 9 := (List.getElem?_eq_some_iff.mp hx).1
      refine ⟨rfl, x, rfl, x, rfl, ?_⟩
      have app : ∀ H7, Same H6 H7 → ∃ acc, H7 D = some (.lst acc) ∧ acc.length < sizeLine ∧ (Same H5 (upd H7 D (.lst (acc ++ [.bl false]))) ∧ upd H7 D (.lst (acc ++ [.bl false])) D = some (.lst (List.replicate (i + 1) (.bl false)))) := fun H7 s7 =>
        ⟨_, s7 _ _ hD6, by rw [List.length_replicate]; exact small1000 (by omega), fun a o e => by rw [upd_ne (ne_of_none e hD)]; exact s7 _ _ (s6 _ _ e), by rw [upd_same, ← List.replicate_succ']⟩
      rcases odd H6 s6 x (List.mem_of_getElem? hx) with ⟨z, rfl, hz, hn⟩ | ⟨t, ty, hk⟩
      · exact .inl ⟨z, rfl, hz, fun H7 s7 => by rw [hn]; exact app H7 s7⟩
      · exact .inr ⟨t, ty, hk, fun H7 s7 => app H7 s7⟩
    -- [is_number(thing, -5, 9) for thing in ..]
    refine ⟨(by show 1 ≤ sizeLine; decide), fun q1 g1 => ⟨(by show 1 ≤ sizeLine; decide), fun q2 g2 => ⟨(by show 6 ≤ sizeLine; decide), fun l2 gl => ?_⟩⟩⟩
    have r1 := same_upd g1 (.lst [.int 1])
    have r2 := same_upd g2 (.tup [.int 1])
    have r3 := same_upd gl (.lst [.non, .bl true, .bl false, .str "1", .ref q1, .ref q2])
    have e1 := r3 _ _ (r2 _ _ (upd_same (a := q1)))
    have e2 := r3 _ _ (upd_same (a := q2))
    have el : (upd (upd (upd H6 q1 (.lst [.int 1])) q2 (.tup [.int 1])) l2 (.lst [.non, .bl true, .bl false, .str "1", .ref q1, .ref q2])) l2 = _ := upd_same
    have eD := r3 _ _ (r2 _ _ (r1 _ _ hD6))
    generalize (upd (upd (upd H6 q1 (.lst [.int 1])) q2 (.tup [.int 1])) l2 (.lst [.non, .bl true, .bl false, .str "1", .ref q1, .ref q2])) = H7 at e1 e2 el eD
    have odn : ∀ H', Same H7 H' → ∀ x ∈ ([.non, .bl true, .bl false, .str "1", .ref q1, .ref q2] : List V), ∃ (t : String) (bi bb : Bool), TyX K H' x (.type t) ∧ kitB t "int" = some bi ∧ kitB t "bool" = some bb ∧ (bi && !bb) = false := by
      intro H' s x hx
      simp only [List.mem_cons, List.not_mem_nil, or_false] at hx
      rcases hx with rfl | rfl | rfl | rfl | rfl | rfl
      · exact ⟨"NoneType", false, false, .base .non, by decide +kernel, by decide +kernel, rfl⟩
      · exact ⟨"bool", true, true, .base (.bl _), by decide +kernel, by decide +kernel, rfl⟩
      · exact ⟨"bool", true, true, .base (.bl _), by decide +kernel, by decide +kernel, rfl⟩
      · exact ⟨"str", false, false, .base (.str _), by decide +kernel, by decide +kernel, rfl⟩
      · exact ⟨"list", false, false, .base (.lst (s _ _ e1)), by decide +kernel, by decide +kernel, rfl⟩
      · exact ⟨"tuple", false, false, .base (.tup (s _ _ e2)), by decide +kernel, by decide +kernel, rfl⟩
    refine ⟨l2, rfl, ⟨_, SqL.of el⟩, fun D2 hD2 => ?_⟩
    have sD2 := same_upd hD2 (.lst [])
    refine lc_list (K := K) (a := l2) (xs := [.non, .bl true, .bl false, .str "1", .ref q1, .ref q2]) (fun i H' => Same H7 H' ∧ H' D2 = some (.lst (List.replicate i (.bl false)))) ⟨sD2, upd_same⟩ (fun i H' _ ⟨s, _⟩ => SqL.of (s _ _ el)) (fun i x H8 hx ⟨s8, hD8⟩ => ?_) (fun H8 ⟨s8, hD8⟩ => ?_)
    · have hi : i < 6 := (List.getElem?_eq_some_iff.mp hx).1
      obtain ⟨t, bi, bb, ty, k1, k2, k3⟩ := odn H8 s8 x (List.mem_of_getElem? hx)
      refine ⟨rfl, x, rfl, 5, rfl, x, -5, 9, rfl, .inr ⟨t, bi, bb, ty, k1, k2, k3, ?_⟩⟩
      exact ⟨_, hD8, by rw [List.length_replicate]; exact small1000 (by omega), fun a o e => by rw [upd_ne (ne_of_none e hD2)]; exact s8 _ _ e, by rw [upd_same, ← List.replicate_succ']⟩
    -- the sum of both
    refine ⟨D, D2, _, _, rfl, rfl, s8 _ _ eD, hD8, (by show 9 + 6 ≤ sizeLine; decide), fun p9 h9 => ?_⟩
    refine ⟨.ref p9, rfl, (by show 1 ≤ sizeLine; decide), fun m9 hm9 => ?_⟩
    have u1 := same_upd hm9 (.lst [.bl false])
    refine ⟨m9, 15, [.bl false], rfl, rfl, upd_same, by decide, by decide, (by show 1 * 15 ≤ sizeLine; decide), fun m10 hm10 => ?_⟩
    have u2 := same_upd hm10 (.lst (List.replicate (15 : Int).toNat [V.bl false]).flatten)
    refine ⟨.ref p9, .ref m10, rfl, Eqv.bls (bs := List.replicate 15 false) 0 (by decide) (u2 _ _ (u1 _ _ upd_same)) upd_same, fun H9 _ => q H9⟩
end
/-! ### what the top has written, the head -/
theorem all_mk {l : PySem.W.OpenLaw} {w : World} {K : PySem.W.Frag} {h : Heap} {mg : Str → Option Value} {fa f1 f2 f3 f4 f5 f6 f7 f8 f9 : Addr} (X : K.In h) (G : h.Ns mainGlobals mg) (hfa : mg "law" = some (.ref fa))
    {od1 an1 od2 an2 od3 an3 od4 an4 od5 an5 od6 an6 od7 an7 od8 an8 od9 an9 : Option Addr} {sl1 sl2 sl3 sl4 sl5 sl6 sl7 sl8 sl9 : Array (Option Value)} {oc1 kV1 dc1 pm1 cd1 ct1 oc2 kV2 dc2 pm2 cd2 ct2 oc3 kV3 dc3 pm3 cd3 ct3 oc4 kV4 dc4 pm4 cd4 ct4 oc5 kV5 dc5 pm5 cd5 ct5 oc6 kV6 dc6 pm6 cd6 ct6 oc7 kV7 dc7 pm7 cd7 ct7 oc8 kV8 dc8 pm8 cd8 ct8 oc9 kV9 dc9 pm9 cd9 ct9 : Value} {t1 t2 : Tok}
    (a1 : PySem.W.nsIn K mainGlobals "is_name" = some (some (.ref f1))) (l1 : K.lookup f1 = some ⟨oc1, od1, .func (PySem.W.fnOf "is_name" "is_name" (defArgs sIsName) (defBody sIsName) (defScope sIsName) .none kV1 dc1 pm1 an1 cd1 ct1), sl1⟩) (c1 : PySem.W.codeIn K cd1 "is_name" = true) (k1 : PySem.W.keepIn K (.ref f1) = true)
    (a2 : PySem.W.nsIn K mainGlobals "is_integer" = some (some (.ref f2))) (l2 : K.lookup f2 = some ⟨oc2, od2, .func (PySem.W.fnOf "is_integer" "is_integer" (defArgs sIsInteger) (defBody sIsInteger) (defScope sIsInteger) .none kV2 dc2 pm2 an2 cd2 ct2), sl2⟩) (c2 : PySem.W.codeIn K cd2 "is_integer" = true) (k2 : PySem.W.keepIn K (.ref f2) = true)
    (a3 : PySem.W.nsIn K mainGlobals "is_number" = some (some (.ref f3))) (l3 : K.lookup f3 = some ⟨oc3, od3, .func (PySem.W.fnOf "is_number" "is_number" (defArgs sIsNumber) (defBody sIsNumber) (defScope sIsNumber) .none kV3 dc3 pm3 an3 cd3 ct3), sl3⟩) (c3 : PySem.W.codeIn K cd3 "is_number" = true) (k3 : PySem.W.keepIn K (.ref f3) = true)
    (a4 : PySem.W.nsIn K mainGlobals "_law_bag" = some (some (.ref f4))) (l4 : K.lookup f4 = some ⟨oc4, od4, .func (PySem.W.fnOf "_law_bag" "_law_bag" (defArgs sBag) (defBody sBag) (defScope sBag) .none kV4 dc4 pm4 an4 cd4 ct4), sl4⟩) (c4 : PySem.W.codeIn K cd4 "_law_bag" = true) (k4 : PySem.W.keepIn K (.ref f4) = true)
    (a5 : PySem.W.nsIn K mainGlobals "_law_pull" = some (some (.ref f5))) (l5 : K.lookup f5 = some ⟨oc5, od5, .func (PySem.W.fnOf "_law_pull" "_law_pull" (defArgs sPull) (defBody sPull) (defScope sPull) .none kV5 dc5 pm5 an5 cd5 ct5), sl5⟩) (c5 : PySem.W.codeIn K cd5 "_law_pull" = true) (k5 : PySem.W.keepIn K (.ref f5) = true)
    (a6 : PySem.W.nsIn K mainGlobals "_law_any" = some (some (.ref f6))) (l6 : K.lookup f6 = some ⟨oc6, od6, .func (PySem.W.fnOf "_law_any" "_law_any" (defArgs sAny) (defBody sAny) (defScope sAny) .none kV6 dc6 pm6 an6 cd6 ct6), sl6⟩) (c6 : PySem.W.codeIn K cd6 "_law_any" = true) (k6 : PySem.W.keepIn K (.ref f6) = true)
    (a7 : PySem.W.nsIn K mainGlobals "_law_same" = some (some (.ref f7))) (l7 : K.lookup f7 = some ⟨oc7, od7, .func (PySem.W.fnOf "_law_same" "_law_same" (defArgs sSame) (defBody sSame) (defScope sSame) .none kV7 dc7 pm7 an7 cd7 ct7), sl7⟩) (c7 : PySem.W.codeIn K cd7 "_law_same" = true) (k7 : PySem.W.keepIn K (.ref f7) = true)
    (a8 : PySem.W.nsIn K mainGlobals "_law_names" = some (some (.ref f8))) (l8 : K.lookup f8 = some ⟨oc8, od8, .func (PySem.W.fnOf "_law_names" "_law_names" (defArgs sNames) (defBody sNames) (defScope sNames) .none kV8 dc8 pm8 an8 cd8 ct8), sl8⟩) (c8 : PySem.W.codeIn K cd8 "_law_names" = true) (k8 : PySem.W.keepIn K (.ref f8) = true)
    (a9 : PySem.W.nsIn K mainGlobals "law" = some (some (.ref f9))) (l9 : K.lookup f9 = some ⟨oc9, od9, .func (PySem.W.fnOf "law" "law" (defArgs sLaw) (defBody sLaw) (defScope sLaw) .none kV9 dc9 pm9 an9 cd9 ct9), sl9⟩) (c9 : PySem.W.codeIn K cd9 "law" = true) (k9 : PySem.W.keepIn K (.ref f9) = true)
    (e1 : PySem.W.nsIn K mainGlobals "LETTERS" = some (some (.str letters t1)))
    (e2 : PySem.W.nsIn K mainGlobals "LONGEST_NAME" = some (some (.int 4 t2)))
    (z1 : PySem.W.nsIn K mainGlobals "isinstance" = some none)
    (z2 : PySem.W.nsIn K mainGlobals "str" = some none)
    (z3 : PySem.W.nsIn K mainGlobals "int" = some none)
    (z4 : PySem.W.nsIn K mainGlobals "bool" = some none)
    (z5 : PySem.W.nsIn K mainGlobals "len" = some none)
    (z6 : PySem.W.nsIn K mainGlobals "all" = some none)
    (z7 : PySem.W.nsIn K mainGlobals "list" = some none)
    (z8 : PySem.W.nsIn K mainGlobals "tuple" = some none)
    (z9 : PySem.W.nsIn K mainGlobals "zip" = some none)
    (z10 : PySem.W.nsIn K mainGlobals "range" = some none)
    : ∃ fd : FuncData, (∀ (s : Shared) (v : Value), BindsTo s fd ⟨[v], []⟩ [("_law_script", v)]) ∧ ∀ base : Heap, K.In base → base.Ns mainGlobals mg → FnOk l.prog w K mg base CX0 4 fa fd ["_law_script"] (spLaw K) := by
  have e := hfa.symm.trans (PySem.W.mg_of X G a9)
  cases e
  have F1 := fun_mk (st := sIsName) l1 c1 k1
  have b1 := F1.binds (ps := ["value"]) fun _ _ _ _ _ _ us hl => match us, hl with | [_], _ => rfl
  have m1 := PySem.W.mg_of X G a1
  have F2 := fun_mk (st := sIsInteger) l2 c2 k2
  have b2 := F2.binds (ps := ["value"]) fun _ _ _ _ _ _ us hl => match us, hl with | [_], _ => rfl
  have m2 := PySem.W.mg_of X G a2
  have F3 := fun_mk (st := sIsNumber) l3 c3 k3
  have b3 := F3.binds (ps := ["value", "least", "most"]) fun _ _ _ _ _ _ us hl => match us, hl with | [_, _, _], _ => rfl
  have m3 := PySem.W.mg_of X G a3
  have F4 := fun_mk (st := sBag) l4 c4 k4
  have b4 := F4.binds (ps := ["_law_script"]) fun _ _ _ _ _ _ us hl => match us, hl with | [_], _ => rfl
  have m4 := PySem.W.mg_of X G a4
  have F5 := fun_mk (st := sPull) l5 c5 k5
  have b5 := F5.binds (ps := ["_law_bag_here", "_law_many"]) fun _ _ _ _ _ _ us hl => match us, hl with | [_, _], _ => rfl
  have m5 := PySem.W.mg_of X G a5
  have F6 := fun_mk (st := sAny) l6 c6 k6
  have b6 := F6.binds (ps := ["_law_bag_here", "_law_things"]) fun _ _ _ _ _ _ us hl => match us, hl with | [_, _], _ => rfl
  have m6 := PySem.W.mg_of X G a6
  have F7 := fun_mk (st := sSame) l7 c7 k7
  have b7 := F7.binds (ps := ["_law_found", "_law_due"]) fun _ _ _ _ _ _ us hl => match us, hl with | [_, _], _ => rfl
  have m7 := PySem.W.mg_of X G a7
  have F8 := fun_mk (st := sNames) l8 c8 k8
  have b8 := F8.binds (ps := ["_law_bag_here", "_law_many"]) fun _ _ _ _ _ _ us hl => match us, hl with | [_, _], _ => rfl
  have m8 := PySem.W.mg_of X G a8
  have F9 := fun_mk (st := sLaw) l9 c9 k9
  have m9 := PySem.W.mg_of X G a9
  have me_LETTERS := PySem.W.mg_of X G e1
  have me_LONGEST_NAME := PySem.W.mg_of X G e2
  have mz_isinstance := PySem.W.mg_none_of X G z1
  have mz_str := PySem.W.mg_none_of X G z2
  have mz_int := PySem.W.mg_none_of X G z3
  have mz_bool := PySem.W.mg_none_of X G z4
  have mz_len := PySem.W.mg_none_of X G z5
  have mz_all := PySem.W.mg_none_of X G z6
  have mz_list := PySem.W.mg_none_of X G z7
  have mz_tuple := PySem.W.mg_none_of X G z8
  have mz_zip := PySem.W.mg_none_of X G z9
  have mz_range := PySem.W.mg_none_of X G z10
  refine ⟨PySem.W.fnOf "law" "law" (defArgs sLaw) (defBody sLaw) (defScope sLaw) .none kV9 dc9 pm9 an9 cd9 ct9, fun s v => .of_eq rfl, fun base _ _ => ?_⟩
  have T : NameTxt mg := ⟨mz_isinstance, mz_str, mz_int, mz_bool, mz_len, mz_all, ⟨_, me_LETTERS⟩, ⟨_, me_LONGEST_NAME⟩⟩
  have S : SameTxt mg := ⟨mz_isinstance, mz_list, mz_tuple, mz_len, mz_all, mz_zip, mz_bool, mz_int, mz_str⟩
  have G2 := ok_isinteger (P := l.prog) (w := w) (base := base) F2 T
  have G5 := ok_pull (P := l.prog) (w := w) (base := base) F5 mz_len mz_int
  have G6 := ok_any (P := l.prog) (w := w) (base := base) F6 G5 b5 k5 m5 mz_len
  refine ok_law F9 ⟨ok_bag F4 mz_len mz_list, b4, k4, m4⟩ ⟨G5, b5, k5, m5⟩ ⟨G6, b6, k6, m6⟩ ⟨all_same F7 S b7 m7 2, b7, k7, m7⟩ ⟨ok_names F8 G5 b5 k5 m5 G6 b6 k6 m6 mz_len mz_int mz_range, b8, k8, m8⟩ ⟨ok_isname F1 T, b1, k1, m1⟩ ?_ ⟨ok_isnumber F3 G2 b2 k2 m2, b3, k3, m3⟩ ?_ mz_len mz_all mz_range
  · exact Fun.kbn F1 0 ["value"] _ _ (fun r rz => r.append rz) fun _ _ _ _ _ _ us ws h1 h2 => match us, ws, h1, h2 with | [], [_], _, _ => rfl
  · exact Fun.kbn F3 0 ["most", "least", "value"] _ _ (fun r rz => r.append (Vals.rev rz)) fun _ _ _ _ _ _ us ws h1 h2 => match us, ws, h1, h2 with | [], [_, _, _], _, _ => rfl
theorem walk {l : PySem.W.OpenLaw} {q : Program} {loose : List Str} {XP : (Str → Option Value) → Heap → Prop} {YP : World → Heap → Prop} {d : DefRec} {K : Params → PySem.W.Frag} (hn : l.most = some 63) (hdf : d.params.defaults = [])
    (hY : ∀ (w : World) (h : Heap), YP w h → (K w.params).In h)
    (F : ∀ (w : World) (mg : Str → Option Value) (fa : Addr) (h : Heap), (K w.params).In h → h.Ns mainGlobals mg → mg d.name = some (.ref fa) →
      ∃ fd : FuncData, (∀ (s : Shared) (u : Value), BindsTo s fd ⟨[u], []⟩ [("_law_script", u)]) ∧ ∀ base : Heap, (K w.params).In base → base.Ns mainGlobals mg → FnOk l.prog w (K w.params) mg base CX0 4 fa fd ["_law_script"] (spLaw (K w.params))) :
    PySem.W.WalkO q loose XP YP l.row.toRowW d [] (fun f vs => PySem.call f vs) :=
  L2.walk_of (n := 63) (k := 4) (x := "_law_script") (CX := fun _ => CX0) (sp := fun w => spLaw (K w.params)) hn (by decide) hdf ⟨rfl, by decide, by decide⟩ hY F (fun _ _ a ns hl _ hS => ⟨a, ns, rfl, hS, hl, fun _ => rfl⟩) fun _ _ _ _ _ z => z
end Un
open PySem PySem.W PyProof.Rows
set_option maxRecDepth 100000 in
set_option maxHeartbeats 0 in
theorem PySem.Challenge.cw_unopened_k02_names_and_numbers_holds : PySem.Challenge.rw_unopened_k02_names_and_numbers.Holds := by
  w_on; o_law; k_head; (case hw => w_witness2)
  k_fill
  refine Un.walk (l := PySem.Challenge.rw_unopened_k02_names_and_numbers) rfl rfl (fun w h Y => PySem.W.kIn_of Y) ?F
  case F =>
    intro w mg fa h KX G hmg
    refine' Un.all_mk KX G hmg ?a1 ?l1 ?c1 ?k1 ?a2 ?l2 ?c2 ?k2 ?a3 ?l3 ?c3 ?k3 ?a4 ?l4 ?c4 ?k4 ?a5 ?l5 ?c5 ?k5 ?a6 ?l6 ?c6 ?k6 ?a7 ?l7 ?c7 ?k7 ?a8 ?l8 ?c8 ?k8 ?a9 ?l9 ?c9 ?k9 ?e1 ?e2 ?z1 ?z2 ?z3 ?z4 ?z5 ?z6 ?z7 ?z8 ?z9 ?z10
    (case a1 => k_is)
    (case l1 => k_is)
    (case c1 => k_is)
    (case k1 => k_is)
    (case a2 => k_is)
    (case l2 => k_is)
    (case c2 => k_is)
    (case k2 => k_is)
    (case a3 => k_is)
    (case l3 => k_is)
    (case c3 => k_is)
    (case k3 => k_is)
    (case a4 => k_is)
    (case l4 => k_is)
    (case c4 => k_is)
    (case k4 => k_is)
    (case a5 => k_is)
    (case l5 => k_is)
    (case c5 => k_is)
    (case k5 => k_is)
    (case a6 => k_is)
    (case l6 => k_is)
    (case c6 => k_is)
    (case k6 => k_is)
    (case a7 => k_is)
    (case l7 => k_is)
    (case c7 => k_is)
    (case k7 => k_is)
    (case a8 => k_is)
    (case l8 => k_is)
    (case c8 => k_is)
    (case k8 => k_is)
    (case a9 => k_is)
    (case l9 => k_is)
    (case c9 => k_is)
    (case k9 => k_is)
    (case e1 => k_is)
    (case e2 => k_is)
    (case z1 => k_is)
    (case z2 => k_is)
    (case z3 => k_is)
    (case z4 => k_is)
    (case z5 => k_is)
    (case z6 => k_is)
    (case z7 => k_is)
    (case z8 => k_is)
    (case z9 => k_is)
    (case z10 => k_is)
