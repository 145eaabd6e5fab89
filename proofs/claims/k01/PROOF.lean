import PyProof.Rows.All
import Wide.All
import OpenK.AllK
import Wide.FinOn
import HandS.ForMost
import HandS.IsInst
import HandS.Flow
import HandS.Zip
import HandS.Defaults
import HandS.Codes
import HandS.ExcInit
import HandS.ExcField
import KE.KExcIs
import KE.KExcInit
import KE.GoesMore
import PySem.Challenge.RW_unopened_k01_errors_by_themselves
set_option Elab.async false
set_option linter.all false
set_option maxRecDepth 100000
set_option maxHeartbeats 4000000
/-! own exceptions as values: made, told, asked -/
namespace XV
open PySem PySem.W PySem.Calls PySem.Builtin PySem.Builtin.ObjectAttr PyProof.Rows PySem.HandSPX
/-- own classes, then the base's mro -/
def refsT (tail : List Value) : List Value → Bool
  | .ref _ :: r => refsT tail r
  | l => l == tail
theorem refsT_cases {tail : List Value} : ∀ l : List Value, refsT tail l = true → (∃ c r, l = .ref c :: r ∧ refsT tail r = true) ∨ l = tail
  | [], e => .inr (beq_iff_eq.mp e)
  | .ref c :: r, e => .inl ⟨c, r, rfl, e⟩
  | .none :: _, e => .inr (beq_iff_eq.mp e)
  | .ellipsis :: _, e => .inr (beq_iff_eq.mp e)
  | .notImplemented :: _, e => .inr (beq_iff_eq.mp e)
  | .bool _ :: _, e => .inr (beq_iff_eq.mp e)
  | .int _ _ :: _, e => .inr (beq_iff_eq.mp e)
  | .float _ _ :: _, e => .inr (beq_iff_eq.mp e)
  | .str _ _ :: _, e => .inr (beq_iff_eq.mp e)
  | .bytes _ _ :: _, e => .inr (beq_iff_eq.mp e)
  | .type _ :: _, e => .inr (beq_iff_eq.mp e)
  | .builtin _ :: _, e => .inr (beq_iff_eq.mp e)
/-- what the base's mro must keep -/
structure TailOk (tail : List Value) : Prop where
  pass : ∀ self, refuseLoop self "__setattr__" tail = pure ()
  obj : tail.contains (.type "object") = true
theorem TailOk.ne {tail : List Value} (T : TailOk tail) : tail ≠ [] := fun e => by
  have h := T.obj
  rw [e] at h
  cases h
theorem refsT_pass {tail : List Value} (T : TailOk tail) (self : Value) : ∀ l : List Value, refsT tail l = true → refuseLoop self "__setattr__" l = pure () := by
  intro l
  induction l with
  | nil => intro e; exact absurd (beq_iff_eq.mp e).symm T.ne
  | cons a r ih =>
    intro e
    rcases refsT_cases (a :: r) e with ⟨c, r', q, h⟩ | q
    · obtain ⟨rfl, rfl⟩ := List.cons.inj q
      rw [refuseLoop_ref]; exact ih h
    · rw [q]; exact T.pass self
theorem refsT_contains {tail : List Value} (T : TailOk tail) (X : String) : ∀ l : List Value, refsT tail l = true → l.contains (.type X) = tail.contains (.type X) := by
  intro l
  induction l with
  | nil => intro e; exact absurd (beq_iff_eq.mp e).symm T.ne
  | cons a r ih =>
    intro e
    rcases refsT_cases (a :: r) e with ⟨c, r', q, h⟩ | q
    · obtain ⟨rfl, rfl⟩ := List.cons.inj q
      rw [List.contains_cons, ih h]; rfl
    · rw [q]
theorem refsT_ne {tail l : List Value} (T : TailOk tail) (e : refsT tail l = true) : l.isEmpty = false := by
  cases l with
  | nil => exact absurd (beq_iff_eq.mp e).symm T.ne
  | cons _ _ => rfl
abbrev tailVE : List Value := [.type "ValueError", .type "Exception", .type "BaseException", .type "object"]
abbrev tailLE : List Value := [.type "LookupError", .type "Exception", .type "BaseException", .type "object"]
abbrev tailIE : List Value := [.type "IndexError", .type "LookupError", .type "Exception", .type "BaseException", .type "object"]
theorem tailVE_ok : TailOk tailVE := ⟨F.store_ValueError.passes, by decide +kernel⟩
theorem tailLE_ok : TailOk tailLE := ⟨F.store_LookupError.passes, by decide +kernel⟩
theorem tailIE_ok : TailOk tailIE := ⟨F.store_IndexError.passes, by decide +kernel⟩
section
variable {prog : Program} {w : World} {A : Around} {E : Value → Shared → Prop} {R : Result → Shared → Prop} {hp : Heap} {g : Array GenState} {d : Drawn} {t : Nat} {os : OsState}
theorem exc_osaT {K : W.Frag} {name : Str} {tk : Tok} {v : Value} {x C : Addr} {fv : Array Value} {cd : ClassData} {tail : List Value} (T : TailOk tail)
    (X : K.In hp) (hx : hp.get? x = some { cls := .ref C, data := .fields fv }) (hcd : W.clsIn K C = some cd) (hm : refsT tail cd.mro = true) (hh : cd.hasDict = true) (ha : W.findIn K (.ref C) name = some none)
    (hq : ∀ h' tk' dx, (∀ b o, b ≠ x → hp.get? b = some o → h'.get? b = some o) → hp.objs.size ≤ dx → dx ≠ x → h'.get? x = some { cls := .ref C, dict := some dx, data := .fields fv } →
      h'.Ns1 dx (fun y => if y = name then some v else none) → R (.ok (.ret .none)) ⟨h', g, d, tk', os⟩) :
    codeAny (model prog w) A (.call (.builtin "object.__setattr__") ⟨[.ref x, .str name tk, v], []⟩) R ⟨hp, g, d, t, os⟩ := by
  have I : W.InstAt hp x { cls := .ref C, data := .fields fv } C none := ⟨hx, rfl, rfl, trivial⟩
  have SF := F.store_object
  have ne := refsT_ne T hm
  have hob : cd.mro.contains (.type "object") = true := (refsT_contains T "object" _ hm).trans T.obj
  have hxs : x ≠ hp.objs.size := Nat.ne_of_lt (Heap.lt_size hx)
  have sub : W.Looks (model prog w) hp (isInstance (.ref x) (.type "object")) true := I.type.andThen (W.looks_mroIn X (by unfold W.mroIn; rw [hcd, Option.bind_some, if_neg (by rw [ne]; decide), hob]))
  refine codeAny_call_builtin SF.slot.plain SF.entry (@W.check_slot (model prog w) _ _ ⟨hp, g, d, t, os⟩ "object.__setattr__" "object" "__setattr__" (.ref x) [.str name tk, v] [] _ SF.kind SF.split sub (SF.args (.ref x) (.str name tk) v) ?_)
  have hmr : W.Looks (model prog w) hp (mroOf (.ref C)) cd.mro := (W.looks_clsIn X hcd).andThen .now
  have L3 : W.Looks (model prog w) hp (storeTaker? none) none := .now
  have hcls : W.Looks (model prog w) hp (classData C) cd := W.looks_clsIn X hcd
  rw [W.osa_eq, refuse_eq]
  refine wpAny_bind (wpAny_bind (I.type.at (wpAny_bind (hmr.at ?_))))
  rw [refsT_pass T _ _ hm]
  refine wpAny_pure (wpAny_bind (I.type.at (wpAny_bind ((W.looks_findIn X ha).at (wpAny_bind (L3.at ?_))))))
  show wpAny _ _ (storeInOwnDict (.ref x) (.ref C) (.str name tk) name v false) _ _ _
  obtain ⟨nm, bs, mro, ns, qn, hd, sn, sb, ab, col, del⟩ := cd
  dsimp only at hh
  subst hh
  unfold storeInOwnDict ownDictForStores
  repeat (first | with_reducible refine store_in_new ?_ ?_ | with_reducible refine wpAny_loadPart_at hx ?_ | with_reducible refine hcls.at ?_ | wp_step)
  · exact ⟨_, #[], _, (Heap.get?_update_ne _ _ _ _ hxs.symm).trans (Heap.get?_push_at rfl rfl), rfl, fun e he => absurd he (by simp), fun _ => rfl⟩
  · intro h' tk' hn' hs
    have hx₁ : (hp.push { cls := .type "dict", data := .dict #[] }).get? x = some { cls := .ref C, data := .fields fv } := Heap.get?_push_of_some _ hx
    refine hq h' tk' hp.objs.size (fun b o hb ho => ?_) (Nat.le_refl _) hxs.symm ?_ hn'
    · exact (hs.2 b (Nat.ne_of_lt (Heap.lt_size ho))).trans ((Heap.get?_update_ne _ _ _ _ hb).trans (Heap.get?_push_of_some _ ho))
    · exact (hs.2 x hxs).trans (Heap.get?_update_self _ hx₁ rfl)
theorem osa_oldT {K : W.Frag} {name : Str} {tk : Tok} {v : Value} {x C dx : Addr} {fv : Array Value} {cd : ClassData} {m0 : Str → Option Value} {nl : List Str} {tail : List Value} (T : TailOk tail)
    (X : K.In hp) (hx : hp.get? x = some { cls := .ref C, dict := some dx, data := .fields fv }) (hns : hp.Ns1 dx m0) (hw : Within m0 nl) (hz : nl.length ≤ 1000) (hcd : W.clsIn K C = some cd) (hm : refsT tail cd.mro = true) (hh : cd.hasDict = true)
    (ha : W.findIn K (.ref C) name = some none)
    (hq : ∀ h' tk', (∀ b o, b ≠ dx → hp.get? b = some o → h'.get? b = some o) → h'.Ns1 dx (fun y => if y = name then some v else m0 y) → R (.ok (.ret .none)) ⟨h', g, d, tk', os⟩) :
    codeAny (model prog w) A (.call (.builtin "object.__setattr__") ⟨[.ref x, .str name tk, v], []⟩) R ⟨hp, g, d, t, os⟩ := by
  obtain ⟨oD, esD, epD, hoD, hdD, _⟩ := hns.count hw
  have I : W.InstAt hp x { cls := .ref C, dict := some dx, data := .fields fv } C (some oD) := ⟨hx, rfl, rfl, hoD⟩
  have SF := F.store_object
  have ne := refsT_ne T hm
  have hob : cd.mro.contains (.type "object") = true := (refsT_contains T "object" _ hm).trans T.obj
  have sub : W.Looks (model prog w) hp (isInstance (.ref x) (.type "object")) true := I.type.andThen (W.looks_mroIn X (by unfold W.mroIn; rw [hcd, Option.bind_some, if_neg (by rw [ne]; decide), hob]))
  refine codeAny_call_builtin SF.slot.plain SF.entry (@W.check_slot (model prog w) _ _ ⟨hp, g, d, t, os⟩ "object.__setattr__" "object" "__setattr__" (.ref x) [.str name tk, v] [] _ SF.kind SF.split sub (SF.args (.ref x) (.str name tk) v) ?_)
  have hmr : W.Looks (model prog w) hp (mroOf (.ref C)) cd.mro := (W.looks_clsIn X hcd).andThen .now
  have L3 : W.Looks (model prog w) hp (storeTaker? none) none := .now
  have hcls : W.Looks (model prog w) hp (classData C) cd := W.looks_clsIn X hcd
  rw [W.osa_eq, refuse_eq]
  refine wpAny_bind (wpAny_bind (I.type.at (wpAny_bind (hmr.at ?_))))
  rw [refsT_pass T _ _ hm]
  refine wpAny_pure (wpAny_bind (I.type.at (wpAny_bind ((W.looks_findIn X ha).at (wpAny_bind (L3.at ?_))))))
  show wpAny _ _ (storeInOwnDict (.ref x) (.ref C) (.str name tk) name v false) _ _ _
  obtain ⟨nm, bs, mro, ns, qn, hd, sn, sb, ab, col, del⟩ := cd
  dsimp only at hh
  subst hh
  unfold storeInOwnDict ownDictForStores
  repeat (first | with_reducible refine PySem.OEX.store_in_old hns hw hz ?_ | with_reducible refine wpAny_loadPart_at hx ?_ | with_reducible refine hcls.at ?_ | wp_step)
  intro h' tk' hn' hs
  exact hq h' tk' (fun b o hb ho => (hs.2 b hb).trans ho) hn'
end
end XV
namespace L2
open PySem PySem.Spec PyProof.Rows XV
/-- what the written part says of an own exception class with an own __init__ -/
structure OexG (K : PySem.W.Frag) (C : Addr) : Prop where
  cls : ∃ B nid iid tail nm q N bs bm sn sub ab col dd k0 k1 k2 k3 k5, ExcBaseFacts B nid iid tail ∧ TailOk tail ∧ K.lookup C = some (excClassObj nm q C N bs bm true sn sub ab col dd k0 k1 k2 k3 k5 nid) ∧ refsT tail bm = true
  sa : PySem.W.findIn K (.ref C) "__setattr__" = some (some (.builtin "object.__setattr__"))
  exC : PySem.W.subIn K (.ref C) (.type "BaseException") = some true
  tyC : PySem.W.typeIn K (.ref C) = some (.type "type")
  kC : PySem.W.keepIn K (.ref C) = true
section
variable {X : Cx} {pins : List (Addr × Obj)} {σ : St} {H : Hp} {s : Shared} {a C dx : Addr} {f : Str} {y : V} {u : Value} {fs : List (Str × V)} {Q : Unit → Shared → Prop} {E : Value → Shared → Prop} {A : Around}
theorem ostG_new (T : OexG X.K C) (I : Inv X pins σ H s) (e : H a = some (exo a C none)) (hno : PySem.W.findIn X.K (.ref C) f = some none) (ry : RelV y u)
    (h : ∀ dx s', H dx = none → dx ≠ a → Inv X pins σ (upd (upd H dx (exd dx [(f, y)])) a (exo a C (some dx))) s' → Q () s') : wpAny (model X.prog X.w) A (setAttr (.ref a) f u) Q E s := by
  obtain ⟨B, nid, iid, tail, nm, q, N, bs, bm, sn, sub, ab, col, dd, k0, k1, k2, k3, k5, _, TO, hC, hbm⟩ := T.cls
  have hcl : PySem.W.clsIn X.K C = some { name := nm, bases := bs, mro := .ref C :: bm, ns := N, qualname := q, hasDict := true, slotNames := sn, subclasses := sub, abstract := ab, collection := col, hasDel := false } := by unfold PySem.W.clsIn; rw [hC] <;> rfl
  obtain ⟨t1, ho⟩ := exo_at I.hok e
  obtain ⟨hp, g, d, t, os⟩ := s
  refine PySem.W.set_plain I.kIn (ox := { cls := .ref C, dict := none, data := .fields #[.ref t1, .none, .none, .none, .bool false, .none] }) (od := none) ⟨ho, rfl, rfl, trivial⟩ T.sa ?_
  refine exc_osaT TO I.kIn ho hcl (show refsT tail (.ref C :: bm) = true from hbm) rfl hno (fun h' tk' dx k dn dne hx hn => ?_)
  have hnd : H dx = none := I.hok.fresh dn
  have nd : ∀ {b : Addr} {o : Obj}, hp.get? b = some o → b ≠ dx := fun {b o} q => Nat.ne_of_lt (Nat.lt_of_lt_of_le (Heap.lt_size q) dn)
  have na : ∀ {b : Addr}, H b = none → b ≠ a := fun {b} n z => by
    rw [z, e] at n
    cases n
  have Un1 : Un X.fs [] H (upd (upd H dx (exd dx [(f, y)])) a (exo a C (some dx))) hp h' := {
    keep := fun b o q n _ _ => k b o (na n) q
    slot := fun b o q n _ _ => ⟨o.slots, k b o (na n) q⟩
    free := fun b o q n _ => by rw [upd_ne (na n), upd_ne (nd q)]; exact n
    there := fun b o q _ => by
      by_cases hb : b = a
      · exact ⟨_, by rw [hb]; exact hx⟩
      · exact ⟨o, k b o hb q⟩
    tups := fun b xs q => by rw [upd_ne (at_ne e q exo_tup), upd_ne (ne_of_none q hnd)]; exact q
    frzs := fun b o v q => by rw [upd_ne (at_ne e q exo_frz), upd_ne (ne_of_none q hnd)]; exact q
    tbls := fun b ps q => ⟨#[], by rw [upd_ne (at_ne e q exo_tbl), upd_ne (ne_of_none q hnd), q]; simp⟩ }
  refine h dx _ hnd dne (I.un (t' := tk') Un1 fun b o q => ?_)
  by_cases hb : b = a
  · subst hb
    rw [upd_same] at q
    cases q
    exact exo_ok hx
  · rw [upd_ne hb] at q
    by_cases hd : b = dx
    · subst hd
      rw [upd_same] at q
      cases q
      exact exd_ok hn (relO_put (fs := []) ry fun g => True.intro)
    · rw [upd_ne hd] at q
      exact (I.hok b o q).stay (fun c v hc z => k c v (by
          rcases hc with hc | hc
          · rw [hc]
            exact hb
          · exact at_ne e hc exo_own) z)
        (fun c hc => by rw [upd_ne (at_ne e hc exo_own), upd_ne (ne_of_none hc hnd)]; exact hc) (fun c xs hc => by rw [upd_ne (at_ne e hc exo_tup), upd_ne (ne_of_none hc hnd)]; exact hc)
theorem ostG_old (T : OexG X.K C) (I : Inv X pins σ H s) (e : H a = some (exo a C (some dx))) (ed : H dx = some (exd dx fs)) (hl : fs.length ≤ 900) (hno : PySem.W.findIn X.K (.ref C) f = some none) (ry : RelV y u)
    (h : ∀ s', Inv X pins σ (upd H dx (exd dx ((f, y) :: fs))) s' → Q () s') : wpAny (model X.prog X.w) A (setAttr (.ref a) f u) Q E s := by
  obtain ⟨B, nid, iid, tail, nm, q, N, bs, bm, sn, sub, ab, col, dd, k0, k1, k2, k3, k5, _, TO, hC, hbm⟩ := T.cls
  have hcl : PySem.W.clsIn X.K C = some { name := nm, bases := bs, mro := .ref C :: bm, ns := N, qualname := q, hasDict := true, slotNames := sn, subclasses := sub, abstract := ab, collection := col, hasDel := false } := by unfold PySem.W.clsIn; rw [hC] <;> rfl
  obtain ⟨t1, ho⟩ := exo_at I.hok e
  obtain ⟨mA, hns, rel⟩ := exd_at I.hok ed
  have hw := within_of rel
  obtain ⟨hp, g, d, t, os⟩ := s
  obtain ⟨oD, _, _, hoD, _, _⟩ := hns.count hw
  refine PySem.W.set_plain I.kIn (ox := { cls := .ref C, dict := some dx, data := .fields #[.ref t1, .none, .none, .none, .bool false, .none] }) (od := some oD) ⟨ho, rfl, rfl, hoD⟩ T.sa ?_
  refine osa_oldT TO I.kIn ho hns hw (by rw [List.length_map]; omega) hcl (show refsT tail (.ref C :: bm) = true from hbm) rfl hno (fun h' tk' k hn => ?_)
  have hd : ∃ o, h'.get? dx = some o := by
    obtain ⟨o, _, _, e', _⟩ := hn
    exact ⟨o, e'⟩
  exact h _ (I.write (t' := tk') (x := dx) (e := dx) (o := exd dx ((f, y) :: fs)) (by rw [ed]; exact True.intro) (.inl rfl) k hd (exd_ok hn (relO_put ry rel)))
end
/-- self.f = e -/
def tOstG (K : PySem.W.Frag) (f : Str) (to te : TE) : TS := fun D σ H => te σ H fun y H1 => to σ H1 fun x H2 => ∃ a C : Addr, x = .ref a ∧ OexG K C ∧ PySem.W.findIn K (.ref C) f = some none ∧
  ((H2 a = some (exo a C none) ∧ ∀ dx, H2 dx = none → dx ≠ a → D.nx σ (upd (upd H2 dx (exd dx [(f, y)])) a (exo a C (some dx)))) ∨
    ∃ (dx : Addr) (fs : List (Str × V)), H2 a = some (exo a C (some dx)) ∧ H2 dx = some (exd dx fs) ∧ fs.length ≤ 900 ∧ D.nx σ (upd H2 dx (exd dx ((f, y) :: fs))))
/-- e.f -/
def tXo (K : PySem.W.Frag) (f : Str) (te : TE) : TE := fun σ H Q => te σ H fun x H1 => ∃ (a C dx : Addr) (fs : List (Str × V)) (v : V), x = .ref a ∧ H1 a = some (exo a C (some dx)) ∧ H1 dx = some (exd dx fs) ∧ XfC K C ∧ PySem.W.findIn K (.ref C) f = some none ∧ fs.lookup f = some v ∧ Q v H1
/-- C(..), its own __init__ walked -/
def tMkG (C : Addr) (n : Nat) (sp : Sp) (gV : List V → List V → List V) (ta tk : TA) : TE := fun σ H Q => ta σ H fun vs H1 => tk σ H1 fun zs H2 => vs.length = n ∧ zs.length ≤ 1000 ∧ vs.length ≤ 1000 ∧ ∀ a, H2 a = none → sp (gV (.ref a :: vs) zs) (upd H2 a (exo a C none)) (fun v H3 => v = .non ∧ Q (.ref a) H3) E0
section
variable {X : Cx} {o e : Expr} {es : List Expr} {to te : TE} {ta : TA} {f : Str} {p p' p1 p2 pos : Pos}
theorem ps_ostG (ho : PE X o to) (he : PE X e te) (hs : swapsWith e (some (.Attribute o f p')) pos.line X.env = pure false := by rfl) : PS X (.Assign [.Attribute o f p'] e pos) (tOstG X.K f to te) := by
  refine ⟨fun pins s σ H D I h => ?_⟩
  refine plainObj_wpAny_Assign_Attribute (thn (he.run pins s σ H _ I h) fun v s1 ⟨y, H1, I1, r1, q1⟩ => thn (ho.run pins s1 σ H1 _ I1 q1) fun u s2 ⟨x, H2, I2, r2, a, C, ex, T, hno, q⟩ => ?_) hs
  subst ex
  obtain rfl : u = Value.ref a := r2
  rcases q with ⟨ea, q⟩ | ⟨dx, fs, ea, ed, hl, q⟩
  · exact ostG_new T I2 ea hno r1 fun dx s' n ne J => ⟨σ, _, J, q dx n ne⟩
  · exact ostG_old T I2 ea ed hl hno r1 fun s' J => ⟨σ, _, J, q⟩
theorem pe_xo (he : PE X e te) (hb : attributeBase e f X.env (eval e X.env) = eval e X.env := by rfl) : PE X (.Attribute e f pos) (tXo X.K f te) := by
  refine ⟨fun pins s σ H Q I h => ?_⟩
  refine attr_of hb (thn (he.run pins s σ H _ I h) fun u s1 hh => ?_)
  obtain ⟨x, H1, I1, rx, a, C, dx, fs, v, ex, ea, ed, T, hno, l, q⟩ := hh
  subst ex
  obtain rfl : u = Value.ref a := rx
  obtain ⟨t1, ho⟩ := exo_at I1.hok ea
  obtain ⟨mA, hns, hr⟩ := exd_at I1.hok ed
  obtain ⟨od, hod, hl⟩ := lookIn_ns hns
  obtain ⟨u, hu, ru⟩ := RelO.some_of (v := v) (o := mA f) (by rw [← l]; exact hr f)
  have J : PySem.W.InstAt s1.heap a ({ cls := .ref C, dict := some dx, data := .fields #[.ref t1, .none, .none, .none, .bool false, .none] } : Obj) C (some od) := ⟨ho, rfl, rfl, hod⟩
  exact HandSPX.exc_get I1.kIn J T.ga T.gg T.exC (PySem.W.findObj_own T.hdC hno rfl (by rw [hl, hu])) (handed_of ru) ⟨v, H1, I1.tok _, ru, q⟩
end
/-- the class of an own exception, so that isinstance asks its instances rightly -/
structure XisC (K : PySem.W.Frag) (D : Addr) : Prop where
  hc : (PySem.W.clsIn K D).isSome = true
  hg : PySem.W.findIn K (.ref D) "__getattribute__" = some (some (.builtin "BaseException.__getattribute__"))
  hk : PySem.W.findIn K (.ref D) "__getattr__" = some none
  hs : PySem.W.subIn K (.ref D) (.type "BaseException") = some true
  ha : PySem.W.findIn K (.ref D) "__class__" = some (some (.builtin "object.__class__"))
  hn : PySem.W.specialIn K (.builtin "object.__class__") "__get__" = some (some (.builtin "getset_descriptor.__get__"))
  ht : PySem.W.takesIn K (.builtin "object.__class__") = some true
  hm : PySem.W.mroIn K D (.type "object") = some true
/-- isinstance(e, c), e an own exception -/
def rIsX (K : PySem.W.Frag) : List V → Hp → VK → Prop := fun xs H Q => ∃ (a D dx : Addr) (fs : List (Str × V)) (c : V) (u : Value) (b : Bool), xs = [.ref a, c] ∧ ClsV c u ∧ H a = some (exo a D (some dx)) ∧ H dx = some (exd dx fs) ∧ XisC K D ∧ PySem.W.kitOne K (.ref D) u = some b ∧ Q (.bl b) H
theorem call_isX {X : Cx} : CallR X (.builtin "isinstance") (rIsX X.K) := by
  intro pins s σ H xs us Q I r h
  obtain ⟨a, D, dx, fs, c, u, b, rfl, k, ea, ed, C, e, q⟩ := h
  obtain ⟨u1, u2, rfl, r1, r2⟩ := vals2 r
  have e2 := k.eq r2
  subst e2
  obtain rfl : u1 = Value.ref a := r1
  obtain ⟨t1, ho⟩ := exo_at I.hok ea
  obtain ⟨mA, hns, _⟩ := exd_at I.hok ed
  obtain ⟨od, hod, _⟩ := lookIn_ns hns
  have J : PySem.W.InstAt s.heap a ({ cls := .ref D, dict := some dx, data := .fields #[.ref t1, .none, .none, .none, .bool false, .none] } : Obj) D (some od) := ⟨ho, rfl, rfl, hod⟩
  exact PySem.W.kia_one (PySem.W.kitx_exc C.hc C.hg C.hk C.hs C.ha C.hn C.ht C.hm) I.kIn J e (fun z => nomatch z) fun tk => ⟨.bl b, H, I.tok tk, rfl, q⟩
end L2
namespace PySem
namespace XVK
open HandSPX Builtin Builtin.ObjectAttr
section
variable {M : Model} {A : Around} {E : Value → Shared → Prop} {h : Heap} {g : Array GenState} {d : Drawn} {t : Nat} {os : OsState}
variable {nm q : Str} {C N : Addr} {bs bm bmB : List Value} {hdct : Bool} {sn : List Str} {sub : List Value} {ab : Bool} {col : Option Bool} {dd : Option Addr} {k0 k1 k2 k3 k5 : Option Value} {B newId initId : String}
theorem check_type_call_subK {M : Model} {rest : List Value} {kw : List (Str × Value)} {Q : Unit → Shared → Prop} (hC : h.get? C = some (excClassObj nm q C N bs bm hdct sn sub ab col dd k0 k1 k2 k3 k5 newId))
    (hq : Q () ⟨h, g, d, t, os⟩) : wpAny M A (checkBuiltinCall "type.__call__" ⟨.ref C :: rest, kw⟩) Q E ⟨h, g, d, t, os⟩ := by
  have f3 := tc_sub
  have hT : (⟨h, g, d, t, os⟩ : Shared).TypeIs (.ref C) "type" := ⟨_, hC, rfl⟩
  simp only [checkBuiltinCall, tc_kind, tc_split]
  repeat (any_goals (first | assumption | with_reducible refine wpAny_loadPart_at hC ?_ | with_reducible refine wpAny_onRaise ?_ | with_reducible refine wpAny_map ?_ | wp_step))
theorem check_new_ownK (F : ExcBaseFacts B newId initId bmB) (hT : ∀ X : String, bm.contains (.type X) = bmB.contains (.type X)) {rest : List Value} {kw : List (Str × Value)} {Q : Unit → Shared → Prop}
    (hC : h.get? C = some (excClassObj nm q C N bs bm hdct sn sub ab col dd k0 k1 k2 k3 k5 newId)) (hq : Q () ⟨h, g, d, t, os⟩) : wpAny M A (checkBuiltinCall newId ⟨.ref C :: rest, kw⟩) Q E ⟨h, g, d, t, os⟩ := by
  have hcont : (Value.ref C :: bm).contains (.type B) = true := by rw [List.contains_cons, hT, F.hasB, Bool.or_true]
  have hstar := F.noStar
  simp only [checkBuiltinCall, F.newKind, F.newSplit, F.newRow]
  repeat (first | refine wpAny_loadPart_at hC ?_ | (refine wpAny_isSubtype_exc hC ?_; rw [hcont]) | refine wpAny_staticBase_exc hC ?_ | refine wpAny_madeBy_exc hC ?_ | simp only [bne_self_eq_false, Bool.false_eq_true, if_false] | wp_step)
  exact hq
end
section
variable {prog : Program} {w : World} {A : Around} {E : Value → Shared → Prop} {R : Result → Shared → Prop} {h : Heap} {g : Array GenState} {d : Drawn} {t : Nat} {os : OsState}
variable {nm q : Str} {C N : Addr} {bs bm bmB : List Value} {hdct : Bool} {sn : List Str} {sub : List Value} {ab : Bool} {col : Option Bool} {dd : Option Addr} {k0 k1 k2 k3 k5 : Option Value} {B newId initId : String}
theorem new_ownK (F : ExcBaseFacts B newId initId bmB) (hT : ∀ X : String, bm.contains (.type X) = bmB.contains (.type X)) {rest : List Value} {kw : List (Str × Value)}
    (hC : h.get? C = some (excClassObj nm q C N bs bm hdct sn sub ab col dd k0 k1 k2 k3 k5 newId))
    (hq : R (.ok (.ret (.ref (h.objs.size + 1)))) ⟨(h.push { cls := .type "tuple", data := .seq rest.toArray }).push
      { cls := .ref C, data := .fields #[.ref h.objs.size, .none, .none, .none, .bool false, .none] }, g, d, t, os⟩) (hrest : rest.length ≤ sizeLine) :
    codeAny (model prog w) A (.builtin newId ⟨.ref C :: rest, kw⟩) R ⟨h, g, d, t, os⟩ := by
  have hends := F.ends
  have hcB : (Value.ref C :: bm).contains (.type B) = true := by rw [List.contains_cons, hT, F.hasB, Bool.or_true]
  have hcA : (Value.ref C :: bm).contains (.type "AttributeError") = false := by rw [List.contains_cons, hT, F.noAttr]; rfl
  have hcN : (Value.ref C :: bm).contains (.type "NameError") = false := by rw [List.contains_cons, hT, F.noName]; rfl
  refine codeAny_builtinAt F.entry ?_
  unfold Builtin.«BaseException.__new__»
  refine wpAt_bind ?_
  show wpAt _ _ _ (stack >>= _) _ _ _
  refine wpAt_bind (wpAt_stack fun p below => wpAt_of_wpAny ?_)
  wp_walk
  refine wpAt_of_wpAny ?_
  rw [F.owner]
  repeat (first | with_reducible refine wpAny_madeHere_exc F.canon hC ?_ | with_reducible refine wpAny_loadPart_at hC ?_ | (with_reducible refine wpAny_isSubtype_exc hC ?_; first | rw [hcB] | rw [hcA] | rw [hcN]) | wp_step)
  show R _ _
  rw [Heap.size_push]
  exact hq

theorem type_call_ownK (F : ExcBaseFacts B newId initId bmB) (hT : ∀ X : String, bm.contains (.type X) = bmB.contains (.type X)) {rest : List Value} {kw : List (Str × Value)} {fI : Addr} {Q : Fin → Shared → Prop}
    (hC : h.get? C = some (excClassObj nm q C N bs bm hdct sn sub ab col dd k0 k1 k2 k3 k5 newId))
    (hi : W.Looks (model prog w) h (typeLookup (.ref C) "__init__") (some (.ref fI))) (hb : ∀ self, W.Looks (model prog w) h (bindSpecial (.ref fI) self) (.ref fI, [self])) (hrest : rest.length ≤ sizeLine)
    (hq : codeAny (model prog w) A (.call (.ref fI) ⟨.ref (h.objs.size + 1) :: rest, kw⟩)
      (fun r s' => match r with | .ok (.ret v) => v = .none ∧ Q (.done (.ret (.ref (h.objs.size + 1)))) s' | .ok _ => False | .error e => E e s')
      ⟨(h.push (W.kdv_tup rest)).push (excO C h.objs.size), g, d, t, os⟩) :
    wpAny (model prog w) A (Builtin.«type.__call__» ⟨.ref C :: rest, kw⟩) Q E ⟨h, g, d, t, os⟩ := by
  repeat (first | with_reducible refine wpAny_loadPart_at hC ?_ | with_reducible refine wpAny_madeBy_exc hC ?_ | wp_step)
  refine codeAny_call_builtin_code (Code.quiet_builtin _ F.quiet) (check_new_ownK F hT hC ?_)
  refine new_ownK F hT hC ?_ hrest
  show wpAny _ _ _ _ _ _
  have k : ∀ b o, h.get? b = some o → ((h.push (W.kdv_tup rest)).push (excO C h.objs.size)).get? b = some o := fun b o e => Heap.get?_push_of_some _ (Heap.get?_push_of_some _ e)
  have hC₁ := k _ _ hC
  have hget : ((h.push (W.kdv_tup rest)).push (excO C h.objs.size)).get? (h.objs.size + 1) = some (excO C h.objs.size) := by heap_get
  have hcC : (Value.ref C :: bm).contains (.ref C) = true := by simp
  have i1 := hi.keeps k
  have b1 := (hb (.ref (h.objs.size + 1))).keeps k
  unfold isInstance
  repeat (first | with_reducible refine wpAny_loadPart_at hget ?_ | (with_reducible refine wpAny_isSubtype_exc hC₁ ?_; rw [hcC]) | wp_step)
  show wpAny _ _ (typeLookup (.ref C) _) _ _ _
  refine i1.at ?_
  refine wpAny_holding (wpAny_bind (b1.at ?_))
  refine wpAny_bind (wpAny_call (codeAny_mono hq fun r s' z => ?_))
  rcases r with e | (v | _ | _ | _) <;> first | exact z | exact z.elim | skip
  obtain ⟨rfl, z⟩ := z
  first
    | exact wpAny_pure (wpAny_pure z)
    | (wp_walk; exact z)

theorem call_ownK (F : ExcBaseFacts B newId initId bmB) (hT : ∀ X : String, bm.contains (.type X) = bmB.contains (.type X)) {rest : List Value} {kw : List (Str × Value)} {fI : Addr}
    (hC : h.get? C = some (excClassObj nm q C N bs bm hdct sn sub ab col dd k0 k1 k2 k3 k5 newId))
    (hi : W.Looks (model prog w) h (typeLookup (.ref C) "__init__") (some (.ref fI))) (hb : ∀ self, W.Looks (model prog w) h (bindSpecial (.ref fI) self) (.ref fI, [self])) (hrest : rest.length ≤ sizeLine)
    (hq : codeAny (model prog w) (A.under (.builtin "type.__call__" ⟨.ref C :: rest, kw⟩)) (.call (.ref fI) ⟨.ref (h.objs.size + 1) :: rest, kw⟩) (W.InitBack (h.objs.size + 1) R)
      ⟨(h.push (W.kdv_tup rest)).push (excO C h.objs.size), g, d, t, os⟩) :
    codeAny (model prog w) A (.call (.ref C) ⟨rest, kw⟩) R ⟨h, g, d, t, os⟩ := by
  have f1 := tc_lookup
  have f2 := tc_bind (.ref C)
  have hTy : (⟨h, g, d, t, os⟩ : Shared).TypeIs (.ref C) "type" := ⟨_, hC, rfl⟩
  refine codeAny_of_tree ?_
  show wpAny _ _ (callAny (.ref C) _) _ _ _
  repeat (any_goals (first | assumption | with_reducible refine wpAny_loadPart_at hC ?_ | wp_step))
  refine ⟨rfl, ?_⟩
  refine codeAny_call_builtin_at (Code.quiet_builtin _ (by decide +kernel)) entry_typeCall (check_type_call_subK hC (type_call_ownK F hT hC hi hb hrest ?_))
  refine codeAny_mono hq fun r s' z => ?_
  rcases r with e | (v | _ | _ | _) <;> exact z

end
end XVK
end PySem
namespace L2
open PySem PySem.Spec PyProof.Rows XV
/-- C(..), its own __init__ walked -/
def tMkN (C : Addr) (n m : Nat) (sp : Sp) (gV : List V → List V → List V) (ta tk : TA) : TE := fun σ H Q => ta σ H fun vs H1 => tk σ H1 fun zs H2 => vs.length = n ∧ zs.length = m ∧ n ≤ 1000 ∧ ∀ a, H2 a = none → sp (gV (.ref a :: vs) zs) (upd H2 a (exo a C none)) (fun v H3 => v = .non ∧ Q (.ref a) H3) E0
section
variable {X : Cx} {C fI : Addr} {k n : Nat} {fd : FuncData} {ps ks : List Str} {sp : Sp} {g : List Value → List Value → List Value} {gV : List V → List V → List V}
theorem run_mkG {pins : List (Addr × Obj)} {σ : St} {H : Hp} {s : Shared} {Q : VK} {us ws : List Value} {vs zs : List V} (T : OexG X.K C) (iC : PySem.W.findIn X.K (.ref C) "__init__" = some (some (.ref fI))) (tI : PySem.W.typeIn X.K (.ref fI) = some (.type "function"))
    (F1 : FnOk X.prog X.w X.K X.mg X.base CX0 k fI fd ps sp) (hr : Room (k + 1) X.A) (hb : KBn X.K fd ps (n + 1) ks g gV) (I : Inv X pins σ H s) (r : Vals vs us) (rz : Vals zs ws) (l1 : vs.length = n) (l2 : zs.length = ks.length) (hn : n ≤ 1000)
    (h : ∀ a, H a = none → sp (gV (.ref a :: vs) zs) (upd H a (exo a C none)) (fun v H3 => v = .non ∧ Q (.ref a) H3) E0) : wpAny (model X.prog X.w) X.A (call (.ref C) us (ks.zip ws)) (EP X pins σ Q) X.xe s := by
  obtain ⟨B, nid, iid, tail, nm, q, N, bs, bm, sn, sub, ab, col, dd, k0, k1, k2, k3, k5, FB, TO, hC, hbm⟩ := T.cls
  obtain ⟨hp, gg, dr, tk, os⟩ := s
  have hsz : hp.objs.size ≤ hp.objs.size + 1 := Nat.le_succ _
  have hn0 : H (hp.objs.size + 1) = none := I.hok.fresh hsz
  have hq := h (hp.objs.size + 1) hn0
  have kk : ∀ b o, hp.get? b = some o → ((hp.push (PySem.W.kdv_tup us)).push (PySem.HandSPX.excO C hp.objs.size)).get? b = some o := fun b o e => Heap.get?_push_of_some _ (Heap.get?_push_of_some _ e)
  have hget : ((hp.push (PySem.W.kdv_tup us)).push (PySem.HandSPX.excO C hp.objs.size)).get? (hp.objs.size + 1) = some (PySem.HandSPX.excO C hp.objs.size) := by heap_get
  have I2 : Inv X pins σ (upd H (hp.objs.size + 1) (exo (hp.objs.size + 1) C none)) ⟨(hp.push (PySem.W.kdv_tup us)).push (PySem.HandSPX.excO C hp.objs.size), gg, dr, tk, os⟩ :=
    I.laid (t' := tk) (a := hp.objs.size + 1) (o := exo (hp.objs.size + 1) C none) (h' := (hp.push (PySem.W.kdv_tup us)).push (PySem.HandSPX.excO C hp.objs.size)) kk hsz (exo_ok hget)
  have r1 : Vals (V.ref (hp.objs.size + 1) :: vs) (Value.ref (hp.objs.size + 1) :: us) := .cons rfl r
  have r2 := hb.rel r1 rz
  have e1 : (Value.ref (hp.objs.size + 1) :: us).length = n + 1 := r1.length.symm.trans (congrArg Nat.succ l1)
  have e2 : ws.length = ks.length := rz.length.symm.trans l2
  have hus : us.length ≤ sizeLine := by
    rw [← Paired.length r, l1, sizeLine_eq]
    omega
  refine wpAny_call (PySem.XVK.call_ownK FB (fun Y => refsT_contains TO Y bm hbm) (I.kIn _ _ hC) (PySem.W.looks_findIn I.kIn iC) (fun self => PySem.W.bind_fn I.kIn self tI) hus
    (codeAny_mono (F1.run _ X.stack _ _ ⟨Value.ref (hp.objs.size + 1) :: us, ks.zip ws⟩ (g (Value.ref (hp.objs.size + 1) :: us) ws) _ _ E0 (hr.make C us (ks.zip ws)) (I2.env0.make C us (ks.zip ws)) (hb.to _ (Value.ref (hp.objs.size + 1) :: us) ws I2.kIn e1 e2) r2 hq) fun r s' hq' => ?_))
  cases r with
  | error er => exact pass0 pins σ _ _ er s' I2 hq'
  | ok fl =>
    cases fl with
    | ret u =>
      obtain ⟨v, H', I3, rv, ev, q3⟩ := I2.after hq'
      subst ev
      exact ⟨rv, ⟨V.ref (hp.objs.size + 1), H', I3, rfl, q3⟩⟩
    | next => exact False.elim hq'
    | brk => exact False.elim hq'
    | cont => exact False.elim hq'
/-- a class to be made: where it stands, its __init__ -/
structure Xm (P : Program) (w : World) (K : PySem.W.Frag) (mg : Str → Option Value) (base : Heap) (C : Addr) (k : Nat) (fI : Addr) (fd : FuncData) (x : Str) (ps : List Str) (sp : Sp) : Prop where
  T : OexG K C
  iC : PySem.W.findIn K (.ref C) "__init__" = some (some (.ref fI))
  tI : PySem.W.typeIn K (.ref fI) = some (.type "function")
  ok : FnOk P w K mg base CX0 k fI fd ps sp
  m : mg x = some (.ref C)
theorem pe_mkG {x : Str} {e : Expr} {es : List Expr} {ta : TA} {p pos : Pos} (M : Xm X.prog X.w X.K X.mg X.base C k fI fd x ps sp) (hr : Room (k + 1) X.A) (hg : Gl X x) (hb : KBn X.K fd ps (n + 1) [] g gV) (ha : PA X (e :: es) ta)
    (hdb : (x == ("__debug__" : Str)) = false := by decide) (he : starEach (e :: es) X.env = (false, eval e X.env) :: starEach es X.env := by rfl) (hpl : (backTo pos (starEach es X.env)).any (·.1) = false := by rfl) :
    PE X (.Call (.Name x p) (e :: es) [] pos) (tMkN C n 0 sp gV ta tNil) := by
  refine ⟨fun pins s σ H Q I h => ?_⟩
  refine wpAny_Call_Name_kw (ld_glob I hg M.m ?_ hdb)
  refine PySem.W.callWith_K (h₀ := X.base) I.ok.mod.kin M.T.kC (thn (ha.run pos pins s σ H _ I h) fun us s1 ⟨vs, H1, I1, r, q⟩ => ⟨I1.kIn, ?_⟩) he hpl
  obtain ⟨l1, l2, l3, q⟩ := q
  exact run_mkG (us := us) (ws := []) (vs := vs) (zs := []) M.T M.iC M.tI M.ok hr hb I1 r .nil l1 rfl l3 q
theorem pe_mkG0 {x : Str} {p pos : Pos} (M : Xm X.prog X.w X.K X.mg X.base C k fI fd x ps sp) (hr : Room (k + 1) X.A) (hg : Gl X x) (hb : KBn X.K fd ps 1 [] g gV) (hdb : (x == ("__debug__" : Str)) = false := by decide) :
    PE X (.Call (.Name x p) [] [] pos) (tMkN C 0 0 sp gV tNil tNil) := by
  refine ⟨fun pins s σ H Q I h => ?_⟩
  refine wpAny_Call_Name_kw (ld_glob I hg M.m ?_ hdb)
  obtain ⟨l1, l2, l3, q⟩ := h
  exact PySem.W.callWith_K0 I.kIn M.T.kC (run_mkG (us := []) (ws := []) (vs := []) (zs := []) M.T M.iC M.tI M.ok hr hb I .nil .nil rfl rfl l3 q)
theorem pe_mkGK {x : Str} {kws : List Keyword} {tk : TA} {p pos : Pos} (M : Xm X.prog X.w X.K X.mg X.base C k fI fd x ps sp) (hr : Room (k + 1) X.A) (hg : Gl X x) (hb : KBn X.K fd ps 1 ks g gV) (hkw : PK X kws tk)
    (hall : (backToKw pos (keywordEach kws X.env)).all (·.1.isSome) = true := by rfl) (hks : (backToKw pos (keywordEach kws X.env)).filterMap (·.1) = ks := by rfl) (hdb : (x == ("__debug__" : Str)) = false := by decide)
    (hpl : ((backTo pos (starEach [] X.env)).any (·.1) || (backToKw pos (keywordEach kws X.env)).any (·.1.isNone)) = false := by rfl) :
    PE X (.Call (.Name x p) [] kws pos) (tMkN C 0 ks.length sp gV tNil tk) := by
  refine ⟨fun pins s σ H Q I h => ?_⟩
  refine wpAny_Call_Name_kw (ld_glob I hg M.m ?_ hdb)
  refine PySem.W.callWith_KW0 (h₀ := X.base) I.ok.mod.kin M.T.kC hall ?_ hpl
  refine thn (hkw.run pos pins s σ H _ I h) fun ws s2 ⟨zs, H2, I2, rz, l1, l2, l3, q⟩ => ⟨I2.kIn, ?_⟩
  rw [hks]
  exact run_mkG (us := []) (ws := ws) (vs := []) (zs := zs) M.T M.iC M.tI M.ok hr hb I2 .nil rz rfl l2 l3 q
end
end L2
namespace Un
open PySem L2 TL
def top (i : Nat) : Stmt := PySem.Challenge.pw_unopened_k01_errors_by_themselves.main.body.getD i (.Pass ⟨0, 0, 0, 0⟩)
abbrev sBag : Stmt := top 32
abbrev sPull : Stmt := top 33
abbrev sAny : Stmt := top 34
/-! the law's drawing: a bag at b, its cells at c -/
structure BagIs (H : Hp) (b c : Addr) (ns : List Int) (p r s k : Int) : Prop where
  lb : H b = some (.lst [.ref c, .int p, .int r, .int s, .int k])
  lc : H c = some (.lst (ns.map V.int))
  nl : ns.length ≤ 63
  p0 : 0 ≤ p
  s0 : 0 ≤ s
  s1 : s < 2147483648
  r0 : 0 ≤ r
def Bag (H : Hp) (b c : Addr) : Prop := ∃ ns p r s k, BagIs H b c ns p r s k
/-- what was tracked is as it was, the bag aside -/
def Kp (b : Addr) (H H' : Hp) : Prop := ∀ a o, H a = some o → a ≠ b → H' a = some o
theorem Kp.refl (b : Addr) (H : Hp) : Kp b H H := fun _ _ h _ => h
theorem Kp.trans {b : Addr} {H H1 H2 : Hp} (x : Kp b H H1) (y : Kp b H1 H2) : Kp b H H2 := fun a o h n => y a o (x a o h n) n
theorem Same.kp {b : Addr} {H H' : Hp} (x : Same H H') : Kp b H H' := fun a o h _ => x a o h
theorem same_upd {H : Hp} {p : Addr} (h : H p = none) (o : HO) : Same H (upd H p o) := fun b u q => by rw [upd_ne (ne_of_none q h)]; exact q
theorem Bag.ne {H : Hp} {b c : Addr} (B : Bag H b c) : b ≠ c := by
  obtain ⟨ns, p, r, s, k, B⟩ := B
  intro e
  have h1 := B.lb
  rw [e, B.lc] at h1
  cases ns with
  | nil => cases h1
  | cons x t => 
    have := Option.some.inj h1
    cases this
theorem Bag.same {H H' : Hp} {b c : Addr} (B : Bag H b c) (x : Same H H') : Bag H' b c := by
  obtain ⟨ns, p, r, s, k, B⟩ := B
  exact ⟨ns, p, r, s, k, x _ _ B.lb, x _ _ B.lc, B.nl, B.p0, B.s0, B.s1, B.r0⟩
theorem Bag.upd_new {H : Hp} {b c q : Addr} (B : Bag H b c) (h : H q = none) (o : HO) : Bag (upd H q o) b c := B.same (same_upd h o)
theorem Bag.there {H : Hp} {b c : Addr} (B : Bag H b c) : ∃ o, H b = some o := by
  obtain ⟨ns, p, r, s, k, B⟩ := B
  exact ⟨_, B.lb⟩
theorem Bag.fresh {H : Hp} {b c q : Addr} (B : Bag H b c) (h : H q = none) : q ≠ b := by
  obtain ⟨o, e⟩ := B.there
  exact (ne_of_none e h).symm
/-- the bag's list is written -/
theorem BagIs.put {H : Hp} {b c : Addr} {ns : List Int} {p r s k p' r' s' k' : Int} (B : BagIs H b c ns p r s k) (h0 : 0 ≤ p') (h1 : 0 ≤ s') (h2 : s' < 2147483648) (h3 : 0 ≤ r') :
    BagIs (upd H b (.lst [.ref c, .int p', .int r', .int s', .int k'])) b c ns p' r' s' k' := by
  have n : b ≠ c := Bag.ne ⟨ns, p, r, s, k, B⟩
  exact ⟨upd_same, by rw [upd_ne n.symm]; exact B.lc, B.nl, h0, h1, h2, h3⟩
def spPull : Sp := fun vs H Q _ => ∃ (b c : Addr) (many : Int), vs = [.ref b, .int many] ∧ Bag H b c ∧ 0 < many ∧ many < 1073741824 ∧
  ∀ (d : Int) (H' : Hp), 0 ≤ d → d < many → Bag H' b c → Kp b H H' → Q (.int d) H'
section
variable {P : Program} {w : World} {K : PySem.W.Frag} {mg : Str → Option Value} {base : Heap}
theorem scPull : FnScope ["_law_bag_here", "_law_many", "_law_cell", "_law_digit", "_law_seed"] ["_law_bag_here", "_law_many"] (defScope sPull) := ⟨rfl, rfl, rfl, by decide +kernel, rfl, by decide +kernel, by decide +kernel⟩
theorem ok_pull {f : Addr} {fd : FuncData} (F : Fun K "_law_pull" "_law_pull" sPull f fd) (mlen : mg "len" = none) (mint : mg "int" = none) : FnOk P w K mg base CX0 1 f fd ["_law_bag_here", "_law_many"] spPull := by
  refine F.ok scPull (fun vs H Q E h => ?_) (fun cdv A outer s H vs Q E hr h => ?_)
  · obtain ⟨b, c, many, rfl, _⟩ := h
    rfl
  obtain ⟨b, c, many, rfl, ⟨ns, p, r, s, k, B⟩, m0, m1, q⟩ := h
  refine ⟨_, C8.pss_cut (ps_if (PW.pt (pw_and (pt_cmpR op_eq (pe_ix ix_list (pv 0) pe_int (fun _ _ => rfl)) pe_int (nomark _)) (pw_and1 (pt_cmpR op_lt (pe_ix ix_list (pv 0) pe_int (fun _ _ => rfl)) (pe_callB call_len_seq (by rfl) mlen PySem.boot_len (pa_cons (pe_ix ix_list (pv 0) pe_int (fun _ _ => rfl)) pa_nil)) (nomark _)))))
      (pss_cons (ps_set (i := 2) scPull.nd rfl (Or.inl rfl) (pe_ix ix_list (pe_ix ix_list (pv 0) pe_int (fun _ _ => rfl)) (pe_ix ix_list (pv 0) pe_int (fun _ _ => rfl)) (fun _ _ => rfl)))
      (pss_cons (ps_asg (pe_op op_add (pe_ix ix_list (pv 0) pe_int (fun _ _ => rfl)) pe_int) (pg_sub (pv 0) pe_int set_list))
      (pss_one (ps_if (pt_cmpR op_ge (pv 2) (pe_op op_pow pe_int pe_int) (nomark _))
        (pss_one (ps_asg (pv 2) (pg_sub (pv 0) pe_int set_list)))
        (pss_one (ps_asg (pe_op op_mod (pe_callTy call_int1 (by rfl) mint (by decide +kernel) (pa_cons (pe_op op_add (pe_op op_add (pe_op op_mul (pe_ix ix_list (pv 0) pe_int (fun _ _ => rfl)) pe_int) (pe_op op_mul (pe_op op_mod (pe_callTy call_int1 (by rfl) mint (by decide +kernel) (pa_cons (pv 2) pa_nil)) pe_int) pe_int)) pe_int) pa_nil)) pe_int) (pg_sub (pv 0) pe_int set_list)))))))
      pss_nil)
    (pss_cons (ps_if (pt_cmpR op_gt (pe_ix ix_list (pv 0) pe_int (fun _ _ => rfl)) pe_int (nomark _))
      (pss_cons (ps_set (i := 3) scPull.nd rfl (Or.inl rfl) (pe_op op_mod (pe_callTy call_int1 (by rfl) mint (by decide +kernel) (pa_cons (pe_ix ix_list (pv 0) pe_int (fun _ _ => rfl)) pa_nil)) (pv 1)))
      (pss_cons (ps_asg (pe_op op_fdiv (pe_ix ix_list (pv 0) pe_int (fun _ _ => rfl)) (pv 1)) (pg_sub (pv 0) pe_int set_list))
      (pss_one (ps_ret (pv 3)))))
      pss_nil)
    (pss_cons (ps_asg (pe_op op_add (pe_ix ix_list (pv 0) pe_int (fun _ _ => rfl)) pe_int) (pg_sub (pv 0) pe_int set_list))
    (pss_cons (ps_set (i := 4) scPull.nd rfl (Or.inl rfl) (pe_ix ix_list (pv 0) pe_int (fun _ _ => rfl)))
    (pss_cons (ps_asg (pe_op op_mod (pe_callTy call_int1 (by rfl) mint (by decide +kernel) (pa_cons (pe_op op_add (pe_op op_add (pe_op op_add (pe_op op_mul (pe_op op_mul (pv 4) (pv 4)) pe_int) (pe_op op_mul (pv 4) pe_int)) (pe_op op_mul (pe_ix ix_list (pv 0) pe_int (fun _ _ => rfl)) pe_int)) pe_int) pa_nil)) pe_int) (pg_sub (pv 0) pe_int set_list))
    (pss_one (ps_ret (pe_op op_mod (pe_callTy call_int1 (by rfl) mint (by decide +kernel) (pa_cons (pe_op op_add (pe_op op_fdiv (pe_ix ix_list (pv 0) pe_int (fun _ _ => rfl)) pe_int) (pe_op op_mul (pe_op op_mod (pe_callTy call_int1 (by rfl) mint (by decide +kernel) (pa_cons (pe_ix ix_list (pv 0) pe_int (fun _ _ => rfl)) pa_nil)) pe_int) pe_int)) pa_nil)) (pv 1)))))))), ?_⟩
  have r0 : SqL K H b [.ref c, .int p, .int r, .int s, .int k] := SqL.of B.lb
  have rc : SqL K H c (ns.map V.int) := SqL.of B.lc
  refine ⟨fun σ' H2 => ∃ p r s k v2, σ' = [some (.ref b), some (.int many), v2, none, none] ∧ BagIs H2 b c ns p r s k ∧ Kp b H H2, ?_, ?_⟩
  · -- if bag[2] == 0 and bag[1] < len(bag[0])
    refine ⟨.ref b, rfl, b, _, 2, .int r, rfl, rfl, r0, rfl, rfl, _, rfl, ?_⟩
    refine ite2 (fun _ => ?_) (fun _ => ?_)
    case refine_2 => exact iteF ⟨p, r, s, k, none, rfl, B, Kp.refl b H⟩
    refine ⟨.ref b, rfl, b, _, 1, .int p, rfl, rfl, r0, rfl, .ref b, rfl, b, _, 0, .ref c, rfl, rfl, r0, rfl, c, _, rfl, .inl rc, p, _, rfl, rfl, _, rfl, ?_⟩
    refine ite2 (fun hp => ?_) (fun _ => ?_)
    case refine_2 => exact ⟨p, r, s, k, none, rfl, B, Kp.refl b H⟩
    have hp' : p < ((ns.map V.int).length : Int) := of_decide_eq_true hp
    rw [List.length_map] at hp'
    have hpn : p.toNat < ns.length := by have := B.p0; omega
    have hcell : atI (ns.map V.int) p = some (.int ns[p.toNat]) := by
      have e : p = ((p.toNat : Nat) : Int) := by have := B.p0; omega
      have q : atI (ns.map V.int) ((p.toNat : Nat) : Int) = some (.int ns[p.toNat]) := atI_nat (by rw [List.getElem?_map, List.getElem?_eq_getElem hpn] <;> rfl)
      rw [← e] at q
      exact q
    -- cell = bag[0][bag[1]]; bag[1] = bag[1] + 1
    refine ⟨.ref b, rfl, b, _, 0, .ref c, rfl, rfl, r0, rfl, .ref b, rfl, b, _, 1, .int p, rfl, rfl, r0, rfl, c, _, p, _, rfl, rfl, rc, hcell, ?_⟩
    refine ⟨.ref b, rfl, b, _, 1, .int p, rfl, rfl, r0, rfl, p, 1, rfl, rfl, .ref b, rfl, b, _, 1, 1, rfl, rfl, B.lb, rfl, ?_⟩
    have B1 : BagIs (upd H b (.lst [.ref c, .int (p + 1), .int r, .int s, .int k])) b c ns (p + 1) r s k := B.put (by have := B.p0; omega) B.s0 B.s1 B.r0
    have k1 : Kp b H (upd H b (.lst [.ref c, .int (p + 1), .int r, .int s, .int k])) := fun a o e n => by rw [upd_ne n]; exact e
    -- if cell >= 10 ** 18
    refine ⟨_, rfl, 10, 18, rfl, rfl, ⟨by decide, by decide, by decide⟩, _, _, rfl, rfl, _, rfl, ?_⟩
    refine ite2 (fun hg => ?_) (fun _ => ?_)
    · have hg' : ns[p.toNat] ≥ (10 : Int) ^ (18 : Int).toNat := of_decide_eq_true hg
      have hg0 : 0 ≤ ns[p.toNat] := Int.le_trans (by decide) hg'
      refine ⟨_, rfl, .ref b, rfl, b, _, 2, 2, rfl, rfl, B1.lb, rfl, ?_⟩
      have e1 : upd (upd H b (.lst [.ref c, .int (p + 1), .int r, .int s, .int k])) b (.lst [.ref c, .int (p + 1), .int ns[p.toNat], .int s, .int k]) = upd H b (.lst [.ref c, .int (p + 1), .int ns[p.toNat], .int s, .int k]) := upd_upd
      refine ⟨p + 1, ns[p.toNat], s, k, _, rfl, ?_, ?_⟩
      · exact B1.put B1.p0 B.s0 B.s1 hg0
      · exact k1.trans fun a o e n => by rw [upd_ne n]; exact e
    · refine ⟨.ref b, rfl, b, _, 3, .int s, rfl, rfl, SqL.of B1.lb, rfl, s, 48623, rfl, rfl, .inr ⟨by decide, by decide⟩, ?_⟩
      refine ⟨_, rfl, .inl ⟨_, rfl, ?_⟩⟩
      refine ⟨_, 2147483399, rfl, rfl, (by show (0 : Int) < 2147483399; decide), ?_⟩
      refine ⟨_, 15017, rfl, rfl, .inr ⟨by decide, by decide⟩, ?_⟩
      refine ⟨_, _, rfl, rfl, _, 31, rfl, rfl, .inl ⟨_, rfl, ?_⟩⟩
      refine ⟨_, 2147483563, rfl, rfl, (by show (0 : Int) < 2147483563; decide), ?_⟩
      refine ⟨.ref b, rfl, b, _, 3, 3, rfl, rfl, B1.lb, rfl, ?_⟩
      refine ⟨p + 1, r, _, k, _, rfl, B1.put B1.p0 ?_ ?_ B.r0, k1.trans fun a o e n => by rw [upd_ne n]; exact e⟩
      · exact Int.emod_nonneg _ (by decide)
      · exact Int.lt_trans (Int.emod_lt_of_pos _ (by decide)) (by decide)
  · rintro σ' H2 ⟨p, r, s, k, v2, rfl, B, kp⟩
    have r0 : SqL K H2 b [.ref c, .int p, .int r, .int s, .int k] := SqL.of B.lb
    -- if bag[2] > 0
    refine ⟨.ref b, rfl, b, _, 2, .int r, rfl, rfl, r0, rfl, _, _, rfl, rfl, _, rfl, ?_⟩
    refine ite2 (fun _ => ?_) (fun _ => ?_)
    · refine ⟨.ref b, rfl, b, _, 2, .int r, rfl, rfl, r0, rfl, .inl ⟨_, rfl, ?_⟩⟩
      refine ⟨_, rfl, _, _, rfl, rfl, m0, ?_⟩
      refine ⟨.ref b, rfl, b, _, 2, .int r, rfl, rfl, r0, rfl, _, rfl, _, _, rfl, rfl, ⟨m0, m1⟩, ?_⟩
      refine ⟨.ref b, rfl, b, _, 2, 2, rfl, rfl, B.lb, rfl, ?_⟩
      refine ⟨_, rfl, ?_⟩
      exact q _ _ (Int.emod_nonneg _ (by omega)) (Int.emod_lt_of_pos _ m0) ⟨ns, p, _, s, k, B.put B.p0 B.s0 B.s1 (Int.ediv_nonneg B.r0 (by omega))⟩ (kp.trans fun a o e n => by rw [upd_ne n]; exact e)
    · -- bag[4] = bag[4] + 1; seed = bag[3]
      refine ⟨.ref b, rfl, b, _, 4, .int k, rfl, rfl, r0, rfl, k, 1, rfl, rfl, .ref b, rfl, b, _, 4, 4, rfl, rfl, B.lb, rfl, ?_⟩
      have B1 : BagIs (upd H2 b (.lst [.ref c, .int p, .int r, .int s, .int (k + 1)])) b c ns p r s (k + 1) := B.put B.p0 B.s0 B.s1 B.r0
      have k1 : Kp b H (upd H2 b (.lst [.ref c, .int p, .int r, .int s, .int (k + 1)])) := kp.trans fun a o e n => by rw [upd_ne n]; exact e
      refine ⟨.ref b, rfl, b, _, 3, .int s, rfl, rfl, SqL.of B1.lb, rfl, ?_⟩
      have hs0 := B.s0
      have hs1 := B.s1
      refine ⟨_, rfl, _, rfl, _, _, rfl, rfl, .inl ⟨by omega, by omega⟩, _, 7, rfl, rfl, .inr ⟨by decide, by decide⟩, ?_⟩
      refine ⟨_, rfl, _, 31159, rfl, rfl, .inr ⟨by decide, by decide⟩, _, _, rfl, rfl, ?_⟩
      refine ⟨.ref b, rfl, b, _, 4, .int (k + 1), rfl, rfl, SqL.of B1.lb, rfl, _, 1299841, rfl, rfl, .inr ⟨by decide, by decide⟩, _, _, rfl, rfl, ?_⟩
      refine ⟨_, 70003, rfl, rfl, .inl ⟨_, rfl, ?_⟩⟩
      refine ⟨_, 2147483543, rfl, rfl, (by show (0 : Int) < 2147483543; decide), ?_⟩
      refine ⟨.ref b, rfl, b, _, 3, 3, rfl, rfl, B1.lb, rfl, ?_⟩
      have B2 := B1.put (p' := p) (r' := r) (k' := k + 1) B.p0 (Int.emod_nonneg (s * s * 7 + s * 31159 + (k + 1) * 1299841 + 70003) (show (2147483543 : Int) ≠ 0 by decide)) (Int.lt_trans (Int.emod_lt_of_pos _ (by decide)) (by decide)) B.r0
      refine ⟨.ref b, rfl, b, _, 3, _, rfl, rfl, SqL.of B2.lb, rfl, _, 73, rfl, rfl, ⟨by decide, by decide⟩, ?_⟩
      refine ⟨.ref b, rfl, b, _, 3, _, rfl, rfl, SqL.of B2.lb, rfl, .inl ⟨_, rfl, ?_⟩⟩
      refine ⟨_, 7919, rfl, rfl, (by show (0 : Int) < 7919; decide), _, 59, rfl, rfl, .inr ⟨by decide, by decide⟩, ?_⟩
      refine ⟨_, _, rfl, rfl, .inl ⟨_, rfl, ?_⟩⟩
      refine ⟨_, rfl, _, _, rfl, rfl, m0, ?_⟩
      exact q _ _ (Int.emod_nonneg _ (by omega)) (Int.emod_lt_of_pos _ m0) ⟨ns, p, _, _, _, B2⟩ (k1.trans fun a o e n => by rw [upd_ne n]; exact e)

/-! the bag is made -/
theorem cut_ints (ns : List Int) (lo hi : Option Int) : ∃ ms : List Int, cutV (ns.map V.int) lo hi = ms.map V.int ∧ ms.length ≤ ns.length := by
  refine ⟨(ns.drop (HT.sIx ns.length 0 lo)).take (HT.sIx ns.length ns.length hi - HT.sIx ns.length 0 lo), ?_, ?_⟩
  · unfold cutV
    rw [List.length_map, List.map_take, List.map_drop]
  · rw [List.length_take, List.length_drop]
    omega
def spBag (K : PySem.W.Frag) : Sp := fun vs H Q _ => ∃ (a : Addr) (ns : List Int), vs = [.ref a] ∧ SqL K H a (ns.map V.int) ∧ ns.length ≤ 63 ∧
  ∀ (b c : Addr) (H' : Hp), Same H H' → H b = none → H c = none → Bag H' b c → Q (.ref b) H'
theorem scBag : FnScope ["_law_script"] ["_law_script"] (defScope sBag) := ⟨rfl, rfl, rfl, by decide +kernel, rfl, by decide +kernel, by decide +kernel⟩
theorem ok_bag {f : Addr} {fd : FuncData} (F : Fun K "_law_bag" "_law_bag" sBag f fd) (mlen : mg "len" = none) (mlist : mg "list" = none) : FnOk P w K mg base CX0 1 f fd ["_law_script"] (spBag K) := by
  refine F.ok scBag (fun vs H Q E h => ?_) (fun cdv A outer s H vs Q E hr h => ?_)
  · obtain ⟨a, ns, rfl, _⟩ := h
    rfl
  obtain ⟨a, ns, rfl, hS, h63, q⟩ := h
  refine ⟨_, pss_one (ps_ret (pe_lst (pa_cons (pe_callTy call_list_of (by rfl) mlist (by decide +kernel) (pa_cons (pe_slice sl_list (pv 0) po_none (po_some pe_int)) pa_nil)) (pa_cons pe_int (pa_cons pe_int (pa_cons (pe_op op_add pe_int (pe_callB call_len_seq (by rfl) mlen PySem.boot_len (pa_cons (pv 0) pa_nil))) (pa_cons pe_int pa_nil))))))), ?_⟩
  obtain ⟨ms, em, hm⟩ := cut_ints ns none (some 63)
  refine ⟨_, rfl, 63, rfl, a, _, rfl, hS, fun x hx => ?_⟩
  rw [em]
  have s1 := same_upd hx (.lst (ms.map V.int))
  refine ⟨x, _, rfl, .inl (SqL.of upd_same), fun y hy => ?_⟩
  have s2 := s1.trans (same_upd hy (.lst (ms.map V.int)))
  refine ⟨_, rfl, a, _, rfl, .inl (s2.seq hS), _, _, rfl, rfl, (by show 5 ≤ sizeLine; decide), fun b hb => ?_⟩
  have hb0 : H b = none := s2.free hb
  have hyb : y ≠ b := fun e => by
    rw [← e, upd_same] at hb
    cases hb
  refine q b y _ (s2.trans (same_upd hb _)) hb0 (s1.free hy) ⟨ms, 0, 0, _, 0, upd_same, ?_, by omega, by decide, ?_, ?_, by decide⟩
  · rw [upd_ne hyb, upd_same]
  · show (0 : Int) ≤ 12002 + ((ns.map V.int).length : Int)
    omega
  · show 12002 + ((ns.map V.int).length : Int) < 2147483648
    rw [List.length_map]
    omega
/-! one of several things -/
theorem Kp.seqL {b : Addr} {H H' : Hp} (x : Kp b H H') {a : Addr} {xs : List V} (n : a ≠ b) (h : SqL K H a xs) : SqL K H' a xs := by
  rcases h with (h | ⟨o, h⟩) | h
  · exact .inl (.inl (x _ _ h n))
  · exact .inl (.inr ⟨o, x _ _ h n⟩)
  · exact .inr h
theorem Kp.seqT {b : Addr} {H H' : Hp} (x : Kp b H H') {a : Addr} {xs : List V} (n : a ≠ b) (h : SqT K H a xs) : SqT K H' a xs := by
  rcases h with (h | ⟨o, h⟩) | h
  · exact .inl (.inl (x _ _ h n))
  · exact .inl (.inr ⟨o, x _ _ h n⟩)
  · exact .inr h
/-- what may be drawn from -/
def Menu (K : PySem.W.Frag) (H : Hp) (b : Addr) (x : V) (its : List V) : Prop :=
  (∃ a, x = .ref a ∧ a ≠ b ∧ SqL K H a its) ∨ (∃ a, x = .ref a ∧ a ≠ b ∧ SqT K H a its) ∨ (∃ z : Str, x = .str z ∧ z.length ≤ sizeLine ∧ its = z.cps.toList.map (fun c => V.str ⟨#[c]⟩))
def spAny (K : PySem.W.Frag) : Sp := fun vs H Q _ => ∃ (b c : Addr) (x : V) (its : List V), vs = [.ref b, x] ∧ Bag H b c ∧ Menu K H b x its ∧ 0 < its.length ∧ its.length < 1073741824 ∧
  ∀ (y : V) (H' : Hp), y ∈ its → Bag H' b c → Kp b H H' → Q y H'
theorem scAny : FnScope ["_law_bag_here", "_law_things"] ["_law_bag_here", "_law_things"] (defScope sAny) := ⟨rfl, rfl, rfl, by decide +kernel, rfl, by decide +kernel, by decide +kernel⟩
theorem str_len (z : Str) : z.length = z.cps.toList.length := by
  show z.cps.size = _
  rw [Array.length_toList]
theorem ok_any {f g : Addr} {fd gd : FuncData} (F : Fun K "_law_any" "_law_any" sAny f fd) (G : FnOk P w K mg base CX0 1 g gd ["_law_bag_here", "_law_many"] spPull) (bG : Binds K gd ["_law_bag_here", "_law_many"] []) (kG : PySem.W.keepIn K (.ref g) = true) (mG : mg "_law_pull" = some (.ref g))
    (mlen : mg "len" = none) : FnOk P w K mg base CX0 2 f fd ["_law_bag_here", "_law_things"] (spAny K) := by
  refine F.ok scAny (fun vs H Q E h => ?_) (fun cdv A outer s H vs Q E hr h => ?_)
  · obtain ⟨b, c, x, its, rfl, _⟩ := h
    rfl
  obtain ⟨b, c, x, its, rfl, B, M, l0, l1, q⟩ := h
  refine ⟨_, pss_one (ps_ret (pe_ix ix_seq (pv 1) (pe_call G hr (by rfl) mG kG bG .nil pass0 (pa_cons (pv 0) (pa_cons (pe_callB call_len (by rfl) mlen PySem.boot_len (pa_cons (pv 1) pa_nil)) pa_nil))) (fun _ _ => rfl))), ?_⟩
  have hlen : LenV K x H its.length := by
    rcases M with ⟨a, rfl, _, h⟩ | ⟨a, rfl, _, h⟩ | ⟨z, rfl, hz, rfl⟩
    · exact .inl ⟨_, h, rfl⟩
    · exact .inr ⟨_, h, rfl⟩
    · exact ⟨hz, by rw [List.length_map, str_len]⟩
  refine ⟨x, rfl, .ref b, rfl, x, rfl, x, its.length, rfl, hlen, b, c, _, rfl, B, by omega, by omega, fun d H' d0 d1 B' kp => ?_⟩
  have hd : d.toNat < its.length := by omega
  have ed : d = ((d.toNat : Nat) : Int) := by omega
  have hat : atI its d = some its[d.toNat] := by
    have e : atI its ((d.toNat : Nat) : Int) = some its[d.toNat] := atI_nat (by rw [List.getElem?_eq_getElem hd])
    rw [← ed] at e
    exact e
  have fin : Q its[d.toNat] H' := q _ _ (List.getElem_mem hd) B' kp
  rcases M with ⟨a, rfl, na, h⟩ | ⟨a, rfl, na, h⟩ | ⟨z, rfl, hz, rfl⟩
  · exact .inl ⟨a, _, d, _, rfl, rfl, kp.seqL na h, hat, fin⟩
  · exact .inr (.inl ⟨a, _, d, _, rfl, rfl, kp.seqT na h, hat, fin⟩)
  · have hc : d.toNat < z.cps.toList.length := by
      rw [List.length_map] at hd
      exact hd
    have e : atI z.cps.toList ((d.toNat : Nat) : Int) = some z.cps.toList[d.toNat] := atI_nat (by rw [List.getElem?_eq_getElem hc])
    rw [← ed] at e
    have e2 : (z.cps.toList.map (fun c => V.str ⟨#[c]⟩))[d.toNat] = V.str ⟨#[z.cps.toList[d.toNat]]⟩ := by rw [List.getElem_map]
    rw [e2] at fin
    exact .inr (.inr ⟨z, d, _, rfl, rfl, hz, e, fin⟩)
/-! two values that are equal and of the same kinds -/
abbrev sSame : Stmt := top 35
def Leaf : V → Prop
  | .non => True | .bl _ => True | .int _ => True | .str _ => True | _ => False
def Eqv (H : Hp) : Nat → V → V → Prop
  | 0, x, y => Leaf x ∧ x = y
  | n + 1, x, y => (Leaf x ∧ x = y) ∨ ∃ (a b : Addr) (xs ys : List V), x = .ref a ∧ y = .ref b ∧ xs.length = ys.length ∧ xs.length ≤ 100000 ∧ ((H a = some (.lst xs) ∧ H b = some (.lst ys)) ∨ (H a = some (.tup xs) ∧ H b = some (.tup ys))) ∧
      ∀ (i : Nat) (u v : V), xs[i]? = some u → ys[i]? = some v → Eqv H n u v
theorem Eqv.same {H H' : Hp} (s : Same H H') : ∀ {n : Nat} {x y : V}, Eqv H n x y → Eqv H' n x y
  | 0, _, _, h => h
  | n + 1, _, _, h => by
    rcases h with h | ⟨a, b, xs, ys, e1, e2, l, z, h, k⟩
    · exact .inl h
    · refine .inr ⟨a, b, xs, ys, e1, e2, l, z, ?_, fun i u v hu hv => Eqv.same s (k i u v hu hv)⟩
      rcases h with ⟨h1, h2⟩ | ⟨h1, h2⟩
      · exact .inl ⟨s _ _ h1, s _ _ h2⟩
      · exact .inr ⟨s _ _ h1, s _ _ h2⟩
theorem Eqv.leaf {H : Hp} {x : V} (h : Leaf x) : ∀ n, Eqv H n x x
  | 0 => ⟨h, rfl⟩
  | _ + 1 => .inl ⟨h, rfl⟩
def spSame : Nat → Sp
  | 0 => fun _ _ _ _ => False
  | n + 1 => fun vs H Q _ => ∃ (x y : V), vs = [x, y] ∧ Eqv H n x y ∧ ∀ H', Same H H' → Q (.bl true) H'
theorem kitLT {K : PySem.W.Frag} {a : String} {r1 r2 : Bool} (h1 : kitB a "list" = some r1) (h2 : kitB a "tuple" = some r2) : PySem.W.kitAny K (.type a) [.type "list", .type "tuple"] = some (r1 || r2) := by
  cases r1 with
  | true => exact kitAny_cons (kit_ty h1) (fun z => nomatch z) (fun _ => rfl)
  | false =>
    refine kitAny_cons (kit_ty h1) (fun _ => ?_) (fun z => nomatch z)
    cases r2 with
    | true => exact kitAny_cons (kit_ty h2) (fun z => nomatch z) (fun _ => rfl)
    | false => exact kitAny_cons (kit_ty h2) (fun _ => kitAny_nil) (fun z => nomatch z)
/-- a comprehension over zip, turn by turn -/
theorem lc_zipL {K : PySem.W.Frag} {a b : Addr} {xs ys : List V} {g : TG} {te : TE} {vs : List Nat} {σ : L2.St} {H1 : Hp} {D : Addr} {Qd : Hp → Prop} (hl : xs.length = ys.length) (Pv : Nat → Hp → Prop) (h0 : Pv 0 (upd H1 D (.lst []))) (hq : ∀ i H, Pv i H → SqL K H a xs ∧ SqL K H b ys)
    (hs : ∀ (i : Nat) (x y : V) (T : Addr) (H : Hp), xs[i]? = some x → ys[i]? = some y → Pv i H → H T = none → g (.ref T) (wipe σ vs) (upd H T (.tup [x, y])) fun σ2 H2 => wipe σ2 vs = wipe σ vs ∧ te σ2 H2 fun y H4 => ∃ acc, H4 D = some (.lst acc) ∧ acc.length < sizeLine ∧ Pv (i + 1) (upd H4 D (.lst (acc ++ [y])))) (hd : ∀ H, Pv xs.length H → Qd H) :
    ∃ W : Nat → Nat → Hp → Prop, (∃ m, W 0 m (upd H1 D (.lst []))) ∧ ∀ i m H, W i m H →
      ((Itz K a b).stop i H ∧ Qd H) ∨ ((Itz K a b).go i H ∧ ∃ Nx : Hp → Prop, (∀ H', Nx H' → ∃ m', m' < m ∧ W (i + 1) m' H') ∧ ∀ x H', (Itz K a b).yld i H x H' → g x (wipe σ vs) H' fun σ2 H2 => wipe σ2 vs = wipe σ vs ∧ tYes σ2 H2 fun b H3 =>
        if b = true then te σ2 H3 fun y H4 => ∃ acc, H4 D = some (.lst acc) ∧ acc.length < sizeLine ∧ Nx (upd H4 D (.lst (acc ++ [y]))) else Nx H3) := by
  refine ⟨fun i m H => m = xs.length - i ∧ i ≤ xs.length ∧ Pv i H, ⟨xs.length, rfl, Nat.zero_le _, h0⟩, ?_⟩
  rintro i m H ⟨rfl, hi, p⟩
  obtain ⟨qx, qy⟩ := hq i H p
  by_cases hlt : i < xs.length
  · have hx : xs[i]? = some xs[i] := List.getElem?_eq_getElem hlt
    have hlt2 : i < ys.length := by omega
    have hy : ys[i]? = some ys[i] := List.getElem?_eq_getElem hlt2
    refine .inr ⟨⟨xs, ys, _, _, qx, qy, hx, hy⟩, Pv (i + 1), fun H' p' => ⟨xs.length - (i + 1), by omega, rfl, hlt, p'⟩, fun v H' y => ?_⟩
    obtain ⟨T, x', y', rfl, hT, rfl, f1, f2⟩ := y
    exact hs i x' y' T H (f1 xs qx) (f2 ys qy) p hT
  · have e : i = xs.length := by omega
    subst e
    exact .inl ⟨⟨xs, ys, qx, qy, Or.inl (Nat.le_refl _)⟩, hd H p⟩
theorem lc_zipT {K : PySem.W.Frag} {a b : Addr} {xs ys : List V} {g : TG} {te : TE} {vs : List Nat} {σ : L2.St} {H1 : Hp} {D : Addr} {Qd : Hp → Prop} (hl : xs.length = ys.length) (Pv : Nat → Hp → Prop) (h0 : Pv 0 (upd H1 D (.lst []))) (hq : ∀ i H, Pv i H → SqT K H a xs ∧ SqT K H b ys)
    (hs : ∀ (i : Nat) (x y : V) (T : Addr) (H : Hp), xs[i]? = some x → ys[i]? = some y → Pv i H → H T = none → g (.ref T) (wipe σ vs) (upd H T (.tup [x, y])) fun σ2 H2 => wipe σ2 vs = wipe σ vs ∧ te σ2 H2 fun y H4 => ∃ acc, H4 D = some (.lst acc) ∧ acc.length < sizeLine ∧ Pv (i + 1) (upd H4 D (.lst (acc ++ [y])))) (hd : ∀ H, Pv xs.length H → Qd H) :
    ∃ W : Nat → Nat → Hp → Prop, (∃ m, W 0 m (upd H1 D (.lst []))) ∧ ∀ i m H, W i m H →
      ((RZ.ItzT K a b).stop i H ∧ Qd H) ∨ ((RZ.ItzT K a b).go i H ∧ ∃ Nx : Hp → Prop, (∀ H', Nx H' → ∃ m', m' < m ∧ W (i + 1) m' H') ∧ ∀ x H', (RZ.ItzT K a b).yld i H x H' → g x (wipe σ vs) H' fun σ2 H2 => wipe σ2 vs = wipe σ vs ∧ tYes σ2 H2 fun b H3 =>
        if b = true then te σ2 H3 fun y H4 => ∃ acc, H4 D = some (.lst acc) ∧ acc.length < sizeLine ∧ Nx (upd H4 D (.lst (acc ++ [y]))) else Nx H3) := by
  refine ⟨fun i m H => m = xs.length - i ∧ i ≤ xs.length ∧ Pv i H, ⟨xs.length, rfl, Nat.zero_le _, h0⟩, ?_⟩
  rintro i m H ⟨rfl, hi, p⟩
  obtain ⟨qx, qy⟩ := hq i H p
  by_cases hlt : i < xs.length
  · have hx : xs[i]? = some xs[i] := List.getElem?_eq_getElem hlt
    have hlt2 : i < ys.length := by omega
    have hy : ys[i]? = some ys[i] := List.getElem?_eq_getElem hlt2
    refine .inr ⟨⟨xs, ys, _, _, qx, qy, hx, hy⟩, Pv (i + 1), fun H' p' => ⟨xs.length - (i + 1), by omega, rfl, hlt, p'⟩, fun v H' y => ?_⟩
    obtain ⟨T, x', y', rfl, hT, rfl, f1, f2⟩ := y
    exact hs i x' y' T H (f1 xs qx) (f2 ys qy) p hT
  · have e : i = xs.length := by omega
    subst e
    exact .inl ⟨⟨xs, ys, qx, qy, Or.inl (Nat.le_refl _)⟩, hd H p⟩
/-- the built-in names that _law_same reads -/
structure SameTxt (mg : Str → Option Value) : Prop where
  isi : mg "isinstance" = none
  list : mg "list" = none
  tuple : mg "tuple" = none
  len : mg "len" = none
  all : mg "all" = none
  zip : mg "zip" = none
  bool : mg "bool" = none
  int : mg "int" = none
  str : mg "str" = none
theorem scSame : FnScope ["_law_found", "_law_due", "_law_one", "_law_two"] ["_law_found", "_law_due"] (defScope sSame) := ⟨rfl, rfl, rfl, by decide +kernel, rfl, by decide +kernel, by decide +kernel⟩
theorem all_true (n : Nat) : (List.replicate n true).all id = true := by
  induction n with
  | zero => rfl
  | succ n ih => rw [List.replicate_succ, List.all_cons, ih]; rfl
theorem ok_same {f : Addr} {fd : FuncData} {n : Nat} (F : Fun K "_law_same" "_law_same" sSame f fd) (T : SameTxt mg) (G : FnOk P w K mg base CX0 n f fd ["_law_found", "_law_due"] (spSame n)) (bG : Binds K fd ["_law_found", "_law_due"] []) (kG : PySem.W.keepIn K (.ref f) = true) (mG : mg "_law_same" = some (.ref f)) :
    FnOk P w K mg base CX0 (n + 1) f fd ["_law_found", "_law_due"] (spSame (n + 1)) := by
  refine F.ok scSame (fun vs H Q E h => ?_) (fun cdv A outer s H vs Q E hr h => ?_)
  · obtain ⟨x, y, rfl, _⟩ := h
    rfl
  obtain ⟨x, y, rfl, e, q⟩ := h
  refine ⟨_, pss_cons (ps_if (pt_val (pe_callB call_isiT (by rfl) T.isi (by decide +kernel) (pa_cons (pv 1) (pa_cons (pe_tup (pa_cons (pe_bltn (v := .ty "list") (by rfl) T.list (by decide +kernel) rfl) (pa_cons (pe_bltn (v := .ty "tuple") (by rfl) T.tuple (by decide +kernel) rfl) pa_nil))) pa_nil))))
      (pss_cons (ps_if (PW.pt (pw_or (pt_cmpR op_ne (pe_callB call_isi (by rfl) T.isi (by decide +kernel) (pa_cons (pv 0) (pa_cons (pe_bltn (v := .ty "list") (by rfl) T.list (by decide +kernel) rfl) pa_nil))) (pe_callB call_isi (by rfl) T.isi (by decide +kernel) (pa_cons (pv 1) (pa_cons (pe_bltn (v := .ty "list") (by rfl) T.list (by decide +kernel) rfl) pa_nil))) (nomark _))
          (pw_or1 (pt_cmpR op_ne (pe_callB call_isi (by rfl) T.isi (by decide +kernel) (pa_cons (pv 0) (pa_cons (pe_bltn (v := .ty "tuple") (by rfl) T.tuple (by decide +kernel) rfl) pa_nil))) (pe_callB call_isi (by rfl) T.isi (by decide +kernel) (pa_cons (pv 1) (pa_cons (pe_bltn (v := .ty "tuple") (by rfl) T.tuple (by decide +kernel) rfl) pa_nil))) (nomark _)))))
          (pss_one (ps_ret pe_bl)) pss_nil)
      (pss_one (ps_ret (pe_and (pe_cmpR op_eq (pe_callB call_len_seq (by rfl) T.len PySem.boot_len (pa_cons (pv 0) pa_nil)) (pe_callB call_len_seq (by rfl) T.len PySem.boot_len (pa_cons (pv 1) pa_nil)) (nomark _)) (pe_one (pe_callB (cr_all rfl) (by rfl) T.all (by decide +kernel) (pa_cons
          (pe_lc (own := [("_law_one", 2), ("_law_two", 3)]) (g := gTup K 2 (gCons (gName 2) (gCons (gName 3) gNil))) rfl scSame.nd (RZ.pi_zipA (by rfl) T.zip (pa_cons (pv 0) (pa_cons (pv 1) pa_nil))) (blkOk_by (own := [("_law_one", 2), ("_law_two", 3)]) (N := ["_law_found", "_law_due", "_law_one", "_law_two"]) (sc := defScope sSame) (by decide +kernel))
            (fun _ _ _ _ _ => pg_tup (n := 2) rfl (pgs_cons (pg_name (i := 2) scSame.nd rfl (Or.inl rfl) (Or.inr rfl)) (pgs_cons (pg_name (i := 3) scSame.nd rfl (Or.inl rfl) (Or.inr rfl)) pgs_nil))) (fun _ _ _ _ _ => pts_nil)
            (fun _ _ _ _ _ => pe_call G hr (by rfl) mG kG bG .nil pass0 (pa_cons (pv 2) (pa_cons (pv 3) pa_nil)))) pa_nil)))))))
      pss_nil)
    (pss_cons (ps_if (PW.pt (pw_or (pt_cmpR op_isN (pv 1) pe_non (nomark _)) (pw_or1 (pt_cmpR op_isN (pv 0) pe_non (nomark _))))) (pss_one (ps_ret (pe_and (pe_cmpR op_isN (pv 1) pe_non (nomark _)) (pe_one (pe_cmpR op_isN (pv 0) pe_non (nomark _)))))) pss_nil)
    (pss_cons (ps_if (PW.pt (pw_or (pt_cmpR op_ne (pe_callB call_isi (by rfl) T.isi (by decide +kernel) (pa_cons (pv 0) (pa_cons (pe_bltn (v := .ty "bool") (by rfl) T.bool (by decide +kernel) rfl) pa_nil))) (pe_callB call_isi (by rfl) T.isi (by decide +kernel) (pa_cons (pv 1) (pa_cons (pe_bltn (v := .ty "bool") (by rfl) T.bool (by decide +kernel) rfl) pa_nil))) (nomark _))
          (pw_or1 (pt_cmpR op_ne (pe_callB call_isi (by rfl) T.isi (by decide +kernel) (pa_cons (pv 0) (pa_cons (pe_bltn (v := .ty "int") (by rfl) T.int (by decide +kernel) rfl) pa_nil))) (pe_callB call_isi (by rfl) T.isi (by decide +kernel) (pa_cons (pv 1) (pa_cons (pe_bltn (v := .ty "int") (by rfl) T.int (by decide +kernel) rfl) pa_nil))) (nomark _)))))
          (pss_one (ps_ret pe_bl)) pss_nil)
    (pss_one (ps_ret (pe_and (pe_cmpR op_eq (pe_callB call_isi (by rfl) T.isi (by decide +kernel) (pa_cons (pv 0) (pa_cons (pe_bltn (v := .ty "str") (by rfl) T.str (by decide +kernel) rfl) pa_nil))) (pe_callB call_isi (by rfl) T.isi (by decide +kernel) (pa_cons (pv 1) (pa_cons (pe_bltn (v := .ty "str") (by rfl) T.str (by decide +kernel) rfl) pa_nil))) (nomark _)) (pe_one (pe_cmpR op_eq (pv 0) (pv 1) (nomark _)))))))), ?_⟩
  have ht : ∀ t, H t = none → Same H (upd H t (.tup [.ty "list", .ty "tuple"])) := fun t h => same_upd h _
  have hz : ([V.ty "list", V.ty "tuple"] : List V).length ≤ sizeLine := by show 2 ≤ sizeLine; decide
  have kinds : (Leaf x ∧ x = y) ∨ ∃ (m : Nat) (a b : Addr) (xs ys : List V), n = m + 1 ∧ x = .ref a ∧ y = .ref b ∧ xs.length = ys.length ∧ xs.length ≤ 100000 ∧ ((H a = some (.lst xs) ∧ H b = some (.lst ys)) ∨ (H a = some (.tup xs) ∧ H b = some (.tup ys))) ∧
      ∀ (i : Nat) (u v : V), xs[i]? = some u → ys[i]? = some v → Eqv H m u v := by
    cases n with
    | zero => exact .inl e
    | succ m =>
      rcases e with e | ⟨a, b, xs, ys, e⟩
      · exact .inl e
      · exact .inr ⟨m, a, b, xs, ys, rfl, e⟩
  rcases kinds with ⟨lx, exy⟩ | ⟨m, a, b, xs, ys, rfl, rfl, rfl, hl, h100, hk, el⟩
  · subst exy
    cases x with
    | non =>
      refine ⟨_, rfl, hz, fun t h => ?_⟩
      refine ⟨_, t, _, _, [.type "list", .type "tuple"], _, rfl, upd_same, .cons (.ty _) (.cons (.ty _) .nil), (.base .non), kitLT (r1 := false) (r2 := false) (by decide +kernel) (by decide +kernel), ?_⟩
      refine ⟨_, rfl, iteF ?_⟩
      refine ⟨_, rfl, rfl, _, rfl, iteT ?_⟩
      refine ⟨_, rfl, rfl, _, rfl, iteT ?_⟩
      refine ⟨_, rfl, rfl, ?_⟩
      exact q _ (ht t h)
    | bl z =>
      refine ⟨_, rfl, hz, fun t h => ?_⟩
      refine ⟨_, t, _, _, [.type "list", .type "tuple"], _, rfl, upd_same, .cons (.ty _) (.cons (.ty _) .nil), (.base (.bl z)), kitLT (r1 := false) (r2 := false) (by decide +kernel) (by decide +kernel), ?_⟩
      refine ⟨_, rfl, iteF ?_⟩
      refine ⟨_, rfl, rfl, _, rfl, iteF ?_⟩
      refine ⟨_, rfl, rfl, _, rfl, iteF ?_⟩
      refine ⟨_, rfl, _, _, _, _, true, rfl, .ty _, (.base (.bl z)), kit_ty (by decide +kernel), _, rfl, _, _, _, _, true, rfl, .ty _, (.base (.bl z)), kit_ty (by decide +kernel), rfl, _, rfl, iteF ?_⟩
      refine ⟨_, rfl, _, _, _, _, true, rfl, .ty _, (.base (.bl z)), kit_ty (by decide +kernel), _, rfl, _, _, _, _, true, rfl, .ty _, (.base (.bl z)), kit_ty (by decide +kernel), rfl, _, rfl, iteF ?_⟩
      refine ⟨_, rfl, _, _, _, _, false, rfl, .ty _, (.base (.bl z)), kit_ty (by decide +kernel), _, rfl, _, _, _, _, false, rfl, .ty _, (.base (.bl z)), kit_ty (by decide +kernel), rfl, _, rfl, iteT ?_⟩
      refine ⟨_, rfl, _, rfl, rfl, ?_⟩
      rw [decide_eq_true rfl]
      exact q _ (ht t h)
    | int z =>
      refine ⟨_, rfl, hz, fun t h => ?_⟩
      refine ⟨_, t, _, _, [.type "list", .type "tuple"], _, rfl, upd_same, .cons (.ty _) (.cons (.ty _) .nil), (.base (.int z)), kitLT (r1 := false) (r2 := false) (by decide +kernel) (by decide +kernel), ?_⟩
      refine ⟨_, rfl, iteF ?_⟩
      refine ⟨_, rfl, rfl, _, rfl, iteF ?_⟩
      refine ⟨_, rfl, rfl, _, rfl, iteF ?_⟩
      refine ⟨_, rfl, _, _, _, _, false, rfl, .ty _, (.base (.int z)), kit_ty (by decide +kernel), _, rfl, _, _, _, _, false, rfl, .ty _, (.base (.int z)), kit_ty (by decide +kernel), rfl, _, rfl, iteF ?_⟩
      refine ⟨_, rfl, _, _, _, _, true, rfl, .ty _, (.base (.int z)), kit_ty (by decide +kernel), _, rfl, _, _, _, _, true, rfl, .ty _, (.base (.int z)), kit_ty (by decide +kernel), rfl, _, rfl, iteF ?_⟩
      refine ⟨_, rfl, _, _, _, _, false, rfl, .ty _, (.base (.int z)), kit_ty (by decide +kernel), _, rfl, _, _, _, _, false, rfl, .ty _, (.base (.int z)), kit_ty (by decide +kernel), rfl, _, rfl, iteT ?_⟩
      refine ⟨_, rfl, _, rfl, rfl, ?_⟩
      rw [decide_eq_true rfl]
      exact q _ (ht t h)
    | str z =>
      refine ⟨_, rfl, hz, fun t h => ?_⟩
      refine ⟨_, t, _, _, [.type "list", .type "tuple"], _, rfl, upd_same, .cons (.ty _) (.cons (.ty _) .nil), (.base (.str z)), kitLT (r1 := false) (r2 := false) (by decide +kernel) (by decide +kernel), ?_⟩
      refine ⟨_, rfl, iteF ?_⟩
      refine ⟨_, rfl, rfl, _, rfl, iteF ?_⟩
      refine ⟨_, rfl, rfl, _, rfl, iteF ?_⟩
      refine ⟨_, rfl, _, _, _, _, false, rfl, .ty _, (.base (.str z)), kit_ty (by decide +kernel), _, rfl, _, _, _, _, false, rfl, .ty _, (.base (.str z)), kit_ty (by decide +kernel), rfl, _, rfl, iteF ?_⟩
      refine ⟨_, rfl, _, _, _, _, false, rfl, .ty _, (.base (.str z)), kit_ty (by decide +kernel), _, rfl, _, _, _, _, false, rfl, .ty _, (.base (.str z)), kit_ty (by decide +kernel), rfl, _, rfl, iteF ?_⟩
      refine ⟨_, rfl, _, _, _, _, true, rfl, .ty _, (.base (.str z)), kit_ty (by decide +kernel), _, rfl, _, _, _, _, true, rfl, .ty _, (.base (.str z)), kit_ty (by decide +kernel), rfl, _, rfl, iteT ?_⟩
      refine ⟨_, rfl, _, rfl, rfl, ?_⟩
      rw [decide_eq_true rfl]
      exact q _ (ht t h)
    | _ => exact lx.elim
  · -- what a turn brings: the item's answer True is appended
    have turn : ∀ (D : Addr), H D = none → ∀ (i : Nat) (u v : V) (T : Addr) (H2 : Hp), xs[i]? = some u → ys[i]? = some v → (Same H H2 ∧ H2 D = some (.lst (List.replicate i (.bl true)))) → H2 T = none → True := fun _ _ _ _ _ _ _ _ _ _ _ => trivial
    rcases hk with ⟨ha, hb⟩ | ⟨ha, hb⟩
    · refine ⟨_, rfl, hz, fun t h => ?_⟩
      have s1 := ht t h
      refine ⟨_, t, _, _, [.type "list", .type "tuple"], _, rfl, upd_same, .cons (.ty _) (.cons (.ty _) .nil), (.base (.lst (s1 _ _ hb))), kitLT (r1 := true) (r2 := false) (by decide +kernel) (by decide +kernel), ?_⟩
      refine ⟨_, rfl, iteT ?_⟩
      refine ⟨_, rfl, _, _, _, _, true, rfl, .ty _, (.base (.lst (s1 _ _ ha))), kit_ty (by decide +kernel), _, rfl, _, _, _, _, true, rfl, .ty _, (.base (.lst (s1 _ _ hb))), kit_ty (by decide +kernel), rfl, _, rfl, iteF ?_⟩
      refine ⟨_, rfl, _, _, _, _, false, rfl, .ty _, (.base (.lst (s1 _ _ ha))), kit_ty (by decide +kernel), _, rfl, _, _, _, _, false, rfl, .ty _, (.base (.lst (s1 _ _ hb))), kit_ty (by decide +kernel), rfl, _, rfl, iteF ?_⟩
      refine ⟨_, rfl, a, _, rfl, .inl (SqL.of (s1 _ _ ha)), _, rfl, b, _, rfl, .inl (SqL.of (s1 _ _ hb)), rfl, _, rfl, ?_⟩
      rw [show decide (V.int ((xs.length : Nat) : Int) = V.int ((ys.length : Nat) : Int)) = true from decide_eq_true (by rw [hl])]
      refine iteT ?_
      refine ⟨_, rfl, _, rfl, a, b, xs, ys, rfl, .inl ⟨SqL.of (s1 _ _ ha), SqL.of (s1 _ _ hb), fun D hD => ?_⟩⟩
      have s2 := s1.trans (same_upd hD (.lst []))
      refine lc_zipL hl (fun i H2 => Same H H2 ∧ H2 D = some (.lst (List.replicate i (.bl true)))) ⟨s2, upd_same⟩ (fun i H2 ⟨s3, _⟩ => ⟨SqL.of (s3 _ _ ha), SqL.of (s3 _ _ hb)⟩) (fun i u v T H2 hu hv ⟨s3, hD2⟩ hT => ?_) (fun H2 ⟨s3, hD2⟩ => ?_)
      · refine ⟨T, [u, v], rfl, SqT.of upd_same, rfl, u, [v], rfl, v, [], rfl, rfl, rfl, ?_⟩
        have s4 := s3.trans (same_upd hT (.tup [u, v]))
        refine ⟨_, rfl, _, rfl, u, v, rfl, (el i u v hu hv).same s4, fun H3 s5 => ?_⟩
        have hDT : D ≠ T := ne_of_none hD2 hT
        refine ⟨_, s5 _ _ (by rw [upd_ne hDT]; exact hD2), ?_, fun c o e => ?_, ?_⟩
        · rw [List.length_replicate]
          have : i < xs.length := (List.getElem?_eq_some_iff.mp hu).1
          exact Nat.lt_of_lt_of_le (show i < 100000 by omega) (by decide)
        · have nc : c ≠ D := ne_of_none e (s1.free hD)
          rw [upd_ne nc]
          exact s5 _ _ (s4 _ _ e)
        · rw [upd_same, ← List.replicate_succ']
      · refine ⟨D, List.replicate xs.length true, rfl, SqL.of (by rw [hD2, List.map_replicate]), ?_⟩
        rw [all_true]
        exact q _ s3
    · refine ⟨_, rfl, hz, fun t h => ?_⟩
      have s1 := ht t h
      refine ⟨_, t, _, _, [.type "list", .type "tuple"], _, rfl, upd_same, .cons (.ty _) (.cons (.ty _) .nil), (.base (.tup (s1 _ _ hb))), kitLT (r1 := false) (r2 := true) (by decide +kernel) (by decide +kernel), ?_⟩
      refine ⟨_, rfl, iteT ?_⟩
      refine ⟨_, rfl, _, _, _, _, false, rfl, .ty _, (.base (.tup (s1 _ _ ha))), kit_ty (by decide +kernel), _, rfl, _, _, _, _, false, rfl, .ty _, (.base (.tup (s1 _ _ hb))), kit_ty (by decide +kernel), rfl, _, rfl, iteF ?_⟩
      refine ⟨_, rfl, _, _, _, _, true, rfl, .ty _, (.base (.tup (s1 _ _ ha))), kit_ty (by decide +kernel), _, rfl, _, _, _, _, true, rfl, .ty _, (.base (.tup (s1 _ _ hb))), kit_ty (by decide +kernel), rfl, _, rfl, iteF ?_⟩
      refine ⟨_, rfl, a, _, rfl, .inr (SqT.of (s1 _ _ ha)), _, rfl, b, _, rfl, .inr (SqT.of (s1 _ _ hb)), rfl, _, rfl, ?_⟩
      rw [show decide (V.int ((xs.length : Nat) : Int) = V.int ((ys.length : Nat) : Int)) = true from decide_eq_true (by rw [hl])]
      refine iteT ?_
      refine ⟨_, rfl, _, rfl, a, b, xs, ys, rfl, .inr ⟨SqT.of (s1 _ _ ha), SqT.of (s1 _ _ hb), fun D hD => ?_⟩⟩
      have s2 := s1.trans (same_upd hD (.lst []))
      refine lc_zipT hl (fun i H2 => Same H H2 ∧ H2 D = some (.lst (List.replicate i (.bl true)))) ⟨s2, upd_same⟩ (fun i H2 ⟨s3, _⟩ => ⟨SqT.of (s3 _ _ ha), SqT.of (s3 _ _ hb)⟩) (fun i u v T H2 hu hv ⟨s3, hD2⟩ hT => ?_) (fun H2 ⟨s3, hD2⟩ => ?_)
      · refine ⟨T, [u, v], rfl, SqT.of upd_same, rfl, u, [v], rfl, v, [], rfl, rfl, rfl, ?_⟩
        have s4 := s3.trans (same_upd hT (.tup [u, v]))
        refine ⟨_, rfl, _, rfl, u, v, rfl, (el i u v hu hv).same s4, fun H3 s5 => ?_⟩
        have hDT : D ≠ T := ne_of_none hD2 hT
        refine ⟨_, s5 _ _ (by rw [upd_ne hDT]; exact hD2), ?_, fun c o e => ?_, ?_⟩
        · rw [List.length_replicate]
          have : i < xs.length := (List.getElem?_eq_some_iff.mp hu).1
          exact Nat.lt_of_lt_of_le (show i < 100000 by omega) (by decide)
        · have nc : c ≠ D := ne_of_none e (s1.free hD)
          rw [upd_ne nc]
          exact s5 _ _ (s4 _ _ e)
        · rw [upd_same, ← List.replicate_succ']
      · refine ⟨D, List.replicate xs.length true, rfl, SqL.of (by rw [hD2, List.map_replicate]), ?_⟩
        rw [all_true]
        exact q _ s3
theorem no_same {f : Addr} {fd : FuncData} : FnOk P w K mg base CX0 0 f fd ["_law_found", "_law_due"] (spSame 0) :=
  ⟨fun vs H Q E h => False.elim h, fun A outer s H args us vs Q E _ _ _ _ h => False.elim h⟩
theorem all_same {f : Addr} {fd : FuncData} (F : Fun K "_law_same" "_law_same" sSame f fd) (T : SameTxt mg) (bG : Binds K fd ["_law_found", "_law_due"] []) (mG : mg "_law_same" = some (.ref f)) :
    ∀ n, FnOk P w K mg base CX0 n f fd ["_law_found", "_law_due"] (spSame n)
  | 0 => no_same
  | n + 1 => ok_same F T (all_same F T bG mG n) bG F.kp mG
theorem Kp.new {b p : Addr} {H H' : Hp} (k : Kp b H H') (hp : H' p = none) (o : HO) : Kp b H (upd H' p o) := fun a u h n => by rw [upd_ne (ne_of_none (k a u h n) hp)]; exact k a u h n
theorem Kp.free {b c p : Addr} {H H' : Hp} (k : Kp b H H') (B : Bag H' b c) (hp : H' p = none) : H p = none := by
  have hb : p ≠ b := B.fresh hp
  cases e : H p with
  | none => rfl
  | some o =>
    rw [k p o e hb] at hp
    cases hp
theorem Bag.ne_new {H : Hp} {b c q : Addr} (B : Bag H b c) (h : H q = none) : b ≠ q ∧ c ≠ q := by
  obtain ⟨ns, p, r, s, k, B⟩ := B
  exact ⟨ne_of_none B.lb h, ne_of_none B.lc h⟩
theorem Bag.wr {H : Hp} {b c q : Addr} (B : Bag H b c) (n : b ≠ q ∧ c ≠ q) (o : HO) : Bag (upd H q o) b c := by
  obtain ⟨ns, p, r, s, k, B⟩ := B
  exact ⟨ns, p, r, s, k, by rw [upd_ne n.1]; exact B.lb, by rw [upd_ne n.2]; exact B.lc, B.nl, B.p0, B.s0, B.s1, B.r0⟩
theorem Kp.wr {b p : Addr} {H H' : Hp} (k : Kp b H H') (hp : H p = none) (o : HO) : Kp b H (upd H' p o) := fun a u h n => by rw [upd_ne (ne_of_none h hp)]; exact k a u h n
/-! ### a call by keywords alone -/
open PySem.Spec PyProof.Rows in
theorem pe_callN0 {X : Cx} {CX : CXT} {k : Nat} {f : Addr} {fd : FuncData} {ps ks : List Str} {sp : Sp} {E : XK} {x : Str} {p pos : Pos} {kws : List Keyword} {tk : TA} {g : List Value → List Value → List Value} {gV : List V → List V → List V}
    (F : FnOk X.prog X.w X.K X.mg X.base CX k f fd ps sp) (hr : Room k X.A) (hg : Gl X x) (hm : X.mg x = some (.ref f)) (hk : PySem.W.keepIn X.K (.ref f) = true) (hb : KBn X.K fd ps 0 ks g gV) (hx : Passes CX X E)
    (hkw : PK X kws tk) (hall : (backToKw pos (keywordEach kws X.env)).all (·.1.isSome) = true := by rfl) (hks : (backToKw pos (keywordEach kws X.env)).filterMap (·.1) = ks := by rfl)
    (hdb : (x == ("__debug__" : Str)) = false := by decide) (hpl : ((backTo pos (starEach [] X.env)).any (·.1) || (backToKw pos (keywordEach kws X.env)).any (·.1.isNone)) = false := by rfl) :
    PE X (.Call (.Name x p) [] kws pos) (tCallN 0 ks.length sp gV E tNil tk) := by
  refine ⟨fun pins s σ H Q I h => ?_⟩
  refine wpAny_Call_Name_kw (ld_glob I hg hm ?_ hdb)
  refine PySem.W.callWith_KW0 (h₀ := X.base) I.ok.mod.kin hk hall ?_ hpl
  refine thn (hkw.run pos pins s σ H _ I h) fun ws s2 ⟨zs, H2, I2, rz, l1, l2, q2⟩ => ⟨I2.kIn, ?_⟩
  rw [hks]
  exact run_fnN (us := []) (vs := []) F hr hb hx I2 .nil rz rfl l2 q2
theorem Fun.kbn {x qual : Str} {st : Stmt} {f : Addr} {fd : FuncData} {ps : List Str} (F : Fun K x qual st f fd) (n : Nat) (ks : List Str) (g : List Value → List Value → List Value) (gV : List V → List V → List V)
    (hrel : ∀ {vs : List V} {us : List Value} {zs : List V} {ws : List Value}, Vals vs us → Vals zs ws → Vals (gV vs zs) (g us ws))
    (h : ∀ (kV doc pm : Value) (an : Option Addr) (cdv ct : Value) (us ws : List Value), us.length = n → ws.length = ks.length → bindArgs (PySem.W.fnOf x qual (defArgs st) (defBody st) (defScope st) .none kV doc pm an cdv ct) ⟨us, ks.zip ws⟩ = pure (ps.zip (g us ws))) : KBn K fd ps n ks g gV := by
  obtain ⟨oc, od, kV, doc, pm, an, cdv, ct, osl, rfl, lk, hcd⟩ := F.ex
  exact ⟨fun s us ws _ l1 l2 => BindsTo.of_eq (h kV doc pm an cdv ct us ws l1 l2), hrel⟩
theorem Vals.rev {xs : List V} {us : List Value} (r : Vals xs us) : Vals xs.reverse us.reverse := by
  induction r with
  | nil => exact .nil
  | cons h t ih =>
    rw [List.reverse_cons, List.reverse_cons]
    exact ih.append (.cons h .nil)
def spLaw (K : PySem.W.Frag) : Sp := fun vs H Q _ => ∃ (a : Addr) (ns : List Int), vs = [.ref a] ∧ SqL K H a (ns.map V.int) ∧ ns.length ≤ 63 ∧ ∀ H', Q (.bl true) H'
/-- a def of the text, what it keeps, how it is called -/
structure Df (P : Program) (w : World) (K : PySem.W.Frag) (mg : Str → Option Value) (base : Heap) (k : Nat) (f : Addr) (fd : FuncData) (x : Str) (ps : List Str) (sp : Sp) : Prop where
  ok : FnOk P w K mg base CX0 k f fd ps sp
  b : Binds K fd ps []
  kp : PySem.W.keepIn K (.ref f) = true
  m : mg x = some (.ref f)
theorem sameT {H H' : Hp} (s : Same H H') {a : Addr} {xs : List V} (h : SqT K H a xs) : SqT K H' a xs := by
  rcases h with (h | ⟨o, h⟩) | h
  · exact .inl (.inl (s _ _ h))
  · exact .inl (.inr ⟨o, s _ _ h⟩)
  · exact .inr h
theorem sameL {H H' : Hp} (s : Same H H') {a : Addr} {xs : List V} (h : SqL K H a xs) : SqL K H' a xs := s.seq h
/-! ### the own exceptions: what their __init__ keeps -/
abbrev sI0 : Stmt := inClass (top 2) 0
abbrev sI1 : Stmt := inClass (top 3) 0
abbrev sI2 : Stmt := inClass (top 4) 0
abbrev sI3 : Stmt := inClass (top 5) 0
abbrev sI4 : Stmt := inClass (top 6) 0
abbrev sI5 : Stmt := inClass (top 7) 0
abbrev sI6 : Stmt := inClass (top 8) 0
abbrev sI7 : Stmt := inClass (top 9) 0
abbrev sI8 : Stmt := inClass (top 10) 0
abbrev sI9 : Stmt := inClass (top 11) 0
abbrev sI10 : Stmt := inClass (top 12) 0
abbrev sI11 : Stmt := inClass (top 13) 0
abbrev sI12 : Stmt := inClass (top 14) 0
abbrev sI13 : Stmt := inClass (top 15) 0
abbrev sI14 : Stmt := inClass (top 16) 0
abbrev sI15 : Stmt := inClass (top 17) 0
abbrev sI16 : Stmt := inClass (top 18) 0
abbrev sI17 : Stmt := inClass (top 19) 0
abbrev sI18 : Stmt := inClass (top 20) 0
abbrev sI19 : Stmt := inClass (top 21) 0
abbrev sI20 : Stmt := inClass (top 22) 0
abbrev sI21 : Stmt := inClass (top 23) 0
abbrev sI22 : Stmt := inClass (top 24) 0
abbrev sI23 : Stmt := inClass (top 25) 0
abbrev sI24 : Stmt := inClass (top 26) 0
abbrev sI25 : Stmt := inClass (top 28) 0
abbrev sI26 : Stmt := inClass (top 29) 0
abbrev sI27 : Stmt := inClass (top 30) 0
def spI0 (C : Addr) (c : Str) : Sp := fun vs H Q _ => ∃ a, vs = [.ref a] ∧ H a = some (exo a C none) ∧ ∀ d H', H d = none → d ≠ a → H' a = some (exo a C (some d)) → H' d = some (exd d [("code", .str c)]) → (∀ b o, H b = some o → b ≠ a → H' b = some o) → Q .non H'
def spI1 (C : Addr) (c f : Str) : Sp := fun vs H Q _ => ∃ a x, vs = [.ref a, x] ∧ H a = some (exo a C none) ∧ ∀ d H', H d = none → d ≠ a → H' a = some (exo a C (some d)) → H' d = some (exd d [(f, x), ("code", .str c)]) → (∀ b o, H b = some o → b ≠ a → H' b = some o) → Q .non H'
def spI2 (C : Addr) (c f g : Str) : Sp := fun vs H Q _ => ∃ a x y, vs = [.ref a, x, y] ∧ H a = some (exo a C none) ∧ ∀ d H', H d = none → d ≠ a → H' a = some (exo a C (some d)) → H' d = some (exd d [(g, y), (f, x), ("code", .str c)]) → (∀ b o, H b = some o → b ≠ a → H' b = some o) → Q .non H'
theorem scI0 : FnScope ["self", "value"] ["self", "value"] (defScope sI0) := ⟨rfl, rfl, rfl, by decide +kernel, rfl, by decide +kernel, by decide +kernel⟩
theorem ok_i0 {f C : Addr} {fd : FuncData} (F : Fun K "__init__" "InvalidName.__init__" sI0 f fd) (T : OexG K C) (n0 : PySem.W.findIn K (.ref C) "code" = some none) (n1 : PySem.W.findIn K (.ref C) "value" = some none) : FnOk P w K mg base CX0 1 f fd ["self", "value"] (spI1 C "InvalidName" "value") := by
  refine F.ok scI0 (fun vs H Q E h => ?_) (fun cdv A outer s H vs Q E hr h => ?_)
  · obtain ⟨a, x, rfl, _⟩ := h
    rfl
  obtain ⟨a, x, rfl, ha, q⟩ := h
  refine ⟨_, pss_cons (ps_ostG (pv 0) pe_str) (pss_one (ps_ostG (pv 0) (pv 1))), ?_⟩
  refine ⟨_, rfl, a, C, rfl, T, n0, .inl ⟨ha, fun d hd nd => ?_⟩⟩
  have na : a ≠ d := Ne.symm nd
  refine ⟨_, rfl, _, rfl, a, C, rfl, T, n1, .inr ⟨d, _, upd_same, by rw [upd_ne nd, upd_same], (by show 1 ≤ 900; decide), ?_⟩⟩
  refine q d _ hd nd (by rw [upd_ne na, upd_same]) upd_same fun b o e nb => ?_
  rw [upd_ne (ne_of_none e hd), upd_ne nb, upd_ne (ne_of_none e hd)]
  exact e
theorem scI1 : FnScope ["self", "value"] ["self", "value"] (defScope sI1) := ⟨rfl, rfl, rfl, by decide +kernel, rfl, by decide +kernel, by decide +kernel⟩
theorem ok_i1 {f C : Addr} {fd : FuncData} (F : Fun K "__init__" "InvalidNumber.__init__" sI1 f fd) (T : OexG K C) (n0 : PySem.W.findIn K (.ref C) "code" = some none) (n1 : PySem.W.findIn K (.ref C) "value" = some none) : FnOk P w K mg base CX0 1 f fd ["self", "value"] (spI1 C "InvalidNumber" "value") := by
  refine F.ok scI1 (fun vs H Q E h => ?_) (fun cdv A outer s H vs Q E hr h => ?_)
  · obtain ⟨a, x, rfl, _⟩ := h
    rfl
  obtain ⟨a, x, rfl, ha, q⟩ := h
  refine ⟨_, pss_cons (ps_ostG (pv 0) pe_str) (pss_one (ps_ostG (pv 0) (pv 1))), ?_⟩
  refine ⟨_, rfl, a, C, rfl, T, n0, .inl ⟨ha, fun d hd nd => ?_⟩⟩
  have na : a ≠ d := Ne.symm nd
  refine ⟨_, rfl, _, rfl, a, C, rfl, T, n1, .inr ⟨d, _, upd_same, by rw [upd_ne nd, upd_same], (by show 1 ≤ 900; decide), ?_⟩⟩
  refine q d _ hd nd (by rw [upd_ne na, upd_same]) upd_same fun b o e nb => ?_
  rw [upd_ne (ne_of_none e hd), upd_ne nb, upd_ne (ne_of_none e hd)]
  exact e
theorem scI2 : FnScope ["self"] ["self"] (defScope sI2) := ⟨rfl, rfl, rfl, by decide +kernel, rfl, by decide +kernel, by decide +kernel⟩
theorem ok_i2 {f C : Addr} {fd : FuncData} (F : Fun K "__init__" "InvalidSeries.__init__" sI2 f fd) (T : OexG K C) (n0 : PySem.W.findIn K (.ref C) "code" = some none) : FnOk P w K mg base CX0 1 f fd ["self"] (spI0 C "InvalidSeries") := by
  refine F.ok scI2 (fun vs H Q E h => ?_) (fun cdv A outer s H vs Q E hr h => ?_)
  · obtain ⟨a, rfl, _⟩ := h
    rfl
  obtain ⟨a, rfl, ha, q⟩ := h
  refine ⟨_, pss_one (ps_ostG (pv 0) pe_str), ?_⟩
  refine ⟨_, rfl, a, C, rfl, T, n0, .inl ⟨ha, fun d hd nd => ?_⟩⟩
  have na : a ≠ d := Ne.symm nd
  refine q d _ hd nd upd_same (by rw [upd_ne nd, upd_same]) fun b o e nb => ?_
  rw [upd_ne nb, upd_ne (ne_of_none e hd)]
  exact e
theorem scI3 : FnScope ["self"] ["self"] (defScope sI3) := ⟨rfl, rfl, rfl, by decide +kernel, rfl, by decide +kernel, by decide +kernel⟩
theorem ok_i3 {f C : Addr} {fd : FuncData} (F : Fun K "__init__" "NoInverse.__init__" sI3 f fd) (T : OexG K C) (n0 : PySem.W.findIn K (.ref C) "code" = some none) : FnOk P w K mg base CX0 1 f fd ["self"] (spI0 C "NoInverse") := by
  refine F.ok scI3 (fun vs H Q E h => ?_) (fun cdv A outer s H vs Q E hr h => ?_)
  · obtain ⟨a, rfl, _⟩ := h
    rfl
  obtain ⟨a, rfl, ha, q⟩ := h
  refine ⟨_, pss_one (ps_ostG (pv 0) pe_str), ?_⟩
  refine ⟨_, rfl, a, C, rfl, T, n0, .inl ⟨ha, fun d hd nd => ?_⟩⟩
  have na : a ≠ d := Ne.symm nd
  refine q d _ hd nd upd_same (by rw [upd_ne nd, upd_same]) fun b o e nb => ?_
  rw [upd_ne nb, upd_ne (ne_of_none e hd)]
  exact e
theorem scI4 : FnScope ["self", "order"] ["self", "order"] (defScope sI4) := ⟨rfl, rfl, rfl, by decide +kernel, rfl, by decide +kernel, by decide +kernel⟩
theorem ok_i4 {f C : Addr} {fd : FuncData} (F : Fun K "__init__" "TooEarly.__init__" sI4 f fd) (T : OexG K C) (n0 : PySem.W.findIn K (.ref C) "code" = some none) (n1 : PySem.W.findIn K (.ref C) "order" = some none) : FnOk P w K mg base CX0 1 f fd ["self", "order"] (spI1 C "TooEarly" "order") := by
  refine F.ok scI4 (fun vs H Q E h => ?_) (fun cdv A outer s H vs Q E hr h => ?_)
  · obtain ⟨a, x, rfl, _⟩ := h
    rfl
  obtain ⟨a, x, rfl, ha, q⟩ := h
  refine ⟨_, pss_cons (ps_ostG (pv 0) pe_str) (pss_one (ps_ostG (pv 0) (pv 1))), ?_⟩
  refine ⟨_, rfl, a, C, rfl, T, n0, .inl ⟨ha, fun d hd nd => ?_⟩⟩
  have na : a ≠ d := Ne.symm nd
  refine ⟨_, rfl, _, rfl, a, C, rfl, T, n1, .inr ⟨d, _, upd_same, by rw [upd_ne nd, upd_same], (by show 1 ≤ 900; decide), ?_⟩⟩
  refine q d _ hd nd (by rw [upd_ne na, upd_same]) upd_same fun b o e nb => ?_
  rw [upd_ne (ne_of_none e hd), upd_ne nb, upd_ne (ne_of_none e hd)]
  exact e
theorem scI5 : FnScope ["self", "at"] ["self", "at"] (defScope sI5) := ⟨rfl, rfl, rfl, by decide +kernel, rfl, by decide +kernel, by decide +kernel⟩
theorem ok_i5 {f C : Addr} {fd : FuncData} (F : Fun K "__init__" "InvalidPart.__init__" sI5 f fd) (T : OexG K C) (n0 : PySem.W.findIn K (.ref C) "code" = some none) (n1 : PySem.W.findIn K (.ref C) "at" = some none) : FnOk P w K mg base CX0 1 f fd ["self", "at"] (spI1 C "InvalidPart" "at") := by
  refine F.ok scI5 (fun vs H Q E h => ?_) (fun cdv A outer s H vs Q E hr h => ?_)
  · obtain ⟨a, x, rfl, _⟩ := h
    rfl
  obtain ⟨a, x, rfl, ha, q⟩ := h
  refine ⟨_, pss_cons (ps_ostG (pv 0) pe_str) (pss_one (ps_ostG (pv 0) (pv 1))), ?_⟩
  refine ⟨_, rfl, a, C, rfl, T, n0, .inl ⟨ha, fun d hd nd => ?_⟩⟩
  have na : a ≠ d := Ne.symm nd
  refine ⟨_, rfl, _, rfl, a, C, rfl, T, n1, .inr ⟨d, _, upd_same, by rw [upd_ne nd, upd_same], (by show 1 ≤ 900; decide), ?_⟩⟩
  refine q d _ hd nd (by rw [upd_ne na, upd_same]) upd_same fun b o e nb => ?_
  rw [upd_ne (ne_of_none e hd), upd_ne nb, upd_ne (ne_of_none e hd)]
  exact e
theorem scI6 : FnScope ["self", "at"] ["self", "at"] (defScope sI6) := ⟨rfl, rfl, rfl, by decide +kernel, rfl, by decide +kernel, by decide +kernel⟩
theorem ok_i6 {f C : Addr} {fd : FuncData} (F : Fun K "__init__" "InvalidOuts.__init__" sI6 f fd) (T : OexG K C) (n0 : PySem.W.findIn K (.ref C) "code" = some none) (n1 : PySem.W.findIn K (.ref C) "at" = some none) : FnOk P w K mg base CX0 1 f fd ["self", "at"] (spI1 C "InvalidOuts" "at") := by
  refine F.ok scI6 (fun vs H Q E h => ?_) (fun cdv A outer s H vs Q E hr h => ?_)
  · obtain ⟨a, x, rfl, _⟩ := h
    rfl
  obtain ⟨a, x, rfl, ha, q⟩ := h
  refine ⟨_, pss_cons (ps_ostG (pv 0) pe_str) (pss_one (ps_ostG (pv 0) (pv 1))), ?_⟩
  refine ⟨_, rfl, a, C, rfl, T, n0, .inl ⟨ha, fun d hd nd => ?_⟩⟩
  have na : a ≠ d := Ne.symm nd
  refine ⟨_, rfl, _, rfl, a, C, rfl, T, n1, .inr ⟨d, _, upd_same, by rw [upd_ne nd, upd_same], (by show 1 ≤ 900; decide), ?_⟩⟩
  refine q d _ hd nd (by rw [upd_ne na, upd_same]) upd_same fun b o e nb => ?_
  rw [upd_ne (ne_of_none e hd), upd_ne nb, upd_ne (ne_of_none e hd)]
  exact e
theorem scI7 : FnScope ["self", "at"] ["self", "at"] (defScope sI7) := ⟨rfl, rfl, rfl, by decide +kernel, rfl, by decide +kernel, by decide +kernel⟩
theorem ok_i7 {f C : Addr} {fd : FuncData} (F : Fun K "__init__" "InvalidUse.__init__" sI7 f fd) (T : OexG K C) (n0 : PySem.W.findIn K (.ref C) "code" = some none) (n1 : PySem.W.findIn K (.ref C) "at" = some none) : FnOk P w K mg base CX0 1 f fd ["self", "at"] (spI1 C "InvalidUse" "at") := by
  refine F.ok scI7 (fun vs H Q E h => ?_) (fun cdv A outer s H vs Q E hr h => ?_)
  · obtain ⟨a, x, rfl, _⟩ := h
    rfl
  obtain ⟨a, x, rfl, ha, q⟩ := h
  refine ⟨_, pss_cons (ps_ostG (pv 0) pe_str) (pss_one (ps_ostG (pv 0) (pv 1))), ?_⟩
  refine ⟨_, rfl, a, C, rfl, T, n0, .inl ⟨ha, fun d hd nd => ?_⟩⟩
  have na : a ≠ d := Ne.symm nd
  refine ⟨_, rfl, _, rfl, a, C, rfl, T, n1, .inr ⟨d, _, upd_same, by rw [upd_ne nd, upd_same], (by show 1 ≤ 900; decide), ?_⟩⟩
  refine q d _ hd nd (by rw [upd_ne na, upd_same]) upd_same fun b o e nb => ?_
  rw [upd_ne (ne_of_none e hd), upd_ne nb, upd_ne (ne_of_none e hd)]
  exact e
theorem scI8 : FnScope ["self", "word"] ["self", "word"] (defScope sI8) := ⟨rfl, rfl, rfl, by decide +kernel, rfl, by decide +kernel, by decide +kernel⟩
theorem ok_i8 {f C : Addr} {fd : FuncData} (F : Fun K "__init__" "InvalidText.__init__" sI8 f fd) (T : OexG K C) (n0 : PySem.W.findIn K (.ref C) "code" = some none) (n1 : PySem.W.findIn K (.ref C) "word" = some none) : FnOk P w K mg base CX0 1 f fd ["self", "word"] (spI1 C "InvalidText" "word") := by
  refine F.ok scI8 (fun vs H Q E h => ?_) (fun cdv A outer s H vs Q E hr h => ?_)
  · obtain ⟨a, x, rfl, _⟩ := h
    rfl
  obtain ⟨a, x, rfl, ha, q⟩ := h
  refine ⟨_, pss_cons (ps_ostG (pv 0) pe_str) (pss_one (ps_ostG (pv 0) (pv 1))), ?_⟩
  refine ⟨_, rfl, a, C, rfl, T, n0, .inl ⟨ha, fun d hd nd => ?_⟩⟩
  have na : a ≠ d := Ne.symm nd
  refine ⟨_, rfl, _, rfl, a, C, rfl, T, n1, .inr ⟨d, _, upd_same, by rw [upd_ne nd, upd_same], (by show 1 ≤ 900; decide), ?_⟩⟩
  refine q d _ hd nd (by rw [upd_ne na, upd_same]) upd_same fun b o e nb => ?_
  rw [upd_ne (ne_of_none e hd), upd_ne nb, upd_ne (ne_of_none e hd)]
  exact e
theorem scI9 : FnScope ["self"] ["self"] (defScope sI9) := ⟨rfl, rfl, rfl, by decide +kernel, rfl, by decide +kernel, by decide +kernel⟩
theorem ok_i9 {f C : Addr} {fd : FuncData} (F : Fun K "__init__" "InvalidForm.__init__" sI9 f fd) (T : OexG K C) (n0 : PySem.W.findIn K (.ref C) "code" = some none) : FnOk P w K mg base CX0 1 f fd ["self"] (spI0 C "InvalidForm") := by
  refine F.ok scI9 (fun vs H Q E h => ?_) (fun cdv A outer s H vs Q E hr h => ?_)
  · obtain ⟨a, rfl, _⟩ := h
    rfl
  obtain ⟨a, rfl, ha, q⟩ := h
  refine ⟨_, pss_one (ps_ostG (pv 0) pe_str), ?_⟩
  refine ⟨_, rfl, a, C, rfl, T, n0, .inl ⟨ha, fun d hd nd => ?_⟩⟩
  have na : a ≠ d := Ne.symm nd
  refine q d _ hd nd upd_same (by rw [upd_ne nd, upd_same]) fun b o e nb => ?_
  rw [upd_ne nb, upd_ne (ne_of_none e hd)]
  exact e
theorem scI10 : FnScope ["self", "at"] ["self", "at"] (defScope sI10) := ⟨rfl, rfl, rfl, by decide +kernel, rfl, by decide +kernel, by decide +kernel⟩
theorem ok_i10 {f C : Addr} {fd : FuncData} (F : Fun K "__init__" "InvalidSheet.__init__" sI10 f fd) (T : OexG K C) (n0 : PySem.W.findIn K (.ref C) "code" = some none) (n1 : PySem.W.findIn K (.ref C) "at" = some none) : FnOk P w K mg base CX0 1 f fd ["self", "at"] (spI1 C "InvalidSheet" "at") := by
  refine F.ok scI10 (fun vs H Q E h => ?_) (fun cdv A outer s H vs Q E hr h => ?_)
  · obtain ⟨a, x, rfl, _⟩ := h
    rfl
  obtain ⟨a, x, rfl, ha, q⟩ := h
  refine ⟨_, pss_cons (ps_ostG (pv 0) pe_str) (pss_one (ps_ostG (pv 0) (pv 1))), ?_⟩
  refine ⟨_, rfl, a, C, rfl, T, n0, .inl ⟨ha, fun d hd nd => ?_⟩⟩
  have na : a ≠ d := Ne.symm nd
  refine ⟨_, rfl, _, rfl, a, C, rfl, T, n1, .inr ⟨d, _, upd_same, by rw [upd_ne nd, upd_same], (by show 1 ≤ 900; decide), ?_⟩⟩
  refine q d _ hd nd (by rw [upd_ne na, upd_same]) upd_same fun b o e nb => ?_
  rw [upd_ne (ne_of_none e hd), upd_ne nb, upd_ne (ne_of_none e hd)]
  exact e
theorem scI11 : FnScope ["self", "key"] ["self", "key"] (defScope sI11) := ⟨rfl, rfl, rfl, by decide +kernel, rfl, by decide +kernel, by decide +kernel⟩
theorem ok_i11 {f C : Addr} {fd : FuncData} (F : Fun K "__init__" "InvalidTable.__init__" sI11 f fd) (T : OexG K C) (n0 : PySem.W.findIn K (.ref C) "code" = some none) (n1 : PySem.W.findIn K (.ref C) "key" = some none) : FnOk P w K mg base CX0 1 f fd ["self", "key"] (spI1 C "InvalidTable" "key") := by
  refine F.ok scI11 (fun vs H Q E h => ?_) (fun cdv A outer s H vs Q E hr h => ?_)
  · obtain ⟨a, x, rfl, _⟩ := h
    rfl
  obtain ⟨a, x, rfl, ha, q⟩ := h
  refine ⟨_, pss_cons (ps_ostG (pv 0) pe_str) (pss_one (ps_ostG (pv 0) (pv 1))), ?_⟩
  refine ⟨_, rfl, a, C, rfl, T, n0, .inl ⟨ha, fun d hd nd => ?_⟩⟩
  have na : a ≠ d := Ne.symm nd
  refine ⟨_, rfl, _, rfl, a, C, rfl, T, n1, .inr ⟨d, _, upd_same, by rw [upd_ne nd, upd_same], (by show 1 ≤ 900; decide), ?_⟩⟩
  refine q d _ hd nd (by rw [upd_ne na, upd_same]) upd_same fun b o e nb => ?_
  rw [upd_ne (ne_of_none e hd), upd_ne nb, upd_ne (ne_of_none e hd)]
  exact e
theorem scI12 : FnScope ["self", "at"] ["self", "at"] (defScope sI12) := ⟨rfl, rfl, rfl, by decide +kernel, rfl, by decide +kernel, by decide +kernel⟩
theorem ok_i12 {f C : Addr} {fd : FuncData} (F : Fun K "__init__" "InvalidFact.__init__" sI12 f fd) (T : OexG K C) (n0 : PySem.W.findIn K (.ref C) "code" = some none) (n1 : PySem.W.findIn K (.ref C) "at" = some none) : FnOk P w K mg base CX0 1 f fd ["self", "at"] (spI1 C "InvalidFact" "at") := by
  refine F.ok scI12 (fun vs H Q E h => ?_) (fun cdv A outer s H vs Q E hr h => ?_)
  · obtain ⟨a, x, rfl, _⟩ := h
    rfl
  obtain ⟨a, x, rfl, ha, q⟩ := h
  refine ⟨_, pss_cons (ps_ostG (pv 0) pe_str) (pss_one (ps_ostG (pv 0) (pv 1))), ?_⟩
  refine ⟨_, rfl, a, C, rfl, T, n0, .inl ⟨ha, fun d hd nd => ?_⟩⟩
  have na : a ≠ d := Ne.symm nd
  refine ⟨_, rfl, _, rfl, a, C, rfl, T, n1, .inr ⟨d, _, upd_same, by rw [upd_ne nd, upd_same], (by show 1 ≤ 900; decide), ?_⟩⟩
  refine q d _ hd nd (by rw [upd_ne na, upd_same]) upd_same fun b o e nb => ?_
  rw [upd_ne (ne_of_none e hd), upd_ne nb, upd_ne (ne_of_none e hd)]
  exact e
theorem scI13 : FnScope ["self", "at"] ["self", "at"] (defScope sI13) := ⟨rfl, rfl, rfl, by decide +kernel, rfl, by decide +kernel, by decide +kernel⟩
theorem ok_i13 {f C : Addr} {fd : FuncData} (F : Fun K "__init__" "InvalidDeed.__init__" sI13 f fd) (T : OexG K C) (n0 : PySem.W.findIn K (.ref C) "code" = some none) (n1 : PySem.W.findIn K (.ref C) "at" = some none) : FnOk P w K mg base CX0 1 f fd ["self", "at"] (spI1 C "InvalidDeed" "at") := by
  refine F.ok scI13 (fun vs H Q E h => ?_) (fun cdv A outer s H vs Q E hr h => ?_)
  · obtain ⟨a, x, rfl, _⟩ := h
    rfl
  obtain ⟨a, x, rfl, ha, q⟩ := h
  refine ⟨_, pss_cons (ps_ostG (pv 0) pe_str) (pss_one (ps_ostG (pv 0) (pv 1))), ?_⟩
  refine ⟨_, rfl, a, C, rfl, T, n0, .inl ⟨ha, fun d hd nd => ?_⟩⟩
  have na : a ≠ d := Ne.symm nd
  refine ⟨_, rfl, _, rfl, a, C, rfl, T, n1, .inr ⟨d, _, upd_same, by rw [upd_ne nd, upd_same], (by show 1 ≤ 900; decide), ?_⟩⟩
  refine q d _ hd nd (by rw [upd_ne na, upd_same]) upd_same fun b o e nb => ?_
  rw [upd_ne (ne_of_none e hd), upd_ne nb, upd_ne (ne_of_none e hd)]
  exact e
theorem scI14 : FnScope ["self", "at"] ["self", "at"] (defScope sI14) := ⟨rfl, rfl, rfl, by decide +kernel, rfl, by decide +kernel, by decide +kernel⟩
theorem ok_i14 {f C : Addr} {fd : FuncData} (F : Fun K "__init__" "InvalidCommand.__init__" sI14 f fd) (T : OexG K C) (n0 : PySem.W.findIn K (.ref C) "code" = some none) (n1 : PySem.W.findIn K (.ref C) "at" = some none) : FnOk P w K mg base CX0 1 f fd ["self", "at"] (spI1 C "InvalidCommand" "at") := by
  refine F.ok scI14 (fun vs H Q E h => ?_) (fun cdv A outer s H vs Q E hr h => ?_)
  · obtain ⟨a, x, rfl, _⟩ := h
    rfl
  obtain ⟨a, x, rfl, ha, q⟩ := h
  refine ⟨_, pss_cons (ps_ostG (pv 0) pe_str) (pss_one (ps_ostG (pv 0) (pv 1))), ?_⟩
  refine ⟨_, rfl, a, C, rfl, T, n0, .inl ⟨ha, fun d hd nd => ?_⟩⟩
  have na : a ≠ d := Ne.symm nd
  refine ⟨_, rfl, _, rfl, a, C, rfl, T, n1, .inr ⟨d, _, upd_same, by rw [upd_ne nd, upd_same], (by show 1 ≤ 900; decide), ?_⟩⟩
  refine q d _ hd nd (by rw [upd_ne na, upd_same]) upd_same fun b o e nb => ?_
  rw [upd_ne (ne_of_none e hd), upd_ne nb, upd_ne (ne_of_none e hd)]
  exact e
theorem scI15 : FnScope ["self", "line"] ["self", "line"] (defScope sI15) := ⟨rfl, rfl, rfl, by decide +kernel, rfl, by decide +kernel, by decide +kernel⟩
theorem ok_i15 {f C : Addr} {fd : FuncData} (F : Fun K "__init__" "InvalidPage.__init__" sI15 f fd) (T : OexG K C) (n0 : PySem.W.findIn K (.ref C) "code" = some none) (n1 : PySem.W.findIn K (.ref C) "line" = some none) : FnOk P w K mg base CX0 1 f fd ["self", "line"] (spI1 C "InvalidPage" "line") := by
  refine F.ok scI15 (fun vs H Q E h => ?_) (fun cdv A outer s H vs Q E hr h => ?_)
  · obtain ⟨a, x, rfl, _⟩ := h
    rfl
  obtain ⟨a, x, rfl, ha, q⟩ := h
  refine ⟨_, pss_cons (ps_ostG (pv 0) pe_str) (pss_one (ps_ostG (pv 0) (pv 1))), ?_⟩
  refine ⟨_, rfl, a, C, rfl, T, n0, .inl ⟨ha, fun d hd nd => ?_⟩⟩
  have na : a ≠ d := Ne.symm nd
  refine ⟨_, rfl, _, rfl, a, C, rfl, T, n1, .inr ⟨d, _, upd_same, by rw [upd_ne nd, upd_same], (by show 1 ≤ 900; decide), ?_⟩⟩
  refine q d _ hd nd (by rw [upd_ne na, upd_same]) upd_same fun b o e nb => ?_
  rw [upd_ne (ne_of_none e hd), upd_ne nb, upd_ne (ne_of_none e hd)]
  exact e
theorem scI16 : FnScope ["self", "value"] ["self", "value"] (defScope sI16) := ⟨rfl, rfl, rfl, by decide +kernel, rfl, by decide +kernel, by decide +kernel⟩
theorem ok_i16 {f C : Addr} {fd : FuncData} (F : Fun K "__init__" "InvalidLimit.__init__" sI16 f fd) (T : OexG K C) (n0 : PySem.W.findIn K (.ref C) "code" = some none) (n1 : PySem.W.findIn K (.ref C) "value" = some none) : FnOk P w K mg base CX0 1 f fd ["self", "value"] (spI1 C "InvalidLimit" "value") := by
  refine F.ok scI16 (fun vs H Q E h => ?_) (fun cdv A outer s H vs Q E hr h => ?_)
  · obtain ⟨a, x, rfl, _⟩ := h
    rfl
  obtain ⟨a, x, rfl, ha, q⟩ := h
  refine ⟨_, pss_cons (ps_ostG (pv 0) pe_str) (pss_one (ps_ostG (pv 0) (pv 1))), ?_⟩
  refine ⟨_, rfl, a, C, rfl, T, n0, .inl ⟨ha, fun d hd nd => ?_⟩⟩
  have na : a ≠ d := Ne.symm nd
  refine ⟨_, rfl, _, rfl, a, C, rfl, T, n1, .inr ⟨d, _, upd_same, by rw [upd_ne nd, upd_same], (by show 1 ≤ 900; decide), ?_⟩⟩
  refine q d _ hd nd (by rw [upd_ne na, upd_same]) upd_same fun b o e nb => ?_
  rw [upd_ne (ne_of_none e hd), upd_ne nb, upd_ne (ne_of_none e hd)]
  exact e
theorem scI17 : FnScope ["self", "name"] ["self", "name"] (defScope sI17) := ⟨rfl, rfl, rfl, by decide +kernel, rfl, by decide +kernel, by decide +kernel⟩
theorem ok_i17 {f C : Addr} {fd : FuncData} (F : Fun K "__init__" "DuplicateName.__init__" sI17 f fd) (T : OexG K C) (n0 : PySem.W.findIn K (.ref C) "code" = some none) (n1 : PySem.W.findIn K (.ref C) "name" = some none) : FnOk P w K mg base CX0 1 f fd ["self", "name"] (spI1 C "DuplicateName" "name") := by
  refine F.ok scI17 (fun vs H Q E h => ?_) (fun cdv A outer s H vs Q E hr h => ?_)
  · obtain ⟨a, x, rfl, _⟩ := h
    rfl
  obtain ⟨a, x, rfl, ha, q⟩ := h
  refine ⟨_, pss_cons (ps_ostG (pv 0) pe_str) (pss_one (ps_ostG (pv 0) (pv 1))), ?_⟩
  refine ⟨_, rfl, a, C, rfl, T, n0, .inl ⟨ha, fun d hd nd => ?_⟩⟩
  have na : a ≠ d := Ne.symm nd
  refine ⟨_, rfl, _, rfl, a, C, rfl, T, n1, .inr ⟨d, _, upd_same, by rw [upd_ne nd, upd_same], (by show 1 ≤ 900; decide), ?_⟩⟩
  refine q d _ hd nd (by rw [upd_ne na, upd_same]) upd_same fun b o e nb => ?_
  rw [upd_ne (ne_of_none e hd), upd_ne nb, upd_ne (ne_of_none e hd)]
  exact e
theorem scI18 : FnScope ["self", "name"] ["self", "name"] (defScope sI18) := ⟨rfl, rfl, rfl, by decide +kernel, rfl, by decide +kernel, by decide +kernel⟩
theorem ok_i18 {f C : Addr} {fd : FuncData} (F : Fun K "__init__" "UnlikeKinds.__init__" sI18 f fd) (T : OexG K C) (n0 : PySem.W.findIn K (.ref C) "code" = some none) (n1 : PySem.W.findIn K (.ref C) "name" = some none) : FnOk P w K mg base CX0 1 f fd ["self", "name"] (spI1 C "UnlikeKinds" "name") := by
  refine F.ok scI18 (fun vs H Q E h => ?_) (fun cdv A outer s H vs Q E hr h => ?_)
  · obtain ⟨a, x, rfl, _⟩ := h
    rfl
  obtain ⟨a, x, rfl, ha, q⟩ := h
  refine ⟨_, pss_cons (ps_ostG (pv 0) pe_str) (pss_one (ps_ostG (pv 0) (pv 1))), ?_⟩
  refine ⟨_, rfl, a, C, rfl, T, n0, .inl ⟨ha, fun d hd nd => ?_⟩⟩
  have na : a ≠ d := Ne.symm nd
  refine ⟨_, rfl, _, rfl, a, C, rfl, T, n1, .inr ⟨d, _, upd_same, by rw [upd_ne nd, upd_same], (by show 1 ≤ 900; decide), ?_⟩⟩
  refine q d _ hd nd (by rw [upd_ne na, upd_same]) upd_same fun b o e nb => ?_
  rw [upd_ne (ne_of_none e hd), upd_ne nb, upd_ne (ne_of_none e hd)]
  exact e
theorem scI19 : FnScope ["self"] ["self"] (defScope sI19) := ⟨rfl, rfl, rfl, by decide +kernel, rfl, by decide +kernel, by decide +kernel⟩
theorem ok_i19 {f C : Addr} {fd : FuncData} (F : Fun K "__init__" "UnlikeOuts.__init__" sI19 f fd) (T : OexG K C) (n0 : PySem.W.findIn K (.ref C) "code" = some none) : FnOk P w K mg base CX0 1 f fd ["self"] (spI0 C "UnlikeOuts") := by
  refine F.ok scI19 (fun vs H Q E h => ?_) (fun cdv A outer s H vs Q E hr h => ?_)
  · obtain ⟨a, rfl, _⟩ := h
    rfl
  obtain ⟨a, rfl, ha, q⟩ := h
  refine ⟨_, pss_one (ps_ostG (pv 0) pe_str), ?_⟩
  refine ⟨_, rfl, a, C, rfl, T, n0, .inl ⟨ha, fun d hd nd => ?_⟩⟩
  have na : a ≠ d := Ne.symm nd
  refine q d _ hd nd upd_same (by rw [upd_ne nd, upd_same]) fun b o e nb => ?_
  rw [upd_ne nb, upd_ne (ne_of_none e hd)]
  exact e
theorem scI20 : FnScope ["self", "place"] ["self", "place"] (defScope sI20) := ⟨rfl, rfl, rfl, by decide +kernel, rfl, by decide +kernel, by decide +kernel⟩
theorem ok_i20 {f C : Addr} {fd : FuncData} (F : Fun K "__init__" "Ring.__init__" sI20 f fd) (T : OexG K C) (n0 : PySem.W.findIn K (.ref C) "code" = some none) (n1 : PySem.W.findIn K (.ref C) "place" = some none) : FnOk P w K mg base CX0 1 f fd ["self", "place"] (spI1 C "Ring" "place") := by
  refine F.ok scI20 (fun vs H Q E h => ?_) (fun cdv A outer s H vs Q E hr h => ?_)
  · obtain ⟨a, x, rfl, _⟩ := h
    rfl
  obtain ⟨a, x, rfl, ha, q⟩ := h
  refine ⟨_, pss_cons (ps_ostG (pv 0) pe_str) (pss_one (ps_ostG (pv 0) (pv 1))), ?_⟩
  refine ⟨_, rfl, a, C, rfl, T, n0, .inl ⟨ha, fun d hd nd => ?_⟩⟩
  have na : a ≠ d := Ne.symm nd
  refine ⟨_, rfl, _, rfl, a, C, rfl, T, n1, .inr ⟨d, _, upd_same, by rw [upd_ne nd, upd_same], (by show 1 ≤ 900; decide), ?_⟩⟩
  refine q d _ hd nd (by rw [upd_ne na, upd_same]) upd_same fun b o e nb => ?_
  rw [upd_ne (ne_of_none e hd), upd_ne nb, upd_ne (ne_of_none e hd)]
  exact e
theorem scI21 : FnScope ["self", "piece"] ["self", "piece"] (defScope sI21) := ⟨rfl, rfl, rfl, by decide +kernel, rfl, by decide +kernel, by decide +kernel⟩
theorem ok_i21 {f C : Addr} {fd : FuncData} (F : Fun K "__init__" "Circular.__init__" sI21 f fd) (T : OexG K C) (n0 : PySem.W.findIn K (.ref C) "code" = some none) (n1 : PySem.W.findIn K (.ref C) "piece" = some none) : FnOk P w K mg base CX0 1 f fd ["self", "piece"] (spI1 C "Circular" "piece") := by
  refine F.ok scI21 (fun vs H Q E h => ?_) (fun cdv A outer s H vs Q E hr h => ?_)
  · obtain ⟨a, x, rfl, _⟩ := h
    rfl
  obtain ⟨a, x, rfl, ha, q⟩ := h
  refine ⟨_, pss_cons (ps_ostG (pv 0) pe_str) (pss_one (ps_ostG (pv 0) (pv 1))), ?_⟩
  refine ⟨_, rfl, a, C, rfl, T, n0, .inl ⟨ha, fun d hd nd => ?_⟩⟩
  have na : a ≠ d := Ne.symm nd
  refine ⟨_, rfl, _, rfl, a, C, rfl, T, n1, .inr ⟨d, _, upd_same, by rw [upd_ne nd, upd_same], (by show 1 ≤ 900; decide), ?_⟩⟩
  refine q d _ hd nd (by rw [upd_ne na, upd_same]) upd_same fun b o e nb => ?_
  rw [upd_ne (ne_of_none e hd), upd_ne nb, upd_ne (ne_of_none e hd)]
  exact e
theorem scI22 : FnScope ["self", "piece", "user"] ["self", "piece", "user"] (defScope sI22) := ⟨rfl, rfl, rfl, by decide +kernel, rfl, by decide +kernel, by decide +kernel⟩
theorem ok_i22 {f C : Addr} {fd : FuncData} (F : Fun K "__init__" "InUse.__init__" sI22 f fd) (T : OexG K C) (n0 : PySem.W.findIn K (.ref C) "code" = some none) (n1 : PySem.W.findIn K (.ref C) "piece" = some none) (n2 : PySem.W.findIn K (.ref C) "user" = some none) : FnOk P w K mg base CX0 1 f fd ["self", "piece", "user"] (spI2 C "InUse" "piece" "user") := by
  refine F.ok scI22 (fun vs H Q E h => ?_) (fun cdv A outer s H vs Q E hr h => ?_)
  · obtain ⟨a, x, y, rfl, _⟩ := h
    rfl
  obtain ⟨a, x, y, rfl, ha, q⟩ := h
  refine ⟨_, pss_cons (ps_ostG (pv 0) pe_str) (pss_cons (ps_ostG (pv 0) (pv 1)) (pss_one (ps_ostG (pv 0) (pv 2)))), ?_⟩
  refine ⟨_, rfl, a, C, rfl, T, n0, .inl ⟨ha, fun d hd nd => ?_⟩⟩
  have na : a ≠ d := Ne.symm nd
  refine ⟨_, rfl, _, rfl, a, C, rfl, T, n1, .inr ⟨d, _, upd_same, by rw [upd_ne nd, upd_same], (by show 1 ≤ 900; decide), ?_⟩⟩
  refine ⟨_, rfl, _, rfl, a, C, rfl, T, n2, .inr ⟨d, _, by rw [upd_ne na, upd_same], upd_same, (by show 2 ≤ 900; decide), ?_⟩⟩
  refine q d _ hd nd (by rw [upd_ne na, upd_ne na, upd_same]) upd_same fun b o e nb => ?_
  rw [upd_ne (ne_of_none e hd), upd_ne (ne_of_none e hd), upd_ne nb, upd_ne (ne_of_none e hd)]
  exact e
theorem scI23 : FnScope ["self", "limit"] ["self", "limit"] (defScope sI23) := ⟨rfl, rfl, rfl, by decide +kernel, rfl, by decide +kernel, by decide +kernel⟩
theorem ok_i23 {f C : Addr} {fd : FuncData} (F : Fun K "__init__" "Full.__init__" sI23 f fd) (T : OexG K C) (n0 : PySem.W.findIn K (.ref C) "code" = some none) (n1 : PySem.W.findIn K (.ref C) "limit" = some none) : FnOk P w K mg base CX0 1 f fd ["self", "limit"] (spI1 C "Full" "limit") := by
  refine F.ok scI23 (fun vs H Q E h => ?_) (fun cdv A outer s H vs Q E hr h => ?_)
  · obtain ⟨a, x, rfl, _⟩ := h
    rfl
  obtain ⟨a, x, rfl, ha, q⟩ := h
  refine ⟨_, pss_cons (ps_ostG (pv 0) pe_str) (pss_one (ps_ostG (pv 0) (pv 1))), ?_⟩
  refine ⟨_, rfl, a, C, rfl, T, n0, .inl ⟨ha, fun d hd nd => ?_⟩⟩
  have na : a ≠ d := Ne.symm nd
  refine ⟨_, rfl, _, rfl, a, C, rfl, T, n1, .inr ⟨d, _, upd_same, by rw [upd_ne nd, upd_same], (by show 1 ≤ 900; decide), ?_⟩⟩
  refine q d _ hd nd (by rw [upd_ne na, upd_same]) upd_same fun b o e nb => ?_
  rw [upd_ne (ne_of_none e hd), upd_ne nb, upd_ne (ne_of_none e hd)]
  exact e
theorem scI24 : FnScope ["self", "subject", "most"] ["self", "subject", "most"] (defScope sI24) := ⟨rfl, rfl, rfl, by decide +kernel, rfl, by decide +kernel, by decide +kernel⟩
theorem ok_i24 {f C : Addr} {fd : FuncData} (F : Fun K "__init__" "TooMany.__init__" sI24 f fd) (T : OexG K C) (n0 : PySem.W.findIn K (.ref C) "code" = some none) (n1 : PySem.W.findIn K (.ref C) "subject" = some none) (n2 : PySem.W.findIn K (.ref C) "most" = some none) : FnOk P w K mg base CX0 1 f fd ["self", "subject", "most"] (spI2 C "TooMany" "subject" "most") := by
  refine F.ok scI24 (fun vs H Q E h => ?_) (fun cdv A outer s H vs Q E hr h => ?_)
  · obtain ⟨a, x, y, rfl, _⟩ := h
    rfl
  obtain ⟨a, x, y, rfl, ha, q⟩ := h
  refine ⟨_, pss_cons (ps_ostG (pv 0) pe_str) (pss_cons (ps_ostG (pv 0) (pv 1)) (pss_one (ps_ostG (pv 0) (pv 2)))), ?_⟩
  refine ⟨_, rfl, a, C, rfl, T, n0, .inl ⟨ha, fun d hd nd => ?_⟩⟩
  have na : a ≠ d := Ne.symm nd
  refine ⟨_, rfl, _, rfl, a, C, rfl, T, n1, .inr ⟨d, _, upd_same, by rw [upd_ne nd, upd_same], (by show 1 ≤ 900; decide), ?_⟩⟩
  refine ⟨_, rfl, _, rfl, a, C, rfl, T, n2, .inr ⟨d, _, by rw [upd_ne na, upd_same], upd_same, (by show 2 ≤ 900; decide), ?_⟩⟩
  refine q d _ hd nd (by rw [upd_ne na, upd_ne na, upd_same]) upd_same fun b o e nb => ?_
  rw [upd_ne (ne_of_none e hd), upd_ne (ne_of_none e hd), upd_ne nb, upd_ne (ne_of_none e hd)]
  exact e
theorem scI25 : FnScope ["self", "name"] ["self", "name"] (defScope sI25) := ⟨rfl, rfl, rfl, by decide +kernel, rfl, by decide +kernel, by decide +kernel⟩
theorem ok_i25 {f C : Addr} {fd : FuncData} (F : Fun K "__init__" "UnknownName.__init__" sI25 f fd) (T : OexG K C) (n0 : PySem.W.findIn K (.ref C) "code" = some none) (n1 : PySem.W.findIn K (.ref C) "name" = some none) : FnOk P w K mg base CX0 1 f fd ["self", "name"] (spI1 C "UnknownName" "name") := by
  refine F.ok scI25 (fun vs H Q E h => ?_) (fun cdv A outer s H vs Q E hr h => ?_)
  · obtain ⟨a, x, rfl, _⟩ := h
    rfl
  obtain ⟨a, x, rfl, ha, q⟩ := h
  refine ⟨_, pss_cons (ps_ostG (pv 0) pe_str) (pss_one (ps_ostG (pv 0) (pv 1))), ?_⟩
  refine ⟨_, rfl, a, C, rfl, T, n0, .inl ⟨ha, fun d hd nd => ?_⟩⟩
  have na : a ≠ d := Ne.symm nd
  refine ⟨_, rfl, _, rfl, a, C, rfl, T, n1, .inr ⟨d, _, upd_same, by rw [upd_ne nd, upd_same], (by show 1 ≤ 900; decide), ?_⟩⟩
  refine q d _ hd nd (by rw [upd_ne na, upd_same]) upd_same fun b o e nb => ?_
  rw [upd_ne (ne_of_none e hd), upd_ne nb, upd_ne (ne_of_none e hd)]
  exact e
theorem scI26 : FnScope ["self", "piece"] ["self", "piece"] (defScope sI26) := ⟨rfl, rfl, rfl, by decide +kernel, rfl, by decide +kernel, by decide +kernel⟩
theorem ok_i26 {f C : Addr} {fd : FuncData} (F : Fun K "__init__" "UnknownPiece.__init__" sI26 f fd) (T : OexG K C) (n0 : PySem.W.findIn K (.ref C) "code" = some none) (n1 : PySem.W.findIn K (.ref C) "piece" = some none) : FnOk P w K mg base CX0 1 f fd ["self", "piece"] (spI1 C "UnknownPiece" "piece") := by
  refine F.ok scI26 (fun vs H Q E h => ?_) (fun cdv A outer s H vs Q E hr h => ?_)
  · obtain ⟨a, x, rfl, _⟩ := h
    rfl
  obtain ⟨a, x, rfl, ha, q⟩ := h
  refine ⟨_, pss_cons (ps_ostG (pv 0) pe_str) (pss_one (ps_ostG (pv 0) (pv 1))), ?_⟩
  refine ⟨_, rfl, a, C, rfl, T, n0, .inl ⟨ha, fun d hd nd => ?_⟩⟩
  have na : a ≠ d := Ne.symm nd
  refine ⟨_, rfl, _, rfl, a, C, rfl, T, n1, .inr ⟨d, _, upd_same, by rw [upd_ne nd, upd_same], (by show 1 ≤ 900; decide), ?_⟩⟩
  refine q d _ hd nd (by rw [upd_ne na, upd_same]) upd_same fun b o e nb => ?_
  rw [upd_ne (ne_of_none e hd), upd_ne nb, upd_ne (ne_of_none e hd)]
  exact e
theorem scI27 : FnScope ["self"] ["self"] (defScope sI27) := ⟨rfl, rfl, rfl, by decide +kernel, rfl, by decide +kernel, by decide +kernel⟩
theorem ok_i27 {f C : Addr} {fd : FuncData} (F : Fun K "__init__" "NothingLeft.__init__" sI27 f fd) (T : OexG K C) (n0 : PySem.W.findIn K (.ref C) "code" = some none) : FnOk P w K mg base CX0 1 f fd ["self"] (spI0 C "NothingLeft") := by
  refine F.ok scI27 (fun vs H Q E h => ?_) (fun cdv A outer s H vs Q E hr h => ?_)
  · obtain ⟨a, rfl, _⟩ := h
    rfl
  obtain ⟨a, rfl, ha, q⟩ := h
  refine ⟨_, pss_one (ps_ostG (pv 0) pe_str), ?_⟩
  refine ⟨_, rfl, a, C, rfl, T, n0, .inl ⟨ha, fun d hd nd => ?_⟩⟩
  have na : a ≠ d := Ne.symm nd
  refine q d _ hd nd upd_same (by rw [upd_ne nd, upd_same]) fun b o e nb => ?_
  rw [upd_ne nb, upd_ne (ne_of_none e hd)]
  exact e
abbrev codes28 : List Str := ["InvalidName", "InvalidNumber", "InvalidSeries", "NoInverse", "TooEarly", "InvalidPart", "InvalidOuts", "InvalidUse", "InvalidText", "InvalidForm", "InvalidSheet", "InvalidTable", "InvalidFact", "InvalidDeed", "InvalidCommand", "InvalidPage", "InvalidLimit", "DuplicateName", "UnlikeKinds", "UnlikeOuts", "Ring", "Circular", "InUse", "Full", "TooMany", "UnknownName", "UnknownPiece", "NothingLeft"]
abbrev attrs28 : List (List Str) := [["value"], ["value"], [], [], ["order"], ["at"], ["at"], ["at"], ["word"], [], ["at"], ["key"], ["at"], ["at"], ["at"], ["line"], ["value"], ["name"], ["name"], [], ["place"], ["piece"], ["piece", "user"], ["limit"], ["subject", "most"], ["name"], ["piece"], []]
def codeOf (j : Nat) : Str := codes28.getD j ""
def attrsOf (j : Nat) : List Str := attrs28.getD j []
abbrev grps28 : List Nat := [0, 0, 8, 8, 6, 1, 1, 1, 2, 8, 1, 6, 1, 1, 1, 2, 0, 3, 3, 8, 7, 4, 5, 7, 5, 3, 4, 8]
def grpOf (j : Nat) : Nat := grps28.getD j 9
def dueOf (j : Nat) (x y : V) : List V := match (attrsOf j).length with | 0 => [] | 1 => [x] | _ => [x, y]
/-- an error of the j-th class, told x (and y) -/
def XAt (Cs : Nat → Addr) (H : Hp) (v : V) (j : Nat) (x y : V) : Prop := ∃ (a d : Addr) (fs : List (Str × V)), v = .ref a ∧ H a = some (exo a (Cs j) (some d)) ∧ H d = some (exd d fs) ∧ fs.lookup ("code" : Str) = some (V.str (codeOf j)) ∧
  (∀ f, attrsOf j = [f] → fs.lookup f = some x) ∧ (∀ f g, attrsOf j = [f, g] → fs.lookup f = some x ∧ fs.lookup g = some y)
theorem XAt.same {Cs : Nat → Addr} {H H' : Hp} {v : V} {j : Nat} {x y : V} (h : XAt Cs H v j x y) (s : Same H H') : XAt Cs H' v j x y := by
  obtain ⟨a, d, fs, e, h1, h2, h3⟩ := h
  exact ⟨a, d, fs, e, s _ _ h1, s _ _ h2, h3⟩
structure Fam (K : PySem.W.Frag) (mg : Str → Option Value) (Cs : Nat → Addr) (U M : Addr) : Prop where
  xf : ∀ j, j < 28 → XfC K (Cs j)
  nc : ∀ j, j < 28 → PySem.W.findIn K (.ref (Cs j)) "code" = some none
  na : ∀ j, j < 28 → ∀ f, f ∈ attrsOf j → PySem.W.findIn K (.ref (Cs j)) f = some none
  xi : ∀ j, j < 28 → XisC K (Cs j)
  kit : ∀ i j, i < 28 → j < 28 → PySem.W.kitOne K (.ref (Cs j)) (.ref (Cs i)) = some (decide (i = j))
  kU : ∀ j, j < 28 → PySem.W.kitOne K (.ref (Cs j)) (.ref U) = some (decide (j < 25))
  kV : ∀ j, j < 28 → PySem.W.kitOne K (.ref (Cs j)) (.type "ValueError") = some (decide (j < 25))
  kM : ∀ j, j < 28 → PySem.W.kitOne K (.ref (Cs j)) (.ref M) = some (decide (j = 25) || decide (j = 26))
  kL : ∀ j, j < 28 → PySem.W.kitOne K (.ref (Cs j)) (.type "LookupError") = some (decide (24 < j))
  kI : ∀ j, j < 28 → PySem.W.kitOne K (.ref (Cs j)) (.type "IndexError") = some (decide (j = 27))
  mU : mg "UnopenedError" = some (.ref U)
  mM : mg "Missing" = some (.ref M)
  mC : ∀ j, j < 28 → mg (codeOf j) = some (.ref (Cs j))
theorem tab28 {P : Nat → Prop} (h : ∀ j : Fin 28, P j.val) {j : Nat} (hj : j < 28) : P j := h ⟨j, hj⟩
abbrev sOdd : Stmt := top 36
abbrev sField : Stmt := top 37
abbrev sCodes : Stmt := top 38
/-- a drawn value: a leaf, or a short tuple or list of leaves -/
def Od (H : Hp) (b : Addr) (x : V) : Prop := Leaf x ∨ ∃ p l, x = .ref p ∧ p ≠ b ∧ l.length ≤ 10 ∧ (∀ z ∈ l, Leaf z) ∧ (H p = some (.tup l) ∨ H p = some (.lst l))
theorem Od.kp {H H' : Hp} {b : Addr} {x : V} (h : Od H b x) (k : Kp b H H') : Od H' b x := by
  rcases h with h | ⟨p, l, e, n, h1, h2, h3⟩
  · exact .inl h
  · exact .inr ⟨p, l, e, n, h1, h2, h3.elim (fun z => .inl (k _ _ z n)) (fun z => .inr (k _ _ z n))⟩
theorem Od.eqv {H : Hp} {b : Addr} {x : V} (h : Od H b x) (n : Nat) : Eqv H (n + 1) x x := by
  rcases h with h | ⟨p, l, e, _, h1, h2, h3⟩
  · exact .leaf h _
  · subst e
    refine .inr ⟨p, p, l, l, rfl, rfl, rfl, by omega, h3.elim (fun z => .inr ⟨z, z⟩) (fun z => .inl ⟨z, z⟩), fun i u v hu hv => ?_⟩
    rw [hu] at hv
    cases Option.some.inj hv
    exact .leaf (h2 u (List.mem_of_getElem? hu)) n
def spOdd : Sp := fun vs H Q _ => ∃ (b c m : Addr) (ys : List V), vs = [.ref b, .ref m] ∧ Bag H b c ∧ m ≠ b ∧ H m = some (.lst ys) ∧ (∀ z ∈ ys, Leaf z) ∧ ys.length ≤ 10 ∧ ∀ x H', Od H' b x → Bag H' b c → Kp b H H' → Q x H'
theorem scOdd : FnScope ["_law_bag_here", "_law_more"] ["_law_bag_here", "_law_more"] (defScope sOdd) := ⟨rfl, rfl, rfl, by decide +kernel, rfl, by decide +kernel, by decide +kernel⟩
theorem ok_odd {f ga : Addr} {fd ad : FuncData} (F : Fun K "_law_odd" "_law_odd" sOdd f fd) (GA : Df P w K mg base 2 ga ad "_law_any" ["_law_bag_here", "_law_things"] (spAny K)) : FnOk P w K mg base CX0 3 f fd ["_law_bag_here", "_law_more"] spOdd := by
  refine F.ok scOdd (fun vs H Q E h => ?_) (fun cdv A outer s H vs Q E hr h => ?_)
  · obtain ⟨b, c, m, ys, rfl, _⟩ := h
    rfl
  obtain ⟨b, c, m, ys, rfl, B, nm, hm, hy, hl, q⟩ := h
  refine ⟨_, pss_one (ps_ret (pe_call GA.ok hr (by rfl) GA.m GA.kp GA.b .nil pass0 (pa_cons (pv 0) (pa_cons (pe_op op_cat (pe_lst (pa_cons pe_non (pa_cons pe_bl (pa_cons pe_bl (pa_cons pe_str (pa_cons pe_str (pa_cons pe_str (pa_cons (pe_un un_neg pe_int) (pa_cons (pe_op op_pow pe_int pe_int)
    (pa_cons (pe_tup (pa_cons pe_int (pa_cons pe_str pa_nil))) (pa_cons (pe_lst (pa_cons pe_int pa_nil)) (pa_cons (pe_tup pa_nil) pa_nil)))))))))))) (pv 1)) pa_nil)))), ?_⟩
  refine ⟨_, rfl, 1, rfl, 10, 5, rfl, rfl, ⟨by decide, by decide, by decide⟩, (by show 2 ≤ sizeLine; decide), fun p1 h1 => ⟨(by show 1 ≤ sizeLine; decide), fun p2 h2 => ⟨Nat.zero_le _, fun p3 h3 => ⟨(by show 11 ≤ sizeLine; decide), fun p4 h4 => ?_⟩⟩⟩⟩
  have r1 := same_upd h1 (.tup [.int 1, .str "a"])
  have r2 := same_upd h2 (.lst [.int 1])
  have r3 := same_upd h3 (.tup [])
  have g1 := r3 _ _ (r2 _ _ (upd_same (H := H) (a := p1) (o := .tup [.int 1, .str "a"])))
  have g2 := r3 _ _ (upd_same (a := p2) (o := .lst [.int 1]) (H := upd H p1 (.tup [.int 1, .str "a"])))
  have g3 := upd_same (a := p3) (o := .tup []) (H := upd (upd H p1 (.tup [.int 1, .str "a"])) p2 (.lst [.int 1]))
  have B1 := (B.upd_new h1 (.tup [.int 1, .str "a"]))
  have B2 := B1.upd_new h2 (.lst [.int 1])
  have B3 := B2.upd_new h3 (.tup [])
  have n1 := B.fresh h1
  have n2 := B1.fresh h2
  have n3 := B2.fresh h3
  have s3 := (r1.trans r2).trans r3
  generalize (upd (upd (upd H p1 (.tup [.int 1, .str "a"])) p2 (.lst [.int 1])) p3 (.tup [])) = H3 at h4 g1 g2 g3 B3 s3
  have nm4 : m ≠ p4 := ne_of_none (s3 _ _ hm) h4
  refine ⟨_, rfl, p4, m, _, ys, rfl, rfl, upd_same, by rw [upd_ne nm4]; exact s3 _ _ hm, ?_, fun p5 h5 => ?_⟩
  · show 11 + ys.length ≤ _
    exact Nat.le_trans (show 11 + ys.length ≤ 1000 by omega) (by decide)
  have B4 := B3.upd_new h4 (.lst [.non, .bl true, .bl false, .str "", .str "A", .str "abcde", .int (-1), .int (10 ^ 5), .ref p1, .ref p2, .ref p3])
  have r45 := (same_upd h4 (.lst [.non, .bl true, .bl false, .str "", .str "A", .str "abcde", .int (-1), .int (10 ^ 5), .ref p1, .ref p2, .ref p3])).trans (same_upd h5 (.lst ([.non, .bl true, .bl false, .str "", .str "A", .str "abcde", .int (-1), .int (10 ^ 5), .ref p1, .ref p2, .ref p3] ++ ys)))
  refine ⟨b, c, .ref p5, _, rfl, B4.upd_new h5 _, .inl ⟨p5, rfl, B4.fresh h5, SqL.of upd_same⟩, ?_, ?_, fun y H6 hy6 B6 k6 => ?_⟩
  · rw [List.length_append]; exact Nat.lt_of_lt_of_le (by decide) (Nat.le_add_right 11 _)
  · rw [List.length_append]; show 11 + ys.length < _; omega
  have k36 : Kp b H3 H6 := (Same.kp r45).trans k6
  refine q y H6 ?_ B6 ((Same.kp s3).trans k36)
  have lf : ∀ z, Leaf z → Od H6 b z := fun z h => .inl h
  have o1 : Od H6 b (.ref p1) := .inr ⟨p1, _, rfl, n1, (by show 2 ≤ 10; decide), (fun z hz => by
    rcases List.mem_cons.mp hz with e | hz
    · rw [e]; exact trivial
    · rw [List.mem_singleton.mp hz]; exact trivial), .inl (k36 _ _ g1 n1)⟩
  have o2 : Od H6 b (.ref p2) := .inr ⟨p2, _, rfl, n2, (by show 1 ≤ 10; decide), (fun z hz => by rw [List.mem_singleton.mp hz]; exact trivial), .inr (k36 _ _ g2 n2)⟩
  have o3 : Od H6 b (.ref p3) := .inr ⟨p3, [], rfl, n3, Nat.zero_le _, (fun z hz => nomatch hz), .inl (k36 _ _ g3 n3)⟩
  rcases List.mem_append.mp hy6 with h | h
  · rcases List.mem_cons.mp h with e | h
    · rw [e]; exact lf _ trivial
    rcases List.mem_cons.mp h with e | h
    · rw [e]; exact lf _ trivial
    rcases List.mem_cons.mp h with e | h
    · rw [e]; exact lf _ trivial
    rcases List.mem_cons.mp h with e | h
    · rw [e]; exact lf _ trivial
    rcases List.mem_cons.mp h with e | h
    · rw [e]; exact lf _ trivial
    rcases List.mem_cons.mp h with e | h
    · rw [e]; exact lf _ trivial
    rcases List.mem_cons.mp h with e | h
    · rw [e]; exact lf _ trivial
    rcases List.mem_cons.mp h with e | h
    · rw [e]; exact lf _ trivial
    rcases List.mem_cons.mp h with e | h
    · rw [e]; exact o1
    rcases List.mem_cons.mp h with e | h
    · rw [e]; exact o2
    · rw [List.mem_singleton.mp h]; exact o3
  · exact lf _ (hy y h)
abbrev sErrors : Stmt := top 39
abbrev sClasses : Stmt := top 40
def spCodes : Sp := fun vs H Q _ => vs = [] ∧ ∀ l H', Same H H' → H l = none → H' l = some (.lst (codes28.map V.str)) → Q (.ref l) H'
theorem scCodes : FnScope [] [] (defScope sCodes) := ⟨rfl, rfl, rfl, by decide +kernel, rfl, by decide +kernel, by decide +kernel⟩
theorem ok_codes {f : Addr} {fd : FuncData} (F : Fun K "_law_codes" "_law_codes" sCodes f fd) : FnOk P w K mg base CX0 1 f fd [] spCodes := by
  refine F.ok scCodes (fun vs H Q E h => by rw [h.1]; rfl) (fun cdv A outer s H vs Q E hr h => ?_)
  obtain ⟨rfl, q⟩ := h
  refine ⟨_, pss_one (ps_ret (pe_lst (pa_cons pe_str (pa_cons pe_str (pa_cons pe_str (pa_cons pe_str (pa_cons pe_str (pa_cons pe_str (pa_cons pe_str (pa_cons pe_str (pa_cons pe_str (pa_cons pe_str (pa_cons pe_str (pa_cons pe_str (pa_cons pe_str (pa_cons pe_str (pa_cons pe_str (pa_cons pe_str (pa_cons pe_str (pa_cons pe_str (pa_cons pe_str (pa_cons pe_str (pa_cons pe_str (pa_cons pe_str (pa_cons pe_str (pa_cons pe_str (pa_cons pe_str (pa_cons pe_str (pa_cons pe_str (pa_cons pe_str pa_nil)))))))))))))))))))))))))))))), ?_⟩
  exact ⟨(by show 28 ≤ sizeLine; decide), fun l hl => q l _ (same_upd hl _) hl upd_same⟩
def spField (Cs : Nat → Addr) : Sp := fun vs H Q _ => ∃ (v : V) (j : Nat) (x y : V), vs = [v] ∧ j < 28 ∧ XAt Cs H v j x y ∧ ∀ t H', Same H H' → H t = none → H' t = some (.tup (dueOf j x y)) → Q (.ref t) H'
theorem scField : FnScope ["_law_e", "_law_code"] ["_law_e"] (defScope sField) := ⟨rfl, rfl, rfl, by decide +kernel, rfl, by decide +kernel, by decide +kernel⟩
theorem ok_field {f : Addr} {fd : FuncData} {Cs : Nat → Addr} {U M : Addr} (F : Fun K "_law_field" "_law_field" sField f fd) (FA : Fam K mg Cs U M) : FnOk P w K mg base CX0 1 f fd ["_law_e"] (spField Cs) := by
  refine F.ok scField (fun vs H Q E h => ?_) (fun cdv A outer s H vs Q E hr h => ?_)
  · obtain ⟨v, j, x, y, rfl, _⟩ := h
    rfl
  obtain ⟨v, j, x, y, rfl, hj, ⟨a, d, fs, rfl, h1, h2, hc, hf1, hf2⟩, q⟩ := h
  refine ⟨_, pss_cons (ps_set (i := 1) scField.nd rfl (Or.inl rfl) (pe_xo (pv 0)))
    (pss_cons (ps_if (pt_cmpR op_in_seq (pv 1) (pe_tup (pa_cons pe_str (pa_cons pe_str (pa_cons pe_str pa_nil)))) (by rfl)) (pss_one (ps_ret (pe_tup (pa_cons (pe_xo (pv 0)) pa_nil)))) pss_nil)
    (pss_cons (ps_if (pt_cmpR op_in_seq (pv 1) (pe_tup (pa_cons pe_str (pa_cons pe_str (pa_cons pe_str (pa_cons pe_str (pa_cons pe_str (pa_cons pe_str (pa_cons pe_str pa_nil)))))))) (by rfl)) (pss_one (ps_ret (pe_tup (pa_cons (pe_xo (pv 0)) pa_nil)))) pss_nil)
    (pss_cons (ps_if (pt_cmpR op_in_seq (pv 1) (pe_tup (pa_cons pe_str (pa_cons pe_str pa_nil))) (by rfl)) (pss_one (ps_ret (pe_tup (pa_cons (pe_ifExp (pt_cmpR op_eq (pv 1) pe_str (nomark _)) (pe_xo (pv 0)) (pe_xo (pv 0))) pa_nil)))) pss_nil)
    (pss_cons (ps_if (pt_cmpR op_in_seq (pv 1) (pe_tup (pa_cons pe_str (pa_cons pe_str (pa_cons pe_str pa_nil)))) (by rfl)) (pss_one (ps_ret (pe_tup (pa_cons (pe_xo (pv 0)) pa_nil)))) pss_nil)
    (pss_cons (ps_if (pt_cmpR op_in_seq (pv 1) (pe_tup (pa_cons pe_str (pa_cons pe_str pa_nil))) (by rfl)) (pss_one (ps_ret (pe_tup (pa_cons (pe_xo (pv 0)) pa_nil)))) pss_nil)
    (pss_cons (ps_if (pt_cmpR op_in_seq (pv 1) (pe_tup (pa_cons pe_str (pa_cons pe_str pa_nil))) (by rfl)) (pss_one (ps_ret (pe_ifExp (pt_cmpR op_eq (pv 1) pe_str (nomark _)) (pe_tup (pa_cons (pe_xo (pv 0)) (pa_cons (pe_xo (pv 0)) pa_nil))) (pe_tup (pa_cons (pe_xo (pv 0)) (pa_cons (pe_xo (pv 0)) pa_nil)))))) pss_nil)
    (pss_cons (ps_if (pt_cmpR op_in_seq (pv 1) (pe_tup (pa_cons pe_str (pa_cons pe_str pa_nil))) (by rfl)) (pss_one (ps_ret (pe_tup (pa_cons (pe_ifExp (pt_cmpR op_eq (pv 1) pe_str (nomark _)) (pe_xo (pv 0)) (pe_xo (pv 0))) pa_nil)))) pss_nil)
    (pss_cons (ps_if (pt_cmpR op_in_seq (pv 1) (pe_tup (pa_cons pe_str (pa_cons pe_str pa_nil))) (by rfl)) (pss_one (ps_ret (pe_tup (pa_cons (pe_ifExp (pt_cmpR op_eq (pv 1) pe_str (nomark _)) (pe_xo (pv 0)) (pe_xo (pv 0))) pa_nil)))) pss_nil)
    (pss_one (ps_ret (pe_tup pa_nil))))))))))), ?_⟩
  have fin : ∀ (H3 : Hp) (t : Addr) (l : List V), Same H H3 → H3 t = none → dueOf j x y = l → Q (.ref t) (upd H3 t (.tup l)) := fun H3 t l s ht e => q t _ (s.trans (same_upd ht _)) (s.free ht) (by rw [upd_same, e])
  have due1 : ∀ f, attrsOf j = [f] → dueOf j x y = [x] := fun f e => by unfold dueOf; rw [e]; rfl
  have due2 : ∀ f g, attrsOf j = [f, g] → dueOf j x y = [x, y] := fun f g e => by unfold dueOf; rw [e]; rfl
  have due0 : attrsOf j = [] → dueOf j x y = [] := fun e => by unfold dueOf; rw [e]; rfl
  have s0 : Same H H := Same.refl H
  have at1 : ∀ f, attrsOf j = [f] → f ∈ attrsOf j := fun f e => by rw [e]; simp
  have at2 : ∀ f g, attrsOf j = [f, g] → f ∈ attrsOf j ∧ g ∈ attrsOf j := fun f g e => by rw [e]; simp
  refine ⟨_, rfl, a, Cs j, d, fs, _, rfl, h1, h2, FA.xf j hj, FA.nc j hj, hc, ?_⟩
  refine ⟨_, rfl, (by show 3 ≤ sizeLine; decide), fun t0 q0 => ⟨t0, _, rfl, .inr (SqT.of upd_same), rfl, rfl, _, rfl, ?_⟩⟩
  have r0 := same_upd q0 (.tup [V.str "InvalidName", V.str "InvalidNumber", V.str "InvalidLimit"])
  replace s0 := s0.trans r0
  replace h1 := r0 _ _ h1
  replace h2 := r0 _ _ h2
  generalize (upd H t0 (.tup [V.str "InvalidName", V.str "InvalidNumber", V.str "InvalidLimit"])) = G0 at s0 h1 h2 ⊢
  rw [show inV (V.str (codeOf j)) [V.str "InvalidName", V.str "InvalidNumber", V.str "InvalidLimit"] = decide (grpOf j = 0) from tab28 (P := fun j => inV (V.str (codeOf j)) [V.str "InvalidName", V.str "InvalidNumber", V.str "InvalidLimit"] = decide (grpOf j = 0)) (by decide +kernel) hj]
  refine ite2 (fun e => ?_) (fun n0 => ?_)
  · replace e : grpOf j = 0 := of_decide_eq_true e
    have A : attrsOf j = [("value" : Str)] := tab28 (P := fun j => grpOf j = 0 → attrsOf j = [("value" : Str)]) (by decide +kernel) hj e
    exact ⟨_, rfl, a, Cs j, d, fs, _, rfl, h1, h2, FA.xf j hj, FA.na j hj _ (at1 _ A), hf1 _ A, (by show 1 ≤ sizeLine; decide), fun t ht => fin _ t _ s0 ht (due1 _ A)⟩
  refine ⟨_, rfl, (by show 7 ≤ sizeLine; decide), fun t1 q1 => ⟨t1, _, rfl, .inr (SqT.of upd_same), rfl, rfl, _, rfl, ?_⟩⟩
  have r1 := same_upd q1 (.tup [V.str "InvalidPart", V.str "InvalidOuts", V.str "InvalidUse", V.str "InvalidSheet", V.str "InvalidFact", V.str "InvalidDeed", V.str "InvalidCommand"])
  replace s0 := s0.trans r1
  replace h1 := r1 _ _ h1
  replace h2 := r1 _ _ h2
  generalize (upd G0 t1 (.tup [V.str "InvalidPart", V.str "InvalidOuts", V.str "InvalidUse", V.str "InvalidSheet", V.str "InvalidFact", V.str "InvalidDeed", V.str "InvalidCommand"])) = G1 at s0 h1 h2 ⊢
  rw [show inV (V.str (codeOf j)) [V.str "InvalidPart", V.str "InvalidOuts", V.str "InvalidUse", V.str "InvalidSheet", V.str "InvalidFact", V.str "InvalidDeed", V.str "InvalidCommand"] = decide (grpOf j = 1) from tab28 (P := fun j => inV (V.str (codeOf j)) [V.str "InvalidPart", V.str "InvalidOuts", V.str "InvalidUse", V.str "InvalidSheet", V.str "InvalidFact", V.str "InvalidDeed", V.str "InvalidCommand"] = decide (grpOf j = 1)) (by decide +kernel) hj]
  refine ite2 (fun e => ?_) (fun n1 => ?_)
  · replace e : grpOf j = 1 := of_decide_eq_true e
    have A : attrsOf j = [("at" : Str)] := tab28 (P := fun j => grpOf j = 1 → attrsOf j = [("at" : Str)]) (by decide +kernel) hj e
    exact ⟨_, rfl, a, Cs j, d, fs, _, rfl, h1, h2, FA.xf j hj, FA.na j hj _ (at1 _ A), hf1 _ A, (by show 1 ≤ sizeLine; decide), fun t ht => fin _ t _ s0 ht (due1 _ A)⟩
  refine ⟨_, rfl, (by show 2 ≤ sizeLine; decide), fun t2 q2 => ⟨t2, _, rfl, .inr (SqT.of upd_same), rfl, rfl, _, rfl, ?_⟩⟩
  have r2 := same_upd q2 (.tup [V.str "InvalidText", V.str "InvalidPage"])
  replace s0 := s0.trans r2
  replace h1 := r2 _ _ h1
  replace h2 := r2 _ _ h2
  generalize (upd G1 t2 (.tup [V.str "InvalidText", V.str "InvalidPage"])) = G2 at s0 h1 h2 ⊢
  rw [show inV (V.str (codeOf j)) [V.str "InvalidText", V.str "InvalidPage"] = decide (grpOf j = 2) from tab28 (P := fun j => inV (V.str (codeOf j)) [V.str "InvalidText", V.str "InvalidPage"] = decide (grpOf j = 2)) (by decide +kernel) hj]
  refine ite2 (fun e => ?_) (fun n2 => ?_)
  · replace e : grpOf j = 2 := of_decide_eq_true e
    refine ⟨_, rfl, rfl, _, rfl, ?_⟩
    refine ite2 (fun ec => ?_) (fun ec => ?_)
    · have A : attrsOf j = [("word" : Str)] := tab28 (P := fun j => grpOf j = 2 → codeOf j = "InvalidText" → attrsOf j = [("word" : Str)]) (by decide +kernel) hj e (V.str.inj (of_decide_eq_true ec))
      exact ⟨_, rfl, a, Cs j, d, fs, _, rfl, h1, h2, FA.xf j hj, FA.na j hj _ (at1 _ A), hf1 _ A, (by show 1 ≤ sizeLine; decide), fun t ht => fin _ t _ s0 ht (due1 _ A)⟩
    · have A : attrsOf j = [("line" : Str)] := tab28 (P := fun j => grpOf j = 2 → ¬ codeOf j = "InvalidText" → attrsOf j = [("line" : Str)]) (by decide +kernel) hj e (fun z => ec (decide_eq_true (congrArg V.str z)))
      exact ⟨_, rfl, a, Cs j, d, fs, _, rfl, h1, h2, FA.xf j hj, FA.na j hj _ (at1 _ A), hf1 _ A, (by show 1 ≤ sizeLine; decide), fun t ht => fin _ t _ s0 ht (due1 _ A)⟩
  refine ⟨_, rfl, (by show 3 ≤ sizeLine; decide), fun t3 q3 => ⟨t3, _, rfl, .inr (SqT.of upd_same), rfl, rfl, _, rfl, ?_⟩⟩
  have r3 := same_upd q3 (.tup [V.str "DuplicateName", V.str "UnlikeKinds", V.str "UnknownName"])
  replace s0 := s0.trans r3
  replace h1 := r3 _ _ h1
  replace h2 := r3 _ _ h2
  generalize (upd G2 t3 (.tup [V.str "DuplicateName", V.str "UnlikeKinds", V.str "UnknownName"])) = G3 at s0 h1 h2 ⊢
  rw [show inV (V.str (codeOf j)) [V.str "DuplicateName", V.str "UnlikeKinds", V.str "UnknownName"] = decide (grpOf j = 3) from tab28 (P := fun j => inV (V.str (codeOf j)) [V.str "DuplicateName", V.str "UnlikeKinds", V.str "UnknownName"] = decide (grpOf j = 3)) (by decide +kernel) hj]
  refine ite2 (fun e => ?_) (fun n3 => ?_)
  · replace e : grpOf j = 3 := of_decide_eq_true e
    have A : attrsOf j = [("name" : Str)] := tab28 (P := fun j => grpOf j = 3 → attrsOf j = [("name" : Str)]) (by decide +kernel) hj e
    exact ⟨_, rfl, a, Cs j, d, fs, _, rfl, h1, h2, FA.xf j hj, FA.na j hj _ (at1 _ A), hf1 _ A, (by show 1 ≤ sizeLine; decide), fun t ht => fin _ t _ s0 ht (due1 _ A)⟩
  refine ⟨_, rfl, (by show 2 ≤ sizeLine; decide), fun t4 q4 => ⟨t4, _, rfl, .inr (SqT.of upd_same), rfl, rfl, _, rfl, ?_⟩⟩
  have r4 := same_upd q4 (.tup [V.str "Circular", V.str "UnknownPiece"])
  replace s0 := s0.trans r4
  replace h1 := r4 _ _ h1
  replace h2 := r4 _ _ h2
  generalize (upd G3 t4 (.tup [V.str "Circular", V.str "UnknownPiece"])) = G4 at s0 h1 h2 ⊢
  rw [show inV (V.str (codeOf j)) [V.str "Circular", V.str "UnknownPiece"] = decide (grpOf j = 4) from tab28 (P := fun j => inV (V.str (codeOf j)) [V.str "Circular", V.str "UnknownPiece"] = decide (grpOf j = 4)) (by decide +kernel) hj]
  refine ite2 (fun e => ?_) (fun n4 => ?_)
  · replace e : grpOf j = 4 := of_decide_eq_true e
    have A : attrsOf j = [("piece" : Str)] := tab28 (P := fun j => grpOf j = 4 → attrsOf j = [("piece" : Str)]) (by decide +kernel) hj e
    exact ⟨_, rfl, a, Cs j, d, fs, _, rfl, h1, h2, FA.xf j hj, FA.na j hj _ (at1 _ A), hf1 _ A, (by show 1 ≤ sizeLine; decide), fun t ht => fin _ t _ s0 ht (due1 _ A)⟩
  refine ⟨_, rfl, (by show 2 ≤ sizeLine; decide), fun t5 q5 => ⟨t5, _, rfl, .inr (SqT.of upd_same), rfl, rfl, _, rfl, ?_⟩⟩
  have r5 := same_upd q5 (.tup [V.str "InUse", V.str "TooMany"])
  replace s0 := s0.trans r5
  replace h1 := r5 _ _ h1
  replace h2 := r5 _ _ h2
  generalize (upd G4 t5 (.tup [V.str "InUse", V.str "TooMany"])) = G5 at s0 h1 h2 ⊢
  rw [show inV (V.str (codeOf j)) [V.str "InUse", V.str "TooMany"] = decide (grpOf j = 5) from tab28 (P := fun j => inV (V.str (codeOf j)) [V.str "InUse", V.str "TooMany"] = decide (grpOf j = 5)) (by decide +kernel) hj]
  refine ite2 (fun e => ?_) (fun n5 => ?_)
  · replace e : grpOf j = 5 := of_decide_eq_true e
    refine ⟨_, rfl, rfl, _, rfl, ?_⟩
    refine ite2 (fun ec => ?_) (fun ec => ?_)
    · have A : attrsOf j = [("piece" : Str), ("user" : Str)] := tab28 (P := fun j => grpOf j = 5 → codeOf j = "InUse" → attrsOf j = [("piece" : Str), ("user" : Str)]) (by decide +kernel) hj e (V.str.inj (of_decide_eq_true ec))
      exact ⟨_, rfl, a, Cs j, d, fs, _, rfl, h1, h2, FA.xf j hj, FA.na j hj _ (at2 _ _ A).1, (hf2 _ _ A).1, _, rfl, a, Cs j, d, fs, _, rfl, h1, h2, FA.xf j hj, FA.na j hj _ (at2 _ _ A).2, (hf2 _ _ A).2, (by show 2 ≤ sizeLine; decide), fun t ht => fin _ t _ s0 ht (due2 _ _ A)⟩
    · have A : attrsOf j = [("subject" : Str), ("most" : Str)] := tab28 (P := fun j => grpOf j = 5 → ¬ codeOf j = "InUse" → attrsOf j = [("subject" : Str), ("most" : Str)]) (by decide +kernel) hj e (fun z => ec (decide_eq_true (congrArg V.str z)))
      exact ⟨_, rfl, a, Cs j, d, fs, _, rfl, h1, h2, FA.xf j hj, FA.na j hj _ (at2 _ _ A).1, (hf2 _ _ A).1, _, rfl, a, Cs j, d, fs, _, rfl, h1, h2, FA.xf j hj, FA.na j hj _ (at2 _ _ A).2, (hf2 _ _ A).2, (by show 2 ≤ sizeLine; decide), fun t ht => fin _ t _ s0 ht (due2 _ _ A)⟩
  refine ⟨_, rfl, (by show 2 ≤ sizeLine; decide), fun t6 q6 => ⟨t6, _, rfl, .inr (SqT.of upd_same), rfl, rfl, _, rfl, ?_⟩⟩
  have r6 := same_upd q6 (.tup [V.str "TooEarly", V.str "InvalidTable"])
  replace s0 := s0.trans r6
  replace h1 := r6 _ _ h1
  replace h2 := r6 _ _ h2
  generalize (upd G5 t6 (.tup [V.str "TooEarly", V.str "InvalidTable"])) = G6 at s0 h1 h2 ⊢
  rw [show inV (V.str (codeOf j)) [V.str "TooEarly", V.str "InvalidTable"] = decide (grpOf j = 6) from tab28 (P := fun j => inV (V.str (codeOf j)) [V.str "TooEarly", V.str "InvalidTable"] = decide (grpOf j = 6)) (by decide +kernel) hj]
  refine ite2 (fun e => ?_) (fun n6 => ?_)
  · replace e : grpOf j = 6 := of_decide_eq_true e
    refine ⟨_, rfl, rfl, _, rfl, ?_⟩
    refine ite2 (fun ec => ?_) (fun ec => ?_)
    · have A : attrsOf j = [("order" : Str)] := tab28 (P := fun j => grpOf j = 6 → codeOf j = "TooEarly" → attrsOf j = [("order" : Str)]) (by decide +kernel) hj e (V.str.inj (of_decide_eq_true ec))
      exact ⟨_, rfl, a, Cs j, d, fs, _, rfl, h1, h2, FA.xf j hj, FA.na j hj _ (at1 _ A), hf1 _ A, (by show 1 ≤ sizeLine; decide), fun t ht => fin _ t _ s0 ht (due1 _ A)⟩
    · have A : attrsOf j = [("key" : Str)] := tab28 (P := fun j => grpOf j = 6 → ¬ codeOf j = "TooEarly" → attrsOf j = [("key" : Str)]) (by decide +kernel) hj e (fun z => ec (decide_eq_true (congrArg V.str z)))
      exact ⟨_, rfl, a, Cs j, d, fs, _, rfl, h1, h2, FA.xf j hj, FA.na j hj _ (at1 _ A), hf1 _ A, (by show 1 ≤ sizeLine; decide), fun t ht => fin _ t _ s0 ht (due1 _ A)⟩
  refine ⟨_, rfl, (by show 2 ≤ sizeLine; decide), fun t7 q7 => ⟨t7, _, rfl, .inr (SqT.of upd_same), rfl, rfl, _, rfl, ?_⟩⟩
  have r7 := same_upd q7 (.tup [V.str "Full", V.str "Ring"])
  replace s0 := s0.trans r7
  replace h1 := r7 _ _ h1
  replace h2 := r7 _ _ h2
  generalize (upd G6 t7 (.tup [V.str "Full", V.str "Ring"])) = G7 at s0 h1 h2 ⊢
  rw [show inV (V.str (codeOf j)) [V.str "Full", V.str "Ring"] = decide (grpOf j = 7) from tab28 (P := fun j => inV (V.str (codeOf j)) [V.str "Full", V.str "Ring"] = decide (grpOf j = 7)) (by decide +kernel) hj]
  refine ite2 (fun e => ?_) (fun n7 => ?_)
  · replace e : grpOf j = 7 := of_decide_eq_true e
    refine ⟨_, rfl, rfl, _, rfl, ?_⟩
    refine ite2 (fun ec => ?_) (fun ec => ?_)
    · have A : attrsOf j = [("limit" : Str)] := tab28 (P := fun j => grpOf j = 7 → codeOf j = "Full" → attrsOf j = [("limit" : Str)]) (by decide +kernel) hj e (V.str.inj (of_decide_eq_true ec))
      exact ⟨_, rfl, a, Cs j, d, fs, _, rfl, h1, h2, FA.xf j hj, FA.na j hj _ (at1 _ A), hf1 _ A, (by show 1 ≤ sizeLine; decide), fun t ht => fin _ t _ s0 ht (due1 _ A)⟩
    · have A : attrsOf j = [("place" : Str)] := tab28 (P := fun j => grpOf j = 7 → ¬ codeOf j = "Full" → attrsOf j = [("place" : Str)]) (by decide +kernel) hj e (fun z => ec (decide_eq_true (congrArg V.str z)))
      exact ⟨_, rfl, a, Cs j, d, fs, _, rfl, h1, h2, FA.xf j hj, FA.na j hj _ (at1 _ A), hf1 _ A, (by show 1 ≤ sizeLine; decide), fun t ht => fin _ t _ s0 ht (due1 _ A)⟩
  have m0 : ¬ grpOf j = 0 := fun e => n0 (decide_eq_true e)
  have m1 : ¬ grpOf j = 1 := fun e => n1 (decide_eq_true e)
  have m2 : ¬ grpOf j = 2 := fun e => n2 (decide_eq_true e)
  have m3 : ¬ grpOf j = 3 := fun e => n3 (decide_eq_true e)
  have m4 : ¬ grpOf j = 4 := fun e => n4 (decide_eq_true e)
  have m5 : ¬ grpOf j = 5 := fun e => n5 (decide_eq_true e)
  have m6 : ¬ grpOf j = 6 := fun e => n6 (decide_eq_true e)
  have m7 : ¬ grpOf j = 7 := fun e => n7 (decide_eq_true e)
  have g8 : grpOf j ≤ 8 := tab28 (P := fun j => grpOf j ≤ 8) (by decide +kernel) hj
  have A : attrsOf j = [] := tab28 (P := fun j => grpOf j = 8 → attrsOf j = []) (by decide +kernel) hj (by omega)
  exact ⟨Nat.zero_le _, fun t ht => fin _ t _ s0 ht (due0 A)⟩
/-- all the classes, to be made -/
structure AllX (P : Program) (w : World) (K : PySem.W.Frag) (mg : Str → Option Value) (base : Heap) (Cs : Nat → Addr) : Prop where
  c0 : ∃ fI fd, Xm P w K mg base (Cs 0) 1 fI fd "InvalidName" ["self", "value"] (spI1 (Cs 0) "InvalidName" "value") ∧ KBn K fd ["self", "value"] 2 [] (fun us ws => us ++ ws) (fun vs zs => vs ++ zs) ∧ KBn K fd ["self", "value"] 1 ["value"] (fun us ws => us ++ ws) (fun vs zs => vs ++ zs)
  c1 : ∃ fI fd, Xm P w K mg base (Cs 1) 1 fI fd "InvalidNumber" ["self", "value"] (spI1 (Cs 1) "InvalidNumber" "value") ∧ KBn K fd ["self", "value"] 2 [] (fun us ws => us ++ ws) (fun vs zs => vs ++ zs) ∧ KBn K fd ["self", "value"] 1 ["value"] (fun us ws => us ++ ws) (fun vs zs => vs ++ zs)
  c2 : ∃ fI fd, Xm P w K mg base (Cs 2) 1 fI fd "InvalidSeries" ["self"] (spI0 (Cs 2) "InvalidSeries") ∧ KBn K fd ["self"] 1 [] (fun us ws => us ++ ws) (fun vs zs => vs ++ zs)
  c3 : ∃ fI fd, Xm P w K mg base (Cs 3) 1 fI fd "NoInverse" ["self"] (spI0 (Cs 3) "NoInverse") ∧ KBn K fd ["self"] 1 [] (fun us ws => us ++ ws) (fun vs zs => vs ++ zs)
  c4 : ∃ fI fd, Xm P w K mg base (Cs 4) 1 fI fd "TooEarly" ["self", "order"] (spI1 (Cs 4) "TooEarly" "order") ∧ KBn K fd ["self", "order"] 2 [] (fun us ws => us ++ ws) (fun vs zs => vs ++ zs) ∧ KBn K fd ["self", "order"] 1 ["order"] (fun us ws => us ++ ws) (fun vs zs => vs ++ zs)
  c5 : ∃ fI fd, Xm P w K mg base (Cs 5) 1 fI fd "InvalidPart" ["self", "at"] (spI1 (Cs 5) "InvalidPart" "at") ∧ KBn K fd ["self", "at"] 2 [] (fun us ws => us ++ ws) (fun vs zs => vs ++ zs) ∧ KBn K fd ["self", "at"] 1 ["at"] (fun us ws => us ++ ws) (fun vs zs => vs ++ zs)
  c6 : ∃ fI fd, Xm P w K mg base (Cs 6) 1 fI fd "InvalidOuts" ["self", "at"] (spI1 (Cs 6) "InvalidOuts" "at") ∧ KBn K fd ["self", "at"] 2 [] (fun us ws => us ++ ws) (fun vs zs => vs ++ zs) ∧ KBn K fd ["self", "at"] 1 ["at"] (fun us ws => us ++ ws) (fun vs zs => vs ++ zs)
  c7 : ∃ fI fd, Xm P w K mg base (Cs 7) 1 fI fd "InvalidUse" ["self", "at"] (spI1 (Cs 7) "InvalidUse" "at") ∧ KBn K fd ["self", "at"] 2 [] (fun us ws => us ++ ws) (fun vs zs => vs ++ zs) ∧ KBn K fd ["self", "at"] 1 ["at"] (fun us ws => us ++ ws) (fun vs zs => vs ++ zs)
  c8 : ∃ fI fd, Xm P w K mg base (Cs 8) 1 fI fd "InvalidText" ["self", "word"] (spI1 (Cs 8) "InvalidText" "word") ∧ KBn K fd ["self", "word"] 2 [] (fun us ws => us ++ ws) (fun vs zs => vs ++ zs) ∧ KBn K fd ["self", "word"] 1 ["word"] (fun us ws => us ++ ws) (fun vs zs => vs ++ zs)
  c9 : ∃ fI fd, Xm P w K mg base (Cs 9) 1 fI fd "InvalidForm" ["self"] (spI0 (Cs 9) "InvalidForm") ∧ KBn K fd ["self"] 1 [] (fun us ws => us ++ ws) (fun vs zs => vs ++ zs)
  c10 : ∃ fI fd, Xm P w K mg base (Cs 10) 1 fI fd "InvalidSheet" ["self", "at"] (spI1 (Cs 10) "InvalidSheet" "at") ∧ KBn K fd ["self", "at"] 2 [] (fun us ws => us ++ ws) (fun vs zs => vs ++ zs) ∧ KBn K fd ["self", "at"] 1 ["at"] (fun us ws => us ++ ws) (fun vs zs => vs ++ zs)
  c11 : ∃ fI fd, Xm P w K mg base (Cs 11) 1 fI fd "InvalidTable" ["self", "key"] (spI1 (Cs 11) "InvalidTable" "key") ∧ KBn K fd ["self", "key"] 2 [] (fun us ws => us ++ ws) (fun vs zs => vs ++ zs) ∧ KBn K fd ["self", "key"] 1 ["key"] (fun us ws => us ++ ws) (fun vs zs => vs ++ zs)
  c12 : ∃ fI fd, Xm P w K mg base (Cs 12) 1 fI fd "InvalidFact" ["self", "at"] (spI1 (Cs 12) "InvalidFact" "at") ∧ KBn K fd ["self", "at"] 2 [] (fun us ws => us ++ ws) (fun vs zs => vs ++ zs) ∧ KBn K fd ["self", "at"] 1 ["at"] (fun us ws => us ++ ws) (fun vs zs => vs ++ zs)
  c13 : ∃ fI fd, Xm P w K mg base (Cs 13) 1 fI fd "InvalidDeed" ["self", "at"] (spI1 (Cs 13) "InvalidDeed" "at") ∧ KBn K fd ["self", "at"] 2 [] (fun us ws => us ++ ws) (fun vs zs => vs ++ zs) ∧ KBn K fd ["self", "at"] 1 ["at"] (fun us ws => us ++ ws) (fun vs zs => vs ++ zs)
  c14 : ∃ fI fd, Xm P w K mg base (Cs 14) 1 fI fd "InvalidCommand" ["self", "at"] (spI1 (Cs 14) "InvalidCommand" "at") ∧ KBn K fd ["self", "at"] 2 [] (fun us ws => us ++ ws) (fun vs zs => vs ++ zs) ∧ KBn K fd ["self", "at"] 1 ["at"] (fun us ws => us ++ ws) (fun vs zs => vs ++ zs)
  c15 : ∃ fI fd, Xm P w K mg base (Cs 15) 1 fI fd "InvalidPage" ["self", "line"] (spI1 (Cs 15) "InvalidPage" "line") ∧ KBn K fd ["self", "line"] 2 [] (fun us ws => us ++ ws) (fun vs zs => vs ++ zs) ∧ KBn K fd ["self", "line"] 1 ["line"] (fun us ws => us ++ ws) (fun vs zs => vs ++ zs)
  c16 : ∃ fI fd, Xm P w K mg base (Cs 16) 1 fI fd "InvalidLimit" ["self", "value"] (spI1 (Cs 16) "InvalidLimit" "value") ∧ KBn K fd ["self", "value"] 2 [] (fun us ws => us ++ ws) (fun vs zs => vs ++ zs) ∧ KBn K fd ["self", "value"] 1 ["value"] (fun us ws => us ++ ws) (fun vs zs => vs ++ zs)
  c17 : ∃ fI fd, Xm P w K mg base (Cs 17) 1 fI fd "DuplicateName" ["self", "name"] (spI1 (Cs 17) "DuplicateName" "name") ∧ KBn K fd ["self", "name"] 2 [] (fun us ws => us ++ ws) (fun vs zs => vs ++ zs) ∧ KBn K fd ["self", "name"] 1 ["name"] (fun us ws => us ++ ws) (fun vs zs => vs ++ zs)
  c18 : ∃ fI fd, Xm P w K mg base (Cs 18) 1 fI fd "UnlikeKinds" ["self", "name"] (spI1 (Cs 18) "UnlikeKinds" "name") ∧ KBn K fd ["self", "name"] 2 [] (fun us ws => us ++ ws) (fun vs zs => vs ++ zs) ∧ KBn K fd ["self", "name"] 1 ["name"] (fun us ws => us ++ ws) (fun vs zs => vs ++ zs)
  c19 : ∃ fI fd, Xm P w K mg base (Cs 19) 1 fI fd "UnlikeOuts" ["self"] (spI0 (Cs 19) "UnlikeOuts") ∧ KBn K fd ["self"] 1 [] (fun us ws => us ++ ws) (fun vs zs => vs ++ zs)
  c20 : ∃ fI fd, Xm P w K mg base (Cs 20) 1 fI fd "Ring" ["self", "place"] (spI1 (Cs 20) "Ring" "place") ∧ KBn K fd ["self", "place"] 2 [] (fun us ws => us ++ ws) (fun vs zs => vs ++ zs) ∧ KBn K fd ["self", "place"] 1 ["place"] (fun us ws => us ++ ws) (fun vs zs => vs ++ zs)
  c21 : ∃ fI fd, Xm P w K mg base (Cs 21) 1 fI fd "Circular" ["self", "piece"] (spI1 (Cs 21) "Circular" "piece") ∧ KBn K fd ["self", "piece"] 2 [] (fun us ws => us ++ ws) (fun vs zs => vs ++ zs) ∧ KBn K fd ["self", "piece"] 1 ["piece"] (fun us ws => us ++ ws) (fun vs zs => vs ++ zs)
  c22 : ∃ fI fd, Xm P w K mg base (Cs 22) 1 fI fd "InUse" ["self", "piece", "user"] (spI2 (Cs 22) "InUse" "piece" "user") ∧ KBn K fd ["self", "piece", "user"] 3 [] (fun us ws => us ++ ws) (fun vs zs => vs ++ zs) ∧ KBn K fd ["self", "piece", "user"] 1 ["user", "piece"] (fun us ws => us ++ ws.reverse) (fun vs zs => vs ++ zs.reverse)
  c23 : ∃ fI fd, Xm P w K mg base (Cs 23) 1 fI fd "Full" ["self", "limit"] (spI1 (Cs 23) "Full" "limit") ∧ KBn K fd ["self", "limit"] 2 [] (fun us ws => us ++ ws) (fun vs zs => vs ++ zs) ∧ KBn K fd ["self", "limit"] 1 ["limit"] (fun us ws => us ++ ws) (fun vs zs => vs ++ zs)
  c24 : ∃ fI fd, Xm P w K mg base (Cs 24) 1 fI fd "TooMany" ["self", "subject", "most"] (spI2 (Cs 24) "TooMany" "subject" "most") ∧ KBn K fd ["self", "subject", "most"] 3 [] (fun us ws => us ++ ws) (fun vs zs => vs ++ zs) ∧ KBn K fd ["self", "subject", "most"] 1 ["most", "subject"] (fun us ws => us ++ ws.reverse) (fun vs zs => vs ++ zs.reverse)
  c25 : ∃ fI fd, Xm P w K mg base (Cs 25) 1 fI fd "UnknownName" ["self", "name"] (spI1 (Cs 25) "UnknownName" "name") ∧ KBn K fd ["self", "name"] 2 [] (fun us ws => us ++ ws) (fun vs zs => vs ++ zs) ∧ KBn K fd ["self", "name"] 1 ["name"] (fun us ws => us ++ ws) (fun vs zs => vs ++ zs)
  c26 : ∃ fI fd, Xm P w K mg base (Cs 26) 1 fI fd "UnknownPiece" ["self", "piece"] (spI1 (Cs 26) "UnknownPiece" "piece") ∧ KBn K fd ["self", "piece"] 2 [] (fun us ws => us ++ ws) (fun vs zs => vs ++ zs) ∧ KBn K fd ["self", "piece"] 1 ["piece"] (fun us ws => us ++ ws) (fun vs zs => vs ++ zs)
  c27 : ∃ fI fd, Xm P w K mg base (Cs 27) 1 fI fd "NothingLeft" ["self"] (spI0 (Cs 27) "NothingLeft") ∧ KBn K fd ["self"] 1 [] (fun us ws => us ++ ws) (fun vs zs => vs ++ zs)
theorem mkS {H H' : Hp} {a C : Addr} (hn : H a = none) (k : ∀ b o, upd H a (exo a C none) b = some o → b ≠ a → H' b = some o) : Same H H' := fun b o e => k b o (by rw [upd_ne (ne_of_none e hn)]; exact e) (ne_of_none e hn)
theorem mkX0 {Cs : Nat → Addr} {H : Hp} {a d : Addr} {j : Nat} (x y : V) (hA : attrsOf j = []) (g : H a = some (exo a (Cs j) (some d))) (i : H d = some (exd d [("code", .str (codeOf j))])) : XAt Cs H (.ref a) j x y :=
  ⟨a, d, _, rfl, g, i, by rw [lookup_put, if_pos rfl], (fun f e => by rw [hA] at e; cases e), (fun f g e => by rw [hA] at e; cases e)⟩
theorem mkX1 {Cs : Nat → Addr} {H : Hp} {a d : Addr} {j : Nat} {x : V} {f : Str} (y : V) (hA : attrsOf j = [f]) (hf : ¬ ("code" : Str) = f) (g : H a = some (exo a (Cs j) (some d))) (i : H d = some (exd d [(f, x), ("code", .str (codeOf j))])) : XAt Cs H (.ref a) j x y :=
  ⟨a, d, _, rfl, g, i, by rw [lookup_put, if_neg hf, lookup_put, if_pos rfl], (fun f' e => by
    rw [hA] at e
    cases e
    rw [lookup_put, if_pos rfl]), (fun f g e => by rw [hA] at e; cases e)⟩
theorem mkX2 {Cs : Nat → Addr} {H : Hp} {a d : Addr} {j : Nat} {x y : V} {f f2 : Str} (hA : attrsOf j = [f, f2]) (hf : ¬ ("code" : Str) = f) (hf2 : ¬ ("code" : Str) = f2) (hff : ¬ f = f2) (g : H a = some (exo a (Cs j) (some d))) (i : H d = some (exd d [(f2, y), (f, x), ("code", .str (codeOf j))])) : XAt Cs H (.ref a) j x y :=
  ⟨a, d, _, rfl, g, i, by rw [lookup_put, if_neg hf2, lookup_put, if_neg hf, lookup_put, if_pos rfl], (fun f' e => by rw [hA] at e; cases e), fun f' g' e => by
    rw [hA] at e
    cases e
    exact ⟨by rw [lookup_put, if_neg hff, lookup_put, if_pos rfl], by rw [lookup_put, if_pos rfl]⟩⟩
def spErrors (Cs : Nat → Addr) : Sp := fun vs H Q _ => ∃ x y, vs = [x, y] ∧ ∀ (l : Addr) (es : List V) (H' : Hp), Same H H' → H l = none → H' l = some (.lst es) → es.length = 28 → (∀ j v, es[j]? = some v → XAt Cs H' v j x y) → Q (.ref l) H'
theorem scErrors : FnScope ["_law_a", "_law_b", "_law_found"] ["_law_a", "_law_b"] (defScope sErrors) := ⟨rfl, rfl, rfl, by decide +kernel, rfl, by decide +kernel, by decide +kernel⟩
theorem ok_errors {f : Addr} {fd : FuncData} {Cs : Nat → Addr} (F : Fun K "_law_errors" "_law_errors" sErrors f fd) (X : AllX P w K mg base Cs) : FnOk P w K mg base CX0 3 f fd ["_law_a", "_law_b"] (spErrors Cs) := by
  refine F.ok scErrors (fun vs H Q E h => ?_) (fun cdv A outer s H vs Q E hr h => ?_)
  · obtain ⟨x, y, rfl, _⟩ := h
    rfl
  obtain ⟨x, y, rfl, q⟩ := h
  obtain ⟨_, _, M0, b0, _⟩ := X.c0
  obtain ⟨_, _, M1, b1, _⟩ := X.c1
  obtain ⟨_, _, M2, b2⟩ := X.c2
  obtain ⟨_, _, M3, b3⟩ := X.c3
  obtain ⟨_, _, M4, b4, _⟩ := X.c4
  obtain ⟨_, _, M5, b5, _⟩ := X.c5
  obtain ⟨_, _, M6, b6, _⟩ := X.c6
  obtain ⟨_, _, M7, b7, _⟩ := X.c7
  obtain ⟨_, _, M8, b8, _⟩ := X.c8
  obtain ⟨_, _, M9, b9⟩ := X.c9
  obtain ⟨_, _, M10, b10, _⟩ := X.c10
  obtain ⟨_, _, M11, b11, _⟩ := X.c11
  obtain ⟨_, _, M12, b12, _⟩ := X.c12
  obtain ⟨_, _, M13, b13, _⟩ := X.c13
  obtain ⟨_, _, M14, b14, _⟩ := X.c14
  obtain ⟨_, _, M15, b15, _⟩ := X.c15
  obtain ⟨_, _, M16, b16, _⟩ := X.c16
  obtain ⟨_, _, M17, b17, _⟩ := X.c17
  obtain ⟨_, _, M18, b18, _⟩ := X.c18
  obtain ⟨_, _, M19, b19⟩ := X.c19
  obtain ⟨_, _, M20, b20, _⟩ := X.c20
  obtain ⟨_, _, M21, b21, _⟩ := X.c21
  obtain ⟨_, _, M22, b22, _⟩ := X.c22
  obtain ⟨_, _, M23, b23, _⟩ := X.c23
  obtain ⟨_, _, M24, b24, _⟩ := X.c24
  obtain ⟨_, _, M25, b25, _⟩ := X.c25
  obtain ⟨_, _, M26, b26, _⟩ := X.c26
  obtain ⟨_, _, M27, b27⟩ := X.c27
  refine ⟨_, pss_cons (ps_set (i := 2) scErrors.nd rfl (Or.inl rfl) (pe_lst pa_nil))
    (pss_cons (ps_set (i := 2) scErrors.nd rfl (Or.inl rfl) (pe_op op_cat (pv 2) (pe_lst (pa_cons (pe_mkG M0 hr (by rfl) b0 (pa_cons (pv 0) pa_nil)) (pa_cons (pe_mkG M1 hr (by rfl) b1 (pa_cons (pv 0) pa_nil)) (pa_cons (pe_mkG0 M2 hr (by rfl) b2) (pa_cons (pe_mkG0 M3 hr (by rfl) b3) (pa_cons (pe_mkG M4 hr (by rfl) b4 (pa_cons (pv 0) pa_nil)) (pa_cons (pe_mkG M5 hr (by rfl) b5 (pa_cons (pv 0) pa_nil)) pa_nil)))))))))
    (pss_cons (ps_set (i := 2) scErrors.nd rfl (Or.inl rfl) (pe_op op_cat (pv 2) (pe_lst (pa_cons (pe_mkG M6 hr (by rfl) b6 (pa_cons (pv 0) pa_nil)) (pa_cons (pe_mkG M7 hr (by rfl) b7 (pa_cons (pv 0) pa_nil)) (pa_cons (pe_mkG M8 hr (by rfl) b8 (pa_cons (pv 0) pa_nil)) (pa_cons (pe_mkG0 M9 hr (by rfl) b9) (pa_cons (pe_mkG M10 hr (by rfl) b10 (pa_cons (pv 0) pa_nil)) (pa_cons (pe_mkG M11 hr (by rfl) b11 (pa_cons (pv 0) pa_nil)) pa_nil)))))))))
    (pss_cons (ps_set (i := 2) scErrors.nd rfl (Or.inl rfl) (pe_op op_cat (pv 2) (pe_lst (pa_cons (pe_mkG M12 hr (by rfl) b12 (pa_cons (pv 0) pa_nil)) (pa_cons (pe_mkG M13 hr (by rfl) b13 (pa_cons (pv 0) pa_nil)) (pa_cons (pe_mkG M14 hr (by rfl) b14 (pa_cons (pv 0) pa_nil)) (pa_cons (pe_mkG M15 hr (by rfl) b15 (pa_cons (pv 0) pa_nil)) (pa_cons (pe_mkG M16 hr (by rfl) b16 (pa_cons (pv 0) pa_nil)) (pa_cons (pe_mkG M17 hr (by rfl) b17 (pa_cons (pv 0) pa_nil)) pa_nil)))))))))
    (pss_cons (ps_set (i := 2) scErrors.nd rfl (Or.inl rfl) (pe_op op_cat (pv 2) (pe_lst (pa_cons (pe_mkG M18 hr (by rfl) b18 (pa_cons (pv 0) pa_nil)) (pa_cons (pe_mkG0 M19 hr (by rfl) b19) (pa_cons (pe_mkG M20 hr (by rfl) b20 (pa_cons (pv 0) pa_nil)) (pa_cons (pe_mkG M21 hr (by rfl) b21 (pa_cons (pv 0) pa_nil)) (pa_cons (pe_mkG M22 hr (by rfl) b22 (pa_cons (pv 0) (pa_cons (pv 1) pa_nil))) (pa_cons (pe_mkG M23 hr (by rfl) b23 (pa_cons (pv 0) pa_nil)) pa_nil)))))))))
    (pss_cons (ps_set (i := 2) scErrors.nd rfl (Or.inl rfl) (pe_op op_cat (pv 2) (pe_lst (pa_cons (pe_mkG M24 hr (by rfl) b24 (pa_cons (pv 0) (pa_cons (pv 1) pa_nil))) (pa_cons (pe_mkG M25 hr (by rfl) b25 (pa_cons (pv 0) pa_nil)) (pa_cons (pe_mkG M26 hr (by rfl) b26 (pa_cons (pv 0) pa_nil)) (pa_cons (pe_mkG0 M27 hr (by rfl) b27) pa_nil)))))))
    (pss_one (ps_ret (pv 2)))))))), ?_⟩
  have t0 : Same H H := Same.refl H
  refine ⟨Nat.zero_le _, fun l0 p0 => ?_⟩
  have z0 := same_upd p0 (.lst [])
  have c0 := upd_same (H := H) (a := l0) (o := .lst [])
  generalize (upd H l0 (.lst [])) = K0 at z0 c0 ⊢
  refine ⟨_, rfl, _, rfl, rfl, rfl, by decide, fun a0 n0 => ⟨a0, _, rfl, upd_same, fun d0 T0 e0 f0 g0 i0 k0 => ⟨rfl, ?_⟩⟩⟩
  have s0 : Same K0 T0 := mkS n0 k0
  have x0 : XAt Cs T0 (.ref a0) 0 x y := mkX1 y rfl (by decide +kernel) g0 i0
  refine ⟨_, rfl, rfl, rfl, by decide, fun a1 n1 => ⟨a1, _, rfl, upd_same, fun d1 T1 e1 f1 g1 i1 k1 => ⟨rfl, ?_⟩⟩⟩
  have s1 : Same T0 T1 := mkS n1 k1
  have x1 : XAt Cs T1 (.ref a1) 1 x y := mkX1 y rfl (by decide +kernel) g1 i1
  refine ⟨rfl, rfl, by decide, fun a2 n2 => ⟨a2, rfl, upd_same, fun d2 T2 e2 f2 g2 i2 k2 => ⟨rfl, ?_⟩⟩⟩
  have s2 : Same T1 T2 := mkS n2 k2
  have x2 : XAt Cs T2 (.ref a2) 2 x y := mkX0 x y rfl g2 i2
  refine ⟨rfl, rfl, by decide, fun a3 n3 => ⟨a3, rfl, upd_same, fun d3 T3 e3 f3 g3 i3 k3 => ⟨rfl, ?_⟩⟩⟩
  have s3 : Same T2 T3 := mkS n3 k3
  have x3 : XAt Cs T3 (.ref a3) 3 x y := mkX0 x y rfl g3 i3
  refine ⟨_, rfl, rfl, rfl, by decide, fun a4 n4 => ⟨a4, _, rfl, upd_same, fun d4 T4 e4 f4 g4 i4 k4 => ⟨rfl, ?_⟩⟩⟩
  have s4 : Same T3 T4 := mkS n4 k4
  have x4 : XAt Cs T4 (.ref a4) 4 x y := mkX1 y rfl (by decide +kernel) g4 i4
  refine ⟨_, rfl, rfl, rfl, by decide, fun a5 n5 => ⟨a5, _, rfl, upd_same, fun d5 T5 e5 f5 g5 i5 k5 => ⟨rfl, ?_⟩⟩⟩
  have s5 : Same T4 T5 := mkS n5 k5
  have x5 : XAt Cs T5 (.ref a5) 5 x y := mkX1 y rfl (by decide +kernel) g5 i5
  refine ⟨(by show 6 ≤ sizeLine; decide), fun m0 q0 => ?_⟩
  have u0 := same_upd q0 (.lst [V.ref a0, V.ref a1, V.ref a2, V.ref a3, V.ref a4, V.ref a5])
  have w0 := upd_same (H := T5) (a := m0) (o := .lst [V.ref a0, V.ref a1, V.ref a2, V.ref a3, V.ref a4, V.ref a5])
  generalize (upd T5 m0 (.lst [V.ref a0, V.ref a1, V.ref a2, V.ref a3, V.ref a4, V.ref a5])) = U0 at u0 w0 ⊢
  refine ⟨l0, m0, [], [V.ref a0, V.ref a1, V.ref a2, V.ref a3, V.ref a4, V.ref a5], rfl, rfl, ((((((s0.trans s1).trans s2).trans s3).trans s4).trans s5).trans u0) _ _ c0, w0, (by show 6 ≤ sizeLine; decide), fun l1 p1 => ?_⟩
  have z1 := same_upd p1 (.lst [V.ref a0, V.ref a1, V.ref a2, V.ref a3, V.ref a4, V.ref a5])
  have c1 := upd_same (H := U0) (a := l1) (o := .lst [V.ref a0, V.ref a1, V.ref a2, V.ref a3, V.ref a4, V.ref a5])
  generalize hK1 : (upd U0 l1 (.lst [V.ref a0, V.ref a1, V.ref a2, V.ref a3, V.ref a4, V.ref a5])) = K1 at z1 c1
  replace hK1 : upd U0 l1 (.lst ([] ++ [V.ref a0, V.ref a1, V.ref a2, V.ref a3, V.ref a4, V.ref a5])) = K1 := hK1
  rw [hK1]
  refine ⟨_, rfl, _, rfl, rfl, rfl, by decide, fun a6 n6 => ⟨a6, _, rfl, upd_same, fun d6 T6 e6 f6 g6 i6 k6 => ⟨rfl, ?_⟩⟩⟩
  have s6 : Same K1 T6 := mkS n6 k6
  have x6 : XAt Cs T6 (.ref a6) 6 x y := mkX1 y rfl (by decide +kernel) g6 i6
  refine ⟨_, rfl, rfl, rfl, by decide, fun a7 n7 => ⟨a7, _, rfl, upd_same, fun d7 T7 e7 f7 g7 i7 k7 => ⟨rfl, ?_⟩⟩⟩
  have s7 : Same T6 T7 := mkS n7 k7
  have x7 : XAt Cs T7 (.ref a7) 7 x y := mkX1 y rfl (by decide +kernel) g7 i7
  refine ⟨_, rfl, rfl, rfl, by decide, fun a8 n8 => ⟨a8, _, rfl, upd_same, fun d8 T8 e8 f8 g8 i8 k8 => ⟨rfl, ?_⟩⟩⟩
  have s8 : Same T7 T8 := mkS n8 k8
  have x8 : XAt Cs T8 (.ref a8) 8 x y := mkX1 y rfl (by decide +kernel) g8 i8
  refine ⟨rfl, rfl, by decide, fun a9 n9 => ⟨a9, rfl, upd_same, fun d9 T9 e9 f9 g9 i9 k9 => ⟨rfl, ?_⟩⟩⟩
  have s9 : Same T8 T9 := mkS n9 k9
  have x9 : XAt Cs T9 (.ref a9) 9 x y := mkX0 x y rfl g9 i9
  refine ⟨_, rfl, rfl, rfl, by decide, fun a10 n10 => ⟨a10, _, rfl, upd_same, fun d10 T10 e10 f10 g10 i10 k10 => ⟨rfl, ?_⟩⟩⟩
  have s10 : Same T9 T10 := mkS n10 k10
  have x10 : XAt Cs T10 (.ref a10) 10 x y := mkX1 y rfl (by decide +kernel) g10 i10
  refine ⟨_, rfl, rfl, rfl, by decide, fun a11 n11 => ⟨a11, _, rfl, upd_same, fun d11 T11 e11 f11 g11 i11 k11 => ⟨rfl, ?_⟩⟩⟩
  have s11 : Same T10 T11 := mkS n11 k11
  have x11 : XAt Cs T11 (.ref a11) 11 x y := mkX1 y rfl (by decide +kernel) g11 i11
  refine ⟨(by show 6 ≤ sizeLine; decide), fun m1 q1 => ?_⟩
  have u1 := same_upd q1 (.lst [V.ref a6, V.ref a7, V.ref a8, V.ref a9, V.ref a10, V.ref a11])
  have w1 := upd_same (H := T11) (a := m1) (o := .lst [V.ref a6, V.ref a7, V.ref a8, V.ref a9, V.ref a10, V.ref a11])
  generalize (upd T11 m1 (.lst [V.ref a6, V.ref a7, V.ref a8, V.ref a9, V.ref a10, V.ref a11])) = U1 at u1 w1 ⊢
  refine ⟨l1, m1, [V.ref a0, V.ref a1, V.ref a2, V.ref a3, V.ref a4, V.ref a5], [V.ref a6, V.ref a7, V.ref a8, V.ref a9, V.ref a10, V.ref a11], rfl, rfl, ((((((s6.trans s7).trans s8).trans s9).trans s10).trans s11).trans u1) _ _ c1, w1, (by show 12 ≤ sizeLine; decide), fun l2 p2 => ?_⟩
  have z2 := same_upd p2 (.lst [V.ref a0, V.ref a1, V.ref a2, V.ref a3, V.ref a4, V.ref a5, V.ref a6, V.ref a7, V.ref a8, V.ref a9, V.ref a10, V.ref a11])
  have c2 := upd_same (H := U1) (a := l2) (o := .lst [V.ref a0, V.ref a1, V.ref a2, V.ref a3, V.ref a4, V.ref a5, V.ref a6, V.ref a7, V.ref a8, V.ref a9, V.ref a10, V.ref a11])
  generalize hK2 : (upd U1 l2 (.lst [V.ref a0, V.ref a1, V.ref a2, V.ref a3, V.ref a4, V.ref a5, V.ref a6, V.ref a7, V.ref a8, V.ref a9, V.ref a10, V.ref a11])) = K2 at z2 c2
  replace hK2 : upd U1 l2 (.lst ([V.ref a0, V.ref a1, V.ref a2, V.ref a3, V.ref a4, V.ref a5] ++ [V.ref a6, V.ref a7, V.ref a8, V.ref a9, V.ref a10, V.ref a11])) = K2 := hK2
  rw [hK2]
  refine ⟨_, rfl, _, rfl, rfl, rfl, by decide, fun a12 n12 => ⟨a12, _, rfl, upd_same, fun d12 T12 e12 f12 g12 i12 k12 => ⟨rfl, ?_⟩⟩⟩
  have s12 : Same K2 T12 := mkS n12 k12
  have x12 : XAt Cs T12 (.ref a12) 12 x y := mkX1 y rfl (by decide +kernel) g12 i12
  refine ⟨_, rfl, rfl, rfl, by decide, fun a13 n13 => ⟨a13, _, rfl, upd_same, fun d13 T13 e13 f13 g13 i13 k13 => ⟨rfl, ?_⟩⟩⟩
  have s13 : Same T12 T13 := mkS n13 k13
  have x13 : XAt Cs T13 (.ref a13) 13 x y := mkX1 y rfl (by decide +kernel) g13 i13
  refine ⟨_, rfl, rfl, rfl, by decide, fun a14 n14 => ⟨a14, _, rfl, upd_same, fun d14 T14 e14 f14 g14 i14 k14 => ⟨rfl, ?_⟩⟩⟩
  have s14 : Same T13 T14 := mkS n14 k14
  have x14 : XAt Cs T14 (.ref a14) 14 x y := mkX1 y rfl (by decide +kernel) g14 i14
  refine ⟨_, rfl, rfl, rfl, by decide, fun a15 n15 => ⟨a15, _, rfl, upd_same, fun d15 T15 e15 f15 g15 i15 k15 => ⟨rfl, ?_⟩⟩⟩
  have s15 : Same T14 T15 := mkS n15 k15
  have x15 : XAt Cs T15 (.ref a15) 15 x y := mkX1 y rfl (by decide +kernel) g15 i15
  refine ⟨_, rfl, rfl, rfl, by decide, fun a16 n16 => ⟨a16, _, rfl, upd_same, fun d16 T16 e16 f16 g16 i16 k16 => ⟨rfl, ?_⟩⟩⟩
  have s16 : Same T15 T16 := mkS n16 k16
  have x16 : XAt Cs T16 (.ref a16) 16 x y := mkX1 y rfl (by decide +kernel) g16 i16
  refine ⟨_, rfl, rfl, rfl, by decide, fun a17 n17 => ⟨a17, _, rfl, upd_same, fun d17 T17 e17 f17 g17 i17 k17 => ⟨rfl, ?_⟩⟩⟩
  have s17 : Same T16 T17 := mkS n17 k17
  have x17 : XAt Cs T17 (.ref a17) 17 x y := mkX1 y rfl (by decide +kernel) g17 i17
  refine ⟨(by show 6 ≤ sizeLine; decide), fun m2 q2 => ?_⟩
  have u2 := same_upd q2 (.lst [V.ref a12, V.ref a13, V.ref a14, V.ref a15, V.ref a16, V.ref a17])
  have w2 := upd_same (H := T17) (a := m2) (o := .lst [V.ref a12, V.ref a13, V.ref a14, V.ref a15, V.ref a16, V.ref a17])
  generalize (upd T17 m2 (.lst [V.ref a12, V.ref a13, V.ref a14, V.ref a15, V.ref a16, V.ref a17])) = U2 at u2 w2 ⊢
  refine ⟨l2, m2, [V.ref a0, V.ref a1, V.ref a2, V.ref a3, V.ref a4, V.ref a5, V.ref a6, V.ref a7, V.ref a8, V.ref a9, V.ref a10, V.ref a11], [V.ref a12, V.ref a13, V.ref a14, V.ref a15, V.ref a16, V.ref a17], rfl, rfl, ((((((s12.trans s13).trans s14).trans s15).trans s16).trans s17).trans u2) _ _ c2, w2, (by show 18 ≤ sizeLine; decide), fun l3 p3 => ?_⟩
  have z3 := same_upd p3 (.lst [V.ref a0, V.ref a1, V.ref a2, V.ref a3, V.ref a4, V.ref a5, V.ref a6, V.ref a7, V.ref a8, V.ref a9, V.ref a10, V.ref a11, V.ref a12, V.ref a13, V.ref a14, V.ref a15, V.ref a16, V.ref a17])
  have c3 := upd_same (H := U2) (a := l3) (o := .lst [V.ref a0, V.ref a1, V.ref a2, V.ref a3, V.ref a4, V.ref a5, V.ref a6, V.ref a7, V.ref a8, V.ref a9, V.ref a10, V.ref a11, V.ref a12, V.ref a13, V.ref a14, V.ref a15, V.ref a16, V.ref a17])
  generalize hK3 : (upd U2 l3 (.lst [V.ref a0, V.ref a1, V.ref a2, V.ref a3, V.ref a4, V.ref a5, V.ref a6, V.ref a7, V.ref a8, V.ref a9, V.ref a10, V.ref a11, V.ref a12, V.ref a13, V.ref a14, V.ref a15, V.ref a16, V.ref a17])) = K3 at z3 c3
  replace hK3 : upd U2 l3 (.lst ([V.ref a0, V.ref a1, V.ref a2, V.ref a3, V.ref a4, V.ref a5, V.ref a6, V.ref a7, V.ref a8, V.ref a9, V.ref a10, V.ref a11] ++ [V.ref a12, V.ref a13, V.ref a14, V.ref a15, V.ref a16, V.ref a17])) = K3 := hK3
  rw [hK3]
  refine ⟨_, rfl, _, rfl, rfl, rfl, by decide, fun a18 n18 => ⟨a18, _, rfl, upd_same, fun d18 T18 e18 f18 g18 i18 k18 => ⟨rfl, ?_⟩⟩⟩
  have s18 : Same K3 T18 := mkS n18 k18
  have x18 : XAt Cs T18 (.ref a18) 18 x y := mkX1 y rfl (by decide +kernel) g18 i18
  refine ⟨rfl, rfl, by decide, fun a19 n19 => ⟨a19, rfl, upd_same, fun d19 T19 e19 f19 g19 i19 k19 => ⟨rfl, ?_⟩⟩⟩
  have s19 : Same T18 T19 := mkS n19 k19
  have x19 : XAt Cs T19 (.ref a19) 19 x y := mkX0 x y rfl g19 i19
  refine ⟨_, rfl, rfl, rfl, by decide, fun a20 n20 => ⟨a20, _, rfl, upd_same, fun d20 T20 e20 f20 g20 i20 k20 => ⟨rfl, ?_⟩⟩⟩
  have s20 : Same T19 T20 := mkS n20 k20
  have x20 : XAt Cs T20 (.ref a20) 20 x y := mkX1 y rfl (by decide +kernel) g20 i20
  refine ⟨_, rfl, rfl, rfl, by decide, fun a21 n21 => ⟨a21, _, rfl, upd_same, fun d21 T21 e21 f21 g21 i21 k21 => ⟨rfl, ?_⟩⟩⟩
  have s21 : Same T20 T21 := mkS n21 k21
  have x21 : XAt Cs T21 (.ref a21) 21 x y := mkX1 y rfl (by decide +kernel) g21 i21
  refine ⟨_, rfl, _, rfl, rfl, rfl, by decide, fun a22 n22 => ⟨a22, _, _, rfl, upd_same, fun d22 T22 e22 f22 g22 i22 k22 => ⟨rfl, ?_⟩⟩⟩
  have s22 : Same T21 T22 := mkS n22 k22
  have x22 : XAt Cs T22 (.ref a22) 22 x y := mkX2 rfl (by decide +kernel) (by decide +kernel) (by decide +kernel) g22 i22
  refine ⟨_, rfl, rfl, rfl, by decide, fun a23 n23 => ⟨a23, _, rfl, upd_same, fun d23 T23 e23 f23 g23 i23 k23 => ⟨rfl, ?_⟩⟩⟩
  have s23 : Same T22 T23 := mkS n23 k23
  have x23 : XAt Cs T23 (.ref a23) 23 x y := mkX1 y rfl (by decide +kernel) g23 i23
  refine ⟨(by show 6 ≤ sizeLine; decide), fun m3 q3 => ?_⟩
  have u3 := same_upd q3 (.lst [V.ref a18, V.ref a19, V.ref a20, V.ref a21, V.ref a22, V.ref a23])
  have w3 := upd_same (H := T23) (a := m3) (o := .lst [V.ref a18, V.ref a19, V.ref a20, V.ref a21, V.ref a22, V.ref a23])
  generalize (upd T23 m3 (.lst [V.ref a18, V.ref a19, V.ref a20, V.ref a21, V.ref a22, V.ref a23])) = U3 at u3 w3 ⊢
  refine ⟨l3, m3, [V.ref a0, V.ref a1, V.ref a2, V.ref a3, V.ref a4, V.ref a5, V.ref a6, V.ref a7, V.ref a8, V.ref a9, V.ref a10, V.ref a11, V.ref a12, V.ref a13, V.ref a14, V.ref a15, V.ref a16, V.ref a17], [V.ref a18, V.ref a19, V.ref a20, V.ref a21, V.ref a22, V.ref a23], rfl, rfl, ((((((s18.trans s19).trans s20).trans s21).trans s22).trans s23).trans u3) _ _ c3, w3, (by show 24 ≤ sizeLine; decide), fun l4 p4 => ?_⟩
  have z4 := same_upd p4 (.lst [V.ref a0, V.ref a1, V.ref a2, V.ref a3, V.ref a4, V.ref a5, V.ref a6, V.ref a7, V.ref a8, V.ref a9, V.ref a10, V.ref a11, V.ref a12, V.ref a13, V.ref a14, V.ref a15, V.ref a16, V.ref a17, V.ref a18, V.ref a19, V.ref a20, V.ref a21, V.ref a22, V.ref a23])
  have c4 := upd_same (H := U3) (a := l4) (o := .lst [V.ref a0, V.ref a1, V.ref a2, V.ref a3, V.ref a4, V.ref a5, V.ref a6, V.ref a7, V.ref a8, V.ref a9, V.ref a10, V.ref a11, V.ref a12, V.ref a13, V.ref a14, V.ref a15, V.ref a16, V.ref a17, V.ref a18, V.ref a19, V.ref a20, V.ref a21, V.ref a22, V.ref a23])
  generalize hK4 : (upd U3 l4 (.lst [V.ref a0, V.ref a1, V.ref a2, V.ref a3, V.ref a4, V.ref a5, V.ref a6, V.ref a7, V.ref a8, V.ref a9, V.ref a10, V.ref a11, V.ref a12, V.ref a13, V.ref a14, V.ref a15, V.ref a16, V.ref a17, V.ref a18, V.ref a19, V.ref a20, V.ref a21, V.ref a22, V.ref a23])) = K4 at z4 c4
  replace hK4 : upd U3 l4 (.lst ([V.ref a0, V.ref a1, V.ref a2, V.ref a3, V.ref a4, V.ref a5, V.ref a6, V.ref a7, V.ref a8, V.ref a9, V.ref a10, V.ref a11, V.ref a12, V.ref a13, V.ref a14, V.ref a15, V.ref a16, V.ref a17] ++ [V.ref a18, V.ref a19, V.ref a20, V.ref a21, V.ref a22, V.ref a23])) = K4 := hK4
  rw [hK4]
  refine ⟨_, rfl, _, rfl, _, rfl, rfl, rfl, by decide, fun a24 n24 => ⟨a24, _, _, rfl, upd_same, fun d24 T24 e24 f24 g24 i24 k24 => ⟨rfl, ?_⟩⟩⟩
  have s24 : Same K4 T24 := mkS n24 k24
  have x24 : XAt Cs T24 (.ref a24) 24 x y := mkX2 rfl (by decide +kernel) (by decide +kernel) (by decide +kernel) g24 i24
  refine ⟨_, rfl, rfl, rfl, by decide, fun a25 n25 => ⟨a25, _, rfl, upd_same, fun d25 T25 e25 f25 g25 i25 k25 => ⟨rfl, ?_⟩⟩⟩
  have s25 : Same T24 T25 := mkS n25 k25
  have x25 : XAt Cs T25 (.ref a25) 25 x y := mkX1 y rfl (by decide +kernel) g25 i25
  refine ⟨_, rfl, rfl, rfl, by decide, fun a26 n26 => ⟨a26, _, rfl, upd_same, fun d26 T26 e26 f26 g26 i26 k26 => ⟨rfl, ?_⟩⟩⟩
  have s26 : Same T25 T26 := mkS n26 k26
  have x26 : XAt Cs T26 (.ref a26) 26 x y := mkX1 y rfl (by decide +kernel) g26 i26
  refine ⟨rfl, rfl, by decide, fun a27 n27 => ⟨a27, rfl, upd_same, fun d27 T27 e27 f27 g27 i27 k27 => ⟨rfl, ?_⟩⟩⟩
  have s27 : Same T26 T27 := mkS n27 k27
  have x27 : XAt Cs T27 (.ref a27) 27 x y := mkX0 x y rfl g27 i27
  refine ⟨(by show 4 ≤ sizeLine; decide), fun m4 q4 => ?_⟩
  have u4 := same_upd q4 (.lst [V.ref a24, V.ref a25, V.ref a26, V.ref a27])
  have w4 := upd_same (H := T27) (a := m4) (o := .lst [V.ref a24, V.ref a25, V.ref a26, V.ref a27])
  generalize (upd T27 m4 (.lst [V.ref a24, V.ref a25, V.ref a26, V.ref a27])) = U4 at u4 w4 ⊢
  refine ⟨l4, m4, [V.ref a0, V.ref a1, V.ref a2, V.ref a3, V.ref a4, V.ref a5, V.ref a6, V.ref a7, V.ref a8, V.ref a9, V.ref a10, V.ref a11, V.ref a12, V.ref a13, V.ref a14, V.ref a15, V.ref a16, V.ref a17, V.ref a18, V.ref a19, V.ref a20, V.ref a21, V.ref a22, V.ref a23], [V.ref a24, V.ref a25, V.ref a26, V.ref a27], rfl, rfl, ((((s24.trans s25).trans s26).trans s27).trans u4) _ _ c4, w4, (by show 28 ≤ sizeLine; decide), fun l5 p5 => ?_⟩
  have z5 := same_upd p5 (.lst [V.ref a0, V.ref a1, V.ref a2, V.ref a3, V.ref a4, V.ref a5, V.ref a6, V.ref a7, V.ref a8, V.ref a9, V.ref a10, V.ref a11, V.ref a12, V.ref a13, V.ref a14, V.ref a15, V.ref a16, V.ref a17, V.ref a18, V.ref a19, V.ref a20, V.ref a21, V.ref a22, V.ref a23, V.ref a24, V.ref a25, V.ref a26, V.ref a27])
  have c5 := upd_same (H := U4) (a := l5) (o := .lst [V.ref a0, V.ref a1, V.ref a2, V.ref a3, V.ref a4, V.ref a5, V.ref a6, V.ref a7, V.ref a8, V.ref a9, V.ref a10, V.ref a11, V.ref a12, V.ref a13, V.ref a14, V.ref a15, V.ref a16, V.ref a17, V.ref a18, V.ref a19, V.ref a20, V.ref a21, V.ref a22, V.ref a23, V.ref a24, V.ref a25, V.ref a26, V.ref a27])
  generalize hK5 : (upd U4 l5 (.lst [V.ref a0, V.ref a1, V.ref a2, V.ref a3, V.ref a4, V.ref a5, V.ref a6, V.ref a7, V.ref a8, V.ref a9, V.ref a10, V.ref a11, V.ref a12, V.ref a13, V.ref a14, V.ref a15, V.ref a16, V.ref a17, V.ref a18, V.ref a19, V.ref a20, V.ref a21, V.ref a22, V.ref a23, V.ref a24, V.ref a25, V.ref a26, V.ref a27])) = K5 at z5 c5
  replace hK5 : upd U4 l5 (.lst ([V.ref a0, V.ref a1, V.ref a2, V.ref a3, V.ref a4, V.ref a5, V.ref a6, V.ref a7, V.ref a8, V.ref a9, V.ref a10, V.ref a11, V.ref a12, V.ref a13, V.ref a14, V.ref a15, V.ref a16, V.ref a17, V.ref a18, V.ref a19, V.ref a20, V.ref a21, V.ref a22, V.ref a23] ++ [V.ref a24, V.ref a25, V.ref a26, V.ref a27])) = K5 := hK5
  rw [hK5]
  have v38 : Same U4 K5 := z5
  have v37 : Same T27 K5 := u4.trans v38
  have v36 : Same T26 K5 := s27.trans v37
  have v35 : Same T25 K5 := s26.trans v36
  have v34 : Same T24 K5 := s25.trans v35
  have v33 : Same K4 K5 := s24.trans v34
  have v32 : Same U3 K5 := z4.trans v33
  have v31 : Same T23 K5 := u3.trans v32
  have v30 : Same T22 K5 := s23.trans v31
  have v29 : Same T21 K5 := s22.trans v30
  have v28 : Same T20 K5 := s21.trans v29
  have v27 : Same T19 K5 := s20.trans v28
  have v26 : Same T18 K5 := s19.trans v27
  have v25 : Same K3 K5 := s18.trans v26
  have v24 : Same U2 K5 := z3.trans v25
  have v23 : Same T17 K5 := u2.trans v24
  have v22 : Same T16 K5 := s17.trans v23
  have v21 : Same T15 K5 := s16.trans v22
  have v20 : Same T14 K5 := s15.trans v21
  have v19 : Same T13 K5 := s14.trans v20
  have v18 : Same T12 K5 := s13.trans v19
  have v17 : Same K2 K5 := s12.trans v18
  have v16 : Same U1 K5 := z2.trans v17
  have v15 : Same T11 K5 := u1.trans v16
  have v14 : Same T10 K5 := s11.trans v15
  have v13 : Same T9 K5 := s10.trans v14
  have v12 : Same T8 K5 := s9.trans v13
  have v11 : Same T7 K5 := s8.trans v12
  have v10 : Same T6 K5 := s7.trans v11
  have v9 : Same K1 K5 := s6.trans v10
  have v8 : Same U0 K5 := z1.trans v9
  have v7 : Same T5 K5 := u0.trans v8
  have v6 : Same T4 K5 := s5.trans v7
  have v5 : Same T3 K5 := s4.trans v6
  have v4 : Same T2 K5 := s3.trans v5
  have v3 : Same T1 K5 := s2.trans v4
  have v2 : Same T0 K5 := s1.trans v3
  have v1 : Same K0 K5 := s0.trans v2
  have v0 : Same H K5 := z0.trans v1
  have hl5 : H l5 = none := ((((((((((((((((((((((((((((((((((((((z0.trans s0).trans s1).trans s2).trans s3).trans s4).trans s5).trans u0).trans z1).trans s6).trans s7).trans s8).trans s9).trans s10).trans s11).trans u1).trans z2).trans s12).trans s13).trans s14).trans s15).trans s16).trans s17).trans u2).trans z3).trans s18).trans s19).trans s20).trans s21).trans s22).trans s23).trans u3).trans z4).trans s24).trans s25).trans s26).trans s27).trans u4)).free p5
  refine ⟨.ref l5, rfl, q l5 _ K5 v0 hl5 c5 rfl fun j v hv => ?_⟩
  have hj : j < 28 := (List.getElem?_eq_some_iff.mp hv).1
  match j, hj, hv with
  | 0, _, hv => cases Option.some.inj hv; exact x0.same v2
  | 1, _, hv => cases Option.some.inj hv; exact x1.same v3
  | 2, _, hv => cases Option.some.inj hv; exact x2.same v4
  | 3, _, hv => cases Option.some.inj hv; exact x3.same v5
  | 4, _, hv => cases Option.some.inj hv; exact x4.same v6
  | 5, _, hv => cases Option.some.inj hv; exact x5.same v7
  | 6, _, hv => cases Option.some.inj hv; exact x6.same v10
  | 7, _, hv => cases Option.some.inj hv; exact x7.same v11
  | 8, _, hv => cases Option.some.inj hv; exact x8.same v12
  | 9, _, hv => cases Option.some.inj hv; exact x9.same v13
  | 10, _, hv => cases Option.some.inj hv; exact x10.same v14
  | 11, _, hv => cases Option.some.inj hv; exact x11.same v15
  | 12, _, hv => cases Option.some.inj hv; exact x12.same v18
  | 13, _, hv => cases Option.some.inj hv; exact x13.same v19
  | 14, _, hv => cases Option.some.inj hv; exact x14.same v20
  | 15, _, hv => cases Option.some.inj hv; exact x15.same v21
  | 16, _, hv => cases Option.some.inj hv; exact x16.same v22
  | 17, _, hv => cases Option.some.inj hv; exact x17.same v23
  | 18, _, hv => cases Option.some.inj hv; exact x18.same v26
  | 19, _, hv => cases Option.some.inj hv; exact x19.same v27
  | 20, _, hv => cases Option.some.inj hv; exact x20.same v28
  | 21, _, hv => cases Option.some.inj hv; exact x21.same v29
  | 22, _, hv => cases Option.some.inj hv; exact x22.same v30
  | 23, _, hv => cases Option.some.inj hv; exact x23.same v31
  | 24, _, hv => cases Option.some.inj hv; exact x24.same v34
  | 25, _, hv => cases Option.some.inj hv; exact x25.same v35
  | 26, _, hv => cases Option.some.inj hv; exact x26.same v36
  | 27, _, hv => cases Option.some.inj hv; exact x27.same v37
  | n + 28, h, _ => exact absurd h (by omega)
def spClasses (Cs : Nat → Addr) : Sp := fun vs H Q _ => ∃ (v : V) (j : Nat) (x y : V), vs = [v] ∧ j < 28 ∧ XAt Cs H v j x y ∧ ∀ (l : Addr) (H' : Hp), Same H H' → H l = none → H' l = some (.lst ((List.range 28).map fun i => V.bl (decide (i = j)))) → Q (.ref l) H'
theorem scClasses : FnScope ["_law_e", "_law_found"] ["_law_e"] (defScope sClasses) := ⟨rfl, rfl, rfl, by decide +kernel, rfl, by decide +kernel, by decide +kernel⟩
theorem ok_classes {f : Addr} {fd : FuncData} {Cs : Nat → Addr} {U M : Addr} (F : Fun K "_law_classes" "_law_classes" sClasses f fd) (FA : Fam K mg Cs U M) (misi : mg "isinstance" = none) : FnOk P w K mg base CX0 1 f fd ["_law_e"] (spClasses Cs) := by
  refine F.ok scClasses (fun vs H Q E h => ?_) (fun cdv A outer s H vs Q E hr h => ?_)
  · obtain ⟨v, j, x, y, rfl, _⟩ := h
    rfl
  obtain ⟨v, j, x, y, rfl, hj, ⟨a, d, fs, rfl, h1, h2, _⟩, q⟩ := h
  refine ⟨_, pss_cons (ps_set (i := 1) scClasses.nd rfl (Or.inl rfl) (pe_lst pa_nil))
    (pss_cons (ps_set (i := 1) scClasses.nd rfl (Or.inl rfl) (pe_op op_cat (pv 1) (pe_lst (pa_cons (pe_callB call_isX (by rfl) misi (by decide +kernel) (pa_cons (pv 0) (pa_cons (pe_glob (v := .ref (Cs 0)) (by rfl) (FA.mC 0 (by decide)) rfl) pa_nil))) (pa_cons (pe_callB call_isX (by rfl) misi (by decide +kernel) (pa_cons (pv 0) (pa_cons (pe_glob (v := .ref (Cs 1)) (by rfl) (FA.mC 1 (by decide)) rfl) pa_nil))) (pa_cons (pe_callB call_isX (by rfl) misi (by decide +kernel) (pa_cons (pv 0) (pa_cons (pe_glob (v := .ref (Cs 2)) (by rfl) (FA.mC 2 (by decide)) rfl) pa_nil))) (pa_cons (pe_callB call_isX (by rfl) misi (by decide +kernel) (pa_cons (pv 0) (pa_cons (pe_glob (v := .ref (Cs 3)) (by rfl) (FA.mC 3 (by decide)) rfl) pa_nil))) pa_nil)))))))
    (pss_cons (ps_set (i := 1) scClasses.nd rfl (Or.inl rfl) (pe_op op_cat (pv 1) (pe_lst (pa_cons (pe_callB call_isX (by rfl) misi (by decide +kernel) (pa_cons (pv 0) (pa_cons (pe_glob (v := .ref (Cs 4)) (by rfl) (FA.mC 4 (by decide)) rfl) pa_nil))) (pa_cons (pe_callB call_isX (by rfl) misi (by decide +kernel) (pa_cons (pv 0) (pa_cons (pe_glob (v := .ref (Cs 5)) (by rfl) (FA.mC 5 (by decide)) rfl) pa_nil))) (pa_cons (pe_callB call_isX (by rfl) misi (by decide +kernel) (pa_cons (pv 0) (pa_cons (pe_glob (v := .ref (Cs 6)) (by rfl) (FA.mC 6 (by decide)) rfl) pa_nil))) (pa_cons (pe_callB call_isX (by rfl) misi (by decide +kernel) (pa_cons (pv 0) (pa_cons (pe_glob (v := .ref (Cs 7)) (by rfl) (FA.mC 7 (by decide)) rfl) pa_nil))) pa_nil)))))))
    (pss_cons (ps_set (i := 1) scClasses.nd rfl (Or.inl rfl) (pe_op op_cat (pv 1) (pe_lst (pa_cons (pe_callB call_isX (by rfl) misi (by decide +kernel) (pa_cons (pv 0) (pa_cons (pe_glob (v := .ref (Cs 8)) (by rfl) (FA.mC 8 (by decide)) rfl) pa_nil))) (pa_cons (pe_callB call_isX (by rfl) misi (by decide +kernel) (pa_cons (pv 0) (pa_cons (pe_glob (v := .ref (Cs 9)) (by rfl) (FA.mC 9 (by decide)) rfl) pa_nil))) (pa_cons (pe_callB call_isX (by rfl) misi (by decide +kernel) (pa_cons (pv 0) (pa_cons (pe_glob (v := .ref (Cs 10)) (by rfl) (FA.mC 10 (by decide)) rfl) pa_nil))) (pa_cons (pe_callB call_isX (by rfl) misi (by decide +kernel) (pa_cons (pv 0) (pa_cons (pe_glob (v := .ref (Cs 11)) (by rfl) (FA.mC 11 (by decide)) rfl) pa_nil))) pa_nil)))))))
    (pss_cons (ps_set (i := 1) scClasses.nd rfl (Or.inl rfl) (pe_op op_cat (pv 1) (pe_lst (pa_cons (pe_callB call_isX (by rfl) misi (by decide +kernel) (pa_cons (pv 0) (pa_cons (pe_glob (v := .ref (Cs 12)) (by rfl) (FA.mC 12 (by decide)) rfl) pa_nil))) (pa_cons (pe_callB call_isX (by rfl) misi (by decide +kernel) (pa_cons (pv 0) (pa_cons (pe_glob (v := .ref (Cs 13)) (by rfl) (FA.mC 13 (by decide)) rfl) pa_nil))) (pa_cons (pe_callB call_isX (by rfl) misi (by decide +kernel) (pa_cons (pv 0) (pa_cons (pe_glob (v := .ref (Cs 14)) (by rfl) (FA.mC 14 (by decide)) rfl) pa_nil))) (pa_cons (pe_callB call_isX (by rfl) misi (by decide +kernel) (pa_cons (pv 0) (pa_cons (pe_glob (v := .ref (Cs 15)) (by rfl) (FA.mC 15 (by decide)) rfl) pa_nil))) pa_nil)))))))
    (pss_cons (ps_set (i := 1) scClasses.nd rfl (Or.inl rfl) (pe_op op_cat (pv 1) (pe_lst (pa_cons (pe_callB call_isX (by rfl) misi (by decide +kernel) (pa_cons (pv 0) (pa_cons (pe_glob (v := .ref (Cs 16)) (by rfl) (FA.mC 16 (by decide)) rfl) pa_nil))) (pa_cons (pe_callB call_isX (by rfl) misi (by decide +kernel) (pa_cons (pv 0) (pa_cons (pe_glob (v := .ref (Cs 17)) (by rfl) (FA.mC 17 (by decide)) rfl) pa_nil))) (pa_cons (pe_callB call_isX (by rfl) misi (by decide +kernel) (pa_cons (pv 0) (pa_cons (pe_glob (v := .ref (Cs 18)) (by rfl) (FA.mC 18 (by decide)) rfl) pa_nil))) (pa_cons (pe_callB call_isX (by rfl) misi (by decide +kernel) (pa_cons (pv 0) (pa_cons (pe_glob (v := .ref (Cs 19)) (by rfl) (FA.mC 19 (by decide)) rfl) pa_nil))) pa_nil)))))))
    (pss_cons (ps_set (i := 1) scClasses.nd rfl (Or.inl rfl) (pe_op op_cat (pv 1) (pe_lst (pa_cons (pe_callB call_isX (by rfl) misi (by decide +kernel) (pa_cons (pv 0) (pa_cons (pe_glob (v := .ref (Cs 20)) (by rfl) (FA.mC 20 (by decide)) rfl) pa_nil))) (pa_cons (pe_callB call_isX (by rfl) misi (by decide +kernel) (pa_cons (pv 0) (pa_cons (pe_glob (v := .ref (Cs 21)) (by rfl) (FA.mC 21 (by decide)) rfl) pa_nil))) (pa_cons (pe_callB call_isX (by rfl) misi (by decide +kernel) (pa_cons (pv 0) (pa_cons (pe_glob (v := .ref (Cs 22)) (by rfl) (FA.mC 22 (by decide)) rfl) pa_nil))) (pa_cons (pe_callB call_isX (by rfl) misi (by decide +kernel) (pa_cons (pv 0) (pa_cons (pe_glob (v := .ref (Cs 23)) (by rfl) (FA.mC 23 (by decide)) rfl) pa_nil))) pa_nil)))))))
    (pss_cons (ps_set (i := 1) scClasses.nd rfl (Or.inl rfl) (pe_op op_cat (pv 1) (pe_lst (pa_cons (pe_callB call_isX (by rfl) misi (by decide +kernel) (pa_cons (pv 0) (pa_cons (pe_glob (v := .ref (Cs 24)) (by rfl) (FA.mC 24 (by decide)) rfl) pa_nil))) (pa_cons (pe_callB call_isX (by rfl) misi (by decide +kernel) (pa_cons (pv 0) (pa_cons (pe_glob (v := .ref (Cs 25)) (by rfl) (FA.mC 25 (by decide)) rfl) pa_nil))) (pa_cons (pe_callB call_isX (by rfl) misi (by decide +kernel) (pa_cons (pv 0) (pa_cons (pe_glob (v := .ref (Cs 26)) (by rfl) (FA.mC 26 (by decide)) rfl) pa_nil))) (pa_cons (pe_callB call_isX (by rfl) misi (by decide +kernel) (pa_cons (pv 0) (pa_cons (pe_glob (v := .ref (Cs 27)) (by rfl) (FA.mC 27 (by decide)) rfl) pa_nil))) pa_nil)))))))
    (pss_one (ps_ret (pv 1)))))))))), ?_⟩
  refine ⟨Nat.zero_le _, fun l0 p0 => ?_⟩
  have z0 := same_upd p0 (.lst [])
  have c0 := upd_same (H := H) (a := l0) (o := .lst [])
  generalize (upd H l0 (.lst [])) = K0 at z0 c0 ⊢
  have v0 := z0

  refine ⟨_, rfl, _, rfl, a, Cs j, d, fs, _, _, _, rfl, .own _, v0 _ _ h1, v0 _ _ h2, FA.xi j hj, FA.kit 0 j (by decide) hj, ?_⟩
  refine ⟨_, rfl, a, Cs j, d, fs, _, _, _, rfl, .own _, v0 _ _ h1, v0 _ _ h2, FA.xi j hj, FA.kit 1 j (by decide) hj, ?_⟩
  refine ⟨_, rfl, a, Cs j, d, fs, _, _, _, rfl, .own _, v0 _ _ h1, v0 _ _ h2, FA.xi j hj, FA.kit 2 j (by decide) hj, ?_⟩
  refine ⟨_, rfl, a, Cs j, d, fs, _, _, _, rfl, .own _, v0 _ _ h1, v0 _ _ h2, FA.xi j hj, FA.kit 3 j (by decide) hj, ?_⟩
  refine ⟨(by show 4 ≤ sizeLine; decide), fun m0 q0 => ?_⟩
  have u0 := same_upd q0 (.lst [V.bl (decide (0 = j)), V.bl (decide (1 = j)), V.bl (decide (2 = j)), V.bl (decide (3 = j))])
  have w0 := upd_same (H := K0) (a := m0) (o := .lst [V.bl (decide (0 = j)), V.bl (decide (1 = j)), V.bl (decide (2 = j)), V.bl (decide (3 = j))])
  generalize (upd K0 m0 (.lst [V.bl (decide (0 = j)), V.bl (decide (1 = j)), V.bl (decide (2 = j)), V.bl (decide (3 = j))])) = U0 at u0 w0 ⊢
  refine ⟨l0, m0, [], [V.bl (decide (0 = j)), V.bl (decide (1 = j)), V.bl (decide (2 = j)), V.bl (decide (3 = j))], rfl, rfl, u0 _ _ c0, w0, (by show 4 ≤ sizeLine; decide), fun l1 p1 => ?_⟩
  have z1 := same_upd p1 (.lst [V.bl (decide (0 = j)), V.bl (decide (1 = j)), V.bl (decide (2 = j)), V.bl (decide (3 = j))])
  have c1 := upd_same (H := U0) (a := l1) (o := .lst [V.bl (decide (0 = j)), V.bl (decide (1 = j)), V.bl (decide (2 = j)), V.bl (decide (3 = j))])
  generalize hK1 : (upd U0 l1 (.lst [V.bl (decide (0 = j)), V.bl (decide (1 = j)), V.bl (decide (2 = j)), V.bl (decide (3 = j))])) = K1 at z1 c1
  replace hK1 : upd U0 l1 (.lst ([] ++ [V.bl (decide (0 = j)), V.bl (decide (1 = j)), V.bl (decide (2 = j)), V.bl (decide (3 = j))])) = K1 := hK1
  rw [hK1]
  have y0 := v0.trans u0
  have v1 := y0.trans z1
  refine ⟨_, rfl, _, rfl, a, Cs j, d, fs, _, _, _, rfl, .own _, v1 _ _ h1, v1 _ _ h2, FA.xi j hj, FA.kit 4 j (by decide) hj, ?_⟩
  refine ⟨_, rfl, a, Cs j, d, fs, _, _, _, rfl, .own _, v1 _ _ h1, v1 _ _ h2, FA.xi j hj, FA.kit 5 j (by decide) hj, ?_⟩
  refine ⟨_, rfl, a, Cs j, d, fs, _, _, _, rfl, .own _, v1 _ _ h1, v1 _ _ h2, FA.xi j hj, FA.kit 6 j (by decide) hj, ?_⟩
  refine ⟨_, rfl, a, Cs j, d, fs, _, _, _, rfl, .own _, v1 _ _ h1, v1 _ _ h2, FA.xi j hj, FA.kit 7 j (by decide) hj, ?_⟩
  refine ⟨(by show 4 ≤ sizeLine; decide), fun m1 q1 => ?_⟩
  have u1 := same_upd q1 (.lst [V.bl (decide (4 = j)), V.bl (decide (5 = j)), V.bl (decide (6 = j)), V.bl (decide (7 = j))])
  have w1 := upd_same (H := K1) (a := m1) (o := .lst [V.bl (decide (4 = j)), V.bl (decide (5 = j)), V.bl (decide (6 = j)), V.bl (decide (7 = j))])
  generalize (upd K1 m1 (.lst [V.bl (decide (4 = j)), V.bl (decide (5 = j)), V.bl (decide (6 = j)), V.bl (decide (7 = j))])) = U1 at u1 w1 ⊢
  refine ⟨l1, m1, [V.bl (decide (0 = j)), V.bl (decide (1 = j)), V.bl (decide (2 = j)), V.bl (decide (3 = j))], [V.bl (decide (4 = j)), V.bl (decide (5 = j)), V.bl (decide (6 = j)), V.bl (decide (7 = j))], rfl, rfl, u1 _ _ c1, w1, (by show 8 ≤ sizeLine; decide), fun l2 p2 => ?_⟩
  have z2 := same_upd p2 (.lst [V.bl (decide (0 = j)), V.bl (decide (1 = j)), V.bl (decide (2 = j)), V.bl (decide (3 = j)), V.bl (decide (4 = j)), V.bl (decide (5 = j)), V.bl (decide (6 = j)), V.bl (decide (7 = j))])
  have c2 := upd_same (H := U1) (a := l2) (o := .lst [V.bl (decide (0 = j)), V.bl (decide (1 = j)), V.bl (decide (2 = j)), V.bl (decide (3 = j)), V.bl (decide (4 = j)), V.bl (decide (5 = j)), V.bl (decide (6 = j)), V.bl (decide (7 = j))])
  generalize hK2 : (upd U1 l2 (.lst [V.bl (decide (0 = j)), V.bl (decide (1 = j)), V.bl (decide (2 = j)), V.bl (decide (3 = j)), V.bl (decide (4 = j)), V.bl (decide (5 = j)), V.bl (decide (6 = j)), V.bl (decide (7 = j))])) = K2 at z2 c2
  replace hK2 : upd U1 l2 (.lst ([V.bl (decide (0 = j)), V.bl (decide (1 = j)), V.bl (decide (2 = j)), V.bl (decide (3 = j))] ++ [V.bl (decide (4 = j)), V.bl (decide (5 = j)), V.bl (decide (6 = j)), V.bl (decide (7 = j))])) = K2 := hK2
  rw [hK2]
  have y1 := v1.trans u1
  have v2 := y1.trans z2
  refine ⟨_, rfl, _, rfl, a, Cs j, d, fs, _, _, _, rfl, .own _, v2 _ _ h1, v2 _ _ h2, FA.xi j hj, FA.kit 8 j (by decide) hj, ?_⟩
  refine ⟨_, rfl, a, Cs j, d, fs, _, _, _, rfl, .own _, v2 _ _ h1, v2 _ _ h2, FA.xi j hj, FA.kit 9 j (by decide) hj, ?_⟩
  refine ⟨_, rfl, a, Cs j, d, fs, _, _, _, rfl, .own _, v2 _ _ h1, v2 _ _ h2, FA.xi j hj, FA.kit 10 j (by decide) hj, ?_⟩
  refine ⟨_, rfl, a, Cs j, d, fs, _, _, _, rfl, .own _, v2 _ _ h1, v2 _ _ h2, FA.xi j hj, FA.kit 11 j (by decide) hj, ?_⟩
  refine ⟨(by show 4 ≤ sizeLine; decide), fun m2 q2 => ?_⟩
  have u2 := same_upd q2 (.lst [V.bl (decide (8 = j)), V.bl (decide (9 = j)), V.bl (decide (10 = j)), V.bl (decide (11 = j))])
  have w2 := upd_same (H := K2) (a := m2) (o := .lst [V.bl (decide (8 = j)), V.bl (decide (9 = j)), V.bl (decide (10 = j)), V.bl (decide (11 = j))])
  generalize (upd K2 m2 (.lst [V.bl (decide (8 = j)), V.bl (decide (9 = j)), V.bl (decide (10 = j)), V.bl (decide (11 = j))])) = U2 at u2 w2 ⊢
  refine ⟨l2, m2, [V.bl (decide (0 = j)), V.bl (decide (1 = j)), V.bl (decide (2 = j)), V.bl (decide (3 = j)), V.bl (decide (4 = j)), V.bl (decide (5 = j)), V.bl (decide (6 = j)), V.bl (decide (7 = j))], [V.bl (decide (8 = j)), V.bl (decide (9 = j)), V.bl (decide (10 = j)), V.bl (decide (11 = j))], rfl, rfl, u2 _ _ c2, w2, (by show 12 ≤ sizeLine; decide), fun l3 p3 => ?_⟩
  have z3 := same_upd p3 (.lst [V.bl (decide (0 = j)), V.bl (decide (1 = j)), V.bl (decide (2 = j)), V.bl (decide (3 = j)), V.bl (decide (4 = j)), V.bl (decide (5 = j)), V.bl (decide (6 = j)), V.bl (decide (7 = j)), V.bl (decide (8 = j)), V.bl (decide (9 = j)), V.bl (decide (10 = j)), V.bl (decide (11 = j))])
  have c3 := upd_same (H := U2) (a := l3) (o := .lst [V.bl (decide (0 = j)), V.bl (decide (1 = j)), V.bl (decide (2 = j)), V.bl (decide (3 = j)), V.bl (decide (4 = j)), V.bl (decide (5 = j)), V.bl (decide (6 = j)), V.bl (decide (7 = j)), V.bl (decide (8 = j)), V.bl (decide (9 = j)), V.bl (decide (10 = j)), V.bl (decide (11 = j))])
  generalize hK3 : (upd U2 l3 (.lst [V.bl (decide (0 = j)), V.bl (decide (1 = j)), V.bl (decide (2 = j)), V.bl (decide (3 = j)), V.bl (decide (4 = j)), V.bl (decide (5 = j)), V.bl (decide (6 = j)), V.bl (decide (7 = j)), V.bl (decide (8 = j)), V.bl (decide (9 = j)), V.bl (decide (10 = j)), V.bl (decide (11 = j))])) = K3 at z3 c3
  replace hK3 : upd U2 l3 (.lst ([V.bl (decide (0 = j)), V.bl (decide (1 = j)), V.bl (decide (2 = j)), V.bl (decide (3 = j)), V.bl (decide (4 = j)), V.bl (decide (5 = j)), V.bl (decide (6 = j)), V.bl (decide (7 = j))] ++ [V.bl (decide (8 = j)), V.bl (decide (9 = j)), V.bl (decide (10 = j)), V.bl (decide (11 = j))])) = K3 := hK3
  rw [hK3]
  have y2 := v2.trans u2
  have v3 := y2.trans z3
  refine ⟨_, rfl, _, rfl, a, Cs j, d, fs, _, _, _, rfl, .own _, v3 _ _ h1, v3 _ _ h2, FA.xi j hj, FA.kit 12 j (by decide) hj, ?_⟩
  refine ⟨_, rfl, a, Cs j, d, fs, _, _, _, rfl, .own _, v3 _ _ h1, v3 _ _ h2, FA.xi j hj, FA.kit 13 j (by decide) hj, ?_⟩
  refine ⟨_, rfl, a, Cs j, d, fs, _, _, _, rfl, .own _, v3 _ _ h1, v3 _ _ h2, FA.xi j hj, FA.kit 14 j (by decide) hj, ?_⟩
  refine ⟨_, rfl, a, Cs j, d, fs, _, _, _, rfl, .own _, v3 _ _ h1, v3 _ _ h2, FA.xi j hj, FA.kit 15 j (by decide) hj, ?_⟩
  refine ⟨(by show 4 ≤ sizeLine; decide), fun m3 q3 => ?_⟩
  have u3 := same_upd q3 (.lst [V.bl (decide (12 = j)), V.bl (decide (13 = j)), V.bl (decide (14 = j)), V.bl (decide (15 = j))])
  have w3 := upd_same (H := K3) (a := m3) (o := .lst [V.bl (decide (12 = j)), V.bl (decide (13 = j)), V.bl (decide (14 = j)), V.bl (decide (15 = j))])
  generalize (upd K3 m3 (.lst [V.bl (decide (12 = j)), V.bl (decide (13 = j)), V.bl (decide (14 = j)), V.bl (decide (15 = j))])) = U3 at u3 w3 ⊢
  refine ⟨l3, m3, [V.bl (decide (0 = j)), V.bl (decide (1 = j)), V.bl (decide (2 = j)), V.bl (decide (3 = j)), V.bl (decide (4 = j)), V.bl (decide (5 = j)), V.bl (decide (6 = j)), V.bl (decide (7 = j)), V.bl (decide (8 = j)), V.bl (decide (9 = j)), V.bl (decide (10 = j)), V.bl (decide (11 = j))], [V.bl (decide (12 = j)), V.bl (decide (13 = j)), V.bl (decide (14 = j)), V.bl (decide (15 = j))], rfl, rfl, u3 _ _ c3, w3, (by show 16 ≤ sizeLine; decide), fun l4 p4 => ?_⟩
  have z4 := same_upd p4 (.lst [V.bl (decide (0 = j)), V.bl (decide (1 = j)), V.bl (decide (2 = j)), V.bl (decide (3 = j)), V.bl (decide (4 = j)), V.bl (decide (5 = j)), V.bl (decide (6 = j)), V.bl (decide (7 = j)), V.bl (decide (8 = j)), V.bl (decide (9 = j)), V.bl (decide (10 = j)), V.bl (decide (11 = j)), V.bl (decide (12 = j)), V.bl (decide (13 = j)), V.bl (decide (14 = j)), V.bl (decide (15 = j))])
  have c4 := upd_same (H := U3) (a := l4) (o := .lst [V.bl (decide (0 = j)), V.bl (decide (1 = j)), V.bl (decide (2 = j)), V.bl (decide (3 = j)), V.bl (decide (4 = j)), V.bl (decide (5 = j)), V.bl (decide (6 = j)), V.bl (decide (7 = j)), V.bl (decide (8 = j)), V.bl (decide (9 = j)), V.bl (decide (10 = j)), V.bl (decide (11 = j)), V.bl (decide (12 = j)), V.bl (decide (13 = j)), V.bl (decide (14 = j)), V.bl (decide (15 = j))])
  generalize hK4 : (upd U3 l4 (.lst [V.bl (decide (0 = j)), V.bl (decide (1 = j)), V.bl (decide (2 = j)), V.bl (decide (3 = j)), V.bl (decide (4 = j)), V.bl (decide (5 = j)), V.bl (decide (6 = j)), V.bl (decide (7 = j)), V.bl (decide (8 = j)), V.bl (decide (9 = j)), V.bl (decide (10 = j)), V.bl (decide (11 = j)), V.bl (decide (12 = j)), V.bl (decide (13 = j)), V.bl (decide (14 = j)), V.bl (decide (15 = j))])) = K4 at z4 c4
  replace hK4 : upd U3 l4 (.lst ([V.bl (decide (0 = j)), V.bl (decide (1 = j)), V.bl (decide (2 = j)), V.bl (decide (3 = j)), V.bl (decide (4 = j)), V.bl (decide (5 = j)), V.bl (decide (6 = j)), V.bl (decide (7 = j)), V.bl (decide (8 = j)), V.bl (decide (9 = j)), V.bl (decide (10 = j)), V.bl (decide (11 = j))] ++ [V.bl (decide (12 = j)), V.bl (decide (13 = j)), V.bl (decide (14 = j)), V.bl (decide (15 = j))])) = K4 := hK4
  rw [hK4]
  have y3 := v3.trans u3
  have v4 := y3.trans z4
  refine ⟨_, rfl, _, rfl, a, Cs j, d, fs, _, _, _, rfl, .own _, v4 _ _ h1, v4 _ _ h2, FA.xi j hj, FA.kit 16 j (by decide) hj, ?_⟩
  refine ⟨_, rfl, a, Cs j, d, fs, _, _, _, rfl, .own _, v4 _ _ h1, v4 _ _ h2, FA.xi j hj, FA.kit 17 j (by decide) hj, ?_⟩
  refine ⟨_, rfl, a, Cs j, d, fs, _, _, _, rfl, .own _, v4 _ _ h1, v4 _ _ h2, FA.xi j hj, FA.kit 18 j (by decide) hj, ?_⟩
  refine ⟨_, rfl, a, Cs j, d, fs, _, _, _, rfl, .own _, v4 _ _ h1, v4 _ _ h2, FA.xi j hj, FA.kit 19 j (by decide) hj, ?_⟩
  refine ⟨(by show 4 ≤ sizeLine; decide), fun m4 q4 => ?_⟩
  have u4 := same_upd q4 (.lst [V.bl (decide (16 = j)), V.bl (decide (17 = j)), V.bl (decide (18 = j)), V.bl (decide (19 = j))])
  have w4 := upd_same (H := K4) (a := m4) (o := .lst [V.bl (decide (16 = j)), V.bl (decide (17 = j)), V.bl (decide (18 = j)), V.bl (decide (19 = j))])
  generalize (upd K4 m4 (.lst [V.bl (decide (16 = j)), V.bl (decide (17 = j)), V.bl (decide (18 = j)), V.bl (decide (19 = j))])) = U4 at u4 w4 ⊢
  refine ⟨l4, m4, [V.bl (decide (0 = j)), V.bl (decide (1 = j)), V.bl (decide (2 = j)), V.bl (decide (3 = j)), V.bl (decide (4 = j)), V.bl (decide (5 = j)), V.bl (decide (6 = j)), V.bl (decide (7 = j)), V.bl (decide (8 = j)), V.bl (decide (9 = j)), V.bl (decide (10 = j)), V.bl (decide (11 = j)), V.bl (decide (12 = j)), V.bl (decide (13 = j)), V.bl (decide (14 = j)), V.bl (decide (15 = j))], [V.bl (decide (16 = j)), V.bl (decide (17 = j)), V.bl (decide (18 = j)), V.bl (decide (19 = j))], rfl, rfl, u4 _ _ c4, w4, (by show 20 ≤ sizeLine; decide), fun l5 p5 => ?_⟩
  have z5 := same_upd p5 (.lst [V.bl (decide (0 = j)), V.bl (decide (1 = j)), V.bl (decide (2 = j)), V.bl (decide (3 = j)), V.bl (decide (4 = j)), V.bl (decide (5 = j)), V.bl (decide (6 = j)), V.bl (decide (7 = j)), V.bl (decide (8 = j)), V.bl (decide (9 = j)), V.bl (decide (10 = j)), V.bl (decide (11 = j)), V.bl (decide (12 = j)), V.bl (decide (13 = j)), V.bl (decide (14 = j)), V.bl (decide (15 = j)), V.bl (decide (16 = j)), V.bl (decide (17 = j)), V.bl (decide (18 = j)), V.bl (decide (19 = j))])
  have c5 := upd_same (H := U4) (a := l5) (o := .lst [V.bl (decide (0 = j)), V.bl (decide (1 = j)), V.bl (decide (2 = j)), V.bl (decide (3 = j)), V.bl (decide (4 = j)), V.bl (decide (5 = j)), V.bl (decide (6 = j)), V.bl (decide (7 = j)), V.bl (decide (8 = j)), V.bl (decide (9 = j)), V.bl (decide (10 = j)), V.bl (decide (11 = j)), V.bl (decide (12 = j)), V.bl (decide (13 = j)), V.bl (decide (14 = j)), V.bl (decide (15 = j)), V.bl (decide (16 = j)), V.bl (decide (17 = j)), V.bl (decide (18 = j)), V.bl (decide (19 = j))])
  generalize hK5 : (upd U4 l5 (.lst [V.bl (decide (0 = j)), V.bl (decide (1 = j)), V.bl (decide (2 = j)), V.bl (decide (3 = j)), V.bl (decide (4 = j)), V.bl (decide (5 = j)), V.bl (decide (6 = j)), V.bl (decide (7 = j)), V.bl (decide (8 = j)), V.bl (decide (9 = j)), V.bl (decide (10 = j)), V.bl (decide (11 = j)), V.bl (decide (12 = j)), V.bl (decide (13 = j)), V.bl (decide (14 = j)), V.bl (decide (15 = j)), V.bl (decide (16 = j)), V.bl (decide (17 = j)), V.bl (decide (18 = j)), V.bl (decide (19 = j))])) = K5 at z5 c5
  replace hK5 : upd U4 l5 (.lst ([V.bl (decide (0 = j)), V.bl (decide (1 = j)), V.bl (decide (2 = j)), V.bl (decide (3 = j)), V.bl (decide (4 = j)), V.bl (decide (5 = j)), V.bl (decide (6 = j)), V.bl (decide (7 = j)), V.bl (decide (8 = j)), V.bl (decide (9 = j)), V.bl (decide (10 = j)), V.bl (decide (11 = j)), V.bl (decide (12 = j)), V.bl (decide (13 = j)), V.bl (decide (14 = j)), V.bl (decide (15 = j))] ++ [V.bl (decide (16 = j)), V.bl (decide (17 = j)), V.bl (decide (18 = j)), V.bl (decide (19 = j))])) = K5 := hK5
  rw [hK5]
  have y4 := v4.trans u4
  have v5 := y4.trans z5
  refine ⟨_, rfl, _, rfl, a, Cs j, d, fs, _, _, _, rfl, .own _, v5 _ _ h1, v5 _ _ h2, FA.xi j hj, FA.kit 20 j (by decide) hj, ?_⟩
  refine ⟨_, rfl, a, Cs j, d, fs, _, _, _, rfl, .own _, v5 _ _ h1, v5 _ _ h2, FA.xi j hj, FA.kit 21 j (by decide) hj, ?_⟩
  refine ⟨_, rfl, a, Cs j, d, fs, _, _, _, rfl, .own _, v5 _ _ h1, v5 _ _ h2, FA.xi j hj, FA.kit 22 j (by decide) hj, ?_⟩
  refine ⟨_, rfl, a, Cs j, d, fs, _, _, _, rfl, .own _, v5 _ _ h1, v5 _ _ h2, FA.xi j hj, FA.kit 23 j (by decide) hj, ?_⟩
  refine ⟨(by show 4 ≤ sizeLine; decide), fun m5 q5 => ?_⟩
  have u5 := same_upd q5 (.lst [V.bl (decide (20 = j)), V.bl (decide (21 = j)), V.bl (decide (22 = j)), V.bl (decide (23 = j))])
  have w5 := upd_same (H := K5) (a := m5) (o := .lst [V.bl (decide (20 = j)), V.bl (decide (21 = j)), V.bl (decide (22 = j)), V.bl (decide (23 = j))])
  generalize (upd K5 m5 (.lst [V.bl (decide (20 = j)), V.bl (decide (21 = j)), V.bl (decide (22 = j)), V.bl (decide (23 = j))])) = U5 at u5 w5 ⊢
  refine ⟨l5, m5, [V.bl (decide (0 = j)), V.bl (decide (1 = j)), V.bl (decide (2 = j)), V.bl (decide (3 = j)), V.bl (decide (4 = j)), V.bl (decide (5 = j)), V.bl (decide (6 = j)), V.bl (decide (7 = j)), V.bl (decide (8 = j)), V.bl (decide (9 = j)), V.bl (decide (10 = j)), V.bl (decide (11 = j)), V.bl (decide (12 = j)), V.bl (decide (13 = j)), V.bl (decide (14 = j)), V.bl (decide (15 = j)), V.bl (decide (16 = j)), V.bl (decide (17 = j)), V.bl (decide (18 = j)), V.bl (decide (19 = j))], [V.bl (decide (20 = j)), V.bl (decide (21 = j)), V.bl (decide (22 = j)), V.bl (decide (23 = j))], rfl, rfl, u5 _ _ c5, w5, (by show 24 ≤ sizeLine; decide), fun l6 p6 => ?_⟩
  have z6 := same_upd p6 (.lst [V.bl (decide (0 = j)), V.bl (decide (1 = j)), V.bl (decide (2 = j)), V.bl (decide (3 = j)), V.bl (decide (4 = j)), V.bl (decide (5 = j)), V.bl (decide (6 = j)), V.bl (decide (7 = j)), V.bl (decide (8 = j)), V.bl (decide (9 = j)), V.bl (decide (10 = j)), V.bl (decide (11 = j)), V.bl (decide (12 = j)), V.bl (decide (13 = j)), V.bl (decide (14 = j)), V.bl (decide (15 = j)), V.bl (decide (16 = j)), V.bl (decide (17 = j)), V.bl (decide (18 = j)), V.bl (decide (19 = j)), V.bl (decide (20 = j)), V.bl (decide (21 = j)), V.bl (decide (22 = j)), V.bl (decide (23 = j))])
  have c6 := upd_same (H := U5) (a := l6) (o := .lst [V.bl (decide (0 = j)), V.bl (decide (1 = j)), V.bl (decide (2 = j)), V.bl (decide (3 = j)), V.bl (decide (4 = j)), V.bl (decide (5 = j)), V.bl (decide (6 = j)), V.bl (decide (7 = j)), V.bl (decide (8 = j)), V.bl (decide (9 = j)), V.bl (decide (10 = j)), V.bl (decide (11 = j)), V.bl (decide (12 = j)), V.bl (decide (13 = j)), V.bl (decide (14 = j)), V.bl (decide (15 = j)), V.bl (decide (16 = j)), V.bl (decide (17 = j)), V.bl (decide (18 = j)), V.bl (decide (19 = j)), V.bl (decide (20 = j)), V.bl (decide (21 = j)), V.bl (decide (22 = j)), V.bl (decide (23 = j))])
  generalize hK6 : (upd U5 l6 (.lst [V.bl (decide (0 = j)), V.bl (decide (1 = j)), V.bl (decide (2 = j)), V.bl (decide (3 = j)), V.bl (decide (4 = j)), V.bl (decide (5 = j)), V.bl (decide (6 = j)), V.bl (decide (7 = j)), V.bl (decide (8 = j)), V.bl (decide (9 = j)), V.bl (decide (10 = j)), V.bl (decide (11 = j)), V.bl (decide (12 = j)), V.bl (decide (13 = j)), V.bl (decide (14 = j)), V.bl (decide (15 = j)), V.bl (decide (16 = j)), V.bl (decide (17 = j)), V.bl (decide (18 = j)), V.bl (decide (19 = j)), V.bl (decide (20 = j)), V.bl (decide (21 = j)), V.bl (decide (22 = j)), V.bl (decide (23 = j))])) = K6 at z6 c6
  replace hK6 : upd U5 l6 (.lst ([V.bl (decide (0 = j)), V.bl (decide (1 = j)), V.bl (decide (2 = j)), V.bl (decide (3 = j)), V.bl (decide (4 = j)), V.bl (decide (5 = j)), V.bl (decide (6 = j)), V.bl (decide (7 = j)), V.bl (decide (8 = j)), V.bl (decide (9 = j)), V.bl (decide (10 = j)), V.bl (decide (11 = j)), V.bl (decide (12 = j)), V.bl (decide (13 = j)), V.bl (decide (14 = j)), V.bl (decide (15 = j)), V.bl (decide (16 = j)), V.bl (decide (17 = j)), V.bl (decide (18 = j)), V.bl (decide (19 = j))] ++ [V.bl (decide (20 = j)), V.bl (decide (21 = j)), V.bl (decide (22 = j)), V.bl (decide (23 = j))])) = K6 := hK6
  rw [hK6]
  have y5 := v5.trans u5
  have v6 := y5.trans z6
  refine ⟨_, rfl, _, rfl, a, Cs j, d, fs, _, _, _, rfl, .own _, v6 _ _ h1, v6 _ _ h2, FA.xi j hj, FA.kit 24 j (by decide) hj, ?_⟩
  refine ⟨_, rfl, a, Cs j, d, fs, _, _, _, rfl, .own _, v6 _ _ h1, v6 _ _ h2, FA.xi j hj, FA.kit 25 j (by decide) hj, ?_⟩
  refine ⟨_, rfl, a, Cs j, d, fs, _, _, _, rfl, .own _, v6 _ _ h1, v6 _ _ h2, FA.xi j hj, FA.kit 26 j (by decide) hj, ?_⟩
  refine ⟨_, rfl, a, Cs j, d, fs, _, _, _, rfl, .own _, v6 _ _ h1, v6 _ _ h2, FA.xi j hj, FA.kit 27 j (by decide) hj, ?_⟩
  refine ⟨(by show 4 ≤ sizeLine; decide), fun m6 q6 => ?_⟩
  have u6 := same_upd q6 (.lst [V.bl (decide (24 = j)), V.bl (decide (25 = j)), V.bl (decide (26 = j)), V.bl (decide (27 = j))])
  have w6 := upd_same (H := K6) (a := m6) (o := .lst [V.bl (decide (24 = j)), V.bl (decide (25 = j)), V.bl (decide (26 = j)), V.bl (decide (27 = j))])
  generalize (upd K6 m6 (.lst [V.bl (decide (24 = j)), V.bl (decide (25 = j)), V.bl (decide (26 = j)), V.bl (decide (27 = j))])) = U6 at u6 w6 ⊢
  refine ⟨l6, m6, [V.bl (decide (0 = j)), V.bl (decide (1 = j)), V.bl (decide (2 = j)), V.bl (decide (3 = j)), V.bl (decide (4 = j)), V.bl (decide (5 = j)), V.bl (decide (6 = j)), V.bl (decide (7 = j)), V.bl (decide (8 = j)), V.bl (decide (9 = j)), V.bl (decide (10 = j)), V.bl (decide (11 = j)), V.bl (decide (12 = j)), V.bl (decide (13 = j)), V.bl (decide (14 = j)), V.bl (decide (15 = j)), V.bl (decide (16 = j)), V.bl (decide (17 = j)), V.bl (decide (18 = j)), V.bl (decide (19 = j)), V.bl (decide (20 = j)), V.bl (decide (21 = j)), V.bl (decide (22 = j)), V.bl (decide (23 = j))], [V.bl (decide (24 = j)), V.bl (decide (25 = j)), V.bl (decide (26 = j)), V.bl (decide (27 = j))], rfl, rfl, u6 _ _ c6, w6, (by show 28 ≤ sizeLine; decide), fun l7 p7 => ?_⟩
  have z7 := same_upd p7 (.lst [V.bl (decide (0 = j)), V.bl (decide (1 = j)), V.bl (decide (2 = j)), V.bl (decide (3 = j)), V.bl (decide (4 = j)), V.bl (decide (5 = j)), V.bl (decide (6 = j)), V.bl (decide (7 = j)), V.bl (decide (8 = j)), V.bl (decide (9 = j)), V.bl (decide (10 = j)), V.bl (decide (11 = j)), V.bl (decide (12 = j)), V.bl (decide (13 = j)), V.bl (decide (14 = j)), V.bl (decide (15 = j)), V.bl (decide (16 = j)), V.bl (decide (17 = j)), V.bl (decide (18 = j)), V.bl (decide (19 = j)), V.bl (decide (20 = j)), V.bl (decide (21 = j)), V.bl (decide (22 = j)), V.bl (decide (23 = j)), V.bl (decide (24 = j)), V.bl (decide (25 = j)), V.bl (decide (26 = j)), V.bl (decide (27 = j))])
  have c7 := upd_same (H := U6) (a := l7) (o := .lst [V.bl (decide (0 = j)), V.bl (decide (1 = j)), V.bl (decide (2 = j)), V.bl (decide (3 = j)), V.bl (decide (4 = j)), V.bl (decide (5 = j)), V.bl (decide (6 = j)), V.bl (decide (7 = j)), V.bl (decide (8 = j)), V.bl (decide (9 = j)), V.bl (decide (10 = j)), V.bl (decide (11 = j)), V.bl (decide (12 = j)), V.bl (decide (13 = j)), V.bl (decide (14 = j)), V.bl (decide (15 = j)), V.bl (decide (16 = j)), V.bl (decide (17 = j)), V.bl (decide (18 = j)), V.bl (decide (19 = j)), V.bl (decide (20 = j)), V.bl (decide (21 = j)), V.bl (decide (22 = j)), V.bl (decide (23 = j)), V.bl (decide (24 = j)), V.bl (decide (25 = j)), V.bl (decide (26 = j)), V.bl (decide (27 = j))])
  generalize hK7 : (upd U6 l7 (.lst [V.bl (decide (0 = j)), V.bl (decide (1 = j)), V.bl (decide (2 = j)), V.bl (decide (3 = j)), V.bl (decide (4 = j)), V.bl (decide (5 = j)), V.bl (decide (6 = j)), V.bl (decide (7 = j)), V.bl (decide (8 = j)), V.bl (decide (9 = j)), V.bl (decide (10 = j)), V.bl (decide (11 = j)), V.bl (decide (12 = j)), V.bl (decide (13 = j)), V.bl (decide (14 = j)), V.bl (decide (15 = j)), V.bl (decide (16 = j)), V.bl (decide (17 = j)), V.bl (decide (18 = j)), V.bl (decide (19 = j)), V.bl (decide (20 = j)), V.bl (decide (21 = j)), V.bl (decide (22 = j)), V.bl (decide (23 = j)), V.bl (decide (24 = j)), V.bl (decide (25 = j)), V.bl (decide (26 = j)), V.bl (decide (27 = j))])) = K7 at z7 c7
  replace hK7 : upd U6 l7 (.lst ([V.bl (decide (0 = j)), V.bl (decide (1 = j)), V.bl (decide (2 = j)), V.bl (decide (3 = j)), V.bl (decide (4 = j)), V.bl (decide (5 = j)), V.bl (decide (6 = j)), V.bl (decide (7 = j)), V.bl (decide (8 = j)), V.bl (decide (9 = j)), V.bl (decide (10 = j)), V.bl (decide (11 = j)), V.bl (decide (12 = j)), V.bl (decide (13 = j)), V.bl (decide (14 = j)), V.bl (decide (15 = j)), V.bl (decide (16 = j)), V.bl (decide (17 = j)), V.bl (decide (18 = j)), V.bl (decide (19 = j)), V.bl (decide (20 = j)), V.bl (decide (21 = j)), V.bl (decide (22 = j)), V.bl (decide (23 = j))] ++ [V.bl (decide (24 = j)), V.bl (decide (25 = j)), V.bl (decide (26 = j)), V.bl (decide (27 = j))])) = K7 := hK7
  rw [hK7]
  have y6 := v6.trans u6
  have v7 := y6.trans z7
  exact ⟨.ref l7, rfl, q l7 K7 v7 (y6.free p7) c7⟩
abbrev sNamed : Stmt := top 41
abbrev js23 : List Nat := [0, 1, 4, 5, 6, 7, 8, 10, 11, 12, 13, 14, 15, 16, 17, 18, 20, 21, 23, 25, 26, 22, 24]
theorem eqv_due {H : Hp} {t t' : Addr} {l : List V} {x y : V} (h1 : H t = some (.tup l)) (h2 : H t' = some (.tup l)) (hl : l = [] ∨ l = [x] ∨ l = [x, y]) (ex : Eqv H 1 x x) (ey : Eqv H 1 y y) : Eqv H 2 (.ref t) (.ref t') := by
  have mem : ∀ u ∈ l, u = x ∨ u = y := fun u hu => by
    rcases hl with e | e | e
    · rw [e] at hu; cases hu
    · rw [e] at hu; exact .inl (List.mem_singleton.mp hu)
    · rw [e] at hu
      rcases List.mem_cons.mp hu with z | z
      · exact .inl z
      · exact .inr (List.mem_singleton.mp z)
  have len : l.length ≤ 2 := by rcases hl with e | e | e <;> (rw [e]; simp)
  refine .inr ⟨t, t', l, l, rfl, rfl, rfl, by omega, .inr ⟨h1, h2⟩, fun i u v hu hv => ?_⟩
  rw [hu] at hv
  cases Option.some.inj hv
  rcases mem u (List.mem_of_getElem? hu) with e | e
  · rw [e]; exact ex
  · rw [e]; exact ey
theorem due_forms (j : Nat) (x y : V) : dueOf j x y = [] ∨ dueOf j x y = [x] ∨ dueOf j x y = [x, y] := by
  unfold dueOf
  split
  · exact .inl rfl
  · exact .inr (.inl rfl)
  · exact .inr (.inr rfl)
theorem due_len1 {j : Nat} {x y : V} (h : (attrsOf j).length = 1) : dueOf j x y = [x] := by unfold dueOf; rw [h]; rfl
theorem due_len2 {j : Nat} {x y : V} (h : (attrsOf j).length = 2) : dueOf j x y = [x, y] := by unfold dueOf; rw [h]; rfl
theorem due_len0 {j : Nat} {x y : V} (h : (attrsOf j).length = 0) : dueOf j x y = [] := by unfold dueOf; rw [h]; rfl
def spNamed : Sp := fun vs H Q _ => ∃ x y, vs = [x, y] ∧ Eqv H 1 x x ∧ Eqv H 1 y y ∧ ∀ H', Same H H' → Q (.bl true) H'
abbrev namedN : List Str := ["_law_a", "_law_b", "_law_found", "_law_pair", "_law_e"]
theorem scNamed : FnScope namedN ["_law_a", "_law_b"] (defScope sNamed) := ⟨rfl, rfl, rfl, by decide +kernel, rfl, by decide +kernel, by decide +kernel⟩
theorem ok_named {f fg fs : Addr} {fd dg ds : FuncData} {Cs : Nat → Addr} (F : Fun K "_law_named_so" "_law_named_so" sNamed f fd) (X : AllX P w K mg base Cs) (G : Df P w K mg base 1 fg dg "_law_field" ["_law_e"] (spField Cs)) (GS : Df P w K mg base 4 fs ds "_law_same" ["_law_found", "_law_due"] (spSame 4)) :
    FnOk P w K mg base CX0 5 f fd ["_law_a", "_law_b"] spNamed := by
  refine F.ok scNamed (fun vs H Q E h => ?_) (fun cdv A outer s H vs Q E hr h => ?_)
  · obtain ⟨x, y, rfl, _⟩ := h
    rfl
  obtain ⟨x, y, rfl, ex, ey, q⟩ := h
  have hr1 : Room 1 _ := hr.mono (by decide)
  have hr2 : Room 2 _ := hr.mono (by decide)
  obtain ⟨_, _, M0, _, b0⟩ := X.c0
  obtain ⟨_, _, M1, _, b1⟩ := X.c1
  obtain ⟨_, _, M4, _, b4⟩ := X.c4
  obtain ⟨_, _, M5, _, b5⟩ := X.c5
  obtain ⟨_, _, M6, _, b6⟩ := X.c6
  obtain ⟨_, _, M7, _, b7⟩ := X.c7
  obtain ⟨_, _, M8, _, b8⟩ := X.c8
  obtain ⟨_, _, M10, _, b10⟩ := X.c10
  obtain ⟨_, _, M11, _, b11⟩ := X.c11
  obtain ⟨_, _, M12, _, b12⟩ := X.c12
  obtain ⟨_, _, M13, _, b13⟩ := X.c13
  obtain ⟨_, _, M14, _, b14⟩ := X.c14
  obtain ⟨_, _, M15, _, b15⟩ := X.c15
  obtain ⟨_, _, M16, _, b16⟩ := X.c16
  obtain ⟨_, _, M17, _, b17⟩ := X.c17
  obtain ⟨_, _, M18, _, b18⟩ := X.c18
  obtain ⟨_, _, M20, _, b20⟩ := X.c20
  obtain ⟨_, _, M21, _, b21⟩ := X.c21
  obtain ⟨_, _, M22, _, b22⟩ := X.c22
  obtain ⟨_, _, M23, _, b23⟩ := X.c23
  obtain ⟨_, _, M24, _, b24⟩ := X.c24
  obtain ⟨_, _, M25, _, b25⟩ := X.c25
  obtain ⟨_, _, M26, _, b26⟩ := X.c26
  refine ⟨_, pss_cons (ps_set (i := 2) scNamed.nd rfl (Or.inl rfl) (pe_lst pa_nil))
    (pss_cons (ps_set (i := 2) scNamed.nd rfl (Or.inl rfl) (pe_op op_cat (pv 2) (pe_lst (pa_cons (pe_mkGK M0 hr2 (by rfl) b0 (pk_cons (pv 0) pk_nil)) (pa_cons (pe_mkGK M1 hr2 (by rfl) b1 (pk_cons (pv 0) pk_nil)) (pa_cons (pe_mkGK M4 hr2 (by rfl) b4 (pk_cons (pv 0) pk_nil)) (pa_cons (pe_mkGK M5 hr2 (by rfl) b5 (pk_cons (pv 0) pk_nil)) (pa_cons (pe_mkGK M6 hr2 (by rfl) b6 (pk_cons (pv 0) pk_nil)) pa_nil))))))))
    (pss_cons (ps_set (i := 2) scNamed.nd rfl (Or.inl rfl) (pe_op op_cat (pv 2) (pe_lst (pa_cons (pe_mkGK M7 hr2 (by rfl) b7 (pk_cons (pv 0) pk_nil)) (pa_cons (pe_mkGK M8 hr2 (by rfl) b8 (pk_cons (pv 0) pk_nil)) (pa_cons (pe_mkGK M10 hr2 (by rfl) b10 (pk_cons (pv 0) pk_nil)) (pa_cons (pe_mkGK M11 hr2 (by rfl) b11 (pk_cons (pv 0) pk_nil)) (pa_cons (pe_mkGK M12 hr2 (by rfl) b12 (pk_cons (pv 0) pk_nil)) pa_nil))))))))
    (pss_cons (ps_set (i := 2) scNamed.nd rfl (Or.inl rfl) (pe_op op_cat (pv 2) (pe_lst (pa_cons (pe_mkGK M13 hr2 (by rfl) b13 (pk_cons (pv 0) pk_nil)) (pa_cons (pe_mkGK M14 hr2 (by rfl) b14 (pk_cons (pv 0) pk_nil)) (pa_cons (pe_mkGK M15 hr2 (by rfl) b15 (pk_cons (pv 0) pk_nil)) (pa_cons (pe_mkGK M16 hr2 (by rfl) b16 (pk_cons (pv 0) pk_nil)) (pa_cons (pe_mkGK M17 hr2 (by rfl) b17 (pk_cons (pv 0) pk_nil)) pa_nil))))))))
    (pss_cons (ps_set (i := 2) scNamed.nd rfl (Or.inl rfl) (pe_op op_cat (pv 2) (pe_lst (pa_cons (pe_mkGK M18 hr2 (by rfl) b18 (pk_cons (pv 0) pk_nil)) (pa_cons (pe_mkGK M20 hr2 (by rfl) b20 (pk_cons (pv 0) pk_nil)) (pa_cons (pe_mkGK M21 hr2 (by rfl) b21 (pk_cons (pv 0) pk_nil)) (pa_cons (pe_mkGK M23 hr2 (by rfl) b23 (pk_cons (pv 0) pk_nil)) (pa_cons (pe_mkGK M25 hr2 (by rfl) b25 (pk_cons (pv 0) pk_nil)) pa_nil))))))))
    (pss_cons (ps_set (i := 2) scNamed.nd rfl (Or.inl rfl) (pe_op op_cat (pv 2) (pe_lst (pa_cons (pe_mkGK M26 hr2 (by rfl) b26 (pk_cons (pv 0) pk_nil)) pa_nil))))
    (pss_cons (ps_set (i := 3) scNamed.nd rfl (Or.inl rfl) (pe_lst (pa_cons (pe_mkGK M22 hr2 (by rfl) b22 (pk_cons (pv 1) (pk_cons (pv 0) pk_nil))) (pa_cons (pe_mkGK M24 hr2 (by rfl) b24 (pk_cons (pv 1) (pk_cons (pv 0) pk_nil))) pa_nil))))
    (pss_one (ps_ret (pe_call GS.ok hr (by rfl) GS.m GS.kp GS.b .nil pass0 (pa_cons (pe_lc (own := [("_law_e", 4)]) (g := gName 4) rfl scNamed.nd (pi_list (pe_op op_cat (pv 2) (pv 3))) (blkOk_by (own := [("_law_e", 4)]) (N := namedN) (sc := defScope sNamed) (by decide +kernel))
        (fun _ _ _ _ _ => pg_name (i := 4) scNamed.nd rfl (Or.inl rfl) (Or.inr rfl)) (fun _ _ _ _ _ => pts_nil) (fun _ _ _ _ _ => pe_call G.ok hr1 (by rfl) G.m G.kp G.b .nil pass0 (pa_cons (pv 4) pa_nil)))
      (pa_cons (pe_op op_cat (pe_op op_rep (pe_lst (pa_cons (pe_tup (pa_cons (pv 0) pa_nil)) pa_nil)) pe_int) (pe_op op_rep (pe_lst (pa_cons (pe_tup (pa_cons (pv 0) (pa_cons (pv 1) pa_nil))) pa_nil)) pe_int)) pa_nil))))))))))), ?_⟩
  refine ⟨Nat.zero_le _, fun l0 p0 => ?_⟩
  have z0 := same_upd p0 (.lst [])
  have c0 := upd_same (H := H) (a := l0) (o := .lst [])
  generalize (upd H l0 (.lst [])) = K0 at z0 c0 ⊢
  refine ⟨_, rfl, _, rfl, rfl, rfl, by decide, fun a0 n0 => ⟨a0, _, rfl, upd_same, fun d0 T0 e0 f0 g0 i0 k0 => ⟨rfl, ?_⟩⟩⟩
  have s0 : Same K0 T0 := mkS n0 k0
  have x0 : XAt Cs T0 (.ref a0) 0 x y := mkX1 y rfl (by decide +kernel) g0 i0
  refine ⟨_, rfl, rfl, rfl, by decide, fun a1 n1 => ⟨a1, _, rfl, upd_same, fun d1 T1 e1 f1 g1 i1 k1 => ⟨rfl, ?_⟩⟩⟩
  have s1 : Same T0 T1 := mkS n1 k1
  have x1 : XAt Cs T1 (.ref a1) 1 x y := mkX1 y rfl (by decide +kernel) g1 i1
  refine ⟨_, rfl, rfl, rfl, by decide, fun a4 n4 => ⟨a4, _, rfl, upd_same, fun d4 T4 e4 f4 g4 i4 k4 => ⟨rfl, ?_⟩⟩⟩
  have s4 : Same T1 T4 := mkS n4 k4
  have x4 : XAt Cs T4 (.ref a4) 4 x y := mkX1 y rfl (by decide +kernel) g4 i4
  refine ⟨_, rfl, rfl, rfl, by decide, fun a5 n5 => ⟨a5, _, rfl, upd_same, fun d5 T5 e5 f5 g5 i5 k5 => ⟨rfl, ?_⟩⟩⟩
  have s5 : Same T4 T5 := mkS n5 k5
  have x5 : XAt Cs T5 (.ref a5) 5 x y := mkX1 y rfl (by decide +kernel) g5 i5
  refine ⟨_, rfl, rfl, rfl, by decide, fun a6 n6 => ⟨a6, _, rfl, upd_same, fun d6 T6 e6 f6 g6 i6 k6 => ⟨rfl, ?_⟩⟩⟩
  have s6 : Same T5 T6 := mkS n6 k6
  have x6 : XAt Cs T6 (.ref a6) 6 x y := mkX1 y rfl (by decide +kernel) g6 i6
  refine ⟨(by show 5 ≤ sizeLine; decide), fun m0 q0 => ?_⟩
  have u0 := same_upd q0 (.lst [V.ref a0, V.ref a1, V.ref a4, V.ref a5, V.ref a6])
  have w0 := upd_same (H := T6) (a := m0) (o := .lst [V.ref a0, V.ref a1, V.ref a4, V.ref a5, V.ref a6])
  generalize (upd T6 m0 (.lst [V.ref a0, V.ref a1, V.ref a4, V.ref a5, V.ref a6])) = U0 at u0 w0 ⊢
  refine ⟨l0, m0, [], [V.ref a0, V.ref a1, V.ref a4, V.ref a5, V.ref a6], rfl, rfl, (((((s0.trans s1).trans s4).trans s5).trans s6).trans u0) _ _ c0, w0, (by show 5 ≤ sizeLine; decide), fun l1 p1 => ?_⟩
  have z1 := same_upd p1 (.lst [V.ref a0, V.ref a1, V.ref a4, V.ref a5, V.ref a6])
  have c1 := upd_same (H := U0) (a := l1) (o := .lst [V.ref a0, V.ref a1, V.ref a4, V.ref a5, V.ref a6])
  generalize hK1 : (upd U0 l1 (.lst [V.ref a0, V.ref a1, V.ref a4, V.ref a5, V.ref a6])) = K1 at z1 c1
  replace hK1 : upd U0 l1 (.lst ([] ++ [V.ref a0, V.ref a1, V.ref a4, V.ref a5, V.ref a6])) = K1 := hK1
  rw [hK1]
  refine ⟨_, rfl, _, rfl, rfl, rfl, by decide, fun a7 n7 => ⟨a7, _, rfl, upd_same, fun d7 T7 e7 f7 g7 i7 k7 => ⟨rfl, ?_⟩⟩⟩
  have s7 : Same K1 T7 := mkS n7 k7
  have x7 : XAt Cs T7 (.ref a7) 7 x y := mkX1 y rfl (by decide +kernel) g7 i7
  refine ⟨_, rfl, rfl, rfl, by decide, fun a8 n8 => ⟨a8, _, rfl, upd_same, fun d8 T8 e8 f8 g8 i8 k8 => ⟨rfl, ?_⟩⟩⟩
  have s8 : Same T7 T8 := mkS n8 k8
  have x8 : XAt Cs T8 (.ref a8) 8 x y := mkX1 y rfl (by decide +kernel) g8 i8
  refine ⟨_, rfl, rfl, rfl, by decide, fun a10 n10 => ⟨a10, _, rfl, upd_same, fun d10 T10 e10 f10 g10 i10 k10 => ⟨rfl, ?_⟩⟩⟩
  have s10 : Same T8 T10 := mkS n10 k10
  have x10 : XAt Cs T10 (.ref a10) 10 x y := mkX1 y rfl (by decide +kernel) g10 i10
  refine ⟨_, rfl, rfl, rfl, by decide, fun a11 n11 => ⟨a11, _, rfl, upd_same, fun d11 T11 e11 f11 g11 i11 k11 => ⟨rfl, ?_⟩⟩⟩
  have s11 : Same T10 T11 := mkS n11 k11
  have x11 : XAt Cs T11 (.ref a11) 11 x y := mkX1 y rfl (by decide +kernel) g11 i11
  refine ⟨_, rfl, rfl, rfl, by decide, fun a12 n12 => ⟨a12, _, rfl, upd_same, fun d12 T12 e12 f12 g12 i12 k12 => ⟨rfl, ?_⟩⟩⟩
  have s12 : Same T11 T12 := mkS n12 k12
  have x12 : XAt Cs T12 (.ref a12) 12 x y := mkX1 y rfl (by decide +kernel) g12 i12
  refine ⟨(by show 5 ≤ sizeLine; decide), fun m1 q1 => ?_⟩
  have u1 := same_upd q1 (.lst [V.ref a7, V.ref a8, V.ref a10, V.ref a11, V.ref a12])
  have w1 := upd_same (H := T12) (a := m1) (o := .lst [V.ref a7, V.ref a8, V.ref a10, V.ref a11, V.ref a12])
  generalize (upd T12 m1 (.lst [V.ref a7, V.ref a8, V.ref a10, V.ref a11, V.ref a12])) = U1 at u1 w1 ⊢
  refine ⟨l1, m1, [V.ref a0, V.ref a1, V.ref a4, V.ref a5, V.ref a6], [V.ref a7, V.ref a8, V.ref a10, V.ref a11, V.ref a12], rfl, rfl, (((((s7.trans s8).trans s10).trans s11).trans s12).trans u1) _ _ c1, w1, (by show 10 ≤ sizeLine; decide), fun l2 p2 => ?_⟩
  have z2 := same_upd p2 (.lst [V.ref a0, V.ref a1, V.ref a4, V.ref a5, V.ref a6, V.ref a7, V.ref a8, V.ref a10, V.ref a11, V.ref a12])
  have c2 := upd_same (H := U1) (a := l2) (o := .lst [V.ref a0, V.ref a1, V.ref a4, V.ref a5, V.ref a6, V.ref a7, V.ref a8, V.ref a10, V.ref a11, V.ref a12])
  generalize hK2 : (upd U1 l2 (.lst [V.ref a0, V.ref a1, V.ref a4, V.ref a5, V.ref a6, V.ref a7, V.ref a8, V.ref a10, V.ref a11, V.ref a12])) = K2 at z2 c2
  replace hK2 : upd U1 l2 (.lst ([V.ref a0, V.ref a1, V.ref a4, V.ref a5, V.ref a6] ++ [V.ref a7, V.ref a8, V.ref a10, V.ref a11, V.ref a12])) = K2 := hK2
  rw [hK2]
  refine ⟨_, rfl, _, rfl, rfl, rfl, by decide, fun a13 n13 => ⟨a13, _, rfl, upd_same, fun d13 T13 e13 f13 g13 i13 k13 => ⟨rfl, ?_⟩⟩⟩
  have s13 : Same K2 T13 := mkS n13 k13
  have x13 : XAt Cs T13 (.ref a13) 13 x y := mkX1 y rfl (by decide +kernel) g13 i13
  refine ⟨_, rfl, rfl, rfl, by decide, fun a14 n14 => ⟨a14, _, rfl, upd_same, fun d14 T14 e14 f14 g14 i14 k14 => ⟨rfl, ?_⟩⟩⟩
  have s14 : Same T13 T14 := mkS n14 k14
  have x14 : XAt Cs T14 (.ref a14) 14 x y := mkX1 y rfl (by decide +kernel) g14 i14
  refine ⟨_, rfl, rfl, rfl, by decide, fun a15 n15 => ⟨a15, _, rfl, upd_same, fun d15 T15 e15 f15 g15 i15 k15 => ⟨rfl, ?_⟩⟩⟩
  have s15 : Same T14 T15 := mkS n15 k15
  have x15 : XAt Cs T15 (.ref a15) 15 x y := mkX1 y rfl (by decide +kernel) g15 i15
  refine ⟨_, rfl, rfl, rfl, by decide, fun a16 n16 => ⟨a16, _, rfl, upd_same, fun d16 T16 e16 f16 g16 i16 k16 => ⟨rfl, ?_⟩⟩⟩
  have s16 : Same T15 T16 := mkS n16 k16
  have x16 : XAt Cs T16 (.ref a16) 16 x y := mkX1 y rfl (by decide +kernel) g16 i16
  refine ⟨_, rfl, rfl, rfl, by decide, fun a17 n17 => ⟨a17, _, rfl, upd_same, fun d17 T17 e17 f17 g17 i17 k17 => ⟨rfl, ?_⟩⟩⟩
  have s17 : Same T16 T17 := mkS n17 k17
  have x17 : XAt Cs T17 (.ref a17) 17 x y := mkX1 y rfl (by decide +kernel) g17 i17
  refine ⟨(by show 5 ≤ sizeLine; decide), fun m2 q2 => ?_⟩
  have u2 := same_upd q2 (.lst [V.ref a13, V.ref a14, V.ref a15, V.ref a16, V.ref a17])
  have w2 := upd_same (H := T17) (a := m2) (o := .lst [V.ref a13, V.ref a14, V.ref a15, V.ref a16, V.ref a17])
  generalize (upd T17 m2 (.lst [V.ref a13, V.ref a14, V.ref a15, V.ref a16, V.ref a17])) = U2 at u2 w2 ⊢
  refine ⟨l2, m2, [V.ref a0, V.ref a1, V.ref a4, V.ref a5, V.ref a6, V.ref a7, V.ref a8, V.ref a10, V.ref a11, V.ref a12], [V.ref a13, V.ref a14, V.ref a15, V.ref a16, V.ref a17], rfl, rfl, (((((s13.trans s14).trans s15).trans s16).trans s17).trans u2) _ _ c2, w2, (by show 15 ≤ sizeLine; decide), fun l3 p3 => ?_⟩
  have z3 := same_upd p3 (.lst [V.ref a0, V.ref a1, V.ref a4, V.ref a5, V.ref a6, V.ref a7, V.ref a8, V.ref a10, V.ref a11, V.ref a12, V.ref a13, V.ref a14, V.ref a15, V.ref a16, V.ref a17])
  have c3 := upd_same (H := U2) (a := l3) (o := .lst [V.ref a0, V.ref a1, V.ref a4, V.ref a5, V.ref a6, V.ref a7, V.ref a8, V.ref a10, V.ref a11, V.ref a12, V.ref a13, V.ref a14, V.ref a15, V.ref a16, V.ref a17])
  generalize hK3 : (upd U2 l3 (.lst [V.ref a0, V.ref a1, V.ref a4, V.ref a5, V.ref a6, V.ref a7, V.ref a8, V.ref a10, V.ref a11, V.ref a12, V.ref a13, V.ref a14, V.ref a15, V.ref a16, V.ref a17])) = K3 at z3 c3
  replace hK3 : upd U2 l3 (.lst ([V.ref a0, V.ref a1, V.ref a4, V.ref a5, V.ref a6, V.ref a7, V.ref a8, V.ref a10, V.ref a11, V.ref a12] ++ [V.ref a13, V.ref a14, V.ref a15, V.ref a16, V.ref a17])) = K3 := hK3
  rw [hK3]
  refine ⟨_, rfl, _, rfl, rfl, rfl, by decide, fun a18 n18 => ⟨a18, _, rfl, upd_same, fun d18 T18 e18 f18 g18 i18 k18 => ⟨rfl, ?_⟩⟩⟩
  have s18 : Same K3 T18 := mkS n18 k18
  have x18 : XAt Cs T18 (.ref a18) 18 x y := mkX1 y rfl (by decide +kernel) g18 i18
  refine ⟨_, rfl, rfl, rfl, by decide, fun a20 n20 => ⟨a20, _, rfl, upd_same, fun d20 T20 e20 f20 g20 i20 k20 => ⟨rfl, ?_⟩⟩⟩
  have s20 : Same T18 T20 := mkS n20 k20
  have x20 : XAt Cs T20 (.ref a20) 20 x y := mkX1 y rfl (by decide +kernel) g20 i20
  refine ⟨_, rfl, rfl, rfl, by decide, fun a21 n21 => ⟨a21, _, rfl, upd_same, fun d21 T21 e21 f21 g21 i21 k21 => ⟨rfl, ?_⟩⟩⟩
  have s21 : Same T20 T21 := mkS n21 k21
  have x21 : XAt Cs T21 (.ref a21) 21 x y := mkX1 y rfl (by decide +kernel) g21 i21
  refine ⟨_, rfl, rfl, rfl, by decide, fun a23 n23 => ⟨a23, _, rfl, upd_same, fun d23 T23 e23 f23 g23 i23 k23 => ⟨rfl, ?_⟩⟩⟩
  have s23 : Same T21 T23 := mkS n23 k23
  have x23 : XAt Cs T23 (.ref a23) 23 x y := mkX1 y rfl (by decide +kernel) g23 i23
  refine ⟨_, rfl, rfl, rfl, by decide, fun a25 n25 => ⟨a25, _, rfl, upd_same, fun d25 T25 e25 f25 g25 i25 k25 => ⟨rfl, ?_⟩⟩⟩
  have s25 : Same T23 T25 := mkS n25 k25
  have x25 : XAt Cs T25 (.ref a25) 25 x y := mkX1 y rfl (by decide +kernel) g25 i25
  refine ⟨(by show 5 ≤ sizeLine; decide), fun m3 q3 => ?_⟩
  have u3 := same_upd q3 (.lst [V.ref a18, V.ref a20, V.ref a21, V.ref a23, V.ref a25])
  have w3 := upd_same (H := T25) (a := m3) (o := .lst [V.ref a18, V.ref a20, V.ref a21, V.ref a23, V.ref a25])
  generalize (upd T25 m3 (.lst [V.ref a18, V.ref a20, V.ref a21, V.ref a23, V.ref a25])) = U3 at u3 w3 ⊢
  refine ⟨l3, m3, [V.ref a0, V.ref a1, V.ref a4, V.ref a5, V.ref a6, V.ref a7, V.ref a8, V.ref a10, V.ref a11, V.ref a12, V.ref a13, V.ref a14, V.ref a15, V.ref a16, V.ref a17], [V.ref a18, V.ref a20, V.ref a21, V.ref a23, V.ref a25], rfl, rfl, (((((s18.trans s20).trans s21).trans s23).trans s25).trans u3) _ _ c3, w3, (by show 20 ≤ sizeLine; decide), fun l4 p4 => ?_⟩
  have z4 := same_upd p4 (.lst [V.ref a0, V.ref a1, V.ref a4, V.ref a5, V.ref a6, V.ref a7, V.ref a8, V.ref a10, V.ref a11, V.ref a12, V.ref a13, V.ref a14, V.ref a15, V.ref a16, V.ref a17, V.ref a18, V.ref a20, V.ref a21, V.ref a23, V.ref a25])
  have c4 := upd_same (H := U3) (a := l4) (o := .lst [V.ref a0, V.ref a1, V.ref a4, V.ref a5, V.ref a6, V.ref a7, V.ref a8, V.ref a10, V.ref a11, V.ref a12, V.ref a13, V.ref a14, V.ref a15, V.ref a16, V.ref a17, V.ref a18, V.ref a20, V.ref a21, V.ref a23, V.ref a25])
  generalize hK4 : (upd U3 l4 (.lst [V.ref a0, V.ref a1, V.ref a4, V.ref a5, V.ref a6, V.ref a7, V.ref a8, V.ref a10, V.ref a11, V.ref a12, V.ref a13, V.ref a14, V.ref a15, V.ref a16, V.ref a17, V.ref a18, V.ref a20, V.ref a21, V.ref a23, V.ref a25])) = K4 at z4 c4
  replace hK4 : upd U3 l4 (.lst ([V.ref a0, V.ref a1, V.ref a4, V.ref a5, V.ref a6, V.ref a7, V.ref a8, V.ref a10, V.ref a11, V.ref a12, V.ref a13, V.ref a14, V.ref a15, V.ref a16, V.ref a17] ++ [V.ref a18, V.ref a20, V.ref a21, V.ref a23, V.ref a25])) = K4 := hK4
  rw [hK4]
  refine ⟨_, rfl, _, rfl, rfl, rfl, by decide, fun a26 n26 => ⟨a26, _, rfl, upd_same, fun d26 T26 e26 f26 g26 i26 k26 => ⟨rfl, ?_⟩⟩⟩
  have s26 : Same K4 T26 := mkS n26 k26
  have x26 : XAt Cs T26 (.ref a26) 26 x y := mkX1 y rfl (by decide +kernel) g26 i26
  refine ⟨(by show 1 ≤ sizeLine; decide), fun m4 q4 => ?_⟩
  have u4 := same_upd q4 (.lst [V.ref a26])
  have w4 := upd_same (H := T26) (a := m4) (o := .lst [V.ref a26])
  generalize (upd T26 m4 (.lst [V.ref a26])) = U4 at u4 w4 ⊢
  refine ⟨l4, m4, [V.ref a0, V.ref a1, V.ref a4, V.ref a5, V.ref a6, V.ref a7, V.ref a8, V.ref a10, V.ref a11, V.ref a12, V.ref a13, V.ref a14, V.ref a15, V.ref a16, V.ref a17, V.ref a18, V.ref a20, V.ref a21, V.ref a23, V.ref a25], [V.ref a26], rfl, rfl, (s26.trans u4) _ _ c4, w4, (by show 21 ≤ sizeLine; decide), fun l5 p5 => ?_⟩
  have z5 := same_upd p5 (.lst [V.ref a0, V.ref a1, V.ref a4, V.ref a5, V.ref a6, V.ref a7, V.ref a8, V.ref a10, V.ref a11, V.ref a12, V.ref a13, V.ref a14, V.ref a15, V.ref a16, V.ref a17, V.ref a18, V.ref a20, V.ref a21, V.ref a23, V.ref a25, V.ref a26])
  have c5 := upd_same (H := U4) (a := l5) (o := .lst [V.ref a0, V.ref a1, V.ref a4, V.ref a5, V.ref a6, V.ref a7, V.ref a8, V.ref a10, V.ref a11, V.ref a12, V.ref a13, V.ref a14, V.ref a15, V.ref a16, V.ref a17, V.ref a18, V.ref a20, V.ref a21, V.ref a23, V.ref a25, V.ref a26])
  generalize hK5 : (upd U4 l5 (.lst [V.ref a0, V.ref a1, V.ref a4, V.ref a5, V.ref a6, V.ref a7, V.ref a8, V.ref a10, V.ref a11, V.ref a12, V.ref a13, V.ref a14, V.ref a15, V.ref a16, V.ref a17, V.ref a18, V.ref a20, V.ref a21, V.ref a23, V.ref a25, V.ref a26])) = K5 at z5 c5
  replace hK5 : upd U4 l5 (.lst ([V.ref a0, V.ref a1, V.ref a4, V.ref a5, V.ref a6, V.ref a7, V.ref a8, V.ref a10, V.ref a11, V.ref a12, V.ref a13, V.ref a14, V.ref a15, V.ref a16, V.ref a17, V.ref a18, V.ref a20, V.ref a21, V.ref a23, V.ref a25] ++ [V.ref a26])) = K5 := hK5
  rw [hK5]
  refine ⟨_, rfl, _, rfl, rfl, rfl, by decide, fun a22 n22 => ⟨a22, _, _, rfl, upd_same, fun d22 T22 e22 f22 g22 i22 k22 => ⟨rfl, ?_⟩⟩⟩
  have s22 : Same K5 T22 := mkS n22 k22
  have x22 : XAt Cs T22 (.ref a22) 22 x y := mkX2 rfl (by decide +kernel) (by decide +kernel) (by decide +kernel) g22 i22
  refine ⟨_, rfl, _, rfl, rfl, rfl, by decide, fun a24 n24 => ⟨a24, _, _, rfl, upd_same, fun d24 T24 e24 f24 g24 i24 k24 => ⟨rfl, ?_⟩⟩⟩
  have s24 : Same T22 T24 := mkS n24 k24
  have x24 : XAt Cs T24 (.ref a24) 24 x y := mkX2 rfl (by decide +kernel) (by decide +kernel) (by decide +kernel) g24 i24
  refine ⟨(by show 2 ≤ sizeLine; decide), fun lp pp => ?_⟩
  have up := same_upd pp (.lst [V.ref a22, V.ref a24])
  have cp := upd_same (H := T24) (a := lp) (o := .lst [V.ref a22, V.ref a24])
  generalize (upd T24 lp (.lst [V.ref a22, V.ref a24])) = UP at up cp ⊢
  refine ⟨_, rfl, _, rfl, l5, lp, [V.ref a0, V.ref a1, V.ref a4, V.ref a5, V.ref a6, V.ref a7, V.ref a8, V.ref a10, V.ref a11, V.ref a12, V.ref a13, V.ref a14, V.ref a15, V.ref a16, V.ref a17, V.ref a18, V.ref a20, V.ref a21, V.ref a23, V.ref a25, V.ref a26], [V.ref a22, V.ref a24], rfl, rfl, ((s22.trans s24).trans up) _ _ c5, cp, (by show 23 ≤ sizeLine; decide), fun L pL => ?_⟩
  have uL := same_upd pL (.lst [V.ref a0, V.ref a1, V.ref a4, V.ref a5, V.ref a6, V.ref a7, V.ref a8, V.ref a10, V.ref a11, V.ref a12, V.ref a13, V.ref a14, V.ref a15, V.ref a16, V.ref a17, V.ref a18, V.ref a20, V.ref a21, V.ref a23, V.ref a25, V.ref a26, V.ref a22, V.ref a24])
  have cL := upd_same (H := UP) (a := L) (o := .lst [V.ref a0, V.ref a1, V.ref a4, V.ref a5, V.ref a6, V.ref a7, V.ref a8, V.ref a10, V.ref a11, V.ref a12, V.ref a13, V.ref a14, V.ref a15, V.ref a16, V.ref a17, V.ref a18, V.ref a20, V.ref a21, V.ref a23, V.ref a25, V.ref a26, V.ref a22, V.ref a24])
  generalize hKL : (upd UP L (.lst [V.ref a0, V.ref a1, V.ref a4, V.ref a5, V.ref a6, V.ref a7, V.ref a8, V.ref a10, V.ref a11, V.ref a12, V.ref a13, V.ref a14, V.ref a15, V.ref a16, V.ref a17, V.ref a18, V.ref a20, V.ref a21, V.ref a23, V.ref a25, V.ref a26, V.ref a22, V.ref a24])) = KL at uL cL
  replace hKL : upd UP L (.lst ([V.ref a0, V.ref a1, V.ref a4, V.ref a5, V.ref a6, V.ref a7, V.ref a8, V.ref a10, V.ref a11, V.ref a12, V.ref a13, V.ref a14, V.ref a15, V.ref a16, V.ref a17, V.ref a18, V.ref a20, V.ref a21, V.ref a23, V.ref a25, V.ref a26] ++ [V.ref a22, V.ref a24])) = KL := hKL
  rw [hKL]
  have v35 : Same UP KL := uL
  have v34 : Same T24 KL := up.trans v35
  have v33 : Same T22 KL := s24.trans v34
  have v32 : Same K5 KL := s22.trans v33
  have v31 : Same U4 KL := z5.trans v32
  have v30 : Same T26 KL := u4.trans v31
  have v29 : Same K4 KL := s26.trans v30
  have v28 : Same U3 KL := z4.trans v29
  have v27 : Same T25 KL := u3.trans v28
  have v26 : Same T23 KL := s25.trans v27
  have v25 : Same T21 KL := s23.trans v26
  have v24 : Same T20 KL := s21.trans v25
  have v23 : Same T18 KL := s20.trans v24
  have v22 : Same K3 KL := s18.trans v23
  have v21 : Same U2 KL := z3.trans v22
  have v20 : Same T17 KL := u2.trans v21
  have v19 : Same T16 KL := s17.trans v20
  have v18 : Same T15 KL := s16.trans v19
  have v17 : Same T14 KL := s15.trans v18
  have v16 : Same T13 KL := s14.trans v17
  have v15 : Same K2 KL := s13.trans v16
  have v14 : Same U1 KL := z2.trans v15
  have v13 : Same T12 KL := u1.trans v14
  have v12 : Same T11 KL := s12.trans v13
  have v11 : Same T10 KL := s11.trans v12
  have v10 : Same T8 KL := s10.trans v11
  have v9 : Same T7 KL := s8.trans v10
  have v8 : Same K1 KL := s7.trans v9
  have v7 : Same U0 KL := z1.trans v8
  have v6 : Same T6 KL := u0.trans v7
  have v5 : Same T5 KL := s6.trans v6
  have v4 : Same T4 KL := s5.trans v5
  have v3 : Same T1 KL := s4.trans v4
  have v2 : Same T0 KL := s1.trans v3
  have v1 : Same K0 KL := s0.trans v2
  have v0 : Same H KL := z0.trans v1
  have hx : ∀ (k : Nat) (v : V), ([V.ref a0, V.ref a1, V.ref a4, V.ref a5, V.ref a6, V.ref a7, V.ref a8, V.ref a10, V.ref a11, V.ref a12, V.ref a13, V.ref a14, V.ref a15, V.ref a16, V.ref a17, V.ref a18, V.ref a20, V.ref a21, V.ref a23, V.ref a25, V.ref a26, V.ref a22, V.ref a24] : List V)[k]? = some v → ∃ j, js23[k]? = some j ∧ j < 28 ∧ XAt Cs KL v j x y := fun k v hv => by
    have hk : k < 23 := (List.getElem?_eq_some_iff.mp hv).1
    match k, hk, hv with
    | 0, _, hv => cases Option.some.inj hv; exact ⟨0, rfl, by decide, x0.same v2⟩
    | 1, _, hv => cases Option.some.inj hv; exact ⟨1, rfl, by decide, x1.same v3⟩
    | 2, _, hv => cases Option.some.inj hv; exact ⟨4, rfl, by decide, x4.same v4⟩
    | 3, _, hv => cases Option.some.inj hv; exact ⟨5, rfl, by decide, x5.same v5⟩
    | 4, _, hv => cases Option.some.inj hv; exact ⟨6, rfl, by decide, x6.same v6⟩
    | 5, _, hv => cases Option.some.inj hv; exact ⟨7, rfl, by decide, x7.same v9⟩
    | 6, _, hv => cases Option.some.inj hv; exact ⟨8, rfl, by decide, x8.same v10⟩
    | 7, _, hv => cases Option.some.inj hv; exact ⟨10, rfl, by decide, x10.same v11⟩
    | 8, _, hv => cases Option.some.inj hv; exact ⟨11, rfl, by decide, x11.same v12⟩
    | 9, _, hv => cases Option.some.inj hv; exact ⟨12, rfl, by decide, x12.same v13⟩
    | 10, _, hv => cases Option.some.inj hv; exact ⟨13, rfl, by decide, x13.same v16⟩
    | 11, _, hv => cases Option.some.inj hv; exact ⟨14, rfl, by decide, x14.same v17⟩
    | 12, _, hv => cases Option.some.inj hv; exact ⟨15, rfl, by decide, x15.same v18⟩
    | 13, _, hv => cases Option.some.inj hv; exact ⟨16, rfl, by decide, x16.same v19⟩
    | 14, _, hv => cases Option.some.inj hv; exact ⟨17, rfl, by decide, x17.same v20⟩
    | 15, _, hv => cases Option.some.inj hv; exact ⟨18, rfl, by decide, x18.same v23⟩
    | 16, _, hv => cases Option.some.inj hv; exact ⟨20, rfl, by decide, x20.same v24⟩
    | 17, _, hv => cases Option.some.inj hv; exact ⟨21, rfl, by decide, x21.same v25⟩
    | 18, _, hv => cases Option.some.inj hv; exact ⟨23, rfl, by decide, x23.same v26⟩
    | 19, _, hv => cases Option.some.inj hv; exact ⟨25, rfl, by decide, x25.same v27⟩
    | 20, _, hv => cases Option.some.inj hv; exact ⟨26, rfl, by decide, x26.same v30⟩
    | 21, _, hv => cases Option.some.inj hv; exact ⟨22, rfl, by decide, x22.same v33⟩
    | 22, _, hv => cases Option.some.inj hv; exact ⟨24, rfl, by decide, x24.same v34⟩
    | n + 23, h, _ => exact absurd h (by omega)
  generalize hES : ([V.ref a0, V.ref a1, V.ref a4, V.ref a5, V.ref a6, V.ref a7, V.ref a8, V.ref a10, V.ref a11, V.ref a12, V.ref a13, V.ref a14, V.ref a15, V.ref a16, V.ref a17, V.ref a18, V.ref a20, V.ref a21, V.ref a23, V.ref a25, V.ref a26, V.ref a22, V.ref a24] : List V) = ES at cL hx
  have lES : ES.length = 23 := by rw [← hES]; rfl
  refine ⟨L, rfl, ⟨_, SqL.of cL⟩, fun D hD => ?_⟩
  refine lc_list (K := K) (a := L) (xs := ES) (fun i H2 => Same KL H2 ∧ ∃ dv, H2 D = some (.lst dv) ∧ dv.length = i ∧ ∀ (k : Nat) (u : V), dv[k]? = some u → ∃ t j, u = .ref t ∧ js23[k]? = some j ∧ H2 t = some (.tup (dueOf j x y)))
    ⟨same_upd hD _, [], upd_same, rfl, fun k u e => by cases e⟩ (fun i H2 _ ⟨s2, _⟩ => SqL.of (s2 _ _ cL)) (fun i v H2 hv ⟨s2, dv, hD2, ld, hd⟩ => ?_) (fun H2 ⟨s2, dv, hD2, ld, hd⟩ => ?_)
  · obtain ⟨j, hj1, hj2, hj3⟩ := hx i v hv
    have hi : i < 23 := by rw [← lES]; exact (List.getElem?_eq_some_iff.mp hv).1
    refine ⟨rfl, v, rfl, v, j, x, y, rfl, hj2, hj3.same s2, fun t H3 s3 _ ht => ?_⟩
    have hD3 := s3 _ _ hD2
    refine ⟨dv, hD3, by rw [ld]; exact small1000 (by omega), fun a o e => ?_, dv ++ [.ref t], upd_same, by rw [List.length_append, ld]; rfl, fun k u hu => ?_⟩
    · rw [upd_ne (ne_of_none e hD)]
      exact s3 _ _ (s2 _ _ e)
    have keep : ∀ (t : Addr) (l : List V), H3 t = some (.tup l) → (upd H3 D (.lst (dv ++ [.ref t]))) t = some (.tup l) := fun t l e => by rw [upd_ne (ne_of e hD3 (by intro z; cases z))]; exact e
    have keep2 : ∀ (t2 : Addr) (l : List V), H3 t2 = some (.tup l) → (upd H3 D (.lst (dv ++ [.ref t]))) t2 = some (.tup l) := fun t2 l e => by rw [upd_ne (ne_of e hD3 (by intro z; cases z))]; exact e
    rw [List.getElem?_append] at hu
    by_cases hk : k < dv.length
    · rw [if_pos hk] at hu
      obtain ⟨t2, j2, e1, e2, e3⟩ := hd k u hu
      exact ⟨t2, j2, e1, e2, keep2 _ _ (s3 _ _ e3)⟩
    · rw [if_neg hk] at hu
      have hk2 : k = dv.length := by
        have := (List.getElem?_eq_some_iff.mp hu).1
        rw [List.length_singleton] at this
        omega
      subst hk2
      rw [Nat.sub_self] at hu
      cases Option.some.inj hu
      exact ⟨t, j, rfl, by rw [ld]; exact hj1, keep2 _ _ ht⟩
  rw [lES] at ld
  -- [(a,)] * 21 + [(a, b)] * 2
  refine ⟨_, rfl, (by show 1 ≤ sizeLine; decide), fun t1 q1' => ⟨(by show 1 ≤ sizeLine; decide), fun m1' r1' => ?_⟩⟩
  have y1 := same_upd q1' (.tup [x])
  have y2 := same_upd r1' (.lst [.ref t1])
  refine ⟨m1', 21, [.ref t1], rfl, rfl, upd_same, by decide, by decide, (by show 1 * 21 ≤ sizeLine; decide), fun m2' r2' => ?_⟩
  have y3 := same_upd r2' (.lst (List.replicate (21 : Int).toNat [V.ref t1]).flatten)
  refine ⟨_, rfl, _, rfl, (by show 2 ≤ sizeLine; decide), fun t2 q2' => ⟨(by show 1 ≤ sizeLine; decide), fun m3' r3' => ?_⟩⟩
  have y4 := same_upd q2' (.tup [x, y])
  have y5 := same_upd r3' (.lst [.ref t2])
  refine ⟨m3', 2, [.ref t2], rfl, rfl, upd_same, by decide, by decide, (by show 1 * 2 ≤ sizeLine; decide), fun m4' r4' => ?_⟩
  have y6 := same_upd r4' (.lst (List.replicate (2 : Int).toNat [V.ref t2]).flatten)
  have k2 := (y4.trans y5).trans y6 _ _ (upd_same (a := m2') (o := .lst (List.replicate (21 : Int).toNat [V.ref t1]).flatten))
  refine ⟨m2', m4', _, _, rfl, rfl, k2, upd_same, (by show 23 ≤ sizeLine; decide), fun m5' r5' => ?_⟩
  have y7 := same_upd r5' (.lst ((List.replicate (21 : Int).toNat [V.ref t1]).flatten ++ (List.replicate (2 : Int).toNat [V.ref t2]).flatten))
  have e1 := (y2.trans ((y3.trans y4).trans ((y5.trans y6).trans y7))) _ _ (upd_same (a := t1) (o := .tup [x]))
  have e2 := (y5.trans (y6.trans y7)) _ _ (upd_same (a := t2) (o := .tup [x, y]))
  have sA := ((y1.trans y2).trans ((y3.trans y4).trans ((y5.trans y6).trans y7)))
  have sB := (v0.trans s2).trans sA
  refine ⟨.ref D, .ref m5', rfl, .inr ⟨D, m5', dv, _, rfl, rfl, by rw [ld]; rfl, by omega, .inl ⟨sA _ _ hD2, upd_same⟩, fun k u v hu hv => ?_⟩, fun H9 s9 => q H9 (sB.trans s9)⟩
  obtain ⟨t, j, rfl, hj, ht⟩ := hd k u hu
  have hk : k < 23 := by rw [← ld]; exact (List.getElem?_eq_some_iff.mp hu).1
  have hT := sA _ _ ht
  have fin : ∀ (t' : Addr) (l : List V), dueOf j x y = l → v = .ref t' → (∀ H8, H8 t' = some (.tup l) → H8 t = some (.tup (dueOf j x y)) → Eqv H8 1 x x → Eqv H8 1 y y → Eqv H8 2 (.ref t) v) := fun t' l e ev H8 h1 h2 h3 h4 => by
    rw [ev]
    rw [e] at h2
    exact eqv_due h2 h1 (by rw [← e]; exact due_forms j x y) h3 h4
  have hv2 : (k < 21 ∧ v = .ref t1) ∨ (¬ k < 21 ∧ v = .ref t2) := by
    have l1 : (List.replicate (21 : Int).toNat [V.ref t1]).flatten = List.replicate 21 (V.ref t1) := rfl
    have l2 : (List.replicate (2 : Int).toNat [V.ref t2]).flatten = List.replicate 2 (V.ref t2) := rfl
    rw [l1, l2, List.getElem?_append, List.length_replicate] at hv
    by_cases h : k < 21
    · rw [if_pos h, List.getElem?_replicate, if_pos h] at hv
      exact .inl ⟨h, (Option.some.inj hv).symm⟩
    · rw [if_neg h, List.getElem?_replicate, if_pos (by omega)] at hv
      exact .inr ⟨h, (Option.some.inj hv).symm⟩
  have hjl : (k < 21 → (attrsOf j).length = 1) ∧ (¬ k < 21 → (attrsOf j).length = 2) := by
    have all : ∀ k : Fin 23, (k.val < 21 → (attrsOf (js23.getD k.val 0)).length = 1) ∧ (¬ k.val < 21 → (attrsOf (js23.getD k.val 0)).length = 2) := by decide +kernel
    have h := all ⟨k, hk⟩
    have e : js23.getD k 0 = j := by rw [List.getD_eq_getElem?_getD, hj]; rfl
    rw [show js23.getD (⟨k, hk⟩ : Fin 23).val 0 = j from e] at h
    exact h
  have xx := Eqv.same sB ex
  have yy := Eqv.same sB ey
  rcases hv2 with ⟨h, ev⟩ | ⟨h, ev⟩
  · exact fin t1 [x] (due_len1 (hjl.1 h)) ev _ e1 hT xx yy
  · exact fin t2 [x, y] (due_len2 (hjl.2 h)) ev _ e2 hT xx yy
abbrev sLaw : Stmt := top 42
abbrev lawN : List Str := ["_law_script", "_law_bag_here", "_law_turn", "_law_a", "_law_b", "_law_made", "_law_codes_here", "_law_bare", "_law_double", "_law_k", "_law_e", "_law_code", "_law_due", "_law_j"]
theorem scLaw : FnScope lawN ["_law_script"] (defScope sLaw) := ⟨rfl, rfl, rfl, by decide +kernel, rfl, by decide +kernel, by decide +kernel⟩
abbrev bare5 : List Str := ["InvalidSeries", "NoInverse", "InvalidForm", "UnlikeOuts", "NothingLeft"]
abbrev double2 : List Str := ["InUse", "TooMany"]
theorem in_bare {j : Nat} (hj : j < 28) : inV (V.str (codeOf j)) (bare5.map V.str) = decide ((attrsOf j).length = 0) := tab28 (P := fun j => inV (V.str (codeOf j)) (bare5.map V.str) = decide ((attrsOf j).length = 0)) (by decide +kernel) hj
theorem in_double {j : Nat} (hj : j < 28) : inV (V.str (codeOf j)) (double2.map V.str) = decide ((attrsOf j).length = 2) := tab28 (P := fun j => inV (V.str (codeOf j)) (double2.map V.str) = decide ((attrsOf j).length = 2)) (by decide +kernel) hj
theorem attrs_len {j : Nat} (hj : j < 28) : (attrsOf j).length ≤ 2 := tab28 (P := fun j => (attrsOf j).length ≤ 2) (by decide +kernel) hj
theorem dpAll_bls {H : Hp} : ∀ bs : List Bool, DpAll K H (bs.map V.bl) (bs.map PyData.bool)
  | [] => .nil
  | b :: r => .cons (.bl b) (dpAll_bls r)
abbrev row28 (j : Nat) : List Bool := (List.range 28).map fun i => decide (i = j)
theorem row_ok {j : Nat} (hj : j < 28) : SeqAt.shaped (.list ((row28 j).map PyData.bool)) = true ∧ PyData.eqv (.list ((row28 j).map PyData.bool)) (.list ((row28 j).map PyData.bool)) = true :=
  tab28 (P := fun j => SeqAt.shaped (.list ((row28 j).map PyData.bool)) = true ∧ PyData.eqv (.list ((row28 j).map PyData.bool)) (.list ((row28 j).map PyData.bool)) = true) (by decide +kernel) hj
theorem ok_law {f fb fp fo fe fc fs ff fx fn : Addr} {fd db dp d_o de dc ds df dx dn : FuncData} {Cs : Nat → Addr} {U M : Addr} (F : Fun K "law" "law" sLaw f fd) (FA : Fam K mg Cs U M)
    (GB : Df P w K mg base 1 fb db "_law_bag" ["_law_script"] (spBag K)) (GP : Df P w K mg base 1 fp dp "_law_pull" ["_law_bag_here", "_law_many"] spPull) (GO : Df P w K mg base 3 fo d_o "_law_odd" ["_law_bag_here", "_law_more"] spOdd)
    (GE : Df P w K mg base 3 fe de "_law_errors" ["_law_a", "_law_b"] (spErrors Cs)) (GC : Df P w K mg base 1 fc dc "_law_codes" [] spCodes) (GS : Df P w K mg base 4 fs ds "_law_same" ["_law_found", "_law_due"] (spSame 4))
    (GF : Df P w K mg base 1 ff df "_law_field" ["_law_e"] (spField Cs)) (GX : Df P w K mg base 1 fx dx "_law_classes" ["_law_e"] (spClasses Cs)) (GN : Df P w K mg base 5 fn dn "_law_named_so" ["_law_a", "_law_b"] spNamed)
    (mlen : mg "len" = none) (mrange : mg "range" = none) (misi : mg "isinstance" = none) (mVE : mg "ValueError" = none) (mLE : mg "LookupError" = none) (mIE : mg "IndexError" = none) : FnOk P w K mg base CX0 6 f fd ["_law_script"] (spLaw K) := by
  refine F.ok scLaw (fun vs H Q E h => ?_) (fun cdv A outer s H vs Q E hr h => ?_)
  · obtain ⟨a, ns, rfl, _⟩ := h
    rfl
  obtain ⟨a, ns, rfl, hS, h63, q⟩ := h
  have hr1 : Room 1 _ := hr.mono (by decide)
  have hr3 : Room 3 _ := hr.mono (by decide)
  have hr4 : Room 4 _ := hr.mono (by decide)
  have hu := hr.units
  refine ⟨_, pss_cons (ps_set (i := 1) scLaw.nd rfl (Or.inl rfl) (pe_call GB.ok hr1 (by rfl) GB.m GB.kp GB.b .nil pass0 (pa_cons (pv 0) pa_nil)))
    (pss_cons (ps_for PassesOwn.never rfl (pi_range1 (by rfl) mrange (pa_cons pe_int pa_nil)) (pg_name (i := 2) scLaw.nd rfl (Or.inl rfl))
      (pss_cons (ps_par (i := 3) (j := 4) rfl scLaw.nd rfl rfl (by decide) rfl rfl (pa_cons (pe_call GO.ok hr3 (by rfl) GO.m GO.kp GO.b .nil pass0 (pa_cons (pv 1) (pa_cons (pe_lst (pa_cons (pe_call GP.ok hr1 (by rfl) GP.m GP.kp GP.b .nil pass0 (pa_cons (pv 1) (pa_cons (pe_op op_pow pe_int pe_int) pa_nil))) pa_nil)) pa_nil)))
          (pa_cons (pe_call GO.ok hr3 (by rfl) GO.m GO.kp GO.b .nil pass0 (pa_cons (pv 1) (pa_cons (pe_lst (pa_cons pe_str (pa_cons pe_int pa_nil))) pa_nil))) pa_nil)) (by rfl))
      (pss_cons (ps_par (i := 5) (j := 6) rfl scLaw.nd rfl rfl (by decide) rfl rfl (pa_cons (pe_call GE.ok hr3 (by rfl) GE.m GE.kp GE.b .nil pass0 (pa_cons (pv 3) (pa_cons (pv 4) pa_nil))) (pa_cons (pe_call0 GC.ok hr1 (by rfl) GC.m GC.kp GC.b .nil pass0) pa_nil)) (by rfl))
      (pss_cons (ps_par (i := 7) (j := 8) rfl scLaw.nd rfl rfl (by decide) rfl rfl (pa_cons (pe_lst (pa_cons pe_str (pa_cons pe_str (pa_cons pe_str (pa_cons pe_str (pa_cons pe_str pa_nil)))))) (pa_cons (pe_lst (pa_cons pe_str (pa_cons pe_str pa_nil))) pa_nil)) (by rfl))
      (C8.pss_cut (ps_for PassesOwn.never rfl (pi_range1 (by rfl) mrange (pa_cons (pe_callB call_len_seq (by rfl) mlen PySem.boot_len (pa_cons (pv 5) pa_nil)) pa_nil)) (pg_name (i := 9) scLaw.nd rfl (Or.inr rfl))
        (pss_cons (ps_par (i := 10) (j := 11) rfl scLaw.nd rfl rfl (by decide) rfl rfl (pa_cons (pe_ix ix_list (pv 5) (pv 9) (fun _ _ => rfl)) (pa_cons (pe_ix ix_list (pv 6) (pv 9) (fun _ _ => rfl)) pa_nil)) (by rfl))
        (C8.pss_cut (ps_set (i := 12) scLaw.nd rfl (Or.inl rfl) (pe_ifExp (pt_cmpR op_in_seq (pv 11) (pv 7) (by rfl)) (pe_tup pa_nil) (pe_ifExp (pt_cmpR op_in_seq (pv 11) (pv 8) (by rfl)) (pe_tup (pa_cons (pv 3) (pa_cons (pv 4) pa_nil))) (pe_tup (pa_cons (pv 3) pa_nil)))))
        (pss_cons (ps_if (pt_not (pt_val (pe_call GS.ok hr4 (by rfl) GS.m GS.kp GS.b .nil pass0 (pa_cons (pe_lst (pa_cons (pe_xo (pv 10)) (pa_cons (pe_call GF.ok hr1 (by rfl) GF.m GF.kp GF.b .nil pass0 (pa_cons (pv 10) pa_nil)) pa_nil))) (pa_cons (pe_lst (pa_cons (pv 11) (pa_cons (pv 12) pa_nil))) pa_nil))))) (pss_one (ps_ret pe_bl)) pss_nil)
        (pss_cons (ps_if (pt_cmpR (op_neD hu) (pe_lst (pa_cons (pe_callB call_isX (by rfl) misi (by decide +kernel) (pa_cons (pv 10) (pa_cons (pe_glob (v := .ref U) (by rfl) FA.mU rfl) pa_nil))) (pa_cons (pe_callB call_isX (by rfl) misi (by decide +kernel) (pa_cons (pv 10) (pa_cons (pe_bltn (v := .ty "ValueError") (by rfl) mVE (by decide +kernel) rfl) pa_nil))) pa_nil)))
            (pe_lst (pa_cons (pe_cmpR op_lt (pv 9) pe_int (nomark _)) (pa_cons (pe_cmpR op_lt (pv 9) pe_int (nomark _)) pa_nil))) (nomark _)) (pss_one (ps_ret pe_bl)) pss_nil)
        (pss_cons (ps_if (pt_cmpR (op_neD hu) (pe_lst (pa_cons (pe_callB call_isX (by rfl) misi (by decide +kernel) (pa_cons (pv 10) (pa_cons (pe_glob (v := .ref M) (by rfl) FA.mM rfl) pa_nil))) (pa_cons (pe_callB call_isX (by rfl) misi (by decide +kernel) (pa_cons (pv 10) (pa_cons (pe_bltn (v := .ty "LookupError") (by rfl) mLE (by decide +kernel) rfl) pa_nil)))
              (pa_cons (pe_callB call_isX (by rfl) misi (by decide +kernel) (pa_cons (pv 10) (pa_cons (pe_bltn (v := .ty "IndexError") (by rfl) mIE (by decide +kernel) rfl) pa_nil))) pa_nil))))
            (pe_lst (pa_cons (pe_cmpR op_in_seq (pv 9) (pe_tup (pa_cons pe_int (pa_cons pe_int pa_nil))) (by rfl)) (pa_cons (pe_cmpR op_gt (pv 9) pe_int (nomark _)) (pa_cons (pe_cmpR op_eq (pv 9) pe_int (nomark _)) pa_nil)))) (nomark _)) (pss_one (ps_ret pe_bl)) pss_nil)
        (pss_one (ps_if (pt_cmpR (op_neD hu) (pe_call GX.ok hr1 (by rfl) GX.m GX.kp GX.b .nil pass0 (pa_cons (pv 10) pa_nil))
            (pe_lc (own := [("_law_j", 13)]) (g := gName 13) rfl scLaw.nd (pi_range1 (by rfl) mrange (pa_cons pe_int pa_nil)) (blkOk_by (own := [("_law_j", 13)]) (N := lawN) (sc := defScope sLaw) (by decide +kernel))
              (fun _ _ _ _ _ => pg_name (i := 13) scLaw.nd rfl (Or.inl rfl) (Or.inr rfl)) (fun _ _ _ _ _ => pts_nil) (fun _ _ _ _ _ => pe_cmpR op_eq (pv 13) (pv 9) (nomark _))) (nomark _)) (pss_one (ps_ret pe_bl)) pss_nil))))))))
      (pss_one (ps_if (PW.pt (pw_or (pt_cmpR op_ne (pe_callB call_len_seq (by rfl) mlen PySem.boot_len (pa_cons (pv 5) pa_nil)) pe_int (nomark _)) (pw_or1 (pt_not (pt_val (pe_call GN.ok hr (by rfl) GN.m GN.kp GN.b .nil pass0 (pa_cons (pv 3) (pa_cons (pv 4) pa_nil)))))))) (pss_one (ps_ret pe_bl)) pss_nil)))))))
    (pss_one (ps_ret pe_bl))), ?_⟩
  refine ⟨_, rfl, a, ns, rfl, hS, h63, fun b c H1 s1 hb hc B1 => ?_⟩
  refine ⟨3, rfl, by decide, by decide, for_range (lo := 0) (n := 3) (fun i σ H2 => ∃ v2 v3 v4 v5 v6 v7 v8 v9 v10 v11 v12, σ = [some (.ref a), some (.ref b), v2, v3, v4, v5, v6, v7, v8, v9, v10, v11, v12, none] ∧ Bag H2 b c)
    ⟨none, none, none, none, none, none, none, none, none, none, none, rfl, B1⟩ ?_ ?_⟩
  · rintro i σ H2 hi ⟨v2, v3, v4, v5, v6, v7, v8, v9, v10, v11, v12, rfl, B2⟩
    -- a, b
    refine ⟨.ref b, rfl, .ref b, rfl, 10, 6, rfl, rfl, ⟨by decide, by decide, by decide⟩, b, c, _, rfl, B2, by decide, by decide, fun d H3 _ _ B3 k3 => ⟨(by show 1 ≤ sizeLine; decide), fun m1 hm1 => ?_⟩⟩
    refine ⟨b, c, m1, [.int d], rfl, B3.upd_new hm1 _, B3.fresh hm1, upd_same, (fun z hz => by rw [List.mem_singleton.mp hz]; exact trivial), (by show 1 ≤ 10; decide), fun x H4 ox B4 k4 => ?_⟩
    refine ⟨.ref b, rfl, (by show 2 ≤ sizeLine; decide), fun m2 hm2 => ?_⟩
    have k5 : Kp b H4 (upd H4 m2 (.lst [.str "x", .int 3])) := Same.kp (same_upd hm2 _)
    refine ⟨b, c, m2, [.str "x", .int 3], rfl, B4.upd_new hm2 _, B4.fresh hm2, upd_same, (fun z hz => by
      rcases List.mem_cons.mp hz with e | hz
      · rw [e]; exact trivial
      · rw [List.mem_singleton.mp hz]; exact trivial), (by show 2 ≤ 10; decide), fun y H6 oy B6 k6 => ?_⟩
    replace ox := ox.kp (k5.trans k6)
    have ex := ox.eqv 0
    have ey := oy.eqv 0
    -- made, codes
    refine ⟨_, _, rfl, _, rfl, _, rfl, x, y, rfl, fun lm es H7 s7 _ hlm les hes => ?_⟩
    refine ⟨rfl, fun lc H8 s8 _ hlc => ⟨_, _, rfl, ?_⟩⟩
    -- bare, double
    refine ⟨(by show 5 ≤ sizeLine; decide), fun lb hlb => ⟨(by show 2 ≤ sizeLine; decide), fun ld hld => ?_⟩⟩
    have r1 := same_upd hlb (.lst (bare5.map V.str))
    have r2 := same_upd hld (.lst (double2.map V.str))
    obtain ⟨H9, hH9⟩ : ∃ H9, H9 = upd (upd H8 lb (.lst [.str "InvalidSeries", .str "NoInverse", .str "InvalidForm", .str "UnlikeOuts", .str "NothingLeft"])) ld (.lst [.str "InUse", .str "TooMany"]) := ⟨_, rfl⟩
    have clb : H9 lb = some (.lst (bare5.map V.str)) := by rw [hH9]; exact r2 _ _ (upd_same (H := H8) (a := lb) (o := .lst (bare5.map V.str)))
    have cld : H9 ld = some (.lst (double2.map V.str)) := by rw [hH9]; exact upd_same
    have r12 : Same H8 H9 := by rw [hH9]; exact r1.trans r2
    have s12 := (s7.trans s8).trans r12
    have clm := (s8.trans r12) _ _ hlm
    have clc := r12 _ _ hlc
    have hes2 : ∀ j v, es[j]? = some v → XAt Cs H9 v j x y := fun j v hv => (hes j v hv).same (s8.trans r12)
    refine ⟨_, _, rfl, ?_⟩
    rw [← hH9]
    have B9 := B6.same s12
    replace ex := Eqv.same s12 ex
    replace ey := Eqv.same s12 ey
    refine ⟨fun σ' H' => ∃ v9 v10 v11 v12, σ' = [some (.ref a), some (.ref b), some (.int (0 + (i : Int))), some x, some y, some (.ref lm), some (.ref lc), some (.ref lb), some (.ref ld), v9, v10, v11, v12, none] ∧ Same H9 H', ?_, ?_⟩
    · refine ⟨_, rfl, lm, _, rfl, .inl (SqL.of clm), (es.length : Int), rfl, by omega, by omega, ?_⟩
      rw [les]
      refine for_range (lo := 0) (n := 28) (fun j σ H' => ∃ v9 v10 v11 v12, σ = [some (.ref a), some (.ref b), some (.int (0 + (i : Int))), some x, some y, some (.ref lm), some (.ref lc), some (.ref lb), some (.ref ld), v9, v10, v11, v12, none] ∧ Same H9 H')
        ⟨_, _, _, _, rfl, Same.refl H9⟩ ?_ (fun σ H' h => h)
      rintro j σ H10 hj ⟨v9, v10, v11, v12, rfl, s10⟩
      have hje : j < es.length := by omega
      have hX := (hes2 j es[j] (List.getElem?_eq_getElem hje)).same s10
      have hat1 : atI es (0 + (j : Int)) = some es[j] := by
        rw [Int.zero_add]
        exact atI_nat (List.getElem?_eq_getElem hje)
      have hat2 : atI (codes28.map V.str) (0 + (j : Int)) = some (.str (codeOf j)) := by
        rw [Int.zero_add]
        exact atI_nat (tab28 (P := fun j => (codes28.map V.str)[j]? = some (.str (codeOf j))) (fun j => by
          rw [List.getElem?_map]
          unfold codeOf
          rw [List.getD_eq_getElem?_getD]
          rw [List.getElem?_eq_getElem (show j.val < codes28.length from j.isLt)]
          rfl) hj)
      generalize es[j] = ev at hX hat1
      refine ⟨_, rfl, _, rfl, lm, es, _, ev, rfl, rfl, SqL.of (s10 _ _ clm), hat1, _, rfl, _, rfl, lc, _, _, _, rfl, rfl, SqL.of (s10 _ _ clc), hat2, _, _, rfl, ?_⟩
      have clb10 := s10 _ _ clb
      have cld10 := s10 _ _ cld
      have al := attrs_len hj
      refine ⟨fun σ' H' => ∃ td, σ' = [some (.ref a), some (.ref b), some (.int (0 + (i : Int))), some x, some y, some (.ref lm), some (.ref lc), some (.ref lb), some (.ref ld), some (.int (0 + (j : Int))), some ev, some (.str (codeOf j)), some (.ref td), none] ∧ Same H10 H' ∧ H' td = some (.tup (dueOf j x y)), ?_, ?_⟩
      · refine ⟨_, rfl, _, rfl, lb, _, rfl, .inl (SqL.of clb10), rfl, rfl, _, rfl, ?_⟩
        rw [show inV (V.str (codeOf j)) (bare5.map V.str) = decide ((attrsOf j).length = 0) from in_bare hj]
        refine ite2 (fun c0 => ?_) (fun c0 => ?_)
        · exact ⟨Nat.zero_le _, fun t ht => ⟨t, rfl, same_upd ht _, by rw [upd_same, due_len0 (of_decide_eq_true c0)]⟩⟩
        · refine ⟨_, rfl, _, rfl, ld, _, rfl, .inl (SqL.of cld10), rfl, rfl, _, rfl, ?_⟩
          rw [show inV (V.str (codeOf j)) (double2.map V.str) = decide ((attrsOf j).length = 2) from in_double hj]
          refine ite2 (fun c2 => ?_) (fun c2 => ?_)
          · exact ⟨_, rfl, _, rfl, (by show 2 ≤ sizeLine; decide), fun t ht => ⟨t, rfl, same_upd ht _, by rw [upd_same, due_len2 (of_decide_eq_true c2)]⟩⟩
          · have n0 : ¬ (attrsOf j).length = 0 := fun e => c0 (decide_eq_true e)
            have n2 : ¬ (attrsOf j).length = 2 := fun e => c2 (decide_eq_true e)
            exact ⟨_, rfl, (by show 1 ≤ sizeLine; decide), fun t ht => ⟨t, rfl, same_upd ht _, by rw [upd_same, due_len1 (by omega)]⟩⟩
      rintro σ' H11 ⟨td, rfl, s11, htd⟩
      have exj := Eqv.same (s10.trans s11) ex
      have eyj := Eqv.same (s10.trans s11) ey
      obtain ⟨ea, ed, fs2, rfl, h1, h2, hc', hf1, hf2⟩ := hX.same s11
      have hX11 : XAt Cs H11 (.ref ea) j x y := ⟨ea, ed, fs2, rfl, h1, h2, hc', hf1, hf2⟩
      -- same([e.code, field(e)], [code, due])
      refine ⟨_, rfl, ea, Cs j, ed, fs2, _, rfl, h1, h2, FA.xf j hj, FA.nc j hj, hc', _, rfl, _, j, x, y, rfl, hj, hX11, fun t H12 s12' _ ht => ?_⟩
      refine ⟨(by show 2 ≤ sizeLine; decide), fun m5 hm5 => ⟨_, rfl, _, rfl, (by show 2 ≤ sizeLine; decide), fun m6 hm6 => ?_⟩⟩
      have g5 := same_upd hm5 (.lst [.str (codeOf j), .ref t])
      have g6 := same_upd hm6 (.lst [.str (codeOf j), .ref td])
      have s13 := s12'.trans (g5.trans g6)
      have ht13 := (g5.trans g6) _ _ ht
      have htd13 := s13 _ _ htd
      refine ⟨.ref m5, .ref m6, rfl, .inr ⟨m5, m6, [.str (codeOf j), .ref t], [.str (codeOf j), .ref td], rfl, rfl, rfl, (by show 2 ≤ 100000; decide), .inl ⟨g6 _ _ upd_same, upd_same⟩, fun k u v hu hv => ?_⟩, fun H14 s14 => ⟨_, rfl, iteF ?_⟩⟩
      · match k with
        | 0 => cases Option.some.inj hu; cases Option.some.inj hv; exact .leaf (show Leaf (V.str _) from trivial) _
        | 1 =>
          cases Option.some.inj hu
          cases Option.some.inj hv
          exact eqv_due ht13 htd13 (due_forms j x y) (Eqv.same s13 exj) (Eqv.same s13 eyj)
        | k + 2 => cases hu
      have sE := s13.trans s14
      -- [isinstance(e, UnopenedError), isinstance(e, ValueError)] != [k < 25, k < 25]
      refine ⟨_, rfl, ea, Cs j, ed, fs2, _, _, _, rfl, .own _, sE _ _ h1, sE _ _ h2, FA.xi j hj, FA.kU j hj, _, rfl, ea, Cs j, ed, fs2, _, _, _, rfl, .ty _, sE _ _ h1, sE _ _ h2, FA.xi j hj, FA.kV j hj, (by show 2 ≤ sizeLine; decide), fun m7 hm7 => ?_⟩
      refine ⟨_, rfl, _, _, rfl, rfl, _, rfl, _, _, rfl, rfl, (by show 2 ≤ sizeLine; decide), fun m8 hm8 => ?_⟩
      have g8 := same_upd hm8 (.lst ([decide (0 + (j : Int) < 25), decide (0 + (j : Int) < 25)].map V.bl))
      have e25 : decide (0 + (j : Int) < 25) = decide (j < 25) := decide_eq_decide.mpr (by omega)
      have sh2 : ∀ p : Bool, SeqAt.shaped (.list ([p, p].map PyData.bool)) = true ∧ PyData.eqv (.list ([p, p].map PyData.bool)) (.list ([p, p].map PyData.bool)) = true := by decide +kernel
      refine ⟨.list ([decide (j < 25), decide (j < 25)].map PyData.bool), .list ([decide (0 + (j : Int) < 25), decide (0 + (j : Int) < 25)].map PyData.bool), .lst (SqL.of (g8 _ _ upd_same)) (dpAll_bls [decide (j < 25), decide (j < 25)]), .lst (SqL.of upd_same) (dpAll_bls [decide (0 + (j : Int) < 25), decide (0 + (j : Int) < 25)]), (sh2 _).1, (sh2 _).1, _, rfl, ?_⟩
      rw [e25, (sh2 _).2]
      refine iteF ?_
      have sF : ∀ o, Same H11 (upd (upd H14 m7 (.lst [.bl (decide (j < 25)), .bl (decide (j < 25))])) m8 o) := fun o => sE.trans ((same_upd hm7 _).trans (same_upd hm8 o))
      -- [isinstance(e, Missing), isinstance(e, LookupError), isinstance(e, IndexError)] != [k in (25, 26), k > 24, k == 27]
      refine ⟨_, rfl, ea, Cs j, ed, fs2, _, _, _, rfl, .own _, (sF _) _ _ h1, (sF _) _ _ h2, FA.xi j hj, FA.kM j hj, _, rfl, ea, Cs j, ed, fs2, _, _, _, rfl, .ty _, (sF _) _ _ h1, (sF _) _ _ h2, FA.xi j hj, FA.kL j hj, _, rfl, ea, Cs j, ed, fs2, _, _, _, rfl, .ty _, (sF _) _ _ h1, (sF _) _ _ h2, FA.xi j hj, FA.kI j hj, (by show 3 ≤ sizeLine; decide), fun m9 hm9 => ?_⟩
      refine ⟨_, rfl, (by show 2 ≤ sizeLine; decide), fun tq htq => ⟨tq, _, rfl, .inr (SqT.of upd_same), rfl, rfl, _, rfl, _, _, rfl, rfl, _, rfl, rfl, (by show 3 ≤ sizeLine; decide), fun m10 hm10 => ?_⟩⟩
      have k1 : inV (V.int (0 + (j : Int))) [V.int 25, V.int 26] = (decide (j = 25) || decide (j = 26)) := tab28 (P := fun j => inV (V.int (0 + (j : Int))) [V.int 25, V.int 26] = (decide (j = 25) || decide (j = 26))) (by decide +kernel) hj
      have k2 : decide (0 + (j : Int) > 24) = decide (24 < j) := decide_eq_decide.mpr (by omega)
      have k3 : decide (V.int (0 + (j : Int)) = V.int 27) = decide (j = 27) := decide_eq_decide.mpr ⟨fun e => by have := V.int.inj e; omega, fun e => by rw [e]; rfl⟩
      have sh3 : ∀ p q r : Bool, SeqAt.shaped (.list ([p, q, r].map PyData.bool)) = true ∧ PyData.eqv (.list ([p, q, r].map PyData.bool)) (.list ([p, q, r].map PyData.bool)) = true := by decide +kernel
      have g9 := same_upd hm9 (.lst ([(decide (j = 25) || decide (j = 26)), decide (24 < j), decide (j = 27)].map V.bl))
      have gq := same_upd htq (.tup [.int 25, .int 26])
      have g10 := same_upd hm10 (.lst ([inV (V.int (0 + (j : Int))) [V.int 25, V.int 26], decide (0 + (j : Int) > 24), decide (V.int (0 + (j : Int)) = V.int 27)].map V.bl))
      refine ⟨.list ([(decide (j = 25) || decide (j = 26)), decide (24 < j), decide (j = 27)].map PyData.bool), .list ([inV (V.int (0 + (j : Int))) [V.int 25, V.int 26], decide (0 + (j : Int) > 24), decide (V.int (0 + (j : Int)) = V.int 27)].map PyData.bool),
        .lst (SqL.of ((gq.trans g10) _ _ upd_same)) (dpAll_bls [(decide (j = 25) || decide (j = 26)), decide (24 < j), decide (j = 27)]), .lst (SqL.of upd_same) (dpAll_bls [inV (V.int (0 + (j : Int))) [V.int 25, V.int 26], decide (0 + (j : Int) > 24), decide (V.int (0 + (j : Int)) = V.int 27)]), (sh3 _ _ _).1, (sh3 _ _ _).1, _, rfl, ?_⟩
      have ev3 : PyData.eqv (.list ([(decide (j = 25) || decide (j = 26)), decide (24 < j), decide (j = 27)].map PyData.bool)) (.list ([inV (V.int (0 + (j : Int))) [V.int 25, V.int 26], decide (0 + (j : Int) > 24), decide (V.int (0 + (j : Int)) = V.int 27)].map PyData.bool)) = true := by
        rw [k1, k2, k3]
        exact (sh3 _ _ _).2
      rw [ev3]
      refine iteF ?_
      have sG := (sF _).trans ((g9.trans gq).trans g10)
      -- classes(e) != [j == k for j in range(28)]
      refine ⟨_, rfl, _, j, x, y, rfl, hj, hX11.same sG, fun lq H15 s15 _ hlq => ?_⟩
      refine ⟨28, rfl, by decide, by decide, fun D hD => ?_⟩
      have er : ((List.range 28).map fun i => V.bl (decide (i = j))) = (row28 j).map V.bl := by
        unfold row28
        rw [List.map_map]
        rfl
      refine lc_range (lo := 0) (n := 28) (fun k H' => Same H15 H' ∧ H' D = some (.lst ((List.range k).map fun m => V.bl (decide (m = j))))) ⟨same_upd hD _, upd_same⟩ (fun k H16 hk ⟨s16, hD16⟩ => ?_) (fun H16 ⟨s16, hD16⟩ => ?_)
      · have ek : decide (V.int (0 + (k : Int)) = V.int (0 + (j : Int))) = decide (k = j) := decide_eq_decide.mpr ⟨fun e => by have := V.int.inj e; omega, fun e => by rw [e]⟩
        refine ⟨rfl, _, rfl, _, rfl, rfl, _, hD16, by rw [List.length_map, List.length_range]; exact small1000 (by omega), fun a o e => ?_, ?_⟩
        · rw [upd_ne (ne_of_none e hD)]
          exact s16 _ _ e
        · rw [upd_same, List.range_succ, List.map_append, ek]
          rfl
      · rw [er] at hD16 hlq
        obtain ⟨w1, w2⟩ := row_ok hj
        refine ⟨.list ((row28 j).map PyData.bool), .list ((row28 j).map PyData.bool), .lst (SqL.of (s16 _ _ hlq)) (dpAll_bls _), .lst (SqL.of hD16) (dpAll_bls _), w1, w1, _, rfl, ?_⟩
        rw [w2]
        refine iteF ?_
        exact ⟨_, _, _, _, rfl, (s10.trans s11).trans ((sG.trans s15).trans s16)⟩
    · rintro σ' H10 ⟨v9, v10, v11, v12, rfl, s10⟩
      refine ⟨_, rfl, lm, _, rfl, .inl (SqL.of (s10 _ _ clm)), rfl, _, rfl, ?_⟩
      rw [les]
      refine iteF ?_
      refine ⟨_, rfl, _, rfl, x, y, rfl, Eqv.same s10 ex, Eqv.same s10 ey, fun H11 s11 => ⟨_, rfl, iteF ?_⟩⟩
      exact ⟨_, _, _, _, _, _, _, _, _, _, _, rfl, B9.same (s10.trans s11)⟩
  · rintro σ H2 ⟨v2, v3, v4, v5, v6, v7, v8, v9, v10, v11, v12, rfl, B2⟩
    exact q H2
/-! ### the classes as the top has made them -/
section
variable {C D N : Addr} {nm q : Str} {bs bm sub : List Value} {sn : List Str} {ab : Bool} {col : Option Bool} {dd : Option Addr} {k0 k1 k2 k3 k5 : Option Value} {nid : String}
theorem cl_cls (l : K.lookup C = some (excClassObj nm q C N bs bm true sn sub ab col dd k0 k1 k2 k3 k5 nid)) : PySem.W.clsIn K C = some { name := nm, bases := bs, mro := .ref C :: bm, ns := N, qualname := q, hasDict := true, slotNames := sn, subclasses := sub, abstract := ab, collection := col, hasDel := false } := by
  unfold PySem.W.clsIn; rw [l] <;> rfl
theorem cl_some (l : K.lookup C = some (excClassObj nm q C N bs bm true sn sub ab col dd k0 k1 k2 k3 k5 nid)) : (PySem.W.clsIn K C).isSome = true := by rw [cl_cls l]; rfl
theorem cl_dict (l : K.lookup C = some (excClassObj nm q C N bs bm true sn sub ab col dd k0 k1 k2 k3 k5 nid)) : PySem.W.hasDictIn K C = true := by unfold PySem.W.hasDictIn; rw [cl_cls l]; rfl
theorem cl_type (l : K.lookup C = some (excClassObj nm q C N bs bm true sn sub ab col dd k0 k1 k2 k3 k5 nid)) : PySem.W.typeIn K (.ref C) = some (.type "type") := by
  show (K.lookup C).map (·.cls) = _
  rw [l]; rfl
theorem cl_mro (l : K.lookup C = some (excClassObj nm q C N bs bm true sn sub ab col dd k0 k1 k2 k3 k5 nid)) (b : Value) : PySem.W.mroIn K C b = some ((Value.ref C :: bm).contains b) := by
  unfold PySem.W.mroIn; rw [cl_cls l]; rfl
end
/-- what a class of the errors is, as the top has written it -/
def CF (K : PySem.W.Frag) (C : Addr) (bm : List Value) (nid : String) (attrs : List Str) : Prop :=
  (∃ nm q N bs sn sub ab col dd k0 k1 k2 k3 k5, K.lookup C = some (excClassObj nm q C N bs bm true sn sub ab col dd k0 k1 k2 k3 k5 nid)) ∧ PySem.W.findIn K (.ref C) "__getattribute__" = some (some (.builtin "BaseException.__getattribute__")) ∧ PySem.W.findIn K (.ref C) "__getattr__" = some none ∧
  PySem.W.findIn K (.ref C) "__class__" = some (some (.builtin "object.__class__")) ∧ PySem.W.findIn K (.ref C) "code" = some none ∧ (∀ f ∈ attrs, PySem.W.findIn K (.ref C) f = some none)
def CX (K : PySem.W.Frag) (C f : Addr) (x qn : Str) (st : Stmt) (bm : List Value) (nid : String) (attrs : List Str) : Prop :=
  PySem.W.nsIn K mainGlobals x = some (some (.ref C)) ∧ CF K C bm nid attrs ∧ PySem.W.findIn K (.ref C) "__setattr__" = some (some (.builtin "object.__setattr__")) ∧ PySem.W.keepIn K (.ref C) = true ∧ PySem.W.findIn K (.ref C) "__init__" = some (some (.ref f)) ∧
  PySem.W.typeIn K (.ref f) = some (.type "function") ∧ ∃ fd, Fun K "__init__" qn st f fd
section
variable {C f N : Addr} {x qn nm q : Str} {st : Stmt} {bs bm sub : List Value} {sn : List Str} {ab : Bool} {col : Option Bool} {dd od an : Option Addr} {k0 k1 k2 k3 k5 : Option Value} {nid : String} {g h : Str} {oc kV doc pm cd ct : Value} {osl : Array (Option Value)}
theorem cx0 (a1 : PySem.W.nsIn K mainGlobals x = some (some (.ref C))) (a2 : K.lookup C = some (excClassObj nm q C N bs bm true sn sub ab col dd k0 k1 k2 k3 k5 nid)) (a3 : PySem.W.findIn K (.ref C) "__getattribute__" = some (some (.builtin "BaseException.__getattribute__"))) (a4 : PySem.W.findIn K (.ref C) "__getattr__" = some none)
    (a5 : PySem.W.findIn K (.ref C) "__class__" = some (some (.builtin "object.__class__"))) (a6 : PySem.W.findIn K (.ref C) "code" = some none) (a7 : PySem.W.findIn K (.ref C) "__setattr__" = some (some (.builtin "object.__setattr__"))) (a8 : PySem.W.keepIn K (.ref C) = true) (a9 : PySem.W.findIn K (.ref C) "__init__" = some (some (.ref f)))
    (b1 : PySem.W.typeIn K (.ref f) = some (.type "function")) (b2 : K.lookup f = some ⟨oc, od, .func (PySem.W.fnOf "__init__" qn (defArgs st) (defBody st) (defScope st) .none kV doc pm an cd ct), osl⟩) (b3 : PySem.W.codeIn K cd qn = true) (b4 : PySem.W.keepIn K (.ref f) = true) : CX K C f x qn st bm nid [] :=
  ⟨a1, ⟨⟨_, _, _, _, _, _, _, _, _, _, _, _, _, _, a2⟩, a3, a4, a5, a6, fun f hf => nomatch hf⟩, a7, a8, a9, b1, _, fun_mk (st := st) b2 b3 b4⟩
theorem cx1 (c : CX K C f x qn st bm nid []) (d1 : PySem.W.findIn K (.ref C) g = some none) : CX K C f x qn st bm nid [g] := by
  obtain ⟨a1, ⟨a2, a3, a4, a5, a6, _⟩, r⟩ := c
  exact ⟨a1, ⟨a2, a3, a4, a5, a6, fun f hf => by rw [List.mem_singleton.mp hf]; exact d1⟩, r⟩
theorem cx2 (c : CX K C f x qn st bm nid []) (d1 : PySem.W.findIn K (.ref C) g = some none) (d2 : PySem.W.findIn K (.ref C) h = some none) : CX K C f x qn st bm nid [g, h] := by
  obtain ⟨a1, ⟨a2, a3, a4, a5, a6, _⟩, r⟩ := c
  exact ⟨a1, ⟨a2, a3, a4, a5, a6, fun f hf => by
    rcases List.mem_cons.mp hf with e | hf
    · rw [e]; exact d1
    · rw [List.mem_singleton.mp hf]; exact d2⟩, r⟩
end
def bmOf (U M : Addr) (j : Nat) : List Value := if j < 25 then .ref U :: XV.tailVE else if j < 27 then .ref M :: XV.tailLE else XV.tailIE
def nidOf (j : Nat) : String := if j < 25 then "ValueError.__new__" else if j < 27 then "LookupError.__new__" else "IndexError.__new__"
theorem CF.oex {C : Addr} {bm tail : List Value} {B nid iid : String} {attrs : List Str} (c : CF K C bm nid attrs) (FB : ExcBaseFacts B nid iid tail) (TO : XV.TailOk tail) (hb : XV.refsT tail bm = true) (hbe : bm.contains (.type "BaseException") = true)
    (sa : PySem.W.findIn K (.ref C) "__setattr__" = some (some (.builtin "object.__setattr__"))) (kC : PySem.W.keepIn K (.ref C) = true) : OexG K C := by
  obtain ⟨⟨nm, q, N, bs, sn, sub, ab, col, dd, k0, k1, k2, k3, k5, l⟩, _⟩ := c
  refine ⟨⟨B, nid, iid, tail, nm, q, N, bs, bm, sn, sub, ab, col, dd, k0, k1, k2, k3, k5, FB, TO, l, hb⟩, sa, ?_, cl_type l, kC⟩
  show PySem.W.mroIn K C _ = _
  rw [cl_mro l, List.contains_cons, hbe, Bool.or_true]
theorem kit_one {C : Addr} {bm : List Value} {nid : String} {attrs : List Str} (c : CF K C bm nid attrs) {v : Value} (hv : (∃ D, v = .ref D ∧ (PySem.W.clsIn K D).isSome = true ∧ PySem.W.typeIn K (.ref D) = some (.type "type")) ∨ ∃ T, v = .type T ∧ PySem.W.kitMeta T = true) :
    PySem.W.kitOne K (.ref C) v = some ((Value.ref C :: bm).contains v) := by
  obtain ⟨⟨nm, q, N, bs, sn, sub, ab, col, dd, k0, k1, k2, k3, k5, l⟩, _⟩ := c
  unfold PySem.W.kitOne
  by_cases e : (Value.ref C == v) = true
  · rw [if_pos e, List.contains_cons]
    have e2 : v = Value.ref C := (eq_of_beq e).symm
    rw [e2]
    simp
  · rw [if_neg e]
    rcases hv with ⟨D, rfl, h1, h2⟩ | ⟨T, rfl, h1⟩
    · show (if ((PySem.W.clsIn K D).isSome && PySem.W.typeIn K (.ref D) == some (.type "type")) = true then PySem.W.subIn K (.ref C) (.ref D) else none) = _
      rw [h1, h2, if_pos (by decide)]
      exact cl_mro l _
    · show (if PySem.W.kitMeta T = true then PySem.W.subIn K (.ref C) (.type T) else none) = _
      rw [if_pos h1]
      exact cl_mro l _
theorem fam_of {Cs : Nat → Addr} {U M : Addr} (hC : ∀ j, j < 28 → CF K (Cs j) (bmOf U M j) (nidOf j) (attrsOf j)) (hm : ∀ j, j < 28 → mg (codeOf j) = some (.ref (Cs j))) (mU : mg "UnopenedError" = some (.ref U)) (mM : mg "Missing" = some (.ref M))
    (cU : (PySem.W.clsIn K U).isSome = true) (tU : PySem.W.typeIn K (.ref U) = some (.type "type")) (cM : (PySem.W.clsIn K M).isSome = true) (tM : PySem.W.typeIn K (.ref M) = some (.type "type"))
    (hn : PySem.W.specialIn K (.builtin "object.__class__") "__get__" = some (some (.builtin "getset_descriptor.__get__"))) (ht : PySem.W.takesIn K (.builtin "object.__class__") = some true)
    (inj : ∀ i j, i < 28 → j < 28 → Cs i = Cs j → i = j) (nU : ∀ j, j < 28 → Cs j ≠ U) (nM : ∀ j, j < 28 → Cs j ≠ M) (nUM : U ≠ M) : Fam K mg Cs U M := by
  have bmc : ∀ j, j < 28 → ∀ v : Value, (bmOf U M j).contains v = (if j < 25 then (v == .ref U || XV.tailVE.contains v) else if j < 27 then (v == .ref M || XV.tailLE.contains v) else XV.tailIE.contains v) := fun j _ v => by
    unfold bmOf
    by_cases h : j < 25
    · rw [if_pos h, if_pos h, List.contains_cons]
    · rw [if_neg h, if_neg h]
      by_cases h2 : j < 27
      · rw [if_pos h2, if_pos h2, List.contains_cons]
      · rw [if_neg h2, if_neg h2]
  have notail : ∀ D : Addr, XV.tailVE.contains (.ref D) = false ∧ XV.tailLE.contains (.ref D) = false ∧ XV.tailIE.contains (.ref D) = false := fun D => ⟨rfl, rfl, rfl⟩
  have be : ∀ a b : Addr, ((Value.ref a) == (Value.ref b)) = decide (a = b) := fun a b => by
    by_cases e : a = b
    · subst e; simp
    · rw [decide_eq_false e]
      exact Bool.eq_false_iff.mpr fun h => e (Value.ref.inj (eq_of_beq h))
  have lk : ∀ j, j < 28 → ∃ nm q N bs sn sub ab col dd k0 k1 k2 k3 k5, K.lookup (Cs j) = some (excClassObj nm q (Cs j) N bs (bmOf U M j) true sn sub ab col dd k0 k1 k2 k3 k5 (nidOf j)) := fun j hj => (hC j hj).1
  have some_ : ∀ j, j < 28 → (PySem.W.clsIn K (Cs j)).isSome = true := fun j hj => by
    obtain ⟨_, _, _, _, _, _, _, _, _, _, _, _, _, _, l⟩ := lk j hj
    exact cl_some l
  have type_ : ∀ j, j < 28 → PySem.W.typeIn K (.ref (Cs j)) = some (.type "type") := fun j hj => by
    obtain ⟨_, _, _, _, _, _, _, _, _, _, _, _, _, _, l⟩ := lk j hj
    exact cl_type l
  have dict_ : ∀ j, j < 28 → PySem.W.hasDictIn K (Cs j) = true := fun j hj => by
    obtain ⟨_, _, _, _, _, _, _, _, _, _, _, _, _, _, l⟩ := lk j hj
    exact cl_dict l
  have mro_ : ∀ j, j < 28 → ∀ b, PySem.W.mroIn K (Cs j) b = some ((Value.ref (Cs j) :: bmOf U M j).contains b) := fun j hj b => by
    obtain ⟨_, _, _, _, _, _, _, _, _, _, _, _, _, _, l⟩ := lk j hj
    exact cl_mro l b
  have tyc : ∀ j, j < 28 → ∀ T : String, (Value.ref (Cs j) :: bmOf U M j).contains (.type T) = (if j < 25 then XV.tailVE.contains (.type T) else if j < 27 then XV.tailLE.contains (.type T) else XV.tailIE.contains (.type T)) := fun j hj T => by
    rw [List.contains_cons, bmc j hj]
    rfl
  have rfc : ∀ j, j < 28 → ∀ D : Addr, (Value.ref (Cs j) :: bmOf U M j).contains (.ref D) = (decide (D = Cs j) || (if j < 25 then decide (D = U) else if j < 27 then decide (D = M) else false)) := fun j hj D => by
    rw [List.contains_cons, bmc j hj, be, be, be, (notail D).1, (notail D).2.1, (notail D).2.2, Bool.or_false, Bool.or_false]
  have exc : ∀ j, j < 28 → PySem.W.subIn K (.ref (Cs j)) (.type "BaseException") = some true := fun j hj => by
    show PySem.W.mroIn K (Cs j) _ = _
    rw [mro_ j hj, tyc j hj]
    by_cases h : j < 25
    · rw [if_pos h]; decide +kernel
    · rw [if_neg h]
      by_cases h2 : j < 27
      · rw [if_pos h2]; decide +kernel
      · rw [if_neg h2]; decide +kernel
  have obj : ∀ j, j < 28 → PySem.W.mroIn K (Cs j) (.type "object") = some true := fun j hj => by
    rw [mro_ j hj, tyc j hj]
    by_cases h : j < 25
    · rw [if_pos h]; decide +kernel
    · rw [if_neg h]
      by_cases h2 : j < 27
      · rw [if_pos h2]; decide +kernel
      · rw [if_neg h2]; decide +kernel
  have ty : ∀ (T : String), PySem.W.kitMeta T = true → ∀ j, j < 28 → PySem.W.kitOne K (.ref (Cs j)) (.type T) = some (if j < 25 then XV.tailVE.contains (.type T) else if j < 27 then XV.tailLE.contains (.type T) else XV.tailIE.contains (.type T)) := fun T hT j hj => by
    rw [kit_one (hC j hj) (.inr ⟨T, rfl, hT⟩), tyc j hj]
  refine ⟨fun j hj => ⟨(hC j hj).2.1, (hC j hj).2.2.1, exc j hj, dict_ j hj⟩, fun j hj => (hC j hj).2.2.2.2.1, fun j hj => (hC j hj).2.2.2.2.2, fun j hj => ⟨some_ j hj, (hC j hj).2.1, (hC j hj).2.2.1, exc j hj, (hC j hj).2.2.2.1, hn, ht, obj j hj⟩,
    fun i j hi hj => ?_, fun j hj => ?_, fun j hj => ?_, fun j hj => ?_, fun j hj => ?_, fun j hj => ?_, mU, mM, hm⟩
  · rw [kit_one (hC j hj) (.inl ⟨Cs i, rfl, some_ i hi, type_ i hi⟩), rfc j hj, decide_eq_false (nU i hi), decide_eq_false (nM i hi)]
    have e : decide (Cs i = Cs j) = decide (i = j) := decide_eq_decide.mpr ⟨inj i j hi hj, fun e => by rw [e]⟩
    rw [e]
    by_cases h : j < 25
    · rw [if_pos h, Bool.or_false]
    · rw [if_neg h]
      by_cases h2 : j < 27
      · rw [if_pos h2, Bool.or_false]
      · rw [if_neg h2, Bool.or_false]
  · rw [kit_one (hC j hj) (.inl ⟨U, rfl, cU, tU⟩), rfc j hj, decide_eq_false (fun e => nU j hj e.symm), decide_eq_true (rfl : U = U), decide_eq_false nUM]
    by_cases h : j < 25
    · rw [if_pos h, decide_eq_true h]; rfl
    · rw [if_neg h, decide_eq_false h]
      by_cases h2 : j < 27
      · rw [if_pos h2]; rfl
      · rw [if_neg h2]; rfl
  · rw [ty "ValueError" (by decide +kernel) j hj]
    by_cases h : j < 25
    · rw [if_pos h, decide_eq_true h]; decide +kernel
    · rw [if_neg h, decide_eq_false h]
      by_cases h2 : j < 27
      · rw [if_pos h2]; decide +kernel
      · rw [if_neg h2]; decide +kernel
  · rw [kit_one (hC j hj) (.inl ⟨M, rfl, cM, tM⟩), rfc j hj, decide_eq_false (fun e => nM j hj e.symm), decide_eq_false (fun e => nUM e.symm), decide_eq_true (rfl : M = M)]
    by_cases h : j < 25
    · rw [if_pos h, decide_eq_false (by omega), decide_eq_false (by omega)] <;> rfl
    · rw [if_neg h]
      by_cases h2 : j < 27
      · rw [if_pos h2]
        by_cases h3 : j = 25
        · rw [decide_eq_true h3]; rfl
        · rw [decide_eq_false h3, decide_eq_true (by omega)] <;> rfl
      · rw [if_neg h2, decide_eq_false (by omega), decide_eq_false (by omega)] <;> rfl
  · rw [ty "LookupError" (by decide +kernel) j hj]
    by_cases h : j < 25
    · rw [if_pos h, decide_eq_false (by omega)]; decide +kernel
    · rw [if_neg h, decide_eq_true (by omega)]
      by_cases h2 : j < 27
      · rw [if_pos h2]; decide +kernel
      · rw [if_neg h2]; decide +kernel
  · rw [ty "IndexError" (by decide +kernel) j hj]
    by_cases h : j < 25
    · rw [if_pos h, decide_eq_false (by omega)]; decide +kernel
    · rw [if_neg h]
      by_cases h2 : j < 27
      · rw [if_pos h2, decide_eq_false (by omega)]; decide +kernel
      · rw [if_neg h2, decide_eq_true (by omega)]; decide +kernel
def addrB (l : List Addr) : Bool := match l with
  | [] => true
  | a :: r => !(r.contains a) && addrB r
theorem addrB_get : ∀ {l : List Addr}, addrB l = true → ∀ i j, i < l.length → j < l.length → l.getD i 0 = l.getD j 0 → i = j
  | [], _, i, _, h, _, _ => absurd h (Nat.not_lt_zero i)
  | a :: r, hb, 0, 0, _, _, _ => rfl
  | a :: r, hb, 0, j + 1, _, hj, e => by
    obtain ⟨h1, _⟩ := Bool.and_eq_true_iff.mp (show (!(r.contains a) && addrB r) = true from hb)
    have hj2 : j < r.length := Nat.lt_of_succ_lt_succ hj
    have e2 : a = r.getD j 0 := e
    have : r.contains a = true := by
      rw [List.contains_iff_mem, e2, List.getD_eq_getElem?_getD, List.getElem?_eq_getElem hj2]
      exact List.getElem_mem hj2
    rw [this] at h1
    cases h1
  | a :: r, hb, i + 1, 0, hi, _, e => by
    obtain ⟨h1, _⟩ := Bool.and_eq_true_iff.mp (show (!(r.contains a) && addrB r) = true from hb)
    have hi2 : i < r.length := Nat.lt_of_succ_lt_succ hi
    have e2 : r.getD i 0 = a := e
    have : r.contains a = true := by
      rw [List.contains_iff_mem, ← e2, List.getD_eq_getElem?_getD, List.getElem?_eq_getElem hi2]
      exact List.getElem_mem hi2
    rw [this] at h1
    cases h1
  | a :: r, hb, i + 1, j + 1, hi, hj, e => by
    obtain ⟨_, h2⟩ := Bool.and_eq_true_iff.mp (show (!(r.contains a) && addrB r) = true from hb)
    exact congrArg Nat.succ (addrB_get h2 i j (Nat.lt_of_succ_lt_succ hi) (Nat.lt_of_succ_lt_succ hj) e)
theorem addr_ok {U M : Addr} {cs : List Addr} (h : addrB (U :: M :: cs) = true) (hl : cs.length = 28) :
    (∀ i j, i < 28 → j < 28 → cs.getD i 0 = cs.getD j 0 → i = j) ∧ (∀ j, j < 28 → cs.getD j 0 ≠ U) ∧ (∀ j, j < 28 → cs.getD j 0 ≠ M) ∧ U ≠ M := by
  have len : (U :: M :: cs).length = 30 := by rw [List.length_cons, List.length_cons, hl]
  refine ⟨fun i j hi hj e => ?_, fun j hj e => ?_, fun j hj e => ?_, fun e => ?_⟩
  · have := addrB_get h (i + 2) (j + 2) (by omega) (by omega) e
    omega
  · have := addrB_get h (j + 2) 0 (by omega) (by omega) e
    omega
  · have := addrB_get h (j + 2) 1 (by omega) (by omega) e
    omega
  · have := addrB_get h 0 1 (by omega) (by omega) e
    omega
end
/-! ### what the top has written, the head -/
theorem all_mk {l : PySem.W.OpenLaw} {w : World} {K : PySem.W.Frag} {h : Heap} {mg : Str → Option Value} {fa f1 f2 f3 f4 f5 f6 f7 f8 f9 f10 f11 : Addr} (X : K.In h) (G : h.Ns mainGlobals mg) (hfa : mg "law" = some (.ref fa))
    {od1 an1 od2 an2 od3 an3 od4 an4 od5 an5 od6 an6 od7 an7 od8 an8 od9 an9 od10 an10 od11 an11 : Option Addr} {sl1 sl2 sl3 sl4 sl5 sl6 sl7 sl8 sl9 sl10 sl11 : Array (Option Value)} {oc1 kV1 dc1 pm1 cd1 ct1 oc2 kV2 dc2 pm2 cd2 ct2 oc3 kV3 dc3 pm3 cd3 ct3 oc4 kV4 dc4 pm4 cd4 ct4 oc5 kV5 dc5 pm5 cd5 ct5 oc6 kV6 dc6 pm6 cd6 ct6 oc7 kV7 dc7 pm7 cd7 ct7 oc8 kV8 dc8 pm8 cd8 ct8 oc9 kV9 dc9 pm9 cd9 ct9 oc10 kV10 dc10 pm10 cd10 ct10 oc11 kV11 dc11 pm11 cd11 ct11 : Value}
    (a1 : PySem.W.nsIn K mainGlobals "_law_bag" = some (some (.ref f1))) (l1 : K.lookup f1 = some ⟨oc1, od1, .func (PySem.W.fnOf "_law_bag" "_law_bag" (defArgs sBag) (defBody sBag) (defScope sBag) .none kV1 dc1 pm1 an1 cd1 ct1), sl1⟩) (c1 : PySem.W.codeIn K cd1 "_law_bag" = true) (k1 : PySem.W.keepIn K (.ref f1) = true)
    (a2 : PySem.W.nsIn K mainGlobals "_law_pull" = some (some (.ref f2))) (l2 : K.lookup f2 = some ⟨oc2, od2, .func (PySem.W.fnOf "_law_pull" "_law_pull" (defArgs sPull) (defBody sPull) (defScope sPull) .none kV2 dc2 pm2 an2 cd2 ct2), sl2⟩) (c2 : PySem.W.codeIn K cd2 "_law_pull" = true) (k2 : PySem.W.keepIn K (.ref f2) = true)
    (a3 : PySem.W.nsIn K mainGlobals "_law_any" = some (some (.ref f3))) (l3 : K.lookup f3 = some ⟨oc3, od3, .func (PySem.W.fnOf "_law_any" "_law_any" (defArgs sAny) (defBody sAny) (defScope sAny) .none kV3 dc3 pm3 an3 cd3 ct3), sl3⟩) (c3 : PySem.W.codeIn K cd3 "_law_any" = true) (k3 : PySem.W.keepIn K (.ref f3) = true)
    (a4 : PySem.W.nsIn K mainGlobals "_law_same" = some (some (.ref f4))) (l4 : K.lookup f4 = some ⟨oc4, od4, .func (PySem.W.fnOf "_law_same" "_law_same" (defArgs sSame) (defBody sSame) (defScope sSame) .none kV4 dc4 pm4 an4 cd4 ct4), sl4⟩) (c4 : PySem.W.codeIn K cd4 "_law_same" = true) (k4 : PySem.W.keepIn K (.ref f4) = true)
    (a5 : PySem.W.nsIn K mainGlobals "_law_odd" = some (some (.ref f5))) (l5 : K.lookup f5 = some ⟨oc5, od5, .func (PySem.W.fnOf "_law_odd" "_law_odd" (defArgs sOdd) (defBody sOdd) (defScope sOdd) .none kV5 dc5 pm5 an5 cd5 ct5), sl5⟩) (c5 : PySem.W.codeIn K cd5 "_law_odd" = true) (k5 : PySem.W.keepIn K (.ref f5) = true)
    (a6 : PySem.W.nsIn K mainGlobals "_law_field" = some (some (.ref f6))) (l6 : K.lookup f6 = some ⟨oc6, od6, .func (PySem.W.fnOf "_law_field" "_law_field" (defArgs sField) (defBody sField) (defScope sField) .none kV6 dc6 pm6 an6 cd6 ct6), sl6⟩) (c6 : PySem.W.codeIn K cd6 "_law_field" = true) (k6 : PySem.W.keepIn K (.ref f6) = true)
    (a7 : PySem.W.nsIn K mainGlobals "_law_codes" = some (some (.ref f7))) (l7 : K.lookup f7 = some ⟨oc7, od7, .func (PySem.W.fnOf "_law_codes" "_law_codes" (defArgs sCodes) (defBody sCodes) (defScope sCodes) .none kV7 dc7 pm7 an7 cd7 ct7), sl7⟩) (c7 : PySem.W.codeIn K cd7 "_law_codes" = true) (k7 : PySem.W.keepIn K (.ref f7) = true)
    (a8 : PySem.W.nsIn K mainGlobals "_law_errors" = some (some (.ref f8))) (l8 : K.lookup f8 = some ⟨oc8, od8, .func (PySem.W.fnOf "_law_errors" "_law_errors" (defArgs sErrors) (defBody sErrors) (defScope sErrors) .none kV8 dc8 pm8 an8 cd8 ct8), sl8⟩) (c8 : PySem.W.codeIn K cd8 "_law_errors" = true) (k8 : PySem.W.keepIn K (.ref f8) = true)
    (a9 : PySem.W.nsIn K mainGlobals "_law_classes" = some (some (.ref f9))) (l9 : K.lookup f9 = some ⟨oc9, od9, .func (PySem.W.fnOf "_law_classes" "_law_classes" (defArgs sClasses) (defBody sClasses) (defScope sClasses) .none kV9 dc9 pm9 an9 cd9 ct9), sl9⟩) (c9 : PySem.W.codeIn K cd9 "_law_classes" = true) (k9 : PySem.W.keepIn K (.ref f9) = true)
    (a10 : PySem.W.nsIn K mainGlobals "_law_named_so" = some (some (.ref f10))) (l10 : K.lookup f10 = some ⟨oc10, od10, .func (PySem.W.fnOf "_law_named_so" "_law_named_so" (defArgs sNamed) (defBody sNamed) (defScope sNamed) .none kV10 dc10 pm10 an10 cd10 ct10), sl10⟩) (c10 : PySem.W.codeIn K cd10 "_law_named_so" = true) (k10 : PySem.W.keepIn K (.ref f10) = true)
    (a11 : PySem.W.nsIn K mainGlobals "law" = some (some (.ref f11))) (l11 : K.lookup f11 = some ⟨oc11, od11, .func (PySem.W.fnOf "law" "law" (defArgs sLaw) (defBody sLaw) (defScope sLaw) .none kV11 dc11 pm11 an11 cd11 ct11), sl11⟩) (c11 : PySem.W.codeIn K cd11 "law" = true) (k11 : PySem.W.keepIn K (.ref f11) = true)
    (z1 : PySem.W.nsIn K mainGlobals "isinstance" = some none)
    (z2 : PySem.W.nsIn K mainGlobals "str" = some none)
    (z3 : PySem.W.nsIn K mainGlobals "int" = some none)
    (z4 : PySem.W.nsIn K mainGlobals "bool" = some none)
    (z5 : PySem.W.nsIn K mainGlobals "len" = some none)
    (z6 : PySem.W.nsIn K mainGlobals "all" = some none)
    (z7 : PySem.W.nsIn K mainGlobals "list" = some none)
    (z8 : PySem.W.nsIn K mainGlobals "tuple" = some none)
    (z9 : PySem.W.nsIn K mainGlobals "zip" = some none)
    (z10 : PySem.W.nsIn K mainGlobals "range" = some none)
    (z11 : PySem.W.nsIn K mainGlobals "ValueError" = some none)
    (z12 : PySem.W.nsIn K mainGlobals "LookupError" = some none)
    (z13 : PySem.W.nsIn K mainGlobals "IndexError" = some none)
    {U MM C0 C1 C2 C3 C4 C5 C6 C7 C8 C9 C10 C11 C12 C13 C14 C15 C16 C17 C18 C19 C20 C21 C22 C23 C24 C25 C26 C27 e0 e1 e2 e3 e4 e5 e6 e7 e8 e9 e10 e11 e12 e13 e14 e15 e16 e17 e18 e19 e20 e21 e22 e23 e24 e25 e26 e27 : Addr} {unm uq : Str} {uN : Addr} {ubs usub : List Value} {usn : List Str} {uab : Bool} {ucol : Option Bool} {udd : Option Addr} {uk0 uk1 uk2 uk3 uk5 : Option Value} {mnm mq : Str} {mN : Addr} {mbs msub : List Value} {msn : List Str} {mab : Bool} {mcol : Option Bool} {mdd : Option Addr} {mk0 mk1 mk2 mk3 mk5 : Option Value} {ubm mbm : List Value} {unid mnid : String}
    (uU : PySem.W.nsIn K mainGlobals "UnopenedError" = some (some (.ref U))) (lU : K.lookup U = some (excClassObj unm uq U uN ubs ubm true usn usub uab ucol udd uk0 uk1 uk2 uk3 uk5 unid)) (uM : PySem.W.nsIn K mainGlobals "Missing" = some (some (.ref MM))) (lM : K.lookup MM = some (excClassObj mnm mq MM mN mbs mbm true msn msub mab mcol mdd mk0 mk1 mk2 mk3 mk5 mnid))
    (h0 : CX K C0 e0 "InvalidName" "InvalidName.__init__" sI0 (.ref U :: XV.tailVE) "ValueError.__new__" ["value"])
    (h1 : CX K C1 e1 "InvalidNumber" "InvalidNumber.__init__" sI1 (.ref U :: XV.tailVE) "ValueError.__new__" ["value"])
    (h2 : CX K C2 e2 "InvalidSeries" "InvalidSeries.__init__" sI2 (.ref U :: XV.tailVE) "ValueError.__new__" [])
    (h3 : CX K C3 e3 "NoInverse" "NoInverse.__init__" sI3 (.ref U :: XV.tailVE) "ValueError.__new__" [])
    (h4 : CX K C4 e4 "TooEarly" "TooEarly.__init__" sI4 (.ref U :: XV.tailVE) "ValueError.__new__" ["order"])
    (h5 : CX K C5 e5 "InvalidPart" "InvalidPart.__init__" sI5 (.ref U :: XV.tailVE) "ValueError.__new__" ["at"])
    (h6 : CX K C6 e6 "InvalidOuts" "InvalidOuts.__init__" sI6 (.ref U :: XV.tailVE) "ValueError.__new__" ["at"])
    (h7 : CX K C7 e7 "InvalidUse" "InvalidUse.__init__" sI7 (.ref U :: XV.tailVE) "ValueError.__new__" ["at"])
    (h8 : CX K C8 e8 "InvalidText" "InvalidText.__init__" sI8 (.ref U :: XV.tailVE) "ValueError.__new__" ["word"])
    (h9 : CX K C9 e9 "InvalidForm" "InvalidForm.__init__" sI9 (.ref U :: XV.tailVE) "ValueError.__new__" [])
    (h10 : CX K C10 e10 "InvalidSheet" "InvalidSheet.__init__" sI10 (.ref U :: XV.tailVE) "ValueError.__new__" ["at"])
    (h11 : CX K C11 e11 "InvalidTable" "InvalidTable.__init__" sI11 (.ref U :: XV.tailVE) "ValueError.__new__" ["key"])
    (h12 : CX K C12 e12 "InvalidFact" "InvalidFact.__init__" sI12 (.ref U :: XV.tailVE) "ValueError.__new__" ["at"])
    (h13 : CX K C13 e13 "InvalidDeed" "InvalidDeed.__init__" sI13 (.ref U :: XV.tailVE) "ValueError.__new__" ["at"])
    (h14 : CX K C14 e14 "InvalidCommand" "InvalidCommand.__init__" sI14 (.ref U :: XV.tailVE) "ValueError.__new__" ["at"])
    (h15 : CX K C15 e15 "InvalidPage" "InvalidPage.__init__" sI15 (.ref U :: XV.tailVE) "ValueError.__new__" ["line"])
    (h16 : CX K C16 e16 "InvalidLimit" "InvalidLimit.__init__" sI16 (.ref U :: XV.tailVE) "ValueError.__new__" ["value"])
    (h17 : CX K C17 e17 "DuplicateName" "DuplicateName.__init__" sI17 (.ref U :: XV.tailVE) "ValueError.__new__" ["name"])
    (h18 : CX K C18 e18 "UnlikeKinds" "UnlikeKinds.__init__" sI18 (.ref U :: XV.tailVE) "ValueError.__new__" ["name"])
    (h19 : CX K C19 e19 "UnlikeOuts" "UnlikeOuts.__init__" sI19 (.ref U :: XV.tailVE) "ValueError.__new__" [])
    (h20 : CX K C20 e20 "Ring" "Ring.__init__" sI20 (.ref U :: XV.tailVE) "ValueError.__new__" ["place"])
    (h21 : CX K C21 e21 "Circular" "Circular.__init__" sI21 (.ref U :: XV.tailVE) "ValueError.__new__" ["piece"])
    (h22 : CX K C22 e22 "InUse" "InUse.__init__" sI22 (.ref U :: XV.tailVE) "ValueError.__new__" ["piece", "user"])
    (h23 : CX K C23 e23 "Full" "Full.__init__" sI23 (.ref U :: XV.tailVE) "ValueError.__new__" ["limit"])
    (h24 : CX K C24 e24 "TooMany" "TooMany.__init__" sI24 (.ref U :: XV.tailVE) "ValueError.__new__" ["subject", "most"])
    (h25 : CX K C25 e25 "UnknownName" "UnknownName.__init__" sI25 (.ref MM :: XV.tailLE) "LookupError.__new__" ["name"])
    (h26 : CX K C26 e26 "UnknownPiece" "UnknownPiece.__init__" sI26 (.ref MM :: XV.tailLE) "LookupError.__new__" ["piece"])
    (h27 : CX K C27 e27 "NothingLeft" "NothingLeft.__init__" sI27 XV.tailIE "IndexError.__new__" [])
    (hn : PySem.W.specialIn K (.builtin "object.__class__") "__get__" = some (some (.builtin "getset_descriptor.__get__"))) (ht : PySem.W.takesIn K (.builtin "object.__class__") = some true) (nd : addrB (U :: MM :: [C0, C1, C2, C3, C4, C5, C6, C7, C8, C9, C10, C11, C12, C13, C14, C15, C16, C17, C18, C19, C20, C21, C22, C23, C24, C25, C26, C27]) = true)
    : ∃ fd : FuncData, (∀ (s : Shared) (v : Value), BindsTo s fd ⟨[v], []⟩ [("_law_script", v)]) ∧ ∀ base : Heap, K.In base → base.Ns mainGlobals mg → FnOk l.prog w K mg base CX0 6 fa fd ["_law_script"] (spLaw K) := by
  have e := hfa.symm.trans (PySem.W.mg_of X G a11)
  cases e
  have F1 := fun_mk (st := sBag) l1 c1 k1
  have b1 := F1.binds (ps := ["_law_script"]) fun _ _ _ _ _ _ us hl => match us, hl with | [_], _ => rfl
  have m1 := PySem.W.mg_of X G a1
  have F2 := fun_mk (st := sPull) l2 c2 k2
  have b2 := F2.binds (ps := ["_law_bag_here", "_law_many"]) fun _ _ _ _ _ _ us hl => match us, hl with | [_, _], _ => rfl
  have m2 := PySem.W.mg_of X G a2
  have F3 := fun_mk (st := sAny) l3 c3 k3
  have b3 := F3.binds (ps := ["_law_bag_here", "_law_things"]) fun _ _ _ _ _ _ us hl => match us, hl with | [_, _], _ => rfl
  have m3 := PySem.W.mg_of X G a3
  have F4 := fun_mk (st := sSame) l4 c4 k4
  have b4 := F4.binds (ps := ["_law_found", "_law_due"]) fun _ _ _ _ _ _ us hl => match us, hl with | [_, _], _ => rfl
  have m4 := PySem.W.mg_of X G a4
  have F5 := fun_mk (st := sOdd) l5 c5 k5
  have b5 := F5.binds (ps := ["_law_bag_here", "_law_more"]) fun _ _ _ _ _ _ us hl => match us, hl with | [_, _], _ => rfl
  have m5 := PySem.W.mg_of X G a5
  have F6 := fun_mk (st := sField) l6 c6 k6
  have b6 := F6.binds (ps := ["_law_e"]) fun _ _ _ _ _ _ us hl => match us, hl with | [_], _ => rfl
  have m6 := PySem.W.mg_of X G a6
  have F7 := fun_mk (st := sCodes) l7 c7 k7
  have b7 := F7.binds (ps := []) fun _ _ _ _ _ _ us hl => match us, hl with | [], _ => rfl
  have m7 := PySem.W.mg_of X G a7
  have F8 := fun_mk (st := sErrors) l8 c8 k8
  have b8 := F8.binds (ps := ["_law_a", "_law_b"]) fun _ _ _ _ _ _ us hl => match us, hl with | [_, _], _ => rfl
  have m8 := PySem.W.mg_of X G a8
  have F9 := fun_mk (st := sClasses) l9 c9 k9
  have b9 := F9.binds (ps := ["_law_e"]) fun _ _ _ _ _ _ us hl => match us, hl with | [_], _ => rfl
  have m9 := PySem.W.mg_of X G a9
  have F10 := fun_mk (st := sNamed) l10 c10 k10
  have b10 := F10.binds (ps := ["_law_a", "_law_b"]) fun _ _ _ _ _ _ us hl => match us, hl with | [_, _], _ => rfl
  have m10 := PySem.W.mg_of X G a10
  have F11 := fun_mk (st := sLaw) l11 c11 k11
  have m11 := PySem.W.mg_of X G a11
  have mz_isinstance := PySem.W.mg_none_of X G z1
  have mz_str := PySem.W.mg_none_of X G z2
  have mz_int := PySem.W.mg_none_of X G z3
  have mz_bool := PySem.W.mg_none_of X G z4
  have mz_len := PySem.W.mg_none_of X G z5
  have mz_all := PySem.W.mg_none_of X G z6
  have mz_list := PySem.W.mg_none_of X G z7
  have mz_tuple := PySem.W.mg_none_of X G z8
  have mz_zip := PySem.W.mg_none_of X G z9
  have mz_range := PySem.W.mg_none_of X G z10
  have mz_ValueError := PySem.W.mg_none_of X G z11
  have mz_LookupError := PySem.W.mg_none_of X G z12
  have mz_IndexError := PySem.W.mg_none_of X G z13
  refine ⟨PySem.W.fnOf "law" "law" (defArgs sLaw) (defBody sLaw) (defScope sLaw) .none kV11 dc11 pm11 an11 cd11 ct11, fun s v => .of_eq rfl, fun base _ _ => ?_⟩
  have S : SameTxt mg := ⟨mz_isinstance, mz_list, mz_tuple, mz_len, mz_all, mz_zip, mz_bool, mz_int, mz_str⟩
  obtain ⟨g0a, g0b, g0s, g0k, g0i, g0t, fd0, G0⟩ := h0
  have T0 := g0b.oex F.excBase_ValueError XV.tailVE_ok rfl rfl g0s g0k
  have q0 := PySem.W.mg_of X G g0a
  obtain ⟨g1a, g1b, g1s, g1k, g1i, g1t, fd1, G1⟩ := h1
  have T1 := g1b.oex F.excBase_ValueError XV.tailVE_ok rfl rfl g1s g1k
  have q1 := PySem.W.mg_of X G g1a
  obtain ⟨g2a, g2b, g2s, g2k, g2i, g2t, fd2, G2⟩ := h2
  have T2 := g2b.oex F.excBase_ValueError XV.tailVE_ok rfl rfl g2s g2k
  have q2 := PySem.W.mg_of X G g2a
  obtain ⟨g3a, g3b, g3s, g3k, g3i, g3t, fd3, G3⟩ := h3
  have T3 := g3b.oex F.excBase_ValueError XV.tailVE_ok rfl rfl g3s g3k
  have q3 := PySem.W.mg_of X G g3a
  obtain ⟨g4a, g4b, g4s, g4k, g4i, g4t, fd4, G4⟩ := h4
  have T4 := g4b.oex F.excBase_ValueError XV.tailVE_ok rfl rfl g4s g4k
  have q4 := PySem.W.mg_of X G g4a
  obtain ⟨g5a, g5b, g5s, g5k, g5i, g5t, fd5, G5⟩ := h5
  have T5 := g5b.oex F.excBase_ValueError XV.tailVE_ok rfl rfl g5s g5k
  have q5 := PySem.W.mg_of X G g5a
  obtain ⟨g6a, g6b, g6s, g6k, g6i, g6t, fd6, G6⟩ := h6
  have T6 := g6b.oex F.excBase_ValueError XV.tailVE_ok rfl rfl g6s g6k
  have q6 := PySem.W.mg_of X G g6a
  obtain ⟨g7a, g7b, g7s, g7k, g7i, g7t, fd7, G7⟩ := h7
  have T7 := g7b.oex F.excBase_ValueError XV.tailVE_ok rfl rfl g7s g7k
  have q7 := PySem.W.mg_of X G g7a
  obtain ⟨g8a, g8b, g8s, g8k, g8i, g8t, fd8, G8⟩ := h8
  have T8 := g8b.oex F.excBase_ValueError XV.tailVE_ok rfl rfl g8s g8k
  have q8 := PySem.W.mg_of X G g8a
  obtain ⟨g9a, g9b, g9s, g9k, g9i, g9t, fd9, G9⟩ := h9
  have T9 := g9b.oex F.excBase_ValueError XV.tailVE_ok rfl rfl g9s g9k
  have q9 := PySem.W.mg_of X G g9a
  obtain ⟨g10a, g10b, g10s, g10k, g10i, g10t, fd10, G10⟩ := h10
  have T10 := g10b.oex F.excBase_ValueError XV.tailVE_ok rfl rfl g10s g10k
  have q10 := PySem.W.mg_of X G g10a
  obtain ⟨g11a, g11b, g11s, g11k, g11i, g11t, fd11, G11⟩ := h11
  have T11 := g11b.oex F.excBase_ValueError XV.tailVE_ok rfl rfl g11s g11k
  have q11 := PySem.W.mg_of X G g11a
  obtain ⟨g12a, g12b, g12s, g12k, g12i, g12t, fd12, G12⟩ := h12
  have T12 := g12b.oex F.excBase_ValueError XV.tailVE_ok rfl rfl g12s g12k
  have q12 := PySem.W.mg_of X G g12a
  obtain ⟨g13a, g13b, g13s, g13k, g13i, g13t, fd13, G13⟩ := h13
  have T13 := g13b.oex F.excBase_ValueError XV.tailVE_ok rfl rfl g13s g13k
  have q13 := PySem.W.mg_of X G g13a
  obtain ⟨g14a, g14b, g14s, g14k, g14i, g14t, fd14, G14⟩ := h14
  have T14 := g14b.oex F.excBase_ValueError XV.tailVE_ok rfl rfl g14s g14k
  have q14 := PySem.W.mg_of X G g14a
  obtain ⟨g15a, g15b, g15s, g15k, g15i, g15t, fd15, G15⟩ := h15
  have T15 := g15b.oex F.excBase_ValueError XV.tailVE_ok rfl rfl g15s g15k
  have q15 := PySem.W.mg_of X G g15a
  obtain ⟨g16a, g16b, g16s, g16k, g16i, g16t, fd16, G16⟩ := h16
  have T16 := g16b.oex F.excBase_ValueError XV.tailVE_ok rfl rfl g16s g16k
  have q16 := PySem.W.mg_of X G g16a
  obtain ⟨g17a, g17b, g17s, g17k, g17i, g17t, fd17, G17⟩ := h17
  have T17 := g17b.oex F.excBase_ValueError XV.tailVE_ok rfl rfl g17s g17k
  have q17 := PySem.W.mg_of X G g17a
  obtain ⟨g18a, g18b, g18s, g18k, g18i, g18t, fd18, G18⟩ := h18
  have T18 := g18b.oex F.excBase_ValueError XV.tailVE_ok rfl rfl g18s g18k
  have q18 := PySem.W.mg_of X G g18a
  obtain ⟨g19a, g19b, g19s, g19k, g19i, g19t, fd19, G19⟩ := h19
  have T19 := g19b.oex F.excBase_ValueError XV.tailVE_ok rfl rfl g19s g19k
  have q19 := PySem.W.mg_of X G g19a
  obtain ⟨g20a, g20b, g20s, g20k, g20i, g20t, fd20, G20⟩ := h20
  have T20 := g20b.oex F.excBase_ValueError XV.tailVE_ok rfl rfl g20s g20k
  have q20 := PySem.W.mg_of X G g20a
  obtain ⟨g21a, g21b, g21s, g21k, g21i, g21t, fd21, G21⟩ := h21
  have T21 := g21b.oex F.excBase_ValueError XV.tailVE_ok rfl rfl g21s g21k
  have q21 := PySem.W.mg_of X G g21a
  obtain ⟨g22a, g22b, g22s, g22k, g22i, g22t, fd22, G22⟩ := h22
  have T22 := g22b.oex F.excBase_ValueError XV.tailVE_ok rfl rfl g22s g22k
  have q22 := PySem.W.mg_of X G g22a
  obtain ⟨g23a, g23b, g23s, g23k, g23i, g23t, fd23, G23⟩ := h23
  have T23 := g23b.oex F.excBase_ValueError XV.tailVE_ok rfl rfl g23s g23k
  have q23 := PySem.W.mg_of X G g23a
  obtain ⟨g24a, g24b, g24s, g24k, g24i, g24t, fd24, G24⟩ := h24
  have T24 := g24b.oex F.excBase_ValueError XV.tailVE_ok rfl rfl g24s g24k
  have q24 := PySem.W.mg_of X G g24a
  obtain ⟨g25a, g25b, g25s, g25k, g25i, g25t, fd25, G25⟩ := h25
  have T25 := g25b.oex F.excBase_LookupError XV.tailLE_ok rfl rfl g25s g25k
  have q25 := PySem.W.mg_of X G g25a
  obtain ⟨g26a, g26b, g26s, g26k, g26i, g26t, fd26, G26⟩ := h26
  have T26 := g26b.oex F.excBase_LookupError XV.tailLE_ok rfl rfl g26s g26k
  have q26 := PySem.W.mg_of X G g26a
  obtain ⟨g27a, g27b, g27s, g27k, g27i, g27t, fd27, G27⟩ := h27
  have T27 := g27b.oex F.excBase_IndexError XV.tailIE_ok rfl rfl g27s g27k
  have q27 := PySem.W.mg_of X G g27a
  have hC : ∀ j, j < 28 → CF K (([C0, C1, C2, C3, C4, C5, C6, C7, C8, C9, C10, C11, C12, C13, C14, C15, C16, C17, C18, C19, C20, C21, C22, C23, C24, C25, C26, C27] : List Addr).getD j 0) (bmOf U MM j) (nidOf j) (attrsOf j) := fun j hj => by
    match j, hj with
    | 0, _ => exact g0b
    | 1, _ => exact g1b
    | 2, _ => exact g2b
    | 3, _ => exact g3b
    | 4, _ => exact g4b
    | 5, _ => exact g5b
    | 6, _ => exact g6b
    | 7, _ => exact g7b
    | 8, _ => exact g8b
    | 9, _ => exact g9b
    | 10, _ => exact g10b
    | 11, _ => exact g11b
    | 12, _ => exact g12b
    | 13, _ => exact g13b
    | 14, _ => exact g14b
    | 15, _ => exact g15b
    | 16, _ => exact g16b
    | 17, _ => exact g17b
    | 18, _ => exact g18b
    | 19, _ => exact g19b
    | 20, _ => exact g20b
    | 21, _ => exact g21b
    | 22, _ => exact g22b
    | 23, _ => exact g23b
    | 24, _ => exact g24b
    | 25, _ => exact g25b
    | 26, _ => exact g26b
    | 27, _ => exact g27b
    | n + 28, h => exact absurd h (by omega)
  have hM : ∀ j, j < 28 → mg (codeOf j) = some (.ref (([C0, C1, C2, C3, C4, C5, C6, C7, C8, C9, C10, C11, C12, C13, C14, C15, C16, C17, C18, C19, C20, C21, C22, C23, C24, C25, C26, C27] : List Addr).getD j 0)) := fun j hj => by
    match j, hj with
    | 0, _ => exact q0
    | 1, _ => exact q1
    | 2, _ => exact q2
    | 3, _ => exact q3
    | 4, _ => exact q4
    | 5, _ => exact q5
    | 6, _ => exact q6
    | 7, _ => exact q7
    | 8, _ => exact q8
    | 9, _ => exact q9
    | 10, _ => exact q10
    | 11, _ => exact q11
    | 12, _ => exact q12
    | 13, _ => exact q13
    | 14, _ => exact q14
    | 15, _ => exact q15
    | 16, _ => exact q16
    | 17, _ => exact q17
    | 18, _ => exact q18
    | 19, _ => exact q19
    | 20, _ => exact q20
    | 21, _ => exact q21
    | 22, _ => exact q22
    | 23, _ => exact q23
    | 24, _ => exact q24
    | 25, _ => exact q25
    | 26, _ => exact q26
    | 27, _ => exact q27
    | n + 28, h => exact absurd h (by omega)
  obtain ⟨inj, nU, nM, nUM⟩ := addr_ok nd rfl
  have FA : Fam K mg (fun j => ([C0, C1, C2, C3, C4, C5, C6, C7, C8, C9, C10, C11, C12, C13, C14, C15, C16, C17, C18, C19, C20, C21, C22, C23, C24, C25, C26, C27] : List Addr).getD j 0) U MM := fam_of hC hM (PySem.W.mg_of X G uU) (PySem.W.mg_of X G uM) (cl_some lU) (cl_type lU) (cl_some lM) (cl_type lM) hn ht inj nU nM nUM
  have AX : AllX l.prog w K mg base (fun j => ([C0, C1, C2, C3, C4, C5, C6, C7, C8, C9, C10, C11, C12, C13, C14, C15, C16, C17, C18, C19, C20, C21, C22, C23, C24, C25, C26, C27] : List Addr).getD j 0) := by
    refine ⟨?_, ?_, ?_, ?_, ?_, ?_, ?_, ?_, ?_, ?_, ?_, ?_, ?_, ?_, ?_, ?_, ?_, ?_, ?_, ?_, ?_, ?_, ?_, ?_, ?_, ?_, ?_, ?_⟩
    · exact ⟨e0, fd0, ⟨T0, g0i, g0t, ok_i0 G0 T0 g0b.2.2.2.2.1 (g0b.2.2.2.2.2 _ (by simp)), q0⟩, (Fun.kbn G0 2 [] (fun us ws => us ++ ws) (fun vs zs => vs ++ zs) (fun r rz => r.append rz) fun _ _ _ _ _ _ us ws h1 h2 => match us, ws, h1, h2 with | [_, _], [], _, _ => rfl), (Fun.kbn G0 1 ["value"] (fun us ws => us ++ ws) (fun vs zs => vs ++ zs) (fun r rz => r.append rz) fun _ _ _ _ _ _ us ws h1 h2 => match us, ws, h1, h2 with | [_], [_], _, _ => rfl)⟩
    · exact ⟨e1, fd1, ⟨T1, g1i, g1t, ok_i1 G1 T1 g1b.2.2.2.2.1 (g1b.2.2.2.2.2 _ (by simp)), q1⟩, (Fun.kbn G1 2 [] (fun us ws => us ++ ws) (fun vs zs => vs ++ zs) (fun r rz => r.append rz) fun _ _ _ _ _ _ us ws h1 h2 => match us, ws, h1, h2 with | [_, _], [], _, _ => rfl), (Fun.kbn G1 1 ["value"] (fun us ws => us ++ ws) (fun vs zs => vs ++ zs) (fun r rz => r.append rz) fun _ _ _ _ _ _ us ws h1 h2 => match us, ws, h1, h2 with | [_], [_], _, _ => rfl)⟩
    · exact ⟨e2, fd2, ⟨T2, g2i, g2t, ok_i2 G2 T2 g2b.2.2.2.2.1, q2⟩, (Fun.kbn G2 1 [] (fun us ws => us ++ ws) (fun vs zs => vs ++ zs) (fun r rz => r.append rz) fun _ _ _ _ _ _ us ws h1 h2 => match us, ws, h1, h2 with | [_], [], _, _ => rfl)⟩
    · exact ⟨e3, fd3, ⟨T3, g3i, g3t, ok_i3 G3 T3 g3b.2.2.2.2.1, q3⟩, (Fun.kbn G3 1 [] (fun us ws => us ++ ws) (fun vs zs => vs ++ zs) (fun r rz => r.append rz) fun _ _ _ _ _ _ us ws h1 h2 => match us, ws, h1, h2 with | [_], [], _, _ => rfl)⟩
    · exact ⟨e4, fd4, ⟨T4, g4i, g4t, ok_i4 G4 T4 g4b.2.2.2.2.1 (g4b.2.2.2.2.2 _ (by simp)), q4⟩, (Fun.kbn G4 2 [] (fun us ws => us ++ ws) (fun vs zs => vs ++ zs) (fun r rz => r.append rz) fun _ _ _ _ _ _ us ws h1 h2 => match us, ws, h1, h2 with | [_, _], [], _, _ => rfl), (Fun.kbn G4 1 ["order"] (fun us ws => us ++ ws) (fun vs zs => vs ++ zs) (fun r rz => r.append rz) fun _ _ _ _ _ _ us ws h1 h2 => match us, ws, h1, h2 with | [_], [_], _, _ => rfl)⟩
    · exact ⟨e5, fd5, ⟨T5, g5i, g5t, ok_i5 G5 T5 g5b.2.2.2.2.1 (g5b.2.2.2.2.2 _ (by simp)), q5⟩, (Fun.kbn G5 2 [] (fun us ws => us ++ ws) (fun vs zs => vs ++ zs) (fun r rz => r.append rz) fun _ _ _ _ _ _ us ws h1 h2 => match us, ws, h1, h2 with | [_, _], [], _, _ => rfl), (Fun.kbn G5 1 ["at"] (fun us ws => us ++ ws) (fun vs zs => vs ++ zs) (fun r rz => r.append rz) fun _ _ _ _ _ _ us ws h1 h2 => match us, ws, h1, h2 with | [_], [_], _, _ => rfl)⟩
    · exact ⟨e6, fd6, ⟨T6, g6i, g6t, ok_i6 G6 T6 g6b.2.2.2.2.1 (g6b.2.2.2.2.2 _ (by simp)), q6⟩, (Fun.kbn G6 2 [] (fun us ws => us ++ ws) (fun vs zs => vs ++ zs) (fun r rz => r.append rz) fun _ _ _ _ _ _ us ws h1 h2 => match us, ws, h1, h2 with | [_, _], [], _, _ => rfl), (Fun.kbn G6 1 ["at"] (fun us ws => us ++ ws) (fun vs zs => vs ++ zs) (fun r rz => r.append rz) fun _ _ _ _ _ _ us ws h1 h2 => match us, ws, h1, h2 with | [_], [_], _, _ => rfl)⟩
    · exact ⟨e7, fd7, ⟨T7, g7i, g7t, ok_i7 G7 T7 g7b.2.2.2.2.1 (g7b.2.2.2.2.2 _ (by simp)), q7⟩, (Fun.kbn G7 2 [] (fun us ws => us ++ ws) (fun vs zs => vs ++ zs) (fun r rz => r.append rz) fun _ _ _ _ _ _ us ws h1 h2 => match us, ws, h1, h2 with | [_, _], [], _, _ => rfl), (Fun.kbn G7 1 ["at"] (fun us ws => us ++ ws) (fun vs zs => vs ++ zs) (fun r rz => r.append rz) fun _ _ _ _ _ _ us ws h1 h2 => match us, ws, h1, h2 with | [_], [_], _, _ => rfl)⟩
    · exact ⟨e8, fd8, ⟨T8, g8i, g8t, ok_i8 G8 T8 g8b.2.2.2.2.1 (g8b.2.2.2.2.2 _ (by simp)), q8⟩, (Fun.kbn G8 2 [] (fun us ws => us ++ ws) (fun vs zs => vs ++ zs) (fun r rz => r.append rz) fun _ _ _ _ _ _ us ws h1 h2 => match us, ws, h1, h2 with | [_, _], [], _, _ => rfl), (Fun.kbn G8 1 ["word"] (fun us ws => us ++ ws) (fun vs zs => vs ++ zs) (fun r rz => r.append rz) fun _ _ _ _ _ _ us ws h1 h2 => match us, ws, h1, h2 with | [_], [_], _, _ => rfl)⟩
    · exact ⟨e9, fd9, ⟨T9, g9i, g9t, ok_i9 G9 T9 g9b.2.2.2.2.1, q9⟩, (Fun.kbn G9 1 [] (fun us ws => us ++ ws) (fun vs zs => vs ++ zs) (fun r rz => r.append rz) fun _ _ _ _ _ _ us ws h1 h2 => match us, ws, h1, h2 with | [_], [], _, _ => rfl)⟩
    · exact ⟨e10, fd10, ⟨T10, g10i, g10t, ok_i10 G10 T10 g10b.2.2.2.2.1 (g10b.2.2.2.2.2 _ (by simp)), q10⟩, (Fun.kbn G10 2 [] (fun us ws => us ++ ws) (fun vs zs => vs ++ zs) (fun r rz => r.append rz) fun _ _ _ _ _ _ us ws h1 h2 => match us, ws, h1, h2 with | [_, _], [], _, _ => rfl), (Fun.kbn G10 1 ["at"] (fun us ws => us ++ ws) (fun vs zs => vs ++ zs) (fun r rz => r.append rz) fun _ _ _ _ _ _ us ws h1 h2 => match us, ws, h1, h2 with | [_], [_], _, _ => rfl)⟩
    · exact ⟨e11, fd11, ⟨T11, g11i, g11t, ok_i11 G11 T11 g11b.2.2.2.2.1 (g11b.2.2.2.2.2 _ (by simp)), q11⟩, (Fun.kbn G11 2 [] (fun us ws => us ++ ws) (fun vs zs => vs ++ zs) (fun r rz => r.append rz) fun _ _ _ _ _ _ us ws h1 h2 => match us, ws, h1, h2 with | [_, _], [], _, _ => rfl), (Fun.kbn G11 1 ["key"] (fun us ws => us ++ ws) (fun vs zs => vs ++ zs) (fun r rz => r.append rz) fun _ _ _ _ _ _ us ws h1 h2 => match us, ws, h1, h2 with | [_], [_], _, _ => rfl)⟩
    · exact ⟨e12, fd12, ⟨T12, g12i, g12t, ok_i12 G12 T12 g12b.2.2.2.2.1 (g12b.2.2.2.2.2 _ (by simp)), q12⟩, (Fun.kbn G12 2 [] (fun us ws => us ++ ws) (fun vs zs => vs ++ zs) (fun r rz => r.append rz) fun _ _ _ _ _ _ us ws h1 h2 => match us, ws, h1, h2 with | [_, _], [], _, _ => rfl), (Fun.kbn G12 1 ["at"] (fun us ws => us ++ ws) (fun vs zs => vs ++ zs) (fun r rz => r.append rz) fun _ _ _ _ _ _ us ws h1 h2 => match us, ws, h1, h2 with | [_], [_], _, _ => rfl)⟩
    · exact ⟨e13, fd13, ⟨T13, g13i, g13t, ok_i13 G13 T13 g13b.2.2.2.2.1 (g13b.2.2.2.2.2 _ (by simp)), q13⟩, (Fun.kbn G13 2 [] (fun us ws => us ++ ws) (fun vs zs => vs ++ zs) (fun r rz => r.append rz) fun _ _ _ _ _ _ us ws h1 h2 => match us, ws, h1, h2 with | [_, _], [], _, _ => rfl), (Fun.kbn G13 1 ["at"] (fun us ws => us ++ ws) (fun vs zs => vs ++ zs) (fun r rz => r.append rz) fun _ _ _ _ _ _ us ws h1 h2 => match us, ws, h1, h2 with | [_], [_], _, _ => rfl)⟩
    · exact ⟨e14, fd14, ⟨T14, g14i, g14t, ok_i14 G14 T14 g14b.2.2.2.2.1 (g14b.2.2.2.2.2 _ (by simp)), q14⟩, (Fun.kbn G14 2 [] (fun us ws => us ++ ws) (fun vs zs => vs ++ zs) (fun r rz => r.append rz) fun _ _ _ _ _ _ us ws h1 h2 => match us, ws, h1, h2 with | [_, _], [], _, _ => rfl), (Fun.kbn G14 1 ["at"] (fun us ws => us ++ ws) (fun vs zs => vs ++ zs) (fun r rz => r.append rz) fun _ _ _ _ _ _ us ws h1 h2 => match us, ws, h1, h2 with | [_], [_], _, _ => rfl)⟩
    · exact ⟨e15, fd15, ⟨T15, g15i, g15t, ok_i15 G15 T15 g15b.2.2.2.2.1 (g15b.2.2.2.2.2 _ (by simp)), q15⟩, (Fun.kbn G15 2 [] (fun us ws => us ++ ws) (fun vs zs => vs ++ zs) (fun r rz => r.append rz) fun _ _ _ _ _ _ us ws h1 h2 => match us, ws, h1, h2 with | [_, _], [], _, _ => rfl), (Fun.kbn G15 1 ["line"] (fun us ws => us ++ ws) (fun vs zs => vs ++ zs) (fun r rz => r.append rz) fun _ _ _ _ _ _ us ws h1 h2 => match us, ws, h1, h2 with | [_], [_], _, _ => rfl)⟩
    · exact ⟨e16, fd16, ⟨T16, g16i, g16t, ok_i16 G16 T16 g16b.2.2.2.2.1 (g16b.2.2.2.2.2 _ (by simp)), q16⟩, (Fun.kbn G16 2 [] (fun us ws => us ++ ws) (fun vs zs => vs ++ zs) (fun r rz => r.append rz) fun _ _ _ _ _ _ us ws h1 h2 => match us, ws, h1, h2 with | [_, _], [], _, _ => rfl), (Fun.kbn G16 1 ["value"] (fun us ws => us ++ ws) (fun vs zs => vs ++ zs) (fun r rz => r.append rz) fun _ _ _ _ _ _ us ws h1 h2 => match us, ws, h1, h2 with | [_], [_], _, _ => rfl)⟩
    · exact ⟨e17, fd17, ⟨T17, g17i, g17t, ok_i17 G17 T17 g17b.2.2.2.2.1 (g17b.2.2.2.2.2 _ (by simp)), q17⟩, (Fun.kbn G17 2 [] (fun us ws => us ++ ws) (fun vs zs => vs ++ zs) (fun r rz => r.append rz) fun _ _ _ _ _ _ us ws h1 h2 => match us, ws, h1, h2 with | [_, _], [], _, _ => rfl), (Fun.kbn G17 1 ["name"] (fun us ws => us ++ ws) (fun vs zs => vs ++ zs) (fun r rz => r.append rz) fun _ _ _ _ _ _ us ws h1 h2 => match us, ws, h1, h2 with | [_], [_], _, _ => rfl)⟩
    · exact ⟨e18, fd18, ⟨T18, g18i, g18t, ok_i18 G18 T18 g18b.2.2.2.2.1 (g18b.2.2.2.2.2 _ (by simp)), q18⟩, (Fun.kbn G18 2 [] (fun us ws => us ++ ws) (fun vs zs => vs ++ zs) (fun r rz => r.append rz) fun _ _ _ _ _ _ us ws h1 h2 => match us, ws, h1, h2 with | [_, _], [], _, _ => rfl), (Fun.kbn G18 1 ["name"] (fun us ws => us ++ ws) (fun vs zs => vs ++ zs) (fun r rz => r.append rz) fun _ _ _ _ _ _ us ws h1 h2 => match us, ws, h1, h2 with | [_], [_], _, _ => rfl)⟩
    · exact ⟨e19, fd19, ⟨T19, g19i, g19t, ok_i19 G19 T19 g19b.2.2.2.2.1, q19⟩, (Fun.kbn G19 1 [] (fun us ws => us ++ ws) (fun vs zs => vs ++ zs) (fun r rz => r.append rz) fun _ _ _ _ _ _ us ws h1 h2 => match us, ws, h1, h2 with | [_], [], _, _ => rfl)⟩
    · exact ⟨e20, fd20, ⟨T20, g20i, g20t, ok_i20 G20 T20 g20b.2.2.2.2.1 (g20b.2.2.2.2.2 _ (by simp)), q20⟩, (Fun.kbn G20 2 [] (fun us ws => us ++ ws) (fun vs zs => vs ++ zs) (fun r rz => r.append rz) fun _ _ _ _ _ _ us ws h1 h2 => match us, ws, h1, h2 with | [_, _], [], _, _ => rfl), (Fun.kbn G20 1 ["place"] (fun us ws => us ++ ws) (fun vs zs => vs ++ zs) (fun r rz => r.append rz) fun _ _ _ _ _ _ us ws h1 h2 => match us, ws, h1, h2 with | [_], [_], _, _ => rfl)⟩
    · exact ⟨e21, fd21, ⟨T21, g21i, g21t, ok_i21 G21 T21 g21b.2.2.2.2.1 (g21b.2.2.2.2.2 _ (by simp)), q21⟩, (Fun.kbn G21 2 [] (fun us ws => us ++ ws) (fun vs zs => vs ++ zs) (fun r rz => r.append rz) fun _ _ _ _ _ _ us ws h1 h2 => match us, ws, h1, h2 with | [_, _], [], _, _ => rfl), (Fun.kbn G21 1 ["piece"] (fun us ws => us ++ ws) (fun vs zs => vs ++ zs) (fun r rz => r.append rz) fun _ _ _ _ _ _ us ws h1 h2 => match us, ws, h1, h2 with | [_], [_], _, _ => rfl)⟩
    · exact ⟨e22, fd22, ⟨T22, g22i, g22t, ok_i22 G22 T22 g22b.2.2.2.2.1 (g22b.2.2.2.2.2 _ (by simp)) (g22b.2.2.2.2.2 _ (by simp)), q22⟩, (Fun.kbn G22 3 [] (fun us ws => us ++ ws) (fun vs zs => vs ++ zs) (fun r rz => r.append rz) fun _ _ _ _ _ _ us ws h1 h2 => match us, ws, h1, h2 with | [_, _, _], [], _, _ => rfl), (Fun.kbn G22 1 ["user", "piece"] (fun us ws => us ++ ws.reverse) (fun vs zs => vs ++ zs.reverse) (fun r rz => r.append (Vals.rev rz)) fun _ _ _ _ _ _ us ws h1 h2 => match us, ws, h1, h2 with | [_], [_, _], _, _ => rfl)⟩
    · exact ⟨e23, fd23, ⟨T23, g23i, g23t, ok_i23 G23 T23 g23b.2.2.2.2.1 (g23b.2.2.2.2.2 _ (by simp)), q23⟩, (Fun.kbn G23 2 [] (fun us ws => us ++ ws) (fun vs zs => vs ++ zs) (fun r rz => r.append rz) fun _ _ _ _ _ _ us ws h1 h2 => match us, ws, h1, h2 with | [_, _], [], _, _ => rfl), (Fun.kbn G23 1 ["limit"] (fun us ws => us ++ ws) (fun vs zs => vs ++ zs) (fun r rz => r.append rz) fun _ _ _ _ _ _ us ws h1 h2 => match us, ws, h1, h2 with | [_], [_], _, _ => rfl)⟩
    · exact ⟨e24, fd24, ⟨T24, g24i, g24t, ok_i24 G24 T24 g24b.2.2.2.2.1 (g24b.2.2.2.2.2 _ (by simp)) (g24b.2.2.2.2.2 _ (by simp)), q24⟩, (Fun.kbn G24 3 [] (fun us ws => us ++ ws) (fun vs zs => vs ++ zs) (fun r rz => r.append rz) fun _ _ _ _ _ _ us ws h1 h2 => match us, ws, h1, h2 with | [_, _, _], [], _, _ => rfl), (Fun.kbn G24 1 ["most", "subject"] (fun us ws => us ++ ws.reverse) (fun vs zs => vs ++ zs.reverse) (fun r rz => r.append (Vals.rev rz)) fun _ _ _ _ _ _ us ws h1 h2 => match us, ws, h1, h2 with | [_], [_, _], _, _ => rfl)⟩
    · exact ⟨e25, fd25, ⟨T25, g25i, g25t, ok_i25 G25 T25 g25b.2.2.2.2.1 (g25b.2.2.2.2.2 _ (by simp)), q25⟩, (Fun.kbn G25 2 [] (fun us ws => us ++ ws) (fun vs zs => vs ++ zs) (fun r rz => r.append rz) fun _ _ _ _ _ _ us ws h1 h2 => match us, ws, h1, h2 with | [_, _], [], _, _ => rfl), (Fun.kbn G25 1 ["name"] (fun us ws => us ++ ws) (fun vs zs => vs ++ zs) (fun r rz => r.append rz) fun _ _ _ _ _ _ us ws h1 h2 => match us, ws, h1, h2 with | [_], [_], _, _ => rfl)⟩
    · exact ⟨e26, fd26, ⟨T26, g26i, g26t, ok_i26 G26 T26 g26b.2.2.2.2.1 (g26b.2.2.2.2.2 _ (by simp)), q26⟩, (Fun.kbn G26 2 [] (fun us ws => us ++ ws) (fun vs zs => vs ++ zs) (fun r rz => r.append rz) fun _ _ _ _ _ _ us ws h1 h2 => match us, ws, h1, h2 with | [_, _], [], _, _ => rfl), (Fun.kbn G26 1 ["piece"] (fun us ws => us ++ ws) (fun vs zs => vs ++ zs) (fun r rz => r.append rz) fun _ _ _ _ _ _ us ws h1 h2 => match us, ws, h1, h2 with | [_], [_], _, _ => rfl)⟩
    · exact ⟨e27, fd27, ⟨T27, g27i, g27t, ok_i27 G27 T27 g27b.2.2.2.2.1, q27⟩, (Fun.kbn G27 1 [] (fun us ws => us ++ ws) (fun vs zs => vs ++ zs) (fun r rz => r.append rz) fun _ _ _ _ _ _ us ws h1 h2 => match us, ws, h1, h2 with | [_], [], _, _ => rfl)⟩
  have D1 : Df l.prog w K mg base 1 f1 _ "_law_bag" ["_law_script"] (spBag K) := ⟨ok_bag F1 mz_len mz_list, b1, k1, m1⟩
  have D2 : Df l.prog w K mg base 1 f2 _ "_law_pull" ["_law_bag_here", "_law_many"] spPull := ⟨ok_pull F2 mz_len mz_int, b2, k2, m2⟩
  have D3 : Df l.prog w K mg base 2 f3 _ "_law_any" ["_law_bag_here", "_law_things"] (spAny K) := ⟨ok_any F3 D2.ok b2 k2 m2 mz_len, b3, k3, m3⟩
  have D4 : Df l.prog w K mg base 4 f4 _ "_law_same" ["_law_found", "_law_due"] (spSame 4) := ⟨all_same F4 S b4 m4 4, b4, k4, m4⟩
  have D5 : Df l.prog w K mg base 3 f5 _ "_law_odd" ["_law_bag_here", "_law_more"] spOdd := ⟨ok_odd F5 D3, b5, k5, m5⟩
  have D6 : Df l.prog w K mg base 1 f6 _ "_law_field" ["_law_e"] (spField (fun j => ([C0, C1, C2, C3, C4, C5, C6, C7, C8, C9, C10, C11, C12, C13, C14, C15, C16, C17, C18, C19, C20, C21, C22, C23, C24, C25, C26, C27] : List Addr).getD j 0)) := ⟨ok_field F6 FA, b6, k6, m6⟩
  have D7 : Df l.prog w K mg base 1 f7 _ "_law_codes" [] spCodes := ⟨ok_codes F7, b7, k7, m7⟩
  have D8 : Df l.prog w K mg base 3 f8 _ "_law_errors" ["_law_a", "_law_b"] (spErrors (fun j => ([C0, C1, C2, C3, C4, C5, C6, C7, C8, C9, C10, C11, C12, C13, C14, C15, C16, C17, C18, C19, C20, C21, C22, C23, C24, C25, C26, C27] : List Addr).getD j 0)) := ⟨ok_errors F8 AX, b8, k8, m8⟩
  have D9 : Df l.prog w K mg base 1 f9 _ "_law_classes" ["_law_e"] (spClasses (fun j => ([C0, C1, C2, C3, C4, C5, C6, C7, C8, C9, C10, C11, C12, C13, C14, C15, C16, C17, C18, C19, C20, C21, C22, C23, C24, C25, C26, C27] : List Addr).getD j 0)) := ⟨ok_classes F9 FA mz_isinstance, b9, k9, m9⟩
  have D10 : Df l.prog w K mg base 5 f10 _ "_law_named_so" ["_law_a", "_law_b"] spNamed := ⟨ok_named F10 AX D6 D4, b10, k10, m10⟩
  exact ok_law F11 FA D1 D2 D5 D8 D7 D4 D6 D9 D10 mz_len mz_range mz_isinstance mz_ValueError mz_LookupError mz_IndexError
theorem walk {l : PySem.W.OpenLaw} {q : Program} {loose : List Str} {XP : (Str → Option Value) → Heap → Prop} {YP : World → Heap → Prop} {d : DefRec} {K : Params → PySem.W.Frag} (hn : l.most = some 63) (hdf : d.params.defaults = [])
    (hY : ∀ (w : World) (h : Heap), YP w h → (K w.params).In h)
    (F : ∀ (w : World) (mg : Str → Option Value) (fa : Addr) (h : Heap), (K w.params).In h → h.Ns mainGlobals mg → mg d.name = some (.ref fa) →
      ∃ fd : FuncData, (∀ (s : Shared) (u : Value), BindsTo s fd ⟨[u], []⟩ [("_law_script", u)]) ∧ ∀ base : Heap, (K w.params).In base → base.Ns mainGlobals mg → FnOk l.prog w (K w.params) mg base CX0 6 fa fd ["_law_script"] (spLaw (K w.params))) :
    PySem.W.WalkO q loose XP YP l.row.toRowW d [] (fun f vs => PySem.call f vs) :=
  L2.walk_of (n := 63) (k := 6) (x := "_law_script") (CX := fun _ => CX0) (sp := fun w => spLaw (K w.params)) hn (by decide) hdf ⟨rfl, by decide, by decide⟩ hY F (fun _ _ a ns hl _ hS => ⟨a, ns, rfl, hS, hl, fun _ => rfl⟩) fun _ _ _ _ _ z => z
end Un
open PySem PySem.W PyProof.Rows
set_option maxRecDepth 100000 in
set_option maxHeartbeats 0 in
theorem PySem.Challenge.cw_unopened_k01_errors_by_themselves_holds : PySem.Challenge.rw_unopened_k01_errors_by_themselves.Holds := by
  w_on; o_law; k_head; (case hw => w_witness2)
  k_fill
  refine Un.walk (l := PySem.Challenge.rw_unopened_k01_errors_by_themselves) rfl rfl (fun w h Y => PySem.W.kIn_of Y) ?F
  case F =>
    intro w mg fa h KX G hmg
    refine' Un.all_mk KX G hmg ?a1 ?l1 ?c1 ?k1 ?a2 ?l2 ?c2 ?k2 ?a3 ?l3 ?c3 ?k3 ?a4 ?l4 ?c4 ?k4 ?a5 ?l5 ?c5 ?k5 ?a6 ?l6 ?c6 ?k6 ?a7 ?l7 ?c7 ?k7 ?a8 ?l8 ?c8 ?k8 ?a9 ?l9 ?c9 ?k9 ?a10 ?l10 ?c10 ?k10 ?a11 ?l11 ?c11 ?k11 ?z1 ?z2 ?z3 ?z4 ?z5 ?z6 ?z7 ?z8 ?z9 ?z10 ?z11 ?z12 ?z13 ?uU ?lU ?uM ?lM ?h0 ?h1 ?h2 ?h3 ?h4 ?h5 ?h6 ?h7 ?h8 ?h9 ?h10 ?h11 ?h12 ?h13 ?h14 ?h15 ?h16 ?h17 ?h18 ?h19 ?h20 ?h21 ?h22 ?h23 ?h24 ?h25 ?h26 ?h27 ?hn ?ht ?nd
    (case a1 => k_is)
    (case l1 => k_is)
    (case c1 => k_is)
    (case k1 => k_is)
    (case a2 => k_is)
    (case l2 => k_is)
    (case c2 => k_is)
    (case k2 => k_is)
    (case a3 => k_is)
    (case l3 => k_is)
    (case c3 => k_is)
    (case k3 => k_is)
    (case a4 => k_is)
    (case l4 => k_is)
    (case c4 => k_is)
    (case k4 => k_is)
    (case a5 => k_is)
    (case l5 => k_is)
    (case c5 => k_is)
    (case k5 => k_is)
    (case a6 => k_is)
    (case l6 => k_is)
    (case c6 => k_is)
    (case k6 => k_is)
    (case a7 => k_is)
    (case l7 => k_is)
    (case c7 => k_is)
    (case k7 => k_is)
    (case a8 => k_is)
    (case l8 => k_is)
    (case c8 => k_is)
    (case k8 => k_is)
    (case a9 => k_is)
    (case l9 => k_is)
    (case c9 => k_is)
    (case k9 => k_is)
    (case a10 => k_is)
    (case l10 => k_is)
    (case c10 => k_is)
    (case k10 => k_is)
    (case a11 => k_is)
    (case l11 => k_is)
    (case c11 => k_is)
    (case k11 => k_is)
    (case z1 => k_is)
    (case z2 => k_is)
    (case z3 => k_is)
    (case z4 => k_is)
    (case z5 => k_is)
    (case z6 => k_is)
    (case z7 => k_is)
    (case z8 => k_is)
    (case z9 => k_is)
    (case z10 => k_is)
    (case z11 => k_is)
    (case z12 => k_is)
    (case z13 => k_is)
    (case uU => k_is)
    (case lU => k_is)
    (case uM => k_is)
    (case lM => k_is)
    (case h0 => refine' Un.cx1 (Un.cx0 ?a1 ?a2 ?a3 ?a4 ?a5 ?a6 ?a7 ?a8 ?a9 ?b1 ?b2 ?b3 ?b4) ?d1; (case a1 => k_is); (case a2 => k_is); (case a3 => k_is); (case a4 => k_is); (case a5 => k_is); (case a6 => k_is); (case a7 => k_is); (case a8 => k_is); (case a9 => k_is); (case b1 => k_is); (case b2 => k_is); (case b3 => k_is); (case b4 => k_is); (case d1 => k_is))
    (case h1 => refine' Un.cx1 (Un.cx0 ?a1 ?a2 ?a3 ?a4 ?a5 ?a6 ?a7 ?a8 ?a9 ?b1 ?b2 ?b3 ?b4) ?d1; (case a1 => k_is); (case a2 => k_is); (case a3 => k_is); (case a4 => k_is); (case a5 => k_is); (case a6 => k_is); (case a7 => k_is); (case a8 => k_is); (case a9 => k_is); (case b1 => k_is); (case b2 => k_is); (case b3 => k_is); (case b4 => k_is); (case d1 => k_is))
    (case h2 => refine' Un.cx0 ?a1 ?a2 ?a3 ?a4 ?a5 ?a6 ?a7 ?a8 ?a9 ?b1 ?b2 ?b3 ?b4; (case a1 => k_is); (case a2 => k_is); (case a3 => k_is); (case a4 => k_is); (case a5 => k_is); (case a6 => k_is); (case a7 => k_is); (case a8 => k_is); (case a9 => k_is); (case b1 => k_is); (case b2 => k_is); (case b3 => k_is); (case b4 => k_is))
    (case h3 => refine' Un.cx0 ?a1 ?a2 ?a3 ?a4 ?a5 ?a6 ?a7 ?a8 ?a9 ?b1 ?b2 ?b3 ?b4; (case a1 => k_is); (case a2 => k_is); (case a3 => k_is); (case a4 => k_is); (case a5 => k_is); (case a6 => k_is); (case a7 => k_is); (case a8 => k_is); (case a9 => k_is); (case b1 => k_is); (case b2 => k_is); (case b3 => k_is); (case b4 => k_is))
    (case h4 => refine' Un.cx1 (Un.cx0 ?a1 ?a2 ?a3 ?a4 ?a5 ?a6 ?a7 ?a8 ?a9 ?b1 ?b2 ?b3 ?b4) ?d1; (case a1 => k_is); (case a2 => k_is); (case a3 => k_is); (case a4 => k_is); (case a5 => k_is); (case a6 => k_is); (case a7 => k_is); (case a8 => k_is); (case a9 => k_is); (case b1 => k_is); (case b2 => k_is); (case b3 => k_is); (case b4 => k_is); (case d1 => k_is))
    (case h5 => refine' Un.cx1 (Un.cx0 ?a1 ?a2 ?a3 ?a4 ?a5 ?a6 ?a7 ?a8 ?a9 ?b1 ?b2 ?b3 ?b4) ?d1; (case a1 => k_is); (case a2 => k_is); (case a3 => k_is); (case a4 => k_is); (case a5 => k_is); (case a6 => k_is); (case a7 => k_is); (case a8 => k_is); (case a9 => k_is); (case b1 => k_is); (case b2 => k_is); (case b3 => k_is); (case b4 => k_is); (case d1 => k_is))
    (case h6 => refine' Un.cx1 (Un.cx0 ?a1 ?a2 ?a3 ?a4 ?a5 ?a6 ?a7 ?a8 ?a9 ?b1 ?b2 ?b3 ?b4) ?d1; (case a1 => k_is); (case a2 => k_is); (case a3 => k_is); (case a4 => k_is); (case a5 => k_is); (case a6 => k_is); (case a7 => k_is); (case a8 => k_is); (case a9 => k_is); (case b1 => k_is); (case b2 => k_is); (case b3 => k_is); (case b4 => k_is); (case d1 => k_is))
    (case h7 => refine' Un.cx1 (Un.cx0 ?a1 ?a2 ?a3 ?a4 ?a5 ?a6 ?a7 ?a8 ?a9 ?b1 ?b2 ?b3 ?b4) ?d1; (case a1 => k_is); (case a2 => k_is); (case a3 => k_is); (case a4 => k_is); (case a5 => k_is); (case a6 => k_is); (case a7 => k_is); (case a8 => k_is); (case a9 => k_is); (case b1 => k_is); (case b2 => k_is); (case b3 => k_is); (case b4 => k_is); (case d1 => k_is))
    (case h8 => refine' Un.cx1 (Un.cx0 ?a1 ?a2 ?a3 ?a4 ?a5 ?a6 ?a7 ?a8 ?a9 ?b1 ?b2 ?b3 ?b4) ?d1; (case a1 => k_is); (case a2 => k_is); (case a3 => k_is); (case a4 => k_is); (case a5 => k_is); (case a6 => k_is); (case a7 => k_is); (case a8 => k_is); (case a9 => k_is); (case b1 => k_is); (case b2 => k_is); (case b3 => k_is); (case b4 => k_is); (case d1 => k_is))
    (case h9 => refine' Un.cx0 ?a1 ?a2 ?a3 ?a4 ?a5 ?a6 ?a7 ?a8 ?a9 ?b1 ?b2 ?b3 ?b4; (case a1 => k_is); (case a2 => k_is); (case a3 => k_is); (case a4 => k_is); (case a5 => k_is); (case a6 => k_is); (case a7 => k_is); (case a8 => k_is); (case a9 => k_is); (case b1 => k_is); (case b2 => k_is); (case b3 => k_is); (case b4 => k_is))
    (case h10 => refine' Un.cx1 (Un.cx0 ?a1 ?a2 ?a3 ?a4 ?a5 ?a6 ?a7 ?a8 ?a9 ?b1 ?b2 ?b3 ?b4) ?d1; (case a1 => k_is); (case a2 => k_is); (case a3 => k_is); (case a4 => k_is); (case a5 => k_is); (case a6 => k_is); (case a7 => k_is); (case a8 => k_is); (case a9 => k_is); (case b1 => k_is); (case b2 => k_is); (case b3 => k_is); (case b4 => k_is); (case d1 => k_is))
    (case h11 => refine' Un.cx1 (Un.cx0 ?a1 ?a2 ?a3 ?a4 ?a5 ?a6 ?a7 ?a8 ?a9 ?b1 ?b2 ?b3 ?b4) ?d1; (case a1 => k_is); (case a2 => k_is); (case a3 => k_is); (case a4 => k_is); (case a5 => k_is); (case a6 => k_is); (case a7 => k_is); (case a8 => k_is); (case a9 => k_is); (case b1 => k_is); (case b2 => k_is); (case b3 => k_is); (case b4 => k_is); (case d1 => k_is))
    (case h12 => refine' Un.cx1 (Un.cx0 ?a1 ?a2 ?a3 ?a4 ?a5 ?a6 ?a7 ?a8 ?a9 ?b1 ?b2 ?b3 ?b4) ?d1; (case a1 => k_is); (case a2 => k_is); (case a3 => k_is); (case a4 => k_is); (case a5 => k_is); (case a6 => k_is); (case a7 => k_is); (case a8 => k_is); (case a9 => k_is); (case b1 => k_is); (case b2 => k_is); (case b3 => k_is); (case b4 => k_is); (case d1 => k_is))
    (case h13 => refine' Un.cx1 (Un.cx0 ?a1 ?a2 ?a3 ?a4 ?a5 ?a6 ?a7 ?a8 ?a9 ?b1 ?b2 ?b3 ?b4) ?d1; (case a1 => k_is); (case a2 => k_is); (case a3 => k_is); (case a4 => k_is); (case a5 => k_is); (case a6 => k_is); (case a7 => k_is); (case a8 => k_is); (case a9 => k_is); (case b1 => k_is); (case b2 => k_is); (case b3 => k_is); (case b4 => k_is); (case d1 => k_is))
    (case h14 => refine' Un.cx1 (Un.cx0 ?a1 ?a2 ?a3 ?a4 ?a5 ?a6 ?a7 ?a8 ?a9 ?b1 ?b2 ?b3 ?b4) ?d1; (case a1 => k_is); (case a2 => k_is); (case a3 => k_is); (case a4 => k_is); (case a5 => k_is); (case a6 => k_is); (case a7 => k_is); (case a8 => k_is); (case a9 => k_is); (case b1 => k_is); (case b2 => k_is); (case b3 => k_is); (case b4 => k_is); (case d1 => k_is))
    (case h15 => refine' Un.cx1 (Un.cx0 ?a1 ?a2 ?a3 ?a4 ?a5 ?a6 ?a7 ?a8 ?a9 ?b1 ?b2 ?b3 ?b4) ?d1; (case a1 => k_is); (case a2 => k_is); (case a3 => k_is); (case a4 => k_is); (case a5 => k_is); (case a6 => k_is); (case a7 => k_is); (case a8 => k_is); (case a9 => k_is); (case b1 => k_is); (case b2 => k_is); (case b3 => k_is); (case b4 => k_is); (case d1 => k_is))
    (case h16 => refine' Un.cx1 (Un.cx0 ?a1 ?a2 ?a3 ?a4 ?a5 ?a6 ?a7 ?a8 ?a9 ?b1 ?b2 ?b3 ?b4) ?d1; (case a1 => k_is); (case a2 => k_is); (case a3 => k_is); (case a4 => k_is); (case a5 => k_is); (case a6 => k_is); (case a7 => k_is); (case a8 => k_is); (case a9 => k_is); (case b1 => k_is); (case b2 => k_is); (case b3 => k_is); (case b4 => k_is); (case d1 => k_is))
    (case h17 => refine' Un.cx1 (Un.cx0 ?a1 ?a2 ?a3 ?a4 ?a5 ?a6 ?a7 ?a8 ?a9 ?b1 ?b2 ?b3 ?b4) ?d1; (case a1 => k_is); (case a2 => k_is); (case a3 => k_is); (case a4 => k_is); (case a5 => k_is); (case a6 => k_is); (case a7 => k_is); (case a8 => k_is); (case a9 => k_is); (case b1 => k_is); (case b2 => k_is); (case b3 => k_is); (case b4 => k_is); (case d1 => k_is))
    (case h18 => refine' Un.cx1 (Un.cx0 ?a1 ?a2 ?a3 ?a4 ?a5 ?a6 ?a7 ?a8 ?a9 ?b1 ?b2 ?b3 ?b4) ?d1; (case a1 => k_is); (case a2 => k_is); (case a3 => k_is); (case a4 => k_is); (case a5 => k_is); (case a6 => k_is); (case a7 => k_is); (case a8 => k_is); (case a9 => k_is); (case b1 => k_is); (case b2 => k_is); (case b3 => k_is); (case b4 => k_is); (case d1 => k_is))
    (case h19 => refine' Un.cx0 ?a1 ?a2 ?a3 ?a4 ?a5 ?a6 ?a7 ?a8 ?a9 ?b1 ?b2 ?b3 ?b4; (case a1 => k_is); (case a2 => k_is); (case a3 => k_is); (case a4 => k_is); (case a5 => k_is); (case a6 => k_is); (case a7 => k_is); (case a8 => k_is); (case a9 => k_is); (case b1 => k_is); (case b2 => k_is); (case b3 => k_is); (case b4 => k_is))
    (case h20 => refine' Un.cx1 (Un.cx0 ?a1 ?a2 ?a3 ?a4 ?a5 ?a6 ?a7 ?a8 ?a9 ?b1 ?b2 ?b3 ?b4) ?d1; (case a1 => k_is); (case a2 => k_is); (case a3 => k_is); (case a4 => k_is); (case a5 => k_is); (case a6 => k_is); (case a7 => k_is); (case a8 => k_is); (case a9 => k_is); (case b1 => k_is); (case b2 => k_is); (case b3 => k_is); (case b4 => k_is); (case d1 => k_is))
    (case h21 => refine' Un.cx1 (Un.cx0 ?a1 ?a2 ?a3 ?a4 ?a5 ?a6 ?a7 ?a8 ?a9 ?b1 ?b2 ?b3 ?b4) ?d1; (case a1 => k_is); (case a2 => k_is); (case a3 => k_is); (case a4 => k_is); (case a5 => k_is); (case a6 => k_is); (case a7 => k_is); (case a8 => k_is); (case a9 => k_is); (case b1 => k_is); (case b2 => k_is); (case b3 => k_is); (case b4 => k_is); (case d1 => k_is))
    (case h22 => refine' Un.cx2 (Un.cx0 ?a1 ?a2 ?a3 ?a4 ?a5 ?a6 ?a7 ?a8 ?a9 ?b1 ?b2 ?b3 ?b4) ?d1 ?d2; (case a1 => k_is); (case a2 => k_is); (case a3 => k_is); (case a4 => k_is); (case a5 => k_is); (case a6 => k_is); (case a7 => k_is); (case a8 => k_is); (case a9 => k_is); (case b1 => k_is); (case b2 => k_is); (case b3 => k_is); (case b4 => k_is); (case d1 => k_is); (case d2 => k_is))
    (case h23 => refine' Un.cx1 (Un.cx0 ?a1 ?a2 ?a3 ?a4 ?a5 ?a6 ?a7 ?a8 ?a9 ?b1 ?b2 ?b3 ?b4) ?d1; (case a1 => k_is); (case a2 => k_is); (case a3 => k_is); (case a4 => k_is); (case a5 => k_is); (case a6 => k_is); (case a7 => k_is); (case a8 => k_is); (case a9 => k_is); (case b1 => k_is); (case b2 => k_is); (case b3 => k_is); (case b4 => k_is); (case d1 => k_is))
    (case h24 => refine' Un.cx2 (Un.cx0 ?a1 ?a2 ?a3 ?a4 ?a5 ?a6 ?a7 ?a8 ?a9 ?b1 ?b2 ?b3 ?b4) ?d1 ?d2; (case a1 => k_is); (case a2 => k_is); (case a3 => k_is); (case a4 => k_is); (case a5 => k_is); (case a6 => k_is); (case a7 => k_is); (case a8 => k_is); (case a9 => k_is); (case b1 => k_is); (case b2 => k_is); (case b3 => k_is); (case b4 => k_is); (case d1 => k_is); (case d2 => k_is))
    (case h25 => refine' Un.cx1 (Un.cx0 ?a1 ?a2 ?a3 ?a4 ?a5 ?a6 ?a7 ?a8 ?a9 ?b1 ?b2 ?b3 ?b4) ?d1; (case a1 => k_is); (case a2 => k_is); (case a3 => k_is); (case a4 => k_is); (case a5 => k_is); (case a6 => k_is); (case a7 => k_is); (case a8 => k_is); (case a9 => k_is); (case b1 => k_is); (case b2 => k_is); (case b3 => k_is); (case b4 => k_is); (case d1 => k_is))
    (case h26 => refine' Un.cx1 (Un.cx0 ?a1 ?a2 ?a3 ?a4 ?a5 ?a6 ?a7 ?a8 ?a9 ?b1 ?b2 ?b3 ?b4) ?d1; (case a1 => k_is); (case a2 => k_is); (case a3 => k_is); (case a4 => k_is); (case a5 => k_is); (case a6 => k_is); (case a7 => k_is); (case a8 => k_is); (case a9 => k_is); (case b1 => k_is); (case b2 => k_is); (case b3 => k_is); (case b4 => k_is); (case d1 => k_is))
    (case h27 => refine' Un.cx0 ?a1 ?a2 ?a3 ?a4 ?a5 ?a6 ?a7 ?a8 ?a9 ?b1 ?b2 ?b3 ?b4; (case a1 => k_is); (case a2 => k_is); (case a3 => k_is); (case a4 => k_is); (case a5 => k_is); (case a6 => k_is); (case a7 => k_is); (case a8 => k_is); (case a9 => k_is); (case b1 => k_is); (case b2 => k_is); (case b3 => k_is); (case b4 => k_is))
    (case hn => k_is); (case ht => k_is)
    (case nd => decide)
