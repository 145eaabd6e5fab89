import PyProof.Rows.All
import Wide.All
import OpenK.AllK
import Wide.FinOn
import KE.KSuper
import HandS.ForMost
import HandS.IsInst
import HandS.Flow
import HandS.Zip
import HandS.Defaults
import HandS.Codes
import HandS.ExcValue
import HandS.ClsMeth
import HandS.Nested
import HandS.MakeKwOnly
import HandS.Star
import HandS.Walk
import HandS.SortKw
import HandS.Property
import HandS.DictComp
import HandS.Conv
import HandS.More
import KE.GoesMore
import PyProof.EnumFor
import PyProof.WalksMore
import PySem.Challenge.RW_unopened_k18_plain_and_odd_boxes
set_option Elab.async false
set_option linter.all false
set_option maxRecDepth 100000
set_option maxHeartbeats 4000000
namespace SupX
open PySem PySem.Spec PyProof.Rows L2 NdefX
/-! a body that is known to be the activation itself: super() is asked there alone -/
structure PEa (X : Cx) (B : List Stmt) (e : Expr) (t : TE) : Prop where
  run : ∀ (pins : List (Addr × Obj)) (s : Shared) (σ : L2.St) (H : Hp) (Q : VK), Inv X pins σ H s → t σ H Q → _root_.PySem.wpAt (model X.prog X.w) X.A (.func B X.env) (eval e X.env) (EP X pins σ Q) X.xe s
structure PSa (X : Cx) (B : List Stmt) (st : Stmt) (t : TS) : Prop where
  run : ∀ (pins : List (Addr × Obj)) (s : Shared) (σ : L2.St) (H : Hp) (D : Ends), Inv X pins σ H s → t D σ H → _root_.PySem.wpAt (model X.prog X.w) X.A (.func B X.env) (exec st X.env) (SP X pins D) X.xe s
structure PSsa (X : Cx) (B : List Stmt) (st : List Stmt) (t : TS) : Prop where
  run : ∀ (pins : List (Addr × Obj)) (s : Shared) (σ : L2.St) (H : Hp) (D : Ends), Inv X pins σ H s → t D σ H → _root_.PySem.wpAt (model X.prog X.w) X.A (.func B X.env) (execs st X.env) (SP X pins D) X.xe s
section
variable {X : Cx} {B : List Stmt} {e : Expr} {te : TE} {st : Stmt} {rest : List Stmt} {t u : TS} {pos : Pos}
theorem PE.at_ (h : PE X e te) : PEa X B e te := ⟨fun pins s σ H Q I q => wpAt_of_wpAny (h.run pins s σ H Q I q)⟩
theorem PS.at_ (h : PS X st t) : PSa X B st t := ⟨fun pins s σ H D I q => wpAt_of_wpAny (h.run pins s σ H D I q)⟩
theorem PSs.at_ (h : PSs X rest t) : PSsa X B rest t := ⟨fun pins s σ H D I q => wpAt_of_wpAny (h.run pins s σ H D I q)⟩
theorem psa_ret (he : PEa X B e te) : PSa X B (.Return (some e) pos) (tRet te) := by
  refine ⟨fun pins s σ H D I h => ?_⟩
  exact ks_wpAt_Return_some (ks_wpAt_mono (he.run pins s σ H _ I h) (fun v s1 ⟨x, H1, I1, r1, q1⟩ => ⟨x, σ, H1, I1, r1, q1⟩) fun _ _ z => z)
theorem psa_expr (he : PEa X B e te) (hs : swapsWith e none pos.line X.env = pure false := by rfl) : PSa X B (.Expr e pos) (tDrop te) := by
  refine ⟨fun pins s σ H D I h => ?_⟩
  exact ks_wpAt_Expr_any (ks_wpAt_mono (he.run pins s σ H _ I h) (fun v s1 ⟨x, H1, I1, r1, q1⟩ => ⟨σ, H1, I1, q1⟩) fun _ _ z => z) I.quiet hs
theorem psa_if {c : Expr} {a b : List Stmt} {tc : TT} (hc : PT X c tc) (ha : PSsa X B a t) (hb : PSsa X B b u) : PSa X B (.If c a b pos) (tIfS tc t u) := by
  refine ⟨fun pins s σ H D I h => ?_⟩
  refine ks_wpAt_If (ks_wpAt_mono (wpAt_of_wpAny (hc.run pins s σ H _ I h)) (fun d s1 ⟨H1, I1, q1⟩ => ?_) fun _ _ z => z)
  cases d with
  | true => exact ha.run pins s1 σ H1 D I1 q1
  | false => exact hb.run pins s1 σ H1 D I1 q1
theorem pssa_cons (h1 : PSa X B st t) (h2 : PSsa X B rest u) : PSsa X B (st :: rest) (tSeq t u) := by
  refine ⟨fun pins s σ H D I h => ?_⟩
  refine ks_wpAt_execs_cons (ks_wpAt_mono (h1.run pins s σ H { D with nx := u D } I h) (fun f s1 q => ?_) fun _ _ z => z)
  cases f with
  | next =>
    obtain ⟨σ', H', I', q⟩ := q
    exact h2.run pins s1 σ' H' D I' q
  | ret v => exact q
  | brk => exact q
  | cont => exact q
theorem pssa_one (h1 : PSa X B st t) : PSsa X B [st] t := by
  refine ⟨fun pins s σ H D I h => ?_⟩
  refine ks_wpAt_execs_cons (ks_wpAt_mono (h1.run pins s σ H D I h) (fun f s1 q => ?_) fun _ _ z => z)
  cases f with
  | next => exact wpAt_of_wpAny (wpAny_execs_nil q)
  | ret v => exact q
  | brk => exact q
  | cont => exact q
theorem pea_un {op : UnaryOp} {r : V → Hp → VK → Prop} {a : Expr} {ta : TE} (ho : UnR X (unaryOp op) r) (ha : PEa X B a ta) : PEa X B (.UnaryOp op a pos) (tUn r ta) := by
  refine ⟨fun pins s σ H Q I h => ?_⟩
  rw [eval_UnaryOp]
  exact _root_.PySem.wpAt_bind (ks_wpAt_mono (ha.run pins s σ H _ I h) (fun v s1 ⟨x, H1, I1, r1, q1⟩ => wpAt_of_wpAny (wpAny_bind (wpAny_standAt (wpAny_holding (ho pins s1 σ H1 x v Q I1 r1 q1))))) fun _ _ z => z)
end

/-! ### the rule for a def that closes over __class__ -/
abbrev clsCells (cc : Addr) : List (Str × Addr) := [("__class__", cc)]
section
variable {CX : CXT} {P : Program} {w : World} {K : PySem.W.Frag} {mg : Str → Option Value} {base : Heap} {k : Nat} {f cc cda D : Addr} {name qual : Str} {params : Arguments} {body : List Stmt} {scope : Scope} {dV kV doc pm ct oc : Value} {an od : Option Addr}
    {osl : Array (Option Value)} {N ps : List Str} {sp : Sp}
theorem fn_ofC (lk : K.lookup f = some ⟨oc, od, .func (PySem.W.fnX name qual params body scope (clsCells cc) dV kV doc pm an (.ref cda) ct), osl⟩) (hcd : PySem.W.codeIn K (.ref cda) qual = true)
    (hcc : ∃ (o : Obj), K.lookup cc = some o ∧ o.data = .cell (some (.ref D))) (S : NScope N ps ["__class__"] scope) (len : ∀ vs H Q E, sp vs H Q E → vs.length = ps.length)
    (hbody : ∀ (A : Around) (outer : List Env) (s : Shared) (H : Hp) (vs : List V) (Q : VK) (E : XK), Room k (A.deeper (envF ⟨name, qual, params, body, scope, clsCells cc, cda⟩ f s.heap.objs.size)) → sp vs H Q E →
      ∃ t, PSsa (ncx CX P w K mg base N ⟨name, qual, params, body, scope, clsCells cc, cda⟩ f A outer s H E) body body t ∧ t { nx := fun _ H' => Q .non H', rt := Q } (startF N vs [none]) H) :
    FnOk P w K mg base CX (k + 1) f (PySem.W.fnX name qual params body scope (clsCells cc) dV kV doc pm an (.ref cda) ct) ps sp := by
  refine ⟨len, fun A outer s H args us vs Q E hr e0 hb r hsp => ?_⟩
  have hl := len _ _ _ _ hsp
  have KX : K.In s.heap := e0.mod.kin.keeps fun b o e => (e0.bs b o e).1
  have lim : s.heap.NoLimit := e0.mod.nolimit.keeps fun b o e => (e0.bs b o e).1
  refine codeAny_call_function hr.depth (KX _ _ lk) rfl S.co S.gen rfl (PySem.W.codeRec_of KX hcd) (hb _ _ _ _ ?_)
  refine wpAny_newFunctionEnv S.nocell (fun ⟨n, _⟩ hy => S.par n (List.of_mem_zip hy).1) (fun h₁ hns hsb => ⟨lim.fresh _ hsb, ?_⟩) S.kind
  show codeAny _ _ (.func body (envF ⟨name, qual, params, body, scope, clsCells cc, cda⟩ f s.heap.objs.size)) _ _
  refine ks_codeAny_funcAt ?_
  have kp : ∀ b o, s.heap.get? b = some o → h₁.get? b = some o := fun b o e => hsb.extBut b o (Nat.ne_of_lt (Heap.lt_size e)) (Heap.get?_push_of_some _ e)
  obtain ⟨t, ht, hq⟩ := hbody A outer s H vs Q E (hr.deeper _) hsp
  have C : CellsAt (clsCells cc) ["__class__"] [none] s.heap H := by
    obtain ⟨o, lo, od⟩ := hcc
    have hin := e0.mod.kin
    have hg : base.get? cc = some o := hin _ _ lo
    obtain ⟨b1, b2⟩ := e0.bs cc o hg
    have hlook : ∀ y c, (clsCells cc).lookup y = some c → c = cc ∧ y = "__class__" := fun y c e => by
      unfold clsCells at e
      rw [List.lookup_cons] at e
      split at e
      · rename_i h
        cases e
        exact ⟨rfl, eq_of_beq h⟩
      · cases e
    refine ⟨rfl, fun y c e => ?_, fun x y c e1 e2 => ?_, fun i y e => ?_⟩
    · obtain ⟨rfl, _⟩ := hlook y c e
      exact ⟨b2, _, o, b1, od⟩
    · rw [(hlook x c e1).2, (hlook y c e2).2]
    · match i, e with
      | 0, e =>
        cases e
        exact ⟨cc, rfl, fun v z => by cases z⟩
  have I : Inv (ncx CX P w K mg base N ⟨name, qual, params, body, scope, clsCells cc, cda⟩ f A outer s H E) [] (startF N vs [none]) H { s with heap := h₁, toks := s.toks + (ps.zip us).length } := inv_startN S hr.hd e0 hl r C hns kp
  refine ks_wpAt_mono (ht.run [] _ (startF N vs [none]) H _ I hq) (fun fl s' hs => ?_) fun e s' hs => hs
  have fin : ∀ {σ' : L2.St} {H' : Hp} {v : V} {u : Value}, Inv (ncx CX P w K mg base N ⟨name, qual, params, body, scope, clsCells cc, cda⟩ f A outer s H E) [] σ' H' s' → L2.RelV v u → Q v H' → CE outer P w H s Q u s' :=
    fun {σ' H' v u} J rv q => ⟨v, H', J.os, J.bare, J.base, J.hok, rv, q⟩
  cases fl with
  | ret u =>
    obtain ⟨v, σ', H', J, rv, q⟩ := hs
    exact fin J rv q
  | next =>
    obtain ⟨σ', H', J, q⟩ := hs
    exact fin (v := V.non) (u := Value.none) J rfl q
  | brk =>
    obtain ⟨_, _, _, q⟩ := hs
    exact False.elim q
  | cont =>
    obtain ⟨_, _, _, q⟩ := hs
    exact False.elim q
end

/-! ### super().m(e, .., k = v, ..) -/
/-- what of the text and of the context super() asks -/
structure SupC (X : Cx) (f cda cc D : Addr) (sf : Str) : Prop where
  hks : X.env.kindOf "super" = some .globalImplicit
  hkc : X.env.kindOf "__class__" = some .free
  fu : X.env.func = some f
  co : X.env.code = .ref cda
  fdd : ∃ (o : Obj) (fd : FuncData) (ar : Arg), X.K.lookup f = some o ∧ o.data = .func fd ∧ (fd.params.posonlyargs ++ fd.params.args).head? = some ar ∧ ar.arg = sf
  nm : X.N[0]? = some sf
  ka : X.env.kindOf sf = some .local
  code : ∃ (o : Obj) (vs : Array Value) (file : Str) (tf : Tok), X.K.lookup cda = some o ∧ o.data = .fields vs ∧ vs[2]? = some (.str file tf) ∧ (X.prog.main.file == file) = true
  cell : ∃ (o : Obj), X.K.lookup cc = some o ∧ o.data = .cell (some (.ref D))
  lk : X.env.cells.lookup ("__class__" : Str) = some cc
  cls : ∃ cd, PySem.W.clsIn X.K D = some cd
  top : (X.prog.main.scope.names.lookup ("super" : Str)).isSome = false
  ms : X.mg "super" = none
  any_ : PySem.W.nsIn X.K cStatics "thirdparty.any" = some none
/-- the method m above D, of an instance of C -/
structure SupM (K : PySem.W.Frag) (C D : Addr) (m : Str) (g : Addr) : Prop where
  sub : PySem.W.mroIn K C (.ref D) = some true
  at_ : PySem.W.ks_superIn K C D m = some (some (.ref g))
  ty : PySem.W.typeIn K (.ref g) = some (.type "function")
  fi : PySem.W.fnIn K g = true
section
variable {X : Cx} {pins : List (Addr × Obj)} {σ : L2.St} {H : Hp} {s : Shared} {a C dx : Addr} {fs : List (Str × V)} {f cda cc D : Addr} {sf : Str} {B : List Stmt}
/-- super() -/
theorem base_super {p0 p1 : Pos} {attr : Str} {whole : Sem Value} {Q : Value → Shared → Prop} (S : SupC X f cda cc D sf) (I : Inv X pins σ H s) (hσ : σ[0]? = some (some (.ref a))) (e : H a = some (.ins C dx fs)) (sub : PySem.W.mroIn X.K C (.ref D) = some true)
    (hat : (attr == ("__class__" : Str)) = false) (h : ∀ so s', Inv X ((so, PySem.W.ks_superObj D a C) :: pins) σ H s' → Q (.ref so) s') :
    _root_.PySem.wpAt (model X.prog X.w) X.A (.func B X.env) (attributeBase (.Call (.Name "super" p0) [] [] p1) attr X.env whole) Q X.xe s := by
  have KX := I.kIn
  obtain ⟨of, fd, ar, l1, l2, l3, rfl⟩ := S.fdd
  obtain ⟨oc, vs, file, tf, c1, c2, c3, c4⟩ := S.code
  obtain ⟨ocl, cl1, cl2⟩ := S.cell
  obtain ⟨cd, hcd⟩ := S.cls
  obtain ⟨oD, hD1, hD2⟩ : ∃ oD, s.heap.get? D = some oD ∧ oD.data = .cls cd := by
    have hcd := hcd
    unfold PySem.W.clsIn at hcd
    split at hcd
    · rename_i c d cd' sl ho
      cases hcd
      exact ⟨_, KX _ _ ho, rfl⟩
    · cases hcd
  refine ks_wpAt_super_base (env := X.env) S.hks S.hkc hat S.fu (KX _ _ l1) l2 l3 S.co (KX _ _ c1) c2 c3 c4 S.top ?_
  obtain ⟨mb, b1, b2⟩ := I.mod.blt
  refine PySem.W.ks_loadName_global I.ok.kind S.hks (Calls.loadGlobal_builtin (by rw [I.ok.glob]; exact I.mod.glob.keeps I.bk) S.ms (by rw [I.ok.blt]; exact b1.keeps I.bk) ((b2 _ (by decide +kernel)).trans (by first | rfl | kernel_rfl | decide +kernel)) ⟨rfl, ?_⟩)
  refine wpAny_loadName_free I.ok.kind S.hkc S.lk ⟨_, KX _ _ cl1, cl2⟩ ?_
  obtain ⟨m, hn, hl⟩ := I.loc
  obtain ⟨u, r, l⟩ := hl 0 _ _ S.nm hσ (.inl S.ka)
  obtain rfl : u = Value.ref a := r
  rcases l with ⟨hk, hm⟩ | ⟨hk, c, hc, hcell⟩
  case inr =>
    rw [S.ka] at hk
    rcases hk with hk | hk <;> cases hk
  refine wpAny_loadName_local I.ok.kind S.ka hn hm ?_
  refine ks_wpAny_isType_cls hD1 hD2 ⟨rfl, ?_⟩
  obtain ⟨mA, O, _, _, _, _⟩ := ins_get I.hok e
  obtain ⟨od, J, _⟩ := O.look
  obtain ⟨hh, g, d, t, os⟩ := s
  refine ks_wpAny_call_super hD1 hD2 J.at_ J.cls (fun c e => ?_) (PySem.W.looks_mroIn KX sub) (fun h' e k => ?_)
  · have := J.no
    unfold PySem.W.notCls at this
    rw [e] at this
    exact Bool.noConfusion this
  · exact h _ _ (ClX.pin_new I k (Nat.le_refl _) e (fun v z => nomatch z))
/-- .m of it: a bound method, new -/
theorem meth_super {so : Addr} {m : Str} {g : Addr} {pl : Sem Bool} {E : Value → Shared → Prop} {A : Around} {Q : Value × List Value → Shared → Prop} (I : Inv X ((so, PySem.W.ks_superObj D a C) :: pins) σ H s) (e : H a = some (.ins C dx fs)) (ha : PySem.W.nsIn X.K cStatics "thirdparty.any" = some none)
    (M : SupM X.K C D m g) (hn : (m == ("__class__" : Str)) = false) (h : ∀ q s', Inv X ((q, PySem.W.methodObj (.ref g) (.ref a)) :: pins) σ H s' → X.base.get? q = none → Q (.ref q, []) s') :
    wpAny (model X.prog X.w) A (getMethod (.ref so) m pl) Q E s := by
  have KX := I.kIn
  have hso := ClX.pin_at I
  have I0 := ClX.unpin I
  obtain ⟨mA, O, _, _, _, _⟩ := ins_get I.hok e
  obtain ⟨od, J, _⟩ := O.look
  have hb := ClX.base_none I0 (Nat.le_refl _)
  obtain ⟨hh, gg, d, t, os⟩ := s
  have hm := M.at_
  have ht := M.ty
  cases hc : PySem.W.clsIn X.K C with
  | none => unfold PySem.W.ks_superIn at hm; rw [hc] at hm; cases hm
  | some cd =>
    unfold PySem.W.ks_superIn at hm
    rw [hc] at hm
    obtain ⟨of, hof, hofc⟩ : ∃ of, hh.get? g = some of ∧ of.cls = .type "function" := by
      have ht' : (X.K.lookup g).map (·.cls) = some (.type "function") := ht
      cases z : X.K.lookup g with
      | none => rw [z] at ht'; cases ht'
      | some of => rw [z] at ht'; exact ⟨of, KX _ _ z, Option.some.inj ht'⟩
    refine ks_wpAny_getMethod_super hso (PySem.W.looks_opaque KX ha) (l₀ := cd.mro) ?_ rfl KX hm hof hofc (PySem.W.ks_ne KX J hc) hn ?_
    · exact fun A Q E s k q => wpAny_bind ((PySem.W.looks_clsIn KX hc) A _ E s k (wpAny_pure q))
    · exact h _ _ (ClX.pin_new I0 (fun _ _ z => Heap.get?_push_of_some _ z) (Nat.le_refl _) (Heap.get?_push_at rfl rfl) (fun v z => nomatch z)) hb
end
/-- super().m(e, ..), self in the first slot -/
def tSup (C : Addr) (sp : Sp) (E : XK) (t : TA) : TE := fun σ H Q => ∃ a dx fs, σ[0]? = some (some (.ref a)) ∧ H a = some (.ins C dx fs) ∧ t σ H fun vs H1 => sp (.ref a :: vs) H1 Q E
/-- super().m(e, .., k = v, ..) -/
def tSupK (C : Addr) (n m : Nat) (sp : Sp) (gV : List V → List V → List V) (E : XK) (t tk : TA) : TE := fun σ H Q => ∃ a dx fs, σ[0]? = some (some (.ref a)) ∧ H a = some (.ins C dx fs) ∧ t σ H fun vs H1 => tk σ H1 fun zs H2 => vs.length = n ∧ zs.length = m ∧ sp (gV (.ref a :: vs) zs) H2 Q E
section
variable {X : Cx} {CX : CXT} {k n : Nat} {C D f g cda cc : Addr} {sf m : Str} {fd : FuncData} {ps ks : List Str} {sp : Sp} {E : XK} {B : List Stmt} {p0 p1 apos pos : Pos} {e : Expr} {es : List Expr} {kws : List Keyword} {t tk : TA} {gg : List Value → List Value → List Value} {gV : List V → List V → List V} {pl : Sem Bool}
theorem pea_super (S : SupC X f cda cc D sf) (M : SupM X.K C D m g) (F : FnOk X.prog X.w X.K X.mg X.base CX k g fd ps sp) (hr : Room k X.A) (hb : Binds X.K fd ps []) (hx : Passes CX X E) (ha : PA X (e :: es) t)
    (hn : (m == ("__class__" : Str)) = false := by decide) (hst : starEach (e :: es) X.env = (false, eval e X.env) :: starEach es X.env := by rfl) (hpl : (backTo pos (starEach es X.env)).any (·.1) = false := by rfl)
    (ht : eval (.Call (.Attribute (.Call (.Name "super" p0) [] [] p1) m apos) (e :: es) [] pos) X.env = (do
      let ov ← attributeBase (.Call (.Name "super" p0) [] [] p1) m X.env (eval (.Call (.Name "super" p0) [] [] p1) X.env)
      standAt apos.atName
      let (f, first) ← holding [ov] (getMethod ov m pl)
      callWith pos f first (backTo pos (starEach (e :: es) X.env)) []) := by rfl) :
    PEa X B (.Call (.Attribute (.Call (.Name "super" p0) [] [] p1) m apos) (e :: es) [] pos) (tSup C sp E t) := by
  refine ⟨fun pins s σ H Q I ⟨a, dx, fs, h1, h2, h3⟩ => ?_⟩
  refine ks_wpAt_MethodCall (pl := pl) (base_super S I h1 h2 M.sub hn fun so s1 I1 => ?_) ht
  refine meth_super I1 h2 S.any_ M hn fun q s2 I2 hbq => ?_
  refine ClX.callwith_cm I2 hbq M.fi (thn (ha.run pos _ s2 σ H _ I2 h3) fun us s3 ⟨vs, H2, I3, rv, q2⟩ => ⟨⟨ClX.pin_at I3, I3.kIn⟩, ?_⟩) hst hpl
  have z : wpAny (model X.prog X.w) X.A (call (.ref q) us) (EP X ((q, PySem.W.methodObj (.ref g) (.ref a)) :: pins) σ Q) X.xe s3 := by
    have hl : (Value.ref a :: us).length = ps.length := by
      have := F.len _ _ _ _ q2
      rw [List.length_cons] at this ⊢
      rw [← rv.length]
      exact this
    have hbb := hb s3 (.ref a :: us) I3.kIn (by rw [List.append_nil]; exact hl)
    rw [List.append_nil] at hbb
    refine wpAny_call (PySem.W.method_call (ClX.pin_at I3) (codeAny_mono (F.run X.A X.stack s3 H2 ⟨.ref a :: us, []⟩ (.ref a :: us) (.ref a :: vs) Q E hr I3.env0 hbb (.cons rfl rv) q2) fun r s' hq => ?_))
    cases r with
    | error e => exact hx _ σ H2 s3 e s' I3 hq
    | ok fl =>
      cases fl with
      | ret u => exact I3.after hq
      | next => exact False.elim hq
      | brk => exact False.elim hq
      | cont => exact False.elim hq
  exact thn z fun _ _ y => ClX.unpinE y
theorem pea_superK (S : SupC X f cda cc D sf) (M : SupM X.K C D m g) (F : FnOk X.prog X.w X.K X.mg X.base CX k g fd ps sp) (hr : Room k X.A) (hb : KBn X.K fd ps (n + 1) ks gg gV) (hx : Passes CX X E) (ha : PA X (e :: es) t) (hkw : PK X kws tk)
    (hn : (m == ("__class__" : Str)) = false := by decide) (hall : (backToKw pos (keywordEach kws X.env)).all (·.1.isSome) = true := by rfl) (hks : (backToKw pos (keywordEach kws X.env)).filterMap (·.1) = ks := by rfl)
    (hst : starEach (e :: es) X.env = (false, eval e X.env) :: starEach es X.env := by rfl) (hpl : ((backTo pos (starEach (e :: es) X.env)).any (·.1) || (backToKw pos (keywordEach kws X.env)).any (·.1.isNone)) = false := by rfl)
    (ht : eval (.Call (.Attribute (.Call (.Name "super" p0) [] [] p1) m apos) (e :: es) kws pos) X.env = (do
      let ov ← attributeBase (.Call (.Name "super" p0) [] [] p1) m X.env (eval (.Call (.Name "super" p0) [] [] p1) X.env)
      standAt apos.atName
      let (f, first) ← holding [ov] (getMethod ov m pl)
      callWith pos f first (backTo pos (starEach (e :: es) X.env)) (backToKw pos (keywordEach kws X.env))) := by rfl) :
    PEa X B (.Call (.Attribute (.Call (.Name "super" p0) [] [] p1) m apos) (e :: es) kws pos) (tSupK C n ks.length sp gV E t tk) := by
  refine ⟨fun pins s σ H Q I ⟨a, dx, fs, h1, h2, h3⟩ => ?_⟩
  rw [ht]
  refine _root_.PySem.wpAt_bind (base_super S I h1 h2 M.sub hn fun so s1 I1 => wpAt_of_wpAny (wpAny_bind (wpAny_standAt (wpAny_bind (wpAny_holding ?_)))))
  refine meth_super I1 h2 S.any_ M hn fun q s2 I2 hbq => ?_
  show wpAny _ _ (callWith pos (.ref q) [] _ _) _ _ _
  refine PySem.W.callWith_of (P := PySem.W.MethP X.K q g (.ref a)) hpl (PySem.W.keeps_M M.fi) (evalArgs_kw2 hall (thn (ha.run pos _ s2 σ H _ I2 h3) fun us s3 ⟨vs, H1, I3, rv, q2⟩ => thn (hkw.run pos _ s3 σ H1 _ I3 q2) fun ws s4 ⟨zs, H2, I4, rz, l1, l2, q3⟩ => ⟨⟨ClX.pin_at I4, I4.kIn⟩, ?_⟩) hst)
  rw [hks]
  have z : wpAny (model X.prog X.w) X.A (call (.ref q) us (ks.zip ws)) (EP X ((q, PySem.W.methodObj (.ref g) (.ref a)) :: pins) σ Q) X.xe s4 := by
    have r1 : Vals (V.ref a :: vs) (Value.ref a :: us) := .cons rfl rv
    have r2 := hb.rel r1 rz
    have hbb := hb.to s4 (.ref a :: us) ws I4.kIn (by rw [List.length_cons, ← rv.length, l1]) (rz.length.symm.trans l2)
    refine wpAny_call (ks_codeAny_call_bound (ClX.pin_at I4) (codeAny_mono (F.run X.A X.stack s4 H2 ⟨.ref a :: us, ks.zip ws⟩ (gg (.ref a :: us) ws) (gV (.ref a :: vs) zs) Q E hr I4.env0 hbb r2 q3) fun r s' hq => ?_))
    cases r with
    | error e => exact hx _ σ H2 s4 e s' I4 hq
    | ok fl =>
      cases fl with
      | ret u => exact I4.after hq
      | next => exact False.elim hq
      | brk => exact False.elim hq
      | cont => exact False.elim hq
  exact thn z fun _ _ y => ClX.unpinE y
end
/-! ### o.m(k = v, ..), f(k = v, ..) where f is an instance -/
/-- o.m(k = v, ..) -/
def tMethKw (C : Addr) (m : Str) (n : Nat) (sp : Sp) (gV : List V → List V → List V) (E : XK) (ta : TE) (tk : TA) : TE := fun σ H Q => ta σ H fun x H1 => ∃ a dx fs, x = .ref a ∧ H1 a = some (.ins C dx fs) ∧ fs.lookup m = none ∧ tk σ H1 fun zs H2 => zs.length = n ∧ sp (gV [.ref a] zs) H2 Q E
/-- f(k = v, ..) -/
def tCallOKw (X : Cx) (C : Addr) (n : Nat) (sp : Sp) (gV : List V → List V → List V) (E : XK) (tf : TE) (tk : TA) : TE := fun σ H Q => tf σ H fun y H1 => ∃ a, y = V.ref a ∧ tk σ H1 fun zs H2 => zs.length = n ∧ StX.InsC X H2 a C ∧ sp (gV [.ref a] zs) H2 Q E
section
variable {X : Cx} {CX : CXT} {k : Nat} {C f : Addr} {m : Str} {fd : FuncData} {ps ks : List Str} {sp : Sp} {E : XK} {o fe : Expr} {kws : List Keyword} {ta tf : TE} {tk : TA} {apos pos : Pos} {pl : Sem Bool} {gg : List Value → List Value → List Value} {gV : List V → List V → List V}
theorem pe_methKw (he : PE X o ta) (c : Cls X.K C) (hm : Meth X.K C m f) (F : FnOk X.prog X.w X.K X.mg X.base CX k f fd ps sp) (hr : Room k X.A) (hb : KBn X.K fd ps 1 ks gg gV) (hx : Passes CX X E) (hkw : PK X kws tk)
    (hall : (backToKw pos (keywordEach kws X.env)).all (·.1.isSome) = true := by rfl) (hks : (backToKw pos (keywordEach kws X.env)).filterMap (·.1) = ks := by rfl)
    (hpl : ((backTo pos (starEach [] X.env)).any (·.1) || (backToKw pos (keywordEach kws X.env)).any (·.1.isNone)) = false := by rfl)
    (ht : eval (.Call (.Attribute o m apos) [] kws pos) X.env = (do
      let ov ← eval o X.env
      standAt apos.atName
      let (f, first) ← holding [ov] (getMethod ov m pl)
      callWith pos f first (backTo pos (starEach [] X.env)) (backToKw pos (keywordEach kws X.env))) := by rfl) :
    PE X (.Call (.Attribute o m apos) [] kws pos) (tMethKw C m ks.length sp gV E ta tk) := by
  refine ⟨fun pins s σ H Q I h => ?_⟩
  refine PySem.W.methodCall_KW (pl := pl) (thn (he.run pins s σ H _ I h) fun u s1 ⟨x, H1, I1, rx, a, dx, fs, ex, ea, l, q⟩ => ?_) ht
  subst ex
  obtain rfl : u = Value.ref a := rx
  refine getmeth_ok I1 ea c hm l ?_
  refine PySem.W.callWith_KW0 (h₀ := X.base) I.ok.mod.kin hm.kp hall ?_ hpl
  refine thn (hkw.run pos pins s1 σ H1 _ I1 q) fun ws s2 ⟨zs, H2, I2, rz, l1, q2⟩ => ⟨I2.kIn, ?_⟩
  rw [hks]
  exact run_fnN (us := [.ref a]) (vs := [.ref a]) F hr hb hx I2 (.cons rfl .nil) rz rfl l1 q2
theorem callO_ofK {M : Model} {A : Around} {E : Value → Shared → Prop} {s : Shared} {a : Addr} {pos : Pos} {Q : Value → Shared → Prop} {args : List (Bool × Sem Value)} {keywords : List (Option Str × Sem Value)} (hplain : (args.any (·.1) || keywords.any (·.1.isNone)) = false)
    (h : wpAny M A (evalArgs (.ref a) true args keywords) (fun z s₁ => (∃ C ox od, PySem.W.InstAt s₁.heap a ox C od ∧ ox.data = .plain) ∧ wpAny M A (call (.ref a) ([] ++ z.pos) z.kw) Q E s₁) E s) : wpAny M A (callWith pos (.ref a) [] args keywords) Q E s := by
  unfold callWith
  refine wpAny_bind (wpAny_holding (wpAny_mono h (fun z s₁ h₁ => wpAny_bind (wpAny_standAt ?_)) fun _ _ y => y))
  obtain ⟨⟨C, ox, od, J, hd⟩, h₁⟩ := h₁
  have L := PySem.W.kco_keeper (M := M) J hd
  simp only [hplain]
  refine wpAny_bind (L.here ?_)
  have tail : ∀ {t : Sem Value}, wpAny M A t Q E s₁ → wpAny M A (t >>= fun r => holding [r] point >>= fun _ => pure r) Q E s₁ :=
    fun ht => wpAny_bind (wpAny_mono ht (fun r s₂ hr => wpAny_bind (wpAny_holding (wpAny_point (wpAny_pure hr)))) fun _ _ y => y)
  exact tail (wpAny_operateT h₁)
theorem pe_callOKw {g : Addr} (hf : PE X fe tf) (c : StX.CallO X.K C g) (F : FnOk X.prog X.w X.K X.mg X.base CX k g fd ps sp) (hr : Room k X.A) (hb : KBn X.K fd ps 1 ks gg gV) (hx : Passes CX X E) (hkw : PK X kws tk)
    (hall : (backToKw pos (keywordEach kws X.env)).all (·.1.isSome) = true := by rfl) (hks : (backToKw pos (keywordEach kws X.env)).filterMap (·.1) = ks := by rfl)
    (hpl : ((backTo pos (starEach [] X.env)).any (·.1) || (backToKw pos (keywordEach kws X.env)).any (·.1.isNone)) = false := by rfl)
    (ht : eval (.Call fe [] kws pos) X.env = (do callWith pos (← eval fe X.env) [] (backTo pos (starEach [] X.env)) (backToKw pos (keywordEach kws X.env))) := by rfl) : PE X (.Call fe [] kws pos) (tCallOKw X C ks.length sp gV E tf tk) := by
  refine ⟨fun pins s σ H Q I h => ?_⟩
  rw [ht]
  refine wpAny_bind (thn (hf.run pins s σ H _ I h) fun u s1 ⟨y, H1, I1, ry, a, ey, q⟩ => ?_)
  subst ey
  obtain rfl : u = Value.ref a := ry
  refine callO_ofK hpl (evalArgs_kw2_nil hall (thn (hkw.run pos pins s1 σ H1 _ I1 q) fun ws s2 ⟨zs, H2, I2, rz, l1, hi, q2⟩ => ?_))
  obtain ⟨ox, od, J, hd⟩ := StX.insC_at I2 hi
  refine ⟨⟨C, ox, od, J, hd⟩, ?_⟩
  rw [hks]
  have r2 := hb.rel (show Vals [V.ref a] [Value.ref a] from .cons rfl .nil) rz
  have hbb := hb.to s2 [.ref a] ws I2.kIn rfl (rz.length.symm.trans l1)
  refine wpAny_call (PySem.W.kco_code I2.kIn J hd c.at_ c.fn c.fi (codeAny_mono (F.run X.A X.stack s2 H2 ⟨[.ref a], ks.zip ws⟩ (gg [.ref a] ws) (gV [.ref a] zs) Q E hr I2.env0 hbb r2 q2) fun r s' hq => ?_))
  cases r with
  | error e => exact hx pins σ H2 s2 e s' I2 hq
  | ok fl =>
    cases fl with
    | ret u => exact I2.after hq
    | next => exact False.elim hq
    | brk => exact False.elim hq
    | cont => exact False.elim hq
end
/-! ### defs that close over __class__, with defaults -/
/-- a def that closes over __class__ (the class at D), as it stands behind the top -/
structure FunC (K : PySem.W.Frag) (P : Program) (x qual : Str) (params : Arguments) (body : List Stmt) (scope : Scope) (dvs : List V) (kws : List (Str × V)) (D f : Addr) (fd : FuncData) : Prop where
  ex : ∃ (cc cda : Addr) (oc : Value) (od : Option Addr) (dV kV doc pm : Value) (an : Option Addr) (ct : Value) (osl : Array (Option Value)),
    fd = PySem.W.fnX x qual params body scope (clsCells cc) dV kV doc pm an (.ref cda) ct ∧ K.lookup f = some ⟨oc, od, .func fd, osl⟩ ∧ PySem.W.codeIn K (.ref cda) qual = true ∧
    (∃ (o : Obj) (vs : Array Value) (file : Str) (tf : Tok), K.lookup cda = some o ∧ o.data = .fields vs ∧ vs[2]? = some (.str file tf) ∧ (P.main.file == file) = true) ∧
    (∃ (o : Obj), K.lookup cc = some o ∧ o.data = .cell (some (.ref D))) ∧ DflV K dV dvs ∧ KwdV K kV kws
  kp : PySem.W.keepIn K (.ref f) = true
  cls : ∃ cd, PySem.W.clsIn K D = some cd
  any_ : PySem.W.nsIn K cStatics "thirdparty.any" = some none
  top : (P.main.scope.names.lookup ("super" : Str)).isSome = false
section
variable {CX : CXT} {P : Program} {w : World} {K : PySem.W.Frag} {mg : Str → Option Value} {base : Heap} {k : Nat} {f D : Addr} {fd : FuncData} {x qual : Str} {params : Arguments} {body : List Stmt} {scope : Scope} {dvs : List V} {kws : List (Str × V)} {N ps : List Str} {sp : Sp}
theorem FunC.ok (F : FunC K P x qual params body scope dvs kws D f fd) (S : NScope N ps ["__class__"] scope) (ms : mg "super" = none) (s1 : scope.names.lookup ("super" : Str) = some .globalImplicit) (s2 : scope.names.lookup ("__class__" : Str) = some .free)
    {ar : Arg} (hp : (params.posonlyargs ++ params.args).head? = some ar) (hN : N[0]? = some ar.arg) (hl : scope.names.lookup ar.arg = some .local) (len : ∀ vs H Q E, sp vs H Q E → vs.length = ps.length)
    (hbody : ∀ (cc cda : Addr) (A : Around) (outer : List Env) (s : Shared) (H : Hp) (vs : List V) (Q : VK) (E : XK), Room k (A.deeper (envF ⟨x, qual, params, body, scope, clsCells cc, cda⟩ f s.heap.objs.size)) →
      SupC (ncx CX P w K mg base N ⟨x, qual, params, body, scope, clsCells cc, cda⟩ f A outer s H E) f cda cc D ar.arg → sp vs H Q E →
      ∃ t, PSsa (ncx CX P w K mg base N ⟨x, qual, params, body, scope, clsCells cc, cda⟩ f A outer s H E) body body t ∧ t { nx := fun _ H' => Q .non H', rt := Q } (startF N vs [none]) H) :
    FnOk P w K mg base CX (k + 1) f fd ps sp := by
  obtain ⟨cc, cda, oc, od, dV, kV, doc, pm, an, ct, osl, rfl, lk, hcd, hcode, hcell, _, _⟩ := F.ex
  refine fn_ofC (D := D) lk hcd hcell S len fun A outer s H vs Q E hr hsp => ?_
  exact hbody cc cda A outer s H vs Q E hr ⟨s1, s2, rfl, rfl, ⟨_, _, ar, lk, rfl, hp, rfl⟩, hN, hl, hcode, hcell, rfl, F.cls, F.top, ms, F.any_⟩ hsp
theorem FunC.binds (F : FunC K P x qual params body scope dvs kws D f fd) (n j : Nat) (hd : dvs ≠ []) (hn : n + ((dvs.length - j) + kws.length) = ps.length)
    (h : ∀ (cl : List (Str × Addr)) (T D : Addr) (doc pm : Value) (an : Option Addr) (cdv ct : Value) (us its ks : List Value), us.length = n → its.length = dvs.length → ks.length = kws.length →
      ∃ k, bindArgs (PySem.W.fnX x qual params body scope cl (.ref T) (.ref D) doc pm an cdv ct) ⟨us, []⟩ = seqItems? (.ref T) >>= k ∧ KwChain D ((kws.map (·.1)).zip ks) (k (some its.toArray)) (ps.zip (us ++ (its.drop j ++ ks))))
    (hk : kws ≠ []) : ∃ ds, Vals (dvs.drop j ++ kws.map (·.2)) ds ∧ Binds K fd ps ds := by
  obtain ⟨cc, cda, oc, od, dV, kV, doc, pm, an, ct, osl, rfl, lk, hcd, hcode, hcell, hD, hK⟩ := F.ex
  rcases hD with ⟨e, _⟩ | ⟨_, T, o, its, m, rfl, lT, oT, rT⟩
  · exact absurd e hd
  · rcases hK with e | ⟨D, rfl, hq⟩
    · exact absurd e hk
    · obtain ⟨ks, hl, rk, hks⟩ := kwd_vals hq
      refine ⟨its.drop j ++ ks, (rT.drop j).append rk, fun s us X hlen => ?_⟩
      have l1 : its.length = dvs.length := rT.length.symm
      have l2 : us.length = n := by
        rw [List.length_append, List.length_append, List.length_drop, l1, hl] at hlen
        omega
      obtain ⟨k, e1, e2⟩ := h _ T D doc pm an (.ref cda) ct us its ks l2 l1 hl
      refine BindsTo.of_looks fun M => ?_
      rw [e1]
      exact looks_items X lT oT (KwChain.looks X hks e2)
theorem FunC.kbinds (F : FunC K P x qual params body scope dvs kws D f fd) (n : Nat) (ks : List Str) (ms : List (Str × V)) (g : {α : Type} → List α → List α → List α → List α → List α) (hd : dvs ≠ []) (hk : kws ≠ []) (hms : ∀ q ∈ ms, q ∈ kws)
    (hrel : ∀ {vs ds mz zs : List V} {us its mv ws : List Value}, Vals vs us → Vals ds its → Vals mz mv → Vals zs ws → Vals (g vs ds mz zs) (g us its mv ws))
    (h : ∀ (cl : List (Str × Addr)) (T D : Addr) (doc pm : Value) (an : Option Addr) (cdv ct : Value) (us its mv ws : List Value), us.length = n → its.length = dvs.length → mv.length = ms.length → ws.length = ks.length →
      ∃ k, bindArgs (PySem.W.fnX x qual params body scope cl (.ref T) (.ref D) doc pm an cdv ct) ⟨us, ks.zip ws⟩ = seqItems? (.ref T) >>= k ∧ KwChain D ((ms.map (·.1)).zip mv) (k (some its.toArray)) (ps.zip (g us its mv ws))) :
    ∃ its mv : List Value, KBn K fd ps n ks (fun us ws => g us its mv ws) (fun vs zs => g vs dvs (ms.map (·.2)) zs) := by
  obtain ⟨cc, cda, oc, od, dV, kV, doc, pm, an, ct, osl, rfl, lk, hcd, hcode, hcell, hD, hK⟩ := F.ex
  rcases hD with ⟨e, _⟩ | ⟨_, T, o, its, m, rfl, lT, oT, rT⟩
  · exact absurd e hd
  · rcases hK with e | ⟨D, rfl, hq⟩
    · exact absurd e hk
    · obtain ⟨mv, hl, rk, hks⟩ := kwd_vals (ms := ms) fun q hm => hq q (hms q hm)
      refine ⟨its, mv, ⟨fun s us ws X l1 l2 => ?_, fun r1 r2 => hrel r1 rT rk r2⟩⟩
      obtain ⟨k, e1, e2⟩ := h _ T D doc pm an (.ref cda) ct us its mv ws l1 rT.length.symm hl l2
      refine BindsTo.of_looks fun M => ?_
      rw [e1]
      exact looks_items X lT oT (KwChain.looks X hks e2)
theorem FunC.bindsN (F : FunC K P x qual params body scope [] kws D f fd) (h : ∀ (cl : List (Str × Addr)) (kV doc pm : Value) (an : Option Addr) (cdv ct : Value) (us : List Value), us.length = ps.length → bindArgs (PySem.W.fnX x qual params body scope cl .none kV doc pm an cdv ct) ⟨us, []⟩ = pure (ps.zip us)) : Binds K fd ps [] := by
  obtain ⟨cc, cda, oc, od, dV, kV, doc, pm, an, ct, osl, rfl, lk, hcd, hcode, hcell, hD, hK⟩ := F.ex
  rcases hD with ⟨_, rfl⟩ | ⟨e, _⟩
  · exact .all (h _ kV doc pm an (.ref cda) ct)
  · exact absurd rfl e
theorem FunC.kbn (F : FunC K P x qual params body scope [] kws D f fd) (n : Nat) (ks : List Str) (g : List Value → List Value → List Value) (gV : List V → List V → List V)
    (hrel : ∀ {vs : List V} {us : List Value} {zs : List V} {ws : List Value}, Vals vs us → Vals zs ws → Vals (gV vs zs) (g us ws))
    (h : ∀ (cl : List (Str × Addr)) (kV doc pm : Value) (an : Option Addr) (cdv ct : Value) (us ws : List Value), us.length = n → ws.length = ks.length → bindArgs (PySem.W.fnX x qual params body scope cl .none kV doc pm an cdv ct) ⟨us, ks.zip ws⟩ = pure (ps.zip (g us ws))) : KBn K fd ps n ks g gV := by
  obtain ⟨cc, cda, oc, od, dV, kV, doc, pm, an, ct, osl, rfl, lk, hcd, hcode, hcell, hD, hK⟩ := F.ex
  rcases hD with ⟨_, rfl⟩ | ⟨e, _⟩
  · exact ⟨fun s us ws _ l1 l2 => BindsTo.of_eq (h _ kV doc pm an (.ref cda) ct us ws l1 l2), hrel⟩
  · exact absurd rfl e
end
/-! ### methods and calls of an instance whose class is one of several -/
/-- what each class of the family has: the def at g C keeps sp C -/
structure Fam1 (X : Cx) (CX : CXT) (k : Nat) (R : Addr → Prop) (m : Str) (ps : List Str) (sp : Addr → Sp) (C g : Addr) (fd : FuncData) : Prop where
  cl : Cls X.K C
  m : Meth X.K C m g
  ok : FnOk X.prog X.w X.K X.mg X.base CX k g fd ps (sp C)
  b : Binds X.K fd ps []
def Fam (X : Cx) (CX : CXT) (k : Nat) (R : Addr → Prop) (m : Str) (ps : List Str) (sp : Addr → Sp) : Prop := ∀ C, R C → ∃ g fd, Fam1 X CX k R m ps sp C g fd
/-- .. called with keywords -/
def FamK (X : Cx) (CX : CXT) (k : Nat) (R : Addr → Prop) (m : Str) (ps ks : List Str) (gV : List V → List V → List V) (sp : Addr → Sp) : Prop := ∀ C, R C → ∃ g fd gg, Fam1 X CX k R m ps sp C g fd ∧ KBn X.K fd ps 1 ks gg gV
def tMethF (R : Addr → Prop) (m : Str) (sp : Addr → Sp) (E : XK) (ta : TE) (t : TA) : TE := fun σ H Q => ta σ H fun x H1 => ∃ a C dx fs, x = .ref a ∧ H1 a = some (.ins C dx fs) ∧ R C ∧ fs.lookup m = none ∧ t σ H1 fun vs H2 => sp C (.ref a :: vs) H2 Q E
def tMethFK (R : Addr → Prop) (m : Str) (n : Nat) (sp : Addr → Sp) (gV : List V → List V → List V) (E : XK) (ta : TE) (tk : TA) : TE := fun σ H Q => ta σ H fun x H1 => ∃ a C dx fs, x = .ref a ∧ H1 a = some (.ins C dx fs) ∧ R C ∧ fs.lookup m = none ∧ tk σ H1 fun zs H2 => zs.length = n ∧ sp C (gV [.ref a] zs) H2 Q E
def FamC (X : Cx) (CX : CXT) (k : Nat) (R : Addr → Prop) (ps : List Str) (sp : Addr → Sp) : Prop := ∀ C, R C → ∃ g fd, StX.CallO X.K C g ∧ FnOk X.prog X.w X.K X.mg X.base CX k g fd ps (sp C) ∧ Binds X.K fd ps []
def FamCK (X : Cx) (CX : CXT) (k : Nat) (R : Addr → Prop) (ps ks : List Str) (gV : List V → List V → List V) (sp : Addr → Sp) : Prop := ∀ C, R C → ∃ g fd gg, StX.CallO X.K C g ∧ FnOk X.prog X.w X.K X.mg X.base CX k g fd ps (sp C) ∧ KBn X.K fd ps 1 ks gg gV
def tCallF (X : Cx) (R : Addr → Prop) (sp : Addr → Sp) (E : XK) (tf : TE) (t : TA) : TE := fun σ H Q => tf σ H fun y H1 => ∃ a C, y = V.ref a ∧ R C ∧ t σ H1 fun vs H2 => StX.InsC X H2 a C ∧ sp C (.ref a :: vs) H2 Q E
def tCallFK (X : Cx) (R : Addr → Prop) (n : Nat) (sp : Addr → Sp) (gV : List V → List V → List V) (E : XK) (tf : TE) (tk : TA) : TE := fun σ H Q => tf σ H fun y H1 => ∃ a C, y = V.ref a ∧ R C ∧ tk σ H1 fun zs H2 => zs.length = n ∧ StX.InsC X H2 a C ∧ sp C (gV [.ref a] zs) H2 Q E
section
variable {X : Cx} {CX : CXT} {k : Nat} {R : Addr → Prop} {m : Str} {ps ks : List Str} {sp : Addr → Sp} {E : XK} {o fe e : Expr} {es : List Expr} {kws : List Keyword} {ta tf : TE} {t tk : TA} {apos pos : Pos} {pl : Sem Bool} {gV : List V → List V → List V}
theorem pe_methF (he : PE X o ta) (F : Fam X CX k R m ps sp) (hr : Room k X.A) (hx : Passes CX X E) (ha : PA X (e :: es) t)
    (hst : starEach (e :: es) X.env = (false, eval e X.env) :: starEach es X.env := by rfl) (hpl : (backTo pos (starEach es X.env)).any (·.1) = false := by rfl)
    (ht : eval (.Call (.Attribute o m apos) (e :: es) [] pos) X.env = (do
      let ov ← eval o X.env
      standAt apos.atName
      let (f, first) ← holding [ov] (getMethod ov m pl)
      callWith pos f first (backTo pos (starEach (e :: es) X.env)) (backToKw pos (keywordEach [] X.env))) := by rfl) :
    PE X (.Call (.Attribute o m apos) (e :: es) [] pos) (tMethF R m sp E ta t) := by
  refine ⟨fun pins s σ H Q I h => ?_⟩
  refine PySem.W.methodCall_KW (pl := pl) (thn (he.run pins s σ H _ I h) fun u s1 ⟨x, H1, I1, rx, a, C, dx, fs, ex, ea, hR, l, q⟩ => ?_) ht
  subst ex
  obtain rfl : u = Value.ref a := rx
  obtain ⟨g, fd, F1⟩ := F C hR
  refine getmeth_ok I1 ea F1.cl F1.m l ?_
  refine PySem.W.callWith_K (first := [.ref a]) (h₀ := X.base) I.ok.mod.kin F1.m.kp (thn (ha.run pos pins s1 σ H1 _ I1 q) fun us s2 ⟨vs, H2, I2, r, q2⟩ => ⟨I2.kIn, ?_⟩) hst hpl
  exact run_fn (us := .ref a :: us) (vs := .ref a :: vs) F1.ok hr F1.b .nil hx I2 (.cons rfl r) (by rw [List.append_nil]; exact q2)
theorem pe_methFK (he : PE X o ta) (F : FamK X CX k R m ps ks gV sp) (hr : Room k X.A) (hx : Passes CX X E) (hkw : PK X kws tk)
    (hall : (backToKw pos (keywordEach kws X.env)).all (·.1.isSome) = true := by rfl) (hks : (backToKw pos (keywordEach kws X.env)).filterMap (·.1) = ks := by rfl)
    (hpl : ((backTo pos (starEach [] X.env)).any (·.1) || (backToKw pos (keywordEach kws X.env)).any (·.1.isNone)) = false := by rfl)
    (ht : eval (.Call (.Attribute o m apos) [] kws pos) X.env = (do
      let ov ← eval o X.env
      standAt apos.atName
      let (f, first) ← holding [ov] (getMethod ov m pl)
      callWith pos f first (backTo pos (starEach [] X.env)) (backToKw pos (keywordEach kws X.env))) := by rfl) :
    PE X (.Call (.Attribute o m apos) [] kws pos) (tMethFK R m ks.length sp gV E ta tk) := by
  refine ⟨fun pins s σ H Q I h => ?_⟩
  refine PySem.W.methodCall_KW (pl := pl) (thn (he.run pins s σ H _ I h) fun u s1 ⟨x, H1, I1, rx, a, C, dx, fs, ex, ea, hR, l, q⟩ => ?_) ht
  subst ex
  obtain rfl : u = Value.ref a := rx
  obtain ⟨g, fd, gg, F1, hb⟩ := F C hR
  refine getmeth_ok I1 ea F1.cl F1.m l ?_
  refine PySem.W.callWith_KW0 (h₀ := X.base) I.ok.mod.kin F1.m.kp hall ?_ hpl
  refine thn (hkw.run pos pins s1 σ H1 _ I1 q) fun ws s2 ⟨zs, H2, I2, rz, l1, q2⟩ => ⟨I2.kIn, ?_⟩
  rw [hks]
  exact run_fnN (us := [.ref a]) (vs := [.ref a]) F1.ok hr hb hx I2 (.cons rfl .nil) rz rfl l1 q2
theorem pe_callF (hf : PE X fe tf) (F : FamC X CX k R ps sp) (hr : Room k X.A) (hx : Passes CX X E) (ha : PA X (e :: es) t)
    (ht : eval (.Call fe (e :: es) [] pos) X.env = (do callWith pos (← eval fe X.env) [] (backTo pos (starEach (e :: es) X.env)) (backToKw pos (keywordEach [] X.env))) := by rfl)
    (he : starEach (e :: es) X.env = (false, eval e X.env) :: starEach es X.env := by rfl) (hpl : (backTo pos (starEach es X.env)).any (·.1) = false := by rfl) : PE X (.Call fe (e :: es) [] pos) (tCallF X R sp E tf t) := by
  refine ⟨fun pins s σ H Q I h => ?_⟩
  refine Call_ (thn (hf.run pins s σ H _ I h) fun u s1 ⟨y, H1, I1, ry, a, C, ey, hR, q⟩ => ?_) ht
  subst ey
  obtain rfl : u = Value.ref a := ry
  obtain ⟨g, fd, c, F1, b⟩ := F C hR
  refine StX.callO_with (thn (ha.run pos pins s1 σ H1 _ I1 q) fun us s2 ⟨vs, H2, I2, r, hi, q2⟩ => ?_) he hpl
  obtain ⟨ox, od, J, hd⟩ := StX.insC_at I2 hi
  exact ⟨⟨C, ox, od, J, hd⟩, StX.run_callO c (F1.raw b .nil) hr hx I2 hi r (by rw [List.append_nil]; exact q2)⟩
theorem pe_callFK (hf : PE X fe tf) (F : FamCK X CX k R ps ks gV sp) (hr : Room k X.A) (hx : Passes CX X E) (hkw : PK X kws tk)
    (hall : (backToKw pos (keywordEach kws X.env)).all (·.1.isSome) = true := by rfl) (hks : (backToKw pos (keywordEach kws X.env)).filterMap (·.1) = ks := by rfl)
    (hpl : ((backTo pos (starEach [] X.env)).any (·.1) || (backToKw pos (keywordEach kws X.env)).any (·.1.isNone)) = false := by rfl)
    (ht : eval (.Call fe [] kws pos) X.env = (do callWith pos (← eval fe X.env) [] (backTo pos (starEach [] X.env)) (backToKw pos (keywordEach kws X.env))) := by rfl) : PE X (.Call fe [] kws pos) (tCallFK X R ks.length sp gV E tf tk) := by
  refine ⟨fun pins s σ H Q I h => ?_⟩
  rw [ht]
  refine wpAny_bind (thn (hf.run pins s σ H _ I h) fun u s1 ⟨y, H1, I1, ry, a, C, ey, hR, q⟩ => ?_)
  subst ey
  obtain rfl : u = Value.ref a := ry
  obtain ⟨g, fd, gg, c, F1, hb⟩ := F C hR
  refine callO_ofK hpl (evalArgs_kw2_nil hall (thn (hkw.run pos pins s1 σ H1 _ I1 q) fun ws s2 ⟨zs, H2, I2, rz, l1, hi, q2⟩ => ?_))
  obtain ⟨ox, od, J, hd⟩ := StX.insC_at I2 hi
  refine ⟨⟨C, ox, od, J, hd⟩, ?_⟩
  rw [hks]
  have r2 := hb.rel (show Vals [V.ref a] [Value.ref a] from .cons rfl .nil) rz
  have hbb := hb.to s2 [.ref a] ws I2.kIn rfl (rz.length.symm.trans l1)
  refine wpAny_call (PySem.W.kco_code I2.kIn J hd c.at_ c.fn c.fi (codeAny_mono (F1.run X.A X.stack s2 H2 ⟨[.ref a], ks.zip ws⟩ (gg [.ref a] ws) (gV [.ref a] zs) Q E hr I2.env0 hbb r2 q2) fun r s' hq => ?_))
  cases r with
  | error e => exact hx pins σ H2 s2 e s' I2 hq
  | ok fl =>
    cases fl with
    | ret u => exact I2.after hq
    | next => exact False.elim hq
    | brk => exact False.elim hq
    | cont => exact False.elim hq
end
end SupX
namespace Un
open PySem L2 TL
def top (i : Nat) : Stmt := PySem.Challenge.pw_unopened_k18_plain_and_odd_boxes.main.body.getD i (.Pass ⟨0, 0, 0, 0⟩)
abbrev sBag : Stmt := top 18
abbrev sPull : Stmt := top 19
abbrev sAny : Stmt := top 20
/-! the law's drawing: a bag at b, its cells at c -/
structure BagIs (H : Hp) (b c : Addr) (ns : List Int) (p r s k : Int) : Prop where
  lb : H b = some (.lst [.ref c, .int p, .int r, .int s, .int k])
  lc : H c = some (.lst (ns.map V.int))
  nl : ns.length ≤ 63
  p0 : 0 ≤ p
  s0 : 0 ≤ s
  s1 : s < 2147483648
  r0 : 0 ≤ r
def Bag (H : Hp) (b c : Addr) : Prop := ∃ ns p r s k, BagIs H b c ns p r s k
/-- what was tracked is as it was, the bag aside -/
def Kp (b : Addr) (H H' : Hp) : Prop := ∀ a o, H a = some o → a ≠ b → H' a = some o
theorem Kp.refl (b : Addr) (H : Hp) : Kp b H H := fun _ _ h _ => h
theorem Kp.trans {b : Addr} {H H1 H2 : Hp} (x : Kp b H H1) (y : Kp b H1 H2) : Kp b H H2 := fun a o h n => y a o (x a o h n) n
theorem Same.kp {b : Addr} {H H' : Hp} (x : Same H H') : Kp b H H' := fun a o h _ => x a o h
theorem same_upd {H : Hp} {p : Addr} (h : H p = none) (o : HO) : Same H (upd H p o) := fun b u q => by rw [upd_ne (ne_of_none q h)]; exact q
theorem Bag.ne {H : Hp} {b c : Addr} (B : Bag H b c) : b ≠ c := by
  obtain ⟨ns, p, r, s, k, B⟩ := B
  intro e
  have h1 := B.lb
  rw [e, B.lc] at h1
  cases ns with
  | nil => cases h1
  | cons x t => 
    have := Option.some.inj h1
    cases this
theorem Bag.same {H H' : Hp} {b c : Addr} (B : Bag H b c) (x : Same H H') : Bag H' b c := by
  obtain ⟨ns, p, r, s, k, B⟩ := B
  exact ⟨ns, p, r, s, k, x _ _ B.lb, x _ _ B.lc, B.nl, B.p0, B.s0, B.s1, B.r0⟩
theorem Bag.upd_new {H : Hp} {b c q : Addr} (B : Bag H b c) (h : H q = none) (o : HO) : Bag (upd H q o) b c := B.same (same_upd h o)
theorem Bag.there {H : Hp} {b c : Addr} (B : Bag H b c) : ∃ o, H b = some o := by
  obtain ⟨ns, p, r, s, k, B⟩ := B
  exact ⟨_, B.lb⟩
theorem Bag.fresh {H : Hp} {b c q : Addr} (B : Bag H b c) (h : H q = none) : q ≠ b := by
  obtain ⟨o, e⟩ := B.there
  exact (ne_of_none e h).symm
/-- the bag's list is written -/
theorem BagIs.put {H : Hp} {b c : Addr} {ns : List Int} {p r s k p' r' s' k' : Int} (B : BagIs H b c ns p r s k) (h0 : 0 ≤ p') (h1 : 0 ≤ s') (h2 : s' < 2147483648) (h3 : 0 ≤ r') :
    BagIs (upd H b (.lst [.ref c, .int p', .int r', .int s', .int k'])) b c ns p' r' s' k' := by
  have n : b ≠ c := Bag.ne ⟨ns, p, r, s, k, B⟩
  exact ⟨upd_same, by rw [upd_ne n.symm]; exact B.lc, B.nl, h0, h1, h2, h3⟩
def spPull : Sp := fun vs H Q _ => ∃ (b c : Addr) (many : Int), vs = [.ref b, .int many] ∧ Bag H b c ∧ 0 < many ∧ many < 1073741824 ∧
  ∀ (d : Int) (H' : Hp), 0 ≤ d → d < many → Bag H' b c → Kp b H H' → Q (.int d) H'
section
variable {P : Program} {w : World} {K : PySem.W.Frag} {mg : Str → Option Value} {base : Heap}
theorem scPull : FnScope ["_law_bag_here", "_law_many", "_law_cell", "_law_digit", "_law_seed"] ["_law_bag_here", "_law_many"] (defScope sPull) := ⟨rfl, rfl, rfl, by decide +kernel, rfl, by decide +kernel, by decide +kernel⟩
theorem ok_pull {f : Addr} {fd : FuncData} (F : Fun K "_law_pull" "_law_pull" sPull f fd) (mlen : mg "len" = none) (mint : mg "int" = none) : FnOk P w K mg base CX0 1 f fd ["_law_bag_here", "_law_many"] spPull := by
  refine F.ok scPull (fun vs H Q E h => ?_) (fun cdv A outer s H vs Q E hr h => ?_)
  · obtain ⟨b, c, many, rfl, _⟩ := h
    rfl
  obtain ⟨b, c, many, rfl, ⟨ns, p, r, s, k, B⟩, m0, m1, q⟩ := h
  refine ⟨_, C8.pss_cut (ps_if (PW.pt (pw_and (pt_cmpR op_eq (pe_ix ix_list (pv 0) pe_int (fun _ _ => rfl)) pe_int (nomark _)) (pw_and1 (pt_cmpR op_lt (pe_ix ix_list (pv 0) pe_int (fun _ _ => rfl)) (pe_callB call_len_seq (by rfl) mlen PySem.boot_len (pa_cons (pe_ix ix_list (pv 0) pe_int (fun _ _ => rfl)) pa_nil)) (nomark _)))))
      (pss_cons (ps_set (i := 2) scPull.nd rfl (Or.inl rfl) (pe_ix ix_list (pe_ix ix_list (pv 0) pe_int (fun _ _ => rfl)) (pe_ix ix_list (pv 0) pe_int (fun _ _ => rfl)) (fun _ _ => rfl)))
      (pss_cons (ps_asg (pe_op op_add (pe_ix ix_list (pv 0) pe_int (fun _ _ => rfl)) pe_int) (pg_sub (pv 0) pe_int set_list))
      (pss_one (ps_if (pt_cmpR op_ge (pv 2) (pe_op op_pow pe_int pe_int) (nomark _))
        (pss_one (ps_asg (pv 2) (pg_sub (pv 0) pe_int set_list)))
        (pss_one (ps_asg (pe_op op_mod (pe_callTy call_int1 (by rfl) mint (by decide +kernel) (pa_cons (pe_op op_add (pe_op op_add (pe_op op_mul (pe_ix ix_list (pv 0) pe_int (fun _ _ => rfl)) pe_int) (pe_op op_mul (pe_op op_mod (pe_callTy call_int1 (by rfl) mint (by decide +kernel) (pa_cons (pv 2) pa_nil)) pe_int) pe_int)) pe_int) pa_nil)) pe_int) (pg_sub (pv 0) pe_int set_list)))))))
      pss_nil)
    (pss_cons (ps_if (pt_cmpR op_gt (pe_ix ix_list (pv 0) pe_int (fun _ _ => rfl)) pe_int (nomark _))
      (pss_cons (ps_set (i := 3) scPull.nd rfl (Or.inl rfl) (pe_op op_mod (pe_callTy call_int1 (by rfl) mint (by decide +kernel) (pa_cons (pe_ix ix_list (pv 0) pe_int (fun _ _ => rfl)) pa_nil)) (pv 1)))
      (pss_cons (ps_asg (pe_op op_fdiv (pe_ix ix_list (pv 0) pe_int (fun _ _ => rfl)) (pv 1)) (pg_sub (pv 0) pe_int set_list))
      (pss_one (ps_ret (pv 3)))))
      pss_nil)
    (pss_cons (ps_asg (pe_op op_add (pe_ix ix_list (pv 0) pe_int (fun _ _ => rfl)) pe_int) (pg_sub (pv 0) pe_int set_list))
    (pss_cons (ps_set (i := 4) scPull.nd rfl (Or.inl rfl) (pe_ix ix_list (pv 0) pe_int (fun _ _ => rfl)))
    (pss_cons (ps_asg (pe_op op_mod (pe_callTy call_int1 (by rfl) mint (by decide +kernel) (pa_cons (pe_op op_add (pe_op op_add (pe_op op_add (pe_op op_mul (pe_op op_mul (pv 4) (pv 4)) pe_int) (pe_op op_mul (pv 4) pe_int)) (pe_op op_mul (pe_ix ix_list (pv 0) pe_int (fun _ _ => rfl)) pe_int)) pe_int) pa_nil)) pe_int) (pg_sub (pv 0) pe_int set_list))
    (pss_one (ps_ret (pe_op op_mod (pe_callTy call_int1 (by rfl) mint (by decide +kernel) (pa_cons (pe_op op_add (pe_op op_fdiv (pe_ix ix_list (pv 0) pe_int (fun _ _ => rfl)) pe_int) (pe_op op_mul (pe_op op_mod (pe_callTy call_int1 (by rfl) mint (by decide +kernel) (pa_cons (pe_ix ix_list (pv 0) pe_int (fun _ _ => rfl)) pa_nil)) pe_int) pe_int)) pa_nil)) (pv 1)))))))), ?_⟩
  have r0 : SqL K H b [.ref c, .int p, .int r, .int s, .int k] := SqL.of B.lb
  have rc : SqL K H c (ns.map V.int) := SqL.of B.lc
  refine ⟨fun σ' H2 => ∃ p r s k v2, σ' = [some (.ref b), some (.int many), v2, none, none] ∧ BagIs H2 b c ns p r s k ∧ Kp b H H2, ?_, ?_⟩
  · -- if bag[2] == 0 and bag[1] < len(bag[0])
    refine ⟨.ref b, rfl, b, _, 2, .int r, rfl, rfl, r0, rfl, rfl, _, rfl, ?_⟩
    refine ite2 (fun _ => ?_) (fun _ => ?_)
    case refine_2 => exact iteF ⟨p, r, s, k, none, rfl, B, Kp.refl b H⟩
    refine ⟨.ref b, rfl, b, _, 1, .int p, rfl, rfl, r0, rfl, .ref b, rfl, b, _, 0, .ref c, rfl, rfl, r0, rfl, c, _, rfl, .inl rc, p, _, rfl, rfl, _, rfl, ?_⟩
    refine ite2 (fun hp => ?_) (fun _ => ?_)
    case refine_2 => exact ⟨p, r, s, k, none, rfl, B, Kp.refl b H⟩
    have hp' : p < ((ns.map V.int).length : Int) := of_decide_eq_true hp
    rw [List.length_map] at hp'
    have hpn : p.toNat < ns.length := by have := B.p0; omega
    have hcell : atI (ns.map V.int) p = some (.int ns[p.toNat]) := by
      have e : p = ((p.toNat : Nat) : Int) := by have := B.p0; omega
      have q : atI (ns.map V.int) ((p.toNat : Nat) : Int) = some (.int ns[p.toNat]) := atI_nat (by rw [List.getElem?_map, List.getElem?_eq_getElem hpn] <;> rfl)
      rw [← e] at q
      exact q
    -- cell = bag[0][bag[1]]; bag[1] = bag[1] + 1
    refine ⟨.ref b, rfl, b, _, 0, .ref c, rfl, rfl, r0, rfl, .ref b, rfl, b, _, 1, .int p, rfl, rfl, r0, rfl, c, _, p, _, rfl, rfl, rc, hcell, ?_⟩
    refine ⟨.ref b, rfl, b, _, 1, .int p, rfl, rfl, r0, rfl, p, 1, rfl, rfl, .ref b, rfl, b, _, 1, 1, rfl, rfl, B.lb, rfl, ?_⟩
    have B1 : BagIs (upd H b (.lst [.ref c, .int (p + 1), .int r, .int s, .int k])) b c ns (p + 1) r s k := B.put (by have := B.p0; omega) B.s0 B.s1 B.r0
    have k1 : Kp b H (upd H b (.lst [.ref c, .int (p + 1), .int r, .int s, .int k])) := fun a o e n => by rw [upd_ne n]; exact e
    -- if cell >= 10 ** 18
    refine ⟨_, rfl, 10, 18, rfl, rfl, ⟨by decide, by decide, by decide⟩, _, _, rfl, rfl, _, rfl, ?_⟩
    refine ite2 (fun hg => ?_) (fun _ => ?_)
    · have hg' : ns[p.toNat] ≥ (10 : Int) ^ (18 : Int).toNat := of_decide_eq_true hg
      have hg0 : 0 ≤ ns[p.toNat] := Int.le_trans (by decide) hg'
      refine ⟨_, rfl, .ref b, rfl, b, _, 2, 2, rfl, rfl, B1.lb, rfl, ?_⟩
      have e1 : upd (upd H b (.lst [.ref c, .int (p + 1), .int r, .int s, .int k])) b (.lst [.ref c, .int (p + 1), .int ns[p.toNat], .int s, .int k]) = upd H b (.lst [.ref c, .int (p + 1), .int ns[p.toNat], .int s, .int k]) := upd_upd
      refine ⟨p + 1, ns[p.toNat], s, k, _, rfl, ?_, ?_⟩
      · exact B1.put B1.p0 B.s0 B.s1 hg0
      · exact k1.trans fun a o e n => by rw [upd_ne n]; exact e
    · refine ⟨.ref b, rfl, b, _, 3, .int s, rfl, rfl, SqL.of B1.lb, rfl, s, 48623, rfl, rfl, .inr ⟨by decide, by decide⟩, ?_⟩
      refine ⟨_, rfl, .inl ⟨_, rfl, ?_⟩⟩
      refine ⟨_, 2147483399, rfl, rfl, (by show (0 : Int) < 2147483399; decide), ?_⟩
      refine ⟨_, 15017, rfl, rfl, .inr ⟨by decide, by decide⟩, ?_⟩
      refine ⟨_, _, rfl, rfl, _, 31, rfl, rfl, .inl ⟨_, rfl, ?_⟩⟩
      refine ⟨_, 2147483563, rfl, rfl, (by show (0 : Int) < 2147483563; decide), ?_⟩
      refine ⟨.ref b, rfl, b, _, 3, 3, rfl, rfl, B1.lb, rfl, ?_⟩
      refine ⟨p + 1, r, _, k, _, rfl, B1.put B1.p0 ?_ ?_ B.r0, k1.trans fun a o e n => by rw [upd_ne n]; exact e⟩
      · exact Int.emod_nonneg _ (by decide)
      · exact Int.lt_trans (Int.emod_lt_of_pos _ (by decide)) (by decide)
  · rintro σ' H2 ⟨p, r, s, k, v2, rfl, B, kp⟩
    have r0 : SqL K H2 b [.ref c, .int p, .int r, .int s, .int k] := SqL.of B.lb
    -- if bag[2] > 0
    refine ⟨.ref b, rfl, b, _, 2, .int r, rfl, rfl, r0, rfl, _, _, rfl, rfl, _, rfl, ?_⟩
    refine ite2 (fun _ => ?_) (fun _ => ?_)
    · refine ⟨.ref b, rfl, b, _, 2, .int r, rfl, rfl, r0, rfl, .inl ⟨_, rfl, ?_⟩⟩
      refine ⟨_, rfl, _, _, rfl, rfl, m0, ?_⟩
      refine ⟨.ref b, rfl, b, _, 2, .int r, rfl, rfl, r0, rfl, _, rfl, _, _, rfl, rfl, ⟨m0, m1⟩, ?_⟩
      refine ⟨.ref b, rfl, b, _, 2, 2, rfl, rfl, B.lb, rfl, ?_⟩
      refine ⟨_, rfl, ?_⟩
      exact q _ _ (Int.emod_nonneg _ (by omega)) (Int.emod_lt_of_pos _ m0) ⟨ns, p, _, s, k, B.put B.p0 B.s0 B.s1 (Int.ediv_nonneg B.r0 (by omega))⟩ (kp.trans fun a o e n => by rw [upd_ne n]; exact e)
    · -- bag[4] = bag[4] + 1; seed = bag[3]
      refine ⟨.ref b, rfl, b, _, 4, .int k, rfl, rfl, r0, rfl, k, 1, rfl, rfl, .ref b, rfl, b, _, 4, 4, rfl, rfl, B.lb, rfl, ?_⟩
      have B1 : BagIs (upd H2 b (.lst [.ref c, .int p, .int r, .int s, .int (k + 1)])) b c ns p r s (k + 1) := B.put B.p0 B.s0 B.s1 B.r0
      have k1 : Kp b H (upd H2 b (.lst [.ref c, .int p, .int r, .int s, .int (k + 1)])) := kp.trans fun a o e n => by rw [upd_ne n]; exact e
      refine ⟨.ref b, rfl, b, _, 3, .int s, rfl, rfl, SqL.of B1.lb, rfl, ?_⟩
      have hs0 := B.s0
      have hs1 := B.s1
      refine ⟨_, rfl, _, rfl, _, _, rfl, rfl, .inl ⟨by omega, by omega⟩, _, 7, rfl, rfl, .inr ⟨by decide, by decide⟩, ?_⟩
      refine ⟨_, rfl, _, 31159, rfl, rfl, .inr ⟨by decide, by decide⟩, _, _, rfl, rfl, ?_⟩
      refine ⟨.ref b, rfl, b, _, 4, .int (k + 1), rfl, rfl, SqL.of B1.lb, rfl, _, 1299841, rfl, rfl, .inr ⟨by decide, by decide⟩, _, _, rfl, rfl, ?_⟩
      refine ⟨_, 70003, rfl, rfl, .inl ⟨_, rfl, ?_⟩⟩
      refine ⟨_, 2147483543, rfl, rfl, (by show (0 : Int) < 2147483543; decide), ?_⟩
      refine ⟨.ref b, rfl, b, _, 3, 3, rfl, rfl, B1.lb, rfl, ?_⟩
      have B2 := B1.put (p' := p) (r' := r) (k' := k + 1) B.p0 (Int.emod_nonneg (s * s * 7 + s * 31159 + (k + 1) * 1299841 + 70003) (show (2147483543 : Int) ≠ 0 by decide)) (Int.lt_trans (Int.emod_lt_of_pos _ (by decide)) (by decide)) B.r0
      refine ⟨.ref b, rfl, b, _, 3, _, rfl, rfl, SqL.of B2.lb, rfl, _, 73, rfl, rfl, ⟨by decide, by decide⟩, ?_⟩
      refine ⟨.ref b, rfl, b, _, 3, _, rfl, rfl, SqL.of B2.lb, rfl, .inl ⟨_, rfl, ?_⟩⟩
      refine ⟨_, 7919, rfl, rfl, (by show (0 : Int) < 7919; decide), _, 59, rfl, rfl, .inr ⟨by decide, by decide⟩, ?_⟩
      refine ⟨_, _, rfl, rfl, .inl ⟨_, rfl, ?_⟩⟩
      refine ⟨_, rfl, _, _, rfl, rfl, m0, ?_⟩
      exact q _ _ (Int.emod_nonneg _ (by omega)) (Int.emod_lt_of_pos _ m0) ⟨ns, p, _, _, _, B2⟩ (k1.trans fun a o e n => by rw [upd_ne n]; exact e)

/-! the bag is made -/
theorem cut_ints (ns : List Int) (lo hi : Option Int) : ∃ ms : List Int, cutV (ns.map V.int) lo hi = ms.map V.int ∧ ms.length ≤ ns.length := by
  refine ⟨(ns.drop (HT.sIx ns.length 0 lo)).take (HT.sIx ns.length ns.length hi - HT.sIx ns.length 0 lo), ?_, ?_⟩
  · unfold cutV
    rw [List.length_map, List.map_take, List.map_drop]
  · rw [List.length_take, List.length_drop]
    omega
def spBag (K : PySem.W.Frag) : Sp := fun vs H Q _ => ∃ (a : Addr) (ns : List Int), vs = [.ref a] ∧ SqL K H a (ns.map V.int) ∧ ns.length ≤ 63 ∧
  ∀ (b c : Addr) (H' : Hp), Same H H' → H b = none → H c = none → Bag H' b c → Q (.ref b) H'
theorem scBag : FnScope ["_law_script"] ["_law_script"] (defScope sBag) := ⟨rfl, rfl, rfl, by decide +kernel, rfl, by decide +kernel, by decide +kernel⟩
theorem ok_bag {f : Addr} {fd : FuncData} (F : Fun K "_law_bag" "_law_bag" sBag f fd) (mlen : mg "len" = none) (mlist : mg "list" = none) : FnOk P w K mg base CX0 1 f fd ["_law_script"] (spBag K) := by
  refine F.ok scBag (fun vs H Q E h => ?_) (fun cdv A outer s H vs Q E hr h => ?_)
  · obtain ⟨a, ns, rfl, _⟩ := h
    rfl
  obtain ⟨a, ns, rfl, hS, h63, q⟩ := h
  refine ⟨_, pss_one (ps_ret (pe_lst (pa_cons (pe_callTy call_list_of (by rfl) mlist (by decide +kernel) (pa_cons (pe_slice sl_list (pv 0) po_none (po_some pe_int)) pa_nil)) (pa_cons pe_int (pa_cons pe_int (pa_cons (pe_op op_add pe_int (pe_callB call_len_seq (by rfl) mlen PySem.boot_len (pa_cons (pv 0) pa_nil))) (pa_cons pe_int pa_nil))))))), ?_⟩
  obtain ⟨ms, em, hm⟩ := cut_ints ns none (some 63)
  refine ⟨_, rfl, 63, rfl, a, _, rfl, hS, fun x hx => ?_⟩
  rw [em]
  have s1 := same_upd hx (.lst (ms.map V.int))
  refine ⟨x, _, rfl, .inl (SqL.of upd_same), fun y hy => ?_⟩
  have s2 := s1.trans (same_upd hy (.lst (ms.map V.int)))
  refine ⟨_, rfl, a, _, rfl, .inl (s2.seq hS), _, _, rfl, rfl, (by show 5 ≤ sizeLine; decide), fun b hb => ?_⟩
  have hb0 : H b = none := s2.free hb
  have hyb : y ≠ b := fun e => by
    rw [← e, upd_same] at hb
    cases hb
  refine q b y _ (s2.trans (same_upd hb _)) hb0 (s1.free hy) ⟨ms, 0, 0, _, 0, upd_same, ?_, by omega, by decide, ?_, ?_, by decide⟩
  · rw [upd_ne hyb, upd_same]
  · show (0 : Int) ≤ 12002 + ((ns.map V.int).length : Int)
    omega
  · show 12002 + ((ns.map V.int).length : Int) < 2147483648
    rw [List.length_map]
    omega
/-! one of several things -/
theorem Kp.seqL {b : Addr} {H H' : Hp} (x : Kp b H H') {a : Addr} {xs : List V} (n : a ≠ b) (h : SqL K H a xs) : SqL K H' a xs := by
  rcases h with (h | ⟨o, h⟩) | h
  · exact .inl (.inl (x _ _ h n))
  · exact .inl (.inr ⟨o, x _ _ h n⟩)
  · exact .inr h
theorem Kp.seqT {b : Addr} {H H' : Hp} (x : Kp b H H') {a : Addr} {xs : List V} (n : a ≠ b) (h : SqT K H a xs) : SqT K H' a xs := by
  rcases h with (h | ⟨o, h⟩) | h
  · exact .inl (.inl (x _ _ h n))
  · exact .inl (.inr ⟨o, x _ _ h n⟩)
  · exact .inr h
/-- what may be drawn from -/
def Menu (K : PySem.W.Frag) (H : Hp) (b : Addr) (x : V) (its : List V) : Prop :=
  (∃ a, x = .ref a ∧ a ≠ b ∧ SqL K H a its) ∨ (∃ a, x = .ref a ∧ a ≠ b ∧ SqT K H a its) ∨ (∃ z : Str, x = .str z ∧ z.length ≤ sizeLine ∧ its = z.cps.toList.map (fun c => V.str ⟨#[c]⟩))
def spAny (K : PySem.W.Frag) : Sp := fun vs H Q _ => ∃ (b c : Addr) (x : V) (its : List V), vs = [.ref b, x] ∧ Bag H b c ∧ Menu K H b x its ∧ 0 < its.length ∧ its.length < 1073741824 ∧
  ∀ (y : V) (H' : Hp), y ∈ its → Bag H' b c → Kp b H H' → Q y H'
theorem scAny : FnScope ["_law_bag_here", "_law_things"] ["_law_bag_here", "_law_things"] (defScope sAny) := ⟨rfl, rfl, rfl, by decide +kernel, rfl, by decide +kernel, by decide +kernel⟩
theorem str_len (z : Str) : z.length = z.cps.toList.length := by
  show z.cps.size = _
  rw [Array.length_toList]
theorem ok_any {f g : Addr} {fd gd : FuncData} (F : Fun K "_law_any" "_law_any" sAny f fd) (G : FnOk P w K mg base CX0 1 g gd ["_law_bag_here", "_law_many"] spPull) (bG : Binds K gd ["_law_bag_here", "_law_many"] []) (kG : PySem.W.keepIn K (.ref g) = true) (mG : mg "_law_pull" = some (.ref g))
    (mlen : mg "len" = none) : FnOk P w K mg base CX0 2 f fd ["_law_bag_here", "_law_things"] (spAny K) := by
  refine F.ok scAny (fun vs H Q E h => ?_) (fun cdv A outer s H vs Q E hr h => ?_)
  · obtain ⟨b, c, x, its, rfl, _⟩ := h
    rfl
  obtain ⟨b, c, x, its, rfl, B, M, l0, l1, q⟩ := h
  refine ⟨_, pss_one (ps_ret (pe_ix ix_seq (pv 1) (pe_call G hr (by rfl) mG kG bG .nil pass0 (pa_cons (pv 0) (pa_cons (pe_callB call_len (by rfl) mlen PySem.boot_len (pa_cons (pv 1) pa_nil)) pa_nil))) (fun _ _ => rfl))), ?_⟩
  have hlen : LenV K x H its.length := by
    rcases M with ⟨a, rfl, _, h⟩ | ⟨a, rfl, _, h⟩ | ⟨z, rfl, hz, rfl⟩
    · exact .inl ⟨_, h, rfl⟩
    · exact .inr ⟨_, h, rfl⟩
    · exact ⟨hz, by rw [List.length_map, str_len]⟩
  refine ⟨x, rfl, .ref b, rfl, x, rfl, x, its.length, rfl, hlen, b, c, _, rfl, B, by omega, by omega, fun d H' d0 d1 B' kp => ?_⟩
  have hd : d.toNat < its.length := by omega
  have ed : d = ((d.toNat : Nat) : Int) := by omega
  have hat : atI its d = some its[d.toNat] := by
    have e : atI its ((d.toNat : Nat) : Int) = some its[d.toNat] := atI_nat (by rw [List.getElem?_eq_getElem hd])
    rw [← ed] at e
    exact e
  have fin : Q its[d.toNat] H' := q _ _ (List.getElem_mem hd) B' kp
  rcases M with ⟨a, rfl, na, h⟩ | ⟨a, rfl, na, h⟩ | ⟨z, rfl, hz, rfl⟩
  · exact .inl ⟨a, _, d, _, rfl, rfl, kp.seqL na h, hat, fin⟩
  · exact .inr (.inl ⟨a, _, d, _, rfl, rfl, kp.seqT na h, hat, fin⟩)
  · have hc : d.toNat < z.cps.toList.length := by
      rw [List.length_map] at hd
      exact hd
    have e : atI z.cps.toList ((d.toNat : Nat) : Int) = some z.cps.toList[d.toNat] := atI_nat (by rw [List.getElem?_eq_getElem hc])
    rw [← ed] at e
    have e2 : (z.cps.toList.map (fun c => V.str ⟨#[c]⟩))[d.toNat] = V.str ⟨#[z.cps.toList[d.toNat]]⟩ := by rw [List.getElem_map]
    rw [e2] at fin
    exact .inr (.inr ⟨z, d, _, rfl, rfl, hz, e, fin⟩)
/-! two values that are equal and of the same kinds -/
abbrev sSame : Stmt := top 21
def Leaf : V → Prop
  | .non => True | .bl _ => True | .int _ => True | .str _ => True | _ => False
def Eqv (H : Hp) : Nat → V → V → Prop
  | 0, x, y => Leaf x ∧ x = y
  | n + 1, x, y => (Leaf x ∧ x = y) ∨ ∃ (a b : Addr) (xs ys : List V), x = .ref a ∧ y = .ref b ∧ xs.length = ys.length ∧ xs.length ≤ 100000 ∧ ((H a = some (.lst xs) ∧ H b = some (.lst ys)) ∨ (H a = some (.tup xs) ∧ H b = some (.tup ys))) ∧
      ∀ (i : Nat) (u v : V), xs[i]? = some u → ys[i]? = some v → Eqv H n u v
theorem Eqv.same {H H' : Hp} (s : Same H H') : ∀ {n : Nat} {x y : V}, Eqv H n x y → Eqv H' n x y
  | 0, _, _, h => h
  | n + 1, _, _, h => by
    rcases h with h | ⟨a, b, xs, ys, e1, e2, l, z, h, k⟩
    · exact .inl h
    · refine .inr ⟨a, b, xs, ys, e1, e2, l, z, ?_, fun i u v hu hv => Eqv.same s (k i u v hu hv)⟩
      rcases h with ⟨h1, h2⟩ | ⟨h1, h2⟩
      · exact .inl ⟨s _ _ h1, s _ _ h2⟩
      · exact .inr ⟨s _ _ h1, s _ _ h2⟩
theorem Eqv.leaf {H : Hp} {x : V} (h : Leaf x) : ∀ n, Eqv H n x x
  | 0 => ⟨h, rfl⟩
  | _ + 1 => .inl ⟨h, rfl⟩
def spSame : Nat → Sp
  | 0 => fun _ _ _ _ => False
  | n + 1 => fun vs H Q _ => ∃ (x y : V), vs = [x, y] ∧ Eqv H n x y ∧ ∀ H', Same H H' → Q (.bl true) H'
theorem kitLT {K : PySem.W.Frag} {a : String} {r1 r2 : Bool} (h1 : kitB a "list" = some r1) (h2 : kitB a "tuple" = some r2) : PySem.W.kitAny K (.type a) [.type "list", .type "tuple"] = some (r1 || r2) := by
  cases r1 with
  | true => exact kitAny_cons (kit_ty h1) (fun z => nomatch z) (fun _ => rfl)
  | false =>
    refine kitAny_cons (kit_ty h1) (fun _ => ?_) (fun z => nomatch z)
    cases r2 with
    | true => exact kitAny_cons (kit_ty h2) (fun z => nomatch z) (fun _ => rfl)
    | false => exact kitAny_cons (kit_ty h2) (fun _ => kitAny_nil) (fun z => nomatch z)
/-- a comprehension over zip, turn by turn -/
theorem lc_zipL {K : PySem.W.Frag} {a b : Addr} {xs ys : List V} {g : TG} {te : TE} {vs : List Nat} {σ : L2.St} {H1 : Hp} {D : Addr} {Qd : Hp → Prop} (hl : xs.length = ys.length) (Pv : Nat → Hp → Prop) (h0 : Pv 0 (upd H1 D (.lst []))) (hq : ∀ i H, Pv i H → SqL K H a xs ∧ SqL K H b ys)
    (hs : ∀ (i : Nat) (x y : V) (T : Addr) (H : Hp), xs[i]? = some x → ys[i]? = some y → Pv i H → H T = none → g (.ref T) (wipe σ vs) (upd H T (.tup [x, y])) fun σ2 H2 => wipe σ2 vs = wipe σ vs ∧ te σ2 H2 fun y H4 => ∃ acc, H4 D = some (.lst acc) ∧ acc.length < sizeLine ∧ Pv (i + 1) (upd H4 D (.lst (acc ++ [y])))) (hd : ∀ H, Pv xs.length H → Qd H) :
    ∃ W : Nat → Nat → Hp → Prop, (∃ m, W 0 m (upd H1 D (.lst []))) ∧ ∀ i m H, W i m H →
      ((Itz K a b).stop i H ∧ Qd H) ∨ ((Itz K a b).go i H ∧ ∃ Nx : Hp → Prop, (∀ H', Nx H' → ∃ m', m' < m ∧ W (i + 1) m' H') ∧ ∀ x H', (Itz K a b).yld i H x H' → g x (wipe σ vs) H' fun σ2 H2 => wipe σ2 vs = wipe σ vs ∧ tYes σ2 H2 fun b H3 =>
        if b = true then te σ2 H3 fun y H4 => ∃ acc, H4 D = some (.lst acc) ∧ acc.length < sizeLine ∧ Nx (upd H4 D (.lst (acc ++ [y]))) else Nx H3) := by
  refine ⟨fun i m H => m = xs.length - i ∧ i ≤ xs.length ∧ Pv i H, ⟨xs.length, rfl, Nat.zero_le _, h0⟩, ?_⟩
  rintro i m H ⟨rfl, hi, p⟩
  obtain ⟨qx, qy⟩ := hq i H p
  by_cases hlt : i < xs.length
  · have hx : xs[i]? = some xs[i] := List.getElem?_eq_getElem hlt
    have hlt2 : i < ys.length := by omega
    have hy : ys[i]? = some ys[i] := List.getElem?_eq_getElem hlt2
    refine .inr ⟨⟨xs, ys, _, _, qx, qy, hx, hy⟩, Pv (i + 1), fun H' p' => ⟨xs.length - (i + 1), by omega, rfl, hlt, p'⟩, fun v H' y => ?_⟩
    obtain ⟨T, x', y', rfl, hT, rfl, f1, f2⟩ := y
    exact hs i x' y' T H (f1 xs qx) (f2 ys qy) p hT
  · have e : i = xs.length := by omega
    subst e
    exact .inl ⟨⟨xs, ys, qx, qy, Or.inl (Nat.le_refl _)⟩, hd H p⟩
theorem lc_zipT {K : PySem.W.Frag} {a b : Addr} {xs ys : List V} {g : TG} {te : TE} {vs : List Nat} {σ : L2.St} {H1 : Hp} {D : Addr} {Qd : Hp → Prop} (hl : xs.length = ys.length) (Pv : Nat → Hp → Prop) (h0 : Pv 0 (upd H1 D (.lst []))) (hq : ∀ i H, Pv i H → SqT K H a xs ∧ SqT K H b ys)
    (hs : ∀ (i : Nat) (x y : V) (T : Addr) (H : Hp), xs[i]? = some x → ys[i]? = some y → Pv i H → H T = none → g (.ref T) (wipe σ vs) (upd H T (.tup [x, y])) fun σ2 H2 => wipe σ2 vs = wipe σ vs ∧ te σ2 H2 fun y H4 => ∃ acc, H4 D = some (.lst acc) ∧ acc.length < sizeLine ∧ Pv (i + 1) (upd H4 D (.lst (acc ++ [y])))) (hd : ∀ H, Pv xs.length H → Qd H) :
    ∃ W : Nat → Nat → Hp → Prop, (∃ m, W 0 m (upd H1 D (.lst []))) ∧ ∀ i m H, W i m H →
      ((RZ.ItzT K a b).stop i H ∧ Qd H) ∨ ((RZ.ItzT K a b).go i H ∧ ∃ Nx : Hp → Prop, (∀ H', Nx H' → ∃ m', m' < m ∧ W (i + 1) m' H') ∧ ∀ x H', (RZ.ItzT K a b).yld i H x H' → g x (wipe σ vs) H' fun σ2 H2 => wipe σ2 vs = wipe σ vs ∧ tYes σ2 H2 fun b H3 =>
        if b = true then te σ2 H3 fun y H4 => ∃ acc, H4 D = some (.lst acc) ∧ acc.length < sizeLine ∧ Nx (upd H4 D (.lst (acc ++ [y]))) else Nx H3) := by
  refine ⟨fun i m H => m = xs.length - i ∧ i ≤ xs.length ∧ Pv i H, ⟨xs.length, rfl, Nat.zero_le _, h0⟩, ?_⟩
  rintro i m H ⟨rfl, hi, p⟩
  obtain ⟨qx, qy⟩ := hq i H p
  by_cases hlt : i < xs.length
  · have hx : xs[i]? = some xs[i] := List.getElem?_eq_getElem hlt
    have hlt2 : i < ys.length := by omega
    have hy : ys[i]? = some ys[i] := List.getElem?_eq_getElem hlt2
    refine .inr ⟨⟨xs, ys, _, _, qx, qy, hx, hy⟩, Pv (i + 1), fun H' p' => ⟨xs.length - (i + 1), by omega, rfl, hlt, p'⟩, fun v H' y => ?_⟩
    obtain ⟨T, x', y', rfl, hT, rfl, f1, f2⟩ := y
    exact hs i x' y' T H (f1 xs qx) (f2 ys qy) p hT
  · have e : i = xs.length := by omega
    subst e
    exact .inl ⟨⟨xs, ys, qx, qy, Or.inl (Nat.le_refl _)⟩, hd H p⟩
/-- the built-in names that _law_same reads -/
structure SameTxt (mg : Str → Option Value) : Prop where
  isi : mg "isinstance" = none
  list : mg "list" = none
  tuple : mg "tuple" = none
  len : mg "len" = none
  all : mg "all" = none
  zip : mg "zip" = none
  bool : mg "bool" = none
  int : mg "int" = none
  str : mg "str" = none
theorem scSame : FnScope ["_law_found", "_law_due", "_law_one", "_law_two"] ["_law_found", "_law_due"] (defScope sSame) := ⟨rfl, rfl, rfl, by decide +kernel, rfl, by decide +kernel, by decide +kernel⟩
theorem all_true (n : Nat) : (List.replicate n true).all id = true := by
  induction n with
  | zero => rfl
  | succ n ih => rw [List.replicate_succ, List.all_cons, ih]; rfl
theorem ok_same {f : Addr} {fd : FuncData} {n : Nat} (F : Fun K "_law_same" "_law_same" sSame f fd) (T : SameTxt mg) (G : FnOk P w K mg base CX0 n f fd ["_law_found", "_law_due"] (spSame n)) (bG : Binds K fd ["_law_found", "_law_due"] []) (kG : PySem.W.keepIn K (.ref f) = true) (mG : mg "_law_same" = some (.ref f)) :
    FnOk P w K mg base CX0 (n + 1) f fd ["_law_found", "_law_due"] (spSame (n + 1)) := by
  refine F.ok scSame (fun vs H Q E h => ?_) (fun cdv A outer s H vs Q E hr h => ?_)
  · obtain ⟨x, y, rfl, _⟩ := h
    rfl
  obtain ⟨x, y, rfl, e, q⟩ := h
  refine ⟨_, pss_cons (ps_if (pt_val (pe_callB call_isiT (by rfl) T.isi (by decide +kernel) (pa_cons (pv 1) (pa_cons (pe_tup (pa_cons (pe_bltn (v := .ty "list") (by rfl) T.list (by decide +kernel) rfl) (pa_cons (pe_bltn (v := .ty "tuple") (by rfl) T.tuple (by decide +kernel) rfl) pa_nil))) pa_nil))))
      (pss_cons (ps_if (PW.pt (pw_or (pt_cmpR op_ne (pe_callB call_isi (by rfl) T.isi (by decide +kernel) (pa_cons (pv 0) (pa_cons (pe_bltn (v := .ty "list") (by rfl) T.list (by decide +kernel) rfl) pa_nil))) (pe_callB call_isi (by rfl) T.isi (by decide +kernel) (pa_cons (pv 1) (pa_cons (pe_bltn (v := .ty "list") (by rfl) T.list (by decide +kernel) rfl) pa_nil))) (nomark _))
          (pw_or1 (pt_cmpR op_ne (pe_callB call_isi (by rfl) T.isi (by decide +kernel) (pa_cons (pv 0) (pa_cons (pe_bltn (v := .ty "tuple") (by rfl) T.tuple (by decide +kernel) rfl) pa_nil))) (pe_callB call_isi (by rfl) T.isi (by decide +kernel) (pa_cons (pv 1) (pa_cons (pe_bltn (v := .ty "tuple") (by rfl) T.tuple (by decide +kernel) rfl) pa_nil))) (nomark _)))))
          (pss_one (ps_ret pe_bl)) pss_nil)
      (pss_one (ps_ret (pe_and (pe_cmpR op_eq (pe_callB call_len_seq (by rfl) T.len PySem.boot_len (pa_cons (pv 0) pa_nil)) (pe_callB call_len_seq (by rfl) T.len PySem.boot_len (pa_cons (pv 1) pa_nil)) (nomark _)) (pe_one (pe_callB (cr_all rfl) (by rfl) T.all (by decide +kernel) (pa_cons
          (pe_lc (own := [("_law_one", 2), ("_law_two", 3)]) (g := gTup K 2 (gCons (gName 2) (gCons (gName 3) gNil))) rfl scSame.nd (RZ.pi_zipA (by rfl) T.zip (pa_cons (pv 0) (pa_cons (pv 1) pa_nil))) (blkOk_by (own := [("_law_one", 2), ("_law_two", 3)]) (N := ["_law_found", "_law_due", "_law_one", "_law_two"]) (sc := defScope sSame) (by decide +kernel))
            (fun _ _ _ _ _ => pg_tup (n := 2) rfl (pgs_cons (pg_name (i := 2) scSame.nd rfl (Or.inl rfl) (Or.inr rfl)) (pgs_cons (pg_name (i := 3) scSame.nd rfl (Or.inl rfl) (Or.inr rfl)) pgs_nil))) (fun _ _ _ _ _ => pts_nil)
            (fun _ _ _ _ _ => pe_call G hr (by rfl) mG kG bG .nil pass0 (pa_cons (pv 2) (pa_cons (pv 3) pa_nil)))) pa_nil)))))))
      pss_nil)
    (pss_cons (ps_if (PW.pt (pw_or (pt_cmpR op_isN (pv 1) pe_non (nomark _)) (pw_or1 (pt_cmpR op_isN (pv 0) pe_non (nomark _))))) (pss_one (ps_ret (pe_and (pe_cmpR op_isN (pv 1) pe_non (nomark _)) (pe_one (pe_cmpR op_isN (pv 0) pe_non (nomark _)))))) pss_nil)
    (pss_cons (ps_if (PW.pt (pw_or (pt_cmpR op_ne (pe_callB call_isi (by rfl) T.isi (by decide +kernel) (pa_cons (pv 0) (pa_cons (pe_bltn (v := .ty "bool") (by rfl) T.bool (by decide +kernel) rfl) pa_nil))) (pe_callB call_isi (by rfl) T.isi (by decide +kernel) (pa_cons (pv 1) (pa_cons (pe_bltn (v := .ty "bool") (by rfl) T.bool (by decide +kernel) rfl) pa_nil))) (nomark _))
          (pw_or1 (pt_cmpR op_ne (pe_callB call_isi (by rfl) T.isi (by decide +kernel) (pa_cons (pv 0) (pa_cons (pe_bltn (v := .ty "int") (by rfl) T.int (by decide +kernel) rfl) pa_nil))) (pe_callB call_isi (by rfl) T.isi (by decide +kernel) (pa_cons (pv 1) (pa_cons (pe_bltn (v := .ty "int") (by rfl) T.int (by decide +kernel) rfl) pa_nil))) (nomark _)))))
          (pss_one (ps_ret pe_bl)) pss_nil)
    (pss_one (ps_ret (pe_and (pe_cmpR op_eq (pe_callB call_isi (by rfl) T.isi (by decide +kernel) (pa_cons (pv 0) (pa_cons (pe_bltn (v := .ty "str") (by rfl) T.str (by decide +kernel) rfl) pa_nil))) (pe_callB call_isi (by rfl) T.isi (by decide +kernel) (pa_cons (pv 1) (pa_cons (pe_bltn (v := .ty "str") (by rfl) T.str (by decide +kernel) rfl) pa_nil))) (nomark _)) (pe_one (pe_cmpR op_eq (pv 0) (pv 1) (nomark _)))))))), ?_⟩
  have ht : ∀ t, H t = none → Same H (upd H t (.tup [.ty "list", .ty "tuple"])) := fun t h => same_upd h _
  have hz : ([V.ty "list", V.ty "tuple"] : List V).length ≤ sizeLine := by show 2 ≤ sizeLine; decide
  have kinds : (Leaf x ∧ x = y) ∨ ∃ (m : Nat) (a b : Addr) (xs ys : List V), n = m + 1 ∧ x = .ref a ∧ y = .ref b ∧ xs.length = ys.length ∧ xs.length ≤ 100000 ∧ ((H a = some (.lst xs) ∧ H b = some (.lst ys)) ∨ (H a = some (.tup xs) ∧ H b = some (.tup ys))) ∧
      ∀ (i : Nat) (u v : V), xs[i]? = some u → ys[i]? = some v → Eqv H m u v := by
    cases n with
    | zero => exact .inl e
    | succ m =>
      rcases e with e | ⟨a, b, xs, ys, e⟩
      · exact .inl e
      · exact .inr ⟨m, a, b, xs, ys, rfl, e⟩
  rcases kinds with ⟨lx, exy⟩ | ⟨m, a, b, xs, ys, rfl, rfl, rfl, hl, h100, hk, el⟩
  · subst exy
    cases x with
    | non =>
      refine ⟨_, rfl, hz, fun t h => ?_⟩
      refine ⟨_, t, _, _, [.type "list", .type "tuple"], _, rfl, upd_same, .cons (.ty _) (.cons (.ty _) .nil), (.base .non), kitLT (r1 := false) (r2 := false) (by decide +kernel) (by decide +kernel), ?_⟩
      refine ⟨_, rfl, iteF ?_⟩
      refine ⟨_, rfl, rfl, _, rfl, iteT ?_⟩
      refine ⟨_, rfl, rfl, _, rfl, iteT ?_⟩
      refine ⟨_, rfl, rfl, ?_⟩
      exact q _ (ht t h)
    | bl z =>
      refine ⟨_, rfl, hz, fun t h => ?_⟩
      refine ⟨_, t, _, _, [.type "list", .type "tuple"], _, rfl, upd_same, .cons (.ty _) (.cons (.ty _) .nil), (.base (.bl z)), kitLT (r1 := false) (r2 := false) (by decide +kernel) (by decide +kernel), ?_⟩
      refine ⟨_, rfl, iteF ?_⟩
      refine ⟨_, rfl, rfl, _, rfl, iteF ?_⟩
      refine ⟨_, rfl, rfl, _, rfl, iteF ?_⟩
      refine ⟨_, rfl, _, _, _, _, true, rfl, .ty _, (.base (.bl z)), kit_ty (by decide +kernel), _, rfl, _, _, _, _, true, rfl, .ty _, (.base (.bl z)), kit_ty (by decide +kernel), rfl, _, rfl, iteF ?_⟩
      refine ⟨_, rfl, _, _, _, _, true, rfl, .ty _, (.base (.bl z)), kit_ty (by decide +kernel), _, rfl, _, _, _, _, true, rfl, .ty _, (.base (.bl z)), kit_ty (by decide +kernel), rfl, _, rfl, iteF ?_⟩
      refine ⟨_, rfl, _, _, _, _, false, rfl, .ty _, (.base (.bl z)), kit_ty (by decide +kernel), _, rfl, _, _, _, _, false, rfl, .ty _, (.base (.bl z)), kit_ty (by decide +kernel), rfl, _, rfl, iteT ?_⟩
      refine ⟨_, rfl, _, rfl, rfl, ?_⟩
      rw [decide_eq_true rfl]
      exact q _ (ht t h)
    | int z =>
      refine ⟨_, rfl, hz, fun t h => ?_⟩
      refine ⟨_, t, _, _, [.type "list", .type "tuple"], _, rfl, upd_same, .cons (.ty _) (.cons (.ty _) .nil), (.base (.int z)), kitLT (r1 := false) (r2 := false) (by decide +kernel) (by decide +kernel), ?_⟩
      refine ⟨_, rfl, iteF ?_⟩
      refine ⟨_, rfl, rfl, _, rfl, iteF ?_⟩
      refine ⟨_, rfl, rfl, _, rfl, iteF ?_⟩
      refine ⟨_, rfl, _, _, _, _, false, rfl, .ty _, (.base (.int z)), kit_ty (by decide +kernel), _, rfl, _, _, _, _, false, rfl, .ty _, (.base (.int z)), kit_ty (by decide +kernel), rfl, _, rfl, iteF ?_⟩
      refine ⟨_, rfl, _, _, _, _, true, rfl, .ty _, (.base (.int z)), kit_ty (by decide +kernel), _, rfl, _, _, _, _, true, rfl, .ty _, (.base (.int z)), kit_ty (by decide +kernel), rfl, _, rfl, iteF ?_⟩
      refine ⟨_, rfl, _, _, _, _, false, rfl, .ty _, (.base (.int z)), kit_ty (by decide +kernel), _, rfl, _, _, _, _, false, rfl, .ty _, (.base (.int z)), kit_ty (by decide +kernel), rfl, _, rfl, iteT ?_⟩
      refine ⟨_, rfl, _, rfl, rfl, ?_⟩
      rw [decide_eq_true rfl]
      exact q _ (ht t h)
    | str z =>
      refine ⟨_, rfl, hz, fun t h => ?_⟩
      refine ⟨_, t, _, _, [.type "list", .type "tuple"], _, rfl, upd_same, .cons (.ty _) (.cons (.ty _) .nil), (.base (.str z)), kitLT (r1 := false) (r2 := false) (by decide +kernel) (by decide +kernel), ?_⟩
      refine ⟨_, rfl, iteF ?_⟩
      refine ⟨_, rfl, rfl, _, rfl, iteF ?_⟩
      refine ⟨_, rfl, rfl, _, rfl, iteF ?_⟩
      refine ⟨_, rfl, _, _, _, _, false, rfl, .ty _, (.base (.str z)), kit_ty (by decide +kernel), _, rfl, _, _, _, _, false, rfl, .ty _, (.base (.str z)), kit_ty (by decide +kernel), rfl, _, rfl, iteF ?_⟩
      refine ⟨_, rfl, _, _, _, _, false, rfl, .ty _, (.base (.str z)), kit_ty (by decide +kernel), _, rfl, _, _, _, _, false, rfl, .ty _, (.base (.str z)), kit_ty (by decide +kernel), rfl, _, rfl, iteF ?_⟩
      refine ⟨_, rfl, _, _, _, _, true, rfl, .ty _, (.base (.str z)), kit_ty (by decide +kernel), _, rfl, _, _, _, _, true, rfl, .ty _, (.base (.str z)), kit_ty (by decide +kernel), rfl, _, rfl, iteT ?_⟩
      refine ⟨_, rfl, _, rfl, rfl, ?_⟩
      rw [decide_eq_true rfl]
      exact q _ (ht t h)
    | _ => exact lx.elim
  · -- what a turn brings: the item's answer True is appended
    have turn : ∀ (D : Addr), H D = none → ∀ (i : Nat) (u v : V) (T : Addr) (H2 : Hp), xs[i]? = some u → ys[i]? = some v → (Same H H2 ∧ H2 D = some (.lst (List.replicate i (.bl true)))) → H2 T = none → True := fun _ _ _ _ _ _ _ _ _ _ _ => trivial
    rcases hk with ⟨ha, hb⟩ | ⟨ha, hb⟩
    · refine ⟨_, rfl, hz, fun t h => ?_⟩
      have s1 := ht t h
      refine ⟨_, t, _, _, [.type "list", .type "tuple"], _, rfl, upd_same, .cons (.ty _) (.cons (.ty _) .nil), (.base (.lst (s1 _ _ hb))), kitLT (r1 := true) (r2 := false) (by decide +kernel) (by decide +kernel), ?_⟩
      refine ⟨_, rfl, iteT ?_⟩
      refine ⟨_, rfl, _, _, _, _, true, rfl, .ty _, (.base (.lst (s1 _ _ ha))), kit_ty (by decide +kernel), _, rfl, _, _, _, _, true, rfl, .ty _, (.base (.lst (s1 _ _ hb))), kit_ty (by decide +kernel), rfl, _, rfl, iteF ?_⟩
      refine ⟨_, rfl, _, _, _, _, false, rfl, .ty _, (.base (.lst (s1 _ _ ha))), kit_ty (by decide +kernel), _, rfl, _, _, _, _, false, rfl, .ty _, (.base (.lst (s1 _ _ hb))), kit_ty (by decide +kernel), rfl, _, rfl, iteF ?_⟩
      refine ⟨_, rfl, a, _, rfl, .inl (SqL.of (s1 _ _ ha)), _, rfl, b, _, rfl, .inl (SqL.of (s1 _ _ hb)), rfl, _, rfl, ?_⟩
      rw [show decide (V.int ((xs.length : Nat) : Int) = V.int ((ys.length : Nat) : Int)) = true from decide_eq_true (by rw [hl])]
      refine iteT ?_
      refine ⟨_, rfl, _, rfl, a, b, xs, ys, rfl, .inl ⟨SqL.of (s1 _ _ ha), SqL.of (s1 _ _ hb), fun D hD => ?_⟩⟩
      have s2 := s1.trans (same_upd hD (.lst []))
      refine lc_zipL hl (fun i H2 => Same H H2 ∧ H2 D = some (.lst (List.replicate i (.bl true)))) ⟨s2, upd_same⟩ (fun i H2 ⟨s3, _⟩ => ⟨SqL.of (s3 _ _ ha), SqL.of (s3 _ _ hb)⟩) (fun i u v T H2 hu hv ⟨s3, hD2⟩ hT => ?_) (fun H2 ⟨s3, hD2⟩ => ?_)
      · refine ⟨T, [u, v], rfl, SqT.of upd_same, rfl, u, [v], rfl, v, [], rfl, rfl, rfl, ?_⟩
        have s4 := s3.trans (same_upd hT (.tup [u, v]))
        refine ⟨_, rfl, _, rfl, u, v, rfl, (el i u v hu hv).same s4, fun H3 s5 => ?_⟩
        have hDT : D ≠ T := ne_of_none hD2 hT
        refine ⟨_, s5 _ _ (by rw [upd_ne hDT]; exact hD2), ?_, fun c o e => ?_, ?_⟩
        · rw [List.length_replicate]
          have : i < xs.length := (List.getElem?_eq_some_iff.mp hu).1
          exact Nat.lt_of_lt_of_le (show i < 100000 by omega) (by decide)
        · have nc : c ≠ D := ne_of_none e (s1.free hD)
          rw [upd_ne nc]
          exact s5 _ _ (s4 _ _ e)
        · rw [upd_same, ← List.replicate_succ']
      · refine ⟨D, List.replicate xs.length true, rfl, SqL.of (by rw [hD2, List.map_replicate]), ?_⟩
        rw [all_true]
        exact q _ s3
    · refine ⟨_, rfl, hz, fun t h => ?_⟩
      have s1 := ht t h
      refine ⟨_, t, _, _, [.type "list", .type "tuple"], _, rfl, upd_same, .cons (.ty _) (.cons (.ty _) .nil), (.base (.tup (s1 _ _ hb))), kitLT (r1 := false) (r2 := true) (by decide +kernel) (by decide +kernel), ?_⟩
      refine ⟨_, rfl, iteT ?_⟩
      refine ⟨_, rfl, _, _, _, _, false, rfl, .ty _, (.base (.tup (s1 _ _ ha))), kit_ty (by decide +kernel), _, rfl, _, _, _, _, false, rfl, .ty _, (.base (.tup (s1 _ _ hb))), kit_ty (by decide +kernel), rfl, _, rfl, iteF ?_⟩
      refine ⟨_, rfl, _, _, _, _, true, rfl, .ty _, (.base (.tup (s1 _ _ ha))), kit_ty (by decide +kernel), _, rfl, _, _, _, _, true, rfl, .ty _, (.base (.tup (s1 _ _ hb))), kit_ty (by decide +kernel), rfl, _, rfl, iteF ?_⟩
      refine ⟨_, rfl, a, _, rfl, .inr (SqT.of (s1 _ _ ha)), _, rfl, b, _, rfl, .inr (SqT.of (s1 _ _ hb)), rfl, _, rfl, ?_⟩
      rw [show decide (V.int ((xs.length : Nat) : Int) = V.int ((ys.length : Nat) : Int)) = true from decide_eq_true (by rw [hl])]
      refine iteT ?_
      refine ⟨_, rfl, _, rfl, a, b, xs, ys, rfl, .inr ⟨SqT.of (s1 _ _ ha), SqT.of (s1 _ _ hb), fun D hD => ?_⟩⟩
      have s2 := s1.trans (same_upd hD (.lst []))
      refine lc_zipT hl (fun i H2 => Same H H2 ∧ H2 D = some (.lst (List.replicate i (.bl true)))) ⟨s2, upd_same⟩ (fun i H2 ⟨s3, _⟩ => ⟨SqT.of (s3 _ _ ha), SqT.of (s3 _ _ hb)⟩) (fun i u v T H2 hu hv ⟨s3, hD2⟩ hT => ?_) (fun H2 ⟨s3, hD2⟩ => ?_)
      · refine ⟨T, [u, v], rfl, SqT.of upd_same, rfl, u, [v], rfl, v, [], rfl, rfl, rfl, ?_⟩
        have s4 := s3.trans (same_upd hT (.tup [u, v]))
        refine ⟨_, rfl, _, rfl, u, v, rfl, (el i u v hu hv).same s4, fun H3 s5 => ?_⟩
        have hDT : D ≠ T := ne_of_none hD2 hT
        refine ⟨_, s5 _ _ (by rw [upd_ne hDT]; exact hD2), ?_, fun c o e => ?_, ?_⟩
        · rw [List.length_replicate]
          have : i < xs.length := (List.getElem?_eq_some_iff.mp hu).1
          exact Nat.lt_of_lt_of_le (show i < 100000 by omega) (by decide)
        · have nc : c ≠ D := ne_of_none e (s1.free hD)
          rw [upd_ne nc]
          exact s5 _ _ (s4 _ _ e)
        · rw [upd_same, ← List.replicate_succ']
      · refine ⟨D, List.replicate xs.length true, rfl, SqL.of (by rw [hD2, List.map_replicate]), ?_⟩
        rw [all_true]
        exact q _ s3
theorem no_same {f : Addr} {fd : FuncData} : FnOk P w K mg base CX0 0 f fd ["_law_found", "_law_due"] (spSame 0) :=
  ⟨fun vs H Q E h => False.elim h, fun A outer s H args us vs Q E _ _ _ _ h => False.elim h⟩
theorem all_same {f : Addr} {fd : FuncData} (F : Fun K "_law_same" "_law_same" sSame f fd) (T : SameTxt mg) (bG : Binds K fd ["_law_found", "_law_due"] []) (mG : mg "_law_same" = some (.ref f)) :
    ∀ n, FnOk P w K mg base CX0 n f fd ["_law_found", "_law_due"] (spSame n)
  | 0 => no_same
  | n + 1 => ok_same F T (all_same F T bG mG n) bG F.kp mG
/-! ### a call by keywords alone -/
open PySem.Spec PyProof.Rows in
theorem pe_callN0 {X : Cx} {CX : CXT} {k : Nat} {f : Addr} {fd : FuncData} {ps ks : List Str} {sp : Sp} {E : XK} {x : Str} {p pos : Pos} {kws : List Keyword} {tk : TA} {g : List Value → List Value → List Value} {gV : List V → List V → List V}
    (F : FnOk X.prog X.w X.K X.mg X.base CX k f fd ps sp) (hr : Room k X.A) (hg : Gl X x) (hm : X.mg x = some (.ref f)) (hk : PySem.W.keepIn X.K (.ref f) = true) (hb : KBn X.K fd ps 0 ks g gV) (hx : Passes CX X E)
    (hkw : PK X kws tk) (hall : (backToKw pos (keywordEach kws X.env)).all (·.1.isSome) = true := by rfl) (hks : (backToKw pos (keywordEach kws X.env)).filterMap (·.1) = ks := by rfl)
    (hdb : (x == ("__debug__" : Str)) = false := by decide) (hpl : ((backTo pos (starEach [] X.env)).any (·.1) || (backToKw pos (keywordEach kws X.env)).any (·.1.isNone)) = false := by rfl) :
    PE X (.Call (.Name x p) [] kws pos) (tCallN 0 ks.length sp gV E tNil tk) := by
  refine ⟨fun pins s σ H Q I h => ?_⟩
  refine wpAny_Call_Name_kw (ld_glob I hg hm ?_ hdb)
  refine PySem.W.callWith_KW0 (h₀ := X.base) I.ok.mod.kin hk hall ?_ hpl
  refine thn (hkw.run pos pins s σ H _ I h) fun ws s2 ⟨zs, H2, I2, rz, l1, l2, q2⟩ => ⟨I2.kIn, ?_⟩
  rw [hks]
  exact run_fnN (us := []) (vs := []) F hr hb hx I2 .nil rz rfl l2 q2
theorem Fun.kbn {x qual : Str} {st : Stmt} {f : Addr} {fd : FuncData} {ps : List Str} (F : Fun K x qual st f fd) (n : Nat) (ks : List Str) (g : List Value → List Value → List Value) (gV : List V → List V → List V)
    (hrel : ∀ {vs : List V} {us : List Value} {zs : List V} {ws : List Value}, Vals vs us → Vals zs ws → Vals (gV vs zs) (g us ws))
    (h : ∀ (kV doc pm : Value) (an : Option Addr) (cdv ct : Value) (us ws : List Value), us.length = n → ws.length = ks.length → bindArgs (PySem.W.fnOf x qual (defArgs st) (defBody st) (defScope st) .none kV doc pm an cdv ct) ⟨us, ks.zip ws⟩ = pure (ps.zip (g us ws))) : KBn K fd ps n ks g gV := by
  obtain ⟨oc, od, kV, doc, pm, an, cdv, ct, osl, rfl, lk, hcd⟩ := F.ex
  exact ⟨fun s us ws _ l1 l2 => BindsTo.of_eq (h kV doc pm an cdv ct us ws l1 l2), hrel⟩
theorem Vals.rev {xs : List V} {us : List Value} (r : Vals xs us) : Vals xs.reverse us.reverse := by
  induction r with
  | nil => exact .nil
  | cons h t ih =>
    rw [List.reverse_cons, List.reverse_cons]
    exact ih.append (.cons h .nil)
def spLaw (K : PySem.W.Frag) : Sp := fun vs H Q _ => ∃ (a : Addr) (ns : List Int), vs = [.ref a] ∧ SqL K H a (ns.map V.int) ∧ ns.length ≤ 63 ∧ ∀ H', Q (.bl true) H'
/-- a def of the text, what it keeps, how it is called -/
structure Df (P : Program) (w : World) (K : PySem.W.Frag) (mg : Str → Option Value) (base : Heap) (k : Nat) (f : Addr) (fd : FuncData) (x : Str) (ps : List Str) (sp : Sp) : Prop where
  ok : FnOk P w K mg base CX0 k f fd ps sp
  b : Binds K fd ps []
  kp : PySem.W.keepIn K (.ref f) = true
  m : mg x = some (.ref f)
/-! ### tables -/
section
variable {κ : Type} [DecidableEq κ]
def vTab (t : List (κ × Int)) : List (κ × V) := t.map fun p => (p.1, V.int p.2)
def valI (t : List (κ × Int)) (k : κ) : Option Int := (t.find? fun p => decide (p.1 = k)).map (·.2)
def putI (t : List (κ × Int)) (k : κ) (v : Int) : List (κ × Int) := if (t.any fun p => decide (p.1 = k)) = true then t.map (fun p => if p.1 = k then (p.1, v) else p) else t ++ [(k, v)]
theorem valV_tab (t : List (κ × Int)) (k : κ) : valV (vTab t) k = (valI t k).map V.int := by
  unfold valV valI vTab
  induction t with
  | nil => rfl
  | cons p t ih =>
    rw [List.map_cons, List.find?_cons, List.find?_cons]
    by_cases h : p.1 = k
    · simp [h]
    · simp only [h, decide_false]
      exact ih
theorem putK_tab (t : List (κ × Int)) (k : κ) (v : Int) : putK (vTab t) k (.int v) = vTab (putI t k v) := by
  unfold putK putI vTab
  have e : ((t.map fun p => (p.1, V.int p.2)).any fun kv => decide (kv.1 = k)) = t.any fun p => decide (p.1 = k) := by
    rw [List.any_map]
    rfl
  rw [e]
  split
  · rw [List.map_map, List.map_map]
    refine List.map_congr_left fun p _ => ?_
    show (if p.1 = k then (p.1, V.int v) else (p.1, V.int p.2)) = ((if p.1 = k then (p.1, v) else p).1, V.int (if p.1 = k then (p.1, v) else p).2)
    split <;> rfl
  · rw [List.map_append]
    rfl
theorem vTab_len (t : List (κ × Int)) : (vTab t).length = t.length := by unfold vTab; rw [List.length_map]
theorem putI_len (t : List (κ × Int)) (k : κ) (v : Int) : (putI t k v).length ≤ t.length + 1 := by
  unfold putI
  split
  · rw [List.length_map]; omega
  · rw [List.length_append]; exact Nat.le_refl _
def keysNd (t : List (κ × Int)) : Prop := (t.map (·.1)).Nodup
theorem find_none {t : List (κ × Int)} {k : κ} (h : k ∉ t.map (·.1)) : (t.any fun p => decide (p.1 = k)) = false := by
  rw [List.any_eq_false]
  intro p hp
  rw [decide_eq_true_eq]
  intro e
  exact h (List.mem_map.mpr ⟨p, hp, e⟩)
/-- a table is copied entry by entry -/
theorem put_take {t : List (κ × Int)} (nd : keysNd t) {i : Nat} {k : κ} {v : Int} (h : t[i]? = some (k, v)) : putI (t.take i) k v = t.take (i + 1) := by
  have hn : k ∉ (t.take i).map (·.1) := by
    intro hm
    rw [List.map_take] at hm
    obtain ⟨j, hj, ej⟩ := List.mem_iff_getElem.mp hm
    rw [List.getElem_take] at ej
    rw [List.length_take, List.length_map] at hj
    have hi : i < t.length := (List.getElem?_eq_some_iff.mp h).1
    have ei : (t.map (·.1))[i]'(by rw [List.length_map]; exact hi) = k := by
      rw [List.getElem_map, (List.getElem?_eq_some_iff.mp h).2]
    exact List.pairwise_iff_getElem.mp nd j i (by rw [List.length_map]; omega) (by rw [List.length_map]; exact hi) (by omega) (ej.trans ei.symm)
  unfold putI
  rw [find_none hn, List.take_add_one, h]
  rfl
theorem val_at {t : List (κ × Int)} (nd : keysNd t) {i : Nat} {k : κ} {v : Int} (h : t[i]? = some (k, v)) : valI t k = some v := by
  induction t generalizing i with
  | nil => cases h
  | cons p t ih =>
    unfold valI
    rw [List.find?_cons]
    have nd' := List.nodup_cons.mp (show (p.1 :: t.map (·.1)).Nodup from nd)
    cases i with
    | zero =>
      have e : p = (k, v) := Option.some.inj h
      rw [e]
      simp
    | succ i =>
      have h' : t[i]? = some (k, v) := h
      have hm : k ∈ t.map (·.1) := List.mem_map.mpr ⟨(k, v), List.mem_of_getElem? h', rfl⟩
      have hne : ¬ p.1 = k := fun e => nd'.1 (e ▸ hm)
      simp only [hne, decide_false]
      exact ih nd'.2 h'
theorem putI_keys {t : List (κ × Int)} {k : κ} {v : Int} (nd : keysNd t) : keysNd (putI t k v) := by
  unfold keysNd putI
  split
  · rw [List.map_map]
    have e : ((fun x : κ × Int => x.1) ∘ fun p => if p.1 = k then (p.1, v) else p) = fun x => x.1 := by
      funext p
      show (if p.1 = k then (p.1, v) else p).1 = p.1
      split <;> rfl
    rw [e]
    exact nd
  · rename_i h
    rw [List.map_append]
    refine List.nodup_append.mpr ⟨nd, by simp, fun a ha b hb => ?_⟩
    have hb : b = k := by simpa using hb
    subst hb
    intro e
    subst e
    refine h ?_
    obtain ⟨p, hp, e⟩ := List.mem_map.mp ha
    exact List.any_eq_true.mpr ⟨p, hp, decide_eq_true e⟩
theorem putI_all {t : List (κ × Int)} {k : κ} {v : Int} {R : κ → Int → Prop} (h : ∀ p ∈ t, R p.1 p.2) (hk : R k v) : ∀ p ∈ putI t k v, R p.1 p.2 := by
  unfold putI
  split
  · intro p hp
    obtain ⟨q, hq, rfl⟩ := List.mem_map.mp hp
    split
    · rename_i e
      show R q.1 v
      rw [e]
      exact hk
    · exact h q hq
  · intro p hp
    rcases List.mem_append.mp hp with hp | hp
    · exact h p hp
    · have : p = (k, v) := by simpa using hp
      rw [this]
      exact hk
end
/-! ### the program's functions -/
abbrev sIsInt : Stmt := top 5
def spIsInt : Sp := fun vs H Q _ => ∃ n : Int, vs = [.int n] ∧ Q (.bl true) H
theorem scIsInt : FnScope ["value"] ["value"] (defScope sIsInt) := ⟨rfl, rfl, rfl, by decide +kernel, rfl, by decide +kernel, by decide +kernel⟩
theorem ok_isInt {f : Addr} {fd : FuncData} (F : Fun K "is_integer" "is_integer" sIsInt f fd) (T : SameTxt mg) : FnOk P w K mg base CX0 1 f fd ["value"] spIsInt := by
  refine F.ok scIsInt (fun vs H Q E h => ?_) (fun cdv A outer s H vs Q E hr h => ?_)
  · obtain ⟨n, rfl, _⟩ := h
    rfl
  obtain ⟨n, rfl, q⟩ := h
  refine ⟨_, (pss_one (ps_ret (pe_and (pe_callB call_isi (by rfl) T.isi (by decide +kernel) (pa_cons (pv 0) (pa_cons (pe_bltn (v := .ty "int") (by rfl) T.int (by decide +kernel) rfl) pa_nil))) (pe_one (pe_not (pe_callB call_isi (by rfl) T.isi (by decide +kernel) (pa_cons (pv 0) (pa_cons (pe_bltn (v := .ty "bool") (by rfl) T.bool (by decide +kernel) rfl) pa_nil)))))))), ?_⟩
  refine ⟨_, rfl, _, _, _, _, true, rfl, .ty _, (.base (.int n)), kit_ty (by decide +kernel), _, rfl, iteT ?_⟩
  refine ⟨_, rfl, _, _, _, _, false, rfl, .ty _, (.base (.int n)), kit_ty (by decide +kernel), _, rfl, ?_⟩
  exact q
abbrev sIsKey : Stmt := top 8
def keyOk (kd : Str) (n : Int) : Prop := (kd = "plain" ∧ n ≠ 0) ∨ (kd = "odd" ∧ 0 < n)
def spKey : Sp := fun vs H Q _ => ∃ (kd : Str) (n : Int), vs = [.str kd, .int n] ∧ keyOk kd n ∧ Q (.bl true) H
theorem scIsKey : FnScope ["kind", "key"] ["kind", "key"] (defScope sIsKey) := ⟨rfl, rfl, rfl, by decide +kernel, rfl, by decide +kernel, by decide +kernel⟩
theorem ok_isKey {f fi : Addr} {fd di : FuncData} (F : Fun K "is_key" "is_key" sIsKey f fd) (GI : Df P w K mg base 1 fi di "is_integer" ["value"] spIsInt) : FnOk P w K mg base CX0 2 f fd ["kind", "key"] spKey := by
  refine F.ok scIsKey (fun vs H Q E h => ?_) (fun cdv A outer s H vs Q E hr h => ?_)
  · obtain ⟨kd, n, rfl, _⟩ := h
    rfl
  obtain ⟨kd, n, rfl, hk, q⟩ := h
  refine ⟨_, (pss_cons (ps_if (pt_cmpR op_eq (pv 0) pe_str (nomark _))
 pss_never
 pss_nil)
 (pss_cons (ps_if (pt_cmpR op_eq (pv 0) pe_str (nomark _))
 pss_never
 pss_nil)
 (pss_cons (ps_if (pt_not (pt_val (pe_call GI.ok (hr.mono (by decide)) (by rfl) GI.m GI.kp GI.b .nil pass0 (pa_cons (pv 1) pa_nil))))
 (pss_one (ps_ret pe_bl))
 pss_nil)
 (pss_cons (ps_if (pt_cmpR op_eq (pv 0) pe_str (nomark _))
 (pss_one (ps_ret (pe_cmpR op_ne (pv 1) pe_int (nomark _))))
 pss_nil)
 (pss_one (ps_ret (pe_or (pe_cmpR op_eq (pv 0) pe_str (nomark _)) (pe_one (pe_cmpR op_gt (pv 1) pe_int (nomark _)))))))))), ?_⟩
  rcases hk with ⟨rfl, hn⟩ | ⟨rfl, hn⟩
  · refine ⟨_, rfl, rfl, _, rfl, iteF ?_⟩
    refine ⟨_, rfl, rfl, _, rfl, iteF ?_⟩
    refine ⟨_, rfl, n, rfl, ?_⟩
    refine ⟨_, rfl, iteF ?_⟩
    refine ⟨_, rfl, rfl, _, rfl, iteT ?_⟩
    refine ⟨_, rfl, rfl, ?_⟩
    rw [show (!decide (V.int n = V.int 0)) = true by simp [hn]]
    exact q
  · refine ⟨_, rfl, rfl, _, rfl, iteF ?_⟩
    refine ⟨_, rfl, rfl, _, rfl, iteF ?_⟩
    refine ⟨_, rfl, n, rfl, ?_⟩
    refine ⟨_, rfl, iteF ?_⟩
    refine ⟨_, rfl, rfl, _, rfl, iteF ?_⟩
    refine ⟨_, rfl, rfl, _, rfl, iteF ?_⟩
    refine ⟨_, rfl, _, _, rfl, rfl, ?_⟩
    refine (show Q (.bl (decide (0 < n))) H from ?_)
    rw [decide_eq_true hn]
    exact q
abbrev sEntries : Stmt := top 9
def tabOk (kd : Str) (t : List (Key × Int)) : Prop := keysNd t ∧ t.length ≤ 1000 ∧ ∀ p ∈ t, ∃ n, p.1 = .inl n ∧ keyOk kd n
def TabAt (H : Hp) (x : V) (t : List (Key × Int)) : Prop := (x = .non ∧ t = []) ∨ ∃ p, x = .ref p ∧ H p = some (.dK (vTab t))
def spEntries : Sp := fun vs H Q _ => ∃ (kd : Str) (x : V) (t : List (Key × Int)), vs = [.str kd, x] ∧ tabOk kd t ∧ TabAt H x t ∧ ∀ (q : Addr) (H' : Hp), Same H H' → H q = none → H' q = some (.dK (vTab t)) → Q (.ref q) H'
theorem vTab_get {κ : Type} {t : List (κ × Int)} {i : Nat} {k : κ} {v : V} (h : (vTab t)[i]? = some (k, v)) : ∃ n, t[i]? = some (k, n) ∧ v = .int n := by
  unfold vTab at h
  rw [List.getElem?_map] at h
  cases e : t[i]? with
  | none => rw [e] at h; cases h
  | some p =>
    rw [e] at h
    cases h
    exact ⟨p.2, rfl, rfl⟩
theorem scEnt : FnScope ["kind", "table", "entries", "key"] ["kind", "table"] (defScope sEntries) := ⟨rfl, rfl, rfl, by decide +kernel, rfl, by decide +kernel, by decide +kernel⟩
theorem ok_entries {f fi fk : Addr} {fd di dk : FuncData} (F : Fun K "entries_of" "entries_of" sEntries f fd) (GI : Df P w K mg base 1 fi di "is_integer" ["value"] spIsInt) (GK : Df P w K mg base 2 fk dk "is_key" ["kind", "key"] spKey) :
    FnOk P w K mg base CX0 3 f fd ["kind", "table"] spEntries := by
  refine F.ok scEnt (fun vs H Q E h => ?_) (fun cdv A outer s H vs Q E hr h => ?_)
  · obtain ⟨kd, x, t, rfl, _⟩ := h
    rfl
  obtain ⟨kd, x, t, rfl, ⟨nd, len, hk⟩, ht, q⟩ := h
  refine ⟨_, (pss_cons (ps_set (i := 2) scEnt.nd rfl (by first | exact Or.inl rfl | exact Or.inr rfl) pe_dnewK)
 (pss_cons (ps_if (pt_cmpR op_notN (pv 1) pe_non (nomark _))
 (pss_one (ps_lock (ps_for PassesOwn.never rfl (pi_keys (pv 1)) (pg_name (i := 3) scEnt.nd rfl (by first | exact Or.inl rfl | exact Or.inr rfl))
 (pss_cons (ps_if (PW.pt (pw_or (pt_not (pt_val (pe_call GK.ok (hr.mono (by decide)) (by rfl) GK.m GK.kp GK.b .nil pass0 (pa_cons (pv 0) (pa_cons (pv 3) pa_nil))))) (pw_or1 (pt_not (pt_val (pe_call GI.ok (hr.mono (by decide)) (by rfl) GI.m GI.kp GI.b .nil pass0 (pa_cons (pe_dget (hu_of hr) (pv 1) (pv 3) (fun _ _ => rfl)) pa_nil)))))))
 (pss_one ps_never)
 pss_nil)
 (pss_one (ps_dput (hu_of hr) (pv 2) (pv 3) (pe_dget (hu_of hr) (pv 1) (pv 3) (fun _ _ => rfl)) rfl))))))
 pss_nil)
 (pss_one (ps_ret (pv 2))))), ?_⟩
  intro e he
  rcases ht with ⟨rfl, rfl⟩ | ⟨p, rfl, hp⟩
  · refine ⟨_, rfl, rfl, _, rfl, iteF ?_⟩
    exact ⟨_, rfl, q e _ (same_upd he _) he upd_same⟩
  · have hep : p ≠ e := ne_of_none hp he
    refine ⟨_, rfl, rfl, _, rfl, iteT ?_⟩
    refine ⟨p, .dK (vTab t), by rw [upd_ne hep]; exact hp, trivial, fun od => ?_⟩
    refine ⟨_, rfl, p, od, rfl, .inl ⟨_, upd_same, ?_⟩⟩
    refine for_it walk_keys (fun i σ H2 => (∃ kv, σ = [some (.str kd), some (.ref p), some (.ref e), kv]) ∧ (∀ b o, b ≠ e → b ≠ p → H b = some o → H2 b = some o) ∧ H2 p = some (.frz od (.dK (vTab t))) ∧ H2 e = some (.dK (vTab (t.take i)))) ?_ (fun i σ H2 _ h => h.2.2.1) ?_ ?_
    · refine ⟨⟨_, rfl⟩, fun b o n1 n2 hb => ?_, upd_same, ?_⟩
      · rw [upd_ne n2, upd_ne n1]
        exact hb
      · rw [upd_ne hep.symm, upd_same]
        rfl
    · rintro i y σ H2 H3 hi ⟨⟨kv, rfl⟩, fr, hp2, he2⟩ ⟨rfl, k, v, hkv, rfl⟩
      obtain ⟨m, hm, rfl⟩ := vTab_get hkv
      obtain ⟨n, hn, kok⟩ := hk _ (List.mem_of_getElem? hm)
      have hn : k = .inl n := hn
      subst hn
      have hg : DGet H3 p (.int n) (some (.int m)) := .inl ⟨_, .inl n, .inr ⟨od, hp2⟩, rfl, by rw [valV_tab, val_at nd hm]; rfl⟩
      refine ⟨_, rfl, _, rfl, kd, n, rfl, kok, ?_⟩
      refine ⟨_, rfl, iteF ?_⟩
      refine ⟨_, rfl, _, rfl, p, _, rfl, hg, m, rfl, ?_⟩
      refine ⟨_, rfl, iteF ?_⟩
      refine ⟨_, rfl, _, rfl, p, _, rfl, hg, ?_⟩
      have lt : (vTab (t.take i)).length < sizeLine := by
        rw [vTab_len, List.length_take]
        exact Nat.lt_of_le_of_lt (show min i t.length ≤ 1000 by omega) (by decide)
      refine ⟨_, rfl, _, rfl, e, _, rfl, DPut.k (k := .inl n) he2 lt, ?_⟩
      refine ⟨⟨_, rfl⟩, fun b o n1 n2 hb => ?_, ?_, ?_⟩
      · rw [upd_ne n1]
        exact fr b o n1 n2 hb
      · rw [upd_ne hep]
        exact hp2
      · rw [upd_same, putK_tab, put_take nd hm]
    · rintro σ H2 ⟨⟨kv, rfl⟩, fr, hp2, he2⟩
      refine ⟨hp2, _, rfl, ?_⟩
      refine q e _ (fun b o hb => ?_) he ?_
      · by_cases hbp : b = p
        · rw [hbp, upd_same]
          rw [hbp, hp] at hb
          exact hb
        · rw [upd_ne hbp]
          exact fr b o (ne_of_none hb he) hbp hb
      · rw [upd_ne hep.symm, he2, vTab_len, List.take_length]
/-! ### opened boxes are made -/
abbrev sBox : Stmt := top 12
abbrev sPlain : Stmt := top 13
abbrev sOddB : Stmt := top 14
abbrev sBoxI : Stmt := inClass sBox 1
structure BoxCls (K : PySem.W.Frag) (C : Addr) (kd : Str) : Prop where
  cl : Cls K C
  kind : ∃ u, Con K C "KIND" (.str kd) u
  n1 : NoAttr K C "_table"
  n2 : NoAttr K C "line"
  n3 : NoAttr K C "curve"
  n4 : NoAttr K C "modulus"
abbrev boxFs (q : Addr) (l c m : Int) : List (Str × V) := [("_table", .ref q), ("line", .int l), ("curve", .int c), ("modulus", .int m)]
def spBoxI (K : PySem.W.Frag) (R : Addr → Prop) : Sp := fun vs H Q _ => ∃ (a C dx : Addr) (kd : Str) (x : V) (t : List (Key × Int)) (l c m : Int), vs = [.ref a, x, .int l, .int c, .int m] ∧ H a = some (.ins C dx []) ∧ R C ∧ BoxCls K C kd ∧ tabOk kd t ∧ TabAt H x t ∧
  ∀ (q : Addr) (H' : Hp), (∀ b o, b ≠ a → H b = some o → H' b = some o) → H q = none → H' q = some (.dK (vTab t)) → H' a = some (.ins C dx (boxFs q l c m)) → Q .non H'
abbrev initPs : List Str := ["self", "table", "line", "curve", "modulus"]
abbrev initKw : List (Str × V) := [("line", .int 0), ("curve", .int 0), ("modulus", .int 1000)]
theorem scBoxI : FnScope ["self", "table", "line", "curve", "modulus"] ["self", "table", "line", "curve", "modulus"] (defScope sBoxI) := ⟨rfl, rfl, rfl, by decide +kernel, rfl, by decide +kernel, by decide +kernel⟩
theorem ok_boxI {f fe : Addr} {fd de : FuncData} {dvs : List V} {kws : List (Str × V)} {R : Addr → Prop} (F : FunD K "__init__" "Box.__init__" (defArgs sBoxI) (defBody sBoxI) (defScope sBoxI) dvs kws f fd) (GE : Df P w K mg base 3 fe de "entries_of" ["kind", "table"] spEntries) :
    FnOk P w K mg base CX0 4 f fd initPs (spBoxI K R) := by
  refine F.ok scBoxI (fun vs H Q E h => ?_) (fun cdv A outer s H vs Q E hr h => ?_)
  · obtain ⟨a, C, dx, kd, x, t, l, c, m, rfl, _⟩ := h
    rfl
  obtain ⟨a, C, dx, kd, x, t, l, c, m, rfl, ha, _, B, tk, ta, q⟩ := h
  obtain ⟨u, hu⟩ := B.kind
  refine ⟨_, (pss_cons (ps_fld (pv 0) (pe_call GE.ok (hr.mono (by decide)) (by rfl) GE.m GE.kp GE.b .nil pass0 (pa_cons (pe_con (pv 0) rfl) (pa_cons (pv 1) pa_nil))) rfl)
 (pss_cons (ps_fld (pv 0) (pv 2) rfl)
 (pss_cons (ps_fld (pv 0) (pv 3) rfl)
 (pss_one (ps_fld (pv 0) (pv 4) rfl))))), ?_⟩
  refine ⟨_, rfl, a, C, dx, _, _, u, rfl, ha, B.cl, hu, rfl, x, rfl, kd, x, t, rfl, tk, ta, fun p H1 s1 hp hp1 => ?_⟩
  have na : a ≠ p := ne_of_none ha hp
  refine ⟨_, rfl, a, C, dx, _, rfl, s1 _ _ ha, B.cl, B.n1, (by show (0 : Nat) < 1000; decide), ?_⟩
  refine ⟨_, rfl, _, rfl, a, C, dx, _, rfl, upd_same, B.cl, B.n2, (by show (1 : Nat) < 1000; decide), ?_⟩
  refine ⟨_, rfl, _, rfl, a, C, dx, _, rfl, upd_same, B.cl, B.n3, (by show (2 : Nat) < 1000; decide), ?_⟩
  refine ⟨_, rfl, _, rfl, a, C, dx, _, rfl, upd_same, B.cl, B.n4, (by show (3 : Nat) < 1000; decide), ?_⟩
  refine q p _ (fun b o n hb => ?_) hp ?_ upd_same
  · rw [upd_ne n, upd_ne n, upd_ne n, upd_ne n]
    exact s1 _ _ hb
  · rw [upd_ne na.symm, upd_ne na.symm, upd_ne na.symm, upd_ne na.symm]
    exact hp1
abbrev sPlainI : Stmt := inClass sPlain 1
abbrev sOddI : Stmt := inClass sOddB 1
abbrev initN : List Str := ["self", "table", "line", "curve", "modulus", "__class__"]
theorem ok_initPlain {f D g : Addr} {fd dg : FuncData} {dvs : List V} {kws : List (Str × V)} {R : Addr → Prop} {gg : List Value → List Value → List Value} {k : Nat} (F : SupX.FunC K P "__init__" "Plain.__init__" (defArgs sPlainI) (defBody sPlainI) (defScope sPlainI) dvs kws D f fd) (ms : mg "super" = none)
    (GB : FnOk P w K mg base CX0 k g dg initPs (spBoxI K R)) (kB : KBn K dg initPs 2 ["line", "curve", "modulus"] gg (fun vs zs => vs ++ zs)) (hR : ∀ C, R C → SupX.SupM K C D "__init__" g) : FnOk P w K mg base CX0 (k + 1) f fd initPs (spBoxI K R) := by
  refine F.ok (N := initN) (NdefX.nscope_by (by decide +kernel)) ms (by rfl) (by rfl) (ar := _) (by rfl) (by rfl) (by rfl) (fun vs H Q E h => ?_) (fun cc cda A outer s H vs Q E hr S h => ?_)
  · obtain ⟨a, C, dx, kd, x, t, l, c, m, rfl, _⟩ := h
    rfl
  obtain ⟨a, C, dx, kd, x, t, l, c, m, rfl, ha, hC, B, tk, ta, q⟩ := h
  refine ⟨_, SupX.pssa_one (SupX.psa_expr (SupX.pea_superK (n := 1) S (hR C hC) GB hr kB pass0 (pa_cons (pv 1) pa_nil) (pk_cons (pv 2) (pk_cons (pv 3) (pk_cons (pv 4) pk_nil))))), ?_⟩
  exact ⟨a, dx, _, rfl, ha, x, rfl, _, rfl, _, rfl, _, rfl, rfl, rfl, a, C, dx, kd, x, t, l, c, m, rfl, ha, hC, B, tk, ta, q⟩
theorem ok_initOdd {f D g : Addr} {fd dg : FuncData} {dvs : List V} {kws : List (Str × V)} {R : Addr → Prop} {gg : List Value → List Value → List Value} {k : Nat} (F : SupX.FunC K P "__init__" "Odd.__init__" (defArgs sOddI) (defBody sOddI) (defScope sOddI) dvs kws D f fd) (ms : mg "super" = none)
    (GB : FnOk P w K mg base CX0 k g dg initPs (spBoxI K R)) (kB : KBn K dg initPs 2 ["line", "curve", "modulus"] gg (fun vs zs => vs ++ zs)) (hR : ∀ C, R C → SupX.SupM K C D "__init__" g) : FnOk P w K mg base CX0 (k + 1) f fd initPs (spBoxI K R) := by
  refine F.ok (N := initN) (NdefX.nscope_by (by decide +kernel)) ms (by rfl) (by rfl) (ar := _) (by rfl) (by rfl) (by rfl) (fun vs H Q E h => ?_) (fun cc cda A outer s H vs Q E hr S h => ?_)
  · obtain ⟨a, C, dx, kd, x, t, l, c, m, rfl, _⟩ := h
    rfl
  obtain ⟨a, C, dx, kd, x, t, l, c, m, rfl, ha, hC, B, tk, ta, q⟩ := h
  refine ⟨_, SupX.pssa_one (SupX.psa_expr (SupX.pea_superK (n := 1) S (hR C hC) GB hr kB pass0 (pa_cons (pv 1) pa_nil) (pk_cons (pv 2) (pk_cons (pv 3) (pk_cons (pv 4) pk_nil))))), ?_⟩
  exact ⟨a, dx, _, rfl, ha, x, rfl, _, rfl, _, rfl, _, rfl, rfl, rfl, a, C, dx, kd, x, t, l, c, m, rfl, ha, hC, B, tk, ta, q⟩
/-! ### what boxes answer -/
def BoxAt (H : Hp) (a C : Addr) (t : List (Key × Int)) (l c m : Int) : Prop := ∃ dx q, H a = some (.ins C dx (boxFs q l c m)) ∧ H q = some (.dK (vTab t))
theorem BoxAt.same {H H' : Hp} {a C : Addr} {t : List (Key × Int)} {l c m : Int} (h : BoxAt H a C t l c m) (s : Same H H') : BoxAt H' a C t l c m := by
  obtain ⟨dx, q, h1, h2⟩ := h
  exact ⟨dx, q, s _ _ h1, s _ _ h2⟩
def RowAt (K : PySem.W.Frag) (H : Hp) (x : V) (ns : List Int) : Prop := ∃ p, x = .ref p ∧ (SqL K H p (ns.map V.int) ∨ SqT K H p (ns.map V.int))
def big : Int := 2199023255552
structure BoxOk (t : List (Key × Int)) (l c m : Int) : Prop where
  l0 : -1000 ≤ l
  l1 : l ≤ 1000
  c0 : -1000 ≤ c
  c1 : c ≤ 1000
  m0 : 0 < m
def plainAns (t : List (Key × Int)) (l c m n : Int) : Int := if n = 0 then 0 else match valI t (.inl n) with
  | some v => v
  | none => (l * n + c * n * n).fmod m
def oddAns (t : List (Key × Int)) (l c m n : Int) : Int := if n < 0 then -plainAns t l c m (-n) else plainAns t l c m n
abbrev sPRep : Stmt := inClass sPlain 5
abbrev sORep : Stmt := inClass sOddB 5
def spReply (K : PySem.W.Frag) (R : Addr → Prop) (ans : List (Key × Int) → Int → Int → Int → Int → Int) : Sp := fun vs H Q _ => ∃ (a C : Addr) (kd : Str) (x : V) (t : List (Key × Int)) (l c m : Int) (ns : List Int) (n : Int), vs = [.ref a, x] ∧ R C ∧ BoxCls K C kd ∧ BoxAt H a C t l c m ∧ BoxOk t l c m ∧
  RowAt K H x ns ∧ ns.getLast? = some n ∧ -big ≤ n ∧ n ≤ big ∧ ∀ H', Same H H' → Q (.int (ans t l c m n)) H'
theorem row_last {ns : List Int} {n : Int} (h : ns.getLast? = some n) : atI (ns.map V.int) (-1) = some (.int n) := by
  have e : (ns.map V.int).getLast? = some (.int n) := by rw [List.getLast?_map, h]; rfl
  obtain ⟨ys, hy⟩ := List.getLast?_eq_some_iff.mp e
  rw [hy]
  exact atI_last ys _
theorem rIx_row {H : Hp} {p : Addr} {ns : List Int} {n : Int} {Q : VK} (hp : SqL K H p (ns.map V.int) ∨ SqT K H p (ns.map V.int)) (hn : ns.getLast? = some n) (z : Q (.int n) H) : rIx K (.ref p) (.int (-1)) H Q := by
  rcases hp with h | h
  · exact .inl ⟨p, _, -1, _, rfl, rfl, h, row_last hn, z⟩
  · exact .inr (.inl ⟨p, _, -1, _, rfl, rfl, h, row_last hn, z⟩)
theorem scPRep : FnScope ["self", "row", "value"] ["self", "row"] (defScope sPRep) := ⟨rfl, rfl, rfl, by decide +kernel, rfl, by decide +kernel, by decide +kernel⟩
theorem ok_preply {f : Addr} {fd : FuncData} {R : Addr → Prop} (F : Fun K "reply" "Plain.reply" sPRep f fd) : FnOk P w K mg base CX0 1 f fd ["self", "row"] (spReply K R plainAns) := by
  refine F.ok scPRep (fun vs H Q E h => ?_) (fun cdv A outer s H vs Q E hr h => ?_)
  · obtain ⟨a, C, kd, x, t, l, c, m, ns, n, rfl, _⟩ := h
    rfl
  obtain ⟨a, C, kd, x, t, l, c, m, ns, n, rfl, _, B, ⟨dx, q, ha, hq⟩, K1, ⟨p, rfl, hp⟩, hn, n0, n1, fin⟩ := h
  have n0 : -2199023255552 ≤ n := n0
  have n1 : n ≤ 2199023255552 := n1
  have hl0 := K1.l0
  have hl1 := K1.l1
  have hc0 := K1.c0
  have hc1 := K1.c1
  have fin := fin H (Same.refl H)
  refine ⟨_, (pss_cons (ps_set (i := 2) scPRep.nd rfl (by first | exact Or.inl rfl | exact Or.inr rfl) (pe_ix ix_seq (pv 1) (pe_un un_neg pe_int) (fun _ _ => rfl)))
 (pss_cons (ps_if (pt_cmpR op_eq (pv 2) pe_int (nomark _))
 (pss_one (ps_ret pe_int))
 pss_nil)
 (pss_cons (ps_if (pt_cmp (pc_din (hu_of hr) (pv 2) (pe_fld (pv 0) rfl)))
 (pss_one (ps_ret (pe_dget (hu_of hr) (pe_fld (pv 0) rfl) (pv 2) (fun _ _ => rfl))))
 pss_nil)
 (pss_one (ps_ret (pe_op op_modN (pe_op op_add (pe_op op_mul (pe_fld (pv 0) rfl) (pv 2)) (pe_op op_mul (pe_op op_mul (pe_fld (pv 0) rfl) (pv 2)) (pv 2))) (pe_fld (pv 0) rfl))))))), ?_⟩
  refine ⟨_, rfl, 1, rfl, rIx_row hp hn ?_⟩
  unfold plainAns at fin
  refine ⟨_, rfl, rfl, _, rfl, ?_⟩
  by_cases hz : n = 0
  · subst hz
    refine iteT ?_
    exact fin
  · rw [if_neg hz] at fin
    rw [show decide (V.int n = V.int 0) = false by simp [hz]]
    refine iteF ?_
    have hg : DGet H q (.int n) ((valI t (.inl n)).map V.int) := by
      have := DGet.k (k := .inl n) hq
      rw [valV_tab] at this
      exact this
    refine ⟨_, rfl, _, rfl, a, C, dx, _, _, rfl, ha, B.cl, B.n1, rfl, q, _, rfl, hg, _, rfl, ?_⟩
    cases e : valI t (.inl n) with
    | some v =>
      rw [e] at fin hg
      refine iteT ?_
      exact ⟨_, rfl, a, C, dx, _, _, rfl, ha, B.cl, B.n1, rfl, _, rfl, q, _, rfl, hg, fin⟩
    | none =>
      rw [e] at fin
      refine iteF ?_
      refine ⟨_, rfl, a, C, dx, _, _, rfl, ha, B.cl, B.n2, rfl, _, rfl, l, n, rfl, rfl, .inl ⟨by omega, by omega⟩, ?_⟩
      refine ⟨_, rfl, a, C, dx, _, _, rfl, ha, B.cl, B.n3, rfl, _, rfl, c, n, rfl, rfl, .inl ⟨by omega, by omega⟩, ?_⟩
      refine ⟨_, rfl, _, n, rfl, rfl, .inr ⟨by omega, by omega⟩, _, _, rfl, rfl, ?_⟩
      exact ⟨_, rfl, a, C, dx, _, _, rfl, ha, B.cl, B.n4, rfl, _, m, rfl, rfl, (show m ≠ 0 from fun z => absurd K1.m0 (by omega)), fin⟩
abbrev orepN : List Str := ["self", "row", "__class__"]
theorem ok_oreply {f D g : Addr} {fd dg : FuncData} {R : Addr → Prop} (F : SupX.FunC K P "reply" "Odd.reply" (defArgs sORep) (defBody sORep) (defScope sORep) [] [] D f fd) (ms : mg "super" = none)
    (GB : FnOk P w K mg base CX0 1 g dg ["self", "row"] (spReply K R plainAns)) (bB : Binds K dg ["self", "row"] []) (hR : ∀ C, R C → SupX.SupM K C D "reply" g) : FnOk P w K mg base CX0 2 f fd ["self", "row"] (spReply K R oddAns) := by
  refine F.ok (N := orepN) (NdefX.nscope_by (by decide +kernel)) ms (by rfl) (by rfl) (ar := _) (by rfl) (by rfl) (by rfl) (fun vs H Q E h => ?_) (fun cc cda A outer s H vs Q E hr S h => ?_)
  · obtain ⟨a, C, kd, x, t, l, c, m, ns, n, rfl, _⟩ := h
    rfl
  obtain ⟨a, C, kd, x, t, l, c, m, ns, n, rfl, hC, B, ⟨dx, q, ha, hq⟩, K1, ⟨p, rfl, hp⟩, hn, n0, n1, fin⟩ := h
  refine ⟨_, SupX.pssa_cons (SupX.psa_if (pt_cmpR op_lt (pe_ix ix_seq (pv 1) (pe_un un_neg pe_int) (fun _ _ => rfl)) pe_int (nomark _))
      (SupX.pssa_one (SupX.psa_ret (SupX.pea_un un_neg (SupX.pea_super S (hR C hC) GB hr bB pass0 (pa_cons (pe_lst (pa_cons (pe_un un_neg (pe_ix ix_seq (pv 1) (pe_un un_neg pe_int) (fun _ _ => rfl))) pa_nil)) pa_nil)))))
      (SupX.PSs.at_ pss_nil))
    (SupX.pssa_one (SupX.psa_ret (SupX.pea_super S (hR C hC) GB hr bB pass0 (pa_cons (pv 1) pa_nil)))), ?_⟩
  refine ⟨_, rfl, 1, rfl, rIx_row hp hn ?_⟩
  refine ⟨_, _, rfl, rfl, _, rfl, ?_⟩
  unfold oddAns at fin
  refine ite2 (fun h => ?_) (fun h => ?_)
  · have h : n < 0 := of_decide_eq_true h
    rw [if_pos h] at fin
    refine ⟨a, dx, _, rfl, ha, _, rfl, 1, rfl, rIx_row hp hn ?_⟩
    refine ⟨n, rfl, (by show 1 ≤ sizeLine; decide), fun v hv => ?_⟩
    have s1 := same_upd hv (.lst [.int (-n)])
    refine ⟨a, C, kd, _, t, l, c, m, [-n], -n, rfl, hC, B, ⟨dx, q, s1 _ _ ha, s1 _ _ hq⟩, K1, ⟨v, rfl, .inl (SqL.of upd_same)⟩, rfl, (by unfold big at n0 n1 ⊢; omega), (by unfold big at n0 n1 ⊢; omega), fun H' s2 => ?_⟩
    exact ⟨_, rfl, fin _ (s1.trans s2)⟩
  · have h : ¬ n < 0 := fun z => h (decide_eq_true z)
    rw [if_neg h] at fin
    exact ⟨a, dx, _, rfl, ha, _, rfl, a, C, kd, _, t, l, c, m, ns, n, rfl, hC, B, ⟨dx, q, ha, hq⟩, K1, ⟨p, rfl, hp⟩, hn, n0, n1, fin⟩
/-! ### called -/
abbrev sPCall : Stmt := inClass sPlain 6
abbrev sOCall : Stmt := inClass sOddB 6
theorem scCPlain : FnScope ["self", "row"] ["self", "row"] (defScope sPCall) := ⟨rfl, rfl, rfl, by decide +kernel, rfl, by decide +kernel, by decide +kernel⟩
theorem ok_callPlain {f C g : Addr} {fd dg : FuncData} {ans : List (Key × Int) → Int → Int → Int → Int → Int} (F : Fun K "__call__" "Plain.__call__" sPCall f fd) (hc : Cls K C) (hm : Meth K C "reply" g)
    (GR : FnOk P w K mg base CX0 2 g dg ["self", "row"] (spReply K (fun D => D = C) ans)) (bR : Binds K dg ["self", "row"] []) : FnOk P w K mg base CX0 3 f fd ["self", "row"] (spReply K (fun D => D = C) ans) := by
  refine F.ok scCPlain (fun vs H Q E h => ?_) (fun cdv A outer s H vs Q E hr h => ?_)
  · obtain ⟨a, C, kd, x, t, l, c, m, ns, n, rfl, _⟩ := h
    rfl
  obtain ⟨a, _, kd, x, t, l, c, m, ns, n, rfl, rfl, B, ⟨dx, q, ha, hq⟩, r⟩ := h
  refine ⟨_, (pss_one (ps_ret (pe_meth (pv 0) hc hm GR (hr.mono (by decide)) bR .nil pass0 (pa_cons (pv 1) pa_nil)))), ?_⟩
  exact ⟨_, rfl, a, dx, _, rfl, ha, rfl, x, rfl, a, _, kd, x, t, l, c, m, ns, n, rfl, rfl, B, ⟨dx, q, ha, hq⟩, r⟩
theorem scCOdd : FnScope ["self", "row"] ["self", "row"] (defScope sOCall) := ⟨rfl, rfl, rfl, by decide +kernel, rfl, by decide +kernel, by decide +kernel⟩
theorem ok_callOdd {f C g : Addr} {fd dg : FuncData} {ans : List (Key × Int) → Int → Int → Int → Int → Int} (F : Fun K "__call__" "Odd.__call__" sOCall f fd) (hc : Cls K C) (hm : Meth K C "reply" g)
    (GR : FnOk P w K mg base CX0 2 g dg ["self", "row"] (spReply K (fun D => D = C) ans)) (bR : Binds K dg ["self", "row"] []) : FnOk P w K mg base CX0 3 f fd ["self", "row"] (spReply K (fun D => D = C) ans) := by
  refine F.ok scCOdd (fun vs H Q E h => ?_) (fun cdv A outer s H vs Q E hr h => ?_)
  · obtain ⟨a, C, kd, x, t, l, c, m, ns, n, rfl, _⟩ := h
    rfl
  obtain ⟨a, _, kd, x, t, l, c, m, ns, n, rfl, rfl, B, ⟨dx, q, ha, hq⟩, r⟩ := h
  refine ⟨_, (pss_one (ps_ret (pe_meth (pv 0) hc hm GR (hr.mono (by decide)) bR .nil pass0 (pa_cons (pv 1) pa_nil)))), ?_⟩
  exact ⟨_, rfl, a, dx, _, rfl, ha, rfl, x, rfl, a, _, kd, x, t, l, c, m, ns, n, rfl, rfl, B, ⟨dx, q, ha, hq⟩, r⟩
structure RangeTxt (mg : Str → Option Value) : Prop where
  range : mg "range" = none
/-! ### the law's own functions -/
theorem Bag.ne_new {H : Hp} {b c q : Addr} (B : Bag H b c) (h : H q = none) : q ≠ b ∧ q ≠ c := by
  obtain ⟨ns, p, r, s, k, B⟩ := B
  exact ⟨(ne_of_none B.lb h).symm, (ne_of_none B.lc h).symm⟩
theorem Bag.wr {H : Hp} {b c q : Addr} (B : Bag H b c) (n : q ≠ b ∧ q ≠ c) (o : HO) : Bag (upd H q o) b c := by
  obtain ⟨ns, p, r, s, k, B⟩ := B
  exact ⟨ns, p, r, s, k, by rw [upd_ne n.1.symm]; exact B.lb, by rw [upd_ne n.2.symm]; exact B.lc, B.nl, B.p0, B.s0, B.s1, B.r0⟩
theorem Kp.new {b : Addr} {H H' : Hp} {q : Addr} (x : Kp b H H') (h : H' q = none) (o : HO) : Kp b H (upd H' q o) := fun a u e n => by
  have z := x a u e n
  rw [upd_ne (ne_of_none z h)]
  exact z
theorem Kp.wr {b : Addr} {H H' : Hp} {q : Addr} (x : Kp b H H') (h : H q = none) (o : HO) : Kp b H (upd H' q o) := fun a u e n => by
  rw [upd_ne (ne_of_none e h)]
  exact x a u e n
theorem Kp.free {b c : Addr} {H H' : Hp} {q : Addr} (x : Kp b H H') (B : Bag H' b c) (h : H' q = none) : H q = none := by
  cases e : H q with
  | none => rfl
  | some o =>
    by_cases hb : q = b
    · obtain ⟨o2, e2⟩ := B.there
      rw [hb, e2] at h
      cases h
    · rw [x q o e hb] at h
      cases h
abbrev sCells : Stmt := top 22
def spCells : Sp := fun vs H Q _ => ∃ (b c : Addr) (many wide : Int), vs = [.ref b, .int many, .int wide] ∧ Bag H b c ∧ 0 ≤ many ∧ many ≤ 100 ∧ 0 ≤ wide ∧ wide ≤ 1000 ∧
  ∀ (ns : List Int) (d : Addr) (H' : Hp), ns.length = many.toNat → (∀ n ∈ ns, -wide ≤ n ∧ n ≤ wide) → Bag H' b c → Kp b H H' → H d = none → H' d = some (.lst (ns.map V.int)) → Q (.ref d) H'
theorem scCells : FnScope ["_law_bag_here", "_law_many", "_law_wide", "_law_k"] ["_law_bag_here", "_law_many", "_law_wide"] (defScope sCells) := ⟨rfl, rfl, rfl, by decide +kernel, rfl, by decide +kernel, by decide +kernel⟩
theorem ok_cells {f fp : Addr} {fd dp : FuncData} (F : Fun K "_law_cells" "_law_cells" sCells f fd) (GP : Df P w K mg base 1 fp dp "_law_pull" ["_law_bag_here", "_law_many"] spPull) (T : RangeTxt mg) : FnOk P w K mg base CX0 2 f fd ["_law_bag_here", "_law_many", "_law_wide"] spCells := by
  refine F.ok scCells (fun vs H Q E h => ?_) (fun cdv A outer s H vs Q E hr h => ?_)
  · obtain ⟨b, c, many, wide, rfl, _⟩ := h
    rfl
  obtain ⟨b, c, many, wide, rfl, B, m0, m1, w0, w1, q⟩ := h
  refine ⟨_, (pss_one (ps_ret (pe_lc (own := [("_law_k", 3)]) (g := (gName 3)) rfl scCells.nd (pi_range1 (by rfl) T.range (pa_cons (pv 1) pa_nil)) (blkOk_by (own := [("_law_k", 3)]) (N := ["_law_bag_here", "_law_many", "_law_wide", "_law_k"]) (sc := defScope sCells) (by decide +kernel)) (fun _ _ _ _ _ => (pg_name (i := 3) scCells.nd rfl (Or.inl rfl) (Or.inr rfl))) (fun _ _ _ _ _ => pts_nil) (fun _ _ _ _ _ => (pe_op op_sub (pe_call GP.ok (hr.mono (by decide)) (by rfl) GP.m GP.kp GP.b .nil pass0 (pa_cons (pv 0) (pa_cons (pe_op op_add (pe_op op_mul pe_int (pv 2)) pe_int) pa_nil))) (pv 2)))))), ?_⟩
  refine ⟨_, rfl, many, rfl, by omega, by omega, fun D hD => ?_⟩
  have nD := B.ne_new hD
  refine lc_range (lo := 0) (n := many.toNat) (fun i H2 => Bag H2 b c ∧ Kp b H H2 ∧ ∃ ns : List Int, ns.length = i ∧ (∀ n ∈ ns, -wide ≤ n ∧ n ≤ wide) ∧ H2 D = some (.lst (ns.map V.int)))
    ⟨B.upd_new hD _, (Kp.refl b H).new hD _, [], rfl, fun x hx => (nomatch hx), upd_same⟩ (fun i H2 hi ⟨B2, k2, ns, hl, hns, hcD⟩ => ?_) (fun H2 ⟨B2, k2, ns, hl, hns, hcD⟩ => ?_)
  · refine ⟨rfl, .ref b, rfl, _, rfl, 2, wide, rfl, rfl, .inl ⟨by decide, by decide⟩, _, _, rfl, rfl, b, c, _, rfl, B2, by omega, by omega, fun d H3 d0 d1 B3 k3 => ?_⟩
    refine ⟨_, rfl, _, _, rfl, rfl, _, k3 _ _ hcD nD.1, ?_, B3.wr nD _, (k2.trans k3).wr hD _, ns ++ [d - wide], by rw [List.length_append, hl]; rfl, fun z hz => ?_, ?_⟩
    · rw [List.length_map, hl]
      exact small1000 (by omega)
    · rcases List.mem_append.mp hz with h | h
      · exact hns z h
      · rw [List.mem_singleton.mp h]
        omega
    · rw [upd_same, List.map_append]
      rfl
  · exact q ns D H2 hl hns B2 k2 hD hcD
abbrev sKeyL : Stmt := top 23
def isPO (kd : Str) : Prop := kd = "plain" ∨ kd = "odd"
def spKeyL : Sp := fun vs H Q _ => ∃ (b c : Addr) (kd : Str), vs = [.ref b, .str kd] ∧ Bag H b c ∧ isPO kd ∧ ∀ (n : Int) (H' : Hp), keyOk kd n → Bag H' b c → Kp b H H' → Q (.int n) H'
theorem scKeyL : FnScope ["_law_bag_here", "_law_kind", "_law_number", "_law_k"] ["_law_bag_here", "_law_kind"] (defScope sKeyL) := ⟨rfl, rfl, rfl, by decide +kernel, rfl, by decide +kernel, by decide +kernel⟩
theorem ok_keyL {f fp fa : Addr} {fd dp da : FuncData} (F : Fun K "_law_key" "_law_key" sKeyL f fd) (GP : Df P w K mg base 1 fp dp "_law_pull" ["_law_bag_here", "_law_many"] spPull) (GA : Df P w K mg base 2 fa da "_law_any" ["_law_bag_here", "_law_things"] (spAny K)) :
    FnOk P w K mg base CX0 3 f fd ["_law_bag_here", "_law_kind"] spKeyL := by
  refine F.ok scKeyL (fun vs H Q E h => ?_) (fun cdv A outer s H vs Q E hr h => ?_)
  · obtain ⟨b, c, kd, rfl, _⟩ := h
    rfl
  obtain ⟨b, c, kd, rfl, B, hk, q⟩ := h
  refine ⟨_, (pss_cons (ps_set (i := 2) scKeyL.nd rfl (by first | exact Or.inl rfl | exact Or.inr rfl) (pe_op op_add pe_int (pe_call GP.ok (hr.mono (by decide)) (by rfl) GP.m GP.kp GP.b .nil pass0 (pa_cons (pv 0) (pa_cons pe_int pa_nil)))))
 (pss_cons (ps_if (pt_cmpR op_eq (pv 1) pe_str (nomark _))
 (pss_one (ps_ret (pv 2)))
 pss_nil)
 (pss_cons (ps_if (pt_cmpR op_eq (pv 1) pe_str (nomark _))
 pss_never
 pss_nil)
 (pss_cons (ps_if (pt_cmpR op_eq (pv 1) pe_str (nomark _))
 pss_never
 pss_nil)
 (pss_one (ps_ret (pe_call GA.ok (hr.mono (by decide)) (by rfl) GA.m GA.kp GA.b .nil pass0 (pa_cons (pv 0) (pa_cons (pe_lst (pa_cons (pv 2) (pa_cons (pe_un un_neg (pv 2)) pa_nil))) pa_nil))))))))), ?_⟩
  refine ⟨.ref b, rfl, b, c, 6, rfl, B, by decide, by decide, fun d H1 d0 d1 B1 k1 => ?_⟩
  refine ⟨1, d, rfl, rfl, ?_⟩
  rcases hk with rfl | rfl
  · refine ⟨_, rfl, rfl, _, rfl, iteF ?_⟩
    refine ⟨_, rfl, rfl, _, rfl, iteF ?_⟩
    refine ⟨_, rfl, rfl, _, rfl, iteF ?_⟩
    refine ⟨.ref b, rfl, _, rfl, _, rfl, _, rfl, (by show 2 ≤ sizeLine; decide), fun l hl => ?_⟩
    refine ⟨b, c, _, [.int (1 + d), .int (-(1 + d))], rfl, B1.upd_new hl _, .inl ⟨l, rfl, (B1.ne_new hl).1, SqL.of upd_same⟩, (by show 0 < 2; decide), (by show 2 < 1073741824; decide), fun y H2 hy B2 k2 => ?_⟩
    have k3 : Kp b H H2 := (k1.new hl _).trans k2
    rcases List.mem_cons.mp hy with rfl | hy
    · exact q _ H2 (.inl ⟨rfl, by omega⟩) B2 k3
    · rcases List.mem_cons.mp hy with rfl | hy
      · exact q _ H2 (.inl ⟨rfl, by omega⟩) B2 k3
      · cases hy
  · refine ⟨_, rfl, rfl, _, rfl, iteT ?_⟩
    exact ⟨_, rfl, q _ H1 (.inr ⟨rfl, by omega⟩) B1 k1⟩
abbrev sSpec : Stmt := top 24
def SpecAt (H : Hp) (s : Addr) (kd : Str) (t : List (Key × Int)) (l c m : Int) : Prop := ∃ d, H s = some (.tup [.str kd, .ref d, .int l, .int c, .int m]) ∧ H d = some (.dK (vTab t))
theorem SpecAt.keep {b : Addr} {H H' : Hp} {s : Addr} {kd : Str} {t : List (Key × Int)} {l c m : Int} (h : SpecAt H s kd t l c m) (k : Kp b H H') (nl : ∃ xs, H b = some (.lst xs)) : SpecAt H' s kd t l c m := by
  obtain ⟨d, h1, h2⟩ := h
  obtain ⟨xs, hb⟩ := nl
  refine ⟨d, k _ _ h1 (ne_of h1 hb (by intro z; cases z)), k _ _ h2 (ne_of h2 hb (by intro z; cases z))⟩
theorem SpecAt.same {H H' : Hp} {s : Addr} {kd : Str} {t : List (Key × Int)} {l c m : Int} (h : SpecAt H s kd t l c m) (k : Same H H') : SpecAt H' s kd t l c m := by
  obtain ⟨d, h1, h2⟩ := h
  exact ⟨d, k _ _ h1, k _ _ h2⟩
theorem Bag.lst {H : Hp} {b c : Addr} (B : Bag H b c) : ∃ xs, H b = some (.lst xs) := by
  obtain ⟨ns, p, r, s, k, B⟩ := B
  exact ⟨_, B.lb⟩
def spSpec : Sp := fun vs H Q _ => ∃ (b c : Addr) (kd : Str), vs = [.ref b, .str kd] ∧ Bag H b c ∧ isPO kd ∧
  ∀ (s : Addr) (t : List (Key × Int)) (l c' m : Int) (H' : Hp), SpecAt H' s kd t l c' m → tabOk kd t → BoxOk t l c' m → Bag H' b c → Kp b H H' → Q (.ref s) H'
theorem scSpec : FnScope ["_law_bag_here", "_law_kind", "_law_table", "_law_k"] ["_law_bag_here", "_law_kind"] (defScope sSpec) := ⟨rfl, rfl, rfl, by decide +kernel, rfl, by decide +kernel, by decide +kernel⟩
theorem ok_spec {f fp fa fk : Addr} {fd dp da dk : FuncData} (F : Fun K "_law_spec" "_law_spec" sSpec f fd) (GP : Df P w K mg base 1 fp dp "_law_pull" ["_law_bag_here", "_law_many"] spPull) (GA : Df P w K mg base 2 fa da "_law_any" ["_law_bag_here", "_law_things"] (spAny K))
    (GK : Df P w K mg base 3 fk dk "_law_key" ["_law_bag_here", "_law_kind"] spKeyL) (T : RangeTxt mg) : FnOk P w K mg base CX0 4 f fd ["_law_bag_here", "_law_kind"] spSpec := by
  refine F.ok scSpec (fun vs H Q E h => ?_) (fun cdv A outer s H vs Q E hr h => ?_)
  · obtain ⟨b, c, kd, rfl, _⟩ := h
    rfl
  obtain ⟨b, c, kd, rfl, B, hk, q⟩ := h
  refine ⟨_, (pss_cons (ps_set (i := 2) scSpec.nd rfl (by first | exact Or.inl rfl | exact Or.inr rfl) pe_dnewK)
 (pss_cons (ps_for PassesOwn.never rfl (pi_range1 (by rfl) T.range (pa_cons (pe_call GP.ok (hr.mono (by decide)) (by rfl) GP.m GP.kp GP.b .nil pass0 (pa_cons (pv 0) (pa_cons pe_int pa_nil))) pa_nil)) (pg_name (i := 3) scSpec.nd rfl (by first | exact Or.inl rfl | exact Or.inr rfl))
 (pss_one (ps_dput (hu_of hr) (pv 2) (pe_call GK.ok (hr.mono (by decide)) (by rfl) GK.m GK.kp GK.b .nil pass0 (pa_cons (pv 0) (pa_cons (pv 1) pa_nil))) (pe_op op_sub (pe_call GP.ok (hr.mono (by decide)) (by rfl) GP.m GP.kp GP.b .nil pass0 (pa_cons (pv 0) (pa_cons pe_int pa_nil))) pe_int) rfl)))
 (pss_one (ps_ret (pe_tup (pa_cons (pv 1) (pa_cons (pv 2) (pa_cons (pe_op op_sub (pe_call GP.ok (hr.mono (by decide)) (by rfl) GP.m GP.kp GP.b .nil pass0 (pa_cons (pv 0) (pa_cons pe_int pa_nil))) pe_int) (pa_cons (pe_op op_sub (pe_call GP.ok (hr.mono (by decide)) (by rfl) GP.m GP.kp GP.b .nil pass0 (pa_cons (pv 0) (pa_cons pe_int pa_nil))) pe_int) (pa_cons (pe_call GA.ok (hr.mono (by decide)) (by rfl) GA.m GA.kp GA.b .nil pass0 (pa_cons (pv 0) (pa_cons (pe_lst (pa_cons pe_int (pa_cons pe_int (pa_cons pe_int (pa_cons pe_int (pa_cons pe_int pa_nil)))))) pa_nil))) pa_nil)))))))))), ?_⟩
  intro e he
  have ne := B.ne_new he
  refine ⟨.ref b, rfl, b, c, 4, rfl, B.upd_new he _, by decide, by decide, fun many H1 d0 d1 B1 k1 => ?_⟩
  have k1' : Kp b H H1 := ((Kp.refl b H).new he _).trans k1
  refine ⟨many, rfl, by omega, by omega, ?_⟩
  refine for_range (lo := 0) (n := many.toNat) (fun i σ H2 => (∃ kv, σ = [some (.ref b), some (.str kd), some (.ref e), kv]) ∧ Bag H2 b c ∧ Kp b H H2 ∧ ∃ t : List (Key × Int), t.length ≤ i ∧ keysNd t ∧ (∀ p ∈ t, ∃ n, p.1 = .inl n ∧ keyOk kd n) ∧ H2 e = some (.dK (vTab t)))
    ⟨⟨_, rfl⟩, B1, k1', [], Nat.le_refl _, List.nodup_nil, fun p hp => (nomatch hp), k1 _ _ upd_same ne.1⟩ ?_ ?_
  · rintro i σ H2 hi ⟨⟨kv, rfl⟩, B2, k2, t, tl, nd, hkeys, he2⟩
    refine ⟨.ref b, rfl, b, c, 19, rfl, B2, by decide, by decide, fun v H3 v0 v1 B3 k3 => ?_⟩
    refine ⟨v, 9, rfl, rfl, _, rfl, .ref b, rfl, _, rfl, b, c, kd, rfl, B3, hk, fun n H4 hn B4 k4 => ?_⟩
    have he4 : H4 e = some (.dK (vTab t)) := k4 _ _ (k3 _ _ he2 ne.1) ne.1
    have lt : (vTab t).length < sizeLine := by
      rw [vTab_len]
      exact small1000 (by omega)
    refine ⟨e, _, rfl, DPut.k (k := .inl n) he4 lt, ⟨_, rfl⟩, B4.wr ne _, ((k2.trans k3).trans k4).wr he _, putI t (.inl n) (v - 9), ?_, putI_keys nd, ?_, ?_⟩
    · have := putI_len t (.inl n) (v - 9)
      omega
    · exact putI_all (R := fun (k : Key) (_ : Int) => ∃ n, k = Sum.inl n ∧ keyOk kd n) hkeys ⟨n, rfl, hn⟩
    · rw [upd_same, putK_tab]
  · rintro σ H2 ⟨⟨kv, rfl⟩, B2, k2, t, tl, nd, hkeys, he2⟩
    refine ⟨_, rfl, _, rfl, .ref b, rfl, b, c, 9, rfl, B2, by decide, by decide, fun l H3 l0 l1 B3 k3 => ?_⟩
    refine ⟨l, 3, rfl, rfl, .ref b, rfl, b, c, 7, rfl, B3, by decide, by decide, fun cc H4 c0 c1 B4 k4 => ?_⟩
    refine ⟨cc, 3, rfl, rfl, .ref b, rfl, (by show 5 ≤ sizeLine; decide), fun ml hml => ?_⟩
    have B5 := B4.upd_new hml (.lst [.int 1, .int 2, .int 10, .int 97, .int 1000])
    refine ⟨b, c, _, [.int 1, .int 2, .int 10, .int 97, .int 1000], rfl, B5, .inl ⟨ml, rfl, (B4.ne_new hml).1, SqL.of upd_same⟩, by decide, by decide, fun y H6 hy B6 k6 => ?_⟩
    have hm : ∃ m : Int, y = .int m ∧ 0 < m := by
      simp only [List.mem_cons, List.not_mem_nil, or_false] at hy
      rcases hy with rfl | rfl | rfl | rfl | rfl
      · exact ⟨1, rfl, by decide⟩
      · exact ⟨2, rfl, by decide⟩
      · exact ⟨10, rfl, by decide⟩
      · exact ⟨97, rfl, by decide⟩
      · exact ⟨1000, rfl, by decide⟩
    obtain ⟨m, rfl, m0⟩ := hm
    refine ⟨(by show 5 ≤ sizeLine; decide), fun s hs => ?_⟩
    have k46 : Kp b H4 H6 := ((Kp.refl b H4).new hml _).trans k6
    have he6 : H6 e = some (.dK (vTab t)) := k46 _ _ (k4 _ _ (k3 _ _ he2 ne.1) ne.1) ne.1
    refine q s t (l - 3) (cc - 3) m _ ⟨e, upd_same, ?_⟩ ⟨nd, by omega, hkeys⟩ ⟨by omega, by omega, by omega, by omega, m0⟩ (B6.upd_new hs _) ((((k2.trans k3).trans k4).trans k46).new hs _)
    rw [upd_ne (ne_of_none he6 hs)]
    exact he6
structure AbsTxt (mg : Str → Option Value) : Prop where
  abs : mg "abs" = none
abbrev sOpened : Stmt := top 25
def clsOf (CP CO : Addr) (kd : Str) : Addr := if kd = "odd" then CO else CP
def spOpened (CP CO : Addr) : Sp := fun vs H Q _ => ∃ (s : Addr) (kd : Str) (t : List (Key × Int)) (l c m : Int), vs = [.ref s] ∧ SpecAt H s kd t l c m ∧ isPO kd ∧ tabOk kd t ∧
  ∀ (a : Addr) (H' : Hp), Same H H' → H a = none → BoxAt H' a (clsOf CP CO kd) t l c m → Q (.ref a) H'
theorem scOpened : FnScope ["_law_spec_here", "_law_kind", "_law_table", "_law_line_z", "_law_curve_z", "_law_modulus_z"] ["_law_spec_here"] (defScope sOpened) := ⟨rfl, rfl, rfl, by decide +kernel, rfl, by decide +kernel, by decide +kernel⟩
theorem ok_opened {f CP CO iP iO : Addr} {fd dP dO : FuncData} {RP RO : Addr → Prop} {ggP ggO : List Value → List Value → List Value} (F : Fun K "_law_opened" "_law_opened" sOpened f fd) (mdict : mg "dict" = none)
    (mP : mg "Plain" = some (.ref CP)) (mkP : Mk K CP iP) (okP : FnOk P w K mg base CX0 6 iP dP initPs (spBoxI K RP)) (kbP : KBn K dP initPs 2 ["line", "curve", "modulus"] ggP (fun vs zs => vs ++ zs)) (bcP : BoxCls K CP "plain") (rP : RP CP)
    (mO : mg "Odd" = some (.ref CO)) (mkO : Mk K CO iO) (okO : FnOk P w K mg base CX0 6 iO dO initPs (spBoxI K RO)) (kbO : KBn K dO initPs 2 ["line", "curve", "modulus"] ggO (fun vs zs => vs ++ zs)) (bcO : BoxCls K CO "odd") (rO : RO CO) :
    FnOk P w K mg base CX0 8 f fd ["_law_spec_here"] (spOpened CP CO) := by
  refine F.ok scOpened (fun vs H Q E h => ?_) (fun cdv A outer s H vs Q E hr h => ?_)
  · obtain ⟨s, kd, t, l, c, m, rfl, _⟩ := h
    rfl
  obtain ⟨s, kd, t, l, c, m, rfl, ⟨d, hs, hd⟩, hk, tk, q⟩ := h
  refine ⟨_, (pss_cons (ps_asg (pv 0) (pg_tup (by rfl) (pgs_cons (pg_name (i := 1) scOpened.nd rfl (by first | exact Or.inl rfl | exact Or.inr rfl)) (pgs_cons (pg_name (i := 2) scOpened.nd rfl (by first | exact Or.inl rfl | exact Or.inr rfl)) (pgs_cons (pg_name (i := 3) scOpened.nd rfl (by first | exact Or.inl rfl | exact Or.inr rfl)) (pgs_cons (pg_name (i := 4) scOpened.nd rfl (by first | exact Or.inl rfl | exact Or.inr rfl)) (pgs_cons (pg_name (i := 5) scOpened.nd rfl (by first | exact Or.inl rfl | exact Or.inr rfl)) pgs_nil)))))))
 (pss_cons (ps_if (pt_cmpR op_eq (pv 1) pe_str (nomark _))
 (pss_one (ps_ret (pe_makeK mkO okO (hr.mono (by decide)) (by rfl) mO kbO pass0 (pa_cons (pe_callTy call_dictD (by rfl) mdict (by decide +kernel) (pa_cons (pv 2) pa_nil)) pa_nil) (pk_cons (pv 3) (pk_cons (pv 4) (pk_cons (pv 5) pk_nil))))))
 pss_nil)
 (pss_cons (ps_if (pt_cmpR op_eq (pv 1) pe_str (nomark _))
 pss_never
 pss_nil)
 (pss_cons (ps_if (pt_cmpR op_eq (pv 1) pe_str (nomark _))
 pss_never
 pss_nil)
 (pss_one (ps_ret (pe_makeK mkP okP (hr.mono (by decide)) (by rfl) mP kbP pass0 (pa_cons (pe_callTy call_dictD (by rfl) mdict (by decide +kernel) (pa_cons (pv 2) pa_nil)) pa_nil) (pk_cons (pv 3) (pk_cons (pv 4) (pk_cons (pv 5) pk_nil)))))))))), ?_⟩
  refine ⟨_, rfl, s, _, rfl, SqT.of hs, rfl, _, _, rfl, _, _, rfl, _, _, rfl, _, _, rfl, _, _, rfl, rfl, ?_⟩
  have fin : ∀ (R : Addr → Prop) (C x dx p : Addr) (Z : V → Hp → Prop), C = clsOf CP CO kd → BoxCls K C kd → R C → H p = none → upd H p (.dK (vTab t)) x = none → upd H p (.dK (vTab t)) dx = none → dx ≠ x → (∀ a H', Same H H' → H a = none → BoxAt H' a (clsOf CP CO kd) t l c m → Z (.ref a) H') →
      spBoxI K R [.ref x, .ref p, .int l, .int c, .int m] (upd (upd (upd H p (.dK (vTab t))) dx (.own x)) x (.ins C dx [])) (fun v H2 => v = .non ∧ Z (.ref x) H2) E0 := by
    intro R C x dx p Z hC bc hR hp hx hdx ndx z
    have s1 := same_upd hp (.dK (vTab t))
    have hpx : p ≠ x := fun e => by rw [← e, upd_same] at hx; cases hx
    have hpd : p ≠ dx := fun e => by rw [← e, upd_same] at hdx; cases hdx
    refine ⟨x, C, dx, kd, .ref p, t, l, c, m, rfl, upd_same, hR, bc, tk, .inr ⟨p, rfl, by rw [upd_ne hpx, upd_ne hpd, upd_same]⟩, fun q2 H' fr hq2 h1 h2 => ⟨rfl, ?_⟩⟩
    refine z x H' (fun b u hb => ?_) (s1.free hx) ⟨dx, q2, by rw [← hC]; exact h2, h1⟩
    have nbx : b ≠ x := ne_of_none (s1 _ _ hb) hx
    have nbd : b ≠ dx := ne_of_none (s1 _ _ hb) hdx
    exact fr b u nbx (by rw [upd_ne nbx, upd_ne nbd]; exact s1 _ _ hb)
  rcases hk with rfl | rfl
  · refine ⟨_, rfl, rfl, _, rfl, iteF ?_⟩
    refine ⟨_, rfl, rfl, _, rfl, iteF ?_⟩
    refine ⟨_, rfl, rfl, _, rfl, iteF ?_⟩
    refine ⟨_, rfl, d, _, rfl, .inl hd, fun p hp => ?_⟩
    refine ⟨_, rfl, _, rfl, _, rfl, rfl, rfl, fun x dx hx hdx ndx => ?_⟩
    exact fin RP CP x dx p _ rfl bcP rP hp hx hdx ndx q
  · refine ⟨_, rfl, rfl, _, rfl, iteT ?_⟩
    refine ⟨_, rfl, d, _, rfl, .inl hd, fun p hp => ?_⟩
    refine ⟨_, rfl, _, rfl, _, rfl, rfl, rfl, fun x dx hx hdx ndx => ?_⟩
    exact fin RO CO x dx p _ rfl bcO rO hp hx hdx ndx q
abbrev sRuled : Stmt := top 26
def ruledV (t : List (Key × Int)) (l c m k f g : Int) : Int := match valI t (.inl k) with
  | some v => v
  | none => (l * f + c * g).fmod m
def spRuled : Sp := fun vs H Q _ => ∃ (s : Addr) (kd : Str) (t : List (Key × Int)) (l c m k f g : Int), vs = [.ref s, .int k, .int f, .int g] ∧ SpecAt H s kd t l c m ∧ BoxOk t l c m ∧ Q (.int (ruledV t l c m k f g)) H
theorem scRuled : FnScope ["_law_spec_here", "_law_key_here", "_law_first", "_law_second"] ["_law_spec_here", "_law_key_here", "_law_first", "_law_second"] (defScope sRuled) := ⟨rfl, rfl, rfl, by decide +kernel, rfl, by decide +kernel, by decide +kernel⟩
theorem ok_ruled {f : Addr} {fd : FuncData} (F : Fun K "_law_ruled" "_law_ruled" sRuled f fd) (T : SameTxt mg) : FnOk P w K mg base CX0 1 f fd ["_law_spec_here", "_law_key_here", "_law_first", "_law_second"] spRuled := by
  refine F.ok scRuled (fun vs H Q E h => ?_) (fun cdv A outer s H vs Q E hr h => ?_)
  · obtain ⟨s, kd, t, l, c, m, k, f, g, rfl, _⟩ := h
    rfl
  obtain ⟨s, kd, t, l, c, m, k, f, g, rfl, ⟨d, hs, hd⟩, K1, q⟩ := h
  have hl0 := K1.l0
  have hl1 := K1.l1
  have hc0 := K1.c0
  have hc1 := K1.c1
  refine ⟨_, (pss_cons (ps_if (pt_cmp (pc_din (hu_of hr) (pv 1) (pe_ix ix_tup (pv 0) pe_int (fun _ _ => rfl))))
 (pss_one (ps_ret (pe_dget (hu_of hr) (pe_ix ix_tup (pv 0) pe_int (fun _ _ => rfl)) (pv 1) (fun _ _ => rfl))))
 pss_nil)
 (pss_one (ps_ret (pe_op op_modN (pe_callTy call_int1 (by rfl) T.int (by decide +kernel) (pa_cons (pe_op op_add (pe_op op_mul (pe_ix ix_tup (pv 0) pe_int (fun _ _ => rfl)) (pv 2)) (pe_op op_mul (pe_ix ix_tup (pv 0) pe_int (fun _ _ => rfl)) (pv 3))) pa_nil)) (pe_ix ix_tup (pv 0) pe_int (fun _ _ => rfl)))))), ?_⟩
  have hg : DGet H d (.int k) ((valI t (.inl k)).map V.int) := by
    have := DGet.k (k := .inl k) hd
    rw [valV_tab] at this
    exact this
  unfold ruledV at q
  refine ⟨_, rfl, _, rfl, s, _, 1, _, rfl, rfl, SqT.of hs, rfl, d, _, rfl, hg, _, rfl, ?_⟩
  cases e : valI t (.inl k) with
  | some v =>
    rw [e] at q hg
    refine iteT ?_
    exact ⟨_, rfl, s, _, 1, _, rfl, rfl, SqT.of hs, rfl, _, rfl, d, _, rfl, hg, q⟩
  | none =>
    rw [e] at q
    refine iteF ?_
    refine ⟨_, rfl, s, _, 2, _, rfl, rfl, SqT.of hs, rfl, _, rfl, l, f, rfl, rfl, .inl ⟨by omega, by omega⟩, ?_⟩
    refine ⟨_, rfl, s, _, 3, _, rfl, rfl, SqT.of hs, rfl, _, rfl, c, g, rfl, rfl, .inl ⟨by omega, by omega⟩, _, _, rfl, rfl, .inl ⟨_, rfl, ?_⟩⟩
    exact ⟨_, rfl, s, _, 4, _, rfl, rfl, SqT.of hs, rfl, _, m, rfl, rfl, (show m ≠ 0 from fun z => absurd K1.m0 (by omega)), q⟩
abbrev sReply : Stmt := top 27
def boxAns (kd : Str) : List (Key × Int) → Int → Int → Int → Int → Int := if kd = "odd" then oddAns else plainAns
def spReplyL (K : PySem.W.Frag) : Sp := fun vs H Q _ => ∃ (s : Addr) (kd : Str) (x : V) (t : List (Key × Int)) (l c m : Int) (ns : List Int) (n : Int), vs = [.ref s, x] ∧ SpecAt H s kd t l c m ∧ isPO kd ∧ BoxOk t l c m ∧
  RowAt K H x ns ∧ ns.getLast? = some n ∧ -big ≤ n ∧ n ≤ big ∧ Q (.int (boxAns kd t l c m n)) H
theorem ruled_plain (t : List (Key × Int)) (l c m n : Int) (h : n ≠ 0) : ruledV t l c m n n (n * n) = plainAns t l c m n := by
  unfold ruledV plainAns
  rw [if_neg h, Int.mul_assoc]
  all_goals (cases valI t (Sum.inl n) <;> rfl)
theorem scReply : FnScope ["_law_spec_here", "_law_row_z", "_law_low", "_law_high", "_law_starts", "_law_heard_row", "_law_value", "_law_answer", "_law_at"] ["_law_spec_here", "_law_row_z"] (defScope sReply) := ⟨rfl, rfl, rfl, by decide +kernel, rfl, by decide +kernel, by decide +kernel⟩
theorem ok_replyL {f fr : Addr} {fd dr : FuncData} (F : Fun K "_law_reply" "_law_reply" sReply f fd) (GR : Df P w K mg base 1 fr dr "_law_ruled" ["_law_spec_here", "_law_key_here", "_law_first", "_law_second"] spRuled) (T : AbsTxt mg) : FnOk P w K mg base CX0 2 f fd ["_law_spec_here", "_law_row_z"] (spReplyL K) := by
  refine F.ok scReply (fun vs H Q E h => ?_) (fun cdv A outer s H vs Q E hr h => ?_)
  · obtain ⟨s, kd, x, t, l, c, m, ns, n, rfl, _⟩ := h
    rfl
  obtain ⟨s, kd, x, t, l, c, m, ns, n, rfl, ⟨d, hs, hd⟩, hk, K1, ⟨p, rfl, hp⟩, hn, n0, n1, q⟩ := h
  have n0 : -2199023255552 ≤ n := n0
  have n1 : n ≤ 2199023255552 := n1
  refine ⟨_, (pss_cons (ps_if (pt_cmpR op_eq (pe_ix ix_tup (pv 0) pe_int (fun _ _ => rfl)) pe_str (nomark _))
 pss_never
 pss_nil)
 (pss_cons (ps_if (pt_cmpR op_eq (pe_ix ix_tup (pv 0) pe_int (fun _ _ => rfl)) pe_str (nomark _))
 pss_never
 pss_nil)
 (pss_cons (ps_set (i := 6) scReply.nd rfl (by first | exact Or.inl rfl | exact Or.inr rfl) (pe_ifExp (pt_cmpR op_eq (pe_ix ix_tup (pv 0) pe_int (fun _ _ => rfl)) pe_str (nomark _)) (pe_callB call_abs (by rfl) T.abs (by decide +kernel) (pa_cons (pe_ix ix_seq (pv 1) (pe_un un_neg pe_int) (fun _ _ => rfl)) pa_nil)) (pe_ix ix_seq (pv 1) (pe_un un_neg pe_int) (fun _ _ => rfl))))
 (pss_cons (ps_set (i := 7) scReply.nd rfl (by first | exact Or.inl rfl | exact Or.inr rfl) (pe_ifExp (pt_cmpR op_eq (pv 6) pe_int (nomark _)) pe_int (pe_call GR.ok (hr.mono (by decide)) (by rfl) GR.m GR.kp GR.b .nil pass0 (pa_cons (pv 0) (pa_cons (pv 6) (pa_cons (pv 6) (pa_cons (pe_op op_mul (pv 6) (pv 6)) pa_nil)))))))
 (pss_one (ps_ret (pe_ifExp (PW.pt (pw_and (pt_cmpR op_eq (pe_ix ix_tup (pv 0) pe_int (fun _ _ => rfl)) pe_str (nomark _)) (pw_and1 (pt_cmpR op_lt (pe_ix ix_seq (pv 1) (pe_un un_neg pe_int) (fun _ _ => rfl)) pe_int (nomark _))))) (pe_un un_neg (pv 7)) (pv 7)))))))), ?_⟩
  rcases hk with rfl | rfl
  · have q : Q (.int (plainAns t l c m n)) H := q
    refine ⟨_, rfl, s, _, 0, _, rfl, rfl, SqT.of hs, rfl, rfl, _, rfl, iteF ?_⟩
    refine ⟨_, rfl, s, _, 0, _, rfl, rfl, SqT.of hs, rfl, rfl, _, rfl, iteF ?_⟩
    refine ⟨_, rfl, s, _, 0, _, rfl, rfl, SqT.of hs, rfl, rfl, _, rfl, iteF ?_⟩
    refine ⟨_, rfl, 1, rfl, rIx_row hp hn ?_⟩
    refine ⟨_, rfl, rfl, _, rfl, ?_⟩
    by_cases hz : n = 0
    · subst hz
      refine iteT ?_
      refine ⟨_, rfl, s, _, 0, _, rfl, rfl, SqT.of hs, rfl, rfl, _, rfl, iteF (iteF ?_)⟩
      exact ⟨_, rfl, q⟩
    · rw [show decide (V.int n = V.int 0) = false by simp [hz]]
      refine iteF ?_
      refine ⟨_, rfl, _, rfl, _, rfl, _, rfl, _, rfl, n, n, rfl, rfl, .inl ⟨by omega, by omega⟩, s, _, t, l, c, m, n, n, n * n, rfl, ⟨d, hs, hd⟩, K1, ?_⟩
      rw [ruled_plain t l c m n hz]
      refine ⟨_, rfl, s, _, 0, _, rfl, rfl, SqT.of hs, rfl, rfl, _, rfl, iteF (iteF ?_)⟩
      exact ⟨_, rfl, q⟩
  · have q : Q (.int (oddAns t l c m n)) H := q
    unfold oddAns at q
    refine ⟨_, rfl, s, _, 0, _, rfl, rfl, SqT.of hs, rfl, rfl, _, rfl, iteF ?_⟩
    refine ⟨_, rfl, s, _, 0, _, rfl, rfl, SqT.of hs, rfl, rfl, _, rfl, iteF ?_⟩
    refine ⟨_, rfl, s, _, 0, _, rfl, rfl, SqT.of hs, rfl, rfl, _, rfl, iteT ?_⟩
    refine ⟨_, rfl, 1, rfl, rIx_row hp hn ?_⟩
    refine ⟨_, rfl, ?_⟩
    generalize hv : (if n < 0 then -n else n) = v
    have v0 : v ≤ 2199023255552 := by rw [← hv]; split <;> omega
    have v1 : -2199023255552 ≤ v := by rw [← hv]; split <;> omega
    refine ⟨_, rfl, rfl, _, rfl, ?_⟩
    by_cases hz : v = 0
    · have hn0 : n = 0 := by
        by_cases h : n < 0
        · rw [if_pos h] at hv
          omega
        · rw [if_neg h] at hv
          omega
      subst hn0
      rw [show decide (V.int v = V.int 0) = true by simp [hz]]
      refine iteT ?_
      refine ⟨_, rfl, s, _, 0, _, rfl, rfl, SqT.of hs, rfl, rfl, _, rfl, iteT ?_⟩
      refine ⟨_, rfl, 1, rfl, rIx_row hp hn ?_⟩
      refine ⟨_, _, rfl, rfl, _, rfl, iteF ?_⟩
      exact ⟨_, rfl, q⟩
    · rw [show decide (V.int v = V.int 0) = false by simp [hz]]
      refine iteF ?_
      refine ⟨_, rfl, _, rfl, _, rfl, _, rfl, _, rfl, v, v, rfl, rfl, .inl ⟨by omega, by omega⟩, s, _, t, l, c, m, v, v, v * v, rfl, ⟨d, hs, hd⟩, K1, ?_⟩
      rw [ruled_plain t l c m v hz]
      refine ⟨_, rfl, s, _, 0, _, rfl, rfl, SqT.of hs, rfl, rfl, _, rfl, iteT ?_⟩
      refine ⟨_, rfl, 1, rfl, rIx_row hp hn ?_⟩
      refine ⟨_, _, rfl, rfl, _, rfl, ?_⟩
      by_cases h : n < 0
      · rw [if_pos h] at q hv
        rw [show decide (n < 0) = true from decide_eq_true h]
        refine iteT ?_
        refine ⟨_, rfl, _, rfl, ?_⟩
        rw [← hv]
        exact q
      · rw [if_neg h] at q hv
        rw [show decide (n < 0) = false from decide_eq_false h]
        refine iteF ?_
        refine ⟨_, rfl, ?_⟩
        rw [← hv]
        exact q
theorem ints_lay (ns : List Int) : PyData.canLayAll0 (ns.map PyData.int) = true := by
  induction ns with
  | nil => rfl
  | cons n t ih => rw [List.map_cons]; unfold PyData.canLayAll0; rw [ih]; rfl
theorem ints_shaped (ns : List Int) : SeqAt.shaped (.list (ns.map PyData.int)) = true := by
  unfold SeqAt.shaped
  rw [show PyData.canLay0 (.list (ns.map PyData.int)) = true by unfold PyData.canLay0; exact ints_lay ns]
  have : PyData.depth (.list (ns.map PyData.int)) ≤ 64 := by
    unfold PyData.depth
    have e : PyData.depthAll (ns.map PyData.int) = 0 := by
      induction ns with
      | nil => rfl
      | cons n t ih => rw [List.map_cons]; unfold PyData.depthAll; rw [ih]; rfl
    rw [e]
    decide
  exact decide_eq_true this
theorem ints_eqv (ns : List Int) : PyData.eqv (.list (ns.map PyData.int)) (.list (ns.map PyData.int)) = true := SeqAt.eqv_refl _ (by unfold PyData.canLay0; exact ints_lay ns)
theorem dp_ints {H : Hp} (ns : List Int) : DpAll K H (ns.map V.int) (ns.map PyData.int) := by
  induction ns with
  | nil => exact .nil
  | cons n t ih => exact .cons (.int n) ih
theorem Eqv.ints {H : Hp} {a b : Addr} {ns : List Int} (n : Nat) (hl : ns.length ≤ 100000) (ha : H a = some (.lst (ns.map V.int))) (hb : H b = some (.lst (ns.map V.int))) : Eqv H (n + 1) (.ref a) (.ref b) :=
  .inr ⟨a, b, _, _, rfl, rfl, rfl, by rw [List.length_map]; exact hl, .inl ⟨ha, hb⟩, fun i u v hu hv => by
    rw [hu] at hv
    cases Option.some.inj hv
    rw [List.getElem?_map] at hu
    cases e : ns[i]? with
    | none => rw [e] at hu; cases hu
    | some z =>
      rw [e] at hu
      cases Option.some.inj hu
      exact .leaf (show Leaf (V.int z) from trivial) n⟩
/-! ### the law -/
abbrev sLaw : Stmt := top 28
abbrev lawN : List Str := ["_law_script", "_law_bag_here", "_law_turn", "_law_spec_here", "_law_box", "_law_value", "_law_row_z", "_law_due", "_law_given", "_law_great"]
theorem scLaw : FnScope lawN ["_law_script"] (defScope sLaw) := ⟨rfl, rfl, rfl, by decide +kernel, rfl, by decide +kernel, by decide +kernel⟩
theorem BoxAt.keep {b : Addr} {H H' : Hp} {a C : Addr} {t : List (Key × Int)} {l c m : Int} (h : BoxAt H a C t l c m) (k : Kp b H H') (nl : ∃ xs, H b = some (.lst xs)) : BoxAt H' a C t l c m := by
  obtain ⟨dx, q, h1, h2⟩ := h
  obtain ⟨xs, hb⟩ := nl
  exact ⟨dx, q, k _ _ h1 (ne_of h1 hb (by intro z; cases z)), k _ _ h2 (ne_of h2 hb (by intro z; cases z))⟩
def clsAns (CO C : Addr) : List (Key × Int) → Int → Int → Int → Int → Int := if C = CO then oddAns else plainAns
/-- the classes of the law's boxes -/
def isCls (CP CO C : Addr) : Prop := C = CP ∨ C = CO
def spRep (K : PySem.W.Frag) (CO : Addr) (C : Addr) : Sp := spReply K (fun D => D = C) (clsAns CO C)
def RowFam (P : Program) (w : World) (K : PySem.W.Frag) (mg : Str → Option Value) (base : Heap) (CP CO : Addr) : Prop := ∀ C, isCls CP CO C → Cls K C ∧
  (∃ g fd gg, Meth K C "reply" g ∧ FnOk P w K mg base CX0 2 g fd ["self", "row"] (spRep K CO C) ∧ Binds K fd ["self", "row"] [] ∧ KBn K fd ["self", "row"] 1 ["row"] gg (fun vs zs => vs ++ zs)) ∧
  (∃ g fd gg, StX.CallO K C g ∧ FnOk P w K mg base CX0 3 g fd ["self", "row"] (spRep K CO C) ∧ Binds K fd ["self", "row"] [] ∧ KBn K fd ["self", "row"] 1 ["row"] gg (fun vs zs => vs ++ zs))
theorem clsOf_is (CP CO : Addr) (kd : Str) : isCls CP CO (clsOf CP CO kd) := by
  unfold clsOf
  split
  · exact .inr rfl
  · exact .inl rfl
theorem clsAns_of {CP CO : Addr} (h : CP ≠ CO) (kd : Str) : clsAns CO (clsOf CP CO kd) = boxAns kd := by
  unfold clsAns clsOf boxAns
  by_cases e : kd = "odd"
  · rw [if_pos e, if_pos rfl, if_pos e]
  · rw [if_neg e, if_neg h, if_neg e]
theorem mk_none {R : Addr → Prop} {H : Hp} {C x dx : Addr} {kd : Str} {l c m : Int} {Z : Hp → Prop} (bc : BoxCls K C kd) (hR : R C) (hx : H x = none) (hdx : H dx = none) (ndx : dx ≠ x) (z : ∀ H', Same H H' → BoxAt H' x C [] l c m → Z H') :
    spBoxI K R [.ref x, .non, .int l, .int c, .int m] (upd (upd H dx (.own x)) x (.ins C dx [])) (fun v H2 => v = .non ∧ Z H2) E0 := by
  refine ⟨x, C, dx, kd, .non, [], l, c, m, rfl, upd_same, hR, bc, ⟨List.nodup_nil, Nat.zero_le _, fun p hp => nomatch hp⟩, .inl ⟨rfl, rfl⟩, fun q2 H' fr hq2 h1 h2 => ⟨rfl, z H' (fun b u hb => ?_) ⟨dx, q2, h2, h1⟩⟩⟩
  have nbx : b ≠ x := ne_of_none hb hx
  have nbd : b ≠ dx := ne_of_none hb hdx
  exact fr b u nbx (by rw [upd_ne nbx, upd_ne nbd]; exact hb)
theorem tabOk_nil (kd : Str) : tabOk kd [] := ⟨List.nodup_nil, Nat.zero_le _, fun p hp => nomatch hp⟩
theorem ok_law {f fb fp fa fs fo fc fr fq CP CO iP iO : Addr} {fd db dp da ds do' dc dr dq dP dO : FuncData} {RP RO : Addr → Prop} {g1 g2 : List Value → List Value → List Value} {e1 e2 : List Value} (F : Fun K "law" "law" sLaw f fd) (T : SameTxt mg) (TR : RangeTxt mg)
    (GBg : Df P w K mg base 1 fb db "_law_bag" ["_law_script"] (spBag K)) (GP : Df P w K mg base 1 fp dp "_law_pull" ["_law_bag_here", "_law_many"] spPull) (GA : Df P w K mg base 2 fa da "_law_any" ["_law_bag_here", "_law_things"] (spAny K))
    (GS : Df P w K mg base 4 fs ds "_law_spec" ["_law_bag_here", "_law_kind"] spSpec) (GO : Df P w K mg base 8 fo do' "_law_opened" ["_law_spec_here"] (spOpened CP CO)) (GC : Df P w K mg base 2 fc dc "_law_cells" ["_law_bag_here", "_law_many", "_law_wide"] spCells)
    (GR : Df P w K mg base 2 fr dr "_law_reply" ["_law_spec_here", "_law_row_z"] (spReplyL K)) (GQ : Df P w K mg base 2 fq dq "_law_same" ["_law_found", "_law_due"] (spSame 2)) (RF : RowFam P w K mg base CP CO) (hne : CP ≠ CO)
    (mP : mg "Plain" = some (.ref CP)) (mkP : Mk K CP iP) (okP : FnOk P w K mg base CX0 6 iP dP initPs (spBoxI K RP)) (bcP : BoxCls K CP "plain") (rP : RP CP) (bP0 : Binds K dP initPs e1) (dP0 : Vals (.non :: initKw.map (·.2)) e1)
    (kbP1 : KBn K dP initPs 1 ["line"] g1 (fun vs zs => vs ++ [.non] ++ zs ++ [.int 0, .int 1000]))
    (mO : mg "Odd" = some (.ref CO)) (mkO : Mk K CO iO) (okO : FnOk P w K mg base CX0 6 iO dO initPs (spBoxI K RO)) (bcO : BoxCls K CO "odd") (rO : RO CO) (bO0 : Binds K dO initPs e2) (dO0 : Vals (.non :: initKw.map (·.2)) e2)
    (kbO1 : KBn K dO initPs 2 ["line"] g2 (fun vs zs => vs ++ zs ++ [.int 0, .int 1000])) : FnOk P w K mg base CX0 9 f fd ["_law_script"] (spLaw K) := by
  refine F.ok scLaw (fun vs H Q E h => ?_) (fun cdv A outer s H vs Q E hr h => ?_)
  · obtain ⟨a, ns, rfl, _⟩ := h
    rfl
  obtain ⟨a, ns, rfl, hS, h63, q⟩ := h
  let X : Cx := (cxOf CX0 P w K mg base lawN "law" (defScope sLaw) f cdv A outer s H E).nox
  have FM : SupX.Fam X CX0 2 (isCls CP CO) "reply" ["self", "row"] (spRep K CO) := fun C h => let ⟨c, ⟨g, fd, gg, m, ok, b, kb⟩, _⟩ := RF C h; ⟨g, fd, c, m, ok, b⟩
  have FMK : SupX.FamK X CX0 2 (isCls CP CO) "reply" ["self", "row"] ["row"] (fun vs zs => vs ++ zs) (spRep K CO) := fun C h => let ⟨c, ⟨g, fd, gg, m, ok, b, kb⟩, _⟩ := RF C h; ⟨g, fd, gg, ⟨c, m, ok, b⟩, kb⟩
  have FC : SupX.FamC X CX0 3 (isCls CP CO) ["self", "row"] (spRep K CO) := fun C h => let ⟨_, _, ⟨g, fd, gg, c, ok, b, kb⟩⟩ := RF C h; ⟨g, fd, c, ok, b⟩
  have FCK : SupX.FamCK X CX0 3 (isCls CP CO) ["self", "row"] ["row"] (fun vs zs => vs ++ zs) (spRep K CO) := fun C h => let ⟨_, _, ⟨g, fd, gg, c, ok, b, kb⟩⟩ := RF C h; ⟨g, fd, gg, c, ok, kb⟩
  refine ⟨_, (pss_cons (ps_set (i := 1) scLaw.nd rfl (by first | exact Or.inl rfl | exact Or.inr rfl) (pe_call GBg.ok (hr.mono (by decide)) (by rfl) GBg.m GBg.kp GBg.b .nil pass0 (pa_cons (pv 0) pa_nil)))
 (pss_cons (ps_for PassesOwn.never rfl (pi_range1 (by rfl) TR.range (pa_cons pe_int pa_nil)) (pg_name (i := 2) scLaw.nd rfl (by first | exact Or.inl rfl | exact Or.inr rfl))
 (pss_cons (ps_set (i := 3) scLaw.nd rfl (by first | exact Or.inl rfl | exact Or.inr rfl) (pe_call GS.ok (hr.mono (by decide)) (by rfl) GS.m GS.kp GS.b .nil pass0 (pa_cons (pv 1) (pa_cons (pe_call GA.ok (hr.mono (by decide)) (by rfl) GA.m GA.kp GA.b .nil pass0 (pa_cons (pv 1) (pa_cons (pe_lst (pa_cons pe_str (pa_cons pe_str pa_nil))) pa_nil))) pa_nil))))
 (pss_cons (ps_set (i := 4) scLaw.nd rfl (by first | exact Or.inl rfl | exact Or.inr rfl) (pe_call GO.ok (hr.mono (by decide)) (by rfl) GO.m GO.kp GO.b .nil pass0 (pa_cons (pv 3) pa_nil)))
 (pss_cons (ps_for PassesOwn.never rfl (pi_range2 (by rfl) TR.range (pa_cons (pe_un un_neg pe_int) (pa_cons pe_int pa_nil))) (pg_name (i := 5) scLaw.nd rfl (by first | exact Or.inl rfl | exact Or.inr rfl))
 (pss_cons (ps_set (i := 6) scLaw.nd rfl (by first | exact Or.inl rfl | exact Or.inr rfl) (pe_op op_cat (pe_call GC.ok (hr.mono (by decide)) (by rfl) GC.m GC.kp GC.b .nil pass0 (pa_cons (pv 1) (pa_cons (pe_call GP.ok (hr.mono (by decide)) (by rfl) GP.m GP.kp GP.b .nil pass0 (pa_cons (pv 1) (pa_cons pe_int pa_nil))) (pa_cons pe_int pa_nil)))) (pe_lst (pa_cons (pv 5) pa_nil))))
 (pss_cons (ps_set (i := 7) scLaw.nd rfl (by first | exact Or.inl rfl | exact Or.inr rfl) (pe_call GR.ok (hr.mono (by decide)) (by rfl) GR.m GR.kp GR.b .nil pass0 (pa_cons (pv 3) (pa_cons (pv 6) pa_nil))))
 (pss_cons (ps_set (i := 8) scLaw.nd rfl (by first | exact Or.inl rfl | exact Or.inr rfl) (pe_callTy call_list_of (by rfl) T.list (by decide +kernel) (pa_cons (pv 6) pa_nil)))
 (pss_one (ps_if (PW.pt (pw_or (pt_not (pt_val (pe_call GQ.ok (hr.mono (by decide)) (by rfl) GQ.m GQ.kp GQ.b .nil pass0 (pa_cons (pe_lst (pa_cons (SupX.pe_methF (pv 4) FM (hr.mono (by decide)) pass0 (pa_cons (pv 8) pa_nil)) (pa_cons (SupX.pe_callF (pv 4) FC (hr.mono (by decide)) pass0 (pa_cons (pv 8) pa_nil)) (pa_cons (SupX.pe_methFK (pv 4) FMK (hr.mono (by decide)) pass0 (pk_cons (pe_callTy call_tuple_of (by rfl) T.tuple (by decide +kernel) (pa_cons (pv 6) pa_nil)) pk_nil)) (pa_cons (SupX.pe_callFK (pe_call GO.ok (hr.mono (by decide)) (by rfl) GO.m GO.kp GO.b .nil pass0 (pa_cons (pv 3) pa_nil)) FCK (hr.mono (by decide)) pass0 (pk_cons (pv 6) pk_nil)) pa_nil))))) (pa_cons (pe_op op_rep (pe_lst (pa_cons (pv 7) pa_nil)) pe_int) pa_nil))))) (pw_or1 (pt_cmpR (op_neD hr.units) (pv 8) (pv 6) (nomark _)))))
 (pss_one (ps_ret pe_bl))
 pss_nil))))))
 (pss_cons (ps_set (i := 9) scLaw.nd rfl (by first | exact Or.inl rfl | exact Or.inr rfl) (pe_op op_add (pe_call GA.ok (hr.mono (by decide)) (by rfl) GA.m GA.kp GA.b .nil pass0 (pa_cons (pv 1) (pa_cons (pe_lst (pa_cons (pe_op op_pow pe_int pe_int) (pa_cons (pe_un un_neg (pe_op op_pow pe_int pe_int)) pa_nil))) pa_nil))) (pe_call GP.ok (hr.mono (by decide)) (by rfl) GP.m GP.kp GP.b .nil pass0 (pa_cons (pv 1) (pa_cons pe_int pa_nil)))))
 (pss_one (ps_if (pt_not (pt_val (pe_call GQ.ok (hr.mono (by decide)) (by rfl) GQ.m GQ.kp GQ.b .nil pass0 (pa_cons (SupX.pe_methF (pv 4) FM (hr.mono (by decide)) pass0 (pa_cons (pe_lst (pa_cons (pv 9) pa_nil)) pa_nil)) (pa_cons (pe_call GR.ok (hr.mono (by decide)) (by rfl) GR.m GR.kp GR.b .nil pass0 (pa_cons (pv 3) (pa_cons (pe_lst (pa_cons (pv 9) pa_nil)) pa_nil))) pa_nil)))))
 (pss_one (ps_ret pe_bl))
 pss_nil)))))))
 (pss_one (ps_ret (pe_call GQ.ok (hr.mono (by decide)) (by rfl) GQ.m GQ.kp GQ.b .nil pass0 (pa_cons (pe_lst (pa_cons (SupX.pe_methF (pe_make0 mkP okP (hr.mono (by decide)) (by rfl) mP bP0 dP0 pass0) FM (hr.mono (by decide)) pass0 (pa_cons (pe_lst (pa_cons pe_int pa_nil)) pa_nil)) (pa_cons (SupX.pe_methF (pe_make0 mkO okO (hr.mono (by decide)) (by rfl) mO bO0 dO0 pass0) FM (hr.mono (by decide)) pass0 (pa_cons (pe_lst (pa_cons (pe_un un_neg pe_int) pa_nil)) pa_nil)) (pa_cons (SupX.pe_methF (pe_makeK0 mkP okP (hr.mono (by decide)) (by rfl) mP kbP1 pass0 (pk_cons pe_int pk_nil)) FM (hr.mono (by decide)) pass0 (pa_cons (pe_lst (pa_cons pe_int pa_nil)) pa_nil)) (pa_cons (SupX.pe_callF (pe_makeK (n := 1) mkO okO (hr.mono (by decide)) (by rfl) mO kbO1 pass0 (pa_cons pe_non pa_nil) (pk_cons pe_int pk_nil)) FC (hr.mono (by decide)) pass0 (pa_cons (pe_lst (pa_cons (pe_un un_neg pe_int) pa_nil)) pa_nil)) pa_nil))))) (pa_cons (pe_lst (pa_cons pe_int (pa_cons pe_int (pa_cons pe_int (pa_cons (pe_un un_neg pe_int) pa_nil))))) pa_nil))))))), ?_⟩
  -- bag
  refine ⟨_, rfl, a, ns, rfl, hS, h63, fun b c H1 s1 hb hc B1 => ?_⟩
  have nb : ∀ {H' : Hp}, Bag H' b c → ∃ xs, H' b = some (.lst xs) := fun B => B.lst
  refine ⟨6, rfl, by decide, by decide, ?_⟩
  refine for_range (lo := 0) (n := 6) (fun i σ H2 => (∃ v2 v3 v4 v5 v6 v7 v8 v9, σ = [some (.ref a), some (.ref b), v2, v3, v4, v5, v6, v7, v8, v9]) ∧ Bag H2 b c) ⟨⟨_, _, _, _, _, _, _, _, rfl⟩, B1⟩ ?_ ?_
  · rintro i σ H2 hi ⟨⟨v2, v3, v4, v5, v6, v7, v8, v9, rfl⟩, B2⟩
    -- the box
    refine ⟨.ref b, rfl, .ref b, rfl, (by show 2 ≤ sizeLine; decide), fun ml hml => ?_⟩
    refine ⟨b, c, _, [.str "plain", .str "odd"], rfl, B2.upd_new hml _, .inl ⟨ml, rfl, (B2.ne_new hml).1, SqL.of upd_same⟩, (by show 0 < 2; decide), (by show 2 < 1073741824; decide), fun y H3 hy B3 k3 => ?_⟩
    have hkd : ∃ kd : Str, y = .str kd ∧ isPO kd := by
      simp only [List.mem_cons, List.not_mem_nil, or_false] at hy
      rcases hy with rfl | rfl
      · exact ⟨_, rfl, .inl rfl⟩
      · exact ⟨_, rfl, .inr rfl⟩
    obtain ⟨kd, rfl, hk⟩ := hkd
    refine ⟨b, c, kd, rfl, B3, hk, fun s t l cc m H4 sp4 tk bk B4 k4 => ?_⟩
    refine ⟨.ref s, rfl, s, kd, t, l, cc, m, rfl, sp4, hk, tk, fun bx H5 s5 hbx box5 => ?_⟩
    have B5 := B4.same s5
    have sp5 := sp4.same s5
    have hC := clsOf_is CP CO kd
    have hbc : BoxCls K (clsOf CP CO kd) kd := by
      rcases hk with rfl | rfl
      · exact bcP
      · exact bcO
    have hans : ∀ t l c m n, clsAns CO (clsOf CP CO kd) t l c m n = boxAns kd t l c m n := fun t l c m n => by rw [clsAns_of hne]
    -- one answer of the box
    have ask : ∀ {H0 : Hp} {bx' : Addr} {x : V} {ns : List Int} {n : Int} {Q' : L2.VK}, BoxAt H0 bx' (clsOf CP CO kd) t l cc m → RowAt K H0 x ns → ns.getLast? = some n → -big ≤ n → n ≤ big → (∀ H', Same H0 H' → Q' (.int (boxAns kd t l cc m n)) H') → spRep K CO (clsOf CP CO kd) [.ref bx', x] H0 Q' E0 :=
      fun bx0 row hn n0 n1 q' => ⟨_, _, kd, _, t, l, cc, m, _, _, rfl, rfl, hbc, bx0, bk, row, hn, n0, n1, fun H' s' => by rw [hans]; exact q' H' s'⟩
    refine ⟨7, rfl, -7, 8, rfl, ⟨by decide, by decide, by decide, by decide⟩, ?_⟩
    refine for_range (lo := -7) (n := 15) (fun j σ H6 => (∃ w5 w6 w7 w8 w9, σ = [some (.ref a), some (.ref b), some (.int (0 + (i : Int))), some (.ref s), some (.ref bx), w5, w6, w7, w8, w9]) ∧ Bag H6 b c ∧ SpecAt H6 s kd t l cc m ∧ BoxAt H6 bx (clsOf CP CO kd) t l cc m) ⟨⟨_, _, _, _, _, rfl⟩, B5, sp5, box5⟩ ?_ ?_
    · rintro j σ H6 hj ⟨⟨w5, w6, w7, w8, w9, rfl⟩, B6, sp6, box6⟩
      generalize hval : (-7 + (j : Int)) = val
      have v0 : -8 ≤ val := by omega
      have v1 : val ≤ 8 := by omega
      -- row, due, given
      refine ⟨.ref b, rfl, .ref b, rfl, b, c, 4, rfl, B6, by decide, by decide, fun d H7 d0 d1 B7 k7 => ?_⟩
      refine ⟨b, c, d, 7, rfl, B7, d0, by omega, by decide, by decide, fun cs D H8 hcs hb8 B8 k8 hD hD8 => ?_⟩
      have sp8 := (sp6.keep k7 (nb B6)).keep k8 (nb B7)
      have box8 := (box6.keep k7 (nb B6)).keep k8 (nb B7)
      refine ⟨_, rfl, (by show 1 ≤ sizeLine; decide), fun vl hvl => ?_⟩
      have s9 := same_upd hvl (.lst [.int val])
      refine ⟨D, vl, _, _, rfl, rfl, s9 _ _ hD8, upd_same, ?_, fun p hp => ?_⟩
      · rw [List.length_map, hcs]
        exact Nat.le_of_lt (small1000 (by show d.toNat + 1 ≤ 1000; omega))
      have s10 := s9.trans (same_upd hp (.lst (cs.map V.int ++ [.int val])))
      have hrow : upd (upd H8 vl (.lst [.int val])) p (.lst (cs.map V.int ++ [.int val])) p = some (.lst ((cs ++ [val]).map V.int)) := by rw [upd_same, List.map_append]; rfl
      generalize hH10 : upd (upd H8 vl (.lst [.int val])) p (.lst (cs.map V.int ++ [.int val])) = H10 at s10 hrow ⊢
      have B10 := B8.same s10
      have sp10 := sp8.same s10
      have box10 := box8.same s10
      have hlast : (cs ++ [val]).getLast? = some val := by simp
      have n0 : -big ≤ val := by unfold big; omega
      have n1 : val ≤ big := by unfold big; omega
      have hlen : (cs ++ [val]).length ≤ 1000 := by rw [List.length_append, hcs]; show d.toNat + 1 ≤ 1000; omega
      refine ⟨_, rfl, _, rfl, s, kd, _, t, l, cc, m, cs ++ [val], val, rfl, sp10, hk, bk, ⟨p, rfl, .inl (SqL.of hrow)⟩, hlast, n0, n1, ?_⟩
      refine ⟨_, rfl, p, _, rfl, .inl (SqL.of hrow), fun g hg => ?_⟩
      have s11 := same_upd hg (.lst ((cs ++ [val]).map V.int))
      have hg11 : upd H10 g (.lst ((cs ++ [val]).map V.int)) g = some (.lst ((cs ++ [val]).map V.int)) := upd_same
      generalize hH11 : upd H10 g (.lst ((cs ++ [val]).map V.int)) = H11 at s11 hg11 ⊢
      obtain ⟨dx, qq, hbx, hqq⟩ := box10.same s11
      -- the four answers
      refine ⟨_, rfl, bx, _, dx, _, rfl, hbx, hC, rfl, _, rfl, ask ⟨dx, qq, hbx, hqq⟩ ⟨g, rfl, .inl (SqL.of hg11)⟩ hlast n0 n1 fun H12 s12 => ?_⟩
      refine ⟨_, rfl, bx, _, rfl, hC, _, rfl, .inr ⟨dx, _, s12 _ _ hbx⟩, ask ⟨dx, qq, s12 _ _ hbx, s12 _ _ hqq⟩ ⟨g, rfl, .inl (SqL.of (s12 _ _ hg11))⟩ hlast n0 n1 fun H13 s13' => ?_⟩
      have s13 := s12.trans s13'
      refine ⟨_, rfl, bx, _, dx, _, rfl, s13 _ _ hbx, hC, rfl, _, rfl, p, _, rfl, .inl ⟨SqL.of (s13 _ _ (s11 _ _ hrow)), fun tt htt => ?_⟩⟩
      have s14 := s13.trans (same_upd htt (.tup ((cs ++ [val]).map V.int)))
      refine ⟨rfl, ask ⟨dx, qq, s14 _ _ hbx, s14 _ _ hqq⟩ ⟨tt, rfl, .inr (SqT.of upd_same)⟩ hlast n0 n1 fun H15 s15' => ?_⟩
      have s15 := s14.trans s15'
      refine ⟨_, rfl, s, kd, t, l, cc, m, rfl, (sp10.same s11).same s15, hk, tk, fun b2 H16 s16' hb2 box16 => ?_⟩
      have s16 := s15.trans s16'
      obtain ⟨dx2, q2, hb21, hb22⟩ := box16
      refine ⟨b2, _, rfl, hC, _, rfl, rfl, .inr ⟨dx2, _, hb21⟩, ask ⟨dx2, q2, hb21, hb22⟩ ⟨p, rfl, .inl (SqL.of (s16 _ _ (s11 _ _ hrow)))⟩ hlast n0 n1 fun H17 s17' => ?_⟩
      have s17 := s16.trans s17'
      generalize hans' : boxAns kd t l cc m val = ans
      refine ⟨(by show 4 ≤ sizeLine; decide), fun l1 hl1 => ?_⟩
      have s18 := s17.trans (same_upd hl1 (.lst [.int ans, .int ans, .int ans, .int ans]))
      refine ⟨_, rfl, (by show 1 ≤ sizeLine; decide), fun l2 hl2 => ?_⟩
      have s19' := same_upd hl2 (.lst [.int ans])
      have s19 := s18.trans s19'
      refine ⟨l2, 4, _, rfl, rfl, upd_same, by decide, by decide, (by show 4 ≤ sizeLine; decide), fun l3 hl3 => ?_⟩
      have s20' := same_upd hl3 (.lst (List.replicate 4 [V.int ans]).flatten)
      have s20 := s19.trans s20'
      refine ⟨.ref l1, .ref l3, rfl, Eqv.ints (ns := [ans, ans, ans, ans]) 0 (by show 4 ≤ 100000; decide) (s20' _ _ (s19' _ _ upd_same)) upd_same, fun H21 s21' => ?_⟩
      have s21 := s20.trans s21'
      refine ⟨_, rfl, iteF ?_⟩
      refine ⟨_, rfl, _, rfl, _, _, .lst (SqL.of (s21 _ _ hg11)) (dp_ints _), .lst (SqL.of (s21 _ _ (s11 _ _ hrow))) (dp_ints _), ints_shaped _, ints_shaped _, ?_⟩
      refine ⟨_, rfl, ?_⟩
      rw [ints_eqv]
      refine iteF ?_
      exact ⟨⟨_, _, _, _, _, rfl⟩, (B10.same s11).same s21, (sp10.same s11).same s21, ⟨dx, qq, s21 _ _ hbx, s21 _ _ hqq⟩⟩
    · rintro σ H6 ⟨⟨w5, w6, w7, w8, w9, rfl⟩, B6, sp6, box6⟩
      refine ⟨.ref b, rfl, 10, 12, rfl, rfl, ⟨by decide, by decide, by decide⟩, 10, 12, rfl, rfl, ⟨by decide, by decide, by decide⟩, _, rfl, (by show 2 ≤ sizeLine; decide), fun ml2 hml2 => ?_⟩
      have s7 := same_upd hml2 (.lst [.int (10 ^ (12 : Int).toNat), .int (-(10 ^ (12 : Int).toNat))])
      refine ⟨b, c, _, [.int (10 ^ (12 : Int).toNat), .int (-(10 ^ (12 : Int).toNat))], rfl, B6.same s7, .inl ⟨ml2, rfl, (B6.ne_new hml2).1, SqL.of upd_same⟩, (by show 0 < 2; decide), (by show 2 < 1073741824; decide), fun y H8 hy B8 k8 => ?_⟩
      have hg0 : ∃ g0 : Int, y = .int g0 ∧ -1000000000000 ≤ g0 ∧ g0 ≤ 1000000000000 := by
        simp only [List.mem_cons, List.not_mem_nil, or_false] at hy
        rcases hy with rfl | rfl
        · exact ⟨_, rfl, by decide, by decide⟩
        · exact ⟨_, rfl, by decide, by decide⟩
      obtain ⟨g0, rfl, ga, gb⟩ := hg0
      refine ⟨.ref b, rfl, b, c, 1000, rfl, B8, by decide, by decide, fun d H9 d0 d1 B9 k9 => ?_⟩
      have sp9 := ((sp6.same s7).keep k8 (nb (B6.same s7))).keep k9 (nb B8)
      have box9 := ((box6.same s7).keep k8 (nb (B6.same s7))).keep k9 (nb B8)
      refine ⟨g0, d, rfl, rfl, ?_⟩
      have n0 : -big ≤ g0 + d := by unfold big; omega
      have n1 : g0 + d ≤ big := by unfold big; omega
      obtain ⟨dx, qq, hbx, hqq⟩ := box9
      refine ⟨_, rfl, bx, _, dx, _, rfl, hbx, hC, rfl, _, rfl, (by show 1 ≤ sizeLine; decide), fun l1 hl1 => ?_⟩
      have s10 := same_upd hl1 (.lst [.int (g0 + d)])
      refine ask (ns := [g0 + d]) (n := g0 + d) ⟨dx, qq, s10 _ _ hbx, s10 _ _ hqq⟩ ⟨l1, rfl, .inl (SqL.of upd_same)⟩ rfl n0 n1 fun H11 s11' => ?_
      have s11 := s10.trans s11'
      refine ⟨_, rfl, _, rfl, (by show 1 ≤ sizeLine; decide), fun l2 hl2 => ?_⟩
      have s12 := s11.trans (same_upd hl2 (.lst [.int (g0 + d)]))
      refine ⟨s, kd, _, t, l, cc, m, [g0 + d], g0 + d, rfl, sp9.same s12, hk, bk, ⟨l2, rfl, .inl (SqL.of upd_same)⟩, rfl, n0, n1, ?_⟩
      refine ⟨_, _, rfl, .leaf (show Leaf (V.int _) from trivial) 1, fun H13 s13' => ?_⟩
      refine ⟨_, rfl, iteF ?_⟩
      exact ⟨⟨_, _, _, _, _, _, _, _, rfl⟩, (B9.same s12).same s13'⟩
  · rintro σ H2 ⟨⟨v2, v3, v4, v5, v6, v7, v8, v9, rfl⟩, B2⟩
    have rep : ∀ {H0 : Hp} {bx C l1 : Addr} {kd : Str} {l cc m n : Int} {Q' : L2.VK}, BoxCls K C kd → BoxAt H0 bx C [] l cc m → BoxOk [] l cc m → H0 l1 = some (.lst [.int n]) → -big ≤ n → n ≤ big → (∀ H', Same H0 H' → Q' (.int (clsAns CO C [] l cc m n)) H') → spRep K CO C [.ref bx, .ref l1] H0 Q' E0 :=
      fun hbc bx0 bk hl n0 n1 q' => ⟨_, _, _, _, [], _, _, _, [_], _, rfl, rfl, hbc, bx0, bk, ⟨_, rfl, .inl (SqL.of hl)⟩, rfl, n0, n1, fun H' s' => q' H' s'⟩
    have aP : ∀ l c m n, clsAns CO CP [] l c m n = plainAns [] l c m n := fun l c m n => by unfold clsAns; rw [if_neg hne]
    have aO : ∀ l c m n, clsAns CO CO [] l c m n = oddAns [] l c m n := fun l c m n => by unfold clsAns; rw [if_pos rfl]
    have big0 : ∀ n : Int, -2000 ≤ n → n ≤ 2000 → -big ≤ n ∧ n ≤ big := fun n a b => ⟨by unfold big; omega, by unfold big; omega⟩
    -- Plain().reply([5])
    refine fun x1 dx1 hx1 hdx1 nd1 => mk_none (l := 0) (c := 0) (m := 1000) bcP rP hx1 hdx1 nd1 fun H3 s3 box3 => ?_
    obtain ⟨e1, q1, h31, h32⟩ := box3
    refine ⟨x1, _, e1, _, rfl, h31, .inl rfl, rfl, (by show 1 ≤ sizeLine; decide), fun l1 hl1 => ?_⟩
    have t1 := same_upd hl1 (.lst [.int 5])
    refine rep bcP ⟨e1, q1, t1 _ _ h31, t1 _ _ h32⟩ ⟨by decide, by decide, by decide, by decide, by decide⟩ upd_same (big0 5 (by decide) (by decide)).1 (big0 5 (by decide) (by decide)).2 fun H4 s4 => ?_
    rw [aP, show plainAns [] 0 0 1000 5 = 0 by decide +kernel]
    -- Odd().reply([-5])
    refine fun x2 dx2 hx2 hdx2 nd2 => mk_none (l := 0) (c := 0) (m := 1000) bcO rO hx2 hdx2 nd2 fun H5 s5 box5 => ?_
    obtain ⟨e2, q2, h51, h52⟩ := box5
    refine ⟨x2, _, e2, _, rfl, h51, .inr rfl, rfl, 5, rfl, (by show 1 ≤ sizeLine; decide), fun l2 hl2 => ?_⟩
    have t2 := same_upd hl2 (.lst [.int (-5)])
    refine rep bcO ⟨e2, q2, t2 _ _ h51, t2 _ _ h52⟩ ⟨by decide, by decide, by decide, by decide, by decide⟩ upd_same (big0 (-5) (by decide) (by decide)).1 (big0 (-5) (by decide) (by decide)).2 fun H6 s6 => ?_
    rw [aO, show oddAns [] 0 0 1000 (-5) = 0 by decide +kernel]
    -- Plain(line=7).reply([200])
    refine ⟨rfl, rfl, fun x3 dx3 hx3 hdx3 nd3 => mk_none (l := 7) (c := 0) (m := 1000) bcP rP hx3 hdx3 nd3 fun H7 s7 box7 => ?_⟩
    obtain ⟨e3, q3, h71, h72⟩ := box7
    refine ⟨x3, _, e3, _, rfl, h71, .inl rfl, rfl, (by show 1 ≤ sizeLine; decide), fun l3 hl3 => ?_⟩
    have t3 := same_upd hl3 (.lst [.int 200])
    refine rep bcP ⟨e3, q3, t3 _ _ h71, t3 _ _ h72⟩ ⟨by decide, by decide, by decide, by decide, by decide⟩ upd_same (big0 200 (by decide) (by decide)).1 (big0 200 (by decide) (by decide)).2 fun H8 s8 => ?_
    rw [aP, show plainAns [] 7 0 1000 200 = 400 by decide +kernel]
    -- Odd(None, line=1)([-1001])
    refine ⟨rfl, rfl, fun x4 dx4 hx4 hdx4 nd4 => mk_none (l := 1) (c := 0) (m := 1000) bcO rO hx4 hdx4 nd4 fun H9 s9 box9 => ?_⟩
    obtain ⟨e4, q4, h91, h92⟩ := box9
    refine ⟨x4, _, rfl, .inr rfl, 1001, rfl, (by show 1 ≤ sizeLine; decide), fun l4 hl4 => ?_⟩
    have t4 := same_upd hl4 (.lst [.int (-1001)])
    refine ⟨.inr ⟨e4, _, t4 _ _ h91⟩, rep bcO ⟨e4, q4, t4 _ _ h91, t4 _ _ h92⟩ ⟨by decide, by decide, by decide, by decide, by decide⟩ upd_same (big0 (-1001) (by decide) (by decide)).1 (big0 (-1001) (by decide) (by decide)).2 fun H10 s10 => ?_⟩
    rw [aO, show oddAns [] 1 0 1000 (-1001) = -1 by decide +kernel]
    refine ⟨(by show 4 ≤ sizeLine; decide), fun l5 hl5 => ?_⟩
    refine ⟨1, rfl, (by show 4 ≤ sizeLine; decide), fun l6 hl6 => ?_⟩
    refine ⟨.ref l5, .ref l6, rfl, Eqv.ints (ns := [0, 0, 400, -1]) 0 (by show 4 ≤ 100000; decide) ?_ upd_same, fun H13 s13 => q H13⟩
    rw [upd_ne (ne_of_none upd_same hl6)]
    exact upd_same
/-! ### what the top has written, the head -/
theorem all_mk {l : PySem.W.OpenLaw} {w : World} {K : PySem.W.Frag} {h : Heap} {mg : Str → Option Value} {fa : Addr} (X : K.In h) (G : h.Ns mainGlobals mg) (hfa : mg "law" = some (.ref fa))
    {f1 : Addr}
    {od1 an1 : Option Addr} {sl1 : Array (Option Value)} {oc1 kV1 dc1 pm1 cd1 ct1 : Value}
    {f2 : Addr}
    {od2 an2 : Option Addr} {sl2 : Array (Option Value)} {oc2 kV2 dc2 pm2 cd2 ct2 : Value}
    {f3 : Addr}
    {od3 an3 : Option Addr} {sl3 : Array (Option Value)} {oc3 kV3 dc3 pm3 cd3 ct3 : Value}
    {f4 : Addr}
    {od4 an4 : Option Addr} {sl4 : Array (Option Value)} {oc4 kV4 dc4 pm4 cd4 ct4 : Value}
    {f5 : Addr}
    {od5 an5 : Option Addr} {sl5 : Array (Option Value)} {oc5 kV5 dc5 pm5 cd5 ct5 : Value}
    {f6 : Addr}
    {od6 an6 : Option Addr} {sl6 : Array (Option Value)} {oc6 kV6 dc6 pm6 cd6 ct6 : Value}
    {f7 : Addr}
    {od7 an7 : Option Addr} {sl7 : Array (Option Value)} {oc7 kV7 dc7 pm7 cd7 ct7 : Value}
    {f8 : Addr}
    {od8 an8 : Option Addr} {sl8 : Array (Option Value)} {oc8 kV8 dc8 pm8 cd8 ct8 : Value}
    {f9 : Addr}
    {od9 an9 : Option Addr} {sl9 : Array (Option Value)} {oc9 kV9 dc9 pm9 cd9 ct9 : Value}
    {f10 : Addr}
    {od10 an10 : Option Addr} {sl10 : Array (Option Value)} {oc10 kV10 dc10 pm10 cd10 ct10 : Value}
    {f11 : Addr}
    {od11 an11 : Option Addr} {sl11 : Array (Option Value)} {oc11 kV11 dc11 pm11 cd11 ct11 : Value}
    {f12 : Addr}
    {od12 an12 : Option Addr} {sl12 : Array (Option Value)} {oc12 kV12 dc12 pm12 cd12 ct12 : Value}
    {f13 : Addr}
    {od13 an13 : Option Addr} {sl13 : Array (Option Value)} {oc13 kV13 dc13 pm13 cd13 ct13 : Value}
    {od14 an14 : Option Addr} {sl14 : Array (Option Value)} {oc14 kV14 dc14 pm14 cd14 ct14 : Value}
    {f14 : Addr}
    {CP : Addr} {cdtCP : ClassData}
    {CO : Addr} {cdtCO : ClassData}
    {tkCP : Tok}
    {tkCO : Tok}
    {fIB TIB DIB : Addr} {odIB anIB tdIB : Option Addr} {slIB tsIB : Array (Option Value)} {ocIB tcIB dcIB pmIB cdIB ctIB : Value} {tnIB : Nat}
    {ktIB_0 : Tok}
    {ktIB_1 : Tok}
    {ktIB_2 : Tok}
    {fIP ccIP caIP : Addr} {odIP anIP ccdIP cadIP : Option Addr} {slIP ccsIP casIP : Array (Option Value)} {ocIP dcIP pmIP ctIP cccIP cacIP : Value} {vsIP : Array Value} {fiIP : Str} {tfIP : Tok}
    {TIP DIP : Addr} {tdIP : Option Addr} {tsIP : Array (Option Value)} {tcIP : Value} {tnIP : Nat}
    {ktIP_0 : Tok}
    {ktIP_1 : Tok}
    {ktIP_2 : Tok}
    {fIO ccIO caIO : Addr} {odIO anIO ccdIO cadIO : Option Addr} {slIO ccsIO casIO : Array (Option Value)} {ocIO dcIO pmIO ctIO cccIO cacIO : Value} {vsIO : Array Value} {fiIO : Str} {tfIO : Tok}
    {TIO DIO : Addr} {tdIO : Option Addr} {tsIO : Array (Option Value)} {tcIO : Value} {tnIO : Nat}
    {ktIO_0 : Tok}
    {ktIO_1 : Tok}
    {ktIO_2 : Tok}
    {fRP : Addr} {odRP anRP : Option Addr} {slRP : Array (Option Value)} {ocRP kVRP dcRP pmRP cdRP ctRP : Value}
    {fRO ccRO caRO : Addr} {odRO anRO ccdRO cadRO : Option Addr} {slRO ccsRO casRO : Array (Option Value)} {ocRO dcRO pmRO ctRO cccRO cacRO : Value} {vsRO : Array Value} {fiRO : Str} {tfRO : Tok}
    {fKP : Addr} {odKP anKP : Option Addr} {slKP : Array (Option Value)} {ocKP kVKP dcKP pmKP cdKP ctKP : Value}
    {fKO : Addr} {odKO anKO : Option Addr} {slKO : Array (Option Value)} {ocKO kVKO dcKO pmKO cdKO ctKO : Value}
    (any_ : PySem.W.nsIn K cStatics "thirdparty.any" = some none)
    (top_ : (l.prog.main.scope.names.lookup ("super" : Str)).isSome = false)
    (a1 : PySem.W.nsIn K mainGlobals "is_integer" = some (some (.ref f1)))
    (l1 : K.lookup f1 = some ⟨oc1, od1, .func (PySem.W.fnOf "is_integer" "is_integer" (defArgs sIsInt) (defBody sIsInt) (defScope sIsInt) .none kV1 dc1 pm1 an1 cd1 ct1), sl1⟩)
    (c1 : PySem.W.codeIn K cd1 "is_integer" = true)
    (k1 : PySem.W.keepIn K (.ref f1) = true)
    (a2 : PySem.W.nsIn K mainGlobals "is_key" = some (some (.ref f2)))
    (l2 : K.lookup f2 = some ⟨oc2, od2, .func (PySem.W.fnOf "is_key" "is_key" (defArgs sIsKey) (defBody sIsKey) (defScope sIsKey) .none kV2 dc2 pm2 an2 cd2 ct2), sl2⟩)
    (c2 : PySem.W.codeIn K cd2 "is_key" = true)
    (k2 : PySem.W.keepIn K (.ref f2) = true)
    (a3 : PySem.W.nsIn K mainGlobals "entries_of" = some (some (.ref f3)))
    (l3 : K.lookup f3 = some ⟨oc3, od3, .func (PySem.W.fnOf "entries_of" "entries_of" (defArgs sEntries) (defBody sEntries) (defScope sEntries) .none kV3 dc3 pm3 an3 cd3 ct3), sl3⟩)
    (c3 : PySem.W.codeIn K cd3 "entries_of" = true)
    (k3 : PySem.W.keepIn K (.ref f3) = true)
    (a4 : PySem.W.nsIn K mainGlobals "_law_bag" = some (some (.ref f4)))
    (l4 : K.lookup f4 = some ⟨oc4, od4, .func (PySem.W.fnOf "_law_bag" "_law_bag" (defArgs sBag) (defBody sBag) (defScope sBag) .none kV4 dc4 pm4 an4 cd4 ct4), sl4⟩)
    (c4 : PySem.W.codeIn K cd4 "_law_bag" = true)
    (k4 : PySem.W.keepIn K (.ref f4) = true)
    (a5 : PySem.W.nsIn K mainGlobals "_law_pull" = some (some (.ref f5)))
    (l5 : K.lookup f5 = some ⟨oc5, od5, .func (PySem.W.fnOf "_law_pull" "_law_pull" (defArgs sPull) (defBody sPull) (defScope sPull) .none kV5 dc5 pm5 an5 cd5 ct5), sl5⟩)
    (c5 : PySem.W.codeIn K cd5 "_law_pull" = true)
    (k5 : PySem.W.keepIn K (.ref f5) = true)
    (a6 : PySem.W.nsIn K mainGlobals "_law_any" = some (some (.ref f6)))
    (l6 : K.lookup f6 = some ⟨oc6, od6, .func (PySem.W.fnOf "_law_any" "_law_any" (defArgs sAny) (defBody sAny) (defScope sAny) .none kV6 dc6 pm6 an6 cd6 ct6), sl6⟩)
    (c6 : PySem.W.codeIn K cd6 "_law_any" = true)
    (k6 : PySem.W.keepIn K (.ref f6) = true)
    (a7 : PySem.W.nsIn K mainGlobals "_law_same" = some (some (.ref f7)))
    (l7 : K.lookup f7 = some ⟨oc7, od7, .func (PySem.W.fnOf "_law_same" "_law_same" (defArgs sSame) (defBody sSame) (defScope sSame) .none kV7 dc7 pm7 an7 cd7 ct7), sl7⟩)
    (c7 : PySem.W.codeIn K cd7 "_law_same" = true)
    (k7 : PySem.W.keepIn K (.ref f7) = true)
    (a8 : PySem.W.nsIn K mainGlobals "_law_cells" = some (some (.ref f8)))
    (l8 : K.lookup f8 = some ⟨oc8, od8, .func (PySem.W.fnOf "_law_cells" "_law_cells" (defArgs sCells) (defBody sCells) (defScope sCells) .none kV8 dc8 pm8 an8 cd8 ct8), sl8⟩)
    (c8 : PySem.W.codeIn K cd8 "_law_cells" = true)
    (k8 : PySem.W.keepIn K (.ref f8) = true)
    (a9 : PySem.W.nsIn K mainGlobals "_law_key" = some (some (.ref f9)))
    (l9 : K.lookup f9 = some ⟨oc9, od9, .func (PySem.W.fnOf "_law_key" "_law_key" (defArgs sKeyL) (defBody sKeyL) (defScope sKeyL) .none kV9 dc9 pm9 an9 cd9 ct9), sl9⟩)
    (c9 : PySem.W.codeIn K cd9 "_law_key" = true)
    (k9 : PySem.W.keepIn K (.ref f9) = true)
    (a10 : PySem.W.nsIn K mainGlobals "_law_spec" = some (some (.ref f10)))
    (l10 : K.lookup f10 = some ⟨oc10, od10, .func (PySem.W.fnOf "_law_spec" "_law_spec" (defArgs sSpec) (defBody sSpec) (defScope sSpec) .none kV10 dc10 pm10 an10 cd10 ct10), sl10⟩)
    (c10 : PySem.W.codeIn K cd10 "_law_spec" = true)
    (k10 : PySem.W.keepIn K (.ref f10) = true)
    (a11 : PySem.W.nsIn K mainGlobals "_law_opened" = some (some (.ref f11)))
    (l11 : K.lookup f11 = some ⟨oc11, od11, .func (PySem.W.fnOf "_law_opened" "_law_opened" (defArgs sOpened) (defBody sOpened) (defScope sOpened) .none kV11 dc11 pm11 an11 cd11 ct11), sl11⟩)
    (c11 : PySem.W.codeIn K cd11 "_law_opened" = true)
    (k11 : PySem.W.keepIn K (.ref f11) = true)
    (a12 : PySem.W.nsIn K mainGlobals "_law_ruled" = some (some (.ref f12)))
    (l12 : K.lookup f12 = some ⟨oc12, od12, .func (PySem.W.fnOf "_law_ruled" "_law_ruled" (defArgs sRuled) (defBody sRuled) (defScope sRuled) .none kV12 dc12 pm12 an12 cd12 ct12), sl12⟩)
    (c12 : PySem.W.codeIn K cd12 "_law_ruled" = true)
    (k12 : PySem.W.keepIn K (.ref f12) = true)
    (a13 : PySem.W.nsIn K mainGlobals "_law_reply" = some (some (.ref f13)))
    (l13 : K.lookup f13 = some ⟨oc13, od13, .func (PySem.W.fnOf "_law_reply" "_law_reply" (defArgs sReply) (defBody sReply) (defScope sReply) .none kV13 dc13 pm13 an13 cd13 ct13), sl13⟩)
    (c13 : PySem.W.codeIn K cd13 "_law_reply" = true)
    (k13 : PySem.W.keepIn K (.ref f13) = true)
    (a14 : PySem.W.nsIn K mainGlobals "law" = some (some (.ref f14)))
    (l14 : K.lookup f14 = some ⟨oc14, od14, .func (PySem.W.fnOf "law" "law" (defArgs sLaw) (defBody sLaw) (defScope sLaw) .none kV14 dc14 pm14 an14 cd14 ct14), sl14⟩)
    (c14 : PySem.W.codeIn K cd14 "law" = true)
    (k14 : PySem.W.keepIn K (.ref f14) = true)
    (a_CP : PySem.W.nsIn K mainGlobals "Plain" = some (some (.ref CP)))
    (pgCP : PySem.W.plainGet K CP Str.empty = true)
    (hdCP : PySem.W.hasDictIn K CP = true)
    (poCP : PySem.W.plainOver K CP = true)
    (saCP : PySem.W.findIn K (.ref CP) "__setattr__" = some (some (.builtin "object.__setattr__")))
    (mkCP : PySem.W.makesIn K CP = true)
    (kpCP : PySem.W.keepIn K (.ref CP) = true)
    (ci_CP : PySem.W.clsIn K CP = some cdtCP)
    (noCP_table : PySem.W.findIn K (.ref CP) "_table" = some none)
    (noCPline : PySem.W.findIn K (.ref CP) "line" = some none)
    (noCPcurve : PySem.W.findIn K (.ref CP) "curve" = some none)
    (noCPmodulus : PySem.W.findIn K (.ref CP) "modulus" = some none)
    (a_CO : PySem.W.nsIn K mainGlobals "Odd" = some (some (.ref CO)))
    (pgCO : PySem.W.plainGet K CO Str.empty = true)
    (hdCO : PySem.W.hasDictIn K CO = true)
    (poCO : PySem.W.plainOver K CO = true)
    (saCO : PySem.W.findIn K (.ref CO) "__setattr__" = some (some (.builtin "object.__setattr__")))
    (mkCO : PySem.W.makesIn K CO = true)
    (kpCO : PySem.W.keepIn K (.ref CO) = true)
    (ci_CO : PySem.W.clsIn K CO = some cdtCO)
    (noCO_table : PySem.W.findIn K (.ref CO) "_table" = some none)
    (noCOline : PySem.W.findIn K (.ref CO) "line" = some none)
    (noCOcurve : PySem.W.findIn K (.ref CO) "curve" = some none)
    (noCOmodulus : PySem.W.findIn K (.ref CO) "modulus" = some none)
    (kdCP : PySem.W.findIn K (.ref CP) "KIND" = some (some (.str "plain" tkCP)))
    (gkCP : PySem.W.specialIn K (.str "plain" tkCP) "__get__" = some none)
    (kdCO : PySem.W.findIn K (.ref CO) "KIND" = some (some (.str "odd" tkCO)))
    (gkCO : PySem.W.specialIn K (.str "odd" tkCO) "__get__" = some none)
    (suPP : PySem.W.mroIn K CP (.ref CP) = some true)
    (svPP : PySem.W.ks_superIn K CP CP "__init__" = some (some (.ref fIB)))
    (swPP : PySem.W.typeIn K (.ref fIB) = some (.type "function"))
    (sxPP : PySem.W.fnIn K fIB = true)
    (lIB : K.lookup fIB = some ⟨ocIB, odIB, .func (PySem.W.fnOf "__init__" "Box.__init__" (defArgs sBoxI) (defBody sBoxI) (defScope sBoxI) (.ref TIB) (.ref DIB) dcIB pmIB anIB cdIB ctIB), slIB⟩)
    (cIB : PySem.W.codeIn K cdIB "Box.__init__" = true)
    (kIB : PySem.W.keepIn K (.ref fIB) = true)
    (tIB : K.lookup TIB = some ⟨tcIB, tdIB, .seq #[.none] tnIB, tsIB⟩)
    (kwIB_0 : PySem.W.nsIn K DIB "line" = some (some (.int 0 ktIB_0)))
    (kwIB_1 : PySem.W.nsIn K DIB "curve" = some (some (.int 0 ktIB_1)))
    (kwIB_2 : PySem.W.nsIn K DIB "modulus" = some (some (.int 1000 ktIB_2)))
    (aIP : PySem.W.findIn K (.ref CP) "__init__" = some (some (.ref fIP)))
    (nIP : PySem.W.isFn K (.ref fIP) = true)
    (lIP : K.lookup fIP = some ⟨ocIP, odIP, .func (PySem.W.fnX "__init__" "Plain.__init__" (defArgs sPlainI) (defBody sPlainI) (defScope sPlainI) (SupX.clsCells ccIP) (.ref TIP) (.ref DIP) dcIP pmIP anIP (.ref caIP) ctIP), slIP⟩)
    (cIP : PySem.W.codeIn K (.ref caIP) "Plain.__init__" = true)
    (kIP : PySem.W.keepIn K (.ref fIP) = true)
    (ca_IP : K.lookup caIP = some ⟨cacIP, cadIP, .fields vsIP, casIP⟩)
    (vfIP : vsIP[2]? = some (.str fiIP tfIP))
    (hfIP : (l.prog.main.file == fiIP) = true)
    (cc_IP : K.lookup ccIP = some ⟨cccIP, ccdIP, .cell (some (.ref CP)), ccsIP⟩)
    (tIP : K.lookup TIP = some ⟨tcIP, tdIP, .seq #[.none] tnIP, tsIP⟩)
    (kwIP_0 : PySem.W.nsIn K DIP "line" = some (some (.int 0 ktIP_0)))
    (kwIP_1 : PySem.W.nsIn K DIP "curve" = some (some (.int 0 ktIP_1)))
    (kwIP_2 : PySem.W.nsIn K DIP "modulus" = some (some (.int 1000 ktIP_2)))
    (aIO : PySem.W.findIn K (.ref CO) "__init__" = some (some (.ref fIO)))
    (nIO : PySem.W.isFn K (.ref fIO) = true)
    (lIO : K.lookup fIO = some ⟨ocIO, odIO, .func (PySem.W.fnX "__init__" "Odd.__init__" (defArgs sOddI) (defBody sOddI) (defScope sOddI) (SupX.clsCells ccIO) (.ref TIO) (.ref DIO) dcIO pmIO anIO (.ref caIO) ctIO), slIO⟩)
    (cIO : PySem.W.codeIn K (.ref caIO) "Odd.__init__" = true)
    (kIO : PySem.W.keepIn K (.ref fIO) = true)
    (ca_IO : K.lookup caIO = some ⟨cacIO, cadIO, .fields vsIO, casIO⟩)
    (vfIO : vsIO[2]? = some (.str fiIO tfIO))
    (hfIO : (l.prog.main.file == fiIO) = true)
    (cc_IO : K.lookup ccIO = some ⟨cccIO, ccdIO, .cell (some (.ref CO)), ccsIO⟩)
    (tIO : K.lookup TIO = some ⟨tcIO, tdIO, .seq #[.none] tnIO, tsIO⟩)
    (kwIO_0 : PySem.W.nsIn K DIO "line" = some (some (.int 0 ktIO_0)))
    (kwIO_1 : PySem.W.nsIn K DIO "curve" = some (some (.int 0 ktIO_1)))
    (kwIO_2 : PySem.W.nsIn K DIO "modulus" = some (some (.int 1000 ktIO_2)))
    (suOP : PySem.W.mroIn K CO (.ref CP) = some true)
    (svOP : PySem.W.ks_superIn K CO CP "__init__" = some (some (.ref fIB)))
    (swOP : PySem.W.typeIn K (.ref fIB) = some (.type "function"))
    (sxOP : PySem.W.fnIn K fIB = true)
    (suOO : PySem.W.mroIn K CO (.ref CO) = some true)
    (svOO : PySem.W.ks_superIn K CO CO "__init__" = some (some (.ref fIP)))
    (swOO : PySem.W.typeIn K (.ref fIP) = some (.type "function"))
    (sxOO : PySem.W.fnIn K fIP = true)
    (aRP : PySem.W.findIn K (.ref CP) "reply" = some (some (.ref fRP)))
    (nRP : PySem.W.isFn K (.ref fRP) = true)
    (lRP : K.lookup fRP = some ⟨ocRP, odRP, .func (PySem.W.fnOf "reply" "Plain.reply" (defArgs sPRep) (defBody sPRep) (defScope sPRep) .none kVRP dcRP pmRP anRP cdRP ctRP), slRP⟩)
    (cRP : PySem.W.codeIn K cdRP "Plain.reply" = true)
    (kRP : PySem.W.keepIn K (.ref fRP) = true)
    (aRO : PySem.W.findIn K (.ref CO) "reply" = some (some (.ref fRO)))
    (nRO : PySem.W.isFn K (.ref fRO) = true)
    (lRO : K.lookup fRO = some ⟨ocRO, odRO, .func (PySem.W.fnX "reply" "Odd.reply" (defArgs sORep) (defBody sORep) (defScope sORep) (SupX.clsCells ccRO) .none .none dcRO pmRO anRO (.ref caRO) ctRO), slRO⟩)
    (cRO : PySem.W.codeIn K (.ref caRO) "Odd.reply" = true)
    (kRO : PySem.W.keepIn K (.ref fRO) = true)
    (ca_RO : K.lookup caRO = some ⟨cacRO, cadRO, .fields vsRO, casRO⟩)
    (vfRO : vsRO[2]? = some (.str fiRO tfRO))
    (hfRO : (l.prog.main.file == fiRO) = true)
    (cc_RO : K.lookup ccRO = some ⟨cccRO, ccdRO, .cell (some (.ref CO)), ccsRO⟩)
    (suRR : PySem.W.mroIn K CO (.ref CO) = some true)
    (svRR : PySem.W.ks_superIn K CO CO "reply" = some (some (.ref fRP)))
    (swRR : PySem.W.typeIn K (.ref fRP) = some (.type "function"))
    (sxRR : PySem.W.fnIn K fRP = true)
    (aKP : PySem.W.findIn K (.ref CP) "__call__" = some (some (.ref fKP)))
    (nKP : PySem.W.isFn K (.ref fKP) = true)
    (lKP : K.lookup fKP = some ⟨ocKP, odKP, .func (PySem.W.fnOf "__call__" "Plain.__call__" (defArgs sPCall) (defBody sPCall) (defScope sPCall) .none kVKP dcKP pmKP anKP cdKP ctKP), slKP⟩)
    (cKP : PySem.W.codeIn K cdKP "Plain.__call__" = true)
    (kKP : PySem.W.keepIn K (.ref fKP) = true)
    (aKO : PySem.W.findIn K (.ref CO) "__call__" = some (some (.ref fKO)))
    (nKO : PySem.W.isFn K (.ref fKO) = true)
    (lKO : K.lookup fKO = some ⟨ocKO, odKO, .func (PySem.W.fnOf "__call__" "Odd.__call__" (defArgs sOCall) (defBody sOCall) (defScope sOCall) .none kVKO dcKO pmKO anKO cdKO ctKO), slKO⟩)
    (cKO : PySem.W.codeIn K cdKO "Odd.__call__" = true)
    (kKO : PySem.W.keepIn K (.ref fKO) = true)
    (fiKP : PySem.W.fnIn K fKP = true)
    (fiKO : PySem.W.fnIn K fKO = true)
    (z_isinstance : PySem.W.nsIn K mainGlobals "isinstance" = some none)
    (z_str : PySem.W.nsIn K mainGlobals "str" = some none)
    (z_int : PySem.W.nsIn K mainGlobals "int" = some none)
    (z_bool : PySem.W.nsIn K mainGlobals "bool" = some none)
    (z_len : PySem.W.nsIn K mainGlobals "len" = some none)
    (z_all : PySem.W.nsIn K mainGlobals "all" = some none)
    (z_list : PySem.W.nsIn K mainGlobals "list" = some none)
    (z_tuple : PySem.W.nsIn K mainGlobals "tuple" = some none)
    (z_zip : PySem.W.nsIn K mainGlobals "zip" = some none)
    (z_range : PySem.W.nsIn K mainGlobals "range" = some none)
    (z_abs : PySem.W.nsIn K mainGlobals "abs" = some none)
    (z_dict : PySem.W.nsIn K mainGlobals "dict" = some none)
    (z_super : PySem.W.nsIn K mainGlobals "super" = some none)
    : ∃ fd : FuncData, (∀ (s : Shared) (v : Value), BindsTo s fd ⟨[v], []⟩ [("_law_script", v)]) ∧ ∀ base : Heap, K.In base → base.Ns mainGlobals mg → FnOk l.prog w K mg base CX0 9 fa fd ["_law_script"] (spLaw K) := by
  have F1 := fun_mk (st := sIsInt) l1 c1 k1
  have m1 := PySem.W.mg_of X G a1
  have b1 := F1.binds (ps := ["value"]) fun _ _ _ _ _ _ us hl => match us, hl with | [_], _ => rfl
  have F2 := fun_mk (st := sIsKey) l2 c2 k2
  have m2 := PySem.W.mg_of X G a2
  have b2 := F2.binds (ps := ["kind", "key"]) fun _ _ _ _ _ _ us hl => match us, hl with | [_, _], _ => rfl
  have F3 := fun_mk (st := sEntries) l3 c3 k3
  have m3 := PySem.W.mg_of X G a3
  have b3 := F3.binds (ps := ["kind", "table"]) fun _ _ _ _ _ _ us hl => match us, hl with | [_, _], _ => rfl
  have F4 := fun_mk (st := sBag) l4 c4 k4
  have m4 := PySem.W.mg_of X G a4
  have b4 := F4.binds (ps := ["_law_script"]) fun _ _ _ _ _ _ us hl => match us, hl with | [_], _ => rfl
  have F5 := fun_mk (st := sPull) l5 c5 k5
  have m5 := PySem.W.mg_of X G a5
  have b5 := F5.binds (ps := ["_law_bag_here", "_law_many"]) fun _ _ _ _ _ _ us hl => match us, hl with | [_, _], _ => rfl
  have F6 := fun_mk (st := sAny) l6 c6 k6
  have m6 := PySem.W.mg_of X G a6
  have b6 := F6.binds (ps := ["_law_bag_here", "_law_things"]) fun _ _ _ _ _ _ us hl => match us, hl with | [_, _], _ => rfl
  have F7 := fun_mk (st := sSame) l7 c7 k7
  have m7 := PySem.W.mg_of X G a7
  have b7 := F7.binds (ps := ["_law_found", "_law_due"]) fun _ _ _ _ _ _ us hl => match us, hl with | [_, _], _ => rfl
  have F8 := fun_mk (st := sCells) l8 c8 k8
  have m8 := PySem.W.mg_of X G a8
  have b8 := F8.binds (ps := ["_law_bag_here", "_law_many", "_law_wide"]) fun _ _ _ _ _ _ us hl => match us, hl with | [_, _, _], _ => rfl
  have F9 := fun_mk (st := sKeyL) l9 c9 k9
  have m9 := PySem.W.mg_of X G a9
  have b9 := F9.binds (ps := ["_law_bag_here", "_law_kind"]) fun _ _ _ _ _ _ us hl => match us, hl with | [_, _], _ => rfl
  have F10 := fun_mk (st := sSpec) l10 c10 k10
  have m10 := PySem.W.mg_of X G a10
  have b10 := F10.binds (ps := ["_law_bag_here", "_law_kind"]) fun _ _ _ _ _ _ us hl => match us, hl with | [_, _], _ => rfl
  have F11 := fun_mk (st := sOpened) l11 c11 k11
  have m11 := PySem.W.mg_of X G a11
  have b11 := F11.binds (ps := ["_law_spec_here"]) fun _ _ _ _ _ _ us hl => match us, hl with | [_], _ => rfl
  have F12 := fun_mk (st := sRuled) l12 c12 k12
  have m12 := PySem.W.mg_of X G a12
  have b12 := F12.binds (ps := ["_law_spec_here", "_law_key_here", "_law_first", "_law_second"]) fun _ _ _ _ _ _ us hl => match us, hl with | [_, _, _, _], _ => rfl
  have F13 := fun_mk (st := sReply) l13 c13 k13
  have m13 := PySem.W.mg_of X G a13
  have b13 := F13.binds (ps := ["_law_spec_here", "_law_row_z"]) fun _ _ _ _ _ _ us hl => match us, hl with | [_, _], _ => rfl
  have F14 := fun_mk (st := sLaw) l14 c14 k14
  have m14 := PySem.W.mg_of X G a14
  have m_CP := PySem.W.mg_of X G a_CP
  have ClCP : Cls K CP := ⟨pgCP, hdCP, poCP, saCP⟩
  have m_CO := PySem.W.mg_of X G a_CO
  have ClCO : Cls K CO := ⟨pgCO, hdCO, poCO, saCO⟩
  have bcCP : BoxCls K CP "plain" := ⟨ClCP, ⟨_, ⟨kdCP, ⟨_, rfl⟩, gkCP, by decide +kernel⟩⟩, noCP_table, noCPline, noCPcurve, noCPmodulus⟩
  have bcCO : BoxCls K CO "odd" := ⟨ClCO, ⟨_, ⟨kdCO, ⟨_, rfl⟩, gkCO, by decide +kernel⟩⟩, noCO_table, noCOline, noCOcurve, noCOmodulus⟩
  have SMPP : SupX.SupM K CP CP "__init__" fIB := ⟨suPP, svPP, swPP, sxPP⟩
  have dflIB : DflV K (.ref TIB) [V.non] := .inr ⟨by simp, TIB, _, [.none], tnIB, rfl, tIB, rfl, .cons rfl .nil⟩
  have kwdIB : KwdV K (.ref DIB) [("line", V.int 0), ("curve", V.int 0), ("modulus", V.int 1000)] := .inr ⟨DIB, rfl, fun q hq => by
    simp only [List.mem_cons, List.not_mem_nil, or_false] at hq
    rcases hq with rfl | rfl | rfl
    · exact ⟨_, kwIB_0, _, rfl⟩
    · exact ⟨_, kwIB_1, _, rfl⟩
    · exact ⟨_, kwIB_2, _, rfl⟩⟩
  have FDIB : FunD K "__init__" "Box.__init__" (defArgs sBoxI) (defBody sBoxI) (defScope sBoxI) [.non] [("line", .int 0), ("curve", .int 0), ("modulus", .int 1000)] fIB _ := ⟨⟨_, _, _, _, _, _, _, _, _, _, rfl, lIB, cIB, dflIB, kwdIB⟩, kIB⟩
  have dflIP : DflV K (.ref TIP) [V.non] := .inr ⟨by simp, TIP, _, [.none], tnIP, rfl, tIP, rfl, .cons rfl .nil⟩
  have kwdIP : KwdV K (.ref DIP) [("line", V.int 0), ("curve", V.int 0), ("modulus", V.int 1000)] := .inr ⟨DIP, rfl, fun q hq => by
    simp only [List.mem_cons, List.not_mem_nil, or_false] at hq
    rcases hq with rfl | rfl | rfl
    · exact ⟨_, kwIP_0, _, rfl⟩
    · exact ⟨_, kwIP_1, _, rfl⟩
    · exact ⟨_, kwIP_2, _, rfl⟩⟩
  have FCIP : SupX.FunC K l.prog "__init__" "Plain.__init__" (defArgs sPlainI) (defBody sPlainI) (defScope sPlainI) [.non] [("line", .int 0), ("curve", .int 0), ("modulus", .int 1000)] CP fIP _ := ⟨⟨_, _, _, _, _, _, _, _, _, _, _, rfl, lIP, cIP, ⟨_, _, _, _, ca_IP, rfl, vfIP, hfIP⟩, ⟨_, cc_IP, rfl⟩, dflIP, kwdIP⟩, kIP, ⟨_, ci_CP⟩, any_, top_⟩
  have dflIO : DflV K (.ref TIO) [V.non] := .inr ⟨by simp, TIO, _, [.none], tnIO, rfl, tIO, rfl, .cons rfl .nil⟩
  have kwdIO : KwdV K (.ref DIO) [("line", V.int 0), ("curve", V.int 0), ("modulus", V.int 1000)] := .inr ⟨DIO, rfl, fun q hq => by
    simp only [List.mem_cons, List.not_mem_nil, or_false] at hq
    rcases hq with rfl | rfl | rfl
    · exact ⟨_, kwIO_0, _, rfl⟩
    · exact ⟨_, kwIO_1, _, rfl⟩
    · exact ⟨_, kwIO_2, _, rfl⟩⟩
  have FCIO : SupX.FunC K l.prog "__init__" "Odd.__init__" (defArgs sOddI) (defBody sOddI) (defScope sOddI) [.non] [("line", .int 0), ("curve", .int 0), ("modulus", .int 1000)] CO fIO _ := ⟨⟨_, _, _, _, _, _, _, _, _, _, _, rfl, lIO, cIO, ⟨_, _, _, _, ca_IO, rfl, vfIO, hfIO⟩, ⟨_, cc_IO, rfl⟩, dflIO, kwdIO⟩, kIO, ⟨_, ci_CO⟩, any_, top_⟩
  have SMOP : SupX.SupM K CO CP "__init__" fIB := ⟨suOP, svOP, swOP, sxOP⟩
  have SMOO : SupX.SupM K CO CO "__init__" fIP := ⟨suOO, svOO, swOO, sxOO⟩
  have FRP := fun_mk (st := sPRep) lRP cRP kRP
  have MRP : Meth K CP "reply" fRP := ⟨aRP, nRP, kRP⟩
  have bRP := FRP.binds (ps := ["self", "row"]) fun _ _ _ _ _ _ us hl => match us, hl with | [_, _], _ => rfl
  have FCRO : SupX.FunC K l.prog "reply" "Odd.reply" (defArgs sORep) (defBody sORep) (defScope sORep) [] [] CO fRO _ := ⟨⟨_, _, _, _, _, _, _, _, _, _, _, rfl, lRO, cRO, ⟨_, _, _, _, ca_RO, rfl, vfRO, hfRO⟩, ⟨_, cc_RO, rfl⟩, (.inl ⟨rfl, rfl⟩), (.inl rfl)⟩, kRO, ⟨_, ci_CO⟩, any_, top_⟩
  have SMRR : SupX.SupM K CO CO "reply" fRP := ⟨suRR, svRR, swRR, sxRR⟩
  have FKP := fun_mk (st := sPCall) lKP cKP kKP
  have MKP : Meth K CP "__call__" fKP := ⟨aKP, nKP, kKP⟩
  have bKP := FKP.binds (ps := ["self", "row"]) fun _ _ _ _ _ _ us hl => match us, hl with | [_, _], _ => rfl
  have FKO := fun_mk (st := sOCall) lKO cKO kKO
  have MKO : Meth K CO "__call__" fKO := ⟨aKO, nKO, kKO⟩
  have bKO := FKO.binds (ps := ["self", "row"]) fun _ _ _ _ _ _ us hl => match us, hl with | [_, _], _ => rfl
  have m_isinstance := PySem.W.mg_none_of X G z_isinstance
  have m_str := PySem.W.mg_none_of X G z_str
  have m_int := PySem.W.mg_none_of X G z_int
  have m_bool := PySem.W.mg_none_of X G z_bool
  have m_len := PySem.W.mg_none_of X G z_len
  have m_all := PySem.W.mg_none_of X G z_all
  have m_list := PySem.W.mg_none_of X G z_list
  have m_tuple := PySem.W.mg_none_of X G z_tuple
  have m_zip := PySem.W.mg_none_of X G z_zip
  have m_range := PySem.W.mg_none_of X G z_range
  have m_abs := PySem.W.mg_none_of X G z_abs
  have m_dict := PySem.W.mg_none_of X G z_dict
  have m_super := PySem.W.mg_none_of X G z_super
  cases hfa.symm.trans m14
  have hne : CP ≠ CO := fun e => by
    rw [e, kdCO] at kdCP
    cases Option.some.inj (Option.some.inj kdCP)
  refine ⟨PySem.W.fnOf "law" "law" (defArgs sLaw) (defBody sLaw) (defScope sLaw) .none kV14 dc14 pm14 an14 cd14 ct14, fun s v => .of_eq rfl, fun base _ _ => ?_⟩
  have S : SameTxt mg := ⟨m_isinstance, m_list, m_tuple, m_len, m_all, m_zip, m_bool, m_int, m_str⟩
  have TR : RangeTxt mg := ⟨m_range⟩
  have D1 : Df l.prog w K mg base 1 f1 _ "is_integer" ["value"] spIsInt := ⟨ok_isInt F1 S, b1, k1, m1⟩
  have D2 : Df l.prog w K mg base 2 f2 _ "is_key" ["kind", "key"] spKey := ⟨ok_isKey F2 D1, b2, k2, m2⟩
  have D3 : Df l.prog w K mg base 3 f3 _ "entries_of" ["kind", "table"] spEntries := ⟨ok_entries F3 D1 D2, b3, k3, m3⟩
  have D4 : Df l.prog w K mg base 1 f4 _ "_law_bag" ["_law_script"] (spBag K) := ⟨ok_bag F4 m_len m_list, b4, k4, m4⟩
  have D5 : Df l.prog w K mg base 1 f5 _ "_law_pull" ["_law_bag_here", "_law_many"] spPull := ⟨ok_pull F5 m_len m_int, b5, k5, m5⟩
  have D6 : Df l.prog w K mg base 2 f6 _ "_law_any" ["_law_bag_here", "_law_things"] (spAny K) := ⟨ok_any F6 D5.ok b5 k5 m5 m_len, b6, k6, m6⟩
  have D7 : Df l.prog w K mg base 2 f7 _ "_law_same" ["_law_found", "_law_due"] (spSame 2) := ⟨all_same F7 S b7 m7 2, b7, k7, m7⟩
  have D8 : Df l.prog w K mg base 2 f8 _ "_law_cells" ["_law_bag_here", "_law_many", "_law_wide"] spCells := ⟨ok_cells F8 D5 TR, b8, k8, m8⟩
  have D9 : Df l.prog w K mg base 3 f9 _ "_law_key" ["_law_bag_here", "_law_kind"] spKeyL := ⟨ok_keyL F9 D5 D6, b9, k9, m9⟩
  have D10 : Df l.prog w K mg base 4 f10 _ "_law_spec" ["_law_bag_here", "_law_kind"] spSpec := ⟨ok_spec F10 D5 D6 D9 TR, b10, k10, m10⟩
  obtain ⟨_, _, kbIB⟩ := FDIB.kbinds (ps := initPs) 2 ["line", "curve", "modulus"] [] (fun us _ _ ws => us ++ ws) (by simp) (by simp) (fun q hq => nomatch hq) (fun r1 _ _ r4 => r1.append r4) (fun T D doc pm an cdv ct us its mv ws h1 h2 h3 h4 => match us, its, mv, ws, h1, h2, h3, h4 with | [_, _], [_], [], [_, _, _], _, _, _, _ => ⟨_, rfl, rfl⟩)
  obtain ⟨_, _, kbIP⟩ := FCIP.kbinds (ps := initPs) 2 ["line", "curve", "modulus"] [] (fun us _ _ ws => us ++ ws) (by simp) (by simp) (fun q hq => nomatch hq) (fun r1 _ _ r4 => r1.append r4) (fun cl T D doc pm an cdv ct us its mv ws h1 h2 h3 h4 => match us, its, mv, ws, h1, h2, h3, h4 with | [_, _], [_], [], [_, _, _], _, _, _, _ => ⟨_, rfl, rfl⟩)
  obtain ⟨eP, dIP, bIP⟩ := FCIP.binds (ps := initPs) 1 0 (by simp) rfl (fun cl T D doc pm an cdv ct us its ks h1 h2 h3 => match us, its, ks, h1, h2, h3 with | [_], [_], [_, _, _], _, _, _ => ⟨_, rfl, ⟨_, _, _, _, _, _, rfl, rfl, ⟨_, _, _, _, _, _, rfl, rfl, ⟨_, _, _, _, _, _, rfl, rfl, rfl⟩⟩⟩⟩) (by simp)
  obtain ⟨_, _, kbIO⟩ := FCIO.kbinds (ps := initPs) 2 ["line", "curve", "modulus"] [] (fun us _ _ ws => us ++ ws) (by simp) (by simp) (fun q hq => nomatch hq) (fun r1 _ _ r4 => r1.append r4) (fun cl T D doc pm an cdv ct us its mv ws h1 h2 h3 h4 => match us, its, mv, ws, h1, h2, h3, h4 with | [_, _], [_], [], [_, _, _], _, _, _, _ => ⟨_, rfl, rfl⟩)
  obtain ⟨eO, dIO, bIO⟩ := FCIO.binds (ps := initPs) 1 0 (by simp) rfl (fun cl T D doc pm an cdv ct us its ks h1 h2 h3 => match us, its, ks, h1, h2, h3 with | [_], [_], [_, _, _], _, _, _ => ⟨_, rfl, ⟨_, _, _, _, _, _, rfl, rfl, ⟨_, _, _, _, _, _, rfl, rfl, ⟨_, _, _, _, _, _, rfl, rfl, rfl⟩⟩⟩⟩) (by simp)
  obtain ⟨_, _, kbP1⟩ := FCIP.kbinds (ps := initPs) 1 ["line"] [("curve", .int 0), ("modulus", .int 1000)] (fun us its mv ws => us ++ its ++ ws ++ mv) (by simp) (by simp) (fun q hq => List.mem_cons_of_mem _ hq) (fun r1 r2 r3 r4 => ((r1.append r2).append r4).append r3) (fun cl T D doc pm an cdv ct us its mv ws h1 h2 h3 h4 => match us, its, mv, ws, h1, h2, h3, h4 with | [_], [_], [_, _], [_], _, _, _, _ => ⟨_, rfl, ⟨_, _, _, _, _, _, rfl, rfl, ⟨_, _, _, _, _, _, rfl, rfl, rfl⟩⟩⟩)
  obtain ⟨_, _, kbO1⟩ := FCIO.kbinds (ps := initPs) 2 ["line"] [("curve", .int 0), ("modulus", .int 1000)] (fun us its mv ws => us ++ ws ++ mv) (by simp) (by simp) (fun q hq => List.mem_cons_of_mem _ hq) (fun r1 r2 r3 r4 => (r1.append r4).append r3) (fun cl T D doc pm an cdv ct us its mv ws h1 h2 h3 h4 => match us, its, mv, ws, h1, h2, h3, h4 with | [_, _], [_], [_, _], [_], _, _, _, _ => ⟨_, rfl, ⟨_, _, _, _, _, _, rfl, rfl, ⟨_, _, _, _, _, _, rfl, rfl, rfl⟩⟩⟩)
  have okB : ∀ R : Addr → Prop, FnOk l.prog w K mg base CX0 4 fIB _ initPs (spBoxI K R) := fun R => ok_boxI FDIB D3
  have okPl : ∀ R : Addr → Prop, (∀ C, R C → isCls CP CO C) → FnOk l.prog w K mg base CX0 5 fIP _ initPs (spBoxI K R) := fun R h => ok_initPlain FCIP m_super (okB R) kbIB fun C hC => by
    rcases h C hC with rfl | rfl
    · exact SMPP
    · exact SMOP
  have okOd : FnOk l.prog w K mg base CX0 6 fIO _ initPs (spBoxI K fun D => D = CO) := ok_initOdd FCIO m_super (okPl _ fun C h => .inr h) kbIP fun C hC => by
    subst hC
    exact SMOO
  have mkP : Mk K CP fIP := ⟨mkCP, aIP, nIP, kpCP⟩
  have mkO : Mk K CO fIO := ⟨mkCO, aIO, nIO, kpCO⟩
  have okP6 := (okPl (isCls CP CO) fun _ h => h).mono (show 5 ≤ 6 by decide)
  have D11 : Df l.prog w K mg base 8 f11 _ "_law_opened" ["_law_spec_here"] (spOpened CP CO) := ⟨ok_opened F11 m_dict m_CP mkP okP6 kbIP bcCP (.inl rfl) m_CO mkO okOd kbIO bcCO rfl, b11, k11, m11⟩
  have D12 : Df l.prog w K mg base 1 f12 _ "_law_ruled" ["_law_spec_here", "_law_key_here", "_law_first", "_law_second"] spRuled := ⟨ok_ruled F12 S, b12, k12, m12⟩
  have D13 : Df l.prog w K mg base 2 f13 _ "_law_reply" ["_law_spec_here", "_law_row_z"] (spReplyL K) := ⟨ok_replyL F13 D12 ⟨m_abs⟩, b13, k13, m13⟩
  have bRO := FCRO.bindsN (ps := ["self", "row"]) fun _ _ _ _ _ _ _ us hl => match us, hl with | [_, _], _ => rfl
  have okRP : ∀ R : Addr → Prop, FnOk l.prog w K mg base CX0 1 fRP _ ["self", "row"] (spReply K R plainAns) := fun R => ok_preply FRP
  have okRO : FnOk l.prog w K mg base CX0 2 fRO _ ["self", "row"] (spReply K (fun D => D = CO) oddAns) := ok_oreply FCRO m_super (okRP _) bRP fun C hC => by
    subst hC
    exact SMRR
  have eP : clsAns CO CP = plainAns := by unfold clsAns; rw [if_neg hne]
  have eO : clsAns CO CO = oddAns := by unfold clsAns; rw [if_pos rfl]
  have kbRow : ∀ {x q : Str} {st : Stmt} {f : Addr} {fd : FuncData}, True := trivial
  have RF : RowFam l.prog w K mg base CP CO := fun C h => by
    rcases h with rfl | rfl
    · refine ⟨ClCP, ⟨fRP, _, _, MRP, ?_, bRP, Fun.kbn FRP 1 ["row"] (fun us ws => us ++ ws) (fun vs zs => vs ++ zs) (fun r rz => r.append rz) fun _ _ _ _ _ _ us ws h1 h2 => match us, ws, h1, h2 with | [_], [_], _, _ => rfl⟩, ⟨fKP, _, _, ⟨aKP, nKP, fiKP⟩, ?_, bKP, Fun.kbn FKP 1 ["row"] (fun us ws => us ++ ws) (fun vs zs => vs ++ zs) (fun r rz => r.append rz) fun _ _ _ _ _ _ us ws h1 h2 => match us, ws, h1, h2 with | [_], [_], _, _ => rfl⟩⟩
      · unfold spRep
        rw [eP]
        exact (okRP _).mono (by decide)
      · unfold spRep
        rw [eP]
        exact ok_callPlain FKP ClCP MRP ((okRP _).mono (by decide)) bRP
    · refine ⟨ClCO, ⟨fRO, _, _, ⟨aRO, nRO, kRO⟩, ?_, bRO, FCRO.kbn 1 ["row"] (fun us ws => us ++ ws) (fun vs zs => vs ++ zs) (fun r rz => r.append rz) fun _ _ _ _ _ _ _ us ws h1 h2 => match us, ws, h1, h2 with | [_], [_], _, _ => rfl⟩, ⟨fKO, _, _, ⟨aKO, nKO, fiKO⟩, ?_, bKO, Fun.kbn FKO 1 ["row"] (fun us ws => us ++ ws) (fun vs zs => vs ++ zs) (fun r rz => r.append rz) fun _ _ _ _ _ _ us ws h1 h2 => match us, ws, h1, h2 with | [_], [_], _, _ => rfl⟩⟩
      · unfold spRep
        rw [eO]
        exact okRO
      · unfold spRep
        rw [eO]
        exact ok_callOdd FKO ClCO ⟨aRO, nRO, kRO⟩ okRO bRO
  exact ok_law F14 S TR D4 D5 D6 D10 D11 D8 D13 D7 RF hne m_CP mkP okP6 bcCP (.inl rfl) bIP dIP kbP1 m_CO mkO okOd bcCO rfl bIO dIO kbO1
end
theorem walk {l : PySem.W.OpenLaw} {q : Program} {loose : List Str} {XP : (Str → Option Value) → Heap → Prop} {YP : World → Heap → Prop} {d : DefRec} {K : Params → PySem.W.Frag} (hn : l.most = some 63) (hdf : d.params.defaults = [])
    (hY : ∀ (w : World) (h : Heap), YP w h → (K w.params).In h)
    (F : ∀ (w : World) (mg : Str → Option Value) (fa : Addr) (h : Heap), (K w.params).In h → h.Ns mainGlobals mg → mg d.name = some (.ref fa) →
      ∃ fd : FuncData, (∀ (s : Shared) (u : Value), BindsTo s fd ⟨[u], []⟩ [("_law_script", u)]) ∧ ∀ base : Heap, (K w.params).In base → base.Ns mainGlobals mg → FnOk l.prog w (K w.params) mg base CX0 9 fa fd ["_law_script"] (spLaw (K w.params))) :
    PySem.W.WalkO q loose XP YP l.row.toRowW d [] (fun f vs => PySem.call f vs) :=
  L2.walk_of (n := 63) (k := 9) (x := "_law_script") (CX := fun _ => CX0) (sp := fun w => spLaw (K w.params)) hn (by decide) hdf ⟨rfl, by decide, by decide⟩ hY F (fun _ _ a ns hl _ hS => ⟨a, ns, rfl, hS, hl, fun _ => rfl⟩) fun _ _ _ _ _ z => z
end Un
open PySem PySem.W PyProof.Rows
set_option maxRecDepth 100000 in
set_option maxHeartbeats 0 in
theorem PySem.Challenge.cw_unopened_k18_plain_and_odd_boxes_holds : PySem.Challenge.rw_unopened_k18_plain_and_odd_boxes.Holds := by
  w_on; o_law; k_head; (case hw => w_witness2)
  k_fill
  refine Un.walk (l := PySem.Challenge.rw_unopened_k18_plain_and_odd_boxes) rfl rfl (fun w h Y => PySem.W.kIn_of Y) ?F
  case F =>
    intro w mg fa h KX G hmg
    refine' Un.all_mk KX G hmg ?any_ ?top_ ?a1 ?l1 ?c1 ?k1 ?a2 ?l2 ?c2 ?k2 ?a3 ?l3 ?c3 ?k3 ?a4 ?l4 ?c4 ?k4 ?a5 ?l5 ?c5 ?k5 ?a6 ?l6 ?c6 ?k6 ?a7 ?l7 ?c7 ?k7 ?a8 ?l8 ?c8 ?k8 ?a9 ?l9 ?c9 ?k9 ?a10 ?l10 ?c10 ?k10 ?a11 ?l11 ?c11 ?k11 ?a12 ?l12 ?c12 ?k12 ?a13 ?l13 ?c13 ?k13 ?a14 ?l14 ?c14 ?k14 ?a_CP ?pgCP ?hdCP ?poCP ?saCP ?mkCP ?kpCP ?ci_CP ?noCP_table ?noCPline ?noCPcurve ?noCPmodulus ?a_CO ?pgCO ?hdCO ?poCO ?saCO ?mkCO ?kpCO ?ci_CO ?noCO_table ?noCOline ?noCOcurve ?noCOmodulus ?kdCP ?gkCP ?kdCO ?gkCO ?suPP ?svPP ?swPP ?sxPP ?lIB ?cIB ?kIB ?tIB ?kwIB_0 ?kwIB_1 ?kwIB_2 ?aIP ?nIP ?lIP ?cIP ?kIP ?ca_IP ?vfIP ?hfIP ?cc_IP ?tIP ?kwIP_0 ?kwIP_1 ?kwIP_2 ?aIO ?nIO ?lIO ?cIO ?kIO ?ca_IO ?vfIO ?hfIO ?cc_IO ?tIO ?kwIO_0 ?kwIO_1 ?kwIO_2 ?suOP ?svOP ?swOP ?sxOP ?suOO ?svOO ?swOO ?sxOO ?aRP ?nRP ?lRP ?cRP ?kRP ?aRO ?nRO ?lRO ?cRO ?kRO ?ca_RO ?vfRO ?hfRO ?cc_RO ?suRR ?svRR ?swRR ?sxRR ?aKP ?nKP ?lKP ?cKP ?kKP ?aKO ?nKO ?lKO ?cKO ?kKO ?fiKP ?fiKO ?z_isinstance ?z_str ?z_int ?z_bool ?z_len ?z_all ?z_list ?z_tuple ?z_zip ?z_range ?z_abs ?z_dict ?z_super
    (case any_ => k_is)
    (case top_ => first | exact rfl | decide +kernel)
    (case a1 => k_is)
    (case l1 => k_is)
    (case c1 => k_is)
    (case k1 => k_is)
    (case a2 => k_is)
    (case l2 => k_is)
    (case c2 => k_is)
    (case k2 => k_is)
    (case a3 => k_is)
    (case l3 => k_is)
    (case c3 => k_is)
    (case k3 => k_is)
    (case a4 => k_is)
    (case l4 => k_is)
    (case c4 => k_is)
    (case k4 => k_is)
    (case a5 => k_is)
    (case l5 => k_is)
    (case c5 => k_is)
    (case k5 => k_is)
    (case a6 => k_is)
    (case l6 => k_is)
    (case c6 => k_is)
    (case k6 => k_is)
    (case a7 => k_is)
    (case l7 => k_is)
    (case c7 => k_is)
    (case k7 => k_is)
    (case a8 => k_is)
    (case l8 => k_is)
    (case c8 => k_is)
    (case k8 => k_is)
    (case a9 => k_is)
    (case l9 => k_is)
    (case c9 => k_is)
    (case k9 => k_is)
    (case a10 => k_is)
    (case l10 => k_is)
    (case c10 => k_is)
    (case k10 => k_is)
    (case a11 => k_is)
    (case l11 => k_is)
    (case c11 => k_is)
    (case k11 => k_is)
    (case a12 => k_is)
    (case l12 => k_is)
    (case c12 => k_is)
    (case k12 => k_is)
    (case a13 => k_is)
    (case l13 => k_is)
    (case c13 => k_is)
    (case k13 => k_is)
    (case a14 => k_is)
    (case l14 => k_is)
    (case c14 => k_is)
    (case k14 => k_is)
    (case a_CP => k_is)
    (case pgCP => k_is)
    (case hdCP => k_is)
    (case poCP => k_is)
    (case saCP => k_is)
    (case mkCP => k_is)
    (case kpCP => k_is)
    (case ci_CP => first | k_is | exact rfl | kernel_rfl)
    (case noCP_table => k_is)
    (case noCPline => k_is)
    (case noCPcurve => k_is)
    (case noCPmodulus => k_is)
    (case a_CO => k_is)
    (case pgCO => k_is)
    (case hdCO => k_is)
    (case poCO => k_is)
    (case saCO => k_is)
    (case mkCO => k_is)
    (case kpCO => k_is)
    (case ci_CO => first | k_is | exact rfl | kernel_rfl)
    (case noCO_table => k_is)
    (case noCOline => k_is)
    (case noCOcurve => k_is)
    (case noCOmodulus => k_is)
    (case kdCP => k_is)
    (case gkCP => k_is)
    (case kdCO => k_is)
    (case gkCO => k_is)
    (case suPP => k_is)
    (case svPP => first | k_is | ks_is | exact rfl | kernel_rfl)
    (case swPP => k_is)
    (case sxPP => k_is)
    (case lIB => k_is)
    (case cIB => k_is)
    (case kIB => k_is)
    (case tIB => k_is)
    (case kwIB_0 => k_is)
    (case kwIB_1 => k_is)
    (case kwIB_2 => k_is)
    (case aIP => k_is)
    (case nIP => k_is)
    (case lIP => k_is)
    (case cIP => k_is)
    (case kIP => k_is)
    (case ca_IP => k_is)
    (case vfIP => exact rfl)
    (case hfIP => first | exact rfl | decide +kernel)
    (case cc_IP => k_is)
    (case tIP => k_is)
    (case kwIP_0 => k_is)
    (case kwIP_1 => k_is)
    (case kwIP_2 => k_is)
    (case aIO => k_is)
    (case nIO => k_is)
    (case lIO => k_is)
    (case cIO => k_is)
    (case kIO => k_is)
    (case ca_IO => k_is)
    (case vfIO => exact rfl)
    (case hfIO => first | exact rfl | decide +kernel)
    (case cc_IO => k_is)
    (case tIO => k_is)
    (case kwIO_0 => k_is)
    (case kwIO_1 => k_is)
    (case kwIO_2 => k_is)
    (case suOP => k_is)
    (case svOP => first | k_is | ks_is | exact rfl | kernel_rfl)
    (case swOP => k_is)
    (case sxOP => k_is)
    (case suOO => k_is)
    (case svOO => first | k_is | ks_is | exact rfl | kernel_rfl)
    (case swOO => k_is)
    (case sxOO => k_is)
    (case aRP => k_is)
    (case nRP => k_is)
    (case lRP => k_is)
    (case cRP => k_is)
    (case kRP => k_is)
    (case aRO => k_is)
    (case nRO => k_is)
    (case lRO => k_is)
    (case cRO => k_is)
    (case kRO => k_is)
    (case ca_RO => k_is)
    (case vfRO => exact rfl)
    (case hfRO => first | exact rfl | decide +kernel)
    (case cc_RO => k_is)
    (case suRR => k_is)
    (case svRR => first | k_is | ks_is | exact rfl | kernel_rfl)
    (case swRR => k_is)
    (case sxRR => k_is)
    (case aKP => k_is)
    (case nKP => k_is)
    (case lKP => k_is)
    (case cKP => k_is)
    (case kKP => k_is)
    (case aKO => k_is)
    (case nKO => k_is)
    (case lKO => k_is)
    (case cKO => k_is)
    (case kKO => k_is)
    (case fiKP => k_is)
    (case fiKO => k_is)
    (case z_isinstance => k_is)
    (case z_str => k_is)
    (case z_int => k_is)
    (case z_bool => k_is)
    (case z_len => k_is)
    (case z_all => k_is)
    (case z_list => k_is)
    (case z_tuple => k_is)
    (case z_zip => k_is)
    (case z_range => k_is)
    (case z_abs => k_is)
    (case z_dict => k_is)
    (case z_super => k_is)
